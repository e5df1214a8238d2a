/- The contracts of the two closures of mode.Letters: each puts the letters that the plain mirror says behind those that are there. Conditions: few letters are there; the captured variables lie in blocks of their own. -/
import Derived.Test.YtdoccakkjgcbjaaH
import Derived.Laws.EntriesVeiled
import Derived.OneCell
import Derived.OwnWalk
namespace Go.Proofs.Ytdoccakkjgcbjaa
open Go.RowKit Go.PlainAid
set_option linter.unusedSimpArgs false

/-- What the closures share: m, the letters so far, and put itself. -/
structure LInv (B bm bs bp : Nat) (m : Int) (xs : List Int) (v : Value) (w : World) : Prop where
  hm : w.heap[bm]? = some (.cells #[.int .i64 m] 3 (0, 0))
  hs : w.heap[bs]? = some (.cells #[v] 39 (0, 0))
  hp : w.heap[bp]? = some (.cells #[.func (.func 20) #[] #[.pointer (some ⟨bm, 0, none⟩), .pointer (some ⟨bs, 0, none⟩)]] 40 (0, 0))
  own : w.ownsRow B 5 1 v xs.length (xs.map (Value.int .u8))
  bs1 : B ≤ bs

theorem LInv.row {B bm bs bp : Nat} {m : Int} {xs : List Int} {v : Value} {w : World} (h : LInv B bm bs bp m xs v w) {b : Nat} {u : Value} {t : TypeId} (hb : w.heap[b]? = some (.cells #[u] t (0, 0))) (ht : t ≠ 5) : some b ≠ v.ownBlock := by
  intro e
  rcases h.own.2 with ⟨rfl, _⟩ | ⟨g, cap, cur, rfl, _, hg, _⟩
  · simp [Value.ownBlock] at e
  · simp [Value.ownBlock] at e
    subst e
    rw [hg] at hb
    simp at hb
    exact ht hb.2.symm

theorem LInv.push {B bm bs bp : Nat} {m : Int} {xs : List Int} {v : Value} {w : World} (h : LInv B bm bs bp m xs v w) (c : Int) {o : Obj} {w1 : World} {v' : Value} (hB : B ≤ w.heap.size)
    (hown : w1.ownsRow B 5 1 v' (xs.length + 1) (xs.map (Value.int .u8) ++ [.int .u8 c])) (hg : (w.alloc o).grownBy w1 v.ownBlock) :
    LInv B bm bs bp m (xs ++ [c]) v' (w1.setCell ⟨bs, 0, none⟩ v') ∧ Below B w (w1.setCell ⟨bs, 0, none⟩ v') := by
  have keep : ∀ {b : Nat} {u : Value} {t : TypeId}, w.heap[b]? = some (.cells #[u] t (0, 0)) → t ≠ 5 → w1.heap[b]? = some (.cells #[u] t (0, 0)) := by
    intro b u t hb ht
    have hlt := lt_of_block hb
    rw [hg.block b (by simp; omega) (h.row hb ht), Below.heap_alloc w o b hlt]
    exact hb
  have k1 := keep h.hm (by decide)
  have k2 := keep h.hs (by decide)
  have k3 := keep h.hp (by decide)
  have ne1 : bm ≠ bs := by intro e; have := h.hm; rw [e, h.hs] at this; simp at this
  have ne2 : bp ≠ bs := by intro e; have := h.hp; rw [e, h.hs] at this; simp at this
  have ne3 : v'.ownBlock ≠ some bs := by
    intro e
    rcases hown.2 with ⟨rfl, _⟩ | ⟨g, cap, cur, rfl, _, hgg, _⟩
    · simp [Value.ownBlock] at e
    · simp [Value.ownBlock] at e
      subst e
      rw [hgg] at k2
      simp at k2
  refine ⟨⟨?_, one_setCell k2, ?_, ?_, h.bs1⟩, ?_⟩
  · rw [Below.heap_setCell _ _ _ _ ne1]; exact k1
  · rw [Below.heap_setCell _ _ _ _ ne2]; exact k3
  · have := ownsRow_setCell_other hown (a := ⟨bs, 0, none⟩) ne3 v'
    simpa using this
  · have b1 : Below B w w1 := ((Below.refl B w).alloc hB o).grown hg (by simp; omega) (fun k hk => (h.own.lt k hk).1)
    exact b1.setCell h.bs1 v'

theorem LInv.slot {B bm bs bp : Nat} {m : Int} {xs : List Int} {v : Value} {w : World} (h : LInv B bm bs bp m xs v w) {o : Obj} {w1 : World} (hg : (w.alloc o).grownBy w1 v.ownBlock) :
    w1.cell? ⟨bs, 0, none⟩ = some v ∧ w1.frozen? ⟨bs, 0, none⟩ = false := by
  have hlt := lt_of_block h.hs
  have k : w1.heap[bs]? = some (.cells #[v] 39 (0, 0)) := by
    rw [hg.block bs (by simp; omega) (h.row h.hs (by decide)), Below.heap_alloc w o bs hlt]
    exact h.hs
  exact ⟨cell_of_one k, free_of_one k⟩

theorem Try.info5 : (Try.prog.info? 5).map (fun i => (i.zero, i.size, i.bytes)) = some (some (.int .u8 0), 1, 1) := by kernel_rfl

theorem slice_shape {w : World} {base : Nat} {e : TypeId} {size : Nat} {v : Value} {n : Nat} {xs : List Value} (h : w.ownsRow base e size v n xs) : ∃ a l c, v = .slice a l c := by
  rcases h.2 with ⟨rfl, _⟩ | ⟨g, cap, cur, rfl, _⟩
  · exact ⟨_, _, _, rfl⟩
  · exact ⟨_, _, _, rfl⟩

/-- The letter that put puts. -/
def putL (m bit letter : Int) : Int := if (bits .and .i64 m bit == 0) = true then 45 else letter

def After (B bm bs bp : Nat) (m : Int) (xs : List Int) (w : World) (e : Ending) (w' : World) : Prop := e = .returned (.tuple #[]) ∧ ∃ v, LInv B bm bs bp m xs v w' ∧ Below B w w'

set_option maxHeartbeats 2000000 in
set_option maxRecDepth 100000 in
theorem put20 (B bm bs bp : Nat) (m bit letter : Int) (xs : List Int) (v : Value) (w : World) (h : LInv B bm bs bp m xs v w) (hB : B ≤ w.heap.size) (hx : xs.length ≤ 1000) :
    Calls Try.prog 20 #[.int .i64 bit, .int .u8 letter, .pointer (some ⟨bm, 0, none⟩), .pointer (some ⟨bs, 0, none⟩)] w (After B bm bs bp m (xs ++ [putL m bit letter]) w) := by
  obtain ⟨i0, hi, hz0, hz1, hz2⟩ := info_parts Try.info5
  have cm := cell_of_one h.hm
  have cs := cell_of_one h.hs
  have fs := free_of_one h.hs
  have H := Lib.hid h
  have HOWN := Lib.hid h.own
  obtain ⟨a, l, c, hv⟩ := slice_shape h.own
  clear h
  subst hv
  cases hc : bits .and .i64 m bit == 0
  · have HP : Hid (putL m bit letter = letter) := by unfold putL; rw [hc]; rfl
    go_enter Try.func20, Try.ntmps20
    go_wp2_with (at_builtin; refine wpList_append_own _ rfl _ _ 39 rfl B 5 i0 (.int .u8 0) 1 1 Try.underlying39 hi hz0 hz1 hz2 rfl (by decide) _ _ _ rfl (HOWN.out.alloc _) ⟨w.heap.size, 0, none⟩ 1 1 [.int .u8 letter] rfl rfl ?ca1 ?ca2 ?ca3 ?ca4 ?ca5 ?_)
    case ca1 =>
      intro j u hj
      match j, hj with
      | 0, hj => simp at hj; subst hj; simp [Addr.add]
    case ca2 => intro u hu; simp at hu; subst hu; rfl
    case ca3 => unfold maxLen; omega
    case ca4 => omega
    case ca5 => simp; omega
    · intro v' w1 hown' hgrow _
      obtain ⟨a', l', c', hv'⟩ := slice_shape hown'
      subst hv'
      obtain ⟨hc1, hf1⟩ := H.out.slot hgrow
      have P := Lib.hid (H.out.push letter hB hown' hgrow)
      clear hown' hgrow cm cs fs
      go_wp2
      go_end0
      rw [HP.out]
      exact ⟨rfl, _, P.out⟩
  · have HP : Hid (putL m bit letter = 45) := by unfold putL; rw [hc]; rfl
    go_enter Try.func20, Try.ntmps20
    go_wp2_with (at_builtin; refine wpList_append_own _ rfl _ _ 39 rfl B 5 i0 (.int .u8 0) 1 1 Try.underlying39 hi hz0 hz1 hz2 rfl (by decide) _ _ _ rfl (HOWN.out.alloc _) ⟨w.heap.size, 0, none⟩ 1 1 [.int .u8 45] rfl rfl ?cb1 ?cb2 ?cb3 ?cb4 ?cb5 ?_)
    case cb1 =>
      intro j u hj
      match j, hj with
      | 0, hj => simp at hj; subst hj; simp [Addr.add]
    case cb2 => intro u hu; simp at hu; subst hu; rfl
    case cb3 => unfold maxLen; omega
    case cb4 => omega
    case cb5 => simp; omega
    · intro v' w1 hown' hgrow _
      obtain ⟨a', l', c', hv'⟩ := slice_shape hown'
      subst hv'
      obtain ⟨hc1, hf1⟩ := H.out.slot hgrow
      have P := Lib.hid (H.out.push 45 hB hown' hgrow)
      clear hown' hgrow cm cs fs
      go_wp2
      go_end0
      rw [HP.out]
      exact ⟨rfl, _, P.out⟩

/-- What putThree puts. -/
def threeL (m who beside both alone : Int) : List Int :=
  [putL m (bits .and .i64 who 292) 114, putL m (bits .and .i64 who 146) 119,
   if (bits .and .i64 m beside == 0) = true then putL m (bits .and .i64 who 73) 120 else
   if (bits .and .i64 (bits .and .i64 m who) 73 != 0) = true then putL m beside both else putL m beside alone]

theorem put20_any (B bm bs bp : Nat) (m bit letter : Int) (xs : List Int) (w0 w : World) (h : ∃ v, LInv B bm bs bp m xs v w ∧ Below B w0 w) (hB : B ≤ w0.heap.size) (hx : xs.length ≤ 1000) :
    Calls Try.prog 20 #[.int .i64 bit, .int .u8 letter, .pointer (some ⟨bm, 0, none⟩), .pointer (some ⟨bs, 0, none⟩)] w (After B bm bs bp m (xs ++ [putL m bit letter]) w0) := by
  obtain ⟨v, h, hb⟩ := h
  refine (put20 B bm bs bp m bit letter xs v w h (Nat.le_trans hB hb.size) hx).mono fun e w' ⟨he, v', h1, h2⟩ => ⟨he, v', h1, hb.trans h2⟩

theorem LInv.cells {B bm bs bp : Nat} {m : Int} {xs : List Int} {v : Value} {w : World} (h : LInv B bm bs bp m xs v w) :
    w.cell? ⟨bm, 0, none⟩ = some (.int .i64 m) ∧ w.cell? ⟨bp, 0, none⟩ = some (.func (.func 20) #[] #[.pointer (some ⟨bm, 0, none⟩), .pointer (some ⟨bs, 0, none⟩)]) := ⟨cell_of_one h.hm, cell_of_one h.hp⟩

set_option maxHeartbeats 2000000 in
set_option maxRecDepth 100000 in
theorem three21 (B bm bs bp : Nat) (m who beside both alone : Int) (xs : List Int) (v : Value) (w : World) (h : LInv B bm bs bp m xs v w) (hB : B ≤ w.heap.size) (hx : xs.length ≤ 100) :
    Calls Try.prog 21 #[.int .i64 who, .int .i64 beside, .int .u8 both, .int .u8 alone, .pointer (some ⟨bp, 0, none⟩), .pointer (some ⟨bm, 0, none⟩)] w (After B bm bs bp m (xs ++ threeL m who beside both alone) w) := by
  obtain ⟨cm, cp⟩ := h.cells
  have H := Lib.hid h
  clear h
  go_enter Try.func21, Try.ntmps21
  go_wp2_with fail
  refine (put20_any B bm bs bp m _ _ xs w _ ⟨v, H.out, Below.refl _ _⟩ hB (by omega)).mono ?_
  rintro e w1 ⟨rfl, v1, h1, b1⟩
  obtain ⟨cm1, cp1⟩ := h1.cells
  have H1 := Lib.hid (And.intro h1 b1)
  clear h1 b1 cm cp
  go_wp2_with fail
  refine (put20_any B bm bs bp m _ _ _ w _ ⟨v1, H1.out⟩ hB (by simp; omega)).mono ?_
  rintro e w2 ⟨rfl, v2, h2, b2⟩
  obtain ⟨cm2, cp2⟩ := h2.cells
  have H2 := Lib.hid (And.intro h2 b2)
  clear h2 b2 cm1 cp1
  go_wp2_with fail
  all_goals
    refine (put20_any B bm bs bp m _ _ _ w _ ⟨v2, H2.out⟩ hB (by simp; omega)).mono ?_
    rintro e w3 ⟨rfl, v3, h3, b3⟩
    have H3 := Lib.hid (And.intro h3 b3)
    clear h3 b3 cm2 cp2
    go_wp2_with fail
    go_end0
    refine ⟨rfl, v3, ?_, H3.out.2⟩
    have h3 := H3.out.1
    go_light
    simp only [threeL, *, if_true, Bool.false_eq_true, if_false]
    simpa [List.append_assoc] using h3

theorem three21_any (B bm bs bp : Nat) (m who beside both alone : Int) (xs : List Int) (w0 w : World) (h : ∃ v, LInv B bm bs bp m xs v w ∧ Below B w0 w) (hB : B ≤ w0.heap.size) (hx : xs.length ≤ 100) :
    Calls Try.prog 21 #[.int .i64 who, .int .i64 beside, .int .u8 both, .int .u8 alone, .pointer (some ⟨bp, 0, none⟩), .pointer (some ⟨bm, 0, none⟩)] w (After B bm bs bp m (xs ++ threeL m who beside both alone) w0) := by
  obtain ⟨v, h, hb⟩ := h
  refine (three21 B bm bs bp m who beside both alone xs v w h (Nat.le_trans hB hb.size) hx).mono fun e w' ⟨he, v', h1, h2⟩ => ⟨he, v', h1, hb.trans h2⟩

/-- The ten letters. -/
def lettersL (kind m : Int) : List Int := [kind] ++ threeL m 448 2048 115 83 ++ threeL m 56 1024 115 83 ++ threeL m 7 512 116 84
theorem three_len (m who beside both alone : Int) : (threeL m who beside both alone).length = 3 := rfl

theorem own_string {w : World} {B : Nat} {v : Value} {xs : List Int} (h : w.ownsRow B 5 1 v xs.length (xs.map (Value.int .u8))) (hx : xs ≠ []) : ∃ g c, v = .slice (some ⟨g, 0, none⟩) xs.length c ∧ (convert 39 9 (.slice (some ⟨g, 0, none⟩) xs.length c)).run Try.prog w = .ok (.string (strOfNums xs)) w := by
  have hc := fun g hg => h.cells (g := g) hg
  rcases h.2 with ⟨_, h0⟩ | ⟨g, cap, cur, rfl, _, _⟩
  · exact absurd (List.length_eq_zero_iff.1 h0) hx
  · refine ⟨g, cap, rfl, ?_⟩
    refine run_convert_bytes_arg _ 39 5 Try.underlying39 Try.underlying5 g 0 xs.length cap xs rfl ?_ 9 Try.underlying9
    intro i hi
    have := hc g rfl i (.int .u8 (xs.getD i 0)) (by simp [List.getElem?_map, List.getElem?_eq_getElem hi])
    rw [show (⟨g, 0 + i, none⟩ : Addr) = (⟨g, 0, none⟩ : Addr).add i by unfold Addr.add; split <;> simp_all]
    exact this

theorem start12 (kind m : Int) (w : World) : LInv w.heap.size w.heap.size (w.heap.size + 1 + 1) (w.heap.size + 1 + 1 + 1) m [kind] (.slice (some ⟨w.heap.size + 1, 0, none⟩) 1 1)
    ((((w.alloc (.cells #[.int .i64 m] 3)).alloc (.cells #[.int .u8 kind] 5)).alloc (.cells #[.slice (some ⟨w.heap.size + 1, 0, none⟩) 1 1] 39)).alloc (.cells #[.func (.func 20) #[] #[.pointer (some ⟨w.heap.size, 0, none⟩), .pointer (some ⟨w.heap.size + 1 + 1, 0, none⟩)]] 40)) := by
  have s0 : ∀ o, (w.alloc o).heap.size = w.heap.size + 1 := fun o => by simp
  refine ⟨?_, ?_, ?_, ⟨rfl, .inr ⟨w.heap.size + 1, 1, #[.int .u8 kind], rfl, by omega, ?_, Nat.le_refl _, by decide, rfl, rfl⟩⟩, by omega⟩
  · rw [Below.heap_alloc _ _ _ (by simp; omega), Below.heap_alloc _ _ _ (by simp; omega), Below.heap_alloc _ _ _ (by simp)]
    exact heap_alloc_new w _
  · rw [Below.heap_alloc _ _ _ (by simp)]
    have := heap_alloc_new ((w.alloc (.cells #[.int .i64 m] 3)).alloc (.cells #[.int .u8 kind] 5)) (.cells #[.slice (some ⟨w.heap.size + 1, 0, none⟩) 1 1] 39)
    simpa using this
  · have := heap_alloc_new (((w.alloc (.cells #[.int .i64 m] 3)).alloc (.cells #[.int .u8 kind] 5)).alloc (.cells #[.slice (some ⟨w.heap.size + 1, 0, none⟩) 1 1] 39)) (.cells #[.func (.func 20) #[] #[.pointer (some ⟨w.heap.size, 0, none⟩), .pointer (some ⟨w.heap.size + 1 + 1, 0, none⟩)]] 40)
    simpa using this
  · rw [Below.heap_alloc _ _ _ (by simp), Below.heap_alloc _ _ _ (by simp)]
    have := heap_alloc_new (w.alloc (.cells #[.int .i64 m] 3)) (.cells #[.int .u8 kind] 5)
    simpa using this

set_option maxHeartbeats 2000000 in
set_option maxRecDepth 100000 in
theorem letters12 (kind m : Int) (w : World) : Calls Try.prog 12 #[.int .u8 kind, .int .i64 m] w fun e w' => e = .returned (.string (strOfNums (lettersL kind m))) ∧ Below w.heap.size w w' := by
  have HS := Lib.hid (start12 kind m w)
  have hbel : Below w.heap.size w ((((w.alloc (.cells #[.int .i64 m] 3)).alloc (.cells #[.int .u8 kind] 5)).alloc (.cells #[.slice (some ⟨w.heap.size + 1, 0, none⟩) 1 1] 39)).alloc (.cells #[.func (.func 20) #[] #[.pointer (some ⟨w.heap.size, 0, none⟩), .pointer (some ⟨w.heap.size + 1 + 1, 0, none⟩)]] 40)) :=
    ((((Below.refl _ _).alloc (Nat.le_refl _) _).alloc (by simp) _).alloc (by simp; omega) _).alloc (by simp; omega) _
  have HB := Lib.hid hbel
  clear hbel
  go_enter Try.func12, Try.ntmps12
  go_wp2_with fail
  refine (three21_any w.heap.size w.heap.size (w.heap.size + 1 + 1) (w.heap.size + 1 + 1 + 1) m _ _ _ _ [kind] w _ ⟨_, HS.out, HB.out⟩ (Nat.le_refl _) (by simp)).mono ?_
  rintro e w1 ⟨rfl, v1, h1, b1⟩
  have H1 := Lib.hid (And.intro h1 b1)
  clear h1 b1
  go_wp2_with fail
  refine (three21_any w.heap.size w.heap.size (w.heap.size + 1 + 1) (w.heap.size + 1 + 1 + 1) m _ _ _ _ _ w _ ⟨_, H1.out⟩ (Nat.le_refl _) (by simp [three_len])).mono ?_
  rintro e w2 ⟨rfl, v2, h2, b2⟩
  have H2 := Lib.hid (And.intro h2 b2)
  clear h2 b2
  go_wp2_with fail
  refine (three21_any w.heap.size w.heap.size (w.heap.size + 1 + 1) (w.heap.size + 1 + 1 + 1) m _ _ _ _ _ w _ ⟨_, H2.out⟩ (Nat.le_refl _) (by simp [three_len])).mono ?_
  rintro e w3 ⟨rfl, v3, h3, b3⟩
  have HX : Hid (([kind] ++ threeL m 448 2048 115 83 ++ threeL m 56 1024 115 83 ++ threeL m 7 512 116 84) = lettersL kind m) := rfl
  rw [HX.out] at h3
  obtain ⟨g, c, hv, hcv⟩ := own_string h3.own (by unfold lettersL; simp)
  subst hv
  have cs := cell_of_one h3.hs
  have H3 := Lib.hid b3
  clear h3 b3
  go_wp2_with fail
  go_ret
  exact ⟨rfl, H3.out⟩
end Go.Proofs.Ytdoccakkjgcbjaa
