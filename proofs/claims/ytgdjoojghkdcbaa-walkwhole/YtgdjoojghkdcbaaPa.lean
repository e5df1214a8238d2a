/- path: Right, Absolute, Parts, Join, ours and the document's. Condition: texts of at most 10000 bytes. -/
import Derived.Test.YtgdjoojghkdcbaaVd
namespace Go.Proofs.Ytgdjoojghkdcbaa.Pth
open Go.RowKit Go.PlainAid
set_option linter.unusedSimpArgs false

theorem ext_size (s : ByteArray) (a b : Nat) : (s.extract a b).size = min b s.size - a := ByteArray.size_extract
theorem ext_bt (s : ByteArray) (a b k : Nat) (h : k < min b s.size - a) : bt (s.extract a b) k = bt s (a + k) := by
  unfold bt
  rw [dif_pos (by rw [ext_size]; exact h), dif_pos (by omega), ByteArray.getElem_extract]
theorem ba_ext {s t : ByteArray} (h : s.size = t.size) (g : ∀ k, k < s.size → bt s k = bt t k) : s = t := by
  apply ByteArray.ext_getElem h
  intro i h1 h2
  have := g i h1
  rw [← get_bt s i h1, ← get_bt t i h2] at this
  apply UInt8.toNat_inj.1
  exact Int.ofNat.inj this
theorem ext_ext (s : ByteArray) (n m : Nat) (h : m ≤ n) : (s.extract 0 n).extract 0 m = s.extract 0 m := by
  refine ba_ext (by simp only [ext_size]; omega) fun k hk => ?_
  simp only [ext_size] at hk
  rw [ext_bt _ _ _ _ (by rw [ext_size]; omega), ext_bt _ _ _ _ (by omega), ext_bt _ _ _ _ (by omega), Nat.zero_add]
theorem ext_all (s : ByteArray) : s.extract 0 s.size = s :=
  ba_ext (by simp only [ext_size]; omega) fun k hk => by simp only [ext_size] at hk; rw [ext_bt _ _ _ _ (by omega), Nat.zero_add]


def absB (s : ByteArray) : Bool := decide (0 < s.size) && (bt s 0 == 47)

def pathB (s : ByteArray) : Bool := decide (1 ≤ s.size ∧ s.size ≤ 4095) && !hasB s 0

set_option maxHeartbeats 1000000 in
set_option maxRecDepth 100000 in
theorem right10 (s : ByteArray) (w : World) (hs : s.size ≤ maxLen) : Calls Try.prog 50 #[.string s] w fun e w' => e = .returned (.bool (pathB s)) ∧ w = w' := by
  unfold maxLen at hs
  have c0 := fun w => has32_0 s w
  have HN : Hid (pathB s = (decide (1 ≤ s.size ∧ s.size ≤ 4095) && !hasB s 0)) := rfl
  generalize pathB s = r at HN ⊢
  generalize hasB s 0 = b0 at c0 HN
  have C0 := Lib.hid c0
  clear c0
  by_cases h0 : s.size = 0
  · have he := toList_em h0
    have hk : r = false := by rw [HN.out, decide_eq_false (by omega)]; rfl
    have HK := Lib.hid hk
    clear HN hk h0
    go_enter Try.func50, Try.ntmps50
    go_wp2
    go_ret
    rw [HK.out]
    exact ⟨rfl, rfl⟩
  have he := toList_ne h0
  by_cases h1 : 4095 < s.size
  · have hk : r = false := by rw [HN.out, decide_eq_false (by omega)]; rfl
    have HK := Lib.hid hk
    clear HN hk
    go_enter Try.func50, Try.ntmps50
    go_wp2
    go_ret
    rw [HK.out]
    exact ⟨rfl, rfl⟩
  have hk : r = !b0 := by rw [HN.out, decide_eq_true (by omega)]; simp
  subst hk
  clear HN
  go_enter Try.func50, Try.ntmps50
  go_wp2_with (go_at_call 78; refine (C0.out _).mono ?_; rintro e w' ⟨rfl, rfl⟩)
  go_ret
  exact ⟨rfl, rfl⟩


set_option maxHeartbeats 1000000 in
set_option maxRecDepth 100000 in
theorem abs14 (s : ByteArray) (w : World) : Calls Try.prog 51 #[.string s] w fun e w' => e = .returned (.bool (absB s)) ∧ w = w' := by
  have hb := get_bt s
  by_cases h0 : s.size = 0
  · have he := toList_em h0
    have hk : absB s = false := by unfold absB; rw [decide_eq_false (by omega)]; rfl
    rw [hk]
    clear hk h0
    go_enter Try.func51, Try.ntmps51
    go_wp2
    go_ret
    exact ⟨rfl, rfl⟩
  · have he := toList_ne h0
    have hk : absB s = (bt s 0 == 47) := by unfold absB; rw [decide_eq_true (by omega)]; rfl
    rw [hk]
    have h1 : 0 < s.size := by omega
    clear hk h0
    go_enter Try.func51, Try.ntmps51
    go_wp2
    go_ret
    exact ⟨rfl, rfl⟩

/-- The pieces behind a place, n bytes ahead of the end, of which the first begins at b. -/
def pcsF (s : ByteArray) : Nat → Nat → List ByteArray
  | 0, b => [s.extract b s.size]
  | n + 1, b => if (bt s (s.size - (n + 1)) == 47) = true then s.extract b (s.size - (n + 1)) :: pcsF s n (s.size - n) else pcsF s n b
def pcs (s : ByteArray) : List ByteArray := pcsF s s.size 0
theorem pcsF_end (s : ByteArray) (k b : Nat) (h : k = s.size) : pcsF s (s.size - k) b = [s.extract b s.size] := by subst h; rw [Nat.sub_self]; rfl
theorem pcsF_hit (s : ByteArray) (k b : Nat) (h : k < s.size) (hc : (bt s k == 47) = true) : pcsF s (s.size - k) b = s.extract b k :: pcsF s (s.size - (k + 1)) (k + 1) := by
  obtain ⟨n, hn⟩ : ∃ n, s.size - k = n + 1 := ⟨s.size - k - 1, by omega⟩
  rw [hn, pcsF, show s.size - (n + 1) = k by omega, if_pos hc, show s.size - n = k + 1 by omega, show s.size - (k + 1) = n by omega]
theorem pcsF_miss (s : ByteArray) (k b : Nat) (h : k < s.size) (hc : (bt s k == 47) = false) : pcsF s (s.size - k) b = pcsF s (s.size - (k + 1)) b := by
  obtain ⟨n, hn⟩ : ∃ n, s.size - k = n + 1 := ⟨s.size - k - 1, by omega⟩
  rw [hn, pcsF, show s.size - (n + 1) = k by omega, hc, if_neg (by decide), show s.size - (k + 1) = n by omega]

/-- A list of texts as values. -/
def strs (l : List ByteArray) : List Value := l.map Value.string
theorem strs_len (l : List ByteArray) : (strs l).length = l.length := List.length_map _
theorem strs_snoc (l : List ByteArray) (x : ByteArray) : strs l ++ [.string x] = strs (l ++ [x]) := by simp [strs]

/-- v is a list of just these texts, in memory of the call's own. -/
def OwnsL (B : Nat) (v : Value) (l : List ByteArray) (w : World) : Prop := w.ownsRow B 9 1 v l.length (strs l)
/-- The call returns a list of just these texts. -/
def GivesL (w : World) (l : List ByteArray) (e : Ending) (w' : World) : Prop := ∃ v, e = .returned v ∧ OwnsL w.heap.size v l w' ∧ Below w.heap.size w w'

theorem Try.info9 : (Try.prog.info? 9).map (fun i => (i.zero, i.size, i.bytes)) = some (some (.string ⟨#[]⟩), 1, 16) := by kernel_rfl
theorem new_one (w : World) (x : ByteArray) : ∀ j u, [Value.string x][j]? = some u → (w.alloc (.cells #[.string x] 9)).cell? ((⟨w.heap.size, 0, none⟩ : Addr).add j) = some u := by
  intro j u hj
  match j, hj with
  | 0, hj => simp at hj; subst hj; simp [Addr.add]
theorem own_push {w wr w1 : World} {acc : List ByteArray} {v v' : Value} {x : ByteArray} {o : Obj} (h0 : OwnsL w.heap.size v acc wr) (hb : Below w.heap.size w wr)
    (hown : w1.ownsRow w.heap.size 9 1 v' (acc.length + 1) (strs acc ++ [.string x])) (hg : (wr.alloc o).grownBy w1 v.ownBlock) :
    OwnsL w.heap.size v' (acc ++ [x]) w1 ∧ Below w.heap.size w w1 := by
  refine ⟨?_, (hb.alloc hb.size o).grown hg (by simp; have := hb.size; omega) (fun j hj => (World.ownsRow.lt h0 j hj).1)⟩
  unfold OwnsL
  rw [List.length_append, ← strs_snoc]
  exact hown
theorem own_nil (w : World) : OwnsL w.heap.size (.slice none 0 0) [] w := ⟨rfl, .inl ⟨rfl, rfl⟩⟩

def Rel29 (w : World) (s : ByteArray) (v b i : Value) (wr : World) : Prop :=
  ∃ (k bg : Nat) (acc : List ByteArray), k ≤ s.size ∧ bg ≤ k ∧ i = .int .i64 k ∧ b = .int .i64 bg ∧ acc.length ≤ k ∧ OwnsL w.heap.size v acc wr ∧ Below w.heap.size w wr ∧ acc ++ pcsF s (s.size - k) bg = pcs s

theorem slice_shape {w : World} {base : Nat} {e : TypeId} {size : Nat} {v : Value} {n : Nat} {xs : List Value} (h : w.ownsRow base e size v n xs) : ∃ a l c, v = .slice a l c := by
  rcases h.2 with ⟨rfl, _⟩ | ⟨g, cap, cur, rfl, _⟩
  · exact ⟨_, _, _, rfl⟩
  · exact ⟨_, _, _, rfl⟩

set_option maxHeartbeats 2000000 in
set_option maxRecDepth 100000 in
theorem between29 (s : ByteArray) (w : World) (hs : s.size ≤ 10000) : Calls Try.prog 79 #[.string s] w (GivesL w (pcs s)) := by
  obtain ⟨i0, hi0, hz0, hz1, hz2⟩ := info_parts Try.info9
  have hb := get_bt s
  go_enter Try.func79, Try.ntmps79
  go_wp2
  go_loopw [3, 4, 8] (Rel29 w s) (fun _ _ i _ => s.size - (intOf i).toNat)
  case atStart => exact ⟨0, 0, [], Nat.zero_le _, Nat.le_refl _, rfl, rfl, Nat.le_refl _, own_nil w, Below.refl _ _, rfl⟩
  case round =>
    obtain ⟨k, bg, acc, hk, hbg, rfl, rfl, hal, hown, hbel, hr⟩ := hrel
    have hbs := hbel.size
    have HO := Lib.hid hown
    have HL := Lib.hid hbel
    have HR := Lib.hid hr
    obtain ⟨a, l, c, rfl⟩ := slice_shape hown
    clear hown hbel hr
    by_cases hlt : k < s.size
    · cases hc : (bt s k == 47)
      · have HN := Lib.hid (pcsF_miss s k bg hlt hc)
        go_wp2
        go_roundw
        case rel => exact ⟨k + 1, bg, acc, hlt, by omega, by go_num, rfl, by omega, HO.out, HL.out, by rw [← HN.out]; exact HR.out⟩
        case measure => simp [intOf]; omega
      · have HN := Lib.hid (pcsF_hit s k bg hlt hc)
        go_wp2_with (at_builtin; refine wpList_append_own _ rfl _ _ 70 rfl w.heap.size 9 i0 (.string ⟨#[]⟩) 1 16 Try.underlying70 hi0 hz0 hz1 hz2 rfl (by decide) _ _ _ rfl (World.ownsRow.alloc HO.out _) ⟨wr.heap.size, 0, none⟩ 1 1 [.string (s.extract bg k)] rfl rfl ?c1 ?c2 ?c3 ?c4 ?c5 ?_)
        case c1 => exact new_one wr _
        case c2 => intro u hu; simp at hu; subst hu; rfl
        case c3 => unfold maxLen; omega
        case c4 => omega
        case c5 => simp; omega
        · intro v' w1 hown' hgrow _
          have P := Lib.hid (own_push HO.out HL.out hown' hgrow)
          clear hown' hgrow
          go_wp2
          go_roundw
          case rel => exact ⟨k + 1, k + 1, acc ++ [s.extract bg k], hlt, Nat.le_refl _, by go_num, by go_num, by simp; omega, P.out.1, P.out.2, by rw [List.append_assoc, List.singleton_append, ← HN.out]; exact HR.out⟩
          case measure => simp [intOf]; omega
    · obtain rfl : k = s.size := by omega
      have HN := Lib.hid (pcsF_end s s.size bg rfl)
      go_wp2_with (at_builtin; refine wpList_append_own _ rfl _ _ 70 rfl w.heap.size 9 i0 (.string ⟨#[]⟩) 1 16 Try.underlying70 hi0 hz0 hz1 hz2 rfl (by decide) _ _ _ rfl (World.ownsRow.alloc HO.out _) ⟨wr.heap.size, 0, none⟩ 1 1 [.string (s.extract bg s.size)] rfl rfl ?d1 ?d2 ?d3 ?d4 ?d5 ?_)
      case d1 => exact new_one wr _
      case d2 => intro u hu; simp at hu; subst hu; rfl
      case d3 => unfold maxLen; omega
      case d4 => omega
      case d5 => simp; omega
      · intro v' w1 hown' hgrow _
        obtain ⟨a', l', c', rfl⟩ := slice_shape hown'
        have P := Lib.hid (own_push HO.out HL.out hown' hgrow)
        clear hown' hgrow
        go_wp2
        go_ret
        exact ⟨_, rfl, by rw [← HR.out, HN.out]; exact P.out.1, P.out.2⟩

set_option maxHeartbeats 2000000 in
set_option maxRecDepth 100000 in
theorem pieces30 (s : ByteArray) (w : World) (hs : s.size ≤ 10000) : Calls Try.prog 82 #[.string s] w (GivesL w (pcs s)) := by
  obtain ⟨i0, hi0, hz0, hz1, hz2⟩ := info_parts Try.info9
  have hb := get_bt s
  go_enter Try.func82, Try.ntmps82
  go_wp2
  go_loopw [3, 4, 5] (Rel29 w s) (fun _ _ i _ => s.size - (intOf i).toNat)
  case atStart => exact ⟨0, 0, [], Nat.zero_le _, Nat.le_refl _, rfl, rfl, Nat.le_refl _, own_nil w, Below.refl _ _, rfl⟩
  case round =>
    obtain ⟨k, bg, acc, hk, hbg, rfl, rfl, hal, hown, hbel, hr⟩ := hrel
    have hbs := hbel.size
    have HO := Lib.hid hown
    have HL := Lib.hid hbel
    have HR := Lib.hid hr
    obtain ⟨a, l, c, rfl⟩ := slice_shape hown
    clear hown hbel hr
    by_cases hlt : k < s.size
    · cases hc : (bt s k == 47)
      · have HN := Lib.hid (pcsF_miss s k bg hlt hc)
        go_wp2
        go_roundw
        case rel => exact ⟨k + 1, bg, acc, hlt, by omega, by go_num, rfl, by omega, HO.out, HL.out, by rw [← HN.out]; exact HR.out⟩
        case measure => simp [intOf]; omega
      · have HN := Lib.hid (pcsF_hit s k bg hlt hc)
        go_wp2_with (at_builtin; refine wpList_append_own _ rfl _ _ 70 rfl w.heap.size 9 i0 (.string ⟨#[]⟩) 1 16 Try.underlying70 hi0 hz0 hz1 hz2 rfl (by decide) _ _ _ rfl (World.ownsRow.alloc HO.out _) ⟨wr.heap.size, 0, none⟩ 1 1 [.string (s.extract bg k)] rfl rfl ?c1 ?c2 ?c3 ?c4 ?c5 ?_)
        case c1 => exact new_one wr _
        case c2 => intro u hu; simp at hu; subst hu; rfl
        case c3 => unfold maxLen; omega
        case c4 => omega
        case c5 => simp; omega
        · intro v' w1 hown' hgrow _
          have P := Lib.hid (own_push HO.out HL.out hown' hgrow)
          clear hown' hgrow
          go_wp2
          go_roundw
          case rel => exact ⟨k + 1, k + 1, acc ++ [s.extract bg k], hlt, Nat.le_refl _, by go_num, by go_num, by simp; omega, P.out.1, P.out.2, by rw [List.append_assoc, List.singleton_append, ← HN.out]; exact HR.out⟩
          case measure => simp [intOf]; omega
    · obtain rfl : k = s.size := by omega
      have HN := Lib.hid (pcsF_end s s.size bg rfl)
      go_wp2_with (at_builtin; refine wpList_append_own _ rfl _ _ 70 rfl w.heap.size 9 i0 (.string ⟨#[]⟩) 1 16 Try.underlying70 hi0 hz0 hz1 hz2 rfl (by decide) _ _ _ rfl (World.ownsRow.alloc HO.out _) ⟨wr.heap.size, 0, none⟩ 1 1 [.string (s.extract bg s.size)] rfl rfl ?d1 ?d2 ?d3 ?d4 ?d5 ?_)
      case d1 => exact new_one wr _
      case d2 => intro u hu; simp at hu; subst hu; rfl
      case d3 => unfold maxLen; omega
      case d4 => omega
      case d5 => simp; omega
      · intro v' w1 hown' hgrow _
        obtain ⟨a', l', c', rfl⟩ := slice_shape hown'
        have P := Lib.hid (own_push HO.out HL.out hown' hgrow)
        clear hown' hgrow
        go_wp2
        go_ret
        exact ⟨_, rfl, by rw [← HR.out, HN.out]; exact P.out.1, P.out.2⟩


/-- A list of texts that can be read. -/
def ListAt (v : Value) (l : List ByteArray) (w : World) : Prop :=
  (v = .slice none 0 0 ∧ l = []) ∨ ∃ g cap, v = .slice (some ⟨g, 0, none⟩) l.length cap ∧ l.length ≤ cap ∧ g < w.heap.size ∧ ∀ j x, l[j]? = some x → w.cell? ⟨g, j, none⟩ = some (.string x)
theorem OwnsL.list {B : Nat} {v : Value} {l : List ByteArray} {w : World} (h : OwnsL B v l w) : ListAt v l w := by
  have hc := fun g hg => World.ownsRow.cells h (g := g) hg
  rcases h.2 with ⟨rfl, h0⟩ | ⟨g, cap, cur, rfl, _, hg, hle, _, _, _⟩
  · exact .inl ⟨rfl, List.length_eq_zero_iff.1 h0⟩
  · refine .inr ⟨g, cap, rfl, hle, lt_of_block hg, fun j x hx => ?_⟩
    have := hc g rfl j (.string x) (by simp [strs, hx])
    rw [show (⟨g, j, none⟩ : Addr) = (⟨g, 0, none⟩ : Addr).add j by unfold Addr.add; split <;> simp_all]
    exact this
theorem ListAt.kept {v : Value} {l : List ByteArray} {w w' : World} (h : ListAt v l w) (hb : Below w.heap.size w w') : ListAt v l w' := by
  rcases h with h | ⟨g, cap, h1, h2, h3, h4⟩
  · exact .inl h
  · exact .inr ⟨g, cap, h1, h2, Nat.lt_of_lt_of_le h3 hb.size, fun j x hx => by rw [hb.cell h3]; exact h4 j x hx⟩
theorem ListAt.some {v : Value} {l : List ByteArray} {w : World} (h : ListAt v l w) (hl : l ≠ []) : ∃ g cap, v = .slice (some ⟨g, 0, none⟩) l.length cap ∧ l.length ≤ cap ∧ g < w.heap.size ∧ ∀ j x, l[j]? = some x → w.cell? ⟨g, j, none⟩ = some (.string x) := by
  rcases h with ⟨_, h⟩ | h
  · exact absurd h hl
  · exact h

theorem pcsF_ne (s : ByteArray) : ∀ n b, pcsF s n b ≠ []
  | 0, b => by simp [pcsF]
  | n + 1, b => by rw [pcsF]; split; simp; exact pcsF_ne s n b
theorem pcsF_len (s : ByteArray) : ∀ n b, (pcsF s n b).length ≤ n + 1
  | 0, b => by simp [pcsF]
  | n + 1, b => by
    rw [pcsF]; split
    · have := pcsF_len s n (s.size - n); simp; omega
    · have := pcsF_len s n b; omega
theorem pcsF_size (s : ByteArray) : ∀ n b x, x ∈ pcsF s n b → x.size ≤ s.size
  | 0, b, x, h => by simp [pcsF] at h; subst h; rw [ext_size]; omega
  | n + 1, b, x, h => by
    rw [pcsF] at h; split at h
    · rcases List.mem_cons.1 h with rfl | h
      · rw [ext_size]; omega
      · exact pcsF_size s n _ x h
    · exact pcsF_size s n _ x h

def partsL (s : ByteArray) : List ByteArray := (pcs s).filter fun x => decide (0 < x.size)


theorem drop_cons {l : List ByteArray} {k : Nat} (h : k < l.length) : ∃ x, l[k]? = some x ∧ x ∈ l ∧ l.drop k = x :: l.drop (k + 1) :=
  ⟨l[k], List.getElem?_eq_getElem h, List.getElem_mem h, List.drop_eq_getElem_cons h⟩
theorem bel_trans {w a b : World} (h : Below w.heap.size w a) (k : Below a.heap.size a b) : Below w.heap.size w b := h.trans (k.mono h.size)

def Rel16 (l out : List ByteArray) (w1 : World) (v i : Value) (wr : World) : Prop :=
  ∃ (k : Nat) (acc : List ByteArray), k ≤ l.length ∧ i = .int .i64 k ∧ acc.length ≤ k ∧ OwnsL w1.heap.size v acc wr ∧ Below w1.heap.size w1 wr ∧ acc ++ (l.drop k).filter (fun x => decide (0 < x.size)) = out

theorem OwnsL.low {B B' : Nat} {v : Value} {l : List ByteArray} {w : World} (h : OwnsL B v l w) (hB : B' ≤ B) : OwnsL B' v l w := by
  refine ⟨h.1, ?_⟩
  rcases h.2 with h | ⟨g, cap, cur, h1, h2, h3⟩
  · exact .inl h
  · exact .inr ⟨g, cap, cur, h1, Nat.le_trans hB h2, h3⟩

set_option maxHeartbeats 2000000 in
set_option maxRecDepth 100000 in
theorem parts16 (s : ByteArray) (w : World) (hs : s.size ≤ 10000) : Calls Try.prog 52 #[.string s] w (GivesL w (partsL s)) := by
  obtain ⟨i0, hi0, hz0, hz1, hz2⟩ := info_parts Try.info9
  have cb := fun w => between29 s w hs
  have hne : pcs s ≠ [] := pcsF_ne s _ _
  have hlen : (pcs s).length ≤ 10001 := Nat.le_trans (pcsF_len s _ _) (by omega)
  obtain ⟨q, hq⟩ : ∃ q, partsL s = q := ⟨_, rfl⟩
  rw [hq]
  unfold partsL at hq
  generalize pcs s = l at cb hne hlen hq
  have CB := Lib.hid cb
  have HQ := Lib.hid hq
  clear cb hq
  go_enter Try.func52, Try.ntmps52
  go_wp2_with fail
  refine (CB.out _).mono ?_
  rintro e w1 ⟨v, rfl, hown, hbel⟩
  obtain ⟨g, cap, rfl, hcap, hg, hcell⟩ := hown.list.some hne
  have HB := Lib.hid hbel
  have HC := Lib.hid hcell
  have hws := hbel.size
  clear hown hbel hcell
  go_wp2
  go_loopw [3, 9] (Rel16 l q w1) (fun _ i _ => l.length - (intOf i).toNat)
  case atStart => exact ⟨0, [], Nat.zero_le _, rfl, Nat.le_refl _, own_nil w1, Below.refl _ _, HQ.out⟩
  case round =>
    obtain ⟨k, acc, hk, rfl, hal, hown, hbel, hr⟩ := hrel
    have hbs := hbel.size
    have HO := Lib.hid hown
    have HL := Lib.hid hbel
    obtain ⟨a, ln, c, rfl⟩ := slice_shape hown
    by_cases hlt : k < l.length
    · obtain ⟨x, hx, hm, hd⟩ := drop_cons hlt
      rw [hd, List.filter_cons] at hr
      have hcell : wr.cell? ⟨g, k, none⟩ = some (.string x) := by rw [hbel.cell hg]; exact HC.out k x hx
      clear hown hbel hd hx hm
      by_cases h0 : x.size = 0
      · have he := toList_em h0
        rw [decide_eq_false (by omega), if_neg (by decide)] at hr
        have HR := Lib.hid hr
        clear hr h0
        go_wp2
        go_roundw
        case rel => exact ⟨k + 1, acc, hlt, by go_num, by omega, HO.out, HL.out, HR.out⟩
        case measure => simp [intOf]; omega
      · have he := toList_ne h0
        rw [decide_eq_true (by omega), if_pos rfl] at hr
        have HR := Lib.hid hr
        clear hr h0
        go_wp2_with (at_builtin; refine wpList_append_own _ rfl _ _ 70 rfl w1.heap.size 9 i0 (.string ⟨#[]⟩) 1 16 Try.underlying70 hi0 hz0 hz1 hz2 rfl (by decide) _ _ _ rfl (World.ownsRow.alloc HO.out _) ⟨wr.heap.size, 0, none⟩ 1 1 [.string x] rfl rfl ?c1 ?c2 ?c3 ?c4 ?c5 ?_)
        case c1 => exact new_one wr _
        case c2 => intro u hu; simp at hu; subst hu; rfl
        case c3 => unfold maxLen; omega
        case c4 => omega
        case c5 => simp; omega
        · intro v' w2 hown' hgrow _
          have P := Lib.hid (own_push HO.out HL.out hown' hgrow)
          clear hown' hgrow
          go_wp2
          go_roundw
          case rel => exact ⟨k + 1, acc ++ [x], hlt, by go_num, by simp; omega, P.out.1, P.out.2, by rw [List.append_assoc, List.singleton_append]; exact HR.out⟩
          case measure => simp [intOf]; omega
    · obtain rfl : k = l.length := by omega
      rw [List.drop_length] at hr
      have HR := Lib.hid hr
      clear hr hown hbel
      go_wp2
      go_ret
      exact ⟨_, rfl, by rw [← HR.out]; simpa using HO.out.low hws, bel_trans HB.out HL.out⟩

set_option maxHeartbeats 2000000 in
set_option maxRecDepth 100000 in
theorem parts17 (s : ByteArray) (w : World) (hs : s.size ≤ 10000) : Calls Try.prog 61 #[.string s] w (GivesL w (partsL s)) := by
  obtain ⟨i0, hi0, hz0, hz1, hz2⟩ := info_parts Try.info9
  have cb := fun w => pieces30 s w hs
  have hne : pcs s ≠ [] := pcsF_ne s _ _
  have hlen : (pcs s).length ≤ 10001 := Nat.le_trans (pcsF_len s _ _) (by omega)
  obtain ⟨q, hq⟩ : ∃ q, partsL s = q := ⟨_, rfl⟩
  rw [hq]
  unfold partsL at hq
  generalize pcs s = l at cb hne hlen hq
  have CB := Lib.hid cb
  have HQ := Lib.hid hq
  clear cb hq
  go_enter Try.func61, Try.ntmps61
  go_wp2_with fail
  refine (CB.out _).mono ?_
  rintro e w1 ⟨v, rfl, hown, hbel⟩
  obtain ⟨g, cap, rfl, hcap, hg, hcell⟩ := hown.list.some hne
  have HB := Lib.hid hbel
  have HC := Lib.hid hcell
  have hws := hbel.size
  clear hown hbel hcell
  go_wp2
  go_loopw [3, 5] (Rel16 l q w1) (fun _ i _ => l.length - (intOf i).toNat)
  case atStart => exact ⟨0, [], Nat.zero_le _, rfl, Nat.le_refl _, own_nil w1, Below.refl _ _, HQ.out⟩
  case round =>
    obtain ⟨k, acc, hk, rfl, hal, hown, hbel, hr⟩ := hrel
    have hbs := hbel.size
    have HO := Lib.hid hown
    have HL := Lib.hid hbel
    obtain ⟨a, ln, c, rfl⟩ := slice_shape hown
    by_cases hlt : k < l.length
    · obtain ⟨x, hx, hm, hd⟩ := drop_cons hlt
      rw [hd, List.filter_cons] at hr
      have hcell : wr.cell? ⟨g, k, none⟩ = some (.string x) := by rw [hbel.cell hg]; exact HC.out k x hx
      clear hown hbel hd hx hm
      by_cases h0 : x.size = 0
      · have he := toList_em h0
        rw [decide_eq_false (by omega), if_neg (by decide)] at hr
        have HR := Lib.hid hr
        clear hr h0
        go_wp2
        go_roundw
        case rel => exact ⟨k + 1, acc, hlt, by go_num, by omega, HO.out, HL.out, HR.out⟩
        case measure => simp [intOf]; omega
      · have he := toList_ne h0
        rw [decide_eq_true (by omega), if_pos rfl] at hr
        have HR := Lib.hid hr
        clear hr h0
        go_wp2_with (at_builtin; refine wpList_append_own _ rfl _ _ 70 rfl w1.heap.size 9 i0 (.string ⟨#[]⟩) 1 16 Try.underlying70 hi0 hz0 hz1 hz2 rfl (by decide) _ _ _ rfl (World.ownsRow.alloc HO.out _) ⟨wr.heap.size, 0, none⟩ 1 1 [.string x] rfl rfl ?c1 ?c2 ?c3 ?c4 ?c5 ?_)
        case c1 => exact new_one wr _
        case c2 => intro u hu; simp at hu; subst hu; rfl
        case c3 => unfold maxLen; omega
        case c4 => omega
        case c5 => simp; omega
        · intro v' w2 hown' hgrow _
          have P := Lib.hid (own_push HO.out HL.out hown' hgrow)
          clear hown' hgrow
          go_wp2
          go_roundw
          case rel => exact ⟨k + 1, acc ++ [x], hlt, by go_num, by simp; omega, P.out.1, P.out.2, by rw [List.append_assoc, List.singleton_append]; exact HR.out⟩
          case measure => simp [intOf]; omega
    · obtain rfl : k = l.length := by omega
      rw [List.drop_length] at hr
      have HR := Lib.hid hr
      clear hr hown hbel
      go_wp2
      go_ret
      exact ⟨_, rfl, by rw [← HR.out]; simpa using HO.out.low hws, bel_trans HB.out HL.out⟩

def joinS (a b : ByteArray) : ByteArray := if a.size = 0 then b else if (bt a (a.size - 1) == 47) = true then a ++ b else a ++ ⟨#[47]⟩ ++ b

set_option maxHeartbeats 2000000 in
set_option maxRecDepth 100000 in
theorem join22 (a b : ByteArray) (w : World) (ha : a.size ≤ 10000) (hb : b.size ≤ 10000) : Calls Try.prog 59 #[.string a, .string b] w fun e w' => e = .returned (.string (joinS a b)) ∧ w = w' := by
  have hg := get_bt a
  by_cases h0 : a.size = 0
  · have he := toList_em h0
    have hj : joinS a b = b := by unfold joinS; rw [if_pos h0]
    rw [hj]
    have hab : a ++ b = b := by rw [empty_is h0]; exact ByteArray.empty_append
    clear h0 hj
    go_enter Try.func59, Try.ntmps59
    go_wp2
    go_ret
    exact ⟨rfl, rfl⟩
  · have he := toList_ne h0
    cases hc : (bt a (a.size - 1) == 47)
    · have hj : joinS a b = a ++ ⟨#[47]⟩ ++ b := by unfold joinS; rw [if_neg h0, hc]; rfl
      rw [hj]
      clear hj
      have h1 : 0 < a.size := by omega
      go_enter Try.func59, Try.ntmps59
      go_wp2
      go_ret
      exact ⟨rfl, rfl⟩
    · have hj : joinS a b = a ++ b := by unfold joinS; rw [if_neg h0, hc]; rfl
      rw [hj]
      clear hj
      have h1 : 0 < a.size := by omega
      go_enter Try.func59, Try.ntmps59
      go_wp2
      go_ret
      exact ⟨rfl, rfl⟩

set_option maxHeartbeats 2000000 in
set_option maxRecDepth 100000 in
theorem join23 (a b : ByteArray) (w : World) (ha : a.size ≤ 10000) (hb : b.size ≤ 10000) : Calls Try.prog 84 #[.string a, .string b] w fun e w' => e = .returned (.string (joinS a b)) ∧ w = w' := by
  have hg := get_bt a
  by_cases h0 : a.size = 0
  · have he := toList_em h0
    have hj : joinS a b = b := by unfold joinS; rw [if_pos h0]
    rw [hj]
    clear h0 hj
    go_enter Try.func84, Try.ntmps84
    go_wp2
    go_ret
    exact ⟨rfl, rfl⟩
  · have he := toList_ne h0
    cases hc : (bt a (a.size - 1) == 47)
    · have hj : joinS a b = a ++ ⟨#[47]⟩ ++ b := by unfold joinS; rw [if_neg h0, hc]; rfl
      rw [hj]
      clear hj
      have h1 : 0 < a.size := by omega
      go_enter Try.func84, Try.ntmps84
      go_wp2
      go_ret
      exact ⟨rfl, rfl⟩
    · have hj : joinS a b = a ++ b := by unfold joinS; rw [if_neg h0, hc]; rfl
      rw [hj]
      clear hj
      have h1 : 0 < a.size := by omega
      go_enter Try.func84, Try.ntmps84
      go_wp2
      go_ret
      exact ⟨rfl, rfl⟩

def prefB (s p : ByteArray) : Bool := decide (p.size ≤ s.size) && ((s.extract 0 p.size).toList == p.toList)
end Go.Proofs.Ytgdjoojghkdcbaa.Pth
