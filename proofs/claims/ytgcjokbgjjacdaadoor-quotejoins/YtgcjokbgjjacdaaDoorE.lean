/- Contract: Words. Conditions: few texts, lengths below a bound. -/
import Derived.Test.YtgcjokbgjjacdaaDoorD
import Derived.Laws.EntriesVeiled
import Derived.Lib.Join
namespace Go.Proofs.YtgcjokbgjjacdaaDoor
open Go.RowKit Go.PlainAid
set_option linter.unusedSimpArgs false
set_option linter.unusedVariables false

theorem join_is : ∀ l : List (List UInt8), Lib.join l [32] = joinL l
  | [] => rfl
  | [x] => Lib.join_one _ _
  | x :: y :: r => by
    rw [joinL, ← join_is (y :: r), Lib.join_cons, Lib.join_cons]
    simp [Lib.joinTail]
theorem join_len (M : Nat) : ∀ l : List (List UInt8), (∀ x ∈ l, x.length ≤ M) → (joinL l).length ≤ l.length * (M + 1)
  | [], _ => by simp [joinL]
  | [x], h => by have := h x (by simp); simp [joinL]; omega
  | x :: y :: r, h => by
    have h1 := h x (by simp)
    have h2 := join_len M (y :: r) (fun z hz => h z (by simp at hz ⊢; right; exact hz))
    rw [joinL, List.length_append, List.length_cons]
    rw [List.length_cons, Nat.add_mul]
    omega
/-- v is a slice of just these texts. -/
def Strs (w : World) (v : Value) (ns : List ByteArray) : Prop := (ns = [] ∧ ∃ a c, v = .slice a 0 c) ∨ ∃ b off c, v = .slice (some ⟨b, off, none⟩) ns.length c ∧ ns.length ≤ c ∧ ∀ (i : Nat) (s : ByteArray), ns[i]? = some s → w.cell? ⟨b, off + i, none⟩ = some (.string s)
theorem Strs.shape {w : World} {v : Value} {ns : List ByteArray} (h : Strs w v ns) : ∃ a c, v = .slice a ns.length c := by
  rcases h with ⟨rfl, a, c, rfl⟩ | ⟨b, off, c, rfl, _, _⟩
  · exact ⟨a, c, rfl⟩
  · exact ⟨_, _, rfl⟩
theorem cell_kept {w w' : World} {p : Addr} {v : Value} (h : w.cell? p = some v) (hb : Below w.heap.size w w') : w'.cell? p = some v := by
  rw [hb.cell (World.block_lt_of_cell? _ _ h)]; exact h
theorem Strs.below {w w' : World} {v : Value} {ns : List ByteArray} (h : Strs w v ns) (hb : Below w.heap.size w w') : Strs w' v ns := by
  rcases h with h | ⟨b, off, c, h1, h2, h3⟩
  · exact .inl h
  · exact .inr ⟨b, off, c, h1, h2, fun i s hi => cell_kept (h3 i s hi) hb⟩
/-- A list of texts as values. -/
def strs (l : List ByteArray) : List Value := l.map Value.string
theorem strs_len (l : List ByteArray) : (strs l).length = l.length := List.length_map _
theorem strs_snoc (l : List ByteArray) (x : ByteArray) : strs l ++ [.string x] = strs (l ++ [x]) := by simp [strs]
/-- v is a list of just these texts, in memory of the call's own. -/
def OwnsL (B : Nat) (v : Value) (l : List ByteArray) (w : World) : Prop := w.ownsRow B 9 1 v l.length (strs l)
theorem Tryd.info9 : (Tryd.prog.info? 9).map (fun i => (i.zero, i.size, i.bytes)) = some (some (.string ⟨#[]⟩), 1, 16) := by kernel_rfl
theorem new_one (w : World) (x : ByteArray) : ∀ j u, [Value.string x][j]? = some u → (w.alloc (.cells #[.string x] 9)).cell? ((⟨w.heap.size, 0, none⟩ : Addr).add j) = some u := by
  intro j u hj
  match j, hj with
  | 0, hj => simp at hj; subst hj; simp [Addr.add]
theorem own_push {w wr w1 : World} {acc : List ByteArray} {v v' : Value} {x : ByteArray} {o : Obj} (h0 : OwnsL w.heap.size v acc wr) (hb : Below w.heap.size w wr)
    (hown : w1.ownsRow w.heap.size 9 1 v' (acc.length + 1) (strs acc ++ [.string x])) (hg : (wr.alloc o).grownBy w1 v.ownBlock) :
    OwnsL w.heap.size v' (acc ++ [x]) w1 ∧ Below w.heap.size w w1 := by
  refine ⟨?_, (hb.alloc hb.size o).grown hg (by simp; have := hb.size; omega) (fun j hj => (World.ownsRow.lt h0 j hj).1)⟩
  unfold OwnsL
  rw [List.length_append, ← strs_snoc]
  exact hown
theorem slice_shape {w : World} {base : Nat} {e : TypeId} {size : Nat} {v : Value} {n : Nat} {xs : List Value} (h : w.ownsRow base e size v n xs) : ∃ a c, v = .slice a n c := by
  rcases h.2 with ⟨rfl, h0⟩ | ⟨g, cap, cur, rfl, _⟩
  · subst h0; exact ⟨_, _, rfl⟩
  · exact ⟨_, _, rfl⟩
theorem OwnsL.below {B : Nat} {v : Value} {l : List ByteArray} {w w' : World} (h : OwnsL B v l w) (hb : Below w.heap.size w w') : OwnsL B v l w' := by
  refine ⟨h.1, ?_⟩
  rcases h.2 with h2 | ⟨g, cap, cur, rfl, h2, h3, h4⟩
  · exact .inl h2
  · exact .inr ⟨g, cap, cur, rfl, h2, (hb.block _ (lt_of_block h3)).trans h3, h4⟩
theorem own_read {B : Nat} {v : Value} {l : List ByteArray} {w : World} (h : OwnsL B v l w) (hl : l ≠ []) : ∃ g cap, v = .slice (some ⟨g, 0, none⟩) l.length cap ∧ l.length ≤ cap ∧ g < w.heap.size ∧ ∀ (j : Nat) x, l[j]? = some x → w.cell? ⟨g, 0 + j, none⟩ = some (.string x) := by
  have hc := fun g hg => World.ownsRow.cells h (g := g) hg
  rcases h.2 with ⟨rfl, h0⟩ | ⟨g, cap, cur, rfl, _, hg, hle, _, _, _⟩
  · exact absurd (List.length_eq_zero_iff.1 h0) hl
  · refine ⟨g, cap, rfl, hle, lt_of_block hg, fun j x hx => ?_⟩
    have := hc g rfl j (.string x) (by simp [strs, hx])
    rw [Nat.zero_add, show (⟨g, j, none⟩ : Addr) = (⟨g, 0, none⟩ : Addr).add j by unfold Addr.add; split <;> simp_all]
    exact this
def wd (s : ByteArray) : ByteArray := mk (wordL (ls s))
theorem ls_wd (s : ByteArray) : ls (wd s) = wordL (ls s) := rfl
def wordsOf (ns : List ByteArray) : List UInt8 := joinL ((ns.map wd).map ls)
def Rel13 (w : World) (ns : List ByteArray) (v i : Value) (wx : World) : Prop := ∃ k : Nat, k ≤ ns.length ∧ i = .int .i64 k ∧ Hid (OwnsL w.heap.size v ((ns.take k).map wd) wx) ∧ Hid (Below w.heap.size w wx)
set_option maxHeartbeats 4000000 in
set_option maxRecDepth 100000 in
theorem words13 (v : Value) (ns : List ByteArray) (w : World) (he : Env w) (hv : Strs w v ns) (hn : ns.length ≤ 60) (hs : ∀ s ∈ ns, s.size ≤ 500) : Calls Tryd.prog 13 #[v] w (GivesT w (wordsOf ns)) := by
  obtain ⟨i0, hi0, hz0, hz1, hz2⟩ := info_parts Tryd.info9
  have HE := Lib.hid he
  have HV := Lib.hid hv
  have HS := Lib.hid hs
  obtain ⟨va, vc, rfl⟩ := hv.shape
  clear he hv hs
  go_enter Tryd.func13, Tryd.ntmps13
  go_wp2_with (at_make; refine wpList_make_own _ rfl _ _ 22 rfl w.heap.size 9 i0 (.string ⟨#[]⟩) 1 Tryd.underlying22 hi0 hz0 hz1 .i64 .i64 _ ns.length rfl rfl rfl ?m1 ?m2 (Nat.le_refl _) ?_)
  case m1 => rw [hz2]; omega
  case m2 => unfold maxLen; omega
  intro w0 hown0 hgrow0
  have HO0 : Hid (OwnsL w.heap.size (.slice (some ⟨w.heap.size, 0, none⟩) 0 ns.length) [] w0) := Lib.hid hown0
  have HB0 := Lib.hid ((Below.refl w.heap.size w).grown hgrow0 (Nat.le_refl _) (fun k h => by cases h))
  clear hown0 hgrow0
  go_wp2
  go_loopw [3, 11] (Rel13 w ns) (fun _ i _ => ns.length - (intOf i).toNat)
  case atStart => exact ⟨0, Nat.zero_le _, rfl, HO0, HB0⟩
  case round =>
    obtain ⟨k, hk, rfl, HO, HB⟩ := hrel
    rename World => wx
    have hlen : ((ns.take k).map wd).length = k := by rw [List.length_map, List.length_take]; omega
    by_cases hlt : k < ns.length
    · obtain ⟨s, hs⟩ : ∃ s, ns[k]? = some s := ⟨ns[k], List.getElem?_eq_getElem hlt⟩
      have htk : (ns.take (k + 1)).map wd = (ns.take k).map wd ++ [wd s] := by rw [List.take_add_one, hs]; simp
      have hs5 := HS.out s (List.mem_of_getElem? hs)
      obtain ⟨acc, hacc⟩ : ∃ acc, (ns.take k).map wd = acc := ⟨_, rfl⟩
      rw [hacc] at HO hlen htk
      rcases HV.out with ⟨e, _⟩ | ⟨g, off, cc, e, _, hcell⟩
      · rw [e] at hlt; simp at hlt
      cases e
      have hc : wx.cell? ⟨g, off + k, none⟩ = some (.string s) := cell_kept (hcell k s hs) HB.out
      clear hcell hs
      have C := Lib.hid (word9 s wx (HE.out.on HB.out) (by omega))
      obtain ⟨av, cv, rfl⟩ := slice_shape HO.out
      have HA := Lib.hid hacc
      have HT := Lib.hid htk
      have HL := Lib.hid hlen
      clear hacc htk hlen
      go_wp2_with fail
      refine C.out.mono ?_
      rintro e w1 ⟨rfl, b1⟩
      have HO1 := Lib.hid (HO.out.below b1)
      have HB1 := Lib.hid (HB.out.trans (b1.mono HB.out.size))
      have hb1 : w.heap.size ≤ w1.heap.size := HB1.out.size
      obtain ⟨X, HX⟩ : ∃ X, Hid (wd s = X) := ⟨_, Lib.hid rfl⟩
      rw [show mk (wordL (ls s)) = wd s from rfl, HX.out]
      rw [HX.out] at HT
      clear b1 C HO
      go_wp2_with (at_builtin; refine wpList_append_own _ rfl _ _ 22 rfl w.heap.size 9 i0 (.string ⟨#[]⟩) 1 16 Tryd.underlying22 hi0 hz0 hz1 hz2 rfl (by decide) _ _ _ rfl (World.ownsRow.alloc HO1.out _) ⟨w1.heap.size, 0, none⟩ 1 1 [.string X] rfl rfl ?c1 ?c2 ?c3 ?c4 ?c5 ?_)
      case c1 => exact new_one w1 _
      case c2 => intro u hu; simp at hu; subst hu; rfl
      case c3 => have := HL.out; unfold maxLen; omega
      case c4 => have := HL.out; omega
      case c5 => have := HL.out; simp; omega
      · intro v' w2 hown' hgrow _
        have P := Lib.hid (own_push HO1.out HB1.out hown' hgrow)
        clear hown' hgrow
        go_wp2
        go_roundw
        case rel => exact ⟨k + 1, hlt, by go_num, Lib.hid (by rw [HT.out]; exact P.out.1), Lib.hid P.out.2⟩
        case measure => simp [intOf]; omega
    · obtain rfl : k = ns.length := by omega
      rw [List.take_length] at HO hlen
      obtain ⟨acc, hacc⟩ : ∃ acc, ns.map wd = acc := ⟨_, rfl⟩
      have hL : wordsOf ns = joinL (acc.map ls) := by unfold wordsOf; rw [hacc]
      have hjl : (joinL (acc.map ls)).length ≤ 60 * 2003 := by
        have h1 := join_len 2002 (acc.map ls) (by
          intro x hx
          rw [← hacc] at hx
          simp at hx
          obtain ⟨y, hy, rfl⟩ := hx
          rw [ls_wd]
          have h2 := word_len (ls y)
          have h3 := HS.out y hy
          rw [ls_len] at h2
          omega)
        rw [hacc] at hlen
        rw [List.length_map, hlen] at h1
        have h4 : ns.length * (2002 + 1) ≤ 60 * 2003 := Nat.mul_le_mul hn (Nat.le_refl _)
        omega
      rw [hacc] at HO hlen
      have HJ := Lib.hid hL
      by_cases h0 : acc = []
      · subst h0
        obtain ⟨av, cv, rfl⟩ := slice_shape HO.out
        have C := Lib.hid (Tryd.strings_Join_none av cv ⟨#[32]⟩ wx)
        have HF : Hid (mk (joinL (([] : List ByteArray).map ls)) = ⟨#[]⟩) := Lib.hid rfl
        clear hL hjl hlen hacc
        go_wp2_with (go_at_call 19; refine C.out.mono ?_; rintro e w' ⟨rfl, rfl⟩)
        go_ret
        exact ⟨by rw [HJ.out, HF.out]; rfl, HB.out⟩
      · obtain ⟨g, cap, hv, hcap, hg, hcell⟩ := own_read HO.out h0
        have h := Tryd.strings_Join g 0 cap acc ⟨#[32]⟩ wx hcell hg (by omega) hcap (by
          show (Lib.join (acc.map ls) [32]).length ≤ _
          rw [join_is]; omega)
        have e1 : Lib.join (acc.map (·.data.toList)) (⟨#[32]⟩ : ByteArray).data.toList = joinL (acc.map ls) := join_is _
        rw [e1] at h
        rw [← hv] at h
        obtain ⟨av, cv, rfl⟩ := slice_shape HO.out
        have C := Lib.hid h
        clear hL hjl hlen hacc h hv hcell e1 h0
        go_wp2_with (go_at_call 19; refine C.out.mono ?_; rintro e w' ⟨rfl, b1⟩; have B1 := Lib.hid b1; clear b1)
        go_ret
        exact ⟨by rw [HJ.out]; rfl, HB.out.trans (B1.out.mono HB.out.size)⟩
end Go.Proofs.YtgcjokbgjjacdaaDoor
