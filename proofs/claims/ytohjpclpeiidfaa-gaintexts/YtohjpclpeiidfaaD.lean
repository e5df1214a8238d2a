/- The document's place of the least number. -/
import Derived.Test.YtohjpclpeiidfaaC
import Derived.Deep.QuietTactic
import Derived.BigQuiet
namespace Go.Proofs.Ytohjpclpeiidfaa
open Go.RowKit Go.PlainAid
set_option linter.unusedSimpArgs false
set_option linter.unusedVariables false
namespace Fl

/-- No one among the first m stands ahead of the place i. -/
def fst (K : Nat → Int) (i m : Nat) : Bool := (List.range m).all fun k => decide (K i ≤ K k)
theorem fst_zero (K : Nat → Int) (i : Nat) : fst K i 0 = true := rfl
theorem fst_succ (K : Nat → Int) (i m : Nat) : fst K i (m + 1) = (fst K i m && decide (K i ≤ K m)) := by unfold fst; rw [List.range_succ, List.all_append]; simp
theorem fst_all {K : Nat → Int} {i m : Nat} (h : fst K i m = true) : ∀ k, k < m → K i ≤ K k := by
  intro k hk
  unfold fst at h
  have := List.all_eq_true.1 h k (List.mem_range.2 hk)
  simpa using this
theorem fst_not {K : Nat → Int} {i m : Nat} (h : fst K i m = false) : ∃ k, k < m ∧ K k < K i := by
  unfold fst at h
  have := List.all_eq_false.1 h
  obtain ⟨k, h1, h2⟩ := this
  exact ⟨k, List.mem_range.1 h1, by simpa using h2⟩
/-- None of the first places is one that no other stands ahead of. -/
def NF (K : Nat → Int) (n i : Nat) : Prop := ∀ j, j < i → fst K j n = false
theorem NF.found {K : Nat → Int} {n i : Nat} (h : NF K n i) (hi : i < n) (hf : fst K i n = true) : FM K n i := by
  refine .inr ⟨i, hi, rfl, fst_all hf, ?_⟩
  intro j hj
  obtain ⟨k, hk, hlt⟩ := fst_not (h j hj)
  have := fst_all hf k hk
  omega
theorem NF.next {K : Nat → Int} {n i : Nat} (h : NF K n i) (hf : fst K i n = false) : NF K n (i + 1) := by
  intro j hj
  by_cases e : j = i
  · rw [e]; exact hf
  · exact h j (by omega)
theorem some_first {K : Nat → Int} {n : Nat} (h : 0 < n) : ∃ i, i < n ∧ ∀ k, k < n → K i ≤ K k := by
  induction n with
  | zero => omega
  | succ n ih =>
    by_cases h0 : n = 0
    · subst h0
      exact ⟨0, by omega, fun k hk => by have : k = 0 := by omega
                                         subst this; omega⟩
    · obtain ⟨i, h1, h2⟩ := ih (by omega)
      by_cases h3 : K i ≤ K n
      · exact ⟨i, by omega, fun k hk => by
          by_cases e : k = n
          · rw [e]; exact h3
          · exact h2 k (by omega)⟩
      · exact ⟨n, by omega, fun k hk => by
          by_cases e : k = n
          · rw [e]; omega
          · have := h2 k (by omega); omega⟩
theorem NF.none {K : Nat → Int} {n : Nat} (h : NF K n n) : FM K n (-1) := by
  refine .inl ⟨?_, rfl⟩
  rcases Nat.eq_zero_or_pos n with h0 | h0
  · exact h0
  · obtain ⟨i, h1, h2⟩ := some_first (K := K) h0
    obtain ⟨k, h3, h4⟩ := fst_not (h i h1)
    have := h2 k h3
    omega

def Rel11 (l : List Nat) (w : World) (i : Value) (wx : World) : Prop := ∃ (k : Nat), k ≤ l.length ∧ i = .int .i64 k ∧ NF (kyAt l) l.length k ∧ Below w.heap.size w wx
def Rel11b (l : List Nat) (i : Nat) (w : World) (f k : Value) (wx : World) : Prop := ∃ (m : Nat), m ≤ l.length ∧ k = .int .i64 m ∧ f = .bool (fst (kyAt l) i m) ∧ Below w.heap.size w wx
theorem bel_drew (w : World) (n : Nat) : Below w.heap.size w (w.drewN n) := ⟨rfl, rfl, rfl, Nat.le_refl _, fun _ _ => rfl⟩

set_option maxRecDepth 100000 in
theorem least11 (l : List Nat) (v : Value) (w : World) (hv : Sl w v (fl l)) (ha : All l) (hl : l.length ≤ 1000) :
    Calls Try.prog 11 #[v] w (Lst (kyAt l) l.length w) := by
  obtain ⟨av, cv, rfl⟩ := hv.shape
  rw [fl_len] at *
  have HV := Lib.hid hv
  have HA := Lib.hid ha
  clear hv ha
  go_enter Try.func11, Try.ntmps11
  go_wp2
  go_loopw [3] (Rel11 l w) (fun i _ => l.length - (intOf i).toNat)
  case atStart => exact ⟨0, Nat.zero_le _, rfl, fun j hj => by omega, Below.refl _ _⟩
  case round =>
    obtain ⟨i, hi, rfl, hN, hb⟩ := hrel
    rename World => wx
    have HB := Lib.hid hb
    clear hb
    by_cases hlt : i < l.length
    · have HN := Lib.hid hN
      clear hN
      go_wp2_with fail
      go_loopw [4, 5] (Rel11b l i w) (fun _ k _ => l.length - (intOf k).toNat)
      case atStart => exact ⟨0, Nat.zero_le _, rfl, rfl, HB.out⟩
      case round =>
        obtain ⟨m, hm, rfl, rfl, hb⟩ := hrel
        rename World => wy
        have HB2 := Lib.hid hb
        clear hb
        by_cases hlt2 : m < l.length
        · rcases HV.out with ⟨e, _⟩ | ⟨g, off, cc, e, hcc, hcell⟩
          · have := congrArg List.length e
            rw [fl_len] at this
            change l.length = 0 at this
            omega
          rw [fl_len] at e
          cases e
          have c1 : wy.cell? _ = _ := cell_kept (hcell m _ (fl_at hlt2)) HB2.out
          have c2 : wy.cell? _ = _ := cell_kept (hcell i _ (fl_at hlt)) HB2.out
          have L := Lib.hid (fun w => less9 l[m] l[i] w (HA.out.at m hlt2) (HA.out.at i hlt))
          have e1 := less_at hlt2 hlt
          have e2 := fst_succ (kyAt l) i m
          by_cases h1 : kyAt l m < kyAt l i
          · rw [e1, decide_eq_true h1] at L
            rw [decide_eq_false (show ¬ kyAt l i ≤ kyAt l m by omega), Bool.and_false] at e2
            have T := Lib.hid e2
            clear hcell e2 e1 h1 HA HN
            go_wp2_with fail
            go_quiet ((go_at_call 9; refine Calls.quiet_of_same (L.out _)))
            go_wp2
            go_roundw
            case rel => exact ⟨m + 1, hlt2, by go_num, by rw [T.out], (HB2.out.trans ((bel_drew wy _).mono HB2.out.size))⟩
            case measure => simp [intOf]; omega
          · rw [e1, decide_eq_false h1] at L
            rw [decide_eq_true (show kyAt l i ≤ kyAt l m by omega), Bool.and_true] at e2
            have T := Lib.hid e2
            clear hcell e2 e1 h1 HA HN
            go_wp2_with fail
            go_quiet ((go_at_call 9; refine Calls.quiet_of_same (L.out _)))
            go_wp2
            go_roundw
            case rel => exact ⟨m + 1, hlt2, by go_num, by rw [T.out], (HB2.out.trans ((bel_drew wy _).mono HB2.out.size))⟩
            case measure => simp [intOf]; omega
        · obtain rfl : m = l.length := by omega
          cases hf : fst (kyAt l) i l.length
          · have T := Lib.hid (HN.out.next hf)
            clear hf HN
            go_wp2
            go_roundw
            case rel => exact ⟨i + 1, hlt, by go_num, T.out, HB2.out⟩
            case measure => simp [intOf]; omega
          · have T := Lib.hid (HN.out.found hlt hf)
            clear hf HN
            go_wp2
            go_ret
            exact ⟨i, rfl, T.out, HB2.out⟩
    · obtain rfl : i = l.length := by omega
      have T := Lib.hid hN.none
      clear hN
      go_wp2
      go_ret
      exact ⟨-1, rfl, T.out, HB.out⟩
end Fl
end Go.Proofs.Ytohjpclpeiidfaa
