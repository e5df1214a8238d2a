/- The document's place of the least number. -/
import Derived.Test.YtohjpclpeiidfaaDoorC
import Derived.Deep.QuietTactic
import Derived.BigQuiet
namespace Go.Proofs.YtohjpclpeiidfaaDoor
open Go.RowKit Go.PlainAid
set_option linter.unusedSimpArgs false
set_option linter.unusedVariables false
namespace Fl

/-- No one among the first m stands ahead of the place i. -/
def fst (K : Nat → Int) (i m : Nat) : Bool := (List.range m).all fun k => decide (K i ≤ K k)
theorem fst_zero (K : Nat → Int) (i : Nat) : fst K i 0 = true := rfl
theorem fst_succ (K : Nat → Int) (i m : Nat) : fst K i (m + 1) = (fst K i m && decide (K i ≤ K m)) := by unfold fst; rw [List.range_succ, List.all_append]; simp
theorem fst_all {K : Nat → Int} {i m : Nat} (h : fst K i m = true) : ∀ k, k < m → K i ≤ K k := by
  intro k hk
  unfold fst at h
  have := List.all_eq_true.1 h k (List.mem_range.2 hk)
  simpa using this
theorem fst_not {K : Nat → Int} {i m : Nat} (h : fst K i m = false) : ∃ k, k < m ∧ K k < K i := by
  unfold fst at h
  have := List.all_eq_false.1 h
  obtain ⟨k, h1, h2⟩ := this
  exact ⟨k, List.mem_range.1 h1, by simpa using h2⟩
/-- None of the first places is one that no other stands ahead of. -/
def NF (K : Nat → Int) (n i : Nat) : Prop := ∀ j, j < i → fst K j n = false
theorem NF.found {K : Nat → Int} {n i : Nat} (h : NF K n i) (hi : i < n) (hf : fst K i n = true) : FM K n i := by
  refine .inr ⟨i, hi, rfl, fst_all hf, ?_⟩
  intro j hj
  obtain ⟨k, hk, hlt⟩ := fst_not (h j hj)
  have := fst_all hf k hk
  omega
theorem NF.next {K : Nat → Int} {n i : Nat} (h : NF K n i) (hf : fst K i n = false) : NF K n (i + 1) := by
  intro j hj
  by_cases e : j = i
  · rw [e]; exact hf
  · exact h j (by omega)
theorem some_first {K : Nat → Int} {n : Nat} (h : 0 < n) : ∃ i, i < n ∧ ∀ k, k < n → K i ≤ K k := by
  induction n with
  | zero => omega
  | succ n ih =>
    by_cases h0 : n = 0
    · subst h0
      exact ⟨0, by omega, fun k hk => by have : k = 0 := by omega
                                         subst this; omega⟩
    · obtain ⟨i, h1, h2⟩ := ih (by omega)
      by_cases h3 : K i ≤ K n
      · exact ⟨i, by omega, fun k hk => by
          by_cases e : k = n
          · rw [e]; exact h3
          · exact h2 k (by omega)⟩
      · exact ⟨n, by omega, fun k hk => by
          by_cases e : k = n
          · rw [e]; omega
          · have := h2 k (by omega); omega⟩
theorem NF.none {K : Nat → Int} {n : Nat} (h : NF K n n) : FM K n (-1) := by
  refine .inl ⟨?_, rfl⟩
  rcases Nat.eq_zero_or_pos n with h0 | h0
  · exact h0
  · obtain ⟨i, h1, h2⟩ := some_first (K := K) h0
    obtain ⟨k, h3, h4⟩ := fst_not (h i h1)
    have := h2 k h3
    omega

def Rel11 (l : List Nat) (w : World) (i : Value) (wx : World) : Prop := ∃ (k : Nat), k ≤ l.length ∧ i = .int .i64 k ∧ NF (kyAt l) l.length k ∧ Below w.heap.size w wx
def Rel11b (l : List Nat) (i : Nat) (w : World) (f k : Value) (wx : World) : Prop := ∃ (m : Nat), m ≤ l.length ∧ k = .int .i64 m ∧ f = .bool (fst (kyAt l) i m) ∧ Below w.heap.size w wx
theorem bel_drew (w : World) (n : Nat) : Below w.heap.size w (w.drewN n) := ⟨rfl, rfl, rfl, Nat.le_refl _, fun _ _ => rfl⟩

end Fl
end Go.Proofs.YtohjpclpeiidfaaDoor
