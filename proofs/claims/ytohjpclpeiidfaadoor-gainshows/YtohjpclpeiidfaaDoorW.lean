/- Plain facts on eighths: their words, how they are told. -/
import Derived.Test.YtohjpclpeiidfaaDoorV
namespace Go.Proofs.YtohjpclpeiidfaaDoor
open Go.RowKit Go.PlainAid
set_option linter.unusedSimpArgs false
set_option linter.unusedVariables false
namespace Fl

theorem of8 : of (8 : Nat) = 4620693217682128896 := by decide +kernel
theorem dg8 : dg 8 = 4503599627370496 := by decide +kernel
theorem log8 : (8 : Nat).log2 = 3 := by decide +kernel
/-- The word of so many eighths. -/
def yb (n : Nat) : Nat := (n.log2 + 1019) * 4503599627370496 + dg n
theorem cut_three (d : Nat) : Ieee.Toward.even.cut false (8 * d) 3 = d := by
  unfold Ieee.Toward.cut
  have e : 1 <<< min 3 ((8 * d).log2 + 2) = 8 ∨ d = 0 := by
    by_cases h : d = 0
    · exact .inr h
    · left
      have : 3 ≤ (8 * d).log2 := (Nat.le_log2 (by omega)).2 (by omega)
      rw [Nat.min_eq_left (by omega)]
      rfl
  rcases e with e | e
  · simp only [e]
    rw [Nat.mul_mod_right, Nat.mul_div_cancel_left _ (by omega)]
    rfl
  · subst e; rfl
theorem log_lt {n : Nat} (h0 : 0 < n) (h : n ≤ 1073741824) : n.log2 < 31 := by
  have h1 := Nat.log2_self_le (n := n) (by omega)
  rcases Nat.lt_or_ge n.log2 31 with h2 | h2
  · exact h2
  · have : 2 ^ 31 ≤ 2 ^ n.log2 := Nat.pow_le_pow_right (by omega) h2
    omega
theorem dv8 {n : Nat} (h0 : 0 < n) (h : n ≤ 1073741824) : dv (of n) 4620693217682128896 = some (yb n) := by
  have hL := log_lt h0 h
  have hd := dg_range h0 (by omega)
  rw [← of8, dv_is h0 (by omega) (by decide) (by decide), log8]
  refine congrArg some ?_
  have e : qm n 8 = 8 * dg n := by
    unfold qm
    rw [dg8, show (2 : Nat) ^ 54 = 4 * 4503599627370496 from rfl, ← Nat.mul_assoc, Nat.mul_div_cancel _ (by decide), Nat.mul_mod_left]
    show 2 * (dg n * 4) + 0 = _
    omega
  rw [e]
  have hl : (8 * dg n).log2 = 55 := log2_of (by show 36028797018963968 ≤ _; omega) (by show _ < 72057594037927936; omega)
  rw [near_is (by omega) _ ((n.log2 : Int) - 55) (by rw [hl]; omega)]
  have l2 : ((n.log2 : Int) - (3 : Nat) - 55 - ((n.log2 : Int) - 55)).toNat = 0 := by omega
  have l3 : ((n.log2 : Int) - 55 - ((n.log2 : Int) - (3 : Nat) - 55)).toNat = 3 := by omega
  have l4 : ((n.log2 : Int) - 55 - -1074).toNat = n.log2 + 1019 := by omega
  rw [l2, l3, l4, Nat.shiftLeft_zero, cut_three]
  unfold yb
  omega
theorem yb_lt {n : Nat} (h0 : 0 < n) (h : n ≤ 1073741824) : yb n < 9218868437227405312 ∧ rg (yb n) = yb n ∧ sg (yb n) = false ∧ nn (yb n) = false := by
  have hL := log_lt h0 h
  have hd := dg_range h0 (by omega)
  have h1 : yb n < 9218868437227405312 := by unfold yb; omega
  have h2 : rg (yb n) = yb n := Nat.mod_eq_of_lt (by omega)
  refine ⟨h1, h2, ?_, ?_⟩
  · unfold sg; rw [Nat.div_eq_of_lt (by omega)]; rfl
  · unfold nn; rw [h2]; exact decide_eq_false (by omega)
theorem yb_neg {n : Nat} (h0 : 0 < n) (h : n ≤ 1073741824) : Op.negFloat .f64 (yb n) = yb n + 9223372036854775808 := by
  obtain ⟨h1, h2, h3, h4⟩ := yb_lt h0 h
  rw [neg_is (by omega), h2, h3]; rfl

theorem bitLenAux_is : ∀ (f k x : Nat), k < f → 2 ^ k ≤ x → x < 2 ^ (k + 1) → Lib.bitLenAux f x = k + 1
  | 0, k, x, h, _, _ => by omega
  | f + 1, 0, x, h, h1, h2 => by
    have : x = 1 := by simp at h1 h2; omega
    subst this
    unfold Lib.bitLenAux
    rw [if_neg (by omega)]
    cases f <;> simp [Lib.bitLenAux]
  | f + 1, k + 1, x, h, h1, h2 => by
    unfold Lib.bitLenAux
    have := Nat.two_pow_pos (k + 1)
    rw [if_neg (by omega), bitLenAux_is f k (x / 2) (by omega) (by rw [Nat.le_div_iff_mul_le (by omega), ← Nat.pow_succ]; exact h1) (by rw [Nat.div_lt_iff_lt_mul (by omega), ← Nat.pow_succ]; exact h2)]
    omega
theorem dg_bits {n : Nat} (h0 : 0 < n) (h : n < 9007199254740992) : Lib.bitLen (dg n) = 53 := by
  have hd := dg_range h0 h
  exact bitLenAux_is 64 52 (dg n) (by decide) (by show 4503599627370496 ≤ _; omega) (by show _ < 9007199254740992; omega)

theorem prod3 {n : Nat} (h0 : 0 < n) (h : n ≤ 1073741824) : dg n * 2048 * 18014398509481984000 = 500 * n * 2 ^ (54 - n.log2) * 18446744073709551616 := by
  have hL := log_lt h0 h
  unfold dg
  have e : 2 ^ (54 - n.log2) = 2 ^ (52 - n.log2) * 4 := by rw [show 54 - n.log2 = (52 - n.log2) + 2 by omega, Nat.pow_add]
  rw [e]
  generalize 2 ^ (52 - n.log2) = z
  have : n * z * 2048 * 18014398509481984000 = (n * z) * (2048 * 18014398509481984000) := by rw [Nat.mul_assoc]
  rw [this]
  have : 500 * n * (z * 4) * 18446744073709551616 = (n * z) * (500 * 4 * 18446744073709551616) := by
    rw [Nat.mul_comm 500 n]
    simp only [Nat.mul_assoc, Nat.mul_left_comm, Nat.mul_comm]
  rw [this]
theorem prod4 {n : Nat} (h0 : 0 < n) (h : n ≤ 1073741824) : dg n * 2048 * 11258999068426240000 = 10 * (500 * n) * 2 ^ (50 - n.log2) * 18446744073709551616 := by
  have hL := log_lt h0 h
  unfold dg
  have e : 2 ^ (52 - n.log2) = 2 ^ (50 - n.log2) * 4 := by rw [show 52 - n.log2 = (50 - n.log2) + 2 by omega, Nat.pow_add]
  rw [e]
  generalize 2 ^ (50 - n.log2) = z
  have : n * (z * 4) * 2048 * 11258999068426240000 = (n * z) * (4 * 2048 * 11258999068426240000) := by simp only [Nat.mul_assoc]
  rw [this]
  have : 10 * (500 * n) * z * 18446744073709551616 = (n * z) * (10 * 500 * 18446744073709551616) := by
    rw [← Nat.mul_assoc 10 500 n, Nat.mul_comm (10 * 500) n]
    simp only [Nat.mul_assoc, Nat.mul_left_comm, Nat.mul_comm]
  rw [this]
theorem top3 {n : Nat} (h0 : 0 < n) (h : n ≤ 1073741824) : 500 * n * 2 ^ (54 - n.log2) < 18446744073709551616 ∧ n < 2 ^ (n.log2 + 1) := by
  have hL := log_lt h0 h
  have hd := (dg_range h0 (by omega)).2
  have h2 := Nat.lt_log2_self (n := n)
  refine ⟨?_, h2⟩
  have e : 2 ^ (54 - n.log2) = 2 ^ (52 - n.log2) * 4 := by rw [show 54 - n.log2 = (52 - n.log2) + 2 by omega, Nat.pow_add]
  unfold dg at hd
  rw [e, Nat.mul_assoc 500, ← Nat.mul_assoc n]
  omega
theorem top4 {n : Nat} (h0 : 0 < n) (h : n ≤ 1073741824) : 10 * (500 * n) * 2 ^ (50 - n.log2) < 18446744073709551616 := by
  have hL := log_lt h0 h
  have hd := (dg_range h0 (by omega)).2
  have e : 2 ^ (52 - n.log2) = 2 ^ (50 - n.log2) * 4 := by rw [show 52 - n.log2 = (50 - n.log2) + 2 by omega, Nat.pow_add]
  unfold dg at hd
  rw [e, ← Nat.mul_assoc] at hd
  rw [← Nat.mul_assoc 10 500 n, Nat.mul_assoc (10 * 500)]
  omega
end Fl
end Go.Proofs.YtohjpclpeiidfaaDoor
