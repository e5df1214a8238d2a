/- Plain facts on a float with its sign turned. -/
import Derived.Test.YtohjpclpeiidfaaDoorL
namespace Go.Proofs.YtohjpclpeiidfaaDoor
open Go.RowKit Go.PlainAid
set_option linter.unusedSimpArgs false
set_option linter.unusedVariables false
namespace Fl
@[go_sem] theorem run_neg (b : Nat) (w : World) : (Op.unary .neg (.float .f64 b)).run Tryd.prog w = .ok (.float .f64 (Op.negFloat .f64 b)) w := rfl
theorem word_of {a : Nat} (h : a < 18446744073709551616) : a = rg a + if sg a then 9223372036854775808 else 0 := by
  have e : sg a = true ∨ sg a = false := by cases sg a <;> simp
  rcases e with e | e
  · rw [e]; simp only [if_true]
    unfold sg at e; simp only [beq_iff_eq] at e
    unfold rg; omega
  · rw [e]; simp only [Bool.false_eq_true, if_false]
    unfold sg at e; simp only [beq_eq_false_iff_ne, ne_eq] at e
    unfold rg; omega
theorem xor_top {r : Nat} (hr : r < 9223372036854775808) : r ^^^ 9223372036854775808 = r + 9223372036854775808 := by
  have h2 := Nat.two_pow_add_eq_or_of_lt (i := 63) (b := r) hr 1
  have h3 : r ^^^ 9223372036854775808 = r ||| 9223372036854775808 := by
    refine Nat.eq_of_testBit_eq fun i => ?_
    rw [Nat.testBit_xor, Nat.testBit_or, show (9223372036854775808 : Nat) = 2 ^ 63 from rfl, Nat.testBit_two_pow]
    by_cases c : 63 = i
    · subst c
      rw [Nat.testBit_lt_two_pow hr]; rfl
    · rw [decide_eq_false c, Bool.xor_false, Bool.or_false]
  rw [h3, Nat.or_comm, Nat.add_comm]
  exact h2.symm
theorem neg_is {a : Nat} (h : a < 18446744073709551616) : Op.negFloat .f64 a = rg a + if sg a then 0 else 9223372036854775808 := by
  show a ^^^ 9223372036854775808 = _
  have hr := rg_lt a
  have e := word_of h
  cases hs : sg a
  · rw [hs] at e
    simp only [Bool.false_eq_true, if_false, Nat.add_zero] at e ⊢
    rw [← xor_top hr, ← e]
  · rw [hs] at e
    simp only [if_true, Nat.add_zero] at e ⊢
    rw [← xor_top hr] at e
    generalize rg a = r at *
    rw [e, Nat.xor_assoc, Nat.xor_self, Nat.xor_zero]
theorem rg_neg {a : Nat} (h : a < 18446744073709551616) : rg (Op.negFloat .f64 a) = rg a := by
  have := rg_lt a
  rw [neg_is h]
  cases sg a
  · simp only [Bool.false_eq_true, if_false]
    show (rg a + 9223372036854775808) % 9223372036854775808 = rg a
    omega
  · simp only [if_true, Nat.add_zero]; exact rg_rg a
theorem sg_neg {a : Nat} (h : a < 18446744073709551616) : sg (Op.negFloat .f64 a) = !sg a := by
  have := rg_lt a
  rw [neg_is h]
  cases hs : sg a
  · simp only [Bool.false_eq_true, if_false]
    show ((rg a + 9223372036854775808) / 9223372036854775808 % 2 == 1) = true
    simp only [beq_iff_eq]
    omega
  · simp only [if_true, Nat.add_zero]; exact sg_rg a
theorem nn_neg {a : Nat} (h : a < 18446744073709551616) : nn (Op.negFloat .f64 a) = nn a := by unfold nn; rw [rg_neg h]

end Fl
end Go.Proofs.YtohjpclpeiidfaaDoor
