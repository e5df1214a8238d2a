/- Contracts of what is asked of floats. -/
import Derived.Test.YtohjpclpeiidfaaQ
import Derived.Test.YtohjpclpeiidfaaBy
import Derived.WalkLawsBesides
namespace Go.Proofs.Ytohjpclpeiidfaa
open Go.RowKit Go.PlainAid
set_option linter.unusedSimpArgs false
set_option linter.unusedVariables false
namespace Fl

@[go_sem] theorem bits36 (a : Nat) (w : World) : (callFunc 36 #[.float .f64 a]).run Try.prog w = .ok (.value (.int .u64 a)) w := by
  rw [run_callFunc_extern (e := Extern.MathFloatBits.float64bits) Try.func36 (by kernel_rfl) (by kernel_rfl) (by kernel_rfl) (by kernel_rfl)]
  rfl
@[go_sem] theorem from37 (a : Int) (w : World) : (callFunc 37 #[.int .u64 a]).run Try.prog w = .ok (.value (.float .f64 a.toNat)) w := by
  rw [run_callFunc_extern (e := Extern.MathFloatBits.float64frombits) Try.func37 (by kernel_rfl) (by kernel_rfl) (by kernel_rfl) (by kernel_rfl)]
  rfl

theorem wrap_neg {a : Nat} (h : a < 18446744073709551616) : decide (wrap64 (a : Int) < 0) = sg a := by
  unfold wrap64 sg
  rw [Bool.eq_iff_iff]
  simp only [decide_eq_true_eq, beq_iff_eq]
  omega

theorem signbit26 (a : Nat) (w : World) (ha : a < 18446744073709551616) :
    Calls Try.prog 26 #[.float .f64 a] w fun e w' => e = .returned (.bool (sg a)) ∧ w' = w := by
  have h := Lib.hid (wrap_neg ha)
  go_enter Try.func26, Try.ntmps26
  go_wp2
  rw [show decide (wrap64 (a : Int) < 0) = sg a from h]
  go_ret
  exact ⟨rfl, rfl⟩

/-- The size of one number with the sign of another. -/
def cps (a b : Nat) : Nat := rg a + if sg b then 9223372036854775808 else 0
theorem not_top {a : Nat} (h : a < 18446744073709551616) : bits .andNot .u64 (a : Int) 9223372036854775808 = ((rg a : Nat) : Int) := by
  have := u64_andNot_nat a 9223372036854775808 h (by decide)
  rw [show (18446744073709551615 - 9223372036854775808 : Nat) = 2 ^ 63 - 1 from rfl, Nat.and_two_pow_sub_one_eq_mod] at this
  exact this
theorem and_top (a : Nat) : a &&& 2 ^ 63 = if sg a then 9223372036854775808 else 0 := by
  have e : a.testBit 63 = sg a := by
    rw [Nat.testBit_eq_decide_div_mod_eq]; unfold sg; rw [Bool.eq_iff_iff]; simp
  rw [← e]
  refine Nat.eq_of_testBit_eq fun i => ?_
  rw [Nat.testBit_and, Nat.testBit_two_pow]
  by_cases h : 63 = i
  · subst h
    cases a.testBit 63
    · simp
    · simp only [decide_true, Bool.and_true, if_true]; rfl
  · rw [decide_eq_false h, Bool.and_false]
    cases a.testBit 63
    · simp
    · simp only [if_true]
      rw [show (9223372036854775808 : Nat) = 2 ^ 63 from rfl, Nat.testBit_two_pow, decide_eq_false h]
theorem top {a : Nat} (h : a < 18446744073709551616) : bits .and .u64 (a : Int) 9223372036854775808 = (((if sg a then 9223372036854775808 else 0 : Nat) : Nat) : Int) := by
  have := u64_and_nat a 9223372036854775808 h (by decide)
  rw [show a &&& 9223372036854775808 = a &&& 2 ^ 63 from rfl, and_top] at this
  exact this
theorem both {r t : Nat} (hr : r < 9223372036854775808) (ht : t = 9223372036854775808 ∨ t = 0) : bits .or .u64 (r : Int) (t : Int) = ((r + t : Nat) : Int) := by
  rcases ht with rfl | rfl
  · rw [u64_or_nat r _ (by omega) (by decide)]
    have := Nat.two_pow_add_eq_or_of_lt (i := 63) (b := r) hr 1
    rw [Nat.or_comm, Nat.add_comm]
    exact congrArg _ this.symm
  · rw [u64_or_nat r 0 (by omega) (by decide), Nat.or_zero, Nat.add_zero]
theorem cps_word {a b : Nat} (ha : a < 18446744073709551616) (hb : b < 18446744073709551616) :
    (bits .or .u64 (bits .andNot .u64 (a : Int) 9223372036854775808) (bits .and .u64 (b : Int) 9223372036854775808)).toNat = cps a b := by
  rw [not_top ha, top hb, both (rg_lt a) (by cases sg b <;> simp)]
  rfl
theorem copysign28 (a b : Nat) (w : World) (ha : a < 18446744073709551616) (hb : b < 18446744073709551616) :
    Calls Try.prog 28 #[.float .f64 a, .float .f64 b] w fun e w' => e = .returned (.float .f64 (cps a b)) ∧ w' = w := by
  have h := cps_word ha hb
  go_enter Try.func28, Try.ntmps28
  go_wp2
  go_ret
  exact ⟨rfl, rfl⟩
theorem inf32 (a : Int) (w : World) :
    Calls Try.prog 32 #[.int .i64 a] w fun e w' => e = .returned (.float .f64 (if 0 ≤ a then 9218868437227405312 else 18442240474082181120)) ∧ w' = w := by
  go_enter Try.func32, Try.ntmps32
  go_wp2
  all_goals (go_ret; first | exact ⟨by simp_all, rfl⟩ | exact ⟨by simp [show ¬ 0 ≤ a by omega], rfl⟩)
theorem nan31 (w : World) :
    Calls Try.prog 31 #[] w fun e w' => e = .returned (.float .f64 9221120237041090561) ∧ w' = w := by
  go_enter Try.func31, Try.ntmps31
  go_wp2
  go_ret; exact ⟨rfl, rfl⟩
theorem isnan25 (a : Nat) (w : World) :
    Calls Try.prog 25 #[.float .f64 a] w fun e w' => e = .returned (.bool (nn a)) ∧ w' = w := by
  have h : (FloatKind.f64.format.order a a != some .eq) = nn a := by
    have := @eq_is a a
    unfold eq at this
    rw [bne, this]; cases nn a <;> simp
  go_enter Try.func25, Try.ntmps25
  go_wp2
  go_ret; exact ⟨rfl, rfl⟩
theorem abs45 (a : Nat) (w : World) (ha : a < 18446744073709551616) :
    Calls Try.prog 45 #[.float .f64 a] w fun e w' => e = .returned (.float .f64 (rg a)) ∧ w' = w := by
  have h : (bits .andNot .u64 (a : Int) 9223372036854775808).toNat = rg a := by rw [not_top ha]; rfl
  go_enter Try.func45, Try.ntmps45
  go_wp2
  go_ret; exact ⟨rfl, rfl⟩
theorem rg_rg (a : Nat) : rg (rg a) = rg a := Nat.mod_mod ..
theorem sg_rg (a : Nat) : sg (rg a) = false := by unfold sg; rw [Nat.div_eq_of_lt (rg_lt a)]; rfl
theorem nn_rg (a : Nat) : nn (rg a) = nn a := by unfold nn; rw [rg_rg]
/-- Is a number an infinite one? -/
theorem isinf_is (a : Nat) : (FloatKind.f64.format.order (rg a) 9218868437227405311 == some .gt) = decide (rg a = 9218868437227405312) := by
  rw [gt_is, nn_rg]
  have h1 : nn 9218868437227405311 = false := rfl
  have h2 : vl 9218868437227405311 = 9218868437227405311 := rfl
  have h3 : vl (rg a) = rg a := by unfold vl; rw [sg_rg, rg_rg]; rfl
  have h4 : nn a = false → rg a ≤ 9218868437227405312 := not_nn
  have h5 : nn a = true → 9218868437227405312 < rg a := by intro h; simpa [nn] using h
  rw [h1, h2, h3]
  rw [Bool.eq_iff_iff]
  cases h : nn a <;> simp only [h, reduceCtorEq, forall_const, Bool.not_false, Bool.not_true, Bool.true_and, Bool.false_and, decide_eq_true_eq, Bool.false_eq_true, false_iff] at h4 h5 ⊢ <;> omega
theorem isinf42 (a : Nat) (w : World) (ha : a < 18446744073709551616) :
    Calls Try.prog 42 #[.float .f64 a, .int .i64 0] w fun e w' => e = .returned (.bool (decide (rg a = 9218868437227405312))) ∧ w' = w := by
  have h := isinf_is a
  go_enter Try.func42, Try.ntmps42
  go_wp2_with (go_at_call 45; refine (abs45 a _ ha).mono ?_; rintro _ _ ⟨rfl, rfl⟩)
  go_ret; exact ⟨rfl, rfl⟩
theorem finite34 (a : Nat) (w : World) (ha : a < 18446744073709551616) :
    Calls Try.prog 34 #[.float .f64 a] w fun e w' => e = .returned (.bool (!decide (rg a = 9218868437227405312) && !nn a)) ∧ w' = w := by
  go_enter Try.func34, Try.ntmps34
  go_wp2_with (first | (go_at_call 42; refine (isinf42 a _ ha).mono ?_; rintro _ _ ⟨rfl, rfl⟩) | (go_at_call 25; refine (isnan25 a _).mono ?_; rintro _ _ ⟨rfl, rfl⟩))
  all_goals (go_ret; exact ⟨by simp_all, rfl⟩)
end Fl
end Go.Proofs.Ytohjpclpeiidfaa
