/- Plain facts on floats: the document's classes, the order, signs, quotients. -/
import Derived.Test.YtohjpclpeiidfaaP
import Derived.Laws.NewFold
import Derived.Laws.BitsAllLaws
namespace Go.Proofs.Ytohjpclpeiidfaa
set_option linter.unusedVariables false
set_option linter.unusedSimpArgs false
namespace Fl

/-- Where a number stands: from 0 (the infinite one below nought) to 6 (none). -/
def cls (a : Nat) : Int :=
  if nn a then 6 else if rg a = 0 then (if sg a then 2 else 3)
  else if sg a then (if rg a = 9218868437227405312 then 0 else 1) else (if rg a = 9218868437227405312 then 5 else 4)
def less (a b : Nat) : Bool := decide (ky a < ky b)

theorem cls_less (a b : Nat) : (decide (cls a < cls b) || (decide (cls a = cls b) && lt a b)) = less a b := by
  rw [lt_is]
  have ha := rg_lt a
  have hb := rg_lt b
  have na : nn a = false → rg a ≤ 9218868437227405312 := not_nn
  have nb : nn b = false → rg b ≤ 9218868437227405312 := not_nn
  unfold less cls ky vl
  cases h1 : nn a <;> cases h2 : nn b <;> simp only [Bool.false_eq_true, if_true, if_false, Bool.not_true, Bool.not_false, Bool.true_and, Bool.false_and, Bool.and_false, Bool.or_false, reduceCtorEq, forall_const, h1, h2] at na nb ⊢
  · cases h3 : sg a <;> cases h4 : sg b <;> simp only [Bool.false_eq_true, if_true, if_false] <;>
      by_cases c1 : rg a = 0 <;> by_cases c2 : rg b = 0 <;> by_cases c3 : rg a = 9218868437227405312 <;> by_cases c4 : rg b = 9218868437227405312 <;>
      simp only [c1, c2, c3, c4, if_true, if_false] <;> (rw [Bool.eq_iff_iff]; simp only [Bool.or_eq_true, Bool.and_eq_true, decide_eq_true_eq, true_and]; try omega)
  · cases h3 : sg a <;> simp only [Bool.false_eq_true, if_true, if_false] <;>
      by_cases c1 : rg a = 0 <;> by_cases c3 : rg a = 9218868437227405312 <;>
      simp only [c1, c3, if_true, if_false] <;> (rw [Bool.eq_iff_iff]; simp only [Bool.or_eq_true, Bool.and_eq_true, decide_eq_true_eq]; omega)
  · cases h3 : sg b <;> simp only [Bool.false_eq_true, if_true, if_false] <;>
      by_cases c1 : rg b = 0 <;> by_cases c3 : rg b = 9218868437227405312 <;>
      simp only [c1, c3, if_true, if_false] <;> (rw [Bool.eq_iff_iff]; simp only [Bool.or_eq_true, Bool.and_eq_true, decide_eq_true_eq]; omega)
  · decide

/-- Our own order is the document's. -/
theorem less_is (a b : Nat) : (if nn a then false else if nn b then true else if eq a b then (sg a && !sg b) else lt a b) = less a b := by
  rw [lt_is, eq_is]
  have ha := rg_lt a
  have hb := rg_lt b
  have na : nn a = false → rg a ≤ 9218868437227405312 := not_nn
  have nb : nn b = false → rg b ≤ 9218868437227405312 := not_nn
  unfold less ky vl
  cases h1 : nn a <;> cases h2 : nn b <;> simp only [Bool.false_eq_true, if_true, if_false, Bool.not_true, Bool.not_false, Bool.true_and, Bool.false_and, Bool.and_false, Bool.or_false, reduceCtorEq, forall_const, h1, h2] at na nb ⊢
  · cases h3 : sg a <;> cases h4 : sg b <;> simp only [Bool.false_eq_true, if_true, if_false, Bool.not_true, Bool.not_false, Bool.and_true, Bool.and_false] <;>
      (split <;> rename_i h5 <;> simp only [decide_eq_true_eq] at h5 <;> rw [Bool.eq_iff_iff] <;> simp only [decide_eq_true_eq, Bool.false_eq_true, true_iff, false_iff] <;> omega)
  · cases h3 : sg a <;> simp only [Bool.false_eq_true, if_true, if_false] <;> (rw [Bool.eq_iff_iff]; simp only [decide_eq_true_eq, true_iff]; omega)
  · cases h3 : sg b <;> simp only [Bool.false_eq_true, if_true, if_false] <;> (rw [Bool.eq_iff_iff]; simp only [decide_eq_true_eq, Bool.false_eq_true, false_iff]; omega)
  · decide

theorem less_trans {a b c : Nat} (h1 : less a b = true) (h2 : less b c = true) : less a c = true := by
  unfold less at *; simp only [decide_eq_true_eq] at *; omega
theorem less_not {a b : Nat} (h1 : less a b = true) : less b a = false := by
  unfold less at *; simp only [decide_eq_true_eq, decide_eq_false_iff_not] at *; omega

/-- Whether two numbers stand at one place. -/
theorem same_is (a b : Nat) : (!less a b && !less b a) = decide (ky a = ky b) := by
  unfold less; rw [Bool.eq_iff_iff]; simp only [Bool.and_eq_true, Bool.not_eq_true', decide_eq_true_eq, decide_eq_false_iff_not]; omega

/-- The class is the place's own. -/
theorem cls_ky {a b : Nat} (h : ky a = ky b) : cls a = cls b := by
  have ha := rg_lt a
  have hb := rg_lt b
  have na : nn a = false → rg a ≤ 9218868437227405312 := not_nn
  have nb : nn b = false → rg b ≤ 9218868437227405312 := not_nn
  unfold ky at h
  unfold cls
  cases h1 : nn a <;> cases h2 : nn b <;> cases h3 : sg a <;> cases h4 : sg b <;> simp only [h1, h2, h3, h4, Bool.false_eq_true, if_true, if_false, reduceCtorEq, forall_const] at h na nb ⊢ <;>
    first
    | rfl
    | (exfalso; omega)
    | (have e : rg a = rg b := by omega
       rw [e])

/-- A quotient as data: 'none': no number. -/
def dv (a b : Nat) : Option Nat := dbl.div a b
/-- The place of a quotient. -/
def kq (a b : Nat) : Int := match dv a b with | some r => ky r | none => 9223372036854775808

theorem nan_word (t : Nat) : nn ((t % 2) * 2 ^ 63 + 0x7ff0000000000000 + 1 + (t / 2) % (2 ^ 52 - 1)) = true ∧ (t % 2) * 2 ^ 63 + 0x7ff0000000000000 + 1 + (t / 2) % (2 ^ 52 - 1) < 18446744073709551616 := by
  have h1 : (t / 2) % (2 ^ 52 - 1) < 2 ^ 52 - 1 := Nat.mod_lt _ (by decide)
  have h2 : t % 2 < 2 := Nat.mod_lt _ (by decide)
  unfold nn rg
  generalize (t / 2) % (2 ^ 52 - 1) = x at *
  generalize t % 2 = y at *
  simp only [decide_eq_true_eq]
  constructor <;> omega

end Fl
end Go.Proofs.Ytohjpclpeiidfaa
