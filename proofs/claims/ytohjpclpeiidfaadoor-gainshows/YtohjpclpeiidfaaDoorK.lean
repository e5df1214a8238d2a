/- Contract of how a float's digits are reckoned, where nothing is left over. -/
import Derived.Test.YtohjpclpeiidfaaDoorJ
import Derived.Test.YtohjpclpeiidfaaDoorShelf
namespace Go.Proofs.YtohjpclpeiidfaaDoor
open Go.RowKit Go.PlainAid
set_option linter.unusedSimpArgs false
set_option linter.unusedVariables false
namespace Fl

theorem and63' (k : Nat) (h : k < 64) : bits .and .i64 (k : Int) 63 = k := by
  have := and_nat k 63 (by omega)
  rw [show k &&& 63 = k % 64 from Nat.and_two_pow_sub_one_eq_mod k 6, Nat.mod_eq_of_lt h] at this
  exact this
set_option maxHeartbeats 2000000 in
set_option maxRecDepth 100000 in
theorem uscale56 (X HI U k D : Nat) (w : World) (hX : X < 18446744073709551616) (hH : HI < 18446744073709551616) (hk : k < 64)
    (hD : w.heap[D]? = some (.cells #[.int .u64 HI, .int .u64 0, .int .i64 k] 79 (0, 0)))
    (h1 : X * HI / 18446744073709551616 = U * 2 ^ k) (h2 : X * HI % 18446744073709551616 = 0) (h3 : U * 2 ^ k < 18446744073709551616) :
    Calls Tryd.prog 56 #[.int .u64 X, .pointer (some ⟨D, 0, none⟩)] w fun e w' => e = .returned (.int .u64 U) ∧ Below w.heap.size w w' := by
  have c0 : w.cell? ⟨D, 0, none⟩ = some (.int .u64 HI) := by simp [World.cell?, hD]
  have c1 : w.cell? ⟨D, 1, none⟩ = some (.int .u64 0) := by simp [World.cell?, hD]
  have c2 : w.cell? ⟨D, 2, none⟩ = some (.int .i64 k) := by simp [World.cell?, hD]
  have M1 := Lib.hid fun w => Tryd.bits_Mul64 X HI hX hH w
  rw [h1, h2] at M1
  have M2 : Hid (∀ w, Calls Tryd.prog 73 #[.int .u64 X, .int .u64 0] w fun e w' => e = .returned (.tuple #[.int .u64 0, .int .u64 0]) ∧ w' = w) := Lib.hid fun w => by
    have := Tryd.bits_Mul64 X 0 hX (by decide) w
    rw [Nat.mul_zero] at this
    exact this
  have f1 := and63' k hk
  have hp : 0 < 2 ^ k := Nat.two_pow_pos k
  have hU : U < 18446744073709551616 := Nat.lt_of_le_of_lt (Nat.le_mul_of_pos_right U hp) h3
  have B0 : Hid (∀ w, Calls Tryd.prog 74 #[.bool false] w fun e w' => e = .returned (.int .u64 0) ∧ w' = w) := Lib.hid fun w => bool74 false w
  have HB := Lib.hid (fun n => bel_drew w n)
  have d1 : ((U * 2 ^ k : Nat) : Int) / 2 ^ k = U := by
    rw [Int.natCast_mul, Int.natCast_pow]
    exact Int.mul_ediv_cancel _ (by have : ((2:Int) ^ k) = ((2 ^ k : Nat) : Int) := by simp
                                    rw [show ((2:Nat) : Int) = 2 from rfl, this]; omega)
  have d2 : IntKind.u64.wrap ((U : Int) * 2 ^ k) = ((U * 2 ^ k : Nat) : Int) := by
    rw [show IntKind.u64.wrap ((U : Int) * 2 ^ k) = ((U : Int) * 2 ^ k) % 18446744073709551616 by simp [IntKind.wrap, IntKind.bits, IntKind.signed]]
    rw [show (U : Int) * 2 ^ k = ((U * 2 ^ k : Nat) : Int) by simp]
    rw [Int.emod_eq_of_lt (by omega) (by omega)]
  have f2 := or_zero hU
  clear hX hH hD h1 h2
  generalize U * 2 ^ k = H0 at *
  go_enter Tryd.func56, Tryd.ntmps56
  go_wp2_with (first
    | (go_at_call 73; (first
      | ((with_reducible refine (M1.out _).mono ?_); rintro e w' ⟨rfl, rfl⟩)
      | ((with_reducible refine (M2.out _).mono ?_); rintro e w' ⟨rfl, rfl⟩)))
    | (go_at_call 74; (with_reducible refine (B0.out _).mono ?_); rintro e w' ⟨rfl, rfl⟩))
  go_quiet ((go_at_call 74; refine Calls.quiet_of_same (B0.out _)))
  go_wp2
  go_ret
  exact ⟨rfl, HB.out _⟩
end Fl
end Go.Proofs.YtohjpclpeiidfaaDoor
