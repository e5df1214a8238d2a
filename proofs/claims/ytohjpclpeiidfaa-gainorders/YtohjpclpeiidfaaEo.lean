/- Contract of Encoded. Condition: at most 3000 bytes. -/
import Derived.Test.YtohjpclpeiidfaaUf
namespace Go.Proofs.Ytohjpclpeiidfaa
open Go.RowKit Go.PlainAid
set_option linter.unusedSimpArgs false
set_option linter.unusedVariables false
namespace Uu
set_option maxHeartbeats 1000000 in
set_option maxRecDepth 100000 in
theorem count41 (n : Nat) (h : n ≤ 100000) (w : World) : Calls Try.prog 43 #[.int .i64 n] w fun e w' => e = .returned (.int .i64 ((n + 2) / 3 * 4 : Nat)) ∧ w = w' := by
  have HE : Hid ((((n + 2) / 3 * 4 : Nat) : Int) = ((n : Int) + 2) / 3 * 4) := Lib.hid (by omega)
  rw [HE.out]
  go_enter Try.func43, Try.ntmps43
  go_wp2
  go_ret
  exact ⟨rfl, rfl⟩
set_option maxHeartbeats 1000000 in
set_option maxRecDepth 100000 in
theorem size28 (n : Nat) (h : n ≤ 100000) (w : World) : Calls Try.prog 38 #[.int .i64 n] w fun e w' => e = .returned (.int .i64 (2 + (n + 2) / 3 * 4 : Nat)) ∧ w = w' := by
  have C := Lib.hid fun w => count41 n h w
  have hb : (n + 2) / 3 * 4 ≤ 1000000 := by omega
  have HE : Hid (((2 + (n + 2) / 3 * 4 : Nat) : Int) = 1 + (((n + 2) / 3 * 4 : Nat) : Int) + 1) := Lib.hid (by omega)
  rw [HE.out]
  generalize (n + 2) / 3 * 4 = m at C hb ⊢
  go_enter Try.func38, Try.ntmps38
  go_wp2_with (go_at_call 43; refine (C.out _).mono ?_; rintro e w' ⟨rfl, rfl⟩)
  go_ret
  exact ⟨rfl, rfl⟩
def sizeR (n : Nat) : Nat := n / 45 * 62 + 6 + if 0 < n % 45 then 2 + (n % 45 + 2) / 3 * 4 else 0
set_option maxHeartbeats 2000000 in
set_option maxRecDepth 100000 in
theorem encoded12 (n : Nat) (h : n ≤ 3000) (w : World) : Calls Try.prog 29 #[.int .i64 n] w fun e w' => e = .returned (.int .i64 (sizeR n : Nat)) ∧ w = w' := by
  have C1 : Hid (∀ w, Calls Try.prog 38 #[.int .i64 45] w fun e w' => e = .returned (.int .i64 62) ∧ w = w') := Lib.hid fun w => size28 45 (by omega) w
  have C2 : Hid (∀ w, Calls Try.prog 38 #[.int .i64 0] w fun e w' => e = .returned (.int .i64 2) ∧ w = w') := Lib.hid fun w => size28 0 (by omega) w
  have C3 := Lib.hid fun w => size28 (n % 45) (by omega) w
  rw [show ((n % 45 : Nat) : Int) = (n : Int) % 45 by omega] at C3
  by_cases hr : 0 < n % 45
  · have hM : 2 + (n % 45 + 2) / 3 * 4 ≤ 100 := by omega
    have HE : Hid (((sizeR n : Nat) : Int) = (n : Int) / 45 * 62 + 2 + 4 + ((2 + (n % 45 + 2) / 3 * 4 : Nat) : Int)) := Lib.hid (by unfold sizeR; rw [if_pos hr]; omega)
    rw [HE.out]
    generalize 2 + (n % 45 + 2) / 3 * 4 = M at C3 hM ⊢
    have hr' : (0 : Int) < (n : Int) % 45 := by omega
    go_enter Try.func29, Try.ntmps29
    go_wp2_with (go_at_call 38; (first
      | ((with_reducible refine (C1.out _).mono ?_); rintro e w' ⟨rfl, rfl⟩)
      | ((with_reducible refine (C2.out _).mono ?_); rintro e w' ⟨rfl, rfl⟩)
      | ((with_reducible refine (C3.out _).mono ?_); rintro e w' ⟨rfl, rfl⟩)))
    go_ret
    exact ⟨rfl, rfl⟩
  · have HE : Hid (((sizeR n : Nat) : Int) = (n : Int) / 45 * 62 + 2 + 4) := Lib.hid (by unfold sizeR; rw [if_neg hr]; omega)
    rw [HE.out]
    have hr' : ¬ ((0 : Int) < (n : Int) % 45) := by omega
    go_enter Try.func29, Try.ntmps29
    go_wp2_with (go_at_call 38; (first
      | ((with_reducible refine (C1.out _).mono ?_); rintro e w' ⟨rfl, rfl⟩)
      | ((with_reducible refine (C2.out _).mono ?_); rintro e w' ⟨rfl, rfl⟩)
      | ((with_reducible refine (C3.out _).mono ?_); rintro e w' ⟨rfl, rfl⟩)))
    go_ret
    exact ⟨rfl, rfl⟩

end Uu
end Go.Proofs.Ytohjpclpeiidfaa
