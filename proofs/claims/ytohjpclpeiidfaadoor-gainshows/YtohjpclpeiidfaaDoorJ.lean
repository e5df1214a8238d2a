/- Plain facts on eighths, and small contracts of how a float is told. -/
import Derived.Test.YtohjpclpeiidfaaDoorI
import Derived.Deep.QuietTactic
import Derived.BigQuiet
namespace Go.Proofs.YtohjpclpeiidfaaDoor
open Go.RowKit Go.PlainAid
set_option linter.unusedSimpArgs false
set_option linter.unusedVariables false
namespace Fl

def l10 (x : Int) : Int := x * 78913 / 262144
def nL (L : Nat) : Int := if 3 ≤ L then 1 + l10 (1 + ((L : Int) - 3)) + 3 else 1 + 3 - l10 (-((L : Int) - 3))
def pL (L : Nat) : Int := nL L - 1 - l10 ((L : Int) - 3)
theorem table : ∀ L, L < 31 → (pL L = 3 ∧ 4 ≤ nL L ∧ nL L ≤ 18 ∧ 500 * 2 ^ (L + 1) + 2 ≤ 4 * 10 ^ (nL L).toNat) ∨ (pL L = 4 ∧ 4 ≤ nL L ∧ nL L ≤ 18) := by decide +kernel

set_option maxHeartbeats 1000000 in
set_option maxRecDepth 100000 in
theorem log43 (x : Int) (h1 : -64 ≤ x) (h2 : x ≤ 64) (w : World) : Calls Tryd.prog 43 #[.int .i64 x] w fun e w' => e = .returned (.int .i64 (l10 x)) ∧ w = w' := by
  have HE : Hid (l10 x = x * 78913 / 262144) := Lib.hid rfl
  have hw : IntKind.i64.wrap (x * 78913) = x * 78913 := by rw [IntKind.wrap_i64]; omega
  have hw' : wrap64 (x * 78913) = x * 78913 := by unfold wrap64; omega
  go_enter Tryd.func43, Tryd.ntmps43
  go_wp2
  go_ret
  exact ⟨by rw [HE.out]; rfl, rfl⟩
theorem log55_3 (w : World) : Calls Tryd.prog 55 #[.int .i64 3] w fun e w' => e = .returned (.int .i64 9) ∧ w = w' := by
  go_enter Tryd.func55, Tryd.ntmps55
  go_wp2
  go_ret
  exact ⟨rfl, rfl⟩
theorem log55_4 (w : World) : Calls Tryd.prog 55 #[.int .i64 4] w fun e w' => e = .returned (.int .i64 13) ∧ w = w' := by
  go_enter Tryd.func55, Tryd.ntmps55
  go_wp2
  go_ret
  exact ⟨rfl, rfl⟩
theorem unmin63 (x : Nat) (h : x ≤ 1000000000000000000) (h0 : 1 ≤ x) (w : World) : Calls Tryd.prog 63 #[.int .u64 x] w fun e w' => e = .returned (.int .u64 (4 * x - 2 : Int)) ∧ w = w' := by
  go_enter Tryd.func63, Tryd.ntmps63
  go_wp2
  go_ret
  exact ⟨by rw [Int.mul_comm]; rfl, rfl⟩
theorem bool75 (b : Bool) (w : World) : Calls Tryd.prog 75 #[.bool b] w fun e w' => e = .returned (.int .u64 (if b then 1 else 0)) ∧ w' = w := by
  cases b
  all_goals
    go_enter Tryd.func75, Tryd.ntmps75
    go_wp2
    go_ret
    exact ⟨rfl, rfl⟩
theorem bool74 (b : Bool) (w : World) : Calls Tryd.prog 74 #[.bool b] w fun e w' => e = .returned (.int .u64 (if b then 1 else 0)) ∧ w' = w := by
  cases b
  all_goals
    go_enter Tryd.func74, Tryd.ntmps74
    go_wp2
    go_ret
    exact ⟨rfl, rfl⟩
theorem even_and {u : Nat} (h : u % 2 = 0) (hu : u < 18446744073709551616) : bits .and .u64 (u : Int) 1 = 0 := by
  have := u64_and_nat u 1 hu (by decide)
  rw [show u &&& 1 = u % 2 from Nat.and_one_is_mod u, h] at this
  exact this
theorem or_zero {u : Nat} (hu : u < 18446744073709551616) : bits .or .u64 (u : Int) 0 = u := by
  have := u64_or_nat u 0 hu (by decide)
  rw [Nat.or_zero] at this
  exact this
set_option maxHeartbeats 1000000 in
set_option maxRecDepth 100000 in
theorem div64 (u : Nat) (h : (10 * u) % 2 = 0) (hu : 10 * u < 18446744073709551616) (w : World) : Calls Tryd.prog 64 #[.int .u64 (10 * u : Nat), .int .u64 10] w fun e w' => e = .returned (.int .u64 u) ∧ Below w.heap.size w w' := by
  have f1 := even_and h hu
  have f2 := or_zero (u := u) (by omega)
  have f3 : ((10 * u : Nat) : Int) / 10 = u := by omega
  have f4 : (((10 * u : Nat) : Int) % 10 != 0) = false := by simp
  have f5 : ((10 * u : Nat) : Int) % 10 = 0 := by omega
  have C : Hid (∀ w, Calls Tryd.prog 75 #[.bool false] w fun e w' => e = .returned (.int .u64 0) ∧ w' = w) := Lib.hid fun w => bool75 false w
  have HB := Lib.hid (fun n => bel_drew w n)
  generalize 10 * u = x at *
  go_enter Tryd.func64, Tryd.ntmps64
  go_wp2_with fail
  go_quiet ((go_at_call 75; refine Calls.quiet_of_same (C.out _)))
  go_wp2
  go_ret
  exact ⟨rfl, HB.out _⟩
theorem round_val (n : Nat) (h : n ≤ 1073741824) : IntKind.u64.wrap (500 * (n : Int) + 1 + bits .and .u64 (500 * (n : Int) / 4) 1) / 4 = ((125 * n : Nat) : Int) := by
  have e : 500 * (n : Int) / 4 = ((125 * n : Nat) : Int) := by omega
  have := u64_and_nat (125 * n) 1 (by omega) (by decide)
  rw [show 125 * n &&& 1 = 125 * n % 2 from Nat.and_one_is_mod _] at this
  rw [e, show bits .and .u64 ((125 * n : Nat) : Int) 1 = ((125 * n % 2 : Nat) : Int) from this]
  rw [show IntKind.u64.wrap (500 * (n : Int) + 1 + ((125 * n % 2 : Nat) : Int)) = (500 * (n : Int) + 1 + ((125 * n % 2 : Nat) : Int)) % 18446744073709551616 by simp [IntKind.wrap, IntKind.bits, IntKind.signed]]
  have hr : 125 * n % 2 < 2 := Nat.mod_lt _ (by decide)
  generalize 125 * n % 2 = r at *
  rw [Int.emod_eq_of_lt (by omega) (by omega)]
  omega
theorem round60 (n : Nat) (h : n ≤ 1073741824) (w : World) : Calls Tryd.prog 60 #[.int .u64 (500 * n : Nat)] w fun e w' => e = .returned (.int .u64 (125 * n : Nat)) ∧ w = w' := by
  have H := Lib.hid (round_val n h)
  go_enter Tryd.func60, Tryd.ntmps60
  go_wp2
  go_ret
  exact ⟨by rw [← H.out]; rfl, rfl⟩
end Fl
end Go.Proofs.YtohjpclpeiidfaaDoor
