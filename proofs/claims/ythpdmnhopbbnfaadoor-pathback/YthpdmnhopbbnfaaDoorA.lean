/- Contracts of the path functions that take slashes off a text's end and find its last one; Base and Dir, ours and the document's. Condition: the text has a length that fits an int. -/
import Derived.Test.YthpdmnhopbbnfaaDoorRows
import Derived.Test.YthpdmnhopbbnfaaDoorP
import Derived.WalkKit
import Derived.ProofKit
import Derived.WalkLawsBesides
import Derived.Lib.Hide
import Derived.WalkMore
import Derived.RegionTactic
namespace Go.Proofs.YthpdmnhopbbnfaaDoor
open Go.RowKit Go.PlainAid
set_option linter.unusedSimpArgs false

def Rel33 (s : ByteArray) (n : Value) : Prop := ∃ k : Nat, k ≤ s.size ∧ n = .int .i64 k ∧ bareN s k = bareN s s.size

set_option maxHeartbeats 1000000 in
set_option maxRecDepth 100000 in
theorem bare33 (s : ByteArray) (w : World) (hs : s.size ≤ maxLen) : Calls Tryd.prog 33 #[.string s] w fun e w' => e = .returned (.string (bareS s)) ∧ w = w' := by
  unfold maxLen at hs
  have hb := get_bt s
  unfold bareS
  go_enter Tryd.func33, Tryd.ntmps33
  go_wp2
  go_loop [3] (Rel33 s) (fun n => (intOf n).toNat)
  case atStart => exact ⟨s.size, Nat.le_refl _, rfl, rfl⟩
  case round =>
    obtain ⟨k, hk, rfl, hr⟩ := hrel
    have HR := Lib.hid hr
    clear hr
    by_cases h1 : k ≤ 1
    · have hd : decide (1 < (k : Int)) = false := decide_eq_false (by omega)
      have HK : Hid (bareN s s.size = k) := by rw [← HR.out]; match k, h1 with | 0, _ => rfl | 1, _ => rfl
      clear h1
      go_wp2
      go_ret
      rw [HK.out]
      exact ⟨by simp, rfl⟩
    · obtain ⟨n, rfl⟩ : ∃ n, k = n + 2 := ⟨k - 2, by omega⟩
      have hj : ((n : Int) + 2 - 1).toNat = n + 1 := by omega
      cases hc : (bt s (n + 1) == 47)
      · have HK : Hid (bareN s s.size = n + 2) := by rw [← HR.out, bareN, hc]; rfl
        go_wp2
        go_ret
        rw [HK.out]
        exact ⟨by simp, rfl⟩
      · have HK : Hid (bareN s (n + 1) = bareN s s.size) := by rw [← HR.out, bareN, hc]; rfl
        go_wp2
        go_round
        case rel => exact ⟨n + 1, by omega, by go_num, HK.out⟩
        case measure => simp [intOf]; omega
end Go.Proofs.YthpdmnhopbbnfaaDoor
