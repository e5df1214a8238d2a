/- Contracts of readDigits, readPlace. Conditions: lengths below a bound. -/
import Derived.Test.YtckhomeokhhneaaDoorG
import Derived.Test.YtckhomeokhhneaaDoorQ
namespace Go.Proofs.YtckhomeokhhneaaDoor
open Go.RowKit Go.PlainAid
set_option linter.unusedSimpArgs false
set_option linter.unusedVariables false

theorem dig_cut (s : ByteArray) (k f v n : Nat) (h : k < s.size) : dig (f + 1) ((ls s).drop k) v n = if 48 ≤ at0 (ls s) k ∧ at0 (ls s) k ≤ 57 then dig f ((ls s).drop (k + 1)) (10 * v + (at0 (ls s) k - 48)) (n + 1) else (v, n) := by
  rw [ls_cut s k h, dig, at0_byte]
theorem dig_end (s : ByteArray) (k f v n : Nat) (h : s.size ≤ k) : dig f ((ls s).drop k) v n = (v, n) := by
  rw [List.drop_eq_nil_of_le (by rw [ls_len]; exact h)]; cases f <;> rfl
def Rel31 (s : ByteArray) (a : Nat) (R : Nat × Nat) (x y : Value) : Prop := ∃ (j v : Nat), j ≤ 3 ∧ a + j ≤ s.size ∧ y = .int .i64 ((a + j : Nat) : Int) ∧ x = .int .i64 v ∧ v ≤ 999 ∧ (j ≤ 2 → v ≤ 99) ∧ (j ≤ 1 → v ≤ 9) ∧ (j = 0 → v = 0) ∧ Hid (dig (3 - j) ((ls s).drop (a + j)) v j = R)
def dgV (a : Nat) (R : Nat × Nat) : Value := .tuple #[.int .i64 R.1, .int .i64 ((a + R.2 : Nat) : Int)]
set_option maxHeartbeats 2000000 in
set_option maxRecDepth 100000 in
theorem readDigits31 (s : ByteArray) (a : Nat) (w : World) (hs : s.size ≤ 1000000) (ha : a ≤ s.size) : Calls Tryd.prog 31 #[.string s, .int .i64 a] w fun e w' => e = .returned (dgV a (dig 3 ((ls s).drop a) 0 0)) ∧ w = w' := by
  have hb := get_bt s
  obtain ⟨R, HR⟩ : ∃ R, Hid (dig 3 ((ls s).drop a) 0 0 = R) := ⟨_, Lib.hid rfl⟩
  rw [HR.out]
  have w3 : IntKind.i64.wrap ((a : Int) + 3) = (a : Int) + 3 := by rw [IntKind.wrap_i64]; omega
  go_enter Tryd.func31, Tryd.ntmps31
  go_wp2
  go_loop [4, 5] (Rel31 s a R) (fun _ y => s.size - (intOf y).toNat)
  case atStart => exact ⟨0, 0, by omega, by omega, rfl, rfl, by omega, by omega, by omega, by omega, HR⟩
  case round =>
    obtain ⟨j, v, hj, hjs, rfl, rfl, v0, v1, v2, v3, HM⟩ := hrel
    obtain ⟨k, Hk⟩ : ∃ k, Hid (a + j = k) := ⟨_, Lib.hid rfl⟩
    rw [Hk.out] at HM hjs ⊢
    by_cases hlt : k < s.size
    · have hc := at0_lt (ls s) k
      have HA := Lib.hid (bt_at s k)
      by_cases h3 : j < 3
      · have d3 : decide ((k : Int) < (a : Int) + 3) = true := decide_eq_true (by have := Hk.out; omega)
        have HC := Lib.hid (dig_cut s k (2 - j) v j hlt)
        rw [show 2 - j + 1 = 3 - j by omega, HM.out] at HC
        by_cases d1 : 48 ≤ at0 (ls s) k
        · by_cases d2 : at0 (ls s) k ≤ 57
          · have e1 : decide (48 ≤ bt s k) = true := decide_eq_true (by rw [HA.out]; omega)
            have e2 : decide (bt s k ≤ 57) = true := decide_eq_true (by rw [HA.out]; omega)
            obtain ⟨v', Hv⟩ : ∃ v', Hid (10 * v + (at0 (ls s) k - 48) = v') := ⟨_, Lib.hid rfl⟩
            have HN : Hid (dig (3 - (j + 1)) ((ls s).drop (a + (j + 1))) v' (j + 1) = R) := Lib.hid (by
              rw [HC.out, if_pos ⟨d1, d2⟩, Hv.out, ← Hk.out]; rw [show 3 - (j + 1) = 2 - j by omega, show a + (j + 1) = a + j + 1 by omega])
            have x1 : (bt s k - 48) % 256 = ((at0 (ls s) k - 48 : Nat) : Int) := by rw [HA.out]; omega
            have x2 : IntKind.i64.wrap ((v : Int) * 10) = (v : Int) * 10 := by rw [IntKind.wrap_i64]; omega
            have x3 : IntKind.i64.wrap ((v : Int) * 10 + ((at0 (ls s) k - 48 : Nat) : Int)) = (v' : Int) := by rw [IntKind.wrap_i64]; have := Hv.out; omega
            have x4 : IntKind.i64.wrap ((k : Int) + 1) = ((a + (j + 1) : Nat) : Int) := by rw [IntKind.wrap_i64]; have := Hk.out; omega
            have y0 : v' ≤ 999 := by have := Hv.out; omega
            have y1 : j + 1 ≤ 2 → v' ≤ 99 := by have := Hv.out; omega
            have y2 : j + 1 ≤ 1 → v' ≤ 9 := by have := Hv.out; omega
            clear HC
            go_wp2
            go_round
            case rel => exact ⟨j + 1, v', by omega, by have := Hk.out; omega, by first | rfl | exact congrArg (Value.int .i64) x4 | (rw [x4]), by first | rfl | exact congrArg (Value.int .i64) x3, y0, y1, y2, by omega, HN⟩
            case measure => have := Hk.out; simp [intOf]; omega
          · have e1 : decide (48 ≤ bt s k) = true := decide_eq_true (by rw [HA.out]; omega)
            have e2 : decide (bt s k ≤ 57) = false := decide_eq_false (by rw [HA.out]; omega)
            have HRR : Hid (R = (v, j)) := Lib.hid (by rw [HC.out, if_neg (fun h => d2 h.2)])
            have HE : Hid (dgV a R = .tuple #[.int .i64 (v : Nat), .int .i64 ((k : Nat) : Int)]) := Lib.hid (by rw [HRR.out]; unfold dgV; rw [Hk.out])
            go_wp2
            go_ret2
            exact ⟨by rw [HE.out]; rfl, rfl⟩
        · have e1 : decide (48 ≤ bt s k) = false := decide_eq_false (by rw [HA.out]; omega)
          have HRR : Hid (R = (v, j)) := Lib.hid (by rw [HC.out, if_neg (fun h => d1 h.1)])
          have HE : Hid (dgV a R = .tuple #[.int .i64 (v : Nat), .int .i64 ((k : Nat) : Int)]) := Lib.hid (by rw [HRR.out]; unfold dgV; rw [Hk.out])
          go_wp2
          go_ret2
          exact ⟨by rw [HE.out]; rfl, rfl⟩
      · have d3 : decide ((k : Int) < (a : Int) + 3) = false := decide_eq_false (by have := Hk.out; omega)
        have HRR : Hid (R = (v, j)) := Lib.hid (by rw [← HM.out, show 3 - j = 0 by omega]; rfl)
        have HE : Hid (dgV a R = .tuple #[.int .i64 (v : Nat), .int .i64 ((k : Nat) : Int)]) := Lib.hid (by rw [HRR.out]; unfold dgV; rw [Hk.out])
        go_wp2
        go_ret2
        exact ⟨by rw [HE.out]; rfl, rfl⟩
    · have HRR : Hid (R = (v, j)) := Lib.hid (by rw [← HM.out, dig_end _ _ _ _ _ (by omega)])
      have HE : Hid (dgV a R = .tuple #[.int .i64 (v : Nat), .int .i64 ((k : Nat) : Int)]) := Lib.hid (by rw [HRR.out]; unfold dgV; rw [Hk.out])
      go_wp2
      go_ret2
      exact ⟨by rw [HE.out]; rfl, rfl⟩
end Go.Proofs.YtckhomeokhhneaaDoor
