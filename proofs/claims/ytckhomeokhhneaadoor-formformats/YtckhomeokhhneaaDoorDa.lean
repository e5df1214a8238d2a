/- The document's digits, fill and pad. Conditions: lengths below a bound. -/
import Derived.Test.YtckhomeokhhneaaDoorW
namespace Go.Proofs.YtckhomeokhhneaaDoor
open Go.RowKit Go.PlainAid
set_option linter.unusedSimpArgs false
set_option linter.unusedVariables false

def dgI (x : Option Nat) : Int := match x with | none => -1 | some v => v
def dgW (x : Option Nat × Nat) : Value := .tuple #[.int .i64 (dgI x.1), .int .i64 (x.2 : Nat)]
def Rel26 (s : ByteArray) (a : Nat) (R : Nat × Nat) (x y : Value) : Prop := ∃ (j v : Nat), j ≤ 3 ∧ a + j ≤ s.size ∧ y = .int .i64 (j : Nat) ∧ x = .int .i64 v ∧ v ≤ 999 ∧ (j ≤ 2 → v ≤ 99) ∧ (j ≤ 1 → v ≤ 9) ∧ (j = 0 → v = 0) ∧ Hid (dig (4 - j) ((ls s).drop (a + j)) v j = R)
theorem dg_of {r : List UInt8} {R : Nat × Nat} {v j : Nat} (h : dig 4 r 0 0 = R) (h2 : R = (v, j)) (hj : j ≤ 3) : dg r = (some v, j) := by
  unfold dg
  simp only
  rw [h, h2, if_neg (by show ¬ j = 4; omega)]
theorem dg_of4 {r : List UInt8} {R : Nat × Nat} {v : Nat} (h : dig 4 r 0 0 = R) (h2 : R = (v, 4)) : dg r = (none, 4) := by
  unfold dg
  simp only
  rw [h, h2, if_pos rfl]
set_option maxHeartbeats 4000000 in
set_option maxRecDepth 100000 in
theorem digits26 (s : ByteArray) (a : Nat) (w : World) (hs : s.size ≤ 1000000) (ha : a ≤ s.size) : Calls Tryd.prog 26 #[.string s, .int .i64 a] w fun e w' => e = .returned (dgW (dg ((ls s).drop a))) ∧ w = w' := by
  have hb := get_bt s
  obtain ⟨R, HR⟩ : ∃ R, Hid (dig 4 ((ls s).drop a) 0 0 = R) := ⟨_, Lib.hid rfl⟩
  obtain ⟨X, HX⟩ : ∃ X, Hid (dg ((ls s).drop a) = X) := ⟨_, Lib.hid rfl⟩
  rw [HX.out]
  go_enter Tryd.func26, Tryd.ntmps26
  go_wp2
  go_loop [6, 7] (Rel26 s a R) (fun _ y => 4 - (intOf y).toNat)
  case atStart => exact ⟨0, 0, by omega, by omega, rfl, rfl, by omega, by omega, by omega, by omega, HR⟩
  case round =>
    obtain ⟨j, v, hj, hjs, rfl, rfl, v0, v1, v2, v3, HM⟩ := hrel
    have hw2 : IntKind.i64.wrap ((a : Int) + j) = ((a + j : Nat) : Int) := by rw [IntKind.wrap_i64]; omega
    obtain ⟨k, Hk⟩ : ∃ k, Hid (a + j = k) := ⟨_, Lib.hid rfl⟩
    rw [Hk.out] at HM hjs hw2
    by_cases hlt : k < s.size
    · have hc := at0_lt (ls s) k
      have HA := Lib.hid (bt_at s k)
      have HC := Lib.hid (dig_cut s k (3 - j) v j hlt)
      rw [show 3 - j + 1 = 4 - j by omega, HM.out] at HC
      by_cases d1 : 48 ≤ at0 (ls s) k
      · by_cases d2 : at0 (ls s) k ≤ 57
        · have e1 : decide (48 ≤ bt s k) = true := decide_eq_true (by rw [HA.out]; omega)
          have e2 : decide (bt s k ≤ 57) = true := decide_eq_true (by rw [HA.out]; omega)
          obtain ⟨v', Hv⟩ : ∃ v', Hid (10 * v + (at0 (ls s) k - 48) = v') := ⟨_, Lib.hid rfl⟩
          have x1 : (bt s k - 48) % 256 = ((at0 (ls s) k - 48 : Nat) : Int) := by rw [HA.out]; omega
          have x2 : IntKind.i64.wrap (10 * (v : Int)) = 10 * (v : Int) := by rw [IntKind.wrap_i64]; omega
          have x3 : IntKind.i64.wrap (10 * (v : Int) + ((at0 (ls s) k - 48 : Nat) : Int)) = (v' : Int) := by rw [IntKind.wrap_i64]; have := Hv.out; omega
          have HN0 : Hid (dig (3 - j) ((ls s).drop (k + 1)) v' (j + 1) = R) := Lib.hid (by rw [HC.out, if_pos ⟨d1, d2⟩, Hv.out])
          by_cases h3 : j < 3
          · have HN : Hid (dig (4 - (j + 1)) ((ls s).drop (a + (j + 1))) v' (j + 1) = R) := Lib.hid (by
              rw [← HN0.out, ← Hk.out]; rw [show 4 - (j + 1) = 3 - j by omega, show a + (j + 1) = a + j + 1 by omega])
            have y0 : v' ≤ 999 := by have := Hv.out; omega
            have y1 : j + 1 ≤ 2 → v' ≤ 99 := by have := Hv.out; omega
            have y2 : j + 1 ≤ 1 → v' ≤ 9 := by have := Hv.out; omega
            have hj1 : a + (j + 1) ≤ s.size := by have := Hk.out; omega
            have d3 : decide (3 < (j : Int) + 1) = false := decide_eq_false (by omega)
            clear HC HN0
            go_wp2
            go_round
            case rel => exact ⟨j + 1, v', by omega, hj1, by go_num, by first | rfl | exact congrArg (Value.int .i64) x3, y0, y1, y2, by omega, HN⟩
            case measure => simp [intOf]; omega
          · have HJ : Hid (j = 3) := Lib.hid (by omega)
            have HXX : Hid (X = (none, j + 1)) := Lib.hid (by rw [← HX.out, HJ.out]; exact dg_of4 HR.out (by rw [← HN0.out, HJ.out]; rfl))
            have d3 : decide (3 < (j : Int) + 1) = true := decide_eq_true (by omega)
            clear HC HN0 v1 v2 v3
            go_wp2
            go_ret2
            exact ⟨by rw [HXX.out]; rfl, rfl⟩
        · have e1 : decide (48 ≤ bt s k) = true := decide_eq_true (by rw [HA.out]; omega)
          have e2 : decide (bt s k ≤ 57) = false := decide_eq_false (by rw [HA.out]; omega)
          have HXX : Hid (X = (some v, j)) := Lib.hid (by rw [← HX.out]; exact dg_of HR.out (by rw [HC.out, if_neg (fun h => d2 h.2)]) hj)
          clear HC
          go_wp2
          go_ret2
          exact ⟨by rw [HXX.out]; rfl, rfl⟩
      · have e1 : decide (48 ≤ bt s k) = false := decide_eq_false (by rw [HA.out]; omega)
        have HXX : Hid (X = (some v, j)) := Lib.hid (by rw [← HX.out]; exact dg_of HR.out (by rw [HC.out, if_neg (fun h => d1 h.1)]) hj)
        clear HC
        go_wp2
        go_ret2
        exact ⟨by rw [HXX.out]; rfl, rfl⟩
    · have HXX : Hid (X = (some v, j)) := Lib.hid (by rw [← HX.out]; exact dg_of HR.out (by rw [← HM.out, dig_end _ _ _ _ _ (by omega)]) hj)
      go_wp2
      go_ret2
      exact ⟨by rw [HXX.out]; rfl, rfl⟩
def Rel30 (c : UInt8) (n : Int) (x y : Value) : Prop := ∃ k : Nat, k ≤ n.toNat ∧ x = .string (mk (rep c k)) ∧ y = .int .i64 (k : Nat)
set_option maxHeartbeats 2000000 in
set_option maxRecDepth 100000 in
theorem fill30 (c : UInt8) (n : Int) (w : World) (h2 : n ≤ 1000000) : Calls Tryd.prog 30 #[.string (mk [c]), .int .i64 n] w fun e w' => e = .returned (.string (mk (rep c n.toNat))) ∧ w = w' := by
  go_enter Tryd.func30, Tryd.ntmps30
  go_wp2
  go_loop [5, 6] (Rel30 c n) (fun _ y => n.toNat - (intOf y).toNat)
  case atStart => exact ⟨0, Nat.zero_le _, rfl, rfl⟩
  case round =>
    obtain ⟨k, hk, rfl, rfl⟩ := hrel
    by_cases hlt : k < n.toNat
    · have hd : decide ((k : Int) < n) = true := decide_eq_true (by omega)
      have z1 : (mk (rep c k)).size = k := by rw [mk_size, rep_len]
      have z2 : (mk [c]).size = 1 := rfl
      have n1 : ¬ 9223372036854775807 < (mk (rep c k)).size + (mk [c]).size := by omega
      have HE : Hid (mk (rep c k) ++ mk [c] = mk (rep c (k + 1))) := Lib.hid (by rw [mk_app]; unfold rep; rw [List.replicate_succ'])
      clear z1 z2
      go_wp2
      go_round
      case rel => exact ⟨k + 1, by omega, by rw [HE.out], by go_num⟩
      case measure => simp [intOf]; omega
    · have hd : decide ((k : Int) < n) = false := decide_eq_false (by omega)
      have HF : Hid (n.toNat = k) := Lib.hid (by omega)
      go_wp2
      go_ret
      exact ⟨by rw [HF.out]; rfl, rfl⟩
/-- As wide as is wanted, the document's. -/
def padX (left zero qn num : Bool) (width : Nat) (h s : List UInt8) : List UInt8 :=
  if left then h ++ s ++ rep 32 (width - h.length - s.length) else
  if zero && num && qn then h ++ rep 48 (width - h.length - s.length) ++ s else
  rep 32 (width - h.length - s.length) ++ h ++ s
theorem padX_is (p : Pl) (h s : List UInt8) : padL p h s = padX p.left p.zero p.prec.isNone (isNum p.ch) p.width h s := by
  unfold padL padX
  rw [show (p.zero && p.prec.isNone && isNum p.ch) = (p.zero && isNum p.ch && p.prec.isNone) by cases p.zero <;> cases p.prec.isNone <;> cases isNum p.ch <;> rfl]
theorem padX_small (left zero qn num : Bool) (width : Nat) (h s : List UInt8) (hw : width ≤ h.length + s.length) : padX left zero qn num width h s = h ++ s := by
  unfold padX
  rw [show width - h.length - s.length = 0 by omega]
  unfold rep
  cases left <;> cases (zero && num && qn) <;> simp
end Go.Proofs.YtckhomeokhhneaaDoor
