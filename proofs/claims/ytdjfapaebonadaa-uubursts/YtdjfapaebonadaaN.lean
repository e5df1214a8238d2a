/- Contracts of letters read: six bits, how many letters, four letters. No condition but those that each says. -/
import Derived.Test.YtdjfapaebonadaaK
namespace Go.Proofs.Ytdjfapaebonadaa
open Go.RowKit Go.PlainAid
set_option linter.unusedSimpArgs false
set_option linter.unusedVariables false

def sixN (c : Nat) : Option Nat := if 32 ≤ c ∧ c ≤ 96 then some ((c - 32) % 64) else none
theorem sixO_N (c : UInt8) : sixO c = sixN c.toNat := rfl
theorem sixN_lt {c n : Nat} (h : sixN c = some n) : n < 64 := by unfold sixN at h; split at h; cases h; omega; cases h
/-- Four letters, so many of them left. -/
def rf (r : List UInt8) : Nat → Nat → Option Nat
  | 0, v => some v
  | n + 1, v => match sixN (at0 r (3 - n)) with
    | none => none
    | some x => rf r n (64 * v + x)
theorem rf_some (r : List UInt8) (k v x : Nat) (h : k < 4) (hx : sixN (at0 r k) = some x) : rf r (4 - k) v = rf r (4 - (k + 1)) (64 * v + x) := by
  obtain ⟨n, hn⟩ : ∃ n, 4 - k = n + 1 := ⟨3 - k, by omega⟩
  have e : 3 - n = k := by omega
  rw [hn, rf, e, hx, show 4 - (k + 1) = n by omega]
theorem rf_none (r : List UInt8) (k v : Nat) (h : k < 4) (hx : sixN (at0 r k) = none) : rf r (4 - k) v = none := by
  obtain ⟨n, hn⟩ : ∃ n, 4 - k = n + 1 := ⟨3 - k, by omega⟩
  have e : 3 - n = k := by omega
  rw [hn, rf, e, hx]
theorem r4_rf (r : List UInt8) (h : 4 ≤ r.length) : r4 r = rf r 4 0 := by
  match r, h with
  | a :: b :: c :: d :: r, _ =>
    have h0 : at0 (a :: b :: c :: d :: r) 0 = a.toNat := rfl
    have h1 : at0 (a :: b :: c :: d :: r) 1 = b.toNat := rfl
    have h2 : at0 (a :: b :: c :: d :: r) 2 = c.toNat := rfl
    have h3 : at0 (a :: b :: c :: d :: r) 3 = d.toNat := rfl
    simp only [r4, rf, sixO_N]
    rw [show 3 - 3 = 0 from rfl, show 3 - 2 = 1 from rfl, show 3 - 1 = 2 from rfl, show 3 - 0 = 3 from rfl, h0, h1, h2, h3]
    cases sixN a.toNat <;> cases sixN b.toNat <;> cases sixN c.toNat <;> cases sixN d.toNat <;> simp
    omega
theorem r4_short (r : List UInt8) (h : r.length < 4) : r4 r = none := by
  match r, h with
  | [], _ => rfl
  | [_], _ => rfl
  | [_, _], _ => rfl
  | [_, _, _], _ => rfl
theorem r4_lt {r : List UInt8} {v : Nat} (h : r4 r = some v) : v < 16777216 := by
  match r, h with
  | a :: b :: c :: d :: r, h =>
    simp only [r4] at h
    cases ha : sixO a with
    | none => simp [ha] at h
    | some x =>
      cases hb : sixO b with
      | none => simp [ha, hb] at h
      | some y =>
        cases hc : sixO c with
        | none => simp [ha, hb, hc] at h
        | some z =>
          cases hd : sixO d with
          | none => simp [ha, hb, hc, hd] at h
          | some u =>
            simp [ha, hb, hc, hd] at h
            have := sixO_small ha; have := sixO_small hb; have := sixO_small hc; have := sixO_small hd
            omega
def v46 : Option Nat → Value
  | none => .tuple #[.int .i64 0, .bool false]
  | some n => .tuple #[.int .i64 n, .bool true]
set_option maxHeartbeats 1000000 in
set_option maxRecDepth 100000 in
theorem six46 (c : Nat) (hc : c < 256) (w : World) : Calls Try.prog 46 #[.int .u8 c] w fun e w' => e = .returned (v46 (sixN c)) ∧ w = w' := by
  by_cases h1 : (c : Int) < 32
  · rw [show sixN c = none by unfold sixN; rw [if_neg (by omega)]]
    go_enter Try.func46, Try.ntmps46
    go_wp2
    go_ret2
    exact ⟨rfl, rfl⟩
  · by_cases h2 : (96 : Int) < c
    · rw [show sixN c = none by unfold sixN; rw [if_neg (by omega)]]
      go_enter Try.func46, Try.ntmps46
      go_wp2
      go_ret2
      exact ⟨rfl, rfl⟩
    · rw [show sixN c = some ((c - 32) % 64) by unfold sixN; rw [if_pos (by omega)]]
      have HA := Lib.hid (and63 (c - 32))
      rw [show ((c - 32 : Nat) : Int) = (c : Int) - 32 by omega] at HA
      go_enter Try.func46, Try.ntmps46
      go_wp2
      go_ret2
      refine ⟨?_, rfl⟩
      show Ending.returned (.tuple #[.int .i64 (bits .and .i64 ((c : Int) - 32) 63), .bool true]) = _
      rw [HA.out]
      rfl
def i42 : Option Nat → Int
  | none => -1
  | some n => n
set_option maxHeartbeats 1000000 in
set_option maxRecDepth 100000 in
theorem six42 (c : Nat) (hc : c < 256) (w : World) : Calls Try.prog 42 #[.int .u8 c] w fun e w' => e = .returned (.int .i64 (i42 (sixN c))) ∧ w = w' := by
  by_cases h1 : (c : Int) < 32
  · rw [show sixN c = none by unfold sixN; rw [if_neg (by omega)]]
    go_enter Try.func42, Try.ntmps42
    go_wp2
    go_ret
    exact ⟨rfl, rfl⟩
  · by_cases h2 : (96 : Int) < c
    · rw [show sixN c = none by unfold sixN; rw [if_neg (by omega)]]
      go_enter Try.func42, Try.ntmps42
      go_wp2
      go_ret
      exact ⟨rfl, rfl⟩
    · rw [show sixN c = some ((c - 32) % 64) by unfold sixN; rw [if_pos (by omega)]]
      have HA : Hid (i42 (some ((c - 32) % 64)) = ((c : Int) - 32) % 64) := Lib.hid (by show (((c - 32) % 64 : Nat) : Int) = _; omega)
      go_enter Try.func42, Try.ntmps42
      go_wp2
      go_ret
      rw [HA.out]
      exact ⟨rfl, rfl⟩
set_option maxHeartbeats 1000000 in
set_option maxRecDepth 100000 in
theorem count41 (n : Nat) (h : n ≤ 100000) (w : World) : Calls Try.prog 41 #[.int .i64 n] w fun e w' => e = .returned (.int .i64 ((n + 2) / 3 * 4 : Nat)) ∧ w = w' := by
  have HE : Hid ((((n + 2) / 3 * 4 : Nat) : Int) = ((n : Int) + 2) / 3 * 4) := Lib.hid (by omega)
  rw [HE.out]
  go_enter Try.func41, Try.ntmps41
  go_wp2
  go_ret
  exact ⟨rfl, rfl⟩
set_option maxHeartbeats 1000000 in
set_option maxRecDepth 100000 in
theorem size28 (n : Nat) (h : n ≤ 100000) (w : World) : Calls Try.prog 28 #[.int .i64 n] w fun e w' => e = .returned (.int .i64 (2 + (n + 2) / 3 * 4 : Nat)) ∧ w = w' := by
  have C := Lib.hid fun w => count41 n h w
  have hb : (n + 2) / 3 * 4 ≤ 1000000 := by omega
  have HE : Hid (((2 + (n + 2) / 3 * 4 : Nat) : Int) = 1 + (((n + 2) / 3 * 4 : Nat) : Int) + 1) := Lib.hid (by omega)
  rw [HE.out]
  generalize (n + 2) / 3 * 4 = m at C hb ⊢
  go_enter Try.func28, Try.ntmps28
  go_wp2_with (go_at_call 41; refine (C.out _).mono ?_; rintro e w' ⟨rfl, rfl⟩)
  go_ret
  exact ⟨rfl, rfl⟩
def Rel47 (r : ByteArray) (D : Option Nat) (x i : Value) : Prop := ∃ k v : Nat, k ≤ 4 ∧ i = .int .i64 k ∧ x = .int .i64 v ∧ v < 16777216 ∧ (k ≤ 3 → v < 262144) ∧ (k ≤ 2 → v < 4096) ∧ (k ≤ 1 → v < 64) ∧ (k = 0 → v = 0) ∧ rf (ls r) (4 - k) v = D
theorem or6 (v x : Nat) (hv : v < 262144) (hx : x < 64) : bits .or .i64 ((v : Int) * 64) (x : Int) = ((64 * v + x : Nat) : Int) := by
  have := or_add (64 * v) x 6 (by omega) (by omega) (by omega) (by omega)
  rw [show ((v : Int) * 64) = ((64 * v : Nat) : Int) by omega]
  exact this
set_option maxHeartbeats 4000000 in
set_option maxRecDepth 100000 in
theorem four47 (r : ByteArray) (w : World) (h : 4 ≤ r.size) (h2 : r.size ≤ 100000) : Calls Try.prog 47 #[.string r] w fun e w' => e = .returned (v46 (r4 (ls r))) ∧ w = w' := by
  have hb := get_bt r
  rw [r4_rf _ (by rw [ls_len]; exact h)]
  obtain ⟨D, HD⟩ : ∃ D, Hid (rf (ls r) 4 0 = D) := ⟨_, Lib.hid rfl⟩
  rw [HD.out]
  go_enter Try.func47, Try.ntmps47
  go_wp2
  go_loop [4, 8] (Rel47 r D) (fun _ i => 4 - (intOf i).toNat)
  case atStart => exact ⟨0, 0, by omega, rfl, rfl, by omega, by omega, by omega, by omega, by omega, HD.out⟩
  case round =>
    clear HD
    obtain ⟨k, v, hk, rfl, rfl, hv1, hv2, hv3, hv4, hv5, hd⟩ := hrel
    have HD := Lib.hid hd
    clear hd
    by_cases hlt : k < 4
    · have C := Lib.hid fun w => six46 (at0 (ls r) k) (at0_lt _ _) w
      rw [← bt_at] at C
      have b1 := bt_nonneg r k
      have b2 := bt_le r k
      cases hs : sixN (at0 (ls r) k) with
      | none =>
        rw [hs] at C
        have HN : Hid (D = none) := Lib.hid (by rw [← HD.out, rf_none _ _ _ hlt hs])
        clear hs
        unfold v46 at C
        go_wp2_with (go_at_call 46; refine (C.out _).mono ?_; rintro e w' ⟨rfl, rfl⟩)
        go_ret2
        rw [HN.out]
        exact ⟨rfl, rfl⟩
      | some x =>
        rw [hs] at C
        have hx := sixN_lt hs
        have HN : Hid (rf (ls r) (4 - (k + 1)) (64 * v + x) = D) := Lib.hid (by rw [← HD.out, rf_some _ _ _ _ hlt hs])
        have HO := Lib.hid (or6 v x (by omega) hx)
        have hv6 : v < 262144 := by omega
        clear hs
        unfold v46 at C
        go_wp2_with (go_at_call 46; refine (C.out _).mono ?_; rintro e w' ⟨rfl, rfl⟩)
        go_round
        case rel => exact ⟨k + 1, 64 * v + x, by omega, by go_num, congrArg _ HO.out, by omega, by omega, by omega, by omega, by omega, HN.out⟩
        case measure => simp [intOf]; omega
    · obtain rfl : k = 4 := by omega
      have HF : Hid (D = some v) := Lib.hid HD.out.symm
      go_wp2
      go_ret2
      rw [HF.out]
      exact ⟨rfl, rfl⟩
end Go.Proofs.Ytdjfapaebonadaa
