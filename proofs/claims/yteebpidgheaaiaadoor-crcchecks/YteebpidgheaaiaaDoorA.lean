/- Contracts of one bit and one byte of the check, ours and the document's. Condition: the number is one of 32 bits. -/
import Derived.Test.YteebpidgheaaiaaDoorRows
import Derived.Test.YteebpidgheaaiaaDoorP
import Derived.WalkKit
import Derived.ProofKit
import Derived.WalkLawsBesides
import Derived.Lib.Hide
import Derived.WalkMore
import Derived.RegionTactic
import Derived.Laws.BitsAllLaws
namespace Go.Proofs.YteebpidgheaaiaaDoor
open Go.RowKit Go.PlainAid
set_option linter.unusedSimpArgs false

theorem xor32 (a : Nat) (ha : a < 4294967296) : bits .xor .u32 (a : Int) 79764919 = ((a ^^^ 79764919 : Nat) : Int) := u32_xor_nat a 79764919 ha (by omega)
theorem xor32' (c : Nat) : bits .xor .u32 ((c : Int) % 2147483648 * 2) 79764919 = (((c % 2147483648 * 2) ^^^ 79764919 : Nat) : Int) := by
  rw [← xor32 _ (by omega)]; congr 1
theorem st_yes (c : Nat) (b : Bool) (h : (!decide ((2147483648 : Int) ≤ (c : Int)) == b) = true) : st c b = (c % 2147483648 * 2) ^^^ 79764919 := by
  unfold st
  rw [if_pos]
  have e : decide (2147483648 ≤ c) = decide ((2147483648 : Int) ≤ (c : Int)) := by rw [decide_eq_decide]; omega
  rw [e]; exact h
theorem st_no (c : Nat) (b : Bool) (h : (!decide ((2147483648 : Int) ≤ (c : Int)) == b) = false) : st c b = c % 2147483648 * 2 := by
  unfold st
  rw [if_neg]
  have e : decide (2147483648 ≤ c) = decide ((2147483648 : Int) ≤ (c : Int)) := by rw [decide_eq_decide]; omega
  rw [e]; show ¬ (!decide ((2147483648 : Int) ≤ (c : Int)) == b) = true; rw [h]; simp
set_option maxHeartbeats 1000000 in
set_option maxRecDepth 100000 in
theorem bit17 (c : Nat) (b : Bool) (hc : c < 4294967296) (w : World) : Calls Tryd.prog 17 #[.int .u32 c, .bool b] w fun e w' => e = .returned (.int .u32 (st c b : Nat)) ∧ w = w' := by
  cases h : (!decide ((2147483648 : Int) ≤ (c : Int)) == b)
  · have HS := Lib.hid (st_no c b h)
    go_enter Tryd.func17, Tryd.ntmps17
    go_wp2
    go_ret
    rw [HS.out]
    exact ⟨by simp, rfl⟩
  · have HS := Lib.hid (st_yes c b h)
    have hx := Lib.hid (xor32' c)
    go_enter Tryd.func17, Tryd.ntmps17
    go_wp2
    go_ret
    rw [HS.out, hx.out]
    exact ⟨rfl, rfl⟩
theorem t13 (x b k : Nat) (hx : x < 4294967296) (hb : b < 256) : ((x : Int) / 2147483648 != bits .and .u8 ((b : Int) / 2 ^ (7 - k)) 1 % 4294967296) = (!decide ((2147483648 : Int) ≤ (x : Int)) == bo b k) := by
  have e : ((b : Int) / 2 ^ (7 - k)) = ((b / 2 ^ (7 - k) : Nat) : Int) := by simp
  have hy : b / 2 ^ (7 - k) < 256 := Nat.lt_of_le_of_lt (Nat.div_le_self _ _) hb
  rw [e]
  unfold bo
  generalize b / 2 ^ (7 - k) = y at hy
  have hz : bits .and .u8 (y : Int) 1 = ((y % 2 : Nat) : Int) := by rw [← Nat.and_one_is_mod]; exact u8_and_nat y 1 hy (by omega)
  rw [hz]
  have hx2 : (x : Int) / 2147483648 = if (2147483648 : Int) ≤ (x : Int) then 1 else 0 := by split <;> omega
  rw [hx2]
  have h2 : y % 2 = 0 ∨ y % 2 = 1 := by omega
  by_cases h : (2147483648 : Int) ≤ (x : Int) <;> rcases h2 with h2 | h2 <;> simp [h, h2]
theorem dbl13 (x : Nat) : (x : Int) * 2 % 4294967296 = ((x % 2147483648 * 2 : Nat) : Int) := by omega
theorem run_next (b k x : Nat) (h : k < 8) : run (bo b) (8 - k) k x = run (bo b) (8 - (k + 1)) (k + 1) (st x (bo b k)) := by
  rw [show 8 - k = (8 - (k + 1)) + 1 by omega]; rfl
def Rel13 (b fin : Nat) (c i : Value) : Prop := ∃ k x : Nat, k ≤ 8 ∧ i = .int .i64 k ∧ c = .int .u32 x ∧ x < 4294967296 ∧ run (bo b) (8 - k) k x = fin
set_option maxHeartbeats 1000000 in
set_option maxRecDepth 100000 in
theorem step13 (c b : Nat) (hc : c < 4294967296) (hb : b < 256) (w : World) : Calls Tryd.prog 13 #[.int .u32 c, .int .u8 b] w fun e w' => e = .returned (.int .u32 (by8 c b : Nat)) ∧ w = w' := by
  have HB : Hid (run (bo b) 8 0 c = by8 c b) := Lib.hid rfl
  generalize by8 c b = fin at HB ⊢
  go_enter Tryd.func13, Tryd.ntmps13
  go_wp2
  go_loop [0, 7] (Rel13 b fin) (fun _ i => 8 - (intOf i).toNat)
  case atStart => exact ⟨0, c, by omega, rfl, rfl, hc, HB.out⟩
  case round =>
    obtain ⟨k, x, hk, rfl, rfl, hx, hr⟩ := hrel
    have HR := Lib.hid hr
    clear hr
    by_cases h8 : k < 8
    · have HN := Lib.hid (run_next b k x h8)
      have HX := Lib.hid (xor32 (x % 2147483648 * 2) (by omega))
      cases ht : (!decide ((2147483648 : Int) ≤ (x : Int)) == bo b k)
      · have HS := Lib.hid (st_no x _ ht)
        have hd := (t13 x b k hx hb).trans ht
        clear ht
        go_wp2
        go_round
        case rel => exact ⟨k + 1, x % 2147483648 * 2, by omega, by go_num, congrArg _ (dbl13 x), by omega, by rw [← HR.out, HN.out, HS.out]⟩
        case measure => simp [intOf]; omega
      · have HS := Lib.hid (st_yes x _ ht)
        have hl := st_lt x (bo b k)
        have hd := (t13 x b k hx hb).trans ht
        clear ht
        go_wp2
        go_round
        case rel => exact ⟨k + 1, st x (bo b k), by omega, by go_num, by rw [dbl13, HX.out, HS.out], hl, by rw [← HR.out, HN.out]⟩
        case measure => simp [intOf]; omega
    · obtain rfl : k = 8 := by omega
      have HF : Hid (x = fin) := Lib.hid HR.out
      go_wp2
      go_ret
      rw [HF.out]
      exact ⟨rfl, rfl⟩
def Qv (j : Nat) : Nat := if j = 8 then 0 else 2 ^ (7 - j)
theorem Qv_next (j : Nat) (h : j < 8) : Qv j / 2 = Qv (j + 1) := (show ∀ j < 8, Qv j / 2 = Qv (j + 1) by decide) j h
theorem Qv_pos (j : Nat) (h : j < 8) : 0 < Qv j := (show ∀ j < 8, 0 < Qv j by decide) j h
theorem Qv_le (j : Nat) (h : j ≤ 8) : Qv j ≤ 128 := (show ∀ j < 9, Qv j ≤ 128 by decide) j (by omega)
theorem Qv_bo (b j : Nat) (h : j < 8) : ((b : Int) / (Qv j : Int) % 2 == 1) = bo b j := by
  unfold Qv bo
  rw [if_neg (by omega)]
  generalize 2 ^ (7 - j) = q
  rw [show ((b : Int) / (q : Int)) = ((b / q : Nat) : Int) by simp]
  have h2 : b / q % 2 = 0 ∨ b / q % 2 = 1 := by omega
  rcases h2 with h2 | h2 <;> simp [h2] <;> omega
def Rel14 (b fin : Nat) (c i : Value) : Prop := ∃ j q x : Nat, j ≤ 8 ∧ Hid (q = Qv j) ∧ i = .int .i64 q ∧ c = .int .u32 x ∧ x < 4294967296 ∧ run (bo b) (8 - j) j x = fin
set_option maxHeartbeats 1000000 in
set_option maxRecDepth 100000 in
theorem byteIn14 (c b : Nat) (hc : c < 4294967296) (hb : b < 256) (w : World) : Calls Tryd.prog 14 #[.int .u32 c, .int .u8 b] w fun e w' => e = .returned (.int .u32 (by8 c b : Nat)) ∧ w = w' := by
  have HB : Hid (run (bo b) 8 0 c = by8 c b) := Lib.hid rfl
  generalize by8 c b = fin at HB ⊢
  go_enter Tryd.func14, Tryd.ntmps14
  go_wp2
  go_loop [0, 5] (Rel14 b fin) (fun _ i => (intOf i).toNat)
  case atStart => exact ⟨0, 128, c, by omega, Lib.hid rfl, rfl, rfl, hc, HB.out⟩
  case round =>
    obtain ⟨j, q, x, hj, HQ, rfl, rfl, hx, hr⟩ := hrel
    have HR := Lib.hid hr
    clear hr
    by_cases h8 : j < 8
    · have HN := Lib.hid (run_next b j x h8)
      have hq0 : 0 < q := by rw [HQ.out]; exact Qv_pos j h8
      have hq1 : q ≤ 128 := by rw [HQ.out]; exact Qv_le j hj
      have HV : Hid (q / 2 = Qv (j + 1)) := Lib.hid (by rw [HQ.out]; exact Qv_next j h8)
      have hd0 : 0 ≤ (b : Int) / (q : Int) := Int.ediv_nonneg (by omega) (by omega)
      have hd1 : (b : Int) / (q : Int) ≤ 255 := Int.le_trans (Int.ediv_le_self _ (by omega)) (by omega)
      have HO : Hid (((b : Int) / (q : Int) % 2 == 1) = bo b j) := Lib.hid (by rw [HQ.out]; exact Qv_bo b j h8)
      have hl := st_lt x (bo b j)
      go_wp2_with (go_at_call 17; (refine (bit17 x _ hx _).mono ?_; rintro e w' ⟨rfl, rfl⟩))
      go_round
      case rel => exact ⟨j + 1, q / 2, st x (bo b j), by omega, HV, by go_num, by rw [HO.out], hl, by rw [← HR.out, HN.out]⟩
      case measure => simp [intOf]; omega
    · obtain rfl : j = 8 := by omega
      obtain rfl : q = 0 := HQ.out
      have HF : Hid (x = fin) := Lib.hid HR.out
      go_wp2
      go_ret
      rw [HF.out]
      exact ⟨rfl, rfl⟩
end Go.Proofs.YteebpidgheaaiaaDoor
