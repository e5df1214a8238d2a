/- The document's digits of a number, and what it pads. Conditions: lengths below a bound. -/
import Derived.Test.YtckhomeokhhneaaDoorDb
namespace Go.Proofs.YtckhomeokhhneaaDoor
open Go.RowKit Go.PlainAid
set_option linter.unusedSimpArgs false
set_option linter.unusedVariables false

theorem dig_byte (n : Nat) (h : n < 10) : (((48 : Int) + n)) = ((UInt8.ofNat (48 + n)).toNat : Int) := by
  rw [UInt8.toNat_ofNat']; omega
theorem dig_byte' (m : Nat) : ((48 : Int) + (m : Int) % 10) = ((UInt8.ofNat (48 + m % 10)).toNat : Int) := by
  rw [← dig_byte (m % 10) (by omega)]; omega
def Rel38 (u : Nat) (w : World) (n out : Value) (wx : World) : Prop := ∃ (m : Nat) (l : List UInt8), n = .int .u64 m ∧ out = .string (mk l) ∧ m < 18446744073709551616 ∧ Hid (Lib.decDigits m ++ l = Lib.decDigits u) ∧ Hid (Below w.heap.size w wx)
set_option maxHeartbeats 2000000 in
set_option maxRecDepth 100000 in
theorem digits38 (u : Nat) (hu : u < 18446744073709551616) (w : World) : Calls Tryd.prog 38 #[.int .u64 u] w fun e w' => e = .returned (.string (dd u)) ∧ Below w.heap.size w w' := by
  have HL : Hid ((Lib.decDigits u).length ≤ 20) := Lib.hid (by rw [Lib.decDigits_length]; exact nd_le u hu)
  go_enter Tryd.func38, Tryd.ntmps38
  go_wp2
  go_loopw [0, 3] (Rel38 u w) (fun n _ _ => (intOf n).toNat)
  case atStart => exact ⟨u, [], rfl, rfl, hu, Lib.hid (by simp), Lib.hid (Below.refl _ _)⟩
  case round =>
    obtain ⟨m, l, rfl, rfl, hm, HR, HB⟩ := hrel
    rename World => wx
    have hl : (mk l).size ≤ 20 := by rw [mk_size]; have := congrArg List.length HR.out; rw [List.length_append] at this; have := HL.out; omega
    have hm1 : ∀ c : UInt8, ¬ 9223372036854775807 < (mk [c]).size + (mk l).size := fun c => by rw [mk_size]; simp; omega
    by_cases h10 : 10 ≤ m
    · have hcv := conv1 wx (48 + (m : Int) % 10) _ (dig_byte' m)
      have HD : Hid (Lib.decDigits m = Lib.decDigits (m / 10) ++ [UInt8.ofNat (48 + m % 10)]) := Lib.hid (by rw [Lib.decDigits, dif_neg (by omega)])
      have hm2 := hm1 (UInt8.ofNat (48 + m % 10))
      have HA := Lib.hid (mk_app [UInt8.ofNat (48 + m % 10)] l)
      have HBB := Lib.hid (HB.out.alloc HB.out.size (.cells #[.int .u8 (48 + (m : Int) % 10)] 5))
      clear hm1
      generalize UInt8.ofNat (48 + m % 10) = c at hcv HD hm2 HA
      go_wp2
      go_roundw
      case rel => exact ⟨m / 10, [c] ++ l, by go_num, by rw [HA.out], by omega, Lib.hid (by rw [← HR.out, HD.out]; simp), HBB⟩
      case measure => simp [intOf]; omega
    · have hcv := conv1 wx (48 + (m : Int)) _ (dig_byte m (by omega))
      have HD : Hid (Lib.decDigits m = [UInt8.ofNat (48 + m)]) := Lib.hid (Lib.decDigits_one (by omega))
      have hm2 := hm1 (UInt8.ofNat (48 + m))
      have HA := Lib.hid (mk_app [UInt8.ofNat (48 + m)] l)
      have HBB := Lib.hid (HB.out.alloc HB.out.size (.cells #[.int .u8 (48 + (m : Int))] 5))
      clear hm1
      generalize UInt8.ofNat (48 + m) = c at hcv HD hm2 HA
      go_wp2
      go_ret
      refine ⟨?_, HBB.out⟩
      unfold dd
      rw [← HR.out, HD.out, ← HA.out]
      rfl


def upc (g : Bool) (c : UInt8) : UInt8 := if g && decide (97 ≤ c.toNat) then UInt8.ofNat (c.toNat - 32) else c
theorem up_map (l : List UInt8) : l.map (upc true) = up l := by
  unfold up
  apply List.map_congr_left
  intro c _
  unfold upc
  simp
theorem no_map (l : List UInt8) : l.map (upc false) = l := by
  conv => rhs; rw [← List.map_id l]
  apply List.map_congr_left
  intro c _
  rfl
def setL (g : Bool) : ByteArray := if g then ⟨#[48, 49, 50, 51, 52, 53, 54, 55, 56, 57, 65, 66, 67, 68, 69, 70]⟩ else ⟨#[48, 49, 50, 51, 52, 53, 54, 55, 56, 57, 97, 98, 99, 100, 101, 102]⟩
theorem setL_at (g : Bool) (d : Nat) (h : d < 16) : (setL g).extract d (d + 1) = mk [upc g (dch d)] := by
  have : d = 0 ∨ d = 1 ∨ d = 2 ∨ d = 3 ∨ d = 4 ∨ d = 5 ∨ d = 6 ∨ d = 7 ∨ d = 8 ∨ d = 9 ∨ d = 10 ∨ d = 11 ∨ d = 12 ∨ d = 13 ∨ d = 14 ∨ d = 15 := by omega
  cases g <;> rcases this with rfl | rfl | rfl | rfl | rfl | rfl | rfl | rfl | rfl | rfl | rfl | rfl | rfl | rfl | rfl | rfl <;> rfl
def Rel29 (b u : Nat) (g : Bool) (w : World) (x y : Value) (wx : World) : Prop := ∃ (v : Nat) (l : List UInt8), x = .int .u64 v ∧ y = .string (mk (upc g (dch (v % b)) :: l)) ∧ v < 18446744073709551616 ∧ Hid ((bd b v).map (upc g) ++ l = (bd b u).map (upc g)) ∧ Hid (Below w.heap.size w wx)

set_option maxHeartbeats 4000000 in
set_option maxRecDepth 100000 in
theorem base29_8 (u : Nat) (hu : u < 18446744073709551616) (w : World) : Calls Tryd.prog 29 #[.int .u64 u, .int .u64 8, .bool false] w fun e w' => e = .returned (.string (mk ((bd 8 u).map (upc false)))) ∧ Below w.heap.size w w' := by
  obtain ⟨S, HS⟩ : ∃ S, Hid (setL false = S) := ⟨_, Lib.hid rfl⟩
  have HL : Hid (((bd 8 u).map (upc false)).length ≤ 22) := Lib.hid (by rw [List.length_map]; exact bd_len 8 (by omega) 21 u (Nat.lt_trans hu (by decide)))
  have HAT : Hid (∀ d, d < 16 → (setL false).extract d (d + 1) = mk [upc false (dch d)]) := Lib.hid (setL_at false)
  have hset : setL false = ⟨#[48, 49, 50, 51, 52, 53, 54, 55, 56, 57, 97, 98, 99, 100, 101, 102]⟩ := rfl
  rw [hset] at HAT HS
  have hz : (⟨#[48, 49, 50, 51, 52, 53, 54, 55, 56, 57, 97, 98, 99, 100, 101, 102]⟩ : ByteArray).size = 16 := rfl
  obtain ⟨r, Hr⟩ : ∃ r, Hid (u % 8 = r) := ⟨_, Lib.hid rfl⟩
  have hr : (u : Int) % 8 = (r : Int) := by have := Hr.out; omega
  have hr2 : r < 8 := by rw [← Hr.out]; exact Nat.mod_lt _ (by omega)
  have hr3 : IntKind.u64.wrap ((r : Int) + 1) = ((r + 1 : Nat) : Int) := by rw [IntKind.wrap_u64]; omega
  have hr5 : IntKind.u64.wrap ((u : Int) % 8 + 1) = ((r + 1 : Nat) : Int) := by rw [hr]; exact hr3
  have hrt : (u : Int).tmod 8 = (r : Int) := by rw [Int.tmod_eq_emod_of_nonneg (by omega)]; exact hr
  have HX0 := Lib.hid (HAT.out r (by omega))
  go_enter Tryd.func29, Tryd.ntmps29
  go_wp2
  have hx0 := HX0.out
  go_region
  go_wp2
  go_loopw [0, 8] (Rel29 8 u false w) (fun x _ _ => (intOf x).toNat)
  case atStart => exact ⟨u, [], rfl, by rw [Hr.out], hu, Lib.hid (by simp), Lib.hid ((Below.refl _ w).drew)⟩
  case round =>
    clear hx0 hr hr2 hr3 hr5 hrt
    obtain ⟨v, l, rfl, rfl, hv, HR, HB⟩ := hrel
    rename World => wx
    have hl : l.length ≤ 22 := by have h1 := congrArg List.length HR.out; rw [List.length_append] at h1; have := HL.out; omega
    obtain ⟨c1, Hc1⟩ : ∃ c1, Hid (upc false (dch (v % 8)) = c1) := ⟨_, Lib.hid rfl⟩
    rw [Hc1.out]
    by_cases hb : 8 ≤ v
    · obtain ⟨q, Hq⟩ : ∃ q, Hid (v / 8 = q) := ⟨_, Lib.hid rfl⟩
      have hq : (v : Int) / 8 = (q : Int) := by have := Hq.out; omega
      have hqv : q < v := by have := Hq.out; omega
      obtain ⟨r, Hr2⟩ : ∃ r, Hid (q % 8 = r) := ⟨_, Lib.hid rfl⟩
      have hr : (q : Int) % 8 = (r : Int) := by have := Hr2.out; omega
      have hr2 : r < 8 := by rw [← Hr2.out]; exact Nat.mod_lt _ (by omega)
      have hr3 : IntKind.u64.wrap ((r : Int) + 1) = ((r + 1 : Nat) : Int) := by rw [IntKind.wrap_u64]; omega
      have hr5 : IntKind.u64.wrap ((q : Int) % 8 + 1) = ((r + 1 : Nat) : Int) := by rw [hr]; exact hr3
      have hrt : (q : Int).tmod 8 = (r : Int) := by rw [Int.tmod_eq_emod_of_nonneg (by omega)]; exact hr
      have hx := HAT.out r (by omega)
      obtain ⟨c2, Hc2⟩ : ∃ c2, Hid (upc false (dch r) = c2) := ⟨_, Lib.hid rfl⟩
      rw [Hc2.out] at hx
      have n1 : ¬ 9223372036854775807 < (mk [c2]).size + (mk (c1 :: l)).size := by rw [mk_size, mk_size]; simp; omega
      have ha : mk [c2] ++ mk (c1 :: l) = mk (c2 :: c1 :: l) := mk_app _ _
      have HN : Hid ((bd 8 q).map (upc false) ++ (c1 :: l) = (bd 8 u).map (upc false)) := Lib.hid (by
        rw [← HR.out, bd_big hb (by omega), Hq.out, List.map_append, ← Hc1.out]; simp)
      have hdv : decide (8 ≤ (v : Int)) = true := decide_eq_true (by omega)
      clear hl
      go_wp2
      go_region
      go_wp2
      go_roundw
      case rel => exact ⟨q, c1 :: l, rfl, by rw [Hr2.out, Hc2.out], by omega, HN, Lib.hid HB.out.drew⟩
      case measure => simp [intOf]; omega
    · have hdv : decide (8 ≤ (v : Int)) = false := decide_eq_false (by omega)
      have HF : Hid (c1 :: l = (bd 8 u).map (upc false)) := Lib.hid (by
        rw [← HR.out, bd_small (by omega), ← Hc1.out, Nat.mod_eq_of_lt (by omega)]; rfl)
      go_wp2
      go_ret
      exact ⟨by rw [HF.out]; rfl, HB.out⟩

set_option maxHeartbeats 4000000 in
set_option maxRecDepth 100000 in
theorem base29_16 (u : Nat) (hu : u < 18446744073709551616) (w : World) : Calls Tryd.prog 29 #[.int .u64 u, .int .u64 16, .bool false] w fun e w' => e = .returned (.string (mk ((bd 16 u).map (upc false)))) ∧ Below w.heap.size w w' := by
  obtain ⟨S, HS⟩ : ∃ S, Hid (setL false = S) := ⟨_, Lib.hid rfl⟩
  have HL : Hid (((bd 16 u).map (upc false)).length ≤ 22) := Lib.hid (by rw [List.length_map]; exact bd_len 16 (by omega) 21 u (Nat.lt_trans hu (by decide)))
  have HAT : Hid (∀ d, d < 16 → (setL false).extract d (d + 1) = mk [upc false (dch d)]) := Lib.hid (setL_at false)
  have hset : setL false = ⟨#[48, 49, 50, 51, 52, 53, 54, 55, 56, 57, 97, 98, 99, 100, 101, 102]⟩ := rfl
  rw [hset] at HAT HS
  have hz : (⟨#[48, 49, 50, 51, 52, 53, 54, 55, 56, 57, 97, 98, 99, 100, 101, 102]⟩ : ByteArray).size = 16 := rfl
  obtain ⟨r, Hr⟩ : ∃ r, Hid (u % 16 = r) := ⟨_, Lib.hid rfl⟩
  have hr : (u : Int) % 16 = (r : Int) := by have := Hr.out; omega
  have hr2 : r < 16 := by rw [← Hr.out]; exact Nat.mod_lt _ (by omega)
  have hr3 : IntKind.u64.wrap ((r : Int) + 1) = ((r + 1 : Nat) : Int) := by rw [IntKind.wrap_u64]; omega
  have hr5 : IntKind.u64.wrap ((u : Int) % 16 + 1) = ((r + 1 : Nat) : Int) := by rw [hr]; exact hr3
  have hrt : (u : Int).tmod 16 = (r : Int) := by rw [Int.tmod_eq_emod_of_nonneg (by omega)]; exact hr
  have HX0 := Lib.hid (HAT.out r (by omega))
  go_enter Tryd.func29, Tryd.ntmps29
  go_wp2
  have hx0 := HX0.out
  go_region
  go_wp2
  go_loopw [0, 8] (Rel29 16 u false w) (fun x _ _ => (intOf x).toNat)
  case atStart => exact ⟨u, [], rfl, by rw [Hr.out], hu, Lib.hid (by simp), Lib.hid ((Below.refl _ w).drew)⟩
  case round =>
    clear hx0 hr hr2 hr3 hr5 hrt
    obtain ⟨v, l, rfl, rfl, hv, HR, HB⟩ := hrel
    rename World => wx
    have hl : l.length ≤ 22 := by have h1 := congrArg List.length HR.out; rw [List.length_append] at h1; have := HL.out; omega
    obtain ⟨c1, Hc1⟩ : ∃ c1, Hid (upc false (dch (v % 16)) = c1) := ⟨_, Lib.hid rfl⟩
    rw [Hc1.out]
    by_cases hb : 16 ≤ v
    · obtain ⟨q, Hq⟩ : ∃ q, Hid (v / 16 = q) := ⟨_, Lib.hid rfl⟩
      have hq : (v : Int) / 16 = (q : Int) := by have := Hq.out; omega
      have hqv : q < v := by have := Hq.out; omega
      obtain ⟨r, Hr2⟩ : ∃ r, Hid (q % 16 = r) := ⟨_, Lib.hid rfl⟩
      have hr : (q : Int) % 16 = (r : Int) := by have := Hr2.out; omega
      have hr2 : r < 16 := by rw [← Hr2.out]; exact Nat.mod_lt _ (by omega)
      have hr3 : IntKind.u64.wrap ((r : Int) + 1) = ((r + 1 : Nat) : Int) := by rw [IntKind.wrap_u64]; omega
      have hr5 : IntKind.u64.wrap ((q : Int) % 16 + 1) = ((r + 1 : Nat) : Int) := by rw [hr]; exact hr3
      have hrt : (q : Int).tmod 16 = (r : Int) := by rw [Int.tmod_eq_emod_of_nonneg (by omega)]; exact hr
      have hx := HAT.out r (by omega)
      obtain ⟨c2, Hc2⟩ : ∃ c2, Hid (upc false (dch r) = c2) := ⟨_, Lib.hid rfl⟩
      rw [Hc2.out] at hx
      have n1 : ¬ 9223372036854775807 < (mk [c2]).size + (mk (c1 :: l)).size := by rw [mk_size, mk_size]; simp; omega
      have ha : mk [c2] ++ mk (c1 :: l) = mk (c2 :: c1 :: l) := mk_app _ _
      have HN : Hid ((bd 16 q).map (upc false) ++ (c1 :: l) = (bd 16 u).map (upc false)) := Lib.hid (by
        rw [← HR.out, bd_big hb (by omega), Hq.out, List.map_append, ← Hc1.out]; simp)
      have hdv : decide (16 ≤ (v : Int)) = true := decide_eq_true (by omega)
      clear hl
      go_wp2
      go_region
      go_wp2
      go_roundw
      case rel => exact ⟨q, c1 :: l, rfl, by rw [Hr2.out, Hc2.out], by omega, HN, Lib.hid HB.out.drew⟩
      case measure => simp [intOf]; omega
    · have hdv : decide (16 ≤ (v : Int)) = false := decide_eq_false (by omega)
      have HF : Hid (c1 :: l = (bd 16 u).map (upc false)) := Lib.hid (by
        rw [← HR.out, bd_small (by omega), ← Hc1.out, Nat.mod_eq_of_lt (by omega)]; rfl)
      go_wp2
      go_ret
      exact ⟨by rw [HF.out]; rfl, HB.out⟩

set_option maxHeartbeats 4000000 in
set_option maxRecDepth 100000 in
theorem base29_16u (u : Nat) (hu : u < 18446744073709551616) (w : World) : Calls Tryd.prog 29 #[.int .u64 u, .int .u64 16, .bool true] w fun e w' => e = .returned (.string (mk ((bd 16 u).map (upc true)))) ∧ Below w.heap.size w w' := by
  obtain ⟨S, HS⟩ : ∃ S, Hid (setL true = S) := ⟨_, Lib.hid rfl⟩
  have HL : Hid (((bd 16 u).map (upc true)).length ≤ 22) := Lib.hid (by rw [List.length_map]; exact bd_len 16 (by omega) 21 u (Nat.lt_trans hu (by decide)))
  have HAT : Hid (∀ d, d < 16 → (setL true).extract d (d + 1) = mk [upc true (dch d)]) := Lib.hid (setL_at true)
  have hset : setL true = ⟨#[48, 49, 50, 51, 52, 53, 54, 55, 56, 57, 65, 66, 67, 68, 69, 70]⟩ := rfl
  rw [hset] at HAT HS
  have hz : (⟨#[48, 49, 50, 51, 52, 53, 54, 55, 56, 57, 65, 66, 67, 68, 69, 70]⟩ : ByteArray).size = 16 := rfl
  obtain ⟨r, Hr⟩ : ∃ r, Hid (u % 16 = r) := ⟨_, Lib.hid rfl⟩
  have hr : (u : Int) % 16 = (r : Int) := by have := Hr.out; omega
  have hr2 : r < 16 := by rw [← Hr.out]; exact Nat.mod_lt _ (by omega)
  have hr3 : IntKind.u64.wrap ((r : Int) + 1) = ((r + 1 : Nat) : Int) := by rw [IntKind.wrap_u64]; omega
  have hr5 : IntKind.u64.wrap ((u : Int) % 16 + 1) = ((r + 1 : Nat) : Int) := by rw [hr]; exact hr3
  have hrt : (u : Int).tmod 16 = (r : Int) := by rw [Int.tmod_eq_emod_of_nonneg (by omega)]; exact hr
  have HX0 := Lib.hid (HAT.out r (by omega))
  go_enter Tryd.func29, Tryd.ntmps29
  go_wp2
  have hx0 := HX0.out
  go_region
  go_wp2
  go_loopw [0, 8] (Rel29 16 u true w) (fun x _ _ => (intOf x).toNat)
  case atStart => exact ⟨u, [], rfl, by rw [Hr.out], hu, Lib.hid (by simp), Lib.hid ((Below.refl _ w).drew)⟩
  case round =>
    clear hx0 hr hr2 hr3 hr5 hrt
    obtain ⟨v, l, rfl, rfl, hv, HR, HB⟩ := hrel
    rename World => wx
    have hl : l.length ≤ 22 := by have h1 := congrArg List.length HR.out; rw [List.length_append] at h1; have := HL.out; omega
    obtain ⟨c1, Hc1⟩ : ∃ c1, Hid (upc true (dch (v % 16)) = c1) := ⟨_, Lib.hid rfl⟩
    rw [Hc1.out]
    by_cases hb : 16 ≤ v
    · obtain ⟨q, Hq⟩ : ∃ q, Hid (v / 16 = q) := ⟨_, Lib.hid rfl⟩
      have hq : (v : Int) / 16 = (q : Int) := by have := Hq.out; omega
      have hqv : q < v := by have := Hq.out; omega
      obtain ⟨r, Hr2⟩ : ∃ r, Hid (q % 16 = r) := ⟨_, Lib.hid rfl⟩
      have hr : (q : Int) % 16 = (r : Int) := by have := Hr2.out; omega
      have hr2 : r < 16 := by rw [← Hr2.out]; exact Nat.mod_lt _ (by omega)
      have hr3 : IntKind.u64.wrap ((r : Int) + 1) = ((r + 1 : Nat) : Int) := by rw [IntKind.wrap_u64]; omega
      have hr5 : IntKind.u64.wrap ((q : Int) % 16 + 1) = ((r + 1 : Nat) : Int) := by rw [hr]; exact hr3
      have hrt : (q : Int).tmod 16 = (r : Int) := by rw [Int.tmod_eq_emod_of_nonneg (by omega)]; exact hr
      have hx := HAT.out r (by omega)
      obtain ⟨c2, Hc2⟩ : ∃ c2, Hid (upc true (dch r) = c2) := ⟨_, Lib.hid rfl⟩
      rw [Hc2.out] at hx
      have n1 : ¬ 9223372036854775807 < (mk [c2]).size + (mk (c1 :: l)).size := by rw [mk_size, mk_size]; simp; omega
      have ha : mk [c2] ++ mk (c1 :: l) = mk (c2 :: c1 :: l) := mk_app _ _
      have HN : Hid ((bd 16 q).map (upc true) ++ (c1 :: l) = (bd 16 u).map (upc true)) := Lib.hid (by
        rw [← HR.out, bd_big hb (by omega), Hq.out, List.map_append, ← Hc1.out]; simp)
      have hdv : decide (16 ≤ (v : Int)) = true := decide_eq_true (by omega)
      clear hl
      go_wp2
      go_region
      go_wp2
      go_roundw
      case rel => exact ⟨q, c1 :: l, rfl, by rw [Hr2.out, Hc2.out], by omega, HN, Lib.hid HB.out.drew⟩
      case measure => simp [intOf]; omega
    · have hdv : decide (16 ≤ (v : Int)) = false := decide_eq_false (by omega)
      have HF : Hid (c1 :: l = (bd 16 u).map (upc true)) := Lib.hid (by
        rw [← HR.out, bd_small (by omega), ← Hc1.out, Nat.mod_eq_of_lt (by omega)]; rfl)
      go_wp2
      go_ret
      exact ⟨by rw [HF.out]; rfl, HB.out⟩
end Go.Proofs.YtckhomeokhhneaaDoor
