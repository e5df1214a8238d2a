/- Contract of the document's Head. Conditions: lengths that fit an int. -/
import Derived.Test.YtdjfapaebonadaaJ
namespace Go.Proofs.Ytdjfapaebonadaa
open Go.RowKit Go.PlainAid
set_option linter.unusedSimpArgs false
set_option linter.unusedVariables false

def G16 (w : World) (o : Option (Nat × List UInt8)) (e : Ending) (w' : World) : Prop := e = .returned (v16 o) ∧ Below w.heap.size w w'
theorem bt_ext (l : ByteArray) (a k : Nat) : bt (l.extract a l.size) k = bt l (a + k) := by rw [bt_at, bt_at, ls_drop, at0_drop]
theorem ext2 (l : ByteArray) (a b : Nat) (h : a ≤ l.size) : (l.extract a l.size).extract b (l.extract a l.size).size = l.extract (a + b) l.size := ls_inj (by rw [ls_drop, ls_drop, ls_drop, List.drop_drop])
theorem headOf_short {l : ByteArray} (h : l.size < 11) : headOf (ls l) = none := by
  by_cases hp : (ls l).take 6 = beginL
  · have h6 := pre6_len hp
    rw [headOf_yes hp]
    apply headR_no
    rintro ⟨h1, _, h3⟩
    have := (rightL_len h3).1
    rw [ext2 l 6 4 h6, ext_sz _ _ _ (Nat.le_refl _)] at this
    omega
  · exact headOf_no hp
theorem headOf_parts {l : ByteArray} (h : 11 ≤ l.size) (hp : (ls l).take 6 = beginL) (h9 : bt l 9 = 32) (hr : rightL (ls (l.extract 10 l.size)) = true) : headOf (ls l) = (dg ((ls l).drop 6) 3 0).map (·, ls (l.extract 10 l.size)) := by
  rw [headOf_yes hp, headR_yes (by rw [ext_sz _ _ _ (Nat.le_refl _)]; omega) (by rw [bt_ext]; exact h9) (by rw [ext2 _ _ _ (by omega)]; exact hr), ext2 _ _ _ (by omega), ls_drop l 6]
theorem headOf_no9 {l : ByteArray} (h9 : bt l 9 ≠ 32) : headOf (ls l) = none := by
  by_cases hp : (ls l).take 6 = beginL
  · rw [headOf_yes hp]
    apply headR_no
    rintro ⟨_, h1, _⟩
    rw [bt_ext] at h1
    exact h9 h1
  · exact headOf_no hp
theorem headOf_noR {l : ByteArray} (hr : rightL (ls (l.extract 10 l.size)) = false) : headOf (ls l) = none := by
  by_cases hp : (ls l).take 6 = beginL
  · rw [headOf_yes hp]
    apply headR_no
    rintro ⟨_, _, h1⟩
    rw [ext2 _ _ _ (pre6_len hp), hr] at h1
    cases h1
  · exact headOf_no hp
def Rel16 (l : ByteArray) (D : Option Nat) (m i : Value) : Prop := ∃ k x : Nat, k ≤ 3 ∧ i = .int .i64 (6 + k : Nat) ∧ m = .int .i64 x ∧ x ≤ 511 ∧ (k ≤ 2 → x ≤ 63) ∧ (k ≤ 1 → x ≤ 7) ∧ (k = 0 → x = 0) ∧ dg ((ls l).drop 6) (3 - k) x = D
theorem bt6 (l : ByteArray) (k : Nat) : bt l (6 + k) = (at0 ((ls l).drop 6) k : Int) := by rw [bt_at, at0_drop]
set_option maxHeartbeats 4000000 in
set_option maxRecDepth 100000 in
theorem head16 (l : ByteArray) (w : World) (hs : l.size ≤ 100000) : Calls Try.prog 16 #[.string l] w (G16 w (headOf (ls l))) := by
  have hb := get_bt l
  by_cases h11 : l.size < 11
  · rw [headOf_short h11]
    go_enter Try.func16, Try.ntmps16
    go_wp2
    go_ret3
    exact ⟨rfl, Below.refl _ _⟩
  cases hp : pre6 l
  · rw [headOf_no (fun h => by rw [(pre6_iff l).2 h] at hp; cases hp)]
    unfold pre6 at hp
    have hp2 : ((l.extract 0 6).toList != [98, 101, 103, 105, 110, 32]) = true := by rw [bne, hp]; rfl
    go_enter Try.func16, Try.ntmps16
    go_wp2
    go_ret3
    exact ⟨rfl, Below.refl _ _⟩
  have HP := Lib.hid ((pre6_iff l).1 hp)
  unfold pre6 at hp
  have hp2 : ((l.extract 0 6).toList != [98, 101, 103, 105, 110, 32]) = false := by rw [bne, hp]; rfl
  cases h9 : (bt l 9 == 32)
  · rw [headOf_no9 (by simpa using h9)]
    have h9' : (bt l 9 != 32) = true := by rw [bne, h9]; rfl
    go_enter Try.func16, Try.ntmps16
    go_wp2
    go_ret3
    exact ⟨rfl, Below.refl _ _⟩
  have h9' : (bt l 9 != 32) = false := by rw [bne, h9]; rfl
  have CR := Lib.hid fun w => right23 (l.extract 10 l.size) w (by rw [ext_sz _ _ _ (Nat.le_refl _)]; unfold maxLen; omega)
  cases hr : rightL (ls (l.extract 10 l.size))
  · rw [headOf_noR hr]
    rw [hr] at CR
    clear hr
    go_enter Try.func16, Try.ntmps16
    go_wp2_with (go_at_call 23; refine (CR.out _).mono ?_; rintro e w' ⟨rfl, rfl⟩)
    go_ret3
    exact ⟨rfl, Below.refl _ _⟩
  rw [headOf_parts (by omega) HP.out (beq_iff_eq.1 h9) hr]
  rw [hr] at CR
  clear hr HP
  obtain ⟨D, HD⟩ : ∃ D, Hid (dg ((ls l).drop 6) 3 0 = D) := ⟨_, Lib.hid rfl⟩
  rw [HD.out]
  go_enter Try.func16, Try.ntmps16
  go_wp2_with (go_at_call 23; refine (CR.out _).mono ?_; rintro e w' ⟨rfl, rfl⟩)
  go_loop [5, 6] (Rel16 l D) (fun _ i => 9 - (intOf i).toNat)
  case atStart => exact ⟨0, 0, by omega, rfl, rfl, by omega, by omega, by omega, by omega, HD.out⟩
  case round =>
    clear CR HD
    obtain ⟨k, x, hk, rfl, rfl, hx1, hx2, hx3, hx4, hd⟩ := hrel
    have HD := Lib.hid hd
    clear hd
    by_cases hlt : k < 3
    · have b1 := bt_nonneg l (6 + k)
      have b2 := bt_le l (6 + k)
      by_cases hc1 : bt l (6 + k) < 48
      · have HN : Hid (D = none) := Lib.hid (by rw [← HD.out, dg_bad _ _ _ hlt (by left; rw [bt6] at hc1; omega)])
        go_wp2
        go_ret3
        rw [HN.out]
        exact ⟨rfl, Below.refl _ _⟩
      · by_cases hc2 : 55 < bt l (6 + k)
        · have HN : Hid (D = none) := Lib.hid (by rw [← HD.out, dg_bad _ _ _ hlt (by right; rw [bt6] at hc2; omega)])
          go_wp2
          go_ret3
          rw [HN.out]
          exact ⟨rfl, Below.refl _ _⟩
        · have hx64 : x ≤ 63 := by omega
          have HN : Hid (dg ((ls l).drop 6) (3 - (k + 1)) (8 * x + (bt l (6 + k) - 48).toNat) = D) := Lib.hid (by
            rw [← HD.out, dg_step _ k x hlt (by rw [bt6] at hc1; omega) (by rw [bt6] at hc2; omega)]
            congr 1; rw [bt6]; omega)
          have HX : Hid (((8 * x + (bt l (6 + k) - 48).toNat : Nat) : Int) = 8 * (x : Int) + (bt l (6 + k) - 48)) := Lib.hid (by omega)
          go_wp2
          go_round
          case rel => exact ⟨k + 1, _, by omega, by go_num, by rw [HX.out], by omega, by omega, by omega, by omega, HN.out⟩
          case measure => simp [intOf]; omega
    · obtain rfl : k = 3 := by omega
      have HF : Hid (D = some x) := Lib.hid HD.out.symm
      have c4 : (10 : Int) ≤ l.size := by omega
      go_wp2
      go_region
      go_wp2
      go_ret3
      rw [HF.out]
      refine ⟨?_, (Below.refl _ w).drew⟩
      show _ = Ending.returned (.tuple #[.int .i64 x, .string (mk (ls (l.extract 10 l.size))), .bool true])
      rw [mk_ls]
      rfl
end Go.Proofs.Ytdjfapaebonadaa
