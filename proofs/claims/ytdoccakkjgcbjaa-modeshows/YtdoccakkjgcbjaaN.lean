/- ModeShows, walked: the function returns true for every input. No condition. -/
import Derived.Test.YtdoccakkjgcbjaaZ
import Derived.Test.YtdoccakkjgcbjaaW
import Derived.Test.YtdoccakkjgcbjaaJ
namespace Go.Proofs.Ytdoccakkjgcbjaa
open Go.RowKit Go.PlainAid
set_option linter.unusedSimpArgs false

theorem and_pow (m i : Nat) : (m &&& 2 ^ i == 0) = !m.testBit i := by
  rw [nat_bit, bit_div]
  by_cases h : m / 2 ^ i % 2 = 1
  · rw [h, Nat.one_mul, decide_eq_true rfl]
    exact beq_eq_false_iff_ne.2 (Nat.ne_of_gt (Nat.two_pow_pos i))
  · have : m / 2 ^ i % 2 = 0 := by omega
    rw [this]; simp
theorem beq_I (n : Nat) : (((n : Int)) == 0) = (n == 0) := by
  by_cases h : n = 0
  · subst h; rfl
  · rw [beq_eq_false_iff_ne.2 h]; exact beq_eq_false_iff_ne.2 (by omega)
theorem and_lit (m i : Nat) (hi : i < 12) : (bits .and .i64 (m : Int) ((2 ^ i : Nat) : Int) == 0) = !m.testBit i := by
  have hp : 2 ^ i < 4096 := Nat.pow_lt_pow_right (by omega) (show i < 12 from hi)
  rw [and_I hp, beq_I, and_pow]
theorem putL_bit (m i : Nat) (c : Int) (hi : i < 12) : putL (m : Int) ((2 ^ i : Nat) : Int) c = if m.testBit i = true then c else 45 := by
  unfold putL; rw [and_lit m i hi]; cases m.testBit i <;> rfl

theorem and_and {a b : Nat} (ha : a < 4096) (hb : b < 4096) (m : Nat) : bits .and .i64 (bits .and .i64 (m : Int) (a : Int)) (b : Int) = bits .and .i64 (m : Int) ((a &&& b : Nat) : Int) := by
  rw [and_I ha, and_I hb, and_I (and_lt hb), Nat.and_assoc]

theorem three_same (m : Nat) (who beside r wq x e : Nat) (both alone : Int) (h1 : bits .and .i64 (who : Int) 292 = ((2 ^ r : Nat) : Int)) (h2 : bits .and .i64 (who : Int) 146 = ((2 ^ wq : Nat) : Int)) (h3 : bits .and .i64 (who : Int) 73 = ((2 ^ x : Nat) : Int))
    (h4 : beside = 2 ^ e) (h5 : who &&& 73 = 2 ^ x) (hw : who < 4096) (hr : r < 12) (hwq : wq < 12) (hx : x < 12) (he : e < 12) :
    threeL (m : Int) (who : Int) (beside : Int) both alone = [if m.testBit r = true then 114 else 45, if m.testBit wq = true then 119 else 45,
      if m.testBit e = true then (if m.testBit x = true then both else alone) else (if m.testBit x = true then 120 else 45)] := by
  subst h4
  unfold threeL
  rw [h1, h2, h3, putL_bit m r _ hr, putL_bit m wq _ hwq, putL_bit m x _ hx, putL_bit m e _ he, putL_bit m e _ he, and_lit m e he]
  rw [show bits .and .i64 (bits .and .i64 (m : Int) (who : Int)) 73 = bits .and .i64 (m : Int) ((who &&& 73 : Nat) : Int) from and_and (b := 73) hw (by omega) m, h5]
  rw [show (bits .and .i64 (m : Int) ((2 ^ x : Nat) : Int) != 0) = m.testBit x by rw [bne, and_lit m x hx, Bool.not_not]]
  cases m.testBit e <;> cases m.testBit x <;> simp

theorem letters_same' (kind : Int) (m : Nat) : lettersL kind (m : Int) = kind :: refLs m 9 := by
  unfold lettersL
  rw [show threeL (m : Int) 448 2048 115 83 = _ from three_same m 448 2048 8 7 6 11 115 83 (by decide +kernel) (by decide +kernel) (by decide +kernel) rfl rfl (by omega) (by omega) (by omega) (by omega) (by omega),
    show threeL (m : Int) 56 1024 115 83 = _ from three_same m 56 1024 5 4 3 10 115 83 (by decide +kernel) (by decide +kernel) (by decide +kernel) rfl rfl (by omega) (by omega) (by omega) (by omega) (by omega),
    show threeL (m : Int) 7 512 116 84 = _ from three_same m 7 512 2 1 0 9 116 84 (by decide +kernel) (by decide +kernel) (by decide +kernel) rfl rfl (by omega) (by omega) (by omega) (by omega) (by omega)]
  simp only [refLs, refLetter, List.nil_append, List.cons_append, List.append_assoc]
  simp

def freshR (m mask : Nat) : Nat → Nat
  | 0 => m
  | k + 1 => if mask.testBit k = true then putN (freshR m mask k) k false else freshR m mask k
theorem freshR_lt (m mask : Nat) (hm : m < 4096) : ∀ k, k ≤ 9 → freshR m mask k < 4096
  | 0, _ => hm
  | k + 1, hk => by
    rw [freshR]
    have ih := freshR_lt m mask hm k (by omega)
    split
    · exact putN_lt _ _ _ ih (by omega)
    · exact ih
theorem freshR_bit (m mask j : Nat) (hj : j < 12) : ∀ k, k ≤ 9 → (freshR m mask k).testBit j = (m.testBit j && !(decide (j < k) && mask.testBit j))
  | 0, _ => by simp [freshR]
  | k + 1, hk => by
    have ih := freshR_bit m mask j hj k (by omega)
    rw [freshR]
    by_cases e : j = k
    · subst e
      cases hb : mask.testBit j
      · simp [ih, hb]
      · simp [putN_bit, hj, hb]
    · have hd : decide (j < k + 1) = decide (j < k) := by
        by_cases l : j < k
        · rw [decide_eq_true l, decide_eq_true (by omega)]
        · rw [decide_eq_false l, decide_eq_false (by omega)]
      rw [hd, ← ih]
      split
      · rw [putN_bit _ _ _ _ (by omega) hj, if_neg e]
      · rfl
theorem fresh_same (m mask : Nat) (hm : m < 4096) : bits .andNot .i64 (m : Int) (bits .and .i64 (mask : Int) 511) = ((freshR m mask 9 : Nat) : Int) := by
  rw [show bits .and .i64 (mask : Int) 511 = ((mask &&& 511 : Nat) : Int) from and_I (b := 511) (by omega), andNot_I hm]
  congr 1
  refine eq_of_bits (ldiff_lt m _ hm) (freshR_lt m mask hm 9 (by omega)) fun i hi => ?_
  rw [ldiff_bit, freshR_bit m mask i hi 9 (by omega), (kept_mask mask).2 i hi]
  simp

def Rel15 (m mask : Nat) (mv i : Value) : Prop := ∃ k : Nat, k ≤ 9 ∧ i = .int .i64 k ∧ mv = .int .i64 (freshR m mask k : Nat)

set_option maxHeartbeats 2000000 in
theorem fresh15 (m mask : Nat) (w : World) (hm : m < 4096) (hk : mask < 4096) : Calls Try.prog 15 #[.int .i64 m, .int .i64 mask] w fun e w' => e = .returned (.int .i64 (freshR m mask 9 : Nat)) ∧ w = w' := by
  go_enter Try.func15, Try.ntmps15
  go_wp2
  go_loop [0, 5] (Rel15 m mask) (fun _ i => 9 - (intOf i).toNat)
  case atStart => exact ⟨0, by omega, rfl, rfl⟩
  case round =>
    obtain ⟨k, hk9, rfl, rfl⟩ := hrel
    have hlt := freshR_lt m mask hm k hk9
    by_cases hl : k < 9
    · cases hb : mask.testBit k
      · have HB := Lib.hid (fun w => has22_is hb hk (by omega) w)
        have HN : Hid (freshR m mask (k + 1) = freshR m mask k) := by rw [freshR, hb]; rfl
        clear hb
        generalize freshR m mask k = A at hlt HN ⊢
        go_wp2_with (go_at_call 22; refine (HB.out _).mono ?_; rintro e w' ⟨rfl, rfl⟩)
        go_round
        case rel => exact ⟨k + 1, hl, by go_num, by rw [HN.out]⟩
        case measure => simp [intOf]; omega
      · have HB := Lib.hid (fun w => has22_is hb hk (by omega) w)
        have HN : Hid (freshR m mask (k + 1) = putN (freshR m mask k) k false) := by rw [freshR, hb]; rfl
        clear hb
        generalize freshR m mask k = A at hlt HN ⊢
        go_wp2_with (first | (go_at_call 22; refine (HB.out _).mono ?_; rintro e w' ⟨rfl, rfl⟩) | (go_at_call 24; refine (put24 _ _ _ _ hlt (by omega)).mono ?_; rintro e w' ⟨rfl, rfl⟩))
        go_round
        case rel => exact ⟨k + 1, hl, by go_num, by rw [HN.out]⟩
        case measure => simp [intOf]; omega
    · have hk2 : k = 9 := by omega
      subst hk2
      go_wp2
      go_ret
      exact ⟨rfl, rfl⟩

theorem fresh14_is (m mask : Nat) (w : World) (hm : m < 4096) : Calls Try.prog 14 #[.int .i64 m, .int .i64 mask] w fun e w' => e = .returned (.int .i64 (freshR m mask 9 : Nat)) ∧ w = w' :=
  (fresh14 m mask w).mono fun _ _ ⟨he, hw⟩ => ⟨by rw [he, fresh_same m mask hm], hw⟩
theorem letters12_is (kind : Int) (m : Nat) (w : World) : Calls Try.prog 12 #[.int .u8 kind, .int .i64 m] w fun e w' => e = .returned (.string (strOfNums (kind :: refLs m 9))) ∧ Below w.heap.size w w' :=
  (letters12 kind m w).mono fun _ _ ⟨he, hw⟩ => ⟨by rw [he, letters_same' kind m], hw⟩
theorem right8_yes (m : Int) (w : World) (h0 : 0 ≤ m) (h1 : m ≤ 4095) : Calls Try.prog 8 #[.int .i64 m] w fun e w' => e = .returned (.bool true) ∧ w = w' :=
  (right8 m w).mono fun _ _ ⟨he, hw⟩ => ⟨by rw [he, decide_eq_true ⟨h0, h1⟩], hw⟩
theorem right8_no (m : Int) (w : World) (h : ¬ (0 ≤ m ∧ m ≤ 4095)) : Calls Try.prog 8 #[.int .i64 m] w fun e w' => e = .returned (.bool false) ∧ w = w' :=
  (right8 m w).mono fun _ _ ⟨he, hw⟩ => ⟨by rw [he, decide_eq_false h], hw⟩

theorem bel_trans {w a b : World} (h : Below w.heap.size w a) (k : Below a.heap.size a b) : Below w.heap.size w b := h.trans (k.mono h.size)

set_option maxHeartbeats 4000000 in
set_option maxRecDepth 100000 in
theorem shows3_in (m mask : Nat) (kind : Int) (w : World) (hm : m < 4096) (hk : mask < 4096) : Calls Try.prog 3 #[.int .i64 m, .int .i64 mask, .int .u8 kind] w fun e w' => e = .returned (.bool true) ∧ Below w.heap.size w w' := by
  obtain ⟨F, hF⟩ : ∃ F, freshR m mask 9 = F := ⟨_, rfl⟩
  have c14 := fun w => fresh14_is m mask w hm
  have c15 := fun w => fresh15 m mask w hm hk
  rw [hF] at c14 c15
  have C14 := Lib.hid c14
  have C15 := Lib.hid c15
  clear hF c14 c15
  have hFF : ((F : Int) == (F : Int)) = true := by simp
  generalize hO : strOfNums (octD (m : Int)) = O
  have C10 : Hid (∀ w, Calls Try.prog 10 #[.int .i64 m] w fun e w' => e = .returned (.string O) ∧ Below w.heap.size w w') := fun w => by rw [← hO]; exact octal10 m w (by omega)
  have C11 : Hid (∀ w, Calls Try.prog 11 #[.int .i64 m] w fun e w' => e = .returned (.string O) ∧ Below w.heap.size w w') := fun w => by rw [← hO]; exact octal11 m w (by omega) (by omega)
  clear hO
  generalize hL : strOfNums (kind :: refLs m 9) = L
  have C12 : Hid (∀ w, Calls Try.prog 12 #[.int .u8 kind, .int .i64 m] w fun e w' => e = .returned (.string L) ∧ Below w.heap.size w w') := fun w => by rw [← hL]; exact letters12_is kind m w
  have C13 : Hid (∀ w, Calls Try.prog 13 #[.int .u8 kind, .int .i64 m] w fun e w' => e = .returned (.string L) ∧ Below w.heap.size w w') := fun w => by rw [← hL]; exact letters13 kind m w hm
  clear hL
  have hOO : (O.toList == O.toList) = true := by simp
  have hLL : (L.toList == L.toList) = true := by simp
  go_enter Try.func3, Try.ntmps3
  go_wp2_with (first | (go_at_call 7; refine (anchor7 _).mono ?_; rintro e w' ⟨rfl, nd, rfl⟩) | (go_at_call 8; refine (right8_yes _ _ (by omega) (by omega)).mono ?_; rintro e w' ⟨rfl, rfl⟩) | (go_at_call 9; (first | ((with_reducible refine (right9_yes (m : Int) _ (by omega) (by omega)).mono ?_); rintro e w' ⟨rfl, rfl⟩) | ((with_reducible refine (right9_yes (mask : Int) _ (by omega) (by omega)).mono ?_); rintro e w' ⟨rfl, rfl⟩))))
  refine (C10.out _).mono ?_
  rintro e w1 ⟨rfl, b1⟩
  have B1 : Hid (Below w.heap.size w w1) := bel_trans (bel_drewN (Below.refl _ w) nd) b1
  clear b1
  go_wp2_with fail
  refine (C11.out _).mono ?_
  rintro e w2 ⟨rfl, b2⟩
  have B2 : Hid (Below w.heap.size w w2) := bel_trans B1.out b2
  clear b2
  go_wp2_with fail
  refine (C12.out _).mono ?_
  rintro e w3 ⟨rfl, b3⟩
  have B3 : Hid (Below w.heap.size w w3) := bel_trans B2.out b3
  clear b3
  go_wp2_with fail
  refine (C13.out _).mono ?_
  rintro e w4 ⟨rfl, b4⟩
  have B4 : Hid (Below w.heap.size w w4) := bel_trans B3.out b4
  clear b4
  go_wp2_with (first | (go_at_call 14; refine (C14.out _).mono ?_; rintro e w' ⟨rfl, rfl⟩) | (go_at_call 15; refine (C15.out _).mono ?_; rintro e w' ⟨rfl, rfl⟩))
  go_ret
  exact ⟨rfl, B4.out⟩

set_option maxHeartbeats 4000000 in
set_option maxRecDepth 100000 in
theorem shows3 (m mask kind : Int) (w : World) : Calls Try.prog 3 #[.int .i64 m, .int .i64 mask, .int .u8 kind] w fun e w' => e = .returned (.bool true) ∧ Below w.heap.size w w' := by
  by_cases h2 : 0 ≤ m ∧ m ≤ 4095
  rotate_left
  · go_enter Try.func3, Try.ntmps3
    go_wp2_with (first | (go_at_call 7; refine (anchor7 _).mono ?_; rintro e w' ⟨rfl, nd, rfl⟩) | (go_at_call 8; refine (right8_no _ _ h2).mono ?_; rintro e w' ⟨rfl, rfl⟩) | (go_at_call 9; refine (right9_no m _ h2).mono ?_; rintro e w' ⟨rfl, rfl⟩))
    go_ret
    exact ⟨rfl, bel_drewN (Below.refl _ _) _⟩
  by_cases h3 : 0 ≤ mask ∧ mask ≤ 4095
  rotate_left
  · go_enter Try.func3, Try.ntmps3
    go_wp2_with (first | (go_at_call 7; refine (anchor7 _).mono ?_; rintro e w' ⟨rfl, nd, rfl⟩) | (go_at_call 8; refine (right8_yes _ _ h2.1 h2.2).mono ?_; rintro e w' ⟨rfl, rfl⟩) | (go_at_call 9; (first | ((with_reducible refine (right9_yes m _ h2.1 h2.2).mono ?_); rintro e w' ⟨rfl, rfl⟩) | ((with_reducible refine (right9_no mask _ h3).mono ?_); rintro e w' ⟨rfl, rfl⟩))))
    go_ret
    exact ⟨rfl, bel_drewN (Below.refl _ _) _⟩
  obtain ⟨mn, rfl⟩ := Int.eq_ofNat_of_zero_le h2.1
  obtain ⟨kn, rfl⟩ := Int.eq_ofNat_of_zero_le h3.1
  exact shows3_in mn kn kind w (by omega) (by omega)
end Go.Proofs.Ytdoccakkjgcbjaa
