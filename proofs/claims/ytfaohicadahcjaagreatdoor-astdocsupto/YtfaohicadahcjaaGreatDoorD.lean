/- Contracts: positional numbers, sums' texts, ours and the document's. Conditions: lengths that fit an int. -/
import Derived.Test.YtfaohicadahcjaaGreatDoorMc
namespace Go.Proofs.YtfaohicadahcjaaGreatDoor
open Go.RowKit Go.PlainAid Go.ChangeShapes Go.WideShapes Go.ChangeAt
set_option linter.unusedSimpArgs false
set_option linter.unusedVariables false

theorem all_cut (f : UInt8 → Bool) (s : ByteArray) (k : Nat) (h : k < s.size) : ((ls s).drop k).all f = (f (UInt8.ofNat (at0 (ls s) k)) && ((ls s).drop (k + 1)).all f) := by
  rw [ls_cut s k h, List.all_cons]
def digA (l : List UInt8) : Bool := l.all (fun b => digN b.toNat)
theorem digA_cut (s : ByteArray) (k : Nat) (h : k < s.size) : digA ((ls s).drop k) = (digN (at0 (ls s) k) && digA ((ls s).drop (k + 1))) := by
  unfold digA; rw [all_cut _ s k h, ofNat_toNat]
theorem digA_end (s : ByteArray) : digA ((ls s).drop s.size) = true := by rw [drop_end]; rfl
theorem is48 (s : ByteArray) : (ls s == [48]) = (s.toList == [48]) := by rw [toList_data]
theorem numL_is (s : ByteArray) : numL (ls s) = (!emB s && decide (s.size ≤ 4) && digA (ls s) && (!decide (at0 (ls s) 0 = 48) || (s.toList == [48]))) := by
  unfold numL digA
  rw [isEm, ls_len, is48]
  simp
def Rel25 (s : ByteArray) (i : Value) : Prop := ∃ k : Nat, k ≤ s.size ∧ i = .int .i64 k ∧ Hid (digA (ls s) = digA ((ls s).drop k))
theorem size_em {s : ByteArray} (h : emB s = true) : s.size = 0 := by rw [emB_size] at h; simpa using h
theorem size_ne {s : ByteArray} (h : emB s = false) : 0 < s.size := by rw [emB_size] at h; have : ¬ s.size = 0 := of_decide_eq_false h; omega
set_option maxHeartbeats 4000000 in
set_option maxRecDepth 100000 in
theorem num25 (s : ByteArray) (hs : s.size ≤ 9223372036854775806) (w : World) : Calls Tryz.prog 25 #[.string s] w fun e w' => e = .returned (.bool (numL (ls s))) ∧ w = w' := by
  have hb := get_bt s
  have h0 := emp_is s
  obtain ⟨b1, h1⟩ : ∃ b, decide (4 < s.size) = b := ⟨_, rfl⟩
  have h1' : decide (4 < (s.size : Int)) = b1 := by rw [← h1]; exact decide_eq_decide.2 (by omega)
  obtain ⟨b2, h2⟩ : ∃ b, decide (at0 (ls s) 0 = 48) = b := ⟨_, rfl⟩
  have h2' : (bt s 0 == 48) = b2 := by rw [← h2]; exact eq95 s 0 48
  obtain ⟨b3, h3⟩ : ∃ b, (s.toList == [48]) = b := ⟨_, rfl⟩
  have h3' : (s.toList != [48]) = !b3 := by rw [bne, h3]
  have h4 : decide (s.size ≤ 4) = !b1 := by rw [← h1, ← decide_not]; exact decide_eq_decide.2 (by omega)
  have HS : Hid (numL (ls s) = (!emB s && !b1 && digA (ls s) && (!b2 || b3))) := Lib.hid (by rw [numL_is, h2, h3, h4])
  have HP : Hid (emB s = false → 0 < s.size) := Lib.hid size_ne
  clear h2 h4
  cases he : emB s
  case true =>
    rw [he] at h0 HS
    go_enter Tryz.func25, Tryz.ntmps25
    go_wp2
    go_ret
    exact ⟨by rw [HS.out]; rfl, rfl⟩
  have hpos := HP.out he
  rw [he] at h0 HS
  clear he
  cases b1
  case true =>
    go_enter Tryz.func25, Tryz.ntmps25
    go_wp2
    go_ret
    exact ⟨by rw [HS.out]; rfl, rfl⟩
  cases b2 <;> cases b3
  case true.false =>
    go_enter Tryz.func25, Tryz.ntmps25
    go_wp2
    go_ret
    exact ⟨by rw [HS.out]; simp, rfl⟩
  all_goals (
    have HS : Hid (numL (ls s) = digA (ls s)) := Lib.hid (by rw [HS.out]; simp)
    go_enter Tryz.func25, Tryz.ntmps25
    go_wp2
    go_loop [22] (Rel25 s) (fun i => s.size - (intOf i).toNat)
    case atStart => exact ⟨0, Nat.zero_le _, rfl, Lib.hid rfl⟩
    case round =>
      obtain ⟨k, hk, rfl, HR⟩ := hrel
      by_cases hlt : k < s.size
      · have C1 := Lib.hid fun W => dig47 (at0 (ls s) k) (at0_lt _ _) W
        rw [← bt_at] at C1
        have HC := Lib.hid (digA_cut s k hlt)
        generalize digN (at0 (ls s) k) = b5 at C1 HC
        cases b5
        · go_wp2_with (go_at_call 47; refine (C1.out _).mono ?_; rintro e w' ⟨rfl, rfl⟩)
          go_ret
          exact ⟨by rw [HS.out, HR.out, HC.out]; rfl, rfl⟩
        · go_wp2_with (go_at_call 47; refine (C1.out _).mono ?_; rintro e w' ⟨rfl, rfl⟩)
          go_round
          case rel => exact ⟨k + 1, by omega, by go_num, Lib.hid (by rw [HR.out, HC.out]; rfl)⟩
          case measure => simp [intOf]; omega
      · obtain rfl : k = s.size := by omega
        have HE : Hid (numL (ls s) = true) := Lib.hid (by rw [HS.out, HR.out, digA_end])
        go_wp2
        go_ret
        rw [HE.out]; exact ⟨rfl, rfl⟩)
theorem lit48 {s : ByteArray} (h : (s.toList == [48]) = true) : numL (ls s) = true := by
  have : ls s = [48] := by rw [toList_data] at h; simpa using h
  rw [this]; rfl
set_option maxHeartbeats 4000000 in
set_option maxRecDepth 100000 in
theorem num26 (s : ByteArray) (hs : s.size ≤ 9223372036854775806) (w : World) : Calls Tryz.prog 26 #[.string s] w fun e w' => e = .returned (.bool (numL (ls s))) ∧ w = w' := by
  have hb := get_bt s
  obtain ⟨b3, h3⟩ : ∃ b, (s.toList == [48]) = b := ⟨_, rfl⟩
  cases b3
  case true =>
    have HS := Lib.hid (lit48 h3)
    go_enter Tryz.func26, Tryz.ntmps26
    go_wp2
    go_ret
    rw [HS.out]; exact ⟨rfl, rfl⟩
  have HS : Hid (numL (ls s) = (!emB s && decide (s.size ≤ 4) && digA (ls s) && !decide (at0 (ls s) 0 = 48))) := Lib.hid (by rw [numL_is, h3, Bool.or_false])
  have HZ : Hid (emB s = decide (s.size = 0)) := Lib.hid (emB_size s)
  go_enter Tryz.func26, Tryz.ntmps26
  go_wp2
  go_loop [3] (Rel25 s) (fun i => s.size - (intOf i).toNat)
  case atStart => exact ⟨0, Nat.zero_le _, rfl, Lib.hid rfl⟩
  case round =>
    obtain ⟨k, hk, rfl, HR⟩ := hrel
    by_cases hlt : k < s.size
    · have C1 := Lib.hid fun W => dig50 (at0 (ls s) k) (at0_lt _ _) W
      rw [← bt_at] at C1
      have HC := Lib.hid (digA_cut s k hlt)
      generalize digN (at0 (ls s) k) = b5 at C1 HC
      cases b5
      · go_wp2_with (go_at_call 50; refine (C1.out _).mono ?_; rintro e w' ⟨rfl, rfl⟩)
        go_ret
        exact ⟨by rw [HS.out, HR.out, HC.out]; simp, rfl⟩
      · go_wp2_with (go_at_call 50; refine (C1.out _).mono ?_; rintro e w' ⟨rfl, rfl⟩)
        go_round
        case rel => exact ⟨k + 1, by omega, by go_num, Lib.hid (by rw [HR.out, HC.out]; rfl)⟩
        case measure => simp [intOf]; omega
    · obtain rfl : k = s.size := by omega
      have HE : Hid (numL (ls s) = (decide (1 ≤ s.size) && decide (s.size ≤ 4) && !decide (at0 (ls s) 0 = 48))) := Lib.hid (by
        rw [HS.out, HR.out, digA_end, HZ.out, Bool.and_true]
        congr 2
        rw [← decide_not]; exact decide_eq_decide.2 (by omega))
      by_cases hp : 0 < s.size
      · obtain ⟨b2, h2⟩ : ∃ b, decide (at0 (ls s) 0 = 48) = b := ⟨_, rfl⟩
        have h2' : (bt s 0 != 48) = !b2 := by rw [← h2, bne]; congr 1; exact eq95 s 0 48
        obtain ⟨b1, h1⟩ : ∃ b, decide (s.size ≤ 4) = b := ⟨_, rfl⟩
        have h1' : decide ((s.size : Int) ≤ 4) = b1 := by rw [← h1]; exact decide_eq_decide.2 (by omega)
        have h5 : decide (1 ≤ s.size) = true := decide_eq_true (by omega)
        have h6 : decide (1 ≤ (s.size : Int)) = true := decide_eq_true (by omega)
        rw [h2, h1, h5] at HE
        clear h2
        cases b1 <;> cases b2
        all_goals (
          simp only [Bool.not_true, Bool.not_false] at h2'
          go_wp2
          go_ret
          rw [HE.out]; exact ⟨rfl, rfl⟩)
      · have h5 : decide (1 ≤ s.size) = false := decide_eq_false (by omega)
        have h6 : decide (1 ≤ (s.size : Int)) = false := decide_eq_false (by omega)
        rw [h5] at HE
        go_wp2
        go_ret
        rw [HE.out]; exact ⟨rfl, rfl⟩
/-! Sums. -/
theorem sumA_cut (o : Nat) (s : ByteArray) (k : Nat) (h : k < s.size) (b : Bool) (hb : sumN (at0 (ls s) k) = b) : sumA o ((ls s).drop k) = (b && (if at0 (ls s) k = 40 then sumA (o + 1) ((ls s).drop (k + 1)) else if at0 (ls s) k = 41 then (match o with | 0 => false | o' + 1 => sumA o' ((ls s).drop (k + 1))) else sumA o ((ls s).drop (k + 1)))) := by
  rw [ls_cut s k h, sumA.eq_def]
  simp only [ofNat_toNat, hb]
  cases o <;> rfl
def sumS2 : List UInt8 := [95, 32, 9, 10, 43, 45, 42, 47, 37, 60, 62, 61, 33, 38, 124, 94, 126, 63, 58, 36, 40, 41]
theorem sumS_is (c : Nat) (hc : c < 256) : hasC sumS2 c = hasC sumS c := (by decide +kernel : ∀ n : Fin 256, hasC sumS2 n.val = hasC sumS n.val) ⟨c, hc⟩
def Rel33 (s : ByteArray) (p i : Value) : Prop := ∃ k o : Nat, k ≤ s.size ∧ o ≤ k ∧ p = .int .i64 o ∧ i = .int .i64 k ∧ Hid (sumL (ls s) = sumA o ((ls s).drop k))
set_option maxHeartbeats 8000000 in
set_option maxRecDepth 100000 in
theorem sum33 (s : ByteArray) (hs : s.size ≤ 9223372036854775806) (w : World) : Calls Tryz.prog 33 #[.string s] w fun e w' => e = .returned (.bool (sumL (ls s))) ∧ w = w' := by
  have hb := get_bt s
  go_enter Tryz.func33, Tryz.ntmps33
  go_wp2
  go_loop [3, 8] (Rel33 s) (fun p i => s.size - (intOf i).toNat)
  case atStart => exact ⟨0, 0, Nat.zero_le _, Nat.le_refl _, rfl, rfl, Lib.hid rfl⟩
  case round =>
    obtain ⟨k, o, hk, ho, rfl, rfl, HR⟩ := hrel
    by_cases hlt : k < s.size
    · have C0 := Lib.hid fun W => lett46 (at0 (ls s) k) (at0_lt _ _) W
      have C1 := Lib.hid fun W => dig47 (at0 (ls s) k) (at0_lt _ _) W
      have C2 := Lib.hid fun W => ib48 ⟨#[32, 9, 10, 95, 43, 45, 42, 47, 37, 60, 62, 61, 33, 38, 124, 94, 126, 63, 58, 36, 40, 41]⟩ (at0 (ls s) k) W
      rw [show ls ⟨#[32, 9, 10, 95, 43, 45, 42, 47, 37, 60, 62, 61, 33, 38, 124, 94, 126, 63, 58, 36, 40, 41]⟩ = sumS from rfl] at C2
      rw [← bt_at] at C0 C1 C2
      obtain ⟨p0, H0⟩ : ∃ b, decide (at0 (ls s) k = 40) = b := ⟨_, rfl⟩
      obtain ⟨p1, H1⟩ : ∃ b, decide (at0 (ls s) k = 41) = b := ⟨_, rfl⟩
      have hq0 : (bt s k == 40) = p0 := by rw [← H0]; exact eq95 s k 40
      have hq1 : (bt s k == 41) = p1 := by rw [← H1]; exact eq95 s k 41
      have HX : Hid (p0 = true → at0 (ls s) k = 40) := Lib.hid fun h => by rw [h] at H0; exact of_decide_eq_true H0
      have HY : Hid (p0 = false → ¬ at0 (ls s) k = 40) := Lib.hid fun h => by rw [h] at H0; exact of_decide_eq_false H0
      have HX1 : Hid (p1 = true → at0 (ls s) k = 41) := Lib.hid fun h => by rw [h] at H1; exact of_decide_eq_true H1
      have HY1 : Hid (p1 = false → ¬ at0 (ls s) k = 41) := Lib.hid fun h => by rw [h] at H1; exact of_decide_eq_false H1
      have HC := Lib.hid (sumA_cut o s k hlt _ rfl)
      have HS : Hid (sumN (at0 (ls s) k) = (lettN (at0 (ls s) k) || digN (at0 (ls s) k) || hasC sumS (at0 (ls s) k))) := Lib.hid rfl
      rw [HS.out] at HC
      clear H0 H1 HS
      generalize lettN (at0 (ls s) k) = b0 at C0 HC
      generalize digN (at0 (ls s) k) = b1 at C1 HC
      generalize hasC sumS (at0 (ls s) k) = b2 at C2 HC
      have ho' : (o : Int) ≤ 9223372036854775806 := by omega
      cases b0 <;> cases b1 <;> cases b2
      case false.false.false =>
        go_wp2_with (first
          | (go_at_call 46; refine (C0.out _).mono ?_; rintro e w' ⟨rfl, rfl⟩)
          | (go_at_call 47; refine (C1.out _).mono ?_; rintro e w' ⟨rfl, rfl⟩)
          | (go_at_call 48; refine (C2.out _).mono ?_; rintro e w' ⟨⟨x, rfl, hx1, hx2⟩, rfl⟩))
        go_ret
        exact ⟨by rw [HR.out, HC.out]; simp, rfl⟩
      all_goals (
        cases p0
        case true =>
          have HZ : Hid (sumL (ls s) = sumA (o + 1) ((ls s).drop (k + 1))) := Lib.hid (by rw [HR.out, HC.out, if_pos (HX.out rfl)]; simp)
          cases p1
          case true => exact absurd (HX1.out rfl) (by rw [HX.out rfl]; decide)
          go_wp2_with (first
          | (go_at_call 46; refine (C0.out _).mono ?_; rintro e w' ⟨rfl, rfl⟩)
          | (go_at_call 47; refine (C1.out _).mono ?_; rintro e w' ⟨rfl, rfl⟩)
          | (go_at_call 48; refine (C2.out _).mono ?_; rintro e w' ⟨⟨x, rfl, hx1, hx2⟩, rfl⟩))
          go_round
          case rel => exact ⟨k + 1, o + 1, by omega, by omega, by go_num, by go_num, HZ⟩
          case measure => simp [intOf]; omega
        cases p1
        case false =>
          have HZ : Hid (sumL (ls s) = sumA o ((ls s).drop (k + 1))) := Lib.hid (by rw [HR.out, HC.out, if_neg (HY.out rfl), if_neg (HY1.out rfl)]; simp)
          go_wp2_with (first
          | (go_at_call 46; refine (C0.out _).mono ?_; rintro e w' ⟨rfl, rfl⟩)
          | (go_at_call 47; refine (C1.out _).mono ?_; rintro e w' ⟨rfl, rfl⟩)
          | (go_at_call 48; refine (C2.out _).mono ?_; rintro e w' ⟨⟨x, rfl, hx1, hx2⟩, rfl⟩))
          go_round
          case rel => exact ⟨k + 1, o, by omega, by omega, by go_num, by go_num, HZ⟩
          case measure => simp [intOf]; omega
        by_cases hz : o = 0
        · subst hz
          have HZ : Hid (sumL (ls s) = false) := Lib.hid (by rw [HR.out, HC.out, if_neg (HY.out rfl), if_pos (HX1.out rfl)]; simp)
          go_wp2_with (first
          | (go_at_call 46; refine (C0.out _).mono ?_; rintro e w' ⟨rfl, rfl⟩)
          | (go_at_call 47; refine (C1.out _).mono ?_; rintro e w' ⟨rfl, rfl⟩)
          | (go_at_call 48; refine (C2.out _).mono ?_; rintro e w' ⟨⟨x, rfl, hx1, hx2⟩, rfl⟩))
          go_ret
          exact ⟨by rw [HZ.out]; rfl, rfl⟩
        · have HZ : Hid (sumL (ls s) = sumA (o - 1) ((ls s).drop (k + 1))) := Lib.hid (by
            obtain ⟨q, rfl⟩ : ∃ q, o = q + 1 := ⟨o - 1, by omega⟩
            rw [HR.out, HC.out, if_neg (HY.out rfl), if_pos (HX1.out rfl)]; simp)
          have hlt0 : decide ((o : Int) - 1 < 0) = false := decide_eq_false (by omega)
          go_wp2_with (first
          | (go_at_call 46; refine (C0.out _).mono ?_; rintro e w' ⟨rfl, rfl⟩)
          | (go_at_call 47; refine (C1.out _).mono ?_; rintro e w' ⟨rfl, rfl⟩)
          | (go_at_call 48; refine (C2.out _).mono ?_; rintro e w' ⟨⟨x, rfl, hx1, hx2⟩, rfl⟩))
          go_round
          case rel => exact ⟨k + 1, o - 1, by omega, by omega, by congr 1; omega, by go_num, HZ⟩
          case measure => simp [intOf]; omega)
    · obtain rfl : k = s.size := by omega
      have HE : Hid (sumL (ls s) = decide (o = 0)) := Lib.hid (by rw [HR.out, drop_end, sumA])
      have h0 : ((o : Int) == 0) = decide (o = 0) := by rw [Bool.eq_iff_iff]; simp
      have h1 : (o == 0) = decide (o = 0) := by rw [Bool.eq_iff_iff]; simp
      generalize decide (o = 0) = b0 at HE h0 h1
      cases b0
      all_goals (
        go_wp2
        go_ret
        rw [HE.out]; exact ⟨rfl, rfl⟩)
set_option maxHeartbeats 8000000 in
set_option maxRecDepth 100000 in
theorem sum34 (s : ByteArray) (hs : s.size ≤ 9223372036854775806) (w : World) : Calls Tryz.prog 34 #[.string s] w fun e w' => e = .returned (.bool (sumL (ls s))) ∧ w = w' := by
  have hb := get_bt s
  go_enter Tryz.func34, Tryz.ntmps34
  go_wp2
  go_loop [3, 4] (Rel33 s) (fun p i => s.size - (intOf i).toNat)
  case atStart => exact ⟨0, 0, Nat.zero_le _, Nat.le_refl _, rfl, rfl, Lib.hid rfl⟩
  case round =>
    obtain ⟨k, o, hk, ho, rfl, rfl, HR⟩ := hrel
    by_cases hlt : k < s.size
    · have C0 := Lib.hid fun W => lett49 (at0 (ls s) k) (at0_lt _ _) W
      have C1 := Lib.hid fun W => dig50 (at0 (ls s) k) (at0_lt _ _) W
      have C2 := Lib.hid fun W => in51 ⟨#[95, 32, 9, 10, 43, 45, 42, 47, 37, 60, 62, 61, 33, 38, 124, 94, 126, 63, 58, 36, 40, 41]⟩ (by decide) (at0 (ls s) k) (at0_lt _ _) W
      rw [show ls ⟨#[95, 32, 9, 10, 43, 45, 42, 47, 37, 60, 62, 61, 33, 38, 124, 94, 126, 63, 58, 36, 40, 41]⟩ = sumS2 from rfl, sumS_is _ (at0_lt _ _)] at C2
      rw [← bt_at] at C0 C1 C2
      obtain ⟨p0, H0⟩ : ∃ b, decide (at0 (ls s) k = 40) = b := ⟨_, rfl⟩
      obtain ⟨p1, H1⟩ : ∃ b, decide (at0 (ls s) k = 41) = b := ⟨_, rfl⟩
      have hq0 : (bt s k == 40) = p0 := by rw [← H0]; exact eq95 s k 40
      have hq1 : (bt s k == 41) = p1 := by rw [← H1]; exact eq95 s k 41
      have HX : Hid (p0 = true → at0 (ls s) k = 40) := Lib.hid fun h => by rw [h] at H0; exact of_decide_eq_true H0
      have HY : Hid (p0 = false → ¬ at0 (ls s) k = 40) := Lib.hid fun h => by rw [h] at H0; exact of_decide_eq_false H0
      have HX1 : Hid (p1 = true → at0 (ls s) k = 41) := Lib.hid fun h => by rw [h] at H1; exact of_decide_eq_true H1
      have HY1 : Hid (p1 = false → ¬ at0 (ls s) k = 41) := Lib.hid fun h => by rw [h] at H1; exact of_decide_eq_false H1
      have HC := Lib.hid (sumA_cut o s k hlt _ rfl)
      have HS : Hid (sumN (at0 (ls s) k) = (lettN (at0 (ls s) k) || digN (at0 (ls s) k) || hasC sumS (at0 (ls s) k))) := Lib.hid rfl
      rw [HS.out] at HC
      clear H0 H1 HS
      generalize lettN (at0 (ls s) k) = b0 at C0 HC
      generalize digN (at0 (ls s) k) = b1 at C1 HC
      generalize hasC sumS (at0 (ls s) k) = b2 at C2 HC
      have ho' : (o : Int) ≤ 9223372036854775806 := by omega
      cases b0 <;> cases b1 <;> cases b2
      case false.false.false =>
        go_wp2_with (first
          | (go_at_call 49; refine (C0.out _).mono ?_; rintro e w' ⟨rfl, rfl⟩)
          | (go_at_call 50; refine (C1.out _).mono ?_; rintro e w' ⟨rfl, rfl⟩)
          | (go_at_call 51; refine (C2.out _).mono ?_; rintro e w' ⟨rfl, rfl⟩))
        go_ret
        exact ⟨by rw [HR.out, HC.out]; simp, rfl⟩
      all_goals (
        cases p0
        case true =>
          have HZ : Hid (sumL (ls s) = sumA (o + 1) ((ls s).drop (k + 1))) := Lib.hid (by rw [HR.out, HC.out, if_pos (HX.out rfl)]; simp)
          cases p1
          case true => exact absurd (HX1.out rfl) (by rw [HX.out rfl]; decide)
          go_wp2_with (first
          | (go_at_call 49; refine (C0.out _).mono ?_; rintro e w' ⟨rfl, rfl⟩)
          | (go_at_call 50; refine (C1.out _).mono ?_; rintro e w' ⟨rfl, rfl⟩)
          | (go_at_call 51; refine (C2.out _).mono ?_; rintro e w' ⟨rfl, rfl⟩))
          go_round
          case rel => exact ⟨k + 1, o + 1, by omega, by omega, by go_num, by go_num, HZ⟩
          case measure => simp [intOf]; omega
        cases p1
        case false =>
          have HZ : Hid (sumL (ls s) = sumA o ((ls s).drop (k + 1))) := Lib.hid (by rw [HR.out, HC.out, if_neg (HY.out rfl), if_neg (HY1.out rfl)]; simp)
          go_wp2_with (first
          | (go_at_call 49; refine (C0.out _).mono ?_; rintro e w' ⟨rfl, rfl⟩)
          | (go_at_call 50; refine (C1.out _).mono ?_; rintro e w' ⟨rfl, rfl⟩)
          | (go_at_call 51; refine (C2.out _).mono ?_; rintro e w' ⟨rfl, rfl⟩))
          go_round
          case rel => exact ⟨k + 1, o, by omega, by omega, by go_num, by go_num, HZ⟩
          case measure => simp [intOf]; omega
        by_cases hz : o = 0
        · subst hz
          have HZ : Hid (sumL (ls s) = false) := Lib.hid (by rw [HR.out, HC.out, if_neg (HY.out rfl), if_pos (HX1.out rfl)]; simp)
          go_wp2_with (first
          | (go_at_call 49; refine (C0.out _).mono ?_; rintro e w' ⟨rfl, rfl⟩)
          | (go_at_call 50; refine (C1.out _).mono ?_; rintro e w' ⟨rfl, rfl⟩)
          | (go_at_call 51; refine (C2.out _).mono ?_; rintro e w' ⟨rfl, rfl⟩))
          go_ret
          exact ⟨by rw [HZ.out]; rfl, rfl⟩
        · have HZ : Hid (sumL (ls s) = sumA (o - 1) ((ls s).drop (k + 1))) := Lib.hid (by
            obtain ⟨q, rfl⟩ : ∃ q, o = q + 1 := ⟨o - 1, by omega⟩
            rw [HR.out, HC.out, if_neg (HY.out rfl), if_pos (HX1.out rfl)]; simp)
          have hlt0 : decide ((o : Int) - 1 < 0) = false := decide_eq_false (by omega)
          go_wp2_with (first
          | (go_at_call 49; refine (C0.out _).mono ?_; rintro e w' ⟨rfl, rfl⟩)
          | (go_at_call 50; refine (C1.out _).mono ?_; rintro e w' ⟨rfl, rfl⟩)
          | (go_at_call 51; refine (C2.out _).mono ?_; rintro e w' ⟨rfl, rfl⟩))
          go_round
          case rel => exact ⟨k + 1, o - 1, by omega, by omega, by congr 1; omega, by go_num, HZ⟩
          case measure => simp [intOf]; omega)
    · obtain rfl : k = s.size := by omega
      have HE : Hid (sumL (ls s) = decide (o = 0)) := Lib.hid (by rw [HR.out, drop_end, sumA])
      have h0 : ((o : Int) == 0) = decide (o = 0) := by rw [Bool.eq_iff_iff]; simp
      have h1 : (o == 0) = decide (o = 0) := by rw [Bool.eq_iff_iff]; simp
      generalize decide (o = 0) = b0 at HE h0 h1
      cases b0
      all_goals (
        go_wp2
        go_ret
        rw [HE.out]; exact ⟨rfl, rfl⟩)
end Go.Proofs.YtfaohicadahcjaaGreatDoor
