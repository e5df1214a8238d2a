/- The contract of the document's own act: it returns what its plain mirror says. Conditions: modes below 4096, one of the three signs, lengths that fit an int. -/
import Derived.Test.YtdoccakkjgcbjaaR
namespace Go.Proofs.Ytdoccakkjgcbjaa
open Go.RowKit Go.PlainAid
set_option linter.unusedSimpArgs false

theorem has22_is {m bit : Nat} {b : Bool} (h : m.testBit bit = b) (hm : m < 4096) (hb : bit < 12) (w : World) : Calls Try.prog 22 #[.int .i64 m, .int .i64 bit] w fun e w' => e = .returned (.bool b) ∧ w = w' :=
  (has22 m bit w hm hb).mono fun _ _ ⟨he, hw⟩ => ⟨by rw [he, h], hw⟩

theorem meant38_is {ls who : ByteArray} {bit : Nat} {any b : Bool} (h : meantM (bl ls) (bl who) bit any = b) (w : World) (hl : ls.size ≤ maxLen) (hw : who.size ≤ maxLen) (hb : bit < 12) :
    Calls Try.prog 38 #[.string ls, .string who, .int .i64 bit, .bool any] w fun e w' => e = .returned (.bool b) ∧ w = w' :=
  (meant38 ls who bit any w hl hw hb).mono fun _ _ ⟨he, hw⟩ => ⟨by rw [he, h], hw⟩
theorem gone39_is {who : ByteArray} {bit : Nat} {b : Bool} (h : goneM (bl who) bit = b) (w : World) (hw : who.size ≤ maxLen) (hb : bit < 12) :
    Calls Try.prog 39 #[.string who, .int .i64 bit] w fun e w' => e = .returned (.bool b) ∧ w = w' :=
  (gone39 who bit w hw hb).mono fun _ _ ⟨he, hw⟩ => ⟨by rw [he, h], hw⟩

def Rel35 (sign : Int) (ls who : List Int) (any named : Bool) (mask m : Nat) (out bit : Value) : Prop :=
  ∃ k : Nat, k ≤ 12 ∧ bit = .int .i64 k ∧ out = .int .i64 (afterR sign ls who any named mask m k : Nat)

set_option maxHeartbeats 8000000 in
set_option maxRecDepth 100000 in
theorem act35_d43 (m : Nat) (ls who : ByteArray) (mask : Nat) (named : Bool) (w : World) (hm : m < 4096) (hk : mask < 4096) (hl : ls.size ≤ maxLen) (hw : who.size ≤ maxLen)  :
    Calls Try.prog 35 #[.int .i64 m, .int .u8 43, .string ls, .string who, .bool true, .int .i64 mask, .bool named] w fun e w' => e = .returned (.int .i64 (afterR 43 (bl ls) (bl who) true named mask m 12 : Nat)) ∧ w = w' := by
  go_enter Try.func35, Try.ntmps35
  go_wp2
  go_loop [16, 17] (Rel35 43 (bl ls) (bl who) true named mask m) (fun _ i => 12 - (intOf i).toNat)
  case atStart => exact ⟨0, Nat.zero_le _, rfl, rfl⟩
  case round =>
    obtain ⟨k, hk12, rfl, rfl⟩ := hrel
    have hlt2 := afterR_lt 43 (bl ls) (bl who) true named mask m hm k hk12
    have hstep : afterR 43 (bl ls) (bl who) true named mask m (k + 1) = stepR 43 (bl ls) (bl who) true named mask (afterR 43 (bl ls) (bl who) true named mask m k) k := rfl
    have HF : Hid (k = 12 → afterR 43 (bl ls) (bl who) true named mask m k = afterR 43 (bl ls) (bl who) true named mask m 12) := fun e => by rw [e]
    generalize afterR 43 (bl ls) (bl who) true named mask m k = A at hlt2 hstep HF ⊢
    by_cases hlt : k < 12
    · obtain ⟨is, his⟩ : ∃ b, meantM (bl ls) (bl who) k true = b := ⟨_, rfl⟩
      obtain ⟨go, hgo⟩ : ∃ b, goneM (bl who) k = b := ⟨_, rfl⟩
      obtain ⟨mk, hmk⟩ : ∃ b, mask.testBit k = b := ⟨_, rfl⟩
      unfold stepR at hstep
      rw [his, hgo, hmk] at hstep
      have HS := Lib.hid hstep
      have HI := Lib.hid (fun w => meant38_is his w hl hw hlt)
      have HG := Lib.hid (fun w => gone39_is hgo w hw hlt)
      have HK := Lib.hid (fun w => has22_is hmk hk hlt w)
      have HT := Lib.hid (fun w => put24 A k true w hlt2 hlt)
      have HU := Lib.hid (fun w => put24 A k false w hlt2 hlt)
      clear his hgo hmk hstep
      have hn : (named = true) ∨ (named = false ∧ ¬ k < 9) ∨ (named = false ∧ k < 9) := by cases named <;> simp <;> omega
      rcases hn with hn | ⟨hn, h9⟩ | ⟨hn, h9⟩
      all_goals subst hn
      all_goals cases mk
      all_goals cases is
      all_goals cases go
      all_goals
        go_wp2_with (first | (go_at_call 22; refine (HK.out _).mono ?_; rintro e w' ⟨rfl, rfl⟩) | (go_at_call 38; refine (HI.out _).mono ?_; rintro e w' ⟨rfl, rfl⟩) | (go_at_call 39; refine (HG.out _).mono ?_; rintro e w' ⟨rfl, rfl⟩) | (go_at_call 24; (first | ((with_reducible refine (HT.out _).mono ?_); rintro e w' ⟨rfl, rfl⟩) | ((with_reducible refine (HU.out _).mono ?_); rintro e w' ⟨rfl, rfl⟩))))
        go_round
        case rel => exact ⟨k + 1, hlt, by go_num, by rw [HS.out]; simp [*]⟩
        case measure => simp [intOf]; omega
    · have hk2 : k = 12 := by omega
      have HF2 := Lib.hid (HF.out hk2)
      subst hk2
      go_wp2
      go_ret
      rw [← HF2.out]
      exact ⟨rfl, rfl⟩

set_option maxHeartbeats 8000000 in
set_option maxRecDepth 100000 in
theorem act35_a43 (m : Nat) (ls who : ByteArray) (mask : Nat) (named : Bool) (w : World) (hm : m < 4096) (hk : mask < 4096) (hl : ls.size ≤ maxLen) (hw : who.size ≤ maxLen) (h0 : m.testBit 0 = true) :
    Calls Try.prog 35 #[.int .i64 m, .int .u8 43, .string ls, .string who, .bool false, .int .i64 mask, .bool named] w fun e w' => e = .returned (.int .i64 (afterR 43 (bl ls) (bl who) true named mask m 12 : Nat)) ∧ w = w' := by
  have H0 : Hid (∀ w, Calls Try.prog 22 #[.int .i64 m, .int .i64 0] w fun e w' => e = .returned (.bool true) ∧ w = w') := fun w => has22_is h0 hm (by omega) w
  clear h0
  go_enter Try.func35, Try.ntmps35
  go_wp2_with (go_at_call 22; (first | ((with_reducible refine (H0.out _).mono ?_); rintro e w' ⟨rfl, rfl⟩)))
  go_loop [16, 17] (Rel35 43 (bl ls) (bl who) true named mask m) (fun _ i => 12 - (intOf i).toNat)
  case atStart => exact ⟨0, Nat.zero_le _, rfl, rfl⟩
  case round =>
    obtain ⟨k, hk12, rfl, rfl⟩ := hrel
    have hlt2 := afterR_lt 43 (bl ls) (bl who) true named mask m hm k hk12
    have hstep : afterR 43 (bl ls) (bl who) true named mask m (k + 1) = stepR 43 (bl ls) (bl who) true named mask (afterR 43 (bl ls) (bl who) true named mask m k) k := rfl
    have HF : Hid (k = 12 → afterR 43 (bl ls) (bl who) true named mask m k = afterR 43 (bl ls) (bl who) true named mask m 12) := fun e => by rw [e]
    generalize afterR 43 (bl ls) (bl who) true named mask m k = A at hlt2 hstep HF ⊢
    by_cases hlt : k < 12
    · obtain ⟨is, his⟩ : ∃ b, meantM (bl ls) (bl who) k true = b := ⟨_, rfl⟩
      obtain ⟨go, hgo⟩ : ∃ b, goneM (bl who) k = b := ⟨_, rfl⟩
      obtain ⟨mk, hmk⟩ : ∃ b, mask.testBit k = b := ⟨_, rfl⟩
      unfold stepR at hstep
      rw [his, hgo, hmk] at hstep
      have HS := Lib.hid hstep
      have HI := Lib.hid (fun w => meant38_is his w hl hw hlt)
      have HG := Lib.hid (fun w => gone39_is hgo w hw hlt)
      have HK := Lib.hid (fun w => has22_is hmk hk hlt w)
      have HT := Lib.hid (fun w => put24 A k true w hlt2 hlt)
      have HU := Lib.hid (fun w => put24 A k false w hlt2 hlt)
      clear his hgo hmk hstep
      have hn : (named = true) ∨ (named = false ∧ ¬ k < 9) ∨ (named = false ∧ k < 9) := by cases named <;> simp <;> omega
      rcases hn with hn | ⟨hn, h9⟩ | ⟨hn, h9⟩
      all_goals subst hn
      all_goals cases mk
      all_goals cases is
      all_goals cases go
      all_goals
        go_wp2_with (first | (go_at_call 22; refine (HK.out _).mono ?_; rintro e w' ⟨rfl, rfl⟩) | (go_at_call 38; refine (HI.out _).mono ?_; rintro e w' ⟨rfl, rfl⟩) | (go_at_call 39; refine (HG.out _).mono ?_; rintro e w' ⟨rfl, rfl⟩) | (go_at_call 24; (first | ((with_reducible refine (HT.out _).mono ?_); rintro e w' ⟨rfl, rfl⟩) | ((with_reducible refine (HU.out _).mono ?_); rintro e w' ⟨rfl, rfl⟩))))
        go_round
        case rel => exact ⟨k + 1, hlt, by go_num, by rw [HS.out]; simp [*]⟩
        case measure => simp [intOf]; omega
    · have hk2 : k = 12 := by omega
      have HF2 := Lib.hid (HF.out hk2)
      subst hk2
      go_wp2
      go_ret
      rw [← HF2.out]
      exact ⟨rfl, rfl⟩

set_option maxHeartbeats 8000000 in
set_option maxRecDepth 100000 in
theorem act35_b43 (m : Nat) (ls who : ByteArray) (mask : Nat) (named : Bool) (w : World) (hm : m < 4096) (hk : mask < 4096) (hl : ls.size ≤ maxLen) (hw : who.size ≤ maxLen) (h0 : m.testBit 0 = false) (h3 : m.testBit 3 = true) :
    Calls Try.prog 35 #[.int .i64 m, .int .u8 43, .string ls, .string who, .bool false, .int .i64 mask, .bool named] w fun e w' => e = .returned (.int .i64 (afterR 43 (bl ls) (bl who) true named mask m 12 : Nat)) ∧ w = w' := by
  have H0 : Hid (∀ w, Calls Try.prog 22 #[.int .i64 m, .int .i64 0] w fun e w' => e = .returned (.bool false) ∧ w = w') := fun w => has22_is h0 hm (by omega) w
  have H3 : Hid (∀ w, Calls Try.prog 22 #[.int .i64 m, .int .i64 3] w fun e w' => e = .returned (.bool true) ∧ w = w') := fun w => has22_is h3 hm (by omega) w
  clear h0 h3
  go_enter Try.func35, Try.ntmps35
  go_wp2_with (go_at_call 22; (first | ((with_reducible refine (H0.out _).mono ?_); rintro e w' ⟨rfl, rfl⟩) | ((with_reducible refine (H3.out _).mono ?_); rintro e w' ⟨rfl, rfl⟩)))
  go_loop [16, 17] (Rel35 43 (bl ls) (bl who) true named mask m) (fun _ i => 12 - (intOf i).toNat)
  case atStart => exact ⟨0, Nat.zero_le _, rfl, rfl⟩
  case round =>
    obtain ⟨k, hk12, rfl, rfl⟩ := hrel
    have hlt2 := afterR_lt 43 (bl ls) (bl who) true named mask m hm k hk12
    have hstep : afterR 43 (bl ls) (bl who) true named mask m (k + 1) = stepR 43 (bl ls) (bl who) true named mask (afterR 43 (bl ls) (bl who) true named mask m k) k := rfl
    have HF : Hid (k = 12 → afterR 43 (bl ls) (bl who) true named mask m k = afterR 43 (bl ls) (bl who) true named mask m 12) := fun e => by rw [e]
    generalize afterR 43 (bl ls) (bl who) true named mask m k = A at hlt2 hstep HF ⊢
    by_cases hlt : k < 12
    · obtain ⟨is, his⟩ : ∃ b, meantM (bl ls) (bl who) k true = b := ⟨_, rfl⟩
      obtain ⟨go, hgo⟩ : ∃ b, goneM (bl who) k = b := ⟨_, rfl⟩
      obtain ⟨mk, hmk⟩ : ∃ b, mask.testBit k = b := ⟨_, rfl⟩
      unfold stepR at hstep
      rw [his, hgo, hmk] at hstep
      have HS := Lib.hid hstep
      have HI := Lib.hid (fun w => meant38_is his w hl hw hlt)
      have HG := Lib.hid (fun w => gone39_is hgo w hw hlt)
      have HK := Lib.hid (fun w => has22_is hmk hk hlt w)
      have HT := Lib.hid (fun w => put24 A k true w hlt2 hlt)
      have HU := Lib.hid (fun w => put24 A k false w hlt2 hlt)
      clear his hgo hmk hstep
      have hn : (named = true) ∨ (named = false ∧ ¬ k < 9) ∨ (named = false ∧ k < 9) := by cases named <;> simp <;> omega
      rcases hn with hn | ⟨hn, h9⟩ | ⟨hn, h9⟩
      all_goals subst hn
      all_goals cases mk
      all_goals cases is
      all_goals cases go
      all_goals
        go_wp2_with (first | (go_at_call 22; refine (HK.out _).mono ?_; rintro e w' ⟨rfl, rfl⟩) | (go_at_call 38; refine (HI.out _).mono ?_; rintro e w' ⟨rfl, rfl⟩) | (go_at_call 39; refine (HG.out _).mono ?_; rintro e w' ⟨rfl, rfl⟩) | (go_at_call 24; (first | ((with_reducible refine (HT.out _).mono ?_); rintro e w' ⟨rfl, rfl⟩) | ((with_reducible refine (HU.out _).mono ?_); rintro e w' ⟨rfl, rfl⟩))))
        go_round
        case rel => exact ⟨k + 1, hlt, by go_num, by rw [HS.out]; simp [*]⟩
        case measure => simp [intOf]; omega
    · have hk2 : k = 12 := by omega
      have HF2 := Lib.hid (HF.out hk2)
      subst hk2
      go_wp2
      go_ret
      rw [← HF2.out]
      exact ⟨rfl, rfl⟩

set_option maxHeartbeats 8000000 in
set_option maxRecDepth 100000 in
theorem act35_c43 (m : Nat) (ls who : ByteArray) (mask : Nat) (named : Bool) (any : Bool) (w : World) (hm : m < 4096) (hk : mask < 4096) (hl : ls.size ≤ maxLen) (hw : who.size ≤ maxLen) (h0 : m.testBit 0 = false) (h3 : m.testBit 3 = false) (h6 : m.testBit 6 = any) :
    Calls Try.prog 35 #[.int .i64 m, .int .u8 43, .string ls, .string who, .bool false, .int .i64 mask, .bool named] w fun e w' => e = .returned (.int .i64 (afterR 43 (bl ls) (bl who) any named mask m 12 : Nat)) ∧ w = w' := by
  have H0 : Hid (∀ w, Calls Try.prog 22 #[.int .i64 m, .int .i64 0] w fun e w' => e = .returned (.bool false) ∧ w = w') := fun w => has22_is h0 hm (by omega) w
  have H3 : Hid (∀ w, Calls Try.prog 22 #[.int .i64 m, .int .i64 3] w fun e w' => e = .returned (.bool false) ∧ w = w') := fun w => has22_is h3 hm (by omega) w
  have H6 : Hid (∀ w, Calls Try.prog 22 #[.int .i64 m, .int .i64 6] w fun e w' => e = .returned (.bool any) ∧ w = w') := fun w => has22_is h6 hm (by omega) w
  clear h0 h3 h6
  go_enter Try.func35, Try.ntmps35
  go_wp2_with (go_at_call 22; (first | ((with_reducible refine (H0.out _).mono ?_); rintro e w' ⟨rfl, rfl⟩) | ((with_reducible refine (H3.out _).mono ?_); rintro e w' ⟨rfl, rfl⟩) | ((with_reducible refine (H6.out _).mono ?_); rintro e w' ⟨rfl, rfl⟩)))
  go_loop [16, 17] (Rel35 43 (bl ls) (bl who) any named mask m) (fun _ i => 12 - (intOf i).toNat)
  case atStart => exact ⟨0, Nat.zero_le _, rfl, rfl⟩
  case round =>
    obtain ⟨k, hk12, rfl, rfl⟩ := hrel
    have hlt2 := afterR_lt 43 (bl ls) (bl who) any named mask m hm k hk12
    have hstep : afterR 43 (bl ls) (bl who) any named mask m (k + 1) = stepR 43 (bl ls) (bl who) any named mask (afterR 43 (bl ls) (bl who) any named mask m k) k := rfl
    have HF : Hid (k = 12 → afterR 43 (bl ls) (bl who) any named mask m k = afterR 43 (bl ls) (bl who) any named mask m 12) := fun e => by rw [e]
    generalize afterR 43 (bl ls) (bl who) any named mask m k = A at hlt2 hstep HF ⊢
    by_cases hlt : k < 12
    · obtain ⟨is, his⟩ : ∃ b, meantM (bl ls) (bl who) k any = b := ⟨_, rfl⟩
      obtain ⟨go, hgo⟩ : ∃ b, goneM (bl who) k = b := ⟨_, rfl⟩
      obtain ⟨mk, hmk⟩ : ∃ b, mask.testBit k = b := ⟨_, rfl⟩
      unfold stepR at hstep
      rw [his, hgo, hmk] at hstep
      have HS := Lib.hid hstep
      have HI := Lib.hid (fun w => meant38_is his w hl hw hlt)
      have HG := Lib.hid (fun w => gone39_is hgo w hw hlt)
      have HK := Lib.hid (fun w => has22_is hmk hk hlt w)
      have HT := Lib.hid (fun w => put24 A k true w hlt2 hlt)
      have HU := Lib.hid (fun w => put24 A k false w hlt2 hlt)
      clear his hgo hmk hstep
      have hn : (named = true) ∨ (named = false ∧ ¬ k < 9) ∨ (named = false ∧ k < 9) := by cases named <;> simp <;> omega
      rcases hn with hn | ⟨hn, h9⟩ | ⟨hn, h9⟩
      all_goals subst hn
      all_goals cases mk
      all_goals cases is
      all_goals cases go
      all_goals
        go_wp2_with (first | (go_at_call 22; refine (HK.out _).mono ?_; rintro e w' ⟨rfl, rfl⟩) | (go_at_call 38; refine (HI.out _).mono ?_; rintro e w' ⟨rfl, rfl⟩) | (go_at_call 39; refine (HG.out _).mono ?_; rintro e w' ⟨rfl, rfl⟩) | (go_at_call 24; (first | ((with_reducible refine (HT.out _).mono ?_); rintro e w' ⟨rfl, rfl⟩) | ((with_reducible refine (HU.out _).mono ?_); rintro e w' ⟨rfl, rfl⟩))))
        go_round
        case rel => exact ⟨k + 1, hlt, by go_num, by rw [HS.out]; simp [*]⟩
        case measure => simp [intOf]; omega
    · have hk2 : k = 12 := by omega
      have HF2 := Lib.hid (HF.out hk2)
      subst hk2
      go_wp2
      go_ret
      rw [← HF2.out]
      exact ⟨rfl, rfl⟩

set_option maxHeartbeats 8000000 in
set_option maxRecDepth 100000 in
theorem act35_d45 (m : Nat) (ls who : ByteArray) (mask : Nat) (named : Bool) (w : World) (hm : m < 4096) (hk : mask < 4096) (hl : ls.size ≤ maxLen) (hw : who.size ≤ maxLen)  :
    Calls Try.prog 35 #[.int .i64 m, .int .u8 45, .string ls, .string who, .bool true, .int .i64 mask, .bool named] w fun e w' => e = .returned (.int .i64 (afterR 45 (bl ls) (bl who) true named mask m 12 : Nat)) ∧ w = w' := by
  go_enter Try.func35, Try.ntmps35
  go_wp2
  go_loop [16, 17] (Rel35 45 (bl ls) (bl who) true named mask m) (fun _ i => 12 - (intOf i).toNat)
  case atStart => exact ⟨0, Nat.zero_le _, rfl, rfl⟩
  case round =>
    obtain ⟨k, hk12, rfl, rfl⟩ := hrel
    have hlt2 := afterR_lt 45 (bl ls) (bl who) true named mask m hm k hk12
    have hstep : afterR 45 (bl ls) (bl who) true named mask m (k + 1) = stepR 45 (bl ls) (bl who) true named mask (afterR 45 (bl ls) (bl who) true named mask m k) k := rfl
    have HF : Hid (k = 12 → afterR 45 (bl ls) (bl who) true named mask m k = afterR 45 (bl ls) (bl who) true named mask m 12) := fun e => by rw [e]
    generalize afterR 45 (bl ls) (bl who) true named mask m k = A at hlt2 hstep HF ⊢
    by_cases hlt : k < 12
    · obtain ⟨is, his⟩ : ∃ b, meantM (bl ls) (bl who) k true = b := ⟨_, rfl⟩
      obtain ⟨go, hgo⟩ : ∃ b, goneM (bl who) k = b := ⟨_, rfl⟩
      obtain ⟨mk, hmk⟩ : ∃ b, mask.testBit k = b := ⟨_, rfl⟩
      unfold stepR at hstep
      rw [his, hgo, hmk] at hstep
      have HS := Lib.hid hstep
      have HI := Lib.hid (fun w => meant38_is his w hl hw hlt)
      have HG := Lib.hid (fun w => gone39_is hgo w hw hlt)
      have HK := Lib.hid (fun w => has22_is hmk hk hlt w)
      have HT := Lib.hid (fun w => put24 A k true w hlt2 hlt)
      have HU := Lib.hid (fun w => put24 A k false w hlt2 hlt)
      clear his hgo hmk hstep
      have hn : (named = true) ∨ (named = false ∧ ¬ k < 9) ∨ (named = false ∧ k < 9) := by cases named <;> simp <;> omega
      rcases hn with hn | ⟨hn, h9⟩ | ⟨hn, h9⟩
      all_goals subst hn
      all_goals cases mk
      all_goals cases is
      all_goals cases go
      all_goals
        go_wp2_with (first | (go_at_call 22; refine (HK.out _).mono ?_; rintro e w' ⟨rfl, rfl⟩) | (go_at_call 38; refine (HI.out _).mono ?_; rintro e w' ⟨rfl, rfl⟩) | (go_at_call 39; refine (HG.out _).mono ?_; rintro e w' ⟨rfl, rfl⟩) | (go_at_call 24; (first | ((with_reducible refine (HT.out _).mono ?_); rintro e w' ⟨rfl, rfl⟩) | ((with_reducible refine (HU.out _).mono ?_); rintro e w' ⟨rfl, rfl⟩))))
        go_round
        case rel => exact ⟨k + 1, hlt, by go_num, by rw [HS.out]; simp [*]⟩
        case measure => simp [intOf]; omega
    · have hk2 : k = 12 := by omega
      have HF2 := Lib.hid (HF.out hk2)
      subst hk2
      go_wp2
      go_ret
      rw [← HF2.out]
      exact ⟨rfl, rfl⟩

set_option maxHeartbeats 8000000 in
set_option maxRecDepth 100000 in
theorem act35_a45 (m : Nat) (ls who : ByteArray) (mask : Nat) (named : Bool) (w : World) (hm : m < 4096) (hk : mask < 4096) (hl : ls.size ≤ maxLen) (hw : who.size ≤ maxLen) (h0 : m.testBit 0 = true) :
    Calls Try.prog 35 #[.int .i64 m, .int .u8 45, .string ls, .string who, .bool false, .int .i64 mask, .bool named] w fun e w' => e = .returned (.int .i64 (afterR 45 (bl ls) (bl who) true named mask m 12 : Nat)) ∧ w = w' := by
  have H0 : Hid (∀ w, Calls Try.prog 22 #[.int .i64 m, .int .i64 0] w fun e w' => e = .returned (.bool true) ∧ w = w') := fun w => has22_is h0 hm (by omega) w
  clear h0
  go_enter Try.func35, Try.ntmps35
  go_wp2_with (go_at_call 22; (first | ((with_reducible refine (H0.out _).mono ?_); rintro e w' ⟨rfl, rfl⟩)))
  go_loop [16, 17] (Rel35 45 (bl ls) (bl who) true named mask m) (fun _ i => 12 - (intOf i).toNat)
  case atStart => exact ⟨0, Nat.zero_le _, rfl, rfl⟩
  case round =>
    obtain ⟨k, hk12, rfl, rfl⟩ := hrel
    have hlt2 := afterR_lt 45 (bl ls) (bl who) true named mask m hm k hk12
    have hstep : afterR 45 (bl ls) (bl who) true named mask m (k + 1) = stepR 45 (bl ls) (bl who) true named mask (afterR 45 (bl ls) (bl who) true named mask m k) k := rfl
    have HF : Hid (k = 12 → afterR 45 (bl ls) (bl who) true named mask m k = afterR 45 (bl ls) (bl who) true named mask m 12) := fun e => by rw [e]
    generalize afterR 45 (bl ls) (bl who) true named mask m k = A at hlt2 hstep HF ⊢
    by_cases hlt : k < 12
    · obtain ⟨is, his⟩ : ∃ b, meantM (bl ls) (bl who) k true = b := ⟨_, rfl⟩
      obtain ⟨go, hgo⟩ : ∃ b, goneM (bl who) k = b := ⟨_, rfl⟩
      obtain ⟨mk, hmk⟩ : ∃ b, mask.testBit k = b := ⟨_, rfl⟩
      unfold stepR at hstep
      rw [his, hgo, hmk] at hstep
      have HS := Lib.hid hstep
      have HI := Lib.hid (fun w => meant38_is his w hl hw hlt)
      have HG := Lib.hid (fun w => gone39_is hgo w hw hlt)
      have HK := Lib.hid (fun w => has22_is hmk hk hlt w)
      have HT := Lib.hid (fun w => put24 A k true w hlt2 hlt)
      have HU := Lib.hid (fun w => put24 A k false w hlt2 hlt)
      clear his hgo hmk hstep
      have hn : (named = true) ∨ (named = false ∧ ¬ k < 9) ∨ (named = false ∧ k < 9) := by cases named <;> simp <;> omega
      rcases hn with hn | ⟨hn, h9⟩ | ⟨hn, h9⟩
      all_goals subst hn
      all_goals cases mk
      all_goals cases is
      all_goals cases go
      all_goals
        go_wp2_with (first | (go_at_call 22; refine (HK.out _).mono ?_; rintro e w' ⟨rfl, rfl⟩) | (go_at_call 38; refine (HI.out _).mono ?_; rintro e w' ⟨rfl, rfl⟩) | (go_at_call 39; refine (HG.out _).mono ?_; rintro e w' ⟨rfl, rfl⟩) | (go_at_call 24; (first | ((with_reducible refine (HT.out _).mono ?_); rintro e w' ⟨rfl, rfl⟩) | ((with_reducible refine (HU.out _).mono ?_); rintro e w' ⟨rfl, rfl⟩))))
        go_round
        case rel => exact ⟨k + 1, hlt, by go_num, by rw [HS.out]; simp [*]⟩
        case measure => simp [intOf]; omega
    · have hk2 : k = 12 := by omega
      have HF2 := Lib.hid (HF.out hk2)
      subst hk2
      go_wp2
      go_ret
      rw [← HF2.out]
      exact ⟨rfl, rfl⟩

set_option maxHeartbeats 8000000 in
set_option maxRecDepth 100000 in
theorem act35_b45 (m : Nat) (ls who : ByteArray) (mask : Nat) (named : Bool) (w : World) (hm : m < 4096) (hk : mask < 4096) (hl : ls.size ≤ maxLen) (hw : who.size ≤ maxLen) (h0 : m.testBit 0 = false) (h3 : m.testBit 3 = true) :
    Calls Try.prog 35 #[.int .i64 m, .int .u8 45, .string ls, .string who, .bool false, .int .i64 mask, .bool named] w fun e w' => e = .returned (.int .i64 (afterR 45 (bl ls) (bl who) true named mask m 12 : Nat)) ∧ w = w' := by
  have H0 : Hid (∀ w, Calls Try.prog 22 #[.int .i64 m, .int .i64 0] w fun e w' => e = .returned (.bool false) ∧ w = w') := fun w => has22_is h0 hm (by omega) w
  have H3 : Hid (∀ w, Calls Try.prog 22 #[.int .i64 m, .int .i64 3] w fun e w' => e = .returned (.bool true) ∧ w = w') := fun w => has22_is h3 hm (by omega) w
  clear h0 h3
  go_enter Try.func35, Try.ntmps35
  go_wp2_with (go_at_call 22; (first | ((with_reducible refine (H0.out _).mono ?_); rintro e w' ⟨rfl, rfl⟩) | ((with_reducible refine (H3.out _).mono ?_); rintro e w' ⟨rfl, rfl⟩)))
  go_loop [16, 17] (Rel35 45 (bl ls) (bl who) true named mask m) (fun _ i => 12 - (intOf i).toNat)
  case atStart => exact ⟨0, Nat.zero_le _, rfl, rfl⟩
  case round =>
    obtain ⟨k, hk12, rfl, rfl⟩ := hrel
    have hlt2 := afterR_lt 45 (bl ls) (bl who) true named mask m hm k hk12
    have hstep : afterR 45 (bl ls) (bl who) true named mask m (k + 1) = stepR 45 (bl ls) (bl who) true named mask (afterR 45 (bl ls) (bl who) true named mask m k) k := rfl
    have HF : Hid (k = 12 → afterR 45 (bl ls) (bl who) true named mask m k = afterR 45 (bl ls) (bl who) true named mask m 12) := fun e => by rw [e]
    generalize afterR 45 (bl ls) (bl who) true named mask m k = A at hlt2 hstep HF ⊢
    by_cases hlt : k < 12
    · obtain ⟨is, his⟩ : ∃ b, meantM (bl ls) (bl who) k true = b := ⟨_, rfl⟩
      obtain ⟨go, hgo⟩ : ∃ b, goneM (bl who) k = b := ⟨_, rfl⟩
      obtain ⟨mk, hmk⟩ : ∃ b, mask.testBit k = b := ⟨_, rfl⟩
      unfold stepR at hstep
      rw [his, hgo, hmk] at hstep
      have HS := Lib.hid hstep
      have HI := Lib.hid (fun w => meant38_is his w hl hw hlt)
      have HG := Lib.hid (fun w => gone39_is hgo w hw hlt)
      have HK := Lib.hid (fun w => has22_is hmk hk hlt w)
      have HT := Lib.hid (fun w => put24 A k true w hlt2 hlt)
      have HU := Lib.hid (fun w => put24 A k false w hlt2 hlt)
      clear his hgo hmk hstep
      have hn : (named = true) ∨ (named = false ∧ ¬ k < 9) ∨ (named = false ∧ k < 9) := by cases named <;> simp <;> omega
      rcases hn with hn | ⟨hn, h9⟩ | ⟨hn, h9⟩
      all_goals subst hn
      all_goals cases mk
      all_goals cases is
      all_goals cases go
      all_goals
        go_wp2_with (first | (go_at_call 22; refine (HK.out _).mono ?_; rintro e w' ⟨rfl, rfl⟩) | (go_at_call 38; refine (HI.out _).mono ?_; rintro e w' ⟨rfl, rfl⟩) | (go_at_call 39; refine (HG.out _).mono ?_; rintro e w' ⟨rfl, rfl⟩) | (go_at_call 24; (first | ((with_reducible refine (HT.out _).mono ?_); rintro e w' ⟨rfl, rfl⟩) | ((with_reducible refine (HU.out _).mono ?_); rintro e w' ⟨rfl, rfl⟩))))
        go_round
        case rel => exact ⟨k + 1, hlt, by go_num, by rw [HS.out]; simp [*]⟩
        case measure => simp [intOf]; omega
    · have hk2 : k = 12 := by omega
      have HF2 := Lib.hid (HF.out hk2)
      subst hk2
      go_wp2
      go_ret
      rw [← HF2.out]
      exact ⟨rfl, rfl⟩

set_option maxHeartbeats 8000000 in
set_option maxRecDepth 100000 in
theorem act35_c45 (m : Nat) (ls who : ByteArray) (mask : Nat) (named : Bool) (any : Bool) (w : World) (hm : m < 4096) (hk : mask < 4096) (hl : ls.size ≤ maxLen) (hw : who.size ≤ maxLen) (h0 : m.testBit 0 = false) (h3 : m.testBit 3 = false) (h6 : m.testBit 6 = any) :
    Calls Try.prog 35 #[.int .i64 m, .int .u8 45, .string ls, .string who, .bool false, .int .i64 mask, .bool named] w fun e w' => e = .returned (.int .i64 (afterR 45 (bl ls) (bl who) any named mask m 12 : Nat)) ∧ w = w' := by
  have H0 : Hid (∀ w, Calls Try.prog 22 #[.int .i64 m, .int .i64 0] w fun e w' => e = .returned (.bool false) ∧ w = w') := fun w => has22_is h0 hm (by omega) w
  have H3 : Hid (∀ w, Calls Try.prog 22 #[.int .i64 m, .int .i64 3] w fun e w' => e = .returned (.bool false) ∧ w = w') := fun w => has22_is h3 hm (by omega) w
  have H6 : Hid (∀ w, Calls Try.prog 22 #[.int .i64 m, .int .i64 6] w fun e w' => e = .returned (.bool any) ∧ w = w') := fun w => has22_is h6 hm (by omega) w
  clear h0 h3 h6
  go_enter Try.func35, Try.ntmps35
  go_wp2_with (go_at_call 22; (first | ((with_reducible refine (H0.out _).mono ?_); rintro e w' ⟨rfl, rfl⟩) | ((with_reducible refine (H3.out _).mono ?_); rintro e w' ⟨rfl, rfl⟩) | ((with_reducible refine (H6.out _).mono ?_); rintro e w' ⟨rfl, rfl⟩)))
  go_loop [16, 17] (Rel35 45 (bl ls) (bl who) any named mask m) (fun _ i => 12 - (intOf i).toNat)
  case atStart => exact ⟨0, Nat.zero_le _, rfl, rfl⟩
  case round =>
    obtain ⟨k, hk12, rfl, rfl⟩ := hrel
    have hlt2 := afterR_lt 45 (bl ls) (bl who) any named mask m hm k hk12
    have hstep : afterR 45 (bl ls) (bl who) any named mask m (k + 1) = stepR 45 (bl ls) (bl who) any named mask (afterR 45 (bl ls) (bl who) any named mask m k) k := rfl
    have HF : Hid (k = 12 → afterR 45 (bl ls) (bl who) any named mask m k = afterR 45 (bl ls) (bl who) any named mask m 12) := fun e => by rw [e]
    generalize afterR 45 (bl ls) (bl who) any named mask m k = A at hlt2 hstep HF ⊢
    by_cases hlt : k < 12
    · obtain ⟨is, his⟩ : ∃ b, meantM (bl ls) (bl who) k any = b := ⟨_, rfl⟩
      obtain ⟨go, hgo⟩ : ∃ b, goneM (bl who) k = b := ⟨_, rfl⟩
      obtain ⟨mk, hmk⟩ : ∃ b, mask.testBit k = b := ⟨_, rfl⟩
      unfold stepR at hstep
      rw [his, hgo, hmk] at hstep
      have HS := Lib.hid hstep
      have HI := Lib.hid (fun w => meant38_is his w hl hw hlt)
      have HG := Lib.hid (fun w => gone39_is hgo w hw hlt)
      have HK := Lib.hid (fun w => has22_is hmk hk hlt w)
      have HT := Lib.hid (fun w => put24 A k true w hlt2 hlt)
      have HU := Lib.hid (fun w => put24 A k false w hlt2 hlt)
      clear his hgo hmk hstep
      have hn : (named = true) ∨ (named = false ∧ ¬ k < 9) ∨ (named = false ∧ k < 9) := by cases named <;> simp <;> omega
      rcases hn with hn | ⟨hn, h9⟩ | ⟨hn, h9⟩
      all_goals subst hn
      all_goals cases mk
      all_goals cases is
      all_goals cases go
      all_goals
        go_wp2_with (first | (go_at_call 22; refine (HK.out _).mono ?_; rintro e w' ⟨rfl, rfl⟩) | (go_at_call 38; refine (HI.out _).mono ?_; rintro e w' ⟨rfl, rfl⟩) | (go_at_call 39; refine (HG.out _).mono ?_; rintro e w' ⟨rfl, rfl⟩) | (go_at_call 24; (first | ((with_reducible refine (HT.out _).mono ?_); rintro e w' ⟨rfl, rfl⟩) | ((with_reducible refine (HU.out _).mono ?_); rintro e w' ⟨rfl, rfl⟩))))
        go_round
        case rel => exact ⟨k + 1, hlt, by go_num, by rw [HS.out]; simp [*]⟩
        case measure => simp [intOf]; omega
    · have hk2 : k = 12 := by omega
      have HF2 := Lib.hid (HF.out hk2)
      subst hk2
      go_wp2
      go_ret
      rw [← HF2.out]
      exact ⟨rfl, rfl⟩

set_option maxHeartbeats 8000000 in
set_option maxRecDepth 100000 in
theorem act35_d61 (m : Nat) (ls who : ByteArray) (mask : Nat) (named : Bool) (w : World) (hm : m < 4096) (hk : mask < 4096) (hl : ls.size ≤ maxLen) (hw : who.size ≤ maxLen)  :
    Calls Try.prog 35 #[.int .i64 m, .int .u8 61, .string ls, .string who, .bool true, .int .i64 mask, .bool named] w fun e w' => e = .returned (.int .i64 (afterR 61 (bl ls) (bl who) true named mask m 12 : Nat)) ∧ w = w' := by
  go_enter Try.func35, Try.ntmps35
  go_wp2
  go_loop [16, 17] (Rel35 61 (bl ls) (bl who) true named mask m) (fun _ i => 12 - (intOf i).toNat)
  case atStart => exact ⟨0, Nat.zero_le _, rfl, rfl⟩
  case round =>
    obtain ⟨k, hk12, rfl, rfl⟩ := hrel
    have hlt2 := afterR_lt 61 (bl ls) (bl who) true named mask m hm k hk12
    have hstep : afterR 61 (bl ls) (bl who) true named mask m (k + 1) = stepR 61 (bl ls) (bl who) true named mask (afterR 61 (bl ls) (bl who) true named mask m k) k := rfl
    have HF : Hid (k = 12 → afterR 61 (bl ls) (bl who) true named mask m k = afterR 61 (bl ls) (bl who) true named mask m 12) := fun e => by rw [e]
    generalize afterR 61 (bl ls) (bl who) true named mask m k = A at hlt2 hstep HF ⊢
    by_cases hlt : k < 12
    · obtain ⟨is, his⟩ : ∃ b, meantM (bl ls) (bl who) k true = b := ⟨_, rfl⟩
      obtain ⟨go, hgo⟩ : ∃ b, goneM (bl who) k = b := ⟨_, rfl⟩
      obtain ⟨mk, hmk⟩ : ∃ b, mask.testBit k = b := ⟨_, rfl⟩
      unfold stepR at hstep
      rw [his, hgo, hmk] at hstep
      have HS := Lib.hid hstep
      have HI := Lib.hid (fun w => meant38_is his w hl hw hlt)
      have HG := Lib.hid (fun w => gone39_is hgo w hw hlt)
      have HK := Lib.hid (fun w => has22_is hmk hk hlt w)
      have HT := Lib.hid (fun w => put24 A k true w hlt2 hlt)
      have HU := Lib.hid (fun w => put24 A k false w hlt2 hlt)
      clear his hgo hmk hstep
      have hn : (named = true) ∨ (named = false ∧ ¬ k < 9) ∨ (named = false ∧ k < 9) := by cases named <;> simp <;> omega
      rcases hn with hn | ⟨hn, h9⟩ | ⟨hn, h9⟩
      all_goals subst hn
      all_goals cases mk
      all_goals cases is
      all_goals cases go
      all_goals
        go_wp2_with (first | (go_at_call 22; refine (HK.out _).mono ?_; rintro e w' ⟨rfl, rfl⟩) | (go_at_call 38; refine (HI.out _).mono ?_; rintro e w' ⟨rfl, rfl⟩) | (go_at_call 39; refine (HG.out _).mono ?_; rintro e w' ⟨rfl, rfl⟩) | (go_at_call 24; (first | ((with_reducible refine (HT.out _).mono ?_); rintro e w' ⟨rfl, rfl⟩) | ((with_reducible refine (HU.out _).mono ?_); rintro e w' ⟨rfl, rfl⟩))))
        go_round
        case rel => exact ⟨k + 1, hlt, by go_num, by rw [HS.out]; simp [*]⟩
        case measure => simp [intOf]; omega
    · have hk2 : k = 12 := by omega
      have HF2 := Lib.hid (HF.out hk2)
      subst hk2
      go_wp2
      go_ret
      rw [← HF2.out]
      exact ⟨rfl, rfl⟩

set_option maxHeartbeats 8000000 in
set_option maxRecDepth 100000 in
theorem act35_a61 (m : Nat) (ls who : ByteArray) (mask : Nat) (named : Bool) (w : World) (hm : m < 4096) (hk : mask < 4096) (hl : ls.size ≤ maxLen) (hw : who.size ≤ maxLen) (h0 : m.testBit 0 = true) :
    Calls Try.prog 35 #[.int .i64 m, .int .u8 61, .string ls, .string who, .bool false, .int .i64 mask, .bool named] w fun e w' => e = .returned (.int .i64 (afterR 61 (bl ls) (bl who) true named mask m 12 : Nat)) ∧ w = w' := by
  have H0 : Hid (∀ w, Calls Try.prog 22 #[.int .i64 m, .int .i64 0] w fun e w' => e = .returned (.bool true) ∧ w = w') := fun w => has22_is h0 hm (by omega) w
  clear h0
  go_enter Try.func35, Try.ntmps35
  go_wp2_with (go_at_call 22; (first | ((with_reducible refine (H0.out _).mono ?_); rintro e w' ⟨rfl, rfl⟩)))
  go_loop [16, 17] (Rel35 61 (bl ls) (bl who) true named mask m) (fun _ i => 12 - (intOf i).toNat)
  case atStart => exact ⟨0, Nat.zero_le _, rfl, rfl⟩
  case round =>
    obtain ⟨k, hk12, rfl, rfl⟩ := hrel
    have hlt2 := afterR_lt 61 (bl ls) (bl who) true named mask m hm k hk12
    have hstep : afterR 61 (bl ls) (bl who) true named mask m (k + 1) = stepR 61 (bl ls) (bl who) true named mask (afterR 61 (bl ls) (bl who) true named mask m k) k := rfl
    have HF : Hid (k = 12 → afterR 61 (bl ls) (bl who) true named mask m k = afterR 61 (bl ls) (bl who) true named mask m 12) := fun e => by rw [e]
    generalize afterR 61 (bl ls) (bl who) true named mask m k = A at hlt2 hstep HF ⊢
    by_cases hlt : k < 12
    · obtain ⟨is, his⟩ : ∃ b, meantM (bl ls) (bl who) k true = b := ⟨_, rfl⟩
      obtain ⟨go, hgo⟩ : ∃ b, goneM (bl who) k = b := ⟨_, rfl⟩
      obtain ⟨mk, hmk⟩ : ∃ b, mask.testBit k = b := ⟨_, rfl⟩
      unfold stepR at hstep
      rw [his, hgo, hmk] at hstep
      have HS := Lib.hid hstep
      have HI := Lib.hid (fun w => meant38_is his w hl hw hlt)
      have HG := Lib.hid (fun w => gone39_is hgo w hw hlt)
      have HK := Lib.hid (fun w => has22_is hmk hk hlt w)
      have HT := Lib.hid (fun w => put24 A k true w hlt2 hlt)
      have HU := Lib.hid (fun w => put24 A k false w hlt2 hlt)
      clear his hgo hmk hstep
      have hn : (named = true) ∨ (named = false ∧ ¬ k < 9) ∨ (named = false ∧ k < 9) := by cases named <;> simp <;> omega
      rcases hn with hn | ⟨hn, h9⟩ | ⟨hn, h9⟩
      all_goals subst hn
      all_goals cases mk
      all_goals cases is
      all_goals cases go
      all_goals
        go_wp2_with (first | (go_at_call 22; refine (HK.out _).mono ?_; rintro e w' ⟨rfl, rfl⟩) | (go_at_call 38; refine (HI.out _).mono ?_; rintro e w' ⟨rfl, rfl⟩) | (go_at_call 39; refine (HG.out _).mono ?_; rintro e w' ⟨rfl, rfl⟩) | (go_at_call 24; (first | ((with_reducible refine (HT.out _).mono ?_); rintro e w' ⟨rfl, rfl⟩) | ((with_reducible refine (HU.out _).mono ?_); rintro e w' ⟨rfl, rfl⟩))))
        go_round
        case rel => exact ⟨k + 1, hlt, by go_num, by rw [HS.out]; simp [*]⟩
        case measure => simp [intOf]; omega
    · have hk2 : k = 12 := by omega
      have HF2 := Lib.hid (HF.out hk2)
      subst hk2
      go_wp2
      go_ret
      rw [← HF2.out]
      exact ⟨rfl, rfl⟩

set_option maxHeartbeats 8000000 in
set_option maxRecDepth 100000 in
theorem act35_b61 (m : Nat) (ls who : ByteArray) (mask : Nat) (named : Bool) (w : World) (hm : m < 4096) (hk : mask < 4096) (hl : ls.size ≤ maxLen) (hw : who.size ≤ maxLen) (h0 : m.testBit 0 = false) (h3 : m.testBit 3 = true) :
    Calls Try.prog 35 #[.int .i64 m, .int .u8 61, .string ls, .string who, .bool false, .int .i64 mask, .bool named] w fun e w' => e = .returned (.int .i64 (afterR 61 (bl ls) (bl who) true named mask m 12 : Nat)) ∧ w = w' := by
  have H0 : Hid (∀ w, Calls Try.prog 22 #[.int .i64 m, .int .i64 0] w fun e w' => e = .returned (.bool false) ∧ w = w') := fun w => has22_is h0 hm (by omega) w
  have H3 : Hid (∀ w, Calls Try.prog 22 #[.int .i64 m, .int .i64 3] w fun e w' => e = .returned (.bool true) ∧ w = w') := fun w => has22_is h3 hm (by omega) w
  clear h0 h3
  go_enter Try.func35, Try.ntmps35
  go_wp2_with (go_at_call 22; (first | ((with_reducible refine (H0.out _).mono ?_); rintro e w' ⟨rfl, rfl⟩) | ((with_reducible refine (H3.out _).mono ?_); rintro e w' ⟨rfl, rfl⟩)))
  go_loop [16, 17] (Rel35 61 (bl ls) (bl who) true named mask m) (fun _ i => 12 - (intOf i).toNat)
  case atStart => exact ⟨0, Nat.zero_le _, rfl, rfl⟩
  case round =>
    obtain ⟨k, hk12, rfl, rfl⟩ := hrel
    have hlt2 := afterR_lt 61 (bl ls) (bl who) true named mask m hm k hk12
    have hstep : afterR 61 (bl ls) (bl who) true named mask m (k + 1) = stepR 61 (bl ls) (bl who) true named mask (afterR 61 (bl ls) (bl who) true named mask m k) k := rfl
    have HF : Hid (k = 12 → afterR 61 (bl ls) (bl who) true named mask m k = afterR 61 (bl ls) (bl who) true named mask m 12) := fun e => by rw [e]
    generalize afterR 61 (bl ls) (bl who) true named mask m k = A at hlt2 hstep HF ⊢
    by_cases hlt : k < 12
    · obtain ⟨is, his⟩ : ∃ b, meantM (bl ls) (bl who) k true = b := ⟨_, rfl⟩
      obtain ⟨go, hgo⟩ : ∃ b, goneM (bl who) k = b := ⟨_, rfl⟩
      obtain ⟨mk, hmk⟩ : ∃ b, mask.testBit k = b := ⟨_, rfl⟩
      unfold stepR at hstep
      rw [his, hgo, hmk] at hstep
      have HS := Lib.hid hstep
      have HI := Lib.hid (fun w => meant38_is his w hl hw hlt)
      have HG := Lib.hid (fun w => gone39_is hgo w hw hlt)
      have HK := Lib.hid (fun w => has22_is hmk hk hlt w)
      have HT := Lib.hid (fun w => put24 A k true w hlt2 hlt)
      have HU := Lib.hid (fun w => put24 A k false w hlt2 hlt)
      clear his hgo hmk hstep
      have hn : (named = true) ∨ (named = false ∧ ¬ k < 9) ∨ (named = false ∧ k < 9) := by cases named <;> simp <;> omega
      rcases hn with hn | ⟨hn, h9⟩ | ⟨hn, h9⟩
      all_goals subst hn
      all_goals cases mk
      all_goals cases is
      all_goals cases go
      all_goals
        go_wp2_with (first | (go_at_call 22; refine (HK.out _).mono ?_; rintro e w' ⟨rfl, rfl⟩) | (go_at_call 38; refine (HI.out _).mono ?_; rintro e w' ⟨rfl, rfl⟩) | (go_at_call 39; refine (HG.out _).mono ?_; rintro e w' ⟨rfl, rfl⟩) | (go_at_call 24; (first | ((with_reducible refine (HT.out _).mono ?_); rintro e w' ⟨rfl, rfl⟩) | ((with_reducible refine (HU.out _).mono ?_); rintro e w' ⟨rfl, rfl⟩))))
        go_round
        case rel => exact ⟨k + 1, hlt, by go_num, by rw [HS.out]; simp [*]⟩
        case measure => simp [intOf]; omega
    · have hk2 : k = 12 := by omega
      have HF2 := Lib.hid (HF.out hk2)
      subst hk2
      go_wp2
      go_ret
      rw [← HF2.out]
      exact ⟨rfl, rfl⟩

set_option maxHeartbeats 8000000 in
set_option maxRecDepth 100000 in
theorem act35_c61 (m : Nat) (ls who : ByteArray) (mask : Nat) (named : Bool) (any : Bool) (w : World) (hm : m < 4096) (hk : mask < 4096) (hl : ls.size ≤ maxLen) (hw : who.size ≤ maxLen) (h0 : m.testBit 0 = false) (h3 : m.testBit 3 = false) (h6 : m.testBit 6 = any) :
    Calls Try.prog 35 #[.int .i64 m, .int .u8 61, .string ls, .string who, .bool false, .int .i64 mask, .bool named] w fun e w' => e = .returned (.int .i64 (afterR 61 (bl ls) (bl who) any named mask m 12 : Nat)) ∧ w = w' := by
  have H0 : Hid (∀ w, Calls Try.prog 22 #[.int .i64 m, .int .i64 0] w fun e w' => e = .returned (.bool false) ∧ w = w') := fun w => has22_is h0 hm (by omega) w
  have H3 : Hid (∀ w, Calls Try.prog 22 #[.int .i64 m, .int .i64 3] w fun e w' => e = .returned (.bool false) ∧ w = w') := fun w => has22_is h3 hm (by omega) w
  have H6 : Hid (∀ w, Calls Try.prog 22 #[.int .i64 m, .int .i64 6] w fun e w' => e = .returned (.bool any) ∧ w = w') := fun w => has22_is h6 hm (by omega) w
  clear h0 h3 h6
  go_enter Try.func35, Try.ntmps35
  go_wp2_with (go_at_call 22; (first | ((with_reducible refine (H0.out _).mono ?_); rintro e w' ⟨rfl, rfl⟩) | ((with_reducible refine (H3.out _).mono ?_); rintro e w' ⟨rfl, rfl⟩) | ((with_reducible refine (H6.out _).mono ?_); rintro e w' ⟨rfl, rfl⟩)))
  go_loop [16, 17] (Rel35 61 (bl ls) (bl who) any named mask m) (fun _ i => 12 - (intOf i).toNat)
  case atStart => exact ⟨0, Nat.zero_le _, rfl, rfl⟩
  case round =>
    obtain ⟨k, hk12, rfl, rfl⟩ := hrel
    have hlt2 := afterR_lt 61 (bl ls) (bl who) any named mask m hm k hk12
    have hstep : afterR 61 (bl ls) (bl who) any named mask m (k + 1) = stepR 61 (bl ls) (bl who) any named mask (afterR 61 (bl ls) (bl who) any named mask m k) k := rfl
    have HF : Hid (k = 12 → afterR 61 (bl ls) (bl who) any named mask m k = afterR 61 (bl ls) (bl who) any named mask m 12) := fun e => by rw [e]
    generalize afterR 61 (bl ls) (bl who) any named mask m k = A at hlt2 hstep HF ⊢
    by_cases hlt : k < 12
    · obtain ⟨is, his⟩ : ∃ b, meantM (bl ls) (bl who) k any = b := ⟨_, rfl⟩
      obtain ⟨go, hgo⟩ : ∃ b, goneM (bl who) k = b := ⟨_, rfl⟩
      obtain ⟨mk, hmk⟩ : ∃ b, mask.testBit k = b := ⟨_, rfl⟩
      unfold stepR at hstep
      rw [his, hgo, hmk] at hstep
      have HS := Lib.hid hstep
      have HI := Lib.hid (fun w => meant38_is his w hl hw hlt)
      have HG := Lib.hid (fun w => gone39_is hgo w hw hlt)
      have HK := Lib.hid (fun w => has22_is hmk hk hlt w)
      have HT := Lib.hid (fun w => put24 A k true w hlt2 hlt)
      have HU := Lib.hid (fun w => put24 A k false w hlt2 hlt)
      clear his hgo hmk hstep
      have hn : (named = true) ∨ (named = false ∧ ¬ k < 9) ∨ (named = false ∧ k < 9) := by cases named <;> simp <;> omega
      rcases hn with hn | ⟨hn, h9⟩ | ⟨hn, h9⟩
      all_goals subst hn
      all_goals cases mk
      all_goals cases is
      all_goals cases go
      all_goals
        go_wp2_with (first | (go_at_call 22; refine (HK.out _).mono ?_; rintro e w' ⟨rfl, rfl⟩) | (go_at_call 38; refine (HI.out _).mono ?_; rintro e w' ⟨rfl, rfl⟩) | (go_at_call 39; refine (HG.out _).mono ?_; rintro e w' ⟨rfl, rfl⟩) | (go_at_call 24; (first | ((with_reducible refine (HT.out _).mono ?_); rintro e w' ⟨rfl, rfl⟩) | ((with_reducible refine (HU.out _).mono ?_); rintro e w' ⟨rfl, rfl⟩))))
        go_round
        case rel => exact ⟨k + 1, hlt, by go_num, by rw [HS.out]; simp [*]⟩
        case measure => simp [intOf]; omega
    · have hk2 : k = 12 := by omega
      have HF2 := Lib.hid (HF.out hk2)
      subst hk2
      go_wp2
      go_ret
      rw [← HF2.out]
      exact ⟨rfl, rfl⟩

end Go.Proofs.Ytdoccakkjgcbjaa
