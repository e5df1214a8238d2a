/- Contracts of the document's own functions Has, pow, Put, in, meant and gone: each returns what its plain mirror says. Conditions: modes below 4096, bits below 12, lengths that fit an int. -/
import Derived.Test.YtdoccakkjgcbjaaF
import Derived.Test.YtdoccakkjgcbjaaQ
namespace Go.Proofs.Ytdoccakkjgcbjaa
open Go.RowKit Go.PlainAid
set_option linter.unusedSimpArgs false

def Rel22 (bit : Nat) (r : Bool) (m i : Value) : Prop := ∃ (k : Nat) (mm : Int), k ≤ bit ∧ i = .int .i64 k ∧ m = .int .i64 mm ∧ 0 ≤ mm ∧ mm ≤ 4095 ∧ hasI (bit - k) mm = r

set_option maxHeartbeats 1000000 in
theorem has22 (m bit : Nat) (w : World) (hm : m < 4096) (hb : bit < 12) : Calls Try.prog 22 #[.int .i64 m, .int .i64 bit] w fun e w' => e = .returned (.bool (m.testBit bit)) ∧ w = w' := by
  rw [← hasI_nat]
  go_enter Try.func22, Try.ntmps22
  go_wp2
  go_loop [0, 5] (Rel22 bit (hasI bit m)) (fun _ i => bit - (intOf i).toNat)
  case atStart => exact ⟨0, m, Nat.zero_le _, rfl, rfl, by omega, by omega, rfl⟩
  case round =>
    obtain ⟨k, mm, hk, rfl, rfl, h0, h1, hr⟩ := hrel
    have HR := Lib.hid hr
    clear hr
    by_cases hlt : k < bit
    · go_wp2
      go_round
      case rel => exact ⟨k + 1, mm / 2, hlt, by go_num, by go_num, by omega, by omega, by rw [← HR.out, show bit - k = (bit - (k + 1)) + 1 by omega, hasI]⟩
      case measure => simp [intOf]; omega
    · have hk2 : k = bit := by omega
      subst hk2
      go_wp2
      go_ret
      rw [← HR.out, Nat.sub_self, hasI]
      exact ⟨rfl, rfl⟩

def pw (k : Nat) : Nat := 2 ^ k
def Rel29 (n : Nat) (p i : Value) : Prop := ∃ (k : Nat), k ≤ n ∧ i = .int .i64 k ∧ p = .int .i64 ((pw k : Nat) : Int)
theorem pow_le (k : Nat) (h : k < 12) : pw k ≤ 2048 := by
  have : 2 ^ k ≤ 2 ^ 11 := Nat.pow_le_pow_right (by omega) (by omega)
  exact this
theorem pw_succ (k : Nat) : pw (k + 1) = 2 * pw k := by unfold pw; rw [Nat.pow_succ]; omega

set_option maxHeartbeats 1000000 in
theorem pow29 (n : Nat) (w : World) (hn : n < 12) : Calls Try.prog 29 #[.int .i64 n] w fun e w' => e = .returned (.int .i64 ((pw n : Nat) : Int)) ∧ w = w' := by
  go_enter Try.func29, Try.ntmps29
  go_wp2
  go_loop [3, 4] (Rel29 n) (fun _ i => n - (intOf i).toNat)
  case atStart => exact ⟨0, Nat.zero_le _, rfl, rfl⟩
  case round =>
    obtain ⟨k, hk, rfl, rfl⟩ := hrel
    have hp := pow_le k (by omega)
    have HS := Lib.hid (pw_succ k)
    by_cases hlt : k < n
    · go_wp2
      go_round
      case rel => exact ⟨k + 1, hlt, by go_num, by rw [HS.out]; go_num⟩
      case measure => simp [intOf]; omega
    · have hk2 : k = n := by omega
      subst hk2
      go_wp2
      go_ret
      exact ⟨rfl, rfl⟩

set_option maxHeartbeats 1000000 in
theorem put24 (m bit : Nat) (yes : Bool) (w : World) (hm : m < 4096) (hb : bit < 12) : Calls Try.prog 24 #[.int .i64 m, .int .i64 bit, .bool yes] w fun e w' => e = .returned (.int .i64 (putN m bit yes : Nat)) ∧ w = w' := by
  have hp := pow_le bit hb
  have hle : m.testBit bit = true → pw bit ≤ m := fun h => Nat.ge_two_pow_of_testBit h
  have HL := Lib.hid hle
  clear hle
  obtain ⟨b, hbit⟩ : ∃ b, m.testBit bit = b := ⟨_, rfl⟩
  have HP : Hid (putN m bit yes = if b = yes then m else if yes = true then m + pw bit else m - pw bit) := by unfold putN; rw [hbit]; rfl
  have HB := Lib.hid hbit
  clear hbit
  have c22 : ∀ w, Calls Try.prog 22 #[.int .i64 m, .int .i64 bit] w fun e w' => e = .returned (.bool b) ∧ w = w' := fun w => (has22 m bit w hm hb).mono fun _ _ ⟨he, hw⟩ => ⟨by rw [he, HB.out], hw⟩
  have C22 := Lib.hid c22
  clear c22
  cases b <;> cases yes
  · go_enter Try.func24, Try.ntmps24
    go_wp2_with (go_at_call 22; refine (C22.out _).mono ?_; rintro e w' ⟨rfl, rfl⟩)
    go_ret
    rw [HP.out]
    exact ⟨rfl, rfl⟩
  · go_enter Try.func24, Try.ntmps24
    go_wp2_with (first | (go_at_call 22; refine (C22.out _).mono ?_; rintro e w' ⟨rfl, rfl⟩) | (go_at_call 29; refine (pow29 _ _ hb).mono ?_; rintro e w' ⟨rfl, rfl⟩))
    go_ret
    rw [HP.out]
    exact ⟨by simp, rfl⟩
  · have hle := HL.out HB.out
    go_enter Try.func24, Try.ntmps24
    go_wp2_with (first | (go_at_call 22; refine (C22.out _).mono ?_; rintro e w' ⟨rfl, rfl⟩) | (go_at_call 29; refine (pow29 _ _ hb).mono ?_; rintro e w' ⟨rfl, rfl⟩))
    go_ret
    rw [HP.out]
    refine ⟨?_, rfl⟩
    simp only [reduceCtorEq, if_false]
    rw [Int.ofNat_sub hle]
    rfl
  · go_enter Try.func24, Try.ntmps24
    go_wp2_with (go_at_call 22; refine (C22.out _).mono ?_; rintro e w' ⟨rfl, rfl⟩)
    go_ret
    rw [HP.out]
    exact ⟨rfl, rfl⟩

def Rel34 (s : ByteArray) (c : Int) (r : Bool) (i : Value) : Prop := ∃ (k : Nat), k ≤ s.size ∧ i = .int .i64 k ∧ inM ((bl s).drop k) c = r

set_option maxHeartbeats 1000000 in
theorem in34 (s : ByteArray) (c : Int) (w : World) (hs : s.size ≤ maxLen) : Calls Try.prog 34 #[.string s, .int .u8 c] w fun e w' => e = .returned (.bool (inM (bl s) c)) ∧ w = w' := by
  unfold maxLen at hs
  have hb := get_bt s
  obtain ⟨r, hr⟩ : ∃ r, inM (bl s) c = r := ⟨_, rfl⟩
  rw [hr]
  have H0 := Lib.hid hr
  clear hr
  go_enter Try.func34, Try.ntmps34
  go_wp2
  go_loop [5] (Rel34 s c r) (fun i => s.size - (intOf i).toNat)
  case atStart => exact ⟨0, Nat.zero_le _, rfl, H0.out⟩
  case round =>
    obtain ⟨k, hk, rfl, hr⟩ := hrel
    have HR := Lib.hid hr
    clear hr
    by_cases hlt : k < s.size
    · cases hc : bt s k == c
      · go_wp2
        go_round
        case rel => exact ⟨k + 1, hlt, by go_num, by rw [← HR.out, bl_drop s k hlt, inM, inM, List.any_cons, hc, Bool.false_or]⟩
        case measure => simp [intOf]; omega
      · go_wp2
        go_ret
        rw [← HR.out, bl_drop s k hlt, inM, List.any_cons, hc, Bool.true_or]
        exact ⟨rfl, rfl⟩
    · have hk2 : k = s.size := by omega
      subst hk2
      go_wp2
      go_ret
      rw [← HR.out, bl_drop_end s s.size (Nat.le_refl _)]
      exact ⟨rfl, rfl⟩

set_option maxHeartbeats 4000000 in
set_option maxRecDepth 100000 in
theorem meant38 (ls who : ByteArray) (bit : Nat) (any : Bool) (w : World) (hl : ls.size ≤ maxLen) (hw : who.size ≤ maxLen) (hb : bit < 12) :
    Calls Try.prog 38 #[.string ls, .string who, .int .i64 bit, .bool any] w fun e w' => e = .returned (.bool (meantM (bl ls) (bl who) bit any)) ∧ w = w' := by
  have g0 : ∀ h, (((⟨#[111, 103, 117]⟩ : ByteArray)[0]'h).toNat : Int) = 111 := fun _ => rfl
  have g1 : ∀ h, (((⟨#[111, 103, 117]⟩ : ByteArray)[1]'h).toNat : Int) = 103 := fun _ => rfl
  have g2 : ∀ h, (((⟨#[111, 103, 117]⟩ : ByteArray)[2]'h).toNat : Int) = 117 := fun _ => rfl
  have g3 : ∀ h, (((⟨#[32, 119, 114]⟩ : ByteArray)[1]'h).toNat : Int) = 119 := fun _ => rfl
  have g4 : ∀ h, (((⟨#[32, 119, 114]⟩ : ByteArray)[2]'h).toNat : Int) = 114 := fun _ => rfl
  rcases (by omega : bit = 0 ∨ bit = 1 ∨ bit = 2 ∨ bit = 3 ∨ bit = 4 ∨ bit = 5 ∨ bit = 6 ∨ bit = 7 ∨ bit = 8 ∨ bit = 9 ∨ bit = 10 ∨ bit = 11) with rfl | rfl | rfl | rfl | rfl | rfl | rfl | rfl | rfl | rfl | rfl | rfl <;>
  · go_enter Try.func38, Try.ntmps38
    go_wp2_with (go_at_call 34; (first | ((with_reducible refine (in34 ls _ _ hl).mono ?_); rintro e w' ⟨rfl, rfl⟩) | ((with_reducible refine (in34 who _ _ hw).mono ?_); rintro e w' ⟨rfl, rfl⟩)))
    all_goals
      go_ret
      exact ⟨by go_light; simp [meantM, ogu, *], rfl⟩

set_option maxHeartbeats 4000000 in
set_option maxRecDepth 100000 in
theorem gone39 (who : ByteArray) (bit : Nat) (w : World) (hw : who.size ≤ maxLen) (hb : bit < 12) :
    Calls Try.prog 39 #[.string who, .int .i64 bit] w fun e w' => e = .returned (.bool (goneM (bl who) bit)) ∧ w = w' := by
  have g0 : ∀ h, (((⟨#[111, 103, 117]⟩ : ByteArray)[0]'h).toNat : Int) = 111 := fun _ => rfl
  have g1 : ∀ h, (((⟨#[111, 103, 117]⟩ : ByteArray)[1]'h).toNat : Int) = 103 := fun _ => rfl
  have g2 : ∀ h, (((⟨#[111, 103, 117]⟩ : ByteArray)[2]'h).toNat : Int) = 117 := fun _ => rfl
  have g3 : ∀ h, (((⟨#[32, 119, 114]⟩ : ByteArray)[1]'h).toNat : Int) = 119 := fun _ => rfl
  have g4 : ∀ h, (((⟨#[32, 119, 114]⟩ : ByteArray)[2]'h).toNat : Int) = 114 := fun _ => rfl
  rcases (by omega : bit = 0 ∨ bit = 1 ∨ bit = 2 ∨ bit = 3 ∨ bit = 4 ∨ bit = 5 ∨ bit = 6 ∨ bit = 7 ∨ bit = 8 ∨ bit = 9 ∨ bit = 10 ∨ bit = 11) with rfl | rfl | rfl | rfl | rfl | rfl | rfl | rfl | rfl | rfl | rfl | rfl <;>
  · go_enter Try.func39, Try.ntmps39
    go_wp2_with (go_at_call 34; refine (in34 who _ _ hw).mono ?_; rintro e w' ⟨rfl, rfl⟩)
    all_goals
      go_ret
      exact ⟨by go_light; simp [goneM, ogu, *], rfl⟩
end Go.Proofs.Ytdoccakkjgcbjaa
