/- Contracts of mode.Right, Fresh, lowestNine, setBits, act and readWho: each returns what its plain mirror says, for every input. No condition but a length that fits. -/
import Derived.Test.YtdoccakkjgcbjaaRows
import Derived.Test.YtdoccakkjgcbjaaP
import Derived.WalkKit
import Derived.ProofKit
import Derived.WalkLawsBesides
import Derived.Lib.Hide
import Derived.WalkMore
import Derived.ScopeJumps
namespace Go.Proofs.Ytdoccakkjgcbjaa
open Go.RowKit Go.PlainAid
set_option linter.unusedSimpArgs false

theorem right9 (m : Int) (w : World) : Calls Try.prog 9 #[.int .i64 m] w fun e w' => e = .returned (.bool (decide (0 ≤ m ∧ m ≤ 4095))) ∧ w = w' := by
  by_cases h : 0 ≤ m
  · by_cases h2 : m ≤ 4095
    · go_enter Try.func9, Try.ntmps9
      go_wp2
      go_ret
      exact ⟨by simp [h, h2], rfl⟩
    · go_enter Try.func9, Try.ntmps9
      go_wp2
      go_ret
      exact ⟨by simp [h2], rfl⟩
  · have h3 : decide (0 ≤ m) = false := by simpa using h
    go_enter Try.func9, Try.ntmps9
    go_wp2
    go_ret
    exact ⟨by simp [h], rfl⟩

theorem right8 (m : Int) (w : World) : Calls Try.prog 8 #[.int .i64 m] w fun e w' => e = .returned (.bool (decide (0 ≤ m ∧ m ≤ 4095))) ∧ w = w' := by
  by_cases h : 0 ≤ m
  · by_cases h2 : m ≤ 4095
    · go_enter Try.func8, Try.ntmps8
      go_wp2
      go_ret
      exact ⟨by simp [h, h2], rfl⟩
    · go_enter Try.func8, Try.ntmps8
      go_wp2
      go_ret
      exact ⟨by simp [h2], rfl⟩
  · have h3 : decide (0 ≤ m) = false := by simpa using h
    go_enter Try.func8, Try.ntmps8
    go_wp2
    go_ret
    exact ⟨by simp [h], rfl⟩

theorem lowest23 (m : Int) (w : World) : Calls Try.prog 23 #[.int .i64 m] w fun e w' => e = .returned (.int .i64 (bits .and .i64 m 511)) ∧ w = w' := by
  go_enter Try.func23, Try.ntmps23
  go_wp2
  go_ret
  exact ⟨rfl, rfl⟩

theorem fresh14 (m mask : Int) (w : World) : Calls Try.prog 14 #[.int .i64 m, .int .i64 mask] w fun e w' => e = .returned (.int .i64 (bits .andNot .i64 m (bits .and .i64 mask 511))) ∧ w = w' := by
  go_enter Try.func14, Try.ntmps14
  go_wp2
  go_ret
  exact ⟨rfl, rfl⟩

theorem set37 (m : Int) (w : World) : Calls Try.prog 37 #[.int .i64 m] w fun e w' => e = .returned (.int .i64 (setM m)) ∧ w = w' := by
  go_enter Try.func37, Try.ntmps37
  go_wp2
  all_goals
    go_ret
    exact ⟨by simp [setM, *], rfl⟩

def actR : Option Int → Ending
  | some m => .returned (.tuple #[.int .i64 m, .bool true])
  | none => .returned (.tuple #[.int .i64 0, .bool false])

theorem act33 (sign m b who kept : Int) (w : World) : Calls Try.prog 33 #[.int .u8 sign, .int .i64 m, .int .i64 b, .int .i64 who, .int .i64 kept] w fun e w' => e = actR (actM sign m b who kept) ∧ w = w' := by
  go_enter Try.func33, Try.ntmps33
  go_wp2_with (go_at_call 37; refine (set37 _ _).mono ?_; rintro e w' ⟨rfl, rfl⟩)
  all_goals
    go_ret2
    exact ⟨by simp [actM, actR, *], rfl⟩

/-- readWho's answer -/
def whoR (s : ByteArray) (r : Int × List Int) : Ending := .returned (.tuple #[.int .i64 r.1, .int .i64 ((s.size - r.2.length : Nat) : Int)])


theorem rwho_end (who : Int) : rwho [] who = (who, []) := rfl
theorem rwho_u {c who : Int} {r : List Int} (h : (c == 117) = true) : rwho (c :: r) who = rwho r (bits .or .i64 who 448) := by simp only [rwho, h, if_true]
theorem rwho_g {c who : Int} {r : List Int} (h1 : (c == 117) = false) (h : (c == 103) = true) : rwho (c :: r) who = rwho r (bits .or .i64 who 56) := by simp only [rwho, h1, h]; rfl
theorem rwho_o {c who : Int} {r : List Int} (h1 : (c == 117) = false) (h2 : (c == 103) = false) (h : (c == 111) = true) : rwho (c :: r) who = rwho r (bits .or .i64 who 7) := by simp only [rwho, h1, h2, h]; rfl
theorem rwho_a {c who : Int} {r : List Int} (h1 : (c == 117) = false) (h2 : (c == 103) = false) (h3 : (c == 111) = false) (h : (c == 97) = true) : rwho (c :: r) who = rwho r (bits .or .i64 who 511) := by simp only [rwho, h1, h2, h3, h]; rfl
theorem rwho_n {c who : Int} {r : List Int} (h1 : (c == 117) = false) (h2 : (c == 103) = false) (h3 : (c == 111) = false) (h : (c == 97) = false) : rwho (c :: r) who = (who, c :: r) := by simp only [rwho, h1, h2, h3, h]; rfl


def Jump31 (s : ByteArray) (w : World) (a' : Act) (w' : World) : Prop := w' = w ∧ ∃ (k : Nat) (who : Int), k ≤ s.size ∧ rwho ((bl s).drop k) who = rwho (bl s) 0 ∧
  ∃ (u4 u5 u6 u7 u8 u9 u10 u11 u12 u13 u14 u15 u16 u17 u18 u19 u20 u21 u22 u23 u24 u25 u26 u27 u28 u29 u30 u31 u32 : Value), a' = { tmps := #[.string s, undef, .int .i64 who, .int .i64 k, u4, u5, u6, u7, u8, u9, u10, u11, u12, u13, u14, u15, u16, u17, u18, u19, u20, u21, u22, u23, u24, u25, u26, u27, u28, u29, u30, u31, u32], defers := [] }

theorem whoR_end (s : ByteArray) (who : Int) : whoR s (who, []) = .returned (.tuple #[.int .i64 who, .int .i64 s.size]) := by simp [whoR]
theorem whoR_at (s : ByteArray) (who : Int) (k : Nat) (h : k ≤ s.size) : whoR s (who, (bl s).drop k) = .returned (.tuple #[.int .i64 who, .int .i64 k]) := by
  simp only [whoR, List.length_drop, bl_length]; rw [show s.size - (s.size - k) = k by omega]

set_option maxHeartbeats 1000000 in
set_option maxRecDepth 100000 in
theorem who31 (s : ByteArray) (w : World) (hs : s.size ≤ maxLen) : Calls Try.prog 31 #[.string s] w fun e w' => e = whoR s (rwho (bl s) 0) ∧ w = w' := by
  unfold maxLen at hs
  have hb := get_bt s
  go_enter Try.func31, Try.ntmps31
  go_wp2
  refine wp_scope_jumps 0 (Jump31 s w) (fun a' _ => s.size - (intOf (a'.tmps.getD 3 undef)).toNat) rfl ?_ ?_
  · by_cases hlt : 0 < s.size
    · have HD := Lib.hid (bl_drop s 0 hlt)
      go_wp2
      go_step3
      go_wp2
      · go_step3
        exact ⟨rfl, rfl, 1, _, hlt, by rw [← rwho_u ‹_›, ← HD.out]; rfl, _, _, _, _, _, _, _, _, _, _, _, _, _, _, _, _, _, _, _, _, _, _, _, _, _, _, _, _, _, rfl⟩
      · go_step3
        exact ⟨rfl, rfl, 1, _, hlt, by rw [← rwho_g ‹_› ‹_›, ← HD.out]; rfl, _, _, _, _, _, _, _, _, _, _, _, _, _, _, _, _, _, _, _, _, _, _, _, _, _, _, _, _, _, rfl⟩
      · go_step3
        exact ⟨rfl, rfl, 1, _, hlt, by rw [← rwho_o ‹_› ‹_› ‹_›, ← HD.out]; rfl, _, _, _, _, _, _, _, _, _, _, _, _, _, _, _, _, _, _, _, _, _, _, _, _, _, _, _, _, _, rfl⟩
      · go_step3
        exact ⟨rfl, rfl, 1, _, hlt, by rw [← rwho_a ‹_› ‹_› ‹_› ‹_›, ← HD.out]; rfl, _, _, _, _, _, _, _, _, _, _, _, _, _, _, _, _, _, _, _, _, _, _, _, _, _, _, _, _, _, rfl⟩
      · simp only [Exit.jump]
        go_ret2
        have hr : rwho (bl s) 0 = (0, (bl s).drop 0) := by
          have hd := HD.out
          rw [List.drop_zero] at hd ⊢
          rw [hd]; exact rwho_n ‹_› ‹_› ‹_› ‹_›
        rw [hr, whoR_at s 0 0 (by omega)]
        exact ⟨rfl, rfl⟩
    · have hz : ((0 : Int) == (s.size : Int)) = true := by simp; omega
      have hz2 : (bl s) = [] := bl_drop_end s 0 (by omega)
      have HZ := Lib.hid hz2
      clear hz2
      have h0 : s.size = 0 := by omega
      have H0 := Lib.hid h0
      clear h0
      go_wp2
      go_step3
      go_wp2
      simp only [Exit.jump]
      go_ret2
      rw [HZ.out, rwho_end, whoR_end, H0.out]
      exact ⟨rfl, rfl⟩
  · rintro a' w' ⟨rfl, k, who, hk, hr, u4, u5, u6, u7, u8, u9, u10, u11, u12, u13, u14, u15, u16, u17, u18, u19, u20, u21, u22, u23, u24, u25, u26, u27, u28, u29, u30, u31, u32, rfl⟩
    have HR := Lib.hid hr
    clear hr
    by_cases hlt : k < s.size
    · have HD := Lib.hid (bl_drop s k hlt)
      go_wp2
      · go_step3
        exact ⟨rfl, ⟨rfl, k + 1, _, hlt, by rw [← rwho_u ‹_›, ← HD.out]; exact HR.out, _, _, _, _, _, _, _, _, _, _, _, _, _, _, _, _, _, _, _, _, _, _, _, _, _, _, _, _, _, rfl⟩, by simp [intOf]; omega⟩
      · go_step3
        exact ⟨rfl, ⟨rfl, k + 1, _, hlt, by rw [← rwho_g ‹_› ‹_›, ← HD.out]; exact HR.out, _, _, _, _, _, _, _, _, _, _, _, _, _, _, _, _, _, _, _, _, _, _, _, _, _, _, _, _, _, rfl⟩, by simp [intOf]; omega⟩
      · go_step3
        exact ⟨rfl, ⟨rfl, k + 1, _, hlt, by rw [← rwho_o ‹_› ‹_› ‹_›, ← HD.out]; exact HR.out, _, _, _, _, _, _, _, _, _, _, _, _, _, _, _, _, _, _, _, _, _, _, _, _, _, _, _, _, _, rfl⟩, by simp [intOf]; omega⟩
      · go_step3
        exact ⟨rfl, ⟨rfl, k + 1, _, hlt, by rw [← rwho_a ‹_› ‹_› ‹_› ‹_›, ← HD.out]; exact HR.out, _, _, _, _, _, _, _, _, _, _, _, _, _, _, _, _, _, _, _, _, _, _, _, _, _, _, _, _, _, rfl⟩, by simp [intOf]; omega⟩
      · simp only [Exit.jump]
        go_ret2
        have hr : rwho (bl s) 0 = (who, (bl s).drop k) := by
          rw [← HR.out, HD.out]; exact rwho_n ‹_› ‹_› ‹_› ‹_›
        rw [hr, whoR_at s who k (by omega)]
        exact ⟨rfl, rfl⟩
    · have hk2 : k = s.size := by omega
      subst hk2
      go_wp2
      simp only [Exit.jump]
      go_ret2
      rw [← HR.out, bl_drop_end s s.size (by omega), rwho_end, whoR_end]
      exact ⟨rfl, rfl⟩
end Go.Proofs.Ytdoccakkjgcbjaa
