/- The contract of mode.readBits, for every text, place and mask. Conditions: the place lies within the text. -/
import Derived.Test.YtdoccakkjgcbjaaA
import Derived.BigQuiet
import Derived.Deep.QuietTactic
import Derived.Deep.Light
namespace Go.Proofs.Ytdoccakkjgcbjaa
open Go.RowKit Go.PlainAid
set_option linter.unusedSimpArgs false

/-- readBits' answer -/
def bitsR (s : ByteArray) : Option (Int × List Int) → Ending
  | some r => .returned (.tuple #[.int .i64 r.1, .int .i64 ((s.size - r.2.length : Nat) : Int), .bool true])
  | none => .returned (.tuple #[.int .i64 0, .int .i64 0, .bool false])
theorem bitsR_at (s : ByteArray) (b : Int) (k : Nat) (h : k ≤ s.size) : bitsR s (some (b, (bl s).drop k)) = .returned (.tuple #[.int .i64 b, .int .i64 k, .bool true]) := by
  simp only [bitsR, List.length_drop, bl_length]; rw [show s.size - (s.size - k) = k by omega]

set_option maxHeartbeats 2000000 in
set_option maxRecDepth 100000 in
theorem bits32 (s : ByteArray) (at0 : Nat) (who : Int) (may : Bool) (w : World) (hs : s.size ≤ maxLen) (hat : at0 ≤ s.size) :
    Calls Try.prog 32 #[.string s, .int .i64 at0, .int .i64 who, .bool may] w fun e w' => e = bitsR s (rbits who may ((bl s).drop at0) 0) ∧ w = w' := by
  unfold maxLen at hs
  have hb := get_bt s
  go_enter Try.func32, Try.ntmps32
  go_wp2
  go_loop [1, 8] (fun i b => ∃ (k : Nat) (bb : Int), k ≤ s.size ∧ i = .int .i64 k ∧ b = .int .i64 bb ∧ rbits who may ((bl s).drop k) bb = rbits who may ((bl s).drop at0) 0) (fun i _ => s.size - (intOf i).toNat)
  case atStart => exact ⟨at0, 0, hat, rfl, rfl, rfl⟩
  case round =>
    obtain ⟨k, bb, hk, rfl, rfl, hr⟩ := hrel
    have HR := Lib.hid hr
    clear hr
    by_cases hlt : k < s.size
    · have HD := Lib.hid (bl_drop s k hlt)
      go_wp2_with (go_at_call 37; refine (set37 _ _).mono ?_; rintro e w' ⟨rfl, rfl⟩)
      all_goals
        first
        | (go_round
           case rel => go_light; exact ⟨k + 1, _, hlt, by go_num, rfl, by rw [← HR.out, HD.out]; simp [rbits, *]⟩
           case measure => simp [intOf]; omega)
        | (go_ret3
           rw [← HR.out]
           refine ⟨?_, rfl⟩
           go_light
           first
           | (rw [show rbits who may ((bl s).drop k) bb = some (bb, (bl s).drop k) by rw [HD.out]; simp [rbits, *], bitsR_at s bb k hk]; rfl)
           | (rw [HD.out]; simp [rbits, bitsR, *]))
    · have hk2 : k = s.size := by omega
      subst hk2
      go_wp2
      go_ret3
      rw [← HR.out, bl_drop_end s s.size (by omega)]
      exact ⟨by simp [rbits, bitsR], rfl⟩
end Go.Proofs.Ytdoccakkjgcbjaa
