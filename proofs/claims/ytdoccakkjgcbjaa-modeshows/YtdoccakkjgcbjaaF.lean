/- The law's anchor returns true; the law's helper only returns what its plain mirror says. Condition: lengths that fit an int. -/
import Derived.Test.YtdoccakkjgcbjaaE
import Derived.BigQuiet
import Derived.Deep.QuietTactic
import Derived.Deep.Draws
import Derived.WalkSmall
namespace Go.Proofs.Ytdoccakkjgcbjaa
open Go.RowKit Go.PlainAid
set_option linter.unusedSimpArgs false

theorem change16_is {s : ByteArray} {m : Int} {dir : Bool} {mask x y : Int} (h : chgM (bl s) m dir mask = (x, y)) (w : World) (hs : s.size ≤ maxLen) :
    Calls Try.prog 16 #[.string s, .int .i64 m, .bool dir, .int .i64 mask] w fun e w' => e = .returned (.tuple #[.int .i64 x, .int .i64 y]) ∧ ∃ n, w' = w.drewN n :=
  (change16 s m dir mask w hs).mono fun _ _ ⟨he, hw⟩ => ⟨by rw [he, h]; rfl, hw⟩

theorem anchor_val : chgM (bl ⟨#[117, 43, 120, 44, 103, 111, 45, 119]⟩) 438 false 0 = (484, 0) := by decide +kernel

theorem anchor7 (w : World) : Calls Try.prog 7 #[] w fun e w' => e = .returned (.bool true) ∧ ∃ n, w' = w.drewN n := by
  go_enter Try.func7, Try.ntmps7
  go_wp2_with (go_at_call 16; refine (change16_is anchor_val _ (by decide)).mono ?_; rintro e w' ⟨rfl, n, rfl⟩)
  go_ret
  exact ⟨rfl, n, rfl⟩

/-- only -/
def onlyM (l of : List Int) : Bool := l.all fun c => of.any fun d => d == c

theorem any_step (of : ByteArray) (k : Nat) (h : k < of.size) (c : Int) : ((bl of).drop k).any (fun d => d == c) = ((bt of k == c) || ((bl of).drop (k + 1)).any fun d => d == c) := by
  rw [bl_drop of k h]; rfl

def RelIn (of : ByteArray) (c : Int) (r : Bool) (found k : Value) (w wr : World) : Prop :=
  ∃ (f : Bool) (j n : Nat), found = .bool f ∧ k = .int .i64 j ∧ wr = w.drewN n ∧ j ≤ of.size ∧ (f || ((bl of).drop j).any fun d => d == c) = r
def RelOnly (s of : ByteArray) (r : Bool) (w : World) (k : Value) (wr : World) : Prop :=
  ∃ (j n : Nat), k = .int .i64 j ∧ wr = w.drewN n ∧ j ≤ s.size ∧ onlyM ((bl s).drop j) (bl of) = r

set_option maxHeartbeats 2000000 in
set_option maxRecDepth 100000 in
theorem only18 (s of : ByteArray) (w : World) (hs : s.size ≤ maxLen) (ho : of.size ≤ maxLen) :
    Calls Try.prog 18 #[.string s, .string of] w fun e w' => e = .returned (.bool (onlyM (bl s) (bl of))) ∧ ∃ n, w' = w.drewN n := by
  unfold maxLen at hs ho
  have hb := get_bt s
  have hb2 := get_bt of
  obtain ⟨r, hr⟩ : ∃ r, onlyM (bl s) (bl of) = r := ⟨_, rfl⟩
  rw [hr]
  have HR := Lib.hid hr
  clear hr
  go_enter Try.func18, Try.ntmps18
  go_wp2
  go_loopw [10] (RelOnly s of r w) (fun k _ => s.size - (intOf k).toNat)
  case atStart => exact ⟨0, 0, rfl, rfl, Nat.zero_le _, HR.out⟩
  case round =>
    obtain ⟨j, n, rfl, rfl, hj, hr⟩ := hrel
    have H1 := Lib.hid hr
    clear hr
    by_cases hlt : j < s.size
    · go_wp2
      go_loopw [6, 15] (fun f k wr => RelIn of (bt s j) ((bl of).any fun d => d == bt s j) f k w wr) (fun _ k _ => of.size - (intOf k).toNat)
      case atStart => exact ⟨false, 0, n, rfl, rfl, rfl, Nat.zero_le _, by rw [List.drop_zero, Bool.false_or]⟩
      case round =>
        obtain ⟨f, i, n2, rfl, rfl, rfl, hi, hr⟩ := hrel
        have H2 := Lib.hid hr
        clear hr
        by_cases hlt2 : i < of.size
        · have hi1 : (i : Int) < (of.size : Int) := by omega
          have hj1 : (j : Int) < (s.size : Int) := by omega
          cases f
          · go_wp2
            go_quiet (fail)
            go_wp2
            go_roundw
            case rel => exact ⟨_, i + 1, _, rfl, by go_num, rfl, hlt2, by rw [← H2.out, Bool.false_or, any_step of i hlt2]⟩
            case measure => simp [intOf]; omega
          · go_wp2
            go_quiet (fail)
            go_wp2
            go_roundw
            case rel => exact ⟨_, i + 1, _, rfl, by go_num, rfl, hlt2, by rw [← H2.out]; rfl⟩
            case measure => simp [intOf]; omega
        · have hi2 : i = of.size := by omega
          subst hi2
          have H3 : Hid (f = (bl of).any fun d => d == bt s j) := by have := H2.out; rwa [bl_drop_end of of.size (Nat.le_refl _), List.any_nil, Bool.or_false] at this
          cases f
          · go_wp2
            go_ret
            refine ⟨?_, _, rfl⟩
            rw [← H1.out, bl_drop s j hlt, onlyM, List.all_cons, ← H3.out]
            rfl
          · go_wp2
            go_roundw
            case rel => exact ⟨j + 1, _, by go_num, rfl, hlt, by rw [← H1.out, bl_drop s j hlt, onlyM, onlyM, List.all_cons, ← H3.out]; rfl⟩
            case measure => simp [intOf]; omega
    · have hj2 : j = s.size := by omega
      subst hj2
      go_wp2
      go_ret
      refine ⟨?_, _, rfl⟩
      rw [← H1.out, bl_drop_end s s.size (Nat.le_refl _)]
      rfl
end Go.Proofs.Ytdoccakkjgcbjaa
