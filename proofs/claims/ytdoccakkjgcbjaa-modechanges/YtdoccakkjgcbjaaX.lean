/- ModeChanges, walked: the function returns true for every input whose text has at most 2^47 - 4096 bytes. -/
import Derived.Test.YtdoccakkjgcbjaaW
import Derived.Test.YtdoccakkjgcbjaaJ
namespace Go.Proofs.Ytdoccakkjgcbjaa
open Go.RowKit Go.PlainAid
set_option linter.unusedSimpArgs false

theorem change17_is {s : ByteArray} {m mask : Nat} {dir : Bool} {x y : Int} (h : chgRef (bl s) m dir mask = (x, y)) (w : World) (hs : s.size ≤ 200) (hm : m < 4096) (hk : mask < 4096) :
    Calls Try.prog 17 #[.string s, .int .i64 m, .bool dir, .int .i64 mask] w fun e w' => e = .returned (.tuple #[.int .i64 x, .int .i64 y]) ∧ w = w' :=
  (change17 s m dir mask w hs hm hk).mono fun _ _ ⟨he, hw⟩ => ⟨by rw [he, h]; rfl, hw⟩

theorem octM_err : ∀ (l : List Int) (m : Int), 0 ≤ (octM l m).2 ∧ (octM l m).2 ≤ 11
  | [], m => by simp [octM]
  | c :: r, m => by
    rw [octM]
    split
    · simp
    · split
      · simp
      · exact octM_err r _
theorem chgRef_err (l : List Int) (m mask : Nat) (dir : Bool) : 0 ≤ (chgRef l m dir mask).2 ∧ (chgRef l m dir mask).2 ≤ 11 := by
  cases l with
  | nil => simp [chgRef]
  | cons c r =>
    rw [chgRef]
    split
    · exact octM_err _ _
    · cases chgR dir mask (c :: r) [] m <;> simp [formR]

set_option maxHeartbeats 2000000 in
set_option maxRecDepth 100000 in
theorem changes4_in (s : ByteArray) (m : Nat) (dir : Bool) (mask : Nat) (w : World) (hs : s.size ≤ 200) (hm : m < 4096) (hk : mask < 4096) :
    Calls Try.prog 4 #[.string s, .int .i64 m, .bool dir, .int .i64 mask] w fun e w' => e = .returned (.bool true) ∧ Below w.heap.size w w' := by
  obtain ⟨x, y, hx⟩ : ∃ x y, chgRef (bl s) m dir mask = (x, y) := ⟨_, _, rfl⟩
  have hy := chgRef_err (bl s) m mask dir
  rw [hx] at hy
  have HX := Lib.hid hx
  have HY : Hid (chgM (bl s) (m : Int) dir (mask : Int) = (x, y)) := (chgM_same (bl s) m mask dir hm).trans hx
  clear hx
  have hsl : s.size ≤ maxLen := by unfold maxLen; omega
  have hxx : (x == x) = true := by simp
  have hyy : (y == y) = true := by simp
  obtain ⟨hy1, hy2⟩ := hy
  go_enter Try.func4, Try.ntmps4
  go_wp2_with (first | (go_at_call 7; refine (anchor7 _).mono ?_; rintro e w' ⟨rfl, nd, rfl⟩) | (go_at_call 9; (first | ((with_reducible refine (right9_yes (m : Int) _ (by omega) (by omega)).mono ?_); rintro e w' ⟨rfl, rfl⟩) | ((with_reducible refine (right9_yes (mask : Int) _ (by omega) (by omega)).mono ?_); rintro e w' ⟨rfl, rfl⟩))) | (go_at_call 16; refine (change16_is HY.out _ hsl).mono ?_; rintro e w' ⟨rfl, nd2, rfl⟩) | (go_at_call 17; refine (change17_is HX.out _ hs hm hk).mono ?_; rintro e w' ⟨rfl, rfl⟩))
  go_ret
  exact ⟨rfl, bel_drewN (Below.refl _ _) _⟩

set_option maxHeartbeats 2000000 in
set_option maxRecDepth 100000 in
theorem changes4 (s : ByteArray) (m : Int) (dir : Bool) (mask : Int) (hs0 : s.size ≤ 140737488351232) (w : World) :
    Calls Try.prog 4 #[.string s, .int .i64 m, .bool dir, .int .i64 mask] w fun e w' => e = .returned (.bool true) ∧ Below w.heap.size w w' := by
  by_cases h1 : 200 < s.size
  · go_enter Try.func4, Try.ntmps4
    go_wp2_with (go_at_call 7; refine (anchor7 _).mono ?_; rintro e w' ⟨rfl, nd, rfl⟩)
    go_ret
    exact ⟨rfl, bel_drewN (Below.refl _ _) _⟩
  by_cases h2 : 0 ≤ m ∧ m ≤ 4095
  rotate_left
  · go_enter Try.func4, Try.ntmps4
    go_wp2_with (first | (go_at_call 7; refine (anchor7 _).mono ?_; rintro e w' ⟨rfl, nd, rfl⟩) | (go_at_call 9; refine (right9_no _ _ h2).mono ?_; rintro e w' ⟨rfl, rfl⟩))
    go_ret
    exact ⟨rfl, bel_drewN (Below.refl _ _) _⟩
  by_cases h3 : 0 ≤ mask ∧ mask ≤ 4095
  rotate_left
  · go_enter Try.func4, Try.ntmps4
    go_wp2_with (first | (go_at_call 7; refine (anchor7 _).mono ?_; rintro e w' ⟨rfl, nd, rfl⟩) | (go_at_call 9; (first | ((with_reducible refine (right9_yes m _ h2.1 h2.2).mono ?_); rintro e w' ⟨rfl, rfl⟩) | ((with_reducible refine (right9_no mask _ h3).mono ?_); rintro e w' ⟨rfl, rfl⟩))))
    go_ret
    exact ⟨rfl, bel_drewN (Below.refl _ _) _⟩
  obtain ⟨mn, rfl⟩ := Int.eq_ofNat_of_zero_le h2.1
  obtain ⟨kn, rfl⟩ := Int.eq_ofNat_of_zero_le h3.1
  exact changes4_in s mn dir kn w (by omega) (by omega) (by omega)
end Go.Proofs.Ytdoccakkjgcbjaa
