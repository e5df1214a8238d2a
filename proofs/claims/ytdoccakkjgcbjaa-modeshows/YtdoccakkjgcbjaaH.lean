/- The contracts of both Octals, for every mode, and the plain law behind ModeTurns. Conditions: the number is a mode. -/
import Derived.Test.YtdoccakkjgcbjaaF
import Derived.Test.YtdoccakkjgcbjaaG
import Derived.Laws.BytesArg
namespace Go.Proofs.Ytdoccakkjgcbjaa
open Go.RowKit Go.PlainAid
set_option linter.unusedSimpArgs false

/-- A mode's four digits. -/
def octD (x : Int) : List Int := [48 + x / 512 % 8, 48 + x / 64 % 8, 48 + x / 8 % 8, 48 + x % 8]

theorem bl_nums (xs : List Int) (h : ∀ x ∈ xs, 0 ≤ x ∧ x ≤ 255) : bl (strOfNums xs) = xs := by
  unfold bl
  rw [strOfNums_data, List.map_map]
  conv => rhs; rw [← List.map_id xs]
  apply List.map_congr_left
  intro x hx
  have := h x hx
  simp only [Function.comp, id]
  rw [show UInt8.ofNat x.toNat = UInt8.ofNat (x.toNat) from rfl, UInt8.toNat_ofNat', Nat.mod_eq_of_lt (by omega)]
  omega

theorem conv4 (w : World) (a b c d : Int) : (convert 39 9 (.slice (some ⟨w.heap.size, 0, none⟩) 4 4)).run Try.prog (w.alloc (.cells #[.int .u8 a, .int .u8 b, .int .u8 c, .int .u8 d] 5)) = .ok (.string (strOfNums [a, b, c, d])) (w.alloc (.cells #[.int .u8 a, .int .u8 b, .int .u8 c, .int .u8 d] 5)) := by
  apply run_convert_bytes_arg _ 39 5 Try.underlying39 Try.underlying5 w.heap.size 0 4 4 [a, b, c, d] rfl
  · intro i hi
    match i, hi with
    | 0, _ => simp
    | 1, _ => simp
    | 2, _ => simp
    | 3, _ => simp
  · exact Try.underlying9

theorem digit19 (x : Int) (w : World) (h0 : 0 ≤ x) : Calls Try.prog 19 #[.int .i64 x] w fun e w' => e = .returned (.int .u8 (48 + x % 8)) ∧ w = w' := by
  have h := and7 x h0
  have b1 : 0 ≤ x % 8 := by omega
  have b2 : x % 8 < 8 := by omega
  go_enter Try.func19, Try.ntmps19
  go_wp2
  go_ret
  exact ⟨rfl, rfl⟩

set_option maxHeartbeats 1000000 in
theorem octal10 (x : Int) (w : World) (h0 : 0 ≤ x) : Calls Try.prog 10 #[.int .i64 x] w fun e w' => e = .returned (.string (strOfNums (octD x))) ∧ Below w.heap.size w w' := by
  have hcv := conv4 w
  go_enter Try.func10, Try.ntmps10
  go_wp2_with (go_at_call 19; refine (digit19 _ _ (by omega)).mono ?_; rintro e w' ⟨rfl, rfl⟩)
  go_ret
  exact ⟨rfl, (Below.refl _ _).alloc (Nat.le_refl _) _⟩
set_option maxHeartbeats 1000000 in
theorem octal11 (x : Int) (w : World) (h0 : 0 ≤ x) (h1 : x ≤ 4095) : Calls Try.prog 11 #[.int .i64 x] w fun e w' => e = .returned (.string (strOfNums (octD x))) ∧ Below w.heap.size w w' := by
  have hcv := conv4 w
  go_enter Try.func11, Try.ntmps11
  go_wp2
  go_ret
  refine ⟨?_, (Below.refl _ _).alloc (Nat.le_refl _) _⟩
  rw [octD, show x / 512 % 8 = x / 512 by omega]
  rfl

/-! ### ModeTurns -/
theorem octM_digits (x : Int) (h0 : 0 ≤ x) (h1 : x ≤ 4095) : octM (octD x) 0 = (x, 0) := by
  unfold octD
  rw [octM_next (by omega) (by omega), octM_next (by omega) (by omega), octM_next (by omega) (by omega), octM_next (by omega) (by omega), octM]
  rw [show ((((0 : Int) * 8 + (48 + x / 512 % 8 - 48)) * 8 + (48 + x / 64 % 8 - 48)) * 8 + (48 + x / 8 % 8 - 48)) * 8 + (48 + x % 8 - 48) = x by omega]
theorem chgM_digits (x n : Int) (dir : Bool) (mask : Int) (h0 : 0 ≤ x) (h1 : x ≤ 4095) : chgM (bl (strOfNums (octD x))) n dir mask = (x, 0) := by
  rw [bl_nums _ (by unfold octD; intro y hy; simp only [List.mem_cons, List.not_mem_nil, or_false] at hy; omega)]
  rw [show chgM (octD x) n dir mask = if 48 ≤ 48 + x / 512 % 8 ∧ 48 + x / 512 % 8 ≤ 57 then octM (octD x) 0 else formM (chgL dir mask (octD x) [] n) from rfl, if_pos (by omega)]
  exact octM_digits x h0 h1

theorem chgL_join (dir : Bool) (mask : Int) (b : List Int) : ∀ (a cur : List Int) (m : Int), chgL dir mask (a ++ 44 :: b) cur m = (chgL dir mask a cur m).bind fun x => chgL dir mask b [] x
  | [], cur, m => by simp [chgL]
  | c :: r, cur, m => by
    rw [List.cons_append, chgL, chgL]
    split
    · rw [Option.bind_assoc]
      congr 1
      funext y
      exact chgL_join dir mask b r [] y
    · exact chgL_join dir mask b r _ m

theorem bl_append (a b : ByteArray) : bl (a ++ b) = bl a ++ bl b := by
  unfold bl; rw [ByteArray.data_append, Array.toList_append, List.map_append]

/-- A text that begins with no digit: Change goes clause by clause. -/
theorem chgM_form {s : ByteArray} {m : Int} {dir : Bool} {mask : Int} (h : 0 < s.size) (hc : ¬ (48 ≤ bt s 0 ∧ bt s 0 ≤ 57)) : chgM (bl s) m dir mask = formM (chgL dir mask (bl s) [] m) := by
  have hd := bl_drop s 0 h
  rw [List.drop_zero] at hd
  rw [hd, chgM, if_neg hc]
theorem formM_ok {r : Option Int} {x : Int} (h : formM r = (x, 0)) : r = some x := by
  cases r with
  | none => cases h
  | some y => simp [formM] at h; rw [h]

theorem bt_append (a b : ByteArray) (h : 0 < a.size) : bt (a ++ b) 0 = bt a 0 := by
  have h2 : 0 < (a ++ b).size := by rw [ByteArray.size_append]; omega
  rw [← bl_get _ 0 h2, ← bl_get _ 0 h]
  have hl : 0 < (bl a).length := by rw [bl_length]; exact h
  simp only [bl_append]
  rw [List.getElem_append_left hl]

theorem turns_law (a b : ByteArray) (m x : Int) (dir : Bool) (mask : Int) (ha : 0 < a.size) (hb : 0 < b.size) (ca : ¬ (48 ≤ bt a 0 ∧ bt a 0 ≤ 57)) (cb : ¬ (48 ≤ bt b 0 ∧ bt b 0 ≤ 57))
    (h : chgM (bl a) m dir mask = (x, 0)) : chgM (bl (a ++ ⟨#[44]⟩ ++ b)) m dir mask = chgM (bl b) x dir mask := by
  have hs : 0 < (a ++ ⟨#[44]⟩ ++ b).size := by rw [ByteArray.size_append]; omega
  rw [chgM_form ha ca] at h
  rw [chgM_form hb cb, chgM_form hs (by rw [bt_append _ _ (by rw [ByteArray.size_append]; omega), bt_append _ _ ha]; exact ca)]
  rw [bl_append, bl_append, show bl ⟨#[44]⟩ = [44] from rfl, List.append_assoc, List.singleton_append, chgL_join, formM_ok h]
  rfl
end Go.Proofs.Ytdoccakkjgcbjaa
