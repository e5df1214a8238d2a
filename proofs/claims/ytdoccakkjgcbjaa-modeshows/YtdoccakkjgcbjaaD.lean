/- The contracts of mode.readOctal, and of strings.Cut at a comma, for every text. Condition: a length that fits an int. -/
import Derived.Test.YtdoccakkjgcbjaaC
import Derived.RegionTactic
import Derived.Laws.DeepStrings4
namespace Go.Proofs.Ytdoccakkjgcbjaa
open Go.RowKit Go.PlainAid
set_option linter.unusedSimpArgs false

def errR (r : Int × Int) : Ending := .returned (.tuple #[.int .i64 r.1, .int .i64 r.2])

theorem octM_bad {c m : Int} {r : List Int} (h : c < 48 ∨ 55 < c) : octM (c :: r) m = (0, 11) := by rw [octM, if_pos h]
theorem octM_high {c m : Int} {r : List Int} (h : ¬ (c < 48 ∨ 55 < c)) (h2 : 4095 < m * 8 + (c - 48)) : octM (c :: r) m = (0, 10) := by rw [octM, if_neg h, if_pos h2]
theorem octM_next {c m : Int} {r : List Int} (h : ¬ (c < 48 ∨ 55 < c)) (h2 : ¬ 4095 < m * 8 + (c - 48)) : octM (c :: r) m = octM r (m * 8 + (c - 48)) := by rw [octM, if_neg h, if_neg h2]

def Rel25 (s : ByteArray) (m i : Value) : Prop := ∃ (k : Nat) (mm : Int), k ≤ s.size ∧ i = .int .i64 k ∧ m = .int .i64 mm ∧ 0 ≤ mm ∧ mm ≤ 4095 ∧ octM ((bl s).drop k) mm = octM (bl s) 0

set_option maxHeartbeats 2000000 in
set_option maxRecDepth 100000 in
theorem oct25 (s : ByteArray) (w : World) (hs : s.size ≤ maxLen) :
    Calls Try.prog 25 #[.string s] w fun e w' => e = errR (octM (bl s) 0) ∧ w = w' := by
  unfold maxLen at hs
  have hb := get_bt s
  go_enter Try.func25, Try.ntmps25
  go_wp2
  go_loop [4, 8] (Rel25 s) (fun _ i => s.size - (intOf i).toNat)
  case atStart => exact ⟨0, 0, Nat.zero_le _, rfl, rfl, by omega, by omega, rfl⟩
  case round =>
    obtain ⟨k, mm, hk, rfl, rfl, hm1, hm2, hr⟩ := hrel
    have HR := Lib.hid hr
    clear hr
    by_cases hlt : k < s.size
    · have HD := Lib.hid (bl_drop s k hlt)
      have b1 := bt_nonneg s k
      have b2 := bt_le s k
      by_cases hc1 : bt s k < 48
      · go_wp2
        go_ret2
        rw [← HR.out, HD.out, octM_bad (.inl hc1)]
        exact ⟨rfl, rfl⟩
      · by_cases hc2 : 55 < bt s k
        · go_wp2
          go_ret2
          rw [← HR.out, HD.out, octM_bad (.inr hc2)]
          exact ⟨rfl, rfl⟩
        · by_cases hg : 4095 < mm * 8 + (bt s k - 48)
          · go_wp2
            go_ret2
            rw [← HR.out, HD.out, octM_high (by omega) hg]
            exact ⟨rfl, rfl⟩
          · go_wp2
            go_round
            case rel => exact ⟨k + 1, _, hlt, by go_num, rfl, by omega, by omega, by rw [← HR.out, HD.out, octM_next (by omega) hg]⟩
            case measure => simp [intOf]; omega
    · have hk2 : k = s.size := by omega
      subst hk2
      go_wp2
      go_ret2
      rw [← HR.out, bl_drop_end s s.size (Nat.le_refl _)]
      exact ⟨rfl, rfl⟩

set_option maxHeartbeats 1000000 in
set_option maxRecDepth 100000 in
theorem ib40 (s : ByteArray) (c : Int) (w : World) :
    Calls Try.prog 40 #[.string s, .int .u8 c] w fun e w' => e = .returned (.int .i64 (Lib.indexByte s.data.toList c.toNat.toUInt8)) ∧ w = w' := by
  go_enter Try.func40, Try.ntmps40
  go_wp2
  rw [run_callFunc_extern Try.func44 (by kernel_rfl) (by kernel_rfl) (by kernel_rfl) (e := Extern.BytealgIndexByte.indexByte) (by kernel_rfl), Lib.run_indexByteString]
  simp only [Result.andThen]
  rw [Oper.upon_value]
  go_wp2
  go_ret
  exact ⟨rfl, rfl⟩

theorem toList_data (s : ByteArray) : s.toList = s.data.toList := ByteArray.toList_eq s

set_option maxHeartbeats 1000000 in
set_option maxRecDepth 100000 in
theorem ix36 (s : ByteArray) (w : World) :
    Calls Try.prog 36 #[.string s, .string ⟨#[44]⟩] w fun e w' => e = .returned (.int .i64 (Lib.indexByte s.data.toList 44)) ∧ w = w' := by
  go_enter Try.func36, Try.ntmps36
  go_wp2_with (go_at_call 40; refine (ib40 _ _ _).mono ?_; rintro e w' ⟨rfl, rfl⟩)
  · go_ret
    have he : [44] = s.toList := by simpa using ‹([44] == s.toList) = true›
    rw [toList_data] at he
    rw [← he]
    exact ⟨rfl, rfl⟩
  · go_ret
    exact ⟨rfl, rfl⟩

set_option maxHeartbeats 1000000 in
set_option maxRecDepth 100000 in
theorem cut30_miss (s : ByteArray) (w : World) (h : Lib.indexByte s.data.toList 44 = -1) :
    Calls Try.prog 30 #[.string s, .string ⟨#[44]⟩] w fun e w' => e = .returned (.tuple #[.string s, .string ⟨#[]⟩, .bool false]) ∧ w = w' := by
  have H := Lib.hid h
  clear h
  go_enter Try.func30, Try.ntmps30
  go_wp2_with (go_at_call 36; refine (ix36 _ _).mono ?_; rintro e w' ⟨rfl, rfl⟩; rw [H.out])
  go_ret3
  exact ⟨rfl, rfl⟩

set_option maxHeartbeats 1000000 in
set_option maxRecDepth 100000 in
theorem cut30_hit (s : ByteArray) (i : Nat) (w : World) (h : Lib.indexByte s.data.toList 44 = i) (hi : i < s.size) (hs : s.size ≤ maxLen) :
    Calls Try.prog 30 #[.string s, .string ⟨#[44]⟩] w fun e w' => e = .returned (.tuple #[.string (s.extract 0 i), .string (s.extract (i + 1) s.size), .bool true]) ∧ w.drewN 1 = w' := by
  unfold maxLen at hs
  have H := Lib.hid h
  clear h
  have c1 : (0 : Int) ≤ ↑i := by omega
  have c2 : (↑i : Int) ≤ ↑s.size := by omega
  have c3 : (0 : Int) ≤ ↑i + 1 := by omega
  have c4 : (↑i + 1 : Int) ≤ ↑s.size := by omega
  go_enter Try.func30, Try.ntmps30
  go_wp2_with (go_at_call 36; refine (ix36 _ _).mono ?_; rintro e w' ⟨rfl, rfl⟩; rw [H.out])
  go_region
  go_wp2
  go_ret3
  exact ⟨rfl, rfl⟩

theorem cut26_miss (s : ByteArray) (w : World) (h : Lib.indexByte s.data.toList 44 = -1) :
    Calls Try.prog 26 #[.string s, .string ⟨#[44]⟩] w fun e w' => e = .returned (.tuple #[.string s, .string ⟨#[]⟩, .bool false]) ∧ w = w' := by
  have H := Lib.hid h
  clear h
  go_enter Try.func26, Try.ntmps26
  go_wp2_with (go_at_call 30; refine (cut30_miss _ _ H.out).mono ?_; rintro e w' ⟨rfl, rfl⟩)
  go_ret3
  exact ⟨rfl, rfl⟩
theorem cut26_hit (s : ByteArray) (i : Nat) (w : World) (h : Lib.indexByte s.data.toList 44 = i) (hi : i < s.size) (hs : s.size ≤ maxLen) :
    Calls Try.prog 26 #[.string s, .string ⟨#[44]⟩] w fun e w' => e = .returned (.tuple #[.string (s.extract 0 i), .string (s.extract (i + 1) s.size), .bool true]) ∧ w.drewN 1 = w' := by
  have H := Lib.hid h
  clear h
  go_enter Try.func26, Try.ntmps26
  go_wp2_with (go_at_call 30; refine (cut30_hit _ _ _ H.out hi hs).mono ?_; rintro e w' ⟨rfl, rfl⟩)
  go_ret3
  exact ⟨rfl, rfl⟩
end Go.Proofs.Ytdoccakkjgcbjaa
