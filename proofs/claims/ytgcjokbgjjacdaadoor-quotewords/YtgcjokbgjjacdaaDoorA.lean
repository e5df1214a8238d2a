/- Contracts: IndexByte, safe bytes, bare words, ours and the document's. Conditions: lengths that fit an int. -/
import Derived.Test.YtgcjokbgjjacdaaDoorBy
import Derived.Test.YtgcjokbgjjacdaaDoorP
import Derived.Lib.Strings
import Derived.Lib.Bytealg
import Derived.Lib.IndexLaws
import Derived.Laws.BitsAllLaws
import Derived.Laws.DeepStrings4
namespace Go.Proofs.YtgcjokbgjjacdaaDoor
open Go.RowKit Go.PlainAid
set_option linter.unusedSimpArgs false
set_option linter.unusedVariables false

theorem has_index (l : List UInt8) (c : UInt8) : decide (0 ≤ Lib.indexByte l c) = decide (c ∈ l) := by
  have hge := Lib.indexByte_ge l c
  by_cases h : Lib.indexByte l c = -1
  · have hn := Lib.indexByte_none h
    rw [h]
    symm
    apply decide_eq_false
    intro hm
    obtain ⟨k, hk, e⟩ := List.getElem_of_mem hm
    exact hn k (by rw [List.getElem?_eq_getElem hk, e])
  · obtain ⟨o, ho⟩ : ∃ o : Nat, Lib.indexByte l c = o := ⟨(Lib.indexByte l c).toNat, by omega⟩
    obtain ⟨hs, _⟩ := Lib.indexByte_some ho
    rw [ho, decide_eq_true (by omega)]
    symm
    exact decide_eq_true (List.mem_of_getElem? hs)
set_option maxHeartbeats 1000000 in
set_option maxRecDepth 100000 in
theorem ib28 (s : ByteArray) (c : Int) (w : World) :
    Calls Tryd.prog 28 #[.string s, .int .u8 c] w fun e w' => e = .returned (.int .i64 (Lib.indexByte (ls s) c.toNat.toUInt8)) ∧ w = w' := by
  go_enter Tryd.func28, Tryd.ntmps28
  go_wp2
  rw [run_callFunc_extern Tryd.func36 (by kernel_rfl) (by kernel_rfl) (by kernel_rfl) (e := Extern.BytealgIndexByte.indexByte) (by kernel_rfl), Lib.run_indexByteString]
  simp only [Result.andThen]
  rw [Oper.upon_value]
  go_wp2
  go_ret
  exact ⟨rfl, rfl⟩
set_option maxHeartbeats 1000000 in
set_option maxRecDepth 100000 in
theorem ib21 (s : ByteArray) (c : Int) (w : World) :
    Calls Tryd.prog 21 #[.string s, .int .u8 c] w fun e w' => e = .returned (.int .i64 (Lib.indexByte (ls s) c.toNat.toUInt8)) ∧ w = w' := by
  go_enter Tryd.func21, Tryd.ntmps21
  go_wp2_with (go_at_call 28; refine (ib28 _ _ _).mono ?_; rintro e w' ⟨rfl, rfl⟩)
  go_ret
  exact ⟨rfl, rfl⟩
/-- What a byte is: a letter, a digit, or another one. -/
theorem oth_is (c : Nat) (h : c < 256) (h1 : ¬ (97 ≤ c ∧ c ≤ 122)) (h2 : ¬ (65 ≤ c ∧ c ≤ 90)) (h3 : ¬ (48 ≤ c ∧ c ≤ 57)) : safeN c = decide (0 ≤ Lib.indexByte othL (c : Int).toNat.toUInt8) := by
  rw [has_index, Int.toNat_natCast]
  unfold safeN
  have e1 : (decide (97 ≤ c) && decide (c ≤ 122)) = false := by simp; omega
  have e2 : (decide (65 ≤ c) && decide (c ≤ 90)) = false := by simp; omega
  have e3 : (decide (48 ≤ c) && decide (c ≤ 57)) = false := by simp; omega
  rw [e1, e2, e3]
  simp [Nat.toUInt8]
theorem saf_is (c : Nat) (h : (97 ≤ c ∧ c ≤ 122) ∨ (65 ≤ c ∧ c ≤ 90) ∨ (48 ≤ c ∧ c ≤ 57)) : safeN c = true := by
  unfold safeN
  rcases h with ⟨a, b⟩ | ⟨a, b⟩ | ⟨a, b⟩ <;> simp [a, b]

set_option maxHeartbeats 1000000 in
set_option maxRecDepth 100000 in
theorem safe16 (c : Nat) (hc : c < 256) (w : World) : Calls Tryd.prog 16 #[.int .u8 c] w fun e w' => e = .returned (.bool (safeN c)) ∧ w = w' := by
  have C := Lib.hid fun W => ib21 ⟨#[95, 46, 47, 44, 43, 45, 58, 64]⟩ (c : Int) W
  have HC : (c < 48) ∨ (48 ≤ c ∧ c ≤ 57) ∨ (58 ≤ c ∧ c ≤ 64) ∨ (65 ≤ c ∧ c ≤ 90) ∨ (91 ≤ c ∧ c ≤ 96) ∨ (97 ≤ c ∧ c ≤ 122) ∨ (123 ≤ c) := by omega
  rcases HC with h | h | h | h | h | h | h
  · have HS := Lib.hid (oth_is c hc (by omega) (by omega) (by omega))
    have d0 : decide (97 ≤ (c : Int)) = false := decide_eq_false (by omega)
    have d1 : decide (65 ≤ (c : Int)) = false := decide_eq_false (by omega)
    have d2 : decide (48 ≤ (c : Int)) = false := decide_eq_false (by omega)
    go_enter Tryd.func16, Tryd.ntmps16
    go_wp2_with (go_at_call 21; refine (C.out _).mono ?_; rintro e w' ⟨rfl, rfl⟩)
    go_ret
    rw [HS.out]; exact ⟨rfl, rfl⟩
  · have HS : Hid (safeN c = true) := Lib.hid (saf_is c (by omega))
    have d0 : decide (97 ≤ (c : Int)) = false := decide_eq_false (by omega)
    have d1 : decide (65 ≤ (c : Int)) = false := decide_eq_false (by omega)
    have d2 : decide (48 ≤ (c : Int)) = true := decide_eq_true (by omega)
    have d3 : decide ((c : Int) ≤ 57) = true := decide_eq_true (by omega)
    go_enter Tryd.func16, Tryd.ntmps16
    go_wp2
    go_ret
    rw [HS.out]; exact ⟨rfl, rfl⟩
  · have HS := Lib.hid (oth_is c hc (by omega) (by omega) (by omega))
    have d0 : decide (97 ≤ (c : Int)) = false := decide_eq_false (by omega)
    have d1 : decide (65 ≤ (c : Int)) = false := decide_eq_false (by omega)
    have d2 : decide (48 ≤ (c : Int)) = true := decide_eq_true (by omega)
    have d3 : decide ((c : Int) ≤ 57) = false := decide_eq_false (by omega)
    go_enter Tryd.func16, Tryd.ntmps16
    go_wp2_with (go_at_call 21; refine (C.out _).mono ?_; rintro e w' ⟨rfl, rfl⟩)
    go_ret
    rw [HS.out]; exact ⟨rfl, rfl⟩
  · have HS : Hid (safeN c = true) := Lib.hid (saf_is c (by omega))
    have d0 : decide (97 ≤ (c : Int)) = false := decide_eq_false (by omega)
    have d1 : decide (65 ≤ (c : Int)) = true := decide_eq_true (by omega)
    have d2 : decide ((c : Int) ≤ 90) = true := decide_eq_true (by omega)
    go_enter Tryd.func16, Tryd.ntmps16
    go_wp2
    go_ret
    rw [HS.out]; exact ⟨rfl, rfl⟩
  · have HS := Lib.hid (oth_is c hc (by omega) (by omega) (by omega))
    have d0 : decide (97 ≤ (c : Int)) = false := decide_eq_false (by omega)
    have d1 : decide (65 ≤ (c : Int)) = true := decide_eq_true (by omega)
    have d2 : decide ((c : Int) ≤ 90) = false := decide_eq_false (by omega)
    have d3 : decide (48 ≤ (c : Int)) = true := decide_eq_true (by omega)
    have d4 : decide ((c : Int) ≤ 57) = false := decide_eq_false (by omega)
    go_enter Tryd.func16, Tryd.ntmps16
    go_wp2_with (go_at_call 21; refine (C.out _).mono ?_; rintro e w' ⟨rfl, rfl⟩)
    go_ret
    rw [HS.out]; exact ⟨rfl, rfl⟩
  · have HS : Hid (safeN c = true) := Lib.hid (saf_is c (by omega))
    have d0 : decide (97 ≤ (c : Int)) = true := decide_eq_true (by omega)
    have d1 : decide ((c : Int) ≤ 122) = true := decide_eq_true (by omega)
    go_enter Tryd.func16, Tryd.ntmps16
    go_wp2
    go_ret
    rw [HS.out]; exact ⟨rfl, rfl⟩
  · have HS := Lib.hid (oth_is c hc (by omega) (by omega) (by omega))
    have d0 : decide (97 ≤ (c : Int)) = true := decide_eq_true (by omega)
    have d1 : decide ((c : Int) ≤ 122) = false := decide_eq_false (by omega)
    have d2 : decide (65 ≤ (c : Int)) = true := decide_eq_true (by omega)
    have d3 : decide ((c : Int) ≤ 90) = false := decide_eq_false (by omega)
    have d4 : decide (48 ≤ (c : Int)) = true := decide_eq_true (by omega)
    have d5 : decide ((c : Int) ≤ 57) = false := decide_eq_false (by omega)
    go_enter Tryd.func16, Tryd.ntmps16
    go_wp2_with (go_at_call 21; refine (C.out _).mono ?_; rintro e w' ⟨rfl, rfl⟩)
    go_ret
    rw [HS.out]; exact ⟨rfl, rfl⟩
/-- The document's walk over the other safe bytes. -/
def Rel17 (c : Nat) (i : Value) : Prop := ∃ k : Nat, k ≤ 8 ∧ i = .int .i64 k ∧ Hid (safeN c = (othL.drop k).contains (UInt8.ofNat c))
theorem oth_bt (k : Nat) (h : k < 8) : bt ⟨#[95, 46, 47, 44, 43, 45, 58, 64]⟩ k = ((othL.getD k 0).toNat : Int) := by
  rw [bt_at]; rfl
set_option maxHeartbeats 1000000 in
set_option maxRecDepth 100000 in
theorem safe17 (c : Nat) (hc : c < 256) (w : World) : Calls Tryd.prog 17 #[.int .u8 c] w fun e w' => e = .returned (.bool (safeN c)) ∧ w = w' := by
  have HC : (c < 48) ∨ (48 ≤ c ∧ c ≤ 57) ∨ (58 ≤ c ∧ c ≤ 64) ∨ (65 ≤ c ∧ c ≤ 90) ∨ (91 ≤ c ∧ c ≤ 96) ∨ (97 ≤ c ∧ c ≤ 122) ∨ (123 ≤ c) := by omega
  have hb := get_bt ⟨#[95, 46, 47, 44, 43, 45, 58, 64]⟩
  have HO := Lib.hid oth_bt
  rcases HC with h | h | h | h | h | h | h
  · have HS : Hid (safeN c = othL.contains (UInt8.ofNat c)) := Lib.hid (by rw [oth_is c hc (by omega) (by omega) (by omega), has_index, Int.toNat_natCast]; simp [Nat.toUInt8])
    have d0 : decide (97 ≤ (c : Int)) = false := decide_eq_false (by omega)
    have d1 : decide (65 ≤ (c : Int)) = false := decide_eq_false (by omega)
    have d2 : decide (48 ≤ (c : Int)) = false := decide_eq_false (by omega)
    go_enter Tryd.func17, Tryd.ntmps17
    go_wp2
    go_loop [4] (Rel17 c) (fun i => 8 - (intOf i).toNat)
    case atStart => exact ⟨0, by omega, rfl, Lib.hid (by rw [HS.out]; rfl)⟩
    case round =>
      obtain ⟨k, hk, rfl, HR⟩ := hrel
      by_cases hlt : k < 8
      · have hbk := HO.out k hlt
        obtain ⟨x, hx⟩ : ∃ x, othL.getD k 0 = x := ⟨_, rfl⟩
        rw [hx] at hbk
        have HD : Hid (othL.drop k = x :: othL.drop (k + 1)) := Lib.hid (by
          rw [List.drop_eq_getElem_cons (show k < othL.length from hlt)]
          congr 1
          rw [← hx, List.getD_eq_getElem?_getD, List.getElem?_eq_getElem (show k < othL.length from hlt)]; rfl)
        by_cases he : x.toNat = c
        · have HE : Hid (safeN c = true) := Lib.hid (by rw [HR.out, HD.out, ← he]; simp)
          have hq : (bt ⟨#[95, 46, 47, 44, 43, 45, 58, 64]⟩ k == (c : Int)) = true := by rw [hbk, he]; simp
          clear hbk
          go_wp2
          go_ret
          rw [HE.out]; exact ⟨rfl, rfl⟩
        · have HE : Hid (safeN c = (othL.drop (k + 1)).contains (UInt8.ofNat c)) := Lib.hid (by
            rw [HR.out, HD.out, List.contains_cons]
            have : (UInt8.ofNat c == x) = false := by
              rw [beq_eq_false_iff_ne]
              intro e; apply he; rw [← e, UInt8.toNat_ofNat', Nat.mod_eq_of_lt hc]
            rw [this, Bool.false_or])
          have hq : (bt ⟨#[95, 46, 47, 44, 43, 45, 58, 64]⟩ k == (c : Int)) = false := by rw [hbk, beq_eq_false_iff_ne]; omega
          clear hbk
          go_wp2
          go_round
          case rel => exact ⟨k + 1, by omega, by go_num, HE⟩
          case measure => simp [intOf]; omega
      · obtain rfl : k = 8 := by omega
        have HE : Hid (safeN c = false) := Lib.hid (by rw [HR.out]; rfl)
        go_wp2
        go_ret
        rw [HE.out]; exact ⟨rfl, rfl⟩
  · have HS : Hid (safeN c = true) := Lib.hid (saf_is c (by omega))
    have d0 : decide (97 ≤ (c : Int)) = false := decide_eq_false (by omega)
    have d1 : decide (65 ≤ (c : Int)) = false := decide_eq_false (by omega)
    have d2 : decide (48 ≤ (c : Int)) = true := decide_eq_true (by omega)
    have d3 : decide ((c : Int) ≤ 57) = true := decide_eq_true (by omega)
    go_enter Tryd.func17, Tryd.ntmps17
    go_wp2
    go_ret
    rw [HS.out]; exact ⟨rfl, rfl⟩
  · have HS : Hid (safeN c = othL.contains (UInt8.ofNat c)) := Lib.hid (by rw [oth_is c hc (by omega) (by omega) (by omega), has_index, Int.toNat_natCast]; simp [Nat.toUInt8])
    have d0 : decide (97 ≤ (c : Int)) = false := decide_eq_false (by omega)
    have d1 : decide (65 ≤ (c : Int)) = false := decide_eq_false (by omega)
    have d2 : decide (48 ≤ (c : Int)) = true := decide_eq_true (by omega)
    have d3 : decide ((c : Int) ≤ 57) = false := decide_eq_false (by omega)
    go_enter Tryd.func17, Tryd.ntmps17
    go_wp2
    go_loop [4] (Rel17 c) (fun i => 8 - (intOf i).toNat)
    case atStart => exact ⟨0, by omega, rfl, Lib.hid (by rw [HS.out]; rfl)⟩
    case round =>
      obtain ⟨k, hk, rfl, HR⟩ := hrel
      by_cases hlt : k < 8
      · have hbk := HO.out k hlt
        obtain ⟨x, hx⟩ : ∃ x, othL.getD k 0 = x := ⟨_, rfl⟩
        rw [hx] at hbk
        have HD : Hid (othL.drop k = x :: othL.drop (k + 1)) := Lib.hid (by
          rw [List.drop_eq_getElem_cons (show k < othL.length from hlt)]
          congr 1
          rw [← hx, List.getD_eq_getElem?_getD, List.getElem?_eq_getElem (show k < othL.length from hlt)]; rfl)
        by_cases he : x.toNat = c
        · have HE : Hid (safeN c = true) := Lib.hid (by rw [HR.out, HD.out, ← he]; simp)
          have hq : (bt ⟨#[95, 46, 47, 44, 43, 45, 58, 64]⟩ k == (c : Int)) = true := by rw [hbk, he]; simp
          clear hbk
          go_wp2
          go_ret
          rw [HE.out]; exact ⟨rfl, rfl⟩
        · have HE : Hid (safeN c = (othL.drop (k + 1)).contains (UInt8.ofNat c)) := Lib.hid (by
            rw [HR.out, HD.out, List.contains_cons]
            have : (UInt8.ofNat c == x) = false := by
              rw [beq_eq_false_iff_ne]
              intro e; apply he; rw [← e, UInt8.toNat_ofNat', Nat.mod_eq_of_lt hc]
            rw [this, Bool.false_or])
          have hq : (bt ⟨#[95, 46, 47, 44, 43, 45, 58, 64]⟩ k == (c : Int)) = false := by rw [hbk, beq_eq_false_iff_ne]; omega
          clear hbk
          go_wp2
          go_round
          case rel => exact ⟨k + 1, by omega, by go_num, HE⟩
          case measure => simp [intOf]; omega
      · obtain rfl : k = 8 := by omega
        have HE : Hid (safeN c = false) := Lib.hid (by rw [HR.out]; rfl)
        go_wp2
        go_ret
        rw [HE.out]; exact ⟨rfl, rfl⟩
  · have HS : Hid (safeN c = true) := Lib.hid (saf_is c (by omega))
    have d0 : decide (97 ≤ (c : Int)) = false := decide_eq_false (by omega)
    have d1 : decide (65 ≤ (c : Int)) = true := decide_eq_true (by omega)
    have d2 : decide ((c : Int) ≤ 90) = true := decide_eq_true (by omega)
    go_enter Tryd.func17, Tryd.ntmps17
    go_wp2
    go_ret
    rw [HS.out]; exact ⟨rfl, rfl⟩
  · have HS : Hid (safeN c = othL.contains (UInt8.ofNat c)) := Lib.hid (by rw [oth_is c hc (by omega) (by omega) (by omega), has_index, Int.toNat_natCast]; simp [Nat.toUInt8])
    have d0 : decide (97 ≤ (c : Int)) = false := decide_eq_false (by omega)
    have d1 : decide (65 ≤ (c : Int)) = true := decide_eq_true (by omega)
    have d2 : decide ((c : Int) ≤ 90) = false := decide_eq_false (by omega)
    have d3 : decide (48 ≤ (c : Int)) = true := decide_eq_true (by omega)
    have d4 : decide ((c : Int) ≤ 57) = false := decide_eq_false (by omega)
    go_enter Tryd.func17, Tryd.ntmps17
    go_wp2
    go_loop [4] (Rel17 c) (fun i => 8 - (intOf i).toNat)
    case atStart => exact ⟨0, by omega, rfl, Lib.hid (by rw [HS.out]; rfl)⟩
    case round =>
      obtain ⟨k, hk, rfl, HR⟩ := hrel
      by_cases hlt : k < 8
      · have hbk := HO.out k hlt
        obtain ⟨x, hx⟩ : ∃ x, othL.getD k 0 = x := ⟨_, rfl⟩
        rw [hx] at hbk
        have HD : Hid (othL.drop k = x :: othL.drop (k + 1)) := Lib.hid (by
          rw [List.drop_eq_getElem_cons (show k < othL.length from hlt)]
          congr 1
          rw [← hx, List.getD_eq_getElem?_getD, List.getElem?_eq_getElem (show k < othL.length from hlt)]; rfl)
        by_cases he : x.toNat = c
        · have HE : Hid (safeN c = true) := Lib.hid (by rw [HR.out, HD.out, ← he]; simp)
          have hq : (bt ⟨#[95, 46, 47, 44, 43, 45, 58, 64]⟩ k == (c : Int)) = true := by rw [hbk, he]; simp
          clear hbk
          go_wp2
          go_ret
          rw [HE.out]; exact ⟨rfl, rfl⟩
        · have HE : Hid (safeN c = (othL.drop (k + 1)).contains (UInt8.ofNat c)) := Lib.hid (by
            rw [HR.out, HD.out, List.contains_cons]
            have : (UInt8.ofNat c == x) = false := by
              rw [beq_eq_false_iff_ne]
              intro e; apply he; rw [← e, UInt8.toNat_ofNat', Nat.mod_eq_of_lt hc]
            rw [this, Bool.false_or])
          have hq : (bt ⟨#[95, 46, 47, 44, 43, 45, 58, 64]⟩ k == (c : Int)) = false := by rw [hbk, beq_eq_false_iff_ne]; omega
          clear hbk
          go_wp2
          go_round
          case rel => exact ⟨k + 1, by omega, by go_num, HE⟩
          case measure => simp [intOf]; omega
      · obtain rfl : k = 8 := by omega
        have HE : Hid (safeN c = false) := Lib.hid (by rw [HR.out]; rfl)
        go_wp2
        go_ret
        rw [HE.out]; exact ⟨rfl, rfl⟩
  · have HS : Hid (safeN c = true) := Lib.hid (saf_is c (by omega))
    have d0 : decide (97 ≤ (c : Int)) = true := decide_eq_true (by omega)
    have d1 : decide ((c : Int) ≤ 122) = true := decide_eq_true (by omega)
    go_enter Tryd.func17, Tryd.ntmps17
    go_wp2
    go_ret
    rw [HS.out]; exact ⟨rfl, rfl⟩
  · have HS : Hid (safeN c = othL.contains (UInt8.ofNat c)) := Lib.hid (by rw [oth_is c hc (by omega) (by omega) (by omega), has_index, Int.toNat_natCast]; simp [Nat.toUInt8])
    have d0 : decide (97 ≤ (c : Int)) = true := decide_eq_true (by omega)
    have d1 : decide ((c : Int) ≤ 122) = false := decide_eq_false (by omega)
    have d2 : decide (65 ≤ (c : Int)) = true := decide_eq_true (by omega)
    have d3 : decide ((c : Int) ≤ 90) = false := decide_eq_false (by omega)
    have d4 : decide (48 ≤ (c : Int)) = true := decide_eq_true (by omega)
    have d5 : decide ((c : Int) ≤ 57) = false := decide_eq_false (by omega)
    go_enter Tryd.func17, Tryd.ntmps17
    go_wp2
    go_loop [4] (Rel17 c) (fun i => 8 - (intOf i).toNat)
    case atStart => exact ⟨0, by omega, rfl, Lib.hid (by rw [HS.out]; rfl)⟩
    case round =>
      obtain ⟨k, hk, rfl, HR⟩ := hrel
      by_cases hlt : k < 8
      · have hbk := HO.out k hlt
        obtain ⟨x, hx⟩ : ∃ x, othL.getD k 0 = x := ⟨_, rfl⟩
        rw [hx] at hbk
        have HD : Hid (othL.drop k = x :: othL.drop (k + 1)) := Lib.hid (by
          rw [List.drop_eq_getElem_cons (show k < othL.length from hlt)]
          congr 1
          rw [← hx, List.getD_eq_getElem?_getD, List.getElem?_eq_getElem (show k < othL.length from hlt)]; rfl)
        by_cases he : x.toNat = c
        · have HE : Hid (safeN c = true) := Lib.hid (by rw [HR.out, HD.out, ← he]; simp)
          have hq : (bt ⟨#[95, 46, 47, 44, 43, 45, 58, 64]⟩ k == (c : Int)) = true := by rw [hbk, he]; simp
          clear hbk
          go_wp2
          go_ret
          rw [HE.out]; exact ⟨rfl, rfl⟩
        · have HE : Hid (safeN c = (othL.drop (k + 1)).contains (UInt8.ofNat c)) := Lib.hid (by
            rw [HR.out, HD.out, List.contains_cons]
            have : (UInt8.ofNat c == x) = false := by
              rw [beq_eq_false_iff_ne]
              intro e; apply he; rw [← e, UInt8.toNat_ofNat', Nat.mod_eq_of_lt hc]
            rw [this, Bool.false_or])
          have hq : (bt ⟨#[95, 46, 47, 44, 43, 45, 58, 64]⟩ k == (c : Int)) = false := by rw [hbk, beq_eq_false_iff_ne]; omega
          clear hbk
          go_wp2
          go_round
          case rel => exact ⟨k + 1, by omega, by go_num, HE⟩
          case measure => simp [intOf]; omega
      · obtain rfl : k = 8 := by omega
        have HE : Hid (safeN c = false) := Lib.hid (by rw [HR.out]; rfl)
        go_wp2
        go_ret
        rw [HE.out]; exact ⟨rfl, rfl⟩
def RelB (s : ByteArray) (i : Value) : Prop := ∃ k : Nat, k ≤ s.size ∧ i = .int .i64 k ∧ Hid ((ls s).all sfU = ((ls s).drop k).all sfU)
set_option maxHeartbeats 1000000 in
set_option maxRecDepth 100000 in
theorem bare7 (s : ByteArray) (w : World) (hs : s.size ≤ 1000000) : Calls Tryd.prog 7 #[.string s] w fun e w' => e = .returned (.bool (bareL (ls s))) ∧ w = w' := by
  have hb := get_bt s
  have HEM := Lib.hid (@toList_em s)
  have HNE := Lib.hid (@toList_ne s)
  go_enter Tryd.func7, Tryd.ntmps7
  go_wp2
  go_loop [6] (RelB s) (fun i => s.size - (intOf i).toNat)
  case atStart => exact ⟨0, Nat.zero_le _, rfl, Lib.hid (by rw [List.drop_zero])⟩
  case round =>
    obtain ⟨k, hk, rfl, HR⟩ := hrel
    by_cases hlt : k < s.size
    · have HD := Lib.hid (ls_cut s k hlt)
      have hat := at0_lt (ls s) k
      have HA := Lib.hid (bt_at s k)
      have C := Lib.hid fun W => safe16 (at0 (ls s) k) hat W
      rw [← HA.out] at C
      have HU : Hid (sfU (UInt8.ofNat (at0 (ls s) k)) = safeN (at0 (ls s) k)) := Lib.hid (by unfold sfU; rw [UInt8.toNat_ofNat', Nat.mod_eq_of_lt hat])
      cases hp : safeN (at0 (ls s) k)
      · rw [hp] at C HU
        have HF : Hid (bareL (ls s) = false) := Lib.hid (by unfold bareL; rw [HR.out, HD.out, List.all_cons, HU.out]; rfl)
        clear hp
        go_wp2_with (go_at_call 16; refine (C.out _).mono ?_; rintro e w' ⟨rfl, rfl⟩)
        go_ret
        rw [HF.out]; exact ⟨rfl, rfl⟩
      · rw [hp] at C HU
        have HF : Hid ((ls s).all sfU = ((ls s).drop (k + 1)).all sfU) := Lib.hid (by rw [HR.out, HD.out, List.all_cons, HU.out, Bool.true_and])
        clear hp
        go_wp2_with (go_at_call 16; refine (C.out _).mono ?_; rintro e w' ⟨rfl, rfl⟩)
        go_round
        case rel => exact ⟨k + 1, hlt, by go_num, HF⟩
        case measure => simp [intOf]; omega
    · obtain rfl : k = s.size := by omega
      have HT : Hid ((ls s).all sfU = true) := Lib.hid (by rw [HR.out, List.drop_eq_nil_of_le (by rw [ls_len]; exact Nat.le_refl _)]; rfl)
      by_cases h0 : s.size = 0
      · have he := HEM.out h0
        have HF : Hid (bareL (ls s) = false) := Lib.hid (by unfold bareL; rw [ls_em h0]; rfl)
        go_wp2
        go_ret
        rw [HF.out]; exact ⟨rfl, rfl⟩
      · have he := HNE.out (by omega)
        have HF : Hid (bareL (ls s) = true) := Lib.hid (by
          unfold bareL
          rw [HT.out]
          have := ls_ne (t := s) (by omega)
          cases h : ls s with
          | nil => exact absurd h this
          | cons => rfl)
        go_wp2
        go_ret
        rw [HF.out]; exact ⟨rfl, rfl⟩
set_option maxHeartbeats 1000000 in
set_option maxRecDepth 100000 in
theorem bare8 (s : ByteArray) (w : World) (hs : s.size ≤ 1000000) : Calls Tryd.prog 8 #[.string s] w fun e w' => e = .returned (.bool (bareL (ls s))) ∧ w = w' := by
  have hb := get_bt s
  have HEM := Lib.hid (@toList_em s)
  have HNE := Lib.hid (@toList_ne s)
  go_enter Tryd.func8, Tryd.ntmps8
  go_wp2
  go_loop [3] (RelB s) (fun i => s.size - (intOf i).toNat)
  case atStart => exact ⟨0, Nat.zero_le _, rfl, Lib.hid (by rw [List.drop_zero])⟩
  case round =>
    obtain ⟨k, hk, rfl, HR⟩ := hrel
    by_cases hlt : k < s.size
    · have HD := Lib.hid (ls_cut s k hlt)
      have hat := at0_lt (ls s) k
      have HA := Lib.hid (bt_at s k)
      have C := Lib.hid fun W => safe17 (at0 (ls s) k) hat W
      rw [← HA.out] at C
      have HU : Hid (sfU (UInt8.ofNat (at0 (ls s) k)) = safeN (at0 (ls s) k)) := Lib.hid (by unfold sfU; rw [UInt8.toNat_ofNat', Nat.mod_eq_of_lt hat])
      cases hp : safeN (at0 (ls s) k)
      · rw [hp] at C HU
        have HF : Hid (bareL (ls s) = false) := Lib.hid (by unfold bareL; rw [HR.out, HD.out, List.all_cons, HU.out]; rfl)
        clear hp
        go_wp2_with (go_at_call 17; refine (C.out _).mono ?_; rintro e w' ⟨rfl, rfl⟩)
        go_ret
        rw [HF.out]; exact ⟨rfl, rfl⟩
      · rw [hp] at C HU
        have HF : Hid ((ls s).all sfU = ((ls s).drop (k + 1)).all sfU) := Lib.hid (by rw [HR.out, HD.out, List.all_cons, HU.out, Bool.true_and])
        clear hp
        go_wp2_with (go_at_call 17; refine (C.out _).mono ?_; rintro e w' ⟨rfl, rfl⟩)
        go_round
        case rel => exact ⟨k + 1, hlt, by go_num, HF⟩
        case measure => simp [intOf]; omega
    · obtain rfl : k = s.size := by omega
      have HT : Hid ((ls s).all sfU = true) := Lib.hid (by rw [HR.out, List.drop_eq_nil_of_le (by rw [ls_len]; exact Nat.le_refl _)]; rfl)
      by_cases h0 : s.size = 0
      · have he := HEM.out h0
        have HF : Hid (bareL (ls s) = false) := Lib.hid (by unfold bareL; rw [ls_em h0]; rfl)
        go_wp2
        go_ret
        rw [HF.out]; exact ⟨rfl, rfl⟩
      · have he := HNE.out (by omega)
        have HF : Hid (bareL (ls s) = true) := Lib.hid (by
          unfold bareL
          rw [HT.out]
          have := ls_ne (t := s) (by omega)
          cases h : ls s with
          | nil => exact absurd h this
          | cons => rfl)
        go_wp2
        go_ret
        rw [HF.out]; exact ⟨rfl, rfl⟩
end Go.Proofs.YtgcjokbgjjacdaaDoor
