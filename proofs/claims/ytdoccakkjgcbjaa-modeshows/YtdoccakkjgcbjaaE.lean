/- The contract of mode.Change, for every text, mode, mask and kind. Condition: a length that fits an int. -/
import Derived.Test.YtdoccakkjgcbjaaD
namespace Go.Proofs.Ytdoccakkjgcbjaa
open Go.RowKit Go.PlainAid
set_option linter.unusedSimpArgs false

theorem clause27_some {s : ByteArray} {m : Int} {dir : Bool} {mask m' : Int} (h : clauseM (bl s) m dir mask = some m') (w : World) (hs : s.size ≤ maxLen) :
    Calls Try.prog 27 #[.string s, .int .i64 m, .bool dir, .int .i64 mask] w fun e w' => e = .returned (.tuple #[.int .i64 m', .bool true]) ∧ w = w' :=
  (clause27 s m dir mask w hs).mono fun _ _ ⟨he, hw⟩ => ⟨by rw [he, h]; rfl, hw⟩
theorem clause27_none {s : ByteArray} {m : Int} {dir : Bool} {mask : Int} (h : clauseM (bl s) m dir mask = none) (w : World) (hs : s.size ≤ maxLen) :
    Calls Try.prog 27 #[.string s, .int .i64 m, .bool dir, .int .i64 mask] w fun e w' => e = .returned (.tuple #[.int .i64 0, .bool false]) ∧ w = w' :=
  (clause27 s m dir mask w hs).mono fun _ _ ⟨he, hw⟩ => ⟨by rw [he, h]; rfl, hw⟩

/-- What holds at the head of Change's loop. -/
def Rel16 (w : World) (dir : Bool) (mask : Int) (r : Option Int) (s m more : Value) (wr : World) : Prop :=
  ∃ (t : ByteArray) (mm : Int) (mo : Bool) (n : Nat), s = .string t ∧ m = .int .i64 mm ∧ more = .bool mo ∧ wr = w.drewN n ∧ t.size ≤ maxLen ∧
    (mo = true → chgL dir mask (bl t) [] mm = r) ∧ (mo = false → some mm = r)
def meas16 (s more : Value) : Nat :=
  match s, more with
  | .string t, .bool true => t.size + 1
  | _, _ => 0

theorem cut_cases (t : ByteArray) : Lib.indexByte t.data.toList 44 = -1 ∨ ∃ i : Nat, Lib.indexByte t.data.toList 44 = i ∧ i < t.size := by
  have hge := Lib.indexByte_ge t.data.toList 44
  by_cases h : Lib.indexByte t.data.toList 44 = -1
  · exact .inl h
  · obtain ⟨i, hi⟩ : ∃ i : Nat, Lib.indexByte t.data.toList 44 = i := ⟨(Lib.indexByte t.data.toList 44).toNat, by omega⟩
    exact .inr ⟨i, hi, (ib_hit hi).1⟩
theorem bl_take (t : ByteArray) (i : Nat) : bl (t.extract 0 i) = (bl t).take i := by rw [bl_extract]; simp
theorem bl_rest (t : ByteArray) (i : Nat) : bl (t.extract i t.size) = (bl t).drop i := by
  rw [bl_extract, List.take_of_length_le]; rw [List.length_drop, bl_length]; exact Nat.le_refl _

set_option maxHeartbeats 4000000 in
set_option maxRecDepth 100000 in
theorem change16_form (s : ByteArray) (m : Int) (dir : Bool) (mask : Int) (w : World) (hs : s.size ≤ maxLen)
    (hd : s.toList.isEmpty = true ∨ (s.toList.isEmpty = false ∧ 0 < s.size ∧ (bt s 0 < 48 ∨ 57 < bt s 0))) :
    Calls Try.prog 16 #[.string s, .int .i64 m, .bool dir, .int .i64 mask] w fun e w' => e = errR (formM (chgL dir mask (bl s) [] m)) ∧ ∃ n, w' = w.drewN n := by
  obtain ⟨r, hr⟩ : ∃ r, chgL dir mask (bl s) [] m = r := ⟨_, rfl⟩
  rw [hr]
  have HR := Lib.hid hr
  clear hr
  have hb := get_bt s
  have b1 := bt_nonneg s 0
  have b2 := bt_le s 0
  rcases hd with hd | ⟨hd, hd2, hd3 | hd3⟩
  · skip
    go_enter Try.func16, Try.ntmps16
    go_wp2
    go_loopw [0, 1, 10] (Rel16 w dir mask r) (fun s _ more _ => meas16 s more)
    case atStart => exact ⟨s, m, true, 0, rfl, rfl, rfl, rfl, hs, fun _ => HR.out, fun h => by cases h⟩
    case round =>
      obtain ⟨t, mm, mo, n, rfl, rfl, rfl, rfl, ht, h1, h2⟩ := hrel
      cases mo
      · have H2 := Lib.hid (h2 rfl)
        clear h1 h2
        go_wp2
        go_ret2
        rw [← H2.out]
        exact ⟨rfl, n, rfl⟩
      · have H1 := Lib.hid (h1 rfl)
        clear h1 h2
        rcases cut_cases t with hi | ⟨i, hi, hi2⟩
        · have HI := Lib.hid hi
          have HM := Lib.hid (chgL_miss dir mask (bl t) [] mm (ib_miss hi))
          clear hi
          rcases hc : clauseM (bl t) mm dir mask with _ | m'
          · have HC := Lib.hid hc
            clear hc
            go_wp2_with (first | (go_at_call 26; refine (cut26_miss _ _ HI.out).mono ?_; rintro e w' ⟨rfl, rfl⟩) | (go_at_call 27; refine (clause27_none HC.out _ ht).mono ?_; rintro e w' ⟨rfl, rfl⟩))
            go_ret2
            rw [← H1.out, HM.out, List.nil_append, HC.out]
            exact ⟨rfl, n, rfl⟩
          · have HC := Lib.hid hc
            clear hc
            go_wp2_with (first | (go_at_call 26; refine (cut26_miss _ _ HI.out).mono ?_; rintro e w' ⟨rfl, rfl⟩) | (go_at_call 27; refine (clause27_some HC.out _ ht).mono ?_; rintro e w' ⟨rfl, rfl⟩))
            go_roundw
            case rel => exact ⟨_, m', false, n, rfl, rfl, rfl, rfl, Nat.zero_le _, (fun h => by cases h), fun _ => by rw [← H1.out, HM.out, List.nil_append, HC.out]⟩
            case measure => simp [meas16]
        · have HI := Lib.hid hi
          obtain ⟨_, hp, hl⟩ := ib_hit hi
          have HM := Lib.hid (chgL_hit dir mask ((bl t).drop (i + 1)) ((bl t).take i) [] mm hp)
          have HL := Lib.hid hl
          clear hi hp hl
          have ht1 : (t.extract 0 i).size ≤ maxLen := by rw [ByteArray.size_extract]; omega
          have ht2 : (t.extract (i + 1) t.size).size ≤ maxLen := by rw [ByteArray.size_extract]; omega
          have ht3 : (t.extract (i + 1) t.size).size < t.size := by rw [ByteArray.size_extract]; omega
          rcases hc : clauseM (bl (t.extract 0 i)) mm dir mask with _ | m'
          · have HC := Lib.hid hc
            clear hc
            go_wp2_with (first | (go_at_call 26; refine (cut26_hit _ _ _ HI.out hi2 ht).mono ?_; rintro e w' ⟨rfl, rfl⟩) | (go_at_call 27; refine (clause27_none HC.out _ ht1).mono ?_; rintro e w' ⟨rfl, rfl⟩))
            go_ret2
            rw [← H1.out, HL.out, HM.out, List.nil_append, ← bl_take, HC.out]
            exact ⟨rfl, _, rfl⟩
          · have HC := Lib.hid hc
            clear hc
            go_wp2_with (first | (go_at_call 26; refine (cut26_hit _ _ _ HI.out hi2 ht).mono ?_; rintro e w' ⟨rfl, rfl⟩) | (go_at_call 27; refine (clause27_some HC.out _ ht1).mono ?_; rintro e w' ⟨rfl, rfl⟩))
            go_roundw
            case rel => exact ⟨_, m', true, _, rfl, rfl, rfl, rfl, ht2, (fun _ => by rw [← H1.out, HL.out, HM.out, List.nil_append, ← bl_take, HC.out, ← bl_rest]; rfl), fun h => by cases h⟩
            case measure => simp only [meas16]; omega
  · have hx : decide (48 ≤ bt s 0) = false := by simp; omega
    go_enter Try.func16, Try.ntmps16
    go_wp2
    go_loopw [0, 1, 10] (Rel16 w dir mask r) (fun s _ more _ => meas16 s more)
    case atStart => exact ⟨s, m, true, 0, rfl, rfl, rfl, rfl, hs, fun _ => HR.out, fun h => by cases h⟩
    case round =>
      obtain ⟨t, mm, mo, n, rfl, rfl, rfl, rfl, ht, h1, h2⟩ := hrel
      cases mo
      · have H2 := Lib.hid (h2 rfl)
        clear h1 h2
        go_wp2
        go_ret2
        rw [← H2.out]
        exact ⟨rfl, n, rfl⟩
      · have H1 := Lib.hid (h1 rfl)
        clear h1 h2
        rcases cut_cases t with hi | ⟨i, hi, hi2⟩
        · have HI := Lib.hid hi
          have HM := Lib.hid (chgL_miss dir mask (bl t) [] mm (ib_miss hi))
          clear hi
          rcases hc : clauseM (bl t) mm dir mask with _ | m'
          · have HC := Lib.hid hc
            clear hc
            go_wp2_with (first | (go_at_call 26; refine (cut26_miss _ _ HI.out).mono ?_; rintro e w' ⟨rfl, rfl⟩) | (go_at_call 27; refine (clause27_none HC.out _ ht).mono ?_; rintro e w' ⟨rfl, rfl⟩))
            go_ret2
            rw [← H1.out, HM.out, List.nil_append, HC.out]
            exact ⟨rfl, n, rfl⟩
          · have HC := Lib.hid hc
            clear hc
            go_wp2_with (first | (go_at_call 26; refine (cut26_miss _ _ HI.out).mono ?_; rintro e w' ⟨rfl, rfl⟩) | (go_at_call 27; refine (clause27_some HC.out _ ht).mono ?_; rintro e w' ⟨rfl, rfl⟩))
            go_roundw
            case rel => exact ⟨_, m', false, n, rfl, rfl, rfl, rfl, Nat.zero_le _, (fun h => by cases h), fun _ => by rw [← H1.out, HM.out, List.nil_append, HC.out]⟩
            case measure => simp [meas16]
        · have HI := Lib.hid hi
          obtain ⟨_, hp, hl⟩ := ib_hit hi
          have HM := Lib.hid (chgL_hit dir mask ((bl t).drop (i + 1)) ((bl t).take i) [] mm hp)
          have HL := Lib.hid hl
          clear hi hp hl
          have ht1 : (t.extract 0 i).size ≤ maxLen := by rw [ByteArray.size_extract]; omega
          have ht2 : (t.extract (i + 1) t.size).size ≤ maxLen := by rw [ByteArray.size_extract]; omega
          have ht3 : (t.extract (i + 1) t.size).size < t.size := by rw [ByteArray.size_extract]; omega
          rcases hc : clauseM (bl (t.extract 0 i)) mm dir mask with _ | m'
          · have HC := Lib.hid hc
            clear hc
            go_wp2_with (first | (go_at_call 26; refine (cut26_hit _ _ _ HI.out hi2 ht).mono ?_; rintro e w' ⟨rfl, rfl⟩) | (go_at_call 27; refine (clause27_none HC.out _ ht1).mono ?_; rintro e w' ⟨rfl, rfl⟩))
            go_ret2
            rw [← H1.out, HL.out, HM.out, List.nil_append, ← bl_take, HC.out]
            exact ⟨rfl, _, rfl⟩
          · have HC := Lib.hid hc
            clear hc
            go_wp2_with (first | (go_at_call 26; refine (cut26_hit _ _ _ HI.out hi2 ht).mono ?_; rintro e w' ⟨rfl, rfl⟩) | (go_at_call 27; refine (clause27_some HC.out _ ht1).mono ?_; rintro e w' ⟨rfl, rfl⟩))
            go_roundw
            case rel => exact ⟨_, m', true, _, rfl, rfl, rfl, rfl, ht2, (fun _ => by rw [← H1.out, HL.out, HM.out, List.nil_append, ← bl_take, HC.out, ← bl_rest]; rfl), fun h => by cases h⟩
            case measure => simp only [meas16]; omega
  · have hx : decide (48 ≤ bt s 0) = true := by simp; omega
    have hy : decide (bt s 0 ≤ 57) = false := by simp; omega
    go_enter Try.func16, Try.ntmps16
    go_wp2
    go_loopw [0, 1, 10] (Rel16 w dir mask r) (fun s _ more _ => meas16 s more)
    case atStart => exact ⟨s, m, true, 0, rfl, rfl, rfl, rfl, hs, fun _ => HR.out, fun h => by cases h⟩
    case round =>
      obtain ⟨t, mm, mo, n, rfl, rfl, rfl, rfl, ht, h1, h2⟩ := hrel
      cases mo
      · have H2 := Lib.hid (h2 rfl)
        clear h1 h2
        go_wp2
        go_ret2
        rw [← H2.out]
        exact ⟨rfl, n, rfl⟩
      · have H1 := Lib.hid (h1 rfl)
        clear h1 h2
        rcases cut_cases t with hi | ⟨i, hi, hi2⟩
        · have HI := Lib.hid hi
          have HM := Lib.hid (chgL_miss dir mask (bl t) [] mm (ib_miss hi))
          clear hi
          rcases hc : clauseM (bl t) mm dir mask with _ | m'
          · have HC := Lib.hid hc
            clear hc
            go_wp2_with (first | (go_at_call 26; refine (cut26_miss _ _ HI.out).mono ?_; rintro e w' ⟨rfl, rfl⟩) | (go_at_call 27; refine (clause27_none HC.out _ ht).mono ?_; rintro e w' ⟨rfl, rfl⟩))
            go_ret2
            rw [← H1.out, HM.out, List.nil_append, HC.out]
            exact ⟨rfl, n, rfl⟩
          · have HC := Lib.hid hc
            clear hc
            go_wp2_with (first | (go_at_call 26; refine (cut26_miss _ _ HI.out).mono ?_; rintro e w' ⟨rfl, rfl⟩) | (go_at_call 27; refine (clause27_some HC.out _ ht).mono ?_; rintro e w' ⟨rfl, rfl⟩))
            go_roundw
            case rel => exact ⟨_, m', false, n, rfl, rfl, rfl, rfl, Nat.zero_le _, (fun h => by cases h), fun _ => by rw [← H1.out, HM.out, List.nil_append, HC.out]⟩
            case measure => simp [meas16]
        · have HI := Lib.hid hi
          obtain ⟨_, hp, hl⟩ := ib_hit hi
          have HM := Lib.hid (chgL_hit dir mask ((bl t).drop (i + 1)) ((bl t).take i) [] mm hp)
          have HL := Lib.hid hl
          clear hi hp hl
          have ht1 : (t.extract 0 i).size ≤ maxLen := by rw [ByteArray.size_extract]; omega
          have ht2 : (t.extract (i + 1) t.size).size ≤ maxLen := by rw [ByteArray.size_extract]; omega
          have ht3 : (t.extract (i + 1) t.size).size < t.size := by rw [ByteArray.size_extract]; omega
          rcases hc : clauseM (bl (t.extract 0 i)) mm dir mask with _ | m'
          · have HC := Lib.hid hc
            clear hc
            go_wp2_with (first | (go_at_call 26; refine (cut26_hit _ _ _ HI.out hi2 ht).mono ?_; rintro e w' ⟨rfl, rfl⟩) | (go_at_call 27; refine (clause27_none HC.out _ ht1).mono ?_; rintro e w' ⟨rfl, rfl⟩))
            go_ret2
            rw [← H1.out, HL.out, HM.out, List.nil_append, ← bl_take, HC.out]
            exact ⟨rfl, _, rfl⟩
          · have HC := Lib.hid hc
            clear hc
            go_wp2_with (first | (go_at_call 26; refine (cut26_hit _ _ _ HI.out hi2 ht).mono ?_; rintro e w' ⟨rfl, rfl⟩) | (go_at_call 27; refine (clause27_some HC.out _ ht1).mono ?_; rintro e w' ⟨rfl, rfl⟩))
            go_roundw
            case rel => exact ⟨_, m', true, _, rfl, rfl, rfl, rfl, ht2, (fun _ => by rw [← H1.out, HL.out, HM.out, List.nil_append, ← bl_take, HC.out, ← bl_rest]; rfl), fun h => by cases h⟩
            case measure => simp only [meas16]; omega

set_option maxHeartbeats 1000000 in
set_option maxRecDepth 100000 in
theorem change16_dig (s : ByteArray) (m : Int) (dir : Bool) (mask : Int) (w : World) (hs : s.size ≤ maxLen) (he : s.toList.isEmpty = false) (h0 : 0 < s.size) (h1 : 48 ≤ bt s 0) (h2 : bt s 0 ≤ 57) :
    Calls Try.prog 16 #[.string s, .int .i64 m, .bool dir, .int .i64 mask] w fun e w' => e = errR (octM (bl s) 0) ∧ w = w' := by
  have hb := get_bt s
  have hx : decide (48 ≤ bt s 0) = true := by simp; omega
  have hy : decide (bt s 0 ≤ 57) = true := by simp; omega
  go_enter Try.func16, Try.ntmps16
  go_wp2_with (go_at_call 25; refine (oct25 _ _ hs).mono ?_; rintro e w' ⟨rfl, rfl⟩; unfold errR)
  go_ret2
  exact ⟨rfl, rfl⟩

theorem empty_iff (s : ByteArray) : s.toList.isEmpty = true ↔ s.size = 0 := by
  rw [toList_data, List.isEmpty_iff, ← List.length_eq_zero_iff]; exact Iff.rfl
theorem empty_false (s : ByteArray) (h : 0 < s.size) : s.toList.isEmpty = false := by
  cases h2 : s.toList.isEmpty with
  | false => rfl
  | true => have := (empty_iff s).1 h2; omega

theorem change16 (s : ByteArray) (m : Int) (dir : Bool) (mask : Int) (w : World) (hs : s.size ≤ maxLen) :
    Calls Try.prog 16 #[.string s, .int .i64 m, .bool dir, .int .i64 mask] w fun e w' => e = errR (chgM (bl s) m dir mask) ∧ ∃ n, w' = w.drewN n := by
  by_cases h0 : s.size = 0
  · have hn : bl s = [] := bl_drop_end s 0 (by omega)
    refine (change16_form s m dir mask w hs (.inl ((empty_iff s).2 h0))).mono fun e w' ⟨he, hw⟩ => ⟨?_, hw⟩
    rw [he, hn]; rfl
  · have h1 : 0 < s.size := by omega
    have hd := bl_drop s 0 h1
    rw [List.drop_zero] at hd
    by_cases hc : 48 ≤ bt s 0 ∧ bt s 0 ≤ 57
    · refine (change16_dig s m dir mask w hs (empty_false s h1) h1 hc.1 hc.2).mono fun e w' ⟨he, hw⟩ => ⟨?_, 0, hw.symm⟩
      rw [he, hd, chgM, if_pos hc]
    · refine (change16_form s m dir mask w hs (.inr ⟨empty_false s h1, h1, by omega⟩)).mono fun e w' ⟨he, hw⟩ => ⟨?_, hw⟩
      rw [he, hd, chgM, if_neg hc]
end Go.Proofs.Ytdoccakkjgcbjaa
