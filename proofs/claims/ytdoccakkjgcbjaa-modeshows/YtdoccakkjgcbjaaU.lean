/- The contract of the document's own Change: it returns what its plain mirror says. Conditions: modes below 4096, a text of at most 200 bytes. -/
import Derived.Test.YtdoccakkjgcbjaaT
namespace Go.Proofs.Ytdoccakkjgcbjaa
open Go.RowKit Go.PlainAid
set_option linter.unusedSimpArgs false

def formR : Option Nat → Int × Int
  | some m => ((m : Nat), 0)
  | none => (0, 11)
def chgRef (l : List Int) (m : Nat) (dir : Bool) (mask : Nat) : Int × Int :=
  match l with
  | [] => (0, 11)
  | c :: _ => if 48 ≤ c ∧ c ≤ 57 then octM l 0 else formR (chgR dir mask l [] m)

theorem clause28_is {s : ByteArray} {m : Nat} {dir : Bool} {mask m' : Nat} (h : clauseR (bl s) m dir mask = some m') (w : World) (hs : s.size ≤ 200) (hm : m < 4096) (hk : mask < 4096) :
    Calls Try.prog 28 #[.string s, .int .i64 m, .bool dir, .int .i64 mask] w fun e w' => e = .returned (.tuple #[.int .i64 (m' : Nat), .bool true]) ∧ w = w' :=
  (clause28 s m dir mask w hs hm hk).mono fun _ _ ⟨he, hw⟩ => ⟨by rw [he, h]; rfl, hw⟩
theorem clause28_no {s : ByteArray} {m : Nat} {dir : Bool} {mask : Nat} (h : clauseR (bl s) m dir mask = none) (w : World) (hs : s.size ≤ 200) (hm : m < 4096) (hk : mask < 4096) :
    Calls Try.prog 28 #[.string s, .int .i64 m, .bool dir, .int .i64 mask] w fun e w' => e = .returned (.tuple #[.int .i64 0, .bool false]) ∧ w = w' :=
  (clause28 s m dir mask w hs hm hk).mono fun _ _ ⟨he, hw⟩ => ⟨by rw [he, h]; rfl, hw⟩

def Rel17 (s : ByteArray) (dir : Bool) (mask : Nat) (r : Option Nat) (m fr i : Value) : Prop :=
  ∃ (f j mm : Nat), i = .int .i64 j ∧ fr = .int .i64 f ∧ m = .int .i64 mm ∧ mm < 4096 ∧ f ≤ j ∧
    (j ≤ s.size ∧ chgR dir mask ((bl s).drop j) (bl (s.extract f j)) mm = r ∨ j = s.size + 1 ∧ some mm = r)

theorem cur_next (s : ByteArray) (f j : Nat) (hf : f ≤ j) (hj : j < s.size) : bl (s.extract f (j + 1)) = bl (s.extract f j) ++ [bt s j] := by
  rw [bl_extract, bl_extract, show j + 1 - f = (j - f) + 1 by omega]
  have hlen : j - f < ((bl s).drop f).length := by rw [List.length_drop, bl_length]; omega
  rw [List.take_succ_eq_append_getElem hlen]
  congr 2
  rw [List.getElem_drop, ← bl_get s j hj]
  congr 1; omega

set_option maxHeartbeats 4000000 in
set_option maxRecDepth 100000 in
theorem change17_form (s : ByteArray) (m : Nat) (dir : Bool) (mask : Nat) (w : World) (hs : s.size ≤ 200) (hm : m < 4096) (hmask : mask < 4096) (he : s.toList.isEmpty = false) (h0 : 0 < s.size) (hd : bt s 0 < 48 ∨ 57 < bt s 0) :
    Calls Try.prog 17 #[.string s, .int .i64 m, .bool dir, .int .i64 mask] w fun e w' => e = errR (formR (chgR dir mask (bl s) [] m)) ∧ w = w' := by
  obtain ⟨r, hr⟩ : ∃ r, chgR dir mask (bl s) [] m = r := ⟨_, rfl⟩
  rw [hr]
  have H := Lib.hid hr
  clear hr
  have hb := get_bt s
  have b1 := bt_nonneg s 0
  have b2 := bt_le s 0
  rcases hd with hd | hd
  · have hx : decide (48 ≤ bt s 0) = false := by simp; omega
    go_enter Try.func17, Try.ntmps17
    go_wp2
    go_loop [1, 12, 13] (Rel17 s dir mask r) (fun _ _ i => s.size + 1 - (intOf i).toNat)
    case atStart => exact ⟨0, 0, m, rfl, rfl, rfl, hm, Nat.le_refl _, .inl ⟨Nat.zero_le _, by rw [bl_extract]; simpa using H.out⟩⟩
    case round =>
      obtain ⟨f, j, mm, rfl, rfl, rfl, hmm, hf, hst⟩ := hrel
      rcases hst with ⟨hj, hr⟩ | ⟨hj, hr⟩
      · have c1 : (0 : Int) ≤ ↑f := by omega
        have c2 : (↑f : Int) ≤ ↑j := by omega
        have c3 : (↑j : Int) ≤ ↑s.size := by omega
        have hsz : (s.extract f j).size ≤ 200 := by rw [ByteArray.size_extract]; omega
        by_cases hlt : j < s.size
        · rw [bl_drop s j hlt, chgR] at hr
          cases hc : bt s j == 44
          · rw [hc, if_neg (by simp), ← cur_next s f j hf hlt] at hr
            have HR := Lib.hid hr
            have hc2 : (bt s j != 44) = true := by rw [bne, hc]; rfl
            clear hr hc
            go_wp2
            go_round
            case rel => exact ⟨f, j + 1, mm, by go_num, rfl, rfl, hmm, by omega, .inl ⟨hlt, HR.out⟩⟩
            case measure => simp [intOf]; omega
          · rw [hc, if_pos rfl] at hr
            have hc2 : (bt s j != 44) = false := by rw [bne, hc]; rfl
            clear hc
            rcases hq : clauseR (bl (s.extract f j)) mm dir mask with _ | m'
            · rw [hq] at hr
              have HR := Lib.hid hr
              have HQ := Lib.hid hq
              clear hr hq
              go_wp2_with (go_at_call 28; refine (clause28_no HQ.out _ hsz hmm hmask).mono ?_; rintro e w' ⟨rfl, rfl⟩)
              go_ret2
              rw [← HR.out]
              exact ⟨rfl, rfl⟩
            · have hm' := clauseR_lt hmm hq
              rw [hq] at hr
              simp only [Option.bind_some] at hr
              have HR := Lib.hid hr
              have HQ := Lib.hid hq
              clear hr hq
              go_wp2_with (go_at_call 28; refine (clause28_is HQ.out _ hsz hmm hmask).mono ?_; rintro e w' ⟨rfl, rfl⟩)
              go_round
              case rel => exact ⟨j + 1, j + 1, m', by go_num, by go_num, rfl, hm', Nat.le_refl _, .inl ⟨hlt, by rw [← HR.out, bl_extract]; simp⟩⟩
              case measure => simp [intOf]; omega
        · have hj2 : j = s.size := by omega
          subst hj2
          rw [bl_drop_end s _ (Nat.le_refl _), chgR] at hr
          rcases hq : clauseR (bl (s.extract f s.size)) mm dir mask with _ | m'
          · rw [hq] at hr
            have HR := Lib.hid hr
            have HQ := Lib.hid hq
            clear hr hq
            go_wp2_with (go_at_call 28; refine (clause28_no HQ.out _ hsz hmm hmask).mono ?_; rintro e w' ⟨rfl, rfl⟩)
            go_ret2
            rw [← HR.out]
            exact ⟨rfl, rfl⟩
          · have hm' := clauseR_lt hmm hq
            rw [hq] at hr
            have HR := Lib.hid hr
            have HQ := Lib.hid hq
            clear hr hq
            go_wp2_with (go_at_call 28; refine (clause28_is HQ.out _ hsz hmm hmask).mono ?_; rintro e w' ⟨rfl, rfl⟩)
            go_round
            case rel => exact ⟨s.size + 1, s.size + 1, m', by go_num, by go_num, rfl, hm', Nat.le_refl _, .inr ⟨rfl, HR.out⟩⟩
            case measure => simp [intOf]
      · subst hj
        have HR := Lib.hid hr
        clear hr
        go_wp2
        go_ret2
        rw [← HR.out]
        exact ⟨rfl, rfl⟩
  · have hx : decide (48 ≤ bt s 0) = true := by simp; omega
    have hy : decide (bt s 0 ≤ 57) = false := by simp; omega
    go_enter Try.func17, Try.ntmps17
    go_wp2
    go_loop [1, 12, 13] (Rel17 s dir mask r) (fun _ _ i => s.size + 1 - (intOf i).toNat)
    case atStart => exact ⟨0, 0, m, rfl, rfl, rfl, hm, Nat.le_refl _, .inl ⟨Nat.zero_le _, by rw [bl_extract]; simpa using H.out⟩⟩
    case round =>
      obtain ⟨f, j, mm, rfl, rfl, rfl, hmm, hf, hst⟩ := hrel
      rcases hst with ⟨hj, hr⟩ | ⟨hj, hr⟩
      · have c1 : (0 : Int) ≤ ↑f := by omega
        have c2 : (↑f : Int) ≤ ↑j := by omega
        have c3 : (↑j : Int) ≤ ↑s.size := by omega
        have hsz : (s.extract f j).size ≤ 200 := by rw [ByteArray.size_extract]; omega
        by_cases hlt : j < s.size
        · rw [bl_drop s j hlt, chgR] at hr
          cases hc : bt s j == 44
          · rw [hc, if_neg (by simp), ← cur_next s f j hf hlt] at hr
            have HR := Lib.hid hr
            have hc2 : (bt s j != 44) = true := by rw [bne, hc]; rfl
            clear hr hc
            go_wp2
            go_round
            case rel => exact ⟨f, j + 1, mm, by go_num, rfl, rfl, hmm, by omega, .inl ⟨hlt, HR.out⟩⟩
            case measure => simp [intOf]; omega
          · rw [hc, if_pos rfl] at hr
            have hc2 : (bt s j != 44) = false := by rw [bne, hc]; rfl
            clear hc
            rcases hq : clauseR (bl (s.extract f j)) mm dir mask with _ | m'
            · rw [hq] at hr
              have HR := Lib.hid hr
              have HQ := Lib.hid hq
              clear hr hq
              go_wp2_with (go_at_call 28; refine (clause28_no HQ.out _ hsz hmm hmask).mono ?_; rintro e w' ⟨rfl, rfl⟩)
              go_ret2
              rw [← HR.out]
              exact ⟨rfl, rfl⟩
            · have hm' := clauseR_lt hmm hq
              rw [hq] at hr
              simp only [Option.bind_some] at hr
              have HR := Lib.hid hr
              have HQ := Lib.hid hq
              clear hr hq
              go_wp2_with (go_at_call 28; refine (clause28_is HQ.out _ hsz hmm hmask).mono ?_; rintro e w' ⟨rfl, rfl⟩)
              go_round
              case rel => exact ⟨j + 1, j + 1, m', by go_num, by go_num, rfl, hm', Nat.le_refl _, .inl ⟨hlt, by rw [← HR.out, bl_extract]; simp⟩⟩
              case measure => simp [intOf]; omega
        · have hj2 : j = s.size := by omega
          subst hj2
          rw [bl_drop_end s _ (Nat.le_refl _), chgR] at hr
          rcases hq : clauseR (bl (s.extract f s.size)) mm dir mask with _ | m'
          · rw [hq] at hr
            have HR := Lib.hid hr
            have HQ := Lib.hid hq
            clear hr hq
            go_wp2_with (go_at_call 28; refine (clause28_no HQ.out _ hsz hmm hmask).mono ?_; rintro e w' ⟨rfl, rfl⟩)
            go_ret2
            rw [← HR.out]
            exact ⟨rfl, rfl⟩
          · have hm' := clauseR_lt hmm hq
            rw [hq] at hr
            have HR := Lib.hid hr
            have HQ := Lib.hid hq
            clear hr hq
            go_wp2_with (go_at_call 28; refine (clause28_is HQ.out _ hsz hmm hmask).mono ?_; rintro e w' ⟨rfl, rfl⟩)
            go_round
            case rel => exact ⟨s.size + 1, s.size + 1, m', by go_num, by go_num, rfl, hm', Nat.le_refl _, .inr ⟨rfl, HR.out⟩⟩
            case measure => simp [intOf]
      · subst hj
        have HR := Lib.hid hr
        clear hr
        go_wp2
        go_ret2
        rw [← HR.out]
        exact ⟨rfl, rfl⟩

def Rel17d (s : ByteArray) (m i : Value) : Prop := ∃ (k : Nat) (mm : Int), k ≤ s.size ∧ i = .int .i64 k ∧ m = .int .i64 mm ∧ 0 ≤ mm ∧ mm ≤ 4095 ∧ octM ((bl s).drop k) mm = octM (bl s) 0

set_option maxHeartbeats 4000000 in
set_option maxRecDepth 100000 in
theorem change17_dig (s : ByteArray) (m : Nat) (dir : Bool) (mask : Nat) (w : World) (hs : s.size ≤ 200) (he : s.toList.isEmpty = false) (h0 : 0 < s.size) (h1 : 48 ≤ bt s 0) (h2 : bt s 0 ≤ 57) :
    Calls Try.prog 17 #[.string s, .int .i64 m, .bool dir, .int .i64 mask] w fun e w' => e = errR (octM (bl s) 0) ∧ w = w' := by
  have hb := get_bt s
  have hx : decide (48 ≤ bt s 0) = true := by simp; omega
  have hy : decide (bt s 0 ≤ 57) = true := by simp; omega
  go_enter Try.func17, Try.ntmps17
  go_wp2
  go_loop [10, 11] (Rel17d s) (fun _ i => s.size - (intOf i).toNat)
  case atStart => exact ⟨0, 0, Nat.zero_le _, rfl, rfl, by omega, by omega, rfl⟩
  case round =>
    obtain ⟨k, mm, hk, rfl, rfl, hm1, hm2, hr⟩ := hrel
    have HR := Lib.hid hr
    clear hr
    by_cases hlt : k < s.size
    · have HD := Lib.hid (bl_drop s k hlt)
      have b1 := bt_nonneg s k
      have b2 := bt_le s k
      by_cases hc1 : bt s k < 48
      · go_wp2
        go_ret2
        rw [← HR.out, HD.out, octM_bad (.inl hc1)]
        exact ⟨rfl, rfl⟩
      · by_cases hc2 : 55 < bt s k
        · go_wp2
          go_ret2
          rw [← HR.out, HD.out, octM_bad (.inr hc2)]
          exact ⟨rfl, rfl⟩
        · by_cases hg : 4095 < 8 * mm + (bt s k - 48)
          · go_wp2
            go_ret2
            rw [← HR.out, HD.out, octM_high (by omega) (by omega)]
            exact ⟨rfl, rfl⟩
          · go_wp2
            go_round
            case rel => exact ⟨k + 1, _, hlt, by go_num, rfl, by omega, by omega, by rw [← HR.out, HD.out, octM_next (by omega) (by omega), Int.mul_comm]⟩
            case measure => simp [intOf]; omega
    · have hk2 : k = s.size := by omega
      subst hk2
      go_wp2
      go_ret2
      rw [← HR.out, bl_drop_end s s.size (Nat.le_refl _)]
      exact ⟨rfl, rfl⟩

theorem change17_empty (s : ByteArray) (m : Nat) (dir : Bool) (mask : Nat) (w : World) (he : s.toList.isEmpty = true) :
    Calls Try.prog 17 #[.string s, .int .i64 m, .bool dir, .int .i64 mask] w fun e w' => e = errR (0, 11) ∧ w = w' := by
  go_enter Try.func17, Try.ntmps17
  go_wp2
  go_ret2
  exact ⟨rfl, rfl⟩

theorem change17 (s : ByteArray) (m : Nat) (dir : Bool) (mask : Nat) (w : World) (hs : s.size ≤ 200) (hm : m < 4096) (hmask : mask < 4096) :
    Calls Try.prog 17 #[.string s, .int .i64 m, .bool dir, .int .i64 mask] w fun e w' => e = errR (chgRef (bl s) m dir mask) ∧ w = w' := by
  by_cases h0 : s.size = 0
  · rw [show bl s = [] from bl_drop_end s 0 (by omega)]
    exact change17_empty s m dir mask w ((empty_iff s).2 h0)
  · have h1 : 0 < s.size := by omega
    have hd := bl_drop s 0 h1
    rw [List.drop_zero] at hd
    by_cases hc : 48 ≤ bt s 0 ∧ bt s 0 ≤ 57
    · refine (change17_dig s m dir mask w hs (empty_false s h1) h1 hc.1 hc.2).mono fun e w' ⟨he, hw⟩ => ⟨?_, hw⟩
      rw [he, hd, chgRef, if_pos hc]
    · refine (change17_form s m dir mask w hs hm hmask (empty_false s h1) h1 (by omega)).mono fun e w' ⟨he, hw⟩ => ⟨?_, hw⟩
      rw [he, hd, chgRef, if_neg hc]
end Go.Proofs.Ytdoccakkjgcbjaa
