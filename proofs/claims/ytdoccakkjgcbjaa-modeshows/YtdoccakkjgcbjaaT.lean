/- The contract of the document's own clause: it returns what its plain mirror says. Conditions: modes below 4096, a text of at most 200 bytes. -/
import Derived.Test.YtdoccakkjgcbjaaS
import Derived.Test.YtdoccakkjgcbjaaK
namespace Go.Proofs.Ytdoccakkjgcbjaa
open Go.RowKit Go.PlainAid
set_option linter.unusedSimpArgs false

theorem act35 (m : Nat) (sign : Int) (ls who : ByteArray) (dir : Bool) (mask : Nat) (named : Bool) (w : World) (hs : Sign sign) (hm : m < 4096) (hk : mask < 4096) (hl : ls.size ≤ maxLen) (hw : who.size ≤ maxLen) :
    Calls Try.prog 35 #[.int .i64 m, .int .u8 sign, .string ls, .string who, .bool dir, .int .i64 mask, .bool named] w fun e w' => e = .returned (.int .i64 (actRef m sign (bl ls) (bl who) dir mask named : Nat)) ∧ w = w' := by
  unfold actRef
  cases dir
  · cases h0 : m.testBit 0
    · cases h3 : m.testBit 3
      · rw [show anyR m false = m.testBit 6 by simp [anyR, h0, h3]]
        rcases hs with rfl | rfl | rfl
        · exact act35_c43 m ls who mask named _ w hm hk hl hw h0 h3 rfl
        · exact act35_c45 m ls who mask named _ w hm hk hl hw h0 h3 rfl
        · exact act35_c61 m ls who mask named _ w hm hk hl hw h0 h3 rfl
      · rw [show anyR m false = true by simp [anyR, h3]]
        rcases hs with rfl | rfl | rfl
        · exact act35_b43 m ls who mask named w hm hk hl hw h0 h3
        · exact act35_b45 m ls who mask named w hm hk hl hw h0 h3
        · exact act35_b61 m ls who mask named w hm hk hl hw h0 h3
    · rw [show anyR m false = true by simp [anyR, h0]]
      rcases hs with rfl | rfl | rfl
      · exact act35_a43 m ls who mask named w hm hk hl hw h0
      · exact act35_a45 m ls who mask named w hm hk hl hw h0
      · exact act35_a61 m ls who mask named w hm hk hl hw h0
  · rw [show anyR m true = true by simp [anyR]]
    rcases hs with rfl | rfl | rfl
    · exact act35_d43 m ls who mask named w hm hk hl hw
    · exact act35_d45 m ls who mask named w hm hk hl hw
    · exact act35_d61 m ls who mask named w hm hk hl hw

theorem isS_sign {c : Int} (h : isS c = true) : Sign c := by
  unfold isS inM at h
  simp only [List.any_cons, List.any_nil, Bool.or_false, Bool.or_eq_true, beq_iff_eq] at h
  unfold Sign; omega

theorem inU (c : Int) (w : World) : Calls Try.prog 34 #[.string ⟨#[117, 103, 111, 97]⟩, .int .u8 c] w fun e w' => e = .returned (.bool (isU c)) ∧ w = w' := in34 _ c w (by decide)
theorem inL (c : Int) (w : World) : Calls Try.prog 34 #[.string ⟨#[114, 119, 120, 88, 115, 116]⟩, .int .u8 c] w fun e w' => e = .returned (.bool (isL c)) ∧ w = w' := in34 _ c w (by decide)
theorem inS (c : Int) (w : World) : Calls Try.prog 34 #[.string ⟨#[43, 45, 61]⟩, .int .u8 c] w fun e w' => e = .returned (.bool (isS c)) ∧ w = w' := in34 _ c w (by decide)

/-- The loop that reads who. -/
def Rel28a (s : ByteArray) (r : List Int × List Int) (who i : Value) : Prop :=
  ∃ (t : ByteArray) (k : Nat), k ≤ s.size ∧ i = .int .i64 k ∧ who = .string t ∧ t.size ≤ 4 * k ∧ rwhoL ((bl s).drop k) (bl t) = r
/-- The loop over the actions. -/
def Rel28b (s : ByteArray) (who : List Int) (named dir : Bool) (mask : Nat) (r : Option Nat) (m i : Value) : Prop :=
  ∃ (j mm : Nat), j ≤ s.size ∧ i = .int .i64 j ∧ m = .int .i64 mm ∧ mm < 4096 ∧ cgoR who named dir mask s.size ((bl s).drop j) mm = r
/-- The loop over letters. -/
def Rel28c (s : ByteArray) (j : Nat) (i : Value) : Prop :=
  ∃ k : Nat, j ≤ k ∧ k ≤ s.size ∧ i = .int .i64 k ∧ ((bl s).drop j).takeWhile isL = ((bl s).drop j).take (k - j) ++ ((bl s).drop k).takeWhile isL ∧ ((bl s).drop j).dropWhile isL = ((bl s).drop k).dropWhile isL

theorem rwhoL_next {s : ByteArray} {k : Nat} {acc : List Int} {r : List Int × List Int} (hk : k < s.size) (h : rwhoL ((bl s).drop k) acc = r) (hu : isU (bt s k) = true) :
    rwhoL ((bl s).drop (k + 1)) (if bt s k = 97 then acc ++ [bt s k] ++ [117, 103, 111] else acc ++ [bt s k]) = r := by
  rw [bl_drop s k hk, rwhoL, if_pos hu] at h
  rw [← h]
  by_cases e : bt s k = 97
  · rw [if_pos e, if_pos e]
  · rw [if_neg e, if_neg e]
theorem rwhoL_stop {s : ByteArray} {k : Nat} {acc : List Int} {r : List Int × List Int} (hk : k < s.size) (h : rwhoL ((bl s).drop k) acc = r) (hu : isU (bt s k) = false) : r = (acc, (bl s).drop k) := by
  rw [← h, bl_drop s k hk, rwhoL, if_neg (by rw [hu]; simp)]
theorem rwhoL_end {s : ByteArray} {acc : List Int} {r : List Int × List Int} (h : rwhoL ((bl s).drop s.size) acc = r) : r = (acc, []) := by
  rw [← h, bl_drop_end s _ (Nat.le_refl _), rwhoL]
theorem letters_next {s : ByteArray} {j k : Nat} (hj : j ≤ k) (hk : k < s.size) (hl : isL (bt s k) = true) (h1 : ((bl s).drop j).takeWhile isL = ((bl s).drop j).take (k - j) ++ ((bl s).drop k).takeWhile isL) (h2 : ((bl s).drop j).dropWhile isL = ((bl s).drop k).dropWhile isL) :
    ((bl s).drop j).takeWhile isL = ((bl s).drop j).take (k + 1 - j) ++ ((bl s).drop (k + 1)).takeWhile isL ∧ ((bl s).drop j).dropWhile isL = ((bl s).drop (k + 1)).dropWhile isL := by
  constructor
  · rw [h1, bl_drop s k hk, List.takeWhile_cons_of_pos hl, show k + 1 - j = (k - j) + 1 by omega]
    have hlen : k - j < ((bl s).drop j).length := by rw [List.length_drop, bl_length]; omega
    rw [List.take_succ_eq_append_getElem hlen, List.append_assoc]
    congr 1
    rw [List.getElem_drop]
    have : (bl s)[j + (k - j)]'(by rw [bl_length]; omega) = bt s k := by
      rw [← bl_get s k hk]; congr 1; omega
    rw [this]; rfl
  · rw [h2, bl_drop s k hk, List.dropWhile_cons_of_pos hl]
theorem letters_stop {s : ByteArray} {j k : Nat} (hk : k = s.size ∨ k < s.size ∧ isL (bt s k) = false) (h1 : ((bl s).drop j).takeWhile isL = ((bl s).drop j).take (k - j) ++ ((bl s).drop k).takeWhile isL) (h2 : ((bl s).drop j).dropWhile isL = ((bl s).drop k).dropWhile isL) :
    bl (s.extract j k) = ((bl s).drop j).takeWhile isL ∧ ((bl s).drop j).dropWhile isL = (bl s).drop k := by
  rcases hk with rfl | ⟨hk, hl⟩
  · rw [bl_drop_end s _ (Nat.le_refl _)] at h1 h2 ⊢
    rw [h1, h2, bl_extract]
    simp
  · rw [h1, h2, bl_extract, bl_drop s k hk, List.takeWhile_cons_of_neg (by rw [hl]; simp), List.dropWhile_cons_of_neg (by rw [hl]; simp), List.append_nil]
    exact ⟨rfl, rfl⟩

def natR : Option Nat → Ending
  | some m => .returned (.tuple #[.int .i64 (m : Nat), .bool true])
  | none => .returned (.tuple #[.int .i64 0, .bool false])

theorem clauseR_is {s : ByteArray} {m mask : Nat} {dir : Bool} {wl rest : List Int} (h : rwhoL (bl s) [] = (wl, rest)) :
    clauseR (bl s) m dir mask = if rest = [] then none else if wl = [] then cgoR [117, 103, 111] false dir mask s.size rest m else cgoR wl true dir mask s.size rest m := by
  unfold clauseR; rw [h, bl_length]

set_option maxHeartbeats 4000000 in
set_option maxRecDepth 100000 in
/-- Nothing stands behind who. -/
theorem clause28_none (s : ByteArray) (m : Nat) (dir : Bool) (mask : Nat) (w : World) (hs : s.size ≤ 200) (wl : List Int) (h : rwhoL (bl s) [] = (wl, [])) :
    Calls Try.prog 28 #[.string s, .int .i64 m, .bool dir, .int .i64 mask] w fun e w' => e = .returned (.tuple #[.int .i64 0, .bool false]) ∧ w = w' := by
  have hb := get_bt s
  have H := Lib.hid h
  clear h
  go_enter Try.func28, Try.ntmps28
  go_wp2
  go_loop [10, 11] (Rel28a s (wl, [])) (fun _ i => s.size - (intOf i).toNat)
  case atStart => exact ⟨_, 0, Nat.zero_le _, rfl, rfl, Nat.zero_le _, H.out⟩
  case round =>
    obtain ⟨t, k, hk, rfl, rfl, ht, hr⟩ := hrel
    have HR := Lib.hid hr
    clear hr
    by_cases hlt : k < s.size
    · cases hu : isU (bt s k)
      · exfalso
        have := rwhoL_stop hlt HR.out hu
        rw [bl_drop s k hlt] at this
        cases this
      · have c1 : (0 : Int) ≤ ↑k := by omega
        have c2 : (↑k + 1 : Int) ≤ ↑s.size := by omega
        have HN := Lib.hid (rwhoL_next hlt HR.out hu)
        have HU : Hid (isU (bt s k) = true) := hu
        clear hu
        have hx1 : (s.extract k (k + 1)).size = 1 := by rw [ByteArray.size_extract]; omega
        have hx2 : (⟨#[117, 103, 111]⟩ : ByteArray).size = 3 := rfl
        have hx3 : (t ++ s.extract k (k + 1)).size = t.size + 1 := by rw [ByteArray.size_append, hx1]
        have HX : Hid (bl (s.extract k (k + 1)) = [bt s k]) := by rw [bl_extract, bl_drop s k hlt, show k + 1 - k = 1 by omega]; rfl
        go_wp2_with (go_at_call 34; refine (inU _ _).mono ?_; rintro e w' ⟨rfl, rfl⟩; rw [HU.out])
        · go_round
          case rel => exact ⟨_, k + 1, hlt, by go_num, rfl, by rw [ByteArray.size_append, hx3, hx2]; omega, by
            have e := HN.out
            rw [if_pos (by simpa using ‹(bt s k == 97) = true›), ← HX.out, ← bl_append] at e
            rw [bl_append]; exact e⟩
          case measure => simp [intOf]; omega
        · go_round
          case rel => exact ⟨_, k + 1, hlt, by go_num, rfl, by rw [hx3]; omega, by
            have e := HN.out
            rw [if_neg (by simpa using ‹(bt s k == 97) = false›), ← HX.out, ← bl_append] at e
            exact e⟩
          case measure => simp [intOf]; omega
    · have hk2 : k = s.size := by omega
      subst hk2
      go_wp2
      all_goals
        go_ret2
        exact ⟨rfl, rfl⟩

set_option maxHeartbeats 8000000 in
set_option maxRecDepth 100000 in
theorem clause28_some (s : ByteArray) (m : Nat) (dir : Bool) (mask : Nat) (w : World) (hs : s.size ≤ 200) (hm : m < 4096) (hmask : mask < 4096) (wl rest : List Int) (h : rwhoL (bl s) [] = (wl, rest)) (hrest : rest ≠ []) (r : Option Nat)
    (hc : (if wl = [] then cgoR [117, 103, 111] false dir mask s.size rest m else cgoR wl true dir mask s.size rest m) = r) :
    Calls Try.prog 28 #[.string s, .int .i64 m, .bool dir, .int .i64 mask] w fun e w' => e = natR r ∧ w = w' := by
  have hb := get_bt s
  have H := Lib.hid h
  have HC0 := Lib.hid hc
  have HRE := Lib.hid hrest
  clear h hc hrest
  go_enter Try.func28, Try.ntmps28
  go_wp2
  go_loop [10, 11] (Rel28a s (wl, rest)) (fun _ i => s.size - (intOf i).toNat)
  case atStart => exact ⟨_, 0, Nat.zero_le _, rfl, rfl, Nat.zero_le _, H.out⟩
  case round =>
    obtain ⟨t, k, hk, rfl, rfl, ht, hr⟩ := hrel
    have HR := Lib.hid hr
    clear hr
    by_cases hlt : k < s.size
    · cases hu : isU (bt s k)
      · have hst := rwhoL_stop hlt HR.out hu
        simp only [Prod.mk.injEq] at hst
        obtain ⟨hw1, hw2⟩ := hst
        have HU : Hid (isU (bt s k) = false) := hu
        have hks : ((k : Int) == (s.size : Int)) = false := beq_eq_false_iff_ne.2 (by omega)
        clear hu
        by_cases ht0 : t.size = 0
        · have HC : Hid (cgoR [117, 103, 111] false dir mask s.size ((bl s).drop k) m = r) := by
            have e := HC0.out
            rw [if_pos (by rw [hw1]; exact bl_drop_end t 0 (by omega)), hw2] at e; exact e
          have hWB : Hid (bl ⟨#[117, 103, 111]⟩ = [117, 103, 111]) := rfl
          have hWHO : (⟨#[117, 103, 111]⟩ : ByteArray).size ≤ maxLen := by decide
          have he := (empty_iff t).2 ht0
          clear hw1 hw2 ht0
          go_wp2_with (go_at_call 34; refine (inU _ _).mono ?_; rintro e w' ⟨rfl, rfl⟩; rw [HU.out])
          go_loop [1, 11] (Rel28b s [117, 103, 111] false dir mask r) (fun _ i => s.size - (intOf i).toNat)
          case atStart => exact ⟨k, m, hk, rfl, rfl, hm, HC.out⟩
          case round =>
            obtain ⟨j, mm, hj, rfl, rfl, hmm, hr⟩ := hrel
            by_cases hlt2 : j < s.size
            · rw [bl_drop s j hlt2, cgoR_step _ _ _ _ _ _ _ _ (by rw [List.length_cons, List.length_drop, bl_length]; omega)] at hr
              cases hsg : isS (bt s j)
              · rw [hsg, if_neg (by simp)] at hr
                have HR2 := Lib.hid hr
                have HSG : Hid (isS (bt s j) = false) := hsg
                clear hr hsg
                go_wp2_with (go_at_call 34; refine (inS _ _).mono ?_; rintro e w' ⟨rfl, rfl⟩; rw [HSG.out])
                go_ret2
                rw [← HR2.out]
                exact ⟨rfl, rfl⟩
              · rw [hsg, if_pos rfl] at hr
                have HR2 := Lib.hid hr
                have HSG : Hid (isS (bt s j) = true) := hsg
                clear hr hsg
                go_wp2_with (go_at_call 34; refine (inS _ _).mono ?_; rintro e w' ⟨rfl, rfl⟩; rw [HSG.out])
                go_loop [11] (Rel28c s (j + 1)) (fun i => s.size - (intOf i).toNat)
                case atStart => exact ⟨j + 1, Nat.le_refl _, hlt2, by go_num, by simp, rfl⟩
                case round =>
                  obtain ⟨i, hji, hi, rfl, ht1, ht2⟩ := hrel
                  have T1 := Lib.hid ht1
                  have T2 := Lib.hid ht2
                  clear ht1 ht2
                  have c5 : (0 : Int) ≤ ↑j + 1 := by omega
                  have c6 : (↑j + 1 : Int) ≤ ↑i := by omega
                  have c7 : (↑i : Int) ≤ ↑s.size := by omega
                  have hxe : (s.extract (j + 1) i).size ≤ maxLen := by rw [ByteArray.size_extract]; unfold maxLen; omega
                  by_cases hlt3 : i < s.size
                  · cases hil : isL (bt s i)
                    · obtain ⟨e1, e2⟩ := letters_stop (.inr ⟨hlt3, hil⟩) T1.out T2.out
                      have E1 := Lib.hid e1
                      have E2 := Lib.hid e2
                      have HIL : Hid (isL (bt s i) = false) := hil
                      clear hil e1 e2
                      go_wp2_with (first | (go_at_call 34; refine (inL _ _).mono ?_; rintro e w' ⟨rfl, rfl⟩; rw [HIL.out]) | (go_at_call 35; refine (act35 _ _ _ _ _ _ _ _ (isS_sign HSG.out) hmm hmask hxe hWHO).mono ?_; rintro e w' ⟨rfl, rfl⟩))
                      go_round
                      case rel => exact ⟨i, _, hi, rfl, rfl, actRef_lt _ _ _ _ _ _ _ hmm, by rw [← HR2.out, E2.out, E1.out, hWB.out]⟩
                      case measure => simp [intOf]; omega
                    · obtain ⟨e1, e2⟩ := letters_next hji hlt3 hil T1.out T2.out
                      have E1 := Lib.hid e1
                      have E2 := Lib.hid e2
                      have HIL : Hid (isL (bt s i) = true) := hil
                      clear hil e1 e2
                      go_wp2_with (go_at_call 34; refine (inL _ _).mono ?_; rintro e w' ⟨rfl, rfl⟩; rw [HIL.out])
                      go_round
                      case rel => exact ⟨i + 1, by omega, hlt3, by go_num, E1.out, E2.out⟩
                      case measure => simp [intOf]; omega
                  · have hi2 : i = s.size := by omega
                    obtain ⟨e1, e2⟩ := letters_stop (.inl hi2) T1.out T2.out
                    have E1 := Lib.hid e1
                    have E2 := Lib.hid e2
                    clear e1 e2 hi2
                    go_wp2_with (go_at_call 35; refine (act35 _ _ _ _ _ _ _ _ (isS_sign HSG.out) hmm hmask hxe hWHO).mono ?_; rintro e w' ⟨rfl, rfl⟩)
                    go_round
                    case rel => exact ⟨i, _, hi, rfl, rfl, actRef_lt _ _ _ _ _ _ _ hmm, by rw [← HR2.out, E2.out, E1.out, hWB.out]⟩
                    case measure => simp [intOf]; omega
            · have hj2 : j = s.size := by omega
              subst hj2
              rw [bl_drop_end s s.size (Nat.le_refl _), cgoR_nil] at hr
              have HR2 := Lib.hid hr
              clear hr
              go_wp2
              go_ret2
              rw [← HR2.out]
              exact ⟨rfl, rfl⟩
        · have HC : Hid (cgoR wl true dir mask s.size ((bl s).drop k) m = r) := by
            have e := HC0.out
            rw [if_neg (by rw [hw1]; intro e0; apply ht0; rw [← bl_length t, e0]; rfl), hw2] at e; exact e
          have hWB : Hid (bl t = wl) := hw1.symm
          have hWHO : t.size ≤ maxLen := by unfold maxLen; omega
          have he := empty_false t (by omega)
          clear hw1 hw2 ht0
          go_wp2_with (go_at_call 34; refine (inU _ _).mono ?_; rintro e w' ⟨rfl, rfl⟩; rw [HU.out])
          go_loop [1, 11] (Rel28b s wl true dir mask r) (fun _ i => s.size - (intOf i).toNat)
          case atStart => exact ⟨k, m, hk, rfl, rfl, hm, HC.out⟩
          case round =>
            obtain ⟨j, mm, hj, rfl, rfl, hmm, hr⟩ := hrel
            by_cases hlt2 : j < s.size
            · rw [bl_drop s j hlt2, cgoR_step _ _ _ _ _ _ _ _ (by rw [List.length_cons, List.length_drop, bl_length]; omega)] at hr
              cases hsg : isS (bt s j)
              · rw [hsg, if_neg (by simp)] at hr
                have HR2 := Lib.hid hr
                have HSG : Hid (isS (bt s j) = false) := hsg
                clear hr hsg
                go_wp2_with (go_at_call 34; refine (inS _ _).mono ?_; rintro e w' ⟨rfl, rfl⟩; rw [HSG.out])
                go_ret2
                rw [← HR2.out]
                exact ⟨rfl, rfl⟩
              · rw [hsg, if_pos rfl] at hr
                have HR2 := Lib.hid hr
                have HSG : Hid (isS (bt s j) = true) := hsg
                clear hr hsg
                go_wp2_with (go_at_call 34; refine (inS _ _).mono ?_; rintro e w' ⟨rfl, rfl⟩; rw [HSG.out])
                go_loop [11] (Rel28c s (j + 1)) (fun i => s.size - (intOf i).toNat)
                case atStart => exact ⟨j + 1, Nat.le_refl _, hlt2, by go_num, by simp, rfl⟩
                case round =>
                  obtain ⟨i, hji, hi, rfl, ht1, ht2⟩ := hrel
                  have T1 := Lib.hid ht1
                  have T2 := Lib.hid ht2
                  clear ht1 ht2
                  have c5 : (0 : Int) ≤ ↑j + 1 := by omega
                  have c6 : (↑j + 1 : Int) ≤ ↑i := by omega
                  have c7 : (↑i : Int) ≤ ↑s.size := by omega
                  have hxe : (s.extract (j + 1) i).size ≤ maxLen := by rw [ByteArray.size_extract]; unfold maxLen; omega
                  by_cases hlt3 : i < s.size
                  · cases hil : isL (bt s i)
                    · obtain ⟨e1, e2⟩ := letters_stop (.inr ⟨hlt3, hil⟩) T1.out T2.out
                      have E1 := Lib.hid e1
                      have E2 := Lib.hid e2
                      have HIL : Hid (isL (bt s i) = false) := hil
                      clear hil e1 e2
                      go_wp2_with (first | (go_at_call 34; refine (inL _ _).mono ?_; rintro e w' ⟨rfl, rfl⟩; rw [HIL.out]) | (go_at_call 35; refine (act35 _ _ _ _ _ _ _ _ (isS_sign HSG.out) hmm hmask hxe hWHO).mono ?_; rintro e w' ⟨rfl, rfl⟩))
                      go_round
                      case rel => exact ⟨i, _, hi, rfl, rfl, actRef_lt _ _ _ _ _ _ _ hmm, by rw [← HR2.out, E2.out, E1.out, hWB.out]⟩
                      case measure => simp [intOf]; omega
                    · obtain ⟨e1, e2⟩ := letters_next hji hlt3 hil T1.out T2.out
                      have E1 := Lib.hid e1
                      have E2 := Lib.hid e2
                      have HIL : Hid (isL (bt s i) = true) := hil
                      clear hil e1 e2
                      go_wp2_with (go_at_call 34; refine (inL _ _).mono ?_; rintro e w' ⟨rfl, rfl⟩; rw [HIL.out])
                      go_round
                      case rel => exact ⟨i + 1, by omega, hlt3, by go_num, E1.out, E2.out⟩
                      case measure => simp [intOf]; omega
                  · have hi2 : i = s.size := by omega
                    obtain ⟨e1, e2⟩ := letters_stop (.inl hi2) T1.out T2.out
                    have E1 := Lib.hid e1
                    have E2 := Lib.hid e2
                    clear e1 e2 hi2
                    go_wp2_with (go_at_call 35; refine (act35 _ _ _ _ _ _ _ _ (isS_sign HSG.out) hmm hmask hxe hWHO).mono ?_; rintro e w' ⟨rfl, rfl⟩)
                    go_round
                    case rel => exact ⟨i, _, hi, rfl, rfl, actRef_lt _ _ _ _ _ _ _ hmm, by rw [← HR2.out, E2.out, E1.out, hWB.out]⟩
                    case measure => simp [intOf]; omega
            · have hj2 : j = s.size := by omega
              subst hj2
              rw [bl_drop_end s s.size (Nat.le_refl _), cgoR_nil] at hr
              have HR2 := Lib.hid hr
              clear hr
              go_wp2
              go_ret2
              rw [← HR2.out]
              exact ⟨rfl, rfl⟩
      · have c1 : (0 : Int) ≤ ↑k := by omega
        have c2 : (↑k + 1 : Int) ≤ ↑s.size := by omega
        have HN := Lib.hid (rwhoL_next hlt HR.out hu)
        have HU : Hid (isU (bt s k) = true) := hu
        clear hu
        have hx1 : (s.extract k (k + 1)).size = 1 := by rw [ByteArray.size_extract]; omega
        have hx2 : (⟨#[117, 103, 111]⟩ : ByteArray).size = 3 := rfl
        have hx3 : (t ++ s.extract k (k + 1)).size = t.size + 1 := by rw [ByteArray.size_append, hx1]
        have HX : Hid (bl (s.extract k (k + 1)) = [bt s k]) := by rw [bl_extract, bl_drop s k hlt, show k + 1 - k = 1 by omega]; rfl
        go_wp2_with (go_at_call 34; refine (inU _ _).mono ?_; rintro e w' ⟨rfl, rfl⟩; rw [HU.out])
        · go_round
          case rel => exact ⟨_, k + 1, hlt, by go_num, rfl, by rw [ByteArray.size_append, hx3, hx2]; omega, by
            have e := HN.out
            rw [if_pos (by simpa using ‹(bt s k == 97) = true›), ← HX.out, ← bl_append] at e
            rw [bl_append]; exact e⟩
          case measure => simp [intOf]; omega
        · go_round
          case rel => exact ⟨_, k + 1, hlt, by go_num, rfl, by rw [hx3]; omega, by
            have e := HN.out
            rw [if_neg (by simpa using ‹(bt s k == 97) = false›), ← HX.out, ← bl_append] at e
            exact e⟩
          case measure => simp [intOf]; omega
    · exfalso
      have hk2 : k = s.size := by omega
      subst hk2
      have := rwhoL_end HR.out
      simp only [Prod.mk.injEq] at this
      exact HRE.out this.2

theorem clause28 (s : ByteArray) (m : Nat) (dir : Bool) (mask : Nat) (w : World) (hs : s.size ≤ 200) (hm : m < 4096) (hmask : mask < 4096) :
    Calls Try.prog 28 #[.string s, .int .i64 m, .bool dir, .int .i64 mask] w fun e w' => e = natR (clauseR (bl s) m dir mask) ∧ w = w' := by
  obtain ⟨wl, rest, h⟩ : ∃ wl rest, rwhoL (bl s) [] = (wl, rest) := ⟨_, _, rfl⟩
  rw [clauseR_is h]
  by_cases hr : rest = []
  · subst hr
    rw [if_pos rfl]
    exact clause28_none s m dir mask w hs wl h
  · rw [if_neg hr]
    exact clause28_some s m dir mask w hs hm hmask wl rest h hr _ rfl
end Go.Proofs.Ytdoccakkjgcbjaa
