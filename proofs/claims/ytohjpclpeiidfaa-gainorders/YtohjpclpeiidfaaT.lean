/- Contracts of Text, ours and the document's. Condition: a length. -/
import Derived.Test.YtohjpclpeiidfaaEs
namespace Go.Proofs.Ytohjpclpeiidfaa
open Go.RowKit Go.PlainAid
set_option linter.unusedSimpArgs false
set_option linter.unusedVariables false
namespace Fl

def okB (c : Nat) : Bool := (decide (32 ≤ c) && decide (c ≤ 126)) || decide (c = 9) || decide (c = 10)
def allT (l : List UInt8) : Bool := l.all fun b => okB b.toNat
/-- Bytes that may stand as they are. -/
def txt (l : List UInt8) : Bool := allT l && (decide (0 < l.length) && decide (at0 l (l.length - 1) = 10))

theorem okb35 (c : Nat) (hc : c < 256) (w : World) : Calls Try.prog 35 #[.int .u8 c] w fun e w' => e = .returned (.bool (okB c)) ∧ w = w' := by
  obtain ⟨r, HR⟩ : ∃ r, Hid (okB c = r) := ⟨_, Lib.hid rfl⟩
  rw [HR.out]
  go_enter Try.func35, Try.ntmps35
  go_wp2
  all_goals (go_ret; refine ⟨?_, rfl⟩; rw [← HR.out]; refine congrArg (fun b => Ending.returned (Value.bool b)) ?_; rw [Bool.eq_iff_iff]; simp [okB]; omega)

theorem allT_drop (s : ByteArray) (k : Nat) (h : k < s.size) : allT ((ls s).drop k) = (okB (at0 (ls s) k) && allT ((ls s).drop (k + 1))) := by
  rw [ls_cut s k h]
  unfold allT
  rw [List.all_cons, UInt8.toNat_ofNat', Nat.mod_eq_of_lt (at0_lt _ _)]
def RelT (s : ByteArray) (r : Bool) (i : Value) : Prop := ∃ k : Nat, k ≤ s.size ∧ i = .int .i64 k ∧ Hid (allT ((ls s).drop k) = r)

set_option maxHeartbeats 1000000 in
set_option maxRecDepth 100000 in
theorem text23 (s : ByteArray) (w : World) (hs : s.size ≤ 1000000) : Calls Try.prog 23 #[.string s] w fun e w' => e = .returned (.bool (txt (ls s))) ∧ w = w' := by
  have hb := get_bt s
  obtain ⟨r, HR⟩ : ∃ r, Hid (allT (ls s) = r) := ⟨_, Lib.hid rfl⟩
  have HT : Hid (txt (ls s) = (r && (decide (0 < s.size) && decide (at0 (ls s) (s.size - 1) = 10)))) := Lib.hid (by unfold txt; rw [HR.out, ls_len])
  generalize txt (ls s) = F at HT ⊢
  go_enter Try.func23, Try.ntmps23
  go_wp2
  go_loop [6] (RelT s r) (fun v => s.size - (intOf v).toNat)
  case atStart => exact ⟨0, Nat.zero_le _, rfl, HR⟩
  case round =>
    obtain ⟨k, hk, rfl, HM⟩ := hrel
    by_cases hlt : k < s.size
    · have HD := allT_drop s k hlt
      have hat := at0_lt (ls s) k
      have HA := Lib.hid (bt_at s k)
      have C := Lib.hid fun W => okb35 (at0 (ls s) k) hat W
      rw [← HA.out] at C
      have h1 := HM.out
      rw [HD] at h1
      clear HD
      cases hp : okB (at0 (ls s) k)
      · rw [hp, Bool.false_and] at h1
        rw [hp] at C
        subst h1
        clear HM hp HA hat
        go_wp2_with (go_at_call 35; refine (C.out _).mono ?_; rintro e w' ⟨rfl, rfl⟩)
        go_ret
        exact ⟨by rw [HT.out, Bool.false_and]; rfl, rfl⟩
      · rw [hp, Bool.true_and] at h1
        rw [hp] at C
        have H1 := Lib.hid h1
        clear HM hp h1 HA hat
        go_wp2_with (go_at_call 35; refine (C.out _).mono ?_; rintro e w' ⟨rfl, rfl⟩)
        go_round
        case rel => exact ⟨k + 1, hlt, by go_num, H1⟩
        case measure => simp [intOf]; omega
    · obtain rfl : k = s.size := by omega
      have h1 := HM.out
      rw [List.drop_of_length_le (by rw [ls_len]; omega)] at h1
      have h1 : r = true := h1.symm
      subst h1
      clear HM
      by_cases h0 : s.size = 0
      · have f1 := toList_em h0
        have e : Hid (F = false) := Lib.hid (by rw [HT.out, decide_eq_false (show ¬ 0 < s.size by omega)]; rfl)
        go_wp2
        go_ret
        exact ⟨by rw [e.out]; rfl, rfl⟩
      · have f1 := toList_ne (show 0 < s.size by omega)
        have e2 : decide (at0 (ls s) (s.size - 1) = 10) = (bt s (s.size - 1) == 10) := by
          rw [bt_at, Bool.eq_iff_iff]; simp; omega
        have e : Hid (F = (bt s (s.size - 1) == 10)) := Lib.hid (by rw [HT.out, decide_eq_true (show 0 < s.size by omega), e2]; rfl)
        clear e2
        go_wp2
        go_ret
        exact ⟨by rw [e.out]; rfl, rfl⟩

theorem bad_facts {X : Int} {c : Nat} (e : X = c) (h : okB c = false) : (X != 9) = true ∧ (X != 10) = true ∧ (decide (X < 32) = true ∨ (decide (X < 32) = false ∧ decide (126 < X) = true)) := by
  subst e
  unfold okB at h
  simp only [Bool.or_eq_false_iff, Bool.and_eq_false_iff, decide_eq_false_iff_not] at h
  simp only [bne_iff_ne, decide_eq_true_eq, decide_eq_false_iff_not]
  omega
theorem ok_facts {X : Int} {c : Nat} (e : X = c) (h : okB c = true) : (X != 9) = false ∨ ((X != 9) = true ∧ (X != 10) = false) ∨ ((X != 9) = true ∧ (X != 10) = true ∧ decide (X < 32) = false ∧ decide (126 < X) = false) := by
  subst e
  unfold okB at h
  simp only [Bool.or_eq_true, Bool.and_eq_true, decide_eq_true_eq] at h
  simp only [bne_iff_ne, bne_eq_false_iff_eq, decide_eq_false_iff_not]
  omega

set_option maxHeartbeats 1000000 in
set_option maxRecDepth 100000 in
theorem text24 (s : ByteArray) (w : World) (hs : s.size ≤ 1000000) : Calls Try.prog 24 #[.string s] w fun e w' => e = .returned (.bool (txt (ls s))) ∧ w = w' := by
  have hb := get_bt s
  obtain ⟨r, HR⟩ : ∃ r, Hid (allT (ls s) = r) := ⟨_, Lib.hid rfl⟩
  have HT : Hid (txt (ls s) = (r && (decide (0 < s.size) && decide (at0 (ls s) (s.size - 1) = 10)))) := Lib.hid (by unfold txt; rw [HR.out, ls_len])
  generalize txt (ls s) = F at HT ⊢
  go_enter Try.func24, Try.ntmps24
  go_wp2
  go_loop [3] (RelT s r) (fun v => s.size - (intOf v).toNat)
  case atStart => exact ⟨0, Nat.zero_le _, rfl, HR⟩
  case round =>
    obtain ⟨k, hk, rfl, HM⟩ := hrel
    by_cases hlt : k < s.size
    · have HD := allT_drop s k hlt
      have h1 := HM.out
      rw [HD] at h1
      clear HD
      cases hp : okB (at0 (ls s) k)
      · rw [hp, Bool.false_and] at h1
        subst h1
        obtain ⟨f1, f2, f3⟩ := bad_facts (bt_at s k) hp
        clear HM hp
        rcases f3 with f3 | ⟨f3, f4⟩
        · go_wp2
          go_ret
          exact ⟨by rw [HT.out, Bool.false_and]; rfl, rfl⟩
        · go_wp2
          go_ret
          exact ⟨by rw [HT.out, Bool.false_and]; rfl, rfl⟩
      · rw [hp, Bool.true_and] at h1
        have H1 := Lib.hid h1
        have f := ok_facts (bt_at s k) hp
        clear HM hp h1
        rcases f with f1 | ⟨f1, f2⟩ | ⟨f1, f2, f3, f4⟩
        all_goals
          go_wp2
          go_round
          case rel => exact ⟨k + 1, hlt, by go_num, H1⟩
          case measure => simp [intOf]; omega
    · obtain rfl : k = s.size := by omega
      have h1 := HM.out
      rw [List.drop_of_length_le (by rw [ls_len]; omega)] at h1
      have h1 : r = true := h1.symm
      subst h1
      clear HM
      by_cases h0 : s.size = 0
      · have e : Hid (F = false) := Lib.hid (by rw [HT.out, decide_eq_false (show ¬ 0 < s.size by omega)]; rfl)
        have f1 : ¬ (0 : Int) < s.size := by omega
        go_wp2
        go_ret
        exact ⟨by rw [e.out]; rfl, rfl⟩
      · have e2 : decide (at0 (ls s) (s.size - 1) = 10) = (bt s (s.size - 1) == 10) := by
          rw [bt_at, Bool.eq_iff_iff]; simp; omega
        have e : Hid (F = (bt s (s.size - 1) == 10)) := Lib.hid (by rw [HT.out, decide_eq_true (show 0 < s.size by omega), e2]; rfl)
        have f1 : (0 : Int) < s.size := by omega
        clear e2
        go_wp2
        go_ret
        exact ⟨by rw [e.out]; rfl, rfl⟩
end Fl
end Go.Proofs.Ytohjpclpeiidfaa
