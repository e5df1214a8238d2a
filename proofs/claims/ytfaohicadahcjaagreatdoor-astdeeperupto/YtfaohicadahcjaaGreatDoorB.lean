/- Contracts: names, ours and the document's. Conditions: lengths that fit an int. -/
import Derived.Test.YtfaohicadahcjaaGreatDoorA
namespace Go.Proofs.YtfaohicadahcjaaGreatDoor
open Go.RowKit Go.PlainAid Go.ChangeShapes Go.WideShapes Go.ChangeAt
set_option linter.unusedSimpArgs false
set_option linter.unusedVariables false

theorem ofNat_toNat (l : List UInt8) (k : Nat) : (UInt8.ofNat (at0 l k)).toNat = at0 l k := by
  have := at0_lt l k
  simp; omega
theorem drop_end (s : ByteArray) : (ls s).drop s.size = [] := List.drop_of_length_le (by rw [ls_len]; exact Nat.le_refl _)
theorem nmA_cut (f : Bool) (s : ByteArray) (k : Nat) (h : k < s.size) : nmA f ((ls s).drop k) = if nmN f (at0 (ls s) k) then nmA false ((ls s).drop (k + 1)) + 1 else 0 := by
  rw [ls_cut s k h, nmA, ofNat_toNat]
def Rel52 (s : ByteArray) (i : Value) : Prop := ∃ k : Nat, k ≤ s.size ∧ i = .int .i64 k ∧ Hid (k + nmA (decide (k = 0)) ((ls s).drop k) = nmA true (ls s))
theorem eq95 (s : ByteArray) (k : Nat) (c : Nat) : (bt s k == (c : Int)) = decide (at0 (ls s) k = c) := by
  rw [bt_at]
  by_cases h : at0 (ls s) k = c
  · simp [h]
  · rw [beq_eq_false_iff_ne.2 (by omega)]; simp [h]
set_option maxHeartbeats 4000000 in
set_option maxRecDepth 100000 in
theorem nmA52 (s : ByteArray) (hs : s.size ≤ 9223372036854775806) (w : World) : Calls Tryz.prog 52 #[.string s] w fun e w' => e = .returned (.int .i64 (nmA true (ls s))) ∧ w = w' := by
  have hb := get_bt s
  go_enter Tryz.func52, Tryz.ntmps52
  go_wp2
  go_loop [3] (Rel52 s) (fun i => s.size - (intOf i).toNat)
  case atStart => exact ⟨0, Nat.zero_le _, rfl, Lib.hid (by simp)⟩
  case round =>
    obtain ⟨k, hk, rfl, HR⟩ := hrel
    by_cases hlt : k < s.size
    · have C0 := Lib.hid fun W => lett46 (at0 (ls s) k) (at0_lt _ _) W
      have C1 := Lib.hid fun W => dig47 (at0 (ls s) k) (at0_lt _ _) W
      rw [← bt_at] at C0 C1
      obtain ⟨b0, H0⟩ : ∃ b, decide (at0 (ls s) k = 95) = b := ⟨_, rfl⟩
      have hq : (bt s k == 95) = b0 := by rw [← H0]; exact eq95 s k 95
      obtain ⟨b3, H3⟩ : ∃ b, decide (k = 0) = b := ⟨_, rfl⟩
      have HC := Lib.hid (nmA_cut b3 s k hlt)
      have HS : Hid (nmN b3 (at0 (ls s) k) = (b0 || lettN (at0 (ls s) k) || (!b3 && digN (at0 (ls s) k)))) := Lib.hid (by unfold nmN; rw [H0])
      have HN : Hid (decide (k + 1 = 0) = false) := Lib.hid (by simp)
      rw [H3] at HR
      have hg : decide (0 < k) = !b3 := by rw [← H3, ← decide_not]; exact decide_eq_decide.2 (by omega)
      have hg2 : decide (0 < (k : Int)) = !b3 := by rw [← H3, ← decide_not]; exact decide_eq_decide.2 (by omega)
      clear H0 H3
      generalize lettN (at0 (ls s) k) = b1 at C0 HS
      generalize digN (at0 (ls s) k) = b2 at C1 HS
      cases b0 <;> cases b1 <;> cases b3 <;> cases b2
      all_goals (
        simp only [Bool.not_true, Bool.not_false] at hg hg2
        go_wp2_with (first
          | (go_at_call 46; refine (C0.out _).mono ?_; rintro e w' ⟨rfl, rfl⟩)
          | (go_at_call 47; refine (C1.out _).mono ?_; rintro e w' ⟨rfl, rfl⟩))
        first
        | (go_round
           case rel => exact ⟨k + 1, by omega, by go_num, Lib.hid (by rw [HN.out, ← HR.out, HC.out, HS.out]; simp; omega)⟩
           case measure => simp [intOf]; omega)
        | (go_ret
           have HE : nmA true (ls s) = k := by rw [← HR.out, HC.out, HS.out]; simp
           rw [HE]; exact ⟨rfl, rfl⟩))
    · obtain rfl : k = s.size := by omega
      have HE : Hid (nmA true (ls s) = s.size) := Lib.hid (by rw [← HR.out, drop_end]; simp [nmA])
      go_wp2
      go_ret
      rw [HE.out]; exact ⟨rfl, rfl⟩
theorem emp_is (s : ByteArray) : (s.toList == []) = emB s := by rw [toList_data]; rfl
theorem emB_size (s : ByteArray) : emB s = decide (s.size = 0) := by
  rw [← emp_is]
  by_cases h : s.size = 0
  · rw [toList_em h]; simp [h]
  · rw [toList_ne (by omega)]; simp [h]
theorem isEm (s : ByteArray) : (ls s).isEmpty = emB s := by unfold emB; cases ls s <;> rfl
set_option maxHeartbeats 2000000 in
set_option maxRecDepth 100000 in
theorem name23 (s : ByteArray) (hs : s.size ≤ 9223372036854775806) (w : World) : Calls Tryz.prog 23 #[.string s] w fun e w' => e = .returned (.bool (nameL (ls s))) ∧ w = w' := by
  have C := Lib.hid fun W => nmA52 s hs W
  have h0 := emp_is s
  obtain ⟨x, Hx⟩ : ∃ x, nmA true (ls s) = x := ⟨_, rfl⟩
  have HS : Hid (nameL (ls s) = (!emB s && decide ((x : Int) = (s.size : Int)))) := Lib.hid (by
    unfold nameL
    rw [isEm, Hx, ls_len]
    congr 1
    exact decide_eq_decide.2 (by omega))
  rw [Hx] at C
  clear Hx
  generalize emB s = b0 at h0 HS
  have hq : ((x : Int) == (s.size : Int)) = decide ((x : Int) = (s.size : Int)) := by rw [Bool.eq_iff_iff]; simp
  have hq2 : (x == s.size) = decide ((x : Int) = (s.size : Int)) := by rw [Bool.eq_iff_iff]; simp; omega
  obtain ⟨b1, H1⟩ : ∃ b, decide ((x : Int) = (s.size : Int)) = b := ⟨_, rfl⟩
  rw [H1] at HS hq hq2
  clear H1
  cases b0 <;> cases b1
  all_goals (
    go_enter Tryz.func23, Tryz.ntmps23
    go_wp2_with (go_at_call 52; refine (C.out _).mono ?_; rintro e w' ⟨rfl, rfl⟩)
    go_ret
    exact ⟨by rw [HS.out]; rfl, rfl⟩)
/-- The document's look through a name. -/
def Rel24 (s : ByteArray) (i : Value) : Prop := ∃ k : Nat, k ≤ s.size ∧ i = .int .i64 k ∧ Hid ((decide (nmA true (ls s) = (ls s).length)) = decide (nmA (decide (k = 0)) ((ls s).drop k) = ((ls s).drop k).length))
theorem nm_step (f : Bool) (s : ByteArray) (k : Nat) (h : k < s.size) (b : Bool) (hb : nmN f (at0 (ls s) k) = b) : decide (nmA f ((ls s).drop k) = ((ls s).drop k).length) = (b && decide (nmA false ((ls s).drop (k + 1)) = ((ls s).drop (k + 1)).length)) := by
  rw [nmA_cut f s k h, hb]
  have e : ((ls s).drop k).length = ((ls s).drop (k + 1)).length + 1 := by simp [ls_len]; omega
  cases b
  · rw [Bool.false_and]
    exact decide_eq_false (by show ¬ 0 = _; omega)
  · rw [e]; simp
set_option maxHeartbeats 4000000 in
set_option maxRecDepth 100000 in
theorem name24 (s : ByteArray) (hs : s.size ≤ 9223372036854775806) (w : World) : Calls Tryz.prog 24 #[.string s] w fun e w' => e = .returned (.bool (nameL (ls s))) ∧ w = w' := by
  have hb := get_bt s
  have HSz : Hid ((s.toList == []) = emB s) := Lib.hid (emp_is s)
  have HNm : Hid (nameL (ls s) = (!emB s && decide (nmA true (ls s) = (ls s).length))) := Lib.hid (by unfold nameL; rw [isEm])
  have HEm : Hid (emB s = decide (s.size = 0)) := Lib.hid (emB_size s)
  go_enter Tryz.func24, Tryz.ntmps24
  go_wp2
  go_loop [3] (Rel24 s) (fun i => s.size - (intOf i).toNat)
  case atStart => exact ⟨0, Nat.zero_le _, rfl, Lib.hid (by simp)⟩
  case round =>
    obtain ⟨k, hk, rfl, HR⟩ := hrel
    by_cases hlt : k < s.size
    · have C0 := Lib.hid fun W => lett49 (at0 (ls s) k) (at0_lt _ _) W
      have C1 := Lib.hid fun W => dig50 (at0 (ls s) k) (at0_lt _ _) W
      rw [← bt_at] at C0 C1
      obtain ⟨b0, H0⟩ : ∃ b, decide (at0 (ls s) k = 95) = b := ⟨_, rfl⟩
      have hq : (bt s k == 95) = b0 := by rw [← H0]; exact eq95 s k 95
      have hq2 : (bt s k != 95) = !b0 := by rw [bne, hq]
      obtain ⟨b3, H3⟩ : ∃ b, decide (k = 0) = b := ⟨_, rfl⟩
      have HC := Lib.hid fun b hb => nm_step b3 s k hlt b hb
      have HS : Hid (nmN b3 (at0 (ls s) k) = (b0 || lettN (at0 (ls s) k) || (!b3 && digN (at0 (ls s) k)))) := Lib.hid (by unfold nmN; rw [H0])
      have HN : Hid (decide (k + 1 = 0) = false) := Lib.hid (by simp)
      rw [H3] at HR
      have hg : decide (0 < k) = !b3 := by rw [← H3, ← decide_not]; exact decide_eq_decide.2 (by omega)
      have hg2 : decide (0 < (k : Int)) = !b3 := by rw [← H3, ← decide_not]; exact decide_eq_decide.2 (by omega)
      have HZ : Hid (emB s = false) := Lib.hid (by rw [HEm.out]; exact decide_eq_false (by omega))
      clear H0 H3
      generalize lettN (at0 (ls s) k) = b1 at C0 HS
      generalize digN (at0 (ls s) k) = b2 at C1 HS
      cases b0 <;> cases b1 <;> cases b3 <;> cases b2
      all_goals (
        simp only [Bool.not_true, Bool.not_false] at hg hg2 hq2
        go_wp2_with (first
          | (go_at_call 49; refine (C0.out _).mono ?_; rintro e w' ⟨rfl, rfl⟩)
          | (go_at_call 50; refine (C1.out _).mono ?_; rintro e w' ⟨rfl, rfl⟩))
        first
        | (go_round
           case rel => exact ⟨k + 1, by omega, by go_num, Lib.hid (by rw [HN.out, HR.out, HC.out _ HS.out]; rfl)⟩
           case measure => simp [intOf]; omega)
        | (go_ret
           have HE : nameL (ls s) = false := by rw [HNm.out, HR.out, HC.out _ HS.out]; simp
           rw [HE]; exact ⟨rfl, rfl⟩))
    · obtain rfl : k = s.size := by omega
      have HE : Hid (nameL (ls s) = !emB s) := Lib.hid (by rw [HNm.out, HR.out, drop_end]; simp [nmA])
      have h0 := HSz.out
      generalize emB s = b0 at h0 HE
      cases b0
      all_goals (
        go_wp2
        go_ret
        rw [HE.out]; exact ⟨rfl, rfl⟩)
end Go.Proofs.YtfaohicadahcjaaGreatDoor
