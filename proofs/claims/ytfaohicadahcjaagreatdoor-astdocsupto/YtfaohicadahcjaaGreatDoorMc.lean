/- Contracts: letters, digits, bare bytes, ours and the document's; IndexByte; In. No condition. -/
import Derived.Test.YtfaohicadahcjaaGreatDoorMb
import Derived.Lib.Strings
import Derived.Lib.Bytealg
import Derived.Lib.IndexLaws
import Derived.Laws.BitsAllLaws
import Derived.Laws.DeepStrings4
namespace Go.Proofs.YtfaohicadahcjaaGreatDoor
open Go.RowKit Go.PlainAid Go.ChangeShapes Go.WideShapes Go.ChangeAt
set_option linter.unusedSimpArgs false
set_option linter.unusedVariables false

theorem has_index (l : List UInt8) (c : UInt8) : decide (0 ≤ Lib.indexByte l c) = l.contains c := by
  have hge := Lib.indexByte_ge l c
  rw [List.contains_eq_mem]
  by_cases h : Lib.indexByte l c = -1
  · have hn := Lib.indexByte_none h
    rw [h]
    symm
    apply decide_eq_false
    intro hm
    obtain ⟨k, hk, e⟩ := List.getElem_of_mem hm
    exact hn k (by rw [List.getElem?_eq_getElem hk, e])
  · obtain ⟨o, ho⟩ : ∃ o : Nat, Lib.indexByte l c = o := ⟨(Lib.indexByte l c).toNat, by omega⟩
    obtain ⟨hs, _⟩ := Lib.indexByte_some ho
    rw [ho, decide_eq_true (by omega)]
    symm
    exact decide_eq_true (List.mem_of_getElem? hs)
theorem lettN_is (c : Nat) : lettN c = (decide (97 ≤ (c : Int)) && decide ((c : Int) ≤ 122) || decide (65 ≤ (c : Int)) && decide ((c : Int) ≤ 90)) := by
  unfold lettN
  rw [show decide (97 ≤ (c : Int)) = decide (97 ≤ c) from decide_eq_decide.2 (by omega), show decide ((c : Int) ≤ 122) = decide (c ≤ 122) from decide_eq_decide.2 (by omega), show decide (65 ≤ (c : Int)) = decide (65 ≤ c) from decide_eq_decide.2 (by omega), show decide ((c : Int) ≤ 90) = decide (c ≤ 90) from decide_eq_decide.2 (by omega)]
theorem digN_is (c : Nat) : digN c = (decide (48 ≤ (c : Int)) && decide ((c : Int) ≤ 57)) := by
  unfold digN
  rw [show decide (48 ≤ (c : Int)) = decide (48 ≤ c) from decide_eq_decide.2 (by omega), show decide ((c : Int) ≤ 57) = decide (c ≤ 57) from decide_eq_decide.2 (by omega)]
set_option maxHeartbeats 1000000 in
set_option maxRecDepth 100000 in
theorem lett46 (c : Nat) (hc : c < 256) (w : World) : Calls Tryz.prog 46 #[.int .u8 c] w fun e w' => e = .returned (.bool (lettN c)) ∧ w = w' := by
  obtain ⟨b0, H0⟩ : ∃ b, decide (97 ≤ (c : Int)) = b := ⟨_, rfl⟩
  obtain ⟨b1, H1⟩ : ∃ b, decide ((c : Int) ≤ 122) = b := ⟨_, rfl⟩
  obtain ⟨b2, H2⟩ : ∃ b, decide (65 ≤ (c : Int)) = b := ⟨_, rfl⟩
  obtain ⟨b3, H3⟩ : ∃ b, decide ((c : Int) ≤ 90) = b := ⟨_, rfl⟩
  have HS : Hid (lettN c = (b0 && b1 || b2 && b3)) := Lib.hid (by rw [lettN_is, H0, H1, H2, H3])
  cases b0 <;> cases b1 <;> cases b2 <;> cases b3
  all_goals (go_enter Tryz.func46, Tryz.ntmps46; go_wp2; go_ret; exact ⟨by rw [HS.out]; rfl, rfl⟩)
set_option maxHeartbeats 1000000 in
set_option maxRecDepth 100000 in
theorem lett49 (c : Nat) (hc : c < 256) (w : World) : Calls Tryz.prog 49 #[.int .u8 c] w fun e w' => e = .returned (.bool (lettN c)) ∧ w = w' := by
  obtain ⟨b0, H0⟩ : ∃ b, decide (97 ≤ (c : Int)) = b := ⟨_, rfl⟩
  obtain ⟨b1, H1⟩ : ∃ b, decide ((c : Int) ≤ 122) = b := ⟨_, rfl⟩
  obtain ⟨b2, H2⟩ : ∃ b, decide (65 ≤ (c : Int)) = b := ⟨_, rfl⟩
  obtain ⟨b3, H3⟩ : ∃ b, decide ((c : Int) ≤ 90) = b := ⟨_, rfl⟩
  have HS : Hid (lettN c = (b0 && b1 || b2 && b3)) := Lib.hid (by rw [lettN_is, H0, H1, H2, H3])
  cases b0 <;> cases b1 <;> cases b2 <;> cases b3
  all_goals (go_enter Tryz.func49, Tryz.ntmps49; go_wp2; go_ret; exact ⟨by rw [HS.out]; rfl, rfl⟩)
set_option maxHeartbeats 1000000 in
set_option maxRecDepth 100000 in
theorem dig47 (c : Nat) (hc : c < 256) (w : World) : Calls Tryz.prog 47 #[.int .u8 c] w fun e w' => e = .returned (.bool (digN c)) ∧ w = w' := by
  obtain ⟨b0, H0⟩ : ∃ b, decide (48 ≤ (c : Int)) = b := ⟨_, rfl⟩
  obtain ⟨b1, H1⟩ : ∃ b, decide ((c : Int) ≤ 57) = b := ⟨_, rfl⟩
  have HS : Hid (digN c = (b0 && b1)) := Lib.hid (by rw [digN_is, H0, H1])
  cases b0 <;> cases b1
  all_goals (go_enter Tryz.func47, Tryz.ntmps47; go_wp2; go_ret; exact ⟨by rw [HS.out]; rfl, rfl⟩)
set_option maxHeartbeats 1000000 in
set_option maxRecDepth 100000 in
theorem dig50 (c : Nat) (hc : c < 256) (w : World) : Calls Tryz.prog 50 #[.int .u8 c] w fun e w' => e = .returned (.bool (digN c)) ∧ w = w' := by
  obtain ⟨b0, H0⟩ : ∃ b, decide (48 ≤ (c : Int)) = b := ⟨_, rfl⟩
  obtain ⟨b1, H1⟩ : ∃ b, decide ((c : Int) ≤ 57) = b := ⟨_, rfl⟩
  have HS : Hid (digN c = (b0 && b1)) := Lib.hid (by rw [digN_is, H0, H1])
  cases b0 <;> cases b1
  all_goals (go_enter Tryz.func50, Tryz.ntmps50; go_wp2; go_ret; exact ⟨by rw [HS.out]; rfl, rfl⟩)
set_option maxHeartbeats 1000000 in
set_option maxRecDepth 100000 in
theorem ib72 (s : ByteArray) (c : Int) (w : World) :
    Calls Tryz.prog 72 #[.string s, .int .u8 c] w fun e w' => e = .returned (.int .i64 (Lib.indexByte (ls s) c.toNat.toUInt8)) ∧ w = w' := by
  go_enter Tryz.func72, Tryz.ntmps72
  go_wp2
  rw [run_callFunc_extern Tryz.func103 (by kernel_rfl) (by kernel_rfl) (by kernel_rfl) (e := Extern.BytealgIndexByte.indexByte) (by kernel_rfl), Lib.run_indexByteString]
  simp only [Result.andThen]
  rw [Oper.upon_value]
  go_wp2
  go_ret
  exact ⟨rfl, rfl⟩
set_option maxHeartbeats 1000000 in
set_option maxRecDepth 100000 in
theorem ib48 (s : ByteArray) (c : Nat) (w : World) :
    Calls Tryz.prog 48 #[.string s, .int .u8 c] w fun e w' => (∃ x : Int, e = .returned (.int .i64 x) ∧ decide (0 ≤ x) = hasC (ls s) c ∧ decide (x < 0) = !hasC (ls s) c) ∧ w = w' := by
  go_enter Tryz.func48, Tryz.ntmps48
  go_wp2_with (go_at_call 72; refine (ib72 _ _ _).mono ?_; rintro e w' ⟨rfl, rfl⟩)
  go_ret
  have h := has_index (ls s) (UInt8.ofNat c)
  try simp only [Int.toNat_natCast]
  refine ⟨⟨_, rfl, h, ?_⟩, by trivial⟩
  show _ = !((ls s).contains (UInt8.ofNat c))
  rw [← h, ← decide_not]
  exact decide_eq_decide.2 (by omega)
theorem lit_ls (l : List UInt8) (s : ByteArray) (h : s.data.toList = l) : ls s = l := h
set_option maxHeartbeats 1000000 in
set_option maxRecDepth 100000 in
theorem bare21 (c : Nat) (hc : c < 256) (w : World) : Calls Tryz.prog 21 #[.int .u8 c] w fun e w' => e = .returned (.bool (bareN c)) ∧ w = w' := by
  have C0 := Lib.hid fun W => lett46 c hc W
  have C1 := Lib.hid fun W => dig47 c hc W
  have C2 := Lib.hid fun W => ib48 ⟨#[95, 46, 47, 44, 43, 45, 58, 64, 42, 63, 91, 93, 33, 94, 61, 126, 37]⟩ c W
  obtain ⟨b2, H2⟩ : ∃ b, hasC bareS c = b := ⟨_, rfl⟩
  rw [show ls ⟨#[95, 46, 47, 44, 43, 45, 58, 64, 42, 63, 91, 93, 33, 94, 61, 126, 37]⟩ = bareS from rfl, H2] at C2
  have HS : Hid (bareN c = (lettN c || digN c || b2)) := Lib.hid (by unfold bareN; rw [H2])
  clear H2
  generalize lettN c = b0 at C0 HS
  generalize digN c = b1 at C1 HS
  cases b0 <;> cases b1 <;> cases b2
  all_goals (
    go_enter Tryz.func21, Tryz.ntmps21
    go_wp2_with (first
      | (go_at_call 46; refine (C0.out _).mono ?_; rintro e w' ⟨rfl, rfl⟩)
      | (go_at_call 47; refine (C1.out _).mono ?_; rintro e w' ⟨rfl, rfl⟩)
      | (go_at_call 48; refine (C2.out _).mono ?_; rintro e w' ⟨⟨x, rfl, h1, h2⟩, rfl⟩))
    go_ret
    refine ⟨?_, rfl⟩
    rw [HS.out]
    first | rfl | rw [h1]; rfl)
/-- The document's look for a byte in a text. -/
def Rel51 (s : ByteArray) (c : Nat) (i : Value) : Prop := ∃ k : Nat, k ≤ s.size ∧ i = .int .i64 k ∧ Hid (hasC (ls s) c = hasC ((ls s).drop k) c)
theorem cont_cons (s : ByteArray) (k c : Nat) (hc : c < 256) (hk : k < s.size) : hasC ((ls s).drop k) c = ((bt s k == (c : Int)) || hasC ((ls s).drop (k + 1)) c) := by
  unfold hasC
  rw [ls_cut s k hk, List.contains_cons, bt_at]
  congr 1
  have h1 := at0_lt (ls s) k
  by_cases e : at0 (ls s) k = c
  · rw [e]; simp
  · rw [beq_eq_false_iff_ne.2 (fun h => e (by have := congrArg UInt8.toNat h; simp at this; omega)), beq_eq_false_iff_ne.2 (by omega)]
set_option maxHeartbeats 1000000 in
set_option maxRecDepth 100000 in
theorem in51 (s : ByteArray) (hs : s.size ≤ 9223372036854775807) (c : Nat) (hc : c < 256) (w : World) : Calls Tryz.prog 51 #[.string s, .int .u8 c] w fun e w' => e = .returned (.bool (hasC (ls s) c)) ∧ w = w' := by
  have hb := get_bt s
  go_enter Tryz.func51, Tryz.ntmps51
  go_wp2
  go_loop [5] (Rel51 s c) (fun i => s.size - (intOf i).toNat)
  case atStart => exact ⟨0, Nat.zero_le _, rfl, Lib.hid rfl⟩
  case round =>
    obtain ⟨k, hk, rfl, HR⟩ := hrel
    by_cases hlt : k < s.size
    · have HC := Lib.hid (cont_cons s k c hc hlt)
      cases hq : (bt s k == (c : Int))
      · have HE : Hid (hasC (ls s) c = hasC ((ls s).drop (k + 1)) c) := Lib.hid (by rw [HR.out, HC.out, hq, Bool.false_or])
        go_wp2
        go_round
        case rel => exact ⟨k + 1, by omega, by go_num, HE⟩
        case measure => simp [intOf]; omega
      · have HE : Hid (hasC (ls s) c = true) := Lib.hid (by rw [HR.out, HC.out, hq, Bool.true_or])
        go_wp2
        go_ret
        rw [HE.out]; exact ⟨rfl, rfl⟩
    · obtain rfl : k = s.size := by omega
      have HE : Hid (hasC (ls s) c = false) := Lib.hid (by rw [HR.out, List.drop_of_length_le (by rw [ls_len]; exact Nat.le_refl _)]; rfl)
      go_wp2
      go_ret
      rw [HE.out]; exact ⟨rfl, rfl⟩
set_option maxHeartbeats 1000000 in
set_option maxRecDepth 100000 in
theorem bare22 (c : Nat) (hc : c < 256) (w : World) : Calls Tryz.prog 22 #[.int .u8 c] w fun e w' => e = .returned (.bool (bareN c)) ∧ w = w' := by
  have C0 := Lib.hid fun W => lett49 c hc W
  have C1 := Lib.hid fun W => dig50 c hc W
  have C2 := Lib.hid fun W => in51 ⟨#[95, 46, 47, 44, 43, 45, 58, 64, 42, 63, 91, 93, 33, 94, 61, 126, 37]⟩ (by decide) c hc W
  obtain ⟨b2, H2⟩ : ∃ b, hasC bareS c = b := ⟨_, rfl⟩
  rw [show ls ⟨#[95, 46, 47, 44, 43, 45, 58, 64, 42, 63, 91, 93, 33, 94, 61, 126, 37]⟩ = bareS from rfl, H2] at C2
  have HS : Hid (bareN c = (lettN c || digN c || b2)) := Lib.hid (by unfold bareN; rw [H2])
  clear H2
  generalize lettN c = b0 at C0 HS
  generalize digN c = b1 at C1 HS
  cases b0 <;> cases b1 <;> cases b2
  all_goals (
    go_enter Tryz.func22, Tryz.ntmps22
    go_wp2_with (first
      | (go_at_call 49; refine (C0.out _).mono ?_; rintro e w' ⟨rfl, rfl⟩)
      | (go_at_call 50; refine (C1.out _).mono ?_; rintro e w' ⟨rfl, rfl⟩)
      | (go_at_call 51; refine (C2.out _).mono ?_; rintro e w' ⟨rfl, rfl⟩))
    go_ret
    exact ⟨by rw [HS.out]; rfl, rfl⟩)
end Go.Proofs.YtfaohicadahcjaaGreatDoor

/- Contracts: names, ours and the document's. Conditions: lengths that fit an int. -/
namespace Go.Proofs.YtfaohicadahcjaaGreatDoor
open Go.RowKit Go.PlainAid Go.ChangeShapes Go.WideShapes Go.ChangeAt
set_option linter.unusedSimpArgs false
set_option linter.unusedVariables false

theorem ofNat_toNat (l : List UInt8) (k : Nat) : (UInt8.ofNat (at0 l k)).toNat = at0 l k := by
  have := at0_lt l k
  simp; omega
theorem drop_end (s : ByteArray) : (ls s).drop s.size = [] := List.drop_of_length_le (by rw [ls_len]; exact Nat.le_refl _)
theorem nmA_cut (f : Bool) (s : ByteArray) (k : Nat) (h : k < s.size) : nmA f ((ls s).drop k) = if nmN f (at0 (ls s) k) then nmA false ((ls s).drop (k + 1)) + 1 else 0 := by
  rw [ls_cut s k h, nmA, ofNat_toNat]
def Rel52 (s : ByteArray) (i : Value) : Prop := ∃ k : Nat, k ≤ s.size ∧ i = .int .i64 k ∧ Hid (k + nmA (decide (k = 0)) ((ls s).drop k) = nmA true (ls s))
theorem eq95 (s : ByteArray) (k : Nat) (c : Nat) : (bt s k == (c : Int)) = decide (at0 (ls s) k = c) := by
  rw [bt_at]
  by_cases h : at0 (ls s) k = c
  · simp [h]
  · rw [beq_eq_false_iff_ne.2 (by omega)]; simp [h]
set_option maxHeartbeats 4000000 in
set_option maxRecDepth 100000 in
theorem nmA52 (s : ByteArray) (hs : s.size ≤ 9223372036854775806) (w : World) : Calls Tryz.prog 52 #[.string s] w fun e w' => e = .returned (.int .i64 (nmA true (ls s))) ∧ w = w' := by
  have hb := get_bt s
  go_enter Tryz.func52, Tryz.ntmps52
  go_wp2
  go_loop [3] (Rel52 s) (fun i => s.size - (intOf i).toNat)
  case atStart => exact ⟨0, Nat.zero_le _, rfl, Lib.hid (by simp)⟩
  case round =>
    obtain ⟨k, hk, rfl, HR⟩ := hrel
    by_cases hlt : k < s.size
    · have C0 := Lib.hid fun W => lett46 (at0 (ls s) k) (at0_lt _ _) W
      have C1 := Lib.hid fun W => dig47 (at0 (ls s) k) (at0_lt _ _) W
      rw [← bt_at] at C0 C1
      obtain ⟨b0, H0⟩ : ∃ b, decide (at0 (ls s) k = 95) = b := ⟨_, rfl⟩
      have hq : (bt s k == 95) = b0 := by rw [← H0]; exact eq95 s k 95
      obtain ⟨b3, H3⟩ : ∃ b, decide (k = 0) = b := ⟨_, rfl⟩
      have HC := Lib.hid (nmA_cut b3 s k hlt)
      have HS : Hid (nmN b3 (at0 (ls s) k) = (b0 || lettN (at0 (ls s) k) || (!b3 && digN (at0 (ls s) k)))) := Lib.hid (by unfold nmN; rw [H0])
      have HN : Hid (decide (k + 1 = 0) = false) := Lib.hid (by simp)
      rw [H3] at HR
      have hg : decide (0 < k) = !b3 := by rw [← H3, ← decide_not]; exact decide_eq_decide.2 (by omega)
      have hg2 : decide (0 < (k : Int)) = !b3 := by rw [← H3, ← decide_not]; exact decide_eq_decide.2 (by omega)
      clear H0 H3
      generalize lettN (at0 (ls s) k) = b1 at C0 HS
      generalize digN (at0 (ls s) k) = b2 at C1 HS
      cases b0 <;> cases b1 <;> cases b3 <;> cases b2
      all_goals (
        simp only [Bool.not_true, Bool.not_false] at hg hg2
        go_wp2_with (first
          | (go_at_call 46; refine (C0.out _).mono ?_; rintro e w' ⟨rfl, rfl⟩)
          | (go_at_call 47; refine (C1.out _).mono ?_; rintro e w' ⟨rfl, rfl⟩))
        first
        | (go_round
           case rel => exact ⟨k + 1, by omega, by go_num, Lib.hid (by rw [HN.out, ← HR.out, HC.out, HS.out]; simp; omega)⟩
           case measure => simp [intOf]; omega)
        | (go_ret
           have HE : nmA true (ls s) = k := by rw [← HR.out, HC.out, HS.out]; simp
           rw [HE]; exact ⟨rfl, rfl⟩))
    · obtain rfl : k = s.size := by omega
      have HE : Hid (nmA true (ls s) = s.size) := Lib.hid (by rw [← HR.out, drop_end]; simp [nmA])
      go_wp2
      go_ret
      rw [HE.out]; exact ⟨rfl, rfl⟩
theorem emp_is (s : ByteArray) : (s.toList == []) = emB s := by rw [toList_data]; rfl
theorem emB_size (s : ByteArray) : emB s = decide (s.size = 0) := by
  rw [← emp_is]
  by_cases h : s.size = 0
  · rw [toList_em h]; simp [h]
  · rw [toList_ne (by omega)]; simp [h]
theorem isEm (s : ByteArray) : (ls s).isEmpty = emB s := by unfold emB; cases ls s <;> rfl
set_option maxHeartbeats 2000000 in
set_option maxRecDepth 100000 in
theorem name23 (s : ByteArray) (hs : s.size ≤ 9223372036854775806) (w : World) : Calls Tryz.prog 23 #[.string s] w fun e w' => e = .returned (.bool (nameL (ls s))) ∧ w = w' := by
  have C := Lib.hid fun W => nmA52 s hs W
  have h0 := emp_is s
  obtain ⟨x, Hx⟩ : ∃ x, nmA true (ls s) = x := ⟨_, rfl⟩
  have HS : Hid (nameL (ls s) = (!emB s && decide ((x : Int) = (s.size : Int)))) := Lib.hid (by
    unfold nameL
    rw [isEm, Hx, ls_len]
    congr 1
    exact decide_eq_decide.2 (by omega))
  rw [Hx] at C
  clear Hx
  generalize emB s = b0 at h0 HS
  have hq : ((x : Int) == (s.size : Int)) = decide ((x : Int) = (s.size : Int)) := by rw [Bool.eq_iff_iff]; simp
  have hq2 : (x == s.size) = decide ((x : Int) = (s.size : Int)) := by rw [Bool.eq_iff_iff]; simp; omega
  obtain ⟨b1, H1⟩ : ∃ b, decide ((x : Int) = (s.size : Int)) = b := ⟨_, rfl⟩
  rw [H1] at HS hq hq2
  clear H1
  cases b0 <;> cases b1
  all_goals (
    go_enter Tryz.func23, Tryz.ntmps23
    go_wp2_with (go_at_call 52; refine (C.out _).mono ?_; rintro e w' ⟨rfl, rfl⟩)
    go_ret
    exact ⟨by rw [HS.out]; rfl, rfl⟩)
/-- The document's look through a name. -/
def Rel24 (s : ByteArray) (i : Value) : Prop := ∃ k : Nat, k ≤ s.size ∧ i = .int .i64 k ∧ Hid ((decide (nmA true (ls s) = (ls s).length)) = decide (nmA (decide (k = 0)) ((ls s).drop k) = ((ls s).drop k).length))
theorem nm_step (f : Bool) (s : ByteArray) (k : Nat) (h : k < s.size) (b : Bool) (hb : nmN f (at0 (ls s) k) = b) : decide (nmA f ((ls s).drop k) = ((ls s).drop k).length) = (b && decide (nmA false ((ls s).drop (k + 1)) = ((ls s).drop (k + 1)).length)) := by
  rw [nmA_cut f s k h, hb]
  have e : ((ls s).drop k).length = ((ls s).drop (k + 1)).length + 1 := by simp [ls_len]; omega
  cases b
  · rw [Bool.false_and]
    exact decide_eq_false (by show ¬ 0 = _; omega)
  · rw [e]; simp
set_option maxHeartbeats 4000000 in
set_option maxRecDepth 100000 in
theorem name24 (s : ByteArray) (hs : s.size ≤ 9223372036854775806) (w : World) : Calls Tryz.prog 24 #[.string s] w fun e w' => e = .returned (.bool (nameL (ls s))) ∧ w = w' := by
  have hb := get_bt s
  have HSz : Hid ((s.toList == []) = emB s) := Lib.hid (emp_is s)
  have HNm : Hid (nameL (ls s) = (!emB s && decide (nmA true (ls s) = (ls s).length))) := Lib.hid (by unfold nameL; rw [isEm])
  have HEm : Hid (emB s = decide (s.size = 0)) := Lib.hid (emB_size s)
  go_enter Tryz.func24, Tryz.ntmps24
  go_wp2
  go_loop [3] (Rel24 s) (fun i => s.size - (intOf i).toNat)
  case atStart => exact ⟨0, Nat.zero_le _, rfl, Lib.hid (by simp)⟩
  case round =>
    obtain ⟨k, hk, rfl, HR⟩ := hrel
    by_cases hlt : k < s.size
    · have C0 := Lib.hid fun W => lett49 (at0 (ls s) k) (at0_lt _ _) W
      have C1 := Lib.hid fun W => dig50 (at0 (ls s) k) (at0_lt _ _) W
      rw [← bt_at] at C0 C1
      obtain ⟨b0, H0⟩ : ∃ b, decide (at0 (ls s) k = 95) = b := ⟨_, rfl⟩
      have hq : (bt s k == 95) = b0 := by rw [← H0]; exact eq95 s k 95
      have hq2 : (bt s k != 95) = !b0 := by rw [bne, hq]
      obtain ⟨b3, H3⟩ : ∃ b, decide (k = 0) = b := ⟨_, rfl⟩
      have HC := Lib.hid fun b hb => nm_step b3 s k hlt b hb
      have HS : Hid (nmN b3 (at0 (ls s) k) = (b0 || lettN (at0 (ls s) k) || (!b3 && digN (at0 (ls s) k)))) := Lib.hid (by unfold nmN; rw [H0])
      have HN : Hid (decide (k + 1 = 0) = false) := Lib.hid (by simp)
      rw [H3] at HR
      have hg : decide (0 < k) = !b3 := by rw [← H3, ← decide_not]; exact decide_eq_decide.2 (by omega)
      have hg2 : decide (0 < (k : Int)) = !b3 := by rw [← H3, ← decide_not]; exact decide_eq_decide.2 (by omega)
      have HZ : Hid (emB s = false) := Lib.hid (by rw [HEm.out]; exact decide_eq_false (by omega))
      clear H0 H3
      generalize lettN (at0 (ls s) k) = b1 at C0 HS
      generalize digN (at0 (ls s) k) = b2 at C1 HS
      cases b0 <;> cases b1 <;> cases b3 <;> cases b2
      all_goals (
        simp only [Bool.not_true, Bool.not_false] at hg hg2 hq2
        go_wp2_with (first
          | (go_at_call 49; refine (C0.out _).mono ?_; rintro e w' ⟨rfl, rfl⟩)
          | (go_at_call 50; refine (C1.out _).mono ?_; rintro e w' ⟨rfl, rfl⟩))
        first
        | (go_round
           case rel => exact ⟨k + 1, by omega, by go_num, Lib.hid (by rw [HN.out, HR.out, HC.out _ HS.out]; rfl)⟩
           case measure => simp [intOf]; omega)
        | (go_ret
           have HE : nameL (ls s) = false := by rw [HNm.out, HR.out, HC.out _ HS.out]; simp
           rw [HE]; exact ⟨rfl, rfl⟩))
    · obtain rfl : k = s.size := by omega
      have HE : Hid (nameL (ls s) = !emB s) := Lib.hid (by rw [HNm.out, HR.out, drop_end]; simp [nmA])
      have h0 := HSz.out
      generalize emB s = b0 at h0 HE
      cases b0
      all_goals (
        go_wp2
        go_ret
        rw [HE.out]; exact ⟨rfl, rfl⟩)
end Go.Proofs.YtfaohicadahcjaaGreatDoor

/- Contracts: special signs, reserved words, what may stand behind a name; one of sixteen. No condition. -/
namespace Go.Proofs.YtfaohicadahcjaaGreatDoor
open Go.RowKit Go.PlainAid Go.ChangeShapes Go.WideShapes Go.ChangeAt
set_option linter.unusedSimpArgs false
set_option linter.unusedVariables false

set_option maxHeartbeats 4000000 in
set_option maxRecDepth 100000 in
theorem sp27 (s : ByteArray) (w : World) : Calls Tryz.prog 27 #[.string s] w fun e w' => e = .returned (.bool (spL (ls s))) ∧ w = w' := by
  obtain ⟨b0, h0⟩ : ∃ b, (s.toList == [64]) = b := ⟨_, rfl⟩
  obtain ⟨b1, h1⟩ : ∃ b, (s.toList == [42]) = b := ⟨_, rfl⟩
  obtain ⟨b2, h2⟩ : ∃ b, (s.toList == [35]) = b := ⟨_, rfl⟩
  obtain ⟨b3, h3⟩ : ∃ b, (s.toList == [63]) = b := ⟨_, rfl⟩
  obtain ⟨b4, h4⟩ : ∃ b, (s.toList == [45]) = b := ⟨_, rfl⟩
  obtain ⟨b5, h5⟩ : ∃ b, (s.toList == [36]) = b := ⟨_, rfl⟩
  obtain ⟨b6, h6⟩ : ∃ b, (s.toList == [33]) = b := ⟨_, rfl⟩
  have HS : Hid (spL (ls s) = (b0 || b1 || b2 || b3 || b4 || b5 || b6)) := Lib.hid (by
    show spL s.data.toList = _
    rw [← toList_data s]
    simp only [spL, List.contains_cons, List.contains_nil, h0, h1, h2, h3, h4, h5, h6, Bool.or_false, Bool.or_assoc])
  cases b0
  case true =>
    go_enter Tryz.func27, Tryz.ntmps27
    go_wp2
    go_ret
    exact ⟨by rw [HS.out]; simp, rfl⟩
  cases b1
  case true =>
    go_enter Tryz.func27, Tryz.ntmps27
    go_wp2
    go_ret
    exact ⟨by rw [HS.out]; simp, rfl⟩
  cases b2
  case true =>
    go_enter Tryz.func27, Tryz.ntmps27
    go_wp2
    go_ret
    exact ⟨by rw [HS.out]; simp, rfl⟩
  cases b3
  case true =>
    go_enter Tryz.func27, Tryz.ntmps27
    go_wp2
    go_ret
    exact ⟨by rw [HS.out]; simp, rfl⟩
  cases b4
  case true =>
    go_enter Tryz.func27, Tryz.ntmps27
    go_wp2
    go_ret
    exact ⟨by rw [HS.out]; simp, rfl⟩
  cases b5
  case true =>
    go_enter Tryz.func27, Tryz.ntmps27
    go_wp2
    go_ret
    exact ⟨by rw [HS.out]; simp, rfl⟩
  cases b6
  case true =>
    go_enter Tryz.func27, Tryz.ntmps27
    go_wp2
    go_ret
    exact ⟨by rw [HS.out]; simp, rfl⟩
  go_enter Tryz.func27, Tryz.ntmps27
  go_wp2
  go_ret
  exact ⟨by rw [HS.out]; rfl, rfl⟩
set_option maxHeartbeats 4000000 in
set_option maxRecDepth 100000 in
theorem res29 (s : ByteArray) (w : World) : Calls Tryz.prog 29 #[.string s] w fun e w' => e = .returned (.bool (resL (ls s))) ∧ w = w' := by
  obtain ⟨b0, h0⟩ : ∃ b, (s.toList == [105, 102]) = b := ⟨_, rfl⟩
  obtain ⟨b1, h1⟩ : ∃ b, (s.toList == [116, 104, 101, 110]) = b := ⟨_, rfl⟩
  obtain ⟨b2, h2⟩ : ∃ b, (s.toList == [101, 108, 105, 102]) = b := ⟨_, rfl⟩
  obtain ⟨b3, h3⟩ : ∃ b, (s.toList == [101, 108, 115, 101]) = b := ⟨_, rfl⟩
  obtain ⟨b4, h4⟩ : ∃ b, (s.toList == [102, 105]) = b := ⟨_, rfl⟩
  obtain ⟨b5, h5⟩ : ∃ b, (s.toList == [119, 104, 105, 108, 101]) = b := ⟨_, rfl⟩
  obtain ⟨b6, h6⟩ : ∃ b, (s.toList == [117, 110, 116, 105, 108]) = b := ⟨_, rfl⟩
  obtain ⟨b7, h7⟩ : ∃ b, (s.toList == [100, 111]) = b := ⟨_, rfl⟩
  obtain ⟨b8, h8⟩ : ∃ b, (s.toList == [100, 111, 110, 101]) = b := ⟨_, rfl⟩
  obtain ⟨b9, h9⟩ : ∃ b, (s.toList == [102, 111, 114]) = b := ⟨_, rfl⟩
  obtain ⟨b10, h10⟩ : ∃ b, (s.toList == [105, 110]) = b := ⟨_, rfl⟩
  obtain ⟨b11, h11⟩ : ∃ b, (s.toList == [99, 97, 115, 101]) = b := ⟨_, rfl⟩
  obtain ⟨b12, h12⟩ : ∃ b, (s.toList == [101, 115, 97, 99]) = b := ⟨_, rfl⟩
  obtain ⟨b13, h13⟩ : ∃ b, (s.toList == [33]) = b := ⟨_, rfl⟩
  obtain ⟨b14, h14⟩ : ∃ b, (s.toList == [123]) = b := ⟨_, rfl⟩
  obtain ⟨b15, h15⟩ : ∃ b, (s.toList == [125]) = b := ⟨_, rfl⟩
  have HS : Hid (resL (ls s) = (b0 || b1 || b2 || b3 || b4 || b5 || b6 || b7 || b8 || b9 || b10 || b11 || b12 || b13 || b14 || b15)) := Lib.hid (by
    show resL s.data.toList = _
    rw [← toList_data s]
    simp only [resL, resLs, List.contains_cons, List.contains_nil, h0, h1, h2, h3, h4, h5, h6, h7, h8, h9, h10, h11, h12, h13, h14, h15, Bool.or_false, Bool.or_assoc])
  cases b0
  case true =>
    go_enter Tryz.func29, Tryz.ntmps29
    go_wp2
    go_ret
    exact ⟨by rw [HS.out]; simp, rfl⟩
  cases b1
  case true =>
    go_enter Tryz.func29, Tryz.ntmps29
    go_wp2
    go_ret
    exact ⟨by rw [HS.out]; simp, rfl⟩
  cases b2
  case true =>
    go_enter Tryz.func29, Tryz.ntmps29
    go_wp2
    go_ret
    exact ⟨by rw [HS.out]; simp, rfl⟩
  cases b3
  case true =>
    go_enter Tryz.func29, Tryz.ntmps29
    go_wp2
    go_ret
    exact ⟨by rw [HS.out]; simp, rfl⟩
  cases b4
  case true =>
    go_enter Tryz.func29, Tryz.ntmps29
    go_wp2
    go_ret
    exact ⟨by rw [HS.out]; simp, rfl⟩
  cases b5
  case true =>
    go_enter Tryz.func29, Tryz.ntmps29
    go_wp2
    go_ret
    exact ⟨by rw [HS.out]; simp, rfl⟩
  cases b6
  case true =>
    go_enter Tryz.func29, Tryz.ntmps29
    go_wp2
    go_ret
    exact ⟨by rw [HS.out]; simp, rfl⟩
  cases b7
  case true =>
    go_enter Tryz.func29, Tryz.ntmps29
    go_wp2
    go_ret
    exact ⟨by rw [HS.out]; simp, rfl⟩
  cases b8
  case true =>
    go_enter Tryz.func29, Tryz.ntmps29
    go_wp2
    go_ret
    exact ⟨by rw [HS.out]; simp, rfl⟩
  cases b9
  case true =>
    go_enter Tryz.func29, Tryz.ntmps29
    go_wp2
    go_ret
    exact ⟨by rw [HS.out]; simp, rfl⟩
  cases b10
  case true =>
    go_enter Tryz.func29, Tryz.ntmps29
    go_wp2
    go_ret
    exact ⟨by rw [HS.out]; simp, rfl⟩
  cases b11
  case true =>
    go_enter Tryz.func29, Tryz.ntmps29
    go_wp2
    go_ret
    exact ⟨by rw [HS.out]; simp, rfl⟩
  cases b12
  case true =>
    go_enter Tryz.func29, Tryz.ntmps29
    go_wp2
    go_ret
    exact ⟨by rw [HS.out]; simp, rfl⟩
  cases b13
  case true =>
    go_enter Tryz.func29, Tryz.ntmps29
    go_wp2
    go_ret
    exact ⟨by rw [HS.out]; simp, rfl⟩
  cases b14
  case true =>
    go_enter Tryz.func29, Tryz.ntmps29
    go_wp2
    go_ret
    exact ⟨by rw [HS.out]; simp, rfl⟩
  cases b15
  case true =>
    go_enter Tryz.func29, Tryz.ntmps29
    go_wp2
    go_ret
    exact ⟨by rw [HS.out]; simp, rfl⟩
  go_enter Tryz.func29, Tryz.ntmps29
  go_wp2
  go_ret
  exact ⟨by rw [HS.out]; rfl, rfl⟩
set_option maxHeartbeats 4000000 in
set_option maxRecDepth 100000 in
theorem op31 (s : ByteArray) (w : World) : Calls Tryz.prog 31 #[.string s] w fun e w' => e = .returned (.bool (opL (ls s))) ∧ w = w' := by
  obtain ⟨b0, h0⟩ : ∃ b, (s.toList == [45]) = b := ⟨_, rfl⟩
  obtain ⟨b1, h1⟩ : ∃ b, (s.toList == [58, 45]) = b := ⟨_, rfl⟩
  obtain ⟨b2, h2⟩ : ∃ b, (s.toList == [61]) = b := ⟨_, rfl⟩
  obtain ⟨b3, h3⟩ : ∃ b, (s.toList == [58, 61]) = b := ⟨_, rfl⟩
  obtain ⟨b4, h4⟩ : ∃ b, (s.toList == [63]) = b := ⟨_, rfl⟩
  obtain ⟨b5, h5⟩ : ∃ b, (s.toList == [58, 63]) = b := ⟨_, rfl⟩
  obtain ⟨b6, h6⟩ : ∃ b, (s.toList == [43]) = b := ⟨_, rfl⟩
  obtain ⟨b7, h7⟩ : ∃ b, (s.toList == [58, 43]) = b := ⟨_, rfl⟩
  obtain ⟨b8, h8⟩ : ∃ b, (s.toList == [35]) = b := ⟨_, rfl⟩
  obtain ⟨b9, h9⟩ : ∃ b, (s.toList == [35, 35]) = b := ⟨_, rfl⟩
  obtain ⟨b10, h10⟩ : ∃ b, (s.toList == [37]) = b := ⟨_, rfl⟩
  obtain ⟨b11, h11⟩ : ∃ b, (s.toList == [37, 37]) = b := ⟨_, rfl⟩
  have HS : Hid (opL (ls s) = (b0 || b1 || b2 || b3 || b4 || b5 || b6 || b7 || b8 || b9 || b10 || b11)) := Lib.hid (by
    show opL s.data.toList = _
    rw [← toList_data s]
    simp only [opL, opLs, List.contains_cons, List.contains_nil, h0, h1, h2, h3, h4, h5, h6, h7, h8, h9, h10, h11, Bool.or_false, Bool.or_assoc])
  cases b0
  case true =>
    go_enter Tryz.func31, Tryz.ntmps31
    go_wp2
    go_ret
    exact ⟨by rw [HS.out]; simp, rfl⟩
  cases b1
  case true =>
    go_enter Tryz.func31, Tryz.ntmps31
    go_wp2
    go_ret
    exact ⟨by rw [HS.out]; simp, rfl⟩
  cases b2
  case true =>
    go_enter Tryz.func31, Tryz.ntmps31
    go_wp2
    go_ret
    exact ⟨by rw [HS.out]; simp, rfl⟩
  cases b3
  case true =>
    go_enter Tryz.func31, Tryz.ntmps31
    go_wp2
    go_ret
    exact ⟨by rw [HS.out]; simp, rfl⟩
  cases b4
  case true =>
    go_enter Tryz.func31, Tryz.ntmps31
    go_wp2
    go_ret
    exact ⟨by rw [HS.out]; simp, rfl⟩
  cases b5
  case true =>
    go_enter Tryz.func31, Tryz.ntmps31
    go_wp2
    go_ret
    exact ⟨by rw [HS.out]; simp, rfl⟩
  cases b6
  case true =>
    go_enter Tryz.func31, Tryz.ntmps31
    go_wp2
    go_ret
    exact ⟨by rw [HS.out]; simp, rfl⟩
  cases b7
  case true =>
    go_enter Tryz.func31, Tryz.ntmps31
    go_wp2
    go_ret
    exact ⟨by rw [HS.out]; simp, rfl⟩
  cases b8
  case true =>
    go_enter Tryz.func31, Tryz.ntmps31
    go_wp2
    go_ret
    exact ⟨by rw [HS.out]; simp, rfl⟩
  cases b9
  case true =>
    go_enter Tryz.func31, Tryz.ntmps31
    go_wp2
    go_ret
    exact ⟨by rw [HS.out]; simp, rfl⟩
  cases b10
  case true =>
    go_enter Tryz.func31, Tryz.ntmps31
    go_wp2
    go_ret
    exact ⟨by rw [HS.out]; simp, rfl⟩
  cases b11
  case true =>
    go_enter Tryz.func31, Tryz.ntmps31
    go_wp2
    go_ret
    exact ⟨by rw [HS.out]; simp, rfl⟩
  go_enter Tryz.func31, Tryz.ntmps31
  go_wp2
  go_ret
  exact ⟨by rw [HS.out]; rfl, rfl⟩

def oneB (s : ByteArray) (L : List ByteArray) : Bool := L.any (fun t => t.toList == s.toList) && !emB s
def Rel53 (s : ByteArray) (L : List ByteArray) (i : Value) : Prop := ∃ k : Nat, k ≤ 16 ∧ i = .int .i64 k ∧ Hid (L.any (fun t => t.toList == s.toList) = (L.drop k).any (fun t => t.toList == s.toList) ∨ emB s = true)
set_option maxHeartbeats 4000000 in
set_option maxRecDepth 100000 in
theorem one53 (s : ByteArray) (t0 t1 t2 t3 t4 t5 t6 t7 t8 t9 t10 t11 t12 t13 t14 t15 : ByteArray) (w : World) : Calls Tryz.prog 53 #[.string s, .agg #[.string t0, .string t1, .string t2, .string t3, .string t4, .string t5, .string t6, .string t7, .string t8, .string t9, .string t10, .string t11, .string t12, .string t13, .string t14, .string t15]] w fun e w' => e = .returned (.bool (oneB s [t0, t1, t2, t3, t4, t5, t6, t7, t8, t9, t10, t11, t12, t13, t14, t15])) ∧ Below w.heap.size w w' := by
  obtain ⟨L, HL⟩ : ∃ L, Hid ([t0, t1, t2, t3, t4, t5, t6, t7, t8, t9, t10, t11, t12, t13, t14, t15] = L) := ⟨_, Lib.hid rfl⟩
  have HLen : Hid (L.length = 16) := Lib.hid (by rw [← HL.out]; rfl)
  have HE0 : Hid ((s.toList == []) = emB s) := Lib.hid (emp_is s)
  have HCell : Hid (∀ k : Nat, k < 16 → ∃ x, L[k]? = some x ∧ (w.alloc (.cells #[.string t0, .string t1, .string t2, .string t3, .string t4, .string t5, .string t6, .string t7, .string t8, .string t9, .string t10, .string t11, .string t12, .string t13, .string t14, .string t15] 91)).cell? ⟨w.heap.size, k, none⟩ = some (.string x)) := Lib.hid (by
    intro k hk
    have h := heap_alloc_new w (.cells #[.string t0, .string t1, .string t2, .string t3, .string t4, .string t5, .string t6, .string t7, .string t8, .string t9, .string t10, .string t11, .string t12, .string t13, .string t14, .string t15] 91)
    have hkl : k < L.length := by rw [HLen.out]; exact hk
    refine ⟨L[k], List.getElem?_eq_getElem hkl, ?_⟩
    have e : (#[.string t0, .string t1, .string t2, .string t3, .string t4, .string t5, .string t6, .string t7, .string t8, .string t9, .string t10, .string t11, .string t12, .string t13, .string t14, .string t15] : Array Value) = (L.map Value.string).toArray := by rw [← HL.out]; rfl
    rw [e] at h
    simp only [World.cell?, e, h]
    simp [List.getElem?_eq_getElem hkl])
  have HB : Hid (Below w.heap.size w (w.alloc (.cells #[.string t0, .string t1, .string t2, .string t3, .string t4, .string t5, .string t6, .string t7, .string t8, .string t9, .string t10, .string t11, .string t12, .string t13, .string t14, .string t15] 91))) := Lib.hid ((Below.refl _ w).alloc (Nat.le_refl _) _)
  rw [HL.out]
  go_enter Tryz.func53, Tryz.ntmps53
  go_wp2
  generalize w.alloc (.cells #[.string t0, .string t1, .string t2, .string t3, .string t4, .string t5, .string t6, .string t7, .string t8, .string t9, .string t10, .string t11, .string t12, .string t13, .string t14, .string t15] 91) = w1 at HCell HB ⊢
  go_loop [5] (Rel53 s L) (fun i => 16 - (intOf i).toNat)
  case atStart => exact ⟨0, by omega, rfl, Lib.hid (.inl rfl)⟩
  case round =>
    obtain ⟨k, hk, rfl, HR⟩ := hrel
    by_cases hlt : k < 16
    · obtain ⟨x, hx, hcell⟩ := HCell.out k hlt
      have hkl : k < L.length := by rw [HLen.out]; exact hlt
      have HD : Hid ((L.drop k).any (fun t => t.toList == s.toList) = ((x.toList == s.toList) || (L.drop (k + 1)).any (fun t => t.toList == s.toList))) := Lib.hid (by
        rw [List.drop_eq_getElem_cons hkl, List.any_cons]
        rw [List.getElem?_eq_getElem hkl] at hx
        rw [Option.some.inj hx])
      have HX := Lib.hid hx
      clear hx hkl
      have h0 := HE0.out
      obtain ⟨b1, hb1⟩ : ∃ b, (x.toList == s.toList) = b := ⟨_, rfl⟩
      rw [hb1] at HD
      have HO : Hid (oneB s L = (L.any (fun t => t.toList == s.toList) && !emB s)) := Lib.hid rfl
      obtain ⟨b0, HE⟩ : ∃ b, Hid (emB s = b) := ⟨_, Lib.hid rfl⟩
      rw [HE.out] at h0 HO
      cases b1 <;> cases b0
      · go_wp2
        go_round
        case rel => exact ⟨k + 1, by omega, by go_num, Lib.hid (HR.out.elim (fun h => .inl (by rw [h, HD.out]; rfl)) .inr)⟩
        case measure => simp [intOf]; omega
      · go_wp2
        go_round
        case rel => exact ⟨k + 1, by omega, by go_num, Lib.hid (.inr HE.out)⟩
        case measure => simp [intOf]; omega
      · go_wp2
        go_ret
        have h := HR.out.elim id (fun h => by rw [HE.out] at h; cases h)
        rw [HO.out, h, HD.out]
        exact ⟨rfl, HB.out⟩
      · go_wp2
        go_round
        case rel => exact ⟨k + 1, by omega, by go_num, Lib.hid (.inr HE.out)⟩
        case measure => simp [intOf]; omega
    · obtain rfl : k = 16 := by omega
      have HE : Hid (oneB s L = false) := Lib.hid (by
        unfold oneB
        rcases HR.out with h | h
        · rw [h, List.drop_of_length_le (by rw [HLen.out]; exact Nat.le_refl _)]; rfl
        · rw [h]; simp)
      go_wp2
      go_ret
      rw [HE.out]; exact ⟨rfl, HB.out⟩

theorem resL_any (l : List UInt8) : (resLs.any (fun t => t == l) && !(l == [])) = resL l := by
  rw [List.any_beq']
  cases l
  · rfl
  · simp [resL]
theorem opL_any (l : List UInt8) : ((opLs ++ [[], [], [], []]).any (fun t => t == l) && !(l == [])) = opL l := by
  rw [List.any_append, List.any_beq']
  cases l
  · rfl
  · simp [opL]
theorem resL_one (s : ByteArray) : oneB s [⟨#[105, 102]⟩, ⟨#[116, 104, 101, 110]⟩, ⟨#[101, 108, 105, 102]⟩, ⟨#[101, 108, 115, 101]⟩, ⟨#[102, 105]⟩, ⟨#[119, 104, 105, 108, 101]⟩, ⟨#[117, 110, 116, 105, 108]⟩, ⟨#[100, 111]⟩, ⟨#[100, 111, 110, 101]⟩, ⟨#[102, 111, 114]⟩, ⟨#[105, 110]⟩, ⟨#[99, 97, 115, 101]⟩, ⟨#[101, 115, 97, 99]⟩, ⟨#[33]⟩, ⟨#[123]⟩, ⟨#[125]⟩] = resL (ls s) := by
  refine Eq.trans ?_ (resL_any (ls s))
  unfold oneB emB
  simp only [List.any_cons, List.any_nil, toList_data]
  rfl
set_option maxHeartbeats 4000000 in
set_option maxRecDepth 100000 in
theorem res30 (s : ByteArray) (w : World) : Calls Tryz.prog 30 #[.string s] w fun e w' => e = .returned (.bool (resL (ls s))) ∧ Below w.heap.size w w' := by
  have C := Lib.hid fun W => one53 s ⟨#[105, 102]⟩ ⟨#[116, 104, 101, 110]⟩ ⟨#[101, 108, 105, 102]⟩ ⟨#[101, 108, 115, 101]⟩ ⟨#[102, 105]⟩ ⟨#[119, 104, 105, 108, 101]⟩ ⟨#[117, 110, 116, 105, 108]⟩ ⟨#[100, 111]⟩ ⟨#[100, 111, 110, 101]⟩ ⟨#[102, 111, 114]⟩ ⟨#[105, 110]⟩ ⟨#[99, 97, 115, 101]⟩ ⟨#[101, 115, 97, 99]⟩ ⟨#[33]⟩ ⟨#[123]⟩ ⟨#[125]⟩ W
  rw [resL_one] at C
  go_enter Tryz.func30, Tryz.ntmps30
  go_wp2_with fail
  refine (C.out _).mono ?_
  rintro e w' ⟨rfl, hb⟩
  have HB := Lib.hid hb
  clear hb
  go_wp2
  go_ret
  exact ⟨rfl, HB.out⟩
theorem opL_one (s : ByteArray) : oneB s [⟨#[45]⟩, ⟨#[58, 45]⟩, ⟨#[61]⟩, ⟨#[58, 61]⟩, ⟨#[63]⟩, ⟨#[58, 63]⟩, ⟨#[43]⟩, ⟨#[58, 43]⟩, ⟨#[35]⟩, ⟨#[35, 35]⟩, ⟨#[37]⟩, ⟨#[37, 37]⟩, ⟨#[]⟩, ⟨#[]⟩, ⟨#[]⟩, ⟨#[]⟩] = opL (ls s) := by
  refine Eq.trans ?_ (opL_any (ls s))
  unfold oneB emB
  simp only [List.any_cons, List.any_nil, toList_data]
  rfl
set_option maxHeartbeats 4000000 in
set_option maxRecDepth 100000 in
theorem op32 (s : ByteArray) (w : World) : Calls Tryz.prog 32 #[.string s] w fun e w' => e = .returned (.bool (opL (ls s))) ∧ Below w.heap.size w w' := by
  have C := Lib.hid fun W => one53 s ⟨#[45]⟩ ⟨#[58, 45]⟩ ⟨#[61]⟩ ⟨#[58, 61]⟩ ⟨#[63]⟩ ⟨#[58, 63]⟩ ⟨#[43]⟩ ⟨#[58, 43]⟩ ⟨#[35]⟩ ⟨#[35, 35]⟩ ⟨#[37]⟩ ⟨#[37, 37]⟩ ⟨#[]⟩ ⟨#[]⟩ ⟨#[]⟩ ⟨#[]⟩ W
  rw [opL_one] at C
  go_enter Tryz.func32, Tryz.ntmps32
  go_wp2_with fail
  refine (C.out _).mono ?_
  rintro e w' ⟨rfl, hb⟩
  have HB := Lib.hid hb
  clear hb
  go_wp2
  go_ret
  exact ⟨rfl, HB.out⟩
end Go.Proofs.YtfaohicadahcjaaGreatDoor
