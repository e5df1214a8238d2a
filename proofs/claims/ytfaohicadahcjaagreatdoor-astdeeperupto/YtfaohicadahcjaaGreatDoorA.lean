/- Contracts: letters, digits, bare bytes, ours and the document's; IndexByte; In. No condition. -/
import Derived.Test.YtfaohicadahcjaaGreatDoorT
import Derived.Lib.Strings
import Derived.Lib.Bytealg
import Derived.Lib.IndexLaws
import Derived.Laws.BitsAllLaws
import Derived.Laws.DeepStrings4
namespace Go.Proofs.YtfaohicadahcjaaGreatDoor
open Go.RowKit Go.PlainAid Go.ChangeShapes Go.WideShapes Go.ChangeAt
set_option linter.unusedSimpArgs false
set_option linter.unusedVariables false

theorem has_index (l : List UInt8) (c : UInt8) : decide (0 ≤ Lib.indexByte l c) = l.contains c := by
  have hge := Lib.indexByte_ge l c
  rw [List.contains_eq_mem]
  by_cases h : Lib.indexByte l c = -1
  · have hn := Lib.indexByte_none h
    rw [h]
    symm
    apply decide_eq_false
    intro hm
    obtain ⟨k, hk, e⟩ := List.getElem_of_mem hm
    exact hn k (by rw [List.getElem?_eq_getElem hk, e])
  · obtain ⟨o, ho⟩ : ∃ o : Nat, Lib.indexByte l c = o := ⟨(Lib.indexByte l c).toNat, by omega⟩
    obtain ⟨hs, _⟩ := Lib.indexByte_some ho
    rw [ho, decide_eq_true (by omega)]
    symm
    exact decide_eq_true (List.mem_of_getElem? hs)
theorem lettN_is (c : Nat) : lettN c = (decide (97 ≤ (c : Int)) && decide ((c : Int) ≤ 122) || decide (65 ≤ (c : Int)) && decide ((c : Int) ≤ 90)) := by
  unfold lettN
  rw [show decide (97 ≤ (c : Int)) = decide (97 ≤ c) from decide_eq_decide.2 (by omega), show decide ((c : Int) ≤ 122) = decide (c ≤ 122) from decide_eq_decide.2 (by omega), show decide (65 ≤ (c : Int)) = decide (65 ≤ c) from decide_eq_decide.2 (by omega), show decide ((c : Int) ≤ 90) = decide (c ≤ 90) from decide_eq_decide.2 (by omega)]
theorem digN_is (c : Nat) : digN c = (decide (48 ≤ (c : Int)) && decide ((c : Int) ≤ 57)) := by
  unfold digN
  rw [show decide (48 ≤ (c : Int)) = decide (48 ≤ c) from decide_eq_decide.2 (by omega), show decide ((c : Int) ≤ 57) = decide (c ≤ 57) from decide_eq_decide.2 (by omega)]
set_option maxHeartbeats 1000000 in
set_option maxRecDepth 100000 in
theorem lett46 (c : Nat) (hc : c < 256) (w : World) : Calls Tryz.prog 46 #[.int .u8 c] w fun e w' => e = .returned (.bool (lettN c)) ∧ w = w' := by
  obtain ⟨b0, H0⟩ : ∃ b, decide (97 ≤ (c : Int)) = b := ⟨_, rfl⟩
  obtain ⟨b1, H1⟩ : ∃ b, decide ((c : Int) ≤ 122) = b := ⟨_, rfl⟩
  obtain ⟨b2, H2⟩ : ∃ b, decide (65 ≤ (c : Int)) = b := ⟨_, rfl⟩
  obtain ⟨b3, H3⟩ : ∃ b, decide ((c : Int) ≤ 90) = b := ⟨_, rfl⟩
  have HS : Hid (lettN c = (b0 && b1 || b2 && b3)) := Lib.hid (by rw [lettN_is, H0, H1, H2, H3])
  cases b0 <;> cases b1 <;> cases b2 <;> cases b3
  all_goals (go_enter Tryz.func46, Tryz.ntmps46; go_wp2; go_ret; exact ⟨by rw [HS.out]; rfl, rfl⟩)
set_option maxHeartbeats 1000000 in
set_option maxRecDepth 100000 in
theorem lett49 (c : Nat) (hc : c < 256) (w : World) : Calls Tryz.prog 49 #[.int .u8 c] w fun e w' => e = .returned (.bool (lettN c)) ∧ w = w' := by
  obtain ⟨b0, H0⟩ : ∃ b, decide (97 ≤ (c : Int)) = b := ⟨_, rfl⟩
  obtain ⟨b1, H1⟩ : ∃ b, decide ((c : Int) ≤ 122) = b := ⟨_, rfl⟩
  obtain ⟨b2, H2⟩ : ∃ b, decide (65 ≤ (c : Int)) = b := ⟨_, rfl⟩
  obtain ⟨b3, H3⟩ : ∃ b, decide ((c : Int) ≤ 90) = b := ⟨_, rfl⟩
  have HS : Hid (lettN c = (b0 && b1 || b2 && b3)) := Lib.hid (by rw [lettN_is, H0, H1, H2, H3])
  cases b0 <;> cases b1 <;> cases b2 <;> cases b3
  all_goals (go_enter Tryz.func49, Tryz.ntmps49; go_wp2; go_ret; exact ⟨by rw [HS.out]; rfl, rfl⟩)
set_option maxHeartbeats 1000000 in
set_option maxRecDepth 100000 in
theorem dig47 (c : Nat) (hc : c < 256) (w : World) : Calls Tryz.prog 47 #[.int .u8 c] w fun e w' => e = .returned (.bool (digN c)) ∧ w = w' := by
  obtain ⟨b0, H0⟩ : ∃ b, decide (48 ≤ (c : Int)) = b := ⟨_, rfl⟩
  obtain ⟨b1, H1⟩ : ∃ b, decide ((c : Int) ≤ 57) = b := ⟨_, rfl⟩
  have HS : Hid (digN c = (b0 && b1)) := Lib.hid (by rw [digN_is, H0, H1])
  cases b0 <;> cases b1
  all_goals (go_enter Tryz.func47, Tryz.ntmps47; go_wp2; go_ret; exact ⟨by rw [HS.out]; rfl, rfl⟩)
set_option maxHeartbeats 1000000 in
set_option maxRecDepth 100000 in
theorem dig50 (c : Nat) (hc : c < 256) (w : World) : Calls Tryz.prog 50 #[.int .u8 c] w fun e w' => e = .returned (.bool (digN c)) ∧ w = w' := by
  obtain ⟨b0, H0⟩ : ∃ b, decide (48 ≤ (c : Int)) = b := ⟨_, rfl⟩
  obtain ⟨b1, H1⟩ : ∃ b, decide ((c : Int) ≤ 57) = b := ⟨_, rfl⟩
  have HS : Hid (digN c = (b0 && b1)) := Lib.hid (by rw [digN_is, H0, H1])
  cases b0 <;> cases b1
  all_goals (go_enter Tryz.func50, Tryz.ntmps50; go_wp2; go_ret; exact ⟨by rw [HS.out]; rfl, rfl⟩)
set_option maxHeartbeats 1000000 in
set_option maxRecDepth 100000 in
theorem ib72 (s : ByteArray) (c : Int) (w : World) :
    Calls Tryz.prog 72 #[.string s, .int .u8 c] w fun e w' => e = .returned (.int .i64 (Lib.indexByte (ls s) c.toNat.toUInt8)) ∧ w = w' := by
  go_enter Tryz.func72, Tryz.ntmps72
  go_wp2
  rw [run_callFunc_extern Tryz.func103 (by kernel_rfl) (by kernel_rfl) (by kernel_rfl) (e := Extern.BytealgIndexByte.indexByte) (by kernel_rfl), Lib.run_indexByteString]
  simp only [Result.andThen]
  rw [Oper.upon_value]
  go_wp2
  go_ret
  exact ⟨rfl, rfl⟩
set_option maxHeartbeats 1000000 in
set_option maxRecDepth 100000 in
theorem ib48 (s : ByteArray) (c : Nat) (w : World) :
    Calls Tryz.prog 48 #[.string s, .int .u8 c] w fun e w' => (∃ x : Int, e = .returned (.int .i64 x) ∧ decide (0 ≤ x) = hasC (ls s) c ∧ decide (x < 0) = !hasC (ls s) c) ∧ w = w' := by
  go_enter Tryz.func48, Tryz.ntmps48
  go_wp2_with (go_at_call 72; refine (ib72 _ _ _).mono ?_; rintro e w' ⟨rfl, rfl⟩)
  go_ret
  have h := has_index (ls s) (UInt8.ofNat c)
  try simp only [Int.toNat_natCast]
  refine ⟨⟨_, rfl, h, ?_⟩, by trivial⟩
  show _ = !((ls s).contains (UInt8.ofNat c))
  rw [← h, ← decide_not]
  exact decide_eq_decide.2 (by omega)
theorem lit_ls (l : List UInt8) (s : ByteArray) (h : s.data.toList = l) : ls s = l := h
set_option maxHeartbeats 1000000 in
set_option maxRecDepth 100000 in
theorem bare21 (c : Nat) (hc : c < 256) (w : World) : Calls Tryz.prog 21 #[.int .u8 c] w fun e w' => e = .returned (.bool (bareN c)) ∧ w = w' := by
  have C0 := Lib.hid fun W => lett46 c hc W
  have C1 := Lib.hid fun W => dig47 c hc W
  have C2 := Lib.hid fun W => ib48 ⟨#[95, 46, 47, 44, 43, 45, 58, 64, 42, 63, 91, 93, 33, 94, 61, 126, 37]⟩ c W
  obtain ⟨b2, H2⟩ : ∃ b, hasC bareS c = b := ⟨_, rfl⟩
  rw [show ls ⟨#[95, 46, 47, 44, 43, 45, 58, 64, 42, 63, 91, 93, 33, 94, 61, 126, 37]⟩ = bareS from rfl, H2] at C2
  have HS : Hid (bareN c = (lettN c || digN c || b2)) := Lib.hid (by unfold bareN; rw [H2])
  clear H2
  generalize lettN c = b0 at C0 HS
  generalize digN c = b1 at C1 HS
  cases b0 <;> cases b1 <;> cases b2
  all_goals (
    go_enter Tryz.func21, Tryz.ntmps21
    go_wp2_with (first
      | (go_at_call 46; refine (C0.out _).mono ?_; rintro e w' ⟨rfl, rfl⟩)
      | (go_at_call 47; refine (C1.out _).mono ?_; rintro e w' ⟨rfl, rfl⟩)
      | (go_at_call 48; refine (C2.out _).mono ?_; rintro e w' ⟨⟨x, rfl, h1, h2⟩, rfl⟩))
    go_ret
    refine ⟨?_, rfl⟩
    rw [HS.out]
    first | rfl | rw [h1]; rfl)
/-- The document's look for a byte in a text. -/
def Rel51 (s : ByteArray) (c : Nat) (i : Value) : Prop := ∃ k : Nat, k ≤ s.size ∧ i = .int .i64 k ∧ Hid (hasC (ls s) c = hasC ((ls s).drop k) c)
theorem cont_cons (s : ByteArray) (k c : Nat) (hc : c < 256) (hk : k < s.size) : hasC ((ls s).drop k) c = ((bt s k == (c : Int)) || hasC ((ls s).drop (k + 1)) c) := by
  unfold hasC
  rw [ls_cut s k hk, List.contains_cons, bt_at]
  congr 1
  have h1 := at0_lt (ls s) k
  by_cases e : at0 (ls s) k = c
  · rw [e]; simp
  · rw [beq_eq_false_iff_ne.2 (fun h => e (by have := congrArg UInt8.toNat h; simp at this; omega)), beq_eq_false_iff_ne.2 (by omega)]
set_option maxHeartbeats 1000000 in
set_option maxRecDepth 100000 in
theorem in51 (s : ByteArray) (hs : s.size ≤ 9223372036854775807) (c : Nat) (hc : c < 256) (w : World) : Calls Tryz.prog 51 #[.string s, .int .u8 c] w fun e w' => e = .returned (.bool (hasC (ls s) c)) ∧ w = w' := by
  have hb := get_bt s
  go_enter Tryz.func51, Tryz.ntmps51
  go_wp2
  go_loop [5] (Rel51 s c) (fun i => s.size - (intOf i).toNat)
  case atStart => exact ⟨0, Nat.zero_le _, rfl, Lib.hid rfl⟩
  case round =>
    obtain ⟨k, hk, rfl, HR⟩ := hrel
    by_cases hlt : k < s.size
    · have HC := Lib.hid (cont_cons s k c hc hlt)
      cases hq : (bt s k == (c : Int))
      · have HE : Hid (hasC (ls s) c = hasC ((ls s).drop (k + 1)) c) := Lib.hid (by rw [HR.out, HC.out, hq, Bool.false_or])
        go_wp2
        go_round
        case rel => exact ⟨k + 1, by omega, by go_num, HE⟩
        case measure => simp [intOf]; omega
      · have HE : Hid (hasC (ls s) c = true) := Lib.hid (by rw [HR.out, HC.out, hq, Bool.true_or])
        go_wp2
        go_ret
        rw [HE.out]; exact ⟨rfl, rfl⟩
    · obtain rfl : k = s.size := by omega
      have HE : Hid (hasC (ls s) c = false) := Lib.hid (by rw [HR.out, List.drop_of_length_le (by rw [ls_len]; exact Nat.le_refl _)]; rfl)
      go_wp2
      go_ret
      rw [HE.out]; exact ⟨rfl, rfl⟩
set_option maxHeartbeats 1000000 in
set_option maxRecDepth 100000 in
theorem bare22 (c : Nat) (hc : c < 256) (w : World) : Calls Tryz.prog 22 #[.int .u8 c] w fun e w' => e = .returned (.bool (bareN c)) ∧ w = w' := by
  have C0 := Lib.hid fun W => lett49 c hc W
  have C1 := Lib.hid fun W => dig50 c hc W
  have C2 := Lib.hid fun W => in51 ⟨#[95, 46, 47, 44, 43, 45, 58, 64, 42, 63, 91, 93, 33, 94, 61, 126, 37]⟩ (by decide) c hc W
  obtain ⟨b2, H2⟩ : ∃ b, hasC bareS c = b := ⟨_, rfl⟩
  rw [show ls ⟨#[95, 46, 47, 44, 43, 45, 58, 64, 42, 63, 91, 93, 33, 94, 61, 126, 37]⟩ = bareS from rfl, H2] at C2
  have HS : Hid (bareN c = (lettN c || digN c || b2)) := Lib.hid (by unfold bareN; rw [H2])
  clear H2
  generalize lettN c = b0 at C0 HS
  generalize digN c = b1 at C1 HS
  cases b0 <;> cases b1 <;> cases b2
  all_goals (
    go_enter Tryz.func22, Tryz.ntmps22
    go_wp2_with (first
      | (go_at_call 49; refine (C0.out _).mono ?_; rintro e w' ⟨rfl, rfl⟩)
      | (go_at_call 50; refine (C1.out _).mono ?_; rintro e w' ⟨rfl, rfl⟩)
      | (go_at_call 51; refine (C2.out _).mono ?_; rintro e w' ⟨rfl, rfl⟩))
    go_ret
    exact ⟨by rw [HS.out]; rfl, rfl⟩)
end Go.Proofs.YtfaohicadahcjaaGreatDoor
