/- Contracts: Halves, Of, the anchor, ours; Half, Of, In, the document's; small. Conditions: numbers that have a tag. -/
import Derived.Test.YtabnhdbhccbebaaDoorA
namespace Go.Proofs.YtabnhdbhccbebaaDoor
open Go.RowKit Go.PlainAid
set_option linter.unusedSimpArgs false
set_option linter.unusedVariables false

theorem cat_mk (a : ByteArray) (l : List UInt8) : a ++ mk l = mk (ls a ++ l) := by rw [app_ls, ls_mk]
theorem lit2 (a b : UInt8) (l : List UInt8) : (⟨#[a, b]⟩ : ByteArray) ++ mk l = mk (a :: b :: l) := cat_mk _ _
set_option maxHeartbeats 1000000 in
set_option maxRecDepth 100000 in
theorem halves10 (n : Nat) (hn : n < 11881376) (w : World) : Calls Tryd.prog 11 #[.int .i64 n] w fun e w' => e = .returned (.tuple #[.string (mk (66 :: 81 :: sp 5 n)), .string (mk (69 :: 81 :: sp 5 n))]) ∧ Below w.heap.size w w' := by
  have C := Lib.hid (spell17 n hn)
  have CR := Lib.hid (right15 n)
  have e1 : (decide ((0 : Int) ≤ (n : Int)) && decide ((n : Int) < 11881376)) = true := by
    rw [decide_eq_true (by omega), decide_eq_true (by omega)]; rfl
  rw [e1] at CR
  rw [← lit2 66 81, ← lit2 69 81]
  have hs : (mk (sp 5 n)).size = 5 := by rw [mk_size, sp_len]
  generalize mk (sp 5 n) = S at C hs ⊢
  have n1 : ¬ 9223372036854775807 < (⟨#[66, 81]⟩ : ByteArray).size + S.size := by show ¬ _ < 2 + S.size; omega
  have n2 : ¬ 9223372036854775807 < (⟨#[69, 81]⟩ : ByteArray).size + S.size := by show ¬ _ < 2 + S.size; omega
  clear e1
  go_enter Tryd.func11, Tryd.ntmps11
  go_wp2_with (first
    | (go_at_call 13; refine (CR.out _).mono ?_; rintro e w' ⟨rfl, rfl⟩)
    | (go_at_call 14; refine (C.out _).mono ?_; rintro e w' ⟨rfl, b1⟩; have B1 := Lib.hid b1; clear b1))
  go_ret2
  exact ⟨rfl, B1.out⟩
theorem ls_mid : ls ⟨#[95, 83, 69, 65, 66, 65, 71, 95]⟩ = [95, 83, 69, 65, 66, 65, 71, 95] := rfl
theorem tag_is (n : Nat) : mk (66 :: 81 :: sp 5 n) ++ ⟨#[95, 83, 69, 65, 66, 65, 71, 95]⟩ ++ mk (69 :: 81 :: sp 5 n) = mk (tagL n) := by
  rw [cat_mk, app_ls2, ls_mk, ls_mid]; rfl
set_option maxHeartbeats 1000000 in
set_option maxRecDepth 100000 in
theorem of12 (n : Nat) (hn : n < 11881376) (w : World) : Calls Tryd.prog 8 #[.int .i64 n] w fun e w' => e = .returned (.string (mk (tagL n))) ∧ Below w.heap.size w w' := by
  have C := Lib.hid (halves10 n hn)
  rw [← tag_is]
  have h1 : (mk (66 :: 81 :: sp 5 n)).size = 7 := by rw [mk_size]; simp [sp_len]
  have h2 : (mk (69 :: 81 :: sp 5 n)).size = 7 := by rw [mk_size]; simp [sp_len]
  generalize mk (66 :: 81 :: sp 5 n) = S at C h1 ⊢
  generalize mk (69 :: 81 :: sp 5 n) = T at C h2 ⊢
  have hne := toList_ne (s := S) (by omega)
  have n1 : ¬ 9223372036854775807 < S.size + (⟨#[95, 83, 69, 65, 66, 65, 71, 95]⟩ : ByteArray).size := by show ¬ _ < S.size + 8; omega
  have z1 : (S ++ (⟨#[95, 83, 69, 65, 66, 65, 71, 95]⟩ : ByteArray)).size = 15 := by rw [ByteArray.size_append]; show S.size + 8 = 15; omega
  obtain ⟨G, HG⟩ : ∃ G, Hid (S ++ (⟨#[95, 83, 69, 65, 66, 65, 71, 95]⟩ : ByteArray) = G) := ⟨_, Lib.hid rfl⟩
  rw [HG.out] at z1 ⊢
  have hg := HG.out
  have n2 : ¬ 9223372036854775807 < G.size + T.size := by omega
  go_enter Tryd.func8, Tryd.ntmps8
  go_wp2_with fail
  refine (C.out _).mono ?_
  rintro e w1 ⟨rfl, b1⟩
  have B1 := Lib.hid b1
  clear b1 C
  go_wp2
  go_ret
  exact ⟨rfl, B1.out⟩
set_option maxHeartbeats 1000000 in
set_option maxRecDepth 100000 in
theorem anchor6 (w : World) : Calls Tryd.prog 4 #[] w fun e w' => e = .returned (.bool true) ∧ Below w.heap.size w w' := by
  have C := Lib.hid (of12 27 (by omega))
  have e1 : mk (tagL 27) = ⟨#[66, 81, 65, 65, 65, 66, 66, 95, 83, 69, 65, 66, 65, 71, 95, 69, 81, 65, 65, 65, 66, 66]⟩ := by decide +kernel
  rw [e1] at C
  clear e1
  go_enter Tryd.func4, Tryd.ntmps4
  go_wp2_with (go_at_call 8; refine (C.out _).mono ?_; rintro e w' ⟨rfl, b1⟩; have B1 := Lib.hid b1; clear b1)
  go_ret
  exact ⟨rfl, B1.out⟩
end Go.Proofs.YtabnhdbhccbebaaDoor
