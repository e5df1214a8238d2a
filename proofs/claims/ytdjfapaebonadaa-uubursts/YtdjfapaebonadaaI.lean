/- Contracts of the document's Encode, and of the anchor. Conditions: lengths below a bound. -/
import Derived.Test.YtdjfapaebonadaaH
namespace Go.Proofs.Ytdjfapaebonadaa
open Go.RowKit Go.PlainAid
set_option linter.unusedSimpArgs false
set_option linter.unusedVariables false

set_option maxHeartbeats 2000000 in
set_option maxRecDepth 100000 in
theorem enc10_range (m : Int) (name s : ByteArray) (w : World) (h : ¬ (0 ≤ m ∧ m ≤ 4095)) : Calls Try.prog 10 #[.int .i64 m, .string name, .string s] w (Gives2 w ⟨#[]⟩ 10) := by
  by_cases h0 : m < 0
  · go_enter Try.func10, Try.ntmps10
    go_wp2
    go_ret2
    exact ⟨rfl, Below.refl _ _⟩
  · have h1 : 4095 < m := by omega
    go_enter Try.func10, Try.ntmps10
    go_wp2
    go_ret2
    exact ⟨rfl, Below.refl _ _⟩
set_option maxHeartbeats 2000000 in
set_option maxRecDepth 100000 in
theorem enc10_form (m : Int) (name s : ByteArray) (w : World) (h : 0 ≤ m ∧ m ≤ 4095) (hn : nameOk name = false) (hs : name.size ≤ maxLen) : Calls Try.prog 10 #[.int .i64 m, .string name, .string s] w (Gives2 w ⟨#[]⟩ 11) := by
  have CR := Lib.hid fun w => right23 name w hs
  have CI := Lib.hid fun w => newline24 name w hs
  obtain ⟨h0, h1⟩ := h
  clear hs
  unfold nameOk at hn
  cases hr : rightL (ls name)
  · rw [hr] at CR
    clear hn hr
    go_enter Try.func10, Try.ntmps10
    go_wp2_with (go_at_call 23; refine (CR.out _).mono ?_; rintro e w' ⟨rfl, rfl⟩)
    go_ret2
    exact ⟨rfl, Below.refl _ _⟩
  · rw [hr] at CR hn
    rw [show decide (10 ∈ ls name) = true by simpa using hn] at CI
    clear hn hr
    go_enter Try.func10, Try.ntmps10
    go_wp2_with (first
      | (go_at_call 23; refine (CR.out _).mono ?_; rintro e w' ⟨rfl, rfl⟩)
      | (go_at_call 24; refine (CI.out _).mono ?_; rintro e w' ⟨rfl, rfl⟩))
    go_ret2
    exact ⟨rfl, Below.refl _ _⟩
theorem head_is2 (m : Nat) (name : ByteArray) : ((⟨#[98, 101, 103, 105, 110, 32]⟩ : ByteArray) ++ mk (oct3 m) ++ ⟨#[32]⟩ ++ name) ++ ⟨#[10]⟩ = mk (headL m (ls name)) := by
  apply ls_inj
  rw [ls_app, ls_app, ls_app, ls_app, ls_mk, ls_mk]
  rfl
theorem restL_small (l : List UInt8) (h : l.length ≤ 3000) : (restL l).length ≤ 5000 := by rw [restL_len]; split <;> omega
set_option maxHeartbeats 4000000 in
set_option maxRecDepth 100000 in
theorem enc10_ok (m : Nat) (name s : ByteArray) (w : World) (h : m ≤ 4095) (hn : nameOk name = true) (hs : s.size ≤ 3000) : Calls Try.prog 10 #[.int .i64 m, .string name, .string s] w (Gives2 w (mk (encL m (ls name) (ls s))) 0) := by
  unfold nameOk at hn
  have hr : rightL (ls name) = true := by revert hn; cases rightL (ls name) <;> simp
  have hl := rightL_len hr
  have CR := Lib.hid fun w => right23 name w (by unfold maxLen; omega)
  have CI := Lib.hid fun w => newline24 name w (by unfold maxLen; omega)
  have CO := Lib.hid (digits25 m h w)
  have CS := Lib.hid fun w => rest13 s w hs
  rw [hr] at CR hn
  rw [show decide (10 ∈ ls name) = false by simpa using hn] at CI
  clear hn hr
  have hm0 : (0 : Int) ≤ m := by omega
  have hm1 : (m : Int) ≤ 4095 := by omega
  have HH := Lib.hid (head_is2 m name)
  have HF : Hid (mk (headL m (ls name)) ++ mk (restL (ls s)) = mk (encL m (ls name) (ls s))) := Lib.hid (by rw [mk_app]; rfl)
  have hO : (mk (oct3 m)).size = 3 := rfl
  have hR : (mk (restL (ls s))).size ≤ 5000 := by rw [mk_size]; exact restL_small _ (by rw [ls_len]; exact hs)
  have hcat : ¬ (9223372036854775807 < 6 + 3 + 1 + name.size + 1 + (mk (restL (ls s))).size) := by omega
  generalize mk (encL m (ls name) (ls s)) = F at HF ⊢
  generalize mk (oct3 m) = O at CO HH hO
  generalize mk (restL (ls s)) = R at CS HF hR hcat
  go_enter Try.func10, Try.ntmps10
  go_wp2_with (first
    | (go_at_call 23; refine (CR.out _).mono ?_; rintro e w' ⟨rfl, rfl⟩)
    | (go_at_call 24; refine (CI.out _).mono ?_; rintro e w' ⟨rfl, rfl⟩)
    | (go_at_call 25; fail))
  refine CO.out.mono ?_
  rintro e w1 ⟨rfl, b1⟩
  have B1 := Lib.hid b1
  clear b1 CO
  go_wp2_with (go_at_call 13; fail)
  refine (CS.out _).mono ?_
  rintro e w2 ⟨rfl, b2⟩
  have B2 := Lib.hid (B1.out.trans (b2.mono B1.out.size))
  clear b2 CS
  go_wp2
  go_ret2
  refine ⟨?_, B2.out⟩
  rw [← HF.out, ← HH.out]
  rfl
theorem anchor_enc : encL 420 [120] [67, 97, 116] = [98, 101, 103, 105, 110, 32, 54, 52, 52, 32, 120, 10, 35, 48, 86, 37, 84, 10, 96, 10, 101, 110, 100, 10] := by
  unfold encL
  rw [restL_cons (by simp)]
  show headL 420 [120] ++ (line [67, 97, 116] ++ restL []) = _
  rw [restL_nil]
  unfold line
  rw [body_cons (by simp), body_nil]
  show headL 420 [120] ++ (lt 3 :: (four (val3 [67, 97, 116]) ++ body [] ++ [10]) ++ (lt 0 :: ([] ++ [10]) ++ endL)) = _
  rw [body_nil]
  decide
set_option maxHeartbeats 1000000 in
set_option maxRecDepth 100000 in
theorem anchor8 (w : World) : Calls Try.prog 8 #[] w fun e w' => e = .returned (.bool true) ∧ Below w.heap.size w w' := by
  have C := Lib.hid (enc9_ok 420 ⟨#[120]⟩ ⟨#[67, 97, 116]⟩ w (by omega) (by decide) (by show 3 ≤ _; omega))
  rw [show ls ⟨#[120]⟩ = [120] from rfl, show ls ⟨#[67, 97, 116]⟩ = [67, 97, 116] from rfl, anchor_enc] at C
  rw [show mk [98, 101, 103, 105, 110, 32, 54, 52, 52, 32, 120, 10, 35, 48, 86, 37, 84, 10, 96, 10, 101, 110, 100, 10] = ⟨#[98, 101, 103, 105, 110, 32, 54, 52, 52, 32, 120, 10, 35, 48, 86, 37, 84, 10, 96, 10, 101, 110, 100, 10]⟩ from rfl] at C
  go_enter Try.func8, Try.ntmps8
  go_wp2_with (go_at_call 9; refine C.out.mono ?_)
  rintro e w1 ⟨rfl, b1⟩
  have B1 := Lib.hid b1
  clear b1 C
  go_wp2
  go_ret
  exact ⟨rfl, B1.out⟩
end Go.Proofs.Ytdjfapaebonadaa
