/- Contracts: Halves, Of, the anchor, ours; Half, Of, In, the document's; small. Conditions: numbers that have a tag. -/
import Derived.Test.YtabnhdbhccbebaaA
namespace Go.Proofs.Ytabnhdbhccbebaa
open Go.RowKit Go.PlainAid
set_option linter.unusedSimpArgs false
set_option linter.unusedVariables false

theorem cat_mk (a : ByteArray) (l : List UInt8) : a ++ mk l = mk (ls a ++ l) := by rw [app_ls, ls_mk]
theorem lit2 (a b : UInt8) (l : List UInt8) : (⟨#[a, b]⟩ : ByteArray) ++ mk l = mk (a :: b :: l) := cat_mk _ _
set_option maxHeartbeats 1000000 in
set_option maxRecDepth 100000 in
theorem halves10 (n : Nat) (hn : n < 11881376) (w : World) : Calls Try.prog 10 #[.int .i64 n] w fun e w' => e = .returned (.tuple #[.string (mk (66 :: 81 :: sp 5 n)), .string (mk (69 :: 81 :: sp 5 n))]) ∧ Below w.heap.size w w' := by
  have C := Lib.hid (spell17 n hn)
  have CR := Lib.hid (right15 n)
  have e1 : (decide ((0 : Int) ≤ (n : Int)) && decide ((n : Int) < 11881376)) = true := by
    rw [decide_eq_true (by omega), decide_eq_true (by omega)]; rfl
  rw [e1] at CR
  rw [← lit2 66 81, ← lit2 69 81]
  have hs : (mk (sp 5 n)).size = 5 := by rw [mk_size, sp_len]
  generalize mk (sp 5 n) = S at C hs ⊢
  have n1 : ¬ 9223372036854775807 < (⟨#[66, 81]⟩ : ByteArray).size + S.size := by show ¬ _ < 2 + S.size; omega
  have n2 : ¬ 9223372036854775807 < (⟨#[69, 81]⟩ : ByteArray).size + S.size := by show ¬ _ < 2 + S.size; omega
  clear e1
  go_enter Try.func10, Try.ntmps10
  go_wp2_with (first
    | (go_at_call 15; refine (CR.out _).mono ?_; rintro e w' ⟨rfl, rfl⟩)
    | (go_at_call 17; refine (C.out _).mono ?_; rintro e w' ⟨rfl, b1⟩; have B1 := Lib.hid b1; clear b1))
  go_ret2
  exact ⟨rfl, B1.out⟩
theorem ls_mid : ls ⟨#[95, 83, 69, 65, 66, 65, 71, 95]⟩ = [95, 83, 69, 65, 66, 65, 71, 95] := rfl
theorem tag_is (n : Nat) : mk (66 :: 81 :: sp 5 n) ++ ⟨#[95, 83, 69, 65, 66, 65, 71, 95]⟩ ++ mk (69 :: 81 :: sp 5 n) = mk (tagL n) := by
  rw [cat_mk, app_ls2, ls_mk, ls_mid]; rfl
set_option maxHeartbeats 1000000 in
set_option maxRecDepth 100000 in
theorem of12 (n : Nat) (hn : n < 11881376) (w : World) : Calls Try.prog 12 #[.int .i64 n] w fun e w' => e = .returned (.string (mk (tagL n))) ∧ Below w.heap.size w w' := by
  have C := Lib.hid (halves10 n hn)
  rw [← tag_is]
  have h1 : (mk (66 :: 81 :: sp 5 n)).size = 7 := by rw [mk_size]; simp [sp_len]
  have h2 : (mk (69 :: 81 :: sp 5 n)).size = 7 := by rw [mk_size]; simp [sp_len]
  generalize mk (66 :: 81 :: sp 5 n) = S at C h1 ⊢
  generalize mk (69 :: 81 :: sp 5 n) = T at C h2 ⊢
  have hne := toList_ne (s := S) (by omega)
  have n1 : ¬ 9223372036854775807 < S.size + (⟨#[95, 83, 69, 65, 66, 65, 71, 95]⟩ : ByteArray).size := by show ¬ _ < S.size + 8; omega
  have z1 : (S ++ (⟨#[95, 83, 69, 65, 66, 65, 71, 95]⟩ : ByteArray)).size = 15 := by rw [ByteArray.size_append]; show S.size + 8 = 15; omega
  obtain ⟨G, HG⟩ : ∃ G, Hid (S ++ (⟨#[95, 83, 69, 65, 66, 65, 71, 95]⟩ : ByteArray) = G) := ⟨_, Lib.hid rfl⟩
  rw [HG.out] at z1 ⊢
  have hg := HG.out
  have n2 : ¬ 9223372036854775807 < G.size + T.size := by omega
  go_enter Try.func12, Try.ntmps12
  go_wp2_with fail
  refine (C.out _).mono ?_
  rintro e w1 ⟨rfl, b1⟩
  have B1 := Lib.hid b1
  clear b1 C
  go_wp2
  go_ret
  exact ⟨rfl, B1.out⟩
set_option maxHeartbeats 1000000 in
set_option maxRecDepth 100000 in
theorem anchor6 (w : World) : Calls Try.prog 6 #[] w fun e w' => e = .returned (.bool true) ∧ Below w.heap.size w w' := by
  have C := Lib.hid (of12 27 (by omega))
  have e1 : mk (tagL 27) = ⟨#[66, 81, 65, 65, 65, 66, 66, 95, 83, 69, 65, 66, 65, 71, 95, 69, 81, 65, 65, 65, 66, 66]⟩ := by decide +kernel
  rw [e1] at C
  clear e1
  go_enter Try.func6, Try.ntmps6
  go_wp2_with (go_at_call 12; refine (C.out _).mono ?_; rintro e w' ⟨rfl, b1⟩; have B1 := Lib.hid b1; clear b1)
  go_ret
  exact ⟨rfl, B1.out⟩
def Rel11 (n B : Nat) (w : World) (x out i : Value) (wx : World) : Prop := ∃ (k m : Nat) (low : List UInt8), k ≤ 5 ∧ x = .int .i64 m ∧ m < 11881376 ∧ out = .string (mk low) ∧ low.length = k ∧ i = .int .i64 k ∧ Hid (sp (5 - k) m ++ low = sp 5 n) ∧ Hid (Below B w wx)
set_option maxHeartbeats 4000000 in
set_option maxRecDepth 100000 in
theorem half11 (s : ByteArray) (hs : s.size ≤ 100) (n : Nat) (hn : n < 11881376) (w : World) : Calls Try.prog 11 #[.string s, .int .i64 n] w fun e w' => e = .returned (.string (s ++ mk (sp 5 n))) ∧ Below w.heap.size w w' := by
  go_enter Try.func11, Try.ntmps11
  go_wp2
  go_loopw [1, 5, 6] (Rel11 n w.heap.size w) (fun _ _ i _ => 5 - (intOf i).toNat)
  case atStart => exact ⟨0, n, [], by omega, rfl, hn, rfl, rfl, rfl, Lib.hid (List.append_nil _), Lib.hid (Below.refl _ _)⟩
  case round =>
    obtain ⟨k, m, low, hk, rfl, hm, rfl, hl, rfl, HS, HB⟩ := hrel
    rename World => wx
    by_cases h5 : k < 5
    · have hbk : (convert 35 9 (.slice (some ⟨wx.heap.size, 0, none⟩) 1 1)).run Try.prog (wx.alloc (.cells #[.int .u8 (65 + (m : Int) % 26)] 5)) = .ok (.string (mk [lett m])) (wx.alloc (.cells #[.int .u8 (65 + (m : Int) % 26)] 5)) :=
        new_back wx [lett m] #[.int .u8 (65 + (m : Int) % 26)] (by simp [bc, lett_nat]) 1
      have HB2 := Lib.hid (HB.out.alloc HB.out.size (.cells #[.int .u8 (65 + (m : Int) % 26)] 5))
      have hz : (mk low).size = k := by rw [mk_size, hl]
      have HC : Hid (mk [lett m] ++ mk low = mk (lett m :: low)) := Lib.hid (by rw [mk_app]; rfl)
      have hz1 : (mk [lett m]).size = 1 := rfl
      have hl2 : (lett m :: low).length = k + 1 := by simp [hl]
      have HS2 : Hid (sp (5 - (k + 1)) (m / 26) ++ (lett m :: low) = sp 5 n) := Lib.hid (by
        rw [← HS.out, show 5 - k = (5 - (k + 1)) + 1 by omega, sp, List.append_assoc]; rfl)
      generalize mk low = F at hz HC ⊢
      generalize mk [lett m] = L at hbk HC hz1 ⊢
      have n1 : ¬ 9223372036854775807 < L.size + F.size := by omega
      have hm2 : m % 26 < 26 := Nat.mod_lt _ (by omega)
      clear HS hl
      go_wp2
      go_roundw
      case rel => exact ⟨k + 1, m / 26, lett m :: low, by omega, by rw [Int.natCast_ediv]; rfl, by omega, congrArg _ HC.out, hl2, by go_num, HS2, HB2⟩
      case measure => simp [intOf]; omega
    · obtain rfl : k = 5 := by omega
      have e1 : low = sp 5 n := HS.out
      subst e1
      have hz : (mk (sp 5 n)).size = 5 := by rw [mk_size, sp_len]
      obtain ⟨F, HF⟩ : ∃ F, Hid (mk (sp 5 n) = F) := ⟨_, Lib.hid rfl⟩
      rw [HF.out] at hz ⊢
      have n1 : ¬ 9223372036854775807 < s.size + F.size := by omega
      go_wp2
      go_ret
      exact ⟨by rw [HF.out]; rfl, HB.out⟩
set_option maxHeartbeats 1000000 in
set_option maxRecDepth 100000 in
theorem of13 (n : Nat) (hn : n < 11881376) (w : World) : Calls Try.prog 13 #[.int .i64 n] w fun e w' => e = .returned (.string (mk (tagL n))) ∧ Below w.heap.size w w' := by
  have C1 := Lib.hid (half11 ⟨#[66, 81]⟩ (by decide) n hn)
  have C2 := Lib.hid (half11 ⟨#[69, 81]⟩ (by decide) n hn)
  rw [← tag_is]
  rw [lit2] at C1 C2
  have h1 : (mk (66 :: 81 :: sp 5 n)).size = 7 := by rw [mk_size]; simp [sp_len]
  have h2 : (mk (69 :: 81 :: sp 5 n)).size = 7 := by rw [mk_size]; simp [sp_len]
  generalize mk (66 :: 81 :: sp 5 n) = S at C1 h1 ⊢
  generalize mk (69 :: 81 :: sp 5 n) = T at C2 h2 ⊢
  have n1 : ¬ 9223372036854775807 < S.size + (⟨#[95, 83, 69, 65, 66, 65, 71, 95]⟩ : ByteArray).size := by show ¬ _ < S.size + 8; omega
  have z1 : (S ++ (⟨#[95, 83, 69, 65, 66, 65, 71, 95]⟩ : ByteArray)).size = 15 := by rw [ByteArray.size_append]; show S.size + 8 = 15; omega
  obtain ⟨G, HG⟩ : ∃ G, Hid (S ++ (⟨#[95, 83, 69, 65, 66, 65, 71, 95]⟩ : ByteArray) = G) := ⟨_, Lib.hid rfl⟩
  rw [HG.out] at z1 ⊢
  have hg := HG.out
  have n2 : ¬ 9223372036854775807 < G.size + T.size := by omega
  go_enter Try.func13, Try.ntmps13
  go_wp2_with (first
    | (go_at_call 11; refine (C1.out _).mono ?_; rintro e w1 ⟨rfl, b1⟩; have B1 := Lib.hid b1; clear b1 C1)
    | (go_at_call 11; refine (C2.out _).mono ?_; rintro e w2 ⟨rfl, b2⟩; have B2 := Lib.hid (B1.out.trans (b2.mono B1.out.size)); clear b2 C2))
  go_ret
  exact ⟨rfl, B2.out⟩
end Go.Proofs.Ytabnhdbhccbebaa
