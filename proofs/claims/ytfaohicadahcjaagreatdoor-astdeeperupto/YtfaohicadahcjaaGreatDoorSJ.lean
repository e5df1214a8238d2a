/- AstTexts, walked. Conditions: lengths below a bound; the library's own variable holds some number. -/
import Derived.Test.YtfaohicadahcjaaGreatDoorSI
namespace Go.Proofs.YtfaohicadahcjaaGreatDoor
open Go.RowKit Go.PlainAid Go.ChangeShapes Go.WideShapes Go.ChangeAt
set_option linter.unusedSimpArgs false
set_option linter.unusedVariables false
def spS : List UInt8 := [64, 42, 35, 63, 45, 36, 33]
theorem sp_one (s : ByteArray) (h : s.size = 1) : spL (ls s) = hasC spS (at0 (ls s) 0) := by
  have hl : (ls s).length = 1 := by rw [ls_len]; exact h
  obtain ⟨b, hb⟩ := List.length_eq_one_iff.1 hl
  rw [hb]
  show spL [b] = hasC spS b.toNat
  unfold spL hasC spS
  simp
theorem sp_not (s : ByteArray) (h : s.size ≠ 1) : spL (ls s) = false := by
  have hl : (ls s).length ≠ 1 := by rw [ls_len]; exact h
  unfold spL
  rw [List.contains_eq_mem]
  apply decide_eq_false
  intro hm
  simp only [List.mem_cons, List.not_mem_nil, or_false] at hm
  rcases hm with e | e | e | e | e | e | e <;> (rw [e] at hl; exact hl rfl)
set_option maxHeartbeats 1000000 in
set_option maxRecDepth 100000 in
theorem sp28 (s : ByteArray) (w : World) : Calls Tryz.prog 28 #[.string s] w fun e w' => e = .returned (.bool (spL (ls s))) ∧ w = w' := by
  have hb := get_bt s
  have h1 := eqz s.size 1
  have h2 : ((s.size : Int) == 1) = decide (s.size = 1) := by rw [eq_int]; exact decide_eq_decide.2 (by omega)
  by_cases h : s.size = 1
  · have HS := Lib.hid (sp_one s h)
    rw [decide_eq_true h] at h1 h2
    have C := Lib.hid fun W => in51 ⟨#[64, 42, 35, 63, 45, 36, 33]⟩ (by decide) (at0 (ls s) 0) (at0_lt _ _) W
    rw [← bt_at, show ls ⟨#[64, 42, 35, 63, 45, 36, 33]⟩ = spS from rfl] at C
    have hp : 0 < s.size := by omega
    rw [HS.out]
    generalize hasC spS (at0 (ls s) 0) = b0 at C ⊢
    clear h
    cases b0
    all_goals (
      go_enter Tryz.func28, Tryz.ntmps28
      go_wp2_with (go_at_call 51; refine (C.out _).mono ?_; rintro e w' ⟨rfl, rfl⟩)
      go_ret
      exact ⟨rfl, rfl⟩)
  · have HS := Lib.hid (sp_not s h)
    rw [decide_eq_false h] at h1 h2
    rw [HS.out]
    clear h
    go_enter Tryz.func28, Tryz.ntmps28
    go_wp2
    go_ret
    exact ⟨rfl, rfl⟩
theorem plain_flat : ∀ l : List Pt, plainL (l.map flatP) = plainL l
  | [] => rfl
  | p :: r => by
    rw [List.map_cons, plainL, plainL, plain_flat r]
    rfl
set_option maxHeartbeats 16000000 in
set_option maxRecDepth 100000 in
theorem texts5 (n : Nat) (s : ByteArray) (c : Nat) (v : Value) (l : List Pt) (w : World) (hs : s.size ≤ 1048576) (hc : c < 256) (h : WdAt n w v l) (he : Env w) :
    Calls Tryz.prog 5 #[.string s, .int .u8 c, v] w fun e w' => e = .returned (.bool true) ∧ Below w.heap.size w w' := by
  have CA := Lib.hid (anchor8 w he)
  have HL := Lib.hid h
  have hlen := at_len _ _ _ _ h
  have C17 := Lib.hid fun W (hW : WdAt n W v l) => plain17 n v l W hW
  have C20 := Lib.hid fun W (hW : WdAt n W v l) => bytes20 n v l W hW
  have C19 := Lib.hid fun W u (hW : WdAt 1 W u (l.map flatP)) => word19_flat u _ W hW
  have C18 := Lib.hid fun W u (hW : WdAt 1 W u (l.map flatP)) => plain18 1 u _ W hW
  rw [plain_flat] at C18
  obtain ⟨a, cc, rfl⟩ := wd_shape _ _ _ _ h
  obtain ⟨q, Hq⟩ : ∃ q, Hid (l.length = q) := ⟨_, Lib.hid rfl⟩
  rw [Hq.out] at HL hlen C17 C20 ⊢
  have C21 := Lib.hid fun W => bare21 c hc W
  have C22 := Lib.hid fun W => bare22 c hc W
  have C23 := Lib.hid fun W => name23 s (by omega) W
  have C24 := Lib.hid fun W => name24 s (by omega) W
  have C25 := Lib.hid fun W => num25 s (by omega) W
  have C26 := Lib.hid fun W => num26 s (by omega) W
  have C27 := Lib.hid fun W => sp27 s W
  have C28 := Lib.hid fun W => sp28 s W
  have C29 := Lib.hid fun W => res29 s W
  have C30 := Lib.hid fun W => res30 s W
  have C31 := Lib.hid fun W => op31 s W
  have C32 := Lib.hid fun W => op32 s W
  have C33 := Lib.hid fun W => sum33 s (by omega) W
  have C34 := Lib.hid fun W => sum34 s (by omega) W
  generalize bareN c = y1 at C21 C22
  generalize nameL (ls s) = y2 at C23 C24
  generalize numL (ls s) = y3 at C25 C26
  generalize spL (ls s) = y4 at C27 C28
  generalize resL (ls s) = y5 at C29 C30
  generalize opL (ls s) = y6 at C31 C32
  generalize sumL (ls s) = y7 at C33 C34
  have z1 : (y1 != y1) = false := by simp
  have z1' : (y1 == y1) = true := by simp
  have z2 : (y2 == y2) = true := by simp
  have z3 : (y3 == y3) = true := by simp
  have z4 : (y4 == y4) = true := by simp
  have z5 : (y5 == y5) = true := by simp
  have z6 : (y6 == y6) = true := by simp
  have z7 : (y7 == y7) = true := by simp
  obtain ⟨x0, H0⟩ : ∃ b, Hid (decide (500 < s.size) = b) := ⟨_, Lib.hid rfl⟩
  obtain ⟨x1, H1⟩ : ∃ b, Hid (decide (50 < q) = b) := ⟨_, Lib.hid rfl⟩
  have t0 : decide (500 < (s.size : Int)) = x0 := by rw [← H0.out]; exact decide_eq_decide.2 (by omega)
  have t1 : decide (50 < (q : Int)) = x1 := by rw [← H1.out]; exact decide_eq_decide.2 (by omega)
  have t0' := H0.out
  have t1' := H1.out
  clear h he
  go_enter Tryz.func5, Tryz.ntmps5
  go_wp2_with fail
  refine CA.out.mono ?_
  rintro e w1 ⟨rfl, b1⟩
  have HB1 := Lib.hid b1
  have C17 := Lib.hid (C17.out w1 (kept_wd n _ _ _ _ HL.out b1))
  clear b1
  cases x0
  case true =>
    go_wp2
    go_ret
    exact ⟨rfl, HB1.out⟩
  cases x1
  case true =>
    go_wp2
    go_ret
    exact ⟨rfl, HB1.out⟩
  go_wp2_with fail
  refine C17.out.mono ?_
  rintro e w2 ⟨rfl, b2⟩
  have HB2 := Lib.hid (HB1.out.trans (b2.mono HB1.out.size))
  have C20 := Lib.hid (C20.out w2 (kept_wd n _ _ _ _ HL.out HB2.out))
  clear b2
  obtain ⟨T, Q, O, HP⟩ : ∃ T Q O, Hid (plainV (plainL l) = .tuple #[.string T, .bool Q, .bool O]) := by
    rcases plainL l with _ | ⟨t, q⟩
    · exact ⟨_, _, _, Lib.hid rfl⟩
    · exact ⟨_, _, _, Lib.hid rfl⟩
  rw [HP.out] at C18 ⊢
  have u1 : (T.toList == T.toList) = true := by simp
  have u1' : (T.toList != T.toList) = false := by simp
  have u2 : (Q != Q) = false := by simp
  have u2' : (Q == Q) = true := by simp
  have u3 : (O != O) = false := by simp
  have u3' : (O == O) = true := by simp
  go_wp2_with fail
  refine C20.out.mono ?_
  rintro e w3 ⟨v3, rfl, k3, b3⟩
  have HB3 := Lib.hid (HB2.out.trans (b3.mono HB2.out.size))
  have C19 := Lib.hid (C19.out w3 v3 k3)
  clear b3 k3
  go_wp2_with fail
  refine C19.out.mono ?_
  rintro e w4 ⟨v4, rfl, k4, b4⟩
  have HB4 := HB3.out.trans (b4.mono HB3.out.size)
  have C18 := Lib.hid (C18.out w4 v4 k4)
  clear b4 k4
  go_wp2_with fail
  refine C18.out.mono ?_
  rintro e w5 ⟨rfl, rfl⟩
  go_wp2_with (first
    | (go_at_call 21; refine (C21.out _).mono ?_; rintro e w6 ⟨rfl, rfl⟩)
    | (go_at_call 22; refine (C22.out _).mono ?_; rintro e w6 ⟨rfl, rfl⟩)
    | (go_at_call 23; refine (C23.out _).mono ?_; rintro e w6 ⟨rfl, rfl⟩)
    | (go_at_call 24; refine (C24.out _).mono ?_; rintro e w6 ⟨rfl, rfl⟩)
    | (go_at_call 25; refine (C25.out _).mono ?_; rintro e w6 ⟨rfl, rfl⟩)
    | (go_at_call 26; refine (C26.out _).mono ?_; rintro e w6 ⟨rfl, rfl⟩)
    | (go_at_call 27; refine (C27.out _).mono ?_; rintro e w6 ⟨rfl, rfl⟩)
    | (go_at_call 28; refine (C28.out _).mono ?_; rintro e w6 ⟨rfl, rfl⟩)
    | (go_at_call 29; refine (C29.out _).mono ?_; rintro e w6 ⟨rfl, rfl⟩)
    | (go_at_call 30; refine (C30.out _).mono ?_; rintro e w6 ⟨rfl, hb⟩; replace HB4 := HB4.trans (hb.mono HB4.size); clear hb)
    | (go_at_call 31; refine (C31.out _).mono ?_; rintro e w6 ⟨rfl, rfl⟩)
    | (go_at_call 32; refine (C32.out _).mono ?_; rintro e w6 ⟨rfl, hb⟩; replace HB4 := HB4.trans (hb.mono HB4.size); clear hb)
    | (go_at_call 33; refine (C33.out _).mono ?_; rintro e w6 ⟨rfl, rfl⟩)
    | (go_at_call 34; refine (C34.out _).mono ?_; rintro e w6 ⟨rfl, rfl⟩))
  go_ret
  exact ⟨rfl, HB4⟩
end Go.Proofs.YtfaohicadahcjaaGreatDoor
