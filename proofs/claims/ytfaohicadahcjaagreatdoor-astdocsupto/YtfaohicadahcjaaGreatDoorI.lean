/- Contracts: a command's first word. Conditions: lengths below a bound. -/
import Derived.Test.YtfaohicadahcjaaGreatDoorH
import Derived.Test.YtfaohicadahcjaaGreatDoorMc
namespace Go.Proofs.YtfaohicadahcjaaGreatDoor
open Go.RowKit Go.PlainAid Go.ChangeShapes Go.WideShapes Go.ChangeAt
set_option linter.unusedSimpArgs false
set_option linter.unusedVariables false
theorem begB_is (p : Pt) (r : List Pt) (l : List (List Pt)) (x : Nat) (hx : nmA true (ls p.text) = x) : begB ((p :: r) :: l) = if beginsB (p :: r) = true then (if decide (0 < x) && decide (x < p.text.size) && decide (at0 (ls p.text) x = 61) then false else (decide (1 ≤ r.length) || !resL (ls p.text))) else true := by
  subst hx
  rw [begB, beg_cons]
  simp only [ls_len]
set_option maxHeartbeats 4000000 in
set_option maxRecDepth 100000 in
theorem beginning80 (n : Nat) (v : Value) (l : List (List Pt)) (w : World) (h : WsAt n w v l) : Calls Tryz.prog 80 #[v] w fun e w' => e = .returned (.bool (begB l)) ∧ w = w' := by
  rcases l with _ | ⟨x, l⟩
  · obtain ⟨a, c, rfl⟩ := h.shape
    clear h
    go_enter Tryz.func80, Tryz.ntmps80
    go_wp2
    go_ret
    exact ⟨rfl, rfl⟩
  obtain ⟨b, off, c, u, rfl, hc, hcell, hu⟩ := one_at h 0 (by simp)
  have hlen := h.len
  clear h
  simp only [List.getElem_cons_zero, Nat.add_zero, List.length_cons] at hcell hu hlen hc ⊢
  obtain ⟨q, Hq⟩ : ∃ q, Hid (l.length + 1 = q) := ⟨_, Lib.hid rfl⟩
  rw [Hq.out] at hlen hc ⊢
  have hpos : 0 < q := by rw [← Hq.out]; omega
  have hz : (q == 0) = false := by simp; omega
  have hz2 : ((q : Int) == 0) = false := by rw [eq_int]; simp; omega
  have CB := Lib.hid (begins106 n u x w hu)
  rcases x with _ | ⟨p, r⟩
  · have HE : Hid (begB ([] :: l) = true) := Lib.hid rfl
    obtain ⟨a, c, rfl⟩ := wd_shape _ _ _ _ hu
    rw [show beginsB [] = false from rfl] at CB
    clear hu
    go_enter Tryz.func80, Tryz.ntmps80
    go_wp2_with (go_at_call 106; refine CB.out.mono ?_; rintro e w' ⟨rfl, rfl⟩)
    go_ret
    rw [HE.out]; exact ⟨rfl, rfl⟩
  obtain ⟨m, b2, off2, c2, wv, bv, _, rfl, hc2, hfit, _, _, _, _, ct, _⟩ := wd_at hu 0 (by simp)
  have hl2 := at_len _ _ _ _ hu
  simp only [List.getElem_cons_zero, Nat.zero_mul, Nat.add_zero, List.length_cons] at ct hc2 hl2 hfit hcell CB
  obtain ⟨t, Ht⟩ : ∃ t, Hid (p.text = t) := ⟨_, Lib.hid rfl⟩
  obtain ⟨y, Hy⟩ : ∃ y, Hid (nmA true (ls p.text) = y) := ⟨_, Lib.hid rfl⟩
  have HBB := Lib.hid (begB_is p r l y Hy.out)
  have hts := hfit.t
  rw [Ht.out] at ct Hy HBB hts
  have C52 := Lib.hid fun W => nmA52 t (by omega) W
  have C29 := Lib.hid fun W => res29 t W
  have hyl : y ≤ t.size := by rw [← Hy.out, ← ls_len]; exact nmA_le _ _
  rw [Hy.out] at C52
  obtain ⟨q2, Hq2⟩ : ∃ q, Hid (r.length + 1 = q) := ⟨_, Lib.hid rfl⟩
  rw [Hq2.out] at hc2 hl2 hcell CB
  have hpos2 : 0 < q2 := by rw [← Hq2.out]; omega
  have hb := get_bt t
  obtain ⟨b1, h1⟩ : ∃ b, decide (0 < y) = b := ⟨_, rfl⟩
  have h1' : decide (0 < (y : Int)) = b1 := by rw [← h1]; exact decide_eq_decide.2 (by omega)
  obtain ⟨b2', h2⟩ : ∃ b, decide (y < t.size) = b := ⟨_, rfl⟩
  have h2' : decide ((y : Int) < (t.size : Int)) = b2' := by rw [← h2]; exact decide_eq_decide.2 (by omega)
  obtain ⟨b3, h3⟩ : ∃ b, decide (at0 (ls t) y = 61) = b := ⟨_, rfl⟩
  have h3' : (bt t y == 61) = b3 := by rw [← h3]; exact eq95 t y 61
  obtain ⟨b4, h4⟩ : ∃ b, decide (1 < q2) = b := ⟨_, rfl⟩
  have h4' : decide (1 < (q2 : Int)) = b4 := by rw [← h4]; exact decide_eq_decide.2 (by omega)
  have h5 : decide (1 ≤ r.length) = b4 := by rw [← h4, ← Hq2.out]; exact decide_eq_decide.2 (by omega)
  have HLT : Hid (b2' = true → y < t.size) := Lib.hid fun e => of_decide_eq_true (h2.trans e)
  rw [h1, h2, h3, h5] at HBB
  clear h3 h5 hu hfit
  generalize resL (ls t) = b5 at C29 HBB
  generalize beginsB (p :: r) = b0 at CB HBB
  cases b0
  · go_enter Tryz.func80, Tryz.ntmps80
    go_wp2_with (go_at_call 106; refine CB.out.mono ?_; rintro e w' ⟨rfl, rfl⟩)
    go_ret
    rw [HBB.out]; exact ⟨rfl, rfl⟩
  have HLT := HLT.out
  cases b1 <;> cases b2' <;> cases b3 <;> cases b4 <;> cases b5
  all_goals (
    first | have HLT := HLT rfl | clear HLT
    go_enter Tryz.func80, Tryz.ntmps80
    go_wp2_with (first
      | (go_at_call 106; refine CB.out.mono ?_; rintro e w' ⟨rfl, rfl⟩)
      | (go_at_call 52; refine (C52.out _).mono ?_; rintro e w' ⟨rfl, rfl⟩)
      | (go_at_call 29; refine (C29.out _).mono ?_; rintro e w' ⟨rfl, rfl⟩))
    go_ret
    rw [HBB.out]; exact ⟨rfl, rfl⟩)

/-! What one kind has. -/
def fl0 (x : Nd) : Bool := !emB x.name
def fl1 (x : Nd) : Bool := decide (0 < x.assigns.length)
def fl2 (x : Nd) : Bool := decide (0 < x.words.length)
def fl3 (x : Nd) : Bool := decide (0 < x.redirs.length)
def fl4 (x : Nd) : Bool := decide (0 < x.lists.length)
def fl5 (x : Nd) : Bool := decide (0 < x.arms.length)
def hasX (x : Nd) : Int := hasI (fl0 x) (fl1 x) (fl2 x) (fl3 x) (fl4 x) (fl5 x)
def onlyX (x : Nd) (m : Int) : Bool := bits .andNot .i64 (hasX x) m == 0
def shapeB (x : Nd) : Bool :=
  if x.kind = 1 then (hasX x != 0) && onlyX x 14 && begB x.words
  else if x.kind = 2 then onlyX x 16 && decide (2 ≤ x.lists.length) && singleM (fun _ k => pipeM k) 0 x.lists
  else if x.kind = 3 ∨ x.kind = 4 then onlyX x 16 && decide (x.lists.length = 2) && singleM orM 0 x.lists
  else if x.kind = 5 then onlyX x 16 && decide (x.lists.length = 1) && singleM (fun _ k => notM k) 0 x.lists
  else if x.kind = 6 then onlyX x 24 && (decide (x.lists.length = 2) || decide (x.lists.length = 3))
  else if x.kind = 7 ∨ x.kind = 8 then onlyX x 24 && decide (x.lists.length = 2)
  else if x.kind = 12 ∨ x.kind = 13 then onlyX x 24 && decide (x.lists.length = 1)
  else if x.kind = 9 then onlyX x 29 && nameL (ls x.name) && decide (x.lists.length = 1)
  else if x.kind = 10 then onlyX x 44 && decide (x.words.length = 1)
  else if x.kind = 11 then onlyX x 17 && nameL (ls x.name) && !resL (ls x.name) && decide (x.lists.length = 1) && singleM (fun _ k => funM k) 0 x.lists
  else false
end Go.Proofs.YtfaohicadahcjaaGreatDoor
