/- The document's parameters. Conditions: lengths below a bound. -/
import Derived.Test.YtfaohicadahcjaaGreatDoorTF
import Derived.Deep.DeepCutAuto
namespace Go.Proofs.YtfaohicadahcjaaGreatDoor
open Go.RowKit Go.PlainAid Go.ChangeShapes Go.WideShapes Go.ChangeAt
set_option linter.unusedSimpArgs false
set_option linter.unusedVariables false
def paramE (zb NM S E Ln zw Pc bg O Sh Wr : Bool) : Bool :=
  if !zb || (!NM && !S) then false
  else if E || Ln then zw && (E || NM)
  else if Pc && bg then false
  else O && !Sh && Wr
set_option maxHeartbeats 32000000 in
set_option maxRecDepth 100000 in
theorem part89_2 (q : Bool) (t o : ByteArray) (wa ba : Option Addr) (nw wc nb bc : Nat) (w : World) (lev deep : Int) (hd : decide (deep < lev) = false) (hl : Lv lev deep) (ht : t.size ≤ 1048576) (bg r : Bool) (hbg : FstOk w wa nw bg)
    (HW0 : ∀ W, Below w.heap.size w W → Calls Tryz.prog 62 #[.slice wa nw wc, .int .i64 (lev + 1), .int .i64 deep, .bool false] W fun e w' => e = .returned (.bool r) ∧ Below W.heap.size W w') :
    Calls Tryz.prog 89 #[.agg #[.int .i64 2, .bool q, .string t, .string o, .slice wa nw wc, .slice ba nb bc], .int .i64 lev, .int .i64 deep] w fun e w' => e = .returned (.bool (paramD (decide (nb = 0)) (nameL (ls t)) (numL (ls t)) (spL (ls t)) (emB o) (isLen (ls o)) (decide (nw = 0)) (isPc (ls o)) bg (opL (ls o)) (isSh (ls t)) r)) ∧ Below w.heap.size w w' := by
  have HB := Lib.hid ((Below.refl w.heap.size w).alloc (Nat.le_refl _) (.cells #[.int .i64 2, .bool q, .string t, .string o, .slice wa nw wc, .slice ba nb bc] 86))
  have HH := Lib.hid (heap_alloc_new w (.cells #[.int .i64 2, .bool q, .string t, .string o, .slice wa nw wc, .slice ba nb bc] 86))
  have HW := Lib.hid HW0
  have HBg := Lib.hid hbg
  have hl1 := hl.1
  have hl2 := hl.2.1
  have C24 := Lib.hid fun W => name24 t (by omega) W
  have C26 := Lib.hid fun W => num26 t (by omega) W
  have C28 := Lib.hid fun W => sp28 t W
  have C32 := Lib.hid fun W => op32 o W
  have z1a := emp_is o
  have z2a : (o.toList == [108, 101, 110]) = isLen (ls o) := by rw [toList_data]; rfl
  have z3a : (o.toList == [37]) = isPc (ls o) := by rw [toList_data]; rfl
  have z4a : (t.toList == [35]) = isSh (ls t) := by rw [toList_data]; rfl
  have z4b : (t.toList != [35]) = !isSh (ls t) := by rw [bne, z4a]
  have z5a := eqz nw 0
  have z5b := eqzI nw
  have z5c : decide (0 < nw) = !decide (nw = 0) := by rw [← decide_not]; exact decide_eq_decide.2 (by omega)
  have z5d : decide (0 < (nw : Int)) = !decide (nw = 0) := by rw [← decide_not]; exact decide_eq_decide.2 (by omega)
  have z6a : decide (0 < nb) = !decide (nb = 0) := by rw [← decide_not]; exact decide_eq_decide.2 (by omega)
  have z6b : decide (0 < (nb : Int)) = !decide (nb = 0) := by rw [← decide_not]; exact decide_eq_decide.2 (by omega)
  have HZ5 : Hid (nw = 0 ↔ decide (nw = 0) = true) := Lib.hid (by simp)
  generalize emB o = E at z1a ⊢
  generalize isLen (ls o) = Ln at z2a ⊢
  generalize isPc (ls o) = Pc at z3a ⊢
  generalize isSh (ls t) = Sh at z4a z4b ⊢
  generalize decide (nw = 0) = zw at z5a z5b z5c z5d HZ5 ⊢
  generalize decide (nb = 0) = zb at z6a z6b ⊢
  generalize nameL (ls t) = N at C24 ⊢
  generalize numL (ls t) = M at C26 ⊢
  generalize spL (ls t) = S at C28 ⊢
  generalize opL (ls o) = O at C32 ⊢
  obtain ⟨RES, HR0⟩ : ∃ b, Hid (paramD zb N M S E Ln zw Pc bg O Sh r = b) := ⟨_, Lib.hid rfl⟩
  rw [HR0.out]
  obtain ⟨NM, HNM⟩ : ∃ b, Hid ((N || M) = b) := ⟨_, Lib.hid rfl⟩
  have HRES : Hid (paramE zb NM S E Ln zw Pc bg O Sh r = RES) := Lib.hid (by rw [← HR0.out, ← HNM.out]; rfl)
  clear HW0 hl hbg HR0
  go_enter Tryz.func89, Tryz.ntmps89
  go_upto_region 1 with fail
  generalize w.alloc (.cells #[.int .i64 2, .bool q, .string t, .string o, .slice wa nw wc, .slice ba nb bc] 86) = w1 at HB HH ⊢
  have p0 : w1.cell? ⟨w.heap.size, 0, none⟩ = some (.int .i64 2) := cells_at HH.out (i := 0) rfl
  have p1 : w1.cell? ⟨w.heap.size, 1, none⟩ = some (.bool q) := cells_at HH.out (i := 1) rfl
  have p2 : w1.cell? ⟨w.heap.size, 2, none⟩ = some (.string t) := cells_at HH.out (i := 2) rfl
  have p3 : w1.cell? ⟨w.heap.size, 3, none⟩ = some (.string o) := cells_at HH.out (i := 3) rfl
  have p4 : w1.cell? ⟨w.heap.size, 4, none⟩ = some (.slice wa nw wc) := cells_at HH.out (i := 4) rfl
  have p5 : w1.cell? ⟨w.heap.size, 5, none⟩ = some (.slice ba nb bc) := cells_at HH.out (i := 5) rfl
  have hbw := HB.out
  clear HB HH
  go_upto_region 7 with fail
  go_cut [7] (fun u7 wx => u7 = .bool NM ∧ w1 = wx)
  case first =>
    clear z1a z2a z3a z4a z4b z5a z5b z5c z5d z6a z6b
    cases N <;> cases M
    all_goals (
      go_wp2_with (first | (go_at_call 24; refine (C24.out _).mono ?_; rintro e w' ⟨rfl, rfl⟩) | (go_at_call 26; refine (C26.out _).mono ?_; rintro e w' ⟨rfl, rfl⟩))
      go_meet
      exact ⟨by rw [← HNM.out]; rfl, rfl⟩)
  case rest =>
    obtain ⟨rfl, rfl⟩ := hcut
    clear HNM C24 C26
    cases zb
    case false =>
      simp only [Bool.not_false] at z6a z6b
      clear z1a z2a z3a z4a z4b z5a z5b z5c z5d
      go_wp2
      go_ret
      exact ⟨by rw [← HRES.out]; rfl, hbw⟩
    simp only [Bool.not_true] at z6a z6b
    cases NM
    case true =>
      go_upto_region 10 with fail
      clear z6a z6b
      cases E
      case true =>
        clear z2a z3a z4a z4b
        cases zw
        all_goals (
          go_wp2
          go_ret
          exact ⟨by rw [← HRES.out]; rfl, hbw⟩)
      cases Ln
      case true =>
        clear z3a z4a z4b
        cases zw
        all_goals (
          go_wp2
          go_ret
          exact ⟨by rw [← HRES.out]; rfl, hbw⟩)
      go_upto_region 12 with fail
      go_cut [102] (fun u wx => u = .bool (Pc && bg) ∧ w1 = wx)
      case first =>
        clear z4a z4b
        cases Pc
        case false =>
          go_wp2
          go_meet
          exact ⟨rfl, rfl⟩
        rcases HBg.out with ⟨h0, hb0⟩ | ⟨b, off, k0, q0, t0, e0, hn, g0, g1, g2, hb0⟩
        · have hz := HZ5.out.1 h0
          subst hz
          subst hb0
          subst h0
          go_wp2
          go_meet
          exact ⟨rfl, rfl⟩
        · subst e0
          have hzw : zw = false := by
            cases zw
            · rfl
            · have := HZ5.out.2 rfl; omega
          subst hzw
          simp only [Bool.not_false] at z5c z5d
          replace g0 := cell_low g0 hbw
          replace g1 := cell_low g1 hbw
          replace g2 := cell_low g2 hbw
          have hk1 := eq_int k0 1
          have he0 := emp_is t0
          have he1 : (t0.toList != []) = !emB t0 := by rw [bne, he0]
          have hb := get_bt t0
          have hbt := bt_at t0 0
          have hHs : Hid (emB t0 = false → 0 < t0.size) := Lib.hid fun e => by rw [emB_size] at e; have := of_decide_eq_false e; omega
          have hz37 : ((at0 (ls t0) 0 : Int) == 37) = decide (at0 (ls t0) 0 = 37) := by rw [eq_int]; exact decide_eq_decide.2 (by omega)
          have hch := at0_lt (ls t0) 0
          generalize decide (k0 = 1) = y1 at hk1 hb0
          generalize emB t0 = y2 at he0 he1 hHs hb0
          generalize decide (at0 (ls t0) 0 = 37) = y3 at hz37 hb0
          generalize at0 (ls t0) 0 = ch at hbt hz37 hch
          have HBG := Lib.hid hb0
          clear hb0
          cases y1
          case false =>
            go_wp2
            go_meet
            exact ⟨by rw [HBG.out]; rfl, rfl⟩
          cases q0
          case true =>
            go_wp2
            go_meet
            exact ⟨by rw [HBG.out]; rfl, rfl⟩
          cases y2
          case true =>
            simp only [Bool.not_true] at he1
            go_wp2
            go_meet
            exact ⟨by rw [HBG.out]; rfl, rfl⟩
          have hp0 := hHs.out rfl
          simp only [Bool.not_false] at he1
          cases y3
          all_goals (
            go_wp2
            go_meet
            exact ⟨by rw [HBG.out]; rfl, rfl⟩)
      case rest =>
        obtain ⟨rfl, rfl⟩ := hcut
        obtain ⟨PB, HPB⟩ : ∃ b, Hid ((Pc && bg) = b) := ⟨_, Lib.hid rfl⟩
        rw [HPB.out]
        have HRES : Hid ((if PB then false else O && !Sh && r) = RES) := Lib.hid (by rw [← HRES.out, ← HPB.out]; rfl)
        clear z3a z5a z5b z5c z5d HPB
        cases PB
        case true =>
          go_wp2
          go_ret
          exact ⟨by rw [← HRES.out]; rfl, hbw⟩
        cases O
        case false =>
          go_wp2_with (first | (go_at_call 32; refine (C32.out _).mono ?_; rintro e w2 ⟨rfl, hb⟩; replace p0 := cell_low p0 hb; replace p1 := cell_low p1 hb; replace p2 := cell_low p2 hb; replace p3 := cell_low p3 hb; replace p4 := cell_low p4 hb; replace p5 := cell_low p5 hb; replace hbw := hbw.trans (hb.mono hbw.size); clear hb) | (go_at_call 62; refine (HW.out _ hbw).mono ?_; rintro e w2 ⟨rfl, hb⟩; replace p0 := cell_low p0 hb; replace p1 := cell_low p1 hb; replace p2 := cell_low p2 hb; replace p3 := cell_low p3 hb; replace p4 := cell_low p4 hb; replace p5 := cell_low p5 hb; replace hbw := hbw.trans (hb.mono hbw.size); clear hb))
          go_ret
          exact ⟨by rw [← HRES.out]; rfl, hbw⟩
        case true =>
          cases Sh
          all_goals (
            simp only [Bool.not_true, Bool.not_false] at z4b
            go_wp2_with (first | (go_at_call 32; refine (C32.out _).mono ?_; rintro e w2 ⟨rfl, hb⟩; replace p0 := cell_low p0 hb; replace p1 := cell_low p1 hb; replace p2 := cell_low p2 hb; replace p3 := cell_low p3 hb; replace p4 := cell_low p4 hb; replace p5 := cell_low p5 hb; replace hbw := hbw.trans (hb.mono hbw.size); clear hb) | (go_at_call 62; refine (HW.out _ hbw).mono ?_; rintro e w2 ⟨rfl, hb⟩; replace p0 := cell_low p0 hb; replace p1 := cell_low p1 hb; replace p2 := cell_low p2 hb; replace p3 := cell_low p3 hb; replace p4 := cell_low p4 hb; replace p5 := cell_low p5 hb; replace hbw := hbw.trans (hb.mono hbw.size); clear hb))
            go_ret
            exact ⟨by rw [← HRES.out]; rfl, hbw⟩)
    case false =>
      cases S
      case false =>
        go_wp2_with (first | (go_at_call 28; refine (C28.out _).mono ?_; rintro e w' ⟨rfl, rfl⟩))
        go_ret
        exact ⟨by rw [← HRES.out]; rfl, hbw⟩
      go_upto_region 10 with (first | (go_at_call 28; refine (C28.out _).mono ?_; rintro e w' ⟨rfl, rfl⟩))
      clear z6a z6b
      cases E
      case true =>
        clear z2a z3a z4a z4b
        cases zw
        all_goals (
          go_wp2
          go_ret
          exact ⟨by rw [← HRES.out]; rfl, hbw⟩)
      cases Ln
      case true =>
        clear z3a z4a z4b
        cases zw
        all_goals (
          go_wp2
          go_ret
          exact ⟨by rw [← HRES.out]; rfl, hbw⟩)
      go_upto_region 12 with fail
      go_cut [102] (fun u wx => u = .bool (Pc && bg) ∧ w1 = wx)
      case first =>
        clear z4a z4b
        cases Pc
        case false =>
          go_wp2
          go_meet
          exact ⟨rfl, rfl⟩
        rcases HBg.out with ⟨h0, hb0⟩ | ⟨b, off, k0, q0, t0, e0, hn, g0, g1, g2, hb0⟩
        · have hz := HZ5.out.1 h0
          subst hz
          subst hb0
          subst h0
          go_wp2
          go_meet
          exact ⟨rfl, rfl⟩
        · subst e0
          have hzw : zw = false := by
            cases zw
            · rfl
            · have := HZ5.out.2 rfl; omega
          subst hzw
          simp only [Bool.not_false] at z5c z5d
          replace g0 := cell_low g0 hbw
          replace g1 := cell_low g1 hbw
          replace g2 := cell_low g2 hbw
          have hk1 := eq_int k0 1
          have he0 := emp_is t0
          have he1 : (t0.toList != []) = !emB t0 := by rw [bne, he0]
          have hb := get_bt t0
          have hbt := bt_at t0 0
          have hHs : Hid (emB t0 = false → 0 < t0.size) := Lib.hid fun e => by rw [emB_size] at e; have := of_decide_eq_false e; omega
          have hz37 : ((at0 (ls t0) 0 : Int) == 37) = decide (at0 (ls t0) 0 = 37) := by rw [eq_int]; exact decide_eq_decide.2 (by omega)
          have hch := at0_lt (ls t0) 0
          generalize decide (k0 = 1) = y1 at hk1 hb0
          generalize emB t0 = y2 at he0 he1 hHs hb0
          generalize decide (at0 (ls t0) 0 = 37) = y3 at hz37 hb0
          generalize at0 (ls t0) 0 = ch at hbt hz37 hch
          have HBG := Lib.hid hb0
          clear hb0
          cases y1
          case false =>
            go_wp2
            go_meet
            exact ⟨by rw [HBG.out]; rfl, rfl⟩
          cases q0
          case true =>
            go_wp2
            go_meet
            exact ⟨by rw [HBG.out]; rfl, rfl⟩
          cases y2
          case true =>
            simp only [Bool.not_true] at he1
            go_wp2
            go_meet
            exact ⟨by rw [HBG.out]; rfl, rfl⟩
          have hp0 := hHs.out rfl
          simp only [Bool.not_false] at he1
          cases y3
          all_goals (
            go_wp2
            go_meet
            exact ⟨by rw [HBG.out]; rfl, rfl⟩)
      case rest =>
        obtain ⟨rfl, rfl⟩ := hcut
        obtain ⟨PB, HPB⟩ : ∃ b, Hid ((Pc && bg) = b) := ⟨_, Lib.hid rfl⟩
        rw [HPB.out]
        have HRES : Hid ((if PB then false else O && !Sh && r) = RES) := Lib.hid (by rw [← HRES.out, ← HPB.out]; rfl)
        clear z3a z5a z5b z5c z5d HPB
        cases PB
        case true =>
          go_wp2
          go_ret
          exact ⟨by rw [← HRES.out]; rfl, hbw⟩
        cases O
        case false =>
          go_wp2_with (first | (go_at_call 32; refine (C32.out _).mono ?_; rintro e w2 ⟨rfl, hb⟩; replace p0 := cell_low p0 hb; replace p1 := cell_low p1 hb; replace p2 := cell_low p2 hb; replace p3 := cell_low p3 hb; replace p4 := cell_low p4 hb; replace p5 := cell_low p5 hb; replace hbw := hbw.trans (hb.mono hbw.size); clear hb) | (go_at_call 62; refine (HW.out _ hbw).mono ?_; rintro e w2 ⟨rfl, hb⟩; replace p0 := cell_low p0 hb; replace p1 := cell_low p1 hb; replace p2 := cell_low p2 hb; replace p3 := cell_low p3 hb; replace p4 := cell_low p4 hb; replace p5 := cell_low p5 hb; replace hbw := hbw.trans (hb.mono hbw.size); clear hb))
          go_ret
          exact ⟨by rw [← HRES.out]; rfl, hbw⟩
        case true =>
          cases Sh
          all_goals (
            simp only [Bool.not_true, Bool.not_false] at z4b
            go_wp2_with (first | (go_at_call 32; refine (C32.out _).mono ?_; rintro e w2 ⟨rfl, hb⟩; replace p0 := cell_low p0 hb; replace p1 := cell_low p1 hb; replace p2 := cell_low p2 hb; replace p3 := cell_low p3 hb; replace p4 := cell_low p4 hb; replace p5 := cell_low p5 hb; replace hbw := hbw.trans (hb.mono hbw.size); clear hb) | (go_at_call 62; refine (HW.out _ hbw).mono ?_; rintro e w2 ⟨rfl, hb⟩; replace p0 := cell_low p0 hb; replace p1 := cell_low p1 hb; replace p2 := cell_low p2 hb; replace p3 := cell_low p3 hb; replace p4 := cell_low p4 hb; replace p5 := cell_low p5 hb; replace hbw := hbw.trans (hb.mono hbw.size); clear hb))
            go_ret
            exact ⟨by rw [← HRES.out]; rfl, hbw⟩)
end Go.Proofs.YtfaohicadahcjaaGreatDoor
