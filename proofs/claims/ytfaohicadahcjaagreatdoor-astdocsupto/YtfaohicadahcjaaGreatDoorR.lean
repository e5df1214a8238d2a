/- Contracts: what may be a parameter. Conditions: lengths below a bound. -/
import Derived.Test.YtfaohicadahcjaaGreatDoorQ
namespace Go.Proofs.YtfaohicadahcjaaGreatDoor
open Go.RowKit Go.PlainAid Go.ChangeShapes Go.WideShapes Go.ChangeAt
set_option linter.unusedSimpArgs false
set_option linter.unusedVariables false
set_option maxHeartbeats 8000000 in
set_option maxRecDepth 100000 in
theorem param120 (left k : Int) (hl : 1 ≤ left) (hl2 : left ≤ 9223372036854775807) (q : Bool) (t o : ByteArray) (wa ba : Option Addr) (nw wc nb bc : Nat) (w : World) (ht : t.size ≤ 1048576) (beg fp r : Bool)
    (HW : ∀ W, Below w.heap.size w W → Calls Tryz.prog 86 #[.slice wa nw wc, .int .i64 (left - 1)] W fun e w' => e = .returned (.bool r) ∧ Below W.heap.size W w')
    (HG : ∀ W, Below w.heap.size w W → Calls Tryz.prog 106 #[.slice wa nw wc] W fun e w' => e = .returned (.bool beg) ∧ W = w')
    (HF : beg = true → ∃ b off ft, wa = some ⟨b, off, none⟩ ∧ 0 < nw ∧ w.cell? ⟨b, off + 2, none⟩ = some (.string ft) ∧ Lib.hasPrefix (ls ft) [37] = fp) :
    Calls Tryz.prog 120 #[.agg #[.int .i64 k, .bool q, .string t, .string o, .slice wa nw wc, .slice ba nb bc], .int .i64 left] w fun e w' => e = .returned (.bool (if emB o then decide (nw = 0) && (varB (ls t) || spL (ls t)) else if isLen (ls o) then decide (nw = 0) && varB (ls t) else if !opL (ls o) || (isPc (ls o) && (beg && fp)) then false else (varB (ls t) || (spL (ls t) && !isSh (ls t))) && r)) ∧ Below w.heap.size w w' := by
  have HB := Lib.hid ((Below.refl w.heap.size w).alloc (Nat.le_refl _) (.cells #[.int .i64 k, .bool q, .string t, .string o, .slice wa nw wc, .slice ba nb bc] 55))
  have HH := Lib.hid (heap_alloc_new w (.cells #[.int .i64 k, .bool q, .string t, .string o, .slice wa nw wc, .slice ba nb bc] 55))
  have HW := Lib.hid HW
  have HG := Lib.hid HG
  have HF := Lib.hid HF
  have C23 := Lib.hid fun W => name23 t (by omega) W
  have C25 := Lib.hid fun W => num25 t (by omega) W
  have C27 := Lib.hid fun W => sp27 t W
  have C31 := Lib.hid fun W => op31 o W
  have CH := Lib.hid fun ft W => Tryz.strings_HasPrefix ft ⟨#[37]⟩ W
  have z1a := emp_is o
  have z2a : (o.toList == [108, 101, 110]) = isLen (ls o) := by rw [toList_data]; rfl
  have z3a : (o.toList == [37]) = isPc (ls o) := by rw [toList_data]; rfl
  have z4a : (t.toList == [35]) = isSh (ls t) := by rw [toList_data]; rfl
  have z4b : (t.toList != [35]) = !isSh (ls t) := by rw [bne, z4a]
  have z5a := eqz nw 0
  have z5b := eqzI nw
  unfold varB
  generalize emB o = z1 at z1a ⊢
  generalize isLen (ls o) = z2 at z2a ⊢
  generalize isPc (ls o) = z3 at z3a ⊢
  generalize isSh (ls t) = z4 at z4a z4b ⊢
  generalize z5d : decide (nw = 0) = z5 at z5a z5b ⊢
  clear z5d
  generalize nameL (ls t) = v1 at C23 ⊢
  generalize numL (ls t) = v2 at C25 ⊢
  generalize spL (ls t) = sp at C27 ⊢
  generalize opL (ls o) = ob at C31 ⊢
  go_enter Tryz.func120, Tryz.ntmps120
  go_upto_region 1 with fail
  generalize w.alloc (.cells #[.int .i64 k, .bool q, .string t, .string o, .slice wa nw wc, .slice ba nb bc] 55) = w1 at HB HH ⊢
  have p0 : w1.cell? ⟨w.heap.size, 0, none⟩ = some (.int .i64 k) := cells_at HH.out (i := 0) rfl
  have p1 : w1.cell? ⟨w.heap.size, 1, none⟩ = some (.bool q) := cells_at HH.out (i := 1) rfl
  have p2 : w1.cell? ⟨w.heap.size, 2, none⟩ = some (.string t) := cells_at HH.out (i := 2) rfl
  have p3 : w1.cell? ⟨w.heap.size, 3, none⟩ = some (.string o) := cells_at HH.out (i := 3) rfl
  have p4 : w1.cell? ⟨w.heap.size, 4, none⟩ = some (.slice wa nw wc) := cells_at HH.out (i := 4) rfl
  have p5 : w1.cell? ⟨w.heap.size, 5, none⟩ = some (.slice ba nb bc) := cells_at HH.out (i := 5) rfl
  have hbw := HB.out
  clear HB HH
  cases z1
  case true =>
    clear z2a z3a z4a z4b
    cases z5 <;> cases v1 <;> cases v2 <;> cases sp
    all_goals (
      go_wp2_with (first
      | (go_at_call 23; refine (C23.out _).mono ?_; rintro e w' ⟨rfl, rfl⟩)
      | (go_at_call 25; refine (C25.out _).mono ?_; rintro e w' ⟨rfl, rfl⟩)
      | (go_at_call 27; refine (C27.out _).mono ?_; rintro e w' ⟨rfl, rfl⟩)
      | (go_at_call 31; refine (C31.out _).mono ?_; rintro e w' ⟨rfl, rfl⟩)
      | (go_at_call 106; refine (HG.out _ hbw).mono ?_; rintro e w' ⟨rfl, rfl⟩)
      | (go_at_call 86; refine (HW.out _ hbw).mono ?_; rintro e w2 ⟨rfl, hb⟩; replace p0 := cell_low p0 hb; replace p1 := cell_low p1 hb; replace p2 := cell_low p2 hb; replace p3 := cell_low p3 hb; replace p4 := cell_low p4 hb; replace p5 := cell_low p5 hb; replace hbw := hbw.trans (hb.mono hbw.size); clear hb))
      go_ret
      exact ⟨rfl, hbw⟩)
  cases z2
  case true =>
    clear z3a z4a z4b
    cases z5 <;> cases v1 <;> cases v2
    all_goals (
      go_wp2_with (first
      | (go_at_call 23; refine (C23.out _).mono ?_; rintro e w' ⟨rfl, rfl⟩)
      | (go_at_call 25; refine (C25.out _).mono ?_; rintro e w' ⟨rfl, rfl⟩)
      | (go_at_call 27; refine (C27.out _).mono ?_; rintro e w' ⟨rfl, rfl⟩)
      | (go_at_call 31; refine (C31.out _).mono ?_; rintro e w' ⟨rfl, rfl⟩)
      | (go_at_call 106; refine (HG.out _ hbw).mono ?_; rintro e w' ⟨rfl, rfl⟩)
      | (go_at_call 86; refine (HW.out _ hbw).mono ?_; rintro e w2 ⟨rfl, hb⟩; replace p0 := cell_low p0 hb; replace p1 := cell_low p1 hb; replace p2 := cell_low p2 hb; replace p3 := cell_low p3 hb; replace p4 := cell_low p4 hb; replace p5 := cell_low p5 hb; replace hbw := hbw.trans (hb.mono hbw.size); clear hb))
      go_ret
      exact ⟨rfl, hbw⟩)
  cases ob
  case false =>
    cases v1 <;> cases v2
    all_goals (
      try simp only [Bool.not_true, Bool.not_false] at z4b
      go_wp2_with (first
      | (go_at_call 23; refine (C23.out _).mono ?_; rintro e w' ⟨rfl, rfl⟩)
      | (go_at_call 25; refine (C25.out _).mono ?_; rintro e w' ⟨rfl, rfl⟩)
      | (go_at_call 27; refine (C27.out _).mono ?_; rintro e w' ⟨rfl, rfl⟩)
      | (go_at_call 31; refine (C31.out _).mono ?_; rintro e w' ⟨rfl, rfl⟩)
      | (go_at_call 106; refine (HG.out _ hbw).mono ?_; rintro e w' ⟨rfl, rfl⟩)
      | (go_at_call 86; refine (HW.out _ hbw).mono ?_; rintro e w2 ⟨rfl, hb⟩; replace p0 := cell_low p0 hb; replace p1 := cell_low p1 hb; replace p2 := cell_low p2 hb; replace p3 := cell_low p3 hb; replace p4 := cell_low p4 hb; replace p5 := cell_low p5 hb; replace hbw := hbw.trans (hb.mono hbw.size); clear hb))
      go_ret
      exact ⟨rfl, hbw⟩)
  cases z3
  case false =>
    cases v1
    case true =>
      cases r
      all_goals (
        try simp only [Bool.not_true, Bool.not_false] at z4b
        go_wp2_with (first
      | (go_at_call 23; refine (C23.out _).mono ?_; rintro e w' ⟨rfl, rfl⟩)
      | (go_at_call 25; refine (C25.out _).mono ?_; rintro e w' ⟨rfl, rfl⟩)
      | (go_at_call 27; refine (C27.out _).mono ?_; rintro e w' ⟨rfl, rfl⟩)
      | (go_at_call 31; refine (C31.out _).mono ?_; rintro e w' ⟨rfl, rfl⟩)
      | (go_at_call 106; refine (HG.out _ hbw).mono ?_; rintro e w' ⟨rfl, rfl⟩)
      | (go_at_call 86; refine (HW.out _ hbw).mono ?_; rintro e w2 ⟨rfl, hb⟩; replace p0 := cell_low p0 hb; replace p1 := cell_low p1 hb; replace p2 := cell_low p2 hb; replace p3 := cell_low p3 hb; replace p4 := cell_low p4 hb; replace p5 := cell_low p5 hb; replace hbw := hbw.trans (hb.mono hbw.size); clear hb))
        go_ret
        exact ⟨rfl, hbw⟩)
    cases v2
    case true =>
      cases r
      all_goals (
        try simp only [Bool.not_true, Bool.not_false] at z4b
        go_wp2_with (first
      | (go_at_call 23; refine (C23.out _).mono ?_; rintro e w' ⟨rfl, rfl⟩)
      | (go_at_call 25; refine (C25.out _).mono ?_; rintro e w' ⟨rfl, rfl⟩)
      | (go_at_call 27; refine (C27.out _).mono ?_; rintro e w' ⟨rfl, rfl⟩)
      | (go_at_call 31; refine (C31.out _).mono ?_; rintro e w' ⟨rfl, rfl⟩)
      | (go_at_call 106; refine (HG.out _ hbw).mono ?_; rintro e w' ⟨rfl, rfl⟩)
      | (go_at_call 86; refine (HW.out _ hbw).mono ?_; rintro e w2 ⟨rfl, hb⟩; replace p0 := cell_low p0 hb; replace p1 := cell_low p1 hb; replace p2 := cell_low p2 hb; replace p3 := cell_low p3 hb; replace p4 := cell_low p4 hb; replace p5 := cell_low p5 hb; replace hbw := hbw.trans (hb.mono hbw.size); clear hb))
        go_ret
        exact ⟨rfl, hbw⟩)
    cases sp
    case false =>
      all_goals (
        try simp only [Bool.not_true, Bool.not_false] at z4b
        go_wp2_with (first
      | (go_at_call 23; refine (C23.out _).mono ?_; rintro e w' ⟨rfl, rfl⟩)
      | (go_at_call 25; refine (C25.out _).mono ?_; rintro e w' ⟨rfl, rfl⟩)
      | (go_at_call 27; refine (C27.out _).mono ?_; rintro e w' ⟨rfl, rfl⟩)
      | (go_at_call 31; refine (C31.out _).mono ?_; rintro e w' ⟨rfl, rfl⟩)
      | (go_at_call 106; refine (HG.out _ hbw).mono ?_; rintro e w' ⟨rfl, rfl⟩)
      | (go_at_call 86; refine (HW.out _ hbw).mono ?_; rintro e w2 ⟨rfl, hb⟩; replace p0 := cell_low p0 hb; replace p1 := cell_low p1 hb; replace p2 := cell_low p2 hb; replace p3 := cell_low p3 hb; replace p4 := cell_low p4 hb; replace p5 := cell_low p5 hb; replace hbw := hbw.trans (hb.mono hbw.size); clear hb))
        go_ret
        exact ⟨rfl, hbw⟩)
    cases z4
    case true =>
      all_goals (
        try simp only [Bool.not_true, Bool.not_false] at z4b
        go_wp2_with (first
      | (go_at_call 23; refine (C23.out _).mono ?_; rintro e w' ⟨rfl, rfl⟩)
      | (go_at_call 25; refine (C25.out _).mono ?_; rintro e w' ⟨rfl, rfl⟩)
      | (go_at_call 27; refine (C27.out _).mono ?_; rintro e w' ⟨rfl, rfl⟩)
      | (go_at_call 31; refine (C31.out _).mono ?_; rintro e w' ⟨rfl, rfl⟩)
      | (go_at_call 106; refine (HG.out _ hbw).mono ?_; rintro e w' ⟨rfl, rfl⟩)
      | (go_at_call 86; refine (HW.out _ hbw).mono ?_; rintro e w2 ⟨rfl, hb⟩; replace p0 := cell_low p0 hb; replace p1 := cell_low p1 hb; replace p2 := cell_low p2 hb; replace p3 := cell_low p3 hb; replace p4 := cell_low p4 hb; replace p5 := cell_low p5 hb; replace hbw := hbw.trans (hb.mono hbw.size); clear hb))
        go_ret
        exact ⟨rfl, hbw⟩)
    cases r
    all_goals (
      try simp only [Bool.not_true, Bool.not_false] at z4b
      go_wp2_with (first
      | (go_at_call 23; refine (C23.out _).mono ?_; rintro e w' ⟨rfl, rfl⟩)
      | (go_at_call 25; refine (C25.out _).mono ?_; rintro e w' ⟨rfl, rfl⟩)
      | (go_at_call 27; refine (C27.out _).mono ?_; rintro e w' ⟨rfl, rfl⟩)
      | (go_at_call 31; refine (C31.out _).mono ?_; rintro e w' ⟨rfl, rfl⟩)
      | (go_at_call 106; refine (HG.out _ hbw).mono ?_; rintro e w' ⟨rfl, rfl⟩)
      | (go_at_call 86; refine (HW.out _ hbw).mono ?_; rintro e w2 ⟨rfl, hb⟩; replace p0 := cell_low p0 hb; replace p1 := cell_low p1 hb; replace p2 := cell_low p2 hb; replace p3 := cell_low p3 hb; replace p4 := cell_low p4 hb; replace p5 := cell_low p5 hb; replace hbw := hbw.trans (hb.mono hbw.size); clear hb))
      go_ret
      exact ⟨rfl, hbw⟩)
  cases beg
  case false =>
    cases v1
    case true =>
      cases r
      all_goals (
        try simp only [Bool.not_true, Bool.not_false] at z4b
        go_wp2_with (first
      | (go_at_call 23; refine (C23.out _).mono ?_; rintro e w' ⟨rfl, rfl⟩)
      | (go_at_call 25; refine (C25.out _).mono ?_; rintro e w' ⟨rfl, rfl⟩)
      | (go_at_call 27; refine (C27.out _).mono ?_; rintro e w' ⟨rfl, rfl⟩)
      | (go_at_call 31; refine (C31.out _).mono ?_; rintro e w' ⟨rfl, rfl⟩)
      | (go_at_call 106; refine (HG.out _ hbw).mono ?_; rintro e w' ⟨rfl, rfl⟩)
      | (go_at_call 86; refine (HW.out _ hbw).mono ?_; rintro e w2 ⟨rfl, hb⟩; replace p0 := cell_low p0 hb; replace p1 := cell_low p1 hb; replace p2 := cell_low p2 hb; replace p3 := cell_low p3 hb; replace p4 := cell_low p4 hb; replace p5 := cell_low p5 hb; replace hbw := hbw.trans (hb.mono hbw.size); clear hb))
        go_ret
        exact ⟨rfl, hbw⟩)
    cases v2
    case true =>
      cases r
      all_goals (
        try simp only [Bool.not_true, Bool.not_false] at z4b
        go_wp2_with (first
      | (go_at_call 23; refine (C23.out _).mono ?_; rintro e w' ⟨rfl, rfl⟩)
      | (go_at_call 25; refine (C25.out _).mono ?_; rintro e w' ⟨rfl, rfl⟩)
      | (go_at_call 27; refine (C27.out _).mono ?_; rintro e w' ⟨rfl, rfl⟩)
      | (go_at_call 31; refine (C31.out _).mono ?_; rintro e w' ⟨rfl, rfl⟩)
      | (go_at_call 106; refine (HG.out _ hbw).mono ?_; rintro e w' ⟨rfl, rfl⟩)
      | (go_at_call 86; refine (HW.out _ hbw).mono ?_; rintro e w2 ⟨rfl, hb⟩; replace p0 := cell_low p0 hb; replace p1 := cell_low p1 hb; replace p2 := cell_low p2 hb; replace p3 := cell_low p3 hb; replace p4 := cell_low p4 hb; replace p5 := cell_low p5 hb; replace hbw := hbw.trans (hb.mono hbw.size); clear hb))
        go_ret
        exact ⟨rfl, hbw⟩)
    cases sp
    case false =>
      all_goals (
        try simp only [Bool.not_true, Bool.not_false] at z4b
        go_wp2_with (first
      | (go_at_call 23; refine (C23.out _).mono ?_; rintro e w' ⟨rfl, rfl⟩)
      | (go_at_call 25; refine (C25.out _).mono ?_; rintro e w' ⟨rfl, rfl⟩)
      | (go_at_call 27; refine (C27.out _).mono ?_; rintro e w' ⟨rfl, rfl⟩)
      | (go_at_call 31; refine (C31.out _).mono ?_; rintro e w' ⟨rfl, rfl⟩)
      | (go_at_call 106; refine (HG.out _ hbw).mono ?_; rintro e w' ⟨rfl, rfl⟩)
      | (go_at_call 86; refine (HW.out _ hbw).mono ?_; rintro e w2 ⟨rfl, hb⟩; replace p0 := cell_low p0 hb; replace p1 := cell_low p1 hb; replace p2 := cell_low p2 hb; replace p3 := cell_low p3 hb; replace p4 := cell_low p4 hb; replace p5 := cell_low p5 hb; replace hbw := hbw.trans (hb.mono hbw.size); clear hb))
        go_ret
        exact ⟨rfl, hbw⟩)
    cases z4
    case true =>
      all_goals (
        try simp only [Bool.not_true, Bool.not_false] at z4b
        go_wp2_with (first
      | (go_at_call 23; refine (C23.out _).mono ?_; rintro e w' ⟨rfl, rfl⟩)
      | (go_at_call 25; refine (C25.out _).mono ?_; rintro e w' ⟨rfl, rfl⟩)
      | (go_at_call 27; refine (C27.out _).mono ?_; rintro e w' ⟨rfl, rfl⟩)
      | (go_at_call 31; refine (C31.out _).mono ?_; rintro e w' ⟨rfl, rfl⟩)
      | (go_at_call 106; refine (HG.out _ hbw).mono ?_; rintro e w' ⟨rfl, rfl⟩)
      | (go_at_call 86; refine (HW.out _ hbw).mono ?_; rintro e w2 ⟨rfl, hb⟩; replace p0 := cell_low p0 hb; replace p1 := cell_low p1 hb; replace p2 := cell_low p2 hb; replace p3 := cell_low p3 hb; replace p4 := cell_low p4 hb; replace p5 := cell_low p5 hb; replace hbw := hbw.trans (hb.mono hbw.size); clear hb))
        go_ret
        exact ⟨rfl, hbw⟩)
    cases r
    all_goals (
      try simp only [Bool.not_true, Bool.not_false] at z4b
      go_wp2_with (first
      | (go_at_call 23; refine (C23.out _).mono ?_; rintro e w' ⟨rfl, rfl⟩)
      | (go_at_call 25; refine (C25.out _).mono ?_; rintro e w' ⟨rfl, rfl⟩)
      | (go_at_call 27; refine (C27.out _).mono ?_; rintro e w' ⟨rfl, rfl⟩)
      | (go_at_call 31; refine (C31.out _).mono ?_; rintro e w' ⟨rfl, rfl⟩)
      | (go_at_call 106; refine (HG.out _ hbw).mono ?_; rintro e w' ⟨rfl, rfl⟩)
      | (go_at_call 86; refine (HW.out _ hbw).mono ?_; rintro e w2 ⟨rfl, hb⟩; replace p0 := cell_low p0 hb; replace p1 := cell_low p1 hb; replace p2 := cell_low p2 hb; replace p3 := cell_low p3 hb; replace p4 := cell_low p4 hb; replace p5 := cell_low p5 hb; replace hbw := hbw.trans (hb.mono hbw.size); clear hb))
      go_ret
      exact ⟨rfl, hbw⟩)
  obtain ⟨b, off, ft, rfl, hnw, hft, hfp⟩ := HF.out rfl
  have hft := cell_low hft hbw
  have CH1 := Lib.hid fun W => CH.out ft W
  rw [show Lib.hasPrefix ft.data.toList (⟨#[37]⟩ : ByteArray).data.toList = fp from hfp] at CH1
  clear HF CH hfp
  cases fp
  case true =>
    cases v1 <;> cases v2
    all_goals (
      try simp only [Bool.not_true, Bool.not_false] at z4b
      go_wp2_with (first
      | (go_at_call 23; refine (C23.out _).mono ?_; rintro e w' ⟨rfl, rfl⟩)
      | (go_at_call 25; refine (C25.out _).mono ?_; rintro e w' ⟨rfl, rfl⟩)
      | (go_at_call 27; refine (C27.out _).mono ?_; rintro e w' ⟨rfl, rfl⟩)
      | (go_at_call 31; refine (C31.out _).mono ?_; rintro e w' ⟨rfl, rfl⟩)
      | (go_at_call 106; refine (HG.out _ hbw).mono ?_; rintro e w' ⟨rfl, rfl⟩)
      | (go_at_call 129; refine (CH1.out _).mono ?_; rintro e w' ⟨rfl, rfl⟩)
      | (go_at_call 86; refine (HW.out _ hbw).mono ?_; rintro e w2 ⟨rfl, hb⟩; replace p0 := cell_low p0 hb; replace p1 := cell_low p1 hb; replace p2 := cell_low p2 hb; replace p3 := cell_low p3 hb; replace p4 := cell_low p4 hb; replace p5 := cell_low p5 hb; replace hbw := hbw.trans (hb.mono hbw.size); clear hb))
      go_ret
      exact ⟨rfl, hbw⟩)
  cases v1
  case true =>
    cases r
    all_goals (
      try simp only [Bool.not_true, Bool.not_false] at z4b
      go_wp2_with (first
      | (go_at_call 23; refine (C23.out _).mono ?_; rintro e w' ⟨rfl, rfl⟩)
      | (go_at_call 25; refine (C25.out _).mono ?_; rintro e w' ⟨rfl, rfl⟩)
      | (go_at_call 27; refine (C27.out _).mono ?_; rintro e w' ⟨rfl, rfl⟩)
      | (go_at_call 31; refine (C31.out _).mono ?_; rintro e w' ⟨rfl, rfl⟩)
      | (go_at_call 106; refine (HG.out _ hbw).mono ?_; rintro e w' ⟨rfl, rfl⟩)
      | (go_at_call 129; refine (CH1.out _).mono ?_; rintro e w' ⟨rfl, rfl⟩)
      | (go_at_call 86; refine (HW.out _ hbw).mono ?_; rintro e w2 ⟨rfl, hb⟩; replace p0 := cell_low p0 hb; replace p1 := cell_low p1 hb; replace p2 := cell_low p2 hb; replace p3 := cell_low p3 hb; replace p4 := cell_low p4 hb; replace p5 := cell_low p5 hb; replace hbw := hbw.trans (hb.mono hbw.size); clear hb))
      go_ret
      exact ⟨rfl, hbw⟩)
  cases v2
  case true =>
    cases r
    all_goals (
      try simp only [Bool.not_true, Bool.not_false] at z4b
      go_wp2_with (first
      | (go_at_call 23; refine (C23.out _).mono ?_; rintro e w' ⟨rfl, rfl⟩)
      | (go_at_call 25; refine (C25.out _).mono ?_; rintro e w' ⟨rfl, rfl⟩)
      | (go_at_call 27; refine (C27.out _).mono ?_; rintro e w' ⟨rfl, rfl⟩)
      | (go_at_call 31; refine (C31.out _).mono ?_; rintro e w' ⟨rfl, rfl⟩)
      | (go_at_call 106; refine (HG.out _ hbw).mono ?_; rintro e w' ⟨rfl, rfl⟩)
      | (go_at_call 129; refine (CH1.out _).mono ?_; rintro e w' ⟨rfl, rfl⟩)
      | (go_at_call 86; refine (HW.out _ hbw).mono ?_; rintro e w2 ⟨rfl, hb⟩; replace p0 := cell_low p0 hb; replace p1 := cell_low p1 hb; replace p2 := cell_low p2 hb; replace p3 := cell_low p3 hb; replace p4 := cell_low p4 hb; replace p5 := cell_low p5 hb; replace hbw := hbw.trans (hb.mono hbw.size); clear hb))
      go_ret
      exact ⟨rfl, hbw⟩)
  cases sp
  case false =>
    all_goals (
      try simp only [Bool.not_true, Bool.not_false] at z4b
      go_wp2_with (first
      | (go_at_call 23; refine (C23.out _).mono ?_; rintro e w' ⟨rfl, rfl⟩)
      | (go_at_call 25; refine (C25.out _).mono ?_; rintro e w' ⟨rfl, rfl⟩)
      | (go_at_call 27; refine (C27.out _).mono ?_; rintro e w' ⟨rfl, rfl⟩)
      | (go_at_call 31; refine (C31.out _).mono ?_; rintro e w' ⟨rfl, rfl⟩)
      | (go_at_call 106; refine (HG.out _ hbw).mono ?_; rintro e w' ⟨rfl, rfl⟩)
      | (go_at_call 129; refine (CH1.out _).mono ?_; rintro e w' ⟨rfl, rfl⟩)
      | (go_at_call 86; refine (HW.out _ hbw).mono ?_; rintro e w2 ⟨rfl, hb⟩; replace p0 := cell_low p0 hb; replace p1 := cell_low p1 hb; replace p2 := cell_low p2 hb; replace p3 := cell_low p3 hb; replace p4 := cell_low p4 hb; replace p5 := cell_low p5 hb; replace hbw := hbw.trans (hb.mono hbw.size); clear hb))
      go_ret
      exact ⟨rfl, hbw⟩)
  cases z4
  case true =>
    all_goals (
      try simp only [Bool.not_true, Bool.not_false] at z4b
      go_wp2_with (first
      | (go_at_call 23; refine (C23.out _).mono ?_; rintro e w' ⟨rfl, rfl⟩)
      | (go_at_call 25; refine (C25.out _).mono ?_; rintro e w' ⟨rfl, rfl⟩)
      | (go_at_call 27; refine (C27.out _).mono ?_; rintro e w' ⟨rfl, rfl⟩)
      | (go_at_call 31; refine (C31.out _).mono ?_; rintro e w' ⟨rfl, rfl⟩)
      | (go_at_call 106; refine (HG.out _ hbw).mono ?_; rintro e w' ⟨rfl, rfl⟩)
      | (go_at_call 129; refine (CH1.out _).mono ?_; rintro e w' ⟨rfl, rfl⟩)
      | (go_at_call 86; refine (HW.out _ hbw).mono ?_; rintro e w2 ⟨rfl, hb⟩; replace p0 := cell_low p0 hb; replace p1 := cell_low p1 hb; replace p2 := cell_low p2 hb; replace p3 := cell_low p3 hb; replace p4 := cell_low p4 hb; replace p5 := cell_low p5 hb; replace hbw := hbw.trans (hb.mono hbw.size); clear hb))
      go_ret
      exact ⟨rfl, hbw⟩)
  cases r
  all_goals (
    try simp only [Bool.not_true, Bool.not_false] at z4b
    go_wp2_with (first
      | (go_at_call 23; refine (C23.out _).mono ?_; rintro e w' ⟨rfl, rfl⟩)
      | (go_at_call 25; refine (C25.out _).mono ?_; rintro e w' ⟨rfl, rfl⟩)
      | (go_at_call 27; refine (C27.out _).mono ?_; rintro e w' ⟨rfl, rfl⟩)
      | (go_at_call 31; refine (C31.out _).mono ?_; rintro e w' ⟨rfl, rfl⟩)
      | (go_at_call 106; refine (HG.out _ hbw).mono ?_; rintro e w' ⟨rfl, rfl⟩)
      | (go_at_call 129; refine (CH1.out _).mono ?_; rintro e w' ⟨rfl, rfl⟩)
      | (go_at_call 86; refine (HW.out _ hbw).mono ?_; rintro e w2 ⟨rfl, hb⟩; replace p0 := cell_low p0 hb; replace p1 := cell_low p1 hb; replace p2 := cell_low p2 hb; replace p3 := cell_low p3 hb; replace p4 := cell_low p4 hb; replace p5 := cell_low p5 hb; replace hbw := hbw.trans (hb.mono hbw.size); clear hb))
    go_ret
    exact ⟨rfl, hbw⟩)
end Go.Proofs.YtfaohicadahcjaaGreatDoor
