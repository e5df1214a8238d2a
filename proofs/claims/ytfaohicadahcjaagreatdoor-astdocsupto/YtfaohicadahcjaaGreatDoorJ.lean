/- Contracts: a command's shape. Conditions: lengths below a bound. -/
import Derived.Test.YtfaohicadahcjaaGreatDoorI
namespace Go.Proofs.YtfaohicadahcjaaGreatDoor
open Go.RowKit Go.PlainAid Go.ChangeShapes Go.WideShapes Go.ChangeAt
set_option linter.unusedSimpArgs false
set_option linter.unusedVariables false
set_option maxHeartbeats 4000000 in
set_option maxRecDepth 100000 in
theorem shape60_1 (nm : ByteArray) (a1 a2 a3 a4 a5 : Option Addr) (n1 n2 n3 n4 n5 c1 c2 c3 c4 c5 : Nat) (w : World) (lv : Nat) (ws : List (List Pt)) (hw : WsAt lv w (.slice a2 n2 c2) ws) : Calls Tryz.prog 60 #[.agg #[.int .i64 1, .string nm, .slice a1 n1 c1, .slice a2 n2 c2, .slice a3 n3 c3, .slice a4 n4 c4, .slice a5 n5 c5]] w fun e w' => e = .returned (.bool ((hasI (!emB nm) (decide (0 < n1)) (decide (0 < n2)) (decide (0 < n3)) (decide (0 < n4)) (decide (0 < n5)) != 0) && (bits .andNot .i64 (hasI (!emB nm) (decide (0 < n1)) (decide (0 < n2)) (decide (0 < n3)) (decide (0 < n4)) (decide (0 < n5))) 14 == 0) && begB ws)) ∧ Below w.heap.size w w' := by
  have HB := Lib.hid ((Below.refl w.heap.size w).alloc (Nat.le_refl _) (.cells #[.int .i64 1, .string nm, .slice a1 n1 c1, .slice a2 n2 c2, .slice a3 n3 c3, .slice a4 n4 c4, .slice a5 n5 c5] 51))
  have HH := Lib.hid (heap_alloc_new w (.cells #[.int .i64 1, .string nm, .slice a1 n1 c1, .slice a2 n2 c2, .slice a3 n3 c3, .slice a4 n4 c4, .slice a5 n5 c5] 51))
  have C78 := Lib.hid fun W => has78 1 nm a1 a2 a3 a4 a5 n1 n2 n3 n4 n5 c1 c2 c3 c4 c5 W
  have C79 := Lib.hid fun W => only79 1 nm a1 a2 a3 a4 a5 n1 n2 n3 n4 n5 c1 c2 c3 c4 c5 14 W
  have C80 := Lib.hid fun W (hb : Below w.heap.size w W) => beginning80 lv _ ws W (kept_ws lv _ _ _ _ hw hb)
  clear hw
  obtain ⟨hx, HX⟩ : ∃ x, Hid (hasI (!emB nm) (decide (0 < n1)) (decide (0 < n2)) (decide (0 < n3)) (decide (0 < n4)) (decide (0 < n5)) = x) := ⟨_, Lib.hid rfl⟩
  rw [HX.out] at C78 C79 ⊢
  have hq0 := ne_int hx 0
  have hr0 := eq_int hx 0
  rw [hq0]
  generalize decide (hx = 0) = y0 at hq0 hr0 ⊢
  generalize z1d : (bits .andNot .i64 hx 14 == 0) = z1 at C79 ⊢
  clear z1d
  generalize begB ws = z2 at C80 ⊢
  go_enter Tryz.func60, Tryz.ntmps60
  go_upto_region 1 with fail
  generalize w.alloc (.cells #[.int .i64 1, .string nm, .slice a1 n1 c1, .slice a2 n2 c2, .slice a3 n3 c3, .slice a4 n4 c4, .slice a5 n5 c5] 51) = w1 at HB HH ⊢
  have p0 : w1.cell? ⟨w.heap.size, 0, none⟩ = some (.int .i64 1) := cells_at HH.out (i := 0) rfl
  have p1 : w1.cell? ⟨w.heap.size, 1, none⟩ = some (.string nm) := cells_at HH.out (i := 1) rfl
  have p2 : w1.cell? ⟨w.heap.size, 2, none⟩ = some (.slice a1 n1 c1) := cells_at HH.out (i := 2) rfl
  have p3 : w1.cell? ⟨w.heap.size, 3, none⟩ = some (.slice a2 n2 c2) := cells_at HH.out (i := 3) rfl
  have p4 : w1.cell? ⟨w.heap.size, 4, none⟩ = some (.slice a3 n3 c3) := cells_at HH.out (i := 4) rfl
  have p5 : w1.cell? ⟨w.heap.size, 5, none⟩ = some (.slice a4 n4 c4) := cells_at HH.out (i := 5) rfl
  have p6 : w1.cell? ⟨w.heap.size, 6, none⟩ = some (.slice a5 n5 c5) := cells_at HH.out (i := 6) rfl
  have hbw := HB.out
  clear HB HH
  cases y0 <;> cases z1 <;> cases z2
  all_goals (
    try simp only [Bool.not_true, Bool.not_false] at hq0
    go_wp2_with (first
      | (go_at_call 78; refine (C78.out _).mono ?_; rintro e w2 ⟨rfl, hb⟩; replace p0 := cell_low p0 hb; replace p1 := cell_low p1 hb; replace p2 := cell_low p2 hb; replace p3 := cell_low p3 hb; replace p4 := cell_low p4 hb; replace p5 := cell_low p5 hb; replace p6 := cell_low p6 hb; replace hbw := hbw.trans (hb.mono hbw.size); clear hb)
      | (go_at_call 79; refine (C79.out _).mono ?_; rintro e w2 ⟨rfl, hb⟩; replace p0 := cell_low p0 hb; replace p1 := cell_low p1 hb; replace p2 := cell_low p2 hb; replace p3 := cell_low p3 hb; replace p4 := cell_low p4 hb; replace p5 := cell_low p5 hb; replace p6 := cell_low p6 hb; replace hbw := hbw.trans (hb.mono hbw.size); clear hb)
      | (go_at_call 80; refine (C80.out _ hbw).mono ?_; rintro e w2 ⟨rfl, rfl⟩))
    go_ret
    exact ⟨rfl, hbw⟩)
set_option maxHeartbeats 4000000 in
set_option maxRecDepth 100000 in
theorem shape60_2 (nm : ByteArray) (a1 a2 a3 a4 a5 : Option Addr) (n1 n2 n3 n4 n5 c1 c2 c3 c4 c5 : Nat) (w : World) (lv : Nat) (lss : List (List Nd)) (hl : LsAt lv w (.slice a4 n4 c4) lss) : Calls Tryz.prog 60 #[.agg #[.int .i64 2, .string nm, .slice a1 n1 c1, .slice a2 n2 c2, .slice a3 n3 c3, .slice a4 n4 c4, .slice a5 n5 c5]] w fun e w' => e = .returned (.bool ((bits .andNot .i64 (hasI (!emB nm) (decide (0 < n1)) (decide (0 < n2)) (decide (0 < n3)) (decide (0 < n4)) (decide (0 < n5))) 16 == 0) && decide (2 ≤ n4) && singleM (fun _ k => pipeM k) 0 lss)) ∧ Below w.heap.size w w' := by
  have HB := Lib.hid ((Below.refl w.heap.size w).alloc (Nat.le_refl _) (.cells #[.int .i64 2, .string nm, .slice a1 n1 c1, .slice a2 n2 c2, .slice a3 n3 c3, .slice a4 n4 c4, .slice a5 n5 c5] 51))
  have HH := Lib.hid (heap_alloc_new w (.cells #[.int .i64 2, .string nm, .slice a1 n1 c1, .slice a2 n2 c2, .slice a3 n3 c3, .slice a4 n4 c4, .slice a5 n5 c5] 51))
  have C79 := Lib.hid fun W => only79 2 nm a1 a2 a3 a4 a5 n1 n2 n3 n4 n5 c1 c2 c3 c4 c5 16 W
  have C81 := Lib.hid fun W (hb : Below w.heap.size w W) => single81 82 (fun _ k => pipeM k) may82 lv _ lss W (kept_ls lv _ _ _ _ hl hb) (enters_of Tryz.func82 (by kernel_rfl) rfl)
  clear hl
  generalize z0d : (bits .andNot .i64 (hasI (!emB nm) (decide (0 < n1)) (decide (0 < n2)) (decide (0 < n3)) (decide (0 < n4)) (decide (0 < n5))) 16 == 0) = z0 at C79 ⊢
  clear z0d
  have e1 : decide (2 ≤ (n4 : Int)) = decide (2 ≤ n4) := decide_eq_decide.2 (by omega)
  generalize z1d : decide (2 ≤ n4) = z1 at e1 ⊢
  generalize singleM (fun _ k => pipeM k) 0 lss = z2 at C81 ⊢
  go_enter Tryz.func60, Tryz.ntmps60
  go_upto_region 1 with fail
  generalize w.alloc (.cells #[.int .i64 2, .string nm, .slice a1 n1 c1, .slice a2 n2 c2, .slice a3 n3 c3, .slice a4 n4 c4, .slice a5 n5 c5] 51) = w1 at HB HH ⊢
  have p0 : w1.cell? ⟨w.heap.size, 0, none⟩ = some (.int .i64 2) := cells_at HH.out (i := 0) rfl
  have p1 : w1.cell? ⟨w.heap.size, 1, none⟩ = some (.string nm) := cells_at HH.out (i := 1) rfl
  have p2 : w1.cell? ⟨w.heap.size, 2, none⟩ = some (.slice a1 n1 c1) := cells_at HH.out (i := 2) rfl
  have p3 : w1.cell? ⟨w.heap.size, 3, none⟩ = some (.slice a2 n2 c2) := cells_at HH.out (i := 3) rfl
  have p4 : w1.cell? ⟨w.heap.size, 4, none⟩ = some (.slice a3 n3 c3) := cells_at HH.out (i := 4) rfl
  have p5 : w1.cell? ⟨w.heap.size, 5, none⟩ = some (.slice a4 n4 c4) := cells_at HH.out (i := 5) rfl
  have p6 : w1.cell? ⟨w.heap.size, 6, none⟩ = some (.slice a5 n5 c5) := cells_at HH.out (i := 6) rfl
  have hbw := HB.out
  clear HB HH
  cases z0 <;> cases z1 <;> cases z2
  all_goals (
    go_wp2_with (first
      | (go_at_call 79; refine (C79.out _).mono ?_; rintro e w2 ⟨rfl, hb⟩; replace p0 := cell_low p0 hb; replace p1 := cell_low p1 hb; replace p2 := cell_low p2 hb; replace p3 := cell_low p3 hb; replace p4 := cell_low p4 hb; replace p5 := cell_low p5 hb; replace p6 := cell_low p6 hb; replace hbw := hbw.trans (hb.mono hbw.size); clear hb)
      | (go_at_call 81; refine (C81.out _ hbw).mono ?_; rintro e w2 ⟨rfl, rfl⟩))
    go_ret
    exact ⟨rfl, hbw⟩)
set_option maxHeartbeats 4000000 in
set_option maxRecDepth 100000 in
theorem shape60_3 (nm : ByteArray) (a1 a2 a3 a4 a5 : Option Addr) (n1 n2 n3 n4 n5 c1 c2 c3 c4 c5 : Nat) (w : World) (lv : Nat) (lss : List (List Nd)) (hl : LsAt lv w (.slice a4 n4 c4) lss) : Calls Tryz.prog 60 #[.agg #[.int .i64 3, .string nm, .slice a1 n1 c1, .slice a2 n2 c2, .slice a3 n3 c3, .slice a4 n4 c4, .slice a5 n5 c5]] w fun e w' => e = .returned (.bool ((bits .andNot .i64 (hasI (!emB nm) (decide (0 < n1)) (decide (0 < n2)) (decide (0 < n3)) (decide (0 < n4)) (decide (0 < n5))) 16 == 0) && decide (n4 = 2) && singleM (orM) 0 lss)) ∧ Below w.heap.size w w' := by
  have HB := Lib.hid ((Below.refl w.heap.size w).alloc (Nat.le_refl _) (.cells #[.int .i64 3, .string nm, .slice a1 n1 c1, .slice a2 n2 c2, .slice a3 n3 c3, .slice a4 n4 c4, .slice a5 n5 c5] 51))
  have HH := Lib.hid (heap_alloc_new w (.cells #[.int .i64 3, .string nm, .slice a1 n1 c1, .slice a2 n2 c2, .slice a3 n3 c3, .slice a4 n4 c4, .slice a5 n5 c5] 51))
  have C79 := Lib.hid fun W => only79 3 nm a1 a2 a3 a4 a5 n1 n2 n3 n4 n5 c1 c2 c3 c4 c5 16 W
  have C81 := Lib.hid fun W (hb : Below w.heap.size w W) => single81 83 (orM) may83 lv _ lss W (kept_ls lv _ _ _ _ hl hb) (enters_of Tryz.func83 (by kernel_rfl) rfl)
  clear hl
  generalize z0d : (bits .andNot .i64 (hasI (!emB nm) (decide (0 < n1)) (decide (0 < n2)) (decide (0 < n3)) (decide (0 < n4)) (decide (0 < n5))) 16 == 0) = z0 at C79 ⊢
  clear z0d
  have e1 : (n4 == 2) = decide (n4 = 2) := by rw [Bool.eq_iff_iff]; simp
  have i1 : ((n4 : Int) == 2) = decide (n4 = 2) := by rw [Bool.eq_iff_iff]; simp; omega
  generalize z1d : decide (n4 = 2) = z1 at e1 i1 ⊢
  clear z1d
  generalize singleM (orM) 0 lss = z2 at C81 ⊢
  go_enter Tryz.func60, Tryz.ntmps60
  go_upto_region 1 with fail
  generalize w.alloc (.cells #[.int .i64 3, .string nm, .slice a1 n1 c1, .slice a2 n2 c2, .slice a3 n3 c3, .slice a4 n4 c4, .slice a5 n5 c5] 51) = w1 at HB HH ⊢
  have p0 : w1.cell? ⟨w.heap.size, 0, none⟩ = some (.int .i64 3) := cells_at HH.out (i := 0) rfl
  have p1 : w1.cell? ⟨w.heap.size, 1, none⟩ = some (.string nm) := cells_at HH.out (i := 1) rfl
  have p2 : w1.cell? ⟨w.heap.size, 2, none⟩ = some (.slice a1 n1 c1) := cells_at HH.out (i := 2) rfl
  have p3 : w1.cell? ⟨w.heap.size, 3, none⟩ = some (.slice a2 n2 c2) := cells_at HH.out (i := 3) rfl
  have p4 : w1.cell? ⟨w.heap.size, 4, none⟩ = some (.slice a3 n3 c3) := cells_at HH.out (i := 4) rfl
  have p5 : w1.cell? ⟨w.heap.size, 5, none⟩ = some (.slice a4 n4 c4) := cells_at HH.out (i := 5) rfl
  have p6 : w1.cell? ⟨w.heap.size, 6, none⟩ = some (.slice a5 n5 c5) := cells_at HH.out (i := 6) rfl
  have hbw := HB.out
  clear HB HH
  cases z0 <;> cases z1 <;> cases z2
  all_goals (
    go_wp2_with (first
      | (go_at_call 79; refine (C79.out _).mono ?_; rintro e w2 ⟨rfl, hb⟩; replace p0 := cell_low p0 hb; replace p1 := cell_low p1 hb; replace p2 := cell_low p2 hb; replace p3 := cell_low p3 hb; replace p4 := cell_low p4 hb; replace p5 := cell_low p5 hb; replace p6 := cell_low p6 hb; replace hbw := hbw.trans (hb.mono hbw.size); clear hb)
      | (go_at_call 81; refine (C81.out _ hbw).mono ?_; rintro e w2 ⟨rfl, rfl⟩))
    go_ret
    exact ⟨rfl, hbw⟩)
set_option maxHeartbeats 4000000 in
set_option maxRecDepth 100000 in
theorem shape60_4 (nm : ByteArray) (a1 a2 a3 a4 a5 : Option Addr) (n1 n2 n3 n4 n5 c1 c2 c3 c4 c5 : Nat) (w : World) (lv : Nat) (lss : List (List Nd)) (hl : LsAt lv w (.slice a4 n4 c4) lss) : Calls Tryz.prog 60 #[.agg #[.int .i64 4, .string nm, .slice a1 n1 c1, .slice a2 n2 c2, .slice a3 n3 c3, .slice a4 n4 c4, .slice a5 n5 c5]] w fun e w' => e = .returned (.bool ((bits .andNot .i64 (hasI (!emB nm) (decide (0 < n1)) (decide (0 < n2)) (decide (0 < n3)) (decide (0 < n4)) (decide (0 < n5))) 16 == 0) && decide (n4 = 2) && singleM (orM) 0 lss)) ∧ Below w.heap.size w w' := by
  have HB := Lib.hid ((Below.refl w.heap.size w).alloc (Nat.le_refl _) (.cells #[.int .i64 4, .string nm, .slice a1 n1 c1, .slice a2 n2 c2, .slice a3 n3 c3, .slice a4 n4 c4, .slice a5 n5 c5] 51))
  have HH := Lib.hid (heap_alloc_new w (.cells #[.int .i64 4, .string nm, .slice a1 n1 c1, .slice a2 n2 c2, .slice a3 n3 c3, .slice a4 n4 c4, .slice a5 n5 c5] 51))
  have C79 := Lib.hid fun W => only79 4 nm a1 a2 a3 a4 a5 n1 n2 n3 n4 n5 c1 c2 c3 c4 c5 16 W
  have C81 := Lib.hid fun W (hb : Below w.heap.size w W) => single81 83 (orM) may83 lv _ lss W (kept_ls lv _ _ _ _ hl hb) (enters_of Tryz.func83 (by kernel_rfl) rfl)
  clear hl
  generalize z0d : (bits .andNot .i64 (hasI (!emB nm) (decide (0 < n1)) (decide (0 < n2)) (decide (0 < n3)) (decide (0 < n4)) (decide (0 < n5))) 16 == 0) = z0 at C79 ⊢
  clear z0d
  have e1 : (n4 == 2) = decide (n4 = 2) := by rw [Bool.eq_iff_iff]; simp
  have i1 : ((n4 : Int) == 2) = decide (n4 = 2) := by rw [Bool.eq_iff_iff]; simp; omega
  generalize z1d : decide (n4 = 2) = z1 at e1 i1 ⊢
  clear z1d
  generalize singleM (orM) 0 lss = z2 at C81 ⊢
  go_enter Tryz.func60, Tryz.ntmps60
  go_upto_region 1 with fail
  generalize w.alloc (.cells #[.int .i64 4, .string nm, .slice a1 n1 c1, .slice a2 n2 c2, .slice a3 n3 c3, .slice a4 n4 c4, .slice a5 n5 c5] 51) = w1 at HB HH ⊢
  have p0 : w1.cell? ⟨w.heap.size, 0, none⟩ = some (.int .i64 4) := cells_at HH.out (i := 0) rfl
  have p1 : w1.cell? ⟨w.heap.size, 1, none⟩ = some (.string nm) := cells_at HH.out (i := 1) rfl
  have p2 : w1.cell? ⟨w.heap.size, 2, none⟩ = some (.slice a1 n1 c1) := cells_at HH.out (i := 2) rfl
  have p3 : w1.cell? ⟨w.heap.size, 3, none⟩ = some (.slice a2 n2 c2) := cells_at HH.out (i := 3) rfl
  have p4 : w1.cell? ⟨w.heap.size, 4, none⟩ = some (.slice a3 n3 c3) := cells_at HH.out (i := 4) rfl
  have p5 : w1.cell? ⟨w.heap.size, 5, none⟩ = some (.slice a4 n4 c4) := cells_at HH.out (i := 5) rfl
  have p6 : w1.cell? ⟨w.heap.size, 6, none⟩ = some (.slice a5 n5 c5) := cells_at HH.out (i := 6) rfl
  have hbw := HB.out
  clear HB HH
  cases z0 <;> cases z1 <;> cases z2
  all_goals (
    go_wp2_with (first
      | (go_at_call 79; refine (C79.out _).mono ?_; rintro e w2 ⟨rfl, hb⟩; replace p0 := cell_low p0 hb; replace p1 := cell_low p1 hb; replace p2 := cell_low p2 hb; replace p3 := cell_low p3 hb; replace p4 := cell_low p4 hb; replace p5 := cell_low p5 hb; replace p6 := cell_low p6 hb; replace hbw := hbw.trans (hb.mono hbw.size); clear hb)
      | (go_at_call 81; refine (C81.out _ hbw).mono ?_; rintro e w2 ⟨rfl, rfl⟩))
    go_ret
    exact ⟨rfl, hbw⟩)
set_option maxHeartbeats 4000000 in
set_option maxRecDepth 100000 in
theorem shape60_5 (nm : ByteArray) (a1 a2 a3 a4 a5 : Option Addr) (n1 n2 n3 n4 n5 c1 c2 c3 c4 c5 : Nat) (w : World) (lv : Nat) (lss : List (List Nd)) (hl : LsAt lv w (.slice a4 n4 c4) lss) : Calls Tryz.prog 60 #[.agg #[.int .i64 5, .string nm, .slice a1 n1 c1, .slice a2 n2 c2, .slice a3 n3 c3, .slice a4 n4 c4, .slice a5 n5 c5]] w fun e w' => e = .returned (.bool ((bits .andNot .i64 (hasI (!emB nm) (decide (0 < n1)) (decide (0 < n2)) (decide (0 < n3)) (decide (0 < n4)) (decide (0 < n5))) 16 == 0) && decide (n4 = 1) && singleM (fun _ k => notM k) 0 lss)) ∧ Below w.heap.size w w' := by
  have HB := Lib.hid ((Below.refl w.heap.size w).alloc (Nat.le_refl _) (.cells #[.int .i64 5, .string nm, .slice a1 n1 c1, .slice a2 n2 c2, .slice a3 n3 c3, .slice a4 n4 c4, .slice a5 n5 c5] 51))
  have HH := Lib.hid (heap_alloc_new w (.cells #[.int .i64 5, .string nm, .slice a1 n1 c1, .slice a2 n2 c2, .slice a3 n3 c3, .slice a4 n4 c4, .slice a5 n5 c5] 51))
  have C79 := Lib.hid fun W => only79 5 nm a1 a2 a3 a4 a5 n1 n2 n3 n4 n5 c1 c2 c3 c4 c5 16 W
  have C81 := Lib.hid fun W (hb : Below w.heap.size w W) => single81 84 (fun _ k => notM k) may84 lv _ lss W (kept_ls lv _ _ _ _ hl hb) (enters_of Tryz.func84 (by kernel_rfl) rfl)
  clear hl
  generalize z0d : (bits .andNot .i64 (hasI (!emB nm) (decide (0 < n1)) (decide (0 < n2)) (decide (0 < n3)) (decide (0 < n4)) (decide (0 < n5))) 16 == 0) = z0 at C79 ⊢
  clear z0d
  have e1 : (n4 == 1) = decide (n4 = 1) := by rw [Bool.eq_iff_iff]; simp
  have i1 : ((n4 : Int) == 1) = decide (n4 = 1) := by rw [Bool.eq_iff_iff]; simp; omega
  generalize z1d : decide (n4 = 1) = z1 at e1 i1 ⊢
  clear z1d
  generalize singleM (fun _ k => notM k) 0 lss = z2 at C81 ⊢
  go_enter Tryz.func60, Tryz.ntmps60
  go_upto_region 1 with fail
  generalize w.alloc (.cells #[.int .i64 5, .string nm, .slice a1 n1 c1, .slice a2 n2 c2, .slice a3 n3 c3, .slice a4 n4 c4, .slice a5 n5 c5] 51) = w1 at HB HH ⊢
  have p0 : w1.cell? ⟨w.heap.size, 0, none⟩ = some (.int .i64 5) := cells_at HH.out (i := 0) rfl
  have p1 : w1.cell? ⟨w.heap.size, 1, none⟩ = some (.string nm) := cells_at HH.out (i := 1) rfl
  have p2 : w1.cell? ⟨w.heap.size, 2, none⟩ = some (.slice a1 n1 c1) := cells_at HH.out (i := 2) rfl
  have p3 : w1.cell? ⟨w.heap.size, 3, none⟩ = some (.slice a2 n2 c2) := cells_at HH.out (i := 3) rfl
  have p4 : w1.cell? ⟨w.heap.size, 4, none⟩ = some (.slice a3 n3 c3) := cells_at HH.out (i := 4) rfl
  have p5 : w1.cell? ⟨w.heap.size, 5, none⟩ = some (.slice a4 n4 c4) := cells_at HH.out (i := 5) rfl
  have p6 : w1.cell? ⟨w.heap.size, 6, none⟩ = some (.slice a5 n5 c5) := cells_at HH.out (i := 6) rfl
  have hbw := HB.out
  clear HB HH
  cases z0 <;> cases z1 <;> cases z2
  all_goals (
    go_wp2_with (first
      | (go_at_call 79; refine (C79.out _).mono ?_; rintro e w2 ⟨rfl, hb⟩; replace p0 := cell_low p0 hb; replace p1 := cell_low p1 hb; replace p2 := cell_low p2 hb; replace p3 := cell_low p3 hb; replace p4 := cell_low p4 hb; replace p5 := cell_low p5 hb; replace p6 := cell_low p6 hb; replace hbw := hbw.trans (hb.mono hbw.size); clear hb)
      | (go_at_call 81; refine (C81.out _ hbw).mono ?_; rintro e w2 ⟨rfl, rfl⟩))
    go_ret
    exact ⟨rfl, hbw⟩)
set_option maxHeartbeats 4000000 in
set_option maxRecDepth 100000 in
theorem shape60_6 (nm : ByteArray) (a1 a2 a3 a4 a5 : Option Addr) (n1 n2 n3 n4 n5 c1 c2 c3 c4 c5 : Nat) (w : World) : Calls Tryz.prog 60 #[.agg #[.int .i64 6, .string nm, .slice a1 n1 c1, .slice a2 n2 c2, .slice a3 n3 c3, .slice a4 n4 c4, .slice a5 n5 c5]] w fun e w' => e = .returned (.bool ((bits .andNot .i64 (hasI (!emB nm) (decide (0 < n1)) (decide (0 < n2)) (decide (0 < n3)) (decide (0 < n4)) (decide (0 < n5))) 24 == 0) && (decide (n4 = 2) || decide (n4 = 3)))) ∧ Below w.heap.size w w' := by
  have HB := Lib.hid ((Below.refl w.heap.size w).alloc (Nat.le_refl _) (.cells #[.int .i64 6, .string nm, .slice a1 n1 c1, .slice a2 n2 c2, .slice a3 n3 c3, .slice a4 n4 c4, .slice a5 n5 c5] 51))
  have HH := Lib.hid (heap_alloc_new w (.cells #[.int .i64 6, .string nm, .slice a1 n1 c1, .slice a2 n2 c2, .slice a3 n3 c3, .slice a4 n4 c4, .slice a5 n5 c5] 51))
  have C79 := Lib.hid fun W => only79 6 nm a1 a2 a3 a4 a5 n1 n2 n3 n4 n5 c1 c2 c3 c4 c5 24 W
  generalize z0d : (bits .andNot .i64 (hasI (!emB nm) (decide (0 < n1)) (decide (0 < n2)) (decide (0 < n3)) (decide (0 < n4)) (decide (0 < n5))) 24 == 0) = z0 at C79 ⊢
  clear z0d
  have eu1 : (n4 == 2) = decide (n4 = 2) := by rw [Bool.eq_iff_iff]; simp
  have iu1 : ((n4 : Int) == 2) = decide (n4 = 2) := by rw [Bool.eq_iff_iff]; simp; omega
  generalize z1ud : decide (n4 = 2) = z1u at eu1 iu1 ⊢
  clear z1ud
  have ev1 : (n4 == 3) = decide (n4 = 3) := by rw [Bool.eq_iff_iff]; simp
  have iv1 : ((n4 : Int) == 3) = decide (n4 = 3) := by rw [Bool.eq_iff_iff]; simp; omega
  generalize z1vd : decide (n4 = 3) = z1v at ev1 iv1 ⊢
  clear z1vd
  go_enter Tryz.func60, Tryz.ntmps60
  go_upto_region 1 with fail
  generalize w.alloc (.cells #[.int .i64 6, .string nm, .slice a1 n1 c1, .slice a2 n2 c2, .slice a3 n3 c3, .slice a4 n4 c4, .slice a5 n5 c5] 51) = w1 at HB HH ⊢
  have p0 : w1.cell? ⟨w.heap.size, 0, none⟩ = some (.int .i64 6) := cells_at HH.out (i := 0) rfl
  have p1 : w1.cell? ⟨w.heap.size, 1, none⟩ = some (.string nm) := cells_at HH.out (i := 1) rfl
  have p2 : w1.cell? ⟨w.heap.size, 2, none⟩ = some (.slice a1 n1 c1) := cells_at HH.out (i := 2) rfl
  have p3 : w1.cell? ⟨w.heap.size, 3, none⟩ = some (.slice a2 n2 c2) := cells_at HH.out (i := 3) rfl
  have p4 : w1.cell? ⟨w.heap.size, 4, none⟩ = some (.slice a3 n3 c3) := cells_at HH.out (i := 4) rfl
  have p5 : w1.cell? ⟨w.heap.size, 5, none⟩ = some (.slice a4 n4 c4) := cells_at HH.out (i := 5) rfl
  have p6 : w1.cell? ⟨w.heap.size, 6, none⟩ = some (.slice a5 n5 c5) := cells_at HH.out (i := 6) rfl
  have hbw := HB.out
  clear HB HH
  cases z0 <;> cases z1u <;> cases z1v
  all_goals (
    go_wp2_with (first
      | (go_at_call 79; refine (C79.out _).mono ?_; rintro e w2 ⟨rfl, hb⟩; replace p0 := cell_low p0 hb; replace p1 := cell_low p1 hb; replace p2 := cell_low p2 hb; replace p3 := cell_low p3 hb; replace p4 := cell_low p4 hb; replace p5 := cell_low p5 hb; replace p6 := cell_low p6 hb; replace hbw := hbw.trans (hb.mono hbw.size); clear hb))
    go_ret
    exact ⟨rfl, hbw⟩)
set_option maxHeartbeats 4000000 in
set_option maxRecDepth 100000 in
theorem shape60_7 (nm : ByteArray) (a1 a2 a3 a4 a5 : Option Addr) (n1 n2 n3 n4 n5 c1 c2 c3 c4 c5 : Nat) (w : World) : Calls Tryz.prog 60 #[.agg #[.int .i64 7, .string nm, .slice a1 n1 c1, .slice a2 n2 c2, .slice a3 n3 c3, .slice a4 n4 c4, .slice a5 n5 c5]] w fun e w' => e = .returned (.bool ((bits .andNot .i64 (hasI (!emB nm) (decide (0 < n1)) (decide (0 < n2)) (decide (0 < n3)) (decide (0 < n4)) (decide (0 < n5))) 24 == 0) && decide (n4 = 2))) ∧ Below w.heap.size w w' := by
  have HB := Lib.hid ((Below.refl w.heap.size w).alloc (Nat.le_refl _) (.cells #[.int .i64 7, .string nm, .slice a1 n1 c1, .slice a2 n2 c2, .slice a3 n3 c3, .slice a4 n4 c4, .slice a5 n5 c5] 51))
  have HH := Lib.hid (heap_alloc_new w (.cells #[.int .i64 7, .string nm, .slice a1 n1 c1, .slice a2 n2 c2, .slice a3 n3 c3, .slice a4 n4 c4, .slice a5 n5 c5] 51))
  have C79 := Lib.hid fun W => only79 7 nm a1 a2 a3 a4 a5 n1 n2 n3 n4 n5 c1 c2 c3 c4 c5 24 W
  generalize z0d : (bits .andNot .i64 (hasI (!emB nm) (decide (0 < n1)) (decide (0 < n2)) (decide (0 < n3)) (decide (0 < n4)) (decide (0 < n5))) 24 == 0) = z0 at C79 ⊢
  clear z0d
  have e1 : (n4 == 2) = decide (n4 = 2) := by rw [Bool.eq_iff_iff]; simp
  have i1 : ((n4 : Int) == 2) = decide (n4 = 2) := by rw [Bool.eq_iff_iff]; simp; omega
  generalize z1d : decide (n4 = 2) = z1 at e1 i1 ⊢
  clear z1d
  go_enter Tryz.func60, Tryz.ntmps60
  go_upto_region 1 with fail
  generalize w.alloc (.cells #[.int .i64 7, .string nm, .slice a1 n1 c1, .slice a2 n2 c2, .slice a3 n3 c3, .slice a4 n4 c4, .slice a5 n5 c5] 51) = w1 at HB HH ⊢
  have p0 : w1.cell? ⟨w.heap.size, 0, none⟩ = some (.int .i64 7) := cells_at HH.out (i := 0) rfl
  have p1 : w1.cell? ⟨w.heap.size, 1, none⟩ = some (.string nm) := cells_at HH.out (i := 1) rfl
  have p2 : w1.cell? ⟨w.heap.size, 2, none⟩ = some (.slice a1 n1 c1) := cells_at HH.out (i := 2) rfl
  have p3 : w1.cell? ⟨w.heap.size, 3, none⟩ = some (.slice a2 n2 c2) := cells_at HH.out (i := 3) rfl
  have p4 : w1.cell? ⟨w.heap.size, 4, none⟩ = some (.slice a3 n3 c3) := cells_at HH.out (i := 4) rfl
  have p5 : w1.cell? ⟨w.heap.size, 5, none⟩ = some (.slice a4 n4 c4) := cells_at HH.out (i := 5) rfl
  have p6 : w1.cell? ⟨w.heap.size, 6, none⟩ = some (.slice a5 n5 c5) := cells_at HH.out (i := 6) rfl
  have hbw := HB.out
  clear HB HH
  cases z0 <;> cases z1
  all_goals (
    go_wp2_with (first
      | (go_at_call 79; refine (C79.out _).mono ?_; rintro e w2 ⟨rfl, hb⟩; replace p0 := cell_low p0 hb; replace p1 := cell_low p1 hb; replace p2 := cell_low p2 hb; replace p3 := cell_low p3 hb; replace p4 := cell_low p4 hb; replace p5 := cell_low p5 hb; replace p6 := cell_low p6 hb; replace hbw := hbw.trans (hb.mono hbw.size); clear hb))
    go_ret
    exact ⟨rfl, hbw⟩)
set_option maxHeartbeats 4000000 in
set_option maxRecDepth 100000 in
theorem shape60_8 (nm : ByteArray) (a1 a2 a3 a4 a5 : Option Addr) (n1 n2 n3 n4 n5 c1 c2 c3 c4 c5 : Nat) (w : World) : Calls Tryz.prog 60 #[.agg #[.int .i64 8, .string nm, .slice a1 n1 c1, .slice a2 n2 c2, .slice a3 n3 c3, .slice a4 n4 c4, .slice a5 n5 c5]] w fun e w' => e = .returned (.bool ((bits .andNot .i64 (hasI (!emB nm) (decide (0 < n1)) (decide (0 < n2)) (decide (0 < n3)) (decide (0 < n4)) (decide (0 < n5))) 24 == 0) && decide (n4 = 2))) ∧ Below w.heap.size w w' := by
  have HB := Lib.hid ((Below.refl w.heap.size w).alloc (Nat.le_refl _) (.cells #[.int .i64 8, .string nm, .slice a1 n1 c1, .slice a2 n2 c2, .slice a3 n3 c3, .slice a4 n4 c4, .slice a5 n5 c5] 51))
  have HH := Lib.hid (heap_alloc_new w (.cells #[.int .i64 8, .string nm, .slice a1 n1 c1, .slice a2 n2 c2, .slice a3 n3 c3, .slice a4 n4 c4, .slice a5 n5 c5] 51))
  have C79 := Lib.hid fun W => only79 8 nm a1 a2 a3 a4 a5 n1 n2 n3 n4 n5 c1 c2 c3 c4 c5 24 W
  generalize z0d : (bits .andNot .i64 (hasI (!emB nm) (decide (0 < n1)) (decide (0 < n2)) (decide (0 < n3)) (decide (0 < n4)) (decide (0 < n5))) 24 == 0) = z0 at C79 ⊢
  clear z0d
  have e1 : (n4 == 2) = decide (n4 = 2) := by rw [Bool.eq_iff_iff]; simp
  have i1 : ((n4 : Int) == 2) = decide (n4 = 2) := by rw [Bool.eq_iff_iff]; simp; omega
  generalize z1d : decide (n4 = 2) = z1 at e1 i1 ⊢
  clear z1d
  go_enter Tryz.func60, Tryz.ntmps60
  go_upto_region 1 with fail
  generalize w.alloc (.cells #[.int .i64 8, .string nm, .slice a1 n1 c1, .slice a2 n2 c2, .slice a3 n3 c3, .slice a4 n4 c4, .slice a5 n5 c5] 51) = w1 at HB HH ⊢
  have p0 : w1.cell? ⟨w.heap.size, 0, none⟩ = some (.int .i64 8) := cells_at HH.out (i := 0) rfl
  have p1 : w1.cell? ⟨w.heap.size, 1, none⟩ = some (.string nm) := cells_at HH.out (i := 1) rfl
  have p2 : w1.cell? ⟨w.heap.size, 2, none⟩ = some (.slice a1 n1 c1) := cells_at HH.out (i := 2) rfl
  have p3 : w1.cell? ⟨w.heap.size, 3, none⟩ = some (.slice a2 n2 c2) := cells_at HH.out (i := 3) rfl
  have p4 : w1.cell? ⟨w.heap.size, 4, none⟩ = some (.slice a3 n3 c3) := cells_at HH.out (i := 4) rfl
  have p5 : w1.cell? ⟨w.heap.size, 5, none⟩ = some (.slice a4 n4 c4) := cells_at HH.out (i := 5) rfl
  have p6 : w1.cell? ⟨w.heap.size, 6, none⟩ = some (.slice a5 n5 c5) := cells_at HH.out (i := 6) rfl
  have hbw := HB.out
  clear HB HH
  cases z0 <;> cases z1
  all_goals (
    go_wp2_with (first
      | (go_at_call 79; refine (C79.out _).mono ?_; rintro e w2 ⟨rfl, hb⟩; replace p0 := cell_low p0 hb; replace p1 := cell_low p1 hb; replace p2 := cell_low p2 hb; replace p3 := cell_low p3 hb; replace p4 := cell_low p4 hb; replace p5 := cell_low p5 hb; replace p6 := cell_low p6 hb; replace hbw := hbw.trans (hb.mono hbw.size); clear hb))
    go_ret
    exact ⟨rfl, hbw⟩)
set_option maxHeartbeats 4000000 in
set_option maxRecDepth 100000 in
theorem shape60_12 (nm : ByteArray) (a1 a2 a3 a4 a5 : Option Addr) (n1 n2 n3 n4 n5 c1 c2 c3 c4 c5 : Nat) (w : World) : Calls Tryz.prog 60 #[.agg #[.int .i64 12, .string nm, .slice a1 n1 c1, .slice a2 n2 c2, .slice a3 n3 c3, .slice a4 n4 c4, .slice a5 n5 c5]] w fun e w' => e = .returned (.bool ((bits .andNot .i64 (hasI (!emB nm) (decide (0 < n1)) (decide (0 < n2)) (decide (0 < n3)) (decide (0 < n4)) (decide (0 < n5))) 24 == 0) && decide (n4 = 1))) ∧ Below w.heap.size w w' := by
  have HB := Lib.hid ((Below.refl w.heap.size w).alloc (Nat.le_refl _) (.cells #[.int .i64 12, .string nm, .slice a1 n1 c1, .slice a2 n2 c2, .slice a3 n3 c3, .slice a4 n4 c4, .slice a5 n5 c5] 51))
  have HH := Lib.hid (heap_alloc_new w (.cells #[.int .i64 12, .string nm, .slice a1 n1 c1, .slice a2 n2 c2, .slice a3 n3 c3, .slice a4 n4 c4, .slice a5 n5 c5] 51))
  have C79 := Lib.hid fun W => only79 12 nm a1 a2 a3 a4 a5 n1 n2 n3 n4 n5 c1 c2 c3 c4 c5 24 W
  generalize z0d : (bits .andNot .i64 (hasI (!emB nm) (decide (0 < n1)) (decide (0 < n2)) (decide (0 < n3)) (decide (0 < n4)) (decide (0 < n5))) 24 == 0) = z0 at C79 ⊢
  clear z0d
  have e1 : (n4 == 1) = decide (n4 = 1) := by rw [Bool.eq_iff_iff]; simp
  have i1 : ((n4 : Int) == 1) = decide (n4 = 1) := by rw [Bool.eq_iff_iff]; simp; omega
  generalize z1d : decide (n4 = 1) = z1 at e1 i1 ⊢
  clear z1d
  go_enter Tryz.func60, Tryz.ntmps60
  go_upto_region 1 with fail
  generalize w.alloc (.cells #[.int .i64 12, .string nm, .slice a1 n1 c1, .slice a2 n2 c2, .slice a3 n3 c3, .slice a4 n4 c4, .slice a5 n5 c5] 51) = w1 at HB HH ⊢
  have p0 : w1.cell? ⟨w.heap.size, 0, none⟩ = some (.int .i64 12) := cells_at HH.out (i := 0) rfl
  have p1 : w1.cell? ⟨w.heap.size, 1, none⟩ = some (.string nm) := cells_at HH.out (i := 1) rfl
  have p2 : w1.cell? ⟨w.heap.size, 2, none⟩ = some (.slice a1 n1 c1) := cells_at HH.out (i := 2) rfl
  have p3 : w1.cell? ⟨w.heap.size, 3, none⟩ = some (.slice a2 n2 c2) := cells_at HH.out (i := 3) rfl
  have p4 : w1.cell? ⟨w.heap.size, 4, none⟩ = some (.slice a3 n3 c3) := cells_at HH.out (i := 4) rfl
  have p5 : w1.cell? ⟨w.heap.size, 5, none⟩ = some (.slice a4 n4 c4) := cells_at HH.out (i := 5) rfl
  have p6 : w1.cell? ⟨w.heap.size, 6, none⟩ = some (.slice a5 n5 c5) := cells_at HH.out (i := 6) rfl
  have hbw := HB.out
  clear HB HH
  cases z0 <;> cases z1
  all_goals (
    go_wp2_with (first
      | (go_at_call 79; refine (C79.out _).mono ?_; rintro e w2 ⟨rfl, hb⟩; replace p0 := cell_low p0 hb; replace p1 := cell_low p1 hb; replace p2 := cell_low p2 hb; replace p3 := cell_low p3 hb; replace p4 := cell_low p4 hb; replace p5 := cell_low p5 hb; replace p6 := cell_low p6 hb; replace hbw := hbw.trans (hb.mono hbw.size); clear hb))
    go_ret
    exact ⟨rfl, hbw⟩)
set_option maxHeartbeats 4000000 in
set_option maxRecDepth 100000 in
theorem shape60_13 (nm : ByteArray) (a1 a2 a3 a4 a5 : Option Addr) (n1 n2 n3 n4 n5 c1 c2 c3 c4 c5 : Nat) (w : World) : Calls Tryz.prog 60 #[.agg #[.int .i64 13, .string nm, .slice a1 n1 c1, .slice a2 n2 c2, .slice a3 n3 c3, .slice a4 n4 c4, .slice a5 n5 c5]] w fun e w' => e = .returned (.bool ((bits .andNot .i64 (hasI (!emB nm) (decide (0 < n1)) (decide (0 < n2)) (decide (0 < n3)) (decide (0 < n4)) (decide (0 < n5))) 24 == 0) && decide (n4 = 1))) ∧ Below w.heap.size w w' := by
  have HB := Lib.hid ((Below.refl w.heap.size w).alloc (Nat.le_refl _) (.cells #[.int .i64 13, .string nm, .slice a1 n1 c1, .slice a2 n2 c2, .slice a3 n3 c3, .slice a4 n4 c4, .slice a5 n5 c5] 51))
  have HH := Lib.hid (heap_alloc_new w (.cells #[.int .i64 13, .string nm, .slice a1 n1 c1, .slice a2 n2 c2, .slice a3 n3 c3, .slice a4 n4 c4, .slice a5 n5 c5] 51))
  have C79 := Lib.hid fun W => only79 13 nm a1 a2 a3 a4 a5 n1 n2 n3 n4 n5 c1 c2 c3 c4 c5 24 W
  generalize z0d : (bits .andNot .i64 (hasI (!emB nm) (decide (0 < n1)) (decide (0 < n2)) (decide (0 < n3)) (decide (0 < n4)) (decide (0 < n5))) 24 == 0) = z0 at C79 ⊢
  clear z0d
  have e1 : (n4 == 1) = decide (n4 = 1) := by rw [Bool.eq_iff_iff]; simp
  have i1 : ((n4 : Int) == 1) = decide (n4 = 1) := by rw [Bool.eq_iff_iff]; simp; omega
  generalize z1d : decide (n4 = 1) = z1 at e1 i1 ⊢
  clear z1d
  go_enter Tryz.func60, Tryz.ntmps60
  go_upto_region 1 with fail
  generalize w.alloc (.cells #[.int .i64 13, .string nm, .slice a1 n1 c1, .slice a2 n2 c2, .slice a3 n3 c3, .slice a4 n4 c4, .slice a5 n5 c5] 51) = w1 at HB HH ⊢
  have p0 : w1.cell? ⟨w.heap.size, 0, none⟩ = some (.int .i64 13) := cells_at HH.out (i := 0) rfl
  have p1 : w1.cell? ⟨w.heap.size, 1, none⟩ = some (.string nm) := cells_at HH.out (i := 1) rfl
  have p2 : w1.cell? ⟨w.heap.size, 2, none⟩ = some (.slice a1 n1 c1) := cells_at HH.out (i := 2) rfl
  have p3 : w1.cell? ⟨w.heap.size, 3, none⟩ = some (.slice a2 n2 c2) := cells_at HH.out (i := 3) rfl
  have p4 : w1.cell? ⟨w.heap.size, 4, none⟩ = some (.slice a3 n3 c3) := cells_at HH.out (i := 4) rfl
  have p5 : w1.cell? ⟨w.heap.size, 5, none⟩ = some (.slice a4 n4 c4) := cells_at HH.out (i := 5) rfl
  have p6 : w1.cell? ⟨w.heap.size, 6, none⟩ = some (.slice a5 n5 c5) := cells_at HH.out (i := 6) rfl
  have hbw := HB.out
  clear HB HH
  cases z0 <;> cases z1
  all_goals (
    go_wp2_with (first
      | (go_at_call 79; refine (C79.out _).mono ?_; rintro e w2 ⟨rfl, hb⟩; replace p0 := cell_low p0 hb; replace p1 := cell_low p1 hb; replace p2 := cell_low p2 hb; replace p3 := cell_low p3 hb; replace p4 := cell_low p4 hb; replace p5 := cell_low p5 hb; replace p6 := cell_low p6 hb; replace hbw := hbw.trans (hb.mono hbw.size); clear hb))
    go_ret
    exact ⟨rfl, hbw⟩)
set_option maxHeartbeats 4000000 in
set_option maxRecDepth 100000 in
theorem shape60_9 (nm : ByteArray) (a1 a2 a3 a4 a5 : Option Addr) (n1 n2 n3 n4 n5 c1 c2 c3 c4 c5 : Nat) (w : World) (hnm : nm.size ≤ 1048576) : Calls Tryz.prog 60 #[.agg #[.int .i64 9, .string nm, .slice a1 n1 c1, .slice a2 n2 c2, .slice a3 n3 c3, .slice a4 n4 c4, .slice a5 n5 c5]] w fun e w' => e = .returned (.bool ((bits .andNot .i64 (hasI (!emB nm) (decide (0 < n1)) (decide (0 < n2)) (decide (0 < n3)) (decide (0 < n4)) (decide (0 < n5))) 29 == 0) && nameL (ls nm) && decide (n4 = 1))) ∧ Below w.heap.size w w' := by
  have HB := Lib.hid ((Below.refl w.heap.size w).alloc (Nat.le_refl _) (.cells #[.int .i64 9, .string nm, .slice a1 n1 c1, .slice a2 n2 c2, .slice a3 n3 c3, .slice a4 n4 c4, .slice a5 n5 c5] 51))
  have HH := Lib.hid (heap_alloc_new w (.cells #[.int .i64 9, .string nm, .slice a1 n1 c1, .slice a2 n2 c2, .slice a3 n3 c3, .slice a4 n4 c4, .slice a5 n5 c5] 51))
  have C79 := Lib.hid fun W => only79 9 nm a1 a2 a3 a4 a5 n1 n2 n3 n4 n5 c1 c2 c3 c4 c5 29 W
  have C23 := Lib.hid fun W => name23 nm (by omega) W
  generalize z0d : (bits .andNot .i64 (hasI (!emB nm) (decide (0 < n1)) (decide (0 < n2)) (decide (0 < n3)) (decide (0 < n4)) (decide (0 < n5))) 29 == 0) = z0 at C79 ⊢
  clear z0d
  generalize nameL (ls nm) = z1 at C23 ⊢
  have e2 : (n4 == 1) = decide (n4 = 1) := by rw [Bool.eq_iff_iff]; simp
  have i2 : ((n4 : Int) == 1) = decide (n4 = 1) := by rw [Bool.eq_iff_iff]; simp; omega
  generalize z2d : decide (n4 = 1) = z2 at e2 i2 ⊢
  clear z2d
  go_enter Tryz.func60, Tryz.ntmps60
  go_upto_region 1 with fail
  generalize w.alloc (.cells #[.int .i64 9, .string nm, .slice a1 n1 c1, .slice a2 n2 c2, .slice a3 n3 c3, .slice a4 n4 c4, .slice a5 n5 c5] 51) = w1 at HB HH ⊢
  have p0 : w1.cell? ⟨w.heap.size, 0, none⟩ = some (.int .i64 9) := cells_at HH.out (i := 0) rfl
  have p1 : w1.cell? ⟨w.heap.size, 1, none⟩ = some (.string nm) := cells_at HH.out (i := 1) rfl
  have p2 : w1.cell? ⟨w.heap.size, 2, none⟩ = some (.slice a1 n1 c1) := cells_at HH.out (i := 2) rfl
  have p3 : w1.cell? ⟨w.heap.size, 3, none⟩ = some (.slice a2 n2 c2) := cells_at HH.out (i := 3) rfl
  have p4 : w1.cell? ⟨w.heap.size, 4, none⟩ = some (.slice a3 n3 c3) := cells_at HH.out (i := 4) rfl
  have p5 : w1.cell? ⟨w.heap.size, 5, none⟩ = some (.slice a4 n4 c4) := cells_at HH.out (i := 5) rfl
  have p6 : w1.cell? ⟨w.heap.size, 6, none⟩ = some (.slice a5 n5 c5) := cells_at HH.out (i := 6) rfl
  have hbw := HB.out
  clear HB HH
  cases z0 <;> cases z1 <;> cases z2
  all_goals (
    go_wp2_with (first
      | (go_at_call 79; refine (C79.out _).mono ?_; rintro e w2 ⟨rfl, hb⟩; replace p0 := cell_low p0 hb; replace p1 := cell_low p1 hb; replace p2 := cell_low p2 hb; replace p3 := cell_low p3 hb; replace p4 := cell_low p4 hb; replace p5 := cell_low p5 hb; replace p6 := cell_low p6 hb; replace hbw := hbw.trans (hb.mono hbw.size); clear hb)
      | (go_at_call 23; refine (C23.out _).mono ?_; rintro e w2 ⟨rfl, rfl⟩))
    go_ret
    exact ⟨rfl, hbw⟩)
set_option maxHeartbeats 4000000 in
set_option maxRecDepth 100000 in
theorem shape60_10 (nm : ByteArray) (a1 a2 a3 a4 a5 : Option Addr) (n1 n2 n3 n4 n5 c1 c2 c3 c4 c5 : Nat) (w : World) : Calls Tryz.prog 60 #[.agg #[.int .i64 10, .string nm, .slice a1 n1 c1, .slice a2 n2 c2, .slice a3 n3 c3, .slice a4 n4 c4, .slice a5 n5 c5]] w fun e w' => e = .returned (.bool ((bits .andNot .i64 (hasI (!emB nm) (decide (0 < n1)) (decide (0 < n2)) (decide (0 < n3)) (decide (0 < n4)) (decide (0 < n5))) 44 == 0) && decide (n2 = 1))) ∧ Below w.heap.size w w' := by
  have HB := Lib.hid ((Below.refl w.heap.size w).alloc (Nat.le_refl _) (.cells #[.int .i64 10, .string nm, .slice a1 n1 c1, .slice a2 n2 c2, .slice a3 n3 c3, .slice a4 n4 c4, .slice a5 n5 c5] 51))
  have HH := Lib.hid (heap_alloc_new w (.cells #[.int .i64 10, .string nm, .slice a1 n1 c1, .slice a2 n2 c2, .slice a3 n3 c3, .slice a4 n4 c4, .slice a5 n5 c5] 51))
  have C79 := Lib.hid fun W => only79 10 nm a1 a2 a3 a4 a5 n1 n2 n3 n4 n5 c1 c2 c3 c4 c5 44 W
  generalize z0d : (bits .andNot .i64 (hasI (!emB nm) (decide (0 < n1)) (decide (0 < n2)) (decide (0 < n3)) (decide (0 < n4)) (decide (0 < n5))) 44 == 0) = z0 at C79 ⊢
  clear z0d
  have e1 : (n2 == 1) = decide (n2 = 1) := by rw [Bool.eq_iff_iff]; simp
  have i1 : ((n2 : Int) == 1) = decide (n2 = 1) := by rw [Bool.eq_iff_iff]; simp; omega
  generalize z1d : decide (n2 = 1) = z1 at e1 i1 ⊢
  clear z1d
  go_enter Tryz.func60, Tryz.ntmps60
  go_upto_region 1 with fail
  generalize w.alloc (.cells #[.int .i64 10, .string nm, .slice a1 n1 c1, .slice a2 n2 c2, .slice a3 n3 c3, .slice a4 n4 c4, .slice a5 n5 c5] 51) = w1 at HB HH ⊢
  have p0 : w1.cell? ⟨w.heap.size, 0, none⟩ = some (.int .i64 10) := cells_at HH.out (i := 0) rfl
  have p1 : w1.cell? ⟨w.heap.size, 1, none⟩ = some (.string nm) := cells_at HH.out (i := 1) rfl
  have p2 : w1.cell? ⟨w.heap.size, 2, none⟩ = some (.slice a1 n1 c1) := cells_at HH.out (i := 2) rfl
  have p3 : w1.cell? ⟨w.heap.size, 3, none⟩ = some (.slice a2 n2 c2) := cells_at HH.out (i := 3) rfl
  have p4 : w1.cell? ⟨w.heap.size, 4, none⟩ = some (.slice a3 n3 c3) := cells_at HH.out (i := 4) rfl
  have p5 : w1.cell? ⟨w.heap.size, 5, none⟩ = some (.slice a4 n4 c4) := cells_at HH.out (i := 5) rfl
  have p6 : w1.cell? ⟨w.heap.size, 6, none⟩ = some (.slice a5 n5 c5) := cells_at HH.out (i := 6) rfl
  have hbw := HB.out
  clear HB HH
  cases z0 <;> cases z1
  all_goals (
    go_wp2_with (first
      | (go_at_call 79; refine (C79.out _).mono ?_; rintro e w2 ⟨rfl, hb⟩; replace p0 := cell_low p0 hb; replace p1 := cell_low p1 hb; replace p2 := cell_low p2 hb; replace p3 := cell_low p3 hb; replace p4 := cell_low p4 hb; replace p5 := cell_low p5 hb; replace p6 := cell_low p6 hb; replace hbw := hbw.trans (hb.mono hbw.size); clear hb))
    go_ret
    exact ⟨rfl, hbw⟩)
set_option maxHeartbeats 4000000 in
set_option maxRecDepth 100000 in
theorem shape60_11 (nm : ByteArray) (a1 a2 a3 a4 a5 : Option Addr) (n1 n2 n3 n4 n5 c1 c2 c3 c4 c5 : Nat) (w : World) (hnm : nm.size ≤ 1048576) (lv : Nat) (lss : List (List Nd)) (hl : LsAt lv w (.slice a4 n4 c4) lss) : Calls Tryz.prog 60 #[.agg #[.int .i64 11, .string nm, .slice a1 n1 c1, .slice a2 n2 c2, .slice a3 n3 c3, .slice a4 n4 c4, .slice a5 n5 c5]] w fun e w' => e = .returned (.bool ((bits .andNot .i64 (hasI (!emB nm) (decide (0 < n1)) (decide (0 < n2)) (decide (0 < n3)) (decide (0 < n4)) (decide (0 < n5))) 17 == 0) && nameL (ls nm) && !resL (ls nm) && decide (n4 = 1) && singleM (fun _ k => funM k) 0 lss)) ∧ Below w.heap.size w w' := by
  have HB := Lib.hid ((Below.refl w.heap.size w).alloc (Nat.le_refl _) (.cells #[.int .i64 11, .string nm, .slice a1 n1 c1, .slice a2 n2 c2, .slice a3 n3 c3, .slice a4 n4 c4, .slice a5 n5 c5] 51))
  have HH := Lib.hid (heap_alloc_new w (.cells #[.int .i64 11, .string nm, .slice a1 n1 c1, .slice a2 n2 c2, .slice a3 n3 c3, .slice a4 n4 c4, .slice a5 n5 c5] 51))
  have C79 := Lib.hid fun W => only79 11 nm a1 a2 a3 a4 a5 n1 n2 n3 n4 n5 c1 c2 c3 c4 c5 17 W
  have C23 := Lib.hid fun W => name23 nm (by omega) W
  have C29 := Lib.hid fun W => res29 nm W
  have C81 := Lib.hid fun W (hb : Below w.heap.size w W) => single81 85 (fun _ k => funM k) may85 lv _ lss W (kept_ls lv _ _ _ _ hl hb) (enters_of Tryz.func85 (by kernel_rfl) rfl)
  clear hl
  generalize z0d : (bits .andNot .i64 (hasI (!emB nm) (decide (0 < n1)) (decide (0 < n2)) (decide (0 < n3)) (decide (0 < n4)) (decide (0 < n5))) 17 == 0) = z0 at C79 ⊢
  clear z0d
  generalize nameL (ls nm) = z1 at C23 ⊢
  generalize resL (ls nm) = z2 at C29 ⊢
  have e3 : (n4 == 1) = decide (n4 = 1) := by rw [Bool.eq_iff_iff]; simp
  have i3 : ((n4 : Int) == 1) = decide (n4 = 1) := by rw [Bool.eq_iff_iff]; simp; omega
  generalize z3d : decide (n4 = 1) = z3 at e3 i3 ⊢
  clear z3d
  generalize singleM (fun _ k => funM k) 0 lss = z4 at C81 ⊢
  go_enter Tryz.func60, Tryz.ntmps60
  go_upto_region 1 with fail
  generalize w.alloc (.cells #[.int .i64 11, .string nm, .slice a1 n1 c1, .slice a2 n2 c2, .slice a3 n3 c3, .slice a4 n4 c4, .slice a5 n5 c5] 51) = w1 at HB HH ⊢
  have p0 : w1.cell? ⟨w.heap.size, 0, none⟩ = some (.int .i64 11) := cells_at HH.out (i := 0) rfl
  have p1 : w1.cell? ⟨w.heap.size, 1, none⟩ = some (.string nm) := cells_at HH.out (i := 1) rfl
  have p2 : w1.cell? ⟨w.heap.size, 2, none⟩ = some (.slice a1 n1 c1) := cells_at HH.out (i := 2) rfl
  have p3 : w1.cell? ⟨w.heap.size, 3, none⟩ = some (.slice a2 n2 c2) := cells_at HH.out (i := 3) rfl
  have p4 : w1.cell? ⟨w.heap.size, 4, none⟩ = some (.slice a3 n3 c3) := cells_at HH.out (i := 4) rfl
  have p5 : w1.cell? ⟨w.heap.size, 5, none⟩ = some (.slice a4 n4 c4) := cells_at HH.out (i := 5) rfl
  have p6 : w1.cell? ⟨w.heap.size, 6, none⟩ = some (.slice a5 n5 c5) := cells_at HH.out (i := 6) rfl
  have hbw := HB.out
  clear HB HH
  cases z0 <;> cases z1 <;> cases z2 <;> cases z3 <;> cases z4
  all_goals (
    go_wp2_with (first
      | (go_at_call 79; refine (C79.out _).mono ?_; rintro e w2 ⟨rfl, hb⟩; replace p0 := cell_low p0 hb; replace p1 := cell_low p1 hb; replace p2 := cell_low p2 hb; replace p3 := cell_low p3 hb; replace p4 := cell_low p4 hb; replace p5 := cell_low p5 hb; replace p6 := cell_low p6 hb; replace hbw := hbw.trans (hb.mono hbw.size); clear hb)
      | (go_at_call 23; refine (C23.out _).mono ?_; rintro e w2 ⟨rfl, rfl⟩)
      | (go_at_call 29; refine (C29.out _).mono ?_; rintro e w2 ⟨rfl, rfl⟩)
      | (go_at_call 81; refine (C81.out _ hbw).mono ?_; rintro e w2 ⟨rfl, rfl⟩))
    go_ret
    exact ⟨rfl, hbw⟩)
set_option maxHeartbeats 4000000 in
set_option maxRecDepth 100000 in
theorem shape60_x (k : Int) (nm : ByteArray) (a1 a2 a3 a4 a5 : Option Addr) (n1 n2 n3 n4 n5 c1 c2 c3 c4 c5 : Nat) (w : World) (k1 : (k == 1) = false) (k2 : (k == 2) = false) (k3 : (k == 3) = false) (k4 : (k == 4) = false) (k5 : (k == 5) = false) (k6 : (k == 6) = false) (k7 : (k == 7) = false) (k8 : (k == 8) = false) (k9 : (k == 9) = false) (k10 : (k == 10) = false) (k11 : (k == 11) = false) (k12 : (k == 12) = false) (k13 : (k == 13) = false) : Calls Tryz.prog 60 #[.agg #[.int .i64 k, .string nm, .slice a1 n1 c1, .slice a2 n2 c2, .slice a3 n3 c3, .slice a4 n4 c4, .slice a5 n5 c5]] w fun e w' => e = .returned (.bool (false)) ∧ Below w.heap.size w w' := by
  have HB := Lib.hid ((Below.refl w.heap.size w).alloc (Nat.le_refl _) (.cells #[.int .i64 k, .string nm, .slice a1 n1 c1, .slice a2 n2 c2, .slice a3 n3 c3, .slice a4 n4 c4, .slice a5 n5 c5] 51))
  have HH := Lib.hid (heap_alloc_new w (.cells #[.int .i64 k, .string nm, .slice a1 n1 c1, .slice a2 n2 c2, .slice a3 n3 c3, .slice a4 n4 c4, .slice a5 n5 c5] 51))
  go_enter Tryz.func60, Tryz.ntmps60
  go_upto_region 1 with fail
  generalize w.alloc (.cells #[.int .i64 k, .string nm, .slice a1 n1 c1, .slice a2 n2 c2, .slice a3 n3 c3, .slice a4 n4 c4, .slice a5 n5 c5] 51) = w1 at HB HH ⊢
  have p0 : w1.cell? ⟨w.heap.size, 0, none⟩ = some (.int .i64 k) := cells_at HH.out (i := 0) rfl
  have p1 : w1.cell? ⟨w.heap.size, 1, none⟩ = some (.string nm) := cells_at HH.out (i := 1) rfl
  have p2 : w1.cell? ⟨w.heap.size, 2, none⟩ = some (.slice a1 n1 c1) := cells_at HH.out (i := 2) rfl
  have p3 : w1.cell? ⟨w.heap.size, 3, none⟩ = some (.slice a2 n2 c2) := cells_at HH.out (i := 3) rfl
  have p4 : w1.cell? ⟨w.heap.size, 4, none⟩ = some (.slice a3 n3 c3) := cells_at HH.out (i := 4) rfl
  have p5 : w1.cell? ⟨w.heap.size, 5, none⟩ = some (.slice a4 n4 c4) := cells_at HH.out (i := 5) rfl
  have p6 : w1.cell? ⟨w.heap.size, 6, none⟩ = some (.slice a5 n5 c5) := cells_at HH.out (i := 6) rfl
  have hbw := HB.out
  clear HB HH
  all_goals (
    go_wp2
    go_ret
    exact ⟨rfl, hbw⟩)
end Go.Proofs.YtfaohicadahcjaaGreatDoor
