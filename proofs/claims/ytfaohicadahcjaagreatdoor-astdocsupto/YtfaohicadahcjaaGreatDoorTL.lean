/- The document's commands that have lists. Conditions: lengths below a bound. -/
import Derived.Test.YtfaohicadahcjaaGreatDoorTB
import Derived.Test.YtfaohicadahcjaaGreatDoorTF
namespace Go.Proofs.YtfaohicadahcjaaGreatDoor
open Go.RowKit Go.PlainAid Go.ChangeShapes Go.WideShapes Go.ChangeAt
set_option linter.unusedSimpArgs false
set_option linter.unusedVariables false
/-! Commands that have lists. -/
set_option maxHeartbeats 16000000 in
set_option maxRecDepth 100000 in
theorem comp66_6 (nm : ByteArray) (a1 a2 a3 a4 a5 : Option Addr) (m1 m2 m3 m4 m5 c1 c2 c3 c4 c5 : Nat) (w : World) (lev deep : Int) (b1 : m1 ≤ 1048576) (b2 : m2 ≤ 1048576) (b3 : m3 ≤ 1048576) (b4 : m4 ≤ 1048576) (b5 : m5 ≤ 1048576) : Calls Tryz.prog 66 #[.agg #[.int .i64 6, .string nm, .slice a1 m1 c1, .slice a2 m2 c2, .slice a3 m3 c3, .slice a4 m4 c4, .slice a5 m5 c5], .int .i64 lev, .int .i64 deep] w fun e w' => e = .returned (.bool (decide (m1 = 0) && emB nm && decide (m2 + m5 = 0) && (decide (m4 = 2) || decide (m4 = 3)))) ∧ Below w.heap.size w w' := by
  have HB := Lib.hid ((Below.refl w.heap.size w).alloc (Nat.le_refl _) (.cells #[.int .i64 6, .string nm, .slice a1 m1 c1, .slice a2 m2 c2, .slice a3 m3 c3, .slice a4 m4 c4, .slice a5 m5 c5] 64))
  have HH := Lib.hid (heap_alloc_new w (.cells #[.int .i64 6, .string nm, .slice a1 m1 c1, .slice a2 m2 c2, .slice a3 m3 c3, .slice a4 m4 c4, .slice a5 m5 c5] 64))
  obtain ⟨s1, Hs1⟩ : ∃ b, Hid (decide (m1 = 0) = b) := ⟨_, Lib.hid rfl⟩
  have s1a : decide (0 < m1) = !s1 := by rw [← Hs1.out, ← decide_not]; exact decide_eq_decide.2 (by omega)
  have s1b : decide (0 < (m1 : Int)) = !s1 := by rw [← Hs1.out, ← decide_not]; exact decide_eq_decide.2 (by omega)
  rw [Hs1.out]
  have hem := emp_is nm
  generalize emB nm = en at hem ⊢
  obtain ⟨s25, Hs25⟩ : ∃ b, Hid (decide (m2 + m5 = 0) = b) := ⟨_, Lib.hid rfl⟩
  have s25a : (m2 + m5 == 0) = s25 := by rw [eqz, Hs25.out]
  have s25b : (((m2 : Int) + m5) == 0) = s25 := by rw [eq_int, ← Hs25.out]; exact decide_eq_decide.2 (by omega)
  rw [Hs25.out]
  obtain ⟨t2, Ht2⟩ : ∃ b, Hid (decide (m4 = 2) = b) := ⟨_, Lib.hid rfl⟩
  have t2a : (m4 == 2) = t2 := by rw [eqz, Ht2.out]
  have t2b : (((m4 : Int)) == 2) = t2 := by rw [eq_int, ← Ht2.out]; exact decide_eq_decide.2 (by omega)
  rw [Ht2.out]
  obtain ⟨t3, Ht3⟩ : ∃ b, Hid (decide (m4 = 3) = b) := ⟨_, Lib.hid rfl⟩
  have t3a : (m4 == 3) = t3 := by rw [eqz, Ht3.out]
  have t3b : (((m4 : Int)) == 3) = t3 := by rw [eq_int, ← Ht3.out]; exact decide_eq_decide.2 (by omega)
  rw [Ht3.out]
  go_enter Tryz.func66, Tryz.ntmps66
  go_upto_region 1 with fail
  generalize w.alloc (.cells #[.int .i64 6, .string nm, .slice a1 m1 c1, .slice a2 m2 c2, .slice a3 m3 c3, .slice a4 m4 c4, .slice a5 m5 c5] 64) = w1 at HB HH ⊢
  have p0 := cells_at HH.out (i := 0) (u := .int .i64 6) rfl
  have p1 := cells_at HH.out (i := 1) (u := .string nm) rfl
  have p2 := cells_at HH.out (i := 2) (u := .slice a1 m1 c1) rfl
  have p3 := cells_at HH.out (i := 3) (u := .slice a2 m2 c2) rfl
  have p4 := cells_at HH.out (i := 4) (u := .slice a3 m3 c3) rfl
  have p5 := cells_at HH.out (i := 5) (u := .slice a4 m4 c4) rfl
  have p6 := cells_at HH.out (i := 6) (u := .slice a5 m5 c5) rfl
  cases s1 <;> cases en <;> cases s25 <;> cases t2 <;> cases t3
  all_goals (
    simp only [Bool.not_true, Bool.not_false] at s1a s1b
    go_wp2
    go_ret
    exact ⟨rfl, HB.out⟩)
set_option maxHeartbeats 16000000 in
set_option maxRecDepth 100000 in
theorem comp66_7 (nm : ByteArray) (a1 a2 a3 a4 a5 : Option Addr) (m1 m2 m3 m4 m5 c1 c2 c3 c4 c5 : Nat) (w : World) (lev deep : Int) (b1 : m1 ≤ 1048576) (b2 : m2 ≤ 1048576) (b3 : m3 ≤ 1048576) (b4 : m4 ≤ 1048576) (b5 : m5 ≤ 1048576) : Calls Tryz.prog 66 #[.agg #[.int .i64 7, .string nm, .slice a1 m1 c1, .slice a2 m2 c2, .slice a3 m3 c3, .slice a4 m4 c4, .slice a5 m5 c5], .int .i64 lev, .int .i64 deep] w fun e w' => e = .returned (.bool (decide (m1 = 0) && emB nm && decide (m2 + m5 = 0) && decide (m4 = 2))) ∧ Below w.heap.size w w' := by
  have HB := Lib.hid ((Below.refl w.heap.size w).alloc (Nat.le_refl _) (.cells #[.int .i64 7, .string nm, .slice a1 m1 c1, .slice a2 m2 c2, .slice a3 m3 c3, .slice a4 m4 c4, .slice a5 m5 c5] 64))
  have HH := Lib.hid (heap_alloc_new w (.cells #[.int .i64 7, .string nm, .slice a1 m1 c1, .slice a2 m2 c2, .slice a3 m3 c3, .slice a4 m4 c4, .slice a5 m5 c5] 64))
  obtain ⟨s1, Hs1⟩ : ∃ b, Hid (decide (m1 = 0) = b) := ⟨_, Lib.hid rfl⟩
  have s1a : decide (0 < m1) = !s1 := by rw [← Hs1.out, ← decide_not]; exact decide_eq_decide.2 (by omega)
  have s1b : decide (0 < (m1 : Int)) = !s1 := by rw [← Hs1.out, ← decide_not]; exact decide_eq_decide.2 (by omega)
  rw [Hs1.out]
  have hem := emp_is nm
  generalize emB nm = en at hem ⊢
  obtain ⟨s25, Hs25⟩ : ∃ b, Hid (decide (m2 + m5 = 0) = b) := ⟨_, Lib.hid rfl⟩
  have s25a : (m2 + m5 == 0) = s25 := by rw [eqz, Hs25.out]
  have s25b : (((m2 : Int) + m5) == 0) = s25 := by rw [eq_int, ← Hs25.out]; exact decide_eq_decide.2 (by omega)
  rw [Hs25.out]
  obtain ⟨t2, Ht2⟩ : ∃ b, Hid (decide (m4 = 2) = b) := ⟨_, Lib.hid rfl⟩
  have t2a : (m4 == 2) = t2 := by rw [eqz, Ht2.out]
  have t2b : (((m4 : Int)) == 2) = t2 := by rw [eq_int, ← Ht2.out]; exact decide_eq_decide.2 (by omega)
  rw [Ht2.out]
  go_enter Tryz.func66, Tryz.ntmps66
  go_upto_region 1 with fail
  generalize w.alloc (.cells #[.int .i64 7, .string nm, .slice a1 m1 c1, .slice a2 m2 c2, .slice a3 m3 c3, .slice a4 m4 c4, .slice a5 m5 c5] 64) = w1 at HB HH ⊢
  have p0 := cells_at HH.out (i := 0) (u := .int .i64 7) rfl
  have p1 := cells_at HH.out (i := 1) (u := .string nm) rfl
  have p2 := cells_at HH.out (i := 2) (u := .slice a1 m1 c1) rfl
  have p3 := cells_at HH.out (i := 3) (u := .slice a2 m2 c2) rfl
  have p4 := cells_at HH.out (i := 4) (u := .slice a3 m3 c3) rfl
  have p5 := cells_at HH.out (i := 5) (u := .slice a4 m4 c4) rfl
  have p6 := cells_at HH.out (i := 6) (u := .slice a5 m5 c5) rfl
  cases s1 <;> cases en <;> cases s25 <;> cases t2
  all_goals (
    simp only [Bool.not_true, Bool.not_false] at s1a s1b
    go_wp2
    go_ret
    exact ⟨rfl, HB.out⟩)
set_option maxHeartbeats 16000000 in
set_option maxRecDepth 100000 in
theorem comp66_8 (nm : ByteArray) (a1 a2 a3 a4 a5 : Option Addr) (m1 m2 m3 m4 m5 c1 c2 c3 c4 c5 : Nat) (w : World) (lev deep : Int) (b1 : m1 ≤ 1048576) (b2 : m2 ≤ 1048576) (b3 : m3 ≤ 1048576) (b4 : m4 ≤ 1048576) (b5 : m5 ≤ 1048576) : Calls Tryz.prog 66 #[.agg #[.int .i64 8, .string nm, .slice a1 m1 c1, .slice a2 m2 c2, .slice a3 m3 c3, .slice a4 m4 c4, .slice a5 m5 c5], .int .i64 lev, .int .i64 deep] w fun e w' => e = .returned (.bool (decide (m1 = 0) && emB nm && decide (m2 + m5 = 0) && decide (m4 = 2))) ∧ Below w.heap.size w w' := by
  have HB := Lib.hid ((Below.refl w.heap.size w).alloc (Nat.le_refl _) (.cells #[.int .i64 8, .string nm, .slice a1 m1 c1, .slice a2 m2 c2, .slice a3 m3 c3, .slice a4 m4 c4, .slice a5 m5 c5] 64))
  have HH := Lib.hid (heap_alloc_new w (.cells #[.int .i64 8, .string nm, .slice a1 m1 c1, .slice a2 m2 c2, .slice a3 m3 c3, .slice a4 m4 c4, .slice a5 m5 c5] 64))
  obtain ⟨s1, Hs1⟩ : ∃ b, Hid (decide (m1 = 0) = b) := ⟨_, Lib.hid rfl⟩
  have s1a : decide (0 < m1) = !s1 := by rw [← Hs1.out, ← decide_not]; exact decide_eq_decide.2 (by omega)
  have s1b : decide (0 < (m1 : Int)) = !s1 := by rw [← Hs1.out, ← decide_not]; exact decide_eq_decide.2 (by omega)
  rw [Hs1.out]
  have hem := emp_is nm
  generalize emB nm = en at hem ⊢
  obtain ⟨s25, Hs25⟩ : ∃ b, Hid (decide (m2 + m5 = 0) = b) := ⟨_, Lib.hid rfl⟩
  have s25a : (m2 + m5 == 0) = s25 := by rw [eqz, Hs25.out]
  have s25b : (((m2 : Int) + m5) == 0) = s25 := by rw [eq_int, ← Hs25.out]; exact decide_eq_decide.2 (by omega)
  rw [Hs25.out]
  obtain ⟨t2, Ht2⟩ : ∃ b, Hid (decide (m4 = 2) = b) := ⟨_, Lib.hid rfl⟩
  have t2a : (m4 == 2) = t2 := by rw [eqz, Ht2.out]
  have t2b : (((m4 : Int)) == 2) = t2 := by rw [eq_int, ← Ht2.out]; exact decide_eq_decide.2 (by omega)
  rw [Ht2.out]
  go_enter Tryz.func66, Tryz.ntmps66
  go_upto_region 1 with fail
  generalize w.alloc (.cells #[.int .i64 8, .string nm, .slice a1 m1 c1, .slice a2 m2 c2, .slice a3 m3 c3, .slice a4 m4 c4, .slice a5 m5 c5] 64) = w1 at HB HH ⊢
  have p0 := cells_at HH.out (i := 0) (u := .int .i64 8) rfl
  have p1 := cells_at HH.out (i := 1) (u := .string nm) rfl
  have p2 := cells_at HH.out (i := 2) (u := .slice a1 m1 c1) rfl
  have p3 := cells_at HH.out (i := 3) (u := .slice a2 m2 c2) rfl
  have p4 := cells_at HH.out (i := 4) (u := .slice a3 m3 c3) rfl
  have p5 := cells_at HH.out (i := 5) (u := .slice a4 m4 c4) rfl
  have p6 := cells_at HH.out (i := 6) (u := .slice a5 m5 c5) rfl
  cases s1 <;> cases en <;> cases s25 <;> cases t2
  all_goals (
    simp only [Bool.not_true, Bool.not_false] at s1a s1b
    go_wp2
    go_ret
    exact ⟨rfl, HB.out⟩)
set_option maxHeartbeats 16000000 in
set_option maxRecDepth 100000 in
theorem comp66_12 (nm : ByteArray) (a1 a2 a3 a4 a5 : Option Addr) (m1 m2 m3 m4 m5 c1 c2 c3 c4 c5 : Nat) (w : World) (lev deep : Int) (b1 : m1 ≤ 1048576) (b2 : m2 ≤ 1048576) (b3 : m3 ≤ 1048576) (b4 : m4 ≤ 1048576) (b5 : m5 ≤ 1048576) : Calls Tryz.prog 66 #[.agg #[.int .i64 12, .string nm, .slice a1 m1 c1, .slice a2 m2 c2, .slice a3 m3 c3, .slice a4 m4 c4, .slice a5 m5 c5], .int .i64 lev, .int .i64 deep] w fun e w' => e = .returned (.bool (decide (m1 = 0) && emB nm && decide (m2 + m5 = 0) && decide (m4 = 1))) ∧ Below w.heap.size w w' := by
  have HB := Lib.hid ((Below.refl w.heap.size w).alloc (Nat.le_refl _) (.cells #[.int .i64 12, .string nm, .slice a1 m1 c1, .slice a2 m2 c2, .slice a3 m3 c3, .slice a4 m4 c4, .slice a5 m5 c5] 64))
  have HH := Lib.hid (heap_alloc_new w (.cells #[.int .i64 12, .string nm, .slice a1 m1 c1, .slice a2 m2 c2, .slice a3 m3 c3, .slice a4 m4 c4, .slice a5 m5 c5] 64))
  obtain ⟨s1, Hs1⟩ : ∃ b, Hid (decide (m1 = 0) = b) := ⟨_, Lib.hid rfl⟩
  have s1a : decide (0 < m1) = !s1 := by rw [← Hs1.out, ← decide_not]; exact decide_eq_decide.2 (by omega)
  have s1b : decide (0 < (m1 : Int)) = !s1 := by rw [← Hs1.out, ← decide_not]; exact decide_eq_decide.2 (by omega)
  rw [Hs1.out]
  have hem := emp_is nm
  generalize emB nm = en at hem ⊢
  obtain ⟨s25, Hs25⟩ : ∃ b, Hid (decide (m2 + m5 = 0) = b) := ⟨_, Lib.hid rfl⟩
  have s25a : (m2 + m5 == 0) = s25 := by rw [eqz, Hs25.out]
  have s25b : (((m2 : Int) + m5) == 0) = s25 := by rw [eq_int, ← Hs25.out]; exact decide_eq_decide.2 (by omega)
  rw [Hs25.out]
  obtain ⟨t2, Ht2⟩ : ∃ b, Hid (decide (m4 = 1) = b) := ⟨_, Lib.hid rfl⟩
  have t2a : (m4 == 1) = t2 := by rw [eqz, Ht2.out]
  have t2b : (((m4 : Int)) == 1) = t2 := by rw [eq_int, ← Ht2.out]; exact decide_eq_decide.2 (by omega)
  rw [Ht2.out]
  go_enter Tryz.func66, Tryz.ntmps66
  go_upto_region 1 with fail
  generalize w.alloc (.cells #[.int .i64 12, .string nm, .slice a1 m1 c1, .slice a2 m2 c2, .slice a3 m3 c3, .slice a4 m4 c4, .slice a5 m5 c5] 64) = w1 at HB HH ⊢
  have p0 := cells_at HH.out (i := 0) (u := .int .i64 12) rfl
  have p1 := cells_at HH.out (i := 1) (u := .string nm) rfl
  have p2 := cells_at HH.out (i := 2) (u := .slice a1 m1 c1) rfl
  have p3 := cells_at HH.out (i := 3) (u := .slice a2 m2 c2) rfl
  have p4 := cells_at HH.out (i := 4) (u := .slice a3 m3 c3) rfl
  have p5 := cells_at HH.out (i := 5) (u := .slice a4 m4 c4) rfl
  have p6 := cells_at HH.out (i := 6) (u := .slice a5 m5 c5) rfl
  cases s1 <;> cases en <;> cases s25 <;> cases t2
  all_goals (
    simp only [Bool.not_true, Bool.not_false] at s1a s1b
    go_wp2
    go_ret
    exact ⟨rfl, HB.out⟩)
set_option maxHeartbeats 16000000 in
set_option maxRecDepth 100000 in
theorem comp66_13 (nm : ByteArray) (a1 a2 a3 a4 a5 : Option Addr) (m1 m2 m3 m4 m5 c1 c2 c3 c4 c5 : Nat) (w : World) (lev deep : Int) (b1 : m1 ≤ 1048576) (b2 : m2 ≤ 1048576) (b3 : m3 ≤ 1048576) (b4 : m4 ≤ 1048576) (b5 : m5 ≤ 1048576) : Calls Tryz.prog 66 #[.agg #[.int .i64 13, .string nm, .slice a1 m1 c1, .slice a2 m2 c2, .slice a3 m3 c3, .slice a4 m4 c4, .slice a5 m5 c5], .int .i64 lev, .int .i64 deep] w fun e w' => e = .returned (.bool (decide (m1 = 0) && emB nm && decide (m2 + m5 = 0) && decide (m4 = 1))) ∧ Below w.heap.size w w' := by
  have HB := Lib.hid ((Below.refl w.heap.size w).alloc (Nat.le_refl _) (.cells #[.int .i64 13, .string nm, .slice a1 m1 c1, .slice a2 m2 c2, .slice a3 m3 c3, .slice a4 m4 c4, .slice a5 m5 c5] 64))
  have HH := Lib.hid (heap_alloc_new w (.cells #[.int .i64 13, .string nm, .slice a1 m1 c1, .slice a2 m2 c2, .slice a3 m3 c3, .slice a4 m4 c4, .slice a5 m5 c5] 64))
  obtain ⟨s1, Hs1⟩ : ∃ b, Hid (decide (m1 = 0) = b) := ⟨_, Lib.hid rfl⟩
  have s1a : decide (0 < m1) = !s1 := by rw [← Hs1.out, ← decide_not]; exact decide_eq_decide.2 (by omega)
  have s1b : decide (0 < (m1 : Int)) = !s1 := by rw [← Hs1.out, ← decide_not]; exact decide_eq_decide.2 (by omega)
  rw [Hs1.out]
  have hem := emp_is nm
  generalize emB nm = en at hem ⊢
  obtain ⟨s25, Hs25⟩ : ∃ b, Hid (decide (m2 + m5 = 0) = b) := ⟨_, Lib.hid rfl⟩
  have s25a : (m2 + m5 == 0) = s25 := by rw [eqz, Hs25.out]
  have s25b : (((m2 : Int) + m5) == 0) = s25 := by rw [eq_int, ← Hs25.out]; exact decide_eq_decide.2 (by omega)
  rw [Hs25.out]
  obtain ⟨t2, Ht2⟩ : ∃ b, Hid (decide (m4 = 1) = b) := ⟨_, Lib.hid rfl⟩
  have t2a : (m4 == 1) = t2 := by rw [eqz, Ht2.out]
  have t2b : (((m4 : Int)) == 1) = t2 := by rw [eq_int, ← Ht2.out]; exact decide_eq_decide.2 (by omega)
  rw [Ht2.out]
  go_enter Tryz.func66, Tryz.ntmps66
  go_upto_region 1 with fail
  generalize w.alloc (.cells #[.int .i64 13, .string nm, .slice a1 m1 c1, .slice a2 m2 c2, .slice a3 m3 c3, .slice a4 m4 c4, .slice a5 m5 c5] 64) = w1 at HB HH ⊢
  have p0 := cells_at HH.out (i := 0) (u := .int .i64 13) rfl
  have p1 := cells_at HH.out (i := 1) (u := .string nm) rfl
  have p2 := cells_at HH.out (i := 2) (u := .slice a1 m1 c1) rfl
  have p3 := cells_at HH.out (i := 3) (u := .slice a2 m2 c2) rfl
  have p4 := cells_at HH.out (i := 4) (u := .slice a3 m3 c3) rfl
  have p5 := cells_at HH.out (i := 5) (u := .slice a4 m4 c4) rfl
  have p6 := cells_at HH.out (i := 6) (u := .slice a5 m5 c5) rfl
  cases s1 <;> cases en <;> cases s25 <;> cases t2
  all_goals (
    simp only [Bool.not_true, Bool.not_false] at s1a s1b
    go_wp2
    go_ret
    exact ⟨rfl, HB.out⟩)
set_option maxHeartbeats 16000000 in
set_option maxRecDepth 100000 in
theorem comp66_9 (nm : ByteArray) (a1 a2 a3 a4 a5 : Option Addr) (m1 m2 m3 m4 m5 c1 c2 c3 c4 c5 : Nat) (w : World) (lev deep : Int) (b1 : m1 ≤ 1048576) (b2 : m2 ≤ 1048576) (b3 : m3 ≤ 1048576) (b4 : m4 ≤ 1048576) (b5 : m5 ≤ 1048576) (hnm : nm.size ≤ 1048576) : Calls Tryz.prog 66 #[.agg #[.int .i64 9, .string nm, .slice a1 m1 c1, .slice a2 m2 c2, .slice a3 m3 c3, .slice a4 m4 c4, .slice a5 m5 c5], .int .i64 lev, .int .i64 deep] w fun e w' => e = .returned (.bool (decide (m1 = 0) && nameL (ls nm) && decide (m5 = 0) && decide (m4 = 1))) ∧ Below w.heap.size w w' := by
  have HB := Lib.hid ((Below.refl w.heap.size w).alloc (Nat.le_refl _) (.cells #[.int .i64 9, .string nm, .slice a1 m1 c1, .slice a2 m2 c2, .slice a3 m3 c3, .slice a4 m4 c4, .slice a5 m5 c5] 64))
  have HH := Lib.hid (heap_alloc_new w (.cells #[.int .i64 9, .string nm, .slice a1 m1 c1, .slice a2 m2 c2, .slice a3 m3 c3, .slice a4 m4 c4, .slice a5 m5 c5] 64))
  obtain ⟨s1, Hs1⟩ : ∃ b, Hid (decide (m1 = 0) = b) := ⟨_, Lib.hid rfl⟩
  have s1a : decide (0 < m1) = !s1 := by rw [← Hs1.out, ← decide_not]; exact decide_eq_decide.2 (by omega)
  have s1b : decide (0 < (m1 : Int)) = !s1 := by rw [← Hs1.out, ← decide_not]; exact decide_eq_decide.2 (by omega)
  rw [Hs1.out]
  obtain ⟨t5, Ht5⟩ : ∃ b, Hid (decide (m5 = 0) = b) := ⟨_, Lib.hid rfl⟩
  have t5a : (m5 == 0) = t5 := by rw [eqz, Ht5.out]
  have t5b : (((m5 : Int)) == 0) = t5 := by rw [eq_int, ← Ht5.out]; exact decide_eq_decide.2 (by omega)
  rw [Ht5.out]
  obtain ⟨t2, Ht2⟩ : ∃ b, Hid (decide (m4 = 1) = b) := ⟨_, Lib.hid rfl⟩
  have t2a : (m4 == 1) = t2 := by rw [eqz, Ht2.out]
  have t2b : (((m4 : Int)) == 1) = t2 := by rw [eq_int, ← Ht2.out]; exact decide_eq_decide.2 (by omega)
  rw [Ht2.out]
  have C := Lib.hid fun W => name24 nm (by omega) W
  generalize nameL (ls nm) = nn at C ⊢
  go_enter Tryz.func66, Tryz.ntmps66
  go_upto_region 1 with fail
  generalize w.alloc (.cells #[.int .i64 9, .string nm, .slice a1 m1 c1, .slice a2 m2 c2, .slice a3 m3 c3, .slice a4 m4 c4, .slice a5 m5 c5] 64) = w1 at HB HH ⊢
  have p0 := cells_at HH.out (i := 0) (u := .int .i64 9) rfl
  have p1 := cells_at HH.out (i := 1) (u := .string nm) rfl
  have p2 := cells_at HH.out (i := 2) (u := .slice a1 m1 c1) rfl
  have p3 := cells_at HH.out (i := 3) (u := .slice a2 m2 c2) rfl
  have p4 := cells_at HH.out (i := 4) (u := .slice a3 m3 c3) rfl
  have p5 := cells_at HH.out (i := 5) (u := .slice a4 m4 c4) rfl
  have p6 := cells_at HH.out (i := 6) (u := .slice a5 m5 c5) rfl
  cases s1 <;> cases nn <;> cases t5 <;> cases t2
  all_goals (
    simp only [Bool.not_true, Bool.not_false] at s1a s1b
    go_wp2_with (go_at_call 24; refine (C.out _).mono ?_; rintro e w' ⟨rfl, rfl⟩)
    go_ret
    exact ⟨rfl, HB.out⟩)
set_option maxHeartbeats 16000000 in
set_option maxRecDepth 100000 in
theorem comp66_x (k : Int) (k6 : (k == 6) = false) (k7 : (k == 7) = false) (k8 : (k == 8) = false) (k9 : (k == 9) = false) (k10 : (k == 10) = false) (k11 : (k == 11) = false) (k12 : (k == 12) = false) (k13 : (k == 13) = false) (nm : ByteArray) (a1 a2 a3 a4 a5 : Option Addr) (m1 m2 m3 m4 m5 c1 c2 c3 c4 c5 : Nat) (w : World) (lev deep : Int) (b1 : m1 ≤ 1048576) (b2 : m2 ≤ 1048576) (b3 : m3 ≤ 1048576) (b4 : m4 ≤ 1048576) (b5 : m5 ≤ 1048576) : Calls Tryz.prog 66 #[.agg #[.int .i64 k, .string nm, .slice a1 m1 c1, .slice a2 m2 c2, .slice a3 m3 c3, .slice a4 m4 c4, .slice a5 m5 c5], .int .i64 lev, .int .i64 deep] w fun e w' => e = .returned (.bool false) ∧ Below w.heap.size w w' := by
  have HB := Lib.hid ((Below.refl w.heap.size w).alloc (Nat.le_refl _) (.cells #[.int .i64 k, .string nm, .slice a1 m1 c1, .slice a2 m2 c2, .slice a3 m3 c3, .slice a4 m4 c4, .slice a5 m5 c5] 64))
  have HH := Lib.hid (heap_alloc_new w (.cells #[.int .i64 k, .string nm, .slice a1 m1 c1, .slice a2 m2 c2, .slice a3 m3 c3, .slice a4 m4 c4, .slice a5 m5 c5] 64))
  go_enter Tryz.func66, Tryz.ntmps66
  go_upto_region 1 with fail
  generalize w.alloc (.cells #[.int .i64 k, .string nm, .slice a1 m1 c1, .slice a2 m2 c2, .slice a3 m3 c3, .slice a4 m4 c4, .slice a5 m5 c5] 64) = w1 at HB HH ⊢
  have p0 := cells_at HH.out (i := 0) (u := .int .i64 k) rfl
  have p1 := cells_at HH.out (i := 1) (u := .string nm) rfl
  have p2 := cells_at HH.out (i := 2) (u := .slice a1 m1 c1) rfl
  have p3 := cells_at HH.out (i := 3) (u := .slice a2 m2 c2) rfl
  have p4 := cells_at HH.out (i := 4) (u := .slice a3 m3 c3) rfl
  have p5 := cells_at HH.out (i := 5) (u := .slice a4 m4 c4) rfl
  have p6 := cells_at HH.out (i := 6) (u := .slice a5 m5 c5) rfl
  go_wp2
  go_ret
  exact ⟨rfl, HB.out⟩
end Go.Proofs.YtfaohicadahcjaaGreatDoor
