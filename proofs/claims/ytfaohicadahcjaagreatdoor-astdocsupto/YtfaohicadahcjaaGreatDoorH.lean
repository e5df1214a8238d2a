/- Contracts: what a command has. No condition. -/
import Derived.Test.YtfaohicadahcjaaGreatDoorG
import Derived.Deep.DeepCutAuto
namespace Go.Proofs.YtfaohicadahcjaaGreatDoor
open Go.RowKit Go.PlainAid Go.ChangeShapes Go.WideShapes Go.ChangeAt
set_option linter.unusedSimpArgs false
set_option linter.unusedVariables false

theorem cells_at {w : World} {b : Nat} {cs : Array Value} {t : TypeId} {fr : Nat × Nat} (h : w.heap[b]? = some (.cells cs t fr)) {i : Nat} {u : Value} (hu : cs[i]? = some u) : w.cell? ⟨b, i, none⟩ = some u := by simp [World.cell?, h, hu]
def bI (b : Bool) (x : Int) : Int := if b then x else 0
def hasI (b0 b1 b2 b3 b4 b5 : Bool) : Int := bI b0 1 + bI b1 2 + bI b2 4 + bI b3 8 + bI b4 16 + bI b5 32
theorem has_or0 : bits .or .i64 (hasI false false false false false false) 1 = hasI true false false false false false := by rfl
theorem has_or1 (b0 : Bool) : bits .or .i64 (hasI b0 false false false false false) 2 = hasI b0 true false false false false := by cases b0 <;> rfl
theorem has_or2 (b0 b1 : Bool) : bits .or .i64 (hasI b0 b1 false false false false) 4 = hasI b0 b1 true false false false := by cases b0 <;> cases b1 <;> rfl
theorem has_or3 (b0 b1 b2 : Bool) : bits .or .i64 (hasI b0 b1 b2 false false false) 8 = hasI b0 b1 b2 true false false := by cases b0 <;> cases b1 <;> cases b2 <;> rfl
theorem has_or4 (b0 b1 b2 b3 : Bool) : bits .or .i64 (hasI b0 b1 b2 b3 false false) 16 = hasI b0 b1 b2 b3 true false := by cases b0 <;> cases b1 <;> cases b2 <;> cases b3 <;> rfl
theorem has_or5 (b0 b1 b2 b3 b4 : Bool) : bits .or .i64 (hasI b0 b1 b2 b3 b4 false) 32 = hasI b0 b1 b2 b3 b4 true := by cases b0 <;> cases b1 <;> cases b2 <;> cases b3 <;> cases b4 <;> rfl
set_option maxHeartbeats 8000000 in
set_option maxRecDepth 100000 in
theorem has78 (k : Int) (nm : ByteArray) (a1 a2 a3 a4 a5 : Option Addr) (n1 n2 n3 n4 n5 c1 c2 c3 c4 c5 : Nat) (w : World) : Calls Tryz.prog 78 #[.agg #[.int .i64 k, .string nm, .slice a1 n1 c1, .slice a2 n2 c2, .slice a3 n3 c3, .slice a4 n4 c4, .slice a5 n5 c5]] w fun e w' => e = .returned (.int .i64 (hasI (!emB nm) (decide (0 < n1)) (decide (0 < n2)) (decide (0 < n3)) (decide (0 < n4)) (decide (0 < n5)))) ∧ Below w.heap.size w w' := by
  have H0 : Hid ((nm.toList == []) = emB nm) := Lib.hid (emp_is nm)
  have HB := Lib.hid ((Below.refl w.heap.size w).alloc (Nat.le_refl _) (.cells #[.int .i64 k, .string nm, .slice a1 n1 c1, .slice a2 n2 c2, .slice a3 n3 c3, .slice a4 n4 c4, .slice a5 n5 c5] 51))
  have HH := Lib.hid (heap_alloc_new w (.cells #[.int .i64 k, .string nm, .slice a1 n1 c1, .slice a2 n2 c2, .slice a3 n3 c3, .slice a4 n4 c4, .slice a5 n5 c5] 51))
  obtain ⟨b1, D1⟩ : ∃ b, Hid (decide (0 < n1) = b ∧ decide (0 < (n1 : Int)) = b) := ⟨decide (0 < n1), Lib.hid ⟨rfl, decide_eq_decide.2 (by omega)⟩⟩
  obtain ⟨b2, D2⟩ : ∃ b, Hid (decide (0 < n2) = b ∧ decide (0 < (n2 : Int)) = b) := ⟨decide (0 < n2), Lib.hid ⟨rfl, decide_eq_decide.2 (by omega)⟩⟩
  obtain ⟨b3, D3⟩ : ∃ b, Hid (decide (0 < n3) = b ∧ decide (0 < (n3 : Int)) = b) := ⟨decide (0 < n3), Lib.hid ⟨rfl, decide_eq_decide.2 (by omega)⟩⟩
  obtain ⟨b4, D4⟩ : ∃ b, Hid (decide (0 < n4) = b ∧ decide (0 < (n4 : Int)) = b) := ⟨decide (0 < n4), Lib.hid ⟨rfl, decide_eq_decide.2 (by omega)⟩⟩
  obtain ⟨b5, D5⟩ : ∃ b, Hid (decide (0 < n5) = b ∧ decide (0 < (n5 : Int)) = b) := ⟨decide (0 < n5), Lib.hid ⟨rfl, decide_eq_decide.2 (by omega)⟩⟩
  rw [D1.out.1, D2.out.1, D3.out.1, D4.out.1, D5.out.1]
  obtain ⟨b0, HE⟩ : ∃ b, Hid (emB nm = !b) := ⟨!emB nm, Lib.hid (by simp)⟩
  rw [show (!emB nm) = b0 by rw [HE.out]; simp]
  go_enter Tryz.func78, Tryz.ntmps78
  go_upto_region 1 with fail
  generalize w.alloc (.cells #[.int .i64 k, .string nm, .slice a1 n1 c1, .slice a2 n2 c2, .slice a3 n3 c3, .slice a4 n4 c4, .slice a5 n5 c5] 51) = w1 at HB HH ⊢
  have p0 : w1.cell? ⟨w.heap.size, 0, none⟩ = some (.int .i64 k) := cells_at HH.out (i := 0) rfl
  have p1 : w1.cell? ⟨w.heap.size, 1, none⟩ = some (.string nm) := cells_at HH.out (i := 1) rfl
  have p2 : w1.cell? ⟨w.heap.size, 2, none⟩ = some (.slice a1 n1 c1) := cells_at HH.out (i := 2) rfl
  have p3 : w1.cell? ⟨w.heap.size, 3, none⟩ = some (.slice a2 n2 c2) := cells_at HH.out (i := 3) rfl
  have p4 : w1.cell? ⟨w.heap.size, 4, none⟩ = some (.slice a3 n3 c3) := cells_at HH.out (i := 4) rfl
  have p5 : w1.cell? ⟨w.heap.size, 5, none⟩ = some (.slice a4 n4 c4) := cells_at HH.out (i := 5) rfl
  have p6 : w1.cell? ⟨w.heap.size, 6, none⟩ = some (.slice a5 n5 c5) := cells_at HH.out (i := 6) rfl
  clear HH
  have he := H0.out
  rw [HE.out] at he
  go_upto_if 6 with fail
  go_cut [3] (fun u3 wx => u3 = .int .i64 (hasI b0 false false false false false) ∧ w1 = wx)
  clear he
  case first =>
    have HO := Lib.hid (has_or0 )
    cases b0
    all_goals (
      go_wp2
      go_meet
      case rel => exact ⟨by first | rfl | rw [HO.out], rfl⟩)
  case rest =>
  obtain ⟨rfl, rfl⟩ := hcut
  have hd1 := D1.out.1
  have hd2 := D1.out.2
  go_upto_if 12 with fail
  go_cut [3] (fun u3 wx => u3 = .int .i64 (hasI b0 b1 false false false false) ∧ w1 = wx)
  clear hd1 hd2
  case first =>
    have HO := Lib.hid (has_or1 b0)
    cases b1
    all_goals (
      go_wp2
      go_meet
      case rel => exact ⟨by first | rfl | rw [HO.out], rfl⟩)
  case rest =>
  obtain ⟨rfl, rfl⟩ := hcut
  have hd1 := D2.out.1
  have hd2 := D2.out.2
  go_upto_if 18 with fail
  go_cut [3] (fun u3 wx => u3 = .int .i64 (hasI b0 b1 b2 false false false) ∧ w1 = wx)
  clear hd1 hd2
  case first =>
    have HO := Lib.hid (has_or2 b0 b1)
    cases b2
    all_goals (
      go_wp2
      go_meet
      case rel => exact ⟨by first | rfl | rw [HO.out], rfl⟩)
  case rest =>
  obtain ⟨rfl, rfl⟩ := hcut
  have hd1 := D3.out.1
  have hd2 := D3.out.2
  go_upto_if 24 with fail
  go_cut [3] (fun u3 wx => u3 = .int .i64 (hasI b0 b1 b2 b3 false false) ∧ w1 = wx)
  clear hd1 hd2
  case first =>
    have HO := Lib.hid (has_or3 b0 b1 b2)
    cases b3
    all_goals (
      go_wp2
      go_meet
      case rel => exact ⟨by first | rfl | rw [HO.out], rfl⟩)
  case rest =>
  obtain ⟨rfl, rfl⟩ := hcut
  have hd1 := D4.out.1
  have hd2 := D4.out.2
  go_upto_if 30 with fail
  go_cut [3] (fun u3 wx => u3 = .int .i64 (hasI b0 b1 b2 b3 b4 false) ∧ w1 = wx)
  clear hd1 hd2
  case first =>
    have HO := Lib.hid (has_or4 b0 b1 b2 b3)
    cases b4
    all_goals (
      go_wp2
      go_meet
      case rel => exact ⟨by first | rfl | rw [HO.out], rfl⟩)
  case rest =>
  obtain ⟨rfl, rfl⟩ := hcut
  have hd1 := D5.out.1
  have hd2 := D5.out.2
  go_upto_if 36 with fail
  go_cut [3] (fun u3 wx => u3 = .int .i64 (hasI b0 b1 b2 b3 b4 b5) ∧ w1 = wx)
  clear hd1 hd2
  case first =>
    have HO := Lib.hid (has_or5 b0 b1 b2 b3 b4)
    cases b5
    all_goals (
      go_wp2
      go_meet
      case rel => exact ⟨by first | rfl | rw [HO.out], rfl⟩)
  case rest =>
  obtain ⟨rfl, rfl⟩ := hcut
  go_wp2
  go_ret
  exact ⟨rfl, HB.out⟩
set_option maxHeartbeats 1000000 in
set_option maxRecDepth 100000 in
theorem only79 (k : Int) (nm : ByteArray) (a1 a2 a3 a4 a5 : Option Addr) (n1 n2 n3 n4 n5 c1 c2 c3 c4 c5 : Nat) (m : Int) (w : World) : Calls Tryz.prog 79 #[.agg #[.int .i64 k, .string nm, .slice a1 n1 c1, .slice a2 n2 c2, .slice a3 n3 c3, .slice a4 n4 c4, .slice a5 n5 c5], .int .i64 m] w fun e w' => e = .returned (.bool (bits .andNot .i64 (hasI (!emB nm) (decide (0 < n1)) (decide (0 < n2)) (decide (0 < n3)) (decide (0 < n4)) (decide (0 < n5))) m == 0)) ∧ Below w.heap.size w w' := by
  have HB := Lib.hid fun (o : Obj) => (Below.refl w.heap.size w).alloc (Nat.le_refl _) o
  have C := Lib.hid fun W => has78 k nm a1 a2 a3 a4 a5 n1 n2 n3 n4 n5 c1 c2 c3 c4 c5 W
  generalize hasI (!emB nm) (decide (0 < n1)) (decide (0 < n2)) (decide (0 < n3)) (decide (0 < n4)) (decide (0 < n5)) = x at C ⊢
  go_enter Tryz.func79, Tryz.ntmps79
  go_wp2_with fail
  refine (C.out _).mono ?_
  rintro e w1 ⟨rfl, hb⟩
  have HB2 := Lib.hid ((HB.out _).trans (hb.mono (HB.out _).size))
  clear hb
  go_wp2
  go_ret
  exact ⟨rfl, HB2.out⟩
end Go.Proofs.YtfaohicadahcjaaGreatDoor
