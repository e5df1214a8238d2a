/- Contracts: right, spell, Halves, Of, the anchor, ours; Half, Of, In, the document's; small. Conditions: numbers that have a tag. -/
import Derived.Test.YtabnhdbhccbebaaDoorP
import Derived.Test.YtabnhdbhccbebaaDoorSs
import Derived.OneCell
import Derived.Laws.Tables
import Derived.Deep.DeepCutAuto
namespace Go.Proofs.YtabnhdbhccbebaaDoor
open Go.RowKit Go.PlainAid
set_option linter.unusedSimpArgs false
set_option linter.unusedVariables false

theorem alloc_setRow (w : World) (c d : Array Value) (t : TypeId) : (w.alloc (.cells c t)).setRow w.heap.size d = w.alloc (.cells d t) := by
  unfold World.setRow World.alloc
  congr 1
  apply Array.ext (by simp)
  intro i h1 h2
  simp only [Array.getElem_modify, Array.getElem_push]
  by_cases hi : i < w.heap.size
  · have : ¬ w.heap.size = i := by omega
    simp [this, hi]
  · have : w.heap.size = i := by simp at h1; omega
    subst this
    simp
theorem alloc_setCell (w : World) (c : Array Value) (t : TypeId) (j : Nat) (v : Value) : (w.alloc (.cells c t)).setCell ⟨w.heap.size, j, none⟩ v = w.alloc (.cells (c.setIfInBounds j v) t) := by
  rw [setCell_eq_setRow _ _ _ _ _ _ _ (heap_alloc_new w (.cells c t)), alloc_setRow]
theorem alloc_cell (w : World) (c : Array Value) (t : TypeId) (j : Nat) : (w.alloc (.cells c t)).cell? ⟨w.heap.size, j, none⟩ = c[j]? := by
  simp [World.cell?, heap_alloc_new w (.cells c t), -Array.getElem?_eq_getElem, -getElem?_pos]
theorem alloc_frozen (w : World) (c : Array Value) (t : TypeId) (j : Nat) : (w.alloc (.cells c t)).frozen? ⟨w.heap.size, j, none⟩ = false := by
  simp [World.frozen?, heap_alloc_new w (.cells c t), -Array.getElem?_eq_getElem, -getElem?_pos]

set_option maxHeartbeats 1000000 in
set_option maxRecDepth 100000 in
theorem right15 (n : Int) (w : World) : Calls Tryd.prog 13 #[.int .i64 n] w fun e w' => e = .returned (.bool (decide (0 ≤ n) && decide (n < 11881376))) ∧ w = w' := by
  by_cases h : 0 ≤ n
  · go_enter Tryd.func13, Tryd.ntmps13
    go_wp2
    go_ret
    exact ⟨by simp [h], rfl⟩
  · go_enter Tryd.func13, Tryd.ntmps13
    go_wp2
    go_ret
    exact ⟨by simp [h]; omega, rfl⟩
/-- What is spelt so far. -/
def sw (w : World) (l : List UInt8) : World := w.alloc (.cells (bc l).toArray 36)
def Rel17 (n : Nat) (w : World) (x i : Value) (wx : World) : Prop :=
  (∃ (j m : Nat) (low : List UInt8), j < 5 ∧ i = .int .i64 j ∧ x = .int .i64 m ∧ m < 11881376 ∧ Hid (sp (j + 1) m ++ low = sp 5 n) ∧ low.length = 4 - j ∧ Hid (wx = sw w (List.replicate (j + 1) 0 ++ low))) ∨ (i = .int .i64 (-1) ∧ (∃ m : Nat, x = .int .i64 m) ∧ Hid (wx = sw w (sp 5 n)))
theorem sw_set (w : World) (j : Nat) (low : List UInt8) (m : Nat) (X : Int) (hX : X = 65 + (m : Int) % 26) : (sw w (List.replicate (j + 1) 0 ++ low)).setCell ⟨w.heap.size, j, none⟩ (.int .u8 X) = sw w (List.replicate j 0 ++ (lett m :: low)) := by
  unfold sw
  rw [alloc_setCell]
  congr 2
  rw [List.setIfInBounds_toArray]
  congr 1
  subst hX
  unfold bc
  rw [show (Value.int .u8 (65 + (m : Int) % 26)) = (fun b : UInt8 => Value.int .u8 b.toNat) (lett m) by simp [lett_nat], ← List.map_set]
  congr 1
  rw [List.set_append_left _ _ (by simp), List.replicate_succ', List.set_append_right _ _ (by simp)]
  simp
theorem sw_cell (w : World) (j : Nat) (low : List UInt8) : (sw w (List.replicate (j + 1) 0 ++ low)).cell? ⟨w.heap.size, j, none⟩ = some (.int .u8 0) := by
  unfold sw
  rw [alloc_cell]
  simp [bc, List.getElem?_append_left, List.replicate_succ']
theorem sw_below (w : World) (l : List UInt8) : Below w.heap.size w (sw w l) := (Below.refl _ w).alloc (Nat.le_refl _) _
set_option maxHeartbeats 4000000 in
set_option maxRecDepth 100000 in
theorem spell17 (n : Nat) (hn : n < 11881376) (w : World) : Calls Tryd.prog 14 #[.int .i64 n] w fun e w' => e = .returned (.string (mk (sp 5 n))) ∧ Below w.heap.size w w' := by
  go_enter Tryd.func14, Tryd.ntmps14
  go_wp2
  go_loopw [0, 4] (Rel17 n w) (fun _ i _ => (intOf i + 1).toNat)
  case atStart => exact .inl ⟨4, n, [], by omega, rfl, rfl, hn, Lib.hid (List.append_nil _), rfl, Lib.hid rfl⟩
  case round =>
    rcases hrel with ⟨j, m, low, hj, rfl, rfl, hm, HS, hl, HW⟩ | ⟨rfl, ⟨m, rfl⟩, HW⟩
    · rename World => wx
      have hc : wx.cell? ⟨w.heap.size, j, none⟩ = some (.int .u8 0) := by rw [HW.out, sw_cell]
      have hf : wx.frozen? ⟨w.heap.size, j, none⟩ = false := by rw [HW.out]; exact alloc_frozen _ _ _ _
      have hm2 : m % 26 < 26 := Nat.mod_lt _ (by omega)
      go_wp2
      go_roundw
      case rel =>
        have hw2 : wx.setCell ⟨w.heap.size, j, none⟩ (.int .u8 (65 + (m : Int) % 26)) = sw w (List.replicate j 0 ++ (lett m :: low)) := by rw [HW.out]; exact sw_set w j low m _ rfl
        rw [hw2]
        have hsp : sp j (m / 26) ++ (lett m :: low) = sp 5 n := by rw [← HS.out, sp, List.append_assoc]; rfl
        cases j with
        | zero => exact .inr ⟨rfl, ⟨m / 26, by rw [Int.natCast_ediv]; rfl⟩, Lib.hid (by rw [← hsp]; rfl)⟩
        | succ j => exact .inl ⟨j, m / 26, lett m :: low, by omega, by go_num, by rw [Int.natCast_ediv]; rfl, by omega, Lib.hid hsp, by simp [hl]; omega, Lib.hid rfl⟩
      case measure => simp [intOf]
    · rename World => wx
      have hbk : (convert 33 9 (.slice (some ⟨w.heap.size, 0, none⟩) 5 5)).run Tryd.prog wx = .ok (.string (mk (sp 5 n))) wx := by
        have h := run_convert_bytes_back (P := Tryd.prog) wx 33 9 5 ⟨w.heap.size, 0, none⟩ 5 (sp 5 n) Tryd.underlying33 Tryd.underlying5 Tryd.underlying9 (fun j hj => by
          rw [HW.out]
          unfold sw
          rw [add_at, Nat.zero_add, alloc_cell]
          simp [bc, List.getElem?_eq_getElem hj])
        rw [sp_len] at h
        exact h
      go_wp2
      go_ret
      exact ⟨rfl, by rw [HW.out]; exact sw_below _ _⟩
end Go.Proofs.YtabnhdbhccbebaaDoor
