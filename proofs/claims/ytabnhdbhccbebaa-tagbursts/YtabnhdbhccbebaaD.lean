/- A row of bools; contracts: Count and Cut at a head, take. Conditions: lengths below a bound; the library's own variable holds some number. -/
import Derived.Test.YtabnhdbhccbebaaC
import Derived.Test.YtabnhdbhccbebaaShelf
namespace Go.Proofs.Ytabnhdbhccbebaa
open Go.RowKit Go.PlainAid
set_option linter.unusedSimpArgs false
set_option linter.unusedVariables false

/-- What a walk wants of the library's own variable: it holds some number. -/
def Env (w : World) : Prop := ∃ m : Int, w.cell? ⟨0, 0, none⟩ = some (.int .i64 m)
theorem Env.below {B : Nat} {w w' : World} (h : Env w) (hb : Below B w w') (hB : w.heap.size ≤ B) : Env w' := by
  obtain ⟨m, hm⟩ := h
  exact ⟨m, by rw [hb.cell (Nat.lt_of_lt_of_le (World.block_lt_of_cell? _ _ hm) hB)]; exact hm⟩
theorem Env.on {w w' : World} (h : Env w) (hb : Below w.heap.size w w') : Env w' := h.below hb (Nat.le_refl _)
theorem Env.pos {w : World} (h : Env w) : 0 < w.heap.size := by obtain ⟨m, hm⟩ := h; exact World.block_lt_of_cell? _ _ hm
theorem Env.at0 {B : Nat} {w w' : World} (h : Env w) (hb : Below B w w') (hB : 0 < B) : Env w' := by
  obtain ⟨m, hm⟩ := h
  exact ⟨m, by rw [hb.cell (p := ⟨0, 0, none⟩) hB]; exact hm⟩

/-- A row of bools in a block of its own. -/
def bb (t : List Bool) : Array Value := (t.map Value.bool).toArray
def TB (g : Nat) (t : List Bool) (w : World) : Prop := w.heap[g]? = some (.cells (bb t) 4 (0, 0))
theorem TB.cell {g : Nat} {t : List Bool} {w : World} (h : TB g t w) (j : Nat) (b : Bool) (hj : t[j]? = some b) : w.cell? ⟨g, 0 + j, none⟩ = some (.bool b) := by
  unfold TB at h
  simp only [World.cell?, h, Nat.zero_add]
  simp [bb, hj]
theorem TB.fr {g : Nat} {t : List Bool} {w : World} (h : TB g t w) (j : Nat) : w.frozen? ⟨g, 0 + j, none⟩ = false := by
  unfold TB at h
  simp [World.frozen?, h]
theorem TB.set {g : Nat} {t : List Bool} {w : World} (h : TB g t w) (j : Nat) (b : Bool) : TB g (t.set j b) (w.setCell ⟨g, 0 + j, none⟩ (.bool b)) := by
  unfold TB at h
  rw [setCell_eq_setRow w g _ _ _ _ _ h]
  unfold TB
  rw [setRow_heap w g _ _ 4 _ h]
  congr 2
  unfold bb
  rw [List.setIfInBounds_toArray, Nat.zero_add, List.map_set]
theorem TB.lt {g : Nat} {t : List Bool} {w : World} (h : TB g t w) : g < w.heap.size := lt_of_block h
theorem TB.keep {g B : Nat} {t : List Bool} {w w' : World} (h : TB g t w) (hb : Below B w w') (hB : g < B) : TB g t w' := (hb.block g hB).trans h
theorem Try.info4 : (Try.prog.info? 4).map (fun i => (i.zero, i.size, i.bytes)) = some (some (.bool false), 1, 1) := by kernel_rfl
/-- make([]bool, c). -/
theorem run_makeB (c : Nat) (hc : c ≤ 100000000) (w : World) : ∃ w', (Instr.makeSlice 40 (.int .i64 (c : Int)) (.int .i64 (c : Int))).run Try.prog w = .ok (.slice (some ⟨w.heap.size, 0, none⟩) c c) w' ∧ TB w.heap.size (List.replicate c false) w' ∧ Below w.heap.size w w' := by
  obtain ⟨i0, hi0, hz0, hz1, hz2⟩ := info_parts Try.info4
  have hr := run_make (P := Try.prog) w 40 4 i0 _ Try.underlying40 hi0 hz0 .i64 .i64 c c (by omega) (Int.le_refl _) (by rw [hz2]; omega) (by omega)
  simp only [Int.toNat_natCast] at hr
  refine ⟨_, hr, ?_, (Below.refl _ w).alloc (Nat.le_refl _) _⟩
  unfold TB
  rw [heap_alloc_new]
  congr 2
  unfold madeCells bb
  rw [hz1]
  apply Array.ext (by simp)
  intro i h1 h2
  simp [Value.cells, Nat.mod_one]

theorem hd2 (a b : UInt8) : (⟨#[a, b]⟩ : ByteArray).data.toList = [a, b] := rfl
theorem count18 (s : ByteArray) (a b : UInt8) (w : World) (he : Env w) (hs : s.size ≤ 1000000) : Calls Try.prog 18 #[.string s, .string ⟨#[a, b]⟩] w fun e w' => e = .returned (.int .i64 ((occ a b (ls s)).length : Nat)) ∧ w = w' := by
  obtain ⟨m, hm⟩ := he
  refine (Try.strings_Count s ⟨#[a, b]⟩ m w (by omega) hm (Nat.le_refl _)).mono fun e w' ⟨h1, h2⟩ => ⟨?_, h2.symm⟩
  rw [h1, show Lib.countB s ⟨#[a, b]⟩ = (occ a b (ls s)).length from count_occ a b _ _ (Nat.le_refl _)]
theorem cut23_miss (s : ByteArray) (a b : UInt8) (w : World) (he : Env w) (hs : s.size ≤ 1000000) (h : Lib.index (ls s) [a, b] = -1) : Calls Try.prog 23 #[.string s, .string ⟨#[a, b]⟩] w fun e w' => e = .returned (.tuple #[.string s, .string ⟨#[]⟩, .bool false]) ∧ Below w.heap.size w w' := by
  obtain ⟨m, hm⟩ := he
  obtain ⟨e1, e2, e3⟩ := Lib.cutB_miss s ⟨#[a, b]⟩ h
  refine (Try.strings_Cut s ⟨#[a, b]⟩ m w (by omega) hm).mono fun e w' ⟨h1, n, h2⟩ => ?_
  rw [e1, e2, e3] at h1
  exact ⟨h1, by rw [h2]; exact (⟨rfl, rfl, rfl, Nat.le_refl _, fun _ _ => rfl⟩ : Below w.heap.size w (w.drewN n))⟩
theorem cut23_hit (s : ByteArray) (a b : UInt8) (w : World) (he : Env w) (hs : s.size ≤ 1000000) (i : Nat) (h : Lib.index (ls s) [a, b] = i) : Calls Try.prog 23 #[.string s, .string ⟨#[a, b]⟩] w fun e w' => e = .returned (.tuple #[.string (s.extract 0 i), .string (s.extract (i + 2) s.size), .bool true]) ∧ Below w.heap.size w w' := by
  obtain ⟨m, hm⟩ := he
  obtain ⟨e1, e2, e3⟩ := Lib.cutB_hit s ⟨#[a, b]⟩ i h
  refine (Try.strings_Cut s ⟨#[a, b]⟩ m w (by omega) hm).mono fun e w' ⟨h1, n, h2⟩ => ?_
  rw [e1, e2, e3] at h1
  exact ⟨h1, by rw [h2]; exact (⟨rfl, rfl, rfl, Nat.le_refl _, fun _ _ => rfl⟩ : Below w.heap.size w (w.drewN n))⟩
end Go.Proofs.Ytabnhdbhccbebaa
