/- A list of nodes that came in, opened. No condition. -/
import Derived.Test.YtgdjoojghkdcbaaUj
import Derived.Deep.Slices
import Derived.Deep.Strs
import Derived.OpenShut
namespace Go.Proofs.Ytgdjoojghkdcbaa
open Go.RowKit Go.PlainAid Go.ChangeShapes Go.WideShapes Go.ChangeAt

/-- A node of the law: in which directory, its name, kind, mode, bytes. -/
structure Opn where
  (at' : Int) (s : ByteArray) (k m : Int) (t : ByteArray)
structure Opn.Fits (o : Opn) : Prop where
  a : In64 o.at'
  s : o.s.size ≤ maxLen
  k : In64 o.k
  m : In64 o.m
  t : o.t.size ≤ maxLen
structure OpAt (w : World) (b off : Nat) (o : Opn) : Prop where
  c0 : w.cell? ⟨b, off, none⟩ = some (.int .i64 o.at')
  c1 : w.cell? ⟨b, off + 1, none⟩ = some (.string o.s)
  c2 : w.cell? ⟨b, off + 2, none⟩ = some (.int .i64 o.k)
  c3 : w.cell? ⟨b, off + 3, none⟩ = some (.int .i64 o.m)
  c4 : w.cell? ⟨b, off + 4, none⟩ = some (.string o.t)
def OpsAt (w : World) (v : Value) (os : List Opn) : Prop := (∀ o ∈ os, o.Fits) ∧ ((os = [] ∧ ∃ a c, v = .slice a 0 c) ∨ ∃ b off c, v = .slice (some ⟨b, off, none⟩) os.length c ∧ ∀ (i : Nat) (o : Opn), os[i]? = some o → OpAt w b (off + i * 5) o)
theorem ops_shape {w : World} {v : Value} {os : List Opn} (h : OpsAt w v os) : ∃ a c, v = .slice a os.length c := by
  rcases h.2 with ⟨rfl, a, c, rfl⟩ | ⟨b, off, c, rfl, _⟩
  · exact ⟨a, c, rfl⟩
  · exact ⟨_, c, rfl⟩
theorem low_cell {w w' : World} (hb : Below w.heap.size w w') {p : Addr} {u : Value} (h : w.cell? p = some u) : w'.cell? p = some u := by
  rw [hb.cell (block_lt_of_cell h)]; exact h
theorem OpAt.low {w w' : World} (hb : Below w.heap.size w w') {b off : Nat} {o : Opn} (h : OpAt w b off o) : OpAt w' b off o := ⟨low_cell hb h.c0, low_cell hb h.c1, low_cell hb h.c2, low_cell hb h.c3, low_cell hb h.c4⟩

theorem Try.fields52 : ∃ f0 f1 f2 f3 f4 : Field, Try.prog.underlying 52 = some (.struct #[f0, f1, f2, f3, f4]) ∧ f0.offset = 0 ∧ f1.offset = 1 ∧ f2.offset = 2 ∧ f3.offset = 3 ∧ f4.offset = 4 ∧ f0.type = 3 ∧ f1.type = 9 ∧ f2.type = 3 ∧ f3.type = 3 ∧ f4.type = 9 := ⟨_, _, _, _, _, Try.underlying52, rfl, rfl, rfl, rfl, rfl, rfl, rfl, rfl, rfl, rfl⟩
theorem Try.cells52 : Try.prog.cellsOf 52 = 5 := by kernel_rfl
theorem Try.cells3 : Try.prog.cellsOf 3 = 1 := by kernel_rfl
theorem Try.cells9 : Try.prog.cellsOf 9 = 1 := by kernel_rfl
section
variable {H : Type} {enc : TypeId × Value → H} {P : Program} {w : World} {base : Nat} {spare : Nat → Bool} {held : Bool}
theorem trod_struct5 {t : TypeId} {f0 f1 f2 f3 f4 : Field} {fuel : Nat} {cs : List Value} {x : DataW H × List MemPlace} (ht : P.underlying t = some (.struct #[f0, f1, f2, f3, f4])) (h : DataW.trod enc P w base spare held fuel t cs = some x) :
    ∃ y0 y1 y2 y3 y4 n, DataW.trod enc P w base spare held n f0.type ((cs.drop f0.offset).take (P.cellsOf f0.type)) = some y0 ∧
      DataW.trod enc P w base spare held n f1.type ((cs.drop f1.offset).take (P.cellsOf f1.type)) = some y1 ∧ DataW.trod enc P w base spare held n f2.type ((cs.drop f2.offset).take (P.cellsOf f2.type)) = some y2 ∧
      DataW.trod enc P w base spare held n f3.type ((cs.drop f3.offset).take (P.cellsOf f3.type)) = some y3 ∧ DataW.trod enc P w base spare held n f4.type ((cs.drop f4.offset).take (P.cellsOf f4.type)) = some y4 := by
  obtain ⟨xs, n, _, rfl, hl, hlen, hf⟩ := DataW.trod_struct ht h
  match xs, hlen with
  | [y0, y1, y2, y3, y4], _ => exact ⟨y0, y1, y2, y3, y4, n, by simpa using hf 0 f0 rfl, by simpa using hf 1 f1 rfl, by simpa using hf 2 f2 rfl, by simpa using hf 3 f3 rfl, by simpa using hf 4 f4 rfl⟩
end

theorem choose_list {α : Type} {Q : Nat → α → Prop} : ∀ n : Nat, (∀ i, i < n → ∃ o, Q i o) → ∃ os : List α, os.length = n ∧ ∀ (i : Nat) (o : α), os[i]? = some o → Q i o
  | 0, _ => ⟨[], rfl, fun i o h => by simp at h⟩
  | n + 1, h => by
    obtain ⟨os, h1, h2⟩ := choose_list n (fun i hi => h i (by omega))
    obtain ⟨o, ho⟩ := h n (by omega)
    refine ⟨os ++ [o], by simp [h1], fun i o' hi => ?_⟩
    by_cases e : i < n
    · rw [List.getElem?_append_left (by omega)] at hi
      exact h2 i o' hi
    · have : i < (os ++ [o]).length := (List.getElem?_eq_some_iff.1 hi).1
      simp [h1] at this
      obtain rfl : i = n := by omega
      rw [List.getElem?_append_right (by omega), h1, Nat.sub_self] at hi
      simp at hi
      subst hi
      exact ho

set_option maxRecDepth 100000 in
theorem open_ops {H : Type} {enc : TypeId × Value → H} {W : World} {base : Nat} {v : Value} {d : DataW H} {p : List MemPlace} (hv : Value.okWide Try.prog W .any base 22 v) (h : DataW.Trod enc Try.prog W 0 (fun _ => true) true 22 v d p) :
    ∃ os, OpsAt W v os := by
  obtain ⟨a, len, cap, rfl⟩ := okWide_slice Try.underlying22 hv
  obtain ⟨fuel, hf⟩ := h
  obtain ⟨f0, f1, f2, f3, f4, hu, o0, o1, o2, o3, o4, t0, t1, t2, t3, t4⟩ := Try.fields52
  rcases Deep.open_slice Try.underlying22 hf with ⟨hcs, _⟩ | ⟨x, l, c, m, n, D, Pl, hcs, _, hl, _, hmm, _, hx⟩
  · simp [Value.cells] at hcs
    obtain ⟨rfl, rfl, rfl⟩ := hcs
    exact ⟨[], by simp, .inl ⟨rfl, _, _, rfl⟩⟩
  · simp [Value.cells] at hcs
    obtain ⟨rfl, rfl, rfl⟩ := hcs
    have hlm : len ≤ m := by rw [hmm]; split <;> omega
    by_cases h0 : len = 0
    · subst h0
      exact ⟨[], by simp, .inl ⟨rfl, _, _, rfl⟩⟩
    have each : ∀ i, i < len → ∃ o : Opn, o.Fits ∧ W.cell? (x.add (i * 5)) = some (.int .i64 o.at') ∧ W.cell? (x.add (i * 5 + 1)) = some (.string o.s) ∧ W.cell? (x.add (i * 5 + 2)) = some (.int .i64 o.k) ∧ W.cell? (x.add (i * 5 + 3)) = some (.int .i64 o.m) ∧ W.cell? (x.add (i * 5 + 4)) = some (.string o.t) := by
      intro i hi
      obtain ⟨cs', h1, h2⟩ := hx i (by omega)
      rw [Try.cells52] at h1
      obtain ⟨_, hlen, hcell⟩ := World.cells?_some h1
      obtain ⟨y0, y1, y2, y3, y4, k, g0, g1, g2, g3, g4⟩ := trod_struct5 hu h2
      match cs', hlen with
      | [v0, v1, v2, v3, v4], _ =>
        rw [o0, t0, Try.cells3] at g0
        rw [o1, t1, Try.cells9] at g1
        rw [o2, t2, Try.cells3] at g2
        rw [o3, t3, Try.cells3] at g3
        rw [o4, t4, Try.cells9] at g4
        obtain ⟨z0, q0, _, r0⟩ := DataW.trod_int Try.underlying3 g0
        obtain ⟨z1, q1, _, r1⟩ := DataW.trod_string Try.underlying9 g1
        obtain ⟨z2, q2, _, r2⟩ := DataW.trod_int Try.underlying3 g2
        obtain ⟨z3, q3, _, r3⟩ := DataW.trod_int Try.underlying3 g3
        obtain ⟨z4, q4, _, r4⟩ := DataW.trod_string Try.underlying9 g4
        simp at q0 q1 q2 q3 q4
        subst q0 q1 q2 q3 q4
        have e0 := hcell 0 (by omega)
        have e1 := hcell 1 (by omega)
        have e2 := hcell 2 (by omega)
        have e3 := hcell 3 (by omega)
        have e4 := hcell 4 (by omega)
        rw [Deep.add_add] at e0 e1 e2 e3 e4
        exact ⟨⟨z0, z1, z2, z3, z4⟩, ⟨r0, r1, r2, r3, r4⟩, by simpa using e0, by simpa using e1, by simpa using e2, by simpa using e3, by simpa using e4⟩
    obtain ⟨os, hol, hos⟩ := choose_list len each
    obtain ⟨b, off, spot⟩ := x
    have hspot : spot = none := by
      obtain ⟨o, _, e, _⟩ := each 0 (by omega)
      simpa [Addr.add] using World.cell?_spot e
    subst hspot
    refine ⟨os, fun o ho => ?_, .inr ⟨b, off, cap, by rw [hol], fun i o hi => ?_⟩⟩
    · obtain ⟨i, hi⟩ := List.getElem?_of_mem ho
      exact (hos i o hi).1
    · obtain ⟨_, e0, e1, e2, e3, e4⟩ := hos i o hi
      exact ⟨by simpa [add_at] using e0, by simpa [add_at, Nat.add_assoc] using e1, by simpa [add_at, Nat.add_assoc] using e2, by simpa [add_at, Nat.add_assoc] using e3, by simpa [add_at, Nat.add_assoc] using e4⟩
theorem opBlock (w : World) (o : Opn) : OpAt (w.alloc (.cells #[.int .i64 o.at', .string o.s, .int .i64 o.k, .int .i64 o.m, .string o.t] 52)) w.heap.size 0 o := by
  have h := heap_alloc_new w (.cells #[.int .i64 o.at', .string o.s, .int .i64 o.k, .int .i64 o.m, .string o.t] 52)
  exact ⟨cells_at h rfl, cells_at h rfl, cells_at h rfl, cells_at h rfl, cells_at h rfl⟩
end Go.Proofs.Ytgdjoojghkdcbaa
