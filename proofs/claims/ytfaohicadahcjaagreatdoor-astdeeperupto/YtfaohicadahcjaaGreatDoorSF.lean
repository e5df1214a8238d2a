/- Trees that came in, opened, piece by piece. No condition. -/
import Derived.Test.YtfaohicadahcjaaGreatDoorSE
import Derived.Test.YtfaohicadahcjaaGreatDoorSM
namespace Go.Proofs.YtfaohicadahcjaaGreatDoor
open Go.RowKit Go.PlainAid Go.ChangeShapes Go.WideShapes Go.ChangeAt
set_option linter.unusedSimpArgs false
set_option linter.unusedVariables false
open heft
theorem cells55 : Tryz.prog.cellsOf 55 = 6 := by kernel_rfl
theorem cells51 : Tryz.prog.cellsOf 51 = 7 := by kernel_rfl
theorem cells96 : Tryz.prog.cellsOf 96 = 2 := by kernel_rfl
theorem cells44 : Tryz.prog.cellsOf 44 = 4 := by kernel_rfl
theorem cells78 : Tryz.prog.cellsOf 78 = 2 := by kernel_rfl
theorem cells33 : Tryz.prog.cellsOf 33 = 1 := by kernel_rfl
theorem cells22 : Tryz.prog.cellsOf 22 = 1 := by kernel_rfl
theorem cells3 : Tryz.prog.cellsOf 3 = 1 := by kernel_rfl
theorem cells4 : Tryz.prog.cellsOf 4 = 1 := by kernel_rfl
theorem cells9 : Tryz.prog.cellsOf 9 = 1 := by kernel_rfl
theorem cells46 : Tryz.prog.cellsOf 46 = 1 := by kernel_rfl
theorem cells47 : Tryz.prog.cellsOf 47 = 1 := by kernel_rfl
theorem cells45 : Tryz.prog.cellsOf 45 = 1 := by kernel_rfl
theorem cells48 : Tryz.prog.cellsOf 48 = 1 := by kernel_rfl
theorem cells49 : Tryz.prog.cellsOf 49 = 1 := by kernel_rfl
theorem fields55 : ∃ f0 f1 f2 f3 f4 f5 : Field, Tryz.prog.underlying 55 = some (.struct #[f0, f1, f2, f3, f4, f5]) ∧ (f0.offset = 0 ∧ f1.offset = 1 ∧ f2.offset = 2 ∧ f3.offset = 3 ∧ f4.offset = 4 ∧ f5.offset = 5) ∧ f0.type = 3 ∧ f1.type = 4 ∧ f2.type = 9 ∧ f3.type = 9 ∧ f4.type = 33 ∧ f5.type = 22 := ⟨_, _, _, _, _, _, Tryz.underlying55, ⟨rfl, rfl, rfl, rfl, rfl, rfl⟩, rfl, rfl, rfl, rfl, rfl, rfl⟩
theorem fields51 : ∃ f0 f1 f2 f3 f4 f5 f6 : Field, Tryz.prog.underlying 51 = some (.struct #[f0, f1, f2, f3, f4, f5, f6]) ∧ (f0.offset = 0 ∧ f1.offset = 1 ∧ f2.offset = 2 ∧ f3.offset = 3 ∧ f4.offset = 4 ∧ f5.offset = 5 ∧ f6.offset = 6) ∧ f0.type = 3 ∧ f1.type = 9 ∧ f2.type = 46 ∧ f3.type = 47 ∧ f4.type = 45 ∧ f5.type = 48 ∧ f6.type = 49 := ⟨_, _, _, _, _, _, _, Tryz.underlying51, ⟨rfl, rfl, rfl, rfl, rfl, rfl, rfl⟩, rfl, rfl, rfl, rfl, rfl, rfl, rfl⟩
theorem fields96 : ∃ f0 f1 : Field, Tryz.prog.underlying 96 = some (.struct #[f0, f1]) ∧ (f0.offset = 0 ∧ f1.offset = 1) ∧ f0.type = 9 ∧ f1.type = 33 := ⟨_, _, Tryz.underlying96, ⟨rfl, rfl⟩, rfl, rfl⟩
theorem fields44 : ∃ f0 f1 f2 f3 : Field, Tryz.prog.underlying 44 = some (.struct #[f0, f1, f2, f3]) ∧ (f0.offset = 0 ∧ f1.offset = 1 ∧ f2.offset = 2 ∧ f3.offset = 3) ∧ f0.type = 3 ∧ f1.type = 9 ∧ f2.type = 9 ∧ f3.type = 33 := ⟨_, _, _, _, Tryz.underlying44, ⟨rfl, rfl, rfl, rfl⟩, rfl, rfl, rfl, rfl⟩
theorem fields78 : ∃ f0 f1 : Field, Tryz.prog.underlying 78 = some (.struct #[f0, f1]) ∧ (f0.offset = 0 ∧ f1.offset = 1) ∧ f0.type = 47 ∧ f1.type = 22 := ⟨_, _, Tryz.underlying78, ⟨rfl, rfl⟩, rfl, rfl⟩
section
variable {H : Type} {enc : TypeId × Value → H} {w : World}
abbrev Rdz (enc : TypeId × Value → H) (w : World) (fuel : Nat) (t : TypeId) (cs : List Value) (d : DataW H) (p : List MemPlace) : Prop := DataW.trod enc Tryz.prog w 0 (fun _ => true) true fuel t cs = some (d, p)
theorem wordN_is (l : List Pt) : wordN l = (l.map (fun p => p.text.size)).sum := by
  induction l with
  | nil => rfl
  | cons p r ih => simp [wordN, ih]
theorem rd_str {fuel : Nat} {v : Value} {d : DataW H} {p : List MemPlace} (h : Rdz enc w fuel 9 [v] d p) : ∃ s : ByteArray, v = .string s ∧ s.size + 1 = Rows.uptoBulk d := by
  obtain ⟨s, h1, h2, _⟩ := DataW.trod_string Tryz.underlying9 h
  simp at h1
  cases h2
  exact ⟨s, h1, by rw [heft.text]; rfl⟩
theorem rd_int {fuel : Nat} {v : Value} {d : DataW H} {p : List MemPlace} (h : Rdz enc w fuel 3 [v] d p) : ∃ k : Int, v = .int .i64 k ∧ In64 k := by
  obtain ⟨k, h1, _, h2⟩ := DataW.trod_int Tryz.underlying3 h
  simp at h1
  exact ⟨k, h1, h2⟩
theorem rd_bool {fuel : Nat} {v : Value} {d : DataW H} {p : List MemPlace} (h : Rdz enc w fuel 4 [v] d p) : ∃ k : Bool, v = .bool k := by
  obtain ⟨k, h1, _⟩ := DataW.trod_bool Tryz.underlying4 h
  simp at h1
  exact ⟨k, h1⟩
/-- What is opened, of trees of a bulk. -/
def OpW (enc : TypeId × Value → H) (w : World) (m : Nat) : Prop := ∀ (fuel : Nat) (v : Value) (d : DataW H) (p : List MemPlace), Rdz enc w fuel 33 [v] d p → Rows.uptoBulk d ≤ m → ∃ l, WdAt m w v l ∧ wordN l ≤ Rows.uptoBulk d ∧ (wts m).1 l < Rows.uptoBulk d
def OpN (enc : TypeId × Value → H) (w : World) (m : Nat) : Prop := ∀ (fuel : Nat) (v : Value) (d : DataW H) (p : List MemPlace), Rdz enc w fuel 22 [v] d p → Rows.uptoBulk d ≤ m → ∃ l, NsAt m w v l ∧ (wts m).2 l < Rows.uptoBulk d
set_option maxRecDepth 100000 in
theorem op_part {m : Nat} (hm : m ≤ 1048576) (hW : OpW enc w m) (hN : OpN enc w m) (fuel : Nat) (cs : List Value) (d : DataW H) (p : List MemPlace) (h : Rdz enc w fuel 55 cs d p) (hb : Rows.uptoBulk d ≤ m) (hl : cs.length = 6) : ∃ y : Pt, PtC (WdAt m) (NsAt m) w cs y ∧ wtP (wts m).1 (wts m).2 y ≤ Rows.uptoBulk d := by
  obtain ⟨f0, f1, f2, f3, f4, f5, hu, ⟨o0, o1, o2, o3, o4, o5⟩, t0, t1, t2, t3, t4, t5⟩ := fields55
  obtain ⟨xs, n, _, hx, _, hxl, hf⟩ := DataW.trod_struct hu h
  match xs, hxl, cs, hl with
  | [y0, y1, y2, y3, y4, y5], _, [v0, v1, v2, v3, v4, v5], _ =>
    have g0 := hf 0 f0 rfl
    have g1 := hf 1 f1 rfl
    have g2 := hf 2 f2 rfl
    have g3 := hf 3 f3 rfl
    have g4 := hf 4 f4 rfl
    have g5 := hf 5 f5 rfl
    rw [o0, t0, cells3] at g0
    rw [o1, t1, cells4] at g1
    rw [o2, t2, cells9] at g2
    rw [o3, t3, cells9] at g3
    rw [o4, t4, cells33] at g4
    rw [o5, t5, cells22] at g5
    cases hx
    simp only [List.map_cons, List.map_nil, Rows.uptoBulk, Rows.uptoBulkAll] at hb ⊢
    obtain ⟨k, rfl, hk⟩ := rd_int (enc := enc) (w := w) (d := y0.1) (p := y0.2) g0
    obtain ⟨b, rfl⟩ := rd_bool (enc := enc) (w := w) (d := y1.1) (p := y1.2) g1
    obtain ⟨s, rfl, hs⟩ := rd_str (enc := enc) (w := w) (d := y2.1) (p := y2.2) g2
    obtain ⟨o, rfl, ho⟩ := rd_str (enc := enc) (w := w) (d := y3.1) (p := y3.2) g3
    obtain ⟨wl, hwl, _, hww⟩ := hW n v4 y4.1 y4.2 g4 (by omega)
    obtain ⟨nl, hnl, hnn⟩ := hN n v5 y5.1 y5.2 g5 (by omega)
    exact ⟨.mk k b s o wl nl, ⟨v4, v5, rfl, ⟨hk, by show s.size ≤ _; omega, by show o.size ≤ _; omega⟩, hwl, hnl⟩, by show 1 + s.size + (wts m).1 wl + (wts m).2 nl ≤ _; omega⟩
set_option maxRecDepth 100000 in
theorem op_as {m : Nat} (hm : m ≤ 1048576) (hW : OpW enc w m) (fuel : Nat) (cs : List Value) (d : DataW H) (p : List MemPlace) (h : Rdz enc w fuel 96 cs d p) (hb : Rows.uptoBulk d ≤ m) (hl : cs.length = 2) : ∃ y : As, AsC (WdAt m) w cs y ∧ wtA (wts m).1 y ≤ Rows.uptoBulk d := by
  obtain ⟨f0, f1, hu, ⟨o0, o1⟩, t0, t1⟩ := fields96
  obtain ⟨xs, n, _, hx, _, hxl, hf⟩ := DataW.trod_struct hu h
  match xs, hxl, cs, hl with
  | [y0, y1], _, [v0, v1], _ =>
    have g0 := hf 0 f0 rfl
    have g1 := hf 1 f1 rfl
    rw [o0, t0, cells9] at g0
    rw [o1, t1, cells33] at g1
    cases hx
    simp only [List.map_cons, List.map_nil, Rows.uptoBulk, Rows.uptoBulkAll] at hb ⊢
    obtain ⟨s, rfl, hs⟩ := rd_str (enc := enc) (w := w) (d := y0.1) (p := y0.2) g0
    obtain ⟨wl, hwl, _, hww⟩ := hW n v1 y1.1 y1.2 g1 (by omega)
    exact ⟨.mk s wl, ⟨v1, rfl, by show s.size ≤ _; omega, hwl⟩, by show 1 + s.size + (wts m).1 wl ≤ _; omega⟩
set_option maxRecDepth 100000 in
theorem op_rd {m : Nat} (hm : m ≤ 1048576) (hW : OpW enc w m) (fuel : Nat) (cs : List Value) (d : DataW H) (p : List MemPlace) (h : Rdz enc w fuel 44 cs d p) (hb : Rows.uptoBulk d ≤ m) (hl : cs.length = 4) : ∃ y : Rd, RdC (WdAt m) w cs y ∧ wtR (wts m).1 y ≤ Rows.uptoBulk d := by
  obtain ⟨f0, f1, f2, f3, hu, ⟨o0, o1, o2, o3⟩, t0, t1, t2, t3⟩ := fields44
  obtain ⟨xs, n, _, hx, _, hxl, hf⟩ := DataW.trod_struct hu h
  match xs, hxl, cs, hl with
  | [y0, y1, y2, y3], _, [v0, v1, v2, v3], _ =>
    have g0 := hf 0 f0 rfl
    have g1 := hf 1 f1 rfl
    have g2 := hf 2 f2 rfl
    have g3 := hf 3 f3 rfl
    rw [o0, t0, cells3] at g0
    rw [o1, t1, cells9] at g1
    rw [o2, t2, cells9] at g2
    rw [o3, t3, cells33] at g3
    cases hx
    simp only [List.map_cons, List.map_nil, Rows.uptoBulk, Rows.uptoBulkAll] at hb ⊢
    obtain ⟨k, rfl, hk⟩ := rd_int (enc := enc) (w := w) (d := y0.1) (p := y0.2) g0
    obtain ⟨s, rfl, hs⟩ := rd_str (enc := enc) (w := w) (d := y1.1) (p := y1.2) g1
    obtain ⟨o, rfl, ho⟩ := rd_str (enc := enc) (w := w) (d := y2.1) (p := y2.2) g2
    obtain ⟨wl, hwl, hwn, hww⟩ := hW n v3 y3.1 y3.2 g3 (by omega)
    exact ⟨.mk k s o wl, ⟨v3, rfl, ⟨hk, by show s.size ≤ _; omega, by show o.size ≤ _; omega, by show wordN wl ≤ _; omega⟩, hwl⟩, by show 1 + o.size + (wts m).1 wl ≤ _; omega⟩
end
end Go.Proofs.YtfaohicadahcjaaGreatDoor
