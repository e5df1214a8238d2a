/- Trees that came in, opened. No condition. -/
import Derived.Test.YtfaohicadahcjaaGreatDoorSF
namespace Go.Proofs.YtfaohicadahcjaaGreatDoor
open Go.RowKit Go.PlainAid Go.ChangeShapes Go.WideShapes Go.ChangeAt
set_option linter.unusedSimpArgs false
set_option linter.unusedVariables false
open heft
section
variable {H : Type} {enc : TypeId × Value → H} {w : World}
theorem op_ws {m : Nat} (hm : m ≤ 1048576) (hW : OpW enc w m) {fuel : Nat} {v : Value} {d : DataW H} {p : List MemPlace} (h : Rdz enc w fuel 47 [v] d p) (hb : Rows.uptoBulk d ≤ m + 1) : ∃ l, WsAt m w v l ∧ (l.map fun w => 1 + (wts m).1 w).sum < Rows.uptoBulk d := by
  exact open_seg Tryz.underlying47 cells33 (by decide) (C := OneC (WdAt m)) (fun w => 1 + (wts m).1 w) hm (fun fuel cs d p h hb hl => by
    match cs, hl with
    | [v], _ =>
      obtain ⟨l, h1, _, h2⟩ := hW fuel v d p h hb
      exact ⟨l, ⟨v, rfl, h1⟩, by show 1 + (wts m).1 l ≤ _; omega⟩) h hb
theorem op_ls {m : Nat} (hm : m ≤ 1048576) (hN : OpN enc w m) {fuel : Nat} {v : Value} {d : DataW H} {p : List MemPlace} (h : Rdz enc w fuel 48 [v] d p) (hb : Rows.uptoBulk d ≤ m + 1) : ∃ l, LsAt m w v l ∧ (l.map fun w => 1 + (wts m).2 w).sum < Rows.uptoBulk d := by
  exact open_seg Tryz.underlying48 cells22 (by decide) (C := OneC (NsAt m)) (fun w => 1 + (wts m).2 w) hm (fun fuel cs d p h hb hl => by
    match cs, hl with
    | [v], _ =>
      obtain ⟨l, h1, h2⟩ := hN fuel v d p h hb
      exact ⟨l, ⟨v, rfl, h1⟩, by show 1 + (wts m).2 l ≤ _; omega⟩) h hb
set_option maxRecDepth 100000 in
theorem op_ar {m : Nat} (hm : m ≤ 1048576) (hW : OpW enc w m) (hN : OpN enc w m) (fuel : Nat) (cs : List Value) (d : DataW H) (p : List MemPlace) (h : Rdz enc w fuel 78 cs d p) (hb : Rows.uptoBulk d ≤ m) (hl : cs.length = 2) : ∃ y : Ar, ArC (WdAt m) (NsAt m) w cs y ∧ wtM (wts m).1 (wts m).2 y ≤ Rows.uptoBulk d := by
  obtain ⟨f0, f1, hu, ⟨o0, o1⟩, t0, t1⟩ := fields78
  obtain ⟨xs, n, _, hx, _, hxl, hf⟩ := DataW.trod_struct hu h
  match xs, hxl, cs, hl with
  | [y0, y1], _, [v0, v1], _ =>
    have g0 := hf 0 f0 rfl
    have g1 := hf 1 f1 rfl
    rw [o0, t0, cells47] at g0
    rw [o1, t1, cells22] at g1
    cases hx
    simp only [List.map_cons, List.map_nil, Rows.uptoBulk, Rows.uptoBulkAll] at hb ⊢
    obtain ⟨wl, hwl, hww⟩ := op_ws hm hW (d := y0.1) (p := y0.2) (v := v0) g0 (by omega)
    obtain ⟨nl, hnl, hnn⟩ := hN n v1 y1.1 y1.2 g1 (by omega)
    exact ⟨.mk wl nl, ⟨v0, v1, rfl, hwl, hnl⟩, by show 1 + (wts m).2 nl + (wl.map fun w => 1 + (wts m).1 w).sum ≤ _; omega⟩
set_option maxRecDepth 100000 in
theorem op_node {m : Nat} (hm : m ≤ 1048576) (hW : OpW enc w m) (hN : OpN enc w m) (fuel : Nat) (cs : List Value) (d : DataW H) (p : List MemPlace) (h : Rdz enc w fuel 51 cs d p) (hb : Rows.uptoBulk d ≤ m) (hl : cs.length = 7) : ∃ y : Nd, NdC (WdAt m) (NsAt m) w cs y ∧ wtX (wts m).1 (wts m).2 y ≤ Rows.uptoBulk d := by
  obtain ⟨f0, f1, f2, f3, f4, f5, f6, hu, ⟨o0, o1, o2, o3, o4, o5, o6⟩, t0, t1, t2, t3, t4, t5, t6⟩ := fields51
  obtain ⟨xs, n, _, hx, _, hxl, hf⟩ := DataW.trod_struct hu h
  match xs, hxl, cs, hl with
  | [y0, y1, y2, y3, y4, y5, y6], _, [v0, v1, v2, v3, v4, v5, v6], _ =>
    have g0 := hf 0 f0 rfl
    have g1 := hf 1 f1 rfl
    have g2 := hf 2 f2 rfl
    have g3 := hf 3 f3 rfl
    have g4 := hf 4 f4 rfl
    have g5 := hf 5 f5 rfl
    have g6 := hf 6 f6 rfl
    rw [o0, t0, cells3] at g0
    rw [o1, t1, cells9] at g1
    rw [o2, t2, cells46] at g2
    rw [o3, t3, cells47] at g3
    rw [o4, t4, cells45] at g4
    rw [o5, t5, cells48] at g5
    rw [o6, t6, cells49] at g6
    cases hx
    simp only [List.map_cons, List.map_nil, Rows.uptoBulk, Rows.uptoBulkAll] at hb ⊢
    obtain ⟨k, rfl, hk⟩ := rd_int (enc := enc) (w := w) (d := y0.1) (p := y0.2) g0
    obtain ⟨s, rfl, hs⟩ := rd_str (enc := enc) (w := w) (d := y1.1) (p := y1.2) g1
    obtain ⟨al, hal, e1⟩ := open_seg (v := v2) (d := y2.1) (p := y2.2) Tryz.underlying46 cells96 (by decide) (C := AsC (WdAt m)) (wtA (wts m).1) hm (fun fuel cs d p h hb hl => op_as hm hW fuel cs d p h hb hl) g2 (by omega)
    obtain ⟨wl, hwl, e2⟩ := op_ws hm hW (d := y3.1) (p := y3.2) (v := v3) g3 (by omega)
    obtain ⟨rl, hrl, e3⟩ := open_seg (v := v4) (d := y4.1) (p := y4.2) Tryz.underlying45 cells44 (by decide) (C := RdC (WdAt m)) (wtR (wts m).1) hm (fun fuel cs d p h hb hl => op_rd hm hW fuel cs d p h hb hl) g4 (by omega)
    obtain ⟨ll, hll, e4⟩ := op_ls hm hN (d := y5.1) (p := y5.2) (v := v5) g5 (by omega)
    obtain ⟨ml, hml, e5⟩ := open_seg (v := v6) (d := y6.1) (p := y6.2) Tryz.underlying49 cells78 (by decide) (C := ArC (WdAt m) (NsAt m)) (wtM (wts m).1 (wts m).2) hm (fun fuel cs d p h hb hl => op_ar hm hW hN fuel cs d p h hb hl) g6 (by omega)
    exact ⟨.mk k s al wl rl ll ml, ⟨v2, v3, v4, v5, v6, rfl, ⟨hk, by show s.size ≤ _; omega⟩, hal, hwl, hrl, hll, hml⟩, by
      show 1 + s.size + (al.map (wtA (wts m).1)).sum + (wl.map fun w => 1 + (wts m).1 w).sum + (rl.map (wtR (wts m).1)).sum + (ll.map fun y => 1 + (wts m).2 y).sum + (ml.map (wtM (wts m).1 (wts m).2)).sum ≤ _
      omega⟩
theorem open_tree : ∀ m, m ≤ 1048576 → OpW enc w m ∧ OpN enc w m
  | 0, _ => ⟨fun fuel v d p h hb => absurd (pos d) (by omega), fun fuel v d p h hb => absurd (pos d) (by omega)⟩
  | m + 1, hm => by
    obtain ⟨hW, hN⟩ := open_tree m (by omega)
    refine ⟨fun fuel v d p h hb => ?_, fun fuel v d p h hb => ?_⟩
    · obtain ⟨l, h1, h2⟩ := open_seg Tryz.underlying33 cells55 (by decide) (C := PtC (WdAt m) (NsAt m)) (wtP (wts m).1 (wts m).2) (by omega) (fun fuel cs d p h hb hl => op_part (by omega) hW hN fuel cs d p h hb hl) h hb
      refine ⟨l, h1, ?_, h2⟩
      have h3 : (l.map fun p => p.text.size).sum ≤ 1 * (l.map (wtP (wts m).1 (wts m).2)).sum := sum_mul _ _ 1 l fun p _ => by unfold wtP; omega
      rw [wordN_is]
      omega
    · exact open_seg Tryz.underlying22 cells51 (by decide) (C := NdC (WdAt m) (NsAt m)) (wtX (wts m).1 (wts m).2) (by omega) (fun fuel cs d p h hb hl => op_node (by omega) hW hN fuel cs d p h hb hl) h hb
end
end Go.Proofs.YtfaohicadahcjaaGreatDoor
