/- Contracts: lines without here-documents; simple commands as commands. Conditions: lengths below a bound. -/
import Derived.Test.YtfaohicadahcjaaGreatDoorSA
namespace Go.Proofs.YtfaohicadahcjaaGreatDoor
open Go.RowKit Go.PlainAid Go.ChangeShapes Go.WideShapes Go.ChangeAt
set_option linter.unusedSimpArgs false
set_option linter.unusedVariables false
def nilS : Value := .slice none 0 0
theorem bld_rest {p : Value} {B D : Nat} {d d' : Value} {v : Value} {l : List UInt8} {w : World} (h : Bld p B D 72 [d] v l w) : Bld p B D 72 [d'] v l (w.setCell ⟨D, 2, none⟩ d') := by
  refine ⟨h.le, .inr ⟨rfl, d', rfl⟩, ?_, h.own.1, ?_⟩
  · simp [World.setCell, Array.getElem?_modify, h.blk]
  · rcases h.own.2 with h2 | ⟨g, cap, cur, e, h3, h4, h5⟩
    · exact .inl h2
    · exact .inr ⟨g, cap, cur, e, h3, (Below.heap_setCell _ _ _ _ (fun e2 => h.ne (by rw [e, e2]; rfl))).trans h4, h5⟩
set_option maxHeartbeats 4000000 in
set_option maxRecDepth 100000 in
theorem line68_nil (B D : Nat) (v : Value) (acc : List UInt8) (s : ByteArray) (w : World) (h : IsBld B D 72 [nilS] v acc w) (hlen : acc.length + s.size ≤ 140737390000000) (hBw : B ≤ w.heap.size) :
    Calls Tryz.prog 68 #[.pointer (some ⟨D, 0, none⟩), .string s] w (Wrote B D [nilS] acc (ls s ++ [10]) w) := by
  have C := Lib.hid (text_new B D [nilS] v acc [s, ⟨#[10]⟩] w h (by simp [flatS, ls_len]; omega) (by simp) hBw)
  rw [show flatS [s, ⟨#[10]⟩] = ls s ++ [10] from by simp [flatS, ls]] at C
  have HBD := Lib.hid (h.elim (·.le) (·.le))
  clear h
  go_enter Tryz.func68, Tryz.ntmps68
  go_wp2_with fail
  refine C.out.mono ?_
  rintro e w2 ⟨rfl, v2, h2, k2, b2⟩
  obtain ⟨p, hp⟩ : ∃ p, Bld p B D 72 [nilS] v2 (acc ++ (ls s ++ [10])) w2 := h2.elim (fun h => ⟨_, h⟩) (fun h => ⟨_, h⟩)
  have z2 : w2.cell? ⟨D, 2, none⟩ = some (.slice none 0 0) := by rw [Lib.cell_of_heap hp.blk]; rfl
  have zf : w2.frozen? ⟨D, 2, none⟩ = false := Lib.frozen_of_heap hp.blk 2
  have H2 := Lib.hid h2
  have HK := Lib.hid k2
  have HB := Lib.hid b2
  clear h2 k2 b2 hp
  go_wp2
  go_loop [15] (fun i => i = .int .i64 0) (fun i => 0)
  case atStart => rfl
  case round =>
    subst hrel
    go_wp2
    go_end0
    refine ⟨rfl, v2, ?_, HK.out.trans ⟨by simp [World.setCell], fun k _ hk _ => Below.heap_setCell _ _ _ _ (fun e => hk (by simp [e]))⟩, HB.out.setCell (p := ⟨D, 2, none⟩) HBD.out _⟩
    rcases H2.out with h | h
    · exact .inl (bld_rest h)
    · exact .inr (bld_rest h)
set_option maxHeartbeats 4000000 in
set_option maxRecDepth 100000 in
/-- A simple command without assignments. -/
theorem command67_simple (n : Nat) (f : Pt → List UInt8) (W0 : World) (B D : Nat) (v : Value) (acc0 : List UInt8) (nm : ByteArray) (a1 a2 a3 a4 a5 : Option Addr) (n4 n5 c1 c2 c3 c4 c5 : Nat) (lws : List (List Pt)) (lrs : List Rd) (w : World)
    (h2 : WsAt (n + 1) W0 (.slice a2 lws.length c2) lws) (h3 : RdsAt (n + 1) W0 (.slice a3 lrs.length c3) lrs) (hf : ∀ l ∈ lws, ∀ p ∈ l, PartOk n W0 B D [nilS] p (f p)) (hr : ∀ r ∈ lrs, RedOk (n + 1) W0 B D [nilS] r (redT f r)) (hWB : W0.heap.size ≤ B) (hb : Below B W0 w) (h : IsBld B D 72 [nilS] v acc0 w) (hlen : (acc0 ++ simT f [] lws lrs).length ≤ 140737390000000) (hBw : B ≤ w.heap.size) :
    Calls Tryz.prog 67 #[.pointer (some ⟨D, 0, none⟩), .agg #[.int .i64 1, .string nm, .slice a1 0 c1, .slice a2 lws.length c2, .slice a3 lrs.length c3, .slice a4 n4 c4, .slice a5 n5 c5]] w (Wrote B D [nilS] acc0 (simT f [] lws lrs) w) := by
  have hbb := (Below.refl w.heap.size w).alloc (Nat.le_refl _) (.cells #[.int .i64 1, .string nm, .slice a1 0 c1, .slice a2 lws.length c2, .slice a3 lrs.length c3, .slice a4 n4 c4, .slice a5 n5 c5] 51)
  have HBB := Lib.hid ((Below.refl B w).alloc hBw (.cells #[.int .i64 1, .string nm, .slice a1 0 c1, .slice a2 lws.length c2, .slice a3 lrs.length c3, .slice a4 n4 c4, .slice a5 n5 c5] 51))
  have HKe : Hid (Ke D w (w.alloc (.cells #[.int .i64 1, .string nm, .slice a1 0 c1, .slice a2 lws.length c2, .slice a3 lrs.length c3, .slice a4 n4 c4, .slice a5 n5 c5] 51))) := Lib.hid (Ke.of_below hbb)
  have C := Lib.hid (simple93 n f W0 B D [nilS] v acc0 1 nm a1 a2 a3 a4 a5 n4 n5 c1 c2 c3 c4 c5 lws lrs _ h2 h3 hf hr hWB (hb.trans HBB.out) (h.below hbb) hlen (Nat.le_trans hBw HBB.out.size))
  generalize simT f [] lws lrs = st at C hlen ⊢
  generalize lws.length = m2 at *
  generalize lrs.length = m3 at *
  clear h2 h3 hf hr hb h hlen hbb
  go_enter Tryz.func67, Tryz.ntmps67
  go_wp2_with fail
  refine C.out.mono ?_
  intro e w2 hw
  have HW := Lib.hid (show Wrote B D [nilS] acc0 st w e w2 from ⟨hw.1, by
    obtain ⟨_, v', a1, a2, a3⟩ := hw
    exact ⟨v', a1, HKe.out.trans a2, HBB.out.trans a3⟩⟩)
  obtain ⟨rfl, _⟩ := hw
  go_wp2
  go_end0
  exact HW.out
end Go.Proofs.YtfaohicadahcjaaGreatDoor
