/- Conversions of a command. Conditions: lengths below a bound. -/
import Derived.Test.YtfaohicadahcjaaGreatDoorSY
import Derived.Deep.RegionHeld3
import Derived.Deep.DeepCutAuto
namespace Go.Proofs.YtfaohicadahcjaaGreatDoor
open Go.RowKit Go.PlainAid Go.ChangeShapes Go.WideShapes Go.ChangeAt
set_option linter.unusedSimpArgs false
set_option linter.unusedVariables false
abbrev box51 (x : Nd) (a1 a2 a3 a4 a5 : Option Addr) (q1 c1 q2 c2 q3 c3 q4 c4 q5 c5 : Nat) : Array Value := #[.int .i64 x.kind, .string x.name, .slice a1 q1 c1, .slice a2 q2 c2, .slice a3 q3 c3, .slice a4 q4 c4, .slice a5 q5 c5]
/-- The node made, with its words. -/
def Cut39 (w : World) (cs0 : Array Value) (x : Nd) (n q2 : Nat) (u : Value) (wx : World) : Prop :=
  ∃ X wa wc Y, u = .pointer (some ⟨X, 0, none⟩) ∧ NSt w cs0 X #[.int .i64 x.kind, .string x.name, .slice none 0 0, .slice wa q2 wc, .slice none 0 0, .slice none 0 0, .slice none 0 0] Y (fun u => WsAt n u (.slice wa q2 wc) x.words) wx
theorem set7 {w : World} {b : Nat} {z0 z1 z2 z3 z4 z5 z6 : Value} (h : w.heap[b]? = some (.cells #[z0, z1, z2, z3, z4, z5, z6] 64 (0, 0))) (u0 u1 u2 u3 u4 u5 u6 : Value) :
    (((((((w.setCell ⟨b, 0, none⟩ u0).setCell ⟨b, 1, none⟩ u1).setCell ⟨b, 2, none⟩ u2).setCell ⟨b, 3, none⟩ u3).setCell ⟨b, 4, none⟩ u4).setCell ⟨b, 5, none⟩ u5).setCell ⟨b, 6, none⟩ u6).heap[b]? = some (.cells #[u0, u1, u2, u3, u4, u5, u6] 64 (0, 0)) := by
  rw [blk_setCell (blk_setCell (blk_setCell (blk_setCell (blk_setCell (blk_setCell (blk_setCell h _) _) _) _) _) _) _]
  rfl
theorem far7 (w : World) (b k : Nat) (hk : k ≠ b) (u0 u1 u2 u3 u4 u5 u6 : Value) :
    (((((((w.setCell ⟨b, 0, none⟩ u0).setCell ⟨b, 1, none⟩ u1).setCell ⟨b, 2, none⟩ u2).setCell ⟨b, 3, none⟩ u3).setCell ⟨b, 4, none⟩ u4).setCell ⟨b, 5, none⟩ u5).setCell ⟨b, 6, none⟩ u6).heap[k]? = w.heap[k]? := by
  rw [Below.heap_setCell _ _ _ _ hk, Below.heap_setCell _ _ _ _ hk, Below.heap_setCell _ _ _ _ hk, Below.heap_setCell _ _ _ _ hk, Below.heap_setCell _ _ _ _ hk, Below.heap_setCell _ _ _ _ hk, Below.heap_setCell _ _ _ _ hk]
theorem below7 {B : Nat} {w0 w : World} {b : Nat} (h : Below B w0 w) (hb : B ≤ b) (u0 u1 u2 u3 u4 u5 u6 : Value) :
    Below B w0 (((((((w.setCell ⟨b, 0, none⟩ u0).setCell ⟨b, 1, none⟩ u1).setCell ⟨b, 2, none⟩ u2).setCell ⟨b, 3, none⟩ u3).setCell ⟨b, 4, none⟩ u4).setCell ⟨b, 5, none⟩ u5).setCell ⟨b, 6, none⟩ u6) :=
  ((((((h.setCell (p := ⟨b, 0, none⟩) hb _).setCell (p := ⟨b, 1, none⟩) hb _).setCell (p := ⟨b, 2, none⟩) hb _).setCell (p := ⟨b, 3, none⟩) hb _).setCell (p := ⟨b, 4, none⟩) hb _).setCell (p := ⟨b, 5, none⟩) hb _).setCell (p := ⟨b, 6, none⟩) hb _
theorem size7 (w : World) (b : Nat) (u0 u1 u2 u3 u4 u5 u6 : Value) :
    (((((((w.setCell ⟨b, 0, none⟩ u0).setCell ⟨b, 1, none⟩ u1).setCell ⟨b, 2, none⟩ u2).setCell ⟨b, 3, none⟩ u3).setCell ⟨b, 4, none⟩ u4).setCell ⟨b, 5, none⟩ u5).setCell ⟨b, 6, none⟩ u6).heap.size = w.heap.size := by simp only [size_setCell]
theorem NSt.c0 {w wx : World} {cs0 cx : Array Value} {X : Nat} {Y : Nat → Prop} {D : World → Prop} (h : NSt w cs0 X cx Y D wx) {i : Nat} {u : Value} (hc : cs0[i]? = some u) : wx.cell? ⟨w.heap.size, i, none⟩ = some u := cells_at h.k0 hc
theorem rdv_c {n : Nat} {u : World} {fd : Int} {op tag : ByteArray} {wv : Value} {y : Rd} (h : RdV n u (.agg #[.int .i64 fd, .string op, .string tag, wv]) y) : RdC (WdAt n) u [.int .i64 fd, .string op, .string tag, wv] y := by
  obtain ⟨wv', e, h1, h2⟩ := h
  simp only [Value.agg.injEq, Array.mk.injEq, List.cons.injEq, Value.int.injEq, Value.string.injEq, and_true, true_and] at e
  obtain ⟨e1, e2, e3, e4⟩ := e
  subst e4
  exact ⟨_, by rw [e1, e2, e3], h1, h2⟩
/-- A loop of the node's. -/
def RelN {α : Type} (w : World) (cs0 : Array Value) (X : Nat) (cx : Value → Array Value) (D : World → Prop) (e : TypeId) (k : Nat) (C : World → List Value → α → Prop) (l : List α) (i : Value) (wx : World) : Prop :=
  ∃ (m : Nat) (v : Value) (Y : Nat → Prop), m ≤ l.length ∧ i = .int .i64 m ∧ RowX w X Y e k C wx v (l.take m) ∧ NSt w cs0 X (cx v) Y D wx
theorem info100' : (Tryz.prog.info? 100).map (fun i => (i.zero, i.size, i.bytes)) = some (some (.agg #[.string ⟨#[]⟩, .slice none 0 0]), 2, 40) := by kernel_rfl
theorem info25' : (Tryz.prog.info? 25).map (fun i => (i.zero, i.size, i.bytes)) = some (some (.slice none 0 0), 1, 24) := by kernel_rfl
theorem info80' : (Tryz.prog.info? 80).map (fun i => (i.zero, i.size, i.bytes)) = some (some (.agg #[.slice none 0 0, .slice none 0 0]), 2, 48) := by kernel_rfl
set_option maxHeartbeats 16000000 in
set_option maxRecDepth 100000 in
theorem node39 (n : Nat) (G : Conv n) (x : Nd) (a1 a2 a3 a4 a5 : Option Addr) (c1 c2 c3 c4 c5 : Nat) (w : World) (hf : NdFits x) (h1 : AssAt n w (.slice a1 x.assigns.length c1) x.assigns) (h2 : WsAt n w (.slice a2 x.words.length c2) x.words) (h3 : RdsAt n w (.slice a3 x.redirs.length c3) x.redirs) (h4 : LsAt n w (.slice a4 x.lists.length c4) x.lists) (h5 : ArsAt n w (.slice a5 x.arms.length c5) x.arms) :
    Calls Tryz.prog 39 #[.agg #[.int .i64 x.kind, .string x.name, .slice a1 x.assigns.length c1, .slice a2 x.words.length c2, .slice a3 x.redirs.length c3, .slice a4 x.lists.length c4, .slice a5 x.arms.length c5]] w (Out (fun u v' => NdV n u v' x) w) := by
  have HF := Lib.hid hf
  have HG := Lib.hid G
  have K1 := Lib.hid h1
  have K2 := Lib.hid h2
  have K3 := Lib.hid h3
  have K4 := Lib.hid h4
  have K5 := Lib.hid h5
  have l1 := h1.len
  have l2 := h2.len
  have l3 := h3.len
  have l4 := h4.len
  have l5 := h5.len
  have C58 := Lib.hid fun (W : World) (hW : Below w.heap.size w W) => words58 n G _ x.words W (kept_ws n _ _ _ _ h2 hW)
  obtain ⟨q1, Hq1⟩ : ∃ q, Hid (x.assigns.length = q) := ⟨_, Lib.hid rfl⟩
  obtain ⟨q2, Hq2⟩ : ∃ q, Hid (x.words.length = q) := ⟨_, Lib.hid rfl⟩
  obtain ⟨q3, Hq3⟩ : ∃ q, Hid (x.redirs.length = q) := ⟨_, Lib.hid rfl⟩
  obtain ⟨q4, Hq4⟩ : ∃ q, Hid (x.lists.length = q) := ⟨_, Lib.hid rfl⟩
  obtain ⟨q5, Hq5⟩ : ∃ q, Hid (x.arms.length = q) := ⟨_, Lib.hid rfl⟩
  rw [Hq1.out] at K1 l1
  rw [Hq2.out] at K2 l2 C58
  rw [Hq3.out] at K3 l3
  rw [Hq4.out] at K4 l4
  rw [Hq5.out] at K5 l5
  rw [Hq1.out, Hq2.out, Hq3.out, Hq4.out, Hq5.out]
  clear h1 h2 h3 h4 h5 hf G
  obtain ⟨cs0, Hcs0⟩ : ∃ c, Hid (box51 x a1 a2 a3 a4 a5 q1 c1 q2 c2 q3 c3 q4 c4 q5 c5 = c) := ⟨_, Lib.hid rfl⟩
  have ha1 := push_new w (.cells (box51 x a1 a2 a3 a4 a5 q1 c1 q2 c2 q3 c3 q4 c4 q5 c5) 51) w.heap.size rfl
  have hs1 := push_size w (.cells (box51 x a1 a2 a3 a4 a5 q1 c1 q2 c2 q3 c3 q4 c4 q5 c5) 51) w.heap.size rfl
  have B0 := Lib.hid (push_old (w.alloc (.cells (box51 x a1 a2 a3 a4 a5 q1 c1 q2 c2 q3 c3 q4 c4 q5 c5) 51)) (.cells zero64 64) _ _ _ hs1 (Nat.lt_succ_self _) ha1)
  have B1 := Lib.hid (push_new (w.alloc (.cells (box51 x a1 a2 a3 a4 a5 q1 c1 q2 c2 q3 c3 q4 c4 q5 c5) 51)) (.cells zero64 64) _ hs1)
  have HSz := Lib.hid (push_size (w.alloc (.cells (box51 x a1 a2 a3 a4 a5 q1 c1 q2 c2 q3 c3 q4 c4 q5 c5) 51)) (.cells zero64 64) _ hs1)
  have HBy := Lib.hid (((Below.refl w.heap.size w).alloc (Nat.le_refl _) (.cells (box51 x a1 a2 a3 a4 a5 q1 c1 q2 c2 q3 c3 q4 c4 q5 c5) 51)).alloc (by rw [hs1]; omega) (.cells zero64 64))
  clear ha1 hs1
  go_enter Tryz.func39, Tryz.ntmps39
  go_upto_region 1 with fail
  generalize ((w.alloc (.cells (box51 x a1 a2 a3 a4 a5 q1 c1 q2 c2 q3 c3 q4 c4 q5 c5) 51)).alloc (.cells zero64 64)) = wy at B0 B1 HSz HBy ⊢
  have HB0 := Lib.hid HBy.out.drew
  have HA := Lib.hid ((Below.refl wy.heap.size wy).alloc (Nat.le_refl _) (.cells zero64 64)).drew
  have HA0 := Lib.hid (HBy.out.trans (HA.out.mono HBy.out.size))
  have HAX := Lib.hid (heap_alloc_new wy (.cells zero64 64))
  have hh0 : wy.drew.cell? ⟨w.heap.size, 0, none⟩ = some (.int .i64 x.kind) ∧ wy.drew.cell? ⟨w.heap.size, 1, none⟩ = some (.string x.name) ∧ wy.drew.cell? ⟨w.heap.size, 3, none⟩ = some (.slice a2 q2 c2) := ⟨cells_at B0.out (i := 0) rfl, cells_at B0.out (i := 1) rfl, cells_at B0.out (i := 3) rfl⟩
  have hhA : (wy.alloc (.cells zero64 64)).drew.cell? ⟨w.heap.size, 0, none⟩ = some (.int .i64 x.kind) ∧ (wy.alloc (.cells zero64 64)).drew.cell? ⟨w.heap.size, 1, none⟩ = some (.string x.name) ∧ (wy.alloc (.cells zero64 64)).drew.cell? ⟨w.heap.size, 3, none⟩ = some (.slice a2 q2 c2) := ⟨cell_low (cells_at B0.out (i := 0) rfl) HA.out, cell_low (cells_at B0.out (i := 1) rfl) HA.out, cell_low (cells_at B0.out (i := 3) rfl) HA.out⟩
  go_cut [3] (fun u3 wx => Cut39 w cs0 x n q2 u3 wx)
  case first =>
    go_region_held3 (fun W => W.cell? ⟨w.heap.size, 0, none⟩ = some (.int .i64 x.kind) ∧ W.cell? ⟨w.heap.size, 1, none⟩ = some (.string x.name) ∧ W.cell? ⟨w.heap.size, 3, none⟩ = some (.slice a2 q2 c2))
      (first | with_reducible exact hh3 | with_reducible exact hh1 | with_reducible exact hh2 _ | with_reducible exact hh0 | with_reducible exact hhA)
      (first
        | (go_at_call 58; with_reducible refine (C58.out _ HB0.out).mono ?_
           rintro e w2 ⟨v2, rfl, hf2, hb2⟩
           have hz := (hb2.block _ (lt_of_block B0.out)).trans B0.out
           have hz1 := (hb2.block _ (lt_of_block B1.out)).trans B1.out
           have hh1 : w2.cell? ⟨w.heap.size, 0, none⟩ = some (.int .i64 x.kind) ∧ w2.cell? ⟨w.heap.size, 1, none⟩ = some (.string x.name) ∧ w2.cell? ⟨w.heap.size, 3, none⟩ = some (.slice a2 q2 c2) := ⟨cells_at hz (i := 0) rfl, cells_at hz (i := 1) rfl, cells_at hz (i := 3) rfl⟩
           have hh2 : ∀ o : Obj, (w2.alloc o).cell? ⟨w.heap.size, 0, none⟩ = some (.int .i64 x.kind) ∧ (w2.alloc o).cell? ⟨w.heap.size, 1, none⟩ = some (.string x.name) ∧ (w2.alloc o).cell? ⟨w.heap.size, 3, none⟩ = some (.slice a2 q2 c2) := fun o =>
             have hb := (Below.refl w2.heap.size w2).alloc (Nat.le_refl _) o
             ⟨cell_low hh1.1 hb, cell_low hh1.2.1 hb, cell_low hh1.2.2 hb⟩
           obtain ⟨w2a, w2c, e2⟩ := Seg.shape hf2.here
           rw [Hq2.out] at e2
           subst e2
           have HS : Hid (Cut39 w cs0 x n q2 (.pointer (some ⟨w2.heap.size, 0, none⟩)) (w2.alloc (.cells #[.int .i64 x.kind, .string x.name, .slice none 0 0, .slice w2a q2 w2c, .slice none 0 0, .slice none 0 0, .slice none 0 0] 64))) := Lib.hid (by
             have hbw := HB0.out.trans (hb2.mono HB0.out.size)
             have hba := (Below.refl w2.heap.size w2).alloc (Nat.le_refl _) (.cells #[.int .i64 x.kind, .string x.name, .slice none 0 0, .slice w2a q2 w2c, .slice none 0 0, .slice none 0 0, .slice none 0 0] 64)
             have hsy : wy.drew.heap.size = w.heap.size + 1 + 1 := HSz.out
             have hs2 : w.heap.size + 1 + 1 ≤ w2.heap.size := by rw [← hsy]; exact hb2.size
             refine ⟨_, w2a, w2c, Btw (w.heap.size + 2) w2.heap.size, rfl, hbw.trans (hba.mono hbw.size), by rw [← Hcs0.out]; exact (hba.block _ (lt_of_block hz)).trans hz, (hba.block _ (lt_of_block hz1)).trans hz1, heap_alloc_new w2 _, hs2, fun b hb => ⟨hb.1, Nat.lt_of_lt_of_le hb.2 hba.size, Nat.ne_of_lt hb.2⟩, ?_⟩
             rw [hsy] at hf2
             exact hf2.on (On.below hba fun b hb => hb.2))
           clear hz hz1 hf2 hb2)
        | (go_at_call 58; refine (C58.out _ HA0.out).mono ?_
           rintro e w2 ⟨v2, rfl, hf2, hb2⟩
           have hbo := HA.out.trans (hb2.mono HA.out.size)
           have hz := (hbo.block _ (lt_of_block B0.out)).trans B0.out
           have hz1 := (hbo.block _ (lt_of_block B1.out)).trans B1.out
           have hzx : w2.heap[wy.heap.size]? = some (.cells zero64 64 (0, 0)) := (hb2.block _ (lt_of_block HAX.out)).trans HAX.out
           have hh1 : w2.cell? ⟨w.heap.size, 0, none⟩ = some (.int .i64 x.kind) ∧ w2.cell? ⟨w.heap.size, 1, none⟩ = some (.string x.name) ∧ w2.cell? ⟨w.heap.size, 3, none⟩ = some (.slice a2 q2 c2) := ⟨cells_at hz (i := 0) rfl, cells_at hz (i := 1) rfl, cells_at hz (i := 3) rfl⟩
           have e0 := cells_at hzx (i := 0) rfl
           have e1 := cells_at hzx (i := 1) rfl
           have e2 := cells_at hzx (i := 2) rfl
           have e3 := cells_at hzx (i := 3) rfl
           have e4 := cells_at hzx (i := 4) rfl
           have e5 := cells_at hzx (i := 5) rfl
           have e6 := cells_at hzx (i := 6) rfl
           have f0 := free_at hzx (i := 0)
           have f1 := free_at hzx (i := 1)
           have f2 := free_at hzx (i := 2)
           have f3 := free_at hzx (i := 3)
           have f4 := free_at hzx (i := 4)
           have f5 := free_at hzx (i := 5)
           have f6 := free_at hzx (i := 6)
           obtain ⟨w2a, w2c, e2'⟩ := Seg.shape hf2.here
           rw [Hq2.out] at e2'
           subst e2'
           have hsy : wy.heap.size = w.heap.size + 1 + 1 := HSz.out
           have HS : Hid (Cut39 w cs0 x n q2 (.pointer (some ⟨wy.heap.size, 0, none⟩)) (((((((w2.setCell ⟨wy.heap.size, 0, none⟩ (.int .i64 x.kind)).setCell ⟨wy.heap.size, 1, none⟩ (.string x.name)).setCell ⟨wy.heap.size, 2, none⟩ (.slice none 0 0)).setCell ⟨wy.heap.size, 3, none⟩ (.slice w2a q2 w2c)).setCell ⟨wy.heap.size, 4, none⟩ (.slice none 0 0)).setCell ⟨wy.heap.size, 5, none⟩ (.slice none 0 0)).setCell ⟨wy.heap.size, 6, none⟩ (.slice none 0 0))) := Lib.hid (by
             have hbw := HBy.out.trans (hbo.mono HBy.out.size)
             refine ⟨_, w2a, w2c, Btw (wy.alloc (.cells zero64 64)).drew.heap.size w2.heap.size, rfl, below7 hbw HBy.out.size _ _ _ _ _ _ _, by rw [← Hcs0.out]; exact (far7 w2 _ _ (by omega) _ _ _ _ _ _ _).trans hz, (far7 w2 _ _ (by omega) _ _ _ _ _ _ _).trans hz1, set7 hzx _ _ _ _ _ _ _, by omega, fun b hb => ⟨?_, by rw [size7]; exact hb.2, ?_⟩, ?_⟩
             · have := hb.1; have := HA.out.size; omega
             · have := hb.1; have h9 : wy.heap.size + 1 = (wy.alloc (.cells zero64 64)).drew.heap.size := (push_size wy (.cells zero64 64) _ rfl).symm; omega
             · refine hf2.on fun b hb => far7 w2 _ _ ?_ _ _ _ _ _ _ _
               have := hb.1; have h9 : wy.heap.size + 1 = (wy.alloc (.cells zero64 64)).drew.heap.size := (push_size wy (.cells zero64 64) _ rfl).symm; omega)
           have hh3 : _ ∧ _ ∧ _ := ⟨(cell_of_block (far7 w2 wy.heap.size w.heap.size (by omega) (.int .i64 x.kind) (.string x.name) (.slice none 0 0) (.slice w2a q2 w2c) (.slice none 0 0) (.slice none 0 0) (.slice none 0 0))).trans hh1.1, (cell_of_block (far7 w2 wy.heap.size w.heap.size (by omega) (.int .i64 x.kind) (.string x.name) (.slice none 0 0) (.slice w2a q2 w2c) (.slice none 0 0) (.slice none 0 0) (.slice none 0 0))).trans hh1.2.1, (cell_of_block (far7 w2 wy.heap.size w.heap.size (by omega) (.int .i64 x.kind) (.string x.name) (.slice none 0 0) (.slice w2a q2 w2c) (.slice none 0 0) (.slice none 0 0) (.slice none 0 0))).trans hh1.2.2⟩
           clear hz hz1 hzx hf2 hb2 hbo hsy))
    all_goals (
      go_wp2_with fail
      go_meet
      exact HS.out)
  case rest =>
    obtain ⟨X, va, vc, Y, rfl, HS⟩ := hcut
    have HS := Lib.hid HS
    have p2 := HS.out.c0 (i := 2) (u := .slice a1 q1 c1) (by rw [← Hcs0.out]; rfl)
    go_wp2
    go_loopw [23] (RelN w cs0 X (fun v => #[.int .i64 x.kind, .string x.name, v, .slice va q2 vc, .slice none 0 0, .slice none 0 0, .slice none 0 0]) (fun u => WsAt n u (.slice va q2 vc) x.words) 100 2 (AsC (WdAt n)) x.assigns) (fun i _ => q1 - (intOf i).toNat)
    case atStart => exact ⟨0, .slice none 0 0, Y, Nat.zero_le _, rfl, RowX.nil (Nat.le_trans HS.out.x2 (Nat.le_of_lt (lt_of_block HS.out.kx))), HS.out⟩
    case round =>
      clear HS
      obtain ⟨k, v, Y, hk, rfl, HR, HS⟩ := hrel
      rename World => wx
      have HR := Lib.hid HR
      have HS := Lib.hid HS
      obtain ⟨o1a, o1c, e0⟩ := HR.out.shape
      rw [take_len hk] at e0
      subst e0
      rw [Hq1.out] at hk
      by_cases hlt : k < q1
      · have hlt' : k < x.assigns.length := by rw [Hq1.out]; exact hlt
        obtain ⟨b, off, c', wa, wc, e, hns, hwd, z0, z1⟩ := as_at K1.out k hlt'
        obtain ⟨y, Hy⟩ : ∃ y, Hid (x.assigns[k] = y) := ⟨_, Lib.hid rfl⟩
        rw [Hy.out] at hns hwd z0 z1
        rw [Hq1.out] at e
        cases e
        replace z0 := cell_low z0 HS.out.below
        replace z1 := cell_low z1 HS.out.below
        have HNs := Lib.hid hns
        have C1 := Lib.hid fun (W : World) (hW : Below w.heap.size w W) => HG.out.w _ y.word W (kept_wd n _ _ _ _ hwd hW)
        generalize y.word.length = nw at z1 C1
        clear hns hwd
        have hml := mlen hlt l1
        have hmb := mul_le (c := 0) (b := 40) (Nat.lt_of_lt_of_le hlt l1) (by decide)
        have HXl := Lib.hid (lt_of_block HS.out.kx)
        have Hol : Hid (∀ b, (Value.slice o1a k o1c).ownBlock = some b → b < wx.heap.size) := Lib.hid fun b e => by obtain ⟨xs, h⟩ := HR.out.own; exact (World.ownsRow.lt h b e).2
        have HBX := Lib.hid ((Below.refl wx.heap.size wx).alloc (Nat.le_refl _) (.cells #[.string y.name, .slice wa nw wc] 96))
        have hbox := heap_alloc_new wx (.cells #[.string y.name, .slice wa nw wc] 96)
        go_upto_region 5 with fail
        generalize wx.alloc (.cells #[.string y.name, .slice wa nw wc] 96) = wy at HBX hbox ⊢
        have HBox := Lib.hid hbox
        have HX0 := Lib.hid HBX.out.drew
        have HS0 := Lib.hid (HS.out.low HX0.out)
        have hh0 : wy.drew.cell? ⟨X, 2, none⟩ = some (.slice o1a k o1c) ∧ wy.drew.cell? ⟨wx.heap.size, 0, none⟩ = some (.string y.name) ∧ wy.drew.cell? ⟨wx.heap.size, 1, none⟩ = some (.slice wa nw wc) := ⟨cells_at HS0.out.kx (i := 2) rfl, cells_at hbox (i := 0) rfl, cells_at hbox (i := 1) rfl⟩
        refine region_any (z := 11) (S := fun W => W.cell? ⟨X, 2, none⟩ = some (.slice o1a k o1c) ∧ W.cell? ⟨wx.heap.size, 0, none⟩ = some (.string y.name) ∧ W.cell? ⟨wx.heap.size, 1, none⟩ = some (.slice wa nw wc)) (by kernel_rfl) ?_
        refine any_take (i := 0) (v := .pointer (some ⟨X, 2, none⟩)) rfl (by kernel_rfl) (by kernel_rfl) (by kernel_rfl) (by kernel_rfl) (fun _ _ _ h => h) (Or.inl ⟨by rfl, fun W hW => by go_simp⟩) hh0 ?_
        try simp only [Act.put, List.getElem_toArray, List.getElem_cons_zero, List.getElem_cons_succ, List.setIfInBounds_toArray, List.set_cons_zero, List.set_cons_succ]
        refine any_take (i := 1) (v := .slice o1a k o1c) rfl (by kernel_rfl) (by kernel_rfl) (by kernel_rfl) (by kernel_rfl) (fun _ _ _ h => h) (Or.inl ⟨by rfl, fun W hW => by obtain ⟨h0, h1, h2⟩ := hW; go_simp⟩) hh0 ?_
        try simp only [Act.put, List.getElem_toArray, List.getElem_cons_zero, List.getElem_cons_succ, List.setIfInBounds_toArray, List.set_cons_zero, List.set_cons_succ]
        refine any_take (i := 2) (v := .pointer (some ⟨wx.heap.size, 0, none⟩)) rfl (by kernel_rfl) (by kernel_rfl) (by kernel_rfl) (by kernel_rfl) (fun _ _ _ h => h) (Or.inl ⟨by rfl, fun W hW => by go_simp⟩) hh0 ?_
        try simp only [Act.put, List.getElem_toArray, List.getElem_cons_zero, List.getElem_cons_succ, List.setIfInBounds_toArray, List.set_cons_zero, List.set_cons_succ]
        refine any_take (i := 3) (v := .string y.name) rfl (by kernel_rfl) (by kernel_rfl) (by kernel_rfl) (by kernel_rfl) (fun _ _ _ h => h) (Or.inl ⟨by rfl, fun W hW => by obtain ⟨h0, h1, h2⟩ := hW; go_simp⟩) hh0 ?_
        try simp only [Act.put, List.getElem_toArray, List.getElem_cons_zero, List.getElem_cons_succ, List.setIfInBounds_toArray, List.set_cons_zero, List.set_cons_succ]
        refine any_take (i := 4) (v := .pointer (some ⟨wx.heap.size, 1, none⟩)) rfl (by kernel_rfl) (by kernel_rfl) (by kernel_rfl) (by kernel_rfl) (fun _ _ _ h => h) (Or.inl ⟨by rfl, fun W hW => by go_simp⟩) hh0 ?_
        try simp only [Act.put, List.getElem_toArray, List.getElem_cons_zero, List.getElem_cons_succ, List.setIfInBounds_toArray, List.set_cons_zero, List.set_cons_succ]
        refine any_take (i := 5) (v := .slice wa nw wc) rfl (by kernel_rfl) (by kernel_rfl) (by kernel_rfl) (by kernel_rfl) (fun _ _ _ h => h) (Or.inl ⟨by rfl, fun W hW => by obtain ⟨h0, h1, h2⟩ := hW; go_simp⟩) hh0 ?_
        try simp only [Act.put, List.getElem_toArray, List.getElem_cons_zero, List.getElem_cons_succ, List.setIfInBounds_toArray, List.set_cons_zero, List.set_cons_succ]
        refine any_one (i := 6) (by kernel_rfl) rfl (fun K hK => ?_)
        try go_simp
        go_at_call 19
        refine (C1.out _ HS0.out.below).mono ?_
        rintro e w2 ⟨v2, rfl, hf2, hb2⟩
        obtain ⟨g2a, g2c, e2⟩ := wd_shape _ _ _ _ hf2.here
        generalize y.word.length = g2n at e2
        subst e2
        have HX2 := Lib.hid (HX0.out.trans (hb2.mono HX0.out.size))
        have HS2 := Lib.hid (HS0.out.low hb2)
        have HF2 := Lib.hid (hf2.mono (T := Btw wx.heap.size w2.heap.size) fun b hb => ⟨Nat.le_trans HX0.out.size hb.1, hb.2⟩)
        have hbox2 := (hb2.block _ (lt_of_block HBox.out)).trans HBox.out
        have HBox2 := Lib.hid hbox2
        have hh1 : w2.cell? ⟨X, 2, none⟩ = some (.slice o1a k o1c) ∧ w2.cell? ⟨wx.heap.size, 0, none⟩ = some (.string y.name) ∧ w2.cell? ⟨wx.heap.size, 1, none⟩ = some (.slice wa nw wc) := ⟨cells_at HS2.out.kx (i := 2) rfl, cells_at hbox2 (i := 0) rfl, cells_at hbox2 (i := 1) rfl⟩
        clear hf2 hb2
        go_wp2_with fail
        refine hK.out _ _ (Or.inr hh1) (fun hHeld => ?_)
        clear hK K hHeld
        try simp only [Act.put, List.getElem_toArray, List.getElem_cons_zero, List.getElem_cons_succ, List.setIfInBounds_toArray, List.set_cons_zero, List.set_cons_succ]
        refine any_take (i := 7) (v := .agg #[.string y.name, .slice g2a g2n g2c]) rfl (by kernel_rfl) (by kernel_rfl) (by kernel_rfl) (by kernel_rfl) (fun _ _ _ h => h) (Or.inl ⟨by rfl, fun W hW => by go_simp⟩) hh1 ?_
        try simp only [Act.put, List.getElem_toArray, List.getElem_cons_zero, List.getElem_cons_succ, List.setIfInBounds_toArray, List.set_cons_zero, List.set_cons_succ]
        refine any_one (i := 8) (by kernel_rfl) rfl (fun K hK => ?_)
        go_simp
        have hb4 := (Below.refl w2.heap.size w2).alloc (Nat.le_refl _) (.cells #[.string y.name, .slice g2a g2n g2c] 100)
        have HS4 := Lib.hid (HS2.out.low hb4)
        have HX4 := Lib.hid (HX2.out.trans (hb4.mono HX2.out.size))
        have HE4 := Lib.hid hb4.size
        have HF4 := Lib.hid ((HF2.out.on (On.below hb4 fun b hb => hb.2)).imp (R := fun u => AsC (WdAt n) u [.string y.name, .slice g2a g2n g2c] y) fun u hu => ⟨_, rfl, HNs.out, hu⟩)
        have hbox4 := (hb4.block _ (lt_of_block HBox2.out)).trans HBox2.out
        have HBox4 := Lib.hid hbox4
        have hh2 : (w2.alloc (.cells #[.string y.name, .slice g2a g2n g2c] 100)).cell? ⟨X, 2, none⟩ = some (.slice o1a k o1c) ∧ (w2.alloc (.cells #[.string y.name, .slice g2a g2n g2c] 100)).cell? ⟨wx.heap.size, 0, none⟩ = some (.string y.name) ∧ (w2.alloc (.cells #[.string y.name, .slice g2a g2n g2c] 100)).cell? ⟨wx.heap.size, 1, none⟩ = some (.slice wa nw wc) := ⟨cells_at HS4.out.kx (i := 2) rfl, cells_at hbox4 (i := 0) rfl, cells_at hbox4 (i := 1) rfl⟩
        have hnew := heap_alloc_new w2 (.cells #[.string y.name, .slice g2a g2n g2c] 100)
        refine hK.out _ _ (Or.inr hh2) (fun hHeld => ?_)
        clear hK K hHeld hb4
        try simp only [Act.put, List.getElem_toArray, List.getElem_cons_zero, List.getElem_cons_succ, List.setIfInBounds_toArray, List.set_cons_zero, List.set_cons_succ]
        obtain ⟨css, Z, hM0, hz5, hz6⟩ := HR.out
        have hM4 := hM0.low HX4.out
        have hown := hM4.own
        rw [take_len (Nat.le_of_lt hlt')] at hown
        obtain ⟨i0, hi, hz0, hz1, hz2⟩ := info_of info100'
        refine any_one (i := 9) (by kernel_rfl) rfl (fun K hK => ?_)
        refine step_append_lies _ rfl _ _ 58 rfl (w.heap.size + 2) 100 i0 _ 2 40 Tryz.underlying58 hi hz0 hz1 hz2 rfl (by decide) _ _ _ rfl hown ⟨w2.heap.size, 0, none⟩ 1 1 [.string y.name, .slice g2a g2n g2c] rfl rfl ?_ ?_ Nat.zero_lt_one hml hmb (Nat.le_trans (Nat.le_trans HS.out.x2 (Nat.le_of_lt HXl.out)) HX4.out.size) _ rfl ?_
        · intro j u hj
          rw [add_at, Nat.zero_add]
          exact cells_at hnew (by simpa using hj)
        · intro u hu
          simp only [List.mem_cons, List.not_mem_nil, or_false] at hu
          rcases hu with rfl | rfl <;> rfl
        intro g cap w7 hown7 hgrow hat hlt7
        have hp := RowX.push (S := HS4.out) hlt' hM4 hz5 hz6 Hy.out hown7 hgrow rfl hat rfl HX4.out HXl.out (Nat.le_trans HS.out.x2 (Nat.le_of_lt HXl.out)) Hol.out HE4.out HF4.out
        have HP := Lib.hid hp
        have hbox7 := (hgrow.block _ (lt_of_block HBox4.out) (fun e => absurd (Hol.out _ e.symm) (Nat.lt_irrefl _))).trans HBox4.out
        have hh3 : w7.cell? ⟨X, 2, none⟩ = some (.slice o1a k o1c) ∧ w7.cell? ⟨wx.heap.size, 0, none⟩ = some (.string y.name) ∧ w7.cell? ⟨wx.heap.size, 1, none⟩ = some (.slice wa nw wc) := ⟨cells_at HP.out.2.kx (i := 2) rfl, cells_at hbox7 (i := 0) rfl, cells_at hbox7 (i := 1) rfl⟩
        have hfr : w7.frozen? ⟨X, 2, none⟩ = false := free_at HP.out.2.kx
        have hh30 := hh3.1
        clear hp hown7 hgrow hat hlt7 hown hM0 hM4 hz5 hz6 hnew
        refine hK.out _ _ (Or.inr hh3) (fun hHeld => ?_)
        clear hK K hHeld
        try simp only [Act.put, List.getElem_toArray, List.getElem_cons_zero, List.getElem_cons_succ, List.setIfInBounds_toArray, List.set_cons_zero, List.set_cons_succ]
        refine any_take (i := 10) (v := .pointer (some ⟨X, 2, none⟩)) rfl (by kernel_rfl) (by kernel_rfl) (by kernel_rfl) (by kernel_rfl) (fun _ _ _ h => h) (Or.inl ⟨by rfl, fun W hW => by go_simp⟩) hh3 ?_
        try simp only [Act.put, List.getElem_toArray, List.getElem_cons_zero, List.getElem_cons_succ, List.setIfInBounds_toArray, List.set_cons_zero, List.set_cons_succ]
        refine any_one (i := 11) (by kernel_rfl) rfl (fun K hK => ?_)
        go_simp
        refine hK.out _ _ (Or.inl rfl) (fun hHeld => ?_)
        clear hK K hHeld
        try simp only [Act.put, List.getElem_toArray, List.getElem_cons_zero, List.getElem_cons_succ, List.setIfInBounds_toArray, List.set_cons_zero, List.set_cons_succ]
        refine any_done (by kernel_rfl) ?_ _
        clear hh0 hh1 hh2 hh3 hh30 hfr
        go_wp2
        go_round
        case rel => exact ⟨k + 1, _, _, hlt', vi (Int.natCast_succ k).symm, HP.out.1.set 2 _, HP.out.2.set 2 _⟩
        case measure => exact sz_meas hlt
      · have hkq : q1 = k := sz_eq hlt hk
        subst hkq
        have hr := HR.out
        rw [List.take_of_length_le (by rw [Hq1.out]; exact Nat.le_refl _)] at hr
        obtain ⟨Y', hs⟩ := hr.done HS.out (by rw [Hq1.out]; exact l1)
        clear HS HR hr
        have HS := Lib.hid hs
        clear hs
        obtain ⟨Y, hY⟩ : ∃ Y, Y = Y' := ⟨_, rfl⟩
        subst hY
        have p4 := HS.out.c0 (i := 4) (u := .slice a3 q3 c3) (by rw [← Hcs0.out]; rfl)
        go_wp2
        go_loopw [42] (RelN w cs0 X (fun v => #[.int .i64 x.kind, .string x.name, .slice o1a q1 o1c, .slice va q2 vc, v, .slice none 0 0, .slice none 0 0]) (fun u => (WsAt n u (.slice va q2 vc) x.words) ∧ Seg 2 (AsC (WdAt n)) u (.slice o1a q1 o1c) x.assigns) 102 4 (RdC (WdAt n)) x.redirs) (fun i _ => q3 - (intOf i).toNat)
        case atStart => exact ⟨0, .slice none 0 0, Y, Nat.zero_le _, rfl, RowX.nil (Nat.le_trans HS.out.x2 (Nat.le_of_lt (lt_of_block HS.out.kx))), HS.out⟩
        case round =>
          clear HS
          obtain ⟨k, v, Y, hk, rfl, HR, HS⟩ := hrel
          rename World => wx
          have HR := Lib.hid HR
          have HS := Lib.hid HS
          obtain ⟨o2a, o2c, e0⟩ := HR.out.shape
          rw [take_len hk] at e0
          subst e0
          rw [Hq3.out] at hk
          by_cases hlt : k < q3
          · have hlt' : k < x.redirs.length := by rw [Hq3.out]; exact hlt
            obtain ⟨b, off, c', wa, wc, e, hfit, hwd, z0, z1, z2, z3⟩ := rd_at K3.out k hlt'
            obtain ⟨y, Hy⟩ : ∃ y, Hid (x.redirs[k] = y) := ⟨_, Lib.hid rfl⟩
            rw [Hy.out] at hfit hwd z0 z1 z2 z3
            rw [Hq3.out] at e
            cases e
            replace z0 := cell_low z0 HS.out.below
            replace z1 := cell_low z1 HS.out.below
            replace z2 := cell_low z2 HS.out.below
            replace z3 := cell_low z3 HS.out.below
            have hye : Rd.mk y.fd y.op y.tag y.word = y := by cases y; rfl
            have C1 := Lib.hid fun (W : World) (hW : Below w.heap.size w W) => redir59 n HG.out y.fd y.op y.tag wa wc y.word W (by rw [hye]; exact hfit) (kept_wd n _ _ _ _ hwd hW)
            rw [hye] at C1
            generalize y.word.length = nw at z3 C1
            clear hfit hwd hye
            have hml := mlen hlt l3
            have hmb := mul_le (c := 0) (b := 64) (Nat.lt_of_lt_of_le hlt l3) (by decide)
            have HXl := Lib.hid (lt_of_block HS.out.kx)
            have Hol : Hid (∀ b, (Value.slice o2a k o2c).ownBlock = some b → b < wx.heap.size) := Lib.hid fun b e => by obtain ⟨xs, h⟩ := HR.out.own; exact (World.ownsRow.lt h b e).2
            have HBX := Lib.hid ((Below.refl wx.heap.size wx).alloc (Nat.le_refl _) (.cells #[.int .i64 y.fd, .string y.op, .string y.tag, .slice wa nw wc] 44))
            have hbox := heap_alloc_new wx (.cells #[.int .i64 y.fd, .string y.op, .string y.tag, .slice wa nw wc] 44)
            go_upto_region 10 with fail
            generalize wx.alloc (.cells #[.int .i64 y.fd, .string y.op, .string y.tag, .slice wa nw wc] 44) = wy at HBX hbox ⊢
            have HBox := Lib.hid hbox
            have HX0 := Lib.hid HBX.out.drew
            have HS0 := Lib.hid (HS.out.low HX0.out)
            have hh0 : wy.drew.cell? ⟨X, 4, none⟩ = some (.slice o2a k o2c) ∧ wy.drew.cell? ⟨wx.heap.size, 0, none⟩ = some (.int .i64 y.fd) ∧ wy.drew.cell? ⟨wx.heap.size, 1, none⟩ = some (.string y.op) ∧ wy.drew.cell? ⟨wx.heap.size, 2, none⟩ = some (.string y.tag) ∧ wy.drew.cell? ⟨wx.heap.size, 3, none⟩ = some (.slice wa nw wc) := ⟨cells_at HS0.out.kx (i := 4) rfl, cells_at hbox (i := 0) rfl, cells_at hbox (i := 1) rfl, cells_at hbox (i := 2) rfl, cells_at hbox (i := 3) rfl⟩
            refine region_any (z := 7) (S := fun W => W.cell? ⟨X, 4, none⟩ = some (.slice o2a k o2c) ∧ W.cell? ⟨wx.heap.size, 0, none⟩ = some (.int .i64 y.fd) ∧ W.cell? ⟨wx.heap.size, 1, none⟩ = some (.string y.op) ∧ W.cell? ⟨wx.heap.size, 2, none⟩ = some (.string y.tag) ∧ W.cell? ⟨wx.heap.size, 3, none⟩ = some (.slice wa nw wc)) (by kernel_rfl) ?_
            refine any_take (i := 0) (v := .pointer (some ⟨X, 4, none⟩)) rfl (by kernel_rfl) (by kernel_rfl) (by kernel_rfl) (by kernel_rfl) (fun _ _ _ h => h) (Or.inl ⟨by rfl, fun W hW => by go_simp⟩) hh0 ?_
            try simp only [Act.put, List.getElem_toArray, List.getElem_cons_zero, List.getElem_cons_succ, List.setIfInBounds_toArray, List.set_cons_zero, List.set_cons_succ]
            refine any_take (i := 1) (v := .slice o2a k o2c) rfl (by kernel_rfl) (by kernel_rfl) (by kernel_rfl) (by kernel_rfl) (fun _ _ _ h => h) (Or.inl ⟨by rfl, fun W hW => by obtain ⟨h0, h1, h2, h3, h4⟩ := hW; go_simp⟩) hh0 ?_
            try simp only [Act.put, List.getElem_toArray, List.getElem_cons_zero, List.getElem_cons_succ, List.setIfInBounds_toArray, List.set_cons_zero, List.set_cons_succ]
            refine any_take (i := 2) (v := .agg #[.int .i64 y.fd, .string y.op, .string y.tag, .slice wa nw wc]) rfl (by kernel_rfl) (by kernel_rfl) (by kernel_rfl) (by kernel_rfl) (fun _ _ _ h => h) (Or.inl ⟨by rfl, fun W hW => by obtain ⟨h0, h1, h2, h3, h4⟩ := hW; go_simp⟩) hh0 ?_
            try simp only [Act.put, List.getElem_toArray, List.getElem_cons_zero, List.getElem_cons_succ, List.setIfInBounds_toArray, List.set_cons_zero, List.set_cons_succ]
            refine any_one (i := 3) (by kernel_rfl) rfl (fun K hK => ?_)
            try go_simp
            go_at_call 59
            refine (C1.out _ HS0.out.below).mono ?_
            rintro e w2 ⟨v2, rfl, hf2, hb2⟩
            obtain ⟨v3, e3, _, hw3⟩ := hf2.here
            obtain ⟨g2a, g2c, e2⟩ := wd_shape _ _ _ _ hw3
            generalize y.word.length = g2n at e2
            subst e2
            subst e3
            clear hw3
            have HX2 := Lib.hid (HX0.out.trans (hb2.mono HX0.out.size))
            have HS2 := Lib.hid (HS0.out.low hb2)
            have HF2 := Lib.hid (hf2.mono (T := Btw wx.heap.size w2.heap.size) fun b hb => ⟨Nat.le_trans HX0.out.size hb.1, hb.2⟩)
            have hbox2 := (hb2.block _ (lt_of_block HBox.out)).trans HBox.out
            have HBox2 := Lib.hid hbox2
            have hh1 : w2.cell? ⟨X, 4, none⟩ = some (.slice o2a k o2c) ∧ w2.cell? ⟨wx.heap.size, 0, none⟩ = some (.int .i64 y.fd) ∧ w2.cell? ⟨wx.heap.size, 1, none⟩ = some (.string y.op) ∧ w2.cell? ⟨wx.heap.size, 2, none⟩ = some (.string y.tag) ∧ w2.cell? ⟨wx.heap.size, 3, none⟩ = some (.slice wa nw wc) := ⟨cells_at HS2.out.kx (i := 4) rfl, cells_at hbox2 (i := 0) rfl, cells_at hbox2 (i := 1) rfl, cells_at hbox2 (i := 2) rfl, cells_at hbox2 (i := 3) rfl⟩
            clear hf2 hb2
            go_wp2_with fail
            refine hK.out _ _ (Or.inr hh1) (fun hHeld => ?_)
            clear hK K hHeld
            try simp only [Act.put, List.getElem_toArray, List.getElem_cons_zero, List.getElem_cons_succ, List.setIfInBounds_toArray, List.set_cons_zero, List.set_cons_succ]
            refine any_one (i := 4) (by kernel_rfl) rfl (fun K hK => ?_)
            go_simp
            have hb4 := (Below.refl w2.heap.size w2).alloc (Nat.le_refl _) (.cells #[.int .i64 y.fd, .string y.op, .string y.tag, .slice g2a g2n g2c] 102)
            have HS4 := Lib.hid (HS2.out.low hb4)
            have HX4 := Lib.hid (HX2.out.trans (hb4.mono HX2.out.size))
            have HE4 := Lib.hid hb4.size
            have HF4 := Lib.hid ((HF2.out.on (On.below hb4 fun b hb => hb.2)).imp (R := fun u => RdC (WdAt n) u [.int .i64 y.fd, .string y.op, .string y.tag, .slice g2a g2n g2c] y) fun u hu => rdv_c hu)
            have hbox4 := (hb4.block _ (lt_of_block HBox2.out)).trans HBox2.out
            have HBox4 := Lib.hid hbox4
            have hh2 : (w2.alloc (.cells #[.int .i64 y.fd, .string y.op, .string y.tag, .slice g2a g2n g2c] 102)).cell? ⟨X, 4, none⟩ = some (.slice o2a k o2c) ∧ (w2.alloc (.cells #[.int .i64 y.fd, .string y.op, .string y.tag, .slice g2a g2n g2c] 102)).cell? ⟨wx.heap.size, 0, none⟩ = some (.int .i64 y.fd) ∧ (w2.alloc (.cells #[.int .i64 y.fd, .string y.op, .string y.tag, .slice g2a g2n g2c] 102)).cell? ⟨wx.heap.size, 1, none⟩ = some (.string y.op) ∧ (w2.alloc (.cells #[.int .i64 y.fd, .string y.op, .string y.tag, .slice g2a g2n g2c] 102)).cell? ⟨wx.heap.size, 2, none⟩ = some (.string y.tag) ∧ (w2.alloc (.cells #[.int .i64 y.fd, .string y.op, .string y.tag, .slice g2a g2n g2c] 102)).cell? ⟨wx.heap.size, 3, none⟩ = some (.slice wa nw wc) := ⟨cells_at HS4.out.kx (i := 4) rfl, cells_at hbox4 (i := 0) rfl, cells_at hbox4 (i := 1) rfl, cells_at hbox4 (i := 2) rfl, cells_at hbox4 (i := 3) rfl⟩
            have hnew := heap_alloc_new w2 (.cells #[.int .i64 y.fd, .string y.op, .string y.tag, .slice g2a g2n g2c] 102)
            refine hK.out _ _ (Or.inr hh2) (fun hHeld => ?_)
            clear hK K hHeld hb4
            try simp only [Act.put, List.getElem_toArray, List.getElem_cons_zero, List.getElem_cons_succ, List.setIfInBounds_toArray, List.set_cons_zero, List.set_cons_succ]
            obtain ⟨css, Z, hM0, hz5, hz6⟩ := HR.out
            have hM4 := hM0.low HX4.out
            have hown := hM4.own
            rw [take_len (Nat.le_of_lt hlt')] at hown
            obtain ⟨i0, hi, hz0, hz1, hz2⟩ := info_of info102'
            refine any_one (i := 5) (by kernel_rfl) rfl (fun K hK => ?_)
            refine step_append_lies _ rfl _ _ 60 rfl (w.heap.size + 2) 102 i0 _ 4 64 Tryz.underlying60 hi hz0 hz1 hz2 rfl (by decide) _ _ _ rfl hown ⟨w2.heap.size, 0, none⟩ 1 1 [.int .i64 y.fd, .string y.op, .string y.tag, .slice g2a g2n g2c] rfl rfl ?_ ?_ Nat.zero_lt_one hml hmb (Nat.le_trans (Nat.le_trans HS.out.x2 (Nat.le_of_lt HXl.out)) HX4.out.size) _ rfl ?_
            · intro j u hj
              rw [add_at, Nat.zero_add]
              exact cells_at hnew (by simpa using hj)
            · intro u hu
              simp only [List.mem_cons, List.not_mem_nil, or_false] at hu
              rcases hu with rfl | rfl | rfl | rfl <;> rfl
            intro g cap w7 hown7 hgrow hat hlt7
            have hp := RowX.push (S := HS4.out) hlt' hM4 hz5 hz6 Hy.out hown7 hgrow rfl hat rfl HX4.out HXl.out (Nat.le_trans HS.out.x2 (Nat.le_of_lt HXl.out)) Hol.out HE4.out HF4.out
            have HP := Lib.hid hp
            have hbox7 := (hgrow.block _ (lt_of_block HBox4.out) (fun e => absurd (Hol.out _ e.symm) (Nat.lt_irrefl _))).trans HBox4.out
            have hh3 : w7.cell? ⟨X, 4, none⟩ = some (.slice o2a k o2c) ∧ w7.cell? ⟨wx.heap.size, 0, none⟩ = some (.int .i64 y.fd) ∧ w7.cell? ⟨wx.heap.size, 1, none⟩ = some (.string y.op) ∧ w7.cell? ⟨wx.heap.size, 2, none⟩ = some (.string y.tag) ∧ w7.cell? ⟨wx.heap.size, 3, none⟩ = some (.slice wa nw wc) := ⟨cells_at HP.out.2.kx (i := 4) rfl, cells_at hbox7 (i := 0) rfl, cells_at hbox7 (i := 1) rfl, cells_at hbox7 (i := 2) rfl, cells_at hbox7 (i := 3) rfl⟩
            have hfr : w7.frozen? ⟨X, 4, none⟩ = false := free_at HP.out.2.kx
            have hh30 := hh3.1
            clear hp hown7 hgrow hat hlt7 hown hM0 hM4 hz5 hz6 hnew
            refine hK.out _ _ (Or.inr hh3) (fun hHeld => ?_)
            clear hK K hHeld
            try simp only [Act.put, List.getElem_toArray, List.getElem_cons_zero, List.getElem_cons_succ, List.setIfInBounds_toArray, List.set_cons_zero, List.set_cons_succ]
            refine any_take (i := 6) (v := .pointer (some ⟨X, 4, none⟩)) rfl (by kernel_rfl) (by kernel_rfl) (by kernel_rfl) (by kernel_rfl) (fun _ _ _ h => h) (Or.inl ⟨by rfl, fun W hW => by go_simp⟩) hh3 ?_
            try simp only [Act.put, List.getElem_toArray, List.getElem_cons_zero, List.getElem_cons_succ, List.setIfInBounds_toArray, List.set_cons_zero, List.set_cons_succ]
            refine any_one (i := 7) (by kernel_rfl) rfl (fun K hK => ?_)
            go_simp
            refine hK.out _ _ (Or.inl rfl) (fun hHeld => ?_)
            clear hK K hHeld
            try simp only [Act.put, List.getElem_toArray, List.getElem_cons_zero, List.getElem_cons_succ, List.setIfInBounds_toArray, List.set_cons_zero, List.set_cons_succ]
            refine any_done (by kernel_rfl) ?_ _
            clear hh0 hh1 hh2 hh3 hh30 hfr
            go_wp2
            go_round
            case rel => exact ⟨k + 1, _, _, hlt', vi (Int.natCast_succ k).symm, HP.out.1.set 4 _, HP.out.2.set 4 _⟩
            case measure => exact sz_meas hlt
          · have hkq : q3 = k := sz_eq hlt hk
            subst hkq
            have hr := HR.out
            rw [List.take_of_length_le (by rw [Hq3.out]; exact Nat.le_refl _)] at hr
            obtain ⟨Y', hs⟩ := hr.done HS.out (by rw [Hq3.out]; exact l3)
            clear HS HR hr
            have HS := Lib.hid hs
            clear hs
            obtain ⟨Y, hY⟩ : ∃ Y, Y = Y' := ⟨_, rfl⟩
            subst hY
            have p5 := HS.out.c0 (i := 5) (u := .slice a4 q4 c4) (by rw [← Hcs0.out]; rfl)
            go_wp2
            go_loopw [57] (RelN w cs0 X (fun v => #[.int .i64 x.kind, .string x.name, .slice o1a q1 o1c, .slice va q2 vc, .slice o2a q3 o2c, v, .slice none 0 0]) (fun u => ((WsAt n u (.slice va q2 vc) x.words) ∧ Seg 2 (AsC (WdAt n)) u (.slice o1a q1 o1c) x.assigns) ∧ Seg 4 (RdC (WdAt n)) u (.slice o2a q3 o2c) x.redirs) 25 1 (OneC (NsAt n)) x.lists) (fun i _ => q4 - (intOf i).toNat)
            case atStart => exact ⟨0, .slice none 0 0, Y, Nat.zero_le _, rfl, RowX.nil (Nat.le_trans HS.out.x2 (Nat.le_of_lt (lt_of_block HS.out.kx))), HS.out⟩
            case round =>
              clear HS
              obtain ⟨k, v, Y, hk, rfl, HR, HS⟩ := hrel
              rename World => wx
              have HR := Lib.hid HR
              have HS := Lib.hid HS
              obtain ⟨o3a, o3c, e0⟩ := HR.out.shape
              rw [take_len hk] at e0
              subst e0
              rw [Hq4.out] at hk
              by_cases hlt : k < q4
              · have hlt' : k < x.lists.length := by rw [Hq4.out]; exact hlt
                obtain ⟨b, off, c', u, e, _, hcell, hu⟩ := one_at K4.out k hlt'
                obtain ⟨ua, uc, rfl⟩ := ns_shape _ _ _ _ hu
                obtain ⟨y, Hy⟩ : ∃ y, Hid (x.lists[k] = y) := ⟨_, Lib.hid rfl⟩
                rw [Hy.out] at hu hcell
                rw [Hq4.out] at e
                cases e
                replace hcell := cell_low hcell HS.out.below
                have C1 := Lib.hid fun (W : World) (hW : Below w.heap.size w W) => HG.out.c _ y W (kept_ns n _ _ _ _ hu hW)
                generalize y.length = nw at hcell C1
                clear hu
                have hml := mlen hlt l4
                have hmb := mul_le (c := 0) (b := 24) (Nat.lt_of_lt_of_le hlt l4) (by decide)
                have HXl := Lib.hid (lt_of_block HS.out.kx)
                have Hol : Hid (∀ b, (Value.slice o3a k o3c).ownBlock = some b → b < wx.heap.size) := Lib.hid fun b e => by obtain ⟨xs, h⟩ := HR.out.own; exact (World.ownsRow.lt h b e).2
                go_upto_region 15 with fail
                have HX0 := Lib.hid (Below.refl wx.heap.size wx).drew
                have HS0 := Lib.hid (HS.out.low HX0.out)
                have hh0 : wx.drew.cell? ⟨X, 5, none⟩ = some (.slice o3a k o3c) := cells_at HS0.out.kx (i := 5) rfl
                refine region_any (z := 7) (S := fun W => W.cell? ⟨X, 5, none⟩ = some (.slice o3a k o3c)) (by kernel_rfl) ?_
                refine any_take (i := 0) (v := .pointer (some ⟨X, 5, none⟩)) rfl (by kernel_rfl) (by kernel_rfl) (by kernel_rfl) (by kernel_rfl) (fun _ _ _ h => h) (Or.inl ⟨by rfl, fun W hW => by go_simp⟩) hh0 ?_
                try simp only [Act.put, List.getElem_toArray, List.getElem_cons_zero, List.getElem_cons_succ, List.setIfInBounds_toArray, List.set_cons_zero, List.set_cons_succ]
                refine any_take (i := 1) (v := .slice o3a k o3c) rfl (by kernel_rfl) (by kernel_rfl) (by kernel_rfl) (by kernel_rfl) (fun _ _ _ h => h) (Or.inl ⟨by rfl, fun W hW => by have h0 := hW; go_simp⟩) hh0 ?_
                try simp only [Act.put, List.getElem_toArray, List.getElem_cons_zero, List.getElem_cons_succ, List.setIfInBounds_toArray, List.set_cons_zero, List.set_cons_succ]
                refine any_take (i := 2) (v := .slice ua nw uc) rfl (by kernel_rfl) (by kernel_rfl) (by kernel_rfl) (by kernel_rfl) (fun _ _ _ h => h) (Or.inl ⟨by rfl, fun W hW => by go_simp⟩) hh0 ?_
                try simp only [Act.put, List.getElem_toArray, List.getElem_cons_zero, List.getElem_cons_succ, List.setIfInBounds_toArray, List.set_cons_zero, List.set_cons_succ]
                refine any_one (i := 3) (by kernel_rfl) rfl (fun K hK => ?_)
                try go_simp
                go_at_call 10
                refine (C1.out _ HS0.out.below).mono ?_
                rintro e w2 ⟨v2, rfl, hf2, hb2⟩
                obtain ⟨g2a, g2c, e2⟩ := ns_shape _ _ _ _ hf2.here
                generalize y.length = g2n at e2
                subst e2
                have HX2 := Lib.hid (HX0.out.trans (hb2.mono HX0.out.size))
                have HS2 := Lib.hid (HS0.out.low hb2)
                have HF2 := Lib.hid (hf2.mono (T := Btw wx.heap.size w2.heap.size) fun b hb => ⟨Nat.le_trans HX0.out.size hb.1, hb.2⟩)
                have hh1 : w2.cell? ⟨X, 5, none⟩ = some (.slice o3a k o3c) := cells_at HS2.out.kx (i := 5) rfl
                clear hf2 hb2
                go_wp2_with fail
                refine hK.out _ _ (Or.inr hh1) (fun hHeld => ?_)
                clear hK K hHeld
                try simp only [Act.put, List.getElem_toArray, List.getElem_cons_zero, List.getElem_cons_succ, List.setIfInBounds_toArray, List.set_cons_zero, List.set_cons_succ]
                refine any_one (i := 4) (by kernel_rfl) rfl (fun K hK => ?_)
                go_simp
                have hb4 := (Below.refl w2.heap.size w2).alloc (Nat.le_refl _) (.cells #[.slice g2a g2n g2c] 25)
                have HS4 := Lib.hid (HS2.out.low hb4)
                have HX4 := Lib.hid (HX2.out.trans (hb4.mono HX2.out.size))
                have HE4 := Lib.hid hb4.size
                have HF4 := Lib.hid ((HF2.out.on (On.below hb4 fun b hb => hb.2)).imp (R := fun u => OneC (NsAt n) u [.slice g2a g2n g2c] y) fun u hu => ⟨_, rfl, hu⟩)
                have hh2 : (w2.alloc (.cells #[.slice g2a g2n g2c] 25)).cell? ⟨X, 5, none⟩ = some (.slice o3a k o3c) := cells_at HS4.out.kx (i := 5) rfl
                have hnew := heap_alloc_new w2 (.cells #[.slice g2a g2n g2c] 25)
                refine hK.out _ _ (Or.inr hh2) (fun hHeld => ?_)
                clear hK K hHeld hb4
                try simp only [Act.put, List.getElem_toArray, List.getElem_cons_zero, List.getElem_cons_succ, List.setIfInBounds_toArray, List.set_cons_zero, List.set_cons_succ]
                obtain ⟨css, Z, hM0, hz5, hz6⟩ := HR.out
                have hM4 := hM0.low HX4.out
                have hown := hM4.own
                rw [take_len (Nat.le_of_lt hlt')] at hown
                obtain ⟨i0, hi, hz0, hz1, hz2⟩ := info_of info25'
                refine any_one (i := 5) (by kernel_rfl) rfl (fun K hK => ?_)
                refine step_append_lies _ rfl _ _ 61 rfl (w.heap.size + 2) 25 i0 _ 1 24 Tryz.underlying61 hi hz0 hz1 hz2 rfl (by decide) _ _ _ rfl hown ⟨w2.heap.size, 0, none⟩ 1 1 [.slice g2a g2n g2c] rfl rfl ?_ ?_ Nat.zero_lt_one hml hmb (Nat.le_trans (Nat.le_trans HS.out.x2 (Nat.le_of_lt HXl.out)) HX4.out.size) _ rfl ?_
                · intro j u hj
                  rw [add_at, Nat.zero_add]
                  exact cells_at hnew (by simpa using hj)
                · intro u hu
                  simp only [List.mem_cons, List.not_mem_nil, or_false] at hu
                  subst hu; rfl
                intro g cap w7 hown7 hgrow hat hlt7
                have hp := RowX.push (S := HS4.out) hlt' hM4 hz5 hz6 Hy.out hown7 hgrow rfl hat rfl HX4.out HXl.out (Nat.le_trans HS.out.x2 (Nat.le_of_lt HXl.out)) Hol.out HE4.out HF4.out
                have HP := Lib.hid hp
                have hh3 : w7.cell? ⟨X, 5, none⟩ = some (.slice o3a k o3c) := cells_at HP.out.2.kx (i := 5) rfl
                have hfr : w7.frozen? ⟨X, 5, none⟩ = false := free_at HP.out.2.kx
                have hh30 := hh3
                clear hp hown7 hgrow hat hlt7 hown hM0 hM4 hz5 hz6 hnew
                refine hK.out _ _ (Or.inr hh3) (fun hHeld => ?_)
                clear hK K hHeld
                try simp only [Act.put, List.getElem_toArray, List.getElem_cons_zero, List.getElem_cons_succ, List.setIfInBounds_toArray, List.set_cons_zero, List.set_cons_succ]
                refine any_take (i := 6) (v := .pointer (some ⟨X, 5, none⟩)) rfl (by kernel_rfl) (by kernel_rfl) (by kernel_rfl) (by kernel_rfl) (fun _ _ _ h => h) (Or.inl ⟨by rfl, fun W hW => by go_simp⟩) hh3 ?_
                try simp only [Act.put, List.getElem_toArray, List.getElem_cons_zero, List.getElem_cons_succ, List.setIfInBounds_toArray, List.set_cons_zero, List.set_cons_succ]
                refine any_one (i := 7) (by kernel_rfl) rfl (fun K hK => ?_)
                go_simp
                refine hK.out _ _ (Or.inl rfl) (fun hHeld => ?_)
                clear hK K hHeld
                try simp only [Act.put, List.getElem_toArray, List.getElem_cons_zero, List.getElem_cons_succ, List.setIfInBounds_toArray, List.set_cons_zero, List.set_cons_succ]
                refine any_done (by kernel_rfl) ?_ _
                clear hh0 hh1 hh2 hh3 hh30 hfr
                go_wp2
                go_round
                case rel => exact ⟨k + 1, _, _, hlt', vi (Int.natCast_succ k).symm, HP.out.1.set 5 _, HP.out.2.set 5 _⟩
                case measure => exact sz_meas hlt
              · have hkq : q4 = k := sz_eq hlt hk
                subst hkq
                have hr := HR.out
                rw [List.take_of_length_le (by rw [Hq4.out]; exact Nat.le_refl _)] at hr
                obtain ⟨Y', hs⟩ := hr.done HS.out (by rw [Hq4.out]; exact l4)
                clear HS HR hr
                have HS := Lib.hid hs
                clear hs
                obtain ⟨Y, hY⟩ : ∃ Y, Y = Y' := ⟨_, rfl⟩
                subst hY
                have p6 := HS.out.c0 (i := 6) (u := .slice a5 q5 c5) (by rw [← Hcs0.out]; rfl)
                go_wp2
                go_loopw [72] (RelN w cs0 X (fun v => #[.int .i64 x.kind, .string x.name, .slice o1a q1 o1c, .slice va q2 vc, .slice o2a q3 o2c, .slice o3a q4 o3c, v]) (fun u => (((WsAt n u (.slice va q2 vc) x.words) ∧ Seg 2 (AsC (WdAt n)) u (.slice o1a q1 o1c) x.assigns) ∧ Seg 4 (RdC (WdAt n)) u (.slice o2a q3 o2c) x.redirs) ∧ Seg 1 (OneC (NsAt n)) u (.slice o3a q4 o3c) x.lists) 80 2 (ArC (WdAt n) (NsAt n)) x.arms) (fun i _ => q5 - (intOf i).toNat)
                case atStart => exact ⟨0, .slice none 0 0, Y, Nat.zero_le _, rfl, RowX.nil (Nat.le_trans HS.out.x2 (Nat.le_of_lt (lt_of_block HS.out.kx))), HS.out⟩
                case round =>
                  clear HS
                  obtain ⟨k, v, Y, hk, rfl, HR, HS⟩ := hrel
                  rename World => wx
                  have HR := Lib.hid HR
                  have HS := Lib.hid HS
                  obtain ⟨o4a, o4c, e0⟩ := HR.out.shape
                  rw [take_len hk] at e0
                  subst e0
                  rw [Hq5.out] at hk
                  by_cases hlt : k < q5
                  · have hlt' : k < x.arms.length := by rw [Hq5.out]; exact hlt
                    obtain ⟨b, off, c', wa, wc, ba, bc, e, hws, hnb, z0, z1⟩ := ar_at K5.out k hlt'
                    obtain ⟨y, Hy⟩ : ∃ y, Hid (x.arms[k] = y) := ⟨_, Lib.hid rfl⟩
                    rw [Hy.out] at hws hnb z0 z1
                    rw [Hq5.out] at e
                    cases e
                    replace z0 := cell_low z0 HS.out.below
                    replace z1 := cell_low z1 HS.out.below
                    have C1 := Lib.hid fun (W : World) (hW : Below w.heap.size w W) => words58 n HG.out _ y.words W (kept_ws n _ _ _ _ hws hW)
                    have C2 := Lib.hid fun (W : World) (hW : Below w.heap.size w W) => HG.out.c _ y.body W (kept_ns n _ _ _ _ hnb hW)
                    generalize y.words.length = nw at z0 C1
                    generalize y.body.length = nb at z1 C2
                    clear hws hnb
                    have hml := mlen hlt l5
                    have hmb := mul_le (c := 0) (b := 48) (Nat.lt_of_lt_of_le hlt l5) (by decide)
                    have HXl := Lib.hid (lt_of_block HS.out.kx)
                    have Hol : Hid (∀ b, (Value.slice o4a k o4c).ownBlock = some b → b < wx.heap.size) := Lib.hid fun b e => by obtain ⟨xs, h⟩ := HR.out.own; exact (World.ownsRow.lt h b e).2
                    have HBX := Lib.hid ((Below.refl wx.heap.size wx).alloc (Nat.le_refl _) (.cells #[.slice wa nw wc, .slice ba nb bc] 78))
                    have hbox := heap_alloc_new wx (.cells #[.slice wa nw wc, .slice ba nb bc] 78)
                    go_upto_region 20 with fail
                    generalize wx.alloc (.cells #[.slice wa nw wc, .slice ba nb bc] 78) = wy at HBX hbox ⊢
                    have HBox := Lib.hid hbox
                    have HX0 := Lib.hid HBX.out.drew
                    have HS0 := Lib.hid (HS.out.low HX0.out)
                    have hh0 : wy.drew.cell? ⟨X, 6, none⟩ = some (.slice o4a k o4c) ∧ wy.drew.cell? ⟨wx.heap.size, 0, none⟩ = some (.slice wa nw wc) ∧ wy.drew.cell? ⟨wx.heap.size, 1, none⟩ = some (.slice ba nb bc) := ⟨cells_at HS0.out.kx (i := 6) rfl, cells_at hbox (i := 0) rfl, cells_at hbox (i := 1) rfl⟩
                    refine region_any (z := 12) (S := fun W => W.cell? ⟨X, 6, none⟩ = some (.slice o4a k o4c) ∧ W.cell? ⟨wx.heap.size, 0, none⟩ = some (.slice wa nw wc) ∧ W.cell? ⟨wx.heap.size, 1, none⟩ = some (.slice ba nb bc)) (by kernel_rfl) ?_
                    refine any_take (i := 0) (v := .pointer (some ⟨X, 6, none⟩)) rfl (by kernel_rfl) (by kernel_rfl) (by kernel_rfl) (by kernel_rfl) (fun _ _ _ h => h) (Or.inl ⟨by rfl, fun W hW => by go_simp⟩) hh0 ?_
                    try simp only [Act.put, List.getElem_toArray, List.getElem_cons_zero, List.getElem_cons_succ, List.setIfInBounds_toArray, List.set_cons_zero, List.set_cons_succ]
                    refine any_take (i := 1) (v := .slice o4a k o4c) rfl (by kernel_rfl) (by kernel_rfl) (by kernel_rfl) (by kernel_rfl) (fun _ _ _ h => h) (Or.inl ⟨by rfl, fun W hW => by obtain ⟨h0, h1, h2⟩ := hW; go_simp⟩) hh0 ?_
                    try simp only [Act.put, List.getElem_toArray, List.getElem_cons_zero, List.getElem_cons_succ, List.setIfInBounds_toArray, List.set_cons_zero, List.set_cons_succ]
                    refine any_take (i := 2) (v := .pointer (some ⟨wx.heap.size, 0, none⟩)) rfl (by kernel_rfl) (by kernel_rfl) (by kernel_rfl) (by kernel_rfl) (fun _ _ _ h => h) (Or.inl ⟨by rfl, fun W hW => by go_simp⟩) hh0 ?_
                    try simp only [Act.put, List.getElem_toArray, List.getElem_cons_zero, List.getElem_cons_succ, List.setIfInBounds_toArray, List.set_cons_zero, List.set_cons_succ]
                    refine any_take (i := 3) (v := .slice wa nw wc) rfl (by kernel_rfl) (by kernel_rfl) (by kernel_rfl) (by kernel_rfl) (fun _ _ _ h => h) (Or.inl ⟨by rfl, fun W hW => by obtain ⟨h0, h1, h2⟩ := hW; go_simp⟩) hh0 ?_
                    try simp only [Act.put, List.getElem_toArray, List.getElem_cons_zero, List.getElem_cons_succ, List.setIfInBounds_toArray, List.set_cons_zero, List.set_cons_succ]
                    refine any_take (i := 5) (v := .pointer (some ⟨wx.heap.size, 1, none⟩)) rfl (by kernel_rfl) (by kernel_rfl) (by kernel_rfl) (by kernel_rfl) (fun _ _ _ h => h) (Or.inl ⟨by rfl, fun W hW => by go_simp⟩) hh0 ?_
                    try simp only [Act.put, List.getElem_toArray, List.getElem_cons_zero, List.getElem_cons_succ, List.setIfInBounds_toArray, List.set_cons_zero, List.set_cons_succ]
                    refine any_take (i := 6) (v := .slice ba nb bc) rfl (by kernel_rfl) (by kernel_rfl) (by kernel_rfl) (by kernel_rfl) (fun _ _ _ h => h) (Or.inl ⟨by rfl, fun W hW => by obtain ⟨h0, h1, h2⟩ := hW; go_simp⟩) hh0 ?_
                    try simp only [Act.put, List.getElem_toArray, List.getElem_cons_zero, List.getElem_cons_succ, List.setIfInBounds_toArray, List.set_cons_zero, List.set_cons_succ]
                    refine any_one (i := 4) (by kernel_rfl) rfl (fun K hK => ?_)
                    try go_simp
                    go_at_call 58
                    refine (C1.out _ HS0.out.below).mono ?_
                    rintro e w2 ⟨v2, rfl, hf2, hb2⟩
                    obtain ⟨g2a, g2c, e2⟩ := Seg.shape hf2.here
                    generalize y.words.length = g2n at e2
                    subst e2
                    have HX2 := Lib.hid (HX0.out.trans (hb2.mono HX0.out.size))
                    have HS2 := Lib.hid (HS0.out.low hb2)
                    have HF2 := Lib.hid (hf2.mono (T := Btw wx.heap.size w2.heap.size) fun b hb => ⟨Nat.le_trans HX0.out.size hb.1, hb.2⟩)
                    have hbox2 := (hb2.block _ (lt_of_block HBox.out)).trans HBox.out
                    have HBox2 := Lib.hid hbox2
                    have hh1 : w2.cell? ⟨X, 6, none⟩ = some (.slice o4a k o4c) ∧ w2.cell? ⟨wx.heap.size, 0, none⟩ = some (.slice wa nw wc) ∧ w2.cell? ⟨wx.heap.size, 1, none⟩ = some (.slice ba nb bc) := ⟨cells_at HS2.out.kx (i := 6) rfl, cells_at hbox2 (i := 0) rfl, cells_at hbox2 (i := 1) rfl⟩
                    clear hf2 hb2
                    go_wp2_with fail
                    refine hK.out _ _ (Or.inr hh1) (fun hHeld => ?_)
                    clear hK K hHeld
                    try simp only [Act.put, List.getElem_toArray, List.getElem_cons_zero, List.getElem_cons_succ, List.setIfInBounds_toArray, List.set_cons_zero, List.set_cons_succ]
                    refine any_one (i := 7) (by kernel_rfl) rfl (fun K hK => ?_)
                    try go_simp
                    go_at_call 10
                    refine (C2.out _ HS2.out.below).mono ?_
                    rintro e w3 ⟨v3, rfl, hf3, hb3⟩
                    obtain ⟨g3a, g3c, e3⟩ := ns_shape _ _ _ _ hf3.here
                    generalize y.body.length = g3n at e3
                    subst e3
                    have HF2 := Lib.hid (((HF2.out.on (On.below hb3 fun b hb => hb.2)).mono (T := Btw wx.heap.size w3.heap.size) fun b hb => ⟨hb.1, Nat.lt_of_lt_of_le hb.2 hb3.size⟩).both (hf3.mono (T := Btw wx.heap.size w3.heap.size) fun b hb => ⟨Nat.le_trans HX2.out.size hb.1, hb.2⟩))
                    have HX2 := Lib.hid (HX2.out.trans (hb3.mono HX2.out.size))
                    have HS2 := Lib.hid (HS2.out.low hb3)
                    have hbox3 := (hb3.block _ (lt_of_block HBox2.out)).trans HBox2.out
                    have HBox2 := Lib.hid hbox3
                    have hh1 : w3.cell? ⟨X, 6, none⟩ = some (.slice o4a k o4c) ∧ w3.cell? ⟨wx.heap.size, 0, none⟩ = some (.slice wa nw wc) ∧ w3.cell? ⟨wx.heap.size, 1, none⟩ = some (.slice ba nb bc) := ⟨cells_at HS2.out.kx (i := 6) rfl, cells_at hbox3 (i := 0) rfl, cells_at hbox3 (i := 1) rfl⟩
                    clear hf3 hb3
                    go_wp2_with fail
                    refine hK.out _ _ (Or.inr hh1) (fun hHeld => ?_)
                    clear hK K hHeld
                    try simp only [Act.put, List.getElem_toArray, List.getElem_cons_zero, List.getElem_cons_succ, List.setIfInBounds_toArray, List.set_cons_zero, List.set_cons_succ]
                    refine any_take (i := 8) (v := .agg #[.slice g2a g2n g2c, .slice g3a g3n g3c]) rfl (by kernel_rfl) (by kernel_rfl) (by kernel_rfl) (by kernel_rfl) (fun _ _ _ h => h) (Or.inl ⟨by rfl, fun W hW => by go_simp⟩) hh1 ?_
                    try simp only [Act.put, List.getElem_toArray, List.getElem_cons_zero, List.getElem_cons_succ, List.setIfInBounds_toArray, List.set_cons_zero, List.set_cons_succ]
                    refine any_one (i := 9) (by kernel_rfl) rfl (fun K hK => ?_)
                    go_simp
                    have hb4 := (Below.refl w3.heap.size w3).alloc (Nat.le_refl _) (.cells #[.slice g2a g2n g2c, .slice g3a g3n g3c] 80)
                    have HS4 := Lib.hid (HS2.out.low hb4)
                    have HX4 := Lib.hid (HX2.out.trans (hb4.mono HX2.out.size))
                    have HE4 := Lib.hid hb4.size
                    have HF4 := Lib.hid ((HF2.out.on (On.below hb4 fun b hb => hb.2)).imp (R := fun u => ArC (WdAt n) (NsAt n) u [.slice g2a g2n g2c, .slice g3a g3n g3c] y) fun u hu => ⟨_, _, rfl, hu.1, hu.2⟩)
                    have hbox4 := (hb4.block _ (lt_of_block HBox2.out)).trans HBox2.out
                    have HBox4 := Lib.hid hbox4
                    have hh2 : (w3.alloc (.cells #[.slice g2a g2n g2c, .slice g3a g3n g3c] 80)).cell? ⟨X, 6, none⟩ = some (.slice o4a k o4c) ∧ (w3.alloc (.cells #[.slice g2a g2n g2c, .slice g3a g3n g3c] 80)).cell? ⟨wx.heap.size, 0, none⟩ = some (.slice wa nw wc) ∧ (w3.alloc (.cells #[.slice g2a g2n g2c, .slice g3a g3n g3c] 80)).cell? ⟨wx.heap.size, 1, none⟩ = some (.slice ba nb bc) := ⟨cells_at HS4.out.kx (i := 6) rfl, cells_at hbox4 (i := 0) rfl, cells_at hbox4 (i := 1) rfl⟩
                    have hnew := heap_alloc_new w3 (.cells #[.slice g2a g2n g2c, .slice g3a g3n g3c] 80)
                    refine hK.out _ _ (Or.inr hh2) (fun hHeld => ?_)
                    clear hK K hHeld hb4
                    try simp only [Act.put, List.getElem_toArray, List.getElem_cons_zero, List.getElem_cons_succ, List.setIfInBounds_toArray, List.set_cons_zero, List.set_cons_succ]
                    obtain ⟨css, Z, hM0, hz5, hz6⟩ := HR.out
                    have hM4 := hM0.low HX4.out
                    have hown := hM4.own
                    rw [take_len (Nat.le_of_lt hlt')] at hown
                    obtain ⟨i0, hi, hz0, hz1, hz2⟩ := info_of info80'
                    refine any_one (i := 10) (by kernel_rfl) rfl (fun K hK => ?_)
                    refine step_append_lies _ rfl _ _ 62 rfl (w.heap.size + 2) 80 i0 _ 2 48 Tryz.underlying62 hi hz0 hz1 hz2 rfl (by decide) _ _ _ rfl hown ⟨w3.heap.size, 0, none⟩ 1 1 [.slice g2a g2n g2c, .slice g3a g3n g3c] rfl rfl ?_ ?_ Nat.zero_lt_one hml hmb (Nat.le_trans (Nat.le_trans HS.out.x2 (Nat.le_of_lt HXl.out)) HX4.out.size) _ rfl ?_
                    · intro j u hj
                      rw [add_at, Nat.zero_add]
                      exact cells_at hnew (by simpa using hj)
                    · intro u hu
                      simp only [List.mem_cons, List.not_mem_nil, or_false] at hu
                      rcases hu with rfl | rfl <;> rfl
                    intro g cap w7 hown7 hgrow hat hlt7
                    have hp := RowX.push (S := HS4.out) hlt' hM4 hz5 hz6 Hy.out hown7 hgrow rfl hat rfl HX4.out HXl.out (Nat.le_trans HS.out.x2 (Nat.le_of_lt HXl.out)) Hol.out HE4.out HF4.out
                    have HP := Lib.hid hp
                    have hbox7 := (hgrow.block _ (lt_of_block HBox4.out) (fun e => absurd (Hol.out _ e.symm) (Nat.lt_irrefl _))).trans HBox4.out
                    have hh3 : w7.cell? ⟨X, 6, none⟩ = some (.slice o4a k o4c) ∧ w7.cell? ⟨wx.heap.size, 0, none⟩ = some (.slice wa nw wc) ∧ w7.cell? ⟨wx.heap.size, 1, none⟩ = some (.slice ba nb bc) := ⟨cells_at HP.out.2.kx (i := 6) rfl, cells_at hbox7 (i := 0) rfl, cells_at hbox7 (i := 1) rfl⟩
                    have hfr : w7.frozen? ⟨X, 6, none⟩ = false := free_at HP.out.2.kx
                    have hh30 := hh3.1
                    clear hp hown7 hgrow hat hlt7 hown hM0 hM4 hz5 hz6 hnew
                    refine hK.out _ _ (Or.inr hh3) (fun hHeld => ?_)
                    clear hK K hHeld
                    try simp only [Act.put, List.getElem_toArray, List.getElem_cons_zero, List.getElem_cons_succ, List.setIfInBounds_toArray, List.set_cons_zero, List.set_cons_succ]
                    refine any_take (i := 11) (v := .pointer (some ⟨X, 6, none⟩)) rfl (by kernel_rfl) (by kernel_rfl) (by kernel_rfl) (by kernel_rfl) (fun _ _ _ h => h) (Or.inl ⟨by rfl, fun W hW => by go_simp⟩) hh3 ?_
                    try simp only [Act.put, List.getElem_toArray, List.getElem_cons_zero, List.getElem_cons_succ, List.setIfInBounds_toArray, List.set_cons_zero, List.set_cons_succ]
                    refine any_one (i := 12) (by kernel_rfl) rfl (fun K hK => ?_)
                    go_simp
                    refine hK.out _ _ (Or.inl rfl) (fun hHeld => ?_)
                    clear hK K hHeld
                    try simp only [Act.put, List.getElem_toArray, List.getElem_cons_zero, List.getElem_cons_succ, List.setIfInBounds_toArray, List.set_cons_zero, List.set_cons_succ]
                    refine any_done (by kernel_rfl) ?_ _
                    clear hh0 hh1 hh2 hh3 hh30 hfr
                    go_wp2
                    go_round
                    case rel => exact ⟨k + 1, _, _, hlt', vi (Int.natCast_succ k).symm, HP.out.1.set 6 _, HP.out.2.set 6 _⟩
                    case measure => exact sz_meas hlt
                  · have hkq : q5 = k := sz_eq hlt hk
                    subst hkq
                    have hr := HR.out
                    rw [List.take_of_length_le (by rw [Hq5.out]; exact Nat.le_refl _)] at hr
                    obtain ⟨Y', hs⟩ := hr.done HS.out (by rw [Hq5.out]; exact l5)
                    clear HS HR hr
                    have HS := Lib.hid hs
                    clear hs
                    obtain ⟨Y, hY⟩ : ∃ Y, Y = Y' := ⟨_, rfl⟩
                    subst hY
                    have k1 := HS.out.k1
                    have kx := HS.out.kx
                    have n0 := cells_at kx (i := 0) rfl
                    have n1 := cells_at kx (i := 1) rfl
                    have n2 := cells_at kx (i := 2) rfl
                    have n3 := cells_at kx (i := 3) rfl
                    have n4 := cells_at kx (i := 4) rfl
                    have n5 := cells_at kx (i := 5) rfl
                    have n6 := cells_at kx (i := 6) rfl
                    have m0 := cells_at k1 (i := 0) rfl
                    have m1 := cells_at k1 (i := 1) rfl
                    have m2 := cells_at k1 (i := 2) rfl
                    have m3 := cells_at k1 (i := 3) rfl
                    have m4 := cells_at k1 (i := 4) rfl
                    have m5 := cells_at k1 (i := 5) rfl
                    have m6 := cells_at k1 (i := 6) rfl
                    have f0 := free_at k1 (i := 0)
                    have f1 := free_at k1 (i := 1)
                    have f2 := free_at k1 (i := 2)
                    have f3 := free_at k1 (i := 3)
                    have f4 := free_at k1 (i := 4)
                    have f5 := free_at k1 (i := 5)
                    have f6 := free_at k1 (i := 6)
                    obtain ⟨wz, Hwz⟩ : ∃ wz, Hid ((((((((wx.setCell ⟨w.heap.size + 1, 0, none⟩ (.int .i64 x.kind)).setCell ⟨w.heap.size + 1, 1, none⟩ (.string x.name)).setCell ⟨w.heap.size + 1, 2, none⟩ (.slice o1a q1 o1c)).setCell ⟨w.heap.size + 1, 3, none⟩ (.slice va q2 vc)).setCell ⟨w.heap.size + 1, 4, none⟩ (.slice o2a q3 o2c)).setCell ⟨w.heap.size + 1, 5, none⟩ (.slice o3a q4 o3c)).setCell ⟨w.heap.size + 1, 6, none⟩ (.slice o4a q5 o4c)) = wz) := ⟨_, Lib.hid rfl⟩
                    have HK := Lib.hid (show wz.heap[w.heap.size + 1]? = some (.cells #[.int .i64 x.kind, .string x.name, .slice o1a q1 o1c, .slice va q2 vc, .slice o2a q3 o2c, .slice o3a q4 o3c, .slice o4a q5 o4c] 64 (0, 0)) from by rw [← Hwz.out]; exact set7 k1 _ _ _ _ _ _ _)
                    have HO : Hid (Out (fun u v' => NdV n u v' x) w (.returned (.agg #[.int .i64 x.kind, .string x.name, .slice o1a q1 o1c, .slice va q2 vc, .slice o2a q3 o2c, .slice o3a q4 o3c, .slice o4a q5 o4c])) wz) := Lib.hid (by
                      refine ⟨_, rfl, ?_, by rw [← Hwz.out]; exact below7 HS.out.below (Nat.le_succ _) _ _ _ _ _ _ _⟩
                      refine Firm.imp (Q := fun u => ((((WsAt n u (.slice va q2 vc) x.words) ∧ Seg 2 (AsC (WdAt n)) u (.slice o1a q1 o1c) x.assigns) ∧ Seg 4 (RdC (WdAt n)) u (.slice o2a q3 o2c) x.redirs) ∧ Seg 1 (OneC (NsAt n)) u (.slice o3a q4 o3c) x.lists) ∧ Seg 2 (ArC (WdAt n) (NsAt n)) u (.slice o4a q5 o4c) x.arms) (S := Btw w.heap.size wz.heap.size) ?_ fun u hu => ⟨_, _, _, _, _, rfl, HF.out, hu.1.1.1.2, hu.1.1.1.1, hu.1.1.2, hu.1.2, hu.2⟩
                      refine (HS.out.d.on (w' := wz) fun b hb => ?_).mono fun b hb => ⟨Nat.le_trans (Nat.le_add_right _ 2) (HS.out.y b hb).1, by rw [← Hwz.out, size7]; exact (HS.out.y b hb).2.1⟩
                      rw [← Hwz.out]
                      exact far7 wx _ _ (fun e => absurd (HS.out.y b hb).1 (by rw [e]; exact Nat.not_succ_le_self _)) _ _ _ _ _ _ _)
                    clear k1 kx
                    go_wp2
                    rw [Hwz.out]
                    exact bodyPost_ret_by (results_64 rfl _ _ _ _ _ _ _ _ _ _ rfl HK.out) rfl HO.out
end Go.Proofs.YtfaohicadahcjaaGreatDoor
