/- Contracts: simple commands, written. Conditions: lengths below a bound. -/
import Derived.Test.YtfaohicadahcjaaGreatDoorZ
namespace Go.Proofs.YtfaohicadahcjaaGreatDoor
open Go.RowKit Go.PlainAid Go.ChangeShapes Go.WideShapes Go.ChangeAt
set_option linter.unusedSimpArgs false
set_option linter.unusedVariables false

theorem gj_cons (g x : List UInt8) (r : List (List UInt8)) : gj g (x :: r) = g ++ x ++ gj [32] r := rfl
def asT (f : Pt → List UInt8) (a : As) : List UInt8 := ls a.name ++ [61] ++ (a.word.map f).flatten
def wdT (f : Pt → List UInt8) (l : List Pt) : List UInt8 := (l.map f).flatten
def simT (f : Pt → List UInt8) (las : List As) (lws : List (List Pt)) (lrs : List Rd) : List UInt8 := gj [] (las.map (asT f) ++ lws.map (wdT f) ++ lrs.map (redT f))
/-- A simple command at work: what is written so far, the gap, what is to come. -/
structure Sim (B D G : Nat) (rest : List Value) (full : List UInt8) (tail : List (List UInt8)) (w w3 wx : World) : Prop where
  st : ∃ (v : Value) (acc : List UInt8) (g : ByteArray), IsBld B D 72 rest v acc wx ∧ wx.heap[G]? = some (.cells #[.string g] 9 (0, 0)) ∧ g.size ≤ 1 ∧ full = acc ++ gj (ls g) tail
  k2 : Ke2 D G w3 wx
  bl : Below B w wx
theorem drop_cons_map {α : Type} (f : α → List UInt8) (l : List α) (k : Nat) (h : k < l.length) (t : List (List UInt8)) : (l.drop k).map f ++ t = f l[k] :: ((l.drop (k + 1)).map f ++ t) := by
  rw [List.drop_eq_getElem_cons h]; rfl
def RelS {α : Type} (f : α → List UInt8) (l : List α) (t : List (List UInt8)) (B D G : Nat) (rest : List Value) (full : List UInt8) (w w3 : World) (i : Value) (wx : World) : Prop := ∃ k : Nat, k ≤ l.length ∧ i = .int .i64 k ∧ Sim B D G rest full ((l.drop k).map f ++ t) w w3 wx
set_option maxHeartbeats 32000000 in
set_option maxRecDepth 100000 in
theorem simple93 (n : Nat) (f : Pt → List UInt8) (W0 : World) (B D : Nat) (rest : List Value) (v : Value) (acc0 : List UInt8) (kd : Int) (nm : ByteArray) (a1 a2 a3 a4 a5 : Option Addr) (n4 n5 c1 c2 c3 c4 c5 : Nat) (lws : List (List Pt)) (lrs : List Rd) (w : World)
    (h2 : WsAt (n + 1) W0 (.slice a2 lws.length c2) lws) (h3 : RdsAt (n + 1) W0 (.slice a3 lrs.length c3) lrs) (hf : ∀ l ∈ lws, ∀ p ∈ l, PartOk n W0 B D rest p (f p)) (hr : ∀ r ∈ lrs, RedOk (n + 1) W0 B D rest r (redT f r)) (hWB : W0.heap.size ≤ B) (hb : Below B W0 w) (h : IsBld B D 72 rest v acc0 w) (hlen : (acc0 ++ simT f [] lws lrs).length ≤ 140737390000000) (hBw : B ≤ w.heap.size) :
    Calls Tryz.prog 93 #[.pointer (some ⟨D, 0, none⟩), .agg #[.int .i64 kd, .string nm, .slice a1 0 c1, .slice a2 lws.length c2, .slice a3 lrs.length c3, .slice a4 n4 c4, .slice a5 n5 c5]] w (Wrote B D rest acc0 (simT f [] lws lrs) w) := by
  obtain ⟨full, HFu⟩ : ∃ x, Hid (acc0 ++ simT f [] lws lrs = x) := ⟨_, Lib.hid rfl⟩
  have K2 := Lib.hid h2
  have K3 := Lib.hid h3
  have l2 := h2.len
  have l3 := h3.len
  have HF := Lib.hid hf
  have HR := Lib.hid hr
  have HWB := Lib.hid hWB
  have HB0 := Lib.hid hb
  have HLN := Lib.hid hlen
  have HBw := Lib.hid hBw
  have HI := Lib.hid h
  obtain ⟨st, HST⟩ : ∃ x, Hid (simT f [] lws lrs = x) := ⟨_, Lib.hid rfl⟩
  rw [HST.out] at HFu HLN ⊢
  have hx := heap_alloc_new w (.cells #[.pointer (some ⟨D, 0, none⟩)] 109)
  obtain ⟨q2, Hq2⟩ : ∃ q, Hid (lws.length = q) := ⟨_, Lib.hid rfl⟩
  obtain ⟨q3, Hq3⟩ : ∃ q, Hid (lrs.length = q) := ⟨_, Lib.hid rfl⟩
  rw [Hq2.out, Hq3.out]
  rw [Hq2.out] at K2 l2
  rw [Hq3.out] at K3 l3
  obtain ⟨w3, Hw3⟩ : ∃ x, Hid (((w.alloc (Obj.cells #[Value.pointer (some ⟨D, 0, none⟩)] 109)).alloc (Obj.cells #[Value.int IntKind.i64 kd, Value.string nm, Value.slice a1 0 c1, Value.slice a2 q2 c2, Value.slice a3 q3 c3, Value.slice a4 n4 c4, Value.slice a5 n5 c5] 51)).alloc (Obj.cells #[Value.string ⟨#[]⟩] 9) = x) := ⟨_, Lib.hid rfl⟩
  obtain ⟨G, HGG⟩ : ∃ g, Hid (w.heap.size + 1 + 1 = g) := ⟨_, Lib.hid rfl⟩
  have hz1 : (w.alloc (Obj.cells #[Value.pointer (some ⟨D, 0, none⟩)] 109)).heap.size = w.heap.size + 1 := by simp
  have HX : Hid (w3.heap[w.heap.size]? = some (.cells #[.pointer (some ⟨D, 0, none⟩)] 109 (0, 0))) := Lib.hid (by
    rw [← Hw3.out, Lib.alloc_old _ _ _ (by simp; omega), Lib.alloc_old _ _ _ (by simp), heap_alloc_new])
  have HSn : Hid (w3.heap[w.heap.size + 1]? = some (.cells #[.int .i64 kd, .string nm, .slice a1 0 c1, .slice a2 q2 c2, .slice a3 q3 c3, .slice a4 n4 c4, .slice a5 n5 c5] 51 (0, 0))) := Lib.hid (by
    rw [← Hw3.out, Lib.alloc_old _ _ _ (by simp), ← hz1, heap_alloc_new])
  have HG : Hid (w3.heap[G]? = some (.cells #[.string ⟨#[]⟩] 9 (0, 0))) := Lib.hid (by
    rw [← Hw3.out, ← HGG.out, show w.heap.size + 1 + 1 = ((w.alloc (Obj.cells #[Value.pointer (some ⟨D, 0, none⟩)] 109)).alloc (Obj.cells #[Value.int IntKind.i64 kd, Value.string nm, Value.slice a1 0 c1, Value.slice a2 q2 c2, Value.slice a3 q3 c3, Value.slice a4 n4 c4, Value.slice a5 n5 c5] 51)).heap.size from by simp, heap_alloc_new])
  have Hb3 : Hid (Below w.heap.size w w3) := Lib.hid (by
    rw [← Hw3.out]
    exact (((Below.refl w.heap.size w).alloc (Nat.le_refl _) _).alloc (by simp) _).alloc (by simp; omega) _)
  have HD0 := Lib.hid h.lt
  have HSim : Hid (Sim B D G rest full (lws.map (wdT f) ++ lrs.map (redT f)) w w3 w3) := Lib.hid ⟨⟨v, acc0, ⟨#[]⟩, h.below Hb3.out, HG.out, by decide, by rw [← HFu.out, ← HST.out]; unfold simT; simp [ls]⟩, ⟨Nat.le_refl _, fun _ _ _ _ _ => rfl⟩, Hb3.out.mono hBw⟩
  clear h2 h3 hf hr hb h hlen hBw hx
  go_enter Tryz.func93, Tryz.ntmps93
  go_upto_region 3 with fail
  rw [Hw3.out, HGG.out]
  have s2 : w3.cell? ⟨w.heap.size + 1, 2, none⟩ = some (.slice a1 0 c1) := cells_at HSn.out (i := 2) rfl
  have s3 : w3.cell? ⟨w.heap.size + 1, 3, none⟩ = some (.slice a2 q2 c2) := cells_at HSn.out (i := 3) rfl
  go_wp2
  go_loop [16] (fun i => i = .int .i64 0) (fun i => 0)
  case atStart => rfl
  case round =>
    subst hrel
    go_wp2
    go_loopw [35] (RelS (wdT f) lws (lrs.map (redT f)) B D G rest full w w3) (fun i _ => q2 - (intOf i).toNat)
    case atStart => exact ⟨0, Nat.zero_le _, rfl, by rw [List.drop_zero]; exact HSim.out⟩
    case round =>
      obtain ⟨k, hk, rfl, hsim⟩ := hrel
      rename World => wx
      rw [Hq2.out] at hk
      have HS := Lib.hid hsim
      have hbx := (HB0.out.trans hsim.bl).mono HWB.out
      clear hsim
      by_cases hlt : k < q2
      · have hlt' : k < lws.length := by rw [Hq2.out]; exact hlt
        obtain ⟨b, off, c', u, e, hc, hcell, hu⟩ := one_at K2.out k hlt'
        obtain ⟨ua, uc, rfl⟩ := wd_shape _ _ _ _ hu
        rw [Hq2.out] at e hc
        cases e
        have HDC := Lib.hid (drop_cons_map (wdT f) lws k hlt' (lrs.map (redT f)))
        have HPf := Lib.hid (HF.out lws[k] (List.getElem_mem hlt'))
        obtain ⟨x, Hx⟩ : ∃ x, Hid (lws[k] = x) := ⟨_, Lib.hid rfl⟩
        rw [Hx.out] at HDC HPf hu hcell
        replace hcell := cell_low hcell hbx
        obtain ⟨⟨v1, acc, g, i1, i2, i3, i4⟩, i5, i6⟩ := HS.out
        rw [HDC.out, gj_cons] at i4
        have hlen := HLN.out
        rw [HFu.out, i4] at hlen
        simp only [List.length_append, ls_len] at hlen
        obtain ⟨cs, hcs⟩ := i1.ty
        have hxx := ke2_cell i5 HX.out (by have := HD0.out; omega) (by have := HGG.out; omega) (by decide)
        have hgd := ne_ty i2 hcs (by decide)
        have CA := Lib.hid (apart111 B D w.heap.size G rest v1 acc g 109 wx i1 hxx i2 (by decide) (by decide) (by have := HGG.out; have := HBw.out; omega) (by omega) (Nat.le_trans HBw.out i6.size))
        have HN := Lib.hid (And.intro i5 (And.intro i6 (And.intro hgd hlen)))
        have HI4 := Lib.hid i4
        clear i1 i2 i4 i5 i6 hcs hxx hgd hlen hbx
        go_wp2_with fail
        refine CA.out.mono ?_
        rintro e w4 ⟨rfl, v2, j1, j2, j3, j4⟩
        have hx4 := ke2_cell (HN.out.1.trans j3) HX.out (by have := HD0.out; omega) (by have := HGG.out; omega) (by decide)
        have x4 : w4.cell? ⟨w.heap.size, 0, none⟩ = some (.pointer (some ⟨D, 0, none⟩)) := cells_at hx4 (i := 0) rfl
        have CW := Lib.hid (word105 n f W0 B D rest v2 (acc ++ ls g) (.slice ua x.length uc) x w4 HPf.out hu HWB.out ((HB0.out.trans HN.out.2.1).trans j4) j1 (by have := HN.out.2.2.2; simp only [List.length_append, ls_len]; unfold wdT at this; omega) (Nat.le_trans HBw.out (Nat.le_trans HN.out.2.1.size j4.size)))
        have HJ := Lib.hid (And.intro j2 (And.intro j3 j4))
        generalize hux : x.length = nu at hcell CW
        clear j1 j2 j3 j4 hx4 hu hux
        go_wp2_with fail
        refine CW.out.mono ?_
        rintro e w5 ⟨rfl, v5, m1, m2, m3⟩
        have hg5 := ke_cell m2 HJ.out.1 HN.out.2.2.1 (by decide)
        have HRel : Hid (RelS (wdT f) lws (lrs.map (redT f)) B D G rest full w w3 (.int .i64 ((k : Int) + 1)) w5) := Lib.hid ⟨k + 1, hlt', by go_num, ⟨⟨v5, _, ⟨#[32]⟩, m1, hg5, by decide, by rw [HI4.out]; simp [wdT, ls]⟩, (HN.out.1.trans HJ.out.2.1).trans (Ke2.of m2), (HN.out.2.1.trans HJ.out.2.2).trans m3⟩⟩
        clear m1 m2 m3 hg5 hcell
        go_wp2
        go_round
        case rel => exact HRel.out
        case measure => simp [intOf]; omega
      · have hkq : q2 = k := by omega
        subst hkq
        have HS3 : Hid (Sim B D G rest full (lrs.map (redT f)) w w3 wx) := Lib.hid (by
          have := HS.out
          rw [List.drop_of_length_le (by rw [Hq2.out]; exact Nat.le_refl _)] at this
          exact this)
        have hs4 := ke2_cell HS3.out.k2 HSn.out (by have := HD0.out; omega) (by have := HGG.out; omega) (by decide)
        have s4 : wx.cell? ⟨w.heap.size + 1, 4, none⟩ = some (.slice a3 q3 c3) := cells_at hs4 (i := 4) rfl
        clear hs4 hbx HS
        go_wp2
        go_loopw [48] (RelS (redT f) lrs [] B D G rest full w w3) (fun i _ => q3 - (intOf i).toNat)
        case atStart => exact ⟨0, Nat.zero_le _, rfl, by rw [List.drop_zero, List.append_nil]; exact HS3.out⟩
        case round =>
          clear HS3
          obtain ⟨k, hk, rfl, hsim⟩ := hrel
          rename World => wx
          rw [Hq3.out] at hk
          have HS := Lib.hid hsim
          have hbx := (HB0.out.trans hsim.bl).mono HWB.out
          clear hsim
          by_cases hlt : k < q3
          · have hlt' : k < lrs.length := by rw [Hq3.out]; exact hlt
            obtain ⟨b, off, c', wa, wc, e, hfit, hwd, c0, c1', c2', c3'⟩ := rd_at K3.out k hlt'
            rw [Hq3.out] at e
            cases e
            have HDC := Lib.hid (drop_cons_map (redT f) lrs k hlt' [])
            have HPr := Lib.hid (HR.out lrs[k] (List.getElem_mem hlt'))
            obtain ⟨x, Hx⟩ : ∃ x, Hid (lrs[k] = x) := ⟨_, Lib.hid rfl⟩
            rw [Hx.out] at HDC HPr hwd c0 c1' c2' c3' hfit
            replace c0 := cell_low c0 hbx
            replace c1' := cell_low c1' hbx
            replace c2' := cell_low c2' hbx
            replace c3' := cell_low c3' hbx
            obtain ⟨⟨v1, acc, g, i1, i2, i3, i4⟩, i5, i6⟩ := HS.out
            rw [HDC.out, gj_cons] at i4
            have hlen := HLN.out
            rw [HFu.out, i4] at hlen
            simp only [List.length_append, ls_len] at hlen
            obtain ⟨cs, hcs⟩ := i1.ty
            have hxx := ke2_cell i5 HX.out (by have := HD0.out; omega) (by have := HGG.out; omega) (by decide)
            have hgd := ne_ty i2 hcs (by decide)
            have hglt := lt_of_block i2
            have hDl := i1.lt
            generalize hux : x.word.length = nu at c3' 
            have ha := (Below.refl wx.heap.size wx).alloc (Nat.le_refl _) (.cells #[.int .i64 x.fd, .string x.op, .string x.tag, .slice wa nu wc] 44)
            have hn := heap_alloc_new wx (.cells #[.int .i64 x.fd, .string x.op, .string x.tag, .slice wa nu wc] 44)
            have hsz := Nat.le_trans HBw.out i6.size
            have CA := Lib.hid (apart111 B D w.heap.size G rest v1 acc g 109 _ (i1.below ha) ((ha.block _ (lt_of_block hxx)).trans hxx) ((ha.block _ hglt).trans i2) (by decide) (by decide) (by have := HGG.out; have := HBw.out; omega) (by omega) (Nat.le_trans hsz ha.size))
            have HN := Lib.hid (And.intro (i5.trans (Ke2.of (Ke.of_below ha))) (And.intro (i6.trans ((Below.refl B wx).alloc hsz (.cells #[.int .i64 x.fd, .string x.op, .string x.tag, .slice wa nu wc] 44))) (And.intro hgd (And.intro hlen (And.intro hn (And.intro (show wx.heap.size ≠ D by omega) (show wx.heap.size ≠ G by omega)))))))
            have HI4 := Lib.hid i4
            have HUX := Lib.hid hux
            clear i1 i2 i4 i5 i6 hcs hxx hgd hlen hbx ha hn hsz hglt hDl hux hfit
            go_wp2_with fail
            generalize wx.alloc (.cells #[.int .i64 x.fd, .string x.op, .string x.tag, .slice wa nu wc] 44) = wy at CA HN ⊢
            refine CA.out.mono ?_
            rintro e w4 ⟨rfl, v2, j1, j2, j3, j4⟩
            have hx4 := ke2_cell (HN.out.1.trans j3) HX.out (by have := HD0.out; omega) (by have := HGG.out; omega) (by decide)
            have x4 : w4.cell? ⟨w.heap.size, 0, none⟩ = some (.pointer (some ⟨D, 0, none⟩)) := cells_at hx4 (i := 0) rfl
            have hy4 := ke2_cell j3 HN.out.2.2.2.2.1 HN.out.2.2.2.2.2.1 HN.out.2.2.2.2.2.2 (by decide)
            have y0 : w4.cell? ⟨wx.heap.size, 0, none⟩ = some (.int .i64 x.fd) := cells_at hy4 (i := 0) rfl
            have y1 : w4.cell? ⟨wx.heap.size, 1, none⟩ = some (.string x.op) := cells_at hy4 (i := 1) rfl
            have y2 : w4.cell? ⟨wx.heap.size, 2, none⟩ = some (.string x.tag) := cells_at hy4 (i := 2) rfl
            have y3 : w4.cell? ⟨wx.heap.size, 3, none⟩ = some (.slice wa nu wc) := cells_at hy4 (i := 3) rfl
            have CW := Lib.hid (HPr.out v2 (acc ++ ls g) wa wc w4 hwd ((HB0.out.trans HN.out.2.1).trans j4) j1 (by have := HN.out.2.2.2.1; simp only [List.length_append, ls_len]; omega) (Nat.le_trans HBw.out (Nat.le_trans HN.out.2.1.size j4.size)))
            rw [HUX.out] at CW
            have HJ := Lib.hid (And.intro j2 (And.intro j3 j4))
            clear j1 j2 j3 j4 hx4 hy4 hwd
            go_wp2_with fail
            refine CW.out.mono ?_
            rintro e w5 ⟨rfl, v5, m1, m2, m3⟩
            have hg5 := ke_cell m2 HJ.out.1 HN.out.2.2.1 (by decide)
            have HRel : Hid (RelS (redT f) lrs [] B D G rest full w w3 (.int .i64 ((k : Int) + 1)) w5) := Lib.hid ⟨k + 1, hlt', by go_num, ⟨⟨v5, _, ⟨#[32]⟩, m1, hg5, by decide, by rw [HI4.out]; simp [ls]⟩, (HN.out.1.trans HJ.out.2.1).trans (Ke2.of m2), (HN.out.2.1.trans HJ.out.2.2).trans m3⟩⟩
            clear m1 m2 m3 hg5 c0 c1' c2' c3' y0 y1 y2 y3 x4
            go_wp2
            go_round
            case rel => exact HRel.out
            case measure => simp [intOf]; omega
          · have hkq : q3 = k := by omega
            subst hkq
            have HS4 : Hid (Wrote B D rest acc0 st w (.returned (.tuple #[])) wx) := Lib.hid (by
              obtain ⟨⟨v1, acc, g, i1, i2, i3, i4⟩, i5, i6⟩ := HS.out
              rw [List.drop_of_length_le (by rw [Hq3.out]; exact Nat.le_refl _)] at i4
              refine ⟨rfl, v1, ?_, Ke2.new (Ke.of_below Hb3.out) (by have := HGG.out; omega) i5, i6⟩
              rw [HFu.out, i4]
              simpa [gj] using i1)
            clear hbx HS
            go_wp2
            go_end0
            exact HS4.out
end Go.Proofs.YtfaohicadahcjaaGreatDoor
