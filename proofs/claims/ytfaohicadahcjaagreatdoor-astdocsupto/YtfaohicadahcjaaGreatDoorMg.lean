/- Contracts: simple commands, written. Conditions: lengths below a bound. -/
import Derived.Test.YtfaohicadahcjaaGreatDoorMf
namespace Go.Proofs.YtfaohicadahcjaaGreatDoor
open Go.RowKit Go.PlainAid Go.ChangeShapes Go.WideShapes Go.ChangeAt
set_option linter.unusedSimpArgs false
set_option linter.unusedVariables false

theorem gj_cons (g x : List UInt8) (r : List (List UInt8)) : gj g (x :: r) = g ++ x ++ gj [32] r := rfl
def asT (f : Pt → List UInt8) (a : As) : List UInt8 := ls a.name ++ [61] ++ (a.word.map f).flatten
def wdT (f : Pt → List UInt8) (l : List Pt) : List UInt8 := (l.map f).flatten
def simT (f : Pt → List UInt8) (las : List As) (lws : List (List Pt)) (lrs : List Rd) : List UInt8 := gj [] (las.map (asT f) ++ lws.map (wdT f) ++ lrs.map (redT f))
/-- A simple command at work: what is written so far, the gap, what is to come. -/
structure Sim (B D G : Nat) (rest : List Value) (full : List UInt8) (tail : List (List UInt8)) (w w3 wx : World) : Prop where
  st : ∃ (v : Value) (acc : List UInt8) (g : ByteArray), IsBld B D 72 rest v acc wx ∧ wx.heap[G]? = some (.cells #[.string g] 9 (0, 0)) ∧ g.size ≤ 1 ∧ full = acc ++ gj (ls g) tail
  k2 : Ke2 D G w3 wx
  bl : Below B w wx
theorem drop_cons_map {α : Type} (f : α → List UInt8) (l : List α) (k : Nat) (h : k < l.length) (t : List (List UInt8)) : (l.drop k).map f ++ t = f l[k] :: ((l.drop (k + 1)).map f ++ t) := by
  rw [List.drop_eq_getElem_cons h]; rfl
def RelS {α : Type} (f : α → List UInt8) (l : List α) (t : List (List UInt8)) (B D G : Nat) (rest : List Value) (full : List UInt8) (w w3 : World) (i : Value) (wx : World) : Prop := ∃ k : Nat, k ≤ l.length ∧ i = .int .i64 k ∧ Sim B D G rest full ((l.drop k).map f ++ t) w w3 wx
set_option maxHeartbeats 32000000 in
set_option maxRecDepth 100000 in
theorem simple93 (n : Nat) (f : Pt → List UInt8) (W0 : World) (B D : Nat) (rest : List Value) (v : Value) (acc0 : List UInt8) (kd : Int) (nm : ByteArray) (a1 a2 a3 a4 a5 : Option Addr) (n4 n5 c1 c2 c3 c4 c5 : Nat) (lws : List (List Pt)) (lrs : List Rd) (w : World)
    (h2 : WsAt (n + 1) W0 (.slice a2 lws.length c2) lws) (h3 : RdsAt (n + 1) W0 (.slice a3 lrs.length c3) lrs) (hf : ∀ l ∈ lws, ∀ p ∈ l, PartOk n W0 B D rest p (f p)) (hr : ∀ r ∈ lrs, RedOk (n + 1) W0 B D rest r (redT f r)) (hWB : W0.heap.size ≤ B) (hb : Below B W0 w) (h : IsBld B D 72 rest v acc0 w) (hlen : (acc0 ++ simT f [] lws lrs).length ≤ 140737390000000) (hBw : B ≤ w.heap.size) :
    Calls Tryz.prog 93 #[.pointer (some ⟨D, 0, none⟩), .agg #[.int .i64 kd, .string nm, .slice a1 0 c1, .slice a2 lws.length c2, .slice a3 lrs.length c3, .slice a4 n4 c4, .slice a5 n5 c5]] w (Wrote B D rest acc0 (simT f [] lws lrs) w) := by
  obtain ⟨full, HFu⟩ : ∃ x, Hid (acc0 ++ simT f [] lws lrs = x) := ⟨_, Lib.hid rfl⟩
  have K2 := Lib.hid h2
  have K3 := Lib.hid h3
  have l2 := h2.len
  have l3 := h3.len
  have HF := Lib.hid hf
  have HR := Lib.hid hr
  have HWB := Lib.hid hWB
  have HB0 := Lib.hid hb
  have HLN := Lib.hid hlen
  have HBw := Lib.hid hBw
  have HI := Lib.hid h
  obtain ⟨st, HST⟩ : ∃ x, Hid (simT f [] lws lrs = x) := ⟨_, Lib.hid rfl⟩
  rw [HST.out] at HFu HLN ⊢
  have hx := heap_alloc_new w (.cells #[.pointer (some ⟨D, 0, none⟩)] 109)
  obtain ⟨q2, Hq2⟩ : ∃ q, Hid (lws.length = q) := ⟨_, Lib.hid rfl⟩
  obtain ⟨q3, Hq3⟩ : ∃ q, Hid (lrs.length = q) := ⟨_, Lib.hid rfl⟩
  rw [Hq2.out, Hq3.out]
  rw [Hq2.out] at K2 l2
  rw [Hq3.out] at K3 l3
  obtain ⟨w3, Hw3⟩ : ∃ x, Hid (((w.alloc (Obj.cells #[Value.pointer (some ⟨D, 0, none⟩)] 109)).alloc (Obj.cells #[Value.int IntKind.i64 kd, Value.string nm, Value.slice a1 0 c1, Value.slice a2 q2 c2, Value.slice a3 q3 c3, Value.slice a4 n4 c4, Value.slice a5 n5 c5] 51)).alloc (Obj.cells #[Value.string ⟨#[]⟩] 9) = x) := ⟨_, Lib.hid rfl⟩
  obtain ⟨G, HGG⟩ : ∃ g, Hid (w.heap.size + 1 + 1 = g) := ⟨_, Lib.hid rfl⟩
  have hz1 : (w.alloc (Obj.cells #[Value.pointer (some ⟨D, 0, none⟩)] 109)).heap.size = w.heap.size + 1 := by simp
  have HX : Hid (w3.heap[w.heap.size]? = some (.cells #[.pointer (some ⟨D, 0, none⟩)] 109 (0, 0))) := Lib.hid (by
    rw [← Hw3.out, Lib.alloc_old _ _ _ (by simp; omega), Lib.alloc_old _ _ _ (by simp), heap_alloc_new])
  have HSn : Hid (w3.heap[w.heap.size + 1]? = some (.cells #[.int .i64 kd, .string nm, .slice a1 0 c1, .slice a2 q2 c2, .slice a3 q3 c3, .slice a4 n4 c4, .slice a5 n5 c5] 51 (0, 0))) := Lib.hid (by
    rw [← Hw3.out, Lib.alloc_old _ _ _ (by simp), ← hz1, heap_alloc_new])
  have HG : Hid (w3.heap[G]? = some (.cells #[.string ⟨#[]⟩] 9 (0, 0))) := Lib.hid (by
    rw [← Hw3.out, ← HGG.out, show w.heap.size + 1 + 1 = ((w.alloc (Obj.cells #[Value.pointer (some ⟨D, 0, none⟩)] 109)).alloc (Obj.cells #[Value.int IntKind.i64 kd, Value.string nm, Value.slice a1 0 c1, Value.slice a2 q2 c2, Value.slice a3 q3 c3, Value.slice a4 n4 c4, Value.slice a5 n5 c5] 51)).heap.size from by simp, heap_alloc_new])
  have Hb3 : Hid (Below w.heap.size w w3) := Lib.hid (by
    rw [← Hw3.out]
    exact (((Below.refl w.heap.size w).alloc (Nat.le_refl _) _).alloc (by simp) _).alloc (by simp; omega) _)
  have HD0 := Lib.hid h.lt
  have HSim : Hid (Sim B D G rest full (lws.map (wdT f) ++ lrs.map (redT f)) w w3 w3) := Lib.hid ⟨⟨v, acc0, ⟨#[]⟩, h.below Hb3.out, HG.out, by decide, by rw [← HFu.out, ← HST.out]; unfold simT; simp [ls]⟩, ⟨Nat.le_refl _, fun _ _ _ _ _ => rfl⟩, Hb3.out.mono hBw⟩
  clear h2 h3 hf hr hb h hlen hBw hx
  go_enter Tryz.func93, Tryz.ntmps93
  go_upto_region 3 with fail
  rw [Hw3.out, HGG.out]
  have s2 : w3.cell? ⟨w.heap.size + 1, 2, none⟩ = some (.slice a1 0 c1) := cells_at HSn.out (i := 2) rfl
  have s3 : w3.cell? ⟨w.heap.size + 1, 3, none⟩ = some (.slice a2 q2 c2) := cells_at HSn.out (i := 3) rfl
  go_wp2
  go_loop [16] (fun i => i = .int .i64 0) (fun i => 0)
  case atStart => rfl
  case round =>
    subst hrel
    go_wp2
    go_loopw [35] (RelS (wdT f) lws (lrs.map (redT f)) B D G rest full w w3) (fun i _ => q2 - (intOf i).toNat)
    case atStart => exact ⟨0, Nat.zero_le _, rfl, by rw [List.drop_zero]; exact HSim.out⟩
    case round =>
      obtain ⟨k, hk, rfl, hsim⟩ := hrel
      rename World => wx
      rw [Hq2.out] at hk
      have HS := Lib.hid hsim
      have hbx := (HB0.out.trans hsim.bl).mono HWB.out
      clear hsim
      by_cases hlt : k < q2
      · have hlt' : k < lws.length := by rw [Hq2.out]; exact hlt
        obtain ⟨b, off, c', u, e, hc, hcell, hu⟩ := one_at K2.out k hlt'
        obtain ⟨ua, uc, rfl⟩ := wd_shape _ _ _ _ hu
        rw [Hq2.out] at e hc
        cases e
        have HDC := Lib.hid (drop_cons_map (wdT f) lws k hlt' (lrs.map (redT f)))
        have HPf := Lib.hid (HF.out lws[k] (List.getElem_mem hlt'))
        obtain ⟨x, Hx⟩ : ∃ x, Hid (lws[k] = x) := ⟨_, Lib.hid rfl⟩
        rw [Hx.out] at HDC HPf hu hcell
        replace hcell := cell_low hcell hbx
        obtain ⟨⟨v1, acc, g, i1, i2, i3, i4⟩, i5, i6⟩ := HS.out
        rw [HDC.out, gj_cons] at i4
        have hlen := HLN.out
        rw [HFu.out, i4] at hlen
        simp only [List.length_append, ls_len] at hlen
        obtain ⟨cs, hcs⟩ := i1.ty
        have hxx := ke2_cell i5 HX.out (by have := HD0.out; omega) (by have := HGG.out; omega) (by decide)
        have hgd := ne_ty i2 hcs (by decide)
        have CA := Lib.hid (apart111 B D w.heap.size G rest v1 acc g 109 wx i1 hxx i2 (by decide) (by decide) (by have := HGG.out; have := HBw.out; omega) (by omega) (Nat.le_trans HBw.out i6.size))
        have HN := Lib.hid (And.intro i5 (And.intro i6 (And.intro hgd hlen)))
        have HI4 := Lib.hid i4
        clear i1 i2 i4 i5 i6 hcs hxx hgd hlen hbx
        go_wp2_with fail
        refine CA.out.mono ?_
        rintro e w4 ⟨rfl, v2, j1, j2, j3, j4⟩
        have hx4 := ke2_cell (HN.out.1.trans j3) HX.out (by have := HD0.out; omega) (by have := HGG.out; omega) (by decide)
        have x4 : w4.cell? ⟨w.heap.size, 0, none⟩ = some (.pointer (some ⟨D, 0, none⟩)) := cells_at hx4 (i := 0) rfl
        have CW := Lib.hid (word105 n f W0 B D rest v2 (acc ++ ls g) (.slice ua x.length uc) x w4 HPf.out hu HWB.out ((HB0.out.trans HN.out.2.1).trans j4) j1 (by have := HN.out.2.2.2; simp only [List.length_append, ls_len]; unfold wdT at this; omega) (Nat.le_trans HBw.out (Nat.le_trans HN.out.2.1.size j4.size)))
        have HJ := Lib.hid (And.intro j2 (And.intro j3 j4))
        generalize hux : x.length = nu at hcell CW
        clear j1 j2 j3 j4 hx4 hu hux
        go_wp2_with fail
        refine CW.out.mono ?_
        rintro e w5 ⟨rfl, v5, m1, m2, m3⟩
        have hg5 := ke_cell m2 HJ.out.1 HN.out.2.2.1 (by decide)
        have HRel : Hid (RelS (wdT f) lws (lrs.map (redT f)) B D G rest full w w3 (.int .i64 ((k : Int) + 1)) w5) := Lib.hid ⟨k + 1, hlt', by go_num, ⟨⟨v5, _, ⟨#[32]⟩, m1, hg5, by decide, by rw [HI4.out]; simp [wdT, ls]⟩, (HN.out.1.trans HJ.out.2.1).trans (Ke2.of m2), (HN.out.2.1.trans HJ.out.2.2).trans m3⟩⟩
        clear m1 m2 m3 hg5 hcell
        go_wp2
        go_round
        case rel => exact HRel.out
        case measure => simp [intOf]; omega
      · have hkq : q2 = k := by omega
        subst hkq
        have HS3 : Hid (Sim B D G rest full (lrs.map (redT f)) w w3 wx) := Lib.hid (by
          have := HS.out
          rw [List.drop_of_length_le (by rw [Hq2.out]; exact Nat.le_refl _)] at this
          exact this)
        have hs4 := ke2_cell HS3.out.k2 HSn.out (by have := HD0.out; omega) (by have := HGG.out; omega) (by decide)
        have s4 : wx.cell? ⟨w.heap.size + 1, 4, none⟩ = some (.slice a3 q3 c3) := cells_at hs4 (i := 4) rfl
        clear hs4 hbx HS
        go_wp2
        go_loopw [48] (RelS (redT f) lrs [] B D G rest full w w3) (fun i _ => q3 - (intOf i).toNat)
        case atStart => exact ⟨0, Nat.zero_le _, rfl, by rw [List.drop_zero, List.append_nil]; exact HS3.out⟩
        case round =>
          clear HS3
          obtain ⟨k, hk, rfl, hsim⟩ := hrel
          rename World => wx
          rw [Hq3.out] at hk
          have HS := Lib.hid hsim
          have hbx := (HB0.out.trans hsim.bl).mono HWB.out
          clear hsim
          by_cases hlt : k < q3
          · have hlt' : k < lrs.length := by rw [Hq3.out]; exact hlt
            obtain ⟨b, off, c', wa, wc, e, hfit, hwd, c0, c1', c2', c3'⟩ := rd_at K3.out k hlt'
            rw [Hq3.out] at e
            cases e
            have HDC := Lib.hid (drop_cons_map (redT f) lrs k hlt' [])
            have HPr := Lib.hid (HR.out lrs[k] (List.getElem_mem hlt'))
            obtain ⟨x, Hx⟩ : ∃ x, Hid (lrs[k] = x) := ⟨_, Lib.hid rfl⟩
            rw [Hx.out] at HDC HPr hwd c0 c1' c2' c3' hfit
            replace c0 := cell_low c0 hbx
            replace c1' := cell_low c1' hbx
            replace c2' := cell_low c2' hbx
            replace c3' := cell_low c3' hbx
            obtain ⟨⟨v1, acc, g, i1, i2, i3, i4⟩, i5, i6⟩ := HS.out
            rw [HDC.out, gj_cons] at i4
            have hlen := HLN.out
            rw [HFu.out, i4] at hlen
            simp only [List.length_append, ls_len] at hlen
            obtain ⟨cs, hcs⟩ := i1.ty
            have hxx := ke2_cell i5 HX.out (by have := HD0.out; omega) (by have := HGG.out; omega) (by decide)
            have hgd := ne_ty i2 hcs (by decide)
            have hglt := lt_of_block i2
            have hDl := i1.lt
            generalize hux : x.word.length = nu at c3' 
            have ha := (Below.refl wx.heap.size wx).alloc (Nat.le_refl _) (.cells #[.int .i64 x.fd, .string x.op, .string x.tag, .slice wa nu wc] 44)
            have hn := heap_alloc_new wx (.cells #[.int .i64 x.fd, .string x.op, .string x.tag, .slice wa nu wc] 44)
            have hsz := Nat.le_trans HBw.out i6.size
            have CA := Lib.hid (apart111 B D w.heap.size G rest v1 acc g 109 _ (i1.below ha) ((ha.block _ (lt_of_block hxx)).trans hxx) ((ha.block _ hglt).trans i2) (by decide) (by decide) (by have := HGG.out; have := HBw.out; omega) (by omega) (Nat.le_trans hsz ha.size))
            have HN := Lib.hid (And.intro (i5.trans (Ke2.of (Ke.of_below ha))) (And.intro (i6.trans ((Below.refl B wx).alloc hsz (.cells #[.int .i64 x.fd, .string x.op, .string x.tag, .slice wa nu wc] 44))) (And.intro hgd (And.intro hlen (And.intro hn (And.intro (show wx.heap.size ≠ D by omega) (show wx.heap.size ≠ G by omega)))))))
            have HI4 := Lib.hid i4
            have HUX := Lib.hid hux
            clear i1 i2 i4 i5 i6 hcs hxx hgd hlen hbx ha hn hsz hglt hDl hux hfit
            go_wp2_with fail
            generalize wx.alloc (.cells #[.int .i64 x.fd, .string x.op, .string x.tag, .slice wa nu wc] 44) = wy at CA HN ⊢
            refine CA.out.mono ?_
            rintro e w4 ⟨rfl, v2, j1, j2, j3, j4⟩
            have hx4 := ke2_cell (HN.out.1.trans j3) HX.out (by have := HD0.out; omega) (by have := HGG.out; omega) (by decide)
            have x4 : w4.cell? ⟨w.heap.size, 0, none⟩ = some (.pointer (some ⟨D, 0, none⟩)) := cells_at hx4 (i := 0) rfl
            have hy4 := ke2_cell j3 HN.out.2.2.2.2.1 HN.out.2.2.2.2.2.1 HN.out.2.2.2.2.2.2 (by decide)
            have y0 : w4.cell? ⟨wx.heap.size, 0, none⟩ = some (.int .i64 x.fd) := cells_at hy4 (i := 0) rfl
            have y1 : w4.cell? ⟨wx.heap.size, 1, none⟩ = some (.string x.op) := cells_at hy4 (i := 1) rfl
            have y2 : w4.cell? ⟨wx.heap.size, 2, none⟩ = some (.string x.tag) := cells_at hy4 (i := 2) rfl
            have y3 : w4.cell? ⟨wx.heap.size, 3, none⟩ = some (.slice wa nu wc) := cells_at hy4 (i := 3) rfl
            have CW := Lib.hid (HPr.out v2 (acc ++ ls g) wa wc w4 hwd ((HB0.out.trans HN.out.2.1).trans j4) j1 (by have := HN.out.2.2.2.1; simp only [List.length_append, ls_len]; omega) (Nat.le_trans HBw.out (Nat.le_trans HN.out.2.1.size j4.size)))
            rw [HUX.out] at CW
            have HJ := Lib.hid (And.intro j2 (And.intro j3 j4))
            clear j1 j2 j3 j4 hx4 hy4 hwd
            go_wp2_with fail
            refine CW.out.mono ?_
            rintro e w5 ⟨rfl, v5, m1, m2, m3⟩
            have hg5 := ke_cell m2 HJ.out.1 HN.out.2.2.1 (by decide)
            have HRel : Hid (RelS (redT f) lrs [] B D G rest full w w3 (.int .i64 ((k : Int) + 1)) w5) := Lib.hid ⟨k + 1, hlt', by go_num, ⟨⟨v5, _, ⟨#[32]⟩, m1, hg5, by decide, by rw [HI4.out]; simp [ls]⟩, (HN.out.1.trans HJ.out.2.1).trans (Ke2.of m2), (HN.out.2.1.trans HJ.out.2.2).trans m3⟩⟩
            clear m1 m2 m3 hg5 c0 c1' c2' c3' y0 y1 y2 y3 x4
            go_wp2
            go_round
            case rel => exact HRel.out
            case measure => simp [intOf]; omega
          · have hkq : q3 = k := by omega
            subst hkq
            have HS4 : Hid (Wrote B D rest acc0 st w (.returned (.tuple #[])) wx) := Lib.hid (by
              obtain ⟨⟨v1, acc, g, i1, i2, i3, i4⟩, i5, i6⟩ := HS.out
              rw [List.drop_of_length_le (by rw [Hq3.out]; exact Nat.le_refl _)] at i4
              refine ⟨rfl, v1, ?_, Ke2.new (Ke.of_below Hb3.out) (by have := HGG.out; omega) i5, i6⟩
              rw [HFu.out, i4]
              simpa [gj] using i1)
            clear hbx HS
            go_wp2
            go_end0
            exact HS4.out
end Go.Proofs.YtfaohicadahcjaaGreatDoor

/- Contracts: lines without here-documents; simple commands as commands. Conditions: lengths below a bound. -/
namespace Go.Proofs.YtfaohicadahcjaaGreatDoor
open Go.RowKit Go.PlainAid Go.ChangeShapes Go.WideShapes Go.ChangeAt
set_option linter.unusedSimpArgs false
set_option linter.unusedVariables false
def nilS : Value := .slice none 0 0
theorem bld_rest {p : Value} {B D : Nat} {d d' : Value} {v : Value} {l : List UInt8} {w : World} (h : Bld p B D 72 [d] v l w) : Bld p B D 72 [d'] v l (w.setCell ⟨D, 2, none⟩ d') := by
  refine ⟨h.le, .inr ⟨rfl, d', rfl⟩, ?_, h.own.1, ?_⟩
  · simp [World.setCell, Array.getElem?_modify, h.blk]
  · rcases h.own.2 with h2 | ⟨g, cap, cur, e, h3, h4, h5⟩
    · exact .inl h2
    · exact .inr ⟨g, cap, cur, e, h3, (Below.heap_setCell _ _ _ _ (fun e2 => h.ne (by rw [e, e2]; rfl))).trans h4, h5⟩
set_option maxHeartbeats 4000000 in
set_option maxRecDepth 100000 in
theorem line68_nil (B D : Nat) (v : Value) (acc : List UInt8) (s : ByteArray) (w : World) (h : IsBld B D 72 [nilS] v acc w) (hlen : acc.length + s.size ≤ 140737390000000) (hBw : B ≤ w.heap.size) :
    Calls Tryz.prog 68 #[.pointer (some ⟨D, 0, none⟩), .string s] w (Wrote B D [nilS] acc (ls s ++ [10]) w) := by
  have C := Lib.hid (text_new B D [nilS] v acc [s, ⟨#[10]⟩] w h (by simp [flatS, ls_len]; omega) (by simp) hBw)
  rw [show flatS [s, ⟨#[10]⟩] = ls s ++ [10] from by simp [flatS, ls]] at C
  have HBD := Lib.hid (h.elim (·.le) (·.le))
  clear h
  go_enter Tryz.func68, Tryz.ntmps68
  go_wp2_with fail
  refine C.out.mono ?_
  rintro e w2 ⟨rfl, v2, h2, k2, b2⟩
  obtain ⟨p, hp⟩ : ∃ p, Bld p B D 72 [nilS] v2 (acc ++ (ls s ++ [10])) w2 := h2.elim (fun h => ⟨_, h⟩) (fun h => ⟨_, h⟩)
  have z2 : w2.cell? ⟨D, 2, none⟩ = some (.slice none 0 0) := by rw [Lib.cell_of_heap hp.blk]; rfl
  have zf : w2.frozen? ⟨D, 2, none⟩ = false := Lib.frozen_of_heap hp.blk 2
  have H2 := Lib.hid h2
  have HK := Lib.hid k2
  have HB := Lib.hid b2
  clear h2 k2 b2 hp
  go_wp2
  go_loop [15] (fun i => i = .int .i64 0) (fun i => 0)
  case atStart => rfl
  case round =>
    subst hrel
    go_wp2
    go_end0
    refine ⟨rfl, v2, ?_, HK.out.trans ⟨by simp [World.setCell], fun k _ hk _ => Below.heap_setCell _ _ _ _ (fun e => hk (by simp [e]))⟩, HB.out.setCell (p := ⟨D, 2, none⟩) HBD.out _⟩
    rcases H2.out with h | h
    · exact .inl (bld_rest h)
    · exact .inr (bld_rest h)
set_option maxHeartbeats 4000000 in
set_option maxRecDepth 100000 in
/-- A simple command without assignments. -/
theorem command67_simple (n : Nat) (f : Pt → List UInt8) (W0 : World) (B D : Nat) (v : Value) (acc0 : List UInt8) (nm : ByteArray) (a1 a2 a3 a4 a5 : Option Addr) (n4 n5 c1 c2 c3 c4 c5 : Nat) (lws : List (List Pt)) (lrs : List Rd) (w : World)
    (h2 : WsAt (n + 1) W0 (.slice a2 lws.length c2) lws) (h3 : RdsAt (n + 1) W0 (.slice a3 lrs.length c3) lrs) (hf : ∀ l ∈ lws, ∀ p ∈ l, PartOk n W0 B D [nilS] p (f p)) (hr : ∀ r ∈ lrs, RedOk (n + 1) W0 B D [nilS] r (redT f r)) (hWB : W0.heap.size ≤ B) (hb : Below B W0 w) (h : IsBld B D 72 [nilS] v acc0 w) (hlen : (acc0 ++ simT f [] lws lrs).length ≤ 140737390000000) (hBw : B ≤ w.heap.size) :
    Calls Tryz.prog 67 #[.pointer (some ⟨D, 0, none⟩), .agg #[.int .i64 1, .string nm, .slice a1 0 c1, .slice a2 lws.length c2, .slice a3 lrs.length c3, .slice a4 n4 c4, .slice a5 n5 c5]] w (Wrote B D [nilS] acc0 (simT f [] lws lrs) w) := by
  have hbb := (Below.refl w.heap.size w).alloc (Nat.le_refl _) (.cells #[.int .i64 1, .string nm, .slice a1 0 c1, .slice a2 lws.length c2, .slice a3 lrs.length c3, .slice a4 n4 c4, .slice a5 n5 c5] 51)
  have HBB := Lib.hid ((Below.refl B w).alloc hBw (.cells #[.int .i64 1, .string nm, .slice a1 0 c1, .slice a2 lws.length c2, .slice a3 lrs.length c3, .slice a4 n4 c4, .slice a5 n5 c5] 51))
  have HKe : Hid (Ke D w (w.alloc (.cells #[.int .i64 1, .string nm, .slice a1 0 c1, .slice a2 lws.length c2, .slice a3 lrs.length c3, .slice a4 n4 c4, .slice a5 n5 c5] 51))) := Lib.hid (Ke.of_below hbb)
  have C := Lib.hid (simple93 n f W0 B D [nilS] v acc0 1 nm a1 a2 a3 a4 a5 n4 n5 c1 c2 c3 c4 c5 lws lrs _ h2 h3 hf hr hWB (hb.trans HBB.out) (h.below hbb) hlen (Nat.le_trans hBw HBB.out.size))
  generalize simT f [] lws lrs = st at C hlen ⊢
  generalize lws.length = m2 at *
  generalize lrs.length = m3 at *
  clear h2 h3 hf hr hb h hlen hbb
  go_enter Tryz.func67, Tryz.ntmps67
  go_wp2_with fail
  refine C.out.mono ?_
  intro e w2 hw
  have HW := Lib.hid (show Wrote B D [nilS] acc0 st w e w2 from ⟨hw.1, by
    obtain ⟨_, v', a1, a2, a3⟩ := hw
    exact ⟨v', a1, HKe.out.trans a2, HBB.out.trans a3⟩⟩)
  obtain ⟨rfl, _⟩ := hw
  go_wp2
  go_end0
  exact HW.out
end Go.Proofs.YtfaohicadahcjaaGreatDoor

/- Contracts: commands without here-documents, written; Show. Conditions: lengths below a bound. -/
namespace Go.Proofs.YtfaohicadahcjaaGreatDoor
open Go.RowKit Go.PlainAid Go.ChangeShapes Go.WideShapes Go.ChangeAt
set_option linter.unusedSimpArgs false
set_option linter.unusedVariables false
/-- What command does with a command: it writes a text. -/
def NdOk (n : Nat) (W0 : World) (B D : Nat) (x : Nd) (t : List UInt8) : Prop :=
  ∀ (v : Value) (acc : List UInt8) (a1 a2 a3 a4 a5 : Option Addr) (c1 c2 c3 c4 c5 : Nat) (w : World), AssAt n W0 (.slice a1 x.assigns.length c1) x.assigns → WsAt n W0 (.slice a2 x.words.length c2) x.words → RdsAt n W0 (.slice a3 x.redirs.length c3) x.redirs → LsAt n W0 (.slice a4 x.lists.length c4) x.lists → ArsAt n W0 (.slice a5 x.arms.length c5) x.arms →
    Below B W0 w → IsBld B D 72 [nilS] v acc w → acc.length + t.length ≤ 140737390000000 → B ≤ w.heap.size →
    Calls Tryz.prog 67 #[.pointer (some ⟨D, 0, none⟩), .agg #[.int .i64 x.kind, .string x.name, .slice a1 x.assigns.length c1, .slice a2 x.words.length c2, .slice a3 x.redirs.length c3, .slice a4 x.lists.length c4, .slice a5 x.arms.length c5]] w (Wrote B D [nilS] acc t w)
def lnT (f : Nd → List UInt8) (x : Nd) : List UInt8 := f x ++ [10]
def Rel42 (f : Nd → List UInt8) (B D : Nat) (acc0 : List UInt8) (l : List Nd) (w : World) (i : Value) (wx : World) : Prop := ∃ (k : Nat) (v : Value) (acc : List UInt8), k ≤ l.length ∧ i = .int .i64 k ∧ IsBld B D 72 [nilS] v acc wx ∧ Ke D w wx ∧ Below B w wx ∧ Hid (acc0 ++ (l.map (lnT f)).flatten = acc ++ ((l.drop k).map (lnT f)).flatten)
set_option maxHeartbeats 8000000 in
set_option maxRecDepth 100000 in
theorem commands42_nil (n : Nat) (f : Nd → List UInt8) (W0 : World) (B D : Nat) (v : Value) (acc0 : List UInt8) (wv : Value) (l : List Nd) (w : World) (hf : ∀ x ∈ l, NdOk n W0 B D x (f x)) (hl : NsAt (n + 1) W0 wv l) (hWB : W0.heap.size ≤ B) (hb : Below B W0 w) (h : IsBld B D 72 [nilS] v acc0 w) (hlen : (acc0 ++ (l.map (lnT f)).flatten).length ≤ 140737390000000) (hBw : B ≤ w.heap.size) :
    Calls Tryz.prog 42 #[.pointer (some ⟨D, 0, none⟩), wv] w (Wrote B D [nilS] acc0 ((l.map (lnT f)).flatten) w) := by
  have HS := Lib.hid (show Rel42 f B D acc0 l w (.int .i64 0) w from ⟨0, v, acc0, Nat.zero_le _, rfl, h, Ke.refl _ _, Below.refl _ _, Lib.hid (by simp)⟩)
  have HF := Lib.hid hf
  have HL := Lib.hid hl
  have hll := ns_len _ _ _ _ hl
  obtain ⟨a, c, rfl⟩ := ns_shape _ _ _ _ hl
  have HBW := Lib.hid hBw
  have HB0 := Lib.hid hb
  have HLN := Lib.hid hlen
  have HWB := Lib.hid hWB
  obtain ⟨q, Hq⟩ : ∃ q, Hid (l.length = q) := ⟨_, Lib.hid rfl⟩
  rw [Hq.out] at HL hll ⊢
  clear h hf hl hb hlen hBw
  go_enter Tryz.func42, Tryz.ntmps42
  go_wp2
  go_loopw [8] (Rel42 f B D acc0 l w) (fun i _ => q - (intOf i).toNat)
  case atStart => exact HS.out
  case round =>
    clear HS
    obtain ⟨k, v, acc, hk, rfl, HD, HK, HB, HR⟩ := hrel
    rename World => wx
    rw [Hq.out] at hk
    have HD := Lib.hid HD
    have HK := Lib.hid HK
    have HB := Lib.hid HB
    by_cases hlt : k < q
    · have hlt' : k < l.length := by rw [Hq.out]; exact hlt
      obtain ⟨m, b, off, c', a1, a2, a3, a4, a5, c1, c2, c3, c4, c5, em, e, hc, hfit, ⟨i1, i2, i3, i4, i5⟩, p0, p1, p2, p3, p4, p5, p6⟩ := ns_at2 HL.out k hlt'
      obtain rfl : n = m := by omega
      rw [Hq.out] at e hc
      cases e
      have HC := Lib.hid (flatf_cut (lnT f) l k hlt')
      have HP := Lib.hid (HF.out l[k] (List.getElem_mem hlt'))
      obtain ⟨x, Hx⟩ : ∃ x, Hid (l[k] = x) := ⟨_, Lib.hid rfl⟩
      rw [Hx.out] at HC HP hfit i1 i2 i3 i4 i5 p0 p1 p2 p3 p4 p5 p6
      have hbx := (HB0.out.trans HB.out).mono HWB.out
      replace p0 := cell_low p0 hbx
      replace p1 := cell_low p1 hbx
      replace p2 := cell_low p2 hbx
      replace p3 := cell_low p3 hbx
      replace p4 := cell_low p4 hbx
      replace p5 := cell_low p5 hbx
      replace p6 := cell_low p6 hbx
      have hal : acc.length + (f x).length + 1 ≤ 140737390000000 := by
        have h1 := HLN.out
        rw [HR.out, HC.out] at h1
        simp only [List.length_append, lnT, List.length_cons, List.length_nil] at h1
        omega
      have hsz : B ≤ wx.heap.size := Nat.le_trans HBW.out HB.out.size
      have CP := Lib.hid fun (o : Obj) => HP.out v acc a1 a2 a3 a4 a5 c1 c2 c3 c4 c5 (wx.alloc o) i1 i2 i3 i4 i5 ((HB0.out.trans HB.out).trans ((Below.refl B wx).alloc hsz o)) (HD.out.below ((Below.refl wx.heap.size wx).alloc (Nat.le_refl _) o)) (by omega) (by simp; omega)
      have HX := Lib.hid fun (o : Obj) => And.intro (HK.out.trans (Ke.of_below ((Below.refl wx.heap.size wx).alloc (Nat.le_refl _) o))) (HB.out.trans ((Below.refl B wx).alloc hsz o))
      have HAL := Lib.hid hal
      generalize x.assigns.length = m1 at p2 CP
      generalize x.words.length = m2 at p3 CP
      generalize x.redirs.length = m3 at p4 CP
      generalize x.lists.length = m4 at p5 CP
      generalize x.arms.length = m5 at p6 CP
      clear hfit i1 i2 i3 i4 i5 hbx hal
      go_wp2_with fail
      refine (CP.out _).mono ?_
      rintro e w3 ⟨rfl, v3, j1, j2, j3⟩
      have CL := Lib.hid (line68_nil B D v3 (acc ++ f x) ⟨#[]⟩ w3 j1 (by have := HAL.out; simp only [List.length_append]; show _ + 0 ≤ _; omega) (Nat.le_trans HBW.out (Nat.le_trans (HX.out _).2.size j3.size)))
      have HN := Lib.hid (And.intro ((HX.out _).1.trans j2) ((HX.out _).2.trans j3))
      clear j1 j2 j3
      go_wp2_with fail
      refine CL.out.mono ?_
      rintro e w4 ⟨rfl, v4, j1, j2, j3⟩
      have HRel : Hid (Rel42 f B D acc0 l w (.int .i64 ((k : Int) + 1)) w4) := Lib.hid ⟨k + 1, v4, _, hlt', by go_num, j1, HN.out.1.trans j2, HN.out.2.trans j3, Lib.hid (by rw [HR.out, HC.out]; simp [lnT, ls])⟩
      clear j1 j2 j3
      go_wp2
      go_round
      case rel => exact HRel.out
      case measure => simp [intOf]; omega
    · obtain rfl : k = q := by omega
      have HE : Hid (acc0 ++ (l.map (lnT f)).flatten = acc) := Lib.hid (by rw [HR.out, List.drop_of_length_le (by rw [Hq.out]; exact Nat.le_refl _)]; simp)
      go_wp2
      go_end0
      exact ⟨rfl, v, by rw [HE.out]; exact HD.out, HK.out, HB.out⟩
set_option maxHeartbeats 4000000 in
set_option maxRecDepth 100000 in
theorem show13_nil (n : Nat) (f : Nd → List UInt8) (wv : Value) (l : List Nd) (w : World) (hf : ∀ x ∈ l, NdOk n w w.heap.size w.heap.size x (f x)) (hl : NsAt (n + 1) w wv l) (hlen : ((l.map (lnT f)).flatten).length ≤ 140737390000000) :
    Calls Tryz.prog 13 #[wv] w fun e w' => e = .returned (.string (mk (l.map (lnT f)).flatten)) ∧ Below w.heap.size w w' := by
  have hb := (Below.refl w.heap.size w).alloc (Nat.le_refl _) (.cells #[.pointer none, .slice none 0 0, .slice none 0 0] 72)
  have C := Lib.hid (commands42_nil n f w w.heap.size w.heap.size (.slice none 0 0) [] wv l _ hf hl (Nat.le_refl _) hb (wrt_new w.heap.size w (Nat.le_refl _)) (by simpa using hlen) hb.size)
  have HB := Lib.hid hb
  clear hb hl hf
  go_enter Tryz.func13, Tryz.ntmps13
  go_wp2_with fail
  generalize w.alloc (.cells #[.pointer none, .slice none 0 0, .slice none 0 0] 72) = w1 at C HB ⊢
  refine C.out.mono ?_
  rintro e w2 ⟨rfl, v2, j1, j2, j3⟩
  have CS := Lib.hid (str43 w.heap.size w.heap.size 72 [nilS] v2 _ w2 j1 (Nat.le_trans HB.out.size j3.size))
  have HB2 := Lib.hid (HB.out.trans j3)
  clear j1 j2 j3
  go_wp2_with fail
  refine CS.out.mono ?_
  rintro e w3 ⟨rfl, b3⟩
  have HB3 := Lib.hid (HB2.out.trans b3)
  clear b3
  go_wp2
  go_ret
  exact ⟨rfl, HB3.out⟩
end Go.Proofs.YtfaohicadahcjaaGreatDoor

/- Contracts: the anchor. Condition: the library's own variable holds some number. -/
namespace Go.Proofs.YtfaohicadahcjaaGreatDoor
open Go.RowKit Go.PlainAid Go.ChangeShapes Go.WideShapes Go.ChangeAt
set_option linter.unusedSimpArgs false
set_option linter.unusedVariables false
theorem seg_one {α : Type} {k : Nat} {C : World → List Value → α → Prop} {w : World} {b : Nat} {cs : Array Value} {T : TypeId} {fr : Nat × Nat} {x : α} (h : w.heap[b]? = some (.cells cs T fr)) (hC : C w cs.toList x) : Seg k C w (.slice (some ⟨b, 0, none⟩) 1 1) [x] := by
  refine ⟨by simp, .inr ⟨b, 0, 1, rfl, by simp, fun i y hi => ?_⟩⟩
  match i, hi with
  | 0, hi =>
    simp at hi
    subst hi
    refine ⟨cs.toList, fun j u hj => ?_, hC⟩
    simp only [Nat.zero_mul, Nat.add_zero, Nat.zero_add]
    exact cells_at h (by simpa using hj)
theorem seg_two {α : Type} {C : World → List Value → α → Prop} {w : World} {b : Nat} {u1 u2 : Value} {T : TypeId} {fr : Nat × Nat} {x y : α} (h : w.heap[b]? = some (.cells #[u1, u2] T fr)) (h1 : C w [u1] x) (h2 : C w [u2] y) : Seg 1 C w (.slice (some ⟨b, 0, none⟩) 2 2) [x, y] := by
  refine ⟨by simp, .inr ⟨b, 0, 2, rfl, by simp, fun i z hi => ?_⟩⟩
  match i, hi with
  | 0, hi =>
    simp at hi; subst hi
    refine ⟨[u1], fun j u hj => ?_, h1⟩
    match j, hj with
    | 0, hj => simp at hj; subst hj; exact cells_at h (i := 0) rfl
  | 1, hi =>
    simp at hi; subst hi
    refine ⟨[u2], fun j u hj => ?_, h2⟩
    match j, hj with
    | 0, hj => simp at hj; subst hj; exact cells_at h (i := 1) rfl
def pA : Pt := .mk 1 false ⟨#[101, 99, 104, 111]⟩ ⟨#[]⟩ [] []
def pB : Pt := .mk 1 true ⟨#[97, 32, 98]⟩ ⟨#[]⟩ [] []
def pX : Pt := .mk 1 false ⟨#[120]⟩ ⟨#[]⟩ [] []
def rA : Rd := .mk 1 ⟨#[62]⟩ ⟨#[]⟩ [pX]
def nA : Nd := .mk 1 ⟨#[]⟩ [] [[pA], [pB]] [rA] [] []
theorem pt_lit {w : World} {b : Nat} {T : TypeId} {fr : Nat × Nat} (q : Bool) (t : ByteArray) (ht : t.size ≤ 1048576) (h : w.heap[b]? = some (.cells #[.int .i64 1, .bool q, .string t, .string ⟨#[]⟩, .slice none 0 0, .slice none 0 0] T fr)) : WdAt 1 w (.slice (some ⟨b, 0, none⟩) 1 1) [.mk 1 q t ⟨#[]⟩ [] []] :=
  seg_one h ⟨_, _, rfl, ⟨rfl, ht, Nat.zero_le _⟩, ⟨rfl, _, _, rfl⟩, ⟨rfl, _, _, rfl⟩⟩
/-- The document's example, its words and redirections. -/
structure AncAt (a : Nat) (w : World) : Prop where
  h0 : w.heap[a]? = some (.cells #[.int .i64 1, .bool false, .string ⟨#[101, 99, 104, 111]⟩, .string ⟨#[]⟩, .slice none 0 0, .slice none 0 0] 55 (0, 0))
  h1 : w.heap[a + 1]? = some (.cells #[.int .i64 1, .bool true, .string ⟨#[97, 32, 98]⟩, .string ⟨#[]⟩, .slice none 0 0, .slice none 0 0] 55 (0, 0))
  h2 : w.heap[a + 2]? = some (.cells #[.slice (some ⟨a, 0, none⟩) 1 1, .slice (some ⟨a + 1, 0, none⟩) 1 1] 33 (0, 0))
  h3 : w.heap[a + 3]? = some (.cells #[.int .i64 1, .bool false, .string ⟨#[120]⟩, .string ⟨#[]⟩, .slice none 0 0, .slice none 0 0] 55 (0, 0))
  h4 : w.heap[a + 4]? = some (.cells #[.int .i64 1, .string ⟨#[62]⟩, .string ⟨#[]⟩, .slice (some ⟨a + 3, 0, none⟩) 1 1] 44 (0, 0))
theorem AncAt.low {a : Nat} {w w' : World} (h : AncAt a w) (hb : Below w.heap.size w w') : AncAt a w' := by
  have f : ∀ k o, w.heap[k]? = some o → w'.heap[k]? = some o := fun k o e => by
    have hk : k < w.heap.size := by
      rcases Nat.lt_or_ge k w.heap.size with h1 | h1
      · exact h1
      · rw [Array.getElem?_eq_none h1] at e; cases e
    rw [hb.block k hk, e]
  exact ⟨f _ _ h.h0, f _ _ h.h1, f _ _ h.h2, f _ _ h.h3, f _ _ h.h4⟩
abbrev ancCells (a : Nat) : Array Value := #[.int .i64 1, .string ⟨#[]⟩, .slice none 0 0, .slice (some ⟨a + 2, 0, none⟩) 2 2, .slice (some ⟨a + 4, 0, none⟩) 1 1, .slice none 0 0, .slice none 0 0]
theorem AncAt.ws {a : Nat} {w : World} (h : AncAt a w) : WsAt 1 w (.slice (some ⟨a + 2, 0, none⟩) 2 2) [[pA], [pB]] :=
  seg_two h.h2 ⟨_, rfl, pt_lit false _ (by decide) h.h0⟩ ⟨_, rfl, pt_lit true _ (by decide) h.h1⟩
theorem AncAt.rs {a : Nat} {w : World} (h : AncAt a w) : RdsAt 1 w (.slice (some ⟨a + 4, 0, none⟩) 1 1) [rA] :=
  seg_one h.h4 ⟨_, rfl, ⟨rfl, by decide, by decide, by decide⟩, pt_lit false _ (by decide) h.h3⟩
theorem AncAt.ns {a : Nat} {w : World} (h : AncAt a w) {b : Nat} (hb : w.heap[b]? = some (.cells (ancCells a) 51 (0, 0))) : NsAt 2 w (.slice (some ⟨b, 0, none⟩) 1 1) [nA] :=
  seg_one hb ⟨_, _, _, _, _, rfl, ⟨rfl, by decide⟩, Seg.nil, h.ws, h.rs, Seg.nil, Seg.nil⟩
theorem right_anc : rightM 2 [nA] 2 = true := by decide +kernel
def litF (p : Pt) : List UInt8 := litW p.text p.quoted
def simF (x : Nd) : List UInt8 := simT litF [] x.words x.redirs
theorem text_anc : (([nA].map (lnT simF)).flatten) = [101, 99, 104, 111, 32, 39, 97, 32, 98, 39, 32, 49, 62, 120, 10] := by decide +kernel
theorem nd_anc (w : World) (he : Env w) : NdOk 1 w w.heap.size w.heap.size nA (simF nA) := by
  intro v acc a1 a2 a3 a4 a5 c1 c2 c3 c4 c5 w' h1 h2 h3 h4 h5 hb h hlen hBw
  have hf : ∀ l ∈ nA.words, ∀ p ∈ l, PartOk 0 w w.heap.size w.heap.size [nilS] p (litF p) := by
    intro l hl p hp
    have : p.kind = 1 ∧ p.text.size ≤ 1048576 := by
      simp only [nA, Nd.words, List.mem_cons, List.not_mem_nil, or_false] at hl
      rcases hl with rfl | rfl
      · simp at hp; subst hp; exact ⟨rfl, by decide⟩
      · simp at hp; subst hp; exact ⟨rfl, by decide⟩
    exact part55_lit 0 w _ _ _ p this.1 this.2 he (Nat.le_refl _)
  have hr : ∀ r ∈ nA.redirs, RedOk 1 w w.heap.size w.heap.size [nilS] r (redT litF r) := by
    intro r hr
    simp only [nA, Nd.redirs, List.mem_cons, List.not_mem_nil, or_false] at hr
    subst hr
    refine redir96_plain 0 litF w _ _ _ rA 1 rfl (by decide) (by rw [toList_data]; rfl) ?_ (Nat.le_refl _)
    intro p hp
    simp only [rA, Rd.word, List.mem_cons, List.not_mem_nil, or_false] at hp
    subst hp
    exact part55_lit 0 w _ _ _ pX rfl (by decide) he (Nat.le_refl _)
  exact command67_simple 0 litF w _ _ v acc nA.name a1 a2 a3 a4 a5 _ _ c1 c2 c3 c4 c5 nA.words nA.redirs w' h2 h3 hf hr (Nat.le_refl _) hb h (by simpa [simF] using hlen) hBw
theorem show_anc (a b : Nat) (w : World) (h : AncAt a w) (hb : w.heap[b]? = some (.cells (ancCells a) 51 (0, 0))) (he : Env w) :
    Calls Tryz.prog 13 #[.slice (some ⟨b, 0, none⟩) 1 1] w fun e w' => e = .returned (.string ⟨#[101, 99, 104, 111, 32, 39, 97, 32, 98, 39, 32, 49, 62, 120, 10]⟩) ∧ Below w.heap.size w w' := by
  have := show13_nil 1 simF (.slice (some ⟨b, 0, none⟩) 1 1) [nA] w (fun x hx => by simp at hx; subst hx; exact nd_anc w he) (h.ns hb) (by rw [text_anc]; decide)
  rw [text_anc] at this
  exact this
theorem push_new (w : World) (o : Obj) (n : Nat) (h : w.heap.size = n) : (w.alloc o).heap[n]? = some o := by subst h; exact heap_alloc_new w o
theorem push_size (w : World) (o : Obj) (n : Nat) (h : w.heap.size = n) : (w.alloc o).heap.size = n + 1 := by simp [h]
theorem push_old (w : World) (o p : Obj) (n k : Nat) (h : w.heap.size = n) (hk : k < n) (hp : w.heap[k]? = some p) : (w.alloc o).heap[k]? = some p := by rw [Lib.alloc_old w o k (by omega)]; exact hp
theorem allocs6 (w : World) (o0 o1 o2 o3 o4 o5 : Obj) (n : Nat) (h : w.heap.size = n) : ((((((w.alloc o0).alloc o1).alloc o2).alloc o3).alloc o4).alloc o5).heap[n]? = some o0 ∧ ((((((w.alloc o0).alloc o1).alloc o2).alloc o3).alloc o4).alloc o5).heap[n + 1]? = some o1 ∧ ((((((w.alloc o0).alloc o1).alloc o2).alloc o3).alloc o4).alloc o5).heap[n + 2]? = some o2 ∧ ((((((w.alloc o0).alloc o1).alloc o2).alloc o3).alloc o4).alloc o5).heap[n + 3]? = some o3 ∧ ((((((w.alloc o0).alloc o1).alloc o2).alloc o3).alloc o4).alloc o5).heap[n + 4]? = some o4 ∧ ((((((w.alloc o0).alloc o1).alloc o2).alloc o3).alloc o4).alloc o5).heap[n + 5]? = some o5 := by
  have s0 := push_size w o0 n h
  have s1 := push_size (w.alloc o0) o1 (n + 1) s0
  have s2 := push_size _ o2 (n + 2) s1
  have s3 := push_size _ o3 (n + 3) s2
  have s4 := push_size _ o4 (n + 4) s3
  refine ⟨?_, ?_, ?_, ?_, ?_, ?_⟩
  · exact push_old _ _ _ _ _ s4 (by omega) (push_old _ _ _ _ _ s3 (by omega) (push_old _ _ _ _ _ s2 (by omega) (push_old _ _ _ _ _ s1 (by omega) (push_old _ _ _ _ _ s0 (by omega) (push_new _ _ _ h)))))
  · exact push_old _ _ _ _ _ s4 (by omega) (push_old _ _ _ _ _ s3 (by omega) (push_old _ _ _ _ _ s2 (by omega) (push_old _ _ _ _ _ s1 (by omega) (push_new _ _ _ s0))))
  · exact push_old _ _ _ _ _ s4 (by omega) (push_old _ _ _ _ _ s3 (by omega) (push_old _ _ _ _ _ s2 (by omega) (push_new _ _ _ s1)))
  · exact push_old _ _ _ _ _ s4 (by omega) (push_old _ _ _ _ _ s3 (by omega) (push_new _ _ _ s2))
  · exact push_old _ _ _ _ _ s4 (by omega) (push_new _ _ _ s3)
  · exact push_new _ _ _ s4
set_option maxHeartbeats 4000000 in
set_option maxRecDepth 100000 in
theorem anchor8 (w : World) (he : Env w) : Calls Tryz.prog 8 #[] w fun e w' => e = .returned (.bool true) ∧ Below w.heap.size w w' := by
  have HE := Lib.hid he
  clear he
  obtain ⟨wz, Hz⟩ : ∃ x, Hid ((((((w.alloc (.cells #[.int .i64 1, .bool false, .string ⟨#[101, 99, 104, 111]⟩, .string ⟨#[]⟩, .slice none 0 0, .slice none 0 0] 55)).alloc (.cells #[.int .i64 1, .bool true, .string ⟨#[97, 32, 98]⟩, .string ⟨#[]⟩, .slice none 0 0, .slice none 0 0] 55)).alloc (.cells #[.slice (some ⟨w.heap.size, 0, none⟩) 1 1, .slice (some ⟨w.heap.size + 1, 0, none⟩) 1 1] 33)).alloc (.cells #[.int .i64 1, .bool false, .string ⟨#[120]⟩, .string ⟨#[]⟩, .slice none 0 0, .slice none 0 0] 55)).alloc (.cells #[.int .i64 1, .string ⟨#[62]⟩, .string ⟨#[]⟩, .slice (some ⟨w.heap.size + 3, 0, none⟩) 1 1] 44)).alloc (.cells (ancCells w.heap.size) 51) = x) := ⟨_, Lib.hid rfl⟩
  have HA : Hid (AncAt w.heap.size wz) := Lib.hid (by
    rw [← Hz.out]
    obtain ⟨e0, e1, e2, e3, e4, e5⟩ := allocs6 w _ _ _ _ _ _ w.heap.size rfl
    exact ⟨e0, e1, e2, e3, e4⟩)
  have HN : Hid (wz.heap[w.heap.size + 5]? = some (.cells (ancCells w.heap.size) 51 (0, 0))) := Lib.hid (by
    rw [← Hz.out]
    exact (allocs6 w _ _ _ _ _ _ w.heap.size rfl).2.2.2.2.2)
  have HB : Hid (Below w.heap.size w wz) := Lib.hid (by
    rw [← Hz.out]
    exact ((((((Below.refl w.heap.size w).alloc (Nat.le_refl _) _).alloc (by simp) _).alloc (by simp; omega) _).alloc (by simp; omega) _).alloc (by simp; omega) _).alloc (by simp; omega) _)
  go_enter Tryz.func8, Tryz.ntmps8
  go_upto_region 2 with fail
  simp only [Nat.add_assoc, Nat.reduceAdd]
  rw [Hz.out]
  have n0 : wz.cell? ⟨w.heap.size + 5, 0, none⟩ = some (.int .i64 1) := cells_at HN.out (i := 0) rfl
  have n1 : wz.cell? ⟨w.heap.size + 5, 1, none⟩ = some (.string ⟨#[]⟩) := cells_at HN.out (i := 1) rfl
  have n2 : wz.cell? ⟨w.heap.size + 5, 2, none⟩ = some (.slice none 0 0) := cells_at HN.out (i := 2) rfl
  have n3 : wz.cell? ⟨w.heap.size + 5, 3, none⟩ = some (.slice (some ⟨w.heap.size + 2, 0, none⟩) 2 2) := cells_at HN.out (i := 3) rfl
  have n4 : wz.cell? ⟨w.heap.size + 5, 4, none⟩ = some (.slice (some ⟨w.heap.size + 4, 0, none⟩) 1 1) := cells_at HN.out (i := 4) rfl
  have n5 : wz.cell? ⟨w.heap.size + 5, 5, none⟩ = some (.slice none 0 0) := cells_at HN.out (i := 5) rfl
  have n6 : wz.cell? ⟨w.heap.size + 5, 6, none⟩ = some (.slice none 0 0) := cells_at HN.out (i := 6) rfl
  have hb1 := (Below.refl wz.heap.size wz).alloc (Nat.le_refl _) (.cells (ancCells w.heap.size) 51)
  have hn1 := heap_alloc_new wz (.cells (ancCells w.heap.size) 51)
  have HB1 := Lib.hid hb1
  have CR := Lib.hid (right11 2 _ [nA] _ 2 ((HA.out.low hb1).ns hn1) ((HE.out.on HB.out).on hb1) ⟨by decide, by decide⟩)
  rw [right_anc] at CR
  clear hb1 hn1
  go_wp2_with fail
  refine CR.out.mono ?_
  rintro e w2 ⟨rfl, b2⟩
  have b02 := HB1.out.trans (b2.mono HB1.out.size)
  have HB2 := Lib.hid (HB.out.trans (b02.mono HB.out.size))
  have HA2 := Lib.hid (HA.out.low b02)
  replace n0 := cell_low n0 b02
  replace n1 := cell_low n1 b02
  replace n2 := cell_low n2 b02
  replace n3 := cell_low n3 b02
  replace n4 := cell_low n4 b02
  replace n5 := cell_low n5 b02
  replace n6 := cell_low n6 b02
  have hb3 := (Below.refl w2.heap.size w2).alloc (Nat.le_refl _) (.cells (ancCells w.heap.size) 51)
  have CS := Lib.hid (show_anc w.heap.size w2.heap.size _ (HA2.out.low hb3) (heap_alloc_new w2 (.cells (ancCells w.heap.size) 51)) ((HE.out.on HB2.out).on hb3))
  have HB3 := Lib.hid (HB2.out.trans (hb3.mono HB2.out.size))
  clear b2 b02 hb3
  go_wp2_with fail
  refine CS.out.mono ?_
  rintro e w3 ⟨rfl, b3⟩
  have HB4 := Lib.hid (HB3.out.trans (b3.mono HB3.out.size))
  clear b3
  go_wp2
  go_ret
  exact ⟨rfl, HB4.out⟩
end Go.Proofs.YtfaohicadahcjaaGreatDoor
