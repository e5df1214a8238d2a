/- The tables that the row lists, as they are read (Env). No condition but the row's own. -/
import Derived.Test.YtohjpclpeiidfaaDoorY
import Derived.Test.YtohjpclpeiidfaaDoorZ
import Derived.MakeChecks
import Derived.Lib.LaidTab
namespace Go.Proofs.YtohjpclpeiidfaaDoor
open Go.RowKit Go.PlainAid
set_option linter.unusedSimpArgs false
set_option linter.unusedVariables false
namespace Fl

theorem pair_cell {H : Type} {enc : TypeId × Value → H} {P : Program} {w : World} {base : Nat} {sp : Nat → Bool} {held : Bool} {fuel : Nat} {t e : TypeId} {n : Nat} {f0 f1 : Field} {cs : List Value} {rows : List (Nat × Nat)} {p : List MemPlace}
    (ht : P.underlying t = some (.array n e)) (hs : P.underlying e = some (.struct #[f0, f1])) (h0 : P.underlying f0.type = some (.int .u64)) (h1 : P.underlying f1.type = some (.int .u64)) (ho0 : f0.offset = 0) (ho1 : f1.offset = 1)
    (hc0 : P.cellsOf f0.type = 1) (hc1 : P.cellsOf f1.type = 1) (hce : P.cellsOf e = 2)
    (h : DataW.trod enc P w base sp held fuel t cs = some (.agg (rows.map fun x => .agg [.lit (.int .u64 x.1), .lit (.int .u64 x.2)]), p)) (i : Nat) (x : Nat × Nat) (hx : rows[i]? = some x) (hi : i < n) :
    cs[i * 2]? = some (.int .u64 x.1) ∧ cs[i * 2 + 1]? = some (.int .u64 x.2) := by
  cases fuel with
  | zero => simp [DataW.trod] at h
  | succ fuel =>
    simp only [DataW.trod, ht, hce] at h
    split at h
    · obtain ⟨xs, hm, hxx⟩ := Option.map_eq_some_iff.1 h
      have hxs : xs.map (·.1) = rows.map fun x => (DataW.agg [.lit (.int .u64 x.1), .lit (.int .u64 x.2)] : DataW H) := by
        have := congrArg Prod.fst hxx
        simpa using this
      obtain ⟨b, hb, hf⟩ := Lib.mapM_at hm i i (by simp [hi])
      have h2 : (xs.map (·.1))[i]? = some b.1 := by simp [hb]
      rw [hxs] at h2
      simp only [List.getElem?_map, hx, Option.map_some, Option.some.injEq] at h2
      obtain ⟨ys, k, _, rfl, _, hyl, hfld⟩ := DataW.trod_struct hs hf
      have hyl : ys.length = 2 := hyl
      have g0 := hfld 0 f0 rfl
      have g1 := hfld 1 f1 rfl
      rw [ho0, hc0] at g0
      rw [ho1, hc1] at g1
      rw [List.getElem?_eq_getElem (by omega)] at g0 g1
      obtain ⟨z0, e0, y0, _⟩ := DataW.trod_int h0 g0
      obtain ⟨z1, e1, y1, _⟩ := DataW.trod_int h1 g1
      simp only [DataW.agg.injEq] at h2
      have m0 : (ys.map (·.1))[0]? = some (ys[0]'(by omega)).1 := by simp [List.getElem?_map, List.getElem?_eq_getElem (show 0 < ys.length by omega)]
      have m1 : (ys.map (·.1))[1]? = some (ys[1]'(by omega)).1 := by simp [List.getElem?_map, List.getElem?_eq_getElem (show 1 < ys.length by omega)]
      rw [← h2, y0] at m0
      rw [← h2, y1] at m1
      simp at m0 m1
      have c0 := congrArg (·[0]?) e0
      have c1 := congrArg (·[0]?) e1
      simp [List.getElem?_take, List.getElem?_drop] at c0 c1
      exact ⟨by rw [c0, m0], by rw [c1, m1]⟩
    · cases h

theorem env_of (W : World) (h : laidMetH Tryd.prog Rows.gainShowsRow.laid W) : Env W := by
  rw [MakeChecks.laidMetH_plain _ _ _ (by kernel_rfl)] at h
  obtain ⟨ps, ⟨g1, t1, cs1, f1, p1, q1, _, _, _, _, ⟨g2, t2, cs2, f2, p2, q2, hg2, hty2, hvar2, hd2, ⟨g3, t3, cs3, f3, p3, q3, hg3, hty3, hvar3, hd3, ⟨g4, t4, cs4, f4, p4, q4, hg4, hty4, hvar4, hd4, ⟨g5, t5, cs5, f5, p5, q5, hg5, hty5, hvar5, hd5, ⟨g6, t6, cs6, f6, p6, q6, hg6, hty6, hvar6, hd6, hr6⟩, _⟩, _⟩, _⟩, _⟩, _⟩, _⟩ := h
  obtain rfl := Option.some.inj ((show Tryd.prog.globalNamed "internal/strconv.optimize" = some 1 by kernel_rfl).symm.trans hg3)
  obtain rfl := Option.some.inj ((show Tryd.prog.globalNamed "internal/strconv.uint64pow10" = some 2 by kernel_rfl).symm.trans hg4)
  obtain rfl := Option.some.inj ((show Tryd.prog.globalNamed "internal/strconv.pow10Tab" = some 3 by kernel_rfl).symm.trans hg6)
  obtain rfl := Option.some.inj ((show (Tryd.prog.globals[1]?).map (·.type) = some 4 by kernel_rfl).symm.trans hty3)
  obtain rfl := Option.some.inj ((show (Tryd.prog.globals[2]?).map (·.type) = some 88 by kernel_rfl).symm.trans hty4)
  obtain rfl := Option.some.inj ((show (Tryd.prog.globals[3]?).map (·.type) = some 98 by kernel_rfl).symm.trans hty6)
  have hd4' : DataW.trod (fun _ => ()) Tryd.prog W 0 (fun _ => true) false f4 88 cs4.toList = some (Lib.tabData .u64 Lib.pow10Tab, p4) := hd4
  have hd6' : DataW.trod (fun _ => ()) Tryd.prog W 0 (fun _ => true) false f6 98 cs6.toList = some (.agg (Go.Pinned.pow10Rows.map fun x => .agg [.lit (.int .u64 x.1), .lit (.int .u64 x.2)]), p6) := hd6
  have hd3' : DataW.trod (fun _ => ()) Tryd.prog W 0 (fun _ => true) false f3 4 cs3.toList = some (.lit (.bool true), p3) := hd3
  obtain ⟨b3, e3, x3⟩ := DataW.trod_bool Tryd.underlying4 hd3'
  have hb3 : b3 = true := by
    have := congrArg Prod.fst x3
    simpa using this.symm
  subst hb3
  have hstruct : Tryd.prog.underlying 97 = some (.struct #[{ name := "hi", type := 35, offset := 0, embedded := false, tag := "", pkgPath := "internal/strconv", byteOffset := 0 }, { name := "lo", type := 35, offset := 1, embedded := false, tag := "", pkgPath := "internal/strconv", byteOffset := 8 }]) := by kernel_rfl
  have hp := fun i x hx hi => pair_cell (n := 696) (show Tryd.prog.underlying 98 = some (.array 696 97) by kernel_rfl) hstruct Tryd.underlying35 Tryd.underlying35 rfl rfl (by kernel_rfl) (by kernel_rfl) (by kernel_rfl) hd6' i x hx hi
  have q3 := hp 351 (18014398509481984000, 0) (by kernel_rfl) (by decide)
  have q4 := hp 352 (11258999068426240000, 0) (by kernel_rfl) (by decide)
  refine ⟨?_, ?_, ?_, ?_, ?_, ?_⟩
  · unfold Tab Lib.TabIs
    rw [hvar4, ← Lib.cells_of_tab Tryd.underlying88 Tryd.underlying35 (by kernel_rfl) (by kernel_rfl) hd4', Array.toArray_toList]
  · have := World.var?_cell hg3 hvar3 0
    rw [this, ← Array.getElem?_toList, e3]; rfl
  · have := World.var?_cell hg6 hvar6 702
    rw [this, ← Array.getElem?_toList]; exact q3.1
  · have := World.var?_cell hg6 hvar6 703
    rw [this, ← Array.getElem?_toList]; exact q3.2
  · have := World.var?_cell hg6 hvar6 704
    rw [this, ← Array.getElem?_toList]; exact q4.1
  · have := World.var?_cell hg6 hvar6 705
    rw [this, ← Array.getElem?_toList]; exact q4.2
theorem shows3' (n : Int) (x : Nat) (hx : (Lit.float .f64 x).wf = true) (W : World) (he : Env W) :
    Calls Tryd.prog 3 #[.int .i64 n, .float .f64 x] W fun e W' => e = .returned (.bool true) ∧ Below W.heap.size W W' := by
  have hx' : x < 18446744073709551616 := by
    have : x < 2 ^ 64 := by simpa [Lit.wf] using hx
    exact this
  refine shows3 n x (fun u neg => mk (sgn neg ++ fin (Lib.decDigits u))) hx' (fun u hu neg w => ?_) (fun _ _ => rfl) W he
  have := whole7 u hu neg w
  rw [← fin_is] at this
  exact this
end Fl
theorem env_of (W : World) (h : laidMetH Tryd.prog Rows.gainShowsRow.laid W) : Fl.Env W := Fl.env_of W h
end Go.Proofs.YtohjpclpeiidfaaDoor
