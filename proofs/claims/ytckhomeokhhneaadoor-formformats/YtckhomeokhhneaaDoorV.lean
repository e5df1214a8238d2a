/- The tables and errors that the rows list, as they are read (Env). No condition but the row's own. -/
import Derived.Test.YtckhomeokhhneaaDoorU
import Derived.MakeChecks
import Derived.Lib.LaidTab
import Derived.Stop.LaidErr
namespace Go.Proofs.YtckhomeokhhneaaDoor
open Go.RowKit Go.PlainAid

def deB64 : List Int := [0, 1, 56, 2, 57, 49, 28, 3, 61, 58, 42, 50, 38, 29, 17, 4, 62, 47, 59, 36, 45, 43, 51, 22, 53, 39, 33, 30, 24, 18, 12, 5, 63, 55, 48, 27, 60, 41, 37, 16, 46, 35, 44, 21, 52, 32, 23, 11, 54, 26, 40, 15, 34, 20, 31, 10, 25, 14, 19, 9, 13, 8, 7, 6]
theorem env_of (W : World) (h : laidMetH Tryd.prog Rows.formEscapesRow.laid W) : Env W := by
  rw [MakeChecks.laidMetH_plain _ _ _ (by kernel_rfl)] at h
  obtain ⟨ps, ⟨g1, t1, cs1, f1, p1, q1, _, _, _, _, ⟨g2, t2, cs2, f2, p2, q2, hg2, hty2, hvar2, hd2, ⟨g3, t3, cs3, f3, p3, q3, hg3, hty3, hvar3, hd3, ⟨g4, t4, cs4, f4, p4, q4, _, _, _, _, ⟨g5, t5, cs5, f5, p5, q5, hg5, hty5, hvar5, hd5, ⟨g6, t6, cs6, f6, p6, q6, hg6, hty6, hvar6, hd6, _, _⟩, _⟩, _⟩, _⟩, _⟩, _⟩, _⟩ := h
  obtain rfl := Option.some.inj ((show Tryd.prog.globalNamed "math/bits.deBruijn64tab" = some 8 by kernel_rfl).symm.trans hg2)
  obtain rfl := Option.some.inj ((show Tryd.prog.globalNamed "internal/strconv.uint64pow10" = some 3 by kernel_rfl).symm.trans hg3)
  obtain rfl := Option.some.inj ((show Tryd.prog.globalNamed "strconv.ErrRange" = some 2 by kernel_rfl).symm.trans hg5)
  obtain rfl := Option.some.inj ((show Tryd.prog.globalNamed "strconv.ErrSyntax" = some 1 by kernel_rfl).symm.trans hg6)
  obtain rfl := Option.some.inj ((show (Tryd.prog.globals[8]?).map (·.type) = some 147 by kernel_rfl).symm.trans hty2)
  obtain rfl := Option.some.inj ((show (Tryd.prog.globals[3]?).map (·.type) = some 124 by kernel_rfl).symm.trans hty3)
  obtain rfl := Option.some.inj ((show (Tryd.prog.globals[2]?).map (·.type) = some 75 by kernel_rfl).symm.trans hty5)
  obtain rfl := Option.some.inj ((show (Tryd.prog.globals[1]?).map (·.type) = some 75 by kernel_rfl).symm.trans hty6)
  have hd3' : DataW.trod (fun _ => ()) Tryd.prog W 0 (fun _ => true) false f3 124 cs3.toList = some (Lib.tabData .u64 Lib.pow10Tab, p3) := hd3
  have hd2' : DataW.trod (fun _ => ()) Tryd.prog W 0 (fun _ => true) false f2 147 cs2.toList = some (Lib.tabData .u8 deB64, p2) := hd2
  have e2 := Lib.cells_of_tab Tryd.underlying147 Tryd.underlying5 (by kernel_rfl) (by kernel_rfl) hd2'
  obtain ⟨_, u5, v5, e5, _⟩ := iface_of_trod Tryd.underlying75 hd5
  obtain ⟨_, u6, v6, e6, _⟩ := iface_of_trod Tryd.underlying75 hd6
  refine ⟨?_, ?_, ?_, ⟨u6, v6, ?_⟩, ⟨u5, v5, ?_⟩⟩
  · unfold Tab Lib.TabIs
    rw [hvar3, ← Lib.cells_of_tab Tryd.underlying124 Tryd.underlying62 (by kernel_rfl) (by kernel_rfl) hd3', Array.toArray_toList]
  · have := World.var?_cell hg2 hvar2 7
    rw [show (⟨8, 7, none⟩ : Addr) = ⟨8, 7, none⟩ from rfl, this]
    rw [← Array.getElem?_toList, e2]; rfl
  · have := World.var?_cell hg2 hvar2 15
    rw [this, ← Array.getElem?_toList, e2]; rfl
  · have := World.var?_cell hg6 hvar6 0
    rw [this, ← Array.getElem?_toList, e6]; rfl
  · have := World.var?_cell hg5 hvar5 0
    rw [this, ← Array.getElem?_toList, e5]; rfl
end Go.Proofs.YtckhomeokhhneaaDoor
