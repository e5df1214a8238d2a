/- A number's digits in base 8, 10 and 16, ours; what the call reads of the program's tables (Env). Conditions: the tables read as they are laid. -/
import Derived.Test.YtckhomeokhhneaaDoorI
import Derived.Lib.AppendIntMem
import Derived.Lib.ItoaMem
import Derived.Great.BuildSlice
import Derived.Laws.IdiomStrings
namespace Go.Proofs.YtckhomeokhhneaaDoor
open Go.RowKit Go.PlainAid Go.Sort
set_option linter.unusedSimpArgs false
set_option linter.unusedVariables false

def Tab (w : World) : Prop := Lib.TabIs Tryd.prog w "internal/strconv.uint64pow10" .u64 Lib.pow10Tab
theorem tab_global : ∃ g, Tryd.prog.globalNamed "internal/strconv.uint64pow10" = some g := ⟨3, by kernel_rfl⟩
theorem Tab.below {w w' : World} (h : Tab w) (hb : Below w.heap.size w w') : Tab w' := by
  obtain ⟨g, hg⟩ := tab_global
  unfold Tab Lib.TabIs World.var? at h ⊢
  rw [hg] at h ⊢
  simp only [Option.bind_some] at h ⊢
  have hlt : g < w.heap.size := by
    rcases Nat.lt_or_ge g w.heap.size with h' | h'
    · exact h'
    · rw [Array.getElem?_eq_none h'] at h; cases h
  rw [hb.block g hlt]
  exact h
theorem cell_lt {w : World} {a : Addr} {v : Value} (h : w.cell? a = some v) : a.block < w.heap.size := by
  rcases Nat.lt_or_ge a.block w.heap.size with h' | h'
  · exact h'
  · simp only [World.cell?, Array.getElem?_eq_none h'] at h; cases h
theorem cell_below {w w' : World} {a : Addr} {v : Value} (h : w.cell? a = some v) (hb : Below w.heap.size w w') : w'.cell? a = some v := by
  have hl := cell_lt h
  unfold World.cell? at h ⊢
  rw [hb.block _ hl]; exact h
/-- What is read of the program's variables. -/
structure Env (w : World) : Prop where
  tab : Tab w
  tz8 : w.cell? ⟨8, 7, none⟩ = some (.int .u8 3)
  tz16 : w.cell? ⟨8, 15, none⟩ = some (.int .u8 4)
  esyn : ∃ te pe, w.cell? ⟨1, 0, none⟩ = some (.iface te pe)
  erng : ∃ te pe, w.cell? ⟨2, 0, none⟩ = some (.iface te pe)
theorem Env.below {w w' : World} (h : Env w) (hb : Below w.heap.size w w') : Env w' := by
  obtain ⟨a, b, c, ⟨d1, d2, d3⟩, ⟨e1, e2, e3⟩⟩ := h
  exact ⟨a.below hb, cell_below b hb, cell_below c hb, ⟨d1, d2, cell_below d3 hb⟩, ⟨e1, e2, cell_below e3 hb⟩⟩

set_option maxHeartbeats 1000000 in
set_option maxRecDepth 100000 in
theorem tz87_8 (w : World) (h : Env w) : Calls Tryd.prog 87 #[.int .u64 8] w fun e w' => e = .returned (.int .i64 3) ∧ w = w' := by
  have c := h.tz8
  clear h
  have C : Hid (∀ W, W.cell? ⟨8, 7, none⟩ = some (.int .u8 3) → Calls Tryd.prog 95 #[.int .u64 8] W fun e w' => e = .returned (.int .i64 3) ∧ W = w') := Lib.hid (by
    intro W cW
    have m : bits .and .u64 8 (IntKind.u64.wrap (-8)) = 8 := by decide +kernel
    have m1 : IntKind.u64.wrap (8 * 285870213051353865) = 2286961704410830920 := by decide +kernel
    have m2 : IntKind.u64.wrap 2286961704410830920 = 2286961704410830920 := by decide +kernel
    have m3 : ((2286961704410830920 : Int) / 288230376151711744).toNat = 7 := by decide +kernel
    go_enter Tryd.func95, Tryd.ntmps95
    go_wp2
    go_ret
    exact ⟨rfl, rfl⟩)
  go_enter Tryd.func87, Tryd.ntmps87
  go_wp2_with (go_at_call 95; refine (C.out _ c).mono ?_; rintro e w' ⟨rfl, rfl⟩)
  go_ret
  exact ⟨rfl, rfl⟩
set_option maxHeartbeats 1000000 in
set_option maxRecDepth 100000 in
theorem tz87_16 (w : World) (h : Env w) : Calls Tryd.prog 87 #[.int .u64 16] w fun e w' => e = .returned (.int .i64 4) ∧ w = w' := by
  have c := h.tz16
  clear h
  have C : Hid (∀ W, W.cell? ⟨8, 15, none⟩ = some (.int .u8 4) → Calls Tryd.prog 95 #[.int .u64 16] W fun e w' => e = .returned (.int .i64 4) ∧ W = w') := Lib.hid (by
    intro W cW
    have m : bits .and .u64 16 (IntKind.u64.wrap (-16)) = 16 := by decide +kernel
    have m1 : IntKind.u64.wrap (16 * 285870213051353865) = 4573923408821661840 := by decide +kernel
    have m2 : IntKind.u64.wrap 4573923408821661840 = 4573923408821661840 := by decide +kernel
    have m3 : ((4573923408821661840 : Int) / 288230376151711744).toNat = 15 := by decide +kernel
    go_enter Tryd.func95, Tryd.ntmps95
    go_wp2
    go_ret
    exact ⟨rfl, rfl⟩)
  go_enter Tryd.func87, Tryd.ntmps87
  go_wp2_with (go_at_call 95; refine (C.out _ c).mono ?_; rintro e w' ⟨rfl, rfl⟩)
  go_ret
  exact ⟨rfl, rfl⟩
theorem pow86 (b : Int) (hb : b = 8 ∨ b = 16) (w : World) : Calls Tryd.prog 86 #[.int .i64 b] w fun e w' => e = .returned (.bool true) ∧ w = w' := by
  have m1 : bits .and .i64 8 7 = 0 := by decide +kernel
  have m2 : bits .and .i64 16 15 = 0 := by decide +kernel
  rcases hb with rfl | rfl
  all_goals (
    go_enter Tryd.func86, Tryd.ntmps86
    go_wp2
    go_ret
    exact ⟨rfl, rfl⟩)

end Go.Proofs.YtckhomeokhhneaaDoor
