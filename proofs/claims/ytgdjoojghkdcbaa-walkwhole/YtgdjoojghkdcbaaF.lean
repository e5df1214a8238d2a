/- What a directory is in memory; the contracts of slices.Clone, Len, List and Size. Conditions: it has at most 1000 entries, with names of at most 500 bytes. -/
import Derived.Test.YtgdjoojghkdcbaaE
import Derived.Lib.SliceRun
namespace Go.Proofs.Ytgdjoojghkdcbaa
open Go.RowKit Go.PlainAid
set_option linter.unusedSimpArgs false

/-- The call returns a new list of just these entries. -/
def Gives (e : Nat) (w : World) (l : List En) (en : Ending) (w' : World) : Prop := ∃ v, en = .returned v ∧ Row e w.heap.size v l w' ∧ Below w.heap.size w w'

theorem own_zero (w : World) (B : Nat) (hB : B ≤ w.heap.size) : (w.alloc (.cells #[] 119)).ownsRow B 119 2 (.slice (some ⟨w.heap.size, 0, none⟩) 0 0) 0 [] := World.ownsRow_made w #[] 0 hB (by unfold maxLen; omega) rfl

set_option maxHeartbeats 2000000 in
set_option maxRecDepth 100000 in
theorem clone23 (B : Nat) (v : Value) (l : List En) (w : World) (h : Row 119 B v l w) (hl : l.length ≤ 1000) : Calls Try.prog 92 #[v] w (Gives 119 w l) := by
  obtain ⟨i0, hi0, hz0, hz1, hz2⟩ := info_parts Try.info119
  have q24 : ∀ (w : World) (a : Option Addr) (n c n' c' : Nat), (binOp .eql 87 (.slice a n c) (.slice none n' c')).run Try.prog w = .ok (.bool a.isNone) w := fun w a n c n' c' => Lib.run_eql_slice_nil w _ _ a n c n' c' Try.underlying87
  rcases h.cases with ⟨rfl, rfl⟩ | ⟨gv, cap, cur, rfl, _, hgv, _⟩
  · clear h
    go_enter Try.func92, Try.ntmps92
    go_wp2
    go_ret
    exact ⟨_, rfl, row_nil _ _ _, Below.refl _ _⟩
  · have hsrc : ∀ j u, (cs l)[j]? = some u → (w.alloc (.cells #[] 119)).cell? ((⟨gv, 0, none⟩ : Addr).add j) = some u := by
      intro j u hj
      have := World.ownsRow.cells h (g := gv) rfl j u hj
      rw [World.cell?_of_block (w := w)]
      · exact this
      · rw [add_at]; exact Below.heap_alloc w _ gv (lt_of_block hgv)
    have HSRC := Lib.hid hsrc
    have HO := Lib.hid (own_zero w w.heap.size (Nat.le_refl _))
    clear h hsrc hgv
    go_enter Try.func92, Try.ntmps92
    go_wp2_with (at_builtin; refine wpList_append_own _ rfl _ _ 87 rfl w.heap.size 119 i0 (.agg #[.string ⟨#[]⟩, .int .i64 0]) 2 24 Try.underlying87 hi0 hz0 hz1 hz2 rfl (by decide) _ _ _ rfl HO.out ⟨gv, 0, none⟩ l.length cap (cs l) rfl (cs_len l) HSRC.out (cs_one _) ?a3 ?a4 ?a5 ?_)
    case a3 => unfold maxLen; omega
    case a4 => omega
    case a5 => simp
    intro v' w1 h1 h2 _
    obtain ⟨a', c', rfl⟩ := slice_shape h1
    have hb : Below w.heap.size w w1 := ((Below.refl _ w).alloc (Nat.le_refl _) _).grown h2 (by simp) (fun k hk => by simp [Value.ownBlock] at hk; omega)
    have F := Lib.hid (show Gives 119 w l (.returned _) w1 from ⟨_, rfl, h1, hb⟩)
    clear h1 h2 hb
    go_wp2
    go_ret
    exact F.out

/-- What a node's block holds but for its entries. -/
structure NC where
  (a0 a1 a2 a3 a4 a6 : Value)
def NC.fill (c : NC) (v : Value) : Array Value := #[c.a0, c.a1, c.a2, c.a3, c.a4, v, c.a6]

/-- Block D is a node that has just these entries. -/
structure DirAt (D : Nat) (nc : NC) (B : Nat) (v : Value) (l : List En) (w : World) : Prop where
  blk : w.heap[D]? = some (.cells (nc.fill v) 91 (0, 0))
  row : Row 119 B v l w
theorem DirAt.cell {D B : Nat} {nc : NC} {v : Value} {l : List En} {w : World} (h : DirAt D nc B v l w) : w.cell? ⟨D, 5, none⟩ = some v := by simp [World.cell?, h.blk, NC.fill]
theorem DirAt.free {D B : Nat} {nc : NC} {v : Value} {l : List En} {w : World} (h : DirAt D nc B v l w) : w.frozen? ⟨D, 5, none⟩ = false := by simp [World.frozen?, h.blk]
theorem blk_setCell {w : World} {b i : Nat} {cur : Array Value} {t : TypeId} (h : w.heap[b]? = some (.cells cur t (0, 0))) (u : Value) : (w.setCell ⟨b, i, none⟩ u).heap[b]? = some (.cells (cur.setIfInBounds i u) t (0, 0)) := by
  simp [World.setCell, Array.getElem?_modify, h]
theorem fill_set (nc : NC) (v u : Value) : (nc.fill v).setIfInBounds 5 u = nc.fill u := by simp [NC.fill]
theorem DirAt.below {D B : Nat} {nc : NC} {v : Value} {l : List En} {w w' : World} (h : DirAt D nc B v l w) (hb : Below w.heap.size w w') : DirAt D nc B v l w' :=
  ⟨(hb.block D (lt_of_block h.blk)).trans h.blk, h.row.below hb⟩

set_option maxHeartbeats 2000000 in
set_option maxRecDepth 100000 in
theorem len10 (D : Nat) (nc : NC) (B : Nat) (v : Value) (l : List En) (w : World) (h : DirAt D nc B v l w) : Calls Try.prog 81 #[.pointer (some ⟨D, 5, none⟩)] w fun e w' => e = .returned (.int .i64 l.length) ∧ w = w' := by
  have c0 := h.cell
  obtain ⟨a, c, rfl⟩ := slice_shape h.row
  clear h
  go_enter Try.func81, Try.ntmps81
  go_wp2
  go_ret
  exact ⟨rfl, rfl⟩

set_option maxHeartbeats 2000000 in
set_option maxRecDepth 100000 in
theorem list13 (D : Nat) (nc : NC) (B : Nat) (v : Value) (l : List En) (w : World) (h : DirAt D nc B v l w) (hl : l.length ≤ 1000) : Calls Try.prog 77 #[.pointer (some ⟨D, 5, none⟩)] w (Gives 119 w l) := by
  have c0 := h.cell
  have C := Lib.hid (clone23 B v l w h.row hl)
  obtain ⟨a, c, rfl⟩ := slice_shape h.row
  clear h
  go_enter Try.func77, Try.ntmps77
  go_wp2_with fail
  refine C.out.mono ?_
  rintro e w1 ⟨v', rfl, h1, h2⟩
  obtain ⟨a', c', rfl⟩ := slice_shape h1
  have F := Lib.hid (show Gives 119 w l (.returned _) w1 from ⟨_, rfl, h1, h2⟩)
  clear h1 h2
  go_wp2
  go_ret
  exact F.out
end Go.Proofs.Ytgdjoojghkdcbaa
