/- Contracts: a Builder, alone or as a writer's first field: copyCheck, WriteString. Conditions: lengths below a bound. -/
import Derived.Test.YtfaohicadahcjaaGreatDoorD
import Derived.Test.YtfaohicadahcjaaGreatDoorShelf
import Derived.Shelf.RegionOpenPlain
import Derived.Lib.UnsafeStr
namespace Go.Proofs.YtfaohicadahcjaaGreatDoor
open Go.RowKit Go.PlainAid Go.ChangeShapes Go.WideShapes Go.ChangeAt
set_option linter.unusedSimpArgs false
set_option linter.unusedVariables false

/-- A Builder alone, or as a writer's first field. -/
def BT (T : TypeId) (rest : List Value) : Prop := (T = 70 ∧ rest = []) ∨ (T = 72 ∧ ∃ d, rest = [d])
theorem BT.shape {T : TypeId} {rest : List Value} (h : BT T rest) : liesAt Tryz.prog Tryz.prog.depth T ((2 + rest.length) / Tryz.prog.cellsOf T) 0 70 1 = true := by
  rcases h with ⟨rfl, rfl⟩ | ⟨rfl, d, rfl⟩
  · kernel_rfl
  · show liesAt Tryz.prog Tryz.prog.depth 72 (3 / Tryz.prog.cellsOf 72) 0 70 1 = true; kernel_rfl
theorem BT.ne {T : TypeId} {rest : List Value} (h : BT T rest) : T ≠ 5 := by rcases h with ⟨rfl, _⟩ | ⟨rfl, _⟩ <;> decide
/-- The Builder at a block, its bytes, the slice that has them. -/
structure Bld (p : Value) (B D : Nat) (T : TypeId) (rest : List Value) (v : Value) (l : List UInt8) (w : World) : Prop where
  le : B ≤ D
  bt : BT T rest
  blk : w.heap[D]? = some (.cells (p :: v :: rest).toArray T (0, 0))
  own : w.ownsRow B 5 1 v l.length (Lib.byteCells l)
def selfP (D : Nat) : Value := .pointer (some ⟨D, 0, none⟩)
def IsBld (B D : Nat) (T : TypeId) (rest : List Value) (v : Value) (l : List UInt8) (w : World) : Prop := Bld (.pointer none) B D T rest v l w ∨ Bld (selfP D) B D T rest v l w
def NoB (w : World) (k : Nat) : Prop := ∀ c fr, w.heap[k]? ≠ some (.cells c 5 fr)
/-- What a call leaves as it was: all blocks but the structure's own and rows of bytes. -/
structure Ke (D : Nat) (w w' : World) : Prop where
  size : w.heap.size ≤ w'.heap.size
  keep : ∀ k, k < w.heap.size → k ≠ D → NoB w k → w'.heap[k]? = w.heap[k]?
theorem Ke.refl (D : Nat) (w : World) : Ke D w w := ⟨Nat.le_refl _, fun _ _ _ _ => rfl⟩
theorem Ke.trans {D : Nat} {w w1 w2 : World} (h : Ke D w w1) (h' : Ke D w1 w2) : Ke D w w2 := by
  refine ⟨Nat.le_trans h.size h'.size, fun k hk hD hv => ?_⟩
  have e := h.keep k hk hD hv
  rw [h'.keep k (Nat.lt_of_lt_of_le hk h.size) hD (fun c fr => by rw [e]; exact hv c fr), e]
theorem Ke.of_below {D : Nat} {w w' : World} (h : Below w.heap.size w w') : Ke D w w' := ⟨h.size, fun k hk _ _ => h.block k hk⟩
theorem Bld.lt {p : Value} {B D : Nat} {T : TypeId} {rest : List Value} {v : Value} {l : List UInt8} {w : World} (h : Bld p B D T rest v l w) : D < w.heap.size := lt_of_block h.blk
theorem Bld.ne {p : Value} {B D : Nat} {T : TypeId} {rest : List Value} {v : Value} {l : List UInt8} {w : World} (h : Bld p B D T rest v l w) : v.ownBlock ≠ some D := Lib.ownBlock_ne h.own h.blk h.bt.ne
theorem Bld.vlt {p : Value} {B D : Nat} {T : TypeId} {rest : List Value} {v : Value} {l : List UInt8} {w : World} (h : Bld p B D T rest v l w) : ∀ k, v.ownBlock = some k → B ≤ k ∧ k < w.heap.size := fun k hk => h.own.lt k hk
theorem Bld.shp {p : Value} {B D : Nat} {T : TypeId} {rest : List Value} {v : Value} {l : List UInt8} {w : World} (h : Bld p B D T rest v l w) : w.shape? D = some (T, 2 + rest.length) := by
  simp [World.shape?, h.blk]; omega
/-- Elsewhere, something changes. -/
theorem Bld.stay {p : Value} {B D : Nat} {T : TypeId} {rest : List Value} {v : Value} {l : List UInt8} {w w' : World} (h : Bld p B D T rest v l w) (hsz : w.heap.size ≤ w'.heap.size) (hD : w'.heap[D]? = w.heap[D]?) (hv : ∀ k, v.ownBlock = some k → w'.heap[k]? = w.heap[k]?) : Bld p B D T rest v l w' := by
  refine ⟨h.le, h.bt, hD.trans h.blk, h.own.1, ?_⟩
  rcases h.own.2 with h2 | ⟨g, cap, cur, e, h3, h4, h5⟩
  · exact .inl h2
  · exact .inr ⟨g, cap, cur, e, h3, (hv g (by rw [e]; rfl)).trans h4, h5⟩
theorem Bld.below {p : Value} {B D : Nat} {T : TypeId} {rest : List Value} {v : Value} {l : List UInt8} {w w' : World} (h : Bld p B D T rest v l w) (hb : Below w.heap.size w w') : Bld p B D T rest v l w' :=
  h.stay hb.size (hb.block D h.lt) (fun k hk => hb.block k (h.vlt k hk).2)
theorem IsBld.below {B D : Nat} {T : TypeId} {rest : List Value} {v : Value} {l : List UInt8} {w w' : World} (h : IsBld B D T rest v l w) (hb : Below w.heap.size w w') : IsBld B D T rest v l w' := h.imp (·.below hb) (·.below hb)
theorem IsBld.lt {B D : Nat} {T : TypeId} {rest : List Value} {v : Value} {l : List UInt8} {w : World} (h : IsBld B D T rest v l w) : D < w.heap.size := h.elim (·.lt) (·.lt)
theorem IsBld.vlt {B D : Nat} {T : TypeId} {rest : List Value} {v : Value} {l : List UInt8} {w : World} (h : IsBld B D T rest v l w) : ∀ k, v.ownBlock = some k → B ≤ k ∧ k < w.heap.size := h.elim (·.vlt) (·.vlt)
theorem IsBld.le {B D : Nat} {T : TypeId} {rest : List Value} {v : Value} {l : List UInt8} {w : World} (h : IsBld B D T rest v l w) : B ≤ D := h.elim (·.le) (·.le)
theorem info70' : (Tryz.prog.info? 70).map (·.size) = some 2 := by kernel_rfl
theorem info70 : ∃ j, Tryz.prog.info? 70 = some j ∧ j.size ≠ 0 := by
  obtain ⟨j, hj, hs⟩ := Option.map_eq_some_iff.1 info70'
  exact ⟨j, hj, by rw [hs]; decide⟩

set_option maxHeartbeats 1000000 in
set_option maxRecDepth 100000 in
theorem copy71 (B D : Nat) (T : TypeId) (rest : List Value) (v : Value) (l : List UInt8) (w : World) (h : IsBld B D T rest v l w) :
    Calls Tryz.prog 71 #[.pointer (some ⟨D, 0, none⟩)] w fun e w' => e = .returned (.tuple #[]) ∧ Bld (selfP D) B D T rest v l w' ∧ Ke D w w' ∧ Below B w w' := by
  obtain ⟨j, hj, hjs⟩ := info70
  rcases h with h | h
  · have h0 : w.cell? ⟨D, 0, none⟩ = some (.pointer none) := by rw [Lib.cell_of_heap h.blk]; rfl
    have hfz : w.frozen? ⟨D, 0, none⟩ = false := Lib.frozen_of_heap h.blk 0
    have hsh := h.shp
    have hl := h.bt.shape
    have HH := Lib.hid h
    clear h
    go_enter Tryz.func71, Tryz.ntmps71
    go_wp2
    rw [Lib.run_to_unsafe w ⟨D, 0, none⟩ Tryz.underlying67 Tryz.underlying133 hj hjs hsh (by simp; omega)]
    simp only [Result.andThen]
    rw [Oper.upon_value]
    go_wp2
    rw [run_callFunc_extern Tryz.func102 (by kernel_rfl) (by kernel_rfl) (by kernel_rfl) (e := Extern.AbiNoEscape.same) (by kernel_rfl)]
    rw [Lib.run_noEscape]
    simp only [Result.andThen]
    rw [Oper.upon_value]
    go_wp2
    rw [Lib.run_from_unsafe w ⟨D, 0, none⟩ Tryz.underlying133 Tryz.underlying67 hj hsh hl]
    simp only [Result.andThen]
    rw [Oper.upon_value]
    go_wp2
    go_end0
    refine ⟨rfl, ?_, ?_, (Below.refl B w).setCell (p := ⟨D, 0, none⟩) HH.out.le _⟩
    · have hk : ∀ k, k ≠ D → (w.setCell ⟨D, 0, none⟩ (selfP D)).heap[k]? = w.heap[k]? := fun k hk => Below.heap_setCell _ _ _ _ (fun e => hk (by simp [e]))
      refine ⟨HH.out.le, HH.out.bt, ?_, HH.out.own.1, ?_⟩
      · simp [World.setCell, Array.getElem?_modify, HH.out.blk, selfP]
      · rcases HH.out.own.2 with h2 | ⟨g, cap, cur, e, h3, h4, h5⟩
        · exact .inl h2
        · exact .inr ⟨g, cap, cur, e, h3, (hk g (fun e2 => HH.out.ne (by rw [e, e2]; rfl))).trans h4, h5⟩
    · exact ⟨by simp [World.setCell], fun k _ hk _ => Below.heap_setCell _ _ _ _ (fun e => hk (by simp [e]))⟩
  · have h0 : w.cell? ⟨D, 0, none⟩ = some (.pointer (some ⟨D, 0, none⟩)) := by rw [Lib.cell_of_heap h.blk]; rfl
    have HH := Lib.hid h
    clear h
    go_enter Tryz.func71, Tryz.ntmps71
    go_wp2
    rw [Lib.run_neq_ptr_same w _ Tryz.underlying67 hj]
    go_wp2
    go_end0
    exact ⟨rfl, HH.out, Ke.refl _ _, Below.refl B _⟩
theorem bc_app2 (a b : List UInt8) : Lib.byteCells (a ++ b) = Lib.byteCells a ++ Lib.byteCells b := by simp [Lib.byteCells]
theorem str_cells (s : ByteArray) : Lib.strCells s = Lib.byteCells (ls s) := by unfold Lib.strCells Lib.byteCells ls; first | rfl | simp
theorem infoB : ∃ i, Tryz.prog.info? 5 = some i ∧ i.zero = some (.int .u8 0) ∧ i.size = 1 ∧ i.bytes = 1 := by
  obtain ⟨i, hi, h⟩ := Option.map_eq_some_iff.1 Tryz.info5
  simp only [Prod.mk.injEq] at h
  exact ⟨i, hi, h.1, h.2.1, h.2.2⟩
theorem bld_put {B D : Nat} {T : TypeId} {rest : List Value} {v v' : Value} {l' : List UInt8} {w : World} (hB : B ≤ D) (hbt : BT T rest) (hb : w.heap[D]? = some (.cells (selfP D :: v :: rest).toArray T (0, 0))) (hown : w.ownsRow B 5 1 v' l'.length (Lib.byteCells l')) :
    Bld (selfP D) B D T rest v' l' (w.setCell ⟨D, 1, none⟩ v') := by
  have hne := Lib.ownBlock_ne hown hb hbt.ne
  refine ⟨hB, hbt, ?_, ?_⟩
  · simp [World.setCell, Array.getElem?_modify, hb]
  · exact hown.kept (row := some D) ⟨rfl, rfl, rfl, by simp [World.setCell], fun k _ hk => Below.heap_setCell _ _ _ _ (fun e => hk (by simp [e]))⟩ (Or.inr hne)

set_option maxHeartbeats 2000000 in
set_option maxRecDepth 100000 in
theorem wstr45 (B D : Nat) (T : TypeId) (rest : List Value) (v : Value) (l : List UInt8) (s : ByteArray) (w : World) (h : IsBld B D T rest v l w) (hlen : l.length + s.size ≤ 140737488351232) (hBw : B ≤ w.heap.size) :
    Calls Tryz.prog 45 #[.pointer (some ⟨D, 0, none⟩), .string s] w fun e w' => e = .returned (.tuple #[.int .i64 s.size, .nilIface]) ∧ ∃ v', IsBld B D T rest v' (l ++ ls s) w' ∧ Ke D w w' ∧ Below B w w' := by
  obtain ⟨i0, hi, hz0, hz1, hz2⟩ := infoB
  have C := Lib.hid (copy71 B D T rest v l w h)
  clear h
  go_enter Tryz.func45, Tryz.ntmps45
  go_wp2_with fail
  refine C.out.mono ?_
  rintro e w1 ⟨rfl, h1, k1, hb1⟩
  have hown := h1.own
  have c1 : w1.cell? ⟨D, 1, none⟩ = some v := by rw [Lib.cell_of_heap h1.blk]; rfl
  have HH := Lib.hid h1
  have HK := Lib.hid k1
  clear h1 k1
  go_wp2_with (at_builtin; refine Lib.wpList_append_own_string _ rfl _ _ 68 9 rfl B 5 i0 Tryz.underlying68 Tryz.underlying9 hi hz0 hz1 hz2 _ _ _ rfl hown s rfl ?c3 ?c4 ?c5 ?_)
  case c3 => unfold maxLen; omega
  case c4 => omega
  case c5 => have := hb1.size; omega
  intro v' w2 hown' hgrow _
  have hb2 : w2.heap[D]? = some (.cells (selfP D :: v :: rest).toArray T (0, 0)) := by
    rw [hgrow.block D HH.out.lt (fun e => HH.out.ne e.symm)]
    exact HH.out.blk
  have d1 : w2.cell? ⟨D, 1, none⟩ = some v := by rw [Lib.cell_of_heap hb2]; rfl
  have f1 : w2.frozen? ⟨D, 1, none⟩ = false := Lib.frozen_of_heap hb2 1
  obtain ⟨ao, n', cap, rfl⟩ : ∃ ao n' cap, v' = .slice ao n' cap := by
    rcases hown'.2 with ⟨hv, _⟩ | ⟨g, cap, cur, hv, _⟩
    · exact ⟨_, _, _, hv⟩
    · exact ⟨_, _, _, hv⟩
  have HO := Lib.hid hown'
  have HB2 := Lib.hid hb2
  have HG := Lib.hid hgrow
  have HB1 := Lib.hid hb1
  have HW := Lib.hid hown
  clear hown' hb2 hgrow hb1 hown
  go_wp2
  go_ret2
  have hne : (Value.slice ao n' cap).ownBlock ≠ some D := Lib.ownBlock_ne HO.out HB2.out HH.out.bt.ne
  have hsz := HG.out.size
  refine ⟨rfl, .slice ao n' cap, .inr ?_, ?_, ?_⟩
  · refine bld_put (l' := l ++ ls s) HH.out.le HH.out.bt HB2.out ?_
    rw [bc_app2, ← str_cells, List.length_append, ls_len]
    exact HO.out
  · refine HK.out.trans ⟨by simp [World.setCell]; exact hsz, fun k hk hD hv => ?_⟩
    rw [Below.heap_setCell _ _ _ _ (fun e => hD (by simp [e])), HG.out.block k hk (fun e => ?_)]
    rcases HW.out.2 with ⟨e2, _⟩ | ⟨g, cap, cur, e2, _, h4, _⟩
    · rw [e2] at e; simp [Value.ownBlock] at e
    · rw [e2] at e; simp [Value.ownBlock] at e
      subst e
      exact hv _ _ h4
  · exact (HB1.out.grown HG.out (by have := HB1.out.size; omega) (fun k hk => (HW.out.lt k hk).1)).setCell (p := ⟨D, 1, none⟩) HH.out.le _
set_option maxHeartbeats 2000000 in
set_option maxRecDepth 100000 in
theorem wbyte73 (B D : Nat) (T : TypeId) (rest : List Value) (v : Value) (l : List UInt8) (c : UInt8) (w : World) (h : IsBld B D T rest v l w) (hlen : l.length + 1 ≤ 140737488351232) (hBw : B ≤ w.heap.size) :
    Calls Tryz.prog 73 #[.pointer (some ⟨D, 0, none⟩), .int .u8 c.toNat] w fun e w' => e = .returned .nilIface ∧ ∃ v', IsBld B D T rest v' (l ++ [c]) w' ∧ Ke D w w' ∧ Below B w w' := by
  obtain ⟨i0, hi, hz0, hz1, hz2⟩ := infoB
  have C := Lib.hid (copy71 B D T rest v l w h)
  clear h
  go_enter Tryz.func73, Tryz.ntmps73
  go_wp2_with fail
  refine C.out.mono ?_
  rintro e w1 ⟨rfl, h1, k1, hb1⟩
  have hown := h1.own
  have c1 : w1.cell? ⟨D, 1, none⟩ = some v := by rw [Lib.cell_of_heap h1.blk]; rfl
  have HH := Lib.hid h1
  have HK := Lib.hid k1
  clear h1 k1
  go_wp2_with (at_builtin; refine wpList_append_own _ rfl _ _ 68 rfl B 5 i0 (.int .u8 0) 1 1 Tryz.underlying68 hi hz0 hz1 hz2 rfl (by decide) _ _ _ rfl (hown.alloc _) ⟨w1.heap.size, 0, none⟩ 1 1 [.int .u8 c.toNat] rfl rfl ?c1 ?c2 ?c3 ?c4 ?c5 ?_)
  case c1 =>
    intro j u hj
    match j, hj with
    | 0, hj => simp at hj; subst hj; simp [Addr.add]
  case c2 => intro u hu; simp at hu; subst hu; rfl
  case c3 => unfold maxLen; omega
  case c4 => omega
  case c5 => have := hb1.size; simp; omega
  intro v' w2 hown' hgrow _
  have hlt := HH.out.lt
  have hb2 : w2.heap[D]? = some (.cells (selfP D :: v :: rest).toArray T (0, 0)) := by
    rw [hgrow.block D (by simp; omega) (fun e => HH.out.ne e.symm), Lib.alloc_old w1 _ D hlt]
    exact HH.out.blk
  have d1 : w2.cell? ⟨D, 1, none⟩ = some v := by rw [Lib.cell_of_heap hb2]; rfl
  have f1 : w2.frozen? ⟨D, 1, none⟩ = false := Lib.frozen_of_heap hb2 1
  obtain ⟨g, cap, rfl⟩ : ∃ g cap, v' = .slice (some ⟨g, 0, none⟩) (l.length + 1) cap := by
    rcases hown'.2 with ⟨_, h0⟩ | ⟨g, cap, cur, hv, _⟩
    · omega
    · exact ⟨g, cap, hv⟩
  have HO := Lib.hid hown'
  have HB2 := Lib.hid hb2
  have HG := Lib.hid hgrow
  have HB1 := Lib.hid hb1
  have HW := Lib.hid hown
  clear hown' hb2 hgrow hb1 hown
  go_wp2
  go_ret
  have hsz := HG.out.size
  have hsz' : w1.heap.size + 1 ≤ w2.heap.size := by simpa using hsz
  refine ⟨rfl, .slice (some ⟨g, 0, none⟩) (l.length + 1) cap, .inr ?_, ?_, ?_⟩
  · refine bld_put (l' := l ++ [c]) HH.out.le HH.out.bt HB2.out ?_
    rw [bc_app2, List.length_append]
    exact HO.out
  · refine HK.out.trans ⟨by simp [World.setCell]; omega, fun k hk hD hv => ?_⟩
    rw [Below.heap_setCell _ _ _ _ (fun e => hD (by simp [e])), HG.out.block k (by simp; omega) (fun e => ?_), Lib.alloc_old w1 _ k hk]
    rcases HW.out.2 with ⟨e2, _⟩ | ⟨g', cap', cur, e2, _, h4, _⟩
    · rw [e2] at e; simp [Value.ownBlock] at e
    · rw [e2] at e; simp [Value.ownBlock] at e
      subst e
      exact hv _ _ h4
  · exact ((HB1.out.alloc (by have := HB1.out.size; omega) _).grown HG.out (by have := HB1.out.size; simp; omega) (fun k hk => (HW.out.lt k hk).1)).setCell (p := ⟨D, 1, none⟩) HH.out.le _

theorem mixedT : Tryz.prog.follows .mixedOrders = true := by kernel_rfl
set_option maxHeartbeats 2000000 in
set_option maxRecDepth 100000 in
theorem str43_nil (B D : Nat) (w : World) (hc : w.drew.cell? ⟨D, 1, none⟩ = some (.slice none 0 0)) :
    Calls Tryz.prog 43 #[.pointer (some ⟨D, 0, none⟩)] w fun e w' => e = .returned (.string ⟨#[]⟩) ∧ Below B w w' := by
  have hUS : ∀ (W : World) (q : Option Addr), (Builtin.unsafeString_ #[111, 3] 9 #[.pointer q, .int .i64 0]).run Tryz.prog W = .ok (.string .empty) W := fun W q => Lib.run_unsafeString_none W _ _ _ q
  have hSD : (Builtin.unsafeSliceData_ #[68] 111 #[.slice none 0 0]).run Tryz.prog w.drew = .ok (.pointer none) w.drew := rfl
  have mixed := mixedT
  go_enter Tryz.func43, Tryz.ntmps43
  go_wp2
  go_region_o
  all_goals (go_wp2; go_ret; exact ⟨rfl, Below.drew (Below.refl B w)⟩)
set_option maxHeartbeats 2000000 in
set_option maxRecDepth 100000 in
theorem str43_noroom (B D g : Nat) (cur : Array Value) (w : World) (hBw : B ≤ w.heap.size) (hlt : D < w.heap.size) (hc : w.drew.cell? ⟨D, 1, none⟩ = some (.slice (some ⟨g, 0, none⟩) 0 0)) (hg : w.heap[g]? = some (.cells cur 5 (0, 0))) :
    Calls Tryz.prog 43 #[.pointer (some ⟨D, 0, none⟩)] w fun e w' => e = .returned (.string ⟨#[]⟩) ∧ Below B w w' := by
  have hUS : ∀ (W : World) (q : Option Addr), (Builtin.unsafeString_ #[111, 3] 9 #[.pointer q, .int .i64 0]).run Tryz.prog W = .ok (.string .empty) W := fun W q => Lib.run_unsafeString_none W _ _ _ q
  have hSD : (Builtin.unsafeSliceData_ #[68] 111 #[.slice (some ⟨g, 0, none⟩) 0 0]).run Tryz.prog w.drew = .ok (.pointer (some ⟨w.drew.heap.size, 0, none⟩)) (w.drew.alloc (.view ⟨g, 0, none⟩ 5)) :=
    Lib.run_unsafeSliceData_zero w.drew _ _ 5 Tryz.underlying111 ⟨g, 0, none⟩ 0 (5, cur.size) (by have hg' : w.drew.heap[g]? = some (.cells cur 5 (0, 0)) := hg; simp [World.shape?, hg'])
  have c2 : (w.drew.alloc (.view ⟨g, 0, none⟩ 5)).cell? ⟨D, 1, none⟩ = some (.slice (some ⟨g, 0, none⟩) 0 0) := by
    rw [← hc]
    have : (w.drew.alloc (.view ⟨g, 0, none⟩ 5)).heap[D]? = w.drew.heap[D]? := Lib.alloc_old w.drew _ D hlt
    simp only [World.cell?, this]
  have c3 : (w.alloc (.view ⟨g, 0, none⟩ 5)).drew.cell? ⟨D, 1, none⟩ = some (.slice (some ⟨g, 0, none⟩) 0 0) := c2
  have c0 : w.cell? ⟨D, 1, none⟩ = some (.slice (some ⟨g, 0, none⟩) 0 0) := hc
  have mixed := mixedT
  go_enter Tryz.func43, Tryz.ntmps43
  go_wp2
  go_region_o
  all_goals (go_wp2; go_ret; exact ⟨rfl, (Below.drew (Below.refl B w)).alloc hBw _⟩)
set_option maxHeartbeats 2000000 in
set_option maxRecDepth 100000 in
theorem str43_room (B D g cap : Nat) (w : World) (hc0 : cap ≠ 0) (hc : w.drew.cell? ⟨D, 1, none⟩ = some (.slice (some ⟨g, 0, none⟩) 0 cap)) :
    Calls Tryz.prog 43 #[.pointer (some ⟨D, 0, none⟩)] w fun e w' => e = .returned (.string ⟨#[]⟩) ∧ Below B w w' := by
  have hUS : ∀ (W : World) (q : Option Addr), (Builtin.unsafeString_ #[111, 3] 9 #[.pointer q, .int .i64 0]).run Tryz.prog W = .ok (.string .empty) W := fun W q => Lib.run_unsafeString_none W _ _ _ q
  have hSD : (Builtin.unsafeSliceData_ #[68] 111 #[.slice (some ⟨g, 0, none⟩) 0 cap]).run Tryz.prog w.drew = .ok (.pointer (some ⟨g, 0, none⟩)) w.drew :=
    Lib.run_unsafeSliceData_row _ _ _ _ _ _ hc0
  clear hc0
  have mixed := mixedT
  go_enter Tryz.func43, Tryz.ntmps43
  go_wp2
  go_region_o
  all_goals (go_wp2; go_ret; exact ⟨rfl, Below.drew (Below.refl B w)⟩)
set_option maxHeartbeats 2000000 in
set_option maxRecDepth 100000 in
theorem str43_some (B D g cap : Nat) (l : List UInt8) (w : World) (hbg : B ≤ g) (hc : w.drew.cell? ⟨D, 1, none⟩ = some (.slice (some ⟨g, 0, none⟩) l.length cap)) (hc0 : cap ≠ 0)
    (hUS : (Builtin.unsafeString_ #[111, 3] 9 #[.pointer (some ⟨g, 0, none⟩), .int .i64 l.length]).run Tryz.prog w.drew = .ok (.string ⟨l.toArray⟩) (w.drew.freeze ⟨g, 0, none⟩ l.length)) :
    Calls Tryz.prog 43 #[.pointer (some ⟨D, 0, none⟩)] w fun e w' => e = .returned (.string ⟨l.toArray⟩) ∧ Below B w w' := by
  have hSD : (Builtin.unsafeSliceData_ #[68] 111 #[.slice (some ⟨g, 0, none⟩) l.length cap]).run Tryz.prog w.drew = .ok (.pointer (some ⟨g, 0, none⟩)) w.drew :=
    Lib.run_unsafeSliceData_row _ _ _ _ _ _ hc0
  clear hc0
  have mixed := mixedT
  go_enter Tryz.func43, Tryz.ntmps43
  go_wp2
  go_region_o
  all_goals (go_wp2; go_ret; exact ⟨rfl, Lib.below_freeze (Below.drew (Below.refl B w)) (p := ⟨g, 0, none⟩) hbg _⟩)
theorem str43 (B D : Nat) (T : TypeId) (rest : List Value) (v : Value) (l : List UInt8) (w : World) (h : IsBld B D T rest v l w) (hBw : B ≤ w.heap.size) :
    Calls Tryz.prog 43 #[.pointer (some ⟨D, 0, none⟩)] w fun e w' => e = .returned (.string (mk l)) ∧ Below B w w' := by
  obtain ⟨p, hp⟩ : ∃ p, Bld p B D T rest v l w := h.elim (fun h => ⟨_, h⟩) (fun h => ⟨_, h⟩)
  have hown := hp.own
  have hblk : w.drew.heap[D]? = some (.cells (p :: v :: rest).toArray T (0, 0)) := hp.blk
  have c1 : w.drew.cell? ⟨D, 1, none⟩ = some v := by rw [Lib.cell_of_heap hblk]; rfl
  by_cases h0 : l = []
  · subst h0
    rcases hown.2 with ⟨rfl, _⟩ | ⟨g, cap, cur, rfl, hbg, hg, hnc, hcm, hcs, htake⟩
    · exact str43_nil B D w c1
    · by_cases hc0 : cap = 0
      · subst hc0
        exact str43_noroom B D g cur w hBw hp.lt c1 hg
      · exact str43_room B D g cap w hc0 c1
  · have hl0 : l.length ≠ 0 := by simpa using h0
    obtain ⟨g, cap, cur, rfl, hbg, hg, hnc, hcm, hcs, htake⟩ : ∃ g cap cur, v = .slice (some ⟨g, 0, none⟩) l.length cap ∧ B ≤ g ∧ w.heap[g]? = some (.cells cur 5 (0, 0)) ∧ l.length ≤ cap ∧ cap ≤ maxLen ∧ cur.size = cap * 1 ∧ cur.toList.take (l.length * 1) = Lib.byteCells l := by
      rcases hown.2 with ⟨_, hz⟩ | ⟨g, cap, cur, hv, r⟩
      · exact absurd hz hl0
      · exact ⟨g, cap, cur, hv, r⟩
    refine str43_some B D g cap l w hbg c1 (by omega) ?_
    refine Lib.run_unsafeString_row w.drew 111 3 9 5 Tryz.underlying111 (by kernel_rfl) g cur.size (by have hg' : w.drew.heap[g]? = some (.cells cur 5 (0, 0)) := hg; simp [World.shape?, hg']) l h0 (by omega) (by unfold maxLen at hcm; omega) ?_
    intro j x hx
    exact hown.cells (g := g) rfl j (.int .u8 x.toNat) (by simp [Lib.byteCells, hx])
end Go.Proofs.YtfaohicadahcjaaGreatDoor
