/- The document's put. Conditions: the number is a node's; few nodes. -/
import Derived.Test.YtgdjoojghkdcbaaXc
namespace Go.Proofs.Ytgdjoojghkdcbaa
open Go.RowKit Go.PlainAid
set_option linter.unusedSimpArgs false

theorem Try.info48 : (Try.prog.info? 48).map (fun i => (i.zero, i.size, i.bytes)) = some (some (.agg #[.int .i64 0, .int .i64 0, .int .i64 0, .string ⟨#[]⟩, .slice none 0 0]), 5, 64) := by kernel_rfl
/-- A node's value. -/
abbrev nval (n : Nr) (ev : Value) : Value := .agg #[.int .i64 n.kind, .int .i64 n.mode, .int .i64 n.holds, .string n.data, ev]
def zc (z : Zn) : List Value := [.int .i64 z.1.kind, .int .i64 z.1.mode, .int .i64 z.1.holds, .string z.1.data, z.2]
theorem ncs_one (z : Zn) : ncs [z] = zc z := rfl
theorem ncs_set : ∀ (Z : List Zn) (k : Nat) (z : Zn), k < Z.length → splice (ncs Z) (k * 5) (zc z) = ncs (Z.set k z)
  | [], k, z, h => by simp at h
  | y :: Z, 0, z, h => by simp [splice, ncs, zc]
  | y :: Z, k + 1, z, h => by
    have := ncs_set Z k z (by simpa using h)
    unfold splice at this ⊢
    rw [show (k + 1) * 5 = k * 5 + 1 + 1 + 1 + 1 + 1 by omega]
    simp only [List.set_cons_succ, ncs]
    rw [← this]
    simp [zc]
theorem splice_take {α : Type} (cur vs : List α) (o n : Nat) (hl : o ≤ cur.length) (h : o + vs.length ≤ n) : (splice cur o vs).take n = splice (cur.take n) o vs := by
  unfold splice
  rw [List.take_append, List.take_append, List.take_take, List.drop_take, List.length_take, Nat.min_eq_left hl, List.take_of_length_le (l := vs) (by omega), List.take_take, Nat.sub_sub, Nat.min_comm n o]

theorem run_store53 (w : World) (g o : Nat) (cur : Array Value) (hg : w.heap[g]? = some (.cells cur 48 (0, 0))) (n : Nr) (ev : Value) (he : ev.oneCell' = true) (hfit : o + 5 ≤ cur.size) :
    (Instr.storeAt 48 (.pointer (some ⟨g, o, none⟩)) (nval n ev)).run Try.prog w = .ok () (w.setRow g (splice cur.toList o (zc (n, ev))).toArray) := by
  obtain ⟨i0, hi0, hz0, hz1, hz2⟩ := info_parts Try.info48
  have hst := run_storeCells_at Try.prog g o 48 (zc (n, ev)) 0 cur w hg (by simpa [zc] using hfit) (by
    intro v hv
    simp only [zc, List.mem_cons, List.mem_nil_iff, or_false] at hv
    rcases hv with rfl | rfl | rfl | rfl | rfl
    · rfl
    · rfl
    · rfl
    · rfl
    · exact he)
  simp only [Nat.add_zero] at hst
  have hc : (nval n ev).cells.toList = zc (n, ev) := by simp [Value.cells, zc]
  have hsz : (nval n ev).cells.size = 5 := by simp [Value.cells]
  simp only [Instr.storeAt, storeVar, Instr.sureAddr, sizeOf, typeInfo, Sem.run_bind, Sem.run_pure, Result.andThen_ok, hi0, hz1, hsz]
  simp [hc, hst, splice, hi0, hz1, hsz]

section
variable {ops : Array Oper} {rest : List Oper} {o : Oper} {a : Act} {Q : Exit → Act → World → Prop}
theorem wpList_st53 {w : World} (hgd : o.guard = none) (p x : Operand) (ho : o.op = Op.store 48 p x) (g k : Nat) (n : Nr) (ev : Value) (hp : a.eval p = .pointer (some ⟨g, k, none⟩)) (hx : a.eval x = nval n ev) (cur : Array Value) (hg : w.heap[g]? = some (.cells cur 48 (0, 0))) (he : ev.oneCell' = true) (hfit : k + 5 ≤ cur.size)
    (h : ∀ w', Hid (w' = w.setRow g (splice cur.toList k (zc (n, ev))).toArray) → wpList Try.prog ops Q rest (a.put o.dst undef) w') : wpList Try.prog ops Q (o :: rest) a w := by
  refine wpList_plain hgd fun K' hK' => ?_
  unfold Oper.wp
  simp [execOp, ho, hp, hx, run_store53 w g k cur hg n ev he hfit, Result.andThen]
  exact hK' _ _ (h _ (Lib.hid rfl))
end
theorem row_one {e B : Nat} {v : Value} {l : List En} {w : World} (h : Row e B v l w) : v.oneCell' = true := by
  obtain ⟨a, c, rfl⟩ := slice_shape h
  rfl
theorem zs_one : ∀ (Z : List Zn), (∀ z ∈ Z, z.2.oneCell' = true) → ∀ u ∈ ncs Z, u.oneCell' = true
  | [], _, u, hu => by simp [ncs] at hu
  | z :: Z, h, u, hu => by
    simp only [ncs, List.mem_cons] at hu
    rcases hu with rfl | rfl | rfl | rfl | rfl | hu
    · rfl
    · rfl
    · rfl
    · rfl
    · exact h z (by simp)
    · exact zs_one Z (fun y hy => h y (by simp [hy])) u hu
/-- A list of nodes that is written at one place. -/
theorem xat_set {P : Nat → Prop} {g c : Nat} {Z : List Zn} {w w' : World} {cur : Array Value} {k : Nat} {n : Nr} {ev : Value} (hg : w.heap[g]? = some (.cells cur 48 (0, 0))) (hc : cur.size = c * 5) (hzc : Z.length ≤ c) (hcm : c ≤ maxLen) (ht : cur.toList.take (Z.length * 5) = ncs Z)
    (hk : k < Z.length) (hw : w' = w.setRow g (splice cur.toList (k * 5) (zc (n, ev))).toArray) (hP : P g) (he : ∀ z ∈ Z, Row 85 0 z.2 z.1.ents w) (hev : Row 85 0 ev n.ents w) (hpe : ∀ z ∈ Z, ∀ b, z.2.ownBlock = some b → P b) (hpv : ∀ b, ev.ownBlock = some b → P b) :
    XAt P (.slice (some ⟨g, 0, none⟩) Z.length c) (Z.set k (n, ev)) w' := by
  subst hw
  have hkeep : ∀ {u : Value} {l : List En}, Row 85 0 u l w → Row 85 0 u l (w.setRow g (splice cur.toList (k * 5) (zc (n, ev))).toArray) := fun {u l} hu => hu.keep fun b e hl => (grown_setRow g _).block b hl (fun e' => by
    have : b = g := by simpa using e'
    subst this
    exact hu.ne hg (by decide) e)
  refine ⟨⟨by rw [ncs_len], .inr ⟨g, c, (splice cur.toList (k * 5) (zc (n, ev))).toArray, by rw [List.length_set], Nat.zero_le _, setRow_heap w g cur _ 48 _ hg, by rw [List.length_set]; exact hzc, hcm, ?_, ?_⟩⟩, ?_, fun b e => ?_, ?_⟩
  · simp [splice, zc]; omega
  · rw [List.length_set, List.toList_toArray, splice_take _ _ _ _ (by simp; omega) (by simp [zc]; omega), ht, ncs_set Z k _ hk]
  · intro z hz
    rcases List.mem_or_eq_of_mem_set hz with h1 | rfl
    · exact hkeep (he z h1)
    · exact hkeep hev
  · simp [Value.ownBlock] at e; subst e; exact hP
  · intro z hz b e
    rcases List.mem_or_eq_of_mem_set hz with h1 | rfl
    · exact hpe z h1 b e
    · exact hpv b e

theorem Try.info28 : (Try.prog.info? 28).map (fun i => (i.zero, i.size, i.bytes)) = some (some (.agg #[.slice none 0 0, .int .i64 0]), 2, 32) := by kernel_rfl
theorem load31 (w : World) (b : Nat) (v u : Value) (hb : w.heap[b]? = some (.cells #[v, u] 28 (0, 0))) : (loadVar 28 ⟨b, 0, none⟩).run Try.prog w = .ok (.agg #[v, u]) w := by
  obtain ⟨i0, hi0, hz0, hz1, hz2⟩ := info_parts Try.info28
  have hl := run_loadCells_list (P := Try.prog) w ⟨b, 0, none⟩ [v, u] (fun j x hj => by
    rw [add_at, Nat.zero_add]
    match j, hj with
    | 0, hj => simp at hj; subst hj; exact cells_at hb rfl
    | 1, hj => simp at hj; subst hj; exact cells_at hb rfl)
  simp only [List.length_cons, List.length_nil] at hl
  have hag : (isAgg 28).run Try.prog w = .ok true w := by kernel_rfl
  simp only [loadVar, Sem.run_bind, hag, Result.andThen_ok, if_pos, sizeOf, typeInfo, hi0, hz1, Sem.run_pure, hl]
  simp [hi0, hz1, hl]
theorem results_x {fn : Func} {p : Tmp} (h : fn.results = #[.cell p 28]) (tmps : Array Value) (w : World) (b : Nat) (v u : Value) (hp : tmps.getD p undef = .pointer (some ⟨b, 0, none⟩)) (hb : w.heap[b]? = some (.cells #[v, u] 28 (0, 0))) :
    (results fn tmps).run Try.prog w = .ok (.agg #[v, u]) w := by
  have hp' : tmps[p]?.getD undef = .pointer (some ⟨b, 0, none⟩) := by simpa using hp
  simp only [results, h]
  simp [Sem.run_bind, Result.andThen, hp', asAddr, load31 w b v u hb]
theorem results_x1 {fn : Func} {p q : Tmp} (h : fn.results = #[.cell p 28, .tmp q]) (tmps : Array Value) (w : World) (b : Nat) (v u : Value) (hp : tmps.getD p undef = .pointer (some ⟨b, 0, none⟩)) (hb : w.heap[b]? = some (.cells #[v, u] 28 (0, 0))) :
    (results fn tmps).run Try.prog w = .ok (.tuple #[.agg #[v, u], tmps.getD q undef]) w := by
  have hp' : tmps[p]?.getD undef = .pointer (some ⟨b, 0, none⟩) := by simpa using hp
  simp only [results, h]
  simp [Sem.run_bind, Result.andThen, hp', asAddr, load31 w b v u hb]
theorem results_x2 {fn : Func} {p q r : Tmp} (h : fn.results = #[.cell p 28, .tmp q, .tmp r]) (tmps : Array Value) (w : World) (b : Nat) (v u : Value) (hp : tmps.getD p undef = .pointer (some ⟨b, 0, none⟩)) (hb : w.heap[b]? = some (.cells #[v, u] 28 (0, 0))) :
    (results fn tmps).run Try.prog w = .ok (.tuple #[.agg #[v, u], tmps.getD q undef, tmps.getD r undef]) w := by
  have hp' : tmps[p]?.getD undef = .pointer (some ⟨b, 0, none⟩) := by simpa using hp
  simp only [results, h]
  simp [Sem.run_bind, Result.andThen, hp', asAddr, load31 w b v u hb]

/-- The call returns a disk of just these nodes. -/
def GivesX (P : Nat → Prop) (room : Int) (Z : List Zn) (w : World) (e : Ending) (w' : World) : Prop := ∃ v', e = .returned (xv v' room) ∧ XAt P v' Z w' ∧ Below w.heap.size w w'

set_option maxHeartbeats 2000000 in
set_option maxRecDepth 100000 in
theorem rput47 (P : Nat → Prop) (v : Value) (room : Int) (Z : List Zn) (w : World) (h : XAt P v Z w) (hz2 : Z.length ≤ 100000) (hP : ∀ b, w.heap.size ≤ b → P b) (k : Nat) (hk : k < Z.length) (n : Nr) (ev : Value) (hev : Row 85 0 ev n.ents w) (hpv : ∀ b, ev.ownBlock = some b → P b) :
    Calls Try.prog 47 #[xv v room, .int .i64 k, nval n ev] w (GivesX P room (Z.set k (n, ev)) w) := by
  obtain ⟨i0, hi0, hz0, hz1, hz2'⟩ := info_parts Try.info48
  obtain ⟨g, c, rfl⟩ := h.shape (by omega)
  have HX := Lib.hid h
  have HEV := Lib.hid hev
  have heone := row_one hev
  obtain ⟨ea, ec, hevs⟩ := slice_shape hev
  have HPV := Lib.hid hpv
  have HP := Lib.hid hP
  subst hevs
  clear h hev hpv hP
  obtain ⟨wa, hwa⟩ : ∃ wa, wa = ((w.alloc (.cells #[.slice (some ⟨g, 0, none⟩) Z.length c, .int .i64 room] 28)).alloc (.cells #[.int .i64 n.kind, .int .i64 n.mode, .int .i64 n.holds, .string n.data, .slice ea n.ents.length ec] 48)).alloc (.cells #[.slice none 0 0, .int .i64 0] 28) := ⟨_, rfl⟩
  have B3 : Below w.heap.size w wa := by rw [hwa]; exact (((Below.refl _ w).alloc (Nat.le_refl _) _).alloc (by simp) _).alloc (by simp; omega) _
  have hs3 : wa.heap.size = w.heap.size + 3 := by rw [hwa]; simp
  have k0 : wa.heap[w.heap.size]? = some (.cells #[.slice (some ⟨g, 0, none⟩) Z.length c, .int .i64 room] 28 (0, 0)) := by
    rw [hwa, Below.heap_alloc _ _ _ (by simp; omega), Below.heap_alloc _ _ _ (by simp)]; exact heap_alloc_new w _
  have k1 : wa.heap[w.heap.size + 1]? = some (.cells #[.int .i64 n.kind, .int .i64 n.mode, .int .i64 n.holds, .string n.data, .slice ea n.ents.length ec] 48 (0, 0)) := by
    rw [hwa, Below.heap_alloc _ _ _ (by simp)]; exact heap_alloc2_new w _ _
  have k2 : wa.heap[w.heap.size + 1 + 1]? = some (.cells #[.slice none 0 0, .int .i64 0] 28 (0, 0)) := by
    have := heap_alloc2_new (w.alloc (.cells #[.slice (some ⟨g, 0, none⟩) Z.length c, .int .i64 room] 28)) (.cells #[.int .i64 n.kind, .int .i64 n.mode, .int .i64 n.holds, .string n.data, .slice ea n.ents.length ec] 48) (.cells #[.slice none 0 0, .int .i64 0] 28)
    rw [show (w.alloc (.cells #[.slice (some ⟨g, 0, none⟩) Z.length c, .int .i64 room] 28)).heap.size = w.heap.size + 1 by simp] at this
    rw [hwa]; exact this
  have HXa := Lib.hid (HX.out.below B3)
  have HSRC : Hid (∀ j u, (ncs Z)[j]? = some u → wa.cell? ((⟨g, 0, none⟩ : Addr).add j) = some u) := Lib.hid (fun j u e => World.ownsRow.cells HXa.out.row (g := g) rfl j u e)
  have hwa' := hwa.symm
  clear hwa
  have K0 := Lib.hid k0
  have K1 := Lib.hid k1
  have K2 := Lib.hid k2
  have HS3 := Lib.hid hs3
  have HB3 := Lib.hid B3
  have c00 : wa.cell? ⟨w.heap.size, 0, none⟩ = some (.slice (some ⟨g, 0, none⟩) Z.length c) := cells_at k0 rfl
  clear k0 k1 k2 B3 hs3
  go_enter Try.func47, Try.ntmps47
  go_wp2_with (at_builtin; refine wpList_append_own _ rfl _ _ 26 rfl wa.heap.size 48 i0 _ 5 64 Try.underlying26 hi0 hz0 hz1 hz2' rfl (by decide) _ _ _ rfl (World.ownsRow_nil _ _ _ _) ⟨g, 0, none⟩ Z.length c (ncs Z) rfl (ncs_len Z) HSRC.out (zs_one Z (fun z hz => row_one (HX.out.ents z hz))) ?a3 ?a4 ?a5 ?_)
  case a3 => unfold maxLen; omega
  case a4 => omega
  case a5 => exact Nat.le_refl _
  intro v' w1 r1 r2 _
  rcases r1.2 with ⟨_, e⟩ | ⟨g', cap, cur, hv', hge, hg', hzc, hcm, hcs, hct⟩
  · omega
  subst hv'
  have hs := HS3.out
  have j0 := (r2.block _ (by omega) (by simp [Value.ownBlock])).trans K0.out
  have j1 := (r2.block _ (by omega) (by simp [Value.ownBlock])).trans K1.out
  have j2 := (r2.block _ (by omega) (by simp [Value.ownBlock])).trans K2.out
  have B1 : Below w.heap.size w w1 := HB3.out.grown r2 HB3.out.size (fun j hj => by simp [Value.ownBlock] at hj)
  have X1 := HX.out.below B1
  have hset := fun w2 (e : w2 = w1.setRow g' (splice cur.toList (k * 5) (zc (n, .slice ea n.ents.length ec))).toArray) => xat_set (P := P) (c := cap) (w' := w2) hg' hcs hzc hcm hct hk e (HP.out g' (by omega)) X1.ents (HEV.out.below B1) X1.pe HPV.out
  have d0 : w1.cell? ⟨w.heap.size + 1, 0, none⟩ = _ := cells_at j1 rfl
  have d1 : w1.cell? ⟨w.heap.size + 1, 1, none⟩ = _ := cells_at j1 rfl
  have d2 : w1.cell? ⟨w.heap.size + 1, 2, none⟩ = _ := cells_at j1 rfl
  have d3 : w1.cell? ⟨w.heap.size + 1, 3, none⟩ = _ := cells_at j1 rfl
  have d4 : w1.cell? ⟨w.heap.size + 1, 4, none⟩ = _ := cells_at j1 rfl
  have HSET := Lib.hid hset
  have J0 := Lib.hid j0
  have J2 := Lib.hid j2
  have HB1 := Lib.hid B1
  have HG' := Lib.hid hg'
  have hfit : k * 5 + 5 ≤ cur.size := by rw [hcs]; omega
  have HGE := Lib.hid hge
  clear hset j0 j1 j2 X1 B1 r1 r2 hct hcs hg' c00 hwa' hge hs
  go_wp2_with (with_reducible refine wpList_st53 rfl (.tmp 15) (.tmp 14) rfl g' (k * 5) n _ rfl rfl cur HG'.out heone hfit ?_)
  intro w2 hw2h
  have hw2 := hw2h.out
  clear hw2h
  have X2 := HSET.out w2 hw2
  have hgr : w1.grownBy w2 (some g') := by rw [hw2]; exact grown_setRow g' _
  have hs := HS3.out
  have hge := HGE.out
  have hsz1 : w.heap.size + 3 ≤ w1.heap.size := by have := lt_of_block HG'.out; omega
  have j0 := (hgr.block _ (by omega) (fun e => by have : w.heap.size = g' := (by simpa using e); omega)).trans J0.out
  have j2 := (hgr.block _ (by omega) (fun e => by have : w.heap.size + 1 + 1 = g' := (by simpa using e); omega)).trans J2.out
  have B2 : Below w.heap.size w w2 := HB1.out.grown hgr HB1.out.size (fun j hj => by cases hj; omega)
  have e0 : w2.cell? ⟨w.heap.size, 0, none⟩ = _ := cells_at j0 rfl
  have e1 : w2.cell? ⟨w.heap.size, 1, none⟩ = _ := cells_at j0 rfl
  have f0 : w2.frozen? ⟨w.heap.size, 0, none⟩ = false := free_at j0
  have f1 : w2.frozen? ⟨w.heap.size, 1, none⟩ = false := free_at j0
  have q0 : w2.cell? ⟨w.heap.size + 1 + 1, 0, none⟩ = _ := cells_at j2 rfl
  have q1 : w2.cell? ⟨w.heap.size + 1 + 1, 1, none⟩ = _ := cells_at j2 rfl
  have p0 : w2.frozen? ⟨w.heap.size + 1 + 1, 0, none⟩ = false := free_at j2
  have p1 : w2.frozen? ⟨w.heap.size + 1 + 1, 1, none⟩ = false := free_at j2
  have HF : Hid (GivesX P room (Z.set k (n, .slice ea n.ents.length ec)) w (.returned (xv (.slice (some ⟨g', 0, none⟩) Z.length cap) room)) (((w2.setCell ⟨w.heap.size, 0, none⟩ (.slice (some ⟨g', 0, none⟩) Z.length cap)).setCell ⟨w.heap.size + 1 + 1, 0, none⟩ (.slice (some ⟨g', 0, none⟩) Z.length cap)).setCell ⟨w.heap.size + 1 + 1, 1, none⟩ (.int .i64 room)) ∧
      (((w2.setCell ⟨w.heap.size, 0, none⟩ (.slice (some ⟨g', 0, none⟩) Z.length cap)).setCell ⟨w.heap.size + 1 + 1, 0, none⟩ (.slice (some ⟨g', 0, none⟩) Z.length cap)).setCell ⟨w.heap.size + 1 + 1, 1, none⟩ (.int .i64 room)).heap[w.heap.size + 1 + 1]? = some (.cells #[.slice (some ⟨g', 0, none⟩) Z.length cap, .int .i64 room] 28 (0, 0))) := by
    have hblk : ∀ b, b ≠ w.heap.size → b ≠ w.heap.size + 1 + 1 → (((w2.setCell ⟨w.heap.size, 0, none⟩ (.slice (some ⟨g', 0, none⟩) Z.length cap)).setCell ⟨w.heap.size + 1 + 1, 0, none⟩ (.slice (some ⟨g', 0, none⟩) Z.length cap)).setCell ⟨w.heap.size + 1 + 1, 1, none⟩ (.int .i64 room)).heap[b]? = w2.heap[b]? := fun b h1 h2 => by
      rw [Below.heap_setCell _ _ _ _ h2, Below.heap_setCell _ _ _ _ h2, Below.heap_setCell _ _ _ _ h1]
    refine ⟨⟨_, rfl, ⟨?_, ?_, X2.pv, X2.pe⟩, ?_⟩, ?_⟩
    · refine ⟨X2.row.1, ?_⟩
      rcases X2.row.2 with h2 | ⟨g2, cap2, cur2, e2, h2, h3, h4⟩
      · exact .inl h2
      · have hg2 : g' = g2 := by simp at e2; exact e2.1
        subst hg2
        exact .inr ⟨_, _, cur2, e2, h2, (hblk _ (by omega) (by omega)).trans h3, h4⟩
    · intro z hz
      have hold : ∀ b, z.2.ownBlock = some b → b < w.heap.size := by
        intro b e
        rcases List.mem_or_eq_of_mem_set hz with h1 | rfl
        · exact ((HX.out.ents z h1).lt e).2
        · exact (HEV.out.lt e).2
      exact (X2.ents z hz).keep fun b e _ => hblk b (by have := hold b e; omega) (by have := hold b e; omega)
    · have b1 := B2.setCell (p := ⟨w.heap.size, 0, none⟩) (Nat.le_refl _) (.slice (some ⟨g', 0, none⟩) Z.length cap)
      have b2 := b1.setCell (p := ⟨w.heap.size + 1 + 1, 0, none⟩) (by show w.heap.size ≤ w.heap.size + 1 + 1; omega) (.slice (some ⟨g', 0, none⟩) Z.length cap)
      exact b2.setCell (p := ⟨w.heap.size + 1 + 1, 1, none⟩) (by show w.heap.size ≤ w.heap.size + 1 + 1; omega) (.int .i64 room)
    · have k2 : (w2.setCell ⟨w.heap.size, 0, none⟩ (.slice (some ⟨g', 0, none⟩) Z.length cap)).heap[w.heap.size + 1 + 1]? = some (.cells #[.slice none 0 0, .int .i64 0] 28 (0, 0)) := (Below.heap_setCell _ _ _ _ (by show w.heap.size + 1 + 1 ≠ w.heap.size; omega)).trans j2
      rw [blk_setCell (blk_setCell k2 _)]
      rfl
  clear X2 B2 hgr j0 j2 hw2 d0 d1 d2 d3 d4 HSET hs hge
  go_wp2
  exact bodyPost_ret_by (results_x rfl _ _ _ _ _ rfl HF.out.2) rfl HF.out.1
end Go.Proofs.Ytgdjoojghkdcbaa
