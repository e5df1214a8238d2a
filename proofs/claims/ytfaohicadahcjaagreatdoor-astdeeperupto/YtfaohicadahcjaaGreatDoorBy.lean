/- Slices of bytes that the call owns: made of a text, lengthened by append, made a text again. Conditions: lengths below a bound. -/
import Derived.Test.YtfaohicadahcjaaGreatDoorRows
import Derived.Test.YtfaohicadahcjaaGreatDoorLb
import Derived.ProofKit
import Derived.WalkLawsBesides
import Derived.Lib.Hide
import Derived.WalkMore
import Derived.RegionTactic
import Derived.OneCell
import Derived.OwnWalk
import Derived.Laws.CopyRow
import Derived.Laws.CopyOwn
import Derived.Laws.IdiomStrings
import Derived.Lib.AppendStr
import Derived.Below
import Derived.Laws.MakeOwn
namespace Go.Proofs.YtfaohicadahcjaaGreatDoor
open Go.RowKit Go.PlainAid
set_option linter.unusedSimpArgs false
set_option linter.unusedVariables false

/-- The cells of bytes. -/
def bc (l : List UInt8) : List Value := l.map fun b => Value.int .u8 b.toNat
theorem bc_len (l : List UInt8) : (bc l).length = l.length := by simp [bc]
theorem bc_app (a b : List UInt8) : bc (a ++ b) = bc a ++ bc b := by simp [bc]
theorem bc_one : ∀ l, ∀ u ∈ bc l, u.oneCell' = true := by
  intro l u h
  simp only [bc, List.mem_map] at h
  obtain ⟨b, _, rfl⟩ := h
  rfl
def Unmarked (fr : Nat × Nat) (n : Nat) : Prop := ∀ j, j < n → ¬ (fr.1 ≤ j ∧ j < fr.2)
/-- v is a slice of just these bytes, in memory from a block on. -/
def OB (B : Nat) (v : Value) (l : List UInt8) (w : World) : Prop :=
  (v = .slice none 0 0 ∧ l = []) ∨ ∃ g cap cur fr, B ≤ g ∧ v = .slice (some ⟨g, 0, none⟩) l.length cap ∧ w.heap[g]? = some (.cells cur 5 fr) ∧ cur.size = cap ∧ Unmarked fr cap ∧ l.length ≤ cap ∧ cap ≤ maxLen ∧ cur.toList.take l.length = bc l
theorem OB.shape {B : Nat} {v : Value} {l : List UInt8} {w : World} (h : OB B v l w) : ∃ a c, v = .slice a l.length c := by
  rcases h with ⟨rfl, h⟩ | ⟨g, cap, cur, fr, _, rfl, _⟩
  · exact ⟨_, _, by rw [h]; rfl⟩
  · exact ⟨_, _, rfl⟩
theorem OB.keep {B : Nat} {v : Value} {l : List UInt8} {w w' : World} (h : OB B v l w) (hg : ∀ k, v.ownBlock = some k → k < w.heap.size → w'.heap[k]? = w.heap[k]?) : OB B v l w' := by
  rcases h with h | ⟨g, cap, cur, fr, hb, rfl, h2, h3⟩
  · exact .inl h
  · exact .inr ⟨g, cap, cur, fr, hb, rfl, (hg g rfl (lt_of_block h2)).trans h2, h3⟩
theorem OB.below {B : Nat} {v : Value} {l : List UInt8} {w w' : World} (h : OB B v l w) (hb : Below w.heap.size w w') : OB B v l w' := h.keep fun k _ hk => hb.block k hk
theorem OB.lt {B : Nat} {v : Value} {l : List UInt8} {w : World} (h : OB B v l w) : ∀ k, v.ownBlock = some k → B ≤ k ∧ k < w.heap.size := by
  intro k hk
  rcases h with ⟨rfl, _⟩ | ⟨g, cap, cur, fr, hb, rfl, h2, _⟩
  · simp [Value.ownBlock] at hk
  · simp [Value.ownBlock] at hk; subst hk; exact ⟨hb, lt_of_block h2⟩
theorem ob_nil (B : Nat) (w : World) : OB B (.slice none 0 0) [] w := .inl ⟨rfl, rfl⟩
theorem OB.mono {B B' : Nat} {v : Value} {l : List UInt8} {w : World} (h : OB B v l w) (hb : B' ≤ B) : OB B' v l w := by
  rcases h with h | ⟨g, cap, cur, fr, h1, h2⟩
  · exact .inl h
  · exact .inr ⟨g, cap, cur, fr, Nat.le_trans hb h1, h2⟩

/-- What '[]byte(s)' leaves. -/
def made (w : World) (s : ByteArray) : World := w.drew.alloc (.cells (bytesRow s (grownCap w s.size 0 5)) 5 ((bytesRow s (grownCap w s.size 0 5)).size, (bytesRow s (grownCap w s.size 0 5)).size + 1))
theorem run_made (s : ByteArray) (w : World) : (convert 9 68 (.string s)).run Tryz.prog w = .ok (.slice (some ⟨w.heap.size, 0, none⟩) s.size (grownCap w s.size 0 5)) (made w s) :=
  run_bytes_of_string w 9 68 5 s Tryz.underlying9 Tryz.underlying68 Tryz.underlying5
theorem made_below (w : World) (s : ByteArray) : Below w.heap.size w (made w s) := ((Below.refl _ w).drew).alloc (Nat.le_refl _) _
theorem made_ob (w : World) (s : ByteArray) (hs : s.size ≤ maxLen) : OB w.heap.size (.slice (some ⟨w.heap.size, 0, none⟩) s.size (grownCap w s.size 0 5)) (ls s) (made w s) := by
  have hc := grownCap_ge w s.size 0 5
  have hm := grownCap_le_maxLen w s.size 0 5 hs
  have hsz : (bytesRow s (grownCap w s.size 0 5)).size = grownCap w s.size 0 5 := by
    unfold bytesRow
    have : s.data.size = s.size := rfl
    simp [this]; omega
  refine .inr ⟨_, _, bytesRow s (grownCap w s.size 0 5), _, Nat.le_refl _, by rw [ls_len], heap_alloc_new _ _, hsz, ?_, by rw [ls_len]; exact hc, hm, ?_⟩
  · intro j hj; rw [hsz]; omega
  · unfold bytesRow bc
    have : s.data.size = s.size := rfl
    rw [Array.toList_append, List.take_append_of_le_length (by simp [this]), Array.toList_map, List.take_of_length_le (by simp [this])]
theorem add_at (g o i : Nat) : (⟨g, o, none⟩ : Addr).add i = ⟨g, o + i, none⟩ := by unfold Addr.add; split <;> simp_all
theorem OB.cell {g cap : Nat} {B : Nat} {l : List UInt8} {w : World} (h : OB B (.slice (some ⟨g, 0, none⟩) l.length cap) l w) (j : Nat) (hj : j < l.length) : w.cell? ⟨g, j, none⟩ = some (.int .u8 (l[j].toNat : Int)) := by
  rcases h with ⟨h, _⟩ | ⟨g', cap', cur, fr, _, h, hg, hc, _, hle, _, ht⟩
  · cases h
  · cases h
    have e : (bc l)[j]? = some (.int .u8 (l[j].toNat : Int)) := by simp [bc, List.getElem?_eq_getElem hj]
    rw [← ht, List.getElem?_take, if_pos hj] at e
    simp only [World.cell?, hg]
    simpa using e
/-- 'string(v)', and 'string(v[:n])'. -/
theorem OB.backn {B : Nat} {a : Option Addr} {c c2 : Nat} {l : List UInt8} {w : World} (h : OB B (.slice a l.length c) l w) (n : Nat) (hn : n ≤ l.length) : (convert 68 9 (.slice a n c2)).run Tryz.prog w = .ok (.string (mk (l.take n))) w := by
  rcases id h with ⟨e, h0⟩ | ⟨g, cap, cur, fr, _, e, hg, hc, _, hle, _, ht⟩
  · subst h0
    cases e
    obtain rfl : n = 0 := by simpa using hn
    rw [run_convert_bytes_string w 68 9 5 none 0 c2 Tryz.underlying68 Tryz.underlying5 Tryz.underlying9]
    rfl
  · cases e
    have hl : (l.take n).length = n := by simp; omega
    have := run_convert_bytes_back (P := Tryz.prog) w 68 9 5 ⟨g, 0, none⟩ c2 (l.take n) Tryz.underlying68 Tryz.underlying5 Tryz.underlying9 (fun j hj => by
      rw [add_at, Nat.zero_add]
      rw [h.cell j (by omega)]
      simp)
    rw [hl] at this
    exact this
theorem OB.back {B : Nat} {v : Value} {l : List UInt8} {w : World} (h : OB B v l w) : (convert 68 9 v).run Tryz.prog w = .ok (.string (mk l)) w := by
  obtain ⟨a, c, rfl⟩ := h.shape
  have := h.backn (c2 := c) l.length (Nat.le_refl _)
  rw [List.take_of_length_le (Nat.le_refl _)] at this
  exact this

def splice (xs : List Value) (k : Nat) (ys : List Value) : List Value := xs.take k ++ ys ++ xs.drop (k + ys.length)
theorem list_seg_step (xs : List Value) (k : Nat) (v : Value) (vs : List Value) (h : k + (v :: vs).length ≤ xs.length) : (xs.set k v).take (k + 1) ++ vs ++ (xs.set k v).drop (k + 1 + vs.length) = xs.take k ++ (v :: vs) ++ xs.drop (k + (v :: vs).length) := by
  simp at h
  rw [List.drop_set_of_lt (by omega), List.take_add_one, List.getElem?_set_self (by omega), List.take_set_of_le (by omega)]
  simp
  congr 1
  omega
theorem run_store_mark (P : Program) (g o : Nat) (t : TypeId) (fz : Nat × Nat) : ∀ (vs : List Value) (i : Nat) (cur : Array Value) (w : World), w.heap[g]? = some (.cells cur t fz) → Unmarked fz cur.size → o + i + vs.length ≤ cur.size → (∀ v ∈ vs, v.oneCell' = true) →
    (storeCells ⟨g, o, none⟩ vs i).run P w = .ok () (w.setRow g (splice cur.toList (o + i) vs).toArray)
  | [], i, cur, w, hg, _, _, _ => by
    simp only [storeCells, splice, List.append_nil, List.length_nil, Nat.add_zero, List.take_append_drop, Array.toArray_toList]
    rw [setRow_self w g cur t fz hg]
    rfl
  | v :: rest, i, cur, w, hg, hfz, hl, h1 => by
    have hi : o + i < cur.size := by simp at hl; omega
    have hadd : (⟨g, o, none⟩ : Addr).add i = ⟨g, o + i, none⟩ := add_at g o i
    have hcell : w.cell? ⟨g, o + i, none⟩ = some cur[o + i] := by simp [World.cell?, hg, hi]
    have hfro : w.frozen? ⟨g, o + i, none⟩ = false := by
      have := hfz (o + i) hi
      simp only [World.frozen?, hg]
      by_cases h : fz.1 ≤ o + i
      · rw [decide_eq_false (p := o + i < fz.2) (fun h2 => this ⟨h, h2⟩), Bool.and_false]
      · rw [decide_eq_false h, Bool.false_and]
    have hst : (store ((⟨g, o, none⟩ : Addr).add i) v).run P w = .ok () (w.setRow g (cur.setIfInBounds (o + i) v)) := by
      rw [hadd, run_store P w _ v _ (h1 v (by simp)), hcell]
      simp [hfro, setCell_eq_setRow w g (o + i) cur t fz v hg]
    have ih := run_store_mark P g o t fz rest (i + 1) (cur.setIfInBounds (o + i) v) (w.setRow g (cur.setIfInBounds (o + i) v)) (setRow_heap w g cur _ t _ hg) (by rw [Array.size_setIfInBounds]; exact hfz) (by simp at hl ⊢; omega) (fun x hx => h1 x (by simp [hx]))
    simp only [storeCells, Sem.run_bind, hst, Result.andThen_ok, ih, setRow_setRow]
    congr 3
    have e := list_seg_step cur.toList (o + i) v rest (by simp at hl ⊢; omega)
    unfold splice
    simpa [Array.toList_setIfInBounds, Nat.add_assoc] using e

theorem Tryz.info5 : (Tryz.prog.info? 5).map (fun i => (i.zero, i.size, i.bytes)) = some (some (.int .u8 0), 1, 1) := by kernel_rfl
theorem zeros_ar (n : Nat) : (Builtin.zeroCells (Value.int .u8 0).cells n).size = n := by simp [Builtin.zeroCells, Value.cells]
theorem grown_setRow {w : World} (g : Nat) (u : Array Value) : w.grownBy (w.setRow g u) (some g) := ⟨rfl, rfl, rfl, by simp, fun k _ hk => setRow_other w g k u (fun e => hk (by rw [e]))⟩
theorem ob_grown {B g cap : Nat} {w' : World} {v' : Value} {cur : Array Value} {fr : Nat × Nat} {l : List UInt8} (hB : B ≤ g) (hg : w'.heap[g]? = some (.cells cur 5 fr)) (e : v' = .slice (some ⟨g, 0, none⟩) l.length cap) (h1 : cur.size = cap) (h2 : Unmarked fr cap) (h3 : l.length ≤ cap) (h4 : cap ≤ maxLen) (h5 : cur.toList.take l.length = bc l) : OB B v' l w' :=
  .inr ⟨g, cap, cur, fr, hB, e, hg, h1, h2, h3, h4, h5⟩
set_option maxRecDepth 100000 in
/-- append(v, x...), x of known bytes. -/
theorem OB.app {B : Nat} {v : Value} {l : List UInt8} {w : World} (h : OB B v l w) (hB : B ≤ w.heap.size) (m : List UInt8) (hn : l.length + m.length ≤ 100000000) (ty t2 : TypeId) (x : Value)
    (hu : Tryz.prog.underlying t2 = some .string ∨ Tryz.prog.underlying t2 = some (.slice 5)) (hx : Builtin.lenOf x = pure m.length)
    (hf0 : (Builtin.firstCells 1 m.length x).run Tryz.prog w = .ok (bc m).toArray w) (hf1 : (Builtin.firstCells 1 m.length x).run Tryz.prog w.drew = .ok (bc m).toArray w.drew) :
    ∃ v' w', (Builtin.append_ #[68, t2] ty #[v, x]).run Tryz.prog w = .ok v' w' ∧ OB B v' (l ++ m) w' ∧ w.grownBy w' v.ownBlock := by
  obtain ⟨i0, hi0, hz0, hz1, hz2⟩ := info_parts Tryz.info5
  have hlen : (l ++ m).length = l.length + m.length := by simp
  have h63' : ¬ (9223372036854775807 < ((l.length : Int) + (m.length : Int))) := by omega
  have hU : ∃ U, Tryz.prog.underlying t2 = some U ∧ (U matches .int _) = false := by rcases hu with hu | hu <;> exact ⟨_, hu, rfl⟩
  obtain ⟨U, hU, hUi⟩ := hU
  rcases h with ⟨rfl, rfl⟩ | ⟨g, cap, cur, fr, hBg, rfl, hg, hc, hm, hle, hmx, ht⟩
  · by_cases h0 : m = []
    · subst h0
      refine ⟨.slice none 0 0, w, ?_, ob_nil B w, ⟨rfl, rfl, rfl, Nat.le_refl _, fun _ _ _ => rfl⟩⟩
      have hf0' : (Builtin.firstCells 1 0 x).run Tryz.prog w = .ok #[] w := hf0
      rcases hu with hu | hu <;> simp [Builtin.append_, run_underlying Tryz.underlying68, run_underlying hu, sizeOf, typeInfo, hi0, hz1, hz2, hx, hf0']
    · have hp := List.length_pos_iff.2 h0
      have hf : ¬ (281474976710656 < Builtin.nextslicecap m.length 0) := by
        have := growslice_fits (need := m.length) (old := 0) (bytes := 1) (by omega) (by omega)
        omega
      have hcg := grownCap_ge w m.length 0 5
      have hcm := grownCap_le_maxLen w m.length 0 5 (by unfold maxLen; simp at hn; omega)
      have h1 : ¬ (9223372036854775807 < (m.length : Int)) := by simp at hn; omega
      have h2 : ¬ m.length = 0 := by omega
      refine ⟨.slice (some ⟨w.heap.size, 0, none⟩) m.length (grownCap w m.length 0 5), w.drew.alloc (.cells ((bc m).toArray ++ Builtin.zeroCells (Value.int .u8 0).cells (grownCap w m.length 0 5 - m.length)) 5), ?_, ?_, ?_⟩
      · have hnil : (Builtin.firstCells 1 0 (.slice none 0 0)).run Tryz.prog w.drew = .ok #[] w.drew := by simp [Builtin.firstCells]
        rcases hu with hu | hu <;> simp [Builtin.append_, run_underlying Tryz.underlying68, run_underlying hu, sizeOf, typeInfo, zeroValue, hi0, hz0, hz1, hz2, hx, h0, h1, h2, hf, Question.forced, newRow, grownCap, hf1, hnil]
      · refine ob_grown hB (heap_alloc_new _ _) rfl (by simp [bc_len, zeros_ar]; omega) (fun j _ => by omega) hcg hcm ?_
        rw [Array.toList_append, List.toList_toArray, List.nil_append, show m.length = (bc m).length by rw [bc_len], List.take_left]
      · exact ⟨rfl, rfl, rfl, by simp, fun j hj _ => Below.heap_alloc w.drew _ j hj⟩
  · subst hc
    by_cases hroom : l.length + m.length ≤ cur.size
    · have hst := run_store_mark Tryz.prog g l.length 5 fr (bc m) 0 cur w hg hm (by rw [bc_len]; omega) (bc_one _)
      simp only [Nat.add_zero] at hst
      refine ⟨.slice (some ⟨g, 0, none⟩) (l.length + m.length) cur.size, w.setRow g (splice cur.toList l.length (bc m)).toArray, ?_, ?_, grown_setRow g _⟩
      · rcases hu with hu | hu <;> (simp [Builtin.append_, run_underlying Tryz.underlying68, run_underlying hu, sizeOf, typeInfo, hi0, hz0, hz1, hz2, hx, hroom, hf0, add_at]; rw [hst]; rfl)
      · refine ob_grown hBg (setRow_heap w g cur _ 5 fr hg) (by rw [hlen]) ?_ hm (by rw [hlen]; exact hroom) hmx ?_
        · simp [splice, bc_len]; omega
        · rw [hlen, bc_app, ← ht]
          unfold splice
          rw [show l.length + m.length = (cur.toList.take l.length ++ bc m).length by simp [bc_len]; omega]
          rw [List.toList_toArray, List.take_left]
    · have hf : ¬ (281474976710656 < Builtin.nextslicecap (l.length + m.length) cur.size) := by
        have := growslice_fits (need := l.length + m.length) (old := cur.size) (bytes := 1) (by omega) (by omega)
        omega
      have hcg := grownCap_ge w (l.length + m.length) cur.size 5
      have hcm := grownCap_le_maxLen w (l.length + m.length) cur.size 5 (by unfold maxLen; omega)
      have hfo := run_firstCells_some (P := Tryz.prog) w.drew 1 l.length ⟨g, 0, none⟩ l.length cur.size (bc l) (by rw [bc_len]; omega) (fun j u hj => by
        rw [add_at, Nat.zero_add]
        have hj' : j < l.length := by have := (List.getElem?_eq_some_iff.1 hj).1; rw [bc_len] at this; exact this
        rw [← ht, List.getElem?_take, if_pos hj'] at hj
        have : w.drew.heap[g]? = some (.cells cur 5 fr) := hg
        simp only [World.cell?, this]
        simpa using hj)
      refine ⟨.slice (some ⟨w.heap.size, 0, none⟩) (l.length + m.length) (grownCap w (l.length + m.length) cur.size 5), w.drew.alloc (.cells ((bc l).toArray ++ (bc m).toArray ++ Builtin.zeroCells (Value.int .u8 0).cells (grownCap w (l.length + m.length) cur.size 5 - (l.length + m.length))) 5), ?_, ?_, ?_⟩
      · rcases hu with hu | hu <;> simp [Builtin.append_, run_underlying Tryz.underlying68, run_underlying hu, sizeOf, typeInfo, zeroValue, hi0, hz0, hz1, hz2, hx, hroom, h63', hf, Question.forced, newRow, grownCap, hfo, hf1] <;> (congr 2; apply Array.ext'; simp)
      · refine ob_grown hB (heap_alloc_new _ _) (by rw [hlen]) (by simp [bc_len, zeros_ar]; omega) (fun j _ => by omega) (by rw [hlen]; omega) hcm ?_
        rw [hlen, bc_app]
        rw [Array.toList_append, Array.toList_append, List.toList_toArray, List.toList_toArray]
        rw [show l.length + m.length = (bc l ++ bc m).length by simp [bc_len]]
        rw [List.take_left]
      · exact ⟨rfl, rfl, rfl, by simp, fun j hj _ => Below.heap_alloc w.drew _ j hj⟩

section
variable {ops : Array Oper} {rest : List Oper} {o : Oper} {a : Act} {Q : Exit → Act → World → Prop}
set_option maxRecDepth 100000 in
/-- append of a slice whose cells are known. -/
theorem wpList_appV {w : World} (hgd : o.guard = none) (s x : Operand) (ho : o.op = .call { callee := .builtin .append, args := #[s, x], argTypes := #[68, 68] })
    (v : Value) (B : Nat) (l m : List UInt8) (A : Addr) (c : Nat) (hs : a.eval s = v) (hx : a.eval x = .slice (some A) m.length c) (hB : OB B v l w) (hw : B ≤ w.heap.size) (hn : l.length + m.length ≤ 100000000)
    (hc : ∀ j u, (bc m)[j]? = some u → w.cell? (A.add j) = some u)
    (h : ∀ v' w', OB B v' (l ++ m) w' → w.grownBy w' v.ownBlock → wpList Tryz.prog ops Q rest (a.put o.dst v') w') : wpList Tryz.prog ops Q (o :: rest) a w := by
  refine wpList_plain hgd fun K hK => ?_
  have hf0 := run_firstCells_some (P := Tryz.prog) w 1 m.length A m.length c (bc m) (by rw [bc_len]; omega) hc
  have hf1 := run_firstCells_some (P := Tryz.prog) w.drew 1 m.length A m.length c (bc m) (by rw [bc_len]; omega) (by simpa using hc)
  obtain ⟨v', w', hr, h1, h2⟩ := hB.app hw m hn o.type 68 _ (.inr Tryz.underlying68) rfl hf0 hf1
  unfold Oper.wp
  simp [execOp, ho, resolve, invoke, builtin, hs, hx, hr, Result.andThen]
  exact hK _ _ (h v' w' h1 h2)
set_option maxRecDepth 100000 in
/-- append of a text. -/
theorem wpList_appS {w : World} (hgd : o.guard = none) (s x : Operand) (ho : o.op = .call { callee := .builtin .append, args := #[s, x], argTypes := #[68, 9] })
    (v : Value) (B : Nat) (l : List UInt8) (t : ByteArray) (hs : a.eval s = v) (hx : a.eval x = .string t) (hB : OB B v l w) (hw : B ≤ w.heap.size) (hn : l.length + t.size ≤ 100000000)
    (h : ∀ v' w', OB B v' (l ++ ls t) w' → w.grownBy w' v.ownBlock → wpList Tryz.prog ops Q rest (a.put o.dst v') w') : wpList Tryz.prog ops Q (o :: rest) a w := by
  refine wpList_plain hgd fun K hK => ?_
  have hf (w : World) : (Builtin.firstCells 1 (ls t).length (.string t)).run Tryz.prog w = .ok (bc (ls t)).toArray w := by rw [ls_len]; exact Lib.run_firstCells_string w 1 t
  obtain ⟨v', w', hr, h1, h2⟩ := hB.app hw (ls t) (by rw [ls_len]; exact hn) o.type 9 (.string t) (.inl Tryz.underlying9) (by simp [Builtin.lenOf]) (hf w) (hf w.drew)
  unfold Oper.wp
  simp [execOp, ho, resolve, invoke, builtin, hs, hx, hr, Result.andThen]
  exact hK _ _ (h v' w' h1 h2)
end
/-- make([]byte, 0, c). -/
theorem run_make0 (c : Nat) (hc : c ≤ 100000000) (w : World) : ∃ w', (Instr.makeSlice 68 (.int .i64 0) (.int .i64 (c : Int))).run Tryz.prog w = .ok (.slice (some ⟨w.heap.size, 0, none⟩) 0 c) w' ∧ OB w.heap.size (.slice (some ⟨w.heap.size, 0, none⟩) 0 c) [] w' ∧ Below w.heap.size w w' := by
  obtain ⟨i0, hi0, hz0, hz1, hz2⟩ := info_parts Tryz.info5
  have hr := run_make (P := Tryz.prog) w 68 5 i0 _ Tryz.underlying68 hi0 hz0 .i64 .i64 0 c (Int.le_refl _) (by omega) (by rw [hz2]; omega) (by omega)
  simp only [Int.toNat_zero, Int.toNat_natCast] at hr
  refine ⟨_, hr, ?_, (Below.refl _ w).alloc (Nat.le_refl _) _⟩
  exact .inr ⟨w.heap.size, c, _, _, Nat.le_refl _, rfl, heap_alloc_new _ _, by rw [size_madeCells, hz1]; simp, fun j _ => by omega, by simp, by unfold maxLen; omega, by simp [bc]⟩
/-- What lies behind an append of a slice that was just built. -/
theorem new_cells (w : World) (m : List UInt8) (cs : Array Value) (e : cs.toList = bc m) : ∀ j u, (bc m)[j]? = some u → (w.alloc (.cells cs 5)).cell? ((⟨w.heap.size, 0, none⟩ : Addr).add j) = some u := by
  intro j u hj
  rw [add_at, Nat.zero_add, World.cell?_alloc_new]
  rw [← e] at hj
  simpa using hj
theorem OB.alloc {B : Nat} {v : Value} {l : List UInt8} {w : World} (h : OB B v l w) (o : Obj) : OB B v l (w.alloc o) := h.below ((Below.refl _ w).alloc (Nat.le_refl _) o)
theorem ob_push {B : Nat} {w wr w1 : World} {l : List UInt8} {v : Value} {o : Obj} (h0 : OB B v l wr) (hw : w.heap.size ≤ B) (hb : Below w.heap.size w wr) (hg : (wr.alloc o).grownBy w1 v.ownBlock) : Below w.heap.size w w1 :=
  (hb.alloc hb.size o).grown hg (by simp; have := hb.size; omega) (fun j hj => Nat.le_trans hw (h0.lt j hj).1)
theorem new_back (w : World) (m : List UInt8) (cs : Array Value) (e : cs.toList = bc m) (c : Nat) : (convert 68 9 (.slice (some ⟨w.heap.size, 0, none⟩) m.length c)).run Tryz.prog (w.alloc (.cells cs 5)) = .ok (.string (mk m)) (w.alloc (.cells cs 5)) := by
  exact run_convert_bytes_back (P := Tryz.prog) (w.alloc (.cells cs 5)) 68 9 5 ⟨w.heap.size, 0, none⟩ c m Tryz.underlying68 Tryz.underlying5 Tryz.underlying9 (fun j hj => new_cells w m cs e j _ (by simp [bc, List.getElem?_eq_getElem hj]))
theorem new_cellsT (w : World) (m : List UInt8) (n : Nat) (cs : Array Value) (T : TypeId) (e : cs.toList = bc m) : ∀ j u, (bc (m.take n))[j]? = some u → (w.alloc (.cells cs T)).cell? ((⟨w.heap.size, 0, none⟩ : Addr).add j) = some u := by
  intro j u hj
  rw [add_at, Nat.zero_add, World.cell?_alloc_new]
  unfold bc at hj
  rw [List.map_take, List.getElem?_take] at hj
  split at hj
  · have e2 : List.map (fun b : UInt8 => Value.int .u8 b.toNat) m = cs.toList := e.symm
    rw [e2] at hj
    simpa using hj
  · cases hj
theorem OB.cap {B : Nat} {a : Option Addr} {c : Nat} {l : List UInt8} {w : World} (h : OB B (.slice a l.length c) l w) : l.length ≤ c := by
  rcases h with ⟨h, h0⟩ | ⟨g, cap, cur, fr, _, h, hg, hc, _, hle, _, ht⟩
  · subst h0; simp
  · cases h; exact hle
theorem OB.fr {g cap B : Nat} {l : List UInt8} {w : World} (h : OB B (.slice (some ⟨g, 0, none⟩) l.length cap) l w) (j : Nat) (hj : j < l.length) : w.frozen? ⟨g, j, none⟩ = false := by
  rcases h with ⟨h, _⟩ | ⟨g', cap', cur, fr, _, h, hg, hc, hu, hle, _, ht⟩
  · cases h
  · cases h
    have := hu j (by omega)
    simp only [World.frozen?, hg]
    by_cases h : fr.1 ≤ j
    · rw [decide_eq_false (p := j < fr.2) (fun h2 => this ⟨h, h2⟩), Bool.and_false]
    · rw [decide_eq_false h, Bool.false_and]
theorem OB.set {g cap B : Nat} {l : List UInt8} {w : World} (h : OB B (.slice (some ⟨g, 0, none⟩) l.length cap) l w) (j : Nat) (b : UInt8) (X : Int) (hX : X = (b.toNat : Int)) : OB B (.slice (some ⟨g, 0, none⟩) l.length cap) (l.set j b) (w.setCell ⟨g, j, none⟩ (.int .u8 X)) := by
  rcases h with ⟨h, _⟩ | ⟨g', cap', cur, fr, hB, h, hg, hc, hu, hle, hm, ht⟩
  · cases h
  · cases h
    subst hX
    rw [setCell_eq_setRow w g j cur 5 fr _ hg]
    refine .inr ⟨g, cap, _, fr, hB, by simp, setRow_heap _ _ _ _ _ _ hg, by simpa using hc, hu, by simpa using hle, hm, ?_⟩
    rw [List.length_set, Array.toList_setIfInBounds, List.take_set, ht]
    unfold bc
    rw [List.map_set]
theorem OB.cell0 {g cap B : Nat} {l : List UInt8} {w : World} (h : OB B (.slice (some ⟨g, 0, none⟩) l.length cap) l w) (j : Nat) (hj : j < l.length) : w.cell? ⟨g, j, none⟩ = some (.int .u8 (at0 l j : Int)) := by
  rw [h.cell j hj, at0_of hj]
theorem results_tmp4 {fn : Func} {t u v x : Tmp} (h : fn.results = #[.tmp t, .tmp u, .tmp v, .tmp x]) (tmps : Array Value) (P : Program) (w : World) :
    (results fn tmps).run P w = .ok (.tuple #[tmps.getD t undef, tmps.getD u undef, tmps.getD v undef, tmps.getD x undef]) w := by
  simp [results, h]
/-- The call returns a slice of just these bytes, and leaves what lies below a block. -/
def GivesB (B : Nat) (w : World) (l : List UInt8) (e : Ending) (w' : World) : Prop := ∃ v, e = .returned v ∧ OB B v l w' ∧ Below B w w'
theorem wf_i64 {n : Int} (h : (Lit.int .i64 n).wf = true) : -9223372036854775808 ≤ n ∧ n ≤ 9223372036854775807 := by
  simp [Lit.wf, IntKind.min, IntKind.max, IntKind.bits, IntKind.signed] at h
  omega
end Go.Proofs.YtfaohicadahcjaaGreatDoor
