/- Rows of entries, two cells each: what a row holds, and the laws of copy, clear and append over one. No condition. -/
import Derived.Test.YtgdjoojghkdcbaaN
import Derived.Laws.CopyOwn
import Derived.Laws.EntriesVeiled
import Derived.OneCell
import Derived.OwnWalk
import Derived.Laws.OwnMore
import Derived.Lib.Overlaps
import Derived.Deep.Draws
namespace Go.Proofs.Ytgdjoojghkdcbaa
open Go.RowKit Go.PlainAid

abbrev En := ByteArray × Int
/-- The cells of entries. -/
def cs : List En → List Value
  | [] => []
  | x :: l => .string x.1 :: .int .i64 x.2 :: cs l
theorem cs_len : ∀ l, (cs l).length = l.length * 2
  | [] => rfl
  | _ :: l => by simp only [cs, List.length_cons, cs_len l]; omega
theorem cs_app (b : List En) : ∀ a, cs (a ++ b) = cs a ++ cs b
  | [] => rfl
  | x :: a => by simp [cs, cs_app b a]
theorem cs_take : ∀ (l : List En) (k : Nat), (cs l).take (k * 2) = cs (l.take k)
  | [], k => by simp [cs]
  | _ :: _, 0 => by simp [cs]
  | x :: l, k + 1 => by rw [show (k + 1) * 2 = k * 2 + 1 + 1 by omega]; simp [cs, cs_take l k]
theorem cs_drop : ∀ (l : List En) (k : Nat), (cs l).drop (k * 2) = cs (l.drop k)
  | [], k => by simp [cs]
  | _ :: _, 0 => by simp [cs]
  | x :: l, k + 1 => by rw [show (k + 1) * 2 = k * 2 + 1 + 1 by omega]; simp [cs, cs_drop l k]
theorem cs_get0 : ∀ (l : List En) (k : Nat) (x : En), l[k]? = some x → (cs l)[k * 2]? = some (.string x.1)
  | [], k, x, h => by simp at h
  | y :: l, 0, x, h => by simp at h; subst h; rfl
  | y :: l, k + 1, x, h => by rw [show (k + 1) * 2 = k * 2 + 1 + 1 by omega]; simp only [cs, List.getElem?_cons_succ]; exact cs_get0 l k x (by simpa using h)
theorem cs_get1 : ∀ (l : List En) (k : Nat) (x : En), l[k]? = some x → (cs l)[k * 2 + 1]? = some (.int .i64 x.2)
  | [], k, x, h => by simp at h
  | y :: l, 0, x, h => by simp at h; subst h; rfl
  | y :: l, k + 1, x, h => by rw [show (k + 1) * 2 + 1 = k * 2 + 1 + 1 + 1 by omega]; simp only [cs, List.getElem?_cons_succ]; exact cs_get1 l k x (by simpa using h)
theorem cs_one : ∀ l, ∀ u ∈ cs l, u.oneCell' = true
  | [], u, h => by simp [cs] at h
  | x :: l, u, h => by
    simp only [cs, List.mem_cons] at h
    rcases h with rfl | rfl | h
    · rfl
    · rfl
    · exact cs_one l u h

/-- v is a list of just these entries, in blocks from B on. -/
def Row (e B : Nat) (v : Value) (l : List En) (w : World) : Prop := w.ownsRow B e 2 v l.length (cs l)
theorem row_nil (e B : Nat) (w : World) : Row e B (.slice none 0 0) [] w := ⟨rfl, .inl ⟨rfl, rfl⟩⟩
theorem Row.cases {e B : Nat} {v : Value} {l : List En} {w : World} (h : Row e B v l w) : (v = .slice none 0 0 ∧ l = []) ∨
    ∃ g cap cur, v = .slice (some ⟨g, 0, none⟩) l.length cap ∧ B ≤ g ∧ w.heap[g]? = some (.cells cur e (0, 0)) ∧ l.length ≤ cap ∧ cap ≤ maxLen ∧ cur.size = cap * 2 ∧ cur.toList.take (l.length * 2) = cs l := by
  rcases h.2 with ⟨h1, h2⟩ | h2
  · exact .inl ⟨h1, List.eq_nil_of_length_eq_zero h2⟩
  · exact .inr h2
theorem Row.mono {e B B' : Nat} {v : Value} {l : List En} {w : World} (h : Row e B v l w) (hB : B' ≤ B) : Row e B' v l w := by
  refine ⟨h.1, ?_⟩
  rcases h.2 with h2 | ⟨g, cap, cur, h1, h2, h3⟩
  · exact .inl h2
  · exact .inr ⟨g, cap, cur, h1, Nat.le_trans hB h2, h3⟩
theorem add_at (g o j : Nat) : (⟨g, o, none⟩ : Addr).add j = ⟨g, o + j, none⟩ := by unfold Addr.add; split <;> simp_all
theorem Row.cell0 {e B g n cap k : Nat} {l : List En} {w : World} {x : En} (h : Row e B (.slice (some ⟨g, 0, none⟩) n cap) l w) (hx : l[k]? = some x) : w.cell? ⟨g, k * 2, none⟩ = some (.string x.1) := by
  have := World.ownsRow.cells h (g := g) rfl (k * 2) _ (cs_get0 l k x hx)
  rwa [add_at, Nat.zero_add] at this
theorem Row.cell1 {e B g n cap k : Nat} {l : List En} {w : World} {x : En} (h : Row e B (.slice (some ⟨g, 0, none⟩) n cap) l w) (hx : l[k]? = some x) : w.cell? ⟨g, k * 2 + 1, none⟩ = some (.int .i64 x.2) := by
  have := World.ownsRow.cells h (g := g) rfl (k * 2 + 1) _ (cs_get1 l k x hx)
  rwa [add_at, Nat.zero_add] at this
theorem Row.len {e B n cap : Nat} {a : Option Addr} {l : List En} {w : World} (h : Row e B (.slice a n cap) l w) : n = l.length := by
  rcases h.cases with ⟨h1, rfl⟩ | ⟨g, cap, cur, h1, _⟩
  · simp at h1; exact h1.2.1
  · simp at h1; exact h1.2.1
theorem Row.keep {e B : Nat} {v : Value} {l : List En} {w w' : World} (h : Row e B v l w) (hg : ∀ k, v.ownBlock = some k → k < w.heap.size → w'.heap[k]? = w.heap[k]?) : Row e B v l w' := by
  refine ⟨h.1, ?_⟩
  rcases h.2 with h2 | ⟨g, cap, cur, rfl, h2, h3, h4⟩
  · exact .inl h2
  · exact .inr ⟨g, cap, cur, rfl, h2, (hg g rfl (lt_of_block h3)).trans h3, h4⟩
theorem Row.below {e B : Nat} {v : Value} {l : List En} {w w' : World} (h : Row e B v l w) (hb : Below w.heap.size w w') : Row e B v l w' := h.keep fun k _ hk => hb.block k hk
theorem Row.lt {e B : Nat} {v : Value} {l : List En} {w : World} (h : Row e B v l w) {k : Nat} (hk : v.ownBlock = some k) : B ≤ k ∧ k < w.heap.size := World.ownsRow.lt h k hk
/-- Rows of other types lie elsewhere. -/
theorem Row.ne {e B b : Nat} {v : Value} {l : List En} {w : World} {u : Array Value} {t : TypeId} {fr : Nat × Nat} (h : Row e B v l w) (hb : w.heap[b]? = some (.cells u t fr)) (ht : t ≠ e) : v.ownBlock ≠ some b := by
  intro he
  rcases h.cases with ⟨rfl, _⟩ | ⟨g, cap, cur, rfl, _, hg, _⟩
  · simp [Value.ownBlock] at he
  · simp [Value.ownBlock] at he
    subst he
    rw [hg] at hb
    simp at hb
    exact ht hb.2.1.symm
theorem Row.apart {e B e' B' : Nat} {v v' : Value} {l l' : List En} {w : World} (h : Row e B v l w) (h' : Row e' B' v' l' w) (ht : e ≠ e') {k : Nat} (hk : v.ownBlock = some k) : v'.ownBlock ≠ some k := by
  rcases h.cases with ⟨rfl, _⟩ | ⟨g, cap, cur, rfl, _, hg, _⟩
  · simp [Value.ownBlock] at hk
  · simp [Value.ownBlock] at hk
    subst hk
    exact h'.ne hg ht
theorem slice_shape {w : World} {base : Nat} {e : TypeId} {size : Nat} {v : Value} {n : Nat} {xs : List Value} (h : w.ownsRow base e size v n xs) : ∃ a c, v = .slice a n c := by
  rcases h.2 with ⟨rfl, rfl⟩ | ⟨g, cap, cur, rfl, _⟩
  · exact ⟨_, _, rfl⟩
  · exact ⟨_, _, rfl⟩

/-- Another world in which all old blocks but one stand. -/
theorem grown_trans {w w1 w2 : World} {r r2 : Option Nat} (h : w.grownBy w1 r) (k : w1.grownBy w2 r2) (hr : ∀ j, r2 = some j → r = some j ∨ w.heap.size ≤ j) : w.grownBy w2 r :=
  ⟨k.os.trans h.os, k.tape.trans h.tape, k.output.trans h.output, Nat.le_trans h.size k.size, fun j hj hne => (k.block j (Nat.lt_of_lt_of_le hj h.size) (fun e => by
    rcases hr j e.symm with h1 | h1
    · exact hne h1.symm
    · omega)).trans (h.block j hj hne)⟩
theorem grown_drewN {w w' : World} {r : Option Nat} (h : w.grownBy w' r) (n : Nat) : w.grownBy (w'.drewN n) r := ⟨h.os, h.tape, h.output, h.size, h.block⟩
theorem grown_drew {w w' : World} {r : Option Nat} (h : w.drew.grownBy w' r) : w.grownBy w' r := ⟨h.os, h.tape, h.output, h.size, h.block⟩
theorem grown_setRow {w : World} (g : Nat) (u : Array Value) : w.grownBy (w.setRow g u) (some g) := ⟨rfl, rfl, rfl, by simp, fun k _ hk => setRow_other w g k u (fun e => hk (by rw [e]))⟩

section
variable {P : Program}
theorem run_copy_cells (w : World) (dT sT ty elem : TypeId) (g o dLen dCap : Nat) (a : Addr) (sLen sCap : Nat) (cur : Array Value) (t : TypeId) (xs : List Value)
    (hu : P.underlying dT = some (.slice elem)) (hs : (P.info? elem).map (·.size) = some 2)
    (hg : w.heap[g]? = some (.cells cur t (0, 0))) (hn : xs.length = Nat.min sLen dLen * 2)
    (hsrc : ∀ j v, xs[j]? = some v → w.cell? (a.add j) = some v) (hfit : o + xs.length ≤ cur.size) (h1 : ∀ v ∈ xs, v.oneCell' = true) :
    (Builtin.copy_ #[dT, sT] ty #[.slice (some ⟨g, o, none⟩) dLen dCap, .slice (some a) sLen sCap]).run P w =
      .ok (goInt (Nat.min sLen dLen : Nat)) (w.setRow g (splice cur.toList o xs).toArray) := by
  have hl := run_loadCells_list (P := P) w a xs hsrc
  have hst := run_storeCells_at P g o t xs 0 cur w hg (by simpa using hfit) h1
  cases hq : P.info? elem with
  | none => simp [hq] at hs
  | some i =>
    have hi : i.size = 2 := by simpa [hq] using hs
    simp [Builtin.copy_, run_underlying hu, Builtin.lenOf, Builtin.firstCells, sizeOf, typeInfo, hq, hi, ← hn, hl, hst, splice]

theorem wpList_copy2 {w : World} {ops : Array Oper} {rest : List Oper} {o : Oper} {a : Act} {Q : Exit → Act → World → Prop} (hgd : o.guard = none) (d s : Operand) (dT sT : TypeId)
    (ho : o.op = .call { callee := .builtin .copy, args := #[d, s], argTypes := #[dT, sT] }) (elem : TypeId) (hu : P.underlying dT = some (.slice elem)) (hsz : (P.info? elem).map (·.size) = some 2)
    (g off dLen dCap : Nat) (ad : Addr) (sLen sCap : Nat) (hd : a.eval d = .slice (some ⟨g, off, none⟩) dLen dCap) (hs : a.eval s = .slice (some ad) sLen sCap)
    (cur : List Value) (t : TypeId) (hg : w.heap[g]? = some (.cells cur.toArray t (0, 0))) (xs : List Value) (hn : xs.length = Nat.min sLen dLen * 2)
    (hsrc : ∀ j v, xs[j]? = some v → w.cell? (ad.add j) = some v) (hfit : off + xs.length ≤ cur.length) (h1 : ∀ v ∈ xs, v.oneCell' = true)
    (h : ∀ w', Hid (w'.heap[g]? = some (.cells (splice cur off xs).toArray t (0, 0))) → Hid (w.grownBy w' (some g)) → wpList P ops Q rest (a.put o.dst (goInt (Nat.min sLen dLen : Nat))) w') : wpList P ops Q (o :: rest) a w := by
  refine wpList_plain hgd fun K hK => ?_
  have hrun := run_copy_cells (P := P) w dT sT o.type elem g off dLen dCap ad sLen sCap cur.toArray t xs hu hsz hg hn hsrc (by simpa using hfit) h1
  unfold Oper.wp
  simp [execOp, ho, resolve, invoke, builtin, hd, hs, hrun, Result.andThen]
  exact hK _ _ (h _ (show _ = _ from setRow_heap w g _ _ t _ hg) (grown_setRow g _))

theorem step_copy2 {ops : Array Oper} {o : Oper} {a : Act} {w : World} {K : Act → World → Prop} {Q : Exit → Act → World → Prop} {E : Prop} (hgd : o.guard = none) (d s : Operand) (dT sT : TypeId)
    (ho : o.op = .call { callee := .builtin .copy, args := #[d, s], argTypes := #[dT, sT] }) (elem : TypeId) (hu : P.underlying dT = some (.slice elem)) (hsz : (P.info? elem).map (·.size) = some 2)
    (g off dLen dCap : Nat) (ad : Addr) (sLen sCap : Nat) (hd : a.eval d = .slice (some ⟨g, off, none⟩) dLen dCap) (hs : a.eval s = .slice (some ad) sLen sCap)
    (cur : List Value) (t : TypeId) (hg : w.heap[g]? = some (.cells cur.toArray t (0, 0))) (xs : List Value) (hn : xs.length = Nat.min sLen dLen * 2)
    (hsrc : ∀ j v, xs[j]? = some v → w.cell? (ad.add j) = some v) (hfit : off + xs.length ≤ cur.length) (h1 : ∀ v ∈ xs, v.oneCell' = true)
    (h : ∀ w', Hid (w'.heap[g]? = some (.cells (splice cur off xs).toArray t (0, 0))) → Hid (w.grownBy w' (some g)) → K (a.put o.dst (goInt (Nat.min sLen dLen : Nat))) w') :
    if Region.wanted o (yielded ops a.tmps) = true then Oper.wp P o a w K Q else E := by
  have hw : Region.wanted o (yielded ops a.tmps) = true := by simp [Region.wanted, hgd]
  rw [if_pos hw]
  have hrun := run_copy_cells (P := P) w dT sT o.type elem g off dLen dCap ad sLen sCap cur.toArray t xs hu hsz hg hn hsrc (by simpa using hfit) h1
  unfold Oper.wp
  simp [execOp, ho, resolve, invoke, builtin, hd, hs, hrun, Result.andThen]
  exact h _ (show _ = _ from setRow_heap w g _ _ t _ hg) (grown_setRow g _)

theorem run_clear_cells (w : World) (t ty e : TypeId) (i : TypeInfo) (z : Value) (ht : P.underlying t = some (.slice e)) (hi : P.info? e = some i) (hz : i.zero = some z)
    (g off n c : Nat) (cur : Array Value) (hg : w.heap[g]? = some (.cells cur e (0, 0))) (hfit : off + (Builtin.zeroCells z.cells n).size ≤ cur.size) (h1 : ∀ v ∈ (Builtin.zeroCells z.cells n).toList, v.oneCell' = true) :
    (Builtin.clear_ #[t] ty #[.slice (some ⟨g, off, none⟩) n c]).run P w = .ok (.tuple #[]) (w.setRow g (splice cur.toList off (Builtin.zeroCells z.cells n).toList).toArray) := by
  have hst := run_storeCells_at P g off e (Builtin.zeroCells z.cells n).toList 0 cur w hg (by simpa using hfit) h1
  cases n with
  | zero =>
    have hz0 : (Builtin.zeroCells z.cells 0).toList = [] := by simp [Builtin.zeroCells]
    have : splice cur.toList off [] = cur.toList := by simp [splice]
    rw [hz0, this]
    have hs : w.setRow g cur.toList.toArray = w := by rw [Array.toArray_toList]; exact setRow_self w g cur e (0, 0) hg
    simp [Builtin.clear_, run_underlying ht, hs]
  | succ n =>
    simp [Builtin.clear_, run_underlying ht, zeroValue, typeInfo, hi, hz, hst, splice]
end
end Go.Proofs.Ytgdjoojghkdcbaa
