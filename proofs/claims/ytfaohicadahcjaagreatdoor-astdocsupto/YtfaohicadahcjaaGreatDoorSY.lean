/- A node at work. No condition. -/
import Derived.Test.YtfaohicadahcjaaGreatDoorSX
namespace Go.Proofs.YtfaohicadahcjaaGreatDoor
open Go.RowKit Go.PlainAid Go.ChangeShapes Go.WideShapes Go.ChangeAt
set_option linter.unusedSimpArgs false
set_option linter.unusedVariables false
abbrev zero64 : Array Value := #[.int .i64 0, .string ⟨#[]⟩, .slice none 0 0, .slice none 0 0, .slice none 0 0, .slice none 0 0, .slice none 0 0]
/-- A node at work: what came in (box), the result's place, the node itself; what is done stands in blocks of its own. -/
structure NSt (w : World) (cs0 : Array Value) (X : Nat) (cx : Array Value) (Y : Nat → Prop) (D : World → Prop) (wx : World) : Prop where
  below : Below w.heap.size w wx
  k0 : wx.heap[w.heap.size]? = some (.cells cs0 51 (0, 0))
  k1 : wx.heap[w.heap.size + 1]? = some (.cells zero64 64 (0, 0))
  kx : wx.heap[X]? = some (.cells cx 64 (0, 0))
  x2 : w.heap.size + 2 ≤ X
  y : ∀ b, Y b → w.heap.size + 2 ≤ b ∧ b < wx.heap.size ∧ b ≠ X
  d : Firm Y D wx
section
variable {w wx wy : World} {cs0 cx : Array Value} {X : Nat} {Y : Nat → Prop} {D : World → Prop}
theorem NSt.stay (h : NSt w cs0 X cx Y D wx) (hbel : Below w.heap.size w wy) (hs : wx.heap.size ≤ wy.heap.size) (hb : ∀ b, b < wx.heap.size → (b = w.heap.size ∨ b = w.heap.size + 1 ∨ b = X ∨ Y b) → wy.heap[b]? = wx.heap[b]?) : NSt w cs0 X cx Y D wy :=
  ⟨hbel, (hb _ (lt_of_block h.k0) (.inl rfl)).trans h.k0, (hb _ (lt_of_block h.k1) (.inr (.inl rfl))).trans h.k1, (hb _ (lt_of_block h.kx) (.inr (.inr (.inl rfl)))).trans h.kx, h.x2,
    fun b hy => ⟨(h.y b hy).1, Nat.lt_of_lt_of_le (h.y b hy).2.1 hs, (h.y b hy).2.2⟩, h.d.on fun b hy => hb b (h.y b hy).2.1 (.inr (.inr (.inr hy)))⟩
theorem NSt.low (h : NSt w cs0 X cx Y D wx) (hb : Below wx.heap.size wx wy) : NSt w cs0 X cx Y D wy :=
  h.stay (h.below.trans (hb.mono h.below.size)) hb.size fun b hl _ => hb.block b hl
theorem NSt.set (h : NSt w cs0 X cx Y D wx) (i : Nat) (u : Value) : NSt w cs0 X (cx.setIfInBounds i u) Y D (wx.setCell ⟨X, i, none⟩ u) := by
  have hx2 := h.x2
  have hne : ∀ b, b ≠ X → (wx.setCell ⟨X, i, none⟩ u).heap[b]? = wx.heap[b]? := fun b hb => Below.heap_setCell _ _ _ _ hb
  refine ⟨h.below.setCell (p := ⟨X, i, none⟩) (by show _ ≤ X; omega) u, (hne _ (by omega)).trans h.k0, (hne _ (by omega)).trans h.k1, blk_setCell h.kx u, h.x2, fun b hy => ?_, h.d.on fun b hy => hne b (h.y b hy).2.2⟩
  rw [size_setCell]
  exact h.y b hy
/-- A row of the node's, at work. -/
def RowX {α : Type} (w : World) (X : Nat) (Y : Nat → Prop) (e : TypeId) (k : Nat) (C : World → List Value → α → Prop) (wx : World) (v : Value) (l : List α) : Prop :=
  ∃ css Z, Mk (w.heap.size + 2) e k C wx v l css Z ∧ (∀ b, Z b ∨ v.ownBlock = some b → b ≠ X) ∧ ∀ b, v.ownBlock = some b → ¬ Y b
section
variable {α : Type} {e : TypeId} {k : Nat} {C : World → List Value → α → Prop} {v : Value} {l : List α}
theorem RowX.nil (hB : w.heap.size + 2 ≤ wx.heap.size) : RowX w X Y e k C wx (.slice none 0 0) [] :=
  ⟨[], fun _ => False, Mk.nil hB, fun b hb => (by rcases hb with hb | hb; exact hb.elim; cases hb), fun b hb => (by cases hb)⟩
theorem RowX.low (h : RowX w X Y e k C wx v l) (hb : Below wx.heap.size wx wy) : RowX w X Y e k C wy v l := by
  obtain ⟨css, Z, h1, h2, h3⟩ := h
  exact ⟨css, Z, h1.low hb, h2, h3⟩
theorem RowX.set (h : RowX w X Y e k C wx v l) (i : Nat) (u : Value) : RowX w X Y e k C (wx.setCell ⟨X, i, none⟩ u) v l := by
  obtain ⟨css, Z, h1, h2, h3⟩ := h
  exact ⟨css, Z, h1.stay (by rw [size_setCell]; exact Nat.le_refl _) fun b hb => Below.heap_setCell _ _ _ _ (h2 b hb), h2, h3⟩
theorem RowX.shape (h : RowX w X Y e k C wx v l) : ∃ a c, v = .slice a l.length c := by
  obtain ⟨css, Z, h1, _⟩ := h
  exact h1.shape
theorem RowX.own (h : RowX w X Y e k C wx v l) : ∃ xs, wx.ownsRow (w.heap.size + 2) e k v l.length xs := by
  obtain ⟨css, Z, h1, _⟩ := h
  exact ⟨_, h1.own⟩
/-- One element more, in the node's row: the world behind the append, and behind the store of the row into the node. -/
theorem RowX.push {q : List α} {m : Nat} (hm : m < q.length) {oa : Option Addr} {oc : Nat} {W W' w0 : World} {css : List (List Value)} {Z : Nat → Prop} {S : NSt w cs0 X cx Y D W} (hM : Mk (w.heap.size + 2) e k C W (.slice oa m oc) (q.take m) css Z) (h2 : ∀ b, Z b ∨ (Value.slice oa m oc).ownBlock = some b → b ≠ X) (h3 : ∀ b, (Value.slice oa m oc).ownBlock = some b → ¬ Y b)
    {cs : List Value} {x : α} (hx0 : q[m] = x) {g cap H : Nat} (hown : W'.ownsRow (w.heap.size + 2) e k (.slice (some ⟨g, 0, none⟩) (m + 1) cap) (m + 1) (css.flatten ++ cs)) (hg : W.grownBy W' (Value.slice oa m oc).ownBlock) (hH : W.heap.size = H) (hat : (Value.slice oa m oc).ownBlock = some g ∨ g = H) (hk : cs.length = k)
    (h0 : Below w0.heap.size w0 W) (hX : X < w0.heap.size) (hw0 : w.heap.size + 2 ≤ w0.heap.size) (ho : ∀ b, (Value.slice oa m oc).ownBlock = some b → b < w0.heap.size) {E : Nat} (hE : E ≤ W.heap.size) (hx : Firm (Btw w0.heap.size E) (fun u => C u cs x) W) :
    RowX w X Y e k C W' (.slice (some ⟨g, 0, none⟩) (m + 1) cap) (q.take (m + 1)) ∧ NSt w cs0 X cx Y D W' := by
  have hl : (q.take m).length = m := take_len (Nat.le_of_lt hm)
  have hat' : (Value.slice oa m oc).ownBlock = some g ∨ g = W.heap.size := by rw [hH]; exact hat
  have hgn : g ≠ X ∧ ¬ Y g := by
    rcases hat' with e1 | e1
    · exact ⟨h2 g (.inr e1), h3 g e1⟩
    · have hxs := lt_of_block S.kx
      refine ⟨by omega, fun hy => ?_⟩
      have := (S.y g hy).2.1
      omega
  have hp := hM.push (g := g) (cap := cap) (w' := W') (cs := cs) (x := x) (Y := Btw w0.heap.size E) (by rw [hl]; exact hown) hg hat' hk (fun b hb => ⟨Nat.le_trans hw0 hb.1, Nat.lt_of_lt_of_le hb.2 hE, fun e1 => absurd (ho b e1) (Nat.not_lt.2 hb.1)⟩) hx
  rw [hl] at hp
  refine ⟨⟨css ++ [cs], fun b => Z b ∨ Btw w0.heap.size E b, by rw [take_snoc q m hm, hx0]; exact hp, fun b hb => ?_, fun b hb => ?_⟩, S.stay (S.below.grown hg S.below.size fun j hj => Nat.le_trans (Nat.le_add_right _ 2) (World.ownsRow.lt hM.own j hj).1) hg.size fun b hb hc => hg.block b hb fun e1 => ?_⟩
  · rcases hb with (hb | hb) | hb
    · exact h2 b (.inl hb)
    · intro e1; have := hb.1; omega
    · have : g = b := by simpa [Value.ownBlock] using hb
      rw [← this]; exact hgn.1
  · have : g = b := by simpa [Value.ownBlock] using hb
    rw [← this]; exact hgn.2
  · have hlo := (World.ownsRow.lt hM.own b e1.symm).1
    rcases hc with hc | hc | hc | hc
    · omega
    · omega
    · exact h2 b (.inr e1.symm) hc
    · exact h3 b e1.symm hc
/-- A row that is done. -/
theorem RowX.done (h : RowX w X Y e k C wx v l) (S : NSt w cs0 X cx Y D wx) (hl : l.length ≤ 1048576) : ∃ Y', NSt w cs0 X cx Y' (fun u => D u ∧ Seg k C u v l) wx := by
  obtain ⟨css, Z, h1, h2, h3⟩ := h
  refine ⟨fun b => Y b ∨ (Z b ∨ v.ownBlock = some b), S.below, S.k0, S.k1, S.kx, S.x2, fun b hb => ?_, ?_⟩
  · rcases hb with hb | hb
    · exact S.y b hb
    · refine ⟨?_, ?_, h2 b hb⟩
      · rcases hb with hb | hb
        · exact (h1.set b hb).1
        · exact (World.ownsRow.lt h1.own b hb).1
      · rcases hb with hb | hb
        · exact (h1.set b hb).2.1
        · exact (World.ownsRow.lt h1.own b hb).2
  · intro u hu
    refine ⟨S.d u fun b hb => hu b (.inl hb), ?_⟩
    have hm := h1.stay (w' := wx) (Nat.le_refl _) fun _ _ => rfl
    have hown := hm.own
    refine ⟨hl, ?_⟩
    rcases hown.2 with ⟨rfl, h0⟩ | ⟨g, cap, cur, rfl, hB, hg, hle, _⟩
    · exact .inl ⟨List.eq_nil_of_length_eq_zero h0, _, _, rfl⟩
    · refine .inr ⟨g, 0, cap, rfl, hle, fun i x hi => ?_⟩
      have hil : i < css.length := by rw [hm.len]; exact (List.getElem?_eq_some_iff.1 hi).1
      obtain ⟨_, e2⟩ := hm.el i css[i] x (List.getElem?_eq_getElem hil) hi
      refine ⟨css[i], fun j y hj => ?_, e2 u fun b hb => hu b (.inr (.inl hb))⟩
      have := World.ownsRow.cells hown (g := g) rfl (i * k + j) y (flat_get css i j _ y hm.cellsLen (List.getElem?_eq_getElem hil) hj)
      rw [add_at, Nat.zero_add] at this
      rw [Nat.zero_add, cell_of_block (hu g (.inr (.inr rfl)))]
      exact this
end
end
end Go.Proofs.YtfaohicadahcjaaGreatDoor
