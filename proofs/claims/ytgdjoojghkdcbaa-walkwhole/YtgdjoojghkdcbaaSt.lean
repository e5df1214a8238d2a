/- What a disk is in memory: nodes by their numbers, each in blocks of its own. No condition. -/
import Derived.Test.YtgdjoojghkdcbaaBz
namespace Go.Proofs.Ytgdjoojghkdcbaa
open Go.RowKit Go.PlainAid

/-- What a node has. -/
structure Nd where
  (kind mode links holds : Int) (data : ByteArray) (ents : List En) (up : Int)
/-- What a disk has: nodes by their numbers. -/
structure St where
  (room used last : Int) (cnt : Nat) (get : Int → Option Nd)
def St.put (S : St) (k : Int) (x : Nd) : St := { S with get := fun j => if j = k then some x else S.get j }
theorem St.put_same (S : St) (k : Int) (x : Nd) : (S.put k x).get k = some x := by simp [St.put]
theorem St.put_other (S : St) {k j : Int} (x : Nd) (h : j ≠ k) : (S.put k x).get j = S.get j := by simp [St.put, h]

def Nd.nc (x : Nd) (dv : Value) : NC := ⟨.int .i64 x.kind, .int .i64 x.mode, .int .i64 x.links, .int .i64 x.holds, dv, .int .i64 x.up⟩

/-- Where a disk lies: whose each block is (a node's number; 0: the disk's own; -1: nobody's), the map's block, the nodes' blocks. -/
structure Lay where
  (ow : Nat → Int) (M : Nat) (f : Int → Option Nat)

structure NodeAt (ow : Nat → Int) (k : Int) (p : Nat) (x : Nd) (dv ev : Value) (w : World) : Prop where
  blk : w.heap[p]? = some (.cells ((x.nc dv).fill ev) 91 (0, 0))
  data : Byts dv x.data w
  row : Row 119 0 ev x.ents w
  op : ow p = k
  od : ∀ b, dv.ownBlock = some b → ow b = k
  oe : ∀ b, ev.ownBlock = some b → ow b = k
theorem NodeAt.dir {ow : Nat → Int} {k : Int} {p : Nat} {x : Nd} {dv ev : Value} {w : World} (h : NodeAt ow k p x dv ev w) : DirAt p (x.nc dv) 0 ev x.ents w := ⟨h.blk, h.row⟩
theorem NodeAt.keep {ow ow' : Nat → Int} {k : Int} {p : Nat} {x : Nd} {dv ev : Value} {w w' : World} (h : NodeAt ow k p x dv ev w) (hb : ∀ b, b < w.heap.size → ow b = k → w'.heap[b]? = w.heap[b]? ∧ ow' b = k) : NodeAt ow' k p x dv ev w' := by
  have hp := hb p (lt_of_block h.blk) h.op
  exact ⟨hp.1.trans h.blk, h.data.keep fun b e hl => (hb b hl (h.od b e)).1, h.row.keep fun b e hl => (hb b hl (h.oe b e)).1, hp.2,
    fun b e => (hb b (h.data.lt e) (h.od b e)).2, fun b e => (hb b (h.row.lt e).2 (h.oe b e)).2⟩

/-- Block D is a disk that has just this. -/
structure DiskAt (L : Lay) (D : Nat) (S : St) (w : World) : Prop where
  blk : w.heap[D]? = some (.cells #[.int .i64 S.room, .int .i64 S.used, .int .i64 S.last, .map (some L.M)] 94 (0, 0))
  map : MapAt L.M L.f S.cnt w
  gone : ∀ k, S.get k = none → L.f k = none
  there : ∀ k x, S.get k = some x → ∃ p dv ev, L.f k = some p ∧ NodeAt L.ow k p x dv ev w
  pos : ∀ k x, S.get k = some x → 0 < k
  oD : L.ow D = 0
  oM : L.ow L.M = 0
  fresh : ∀ b, w.heap.size ≤ b → L.ow b = -1

/-- All blocks that aren't the disk's stand. -/
structure Fr (L : Lay) (w w' : World) : Prop where
  os : w'.os = w.os
  tape : w'.tape = w.tape
  output : w'.output = w.output
  size : w.heap.size ≤ w'.heap.size
  block : ∀ b, b < w.heap.size → L.ow b = -1 → w'.heap[b]? = w.heap[b]?
/-- Old blocks stay whose they are. -/
def Ext (L L' : Lay) (w : World) : Prop := ∀ b, b < w.heap.size → L'.ow b = L.ow b
theorem Ext.refl (L : Lay) (w : World) : Ext L L w := fun _ _ => rfl
theorem Ext.trans {L L' L'' : Lay} {w w' : World} (h : Ext L L' w) (h' : Ext L' L'' w') (hs : w.heap.size ≤ w'.heap.size) : Ext L L'' w := fun b hb => (h' b (by omega)).trans (h b hb)
theorem Fr.refl (L : Lay) (w : World) : Fr L w w := ⟨rfl, rfl, rfl, Nat.le_refl _, fun _ _ _ => rfl⟩
theorem Fr.trans {L L' : Lay} {w w' w'' : World} (h : Fr L w w') (e : Ext L L' w) (h' : Fr L' w' w'') : Fr L w w'' :=
  ⟨h'.os.trans h.os, h'.tape.trans h.tape, h'.output.trans h.output, Nat.le_trans h.size h'.size, fun b hb ho => (h'.block b (Nat.lt_of_lt_of_le hb h.size) (by rw [e b hb]; exact ho)).trans (h.block b hb ho)⟩
theorem Fr.of_below {L : Lay} {w w' : World} (h : Below w.heap.size w w') : Fr L w w' := ⟨h.os, h.tape, h.output, h.size, fun b hb _ => h.block b hb⟩
theorem Fr.low {L : Lay} {B : Nat} {w0 w w' : World} (h : Fr L w w') (hb : Below B w0 w) (hB : B ≤ w.heap.size) (ho : ∀ b, b < B → L.ow b = -1) : Below B w0 w' :=
  hb.trans ⟨h.os, h.tape, h.output, h.size, fun k hk => h.block k (by omega) (ho k hk)⟩

theorem DiskAt.below {L : Lay} {D : Nat} {S : St} {w w' : World} (h : DiskAt L D S w) (hb : Below w.heap.size w w') : DiskAt L D S w' :=
  ⟨(hb.block D (lt_of_block h.blk)).trans h.blk, h.map.block (hb.block _ h.map.lt), h.gone,
    fun k x e => by obtain ⟨p, dv, ev, h1, h2⟩ := h.there k x e; exact ⟨p, dv, ev, h1, h2.keep fun b hl ho => ⟨hb.block b hl, ho⟩⟩, h.pos, h.oD, h.oM, fun b hl => h.fresh b (Nat.le_trans hb.size hl)⟩

/-- One node has turned, and nothing else of the disk. -/
theorem DiskAt.turn {L : Lay} {D : Nat} {S : St} {w w' : World} (h : DiskAt L D S w) {k : Int} {x x' : Nd} {p : Nat} {dv ev : Value} (hk : S.get k = .some x) (hf : L.f k = .some p) (hn : NodeAt L.ow k p x dv ev w)
    (os : w'.os = w.os) (tape : w'.tape = w.tape) (output : w'.output = w.output) (size : w.heap.size ≤ w'.heap.size)
    (hb : ∀ b, b < w.heap.size → L.ow b ≠ k → w'.heap[b]? = w.heap[b]?)
    {dv' ev' : Value} (blk : w'.heap[p]? = .some (.cells ((x'.nc dv').fill ev') 91 (0, 0))) (hd : Byts dv' x'.data w') (he : Row 119 0 ev' x'.ents w')
    (od : ∀ b, dv'.ownBlock = .some b → L.ow b = k ∨ w.heap.size ≤ b) (oe : ∀ b, ev'.ownBlock = .some b → L.ow b = k ∨ w.heap.size ≤ b) :
    ∃ L', DiskAt L' D (S.put k x') w' ∧ Ext L L' w ∧ Fr L w w' ∧ L'.f = L.f ∧ L'.M = L.M ∧ NodeAt L'.ow k p x' dv' ev' w' := by
  have hpos := h.pos k x hk
  have how : ∀ b, b < w.heap.size → (if w.heap.size ≤ b ∧ b < w'.heap.size then k else L.ow b) = L.ow b := fun b hl => if_neg (by omega)
  have hnew : ∀ b, w.heap.size ≤ b → b < w'.heap.size → (if w.heap.size ≤ b ∧ b < w'.heap.size then k else L.ow b) = k := fun b h1 h2 => if_pos ⟨h1, h2⟩
  have hN : NodeAt (fun b => if w.heap.size ≤ b ∧ b < w'.heap.size then k else L.ow b) k p x' dv' ev' w' := by
    refine ⟨blk, hd, he, (how p (lt_of_block hn.blk)).trans hn.op, fun b e => ?_, fun b e => ?_⟩
    · by_cases hl : b < w.heap.size
      · rcases od b e with h1 | h1
        · exact (how b hl).trans h1
        · omega
      · exact hnew b (by omega) (hd.lt e)
    · by_cases hl : b < w.heap.size
      · rcases oe b e with h1 | h1
        · exact (how b hl).trans h1
        · omega
      · exact hnew b (by omega) (he.lt e).2
  refine ⟨⟨fun b => if w.heap.size ≤ b ∧ b < w'.heap.size then k else L.ow b, L.M, L.f⟩, ⟨?_, ?_, ?_, ?_, ?_, ?_, ?_, ?_⟩, fun b hl => how b hl, ⟨os, tape, output, size, fun b hl ho => hb b hl (by omega)⟩, rfl, rfl, hN⟩
  · exact (hb D (lt_of_block h.blk) (by rw [h.oD]; omega)).trans h.blk
  · exact h.map.block (hb _ h.map.lt (by rw [h.oM]; omega))
  · intro j hj
    by_cases e : j = k
    · subst e; rw [St.put_same] at hj; cases hj
    · rw [St.put_other _ _ e] at hj; exact h.gone j hj
  · intro j y hj
    by_cases e : j = k
    · subst e
      rw [St.put_same] at hj
      cases hj
      exact ⟨p, dv', ev', hf, hN⟩
    · rw [St.put_other _ _ e] at hj
      obtain ⟨q, du, eu, h1, h2⟩ := h.there j y hj
      exact ⟨q, du, eu, h1, h2.keep fun b hl ho => ⟨hb b hl (by rw [ho]; exact e), (how b hl).trans ho⟩⟩
  · intro j y hj
    by_cases e : j = k
    · subst e; exact hpos
    · rw [St.put_other _ _ e] at hj; exact h.pos j y hj
  · exact (how D (lt_of_block h.blk)).trans h.oD
  · exact (how _ h.map.lt).trans h.oM
  · intro b hl
    show (if _ then _ else _) = _
    rw [if_neg (by omega)]
    exact h.fresh b (by omega)
end Go.Proofs.Ytgdjoojghkdcbaa
