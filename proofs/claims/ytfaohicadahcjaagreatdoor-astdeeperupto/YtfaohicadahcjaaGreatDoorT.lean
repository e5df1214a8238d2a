/- Slices of structures, and trees, in memory. No condition. -/
import Derived.Test.YtfaohicadahcjaaGreatDoorP
import Derived.Test.YtfaohicadahcjaaGreatDoorSs
import Derived.OneCell
namespace Go.Proofs.YtfaohicadahcjaaGreatDoor
open Go.RowKit Go.PlainAid Go.ChangeShapes Go.WideShapes Go.ChangeAt
set_option linter.unusedSimpArgs false
set_option linter.unusedVariables false

/-! Slices of structures: what a slice of elements of k cells holds. -/
def Seg {α : Type} (k : Nat) (C : World → List Value → α → Prop) (w : World) (v : Value) (l : List α) : Prop :=
  l.length ≤ 1048576 ∧ ((l = [] ∧ ∃ a c, v = .slice a 0 c) ∨ ∃ b off c, v = .slice (some ⟨b, off, none⟩) l.length c ∧ l.length ≤ c ∧
    ∀ (i : Nat) (x : α), l[i]? = some x → ∃ cs : List Value, (∀ (j : Nat) u, cs[j]? = some u → w.cell? ⟨b, off + i * k + j, none⟩ = some u) ∧ C w cs x)
theorem Seg.len {α : Type} {k : Nat} {C : World → List Value → α → Prop} {w : World} {v : Value} {l : List α} (h : Seg k C w v l) : l.length ≤ 1048576 := h.1
theorem Seg.shape {α : Type} {k : Nat} {C : World → List Value → α → Prop} {w : World} {v : Value} {l : List α} (h : Seg k C w v l) : ∃ a c, v = .slice a l.length c := by
  rcases h.2 with ⟨rfl, a, c, rfl⟩ | ⟨b, off, c, rfl, _, _⟩
  · exact ⟨a, c, rfl⟩
  · exact ⟨_, _, rfl⟩
theorem Seg.nil {α : Type} {k : Nat} {C : World → List Value → α → Prop} {w : World} {a : Option Addr} {c : Nat} : Seg k C w (.slice a 0 c) ([] : List α) := ⟨by simp, .inl ⟨rfl, a, c, rfl⟩⟩
theorem Seg.at {α : Type} {k : Nat} {C : World → List Value → α → Prop} {w : World} {v : Value} {l : List α} (h : Seg k C w v l) (i : Nat) (hi : i < l.length) :
    ∃ b off c cs, v = .slice (some ⟨b, off, none⟩) l.length c ∧ l.length ≤ c ∧ (∀ (j : Nat) u, cs[j]? = some u → w.cell? ⟨b, off + i * k + j, none⟩ = some u) ∧ C w cs l[i] := by
  rcases h.2 with ⟨rfl, _⟩ | ⟨b, off, c, hv, hc, hx⟩
  · simp at hi
  · obtain ⟨cs, h1, h2⟩ := hx i l[i] (List.getElem?_eq_getElem hi)
    exact ⟨b, off, c, cs, hv, hc, h1, h2⟩
theorem cell_low {w w' : World} {p : Addr} {v : Value} (h : w.cell? p = some v) (hb : Below w.heap.size w w') : w'.cell? p = some v := by
  rw [hb.cell (World.block_lt_of_cell? _ _ h)]; exact h
theorem Seg.keep {α : Type} {k : Nat} {C : World → List Value → α → Prop} {w w' : World} {v : Value} {l : List α} (h : Seg k C w v l) (hb : Below w.heap.size w w')
    (hC : ∀ cs x, x ∈ l → C w cs x → C w' cs x) : Seg k C w' v l := by
  refine ⟨h.1, ?_⟩
  rcases h.2 with h2 | ⟨b, off, c, hv, hc, hx⟩
  · exact .inl h2
  · refine .inr ⟨b, off, c, hv, hc, fun i x hi => ?_⟩
    obtain ⟨cs, h1, h2⟩ := hx i x hi
    exact ⟨cs, fun j u hj => cell_low (h1 j u hj) hb, hC cs x (List.mem_of_getElem? hi) h2⟩
theorem Seg.mono {α : Type} {k : Nat} {C D : World → List Value → α → Prop} {w : World} {v : Value} {l : List α} (h : Seg k C w v l) (hC : ∀ cs x, C w cs x → D w cs x) : Seg k D w v l := by
  refine ⟨h.1, ?_⟩
  rcases h.2 with h2 | ⟨b, off, c, hv, hc, hx⟩
  · exact .inl h2
  · refine .inr ⟨b, off, c, hv, hc, fun i x hi => ?_⟩
    obtain ⟨cs, h1, h2⟩ := hx i x hi
    exact ⟨cs, h1, hC cs x h2⟩
/-- A part of a slice. -/
theorem Seg.part {α : Type} {k : Nat} {C : World → List Value → α → Prop} {w : World} {b off c : Nat} {l : List α} (h : Seg k C w (.slice (some ⟨b, off, none⟩) l.length c) l) (hl : l ≠ []) (i j : Nat) (hij : i ≤ j) (hj : j ≤ l.length) (c' : Nat) (hc' : j - i ≤ c') :
    Seg k C w (.slice (some ⟨b, off + i * k, none⟩) (j - i) c') ((l.take j).drop i) := by
  rcases h.2 with ⟨h0, _⟩ | ⟨b', off', c1, hv, hc, hx⟩
  · exact absurd h0 hl
  · cases hv
    have hlen : ((l.take j).drop i).length = j - i := by simp; omega
    refine ⟨by rw [hlen]; have := h.1; omega, .inr ⟨b, off + i * k, c', by rw [hlen], by rw [hlen]; exact hc', fun m x hm => ?_⟩⟩
    rw [List.getElem?_drop, List.getElem?_take] at hm
    split at hm
    · obtain ⟨cs, h1, h2⟩ := hx _ _ hm
      refine ⟨cs, fun q u hq => ?_, h2⟩
      have := h1 q u hq
      rw [show off + (i + m) * k + q = off + i * k + m * k + q by rw [Nat.add_mul]; omega] at this
      exact this
    · cases hm

abbrev RdP (α : Type) := World → Value → List α → Prop
abbrev In64 (k : Int) : Prop := (Lit.int .i64 k).wf = true
structure PtFits (p : Pt) : Prop where
  k : In64 p.kind
  t : p.text.size ≤ 1048576
  o : p.op.size ≤ 1048576
/-- A part's cells. -/
def PtC (W : RdP Pt) (N : RdP Nd) (w : World) (cs : List Value) (p : Pt) : Prop :=
  ∃ wv bv, cs = [.int .i64 p.kind, .bool p.quoted, .string p.text, .string p.op, wv, bv] ∧ PtFits p ∧ W w wv p.word ∧ N w bv p.body
def AsC (W : RdP Pt) (w : World) (cs : List Value) (a : As) : Prop := ∃ wv, cs = [.string a.name, wv] ∧ a.name.size ≤ 1048576 ∧ W w wv a.word
/-- How many bytes a word's texts have. -/
def wordN : List Pt → Nat
  | [] => 0
  | p :: r => p.text.size + wordN r
structure RdFits (r : Rd) : Prop where
  f : In64 r.fd
  o : r.op.size ≤ 1048576
  t : r.tag.size ≤ 1048576
  s : wordN r.word ≤ 1048576
def RdC (W : RdP Pt) (w : World) (cs : List Value) (r : Rd) : Prop := ∃ wv, cs = [.int .i64 r.fd, .string r.op, .string r.tag, wv] ∧ RdFits r ∧ W w wv r.word
def OneC {α : Type} (Q : RdP α) (w : World) (cs : List Value) (x : List α) : Prop := ∃ v, cs = [v] ∧ Q w v x
def ArC (W : RdP Pt) (N : RdP Nd) (w : World) (cs : List Value) (a : Ar) : Prop := ∃ wv bv, cs = [wv, bv] ∧ Seg 1 (OneC W) w wv a.words ∧ N w bv a.body
structure NdFits (n : Nd) : Prop where
  k : In64 n.kind
  t : n.name.size ≤ 1048576
def NdC (W : RdP Pt) (N : RdP Nd) (w : World) (cs : List Value) (n : Nd) : Prop :=
  ∃ av wv rv lv mv, cs = [.int .i64 n.kind, .string n.name, av, wv, rv, lv, mv] ∧ NdFits n ∧ Seg 2 (AsC W) w av n.assigns ∧ Seg 1 (OneC W) w wv n.words ∧ Seg 4 (RdC W) w rv n.redirs ∧ Seg 1 (OneC N) w lv n.lists ∧ Seg 2 (ArC W N) w mv n.arms
def NilP {α : Type} : RdP α := fun _ v l => l = [] ∧ ∃ a c, v = .slice a 0 c
/-- What a word's value, and commands' value, read as, no deeper than so many levels. -/
def At : Nat → RdP Pt × RdP Nd
  | 0 => (NilP, NilP)
  | n + 1 => (Seg 6 (PtC (At n).1 (At n).2), Seg 7 (NdC (At n).1 (At n).2))
abbrev WdAt (n : Nat) : RdP Pt := (At n).1
abbrev NsAt (n : Nat) : RdP Nd := (At n).2
abbrev WsAt (n : Nat) : RdP (List Pt) := Seg 1 (OneC (WdAt n))
abbrev LsAt (n : Nat) : RdP (List Nd) := Seg 1 (OneC (NsAt n))
abbrev AssAt (n : Nat) : RdP As := Seg 2 (AsC (WdAt n))
abbrev RdsAt (n : Nat) : RdP Rd := Seg 4 (RdC (WdAt n))
abbrev ArsAt (n : Nat) : RdP Ar := Seg 2 (ArC (WdAt n) (NsAt n))
/-- The values of one part, one command .., as a call takes them. -/
def PtV (n : Nat) (w : World) (v : Value) (p : Pt) : Prop := ∃ wv bv, v = .agg #[.int .i64 p.kind, .bool p.quoted, .string p.text, .string p.op, wv, bv] ∧ PtFits p ∧ WdAt n w wv p.word ∧ NsAt n w bv p.body
def RdV (n : Nat) (w : World) (v : Value) (r : Rd) : Prop := ∃ wv, v = .agg #[.int .i64 r.fd, .string r.op, .string r.tag, wv] ∧ RdFits r ∧ WdAt n w wv r.word
def NdV (n : Nat) (w : World) (v : Value) (x : Nd) : Prop :=
  ∃ av wv rv lv mv, v = .agg #[.int .i64 x.kind, .string x.name, av, wv, rv, lv, mv] ∧ NdFits x ∧ AssAt n w av x.assigns ∧ WsAt n w wv x.words ∧ RdsAt n w rv x.redirs ∧ LsAt n w lv x.lists ∧ ArsAt n w mv x.arms

def Kept {α : Type} (Q : RdP α) : Prop := ∀ w w' v l, Q w v l → Below w.heap.size w w' → Q w' v l
theorem kept_nil {α : Type} : Kept (NilP (α := α)) := fun _ _ _ _ h _ => h
theorem kept_one {α : Type} {Q : RdP α} (hQ : Kept Q) : Kept (Seg 1 (OneC Q)) := fun w w' v l h hb => h.keep hb fun cs x _ ⟨v, h1, h2⟩ => ⟨v, h1, hQ _ _ _ _ h2 hb⟩
theorem kept_pt {W : RdP Pt} {N : RdP Nd} (hW : Kept W) (hN : Kept N) : Kept (Seg 6 (PtC W N)) := fun w w' v l h hb => h.keep hb fun cs x _ ⟨wv, bv, h1, h2, h3, h4⟩ => ⟨wv, bv, h1, h2, hW _ _ _ _ h3 hb, hN _ _ _ _ h4 hb⟩
theorem kept_as {W : RdP Pt} (hW : Kept W) : Kept (Seg 2 (AsC W)) := fun w w' v l h hb => h.keep hb fun cs x _ ⟨wv, h1, h2, h3⟩ => ⟨wv, h1, h2, hW _ _ _ _ h3 hb⟩
theorem kept_rd {W : RdP Pt} (hW : Kept W) : Kept (Seg 4 (RdC W)) := fun w w' v l h hb => h.keep hb fun cs x _ ⟨wv, h1, h2, h3⟩ => ⟨wv, h1, h2, hW _ _ _ _ h3 hb⟩
theorem kept_ar {W : RdP Pt} {N : RdP Nd} (hW : Kept W) (hN : Kept N) : Kept (Seg 2 (ArC W N)) := fun w w' v l h hb => h.keep hb fun cs x _ ⟨wv, bv, h1, h2, h3⟩ => ⟨wv, bv, h1, kept_one hW _ _ _ _ h2 hb, hN _ _ _ _ h3 hb⟩
theorem kept_nd {W : RdP Pt} {N : RdP Nd} (hW : Kept W) (hN : Kept N) : Kept (Seg 7 (NdC W N)) := fun w w' v l h hb => h.keep hb fun cs x _ ⟨av, wv, rv, lv, mv, h1, h2, h3, h4, h5, h6, h7⟩ =>
  ⟨av, wv, rv, lv, mv, h1, h2, kept_as hW _ _ _ _ h3 hb, kept_one hW _ _ _ _ h4 hb, kept_rd hW _ _ _ _ h5 hb, kept_one hN _ _ _ _ h6 hb, kept_ar hW hN _ _ _ _ h7 hb⟩
theorem kept_at : ∀ n, Kept (WdAt n) ∧ Kept (NsAt n)
  | 0 => ⟨kept_nil, kept_nil⟩
  | n + 1 => ⟨kept_pt (kept_at n).1 (kept_at n).2, kept_nd (kept_at n).1 (kept_at n).2⟩
theorem kept_wd (n : Nat) : Kept (WdAt n) := (kept_at n).1
theorem kept_ns (n : Nat) : Kept (NsAt n) := (kept_at n).2
theorem kept_ws (n : Nat) : Kept (WsAt n) := kept_one (kept_wd n)
theorem kept_ls (n : Nat) : Kept (LsAt n) := kept_one (kept_ns n)
theorem kept_ass (n : Nat) : Kept (AssAt n) := kept_as (kept_wd n)
theorem kept_rds (n : Nat) : Kept (RdsAt n) := kept_rd (kept_wd n)
theorem kept_ars (n : Nat) : Kept (ArsAt n) := kept_ar (kept_wd n) (kept_ns n)
theorem PtV.keep {n : Nat} {w w' : World} {v : Value} {p : Pt} (h : PtV n w v p) (hb : Below w.heap.size w w') : PtV n w' v p := by
  obtain ⟨wv, bv, h1, h2, h3, h4⟩ := h
  exact ⟨wv, bv, h1, h2, kept_wd n _ _ _ _ h3 hb, kept_ns n _ _ _ _ h4 hb⟩
theorem RdV.keep {n : Nat} {w w' : World} {v : Value} {p : Rd} (h : RdV n w v p) (hb : Below w.heap.size w w') : RdV n w' v p := by
  obtain ⟨wv, h1, h2, h3⟩ := h
  exact ⟨wv, h1, h2, kept_wd n _ _ _ _ h3 hb⟩
theorem NdV.keep {n : Nat} {w w' : World} {v : Value} {p : Nd} (h : NdV n w v p) (hb : Below w.heap.size w w') : NdV n w' v p := by
  obtain ⟨av, wv, rv, lv, mv, h1, h2, h3, h4, h5, h6, h7⟩ := h
  exact ⟨av, wv, rv, lv, mv, h1, h2, kept_ass n _ _ _ _ h3 hb, kept_ws n _ _ _ _ h4 hb, kept_rds n _ _ _ _ h5 hb, kept_ls n _ _ _ _ h6 hb, kept_ars n _ _ _ _ h7 hb⟩

theorem at_len : ∀ n w v l, WdAt n w v l → l.length ≤ 1048576
  | 0, w, v, l, h => by obtain ⟨rfl, _⟩ := h; simp
  | n + 1, w, v, l, h => h.1
theorem ns_len : ∀ n w v l, NsAt n w v l → l.length ≤ 1048576
  | 0, w, v, l, h => by obtain ⟨rfl, _⟩ := h; simp
  | n + 1, w, v, l, h => h.1
theorem wd_shape : ∀ n w v l, WdAt n w v l → ∃ a c, v = .slice a l.length c
  | 0, w, v, l, h => by obtain ⟨rfl, a, c, rfl⟩ := h; exact ⟨a, c, rfl⟩
  | n + 1, w, v, l, h => Seg.shape h
theorem ns_shape : ∀ n w v l, NsAt n w v l → ∃ a c, v = .slice a l.length c
  | 0, w, v, l, h => by obtain ⟨rfl, a, c, rfl⟩ := h; exact ⟨a, c, rfl⟩
  | n + 1, w, v, l, h => Seg.shape h
theorem nil_seg {α : Type} {k : Nat} {C : World → List Value → α → Prop} {w : World} {v : Value} {l : List α} (h : NilP w v l) : Seg k C w v l := by
  obtain ⟨rfl, a, c, rfl⟩ := h; exact Seg.nil
/-- A deeper level takes what a lower one does. -/
theorem at_succ : ∀ n, (∀ w v l, WdAt n w v l → WdAt (n + 1) w v l) ∧ (∀ w v l, NsAt n w v l → NsAt (n + 1) w v l)
  | 0 => ⟨fun w v l h => nil_seg h, fun w v l h => nil_seg h⟩
  | n + 1 => by
    obtain ⟨h1, h2⟩ := at_succ n
    have one1 : ∀ w cs x, OneC (WdAt n) w cs x → OneC (WdAt (n + 1)) w cs x := fun w cs x ⟨v, a, b⟩ => ⟨v, a, h1 _ _ _ b⟩
    have one2 : ∀ w cs x, OneC (NsAt n) w cs x → OneC (NsAt (n + 1)) w cs x := fun w cs x ⟨v, a, b⟩ => ⟨v, a, h2 _ _ _ b⟩
    refine ⟨fun w v l h => Seg.mono h fun cs x ⟨wv, bv, a, b, c, d⟩ => ⟨wv, bv, a, b, h1 _ _ _ c, h2 _ _ _ d⟩, fun w v l h => Seg.mono h fun cs x ⟨av, wv, rv, lv, mv, a, b, c, d, e, f, g⟩ => ⟨av, wv, rv, lv, mv, a, b, ?_, ?_, ?_, ?_, ?_⟩⟩
    · exact c.mono fun cs x ⟨wv, a, b, c⟩ => ⟨wv, a, b, h1 _ _ _ c⟩
    · exact d.mono (one1 w)
    · exact e.mono fun cs x ⟨wv, a, b, c⟩ => ⟨wv, a, b, h1 _ _ _ c⟩
    · exact f.mono (one2 w)
    · exact g.mono fun cs x ⟨wv, bv, a, b, c⟩ => ⟨wv, bv, a, b.mono (one1 w), h2 _ _ _ c⟩
theorem wd_mono {n m : Nat} (h : n ≤ m) {w : World} {v : Value} {l : List Pt} (hl : WdAt n w v l) : WdAt m w v l := by
  obtain ⟨k, rfl⟩ : ∃ k, m = n + k := ⟨m - n, by omega⟩
  induction k with
  | zero => exact hl
  | succ k ih => exact (at_succ _).1 _ _ _ (ih (by omega))
theorem ns_mono {n m : Nat} (h : n ≤ m) {w : World} {v : Value} {l : List Nd} (hl : NsAt n w v l) : NsAt m w v l := by
  obtain ⟨k, rfl⟩ : ∃ k, m = n + k := ⟨m - n, by omega⟩
  induction k with
  | zero => exact hl
  | succ k ih => exact (at_succ _).2 _ _ _ (ih (by omega))
end Go.Proofs.YtfaohicadahcjaaGreatDoor
