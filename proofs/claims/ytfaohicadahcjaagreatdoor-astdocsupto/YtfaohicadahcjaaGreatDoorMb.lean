/- Plain mirrors of what may be in scripts, and trees. No condition. -/
import Derived.Test.YtfaohicadahcjaaGreatDoorMa
import Derived.OneCell
namespace Go.Proofs.YtfaohicadahcjaaGreatDoor
open Go.RowKit Go.PlainAid
set_option linter.unusedSimpArgs false
set_option linter.unusedVariables false

/-! Bytes, as numbers. -/
def lettN (c : Nat) : Bool := (decide (97 ≤ c) && decide (c ≤ 122)) || (decide (65 ≤ c) && decide (c ≤ 90))
def digN (c : Nat) : Bool := decide (48 ≤ c) && decide (c ≤ 57)
def bareS : List UInt8 := [95, 46, 47, 44, 43, 45, 58, 64, 42, 63, 91, 93, 33, 94, 61, 126, 37]
def sumS : List UInt8 := [32, 9, 10, 95, 43, 45, 42, 47, 37, 60, 62, 61, 33, 38, 124, 94, 126, 63, 58, 36, 40, 41]
/-- Is a byte one of a text's? -/
def hasC (l : List UInt8) (c : Nat) : Bool := l.contains (UInt8.ofNat c)
def bareN (c : Nat) : Bool := lettN c || digN c || hasC bareS c
def sumN (c : Nat) : Bool := lettN c || digN c || hasC sumS c
/-- May a byte stand in a name, as its first one, or behind it? -/
def nmN (first : Bool) (c : Nat) : Bool := decide (c = 95) || lettN c || (!first && digN c)
/-- How many bytes of a name a text begins with. -/
def nmA : Bool → List UInt8 → Nat
  | _, [] => 0
  | f, b :: r => if nmN f b.toNat then nmA false r + 1 else 0
def nameL (l : List UInt8) : Bool := !l.isEmpty && decide (nmA true l = l.length)
theorem nmA_le : ∀ (f : Bool) (l : List UInt8), nmA f l ≤ l.length
  | _, [] => Nat.le_refl _
  | f, b :: r => by
    rw [nmA]
    split
    · have := nmA_le false r; simp; omega
    · simp
def numL (l : List UInt8) : Bool := !l.isEmpty && decide (l.length ≤ 4) && l.all (fun b => digN b.toNat) && (decide (at0 l 0 ≠ 48) || l == [48])
def spL (l : List UInt8) : Bool := [[64], [42], [35], [63], [45], [36], [33]].contains l
def resLs : List (List UInt8) := [[105, 102], [116, 104, 101, 110], [101, 108, 105, 102], [101, 108, 115, 101], [102, 105], [119, 104, 105, 108, 101], [117, 110, 116, 105, 108], [100, 111], [100, 111, 110, 101], [102, 111, 114], [105, 110], [99, 97, 115, 101], [101, 115, 97, 99], [33], [123], [125]]
def resL (l : List UInt8) : Bool := resLs.contains l
def opLs : List (List UInt8) := [[45], [58, 45], [61], [58, 61], [63], [58, 63], [43], [58, 43], [35], [35, 35], [37], [37, 37]]
def opL (l : List UInt8) : Bool := opLs.contains l
/-- A sum's text, with so many brackets open. -/
def sumA : Nat → List UInt8 → Bool
  | o, [] => decide (o = 0)
  | o, b :: r => sumN b.toNat && (if b.toNat = 40 then sumA (o + 1) r else if b.toNat = 41 then (match o with | 0 => false | o' + 1 => sumA o' r) else sumA o r)
def sumL (l : List UInt8) : Bool := sumA 0 l

/-! Trees. -/
mutual
inductive Pt where | mk (kind : Int) (quoted : Bool) (text op : ByteArray) (word : List Pt) (body : List Nd)
inductive Nd where | mk (kind : Int) (name : ByteArray) (assigns : List As) (words : List (List Pt)) (redirs : List Rd) (lists : List (List Nd)) (arms : List Ar)
inductive As where | mk (name : ByteArray) (word : List Pt)
inductive Rd where | mk (fd : Int) (op tag : ByteArray) (word : List Pt)
inductive Ar where | mk (words : List (List Pt)) (body : List Nd)
end
def Pt.kind : Pt → Int | .mk k _ _ _ _ _ => k
def Pt.quoted : Pt → Bool | .mk _ q _ _ _ _ => q
def Pt.text : Pt → ByteArray | .mk _ _ t _ _ _ => t
def Pt.op : Pt → ByteArray | .mk _ _ _ o _ _ => o
def Pt.word : Pt → List Pt | .mk _ _ _ _ w _ => w
def Pt.body : Pt → List Nd | .mk _ _ _ _ _ b => b
def Nd.kind : Nd → Int | .mk k _ _ _ _ _ _ => k
def Nd.name : Nd → ByteArray | .mk _ n _ _ _ _ _ => n
def Nd.assigns : Nd → List As | .mk _ _ a _ _ _ _ => a
def Nd.words : Nd → List (List Pt) | .mk _ _ _ w _ _ _ => w
def Nd.redirs : Nd → List Rd | .mk _ _ _ _ r _ _ => r
def Nd.lists : Nd → List (List Nd) | .mk _ _ _ _ _ l _ => l
def Nd.arms : Nd → List Ar | .mk _ _ _ _ _ _ a => a
def As.name : As → ByteArray | .mk n _ => n
def As.word : As → List Pt | .mk _ w => w
def Rd.fd : Rd → Int | .mk f _ _ _ => f
def Rd.op : Rd → ByteArray | .mk _ o _ _ => o
def Rd.tag : Rd → ByteArray | .mk _ _ t _ => t
def Rd.word : Rd → List Pt | .mk _ _ _ w => w
def Ar.words : Ar → List (List Pt) | .mk w _ => w
def Ar.body : Ar → List Nd | .mk _ b => b

/-! What may be: the program's way. -/
def emB (s : ByteArray) : Bool := ls s == []
/-- Texts of a word's Lits, whether one is quoted; none: it has others. -/
def plainL : List Pt → Option (List UInt8 × Bool)
  | [] => some ([], false)
  | p :: r => if p.kind = 1 then (match plainL r with | some (l, q) => some (ls p.text ++ l, p.quoted || q) | none => none) else none
def beginsB (w : List Pt) : Bool := match w with | [] => false | p :: _ => decide (p.kind = 1) && !p.quoted
def behindB (p a : Pt) : Bool := if a.kind ≠ 1 then true else if p.kind = 1 then p.quoted != a.quoted else !emB a.text || !p.quoted
def bytesB (t : ByteArray) (q : Bool) : Bool := if q then !(ls t).contains 0 else (ls t).all (fun b => bareN b.toNat) && !emB t
def litB (w : List Pt) : Bool := match w with | [] => true | [p] => decide (p.kind = 1) | _ => false
/-- Bytes with a \ ahead of each \, $ and `. -/
def escL : List UInt8 → List UInt8
  | [] => []
  | b :: r => if b = 92 ∨ b = 36 ∨ b = 96 then 92 :: b :: escL r else b :: escL r
/-- A part of a here-document that isn't literal. -/
def docP (p : Pt) : List UInt8 := if p.kind = 1 then escL (ls p.text) else if p.kind = 2 then [36, 123] ++ ls p.text ++ [125] else if p.kind = 4 then [36, 40, 40] ++ ls p.text ++ [41, 41] else []
def docL (w : List Pt) : List UInt8 := if litB w then (match w with | [] => [] | p :: _ => ls p.text) else (w.map docP).flatten
/-- Does a text stand in another one? -/
def inB (t l : List UInt8) : Bool := (List.range (l.length + 1)).any (fun i => t.isPrefixOf (l.drop i))
def docOk (r : Rd) : Bool := r.word.all (fun p => p.quoted && decide (p.kind ≠ 3) && emB p.op && !(decide (p.kind = 4) && (ls p.text).contains 10)) &&
  (r.word.isEmpty || ([10].isSuffixOf (docL r.word) && !inB (10 :: (ls r.tag ++ [10])) (10 :: docL r.word)))
def redLs : List (List UInt8) := [[60], [62], [62, 62], [60, 62], [62, 124], [60, 38], [62, 38]]
/-- The parts of a word, one by one, each with the one ahead of it. -/
def wordB (f : Pt → Bool) : Option Pt → List Pt → Bool
  | _, [] => true
  | a, p :: r => f p && (match a with | none => true | some a => behindB p a) && wordB f (some p) r
def begB (l : List (List Pt)) : Bool := match l with
  | [] => true
  | w :: _ => match w with
    | [] => true
    | p :: r => if decide (p.kind = 1) && !p.quoted then
        (let t := ls p.text; let n := nmA true t
          if decide (0 < n) && decide (n < t.length) && decide (at0 t n = 61) then false else (decide (1 ≤ r.length) || !resL t)) else true
def hasN (n : Nd) : Nat := (if emB n.name then 0 else 1) + (if n.assigns = [] then 0 else 2) + (if n.words.isEmpty then 0 else 4) + (if n.redirs.isEmpty then 0 else 8) + (if n.lists.isEmpty then 0 else 16) + (if n.arms.isEmpty then 0 else 32)
end Go.Proofs.YtfaohicadahcjaaGreatDoor

/- Slices of structures, and trees, in memory. No condition. -/
namespace Go.Proofs.YtfaohicadahcjaaGreatDoor
open Go.RowKit Go.PlainAid Go.ChangeShapes Go.WideShapes Go.ChangeAt
set_option linter.unusedSimpArgs false
set_option linter.unusedVariables false

/-! Slices of structures: what a slice of elements of k cells holds. -/
def Seg {α : Type} (k : Nat) (C : World → List Value → α → Prop) (w : World) (v : Value) (l : List α) : Prop :=
  l.length ≤ 1048576 ∧ ((l = [] ∧ ∃ a c, v = .slice a 0 c) ∨ ∃ b off c, v = .slice (some ⟨b, off, none⟩) l.length c ∧ l.length ≤ c ∧
    ∀ (i : Nat) (x : α), l[i]? = some x → ∃ cs : List Value, (∀ (j : Nat) u, cs[j]? = some u → w.cell? ⟨b, off + i * k + j, none⟩ = some u) ∧ C w cs x)
theorem Seg.len {α : Type} {k : Nat} {C : World → List Value → α → Prop} {w : World} {v : Value} {l : List α} (h : Seg k C w v l) : l.length ≤ 1048576 := h.1
theorem Seg.shape {α : Type} {k : Nat} {C : World → List Value → α → Prop} {w : World} {v : Value} {l : List α} (h : Seg k C w v l) : ∃ a c, v = .slice a l.length c := by
  rcases h.2 with ⟨rfl, a, c, rfl⟩ | ⟨b, off, c, rfl, _, _⟩
  · exact ⟨a, c, rfl⟩
  · exact ⟨_, _, rfl⟩
theorem Seg.nil {α : Type} {k : Nat} {C : World → List Value → α → Prop} {w : World} {a : Option Addr} {c : Nat} : Seg k C w (.slice a 0 c) ([] : List α) := ⟨by simp, .inl ⟨rfl, a, c, rfl⟩⟩
theorem Seg.at {α : Type} {k : Nat} {C : World → List Value → α → Prop} {w : World} {v : Value} {l : List α} (h : Seg k C w v l) (i : Nat) (hi : i < l.length) :
    ∃ b off c cs, v = .slice (some ⟨b, off, none⟩) l.length c ∧ l.length ≤ c ∧ (∀ (j : Nat) u, cs[j]? = some u → w.cell? ⟨b, off + i * k + j, none⟩ = some u) ∧ C w cs l[i] := by
  rcases h.2 with ⟨rfl, _⟩ | ⟨b, off, c, hv, hc, hx⟩
  · simp at hi
  · obtain ⟨cs, h1, h2⟩ := hx i l[i] (List.getElem?_eq_getElem hi)
    exact ⟨b, off, c, cs, hv, hc, h1, h2⟩
theorem cell_low {w w' : World} {p : Addr} {v : Value} (h : w.cell? p = some v) (hb : Below w.heap.size w w') : w'.cell? p = some v := by
  rw [hb.cell (World.block_lt_of_cell? _ _ h)]; exact h
theorem Seg.keep {α : Type} {k : Nat} {C : World → List Value → α → Prop} {w w' : World} {v : Value} {l : List α} (h : Seg k C w v l) (hb : Below w.heap.size w w')
    (hC : ∀ cs x, x ∈ l → C w cs x → C w' cs x) : Seg k C w' v l := by
  refine ⟨h.1, ?_⟩
  rcases h.2 with h2 | ⟨b, off, c, hv, hc, hx⟩
  · exact .inl h2
  · refine .inr ⟨b, off, c, hv, hc, fun i x hi => ?_⟩
    obtain ⟨cs, h1, h2⟩ := hx i x hi
    exact ⟨cs, fun j u hj => cell_low (h1 j u hj) hb, hC cs x (List.mem_of_getElem? hi) h2⟩
theorem Seg.mono {α : Type} {k : Nat} {C D : World → List Value → α → Prop} {w : World} {v : Value} {l : List α} (h : Seg k C w v l) (hC : ∀ cs x, C w cs x → D w cs x) : Seg k D w v l := by
  refine ⟨h.1, ?_⟩
  rcases h.2 with h2 | ⟨b, off, c, hv, hc, hx⟩
  · exact .inl h2
  · refine .inr ⟨b, off, c, hv, hc, fun i x hi => ?_⟩
    obtain ⟨cs, h1, h2⟩ := hx i x hi
    exact ⟨cs, h1, hC cs x h2⟩
/-- A part of a slice. -/
theorem Seg.part {α : Type} {k : Nat} {C : World → List Value → α → Prop} {w : World} {b off c : Nat} {l : List α} (h : Seg k C w (.slice (some ⟨b, off, none⟩) l.length c) l) (hl : l ≠ []) (i j : Nat) (hij : i ≤ j) (hj : j ≤ l.length) (c' : Nat) (hc' : j - i ≤ c') :
    Seg k C w (.slice (some ⟨b, off + i * k, none⟩) (j - i) c') ((l.take j).drop i) := by
  rcases h.2 with ⟨h0, _⟩ | ⟨b', off', c1, hv, hc, hx⟩
  · exact absurd h0 hl
  · cases hv
    have hlen : ((l.take j).drop i).length = j - i := by simp; omega
    refine ⟨by rw [hlen]; have := h.1; omega, .inr ⟨b, off + i * k, c', by rw [hlen], by rw [hlen]; exact hc', fun m x hm => ?_⟩⟩
    rw [List.getElem?_drop, List.getElem?_take] at hm
    split at hm
    · obtain ⟨cs, h1, h2⟩ := hx _ _ hm
      refine ⟨cs, fun q u hq => ?_, h2⟩
      have := h1 q u hq
      rw [show off + (i + m) * k + q = off + i * k + m * k + q by rw [Nat.add_mul]; omega] at this
      exact this
    · cases hm

abbrev RdP (α : Type) := World → Value → List α → Prop
abbrev In64 (k : Int) : Prop := (Lit.int .i64 k).wf = true
structure PtFits (p : Pt) : Prop where
  k : In64 p.kind
  t : p.text.size ≤ 1048576
  o : p.op.size ≤ 1048576
/-- A part's cells. -/
def PtC (W : RdP Pt) (N : RdP Nd) (w : World) (cs : List Value) (p : Pt) : Prop :=
  ∃ wv bv, cs = [.int .i64 p.kind, .bool p.quoted, .string p.text, .string p.op, wv, bv] ∧ PtFits p ∧ W w wv p.word ∧ N w bv p.body
def AsC (W : RdP Pt) (w : World) (cs : List Value) (a : As) : Prop := ∃ wv, cs = [.string a.name, wv] ∧ a.name.size ≤ 1048576 ∧ W w wv a.word
/-- How many bytes a word's texts have. -/
def wordN : List Pt → Nat
  | [] => 0
  | p :: r => p.text.size + wordN r
structure RdFits (r : Rd) : Prop where
  f : In64 r.fd
  o : r.op.size ≤ 1048576
  t : r.tag.size ≤ 1048576
  s : wordN r.word ≤ 1048576
def RdC (W : RdP Pt) (w : World) (cs : List Value) (r : Rd) : Prop := ∃ wv, cs = [.int .i64 r.fd, .string r.op, .string r.tag, wv] ∧ RdFits r ∧ W w wv r.word
def OneC {α : Type} (Q : RdP α) (w : World) (cs : List Value) (x : List α) : Prop := ∃ v, cs = [v] ∧ Q w v x
def ArC (W : RdP Pt) (N : RdP Nd) (w : World) (cs : List Value) (a : Ar) : Prop := ∃ wv bv, cs = [wv, bv] ∧ Seg 1 (OneC W) w wv a.words ∧ N w bv a.body
structure NdFits (n : Nd) : Prop where
  k : In64 n.kind
  t : n.name.size ≤ 1048576
def NdC (W : RdP Pt) (N : RdP Nd) (w : World) (cs : List Value) (n : Nd) : Prop :=
  ∃ av wv rv lv mv, cs = [.int .i64 n.kind, .string n.name, av, wv, rv, lv, mv] ∧ NdFits n ∧ Seg 2 (AsC W) w av n.assigns ∧ Seg 1 (OneC W) w wv n.words ∧ Seg 4 (RdC W) w rv n.redirs ∧ Seg 1 (OneC N) w lv n.lists ∧ Seg 2 (ArC W N) w mv n.arms
def NilP {α : Type} : RdP α := fun _ v l => l = [] ∧ ∃ a c, v = .slice a 0 c
/-- What a word's value, and commands' value, read as, no deeper than so many levels. -/
def At : Nat → RdP Pt × RdP Nd
  | 0 => (NilP, NilP)
  | n + 1 => (Seg 6 (PtC (At n).1 (At n).2), Seg 7 (NdC (At n).1 (At n).2))
abbrev WdAt (n : Nat) : RdP Pt := (At n).1
abbrev NsAt (n : Nat) : RdP Nd := (At n).2
abbrev WsAt (n : Nat) : RdP (List Pt) := Seg 1 (OneC (WdAt n))
abbrev LsAt (n : Nat) : RdP (List Nd) := Seg 1 (OneC (NsAt n))
abbrev AssAt (n : Nat) : RdP As := Seg 2 (AsC (WdAt n))
abbrev RdsAt (n : Nat) : RdP Rd := Seg 4 (RdC (WdAt n))
abbrev ArsAt (n : Nat) : RdP Ar := Seg 2 (ArC (WdAt n) (NsAt n))
/-- The values of one part, one command .., as a call takes them. -/
def PtV (n : Nat) (w : World) (v : Value) (p : Pt) : Prop := ∃ wv bv, v = .agg #[.int .i64 p.kind, .bool p.quoted, .string p.text, .string p.op, wv, bv] ∧ PtFits p ∧ WdAt n w wv p.word ∧ NsAt n w bv p.body
def RdV (n : Nat) (w : World) (v : Value) (r : Rd) : Prop := ∃ wv, v = .agg #[.int .i64 r.fd, .string r.op, .string r.tag, wv] ∧ RdFits r ∧ WdAt n w wv r.word
def NdV (n : Nat) (w : World) (v : Value) (x : Nd) : Prop :=
  ∃ av wv rv lv mv, v = .agg #[.int .i64 x.kind, .string x.name, av, wv, rv, lv, mv] ∧ NdFits x ∧ AssAt n w av x.assigns ∧ WsAt n w wv x.words ∧ RdsAt n w rv x.redirs ∧ LsAt n w lv x.lists ∧ ArsAt n w mv x.arms

def Kept {α : Type} (Q : RdP α) : Prop := ∀ w w' v l, Q w v l → Below w.heap.size w w' → Q w' v l
theorem kept_nil {α : Type} : Kept (NilP (α := α)) := fun _ _ _ _ h _ => h
theorem kept_one {α : Type} {Q : RdP α} (hQ : Kept Q) : Kept (Seg 1 (OneC Q)) := fun w w' v l h hb => h.keep hb fun cs x _ ⟨v, h1, h2⟩ => ⟨v, h1, hQ _ _ _ _ h2 hb⟩
theorem kept_pt {W : RdP Pt} {N : RdP Nd} (hW : Kept W) (hN : Kept N) : Kept (Seg 6 (PtC W N)) := fun w w' v l h hb => h.keep hb fun cs x _ ⟨wv, bv, h1, h2, h3, h4⟩ => ⟨wv, bv, h1, h2, hW _ _ _ _ h3 hb, hN _ _ _ _ h4 hb⟩
theorem kept_as {W : RdP Pt} (hW : Kept W) : Kept (Seg 2 (AsC W)) := fun w w' v l h hb => h.keep hb fun cs x _ ⟨wv, h1, h2, h3⟩ => ⟨wv, h1, h2, hW _ _ _ _ h3 hb⟩
theorem kept_rd {W : RdP Pt} (hW : Kept W) : Kept (Seg 4 (RdC W)) := fun w w' v l h hb => h.keep hb fun cs x _ ⟨wv, h1, h2, h3⟩ => ⟨wv, h1, h2, hW _ _ _ _ h3 hb⟩
theorem kept_ar {W : RdP Pt} {N : RdP Nd} (hW : Kept W) (hN : Kept N) : Kept (Seg 2 (ArC W N)) := fun w w' v l h hb => h.keep hb fun cs x _ ⟨wv, bv, h1, h2, h3⟩ => ⟨wv, bv, h1, kept_one hW _ _ _ _ h2 hb, hN _ _ _ _ h3 hb⟩
theorem kept_nd {W : RdP Pt} {N : RdP Nd} (hW : Kept W) (hN : Kept N) : Kept (Seg 7 (NdC W N)) := fun w w' v l h hb => h.keep hb fun cs x _ ⟨av, wv, rv, lv, mv, h1, h2, h3, h4, h5, h6, h7⟩ =>
  ⟨av, wv, rv, lv, mv, h1, h2, kept_as hW _ _ _ _ h3 hb, kept_one hW _ _ _ _ h4 hb, kept_rd hW _ _ _ _ h5 hb, kept_one hN _ _ _ _ h6 hb, kept_ar hW hN _ _ _ _ h7 hb⟩
theorem kept_at : ∀ n, Kept (WdAt n) ∧ Kept (NsAt n)
  | 0 => ⟨kept_nil, kept_nil⟩
  | n + 1 => ⟨kept_pt (kept_at n).1 (kept_at n).2, kept_nd (kept_at n).1 (kept_at n).2⟩
theorem kept_wd (n : Nat) : Kept (WdAt n) := (kept_at n).1
theorem kept_ns (n : Nat) : Kept (NsAt n) := (kept_at n).2
theorem kept_ws (n : Nat) : Kept (WsAt n) := kept_one (kept_wd n)
theorem kept_ls (n : Nat) : Kept (LsAt n) := kept_one (kept_ns n)
theorem kept_ass (n : Nat) : Kept (AssAt n) := kept_as (kept_wd n)
theorem kept_rds (n : Nat) : Kept (RdsAt n) := kept_rd (kept_wd n)
theorem kept_ars (n : Nat) : Kept (ArsAt n) := kept_ar (kept_wd n) (kept_ns n)
theorem PtV.keep {n : Nat} {w w' : World} {v : Value} {p : Pt} (h : PtV n w v p) (hb : Below w.heap.size w w') : PtV n w' v p := by
  obtain ⟨wv, bv, h1, h2, h3, h4⟩ := h
  exact ⟨wv, bv, h1, h2, kept_wd n _ _ _ _ h3 hb, kept_ns n _ _ _ _ h4 hb⟩
theorem RdV.keep {n : Nat} {w w' : World} {v : Value} {p : Rd} (h : RdV n w v p) (hb : Below w.heap.size w w') : RdV n w' v p := by
  obtain ⟨wv, h1, h2, h3⟩ := h
  exact ⟨wv, h1, h2, kept_wd n _ _ _ _ h3 hb⟩
theorem NdV.keep {n : Nat} {w w' : World} {v : Value} {p : Nd} (h : NdV n w v p) (hb : Below w.heap.size w w') : NdV n w' v p := by
  obtain ⟨av, wv, rv, lv, mv, h1, h2, h3, h4, h5, h6, h7⟩ := h
  exact ⟨av, wv, rv, lv, mv, h1, h2, kept_ass n _ _ _ _ h3 hb, kept_ws n _ _ _ _ h4 hb, kept_rds n _ _ _ _ h5 hb, kept_ls n _ _ _ _ h6 hb, kept_ars n _ _ _ _ h7 hb⟩

theorem at_len : ∀ n w v l, WdAt n w v l → l.length ≤ 1048576
  | 0, w, v, l, h => by obtain ⟨rfl, _⟩ := h; simp
  | n + 1, w, v, l, h => h.1
theorem ns_len : ∀ n w v l, NsAt n w v l → l.length ≤ 1048576
  | 0, w, v, l, h => by obtain ⟨rfl, _⟩ := h; simp
  | n + 1, w, v, l, h => h.1
theorem wd_shape : ∀ n w v l, WdAt n w v l → ∃ a c, v = .slice a l.length c
  | 0, w, v, l, h => by obtain ⟨rfl, a, c, rfl⟩ := h; exact ⟨a, c, rfl⟩
  | n + 1, w, v, l, h => Seg.shape h
theorem ns_shape : ∀ n w v l, NsAt n w v l → ∃ a c, v = .slice a l.length c
  | 0, w, v, l, h => by obtain ⟨rfl, a, c, rfl⟩ := h; exact ⟨a, c, rfl⟩
  | n + 1, w, v, l, h => Seg.shape h
theorem nil_seg {α : Type} {k : Nat} {C : World → List Value → α → Prop} {w : World} {v : Value} {l : List α} (h : NilP w v l) : Seg k C w v l := by
  obtain ⟨rfl, a, c, rfl⟩ := h; exact Seg.nil
/-- A deeper level takes what a lower one does. -/
theorem at_succ : ∀ n, (∀ w v l, WdAt n w v l → WdAt (n + 1) w v l) ∧ (∀ w v l, NsAt n w v l → NsAt (n + 1) w v l)
  | 0 => ⟨fun w v l h => nil_seg h, fun w v l h => nil_seg h⟩
  | n + 1 => by
    obtain ⟨h1, h2⟩ := at_succ n
    have one1 : ∀ w cs x, OneC (WdAt n) w cs x → OneC (WdAt (n + 1)) w cs x := fun w cs x ⟨v, a, b⟩ => ⟨v, a, h1 _ _ _ b⟩
    have one2 : ∀ w cs x, OneC (NsAt n) w cs x → OneC (NsAt (n + 1)) w cs x := fun w cs x ⟨v, a, b⟩ => ⟨v, a, h2 _ _ _ b⟩
    refine ⟨fun w v l h => Seg.mono h fun cs x ⟨wv, bv, a, b, c, d⟩ => ⟨wv, bv, a, b, h1 _ _ _ c, h2 _ _ _ d⟩, fun w v l h => Seg.mono h fun cs x ⟨av, wv, rv, lv, mv, a, b, c, d, e, f, g⟩ => ⟨av, wv, rv, lv, mv, a, b, ?_, ?_, ?_, ?_, ?_⟩⟩
    · exact c.mono fun cs x ⟨wv, a, b, c⟩ => ⟨wv, a, b, h1 _ _ _ c⟩
    · exact d.mono (one1 w)
    · exact e.mono fun cs x ⟨wv, a, b, c⟩ => ⟨wv, a, b, h1 _ _ _ c⟩
    · exact f.mono (one2 w)
    · exact g.mono fun cs x ⟨wv, bv, a, b, c⟩ => ⟨wv, bv, a, b.mono (one1 w), h2 _ _ _ c⟩
theorem wd_mono {n m : Nat} (h : n ≤ m) {w : World} {v : Value} {l : List Pt} (hl : WdAt n w v l) : WdAt m w v l := by
  obtain ⟨k, rfl⟩ : ∃ k, m = n + k := ⟨m - n, by omega⟩
  induction k with
  | zero => exact hl
  | succ k ih => exact (at_succ _).1 _ _ _ (ih (by omega))
theorem ns_mono {n m : Nat} (h : n ≤ m) {w : World} {v : Value} {l : List Nd} (hl : NsAt n w v l) : NsAt m w v l := by
  obtain ⟨k, rfl⟩ : ∃ k, m = n + k := ⟨m - n, by omega⟩
  induction k with
  | zero => exact hl
  | succ k ih => exact (at_succ _).2 _ _ _ (ih (by omega))
end Go.Proofs.YtfaohicadahcjaaGreatDoor
