/- Plain mirrors of what may be in scripts, and trees. No condition. -/
import Derived.Test.YtfaohicadahcjaaGreatDoorLb
namespace Go.Proofs.YtfaohicadahcjaaGreatDoor
open Go.RowKit Go.PlainAid
set_option linter.unusedSimpArgs false
set_option linter.unusedVariables false

/-! Bytes, as numbers. -/
def lettN (c : Nat) : Bool := (decide (97 ≤ c) && decide (c ≤ 122)) || (decide (65 ≤ c) && decide (c ≤ 90))
def digN (c : Nat) : Bool := decide (48 ≤ c) && decide (c ≤ 57)
def bareS : List UInt8 := [95, 46, 47, 44, 43, 45, 58, 64, 42, 63, 91, 93, 33, 94, 61, 126, 37]
def sumS : List UInt8 := [32, 9, 10, 95, 43, 45, 42, 47, 37, 60, 62, 61, 33, 38, 124, 94, 126, 63, 58, 36, 40, 41]
/-- Is a byte one of a text's? -/
def hasC (l : List UInt8) (c : Nat) : Bool := l.contains (UInt8.ofNat c)
def bareN (c : Nat) : Bool := lettN c || digN c || hasC bareS c
def sumN (c : Nat) : Bool := lettN c || digN c || hasC sumS c
/-- May a byte stand in a name, as its first one, or behind it? -/
def nmN (first : Bool) (c : Nat) : Bool := decide (c = 95) || lettN c || (!first && digN c)
/-- How many bytes of a name a text begins with. -/
def nmA : Bool → List UInt8 → Nat
  | _, [] => 0
  | f, b :: r => if nmN f b.toNat then nmA false r + 1 else 0
def nameL (l : List UInt8) : Bool := !l.isEmpty && decide (nmA true l = l.length)
theorem nmA_le : ∀ (f : Bool) (l : List UInt8), nmA f l ≤ l.length
  | _, [] => Nat.le_refl _
  | f, b :: r => by
    rw [nmA]
    split
    · have := nmA_le false r; simp; omega
    · simp
def numL (l : List UInt8) : Bool := !l.isEmpty && decide (l.length ≤ 4) && l.all (fun b => digN b.toNat) && (decide (at0 l 0 ≠ 48) || l == [48])
def spL (l : List UInt8) : Bool := [[64], [42], [35], [63], [45], [36], [33]].contains l
def resLs : List (List UInt8) := [[105, 102], [116, 104, 101, 110], [101, 108, 105, 102], [101, 108, 115, 101], [102, 105], [119, 104, 105, 108, 101], [117, 110, 116, 105, 108], [100, 111], [100, 111, 110, 101], [102, 111, 114], [105, 110], [99, 97, 115, 101], [101, 115, 97, 99], [33], [123], [125]]
def resL (l : List UInt8) : Bool := resLs.contains l
def opLs : List (List UInt8) := [[45], [58, 45], [61], [58, 61], [63], [58, 63], [43], [58, 43], [35], [35, 35], [37], [37, 37]]
def opL (l : List UInt8) : Bool := opLs.contains l
/-- A sum's text, with so many brackets open. -/
def sumA : Nat → List UInt8 → Bool
  | o, [] => decide (o = 0)
  | o, b :: r => sumN b.toNat && (if b.toNat = 40 then sumA (o + 1) r else if b.toNat = 41 then (match o with | 0 => false | o' + 1 => sumA o' r) else sumA o r)
def sumL (l : List UInt8) : Bool := sumA 0 l

/-! Trees. -/
mutual
inductive Pt where | mk (kind : Int) (quoted : Bool) (text op : ByteArray) (word : List Pt) (body : List Nd)
inductive Nd where | mk (kind : Int) (name : ByteArray) (assigns : List As) (words : List (List Pt)) (redirs : List Rd) (lists : List (List Nd)) (arms : List Ar)
inductive As where | mk (name : ByteArray) (word : List Pt)
inductive Rd where | mk (fd : Int) (op tag : ByteArray) (word : List Pt)
inductive Ar where | mk (words : List (List Pt)) (body : List Nd)
end
def Pt.kind : Pt → Int | .mk k _ _ _ _ _ => k
def Pt.quoted : Pt → Bool | .mk _ q _ _ _ _ => q
def Pt.text : Pt → ByteArray | .mk _ _ t _ _ _ => t
def Pt.op : Pt → ByteArray | .mk _ _ _ o _ _ => o
def Pt.word : Pt → List Pt | .mk _ _ _ _ w _ => w
def Pt.body : Pt → List Nd | .mk _ _ _ _ _ b => b
def Nd.kind : Nd → Int | .mk k _ _ _ _ _ _ => k
def Nd.name : Nd → ByteArray | .mk _ n _ _ _ _ _ => n
def Nd.assigns : Nd → List As | .mk _ _ a _ _ _ _ => a
def Nd.words : Nd → List (List Pt) | .mk _ _ _ w _ _ _ => w
def Nd.redirs : Nd → List Rd | .mk _ _ _ _ r _ _ => r
def Nd.lists : Nd → List (List Nd) | .mk _ _ _ _ _ l _ => l
def Nd.arms : Nd → List Ar | .mk _ _ _ _ _ _ a => a
def As.name : As → ByteArray | .mk n _ => n
def As.word : As → List Pt | .mk _ w => w
def Rd.fd : Rd → Int | .mk f _ _ _ => f
def Rd.op : Rd → ByteArray | .mk _ o _ _ => o
def Rd.tag : Rd → ByteArray | .mk _ _ t _ => t
def Rd.word : Rd → List Pt | .mk _ _ _ w => w
def Ar.words : Ar → List (List Pt) | .mk w _ => w
def Ar.body : Ar → List Nd | .mk _ b => b

/-! What may be: the program's way. -/
def emB (s : ByteArray) : Bool := ls s == []
/-- Texts of a word's Lits, whether one is quoted; none: it has others. -/
def plainL : List Pt → Option (List UInt8 × Bool)
  | [] => some ([], false)
  | p :: r => if p.kind = 1 then (match plainL r with | some (l, q) => some (ls p.text ++ l, p.quoted || q) | none => none) else none
def beginsB (w : List Pt) : Bool := match w with | [] => false | p :: _ => decide (p.kind = 1) && !p.quoted
def behindB (p a : Pt) : Bool := if a.kind ≠ 1 then true else if p.kind = 1 then p.quoted != a.quoted else !emB a.text || !p.quoted
def bytesB (t : ByteArray) (q : Bool) : Bool := if q then !(ls t).contains 0 else (ls t).all (fun b => bareN b.toNat) && !emB t
def litB (w : List Pt) : Bool := match w with | [] => true | [p] => decide (p.kind = 1) | _ => false
/-- Bytes with a \ ahead of each \, $ and `. -/
def escL : List UInt8 → List UInt8
  | [] => []
  | b :: r => if b = 92 ∨ b = 36 ∨ b = 96 then 92 :: b :: escL r else b :: escL r
/-- A part of a here-document that isn't literal. -/
def docP (p : Pt) : List UInt8 := if p.kind = 1 then escL (ls p.text) else if p.kind = 2 then [36, 123] ++ ls p.text ++ [125] else if p.kind = 4 then [36, 40, 40] ++ ls p.text ++ [41, 41] else []
def docL (w : List Pt) : List UInt8 := if litB w then (match w with | [] => [] | p :: _ => ls p.text) else (w.map docP).flatten
/-- Does a text stand in another one? -/
def inB (t l : List UInt8) : Bool := (List.range (l.length + 1)).any (fun i => t.isPrefixOf (l.drop i))
def docOk (r : Rd) : Bool := r.word.all (fun p => p.quoted && decide (p.kind ≠ 3) && emB p.op && !(decide (p.kind = 4) && (ls p.text).contains 10)) &&
  (r.word.isEmpty || ([10].isSuffixOf (docL r.word) && !inB (10 :: (ls r.tag ++ [10])) (10 :: docL r.word)))
def redLs : List (List UInt8) := [[60], [62], [62, 62], [60, 62], [62, 124], [60, 38], [62, 38]]
/-- The parts of a word, one by one, each with the one ahead of it. -/
def wordB (f : Pt → Bool) : Option Pt → List Pt → Bool
  | _, [] => true
  | a, p :: r => f p && (match a with | none => true | some a => behindB p a) && wordB f (some p) r
def begB (l : List (List Pt)) : Bool := match l with
  | [] => true
  | w :: _ => match w with
    | [] => true
    | p :: r => if decide (p.kind = 1) && !p.quoted then
        (let t := ls p.text; let n := nmA true t
          if decide (0 < n) && decide (n < t.length) && decide (at0 t n = 61) then false else (decide (1 ≤ r.length) || !resL t)) else true
def hasN (n : Nd) : Nat := (if emB n.name then 0 else 1) + (if n.assigns = [] then 0 else 2) + (if n.words.isEmpty then 0 else 4) + (if n.redirs.isEmpty then 0 else 8) + (if n.lists.isEmpty then 0 else 16) + (if n.arms.isEmpty then 0 else 32)
end Go.Proofs.YtfaohicadahcjaaGreatDoor
