/- The document's Below, gives. Conditions: few nodes. -/
import Derived.Test.YtgdjoojghkdcbaaXg
namespace Go.Proofs.Ytgdjoojghkdcbaa
open Go.RowKit Go.PlainAid
set_option linter.unusedSimpArgs false

/-- Is a directory another one, or below it? -/
def belF (R : List Nr) (top : Int) : Nat → Int → Bool
  | 0, _ => false
  | f + 1, id => if id = top then true else if id = 1 then false else belF R top f (upR R id)
def belowR (R : List Nr) (id top : Int) : Bool := belF R top (R.length + 1) id
def RelBe (P : Nat → Prop) (w : World) (v : Value) (room : Int) (Z : List Zn) (top : Int) (T : Bool) (id n : Value) (wr : World) : Prop :=
  ∃ (k : Nat) (i : Int), k ≤ Z.length + 1 ∧ n = .int .i64 k ∧ id = .int .i64 i ∧ belF (nrs Z) top (Z.length + 1 - k) i = T ∧ Bx P w v room Z wr

/-- An error, if a node can't take another one's place. -/
def giveE (k o : Nr) : Int := if k.kind = 2 ∧ o.kind ≠ 2 then 14 else if k.kind ≠ 2 ∧ o.kind = 2 then 15 else if 0 < o.ents.length then 16 else 0
end Go.Proofs.Ytgdjoojghkdcbaa
