/-
  No cell of these rows narrows 'for every input' (looked for: loops, veiled, ifaces, maps, wideKeys, modest, calm, conditions, laid).
  DERIVED. THE GIVEN ROWS OF THIS SEAT. 4 by the template 'for every input the law returns true; each argument reads behind the call as it read before'; 0 by the template 'total and deterministic' (their statements: YtgdjoojghkdcbaaTotals.lean).
  GIVEN WITH THE SEED: the statements are not yours to turn. If you find one false, say at which input.
  Laid BY PROGRAM, IN A SANDBOX (cutbox-rows.mjs): the forced cells as the released guide's own fill.sh prints them over the translation 74ef5fbbdd0bdf19… (all of the seat's roots in one cut). By AI agents, Wed Nov 11 2026. No macro, syntax, notation, axiom, sorry.
-/
import Derived.Test.YtgdjoojghkdcbaaChecked
import GoSem.Claim
import GoSem.ClaimJoined
import GoSem.ClaimMapViews
import Derived.JoinedTies
import Derived.KernelRfl
namespace Go.Proofs.Ytgdjoojghkdcbaa
/- THE CELL 'sum', in the pinned program and in every row, IS THE sha256 OF THE DUMP (.gsa) THAT YtgdjoojghkdcbaaProg.lean LOADS. Nothing in Lean hashes anything: it is a label: what it is worth is what the hold of that sum in a sandbox is worth. -/
noncomputable def Try.pinned : Pinned := { name := "ytgdjoojghkdcbaa", sum := "74ef5fbbdd0bdf1935e40d48b1c0a5998f04a992d7606c633d6e804d7acdfe21", checked := Try.checked }
namespace Rows
def none {H : Type} : Left H := { results := [], args := [] }

/-- 'seabaglaw05.WalkFinds': WHATEVER THE INPUT: true; the input reads as it did. -/
def walkFindsSpec : ChangeSpec := { name := "walkFinds", fn := fun _ => fun
  | [d1, d2, d3, d4] => { results := [.lit (.bool true)], args := [d1, d2, d3, d4] }
  | _ => none }
def walkFindsRow : OpenClaim := { program := "ytgdjoojghkdcbaa", sum := "74ef5fbbdd0bdf1935e40d48b1c0a5998f04a992d7606c633d6e804d7acdfe21", func := "seabag/seabaglaw05.WalkFinds", spec := "walkFinds", inPlace := ["internal/bytealg.IndexByteString", "slices.overlaps[seabag/dir.Entry]", "internal/abi.NoEscape", "internal/bytealg.MakeNoZero"], unfollowed := true, recurses := true, apart := false }
def WalkFindsSaid : Prop := walkFindsRow.holds Try.pinned (OpenSpec.ofChange walkFindsSpec)

/-- ITS FALSE NEIGHBOUR: 'it returns false'. Refute it at one input. -/
def walkFindsWrong : ChangeSpec := { name := "walkFinds", fn := fun _ => fun
  | [d1, d2, d3, d4] => { results := [.lit (.bool false)], args := [d1, d2, d3, d4] }
  | _ => none }
def WalkFindsWrongFalsely : Prop := walkFindsRow.holds Try.pinned (OpenSpec.ofChange walkFindsWrong)

/-- 'seabaglaw05.WalkWhole': WHATEVER THE INPUT: true; the input reads as it did. -/
def walkWholeSpec : ChangeSpec := { name := "walkWhole", fn := fun _ => fun
  | [d1, d2] => { results := [.lit (.bool true)], args := [d1, d2] }
  | _ => none }
def walkWholeRow : OpenClaim := { program := "ytgdjoojghkdcbaa", sum := "74ef5fbbdd0bdf1935e40d48b1c0a5998f04a992d7606c633d6e804d7acdfe21", func := "seabag/seabaglaw05.WalkWhole", spec := "walkWhole", inPlace := ["internal/bytealg.IndexByteString", "slices.overlaps[seabag/dir.Entry]", "internal/abi.NoEscape", "internal/bytealg.MakeNoZero"], unfollowed := true, recurses := true, apart := false }
def WalkWholeSaid : Prop := walkWholeRow.holds Try.pinned (OpenSpec.ofChange walkWholeSpec)

/-- ITS FALSE NEIGHBOUR: 'it returns false'. Refute it at one input. -/
def walkWholeWrong : ChangeSpec := { name := "walkWhole", fn := fun _ => fun
  | [d1, d2] => { results := [.lit (.bool false)], args := [d1, d2] }
  | _ => none }
def WalkWholeWrongFalsely : Prop := walkWholeRow.holds Try.pinned (OpenSpec.ofChange walkWholeWrong)

/-- 'seabaglaw05.WalkDots': WHATEVER THE INPUT: true; the input reads as it did. -/
def walkDotsSpec : ChangeSpec := { name := "walkDots", fn := fun _ => fun
  | [d1, d2, d3] => { results := [.lit (.bool true)], args := [d1, d2, d3] }
  | _ => none }
def walkDotsRow : OpenClaim := { program := "ytgdjoojghkdcbaa", sum := "74ef5fbbdd0bdf1935e40d48b1c0a5998f04a992d7606c633d6e804d7acdfe21", func := "seabag/seabaglaw05.WalkDots", spec := "walkDots", inPlace := ["internal/bytealg.IndexByteString", "slices.overlaps[seabag/dir.Entry]", "internal/abi.NoEscape", "internal/bytealg.MakeNoZero"], unfollowed := true, recurses := true, apart := false }
def WalkDotsSaid : Prop := walkDotsRow.holds Try.pinned (OpenSpec.ofChange walkDotsSpec)

/-- ITS FALSE NEIGHBOUR: 'it returns false'. Refute it at one input. -/
def walkDotsWrong : ChangeSpec := { name := "walkDots", fn := fun _ => fun
  | [d1, d2, d3] => { results := [.lit (.bool false)], args := [d1, d2, d3] }
  | _ => none }
def WalkDotsWrongFalsely : Prop := walkDotsRow.holds Try.pinned (OpenSpec.ofChange walkDotsWrong)

/-- 'seabaglaw05.WalkLoops': WHATEVER THE INPUT: true; the input reads as it did. -/
def walkLoopsSpec : ChangeSpec := { name := "walkLoops", fn := fun _ => fun
  | [d1, d2] => { results := [.lit (.bool true)], args := [d1, d2] }
  | _ => none }
def walkLoopsRow : OpenClaim := { program := "ytgdjoojghkdcbaa", sum := "74ef5fbbdd0bdf1935e40d48b1c0a5998f04a992d7606c633d6e804d7acdfe21", func := "seabag/seabaglaw05.WalkLoops", spec := "walkLoops", inPlace := ["internal/bytealg.IndexByteString", "slices.overlaps[seabag/dir.Entry]", "internal/abi.NoEscape", "internal/bytealg.MakeNoZero"], unfollowed := true, recurses := true, apart := false }
def WalkLoopsSaid : Prop := walkLoopsRow.holds Try.pinned (OpenSpec.ofChange walkLoopsSpec)

/-- ITS FALSE NEIGHBOUR: 'it returns false'. Refute it at one input. -/
def walkLoopsWrong : ChangeSpec := { name := "walkLoops", fn := fun _ => fun
  | [d1, d2] => { results := [.lit (.bool false)], args := [d1, d2] }
  | _ => none }
def WalkLoopsWrongFalsely : Prop := walkLoopsRow.holds Try.pinned (OpenSpec.ofChange walkLoopsWrong)

/- THE SECOND FORM. 'bulk': how many values and letters a reading holds, each counted each time it is reached (what is shared counts as often as it is met; a slice's spare places count too). A statement '..UptoSaid' is the law's where the arguments, and the package variables that the reading takes, are together of bulk at most 1048576: NARROWER than '..Said'. Prove '..Said' where nothing that the law and all that it calls make is longer than what came in: it says more and counts as full. Else prove '..UptoSaid'. A law counts once. -/
mutual
def uptoBulk {H : Type} : DataW H → Nat
  | .lit (.string bytes) => bytes.length + 1
  | .lit _ => 1
  | .nil => 1
  | .ptr d => uptoBulk d + 1
  | .slice elems spare => uptoBulkAll elems + uptoBulkAll spare + 1
  | .agg parts => uptoBulkAll parts + 1
  | .iface _ d => uptoBulk d + 1
  | .map entries => uptoBulkEntries entries + 1
  | .held _ => 1
def uptoBulkAll {H : Type} : List (DataW H) → Nat
  | [] => 0
  | d :: r => uptoBulk d + uptoBulkAll r
def uptoBulkEntries {H : Type} : List (Lit × DataW H) → Nat
  | [] => 0
  | x :: r => uptoBulkEntry x + uptoBulkEntries r
def uptoBulkEntry {H : Type} : Lit × DataW H → Nat
  | (.string bytes, d) => bytes.length + uptoBulk d + 1
  | (_, d) => uptoBulk d + 1
 end
def uptoSmall : (H : Type) → List (DataW H) → Bool := fun _ ds => decide (uptoBulkAll ds ≤ 1048576)
def OpenSpec.upto (s : _root_.Go.ChangeSpec) : _root_.Go.OpenSpec := { _root_.Go.OpenSpec.ofChange s with cond := some uptoSmall }

/-- 'seabaglaw05.WalkFinds', WHERE WHAT IT READS IS OF BULK AT MOST 1048576: true; the input reads as it did. -/
def walkFindsUptoRow : OpenClaim := { program := "ytgdjoojghkdcbaa", sum := "74ef5fbbdd0bdf1935e40d48b1c0a5998f04a992d7606c633d6e804d7acdfe21", func := "seabag/seabaglaw05.WalkFinds", spec := "walkFinds", inPlace := ["internal/bytealg.IndexByteString", "slices.overlaps[seabag/dir.Entry]", "internal/abi.NoEscape", "internal/bytealg.MakeNoZero"], unfollowed := true, recurses := true, apart := false, narrowed := true }
def WalkFindsUptoSaid : Prop := walkFindsUptoRow.holds Try.pinned (OpenSpec.upto walkFindsSpec)

/-- 'seabaglaw05.WalkWhole', WHERE WHAT IT READS IS OF BULK AT MOST 1048576: true; the input reads as it did. -/
def walkWholeUptoRow : OpenClaim := { program := "ytgdjoojghkdcbaa", sum := "74ef5fbbdd0bdf1935e40d48b1c0a5998f04a992d7606c633d6e804d7acdfe21", func := "seabag/seabaglaw05.WalkWhole", spec := "walkWhole", inPlace := ["internal/bytealg.IndexByteString", "slices.overlaps[seabag/dir.Entry]", "internal/abi.NoEscape", "internal/bytealg.MakeNoZero"], unfollowed := true, recurses := true, apart := false, narrowed := true }
def WalkWholeUptoSaid : Prop := walkWholeUptoRow.holds Try.pinned (OpenSpec.upto walkWholeSpec)

/-- 'seabaglaw05.WalkDots', WHERE WHAT IT READS IS OF BULK AT MOST 1048576: true; the input reads as it did. -/
def walkDotsUptoRow : OpenClaim := { program := "ytgdjoojghkdcbaa", sum := "74ef5fbbdd0bdf1935e40d48b1c0a5998f04a992d7606c633d6e804d7acdfe21", func := "seabag/seabaglaw05.WalkDots", spec := "walkDots", inPlace := ["internal/bytealg.IndexByteString", "slices.overlaps[seabag/dir.Entry]", "internal/abi.NoEscape", "internal/bytealg.MakeNoZero"], unfollowed := true, recurses := true, apart := false, narrowed := true }
def WalkDotsUptoSaid : Prop := walkDotsUptoRow.holds Try.pinned (OpenSpec.upto walkDotsSpec)

/-- 'seabaglaw05.WalkLoops', WHERE WHAT IT READS IS OF BULK AT MOST 1048576: true; the input reads as it did. -/
def walkLoopsUptoRow : OpenClaim := { program := "ytgdjoojghkdcbaa", sum := "74ef5fbbdd0bdf1935e40d48b1c0a5998f04a992d7606c633d6e804d7acdfe21", func := "seabag/seabaglaw05.WalkLoops", spec := "walkLoops", inPlace := ["internal/bytealg.IndexByteString", "slices.overlaps[seabag/dir.Entry]", "internal/abi.NoEscape", "internal/bytealg.MakeNoZero"], unfollowed := true, recurses := true, apart := false, narrowed := true }
def WalkLoopsUptoSaid : Prop := walkLoopsUptoRow.holds Try.pinned (OpenSpec.upto walkLoopsSpec)

end Rows
end Go.Proofs.Ytgdjoojghkdcbaa
