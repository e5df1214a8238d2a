/- GainCosts' walk, by the code's own condition on Octal. -/
import Derived.Test.YtohjpclpeiidfaaU
namespace Go.Proofs.Ytohjpclpeiidfaa
open Go.RowKit Go.PlainAid
namespace Fl
theorem costs5' (s : ByteArray) (v : Value) (ws : List Int) (hs : s.size ≤ 140737488351232) (W : World) (hv : SlA W v (il ws)) :
    Calls Try.prog 5 #[.string s, v] W fun e W' => e = .returned (.bool true) ∧ Below W.heap.size W W' :=
  costs5 s v ws hs W (fun _ => rfl) hv
end Fl
end Go.Proofs.Ytohjpclpeiidfaa
