/- DirOrders, walked at any list of texts. Condition: the number fits an int. -/
import Derived.Test.YtpkffkdojgpmhaaX
namespace Go.Proofs.Ytpkffkdojgpmhaa
open Go.RowKit Go.PlainAid
theorem ord4_in (v0 : Value) (ns : List ByteArray) (t : Int) (hw : (Lit.int .i64 t).wf = true) (w : World) (h : Strs w v0 ns ∧ ∀ s ∈ ns, s.size ≤ maxLen) :
    Calls Try.prog 4 #[v0, .int .i64 t] w fun e w' => e = .returned (.bool true) ∧ Below w.heap.size w w' := by
  have hb : t ≤ 9223372036854775807 := by
    simp [Lit.wf, IntKind.max, IntKind.min, IntKind.bits, IntKind.signed] at hw
    omega
  by_cases h1 : ns.length < 1 ∨ 60 < ns.length ∨ t < 0
  · exact ord4_early v0 ns t w h.1 h1
  · obtain ⟨n, rfl⟩ : ∃ n : Nat, t = n := ⟨t.toNat, by omega⟩
    rcases h.1 with ⟨rfl, _⟩ | ⟨b, off, c, rfl, hc⟩
    · simp at h1
    · exact ord4_main b off c ns n w hc h.2 (by omega) (by omega) hb
end Go.Proofs.Ytpkffkdojgpmhaa
