/- What a law's frame wants: the library's own variable out of the world's shape; a list of texts that came in. No condition. -/
import Derived.Test.YtabnhdbhccbebaaI
import Derived.Shelf.Vars
namespace Go.Proofs.Ytabnhdbhccbebaa
open Go.RowKit Go.PlainAid Go.ChangeShapes Go.WideShapes Go.ChangeAt
set_option linter.unusedSimpArgs false
set_option linter.unusedVariables false

theorem env_of (W : World) (h : W.ShapedOpen Try.prog) : Env W :=
  Go.Proofs.cell_of_shapedOpen_int (zero := #[.int .i64 0]) (t := 3) h (of_decide_eq_true (by kernel_rfl)) (by kernel_rfl) rfl (by kernel_rfl) (by kernel_rfl) Try.underlying3
/-- The same, and how many texts there may be. -/
def StrsL (w : World) (v : Value) (ns : List ByteArray) : Prop := Strs w v ns ∧ ns.length ≤ 9223372036854775807
set_option maxRecDepth 100000 in
theorem open_inL {H : Type} {enc : TypeId × Value → H} {W : World} {base : Nat} {v : Value} {d : DataW H} {p : List MemPlace} (hv : Value.okWide Try.prog W .any base 22 v) (h : DataW.Trod enc Try.prog W 0 (fun _ => true) true 22 v d p) :
    ∃ ns, StrsL W v ns := by
  obtain ⟨ns, hn⟩ := open_in hv h
  refine ⟨ns, hn, ?_⟩
  obtain ⟨a, len, cap, rfl⟩ := okWide_slice Try.underlying22 hv
  obtain ⟨fuel, hf⟩ := h
  obtain ⟨a', c', e⟩ := hn.shape
  cases e
  rcases open_strings Try.underlying22 Try.underlying9 (by kernel_rfl) hf with ⟨hcs, _⟩ | ⟨x, l, c, ss, hcs, _, hl, hm, _, _, _, _⟩
  · simp [Value.cells] at hcs
    simp [hcs]
  · simp [Value.cells] at hcs
    obtain ⟨rfl, h2, rfl⟩ := hcs
    unfold maxLen at hm
    omega
theorem finds3w (F : Int) (v : Value) (ns : List ByteArray) (n : Int) (w : World) (he : Env w) (hv : StrsL w v ns) : Calls Try.prog 3 #[.int .i64 F, v, .int .i64 n] w fun e w' => e = .returned (.bool true) ∧ Below w.heap.size w w' := finds3 F v ns n w he hv.1 hv.2
end Go.Proofs.Ytabnhdbhccbebaa
