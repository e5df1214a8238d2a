/- A list of texts that came in, opened. No condition. -/
import Derived.Test.YtpkffkdojgpmhaaU
import Derived.SliceStrings
import Derived.ProofKit
import Derived.OpenShut
namespace Go.Proofs.Ytpkffkdojgpmhaa
open Go.RowKit Go.PlainAid Go.ChangeShapes Go.WideShapes Go.ChangeAt

theorem open_in {H : Type} {enc : TypeId × Value → H} {W : World} {base : Nat} {v : Value} {d : DataW H} {p : List MemPlace} (hv : Value.okWide Try.prog W .any base 44 v) (h : DataW.Trod enc Try.prog W 0 (fun _ => true) true 44 v d p) :
    ∃ ns, Strs W v ns ∧ ∀ s ∈ ns, s.size ≤ maxLen := by
  obtain ⟨a, len, cap, rfl⟩ := okWide_slice Try.underlying44 hv
  obtain ⟨fuel, hf⟩ := h
  rcases open_strings Try.underlying44 Try.underlying9 (by kernel_rfl) hf with ⟨hcs, _⟩ | ⟨x, l, c, ss, hcs, _, hl, _, hz, _, hcell, hws⟩
  · simp [Value.cells] at hcs
    obtain ⟨rfl, rfl, rfl⟩ := hcs
    exact ⟨[], .inl ⟨rfl, _, _, rfl⟩, fun s hs => by simp at hs⟩
  · simp [Value.cells] at hcs
    obtain ⟨rfl, rfl, rfl⟩ := hcs
    have hz' : ss.length = cap := by simpa using hz
    refine ⟨ss.take len, ?_, fun s hs => hws s (List.mem_of_mem_take hs)⟩
    have hlen : (ss.take len).length = len := by rw [List.length_take]; omega
    by_cases h0 : len = 0
    · subst h0
      exact .inl ⟨rfl, _, _, rfl⟩
    · obtain ⟨b, off, spot⟩ := x
      have hspot : spot = none := by simpa [Addr.add] using World.cell?_spot (hcell 0 (by omega))
      subst hspot
      refine .inr ⟨b, off, cap, by rw [hlen], ?_⟩
      intro i s hi
      have hil := (List.getElem?_eq_some_iff.1 hi).1
      have h2 := hcell i (by omega)
      rw [add_at] at h2
      rw [h2]
      rw [List.getElem?_take] at hi
      split at hi
      · rw [List.getD, hi]; rfl
      · cases hi
theorem back5_in (v0 : Value) (ns : List ByteArray) (name : ByteArray) (node : Int) (_ : name.size ≤ 140737488351232) (w : World) (h : Strs w v0 ns ∧ ∀ s ∈ ns, s.size ≤ maxLen) :
    Calls Try.prog 5 #[v0, .string name, .int .i64 node] w fun e w' => e = .returned (.bool true) ∧ Below w.heap.size w w' := back5 v0 ns name node w h.1 h.2
end Go.Proofs.Ytpkffkdojgpmhaa
