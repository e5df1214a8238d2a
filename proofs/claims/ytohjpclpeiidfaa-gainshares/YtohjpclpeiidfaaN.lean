/- Lists of numbers that came in, opened; the walks, by the numbers' own conditions. -/
import Derived.Test.YtohjpclpeiidfaaJ
import Derived.Test.YtohjpclpeiidfaaK
namespace Go.Proofs.Ytohjpclpeiidfaa
open Go.RowKit Go.PlainAid Go.ChangeShapes Go.WideShapes Go.ChangeAt
set_option linter.unusedSimpArgs false
set_option linter.unusedVariables false
namespace Fl

theorem trod_float {H : Type} {enc : TypeId × Value → H} {P : Program} {w : World} {base : Nat} {spare : Nat → Bool} {held : Bool} {fuel : Nat} {t : TypeId} {k : FloatKind} {cs : List Value} {x : DataW H × List MemPlace}
    (ht : P.underlying t = some (.float k)) (h : DataW.trod enc P w base spare held fuel t cs = some x) : ∃ n, cs = [.float k n] ∧ x = (.lit (.float k n), []) ∧ (Lit.float k n).wf = true := by
  cases fuel with
  | zero => simp [DataW.trod] at h
  | succ n =>
    unfold DataW.trod at h
    rw [ht] at h
    split at h <;> simp_all
theorem float_lt {b : Nat} (h : (Lit.float .f64 b).wf = true) : b < 18446744073709551616 := by
  have : b < 2 ^ 64 := by simpa [Lit.wf] using h
  exact this

theorem sl_of {w : World} {a : Addr} {len cap : Nat} (hl : len ≤ cap) (V : Nat → Value) (h : ∀ i, i < len → w.cell? (a.add i) = some (V i)) : Sl w (.slice (some a) len cap) ((List.range len).map V) := by
  by_cases h0 : len = 0
  · subst h0; exact .inl ⟨rfl, _, _, rfl⟩
  · obtain ⟨b, off, spot⟩ := a
    have hspot : spot = none := by simpa [Addr.add] using World.cell?_spot (h 0 (by omega))
    subst hspot
    refine .inr ⟨b, off, cap, by simp, by simpa using hl, ?_⟩
    intro i x hi
    have hi2 : i < len := by have := (List.getElem?_eq_some_iff.1 hi).1; simpa using this
    have e : ((List.range len).map V)[i]? = some (V i) := by simp [hi2]
    rw [e] at hi
    cases hi
    have := h i hi2
    rw [add_at] at this
    exact this

set_option maxRecDepth 100000 in
theorem open_fl {H : Type} {enc : TypeId × Value → H} {W : World} {base : Nat} {v : Value} {d : DataW H} {p : List MemPlace} (hv : Value.okWide Try.prog W .any base 23 v) (h : DataW.Trod enc Try.prog W 0 (fun _ => true) true 23 v d p) :
    ∃ l, Sl W v (fl l) ∧ All l := by
  obtain ⟨a, len, cap, rfl⟩ := okWide_slice Try.underlying23 hv
  obtain ⟨fuel, hf⟩ := h
  rcases Deep.open_slice1 Try.underlying23 (by kernel_rfl) hf with ⟨hcs, _⟩ | ⟨x, l, c, m, n, V, D, Pl, hcs, _, hl, _, hm, _, hc⟩
  · simp [Value.cells] at hcs
    obtain ⟨rfl, rfl, rfl⟩ := hcs
    exact ⟨[], .inl ⟨rfl, _, _, rfl⟩, fun x h => by simp at h⟩
  · simp [Value.cells] at hcs
    obtain ⟨rfl, rfl, rfl⟩ := hcs
    have hm : m = cap := by simpa using hm
    have hx : ∀ i, ∃ b, i < len → V i = .float .f64 b ∧ b < 18446744073709551616 := by
      intro i
      by_cases hi : i < len
      · obtain ⟨b, h1, _, h2⟩ := trod_float Try.underlying22 (hc i (by omega)).2
        exact ⟨b, fun _ => ⟨by simpa using h1, float_lt h2⟩⟩
      · exact ⟨0, fun h => absurd h hi⟩
    let F := fun i => Classical.choose (hx i)
    have hF : ∀ i, i < len → V i = .float .f64 (F i) ∧ F i < 18446744073709551616 := fun i => Classical.choose_spec (hx i)
    refine ⟨(List.range len).map F, ?_, ?_⟩
    · have e : fl ((List.range len).map F) = (List.range len).map V := by
        unfold fl
        rw [List.map_map]
        refine List.map_congr_left fun i hi => ?_
        rw [(hF i (List.mem_range.1 hi)).1]; rfl
      rw [e]
      exact sl_of hl V fun i hi => (hc i (by omega)).1
    · intro x hx
      simp at hx
      obtain ⟨i, hi, rfl⟩ := hx
      exact (hF i hi).2
set_option maxRecDepth 100000 in
theorem open_il {H : Type} {enc : TypeId × Value → H} {W : World} {base : Nat} {v : Value} {d : DataW H} {p : List MemPlace} (hv : Value.okWide Try.prog W .any base 34 v) (h : DataW.Trod enc Try.prog W 0 (fun _ => true) true 34 v d p) :
    ∃ l, Sl W v (il l) := by
  obtain ⟨a, len, cap, rfl⟩ := okWide_slice Try.underlying34 hv
  obtain ⟨fuel, hf⟩ := h
  rcases Deep.open_slice1 Try.underlying34 (by kernel_rfl) hf with ⟨hcs, _⟩ | ⟨x, l, c, m, n, V, D, Pl, hcs, _, hl, _, hm, _, hc⟩
  · simp [Value.cells] at hcs
    obtain ⟨rfl, rfl, rfl⟩ := hcs
    exact ⟨[], .inl ⟨rfl, _, _, rfl⟩⟩
  · simp [Value.cells] at hcs
    obtain ⟨rfl, rfl, rfl⟩ := hcs
    have hm : m = cap := by simpa using hm
    have hx : ∀ i, ∃ b, i < len → V i = .int .i64 b := by
      intro i
      by_cases hi : i < len
      · obtain ⟨b, h1, _, h2⟩ := DataW.trod_int Try.underlying3 (hc i (by omega)).2
        exact ⟨b, fun _ => by simpa using h1⟩
      · exact ⟨0, fun h => absurd h hi⟩
    let F := fun i => Classical.choose (hx i)
    have hF : ∀ i, i < len → V i = .int .i64 (F i) := fun i => Classical.choose_spec (hx i)
    refine ⟨(List.range len).map F, ?_⟩
    have e : il ((List.range len).map F) = (List.range len).map V := by
      unfold il
      rw [List.map_map]
      refine List.map_congr_left fun i hi => ?_
      rw [hF i (List.mem_range.1 hi)]; rfl
    rw [e]
    exact sl_of hl V fun i hi => (hc i (by omega)).1

theorem orders3' (a b c : Nat) (v : Value) (l : List Nat) (ha : (Lit.float .f64 a).wf = true) (hb : (Lit.float .f64 b).wf = true) (hc : (Lit.float .f64 c).wf = true) (W : World) (hv : Sl W v (fl l) ∧ All l) :
    Calls Try.prog 3 #[.float .f64 a, .float .f64 b, .float .f64 c, v] W fun e W' => e = .returned (.bool true) ∧ Below W.heap.size W W' :=
  orders3 a b c v (float_lt ha) (float_lt hb) (float_lt hc) W ⟨l, hv⟩
theorem shares4' (a b : Int) (x s : Nat) (hx : (Lit.float .f64 x).wf = true) (hs : (Lit.float .f64 s).wf = true) (W : World) :
    Calls Try.prog 4 #[.int .i64 a, .int .i64 b, .float .f64 x, .float .f64 s] W fun e W' => e = .returned (.bool true) ∧ Below W.heap.size W W' :=
  shares4 a b x s (float_lt hx) (float_lt hs) W
end Fl
end Go.Proofs.Ytohjpclpeiidfaa
