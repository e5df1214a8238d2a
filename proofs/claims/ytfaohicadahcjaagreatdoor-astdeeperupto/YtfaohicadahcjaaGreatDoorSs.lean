/- Lists of texts ([]string): what came in (Strs, open_in), what the call owns (OwnsL, own_push, own_read); the wrap of a law that keeps the world's shape beside what the row lists (hand_shaped). No condition. -/
import Derived.Test.YtfaohicadahcjaaGreatDoorBy
import Derived.Laws.EntriesVeiled
import Derived.SliceStrings
import Derived.ProofKit
import Derived.OpenShut
import Derived.Handed
import Derived.HandedShaped
namespace Go.Proofs.YtfaohicadahcjaaGreatDoor
open Go.RowKit Go.PlainAid Go.ChangeShapes Go.WideShapes Go.ChangeAt
set_option linter.unusedSimpArgs false
set_option linter.unusedVariables false

/-- v is a slice of just these texts. -/
def Strs (w : World) (v : Value) (ns : List ByteArray) : Prop := (ns = [] ∧ ∃ a c, v = .slice a 0 c) ∨ ∃ b off c, v = .slice (some ⟨b, off, none⟩) ns.length c ∧ ns.length ≤ c ∧ ∀ (i : Nat) (s : ByteArray), ns[i]? = some s → w.cell? ⟨b, off + i, none⟩ = some (.string s)
theorem Strs.shape {w : World} {v : Value} {ns : List ByteArray} (h : Strs w v ns) : ∃ a c, v = .slice a ns.length c := by
  rcases h with ⟨rfl, a, c, rfl⟩ | ⟨b, off, c, rfl, _, _⟩
  · exact ⟨a, c, rfl⟩
  · exact ⟨_, _, rfl⟩
theorem cell_kept {w w' : World} {p : Addr} {v : Value} (h : w.cell? p = some v) (hb : Below w.heap.size w w') : w'.cell? p = some v := by
  rw [hb.cell (World.block_lt_of_cell? _ _ h)]; exact h
theorem Strs.below {w w' : World} {v : Value} {ns : List ByteArray} (h : Strs w v ns) (hb : Below w.heap.size w w') : Strs w' v ns := by
  rcases h with h | ⟨b, off, c, h1, h2, h3⟩
  · exact .inl h
  · exact .inr ⟨b, off, c, h1, h2, fun i s hi => cell_kept (h3 i s hi) hb⟩
/-- A list of texts as values. -/
def strs (l : List ByteArray) : List Value := l.map Value.string
theorem strs_len (l : List ByteArray) : (strs l).length = l.length := List.length_map _
theorem strs_snoc (l : List ByteArray) (x : ByteArray) : strs l ++ [.string x] = strs (l ++ [x]) := by simp [strs]
/-- v is a list of just these texts, in memory of the call's own. -/
def OwnsL (B : Nat) (v : Value) (l : List ByteArray) (w : World) : Prop := w.ownsRow B 9 1 v l.length (strs l)
theorem Tryz.info9 : (Tryz.prog.info? 9).map (fun i => (i.zero, i.size, i.bytes)) = some (some (.string ⟨#[]⟩), 1, 16) := by kernel_rfl
theorem new_one (w : World) (x : ByteArray) : ∀ j u, [Value.string x][j]? = some u → (w.alloc (.cells #[.string x] 9)).cell? ((⟨w.heap.size, 0, none⟩ : Addr).add j) = some u := by
  intro j u hj
  match j, hj with
  | 0, hj => simp at hj; subst hj; simp [Addr.add]
theorem own_push {w wr w1 : World} {acc : List ByteArray} {v v' : Value} {x : ByteArray} {o : Obj} (h0 : OwnsL w.heap.size v acc wr) (hb : Below w.heap.size w wr)
    (hown : w1.ownsRow w.heap.size 9 1 v' (acc.length + 1) (strs acc ++ [.string x])) (hg : (wr.alloc o).grownBy w1 v.ownBlock) :
    OwnsL w.heap.size v' (acc ++ [x]) w1 ∧ Below w.heap.size w w1 := by
  refine ⟨?_, (hb.alloc hb.size o).grown hg (by simp; have := hb.size; omega) (fun j hj => (World.ownsRow.lt h0 j hj).1)⟩
  unfold OwnsL
  rw [List.length_append, ← strs_snoc]
  exact hown
theorem slice_shape {w : World} {base : Nat} {e : TypeId} {size : Nat} {v : Value} {n : Nat} {xs : List Value} (h : w.ownsRow base e size v n xs) : ∃ a c, v = .slice a n c := by
  rcases h.2 with ⟨rfl, h0⟩ | ⟨g, cap, cur, rfl, _⟩
  · subst h0; exact ⟨_, _, rfl⟩
  · exact ⟨_, _, rfl⟩
theorem OwnsL.below {B : Nat} {v : Value} {l : List ByteArray} {w w' : World} (h : OwnsL B v l w) (hb : Below w.heap.size w w') : OwnsL B v l w' := by
  refine ⟨h.1, ?_⟩
  rcases h.2 with h2 | ⟨g, cap, cur, rfl, h2, h3, h4⟩
  · exact .inl h2
  · exact .inr ⟨g, cap, cur, rfl, h2, (hb.block _ (lt_of_block h3)).trans h3, h4⟩
theorem own_read {B : Nat} {v : Value} {l : List ByteArray} {w : World} (h : OwnsL B v l w) (hl : l ≠ []) : ∃ g cap, v = .slice (some ⟨g, 0, none⟩) l.length cap ∧ l.length ≤ cap ∧ g < w.heap.size ∧ ∀ (j : Nat) x, l[j]? = some x → w.cell? ⟨g, 0 + j, none⟩ = some (.string x) := by
  have hc := fun g hg => World.ownsRow.cells h (g := g) hg
  rcases h.2 with ⟨rfl, h0⟩ | ⟨g, cap, cur, rfl, _, hg, hle, _, _, _⟩
  · exact absurd (List.length_eq_zero_iff.1 h0) hl
  · refine ⟨g, cap, rfl, hle, lt_of_block hg, fun j x hx => ?_⟩
    have := hc g rfl j (.string x) (by simp [strs, hx])
    rw [Nat.zero_add, show (⟨g, j, none⟩ : Addr) = (⟨g, 0, none⟩ : Addr).add j by unfold Addr.add; split <;> simp_all]
    exact this
theorem hand_shaped {H : Type} {enc : TypeId × Value → H} {a : Assume} {C : Checked} {os : Os} {f : FuncId} {fn : Func} {s : ChangeSpec} {conds : List PathCond} {apart fresh handsOn again : Bool} {X : World → Array Value → Prop}
    (hX : ∀ (w w' : World) (args : Array Value), w.heap = w'.heap → X w args → X w' args)
    (own : ownKnob C.prog.godebug = none) (started : os.Started) (noInit : C.prog.inits.idxOf? f = none) (hfn : C.prog.funcs[f]? = some fn)
    (witness : ∃ (w : World) (tape : Tape) (i : Input), w.os = os ∧ (w.forCall tape i).Shaped C.prog ∧ i.vars = [] ∧ Input.okWide C.prog (w.forCall tape i) .any w.heap.size f i ∧
      ((s.pre enc C.prog fn conds apart (w.forCall tape i).memory i.args ∧ X (w.forCall tape i).memory i.args) ∧ sizedMet enc C.prog fn (OpenSpec.ofChange s) apart (w.forCall tape i).memory i.args) ∧ a.holds C.prog (lone (Frame.enter C.prog f i.args .normal) [] (w.forCall tape i)))
    (walk : ∀ (W : World) (base : Nat) (args : Array Value) (ds gs : List (DataW H)) (before : List MemPlace),
      (∀ (j : Nat) t v, fn.params[j]? = some t → args[j]? = some v → Value.okWide C.prog W .any base t v) →
      DataW.Whole enc C.prog fn.params.toList s.vars apart W args.toList ds gs before →
      (DataW.weightsEach C.prog (fn.params.toList ++ s.plain.varTypes C.prog) (ds ++ gs)).all (· ≤ reachBytes) = true → X W args → W.ShapedOpen C.prog →
      Calls C.prog f args W fun e W' => ∃ v, e = .returned v ∧ s.post enc C.prog fn apart fresh handsOn again W args v W') :
    ReturnsInHanded a C os f .any (fun w args => (s.pre enc C.prog fn conds apart w args ∧ X w args) ∧ sizedMet enc C.prog fn (OpenSpec.ofChange s) apart w args) (s.post enc C.prog fn apart fresh handsOn again) := by
  refine returnsInHanded_of_calls own started noInit witness ?_
  intro w tape i _ hsh _ hok hpre _
  obtain ⟨_, _, _, fn', hfn', _, _, _, _, hval⟩ := hok
  have e : fn' = fn := Option.some.inj (hfn'.symm.trans hfn)
  subst e
  obtain ⟨⟨⟨ds, gs, before, hw, _⟩, hx⟩, hz⟩ := hpre
  refine (walk (w.forCall tape i) w.heap.size i.args ds gs before hval (DataW.Whole.of_heap (w' := w.forCall tape i) (by rfl) hw) (hz.weights hw) (hX _ _ _ (by rfl) hx) hsh).mono fun e W' ⟨v, he, hp⟩ => ?_
  subst he
  exact ChangeSpec.post_blind hp
set_option maxRecDepth 100000 in
theorem open_in {H : Type} {enc : TypeId × Value → H} {W : World} {base : Nat} {v : Value} {d : DataW H} {p : List MemPlace} (hv : Value.okWide Tryz.prog W .any base 136 v) (h : DataW.Trod enc Tryz.prog W 0 (fun _ => true) true 136 v d p) :
    ∃ ns, Strs W v ns := by
  obtain ⟨a, len, cap, rfl⟩ := okWide_slice Tryz.underlying136 hv
  obtain ⟨fuel, hf⟩ := h
  rcases open_strings Tryz.underlying136 Tryz.underlying9 (by kernel_rfl) hf with ⟨hcs, _⟩ | ⟨x, l, c, ss, hcs, _, hl, _, hz, _, hcell, hws⟩
  · simp [Value.cells] at hcs
    obtain ⟨rfl, rfl, rfl⟩ := hcs
    exact ⟨[], .inl ⟨rfl, _, _, rfl⟩⟩
  · simp [Value.cells] at hcs
    obtain ⟨rfl, rfl, rfl⟩ := hcs
    have hz' : ss.length = cap := by simpa using hz
    refine ⟨ss.take len, ?_⟩
    have hlen : (ss.take len).length = len := by rw [List.length_take]; omega
    by_cases h0 : len = 0
    · subst h0
      exact .inl ⟨rfl, _, _, rfl⟩
    · obtain ⟨b, off, spot⟩ := x
      have hspot : spot = none := by simpa [Addr.add] using World.cell?_spot (hcell 0 (by omega))
      subst hspot
      refine .inr ⟨b, off, cap, by rw [hlen], by rw [hlen]; omega, ?_⟩
      intro i s hi
      have hil := (List.getElem?_eq_some_iff.1 hi).1
      have h2 := hcell i (by omega)
      rw [add_at] at h2
      rw [h2]
      rw [List.getElem?_take] at hi
      split at hi
      · rw [List.getD, hi]; rfl
      · cases hi
/-- The same, and how many texts there may be. -/
def StrsL (w : World) (v : Value) (ns : List ByteArray) : Prop := Strs w v ns ∧ ns.length ≤ 9223372036854775807
set_option maxRecDepth 100000 in
theorem open_inL {H : Type} {enc : TypeId × Value → H} {W : World} {base : Nat} {v : Value} {d : DataW H} {p : List MemPlace} (hv : Value.okWide Tryz.prog W .any base 136 v) (h : DataW.Trod enc Tryz.prog W 0 (fun _ => true) true 136 v d p) :
    ∃ ns, StrsL W v ns := by
  obtain ⟨ns, hn⟩ := open_in hv h
  refine ⟨ns, hn, ?_⟩
  obtain ⟨a, len, cap, rfl⟩ := okWide_slice Tryz.underlying136 hv
  obtain ⟨fuel, hf⟩ := h
  obtain ⟨a', c', e⟩ := hn.shape
  cases e
  rcases open_strings Tryz.underlying136 Tryz.underlying9 (by kernel_rfl) hf with ⟨hcs, _⟩ | ⟨x, l, c, ss, hcs, _, hl, hm, _, _, _, _⟩
  · simp [Value.cells] at hcs
    simp [hcs]
  · simp [Value.cells] at hcs
    obtain ⟨rfl, h2, rfl⟩ := hcs
    unfold maxLen at hm
    omega
end Go.Proofs.YtfaohicadahcjaaGreatDoor
