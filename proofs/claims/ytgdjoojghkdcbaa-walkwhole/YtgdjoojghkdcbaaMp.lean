/- The disk's map from numbers to nodes, and what an operation on it does. No condition. -/
import Derived.Test.YtgdjoojghkdcbaaL
import Derived.Maps.OwnSet
namespace Go.Proofs.Ytgdjoojghkdcbaa
open Go.RowKit Go.PlainAid Go.Maps

/-- How a pointer to a node reads. -/
def pt : Value → Option (DataW Unit × List MemPlace)
  | .pointer none => some (.lit (.bool false), [])
  | .pointer (some ⟨b, 0, none⟩) => some (.lit (.int .i64 b), [])
  | _ => none
def code : Option Nat → DataW Unit
  | none => .lit (.bool false)
  | some b => .lit (.int .i64 b)
def ptr : Option Nat → Value
  | none => .pointer none
  | some b => .pointer (some ⟨b, 0, none⟩)
theorem pt_ptr (o : Option Nat) : pt (ptr o) = some (code o, []) := by cases o <;> rfl
theorem code_inj : ∀ {a b : Option Nat}, code a = code b → a = b
  | none, none, _ => rfl
  | none, some b, h => by simp [code] at h
  | some a, none, h => by simp [code] at h
  | some a, some b, h => by simp only [code, DataW.lit.injEq, Lit.int.injEq, true_and] at h; rw [Int.ofNat.inj h]
theorem pt_inv {v : Value} {o : Option Nat} {ps : List MemPlace} (h : pt v = some (code o, ps)) : v = ptr o := by
  unfold pt at h
  split at h
  · simp only [Option.some.injEq, Prod.mk.injEq] at h
    rw [← code_inj (a := none) h.1]; rfl
  · rename_i b
    simp only [Option.some.injEq, Prod.mk.injEq] at h
    rw [← code_inj (a := some b) h.1]; rfl
  · cases h

abbrev In64 (k : Int) : Prop := (Lit.int .i64 k).wf = true
theorem in64 {k : Int} (h : -9223372036854775808 ≤ k ∧ k ≤ 9223372036854775807) : In64 k := WalkArith.wf_i64 h

/-- Block M is a map that has, at each number, the node's block. -/
def MapAt (M : Nat) (f : Int → Option Nat) (n : Nat) (w : World) : Prop :=
  ∃ D : DataW Unit, w.ownsMap Try.prog 3 pt M n D ∧ Maps.size D = n ∧ ∀ k, In64 k → Maps.has D (.int .i64 k) = (f k).isSome ∧ D.atKey (.int .i64 k) (.lit (.bool false)) = code (f k)
theorem MapAt.block {M : Nat} {f : Int → Option Nat} {n : Nat} {w w' : World} (h : MapAt M f n w) (e : w'.heap[M]? = w.heap[M]?) : MapAt M f n w' := by
  obtain ⟨D, ⟨es, clock, hb, r⟩, h2⟩ := h
  exact ⟨D, ⟨es, clock, e.trans hb, r⟩, h2⟩
theorem MapAt.lt {M : Nat} {f : Int → Option Nat} {n : Nat} {w : World} (h : MapAt M f n w) : M < w.heap.size := by
  obtain ⟨D, h1, _⟩ := h
  exact h1.lt
theorem MapAt.ne {M b : Nat} {f : Int → Option Nat} {n : Nat} {w : World} {c : Array Value} {t : TypeId} {fr : Nat × Nat} (h : MapAt M f n w) (hb : w.heap[b]? = some (.cells c t fr)) : M ≠ b := by
  obtain ⟨D, ⟨es, clock, h1, _⟩, _⟩ := h
  rintro rfl
  rw [h1] at hb
  cases hb
theorem kl : Keyed Try.prog 3 := int_keyed Try.underlying3
theorem zero68 (w : World) : (zeroValue 86).run Try.prog w = .ok (.pointer none) w := by kernel_rfl
theorem isKey (k : Int) : WideAt.IsKeyLit (.int .i64 k) := trivial

theorem MapAt.look {M : Nat} {f : Int → Option Nat} {n : Nat} {w : World} (h : MapAt M f n w) {k : Int} (hk : In64 k) : (Instr.lookup 92 (.map (some M)) (.int .i64 k) true).run Try.prog w = .ok (.tuple #[ptr (f k), .bool (f k).isSome]) w := by
  obtain ⟨D, h1, _, h3⟩ := h
  obtain ⟨v, ps, hr, hv⟩ := h1.look_ok kl Try.underlying92 (zero68 w) (pt_ptr none) (keyOf_int_mk Try.underlying3 hk)
  obtain ⟨e1, e2⟩ := h3 k hk
  change pt v = some (D.atKey _ (.lit (.bool false)), ps) at hv
  rw [e2] at hv
  rw [e1] at hr
  rw [pt_inv hv] at hr
  exact hr
theorem MapAt.look1 {M : Nat} {f : Int → Option Nat} {n : Nat} {w : World} (h : MapAt M f n w) {k : Int} (hk : In64 k) : (Instr.lookup 92 (.map (some M)) (.int .i64 k) false).run Try.prog w = .ok (ptr (f k)) w := by
  obtain ⟨D, h1, _, h3⟩ := h
  obtain ⟨v, ps, hr, hv⟩ := h1.lookup kl Try.underlying92 (zero68 w) (pt_ptr none) (keyOf_int_mk Try.underlying3 hk)
  obtain ⟨e1, e2⟩ := h3 k hk
  change pt v = some (D.atKey _ (.lit (.bool false)), ps) at hv
  rw [e2] at hv
  rw [pt_inv hv] at hr
  exact hr
theorem MapAt.len {M : Nat} {f : Int → Option Nat} {n : Nat} {w : World} (h : MapAt M f n w) (ty : TypeId) : (Builtin.len_ #[92] ty #[.map (some M)]).run Try.prog w = .ok (.int .i64 n) w := by
  obtain ⟨D, h1, h2, h3⟩ := h
  rw [← h2]
  exact h1.len Try.underlying92 ty

def fset (f : Int → Option Nat) (k : Int) (o : Option Nat) : Int → Option Nat := fun j => if j = k then o else f j
theorem MapAt.store {M : Nat} {f : Int → Option Nat} {n : Nat} {w : World} (h : MapAt M f n w) {k : Int} (hk : In64 k) (hn : n < maxLen) (hf : f k = none) (b : Nat) :
    ∃ w', (Instr.mapUpdate 92 (.map (some M)) (.int .i64 k) (.pointer (some ⟨b, 0, none⟩))).run Try.prog w = .ok () w' ∧ MapAt M (fset f k (some b)) (n + 1) w' ∧ w.grownBy w' (some M) := by
  obtain ⟨D, h1, h2, h3⟩ := h
  obtain ⟨w', hr, ho, ht⟩ := h1.store kl Try.underlying92 hn (keyOf_int_mk Try.underlying3 hk) (pt_ptr (some b))
  refine ⟨w', hr, ⟨_, ho, ?_, ?_⟩, ht.grown⟩
  · rw [Maps.size_put (h1.tidy kl), (h3 k hk).1, hf, h2]; rfl
  · intro j hj
    unfold fset
    by_cases e : j = k
    · subst e
      rw [if_pos rfl, Maps.has_put_same h1.isMap (isKey _), Maps.atKey_put_same h1.isMap (isKey _)]
      exact ⟨rfl, rfl⟩
    · have hne : Lit.int .i64 j ≠ Lit.int .i64 k := fun e' => e (by cases e'; rfl)
      rw [if_neg e, Maps.has_put_other hne, Maps.atKey_put_other hne]
      exact h3 j hj
theorem MapAt.drop {M : Nat} {f : Int → Option Nat} {n : Nat} {w : World} (h : MapAt M f (n + 1) w) {k : Int} (hk : In64 k) (hf : (f k).isSome = true) (ty : TypeId) :
    ∃ w', (Builtin.delete_ #[92, 3] ty #[.map (some M), .int .i64 k]).run Try.prog w = .ok (.tuple #[]) w' ∧ MapAt M (fset f k none) n w' ∧ w.grownBy w' (some M) := by
  obtain ⟨D, h1, h2, h3⟩ := h
  obtain ⟨w', hr, ho, ht⟩ := h1.drop kl Try.underlying92 (keyOf_int_mk Try.underlying3 hk) ty
  have hs : Maps.size (D.del (.int .i64 k)) = n := by
    have := Maps.size_del (h1.tidy kl) (k := .int .i64 k)
    rw [(h3 k hk).1, hf, h2] at this
    simpa using this
  refine ⟨w', hr, ⟨_, ?_, hs, ?_⟩, ht.grown⟩
  · obtain ⟨es, clock, hb, F, hle, hD⟩ := ho
    refine ⟨es, clock, hb, F, ?_, hD⟩
    rw [hD] at hs
    rw [← hs]
    simp [Maps.size, length_sorted]
  · intro j hj
    unfold fset
    by_cases e : j = k
    · subst e
      rw [if_pos rfl, Maps.has_del_same, Maps.atKey_del_same]
      exact ⟨rfl, rfl⟩
    · have hne : Lit.int .i64 j ≠ Lit.int .i64 k := fun e' => e (by cases e'; rfl)
      rw [if_neg e, Maps.has_del_other hne, Maps.atKey_del_other hne]
      exact h3 j hj
theorem MapAt.made (w : World) : MapAt w.heap.size (fun _ => none) 0 (w.alloc (.map #[] 0)) := by
  refine ⟨_, World.ownsMap_made w _ _ _, rfl, fun k _ => ⟨rfl, rfl⟩⟩
end Go.Proofs.Ytgdjoojghkdcbaa
