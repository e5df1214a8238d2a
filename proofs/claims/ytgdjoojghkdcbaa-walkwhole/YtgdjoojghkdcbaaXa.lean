/- The document's disk in memory, and its Has, Links. Conditions: few entries. -/
import Derived.Test.YtgdjoojghkdcbaaOp
namespace Go.Proofs.Ytgdjoojghkdcbaa
open Go.RowKit Go.PlainAid
set_option linter.unusedSimpArgs false

/-- A node of the document's. -/
structure Nr where
  (kind mode holds : Int) (data : ByteArray) (ents : List En)
def Nr.zero : Nr := ⟨0, 0, 0, ⟨#[]⟩, []⟩
abbrev Zn := Nr × Value
/-- The cells of nodes. -/
def ncs : List Zn → List Value
  | [] => []
  | z :: l => .int .i64 z.1.kind :: .int .i64 z.1.mode :: .int .i64 z.1.holds :: .string z.1.data :: z.2 :: ncs l
theorem ncs_len : ∀ l, (ncs l).length = l.length * 5
  | [] => rfl
  | _ :: l => by simp only [ncs, List.length_cons, ncs_len l]; omega
theorem ncs_app (b : List Zn) : ∀ a, ncs (a ++ b) = ncs a ++ ncs b
  | [] => rfl
  | x :: a => by simp [ncs, ncs_app b a]
theorem ncs_get : ∀ (l : List Zn) (k : Nat) (z : Zn), l[k]? = some z → (ncs l)[k * 5]? = some (.int .i64 z.1.kind) ∧ (ncs l)[k * 5 + 1]? = some (.int .i64 z.1.mode) ∧ (ncs l)[k * 5 + 2]? = some (.int .i64 z.1.holds) ∧ (ncs l)[k * 5 + 3]? = some (.string z.1.data) ∧ (ncs l)[k * 5 + 4]? = some z.2
  | [], k, z, h => by simp at h
  | y :: l, 0, z, h => by simp at h; subst h; exact ⟨rfl, rfl, rfl, rfl, rfl⟩
  | y :: l, k + 1, z, h => by
    have := ncs_get l k z (by simpa using h)
    rw [show (k + 1) * 5 = k * 5 + 1 + 1 + 1 + 1 + 1 by omega]
    simp only [ncs, List.getElem?_cons_succ]
    exact this

/-- v is a list of just these nodes, in blocks that keep P. -/
structure XAt (P : Nat → Prop) (v : Value) (Z : List Zn) (w : World) : Prop where
  row : w.ownsRow 0 48 5 v Z.length (ncs Z)
  ents : ∀ z ∈ Z, Row 85 0 z.2 z.1.ents w
  pv : ∀ b, v.ownBlock = some b → P b
  pe : ∀ z ∈ Z, ∀ b, z.2.ownBlock = some b → P b
theorem XAt.keep {P P' : Nat → Prop} {v : Value} {Z : List Zn} {w w' : World} (h : XAt P v Z w) (hb : ∀ b, b < w.heap.size → P b → w'.heap[b]? = w.heap[b]? ∧ P' b) : XAt P' v Z w' := by
  refine ⟨?_, fun z hz => (h.ents z hz).keep fun k e hl => (hb k hl (h.pe z hz k e)).1, fun b e => (hb b (World.ownsRow.lt h.row b e).2 (h.pv b e)).2, fun z hz b e => (hb b ((h.ents z hz).lt e).2 (h.pe z hz b e)).2⟩
  refine ⟨h.row.1, ?_⟩
  rcases h.row.2 with h2 | ⟨g, cap, cur, rfl, h2, h3, h4⟩
  · exact .inl h2
  · exact .inr ⟨g, cap, cur, rfl, h2, (hb g (lt_of_block h3) (h.pv g rfl)).1.trans h3, h4⟩
theorem XAt.below {P : Nat → Prop} {v : Value} {Z : List Zn} {w w' : World} (h : XAt P v Z w) (hb : Below w.heap.size w w') : XAt P v Z w' := h.keep fun b hl hp => ⟨hb.block b hl, hp⟩
theorem XAt.shape {P : Nat → Prop} {v : Value} {Z : List Zn} {w : World} (h : XAt P v Z w) (hz : 0 < Z.length) : ∃ g c, v = .slice (some ⟨g, 0, none⟩) Z.length c := by
  rcases h.row.2 with ⟨_, h2⟩ | ⟨g, cap, cur, rfl, _⟩
  · omega
  · exact ⟨g, cap, rfl⟩
/-- A node's cells. -/
structure CellsAt (g k : Nat) (z : Zn) (w : World) : Prop where
  c0 : w.cell? ⟨g, k * 5, none⟩ = some (.int .i64 z.1.kind)
  c1 : w.cell? ⟨g, k * 5 + 1, none⟩ = some (.int .i64 z.1.mode)
  c2 : w.cell? ⟨g, k * 5 + 2, none⟩ = some (.int .i64 z.1.holds)
  c3 : w.cell? ⟨g, k * 5 + 3, none⟩ = some (.string z.1.data)
  c4 : w.cell? ⟨g, k * 5 + 4, none⟩ = some z.2
theorem XAt.at {P : Nat → Prop} {g n c k : Nat} {Z : List Zn} {w : World} {z : Zn} (h : XAt P (.slice (some ⟨g, 0, none⟩) n c) Z w) (hz : Z[k]? = some z) : CellsAt g k z w := by
  obtain ⟨h0, h1, h2, h3, h4⟩ := ncs_get Z k z hz
  have key : ∀ j u, (ncs Z)[j]? = some u → w.cell? ⟨g, j, none⟩ = some u := fun j u e => by
    have := World.ownsRow.cells h.row (g := g) rfl j u e
    rwa [add_at, Nat.zero_add] at this
  exact ⟨key _ _ h0, key _ _ h1, key _ _ h2, key _ _ h3, key _ _ h4⟩

/-- Nodes without where their entries lie. -/
abbrev nrs (Z : List Zn) : List Nr := Z.map (·.1)
theorem nrs_get {Z : List Zn} {k : Nat} {z : Zn} (h : Z[k]? = some z) : (nrs Z)[k]? = some z.1 := by simp [nrs, h]
theorem drop_get {α : Type} {l : List α} {k : Nat} {x : α} (h : l[k]? = some x) : l.drop k = x :: l.drop (k + 1) := by
  obtain ⟨h1, rfl⟩ := List.getElem?_eq_some_iff.1 h
  exact List.drop_eq_getElem_cons h1

/-- Is there a node? -/
def hasR (R : List Nr) (id : Int) : Bool := decide (1 ≤ id) && (match R[id.toNat]? with | some n => n.kind != 0 | none => false)
theorem hasR_at {R : List Nr} {i : Nat} {n : Nr} (h : R[i]? = some n) (h1 : 1 ≤ i) : hasR R i = (n.kind != 0) := by
  unfold hasR; rw [Int.toNat_natCast, h, decide_eq_true (by omega)]; rfl
theorem hasR_low {R : List Nr} {id : Int} (h : ¬ 1 ≤ id) : hasR R id = false := by unfold hasR; rw [decide_eq_false h]; rfl
theorem hasR_high {R : List Nr} {id : Int} (h : ¬ id < R.length) : hasR R id = false := by
  unfold hasR
  by_cases h1 : 1 ≤ id
  · rw [List.getElem?_eq_none (by omega)]; simp
  · rw [decide_eq_false h1]; rfl

/-- The value of a document's disk. -/
abbrev xv (v : Value) (room : Int) : Value := .agg #[v, .int .i64 room]

set_option maxHeartbeats 1000000 in
set_option maxRecDepth 100000 in
theorem has17 (P : Nat → Prop) (v : Value) (room : Int) (Z : List Zn) (w : World) (h : XAt P v Z w) (hz : 0 < Z.length) (id : Int) :
    Calls Try.prog 38 #[xv v room, .int .i64 id] w fun e w' => e = .returned (.bool (hasR (nrs Z) id)) ∧ Below w.heap.size w w' := by
  obtain ⟨g, c, rfl⟩ := h.shape hz
  have HB := Lib.hid ((Below.refl w.heap.size w).alloc (Nat.le_refl _) (.cells #[.slice (some ⟨g, 0, none⟩) Z.length c, .int .i64 room] 28))
  have K := h.below HB.out
  by_cases h1 : 1 ≤ id
  · by_cases h2 : id < Z.length
    · obtain ⟨i, rfl⟩ : ∃ i : Nat, id = i := ⟨id.toNat, by omega⟩
      obtain ⟨z, hzz⟩ := get_some (l := Z) (k := i) (by omega)
      have c0 := (K.at hzz).c0
      rw [hasR_at (nrs_get hzz) (by omega)]
      cases hk : (z.1.kind != 0) <;>
      · clear h K hzz
        go_enter Try.func38, Try.ntmps38
        go_wp2
        go_ret
        exact ⟨rfl, HB.out⟩
    · rw [hasR_high (by simpa using h2)]
      clear h K
      go_enter Try.func38, Try.ntmps38
      go_wp2
      go_ret
      exact ⟨rfl, HB.out⟩
  · rw [hasR_low h1]
    clear h K
    go_enter Try.func38, Try.ntmps38
    go_wp2
    go_ret
    exact ⟨rfl, HB.out⟩
end Go.Proofs.Ytgdjoojghkdcbaa
