/- What a call makes, in blocks of its own; conversions. No condition. -/
import Derived.Test.YtfaohicadahcjaaGreatDoorMi
import Derived.Deep.AppendLies
namespace Go.Proofs.YtfaohicadahcjaaGreatDoor
open Go.RowKit Go.PlainAid Go.ChangeShapes Go.WideShapes Go.ChangeAt
set_option linter.unusedSimpArgs false
set_option linter.unusedVariables false
/-! What stands as long as some blocks do. -/
def On (S : Nat → Prop) (w w' : World) : Prop := ∀ b, S b → w'.heap[b]? = w.heap[b]?
/-- Holds here, and wherever these blocks stand. -/
def Firm (S : Nat → Prop) (Q : World → Prop) (w : World) : Prop := ∀ w', On S w w' → Q w'
def Btw (B E : Nat) : Nat → Prop := fun b => B ≤ b ∧ b < E
theorem Firm.here {S : Nat → Prop} {Q : World → Prop} {w : World} (h : Firm S Q w) : Q w := h w fun _ _ => rfl
theorem Firm.on {S : Nat → Prop} {Q : World → Prop} {w w' : World} (h : Firm S Q w) (ho : On S w w') : Firm S Q w' := fun u hu => h u fun b hb => (hu b hb).trans (ho b hb)
theorem Firm.mono {S T : Nat → Prop} {Q : World → Prop} {w : World} (h : Firm S Q w) (hs : ∀ b, S b → T b) : Firm T Q w := fun u hu => h u fun b hb => hu b (hs b hb)
theorem Firm.imp {S : Nat → Prop} {Q R : World → Prop} {w : World} (h : Firm S Q w) (hq : ∀ u, Q u → R u) : Firm S R w := fun u hu => hq u (h u hu)
theorem Firm.both {S : Nat → Prop} {Q R : World → Prop} {w : World} (h : Firm S Q w) (k : Firm S R w) : Firm S (fun u => Q u ∧ R u) w := fun u hu => ⟨h u hu, k u hu⟩
theorem On.below {S : Nat → Prop} {B : Nat} {w w' : World} (hb : Below B w w') (hs : ∀ b, S b → b < B) : On S w w' := fun b h => hb.block b (hs b h)
theorem cell_of_block {w w' : World} {b k : Nat} (h : w'.heap[b]? = w.heap[b]?) : w'.cell? ⟨b, k, none⟩ = w.cell? ⟨b, k, none⟩ := World.cell?_of_block h
/-- A row at work: elements that the call makes, each in blocks of its own. -/
structure Mk {α : Type} (B : Nat) (e : TypeId) (k : Nat) (C : World → List Value → α → Prop) (w : World) (v : Value) (l : List α) (css : List (List Value)) (Z : Nat → Prop) : Prop where
  len : css.length = l.length
  own : w.ownsRow B e k v l.length css.flatten
  set : ∀ b, Z b → B ≤ b ∧ b < w.heap.size ∧ v.ownBlock ≠ some b
  el : ∀ (i : Nat) (cs : List Value) (x : α), css[i]? = some cs → l[i]? = some x → cs.length = k ∧ Firm Z (fun u => C u cs x) w
section
variable {α : Type} {B : Nat} {e : TypeId} {k : Nat} {C : World → List Value → α → Prop} {w w' : World} {v v' : Value} {l : List α} {css : List (List Value)} {Z : Nat → Prop}
theorem Mk.nil (hB : B ≤ w.heap.size) : Mk B e k C w (.slice none 0 0) [] [] (fun _ => False) :=
  ⟨rfl, World.ownsRow_nil _ _ _ _, fun _ h => h.elim, fun i cs x h => by simp at h⟩
theorem owns_stay {n : Nat} {xs : List Value} (h : w.ownsRow B e k v n xs) (hs : w.heap.size ≤ w'.heap.size) (hb : ∀ b, v.ownBlock = some b → w'.heap[b]? = w.heap[b]?) : w'.ownsRow B e k v n xs := by
  refine ⟨h.1, ?_⟩
  rcases h.2 with h0 | ⟨g, cap, cur, rfl, h1, h2, h3⟩
  · exact .inl h0
  · exact .inr ⟨g, cap, cur, rfl, h1, (hb g rfl).trans h2, h3⟩
theorem Mk.stay (h : Mk B e k C w v l css Z) (hs : w.heap.size ≤ w'.heap.size) (hb : ∀ b, Z b ∨ v.ownBlock = some b → w'.heap[b]? = w.heap[b]?) : Mk B e k C w' v l css Z :=
  ⟨h.len, owns_stay h.own hs fun b e => hb b (.inr e), fun b hz => ⟨(h.set b hz).1, Nat.lt_of_lt_of_le (h.set b hz).2.1 hs, (h.set b hz).2.2⟩, fun i cs x h1 h2 => ⟨(h.el i cs x h1 h2).1, (h.el i cs x h1 h2).2.on fun b hz => hb b (.inl hz)⟩⟩
theorem Mk.low (h : Mk B e k C w v l css Z) (hb : Below w.heap.size w w') : Mk B e k C w' v l css Z :=
  h.stay hb.size fun b hz => hb.block b (by
    rcases hz with hz | hz
    · exact (h.set b hz).2.1
    · exact (World.ownsRow.lt h.own b hz).2)
theorem Mk.push (h : Mk B e k C w v l css Z) {cs : List Value} {x : α} {g cap : Nat} {Y : Nat → Prop} (hown : w'.ownsRow B e k (.slice (some ⟨g, 0, none⟩) (l.length + 1) cap) (l.length + 1) (css.flatten ++ cs)) (hg : w.grownBy w' v.ownBlock) (hat : v.ownBlock = some g ∨ g = w.heap.size)
    (hk : cs.length = k) (hY : ∀ b, Y b → B ≤ b ∧ b < w.heap.size ∧ v.ownBlock ≠ some b) (hx : Firm Y (fun u => C u cs x) w) :
    Mk B e k C w' (.slice (some ⟨g, 0, none⟩) (l.length + 1) cap) (l ++ [x]) (css ++ [cs]) (fun b => Z b ∨ Y b) := by
  have hon : ∀ b, B ≤ b ∧ b < w.heap.size ∧ v.ownBlock ≠ some b → w'.heap[b]? = w.heap[b]? := fun b hb => hg.block b hb.2.1 (fun e => hb.2.2 e.symm)
  have hne : ∀ b, B ≤ b ∧ b < w.heap.size ∧ v.ownBlock ≠ some b → B ≤ b ∧ b < w'.heap.size ∧ (Value.slice (some ⟨g, 0, none⟩) (l.length + 1) cap).ownBlock ≠ some b := fun b hb => by
    refine ⟨hb.1, Nat.lt_of_lt_of_le hb.2.1 hg.size, fun e => ?_⟩
    have e : g = b := by simpa [Value.ownBlock] using e
    rcases hat with h1 | h1
    · rw [e] at h1; exact hb.2.2 h1
    · have := hb.2.1; omega
  refine ⟨by simp [h.len], by rw [List.length_append]; simpa using hown, fun b hb => ?_, fun i cs' y hi hy => ?_⟩
  · rcases hb with hb | hb
    · exact hne b (h.set b hb)
    · exact hne b (hY b hb)
  · by_cases hlt : i < l.length
    · rw [List.getElem?_append_left (by rw [h.len]; exact hlt)] at hi
      rw [List.getElem?_append_left hlt] at hy
      obtain ⟨h1, h2⟩ := h.el i cs' y hi hy
      exact ⟨h1, (h2.on fun b hb => hon b (h.set b hb)).mono fun b hb => .inl hb⟩
    · rw [List.getElem?_append_right (by rw [h.len]; omega), h.len] at hi
      rw [List.getElem?_append_right (by omega)] at hy
      have h0 : i - l.length = 0 := by
        have := (List.getElem?_eq_some_iff.1 hi).1
        simp at this; omega
      rw [h0] at hi hy
      simp at hi hy
      subst hi hy
      exact ⟨hk, (hx.on fun b hb => hon b (hY b hb)).mono fun b hb => .inr hb⟩
theorem flat_get : ∀ (css : List (List Value)) (i j : Nat) (cs : List Value) (u : Value), (∀ c ∈ css, c.length = k) → css[i]? = some cs → cs[j]? = some u → css.flatten[i * k + j]? = some u
  | [], i, j, cs, u, _, h, _ => by simp at h
  | c :: r, 0, j, cs, u, hk, h, hj => by
    simp at h; subst h
    have hjl := (List.getElem?_eq_some_iff.1 hj).1
    rw [List.flatten_cons, Nat.zero_mul, Nat.zero_add, List.getElem?_append_left hjl]
    exact hj
  | c :: r, i + 1, j, cs, u, hk, h, hj => by
    have h' : r[i]? = some cs := by simpa using h
    have hc := hk c (by simp)
    rw [List.flatten_cons, List.getElem?_append_right (by rw [hc, Nat.add_mul]; omega)]
    have := flat_get r i j cs u (fun c hc => hk c (by simp [hc])) h' hj
    rw [← this]
    congr 1
    rw [hc, Nat.add_mul]; omega
theorem Mk.cellsLen (h : Mk B e k C w v l css Z) : ∀ c ∈ css, c.length = k := fun c hc => by
  obtain ⟨i, hi, rfl⟩ := List.getElem_of_mem hc
  exact (h.el i css[i] (l[i]'(by rw [← h.len]; exact hi)) (List.getElem?_eq_getElem hi) (List.getElem?_eq_getElem _)).1
/-- What was made, read. -/
theorem Mk.fin (h : Mk B e k C w v l css Z) (hl : l.length ≤ 1048576) : Firm (Btw B w.heap.size) (fun u => Seg k C u v l) w := by
  intro u hu
  refine ⟨hl, ?_⟩
  have hown := h.own
  rcases hown.2 with ⟨rfl, h0⟩ | ⟨g, cap, cur, rfl, hB, hg, hle, _⟩
  · exact .inl ⟨List.eq_nil_of_length_eq_zero h0, _, _, rfl⟩
  · have hgl : g < w.heap.size := (World.ownsRow.lt hown g rfl).2
    refine .inr ⟨g, 0, cap, rfl, hle, fun i x hi => ?_⟩
    have hil : i < css.length := by rw [h.len]; exact (List.getElem?_eq_some_iff.1 hi).1
    obtain ⟨h1, h2⟩ := h.el i css[i] x (List.getElem?_eq_getElem hil) hi
    refine ⟨css[i], fun j y hj => ?_, h2 u fun b hb => hu b ⟨(h.set b hb).1, (h.set b hb).2.1⟩⟩
    have := World.ownsRow.cells hown (g := g) rfl (i * k + j) y (flat_get css i j _ y h.cellsLen (List.getElem?_eq_getElem hil) hj)
    rw [add_at, Nat.zero_add] at this
    rw [Nat.zero_add, cell_of_block (hu g ⟨hB, hgl⟩)]
    exact this
end
/-- What a conversion gives: a value that reads so, in blocks of its own. -/
def Out (Q : World → Value → Prop) (w : World) (e : Ending) (w' : World) : Prop := ∃ v', e = .returned v' ∧ Firm (Btw w.heap.size w'.heap.size) (fun u => Q u v') w' ∧ Below w.heap.size w w'
structure Conv (n : Nat) : Prop where
  w : ∀ (v : Value) (l : List Pt) (w : World), WdAt n w v l → Calls Tryz.prog 19 #[v] w (Out (fun u v' => WdAt n u v' l) w)
  c : ∀ (v : Value) (l : List Nd) (w : World), NsAt n w v l → Calls Tryz.prog 10 #[v] w (Out (fun u v' => NsAt n u v' l) w)
end Go.Proofs.YtfaohicadahcjaaGreatDoor
