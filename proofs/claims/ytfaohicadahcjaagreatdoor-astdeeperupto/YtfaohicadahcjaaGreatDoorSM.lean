/- Plain: how much trees hold, how deep they are; the law's own count. No conditions. -/
import Derived.Test.YtfaohicadahcjaaGreatDoorP
namespace Go.Proofs.YtfaohicadahcjaaGreatDoor
open Go.RowKit Go.PlainAid
set_option linter.unusedSimpArgs false
set_option linter.unusedVariables false
/-! Weights: how much a tree holds, of so many levels. -/
def wtA (W : List Pt → Nat) (a : As) : Nat := 1 + a.name.size + W a.word
def wtR (W : List Pt → Nat) (r : Rd) : Nat := 1 + r.tag.size + W r.word
def wtM (W : List Pt → Nat) (N : List Nd → Nat) (a : Ar) : Nat := 1 + N a.body + (a.words.map fun w => 1 + W w).sum
def wtP (W : List Pt → Nat) (N : List Nd → Nat) (p : Pt) : Nat := 1 + p.text.size + W p.word + N p.body
def wtX (W : List Pt → Nat) (N : List Nd → Nat) (x : Nd) : Nat := 1 + x.name.size + (x.assigns.map (wtA W)).sum + (x.words.map fun w => 1 + W w).sum + (x.redirs.map (wtR W)).sum + (x.lists.map fun y => 1 + N y).sum + (x.arms.map (wtM W N)).sum
def wts : Nat → (List Pt → Nat) × (List Nd → Nat)
  | 0 => (fun _ => 0, fun _ => 0)
  | n + 1 => (fun w => (w.map (wtP (wts n).1 (wts n).2)).sum, fun l => (l.map (wtX (wts n).1 (wts n).2)).sum)

/-! The law's own count of what commands have, up to 3000. -/
def sumT {α : Type} (f : α → Nat) (stop : Bool) : Nat → List α → Nat
  | a, [] => a
  | a, x :: r => if (stop || decide (3000 < a + 1)) = true then 3001 else sumT f stop (a + 1 + f x) r
def szA (W : List Pt → Nat) (a : As) : Nat := 1 + a.name.size + W a.word
def szR (W : List Pt → Nat) (r : Rd) : Nat := 1 + r.tag.size + W r.word
def szM (W : List Pt → Nat) (N : List Nd → Nat) (a : Ar) : Nat := 1 + N a.body + (a.words.map fun w => 1 + W w).sum
def szP (W : List Pt → Nat) (N : List Nd → Nat) (p : Pt) : Nat := p.text.size + W p.word + N p.body
def szX (W : List Pt → Nat) (N : List Nd → Nat) (x : Nd) : Nat := x.name.size + (x.assigns.map (szA W)).sum + (x.words.map fun w => 1 + W w).sum + (x.redirs.map (szR W)).sum + (x.lists.map fun y => 1 + N y).sum + (x.arms.map (szM W N)).sum
def szs : Nat → (List Pt → Int → Nat) × (List Nd → Int → Nat)
  | 0 => (fun _ _ => 0, fun _ _ => 0)
  | n + 1 => (fun w d => sumT (szP (fun w => (szs n).1 w (d - 1)) (fun l => (szs n).2 l (d - 1))) (decide (d ≤ 0)) 0 w,
      fun l d => sumT (szX (fun w => (szs n).1 w (d - 1)) (fun l => (szs n).2 l (d - 1))) (decide (d ≤ 0)) 0 l)
theorem sum_mul {α : Type} (f g : α → Nat) (c : Nat) : ∀ l : List α, (∀ x ∈ l, f x ≤ c * g x) → (l.map f).sum ≤ c * (l.map g).sum
  | [], _ => by simp
  | x :: r, h => by
    have h1 := h x (by simp)
    have h2 := sum_mul f g c r (fun y hy => h y (by simp [hy]))
    simp only [List.map_cons, List.sum_cons, Nat.mul_add]
    omega
theorem sumT_le {α : Type} (f g : α → Nat) (s : Bool) : ∀ (l : List α) (a : Nat), (∀ x ∈ l, f x + 1 ≤ 3001 * g x) → sumT f s a l ≤ a + 3001 * (l.map g).sum
  | [], a, _ => by simp [sumT]
  | x :: r, a, h => by
    have h1 := h x (by simp)
    simp only [List.map_cons, List.sum_cons, Nat.mul_add, sumT]
    split
    · omega
    · have h2 := sumT_le f g s r (a + 1 + f x) (fun y hy => h y (by simp [hy]))
      omega
theorem szA_le {W V : List Pt → Nat} (h : ∀ w, W w ≤ 3001 * V w) (a : As) : szA W a ≤ 3001 * wtA V a := by
  have := h a.word
  unfold szA wtA
  omega
theorem szR_le {W V : List Pt → Nat} (h : ∀ w, W w ≤ 3001 * V w) (a : Rd) : szR W a ≤ 3001 * wtR V a := by
  have := h a.word
  unfold szR wtR
  omega
theorem szw_le {W V : List Pt → Nat} (h : ∀ w, W w ≤ 3001 * V w) (l : List (List Pt)) : (l.map fun w => 1 + W w).sum ≤ 3001 * (l.map fun w => 1 + V w).sum :=
  sum_mul _ _ _ l fun x _ => by have := h x; show 1 + W x ≤ 3001 * (1 + V x); omega
theorem szM_le {W V : List Pt → Nat} {N M : List Nd → Nat} (h : ∀ w, W w ≤ 3001 * V w) (k : ∀ w, N w ≤ 3001 * M w) (a : Ar) : szM W N a ≤ 3001 * wtM V M a := by
  have h1 := k a.body
  have h2 := szw_le h a.words
  unfold szM wtM
  omega
theorem szP_le {W V : List Pt → Nat} {N M : List Nd → Nat} (h : ∀ w, W w ≤ 3001 * V w) (k : ∀ w, N w ≤ 3001 * M w) (p : Pt) : szP W N p + 1 ≤ 3001 * wtP V M p := by
  have h1 := k p.body
  have h2 := h p.word
  unfold szP wtP
  omega
theorem szX_le {W V : List Pt → Nat} {N M : List Nd → Nat} (h : ∀ w, W w ≤ 3001 * V w) (k : ∀ w, N w ≤ 3001 * M w) (x : Nd) : szX W N x + 1 ≤ 3001 * wtX V M x := by
  have h1 := sum_mul _ _ 3001 x.assigns fun a _ => szA_le h a
  have h2 := szw_le h x.words
  have h3 := sum_mul _ _ 3001 x.redirs fun a _ => szR_le h a
  have h4 : (x.lists.map fun y => 1 + N y).sum ≤ 3001 * (x.lists.map fun y => 1 + M y).sum := sum_mul _ _ _ _ fun y _ => by have := k y; show 1 + N y ≤ 3001 * (1 + M y); omega
  have h5 := sum_mul _ _ 3001 x.arms fun a _ => szM_le h k a
  unfold szX wtX
  omega
theorem szs_le : ∀ n, (∀ w d, (szs n).1 w d ≤ 3001 * (wts n).1 w) ∧ (∀ l d, (szs n).2 l d ≤ 3001 * (wts n).2 l)
  | 0 => ⟨fun _ _ => Nat.zero_le _, fun _ _ => Nat.zero_le _⟩
  | n + 1 => by
    obtain ⟨h, k⟩ := szs_le n
    refine ⟨fun w d => ?_, fun l d => ?_⟩
    · have := sumT_le (szP (fun w => (szs n).1 w (d - 1)) (fun l => (szs n).2 l (d - 1))) (wtP (wts n).1 (wts n).2) (decide (d ≤ 0)) w 0 (fun p _ => szP_le (fun w => h w _) (fun l => k l _) p)
      rw [Nat.zero_add] at this
      exact this
    · have := sumT_le (szX (fun w => (szs n).1 w (d - 1)) (fun l => (szs n).2 l (d - 1))) (wtX (wts n).1 (wts n).2) (decide (d ≤ 0)) l 0 (fun p _ => szX_le (fun w => h w _) (fun l => k l _) p)
      rw [Nat.zero_add] at this
      exact this
/-! How deep trees are. -/
def dpP (W : List Pt → Bool) (N : List Nd → Bool) (p : Pt) : Bool := W p.word && N p.body
def dpX (W : List Pt → Bool) (N : List Nd → Bool) (x : Nd) : Bool := x.assigns.all (fun a => W a.word) && x.words.all W && x.redirs.all (fun r => W r.word) && x.lists.all N && x.arms.all (fun a => N a.body && a.words.all W)
/-- Are trees of at most so many levels? -/
def dps : Nat → (List Pt → Int → Bool) × (List Nd → Int → Bool)
  | 0 => (fun _ _ => true, fun _ _ => true)
  | n + 1 => (fun w d => w.all fun p => decide (1 ≤ d) && dpP (fun w => (dps n).1 w (d - 1)) (fun l => (dps n).2 l (d - 1)) p,
      fun l d => l.all fun x => decide (1 ≤ d) && dpX (fun w => (dps n).1 w (d - 1)) (fun l => (dps n).2 l (d - 1)) x)
theorem sumT_small {α : Type} (f : α → Nat) (s : Bool) : ∀ (l : List α) (a : Nat), sumT f s a l ≤ 3000 → a ≤ 3000 ∧ ∀ x ∈ l, s = false ∧ f x ≤ 3000
  | [], a, h => ⟨h, fun x hx => by cases hx⟩
  | x :: r, a, h => by
    simp only [sumT] at h
    split at h
    · omega
    · rename_i c
      have c1 : s = false := by cases s with | false => rfl | true => exact absurd (by simp) c
      obtain ⟨h1, h2⟩ := sumT_small f s r _ h
      refine ⟨by omega, fun y hy => ?_⟩
      rcases List.mem_cons.1 hy with rfl | hy
      · exact ⟨c1, by omega⟩
      · exact h2 y hy
theorem le_sum {α : Type} (f : α → Nat) : ∀ (l : List α) (x : α), x ∈ l → f x ≤ (l.map f).sum
  | y :: r, x, h => by
    simp only [List.map_cons, List.sum_cons]
    rcases List.mem_cons.1 h with rfl | h
    · omega
    · have := le_sum f r x h; omega
theorem szs_dps : ∀ n, (∀ w d, (szs n).1 w d ≤ 3000 → (dps n).1 w d = true) ∧ (∀ l d, (szs n).2 l d ≤ 3000 → (dps n).2 l d = true)
  | 0 => ⟨fun _ _ _ => rfl, fun _ _ _ => rfl⟩
  | n + 1 => by
    obtain ⟨h, k⟩ := szs_dps n
    refine ⟨fun w d hs => ?_, fun l d hs => ?_⟩
    · obtain ⟨_, h2⟩ := sumT_small _ _ w 0 hs
      refine List.all_eq_true.2 fun p hp => ?_
      obtain ⟨e1, e2⟩ := h2 p hp
      have e1 := of_decide_eq_false e1
      simp only [szP] at e2
      simp only [dpP, Bool.and_eq_true, decide_eq_true_eq]
      exact ⟨by omega, h _ _ (by omega), k _ _ (by omega)⟩
    · obtain ⟨_, h2⟩ := sumT_small _ _ l 0 hs
      refine List.all_eq_true.2 fun x hx => ?_
      obtain ⟨e1, e2⟩ := h2 x hx
      have e1 := of_decide_eq_false e1
      simp only [szX] at e2
      simp only [dpX, Bool.and_eq_true, decide_eq_true_eq, List.all_eq_true]
      refine ⟨by omega, ⟨⟨⟨fun a ha => ?_, fun w hw => ?_⟩, fun r hr => ?_⟩, fun y hy => ?_⟩, fun a ha => ⟨?_, fun w hw => ?_⟩⟩
      · have := le_sum (szA fun w => (szs n).1 w (d - 1)) _ a ha
        exact h _ _ (by simp only [szA] at this e2; omega)
      · have := le_sum (fun w => 1 + (szs n).1 w (d - 1)) _ w hw
        exact h _ _ (by omega)
      · have := le_sum (szR fun w => (szs n).1 w (d - 1)) _ r hr
        exact h _ _ (by simp only [szR] at this e2; omega)
      · have := le_sum (fun w => 1 + (szs n).2 w (d - 1)) _ y hy
        exact k _ _ (by omega)
      · have := le_sum (szM (fun w => (szs n).1 w (d - 1)) fun l => (szs n).2 l (d - 1)) _ a ha
        exact k _ _ (by simp only [szM] at this e2 ⊢; omega)
      · have := le_sum (szM (fun w => (szs n).1 w (d - 1)) fun l => (szs n).2 l (d - 1)) _ a ha
        have h3 := le_sum (fun w => 1 + (szs n).1 w (d - 1)) _ w hw
        exact h _ _ (by simp only [szM] at this e2 ⊢; omega)
end Go.Proofs.YtfaohicadahcjaaGreatDoor
