/- Slices of structures that came in, opened, with how much they hold. No condition. -/
import Derived.Test.YtfaohicadahcjaaGreatDoorMg
import Derived.Test.YtfaohicadahcjaaGreatDoorMa
import Derived.Deep.Slices
import Derived.Deep.Strs
import Derived.OpenShut
import Derived.Test.YtfaohicadahcjaaGreatDoorMb
namespace Go.Proofs.YtfaohicadahcjaaGreatDoor
open Go.RowKit Go.PlainAid Go.ChangeShapes Go.WideShapes Go.ChangeAt
set_option linter.unusedSimpArgs false
set_option linter.unusedVariables false
open heft
section
variable {H : Type} {enc : TypeId × Value → H} {w : World} {base : Nat}
theorem sum_le {α : Type} (sz : α → Nat) (D : Nat → DataW H) : ∀ (n : Nat) (l : List α), l.length = n → (∀ (i : Nat) (x : α), l[i]? = some x → sz x ≤ Rows.uptoBulk (D i)) → (l.map sz).sum ≤ Rows.uptoBulkAll ((List.range n).map D)
  | 0, l, hl, h => by rw [List.eq_nil_of_length_eq_zero hl]; simp
  | n + 1, l, hl, h => by
    obtain ⟨l', x, rfl⟩ : ∃ l' x, l = l' ++ [x] := ⟨l.dropLast, l.getLast (by intro e; rw [e] at hl; simp at hl), (List.dropLast_concat_getLast _).symm⟩
    have hl' : l'.length = n := by simpa using hl
    have h1 := sum_le sz D n l' hl' (fun i y hi => h i y (by rw [List.getElem?_append_left (by rw [hl']; exact hl' ▸ (List.getElem?_eq_some_iff.1 hi).1)]; exact hi))
    have h2 := h n x (by rw [← hl']; simp)
    simp only [List.range_succ, List.map_append, heft.two, List.sum_append, List.map_cons, List.map_nil, List.sum_cons, List.sum_nil, Rows.uptoBulkAll]
    omega
theorem choose_list {α : Type} {Q : Nat → α → Prop} : ∀ n : Nat, (∀ i, i < n → ∃ o, Q i o) → ∃ os : List α, os.length = n ∧ ∀ (i : Nat) (o : α), os[i]? = some o → Q i o
  | 0, _ => ⟨[], rfl, fun i o h => by simp at h⟩
  | n + 1, h => by
    obtain ⟨os, h1, h2⟩ := choose_list n (fun i hi => h i (by omega))
    obtain ⟨o, ho⟩ := h n (by omega)
    refine ⟨os ++ [o], by simp [h1], fun i o' hi => ?_⟩
    by_cases e : i < n
    · rw [List.getElem?_append_left (by omega)] at hi
      exact h2 i o' hi
    · have : i < (os ++ [o]).length := (List.getElem?_eq_some_iff.1 hi).1
      simp [h1] at this
      obtain rfl : i = n := by omega
      rw [List.getElem?_append_right (by omega), h1, Nat.sub_self] at hi
      simp at hi
      subst hi
      exact ho
theorem open_seg {α : Type} {t e : TypeId} {k : Nat} (ht : Tryz.prog.underlying t = some (.slice e)) (hk : Tryz.prog.cellsOf e = k) (hk0 : 0 < k) {C : World → List Value → α → Prop} (sz : α → Nat) {m : Nat} (hm : m ≤ 1048576)
    (hel : ∀ (fuel : Nat) (cs : List Value) (d : DataW H) (p : List MemPlace), DataW.trod enc Tryz.prog w 0 (fun _ => true) true fuel e cs = some (d, p) → Rows.uptoBulk d ≤ m → cs.length = k → ∃ y, C w cs y ∧ sz y ≤ Rows.uptoBulk d)
    {fuel : Nat} {v : Value} {d : DataW H} {p : List MemPlace} (h : DataW.trod enc Tryz.prog w 0 (fun _ => true) true fuel t [v] = some (d, p)) (hb : Rows.uptoBulk d ≤ m + 1) : ∃ l, Seg k C w v l ∧ (l.map sz).sum < Rows.uptoBulk d := by
  rcases Deep.open_slice ht h with ⟨hcs, hd⟩ | ⟨x, len, cap, q, n, D, Pl, hcs, _, hl, hcap, hq, hd, hx⟩
  · simp at hcs
    subst hcs
    exact ⟨[], Seg.nil, by simpa using heft.pos _⟩
  · simp at hcs
    subst hcs
    cases hd
    have hbe := (shown ((List.range len).map D) ((List.range (q - len)).map fun j => D (len + j))).1
    have hln := (shown ((List.range len).map D) ((List.range (q - len)).map fun j => D (len + j))).2
    simp only [List.length_map, List.length_range] at hln
    have hlq : len ≤ q := by rw [hq]; split <;> omega
    by_cases h0 : len = 0
    · subst h0
      exact ⟨[], Seg.nil, by simpa using heft.pos _⟩
    rw [hk] at hx
    have each : ∀ i, i < len → ∃ y : α, (∃ cs : List Value, cs.length = k ∧ (∀ (j : Nat) u, cs[j]? = some u → w.cell? (x.add (i * k + j)) = some u) ∧ C w cs y) ∧ sz y ≤ Rows.uptoBulk (D i) := by
      intro i hi
      obtain ⟨cs, h1, h2⟩ := hx i (by omega)
      obtain ⟨_, hlen, hcell⟩ := World.cells?_some h1
      have hDi : Rows.uptoBulk (D i) ≤ Rows.uptoBulkAll ((List.range len).map D) := of_mem (List.mem_map.2 ⟨i, List.mem_range.2 hi, rfl⟩)
      obtain ⟨y, hy, hs⟩ := hel n cs (D i) (Pl i) h2 (by omega) hlen
      refine ⟨y, ⟨cs, hlen, fun j u hj => ?_, hy⟩, hs⟩
      have hjl := (List.getElem?_eq_some_iff.1 hj).1
      have e0 := hcell j (by omega)
      rw [Deep.add_add] at e0
      rw [e0]
      simpa using hj
    obtain ⟨l, hll, hlp⟩ := choose_list len each
    obtain ⟨b, off, spot⟩ := x
    have hspot : spot = none := by
      obtain ⟨y, ⟨cs, hlen, hc, _⟩, _⟩ := each 0 (by omega)
      have := hc 0 (cs[0]'(by omega)) (by rw [List.getElem?_eq_getElem])
      simpa [Addr.add] using World.cell?_spot this
    subst hspot
    refine ⟨l, ⟨by rw [hll]; omega, .inr ⟨b, off, cap, by rw [hll], by omega, fun i y hi => ?_⟩⟩, ?_⟩
    · obtain ⟨⟨cs, _, hc, hy⟩, _⟩ := hlp i y hi
      exact ⟨cs, fun j u hj => by have := hc j u hj; rw [add_at, ← Nat.add_assoc] at this; exact this, hy⟩
    · have := sum_le sz D len l hll (fun i y hi => (hlp i y hi).2)
      omega
end
end Go.Proofs.YtfaohicadahcjaaGreatDoor

/- Plain: how much trees hold, how deep they are; the law's own count. No conditions. -/
namespace Go.Proofs.YtfaohicadahcjaaGreatDoor
open Go.RowKit Go.PlainAid
set_option linter.unusedSimpArgs false
set_option linter.unusedVariables false
/-! Weights: how much a tree holds, of so many levels. -/
def wtA (W : List Pt → Nat) (a : As) : Nat := 1 + a.name.size + W a.word
def wtR (W : List Pt → Nat) (r : Rd) : Nat := 1 + r.tag.size + W r.word
def wtM (W : List Pt → Nat) (N : List Nd → Nat) (a : Ar) : Nat := 1 + N a.body + (a.words.map fun w => 1 + W w).sum
def wtP (W : List Pt → Nat) (N : List Nd → Nat) (p : Pt) : Nat := 1 + p.text.size + W p.word + N p.body
def wtX (W : List Pt → Nat) (N : List Nd → Nat) (x : Nd) : Nat := 1 + x.name.size + (x.assigns.map (wtA W)).sum + (x.words.map fun w => 1 + W w).sum + (x.redirs.map (wtR W)).sum + (x.lists.map fun y => 1 + N y).sum + (x.arms.map (wtM W N)).sum
def wts : Nat → (List Pt → Nat) × (List Nd → Nat)
  | 0 => (fun _ => 0, fun _ => 0)
  | n + 1 => (fun w => (w.map (wtP (wts n).1 (wts n).2)).sum, fun l => (l.map (wtX (wts n).1 (wts n).2)).sum)

/-! The law's own count of what commands have, up to 3000. -/
def sumT {α : Type} (f : α → Nat) (stop : Bool) : Nat → List α → Nat
  | a, [] => a
  | a, x :: r => if (stop || decide (3000 < a + 1)) = true then 3001 else sumT f stop (a + 1 + f x) r
def szA (W : List Pt → Nat) (a : As) : Nat := 1 + a.name.size + W a.word
def szR (W : List Pt → Nat) (r : Rd) : Nat := 1 + r.tag.size + W r.word
def szM (W : List Pt → Nat) (N : List Nd → Nat) (a : Ar) : Nat := 1 + N a.body + (a.words.map fun w => 1 + W w).sum
def szP (W : List Pt → Nat) (N : List Nd → Nat) (p : Pt) : Nat := p.text.size + W p.word + N p.body
def szX (W : List Pt → Nat) (N : List Nd → Nat) (x : Nd) : Nat := x.name.size + (x.assigns.map (szA W)).sum + (x.words.map fun w => 1 + W w).sum + (x.redirs.map (szR W)).sum + (x.lists.map fun y => 1 + N y).sum + (x.arms.map (szM W N)).sum
def szs : Nat → (List Pt → Int → Nat) × (List Nd → Int → Nat)
  | 0 => (fun _ _ => 0, fun _ _ => 0)
  | n + 1 => (fun w d => sumT (szP (fun w => (szs n).1 w (d - 1)) (fun l => (szs n).2 l (d - 1))) (decide (d ≤ 0)) 0 w,
      fun l d => sumT (szX (fun w => (szs n).1 w (d - 1)) (fun l => (szs n).2 l (d - 1))) (decide (d ≤ 0)) 0 l)
theorem sum_mul {α : Type} (f g : α → Nat) (c : Nat) : ∀ l : List α, (∀ x ∈ l, f x ≤ c * g x) → (l.map f).sum ≤ c * (l.map g).sum
  | [], _ => by simp
  | x :: r, h => by
    have h1 := h x (by simp)
    have h2 := sum_mul f g c r (fun y hy => h y (by simp [hy]))
    simp only [List.map_cons, List.sum_cons, Nat.mul_add]
    omega
theorem sumT_le {α : Type} (f g : α → Nat) (s : Bool) : ∀ (l : List α) (a : Nat), (∀ x ∈ l, f x + 1 ≤ 3001 * g x) → sumT f s a l ≤ a + 3001 * (l.map g).sum
  | [], a, _ => by simp [sumT]
  | x :: r, a, h => by
    have h1 := h x (by simp)
    simp only [List.map_cons, List.sum_cons, Nat.mul_add, sumT]
    split
    · omega
    · have h2 := sumT_le f g s r (a + 1 + f x) (fun y hy => h y (by simp [hy]))
      omega
theorem szA_le {W V : List Pt → Nat} (h : ∀ w, W w ≤ 3001 * V w) (a : As) : szA W a ≤ 3001 * wtA V a := by
  have := h a.word
  unfold szA wtA
  omega
theorem szR_le {W V : List Pt → Nat} (h : ∀ w, W w ≤ 3001 * V w) (a : Rd) : szR W a ≤ 3001 * wtR V a := by
  have := h a.word
  unfold szR wtR
  omega
theorem szw_le {W V : List Pt → Nat} (h : ∀ w, W w ≤ 3001 * V w) (l : List (List Pt)) : (l.map fun w => 1 + W w).sum ≤ 3001 * (l.map fun w => 1 + V w).sum :=
  sum_mul _ _ _ l fun x _ => by have := h x; show 1 + W x ≤ 3001 * (1 + V x); omega
theorem szM_le {W V : List Pt → Nat} {N M : List Nd → Nat} (h : ∀ w, W w ≤ 3001 * V w) (k : ∀ w, N w ≤ 3001 * M w) (a : Ar) : szM W N a ≤ 3001 * wtM V M a := by
  have h1 := k a.body
  have h2 := szw_le h a.words
  unfold szM wtM
  omega
theorem szP_le {W V : List Pt → Nat} {N M : List Nd → Nat} (h : ∀ w, W w ≤ 3001 * V w) (k : ∀ w, N w ≤ 3001 * M w) (p : Pt) : szP W N p + 1 ≤ 3001 * wtP V M p := by
  have h1 := k p.body
  have h2 := h p.word
  unfold szP wtP
  omega
theorem szX_le {W V : List Pt → Nat} {N M : List Nd → Nat} (h : ∀ w, W w ≤ 3001 * V w) (k : ∀ w, N w ≤ 3001 * M w) (x : Nd) : szX W N x + 1 ≤ 3001 * wtX V M x := by
  have h1 := sum_mul _ _ 3001 x.assigns fun a _ => szA_le h a
  have h2 := szw_le h x.words
  have h3 := sum_mul _ _ 3001 x.redirs fun a _ => szR_le h a
  have h4 : (x.lists.map fun y => 1 + N y).sum ≤ 3001 * (x.lists.map fun y => 1 + M y).sum := sum_mul _ _ _ _ fun y _ => by have := k y; show 1 + N y ≤ 3001 * (1 + M y); omega
  have h5 := sum_mul _ _ 3001 x.arms fun a _ => szM_le h k a
  unfold szX wtX
  omega
theorem szs_le : ∀ n, (∀ w d, (szs n).1 w d ≤ 3001 * (wts n).1 w) ∧ (∀ l d, (szs n).2 l d ≤ 3001 * (wts n).2 l)
  | 0 => ⟨fun _ _ => Nat.zero_le _, fun _ _ => Nat.zero_le _⟩
  | n + 1 => by
    obtain ⟨h, k⟩ := szs_le n
    refine ⟨fun w d => ?_, fun l d => ?_⟩
    · have := sumT_le (szP (fun w => (szs n).1 w (d - 1)) (fun l => (szs n).2 l (d - 1))) (wtP (wts n).1 (wts n).2) (decide (d ≤ 0)) w 0 (fun p _ => szP_le (fun w => h w _) (fun l => k l _) p)
      rw [Nat.zero_add] at this
      exact this
    · have := sumT_le (szX (fun w => (szs n).1 w (d - 1)) (fun l => (szs n).2 l (d - 1))) (wtX (wts n).1 (wts n).2) (decide (d ≤ 0)) l 0 (fun p _ => szX_le (fun w => h w _) (fun l => k l _) p)
      rw [Nat.zero_add] at this
      exact this
/-! How deep trees are. -/
def dpP (W : List Pt → Bool) (N : List Nd → Bool) (p : Pt) : Bool := W p.word && N p.body
def dpX (W : List Pt → Bool) (N : List Nd → Bool) (x : Nd) : Bool := x.assigns.all (fun a => W a.word) && x.words.all W && x.redirs.all (fun r => W r.word) && x.lists.all N && x.arms.all (fun a => N a.body && a.words.all W)
/-- Are trees of at most so many levels? -/
def dps : Nat → (List Pt → Int → Bool) × (List Nd → Int → Bool)
  | 0 => (fun _ _ => true, fun _ _ => true)
  | n + 1 => (fun w d => w.all fun p => decide (1 ≤ d) && dpP (fun w => (dps n).1 w (d - 1)) (fun l => (dps n).2 l (d - 1)) p,
      fun l d => l.all fun x => decide (1 ≤ d) && dpX (fun w => (dps n).1 w (d - 1)) (fun l => (dps n).2 l (d - 1)) x)
theorem sumT_small {α : Type} (f : α → Nat) (s : Bool) : ∀ (l : List α) (a : Nat), sumT f s a l ≤ 3000 → a ≤ 3000 ∧ ∀ x ∈ l, s = false ∧ f x ≤ 3000
  | [], a, h => ⟨h, fun x hx => by cases hx⟩
  | x :: r, a, h => by
    simp only [sumT] at h
    split at h
    · omega
    · rename_i c
      have c1 : s = false := by cases s with | false => rfl | true => exact absurd (by simp) c
      obtain ⟨h1, h2⟩ := sumT_small f s r _ h
      refine ⟨by omega, fun y hy => ?_⟩
      rcases List.mem_cons.1 hy with rfl | hy
      · exact ⟨c1, by omega⟩
      · exact h2 y hy
theorem le_sum {α : Type} (f : α → Nat) : ∀ (l : List α) (x : α), x ∈ l → f x ≤ (l.map f).sum
  | y :: r, x, h => by
    simp only [List.map_cons, List.sum_cons]
    rcases List.mem_cons.1 h with rfl | h
    · omega
    · have := le_sum f r x h; omega
theorem szs_dps : ∀ n, (∀ w d, (szs n).1 w d ≤ 3000 → (dps n).1 w d = true) ∧ (∀ l d, (szs n).2 l d ≤ 3000 → (dps n).2 l d = true)
  | 0 => ⟨fun _ _ _ => rfl, fun _ _ _ => rfl⟩
  | n + 1 => by
    obtain ⟨h, k⟩ := szs_dps n
    refine ⟨fun w d hs => ?_, fun l d hs => ?_⟩
    · obtain ⟨_, h2⟩ := sumT_small _ _ w 0 hs
      refine List.all_eq_true.2 fun p hp => ?_
      obtain ⟨e1, e2⟩ := h2 p hp
      have e1 := of_decide_eq_false e1
      simp only [szP] at e2
      simp only [dpP, Bool.and_eq_true, decide_eq_true_eq]
      exact ⟨by omega, h _ _ (by omega), k _ _ (by omega)⟩
    · obtain ⟨_, h2⟩ := sumT_small _ _ l 0 hs
      refine List.all_eq_true.2 fun x hx => ?_
      obtain ⟨e1, e2⟩ := h2 x hx
      have e1 := of_decide_eq_false e1
      simp only [szX] at e2
      simp only [dpX, Bool.and_eq_true, decide_eq_true_eq, List.all_eq_true]
      refine ⟨by omega, ⟨⟨⟨fun a ha => ?_, fun w hw => ?_⟩, fun r hr => ?_⟩, fun y hy => ?_⟩, fun a ha => ⟨?_, fun w hw => ?_⟩⟩
      · have := le_sum (szA fun w => (szs n).1 w (d - 1)) _ a ha
        exact h _ _ (by simp only [szA] at this e2; omega)
      · have := le_sum (fun w => 1 + (szs n).1 w (d - 1)) _ w hw
        exact h _ _ (by omega)
      · have := le_sum (szR fun w => (szs n).1 w (d - 1)) _ r hr
        exact h _ _ (by simp only [szR] at this e2; omega)
      · have := le_sum (fun w => 1 + (szs n).2 w (d - 1)) _ y hy
        exact k _ _ (by omega)
      · have := le_sum (szM (fun w => (szs n).1 w (d - 1)) fun l => (szs n).2 l (d - 1)) _ a ha
        exact k _ _ (by simp only [szM] at this e2 ⊢; omega)
      · have := le_sum (szM (fun w => (szs n).1 w (d - 1)) fun l => (szs n).2 l (d - 1)) _ a ha
        have h3 := le_sum (fun w => 1 + (szs n).1 w (d - 1)) _ w hw
        exact h _ _ (by simp only [szM] at this e2 ⊢; omega)
end Go.Proofs.YtfaohicadahcjaaGreatDoor

/- Trees that came in, opened, piece by piece. No condition. -/
namespace Go.Proofs.YtfaohicadahcjaaGreatDoor
open Go.RowKit Go.PlainAid Go.ChangeShapes Go.WideShapes Go.ChangeAt
set_option linter.unusedSimpArgs false
set_option linter.unusedVariables false
open heft
theorem cells55 : Tryz.prog.cellsOf 55 = 6 := by kernel_rfl
theorem cells51 : Tryz.prog.cellsOf 51 = 7 := by kernel_rfl
theorem cells96 : Tryz.prog.cellsOf 96 = 2 := by kernel_rfl
theorem cells44 : Tryz.prog.cellsOf 44 = 4 := by kernel_rfl
theorem cells78 : Tryz.prog.cellsOf 78 = 2 := by kernel_rfl
theorem cells33 : Tryz.prog.cellsOf 33 = 1 := by kernel_rfl
theorem cells22 : Tryz.prog.cellsOf 22 = 1 := by kernel_rfl
theorem cells3 : Tryz.prog.cellsOf 3 = 1 := by kernel_rfl
theorem cells4 : Tryz.prog.cellsOf 4 = 1 := by kernel_rfl
theorem cells9 : Tryz.prog.cellsOf 9 = 1 := by kernel_rfl
theorem cells46 : Tryz.prog.cellsOf 46 = 1 := by kernel_rfl
theorem cells47 : Tryz.prog.cellsOf 47 = 1 := by kernel_rfl
theorem cells45 : Tryz.prog.cellsOf 45 = 1 := by kernel_rfl
theorem cells48 : Tryz.prog.cellsOf 48 = 1 := by kernel_rfl
theorem cells49 : Tryz.prog.cellsOf 49 = 1 := by kernel_rfl
theorem fields55 : ∃ f0 f1 f2 f3 f4 f5 : Field, Tryz.prog.underlying 55 = some (.struct #[f0, f1, f2, f3, f4, f5]) ∧ (f0.offset = 0 ∧ f1.offset = 1 ∧ f2.offset = 2 ∧ f3.offset = 3 ∧ f4.offset = 4 ∧ f5.offset = 5) ∧ f0.type = 3 ∧ f1.type = 4 ∧ f2.type = 9 ∧ f3.type = 9 ∧ f4.type = 33 ∧ f5.type = 22 := ⟨_, _, _, _, _, _, Tryz.underlying55, ⟨rfl, rfl, rfl, rfl, rfl, rfl⟩, rfl, rfl, rfl, rfl, rfl, rfl⟩
theorem fields51 : ∃ f0 f1 f2 f3 f4 f5 f6 : Field, Tryz.prog.underlying 51 = some (.struct #[f0, f1, f2, f3, f4, f5, f6]) ∧ (f0.offset = 0 ∧ f1.offset = 1 ∧ f2.offset = 2 ∧ f3.offset = 3 ∧ f4.offset = 4 ∧ f5.offset = 5 ∧ f6.offset = 6) ∧ f0.type = 3 ∧ f1.type = 9 ∧ f2.type = 46 ∧ f3.type = 47 ∧ f4.type = 45 ∧ f5.type = 48 ∧ f6.type = 49 := ⟨_, _, _, _, _, _, _, Tryz.underlying51, ⟨rfl, rfl, rfl, rfl, rfl, rfl, rfl⟩, rfl, rfl, rfl, rfl, rfl, rfl, rfl⟩
theorem fields96 : ∃ f0 f1 : Field, Tryz.prog.underlying 96 = some (.struct #[f0, f1]) ∧ (f0.offset = 0 ∧ f1.offset = 1) ∧ f0.type = 9 ∧ f1.type = 33 := ⟨_, _, Tryz.underlying96, ⟨rfl, rfl⟩, rfl, rfl⟩
theorem fields44 : ∃ f0 f1 f2 f3 : Field, Tryz.prog.underlying 44 = some (.struct #[f0, f1, f2, f3]) ∧ (f0.offset = 0 ∧ f1.offset = 1 ∧ f2.offset = 2 ∧ f3.offset = 3) ∧ f0.type = 3 ∧ f1.type = 9 ∧ f2.type = 9 ∧ f3.type = 33 := ⟨_, _, _, _, Tryz.underlying44, ⟨rfl, rfl, rfl, rfl⟩, rfl, rfl, rfl, rfl⟩
theorem fields78 : ∃ f0 f1 : Field, Tryz.prog.underlying 78 = some (.struct #[f0, f1]) ∧ (f0.offset = 0 ∧ f1.offset = 1) ∧ f0.type = 47 ∧ f1.type = 22 := ⟨_, _, Tryz.underlying78, ⟨rfl, rfl⟩, rfl, rfl⟩
section
variable {H : Type} {enc : TypeId × Value → H} {w : World}
abbrev Rdz (enc : TypeId × Value → H) (w : World) (fuel : Nat) (t : TypeId) (cs : List Value) (d : DataW H) (p : List MemPlace) : Prop := DataW.trod enc Tryz.prog w 0 (fun _ => true) true fuel t cs = some (d, p)
theorem wordN_is (l : List Pt) : wordN l = (l.map (fun p => p.text.size)).sum := by
  induction l with
  | nil => rfl
  | cons p r ih => simp [wordN, ih]
theorem rd_str {fuel : Nat} {v : Value} {d : DataW H} {p : List MemPlace} (h : Rdz enc w fuel 9 [v] d p) : ∃ s : ByteArray, v = .string s ∧ s.size + 1 = Rows.uptoBulk d := by
  obtain ⟨s, h1, h2, _⟩ := DataW.trod_string Tryz.underlying9 h
  simp at h1
  cases h2
  exact ⟨s, h1, by rw [heft.text]; rfl⟩
theorem rd_int {fuel : Nat} {v : Value} {d : DataW H} {p : List MemPlace} (h : Rdz enc w fuel 3 [v] d p) : ∃ k : Int, v = .int .i64 k ∧ In64 k := by
  obtain ⟨k, h1, _, h2⟩ := DataW.trod_int Tryz.underlying3 h
  simp at h1
  exact ⟨k, h1, h2⟩
theorem rd_bool {fuel : Nat} {v : Value} {d : DataW H} {p : List MemPlace} (h : Rdz enc w fuel 4 [v] d p) : ∃ k : Bool, v = .bool k := by
  obtain ⟨k, h1, _⟩ := DataW.trod_bool Tryz.underlying4 h
  simp at h1
  exact ⟨k, h1⟩
/-- What is opened, of trees of a bulk. -/
def OpW (enc : TypeId × Value → H) (w : World) (m : Nat) : Prop := ∀ (fuel : Nat) (v : Value) (d : DataW H) (p : List MemPlace), Rdz enc w fuel 33 [v] d p → Rows.uptoBulk d ≤ m → ∃ l, WdAt m w v l ∧ wordN l ≤ Rows.uptoBulk d ∧ (wts m).1 l < Rows.uptoBulk d
def OpN (enc : TypeId × Value → H) (w : World) (m : Nat) : Prop := ∀ (fuel : Nat) (v : Value) (d : DataW H) (p : List MemPlace), Rdz enc w fuel 22 [v] d p → Rows.uptoBulk d ≤ m → ∃ l, NsAt m w v l ∧ (wts m).2 l < Rows.uptoBulk d
set_option maxRecDepth 100000 in
theorem op_part {m : Nat} (hm : m ≤ 1048576) (hW : OpW enc w m) (hN : OpN enc w m) (fuel : Nat) (cs : List Value) (d : DataW H) (p : List MemPlace) (h : Rdz enc w fuel 55 cs d p) (hb : Rows.uptoBulk d ≤ m) (hl : cs.length = 6) : ∃ y : Pt, PtC (WdAt m) (NsAt m) w cs y ∧ wtP (wts m).1 (wts m).2 y ≤ Rows.uptoBulk d := by
  obtain ⟨f0, f1, f2, f3, f4, f5, hu, ⟨o0, o1, o2, o3, o4, o5⟩, t0, t1, t2, t3, t4, t5⟩ := fields55
  obtain ⟨xs, n, _, hx, _, hxl, hf⟩ := DataW.trod_struct hu h
  match xs, hxl, cs, hl with
  | [y0, y1, y2, y3, y4, y5], _, [v0, v1, v2, v3, v4, v5], _ =>
    have g0 := hf 0 f0 rfl
    have g1 := hf 1 f1 rfl
    have g2 := hf 2 f2 rfl
    have g3 := hf 3 f3 rfl
    have g4 := hf 4 f4 rfl
    have g5 := hf 5 f5 rfl
    rw [o0, t0, cells3] at g0
    rw [o1, t1, cells4] at g1
    rw [o2, t2, cells9] at g2
    rw [o3, t3, cells9] at g3
    rw [o4, t4, cells33] at g4
    rw [o5, t5, cells22] at g5
    cases hx
    simp only [List.map_cons, List.map_nil, Rows.uptoBulk, Rows.uptoBulkAll] at hb ⊢
    obtain ⟨k, rfl, hk⟩ := rd_int (enc := enc) (w := w) (d := y0.1) (p := y0.2) g0
    obtain ⟨b, rfl⟩ := rd_bool (enc := enc) (w := w) (d := y1.1) (p := y1.2) g1
    obtain ⟨s, rfl, hs⟩ := rd_str (enc := enc) (w := w) (d := y2.1) (p := y2.2) g2
    obtain ⟨o, rfl, ho⟩ := rd_str (enc := enc) (w := w) (d := y3.1) (p := y3.2) g3
    obtain ⟨wl, hwl, _, hww⟩ := hW n v4 y4.1 y4.2 g4 (by omega)
    obtain ⟨nl, hnl, hnn⟩ := hN n v5 y5.1 y5.2 g5 (by omega)
    exact ⟨.mk k b s o wl nl, ⟨v4, v5, rfl, ⟨hk, by show s.size ≤ _; omega, by show o.size ≤ _; omega⟩, hwl, hnl⟩, by show 1 + s.size + (wts m).1 wl + (wts m).2 nl ≤ _; omega⟩
set_option maxRecDepth 100000 in
theorem op_as {m : Nat} (hm : m ≤ 1048576) (hW : OpW enc w m) (fuel : Nat) (cs : List Value) (d : DataW H) (p : List MemPlace) (h : Rdz enc w fuel 96 cs d p) (hb : Rows.uptoBulk d ≤ m) (hl : cs.length = 2) : ∃ y : As, AsC (WdAt m) w cs y ∧ wtA (wts m).1 y ≤ Rows.uptoBulk d := by
  obtain ⟨f0, f1, hu, ⟨o0, o1⟩, t0, t1⟩ := fields96
  obtain ⟨xs, n, _, hx, _, hxl, hf⟩ := DataW.trod_struct hu h
  match xs, hxl, cs, hl with
  | [y0, y1], _, [v0, v1], _ =>
    have g0 := hf 0 f0 rfl
    have g1 := hf 1 f1 rfl
    rw [o0, t0, cells9] at g0
    rw [o1, t1, cells33] at g1
    cases hx
    simp only [List.map_cons, List.map_nil, Rows.uptoBulk, Rows.uptoBulkAll] at hb ⊢
    obtain ⟨s, rfl, hs⟩ := rd_str (enc := enc) (w := w) (d := y0.1) (p := y0.2) g0
    obtain ⟨wl, hwl, _, hww⟩ := hW n v1 y1.1 y1.2 g1 (by omega)
    exact ⟨.mk s wl, ⟨v1, rfl, by show s.size ≤ _; omega, hwl⟩, by show 1 + s.size + (wts m).1 wl ≤ _; omega⟩
set_option maxRecDepth 100000 in
theorem op_rd {m : Nat} (hm : m ≤ 1048576) (hW : OpW enc w m) (fuel : Nat) (cs : List Value) (d : DataW H) (p : List MemPlace) (h : Rdz enc w fuel 44 cs d p) (hb : Rows.uptoBulk d ≤ m) (hl : cs.length = 4) : ∃ y : Rd, RdC (WdAt m) w cs y ∧ wtR (wts m).1 y ≤ Rows.uptoBulk d := by
  obtain ⟨f0, f1, f2, f3, hu, ⟨o0, o1, o2, o3⟩, t0, t1, t2, t3⟩ := fields44
  obtain ⟨xs, n, _, hx, _, hxl, hf⟩ := DataW.trod_struct hu h
  match xs, hxl, cs, hl with
  | [y0, y1, y2, y3], _, [v0, v1, v2, v3], _ =>
    have g0 := hf 0 f0 rfl
    have g1 := hf 1 f1 rfl
    have g2 := hf 2 f2 rfl
    have g3 := hf 3 f3 rfl
    rw [o0, t0, cells3] at g0
    rw [o1, t1, cells9] at g1
    rw [o2, t2, cells9] at g2
    rw [o3, t3, cells33] at g3
    cases hx
    simp only [List.map_cons, List.map_nil, Rows.uptoBulk, Rows.uptoBulkAll] at hb ⊢
    obtain ⟨k, rfl, hk⟩ := rd_int (enc := enc) (w := w) (d := y0.1) (p := y0.2) g0
    obtain ⟨s, rfl, hs⟩ := rd_str (enc := enc) (w := w) (d := y1.1) (p := y1.2) g1
    obtain ⟨o, rfl, ho⟩ := rd_str (enc := enc) (w := w) (d := y2.1) (p := y2.2) g2
    obtain ⟨wl, hwl, hwn, hww⟩ := hW n v3 y3.1 y3.2 g3 (by omega)
    exact ⟨.mk k s o wl, ⟨v3, rfl, ⟨hk, by show s.size ≤ _; omega, by show o.size ≤ _; omega, by show wordN wl ≤ _; omega⟩, hwl⟩, by show 1 + o.size + (wts m).1 wl ≤ _; omega⟩
end
end Go.Proofs.YtfaohicadahcjaaGreatDoor

/- Trees that came in, opened. No condition. -/
namespace Go.Proofs.YtfaohicadahcjaaGreatDoor
open Go.RowKit Go.PlainAid Go.ChangeShapes Go.WideShapes Go.ChangeAt
set_option linter.unusedSimpArgs false
set_option linter.unusedVariables false
open heft
section
variable {H : Type} {enc : TypeId × Value → H} {w : World}
theorem op_ws {m : Nat} (hm : m ≤ 1048576) (hW : OpW enc w m) {fuel : Nat} {v : Value} {d : DataW H} {p : List MemPlace} (h : Rdz enc w fuel 47 [v] d p) (hb : Rows.uptoBulk d ≤ m + 1) : ∃ l, WsAt m w v l ∧ (l.map fun w => 1 + (wts m).1 w).sum < Rows.uptoBulk d := by
  exact open_seg Tryz.underlying47 cells33 (by decide) (C := OneC (WdAt m)) (fun w => 1 + (wts m).1 w) hm (fun fuel cs d p h hb hl => by
    match cs, hl with
    | [v], _ =>
      obtain ⟨l, h1, _, h2⟩ := hW fuel v d p h hb
      exact ⟨l, ⟨v, rfl, h1⟩, by show 1 + (wts m).1 l ≤ _; omega⟩) h hb
theorem op_ls {m : Nat} (hm : m ≤ 1048576) (hN : OpN enc w m) {fuel : Nat} {v : Value} {d : DataW H} {p : List MemPlace} (h : Rdz enc w fuel 48 [v] d p) (hb : Rows.uptoBulk d ≤ m + 1) : ∃ l, LsAt m w v l ∧ (l.map fun w => 1 + (wts m).2 w).sum < Rows.uptoBulk d := by
  exact open_seg Tryz.underlying48 cells22 (by decide) (C := OneC (NsAt m)) (fun w => 1 + (wts m).2 w) hm (fun fuel cs d p h hb hl => by
    match cs, hl with
    | [v], _ =>
      obtain ⟨l, h1, h2⟩ := hN fuel v d p h hb
      exact ⟨l, ⟨v, rfl, h1⟩, by show 1 + (wts m).2 l ≤ _; omega⟩) h hb
set_option maxRecDepth 100000 in
theorem op_ar {m : Nat} (hm : m ≤ 1048576) (hW : OpW enc w m) (hN : OpN enc w m) (fuel : Nat) (cs : List Value) (d : DataW H) (p : List MemPlace) (h : Rdz enc w fuel 78 cs d p) (hb : Rows.uptoBulk d ≤ m) (hl : cs.length = 2) : ∃ y : Ar, ArC (WdAt m) (NsAt m) w cs y ∧ wtM (wts m).1 (wts m).2 y ≤ Rows.uptoBulk d := by
  obtain ⟨f0, f1, hu, ⟨o0, o1⟩, t0, t1⟩ := fields78
  obtain ⟨xs, n, _, hx, _, hxl, hf⟩ := DataW.trod_struct hu h
  match xs, hxl, cs, hl with
  | [y0, y1], _, [v0, v1], _ =>
    have g0 := hf 0 f0 rfl
    have g1 := hf 1 f1 rfl
    rw [o0, t0, cells47] at g0
    rw [o1, t1, cells22] at g1
    cases hx
    simp only [List.map_cons, List.map_nil, Rows.uptoBulk, Rows.uptoBulkAll] at hb ⊢
    obtain ⟨wl, hwl, hww⟩ := op_ws hm hW (d := y0.1) (p := y0.2) (v := v0) g0 (by omega)
    obtain ⟨nl, hnl, hnn⟩ := hN n v1 y1.1 y1.2 g1 (by omega)
    exact ⟨.mk wl nl, ⟨v0, v1, rfl, hwl, hnl⟩, by show 1 + (wts m).2 nl + (wl.map fun w => 1 + (wts m).1 w).sum ≤ _; omega⟩
set_option maxRecDepth 100000 in
theorem op_node {m : Nat} (hm : m ≤ 1048576) (hW : OpW enc w m) (hN : OpN enc w m) (fuel : Nat) (cs : List Value) (d : DataW H) (p : List MemPlace) (h : Rdz enc w fuel 51 cs d p) (hb : Rows.uptoBulk d ≤ m) (hl : cs.length = 7) : ∃ y : Nd, NdC (WdAt m) (NsAt m) w cs y ∧ wtX (wts m).1 (wts m).2 y ≤ Rows.uptoBulk d := by
  obtain ⟨f0, f1, f2, f3, f4, f5, f6, hu, ⟨o0, o1, o2, o3, o4, o5, o6⟩, t0, t1, t2, t3, t4, t5, t6⟩ := fields51
  obtain ⟨xs, n, _, hx, _, hxl, hf⟩ := DataW.trod_struct hu h
  match xs, hxl, cs, hl with
  | [y0, y1, y2, y3, y4, y5, y6], _, [v0, v1, v2, v3, v4, v5, v6], _ =>
    have g0 := hf 0 f0 rfl
    have g1 := hf 1 f1 rfl
    have g2 := hf 2 f2 rfl
    have g3 := hf 3 f3 rfl
    have g4 := hf 4 f4 rfl
    have g5 := hf 5 f5 rfl
    have g6 := hf 6 f6 rfl
    rw [o0, t0, cells3] at g0
    rw [o1, t1, cells9] at g1
    rw [o2, t2, cells46] at g2
    rw [o3, t3, cells47] at g3
    rw [o4, t4, cells45] at g4
    rw [o5, t5, cells48] at g5
    rw [o6, t6, cells49] at g6
    cases hx
    simp only [List.map_cons, List.map_nil, Rows.uptoBulk, Rows.uptoBulkAll] at hb ⊢
    obtain ⟨k, rfl, hk⟩ := rd_int (enc := enc) (w := w) (d := y0.1) (p := y0.2) g0
    obtain ⟨s, rfl, hs⟩ := rd_str (enc := enc) (w := w) (d := y1.1) (p := y1.2) g1
    obtain ⟨al, hal, e1⟩ := open_seg (v := v2) (d := y2.1) (p := y2.2) Tryz.underlying46 cells96 (by decide) (C := AsC (WdAt m)) (wtA (wts m).1) hm (fun fuel cs d p h hb hl => op_as hm hW fuel cs d p h hb hl) g2 (by omega)
    obtain ⟨wl, hwl, e2⟩ := op_ws hm hW (d := y3.1) (p := y3.2) (v := v3) g3 (by omega)
    obtain ⟨rl, hrl, e3⟩ := open_seg (v := v4) (d := y4.1) (p := y4.2) Tryz.underlying45 cells44 (by decide) (C := RdC (WdAt m)) (wtR (wts m).1) hm (fun fuel cs d p h hb hl => op_rd hm hW fuel cs d p h hb hl) g4 (by omega)
    obtain ⟨ll, hll, e4⟩ := op_ls hm hN (d := y5.1) (p := y5.2) (v := v5) g5 (by omega)
    obtain ⟨ml, hml, e5⟩ := open_seg (v := v6) (d := y6.1) (p := y6.2) Tryz.underlying49 cells78 (by decide) (C := ArC (WdAt m) (NsAt m)) (wtM (wts m).1 (wts m).2) hm (fun fuel cs d p h hb hl => op_ar hm hW hN fuel cs d p h hb hl) g6 (by omega)
    exact ⟨.mk k s al wl rl ll ml, ⟨v2, v3, v4, v5, v6, rfl, ⟨hk, by show s.size ≤ _; omega⟩, hal, hwl, hrl, hll, hml⟩, by
      show 1 + s.size + (al.map (wtA (wts m).1)).sum + (wl.map fun w => 1 + (wts m).1 w).sum + (rl.map (wtR (wts m).1)).sum + (ll.map fun y => 1 + (wts m).2 y).sum + (ml.map (wtM (wts m).1 (wts m).2)).sum ≤ _
      omega⟩
theorem open_tree : ∀ m, m ≤ 1048576 → OpW enc w m ∧ OpN enc w m
  | 0, _ => ⟨fun fuel v d p h hb => absurd (pos d) (by omega), fun fuel v d p h hb => absurd (pos d) (by omega)⟩
  | m + 1, hm => by
    obtain ⟨hW, hN⟩ := open_tree m (by omega)
    refine ⟨fun fuel v d p h hb => ?_, fun fuel v d p h hb => ?_⟩
    · obtain ⟨l, h1, h2⟩ := open_seg Tryz.underlying33 cells55 (by decide) (C := PtC (WdAt m) (NsAt m)) (wtP (wts m).1 (wts m).2) (by omega) (fun fuel cs d p h hb hl => op_part (by omega) hW hN fuel cs d p h hb hl) h hb
      refine ⟨l, h1, ?_, h2⟩
      have h3 : (l.map fun p => p.text.size).sum ≤ 1 * (l.map (wtP (wts m).1 (wts m).2)).sum := sum_mul _ _ 1 l fun p _ => by unfold wtP; omega
      rw [wordN_is]
      omega
    · exact open_seg Tryz.underlying22 cells51 (by decide) (C := NdC (WdAt m) (NsAt m)) (wtX (wts m).1 (wts m).2) (by omega) (fun fuel cs d p h hb hl => op_node (by omega) hW hN fuel cs d p h hb hl) h hb
end
end Go.Proofs.YtfaohicadahcjaaGreatDoor

/- Contracts: the document's Plain; parts without what is in them. Conditions: lengths below a bound. -/
namespace Go.Proofs.YtfaohicadahcjaaGreatDoor
open Go.RowKit Go.PlainAid Go.ChangeShapes Go.WideShapes Go.ChangeAt
set_option linter.unusedSimpArgs false
set_option linter.unusedVariables false
def Rel18 (l : List Pt) (s q i : Value) : Prop := ∃ (k : Nat) (acc : ByteArray) (b : Bool), k ≤ l.length ∧ i = .int .i64 k ∧ q = .bool b ∧ s = .string acc ∧ acc.size ≤ k * 1048576 ∧ Hid (plainL l = plusL (ls acc) b (plainL (l.drop k)))
set_option maxHeartbeats 4000000 in
set_option maxRecDepth 100000 in
theorem plain18 (n : Nat) (v : Value) (l : List Pt) (w : World) (h : WdAt n w v l) : Calls Tryz.prog 18 #[v] w fun e w' => e = .returned (plainV (plainL l)) ∧ w = w' := by
  have HL := Lib.hid h
  have hlen := at_len _ _ _ _ h
  obtain ⟨a, c, rfl⟩ := wd_shape _ _ _ _ h
  obtain ⟨q, Hq⟩ : ∃ q, Hid (l.length = q) := ⟨_, Lib.hid rfl⟩
  rw [Hq.out] at HL hlen ⊢
  clear h
  go_enter Tryz.func18, Tryz.ntmps18
  go_wp2
  go_loop [5, 6, 7] (Rel18 l) (fun _ _ i => q - (intOf i).toNat)
  case atStart => exact ⟨0, ⟨#[]⟩, false, Nat.zero_le _, rfl, rfl, rfl, Nat.zero_le _, Lib.hid (by rw [List.drop_zero]; exact (plus_nil _).symm)⟩
  case round =>
    obtain ⟨k, acc, b, hk, rfl, rfl, rfl, hacc, HR⟩ := hrel
    rw [Hq.out] at hk
    by_cases hlt : k < q
    · have hlt' : k < l.length := by rw [Hq.out]; exact hlt
      obtain ⟨m, b1, off, c', wa, wc, ba, bc, _, e, hc, hfit, _, c0, c1, c2, c3, c4, c5⟩ := wd_at2 HL.out k hlt'
      have HC := Lib.hid (plain_cut l k hlt' (ls acc) b)
      obtain ⟨p, Hp⟩ : ∃ p, Hid (l[k] = p) := ⟨_, Lib.hid rfl⟩
      rw [Hp.out] at HC c0 c1 c2 hfit
      rw [Hq.out] at e hc
      cases e
      have htx := hfit.t
      have hk1 := ne_int p.kind 1
      have hk2 := eq_int p.kind 1
      have HK : Hid (p.kind = 1 ↔ decide (p.kind = 1) = true) := Lib.hid (by simp)
      generalize decide (p.kind = 1) = b0 at hk1 hk2 HK
      clear hfit c3 c4 c5
      cases b0
      · have HE : Hid (plainL l = none) := Lib.hid (by rw [HR.out, HC.out, if_neg (fun e => by have := HK.out.1 e; cases this)])
        simp only [Bool.not_false] at hk1
        go_wp2
        go_ret3
        rw [HE.out]; exact ⟨rfl, rfl⟩
      · have HE : Hid (plainL l = plusL (ls (acc ++ p.text)) (b || p.quoted) (plainL (l.drop (k + 1)))) := Lib.hid (by rw [HR.out, HC.out, if_pos (HK.out.2 rfl), app_ls2])
        have hsz : (acc ++ p.text).size ≤ (k + 1) * 1048576 := by rw [ByteArray.size_append]; omega
        have HSz := Lib.hid hsz
        have hn : ¬ 9223372036854775807 < acc.size + p.text.size := by omega
        simp only [Bool.not_true] at hk1
        obtain ⟨qp, Hqp⟩ : ∃ q, Hid (p.quoted = q) := ⟨_, Lib.hid rfl⟩
        obtain ⟨F, HF⟩ : ∃ F, Hid (acc ++ p.text = F) := ⟨_, Lib.hid rfl⟩
        rw [Hqp.out] at c1 HE
        rw [HF.out] at HE HSz
        have hF := HF.out
        clear HK HC hsz hacc
        cases b <;> cases qp
        all_goals (
          go_wp2
          go_round
          case rel => exact ⟨k + 1, F, _, hlt', by go_num, rfl, rfl, HSz.out, HE⟩
          case measure => simp [intOf]; omega)
    · have hkq : q = k := by omega
      subst hkq
      have HE : Hid (plainL l = some (ls acc, b)) := Lib.hid (by rw [HR.out, List.drop_of_length_le (by rw [Hq.out]; exact Nat.le_refl _)]; simp [plainL, plusL])
      go_wp2
      go_ret3
      rw [HE.out, show plainV (some (ls acc, b)) = .tuple #[.string acc, .bool b, .bool true] from by show Value.tuple #[.string (mk (ls acc)), .bool b, .bool true] = _; rw [mk_ls]]; exact ⟨rfl, rfl⟩
/-! Rows of parts that the call makes. -/
def cellsP (p : Pt) : List Value := [.int .i64 p.kind, .bool p.quoted, .string p.text, .string p.op, .slice none 0 0, .slice none 0 0]
def rowP (l : List Pt) : List Value := (l.map cellsP).flatten
theorem rowP_len (l : List Pt) : (rowP l).length = l.length * 6 := by
  induction l with
  | nil => rfl
  | cons p r ih =>
    have : rowP (p :: r) = cellsP p ++ rowP r := rfl
    rw [this, List.length_append, ih]
    simp [cellsP]; omega
theorem rowP_get : ∀ (l : List Pt) (i j : Nat) (p : Pt) (u : Value), l[i]? = some p → (cellsP p)[j]? = some u → (rowP l)[i * 6 + j]? = some u
  | [], i, j, p, u, h, _ => by simp at h
  | x :: r, 0, j, p, u, h, hj => by
    simp at h
    subst h
    have hjl := (List.getElem?_eq_some_iff.1 hj).1
    show (cellsP x ++ rowP r)[0 * 6 + j]? = some u
    rw [Nat.zero_mul, Nat.zero_add, List.getElem?_append_left hjl]
    exact hj
  | x :: r, i + 1, j, p, u, h, hj => by
    have h' : r[i]? = some p := by simpa using h
    show (cellsP x ++ rowP r)[(i + 1) * 6 + j]? = some u
    rw [List.getElem?_append_right (by simp [cellsP]; omega)]
    have := rowP_get r i j p u h' hj
    rw [← this]
    congr 1
    simp [cellsP]; omega
theorem rowP_snoc (l : List Pt) (p : Pt) : rowP (l ++ [p]) = rowP l ++ cellsP p := by simp [rowP]
/-- A part without what is in it. -/
def flatP (p : Pt) : Pt := .mk p.kind p.quoted p.text ⟨#[]⟩ [] []
theorem row_at {B : Nat} {e : TypeId} {w : World} {v : Value} {l : List Pt} (h : w.ownsRow B e 6 v l.length (rowP l)) (hl : l.length ≤ 1048576) (hf : ∀ p ∈ l, PtFits p ∧ p.word = [] ∧ p.body = []) : WdAt 1 w v l := by
  refine ⟨hl, ?_⟩
  rcases h.2 with ⟨rfl, h0⟩ | ⟨g, cap, cur, rfl, hB, hg, hle, _⟩
  · exact .inl ⟨List.eq_nil_of_length_eq_zero h0, _, _, rfl⟩
  · refine .inr ⟨g, 0, cap, rfl, hle, fun i p hi => ⟨cellsP p, fun j u hj => ?_, ?_⟩⟩
    · have := World.ownsRow.cells h (g := g) rfl (i * 6 + j) u (rowP_get l i j p u hi hj)
      rw [add_at] at this
      rw [Nat.zero_add] at this ⊢
      exact this
    · obtain ⟨h1, h2, h3⟩ := hf p (List.mem_of_getElem? hi)
      exact ⟨_, _, rfl, h1, by rw [h2]; exact ⟨rfl, _, _, rfl⟩, by rw [h3]; exact ⟨rfl, _, _, rfl⟩⟩
theorem row_atn {B n : Nat} {e : TypeId} {w : World} {v : Value} {l : List Pt} (hn : n = l.length) (h : w.ownsRow B e 6 v n (rowP l)) (hl : l.length ≤ 1048576) (hf : ∀ p ∈ l, PtFits p ∧ p.word = [] ∧ p.body = []) : WdAt 1 w v l := by subst hn; exact row_at h hl hf
theorem info55' : (Tryz.prog.info? 55).map (fun i => (i.zero, i.size, i.bytes)) = some (some (.agg #[.int .i64 0, .bool false, .string ⟨#[]⟩, .string ⟨#[]⟩, .slice none 0 0, .slice none 0 0]), 6, 96) := by kernel_rfl
theorem info86' : (Tryz.prog.info? 86).map (fun i => (i.zero, i.size, i.bytes)) = some (some (.agg #[.int .i64 0, .bool false, .string ⟨#[]⟩, .string ⟨#[]⟩, .slice none 0 0, .slice none 0 0]), 6, 96) := by kernel_rfl
theorem info_of {t : TypeId} {z : Value} {s b : Nat} (h : (Tryz.prog.info? t).map (fun i => (i.zero, i.size, i.bytes)) = some (some z, s, b)) : ∃ i, Tryz.prog.info? t = some i ∧ i.zero = some z ∧ i.size = s ∧ i.bytes = b := by
  obtain ⟨i, hi, h⟩ := Option.map_eq_some_iff.1 h
  simp only [Prod.mk.injEq] at h
  exact ⟨i, hi, h.1, h.2.1, h.2.2⟩
def Rel20 (l : List Pt) (w : World) (o i : Value) (wx : World) : Prop := ∃ k : Nat, k ≤ l.length ∧ i = .int .i64 k ∧ wx.ownsRow w.heap.size 55 6 o k (rowP ((l.map flatP).take k)) ∧ Below w.heap.size w wx
set_option maxHeartbeats 4000000 in
set_option maxRecDepth 100000 in
theorem bytes20 (n : Nat) (v : Value) (l : List Pt) (w : World) (h : WdAt n w v l) : Calls Tryz.prog 20 #[v] w fun e w' => ∃ v', e = .returned v' ∧ WdAt 1 w' v' (l.map flatP) ∧ Below w.heap.size w w' := by
  obtain ⟨i0, hi, hz0, hz1, hz2⟩ := info_of info55'
  have HL := Lib.hid h
  have hlen := at_len _ _ _ _ h
  obtain ⟨a, c, rfl⟩ := wd_shape _ _ _ _ h
  obtain ⟨q, Hq⟩ : ∃ q, Hid (l.length = q) := ⟨_, Lib.hid rfl⟩
  rw [Hq.out] at HL hlen ⊢
  clear h
  go_enter Tryz.func20, Tryz.ntmps20
  go_wp2
  go_loopw [3, 8] (Rel20 l w) (fun _ i _ => q - (intOf i).toNat)
  case atStart => exact ⟨0, Nat.zero_le _, rfl, World.ownsRow_nil _ _ _ _, Below.refl _ _⟩
  case round =>
    obtain ⟨k, hk, rfl, HO, HB⟩ := hrel
    rename World => wx
    rw [Hq.out] at hk
    have HO := Lib.hid HO
    have HB := Lib.hid HB
    have hsz := HB.out.size
    by_cases hlt : k < q
    · have hlt' : k < l.length := by rw [Hq.out]; exact hlt
      obtain ⟨m, b1, off, c', wa, wc, ba, bc, _, e, hc, hfit, _, c0, c1, c2, c3, c4, c5⟩ := wd_at2 HL.out k hlt'
      have HT : Hid ((l.map flatP).take (k + 1) = (l.map flatP).take k ++ [flatP l[k]]) := Lib.hid (by rw [List.take_add_one, List.getElem?_map, List.getElem?_eq_getElem hlt']; rfl)
      obtain ⟨p, Hp⟩ : ∃ p, Hid (l[k] = p) := ⟨_, Lib.hid rfl⟩
      rw [Hp.out] at HT c0 c1 c2 c3 c4 c5
      rw [Hq.out] at e hc
      cases e
      replace c0 := cell_low c0 HB.out
      replace c1 := cell_low c1 HB.out
      replace c2 := cell_low c2 HB.out
      replace c3 := cell_low c3 HB.out
      replace c4 := cell_low c4 HB.out
      replace c5 := cell_low c5 HB.out
      generalize p.word.length = nw at c4
      generalize p.body.length = nb at c5
      have hbo := HB.out.alloc hsz (.cells #[.int .i64 p.kind, .bool p.quoted, .string p.text, .string p.op, .slice wa nw wc, .slice ba nb bc] 55)
      have HB1 := Lib.hid (hbo.alloc hbo.size (.cells #[.int .i64 p.kind, .bool p.quoted, .string p.text, .string ⟨#[]⟩, .slice none 0 0, .slice none 0 0] 55))
      have hnew := heap_alloc_new (wx.alloc (.cells #[.int .i64 p.kind, .bool p.quoted, .string p.text, .string p.op, .slice wa nw wc, .slice ba nb bc] 55)) (.cells #[.int .i64 p.kind, .bool p.quoted, .string p.text, .string ⟨#[]⟩, .slice none 0 0, .slice none 0 0] 55)
      have hown := (HO.out.alloc (.cells #[.int .i64 p.kind, .bool p.quoted, .string p.text, .string p.op, .slice wa nw wc, .slice ba nb bc] 55)).alloc (.cells #[.int .i64 p.kind, .bool p.quoted, .string p.text, .string ⟨#[]⟩, .slice none 0 0, .slice none 0 0] 55)
      obtain ⟨oa, oc, rfl⟩ := slice_shape HO.out
      clear hfit hbo
      go_wp2_with (at_builtin; refine wpList_append_own _ rfl _ _ 33 rfl w.heap.size 55 i0 _ 6 96 Tryz.underlying33 hi hz0 hz1 hz2 rfl (by decide) _ _ _ rfl hown ⟨_, 0, none⟩ 1 1 (cellsP (flatP p)) rfl rfl ?c1 ?c2 ?c3 ?c4 ?c5 ?_)
      case c1 =>
        intro j u hj
        rw [add_at, Nat.zero_add]
        exact cells_at (by simpa using hnew) (by simpa [cellsP, flatP, Pt.kind, Pt.quoted, Pt.text, Pt.op] using hj)
      case c2 => intro u hu; simp [cellsP] at hu; rcases hu with rfl | rfl | rfl | rfl | rfl <;> rfl
      case c3 => unfold maxLen; omega
      case c4 => omega
      case c5 => simp; omega
      intro v' w2 hown' hgrow _
      have HB2 := Lib.hid (HB1.out.grown hgrow (by simp; omega) (fun j hj => (World.ownsRow.lt HO.out j hj).1))
      have HRl : Hid (Rel20 l w v' (.int .i64 ((k : Int) + 1)) w2) := Lib.hid ⟨k + 1, hlt', by go_num, by rw [HT.out, rowP_snoc]; exact hown', HB2.out⟩
      clear hown' hgrow hown hnew c0 c1 c2 c3 c4 c5
      go_wp2
      go_round
      case rel => exact HRl.out
      case measure => simp [intOf]; omega
    · have hkq : q = k := by omega
      subst hkq
      have h1 := HO.out
      rw [List.take_of_length_le (by rw [List.length_map, Hq.out]; exact Nat.le_refl _)] at h1
      have HW := Lib.hid (row_atn (by rw [List.length_map, Hq.out]) h1 (by rw [List.length_map, Hq.out]; exact hlen) (fun p hp => by
        obtain ⟨p0, hp0, rfl⟩ := List.mem_map.1 hp
        obtain ⟨i, hi, rfl⟩ := List.getElem_of_mem hp0
        obtain ⟨m, b1, off, c', wa, wc, ba, bc, _, _, _, hfit, _⟩ := wd_at2 HL.out i hi
        exact ⟨⟨hfit.k, hfit.t, Nat.zero_le _⟩, rfl, rfl⟩))
      clear h1
      go_wp2
      go_ret
      exact ⟨_, rfl, HW.out, HB.out⟩
end Go.Proofs.YtfaohicadahcjaaGreatDoor
