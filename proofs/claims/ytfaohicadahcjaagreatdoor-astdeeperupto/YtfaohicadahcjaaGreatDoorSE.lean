/- Slices of structures that came in, opened, with how much they hold. No condition. -/
import Derived.Test.YtfaohicadahcjaaGreatDoorSD
import Derived.Test.YtfaohicadahcjaaGreatDoorHeft
import Derived.Deep.Slices
import Derived.Deep.Strs
import Derived.OpenShut
namespace Go.Proofs.YtfaohicadahcjaaGreatDoor
open Go.RowKit Go.PlainAid Go.ChangeShapes Go.WideShapes Go.ChangeAt
set_option linter.unusedSimpArgs false
set_option linter.unusedVariables false
open heft
section
variable {H : Type} {enc : TypeId × Value → H} {w : World} {base : Nat}
theorem sum_le {α : Type} (sz : α → Nat) (D : Nat → DataW H) : ∀ (n : Nat) (l : List α), l.length = n → (∀ (i : Nat) (x : α), l[i]? = some x → sz x ≤ Rows.uptoBulk (D i)) → (l.map sz).sum ≤ Rows.uptoBulkAll ((List.range n).map D)
  | 0, l, hl, h => by rw [List.eq_nil_of_length_eq_zero hl]; simp
  | n + 1, l, hl, h => by
    obtain ⟨l', x, rfl⟩ : ∃ l' x, l = l' ++ [x] := ⟨l.dropLast, l.getLast (by intro e; rw [e] at hl; simp at hl), (List.dropLast_concat_getLast _).symm⟩
    have hl' : l'.length = n := by simpa using hl
    have h1 := sum_le sz D n l' hl' (fun i y hi => h i y (by rw [List.getElem?_append_left (by rw [hl']; exact hl' ▸ (List.getElem?_eq_some_iff.1 hi).1)]; exact hi))
    have h2 := h n x (by rw [← hl']; simp)
    simp only [List.range_succ, List.map_append, heft.two, List.sum_append, List.map_cons, List.map_nil, List.sum_cons, List.sum_nil, Rows.uptoBulkAll]
    omega
theorem choose_list {α : Type} {Q : Nat → α → Prop} : ∀ n : Nat, (∀ i, i < n → ∃ o, Q i o) → ∃ os : List α, os.length = n ∧ ∀ (i : Nat) (o : α), os[i]? = some o → Q i o
  | 0, _ => ⟨[], rfl, fun i o h => by simp at h⟩
  | n + 1, h => by
    obtain ⟨os, h1, h2⟩ := choose_list n (fun i hi => h i (by omega))
    obtain ⟨o, ho⟩ := h n (by omega)
    refine ⟨os ++ [o], by simp [h1], fun i o' hi => ?_⟩
    by_cases e : i < n
    · rw [List.getElem?_append_left (by omega)] at hi
      exact h2 i o' hi
    · have : i < (os ++ [o]).length := (List.getElem?_eq_some_iff.1 hi).1
      simp [h1] at this
      obtain rfl : i = n := by omega
      rw [List.getElem?_append_right (by omega), h1, Nat.sub_self] at hi
      simp at hi
      subst hi
      exact ho
theorem open_seg {α : Type} {t e : TypeId} {k : Nat} (ht : Tryz.prog.underlying t = some (.slice e)) (hk : Tryz.prog.cellsOf e = k) (hk0 : 0 < k) {C : World → List Value → α → Prop} (sz : α → Nat) {m : Nat} (hm : m ≤ 1048576)
    (hel : ∀ (fuel : Nat) (cs : List Value) (d : DataW H) (p : List MemPlace), DataW.trod enc Tryz.prog w 0 (fun _ => true) true fuel e cs = some (d, p) → Rows.uptoBulk d ≤ m → cs.length = k → ∃ y, C w cs y ∧ sz y ≤ Rows.uptoBulk d)
    {fuel : Nat} {v : Value} {d : DataW H} {p : List MemPlace} (h : DataW.trod enc Tryz.prog w 0 (fun _ => true) true fuel t [v] = some (d, p)) (hb : Rows.uptoBulk d ≤ m + 1) : ∃ l, Seg k C w v l ∧ (l.map sz).sum < Rows.uptoBulk d := by
  rcases Deep.open_slice ht h with ⟨hcs, hd⟩ | ⟨x, len, cap, q, n, D, Pl, hcs, _, hl, hcap, hq, hd, hx⟩
  · simp at hcs
    subst hcs
    exact ⟨[], Seg.nil, by simpa using heft.pos _⟩
  · simp at hcs
    subst hcs
    cases hd
    have hbe := (shown ((List.range len).map D) ((List.range (q - len)).map fun j => D (len + j))).1
    have hln := (shown ((List.range len).map D) ((List.range (q - len)).map fun j => D (len + j))).2
    simp only [List.length_map, List.length_range] at hln
    have hlq : len ≤ q := by rw [hq]; split <;> omega
    by_cases h0 : len = 0
    · subst h0
      exact ⟨[], Seg.nil, by simpa using heft.pos _⟩
    rw [hk] at hx
    have each : ∀ i, i < len → ∃ y : α, (∃ cs : List Value, cs.length = k ∧ (∀ (j : Nat) u, cs[j]? = some u → w.cell? (x.add (i * k + j)) = some u) ∧ C w cs y) ∧ sz y ≤ Rows.uptoBulk (D i) := by
      intro i hi
      obtain ⟨cs, h1, h2⟩ := hx i (by omega)
      obtain ⟨_, hlen, hcell⟩ := World.cells?_some h1
      have hDi : Rows.uptoBulk (D i) ≤ Rows.uptoBulkAll ((List.range len).map D) := of_mem (List.mem_map.2 ⟨i, List.mem_range.2 hi, rfl⟩)
      obtain ⟨y, hy, hs⟩ := hel n cs (D i) (Pl i) h2 (by omega) hlen
      refine ⟨y, ⟨cs, hlen, fun j u hj => ?_, hy⟩, hs⟩
      have hjl := (List.getElem?_eq_some_iff.1 hj).1
      have e0 := hcell j (by omega)
      rw [Deep.add_add] at e0
      rw [e0]
      simpa using hj
    obtain ⟨l, hll, hlp⟩ := choose_list len each
    obtain ⟨b, off, spot⟩ := x
    have hspot : spot = none := by
      obtain ⟨y, ⟨cs, hlen, hc, _⟩, _⟩ := each 0 (by omega)
      have := hc 0 (cs[0]'(by omega)) (by rw [List.getElem?_eq_getElem])
      simpa [Addr.add] using World.cell?_spot this
    subst hspot
    refine ⟨l, ⟨by rw [hll]; omega, .inr ⟨b, off, cap, by rw [hll], by omega, fun i y hi => ?_⟩⟩, ?_⟩
    · obtain ⟨⟨cs, _, hc, hy⟩, _⟩ := hlp i y hi
      exact ⟨cs, fun j u hj => by have := hc j u hj; rw [add_at, ← Nat.add_assoc] at this; exact this, hy⟩
    · have := sum_le sz D len l hll (fun i y hi => (hlp i y hi).2)
      omega
end
end Go.Proofs.YtfaohicadahcjaaGreatDoor
