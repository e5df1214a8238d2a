/- The entries stay by rising names, whatever is put, set and dropped; the contract of one call of both. Conditions: at most 999 entries; texts have at most 500 bytes. -/
import Derived.Test.YtpkffkdojgpmhaaM
namespace Go.Proofs.Ytpkffkdojgpmhaa
open Go.RowKit Go.PlainAid
set_option linter.unusedSimpArgs false

theorem nameB_le {s : ByteArray} (h : nameB s = true) : s.size ≤ 255 := by
  unfold nameB at h
  simp only [Bool.and_eq_true, decide_eq_true_eq] at h
  exact h.1.1.1.1.2
theorem putE_zero {s : ByteArray} {l : List En} (h : putE s l = 0) : nameB s = true ∧ hasN s l = false := by
  unfold putE at h
  split at h
  · simp at h
  · split at h
    · simp at h
    · split at h
      · simp at h
      · rename_i h2 h3
        exact ⟨by simpa using h2, by simpa using h3⟩
theorem mem_drop_ge {l : List En} {k : Nat} {x : En} (h : x ∈ l.drop k) : ∃ j, k ≤ j ∧ l[j]? = some x := by
  obtain ⟨i, hi, e⟩ := List.getElem_of_mem h
  rw [List.getElem_drop] at e
  rw [List.length_drop] at hi
  exact ⟨k + i, by omega, by rw [List.getElem?_eq_getElem (by omega), e]⟩
theorem mem_take_lt {l : List En} {k : Nat} {x : En} (h : x ∈ l.take k) : ∃ j, j < k ∧ l[j]? = some x := by
  obtain ⟨i, hi, e⟩ := List.getElem_of_mem h
  rw [List.getElem_take] at e
  rw [List.length_take] at hi
  exact ⟨i, by omega, by rw [List.getElem?_eq_getElem (by omega), e]⟩
theorem rising_put {s : ByteArray} {n : Int} {l : List En} (hr : Rising l) : Rising (putL s n l) := by
  unfold putL
  split
  · rename_i h
    obtain ⟨_, hno⟩ := putE_zero h
    have hp : Rising (l.take (pos s l)) := List.Pairwise.sublist (List.take_sublist _ _) hr
    have hq : Rising (l.drop (pos s l)) := List.Pairwise.sublist (List.drop_sublist _ _) hr
    have hap : Rising (l.take (pos s l) ++ l.drop (pos s l)) := by rw [List.take_append_drop]; exact hr
    have hcross := (List.pairwise_append.1 hap).2.2
    refine List.pairwise_append.2 ⟨hp, List.pairwise_cons.2 ⟨?_, hq⟩, ?_⟩
    · intro x hx
      obtain ⟨j, hj, hx2⟩ := mem_drop_ge hx
      have h1 := pos_lt s l hr j x hx2
      rw [decide_eq_false (by omega)] at h1
      cases e : bl s x.1
      · exact absurd (bl_total h1 e) (hasN_false hr hno x (List.mem_of_getElem? hx2))
      · rfl
    · intro a ha b hb
      rcases List.mem_cons.1 hb with rfl | hb
      · obtain ⟨j, hj, hx2⟩ := mem_take_lt ha
        have h1 := pos_lt s l hr j a hx2
        rw [decide_eq_true hj] at h1
        exact h1
      · exact hcross a ha b hb
  · exact hr
theorem put_len (s : ByteArray) (n : Int) (l : List En) : (putL s n l).length ≤ l.length + 1 := by
  unfold putL
  split
  · simp only [List.length_append, List.length_take, List.length_cons, List.length_drop]; omega
  · omega
theorem put_names {s : ByteArray} {n : Int} {l : List En} (h : ∀ x ∈ l, nameB x.1 = true) : ∀ x ∈ putL s n l, nameB x.1 = true := by
  unfold putL
  split
  · rename_i h0
    intro x hx
    rcases List.mem_append.1 hx with hx | hx
    · exact h x (List.mem_of_mem_take hx)
    · rcases List.mem_cons.1 hx with rfl | hx
      · exact (putE_zero h0).1
      · exact h x (List.mem_of_mem_drop hx)
  · exact h
theorem rising_drop {s : ByteArray} {l : List En} (hr : Rising l) : Rising (dropL s l) := by
  unfold dropL
  split
  · refine List.Pairwise.sublist ?_ hr
    have : (l.take (pos s l) ++ l.drop (pos s l + 1)).Sublist (l.take (pos s l) ++ l.drop (pos s l)) := by
      refine List.Sublist.append (List.Sublist.refl _) ?_
      rw [← List.drop_drop]
      exact List.drop_sublist _ _
    rwa [List.take_append_drop] at this
  · exact hr
theorem drop_len (s : ByteArray) (l : List En) : (dropL s l).length ≤ l.length + 1 := by
  unfold dropL
  split
  · simp only [List.length_append, List.length_take, List.length_drop]; omega
  · omega
theorem drop_names {s : ByteArray} {l : List En} (h : ∀ x ∈ l, nameB x.1 = true) : ∀ x ∈ dropL s l, nameB x.1 = true := by
  unfold dropL
  split
  · intro x hx
    rcases List.mem_append.1 hx with hx | hx
    · exact h x (List.mem_of_mem_take hx)
    · exact h x (List.mem_of_mem_drop hx)
  · exact h
theorem set_fst {s : ByteArray} {n : Int} {l : List En} : (setL s n l).map (·.1) = l.map (·.1) := by
  unfold setL
  split
  · rename_i h
    obtain ⟨m, hm⟩ := hasN_some h
    obtain ⟨hk, he⟩ := List.getElem?_eq_some_iff.1 hm
    rw [List.map_set]
    refine List.ext_getElem (by simp) fun i h1 h2 => ?_
    rw [List.getElem_set]
    split
    · rename_i e; subst e; simp [he]
    · rfl
  · rfl
theorem rising_map (l : List En) : Rising l ↔ (l.map (·.1)).Pairwise fun a b => bl a b = true := by unfold Rising; rw [List.pairwise_map]
theorem rising_set {s : ByteArray} {n : Int} {l : List En} (hr : Rising l) : Rising (setL s n l) := by
  rw [rising_map] at hr ⊢; rw [set_fst]; exact hr
theorem set_len (s : ByteArray) (n : Int) (l : List En) : (setL s n l).length ≤ l.length + 1 := by
  have := congrArg List.length (set_fst (s := s) (n := n) (l := l))
  simp at this; omega
theorem set_names {s : ByteArray} {n : Int} {l : List En} (h : ∀ x ∈ l, nameB x.1 = true) : ∀ x ∈ setL s n l, nameB x.1 = true := by
  intro x hx
  have h1 : x.1 ∈ (setL s n l).map (·.1) := List.mem_map.2 ⟨x, hx, rfl⟩
  rw [set_fst] at h1
  obtain ⟨y, hy, e⟩ := List.mem_map.1 h1
  rw [← e]; exact h y hy

/-- One call. -/
def stepL (k : Int) (s : ByteArray) (n : Int) (l : List En) : List En := if (k == 1) = true then putL s n l else if (k == 2) = true then setL s n l else if (k == 3) = true then dropL s l else l
/-- What holds of the entries behind k calls. -/
structure Good (l : List En) (k : Nat) : Prop where
  rise : Rising l
  len : l.length ≤ k
  right : ∀ x ∈ l, nameB x.1 = true
theorem Good.names {l : List En} {k : Nat} (h : Good l k) : ∀ x ∈ l, x.1.size ≤ 500 := fun x hx => by have := nameB_le (h.right x hx); omega
theorem good_nil : Good [] 0 := ⟨List.Pairwise.nil, Nat.le_refl _, fun x hx => by simp at hx⟩
theorem Good.put {l : List En} {k : Nat} (h : Good l k) (s : ByteArray) (n : Int) : Good (putL s n l) (k + 1) := ⟨rising_put h.rise, by have := put_len s n l; have := h.len; omega, put_names h.right⟩
theorem Good.set {l : List En} {k : Nat} (h : Good l k) (s : ByteArray) (n : Int) : Good (setL s n l) (k + 1) := ⟨rising_set h.rise, by have := set_len s n l; have := h.len; omega, set_names h.right⟩
theorem Good.drop {l : List En} {k : Nat} (h : Good l k) (s : ByteArray) : Good (dropL s l) (k + 1) := ⟨rising_drop h.rise, by have := drop_len s l; have := h.len; omega, drop_names h.right⟩
theorem Good.step {l : List En} {k : Nat} (h : Good l k) (c : Int) (s : ByteArray) (n : Int) : Good (stepL c s n l) (k + 1) := by
  unfold stepL
  split
  · exact h.put s n
  · split
    · exact h.set s n
    · split
      · exact h.drop s
      · exact ⟨h.rise, by have := h.len; omega, h.right⟩
end Go.Proofs.Ytpkffkdojgpmhaa
