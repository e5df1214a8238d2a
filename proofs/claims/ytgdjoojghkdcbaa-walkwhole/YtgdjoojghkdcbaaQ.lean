/- Plain facts on entries. No condition. -/
import Derived.Test.YtgdjoojghkdcbaaUd
namespace Go.Proofs.Ytgdjoojghkdcbaa
open Go.RowKit Go.PlainAid

theorem nameB_le {s : ByteArray} (h : nameB s = true) : s.size ≤ 255 := by
  unfold nameB at h
  simp only [Bool.and_eq_true, decide_eq_true_eq] at h
  exact h.1.1.1.1.2
theorem putE_zero {s : ByteArray} {l : List En} (h : putE s l = 0) : nameB s = true ∧ hasN s l = false := by
  unfold putE at h
  split at h
  · simp at h
  · split at h
    · simp at h
    · split at h
      · simp at h
      · rename_i h2 h3
        exact ⟨by simpa using h2, by simpa using h3⟩
theorem mem_drop_ge {l : List En} {k : Nat} {x : En} (h : x ∈ l.drop k) : ∃ j, k ≤ j ∧ l[j]? = some x := by
  obtain ⟨i, hi, e⟩ := List.getElem_of_mem h
  rw [List.getElem_drop] at e
  rw [List.length_drop] at hi
  exact ⟨k + i, by omega, by rw [List.getElem?_eq_getElem (by omega), e]⟩
theorem mem_take_lt {l : List En} {k : Nat} {x : En} (h : x ∈ l.take k) : ∃ j, j < k ∧ l[j]? = some x := by
  obtain ⟨i, hi, e⟩ := List.getElem_of_mem h
  rw [List.getElem_take] at e
  rw [List.length_take] at hi
  exact ⟨i, by omega, by rw [List.getElem?_eq_getElem (by omega), e]⟩
theorem rising_put {s : ByteArray} {n : Int} {l : List En} (hr : Rising l) : Rising (putL s n l) := by
  unfold putL
  split
  · rename_i h
    obtain ⟨_, hno⟩ := putE_zero h
    have hp : Rising (l.take (pos s l)) := List.Pairwise.sublist (List.take_sublist _ _) hr
    have hq : Rising (l.drop (pos s l)) := List.Pairwise.sublist (List.drop_sublist _ _) hr
    have hap : Rising (l.take (pos s l) ++ l.drop (pos s l)) := by rw [List.take_append_drop]; exact hr
    have hcross := (List.pairwise_append.1 hap).2.2
    refine List.pairwise_append.2 ⟨hp, List.pairwise_cons.2 ⟨?_, hq⟩, ?_⟩
    · intro x hx
      obtain ⟨j, hj, hx2⟩ := mem_drop_ge hx
      have h1 := pos_lt s l hr j x hx2
      rw [decide_eq_false (by omega)] at h1
      cases e : bl s x.1
      · exact absurd (bl_total h1 e) (hasN_false hr hno x (List.mem_of_getElem? hx2))
      · rfl
    · intro a ha b hb
      rcases List.mem_cons.1 hb with rfl | hb
      · obtain ⟨j, hj, hx2⟩ := mem_take_lt ha
        have h1 := pos_lt s l hr j a hx2
        rw [decide_eq_true hj] at h1
        exact h1
      · exact hcross a ha b hb
  · exact hr
theorem put_len (s : ByteArray) (n : Int) (l : List En) : (putL s n l).length ≤ l.length + 1 := by
  unfold putL
  split
  · simp only [List.length_append, List.length_take, List.length_cons, List.length_drop]; omega
  · omega
theorem put_names {s : ByteArray} {n : Int} {l : List En} (h : ∀ x ∈ l, nameB x.1 = true) : ∀ x ∈ putL s n l, nameB x.1 = true := by
  unfold putL
  split
  · rename_i h0
    intro x hx
    rcases List.mem_append.1 hx with hx | hx
    · exact h x (List.mem_of_mem_take hx)
    · rcases List.mem_cons.1 hx with rfl | hx
      · exact (putE_zero h0).1
      · exact h x (List.mem_of_mem_drop hx)
  · exact h
theorem rising_drop {s : ByteArray} {l : List En} (hr : Rising l) : Rising (dropL s l) := by
  unfold dropL
  split
  · refine List.Pairwise.sublist ?_ hr
    have : (l.take (pos s l) ++ l.drop (pos s l + 1)).Sublist (l.take (pos s l) ++ l.drop (pos s l)) := by
      refine List.Sublist.append (List.Sublist.refl _) ?_
      rw [← List.drop_drop]
      exact List.drop_sublist _ _
    rwa [List.take_append_drop] at this
  · exact hr
theorem drop_len (s : ByteArray) (l : List En) : (dropL s l).length ≤ l.length + 1 := by
  unfold dropL
  split
  · simp only [List.length_append, List.length_take, List.length_drop]; omega
  · omega
theorem drop_names {s : ByteArray} {l : List En} (h : ∀ x ∈ l, nameB x.1 = true) : ∀ x ∈ dropL s l, nameB x.1 = true := by
  unfold dropL
  split
  · intro x hx
    rcases List.mem_append.1 hx with hx | hx
    · exact h x (List.mem_of_mem_take hx)
    · exact h x (List.mem_of_mem_drop hx)
  · exact h
theorem set_fst {s : ByteArray} {n : Int} {l : List En} : (setL s n l).map (·.1) = l.map (·.1) := by
  unfold setL
  split
  · rename_i h
    obtain ⟨m, hm⟩ := hasN_some h
    obtain ⟨hk, he⟩ := List.getElem?_eq_some_iff.1 hm
    rw [List.map_set]
    refine List.ext_getElem (by simp) fun i h1 h2 => ?_
    rw [List.getElem_set]
    split
    · rename_i e; subst e; simp [he]
    · rfl
  · rfl
theorem rising_map (l : List En) : Rising l ↔ (l.map (·.1)).Pairwise fun a b => bl a b = true := by unfold Rising; rw [List.pairwise_map]
theorem rising_set {s : ByteArray} {n : Int} {l : List En} (hr : Rising l) : Rising (setL s n l) := by
  rw [rising_map] at hr ⊢; rw [set_fst]; exact hr
theorem set_len (s : ByteArray) (n : Int) (l : List En) : (setL s n l).length ≤ l.length + 1 := by
  have := congrArg List.length (set_fst (s := s) (n := n) (l := l))
  simp at this; omega
theorem set_names {s : ByteArray} {n : Int} {l : List En} (h : ∀ x ∈ l, nameB x.1 = true) : ∀ x ∈ setL s n l, nameB x.1 = true := by
  intro x hx
  have h1 : x.1 ∈ (setL s n l).map (·.1) := List.mem_map.2 ⟨x, hx, rfl⟩
  rw [set_fst] at h1
  obtain ⟨y, hy, e⟩ := List.mem_map.1 h1
  rw [← e]; exact h y hy

theorem pos_app (s : ByteArray) (y : En) (C : List En) (hy : bl y.1 s = false) : ∀ A : List En, (∀ x ∈ A, bl x.1 s = true) → pos s (A ++ y :: C) = A.length
  | [], _ => by simp [pos, hy]
  | x :: A, h => by
    have := pos_app s y C hy A (fun z hz => h z (by simp [hz]))
    simp [pos, h x (by simp), this]
theorem put_back {s : ByteArray} {n : Int} {l : List En} (hr : Rising l) (h0 : putE s l = 0) : hasN s (putL s n l) = true ∧ getN s (putL s n l) = n ∧ dropL s (putL s n l) = l := by
  have hA : ∀ x ∈ l.take (pos s l), bl x.1 s = true := by
    intro x hx
    obtain ⟨j, hj, hx2⟩ := mem_take_lt hx
    rw [pos_lt s l hr j x hx2]; exact decide_eq_true hj
  have hl : (l.take (pos s l)).length = pos s l := by rw [List.length_take, Nat.min_eq_left (pos_le s l)]
  have e : putL s n l = l.take (pos s l) ++ (s, n) :: l.drop (pos s l) := by unfold putL; rw [h0]; rfl
  have hp : pos s (putL s n l) = pos s l := by rw [e, pos_app s (s, n) _ (bl_irrefl s) _ hA, hl]
  have hg : (putL s n l)[pos s (putL s n l)]? = some (s, n) := by
    rw [hp, e, List.getElem?_append_right (by omega), hl, Nat.sub_self]; rfl
  have hh : hasN s (putL s n l) = true := by unfold hasN; rw [hg]; simp
  refine ⟨hh, ?_, ?_⟩
  · unfold getN; rw [if_pos hh, hg]; rfl
  · unfold dropL
    rw [if_pos hh, hp, e, List.take_left' hl, List.drop_append, List.drop_of_length_le (by omega), hl, show pos s l + 1 - pos s l = 1 by omega]
    simp
theorem put_same {s : ByteArray} {n : Int} {l : List En} (h : putE s l ≠ 0) : putL s n l = l := by unfold putL; rw [if_neg h]
end Go.Proofs.Ytgdjoojghkdcbaa
