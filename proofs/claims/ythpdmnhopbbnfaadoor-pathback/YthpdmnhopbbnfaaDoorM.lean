/- Plain facts on the paths above a plain path. No condition. -/
import Derived.Test.YthpdmnhopbbnfaaDoorL
namespace Go.Proofs.YthpdmnhopbbnfaaDoor
open Go.RowKit Go.PlainAid

/-- The slashes' places among the last n bytes. -/
def posF (s : ByteArray) : Nat → List Nat
  | 0 => []
  | n + 1 => if (bt s (s.size - (n + 1)) == 47) = true then (s.size - (n + 1)) :: posF s n else posF s n
theorem abv_pos (s : ByteArray) : ∀ n, abvF s n = (posF s n).map fun i => s.extract 0 i
  | 0 => rfl
  | n + 1 => by
    rw [abvF, posF]
    split
    · rw [List.map_cons, abv_pos s n]
    · exact abv_pos s n
theorem pos_mem (s : ByteArray) : ∀ n, n ≤ s.size → ∀ i, i ∈ posF s n ↔ s.size - n ≤ i ∧ i < s.size ∧ bt s i = 47
  | 0, _, i => by simp [posF]; omega
  | n + 1, h, i => by
    have ih := pos_mem s n (by omega) i
    rw [posF]
    by_cases hc : (bt s (s.size - (n + 1)) == 47) = true
    · rw [if_pos hc, List.mem_cons, ih]
      have hc' : bt s (s.size - (n + 1)) = 47 := by simpa using hc
      constructor
      · rintro (rfl | ⟨h1, h2, h3⟩)
        · exact ⟨Nat.le_refl _, by omega, hc'⟩
        · exact ⟨by omega, h2, h3⟩
      · rintro ⟨h1, h2, h3⟩
        by_cases e : i = s.size - (n + 1)
        · exact .inl e
        · exact .inr ⟨by omega, h2, h3⟩
    · rw [if_neg hc, ih]
      have hc' : bt s (s.size - (n + 1)) ≠ 47 := by simpa using hc
      constructor
      · rintro ⟨h1, h2, h3⟩; exact ⟨by omega, h2, h3⟩
      · rintro ⟨h1, h2, h3⟩
        refine ⟨?_, h2, h3⟩
        by_cases e : i = s.size - (n + 1)
        · subst e; exact absurd h3 hc'
        · omega
theorem pos_sorted (s : ByteArray) : ∀ n, n ≤ s.size → (posF s n).Pairwise (· < ·)
  | 0, _ => .nil
  | n + 1, h => by
    rw [posF]
    split
    · refine List.Pairwise.cons (fun i hi => ?_) (pos_sorted s n (by omega))
      have := (pos_mem s n (by omega) i).1 hi
      omega
    · exact pos_sorted s n (by omega)
theorem pcs_count (s : ByteArray) : ∀ n b, (pcsF s n b).length = (abvF s n).length + 1
  | 0, b => rfl
  | n + 1, b => by
    rw [pcsF, abvF]
    split
    · rw [List.length_cons, List.length_cons, pcs_count s n]
    · exact pcs_count s n b

theorem ext_ext2 (s : ByteArray) (i b k : Nat) (h : k ≤ i) : (s.extract 0 i).extract b k = s.extract b k := by
  refine ba_ext (by simp only [ext_size]; omega) fun m hm => ?_
  simp only [ext_size] at hm
  rw [ext_bt _ _ _ _ (by rw [ext_size]; omega), ext_bt _ _ _ _ (by omega), ext_bt _ _ _ _ (by omega), Nat.zero_add]

/-- The pieces ahead of a slash are what stands ahead of it's. -/
theorem pcs_prefix (s : ByteArray) (i : Nat) (hi : i < s.size) (h47 : bt s i = 47) : ∀ n k b, n = i - k → k ≤ i → b ≤ k →
    pcsF s (s.size - k) b = pcsF (s.extract 0 i) n b ++ pcsF s (s.size - (i + 1)) (i + 1) := by
  have hz : (s.extract 0 i).size = i := by rw [ext_size]; omega
  intro n
  induction n with
  | zero =>
    intro k b hn hk hb
    obtain rfl : k = i := by omega
    rw [pcsF_hit s k b hi (by simpa using h47), pcsF, hz, ext_ext2 _ _ _ _ (Nat.le_refl _)]; rfl
  | succ n ih =>
    intro k b hn hk hb
    have hbt : bt (s.extract 0 i) k = bt s k := by rw [ext_bt _ _ _ _ (by omega), Nat.zero_add]
    rw [pcsF, hz, show i - (n + 1) = k by omega, show i - n = k + 1 by omega, hbt]
    cases hc : (bt s k == 47)
    · rw [pcsF_miss s k b (by omega) hc, if_neg (by decide)]
      exact ih (k + 1) b (by omega) (by omega) (by omega)
    · rw [pcsF_hit s k b (by omega) hc, if_pos rfl, List.cons_append, ext_ext2 _ _ _ _ hk, ← ih (k + 1) (k + 1) (by omega) (by omega) (Nat.le_refl _)]

theorem pcs_before (s : ByteArray) (i : Nat) (hi : i < s.size) (h47 : bt s i = 47) : ∃ r, pcs s = pcs (s.extract 0 i) ++ r := by
  have hz : (s.extract 0 i).size = i := by rw [ext_size]; omega
  have := pcs_prefix s i hi h47 i 0 0 (by omega) (Nat.zero_le _) (Nat.le_refl _)
  refine ⟨pcsF s (s.size - (i + 1)) (i + 1), ?_⟩
  unfold pcs
  rw [hz]
  exact this

theorem plain_above {s : ByteArray} (h : plainB s = true) (i : Nat) (hi : i < s.size) (h47 : bt s i = 47) : plainB (s.extract 0 i) = true := by
  have hz : (s.extract 0 i).size = i := by rw [ext_size]; omega
  obtain ⟨h1, h2⟩ := plain_parts h
  obtain ⟨_, h4⟩ := plain_pos h
  obtain ⟨h5, _, _⟩ := h4 i hi h47
  obtain ⟨r, hr⟩ := pcs_before s i hi h47
  unfold rightB at h1
  simp only [Bool.and_eq_true, decide_eq_true_eq, Bool.not_eq_true'] at h1
  have hn := of_decide_eq_false h1.2
  unfold plainB rightB
  rw [hz, decide_eq_true (by omega), Bool.and_eq_true, List.all_eq_true]
  refine ⟨?_, fun x hx => h2 x (by rw [hr]; simp [hx])⟩
  have : hasB (s.extract 0 i) 0 = false := by
    refine decide_eq_false ?_
    rintro ⟨k, hk, e⟩
    rw [hz] at hk
    rw [ext_bt _ _ _ _ (by omega), Nat.zero_add] at e
    exact hn ⟨k, by omega, e⟩
  rw [this]; rfl

theorem dot_pcs : pcs ⟨#[46]⟩ = [⟨#[46]⟩] := by decide +kernel
theorem dot_name : nameB ⟨#[46]⟩ = false := by
  unfold nameB
  rw [show ((ByteArray.toList ⟨#[46]⟩) == [46]) = true by rw [ByteArray.toList_eq]; rfl]
  simp

/-- A plain path without a slash. -/
theorem back_alone {s : ByteArray} (h : lastN s s.size < 0) : dirS s = ⟨#[46]⟩ ∧ baseS s = s ∧ abvL s = [] := by
  have hm := lastN_miss s s.size h
  have hl : lastN s s.size = -1 := by have := lastN_lt s s.size; omega
  have hb : bareS s = s := by
    by_cases h0 : s.size = 0
    · have e := empty_is h0
      subst e
      exact bareS_self _ (by decide +kernel)
    · exact bareS_self s (hm _ (by omega))
  refine ⟨by unfold dirS; rw [hb, if_pos h], ?_, ?_⟩
  · unfold baseS
    rw [hb]
    split
    · rfl
    · rw [hl]; exact ext_all s
  · unfold abvL
    rw [abv_pos]
    have : posF s s.size = [] := by
      apply List.eq_nil_iff_forall_not_mem.2
      intro i hi
      obtain ⟨_, h1, h2⟩ := (pos_mem s s.size (Nat.le_refl _) i).1 hi
      exact hm i h1 h2
    rw [this]; rfl

/-- What PathBack asks of a plain path with a slash. -/
structure Back (s : ByteArray) (l : List ByteArray) (d b : ByteArray) : Prop where
  dot : (d.toList == [46]) = false
  join : joinS d b = s
  len : l.length + 1 = (partsL s).length
  ne : l ≠ []
  last : l[l.length - 1]? = some d
  under : ∀ (j : Nat) (x : ByteArray), l[j]? = some x → underB s x = true ∧ plainB x = true ∧ x.size ≤ s.size
  chain : ∀ (j : Nat) (x y : ByteArray), l[j + 1]? = some x → l[j]? = some y → underB x y = true

theorem back_slash {s : ByteArray} (h : plainB s = true) (hl : ¬ lastN s s.size < 0) : Back s (abvL s) (dirS s) (baseS s) := by
  obtain ⟨p, hp⟩ : ∃ p : Nat, lastN s s.size = p := ⟨(lastN s s.size).toNat, by omega⟩
  obtain ⟨h1, h2, h3⟩ := lastN_hit s s.size p hp
  obtain ⟨hs0, hpos⟩ := plain_pos h
  obtain ⟨q1, q2, q3⟩ := hpos p h1 h2
  obtain ⟨hb, hd⟩ := split_at s p q1 q3 h2 q2 h3
  have hz : (s.extract 0 p).size = p := by rw [ext_size]; omega
  have hpl := plain_above h p h1 h2
  have habv : abvL s = (posF s s.size).map fun i => s.extract 0 i := abv_pos s s.size
  have hget : ∀ (j : Nat) (x : ByteArray), (abvL s)[j]? = some x → ∃ i, (posF s s.size)[j]? = some i ∧ x = s.extract 0 i ∧ i < s.size ∧ bt s i = 47 := by
    intro j x hx
    rw [habv, List.getElem?_map, Option.map_eq_some_iff] at hx
    obtain ⟨i, hi, e⟩ := hx
    obtain ⟨_, h5, h6⟩ := (pos_mem s s.size (Nat.le_refl _) i).1 (List.mem_of_getElem? hi)
    exact ⟨i, hi, e.symm, h5, h6⟩
  have hpm : p ∈ posF s s.size := (pos_mem s s.size (Nat.le_refl _) p).2 ⟨by omega, h1, h2⟩
  have hne : posF s s.size ≠ [] := List.ne_nil_of_mem hpm
  have hlen : (abvL s).length = (posF s s.size).length := by rw [habv, List.length_map]
  have hsort := List.pairwise_iff_getElem.1 (pos_sorted s s.size (Nat.le_refl _))
  have hl0 : 0 < (posF s s.size).length := List.length_pos_iff.2 hne
  refine ⟨?_, ?_, ?_, ?_, ?_, ?_, ?_⟩
  · rw [hd]
    rw [show ((s.extract 0 p).toList == [46]) = decide (s.extract 0 p = ⟨#[46]⟩) by rw [← beq_list]; congr 1; rw [ByteArray.toList_eq]]
    refine decide_eq_false fun e => ?_
    obtain ⟨r, hr⟩ := pcs_before s p h1 h2
    rw [e, dot_pcs] at hr
    have := (plain_parts h).2 ⟨#[46]⟩ (by rw [hr]; simp)
    rw [dot_name] at this
    cases this
  · rw [hd, hb, join_plain hpl]
    have e1 : ByteArray.size ⟨#[47]⟩ = 1 := rfl
    have ez : (s.extract (p + 1) s.size).size = s.size - (p + 1) := by rw [ext_size]; omega
    refine ba_ext (by rw [app_size, app_size, hz, ez, e1]; omega) fun k hk => ?_
    rw [app_size, app_size, hz, ez, e1] at hk
    by_cases k1 : k < p
    · rw [app_bt_l _ _ _ (by rw [app_size]; omega), app_bt_l _ _ _ (by omega), ext_bt _ _ _ _ (by omega), Nat.zero_add]
    · by_cases k2 : k = p
      · subst k2
        rw [app_bt_l _ _ _ (by rw [app_size]; omega), app_bt_r _ _ _ (by omega), hz, Nat.sub_self, h2]; rfl
      · rw [app_bt_r _ _ _ (by rw [app_size]; omega), app_size, hz, e1, ext_bt _ _ _ _ (by omega)]
        congr 1; omega
  · have hf : partsL s = pcs s := List.filter_eq_self.2 fun x hx => decide_eq_true (name_pos ((plain_parts h).2 x hx)).1
    rw [hf]
    unfold pcs abvL
    rw [pcs_count]
  · intro e
    rw [e] at hlen
    simp at hlen
    omega
  · rw [hlen, habv, List.getElem?_map, hd]
    have hq : (posF s s.size)[(posF s s.size).length - 1]? = some p := by
      obtain ⟨j, hj, hjp⟩ := List.getElem_of_mem hpm
      have hlast : (posF s s.size).length - 1 < (posF s s.size).length := by omega
      by_cases e : j = (posF s s.size).length - 1
      · subst e; rw [List.getElem?_eq_getElem hlast, hjp]
      · have hlt := hsort j ((posF s s.size).length - 1) hj hlast (by omega)
        obtain ⟨_, h5, h6⟩ := (pos_mem s s.size (Nat.le_refl _) _).1 (List.getElem_mem hlast)
        rw [hjp] at hlt
        exact absurd h6 (h3 _ hlt h5)
    rw [hq]; rfl
  · intro j x hx
    obtain ⟨i, _, rfl, h5, h6⟩ := hget j x hx
    exact ⟨under_at s i h5 h6, plain_above h i h5 h6, by rw [ext_size]; omega⟩
  · intro j x y hx hy
    obtain ⟨i, hi, rfl, h5, h6⟩ := hget (j + 1) x hx
    obtain ⟨k, hk, rfl, h7, h8⟩ := hget j y hy
    obtain ⟨g1, e1⟩ := List.getElem?_eq_some_iff.1 hi
    obtain ⟨g2, e2⟩ := List.getElem?_eq_some_iff.1 hk
    have hlt := hsort j (j + 1) g2 g1 (by omega)
    rw [e1, e2] at hlt
    have := under_at (s.extract 0 i) k (by rw [ext_size]; omega) (by rw [ext_bt _ _ _ _ (by omega), Nat.zero_add]; exact h8)
    rw [ext_ext _ _ _ (by omega)] at this
    exact this
end Go.Proofs.YthpdmnhopbbnfaaDoor
