/- Plain facts on paths: what a plain path's slashes are, its last part and what stands ahead of it, the paths above it. No condition. -/
import Derived.Test.YthpdmnhopbbnfaaDoorI
namespace Go.Proofs.YthpdmnhopbbnfaaDoor
open Go.RowKit Go.PlainAid

theorem app_size (a b : ByteArray) : (a ++ b).size = a.size + b.size := ByteArray.size_append
theorem app_bt_l (a b : ByteArray) (k : Nat) (h : k < a.size) : bt (a ++ b) k = bt a k := by
  unfold bt
  rw [dif_pos (by rw [app_size]; omega), dif_pos h, ByteArray.getElem_append_left h]
theorem app_bt_r (a b : ByteArray) (k : Nat) (h : a.size ≤ k) : bt (a ++ b) k = bt b (k - a.size) := by
  unfold bt
  by_cases h2 : k < a.size + b.size
  · rw [dif_pos (by rw [app_size]; exact h2), dif_pos (by omega), ByteArray.getElem_append_right h]
  · rw [dif_neg (by rw [app_size]; exact h2), dif_neg (by omega)]

theorem lastN_none (s : ByteArray) : ∀ n, (∀ k, k < n → bt s k ≠ 47) → lastN s n = -1
  | 0, _ => rfl
  | n + 1, h => by
    rw [lastN, if_neg (by simpa using h n (by omega))]
    exact lastN_none s n fun k hk => h k (by omega)
theorem lastN_is (s : ByteArray) (p : Nat) (h47 : bt s p = 47) : ∀ n, p < n → (∀ k, p < k → k < n → bt s k ≠ 47) → lastN s n = p
  | 0, h, _ => by omega
  | n + 1, h, ha => by
    by_cases e : n = p
    · subst e; rw [lastN, if_pos (by simpa using h47)]
    · rw [lastN, if_neg (by simpa using ha n (by omega) (by omega))]
      exact lastN_is s p h47 n (by omega) fun k h1 h2 => ha k h1 (by omega)
theorem lastN_hit (s : ByteArray) : ∀ n (p : Nat), lastN s n = p → p < n ∧ bt s p = 47 ∧ ∀ k, p < k → k < n → bt s k ≠ 47
  | 0, p, h => by rw [lastN] at h; omega
  | n + 1, p, h => by
    rw [lastN] at h
    split at h
    · have e : n = p := by omega
      subst e
      exact ⟨by omega, by simpa using ‹(bt s n == 47) = true›, fun k h1 h2 => by omega⟩
    · obtain ⟨h1, h2, h3⟩ := lastN_hit s n p h
      refine ⟨by omega, h2, fun k h4 h5 => ?_⟩
      by_cases e : k = n
      · subst e; simpa using ‹¬(bt s k == 47) = true›
      · exact h3 k h4 (by omega)
theorem lastN_miss (s : ByteArray) : ∀ n, lastN s n < 0 → ∀ k, k < n → bt s k ≠ 47
  | 0, _, k, hk => by omega
  | n + 1, h, k, hk => by
    rw [lastN] at h
    split at h
    · omega
    · by_cases e : k = n
      · subst e; simpa using ‹¬(bt s k == 47) = true›
      · exact lastN_miss s n h k (by omega)

theorem bareS_self (s : ByteArray) (h : bt s (s.size - 1) ≠ 47) : bareS s = s := by
  have hz : bareN s s.size = s.size := by
    match hs : s.size with
    | 0 => rfl
    | 1 => rfl
    | n + 2 =>
      rw [bareN, if_neg]
      rw [hs] at h
      simpa using h
  unfold bareS; rw [hz, ext_all]

theorem split_at (s : ByteArray) (p : Nat) (hp0 : 0 < p) (hp : p + 1 < s.size) (h47 : bt s p = 47) (hprev : bt s (p - 1) ≠ 47) (hafter : ∀ k, p < k → k < s.size → bt s k ≠ 47) :
    baseS s = s.extract (p + 1) s.size ∧ dirS s = s.extract 0 p := by
  have hb : bareS s = s := bareS_self s (hafter _ (by omega) (by omega))
  have hl : lastN s s.size = p := lastN_is s p h47 s.size (by omega) hafter
  have hz : (s.extract 0 (p + 1)).size = p + 1 := by rw [ext_size]; omega
  have hd : bareS (s.extract 0 (p + 1)) = s.extract 0 p := by
    unfold bareS
    rw [hz]
    obtain ⟨q, rfl⟩ : ∃ q, p = q + 1 := ⟨p - 1, by omega⟩
    rw [bareN, if_pos (by rw [ext_bt _ _ _ _ (by omega), Nat.zero_add]; simpa using h47)]
    have hq : bareN (s.extract 0 (q + 1 + 1)) (q + 1) = q + 1 := by
      match q with
      | 0 => rfl
      | m + 1 =>
        rw [bareN, if_neg]
        rw [ext_bt _ _ _ _ (by omega), Nat.zero_add]
        simpa using hprev
    rw [hq, ext_ext _ _ _ (by omega)]
  constructor
  · unfold baseS
    rw [hb, hl, if_neg]
    · congr 1
    · intro e
      have := congrArg ByteArray.size e
      have h1 : ByteArray.size ⟨#[47]⟩ = 1 := rfl
      omega
  · unfold dirS
    rw [hb, hl, if_neg (by omega)]
    exact hd

/-- Pieces that aren't empty: no slash is at the beginning, at the end, or behind another. -/
theorem pcs_pos (s : ByteArray) : ∀ n k b, n = s.size - k → k ≤ s.size → b ≤ k → (∀ x ∈ pcsF s n b, 0 < x.size) → (∀ i, b ≤ i → i < k → bt s i ≠ 47) →
    b < s.size ∧ ∀ j, k ≤ j → j < s.size → bt s j = 47 → b < j ∧ bt s (j - 1) ≠ 47 ∧ j + 1 < s.size
  | 0, k, b, hn, hk, hb, hx, hi => by
    have h := hx (s.extract b s.size) (by simp [pcsF])
    rw [ext_size] at h
    exact ⟨by omega, fun j h1 h2 => by omega⟩
  | n + 1, k, b, hn, hk, hb, hx, hi => by
    have e1 : s.size - (n + 1) = k := by omega
    have e2 : s.size - n = k + 1 := by omega
    rw [pcsF, e1, e2] at hx
    by_cases hc : (bt s k == 47) = true
    · rw [if_pos hc] at hx
      have h0 := hx (s.extract b k) (by simp)
      rw [ext_size] at h0
      obtain ⟨h1, h2⟩ := pcs_pos s n (k + 1) (k + 1) (by omega) (by omega) (Nat.le_refl _) (fun x h => hx x (by simp [h])) (fun i h3 h4 => by omega)
      refine ⟨by omega, fun j h3 h4 h5 => ?_⟩
      by_cases e : j = k
      · subst e; exact ⟨by omega, hi (j - 1) (by omega) (by omega), h1⟩
      · obtain ⟨h6, h7, h8⟩ := h2 j (by omega) h4 h5
        exact ⟨by omega, h7, h8⟩
    · rw [if_neg hc] at hx
      obtain ⟨h1, h2⟩ := pcs_pos s n (k + 1) b (by omega) (by omega) (by omega) hx (fun i h3 h4 => by
        by_cases e : i = k
        · subst e; simpa using hc
        · exact hi i h3 (by omega))
      refine ⟨h1, fun j h3 h4 h5 => ?_⟩
      by_cases e : j = k
      · subst e; exact absurd h5 (by simpa using hc)
      · exact h2 j (by omega) h4 h5

theorem name_pos {x : ByteArray} (h : nameB x = true) : 0 < x.size ∧ ∀ k, k < x.size → bt x k ≠ 47 := by
  unfold nameB at h
  simp only [Bool.and_eq_true, decide_eq_true_eq, Bool.not_eq_true'] at h
  obtain ⟨⟨⟨⟨h1, _⟩, h2⟩, _⟩, _⟩ := h
  refine ⟨by omega, fun k hk e => ?_⟩
  have := of_decide_eq_false h2
  exact this ⟨k, hk, e⟩
theorem plain_parts {s : ByteArray} (h : plainB s = true) : rightB s = true ∧ ∀ x ∈ pcs s, nameB x = true := by
  unfold plainB at h
  rw [Bool.and_eq_true, List.all_eq_true] at h
  exact h
theorem plain_pos {s : ByteArray} (h : plainB s = true) : 0 < s.size ∧ (∀ j, j < s.size → bt s j = 47 → 0 < j ∧ bt s (j - 1) ≠ 47 ∧ j + 1 < s.size) := by
  obtain ⟨_, h2⟩ := plain_parts h
  obtain ⟨h3, h4⟩ := pcs_pos s s.size 0 0 (by omega) (by omega) (Nat.le_refl _) (fun x hx => (name_pos (h2 x hx)).1) (fun i _ h => by omega)
  exact ⟨h3, fun j hj => h4 j (by omega) hj⟩
theorem plain_end {s : ByteArray} (h : plainB s = true) : bt s (s.size - 1) ≠ 47 := by
  obtain ⟨h0, h1⟩ := plain_pos h
  intro e
  have := h1 (s.size - 1) (by omega) e
  omega

/-- What is under what. -/
theorem under_at (s : ByteArray) (i : Nat) (hi : i < s.size) (h47 : bt s i = 47) : underB s (s.extract 0 i) = true := by
  have hz : (s.extract 0 i).size = i := by rw [ext_size]; omega
  unfold underB prefB absB
  rw [hz, ext_size, ext_bt _ _ _ _ (by omega), Nat.add_zero, h47, decide_eq_true (by omega), decide_eq_true (by omega)]
  simp

theorem join_plain {a b : ByteArray} (ha : plainB a = true) : joinS a b = a ++ ⟨#[47]⟩ ++ b := by
  have h1 := plain_end ha
  have h0 := (plain_pos ha).1
  unfold joinS
  rw [if_neg (by omega), if_neg (by simpa using h1)]

theorem join_facts {a b : ByteArray} (ha : plainB a = true) (hb : nameB b = true) : underB (joinS a b) a = true ∧ baseS (joinS a b) = b ∧ dirS (joinS a b) = a := by
  rw [join_plain ha]
  obtain ⟨hb0, hb1⟩ := name_pos hb
  have ha1 := plain_end ha
  have ha0 := (plain_pos ha).1
  have h1 : ByteArray.size ⟨#[47]⟩ = 1 := rfl
  have hz : (a ++ ⟨#[47]⟩ ++ b).size = a.size + 1 + b.size := by rw [app_size, app_size, h1]
  have hl : ∀ k, k < a.size → bt (a ++ ⟨#[47]⟩ ++ b) k = bt a k := fun k hk => by rw [app_bt_l _ _ _ (by rw [app_size]; omega), app_bt_l _ _ _ hk]
  have hm : bt (a ++ ⟨#[47]⟩ ++ b) a.size = 47 := by rw [app_bt_l _ _ _ (by rw [app_size]; omega), app_bt_r _ _ _ (Nat.le_refl _), Nat.sub_self]; rfl
  have hr : ∀ k, bt (a ++ ⟨#[47]⟩ ++ b) (a.size + 1 + k) = bt b k := fun k => by rw [app_bt_r _ _ _ (by rw [app_size]; omega), app_size, h1]; congr 1; omega
  have hea : (a ++ ⟨#[47]⟩ ++ b).extract 0 a.size = a := ba_ext (by rw [ext_size]; omega) fun k hk => by
    rw [ext_size] at hk
    rw [ext_bt _ _ _ _ (by omega), Nat.zero_add, hl k (by omega)]
  have heb : (a ++ ⟨#[47]⟩ ++ b).extract (a.size + 1) (a ++ ⟨#[47]⟩ ++ b).size = b := ba_ext (by rw [ext_size]; omega) fun k hk => by
    rw [ext_size] at hk
    rw [ext_bt _ _ _ _ (by omega), hr]
  obtain ⟨s1, s2⟩ := split_at (a ++ ⟨#[47]⟩ ++ b) a.size ha0 (by omega) hm (by rw [hl _ (by omega)]; exact ha1) (fun k h2 h3 => by
    obtain ⟨m, rfl⟩ : ∃ m, k = a.size + 1 + m := ⟨k - (a.size + 1), by omega⟩
    rw [hr]; exact hb1 m (by omega))
  refine ⟨?_, by rw [s1, heb], by rw [s2, hea]⟩
  have := under_at (a ++ ⟨#[47]⟩ ++ b) a.size (by omega) hm
  rw [hea] at this
  exact this
end Go.Proofs.YthpdmnhopbbnfaaDoor
