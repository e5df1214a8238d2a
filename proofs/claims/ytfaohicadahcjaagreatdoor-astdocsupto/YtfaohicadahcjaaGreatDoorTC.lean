/- The document's first word. Conditions: lengths below a bound. -/
import Derived.Test.YtfaohicadahcjaaGreatDoorTA
namespace Go.Proofs.YtfaohicadahcjaaGreatDoor
open Go.RowKit Go.PlainAid Go.ChangeShapes Go.WideShapes Go.ChangeAt
set_option linter.unusedSimpArgs false
set_option linter.unusedVariables false
/-! The first word of a command. -/
/-- Is a byte of a text '=', behind a name? -/
def eqN (t : List UInt8) : Bool := (List.range t.length).any fun i => decide (at0 t i = 61) && nameL (t.take i)
def firstB (w : List Pt) : Bool := match w with
  | [] => true
  | p :: r => if decide (p.kind = 1) && !p.quoted then !eqN (ls p.text) && (decide (1 ≤ r.length) || !resL (ls p.text)) else true
theorem nm_take : ∀ (f : Bool) (t : List UInt8) (i : Nat), i ≤ t.length → (nmA f (t.take i) = i ↔ i ≤ nmA f t)
  | f, t, 0, _ => by simp [nmA]
  | f, [], i + 1, h => by simp at h
  | f, b :: r, i + 1, h => by
    have hr : i ≤ r.length := by simpa using h
    have ih := nm_take false r i hr
    rw [List.take_succ_cons, nmA, nmA]
    split
    · omega
    · omega
theorem nm_at : ∀ (f : Bool) (t : List UInt8) (i : Nat), i < nmA f t → nmN (f && decide (i = 0)) (at0 t i) = true
  | f, [], i, h => by simp [nmA] at h
  | f, b :: r, 0, h => by
    rw [nmA] at h
    split at h
    · rename_i hb; simpa [at0] using hb
    · omega
  | f, b :: r, i + 1, h => by
    rw [nmA] at h
    split at h
    · have := nm_at false r i (by omega)
      simp only [Bool.false_and] at this
      have e : at0 (b :: r) (i + 1) = at0 r i := rfl
      rw [e]
      simpa using this
    · omega
theorem nm_not61 (f : Bool) : nmN f 61 = false := by cases f <;> decide
theorem eqN_is (t : List UInt8) : eqN t = (decide (0 < nmA true t) && decide (nmA true t < t.length) && decide (at0 t (nmA true t) = 61)) := by
  rw [Bool.eq_iff_iff]
  simp only [eqN, List.any_eq_true, List.mem_range, Bool.and_eq_true, decide_eq_true_eq]
  constructor
  · rintro ⟨i, hi, he, hn⟩
    unfold nameL at hn
    rw [Bool.and_eq_true, decide_eq_true_eq, List.length_take, Nat.min_eq_left (Nat.le_of_lt hi)] at hn
    obtain ⟨h1, h2⟩ := hn
    have h3 := (nm_take true t i (Nat.le_of_lt hi)).1 h2
    have h0 : 0 < i := by
      rcases Nat.eq_zero_or_pos i with e | e
      · subst e; simp at h1
      · exact e
    have h4 : nmA true t = i := by
      rcases Nat.lt_or_ge i (nmA true t) with h5 | h5
      · have := nm_at true t i h5
        rw [he, nm_not61] at this
        cases this
      · omega
    rw [h4]
    exact ⟨⟨h0, hi⟩, he⟩
  · rintro ⟨⟨h0, h1⟩, h2⟩
    refine ⟨nmA true t, h1, h2, ?_⟩
    unfold nameL
    rw [Bool.and_eq_true, decide_eq_true_eq, List.length_take, Nat.min_eq_left (Nat.le_of_lt h1)]
    refine ⟨?_, (nm_take true t _ (Nat.le_of_lt h1)).2 (Nat.le_refl _)⟩
    cases t with
    | nil => simp at h1
    | cons b r =>
      obtain ⟨m, hm⟩ : ∃ m, nmA true (b :: r) = m + 1 := ⟨nmA true (b :: r) - 1, by omega⟩
      rw [hm]; rfl
theorem firstB_is (l : List (List Pt)) (w : List Pt) (r : List (List Pt)) (h : l = w :: r) : begB l = firstB w := by
  subst h
  unfold begB firstB
  cases w with
  | nil => rfl
  | cons p s =>
    simp only []
    split
    · rw [eqN_is]
      split
      · rename_i c; rw [c]; rfl
      · rename_i c
        rw [Bool.not_eq_true] at c
        rw [c]; rfl
    · rfl
theorem eqN_cut (t : List UInt8) (k : Nat) (h : k < t.length) : ((List.range t.length).drop k).any (fun i => decide (at0 t i = 61) && nameL (t.take i)) = ((decide (at0 t k = 61) && nameL (t.take k)) || ((List.range t.length).drop (k + 1)).any fun i => decide (at0 t i = 61) && nameL (t.take i)) := by
  have hk : k < (List.range t.length).length := by simpa using h
  rw [List.drop_eq_getElem_cons hk, List.any_cons, List.getElem_range]
def RelF (t : ByteArray) (i : Value) : Prop := ∃ k : Nat, k ≤ t.size ∧ i = .int .i64 k ∧ Hid (eqN (ls t) = ((List.range (ls t).length).drop k).any fun i => decide (at0 (ls t) i = 61) && nameL ((ls t).take i))
set_option maxHeartbeats 4000000 in
set_option maxRecDepth 100000 in
theorem first91 (n : Nat) (v : Value) (l : List Pt) (w : World) (h : WdAt n w v l) (hl : l ≠ []) : Calls Tryz.prog 91 #[v] w fun e w' => e = .returned (.bool (firstB l)) ∧ Below w.heap.size w w' := by
  have hlen := at_len _ _ _ _ h
  have hp : 0 < l.length := List.length_pos_iff.2 hl
  obtain ⟨m, b1, off, c', wa, wc, ba, bc, _, e, hc, hfit, _, c0, c1, c2, c3, c4, c5⟩ := wd_at2 h 0 hp
  subst e
  simp only [Nat.zero_mul, Nat.add_zero] at c0 c1 c2
  have HF : Hid (firstB l = if decide (l[0].kind = 1) && !l[0].quoted then !eqN (ls l[0].text) && (decide (1 < l.length) || !resL (ls l[0].text)) else true) := Lib.hid (by
    cases l with
    | nil => exact absurd rfl hl
    | cons p r =>
      unfold firstB
      simp only [List.getElem_cons_zero, List.length_cons]
      rw [show decide (1 ≤ r.length) = decide (1 < r.length + 1) from decide_eq_decide.2 (by omega)])
  rw [HF.out]
  obtain ⟨q, Hq⟩ : ∃ q, Hid (l.length = q) := ⟨_, Lib.hid rfl⟩
  rw [Hq.out] at hp hc hlen ⊢
  have ht := hfit.t
  generalize l[0] = p at c0 c1 c2 ht ⊢
  obtain ⟨t, Ht⟩ : ∃ t, Hid (p.text = t) := ⟨_, Lib.hid rfl⟩
  rw [Ht.out] at c2 ht ⊢
  have hk1 := ne_int p.kind 1
  generalize decide (p.kind = 1) = b0 at hk1 ⊢
  generalize p.quoted = b2 at c1 ⊢
  obtain ⟨z, Hz⟩ : ∃ b, Hid (decide (1 < q) = b) := ⟨_, Lib.hid rfl⟩
  have z1 := Hz.out
  have z2 : decide (1 < (q : Int)) = z := by rw [← Hz.out]; exact decide_eq_decide.2 (by omega)
  rw [z1]
  have hb := get_bt t
  have CR := Lib.hid fun W => res30 t W
  obtain ⟨R, HR⟩ : ∃ r, Hid (resL (ls t) = r) := ⟨_, Lib.hid rfl⟩
  rw [HR.out] at CR ⊢
  obtain ⟨E, HE⟩ : ∃ r, Hid (eqN (ls t) = r) := ⟨_, Lib.hid rfl⟩
  rw [HE.out]
  clear h hfit c3 c4 c5 HF hl
  cases b0
  case false =>
    simp only [Bool.not_false] at hk1
    go_enter Tryz.func91, Tryz.ntmps91
    go_wp2
    go_ret
    exact ⟨rfl, Below.refl _ _⟩
  cases b2
  case true =>
    simp only [Bool.not_true] at hk1
    go_enter Tryz.func91, Tryz.ntmps91
    go_wp2
    go_ret
    exact ⟨rfl, Below.refl _ _⟩
  simp only [Bool.not_true] at hk1
  go_enter Tryz.func91, Tryz.ntmps91
  go_wp2
  go_loop [4] (RelF t) (fun i => t.size - (intOf i).toNat)
  case atStart => exact ⟨0, Nat.zero_le _, rfl, Lib.hid (by rw [List.drop_zero]; rfl)⟩
  case round =>
    obtain ⟨k, hk, rfl, HR2⟩ := hrel
    by_cases hlt : k < t.size
    · have hlt2 : k < (ls t).length := by rw [ls_len]; exact hlt
      have HC := Lib.hid (eqN_cut (ls t) k hlt2)
      have hc := at0_lt (ls t) k
      have hbt := bt_at t k
      have CN := Lib.hid fun W => name24 (t.extract 0 k) (by rw [ext_sz _ _ _ (Nat.le_of_lt hlt)]; omega) W
      rw [ls_take] at CN
      have hz : ((at0 (ls t) k : Int) == 61) = decide (at0 (ls t) k = 61) := by rw [eq_int]; exact decide_eq_decide.2 (by omega)
      generalize decide (at0 (ls t) k = 61) = y1 at hz HC
      generalize nameL ((ls t).take k) = y2 at CN HC
      generalize at0 (ls t) k = ch at hbt hz hc
      cases y1
      · go_wp2
        go_round
        case rel => exact ⟨k + 1, hlt, vi (Int.natCast_succ k).symm, Lib.hid (by rw [HR2.out, HC.out]; rfl)⟩
        case measure => exact sz_meas hlt
      cases y2
      · go_wp2_with (go_at_call 24; refine (CN.out _).mono ?_; rintro e w' ⟨rfl, rfl⟩)
        go_round
        case rel => exact ⟨k + 1, hlt, vi (Int.natCast_succ k).symm, Lib.hid (by rw [HR2.out, HC.out]; rfl)⟩
        case measure => exact sz_meas hlt
      · have HF : Hid (E = true) := Lib.hid (by rw [← HE.out, HR2.out, HC.out]; rfl)
        go_wp2_with (go_at_call 24; refine (CN.out _).mono ?_; rintro e w' ⟨rfl, rfl⟩)
        go_ret
        rw [HF.out]; exact ⟨rfl, Below.refl _ _⟩
    · have hkq : t.size = k := sz_eq hlt hk
      have HF : Hid (E = false) := Lib.hid (by rw [← HE.out, HR2.out, List.drop_of_length_le (by simp only [List.length_range, ls_len, hkq]; exact Nat.le_refl _)]; rfl)
      have hnl : decide ((k : Int) < (t.size : Int)) = false := by rw [hkq]; simp
      have hnl2 : decide (k < t.size) = false := by rw [hkq]; simp
      clear hkq
      cases z
      · go_wp2_with fail
        refine (CR.out _).mono ?_
        rintro e w2 ⟨rfl, hb2⟩
        have HB2 := Lib.hid hb2
        clear hb2
        go_wp2
        go_ret
        rw [HF.out]; exact ⟨by simp, HB2.out⟩
      · go_wp2
        go_ret
        rw [HF.out]; exact ⟨rfl, Below.refl _ _⟩
end Go.Proofs.YtfaohicadahcjaaGreatDoor
