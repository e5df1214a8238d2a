/- Plain facts: nodes that nobody names or holds, taken out one by one; whichever way, the end is one. No condition. -/
import Derived.Test.YtgdjoojghkdcbaaXe
namespace Go.Proofs.Ytgdjoojghkdcbaa
open Go.RowKit Go.PlainAid

theorem cE_le (id : Int) : ∀ l, cE id l ≤ l.length
  | [] => Nat.le_refl _
  | e :: l => by have := cE_le id l; simp only [cE, List.length_cons]; split <;> omega
theorem lk_le (id : Int) (M : Nat) : ∀ R : List Nr, (∀ n ∈ R, n.ents.length ≤ M) → lk id R ≤ R.length * M
  | [], _ => by simp [lk]
  | n :: R, h => by
    have h1 := lk_le id M R (fun x hx => h x (by simp [hx]))
    have h2 := h n (by simp)
    have h3 := cE_le id n.ents
    simp only [lk, List.length_cons, Nat.add_mul, Nat.one_mul]
    omega
theorem lk_set (id : Int) (m : Nr) : ∀ (R : List Nr) (i : Nat) (n : Nr), R[i]? = some n → lk id (R.set i m) + cE id n.ents = lk id R + cE id m.ents
  | [], i, n, h => by simp at h
  | x :: R, 0, n, h => by simp at h; subst h; simp only [List.set_cons_zero, lk]; omega
  | x :: R, i + 1, n, h => by
    have := lk_set id m R i n (by simpa using h)
    simp only [List.set_cons_succ, lk]; omega
theorem drop_set1 (R : List Nr) (i : Nat) (m : Nr) : (R.set (i + 1) m).drop 1 = (R.drop 1).set i m := by
  cases R <;> simp
theorem drop_get1 {R : List Nr} {i : Nat} {n : Nr} (h : R[i + 1]? = some n) : (R.drop 1)[i]? = some n := by
  rw [List.getElem?_drop, Nat.add_comm]; exact h
theorem links_set {R : List Nr} {i : Nat} {n : Nr} (h1 : 1 ≤ i) (h : R[i]? = some n) (m : Nr) (id : Int) : linksR (R.set i m) id + cE id n.ents = linksR R id + cE id m.ents := by
  obtain ⟨j, rfl⟩ : ∃ j, i = j + 1 := ⟨i - 1, by omega⟩
  unfold linksR
  rw [drop_set1]
  have := lk_set id m (R.drop 1) j n (drop_get1 h)
  omega
theorem links_nonneg (R : List Nr) (id : Int) : 0 ≤ linksR R id := by unfold linksR; split <;> omega
theorem lk_mem {id : Int} : ∀ {R : List Nr} {n : Nr}, n ∈ R → cE id n.ents ≤ lk id R
  | x :: R, n, h => by
    simp only [lk]
    rcases List.mem_cons.1 h with rfl | h
    · omega
    · have := lk_mem (id := id) h; omega
theorem links_ge {R : List Nr} {i : Nat} {n : Nr} (h1 : 1 ≤ i) (h : R[i]? = some n) (id : Int) : (cE id n.ents : Int) ≤ linksR R id := by
  have := links_set h1 h Nr.zero id
  have h2 := links_nonneg (R.set i Nr.zero) id
  have h3 : cE id Nr.zero.ents = 0 := rfl
  omega
theorem cnr_set (m : Nr) : ∀ (R : List Nr) (i : Nat) (n : Nr), R[i]? = some n → cnr (R.set i m) + (if (n.kind != 0) = true then 1 else 0) = cnr R + (if (m.kind != 0) = true then 1 else 0)
  | [], i, n, h => by simp at h
  | x :: R, 0, n, h => by simp at h; subst h; simp only [List.set_cons_zero, cnr]; omega
  | x :: R, i + 1, n, h => by
    have := cnr_set m R i n (by simpa using h)
    simp only [List.set_cons_succ, cnr]; omega
theorem usz_set (m : Nr) : ∀ (R : List Nr) (i : Nat) (n : Nr), R[i]? = some n → usz (R.set i m) + (n.data.size + szs n.ents) = usz R + (m.data.size + szs m.ents)
  | [], i, n, h => by simp at h
  | x :: R, 0, n, h => by simp at h; subst h; simp only [List.set_cons_zero, usz]; omega
  | x :: R, i + 1, n, h => by
    have := usz_set m R i n (by simpa using h)
    simp only [List.set_cons_succ, usz]; omega

/-- Nobody names or holds it. -/
def Lone (R : List Nr) (j : Nat) : Prop := ∃ n, R[j]? = some n ∧ 1 ≤ j ∧ (n.kind != 0) = true ∧ linksR R j = 0 ∧ ¬ 0 < n.holds
inductive Steps : List Nr → List Nr → Prop
  | refl (R : List Nr) : Steps R R
  | step {R R' : List Nr} (j : Nat) (h : Lone R j) (h' : Steps (R.set j Nr.zero) R') : Steps R R'
theorem Steps.trans {A B C : List Nr} (h : Steps A B) (h' : Steps B C) : Steps A C := by
  induction h with
  | refl _ => exact h'
  | step j h1 _ ih => exact .step j h1 (ih h')
theorem Steps.length {A B : List Nr} (h : Steps A B) : B.length = A.length := by
  induction h with
  | refl _ => rfl
  | step j h1 _ ih => rw [ih, List.length_set]
theorem set_get {R : List Nr} {i j : Nat} {n m : Nr} (h : (R.set i m)[j]? = some n) : (j = i ∧ n = m) ∨ (j ≠ i ∧ R[j]? = some n) := by
  rw [List.getElem?_set] at h
  by_cases e : i = j
  · rw [if_pos e] at h
    split at h
    · cases h; exact .inl ⟨e.symm, rfl⟩
    · cases h
  · rw [if_neg e] at h; exact .inr ⟨fun e' => e e'.symm, h⟩
theorem get_set {R : List Nr} {i j : Nat} {n : Nr} (m : Nr) (e : j ≠ i) (h : R[j]? = some n) : (R.set i m)[j]? = some n := by
  rw [List.getElem?_set, if_neg (fun e' => e e'.symm)]; exact h
/-- What is lone stays lone, when another goes. -/
theorem Lone.keep {R : List Nr} {i j : Nat} (hj : Lone R j) (hi : Lone R i) (e : j ≠ i) : Lone (R.set i Nr.zero) j := by
  obtain ⟨n, h1, h2, h3, h4, h5⟩ := hj
  obtain ⟨m, g1, g2, _⟩ := hi
  refine ⟨n, get_set _ e h1, h2, h3, ?_, h5⟩
  have := links_set g2 g1 Nr.zero j
  have h6 := links_nonneg (R.set i Nr.zero) j
  have h7 : cE j Nr.zero.ents = 0 := rfl
  omega
/-- One that wasn't lone is lone behind another's going only if that named it. -/
theorem Lone.back {R : List Nr} {i j : Nat} {n : Nr} (hi : 1 ≤ i) (hn : R[i]? = some n) (h : Lone (R.set i Nr.zero) j) : j ≠ i ∧ (Lone R j ∨ 0 < cE j n.ents) := by
  obtain ⟨m, h1, h2, h3, h4, h5⟩ := h
  rcases set_get h1 with ⟨_, rfl⟩ | ⟨e, h1'⟩
  · simp [Nr.zero] at h3
  · refine ⟨e, ?_⟩
    have := links_set hi hn Nr.zero j
    have h7 : cE j Nr.zero.ents = 0 := rfl
    by_cases hc : 0 < cE j n.ents
    · exact .inr hc
    · exact .inl ⟨m, h1', h2, h3, by omega, h5⟩
def Done (R : List Nr) : Prop := ∀ j, ¬ Lone R j
theorem strip {A B : List Nr} (h : Steps A B) : ∀ {i : Nat}, Lone A i → Done B → Steps (A.set i Nr.zero) B := by
  induction h with
  | refl R => intro i hi hd; exact absurd hi (hd i)
  | @step R R' j hj h' ih =>
    intro i hi hd
    by_cases e : i = j
    · subst e; exact h'
    · have h1 := ih (hi.keep hj e) hd
      rw [List.set_comm _ _ (fun e' => e e'.symm)] at h1
      exact .step j (hj.keep hi (fun e' => e e'.symm)) h1
/-- Whichever way one goes, the end is one. -/
theorem steps_one {A B C : List Nr} (h : Steps A B) (hb : Done B) (h' : Steps A C) (hc : Done C) : B = C := by
  induction h with
  | refl R =>
    cases h' with
    | refl _ => rfl
    | step j hj _ => exact absurd hj (hb j)
  | @step R R' j hj _ ih => exact ih hb (strip h' hj hc)

/-- What holds of the document's nodes. -/
structure InvR (R : List Nr) : Prop where
  head : R[0]? = some Nr.zero
  dead : ∀ n ∈ R, n.kind = 0 → n = Nr.zero
  rng : ∀ n ∈ R, ∀ e ∈ n.ents, 1 ≤ e.2 ∧ e.2 < R.length
  len : R.length ≤ 1000
  few : ∀ n ∈ R, n.ents.length ≤ 999
theorem InvR.zero {R : List Nr} (h : InvR R) {i : Nat} (h1 : 1 ≤ i) : InvR (R.set i Nr.zero) := by
  refine ⟨by rw [List.getElem?_set, if_neg (by omega)]; exact h.head, fun n hn hk => ?_, fun n hn e he => ?_, by rw [List.length_set]; exact h.len, fun n hn => ?_⟩
  · rcases List.mem_or_eq_of_mem_set hn with h2 | rfl
    · exact h.dead n h2 hk
    · rfl
  · rw [List.length_set]
    rcases List.mem_or_eq_of_mem_set hn with h2 | rfl
    · exact h.rng n h2 e he
    · simp [Nr.zero] at he
  · rcases List.mem_or_eq_of_mem_set hn with h2 | rfl
    · exact h.few n h2
    · simp [Nr.zero]
theorem InvR.steps {A B : List Nr} (h : Steps A B) (hi : InvR A) : InvR B := by
  induction h with
  | refl _ => exact hi
  | step j hj _ ih => exact ih (hi.zero (let ⟨_, _, h2, _⟩ := hj; h2))
theorem InvR.links {R : List Nr} (h : InvR R) (id : Int) : linksR R id ≤ 1000001 := by
  unfold linksR
  have h1 := lk_le id 999 (R.drop 1) (fun n hn => h.few n (List.mem_of_mem_drop hn))
  have h2 := h.len
  have h3 : (R.drop 1).length ≤ 1000 := by simp; omega
  have h4 : (R.drop 1).length * 999 ≤ 1000 * 999 := Nat.mul_le_mul_right _ h3
  split <;> omega
theorem cnr_steps {A B : List Nr} (h : Steps A B) : cnr (B.drop 1) ≤ cnr (A.drop 1) := by
  induction h with
  | refl _ => exact Nat.le_refl _
  | @step R R' j hj _ ih =>
    obtain ⟨n, g1, g2, _⟩ := hj
    obtain ⟨i, rfl⟩ : ∃ i, j = i + 1 := ⟨j - 1, by omega⟩
    rw [drop_set1] at ih
    have := cnr_set Nr.zero (R.drop 1) i n (drop_get1 g1)
    have h2 : (Nr.zero.kind != 0) = false := rfl
    rw [h2] at this
    simp only [Bool.false_eq_true, if_false] at this
    split at this <;> omega
theorem cnr_zero {R : List Nr} {j : Nat} (hj : Lone R j) : cnr ((R.set j Nr.zero).drop 1) + 1 = cnr (R.drop 1) := by
  obtain ⟨n, g1, g2, g3, _⟩ := hj
  obtain ⟨i, rfl⟩ : ∃ i, j = i + 1 := ⟨j - 1, by omega⟩
  rw [drop_set1]
  have := cnr_set Nr.zero (R.drop 1) i n (drop_get1 g1)
  have h2 : (Nr.zero.kind != 0) = false := rfl
  rw [h2, g3] at this
  simpa using this
theorem set_dead {R : List Nr} (h : InvR R) {i : Nat} {n : Nr} (hn : R[i]? = some n) (hk : (n.kind != 0) = false) : R.set i Nr.zero = R ∧ n = Nr.zero := by
  have e := h.dead n (List.mem_of_getElem? hn) (by simpa using hk)
  refine ⟨?_, e⟩
  rw [e] at hn
  apply List.ext_getElem?
  intro j
  rw [List.getElem?_set]
  by_cases e' : i = j
  · subst e'
    rw [if_pos rfl, if_pos (List.getElem?_eq_some_iff.1 hn).1, hn]
  · rw [if_neg e']
theorem cE_pos {id : Int} : ∀ {l : List En}, 0 < cE id l → ∃ e ∈ l, e.2 = id
  | e :: l, h => by
    simp only [cE] at h
    by_cases e1 : e.2 = id
    · exact ⟨e, by simp, e1⟩
    · rw [if_neg e1] at h
      obtain ⟨x, hx, e2⟩ := cE_pos (id := id) (l := l) (by omega)
      exact ⟨x, by simp [hx], e2⟩
end Go.Proofs.Ytgdjoojghkdcbaa
