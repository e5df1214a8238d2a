/- Plain mirrors of quoting: safe bytes, bare words, single quotes, reading; what is quoted is read again. No condition. -/
import Derived.Test.YtgcjokbgjjacdaaDoorLb
namespace Go.Proofs.YtgcjokbgjjacdaaDoor
open Go.RowKit Go.PlainAid
set_option linter.unusedVariables false
set_option linter.unusedSimpArgs false

def othL : List UInt8 := [95, 46, 47, 44, 43, 45, 58, 64]
def safeN (c : Nat) : Bool := (decide (97 ≤ c) && decide (c ≤ 122)) || (decide (65 ≤ c) && decide (c ≤ 90)) || (decide (48 ≤ c) && decide (c ≤ 57)) || othL.contains (UInt8.ofNat c)
def sfU (b : UInt8) : Bool := safeN b.toNat
def bareL (l : List UInt8) : Bool := l.all sfU && !l.isEmpty
/-- The text between single quotes. -/
def sq : List UInt8 → List UInt8
  | [] => []
  | b :: r => if b = 39 then 39 :: 92 :: 39 :: 39 :: sq r else b :: sq r
def singleL (l : List UInt8) : List UInt8 := 39 :: (sq l ++ [39])
def wordL (l : List UInt8) : List UInt8 := if bareL l then l else singleL l
/-- Words with a blank between each two. -/
def joinL : List (List UInt8) → List UInt8
  | [] => []
  | [x] => x
  | x :: y :: r => x ++ 32 :: joinL (y :: r)
/-- What is read, between single quotes (true) or outside of them. -/
def rd : Bool → List UInt8 → Option (List UInt8)
  | false, [] => some []
  | true, [] => none
  | true, b :: r => if b = 39 then rd false r else (rd true r).map (b :: ·)
  | false, [b] => if b = 39 then none else if sfU b then some [b] else none
  | false, b :: c :: r => if b = 39 then rd true (c :: r) else if b = 92 ∧ c = 39 then (rd false r).map (39 :: ·) else if sfU b then (rd false (c :: r)).map (b :: ·) else none
def readL (l : List UInt8) : Option (List UInt8) := if l = [] then none else rd false l

theorem sf39 : sfU 39 = false := by decide
theorem sf92 : sfU 92 = false := by decide
theorem rdT_39 (r : List UInt8) : rd true (39 :: r) = rd false r := by rw [rd, if_pos rfl]
theorem rdT_ne (b : UInt8) (r : List UInt8) (h : b ≠ 39) : rd true (b :: r) = (rd true r).map (b :: ·) := by rw [rd, if_neg h]
theorem rdF_39 (r : List UInt8) : rd false (39 :: r) = rd true r := by
  cases r with
  | nil => simp [rd]
  | cons c r => conv => lhs; rw [rd, if_pos rfl]
theorem rdF_bs (r : List UInt8) : rd false (92 :: 39 :: r) = (rd false r).map (39 :: ·) := by
  rw [rd, if_neg (by decide), if_pos ⟨rfl, rfl⟩]
theorem rdF_safe (b : UInt8) (r : List UInt8) (h : sfU b = true) : rd false (b :: r) = (rd false r).map (b :: ·) := by
  have h1 : b ≠ 39 := by rintro rfl; rw [sf39] at h; cases h
  have h2 : b ≠ 92 := by rintro rfl; rw [sf92] at h; cases h
  cases r with
  | nil => simp [rd, h1, h]
  | cons c r => rw [rd, if_neg h1, if_neg (fun e => h2 e.1), if_pos h]
theorem rdF_bad (b : UInt8) (r : List UInt8) (h1 : b ≠ 39) (h2 : b = 92 → r.head? ≠ some 39) (h : sfU b = false) : rd false (b :: r) = none := by
  cases r with
  | nil => simp [rd, h1, h]
  | cons c r => rw [rd, if_neg h1, if_neg (fun e => h2 e.1 (by rw [e.2]; rfl)), h, if_neg (by decide)]

theorem rd_app : ∀ (n : Nat) (st : Bool) (x a y : List UInt8), x.length ≤ n → rd st x = some a → rd st (x ++ y) = (rd false y).map (a ++ ·)
  | _, true, [], a, y, _, h => by simp [rd] at h
  | _, false, [], a, y, _, h => by
    simp [rd] at h; subst h
    cases hy : rd false y <;> simp [hy]
  | 0, _, b :: r, a, y, hl, h => by simp at hl
  | n + 1, true, b :: r, a, y, hl, h => by
    simp only [List.length_cons] at hl
    rw [List.cons_append]
    by_cases hb : b = 39
    · subst hb
      rw [rdT_39] at h ⊢
      exact rd_app n false r a y (by omega) h
    · rw [rdT_ne _ _ hb] at h ⊢
      cases hr : rd true r with
      | none => rw [hr] at h; simp at h
      | some a' =>
        rw [hr] at h; simp at h; subst h
        rw [rd_app n true r a' y (by omega) hr]
        cases rd false y <;> simp
  | n + 1, false, b :: r, a, y, hl, h => by
    simp only [List.length_cons] at hl
    rw [List.cons_append]
    by_cases hb : b = 39
    · subst hb
      rw [rdF_39] at h ⊢
      exact rd_app n true r a y (by omega) h
    · by_cases h2 : b = 92 ∧ r.head? = some 39
      · obtain ⟨rfl, h3⟩ := h2
        obtain ⟨q, rfl⟩ : ∃ q, r = 39 :: q := by
          cases r with
          | nil => simp at h3
          | cons c q => simp at h3; exact ⟨q, by rw [h3]⟩
        rw [rdF_bs] at h
        rw [List.cons_append, rdF_bs]
        cases hr : rd false q with
        | none => rw [hr] at h; simp at h
        | some a' =>
          rw [hr] at h; simp at h; subst h
          rw [rd_app n false q a' y (by simp at hl; omega) hr]
          cases rd false y <;> simp
      · cases hs : sfU b
        · rw [rdF_bad b r hb (fun e f => h2 ⟨e, f⟩) hs] at h; cases h
        · rw [rdF_safe b _ hs] at h ⊢
          cases hr : rd false r with
          | none => rw [hr] at h; simp at h
          | some a' =>
            rw [hr] at h; simp at h; subst h
            rw [rd_app n false r a' y (by omega) hr]
            cases rd false y <;> simp
theorem rd_bare : ∀ l : List UInt8, l.all sfU = true → rd false l = some l
  | [], _ => by simp [rd]
  | b :: r, h => by
    simp only [List.all_cons, Bool.and_eq_true] at h
    rw [rdF_safe b r h.1, rd_bare r h.2]; rfl
theorem rd_sq : ∀ l : List UInt8, rd true (sq l ++ [39]) = some l
  | [] => by simp [sq, rd]
  | b :: r => by
    rw [sq]
    split
    · rename_i e
      subst e
      simp only [List.cons_append]
      rw [rdT_39, rdF_bs, rdF_39, rd_sq r]; rfl
    · rename_i e
      rw [List.cons_append, rdT_ne _ _ e, rd_sq r]; rfl
theorem rd_single (l : List UInt8) : rd false (singleL l) = some l := by
  unfold singleL; rw [rdF_39, rd_sq]
theorem rd_word (l : List UInt8) : rd false (wordL l) = some l := by
  unfold wordL
  split
  · rename_i h
    unfold bareL at h
    rw [Bool.and_eq_true] at h
    exact rd_bare l h.1
  · exact rd_single l
theorem single_ne (l : List UInt8) : singleL l ≠ [] := by simp [singleL]
theorem word_ne (l : List UInt8) : wordL l ≠ [] := by
  unfold wordL
  split
  · rename_i h
    rintro rfl
    simp [bareL] at h
  · exact single_ne l
theorem read_word (l : List UInt8) : readL (wordL l) = some l := by unfold readL; rw [if_neg (word_ne l), rd_word]
theorem read_single (l : List UInt8) : readL (singleL l) = some l := by unfold readL; rw [if_neg (single_ne l), rd_single]
theorem read_word2 (a b : List UInt8) : readL (wordL a ++ wordL b) = some (a ++ b) := by
  unfold readL
  rw [if_neg (by intro e; exact word_ne a (List.append_eq_nil_iff.1 e).1), rd_app _ false (wordL a) a _ (Nat.le_refl _) (rd_word a), rd_word]; rfl
theorem read_single2 (a b : List UInt8) : readL (singleL a ++ singleL b) = some (a ++ b) := by
  unfold readL
  rw [if_neg (by intro e; exact single_ne a (List.append_eq_nil_iff.1 e).1), rd_app _ false (singleL a) a _ (Nat.le_refl _) (rd_single a), rd_single]; rfl
theorem sq_len : ∀ l : List UInt8, (sq l).length ≤ 4 * l.length
  | [] => by simp [sq]
  | b :: r => by
    have := sq_len r
    rw [sq]
    split <;> simp only [List.length_cons] <;> omega
theorem single_len (l : List UInt8) : (singleL l).length ≤ 4 * l.length + 2 := by
  have := sq_len l
  simp [singleL]; omega
theorem word_len (l : List UInt8) : (wordL l).length ≤ 4 * l.length + 2 := by
  unfold wordL
  split
  · omega
  · exact single_len l
theorem sq_app : ∀ a b : List UInt8, sq (a ++ b) = sq a ++ sq b
  | [], b => rfl
  | x :: r, b => by
    rw [List.cons_append, sq, sq]
    split
    · rw [sq_app r b]; rfl
    · rw [sq_app r b]; rfl
theorem rd_len : ∀ (n : Nat) (st : Bool) (x a : List UInt8), x.length ≤ n → rd st x = some a → a.length ≤ x.length
  | _, true, [], a, _, h => by simp [rd] at h
  | _, false, [], a, _, h => by simp [rd] at h; subst h; simp
  | 0, _, b :: r, a, hl, h => by simp at hl
  | n + 1, true, b :: r, a, hl, h => by
    simp only [List.length_cons] at hl ⊢
    by_cases hb : b = 39
    · subst hb
      rw [rdT_39] at h
      have := rd_len n false r a (by omega) h
      omega
    · rw [rdT_ne _ _ hb] at h
      cases hr : rd true r with
      | none => rw [hr] at h; simp at h
      | some a' =>
        rw [hr] at h; simp at h; subst h
        have := rd_len n true r a' (by omega) hr
        simp; omega
  | n + 1, false, b :: r, a, hl, h => by
    simp only [List.length_cons] at hl ⊢
    by_cases hb : b = 39
    · subst hb
      rw [rdF_39] at h
      have := rd_len n true r a (by omega) h
      omega
    · by_cases h2 : b = 92 ∧ r.head? = some 39
      · obtain ⟨rfl, h3⟩ := h2
        obtain ⟨q, rfl⟩ : ∃ q, r = 39 :: q := by
          cases r with
          | nil => simp at h3
          | cons c q => simp at h3; exact ⟨q, by rw [h3]⟩
        rw [rdF_bs] at h
        simp only [List.length_cons] at hl ⊢
        cases hr : rd false q with
        | none => rw [hr] at h; simp at h
        | some a' =>
          rw [hr] at h; simp at h; subst h
          have := rd_len n false q a' (by omega) hr
          simp; omega
      · cases hs : sfU b
        · rw [rdF_bad b r hb (fun e f => h2 ⟨e, f⟩) hs] at h; cases h
        · rw [rdF_safe b _ hs] at h
          cases hr : rd false r with
          | none => rw [hr] at h; simp at h
          | some a' =>
            rw [hr] at h; simp at h; subst h
            have := rd_len n false r a' (by omega) hr
            simp; omega
/-- Between quotes: no quote, then one. -/
theorem rdT_cut (p q : List UInt8) (h : ∀ b ∈ p, b ≠ 39) : rd true (p ++ 39 :: q) = (rd false q).map (p ++ ·) := by
  induction p with
  | nil => rw [List.nil_append, rdT_39]; cases rd false q <;> simp
  | cons b r ih =>
    rw [List.cons_append, rdT_ne _ _ (h b (by simp)), ih (fun x hx => h x (by simp [hx]))]
    cases rd false q <;> simp
theorem rdT_none (p : List UInt8) (h : ∀ b ∈ p, b ≠ 39) : rd true p = none := by
  induction p with
  | nil => simp [rd]
  | cons b r ih => rw [rdT_ne _ _ (h b (by simp)), ih (fun x hx => h x (by simp [hx]))]; rfl
theorem join_snoc (x : List UInt8) : ∀ l : List (List UInt8), joinL (l ++ [x]) = if l = [] then x else joinL l ++ 32 :: x
  | [] => by simp [joinL]
  | [a] => by simp [joinL]
  | a :: b :: r => by
    have := join_snoc x (b :: r)
    rw [if_neg (by simp)] at this ⊢
    rw [List.cons_append] at this
    rw [List.cons_append, List.cons_append, joinL, this, joinL]
    simp
end Go.Proofs.YtgcjokbgjjacdaaDoor
