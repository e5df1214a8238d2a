/- Plain facts on tags: a number's letters, what is read behind a head, which numbers are taken, the first that is free. No condition. -/
import Derived.Test.YtabnhdbhccbebaaDoorLb
import Derived.Lib.CountLaws
import Derived.Lib.CutLaws
namespace Go.Proofs.YtabnhdbhccbebaaDoor
open Go.RowKit Go.PlainAid
set_option linter.unusedVariables false
set_option linter.unusedSimpArgs false

def lett (n : Nat) : UInt8 := UInt8.ofNat (65 + n % 26)
theorem lett_nat (n : Nat) : (lett n).toNat = 65 + n % 26 := by
  unfold lett; rw [UInt8.toNat_ofNat', Nat.mod_eq_of_lt (by omega)]
/-- The lowest k letters of a number. -/
def sp : Nat → Nat → List UInt8
  | 0, _ => []
  | k + 1, n => sp k (n / 26) ++ [lett n]
theorem sp_len : ∀ k n, (sp k n).length = k
  | 0, _ => rfl
  | k + 1, n => by rw [sp, List.length_append, sp_len k]; rfl
theorem sp5 (n : Nat) : sp 5 n = [lett (n / 26 / 26 / 26 / 26), lett (n / 26 / 26 / 26), lett (n / 26 / 26), lett (n / 26), lett n] := rfl
def isL (b : Nat) : Bool := decide (65 ≤ b ∧ b ≤ 90)
/-- So many letters read, behind what was read. -/
def rdf : Nat → Nat → List UInt8 → Option Nat
  | 0, acc, _ => some acc
  | _ + 1, _, [] => none
  | k + 1, acc, b :: r => if isL b.toNat then rdf k (acc * 26 + (b.toNat - 65)) r else none
def rd (l : List UInt8) : Option Nat := rdf 5 0 l
theorem rdf_short : ∀ (k acc : Nat) (l : List UInt8), l.length < k → rdf k acc l = none
  | 0, _, _, h => absurd h (Nat.not_lt_zero _)
  | _ + 1, _, [], _ => rfl
  | k + 1, acc, b :: r, h => by
    rw [rdf]; split
    · exact rdf_short k _ r (by simpa using h)
    · rfl
theorem rdf_lt : ∀ (k acc : Nat) (l : List UInt8) (n : Nat), rdf k acc l = some n → n < (acc + 1) * 26 ^ k
  | 0, acc, l, n, h => by cases h; simp
  | _ + 1, _, [], _, h => by cases h
  | k + 1, acc, b :: r, n, h => by
    rw [rdf] at h
    split at h
    · rename_i hb
      unfold isL at hb
      have hb' := of_decide_eq_true hb
      have := rdf_lt k _ r n h
      have e : (acc * 26 + (b.toNat - 65) + 1) * 26 ^ k ≤ ((acc + 1) * 26) * 26 ^ k := Nat.mul_le_mul_right _ (by omega)
      rw [Nat.pow_succ, Nat.mul_comm (26 ^ k) 26, ← Nat.mul_assoc]
      omega
    · cases h
theorem rd_lt {l : List UInt8} {n : Nat} (h : rd l = some n) : n < 11881376 := by
  have := rdf_lt 5 0 l n h
  simpa using this
theorem isL_lett (n : Nat) : isL (lett n).toNat = true := by unfold isL; rw [lett_nat]; exact decide_eq_true (by omega)
theorem rd_sp (n : Nat) (h : n < 11881376) (r : List UInt8) : rd (sp 5 n ++ r) = some n := by
  rw [sp5]
  unfold rd
  simp only [List.cons_append, List.nil_append, rdf, isL_lett, if_true]
  simp only [lett_nat]
  rw [Option.some.injEq]
  omega
theorem lett_of {b : UInt8} {n : Nat} (h : isL b.toNat = true) (e : n % 26 = b.toNat - 65) : lett n = b := by
  apply UInt8.toNat_inj.1
  rw [lett_nat]
  unfold isL at h
  have := of_decide_eq_true h
  omega
theorem rd_take {l : List UInt8} {n : Nat} (h : rd l = some n) : ∃ r, l = sp 5 n ++ r := by
  unfold rd at h
  match l, h with
  | a :: b :: c :: d :: e :: r, h =>
    simp only [rdf] at h
    split at h
    · rename_i ha
      split at h
      · rename_i hb
        split at h
        · rename_i hc
          split at h
          · rename_i hd
            split at h
            · rename_i he
              have ha' := of_decide_eq_true (show decide _ = true from ha)
              have hb' := of_decide_eq_true (show decide _ = true from hb)
              have hc' := of_decide_eq_true (show decide _ = true from hc)
              have hd' := of_decide_eq_true (show decide _ = true from hd)
              have he' := of_decide_eq_true (show decide _ = true from he)
              simp only [Option.some.injEq] at h
              refine ⟨r, ?_⟩
              rw [sp5, lett_of (b := a) ha (by omega), lett_of (b := b) hb (by omega), lett_of (b := c) hc (by omega), lett_of (b := d) hd (by omega), lett_of (b := e) he (by omega)]
              rfl
            · cases h
          · cases h
        · cases h
      · cases h
    · cases h
  | [], h => cases h
  | [_], h => simp only [rdf] at h; split at h <;> cases h
  | [_, _], h => simp only [rdf] at h; split at h <;> (first | cases h | (split at h <;> cases h))
  | [_, _, _], h => simp only [rdf] at h; split at h <;> (first | cases h | (split at h <;> (first | cases h | (split at h <;> cases h))))
  | [_, _, _, _], h => simp only [rdf] at h; split at h <;> (first | cases h | (split at h <;> (first | cases h | (split at h <;> (first | cases h | (split at h <;> cases h))))))
theorem sp_inj {m n : Nat} (hm : m < 11881376) (hn : n < 11881376) (h : sp 5 m = sp 5 n) : m = n := by
  have h1 := rd_sp m hm []
  have h2 := rd_sp n hn []
  rw [h] at h1
  exact Option.some.inj (h1.symm.trans h2)

/-- What stands behind each head. -/
def occ (a b : UInt8) : List UInt8 → List (List UInt8)
  | x :: y :: r => if x = a ∧ y = b then r :: occ a b r else occ a b (y :: r)
  | _ => []
theorem occ_len_le (a b : UInt8) : ∀ l, 2 * (occ a b l).length ≤ l.length
  | [] => Nat.le_refl _
  | [_] => by simp [occ]
  | x :: y :: r => by
    rw [occ]
    split
    · have := occ_len_le a b r
      simp; omega
    · have := occ_len_le a b (y :: r)
      simp at this ⊢; omega
theorem index_cons (b : UInt8) (l sub : List UInt8) : Lib.index (b :: l) sub = if sub.isPrefixOf (b :: l) then 0 else if Lib.index l sub == -1 then -1 else Lib.index l sub + 1 := rfl
theorem pre2 (a b x y : UInt8) (r : List UInt8) : List.isPrefixOf [a, b] (x :: y :: r) = decide (x = a ∧ y = b) := by
  simp [List.isPrefixOf]
  by_cases h1 : a = x
  · subst h1
    by_cases h2 : b = y
    · subst h2; simp
    · simp [h2, Ne.symm h2]
  · simp [h1, Ne.symm h1]
theorem occ_none (a b : UInt8) : ∀ l, Lib.index l [a, b] = -1 → occ a b l = []
  | [], _ => rfl
  | [_], _ => rfl
  | x :: y :: r, h => by
    rw [index_cons, pre2] at h
    by_cases h2 : x = a ∧ y = b
    · rw [decide_eq_true h2] at h; simp at h
    · rw [decide_eq_false h2] at h
      rw [occ, if_neg h2]
      refine occ_none a b (y :: r) ?_
      have hge := Lib.index_ge (y :: r) [a, b]
      by_cases h3 : Lib.index (y :: r) [a, b] = -1
      · exact h3
      · simp [h3] at h
        omega
theorem occ_some (a b : UInt8) : ∀ (l : List UInt8) (i : Nat), Lib.index l [a, b] = i → occ a b l = l.drop (i + 2) :: occ a b (l.drop (i + 2))
  | [], i, h => by simp [Lib.index] at h
  | [x], i, h => by
    rw [index_cons] at h
    simp [Lib.index, List.isPrefixOf] at h

  | x :: y :: r, i, h => by
    rw [index_cons, pre2] at h
    by_cases h2 : x = a ∧ y = b
    · rw [decide_eq_true h2] at h
      simp at h
      obtain rfl : i = 0 := by omega
      rw [occ, if_pos h2]; rfl
    · rw [decide_eq_false h2] at h
      rw [occ, if_neg h2]
      have hge := Lib.index_ge (y :: r) [a, b]
      by_cases h3 : Lib.index (y :: r) [a, b] = -1
      · simp [h3] at h
      · simp [h3] at h
        obtain ⟨j, rfl⟩ : ∃ j, i = j + 1 := ⟨i - 1, by omega⟩
        have := occ_some a b (y :: r) j (by omega)
        rw [this]; rfl
theorem count_occ (a b : UInt8) : ∀ (n : Nat) (l : List UInt8), l.length ≤ n → Lib.count l [a, b] = (occ a b l).length := by
  intro n
  induction n with
  | zero =>
    intro l h
    obtain rfl : l = [] := List.eq_nil_of_length_eq_zero (by omega)
    rfl
  | succ n ih =>
    intro l h
    have hge := Lib.index_ge l [a, b]
    by_cases hm : Lib.index l [a, b] = -1
    · rw [Lib.count_miss hm, occ_none a b l hm]; rfl
    · obtain ⟨i, hi⟩ : ∃ i : Nat, Lib.index l [a, b] = i := ⟨(Lib.index l [a, b]).toNat, by omega⟩
      have hr := Lib.index_room l [a, b] (by omega)
      rw [Lib.count_hit (by simp) hi, occ_some a b l i hi, ih _ (by simp at hr ⊢; omega)]
      simp; omega

/-- Does a text stand in another one? -/
def hasB (t : List UInt8) : List UInt8 → Bool
  | [] => t.isEmpty
  | x :: r => t.isPrefixOf (x :: r) || hasB t r
theorem hasB_short (t : List UInt8) : ∀ s : List UInt8, s.length < t.length → hasB t s = false
  | [], h => by cases t with
    | nil => simp at h
    | cons a t => rfl
  | x :: r, h => by
    rw [hasB, hasB_short t r (by simp at h; omega), Bool.or_false]
    cases hp : t.isPrefixOf (x :: r)
    · rfl
    · have := (List.isPrefixOf_iff_prefix.1 hp).length_le
      omega
theorem hasB_of {t : List UInt8} (ht : t ≠ []) : ∀ (s : List UInt8), hasB t s = true ↔ ∃ k, k + t.length ≤ s.length ∧ (s.drop k).take t.length = t
  | [] => by
    constructor
    · intro h; cases t with
      | nil => exact absurd rfl ht
      | cons a t => simp [hasB] at h
    · rintro ⟨k, h1, _⟩
      exact absurd (by simp at h1; exact h1.2) ht
  | x :: r => by
    rw [hasB, Bool.or_eq_true, hasB_of ht r, List.isPrefixOf_iff_prefix]
    constructor
    · rintro (h | ⟨k, h1, h2⟩)
      · exact ⟨0, by simpa using h.length_le, by rw [List.drop_zero]; exact (List.prefix_iff_eq_take.1 h).symm⟩
      · exact ⟨k + 1, by simp; omega, h2⟩
    · rintro ⟨k, h1, h2⟩
      cases k with
      | zero => left; rw [List.drop_zero] at h2; exact List.prefix_iff_eq_take.2 h2.symm
      | succ k => right; exact ⟨k, by simp at h1; omega, h2⟩
theorem hasB_at {t s : List UInt8} (k : Nat) (h : k < s.length) : hasB t (s.drop k) = (t.isPrefixOf (s.drop k) || hasB t (s.drop (k + 1))) := by
  rw [List.drop_eq_getElem_cons h]; rfl
/-- A part of what stands in a text stands there, too. -/
theorem hasB_part {a t b s : List UInt8} (ht : t ≠ []) (h : hasB (a ++ t ++ b) s = true) : hasB t s = true := by
  have hne : a ++ t ++ b ≠ [] := by intro e; simp at e; exact ht e.2.1
  obtain ⟨k, h1, h2⟩ := (hasB_of hne s).1 h
  refine (hasB_of ht s).2 ⟨k + a.length, by simp at h1; omega, ?_⟩
  have e : (((s.drop k).take (a ++ t ++ b).length).drop a.length).take t.length = t := by
    rw [h2, List.append_assoc, List.drop_left, List.take_left]
  rw [← List.drop_drop] 
  rw [List.drop_take, List.take_take] at e
  rw [Nat.min_eq_left (by simp)] at e
  exact e
/-- A half stands in a text just if its number is read behind a head. -/
theorem half_occ (a b : UInt8) (hab : a ≠ b) (n : Nat) (hn : n < 11881376) : ∀ s : List UInt8, hasB (a :: b :: sp 5 n) s = (occ a b s).any fun r => rd r == some n
  | [] => rfl
  | [x] => by
    rw [hasB_short _ _ (by simp [sp_len])]; rfl
  | x :: y :: r => by
    have hp : ∀ r : List UInt8, (sp 5 n).isPrefixOf r = (rd r == some n) := by
      intro r
      rw [Bool.eq_iff_iff, List.isPrefixOf_iff_prefix, beq_iff_eq]
      constructor
      · rintro ⟨q, rfl⟩; exact rd_sp n hn q
      · intro h; obtain ⟨q, rfl⟩ := rd_take h; exact ⟨q, rfl⟩
    rw [hasB, occ]
    by_cases h : x = a ∧ y = b
    · obtain ⟨rfl, rfl⟩ := h
      rw [if_pos ⟨rfl, rfl⟩, List.any_cons]
      have e1 : List.isPrefixOf (x :: y :: sp 5 n) (x :: y :: r) = (rd r == some n) := by
        rw [← hp]; simp [List.isPrefixOf]
      rw [e1]
      congr 1
      rw [hasB]
      have e2 : List.isPrefixOf (x :: y :: sp 5 n) (y :: r) = false := by
        simp [List.isPrefixOf, hab]
      rw [e2, Bool.false_or]
      exact half_occ x y hab n hn r
    · rw [if_neg h]
      have e1 : List.isPrefixOf (a :: b :: sp 5 n) (x :: y :: r) = false := by
        simp [List.isPrefixOf]
        intro h1 h2
        exact absurd ⟨h1.symm, h2.symm⟩ h
      rw [e1, Bool.false_or]
      exact half_occ a b hab n hn (y :: r)

/-- Numbers are taken. -/
def mark (from_ : Nat) (t : List Bool) (r : List UInt8) : List Bool :=
  match rd r with
  | some n => if from_ ≤ n ∧ n - from_ < t.length then t.set (n - from_) true else t
  | none => t
def marks (from_ : Nat) (t : List Bool) (rs : List (List UInt8)) : List Bool := rs.foldl (mark from_) t
theorem mark_len (f : Nat) (t : List Bool) (r : List UInt8) : (mark f t r).length = t.length := by
  unfold mark; split <;> (try split) <;> simp
theorem marks_len (f : Nat) : ∀ (rs : List (List UInt8)) (t : List Bool), (marks f t rs).length = t.length
  | [], t => rfl
  | r :: rs, t => by
    show (marks f (mark f t r) rs).length = _
    rw [marks_len f rs, mark_len]
theorem set_count : ∀ (t : List Bool) (i : Nat), (t.set i true).count true ≤ t.count true + 1
  | [], _ => by simp
  | b :: t, 0 => by cases b <;> simp
  | b :: t, i + 1 => by
    have := set_count t i
    cases b <;> simp at this ⊢ <;> omega
theorem mark_count (f : Nat) (t : List Bool) (r : List UInt8) : (mark f t r).count true ≤ t.count true + 1 := by
  unfold mark; split
  · split
    · exact set_count _ _
    · omega
  · omega
theorem marks_count (f : Nat) : ∀ (rs : List (List UInt8)) (t : List Bool), (marks f t rs).count true ≤ t.count true + rs.length
  | [], t => Nat.le_refl _
  | r :: rs, t => by
    have h1 := marks_count f rs (mark f t r)
    have h2 := mark_count f t r
    show (marks f (mark f t r) rs).count true ≤ _
    simp; omega
theorem mark_get (f : Nat) (t : List Bool) (r : List UInt8) (i : Nat) (h : i < t.length) : (mark f t r)[i]? = some (t[i] || (rd r == some (f + i))) := by
  unfold mark
  split
  · rename_i n hn
    split
    · rename_i hc
      rw [List.getElem?_set]
      by_cases e : n - f = i
      · rw [if_pos e, if_pos (by omega), hn, show n = f + i by omega]; simp
      · rw [if_neg e, List.getElem?_eq_getElem h, hn, show (some n == some (f + i)) = false by simp; omega, Bool.or_false]
    · rename_i hc
      rw [List.getElem?_eq_getElem h, hn, show (some n == some (f + i)) = false by simp; omega, Bool.or_false]
  · rename_i hn
    rw [hn, List.getElem?_eq_getElem h]; simp
theorem marks_get (f : Nat) : ∀ (rs : List (List UInt8)) (t : List Bool) (i : Nat) (h : i < t.length), (marks f t rs)[i]? = some (t[i] || rs.any fun r => rd r == some (f + i))
  | [], t, i, h => by simp [marks, List.getElem?_eq_getElem h]
  | r :: rs, t, i, h => by
    have h' : i < (mark f t r).length := by rw [mark_len]; exact h
    have e := mark_get f t r i h
    rw [List.getElem?_eq_getElem h'] at e
    show (marks f (mark f t r) rs)[i]? = _
    rw [marks_get f rs _ i h', Option.some.inj e, List.any_cons, Bool.or_assoc]
theorem marks_app (f : Nat) (t : List Bool) (a b : List (List UInt8)) : marks f t (a ++ b) = marks f (marks f t a) b := List.foldl_append
/-- All heads of all texts. -/
def heads (s : List UInt8) : List (List UInt8) := occ 66 81 s ++ occ 69 81 s
def allH (ts : List ByteArray) : List (List UInt8) := ts.flatMap fun s => heads (ls s)
theorem allH_cons (s : ByteArray) (ts : List ByteArray) : allH (s :: ts) = heads (ls s) ++ allH ts := rfl
theorem allH_app (a b : List ByteArray) : allH (a ++ b) = allH a ++ allH b := by simp [allH]
theorem heads_le (s : List UInt8) : (heads s).length ≤ s.length := by
  have h1 := occ_len_le 66 81 s
  have h2 := occ_len_le 69 81 s
  unfold heads; rw [List.length_append]; omega
/-- Is a number taken? -/
def tk (ts : List ByteArray) (n : Nat) : Bool := (allH ts).any fun r => rd r == some n
theorem tk_nil (n : Nat) : tk [] n = false := rfl
theorem tk_cons (s : ByteArray) (ts : List ByteArray) (n : Nat) : tk (s :: ts) n = (((occ 66 81 (ls s)).any fun r => rd r == some n) || ((occ 69 81 (ls s)).any fun r => rd r == some n) || tk ts n) := by
  unfold tk
  rw [allH_cons, List.any_append]
  unfold heads
  rw [List.any_append]
theorem tk_in (ts : List ByteArray) (n : Nat) (s : ByteArray) (hs : s ∈ ts) (h : tk ts n = false) (hn : n < 11881376) : hasB (66 :: 81 :: sp 5 n) (ls s) = false ∧ hasB (69 :: 81 :: sp 5 n) (ls s) = false := by
  rw [half_occ _ _ (by decide) n hn, half_occ _ _ (by decide) n hn]
  induction ts with
  | nil => cases hs
  | cons t ts ih =>
    rw [tk_cons] at h
    simp only [Bool.or_eq_false_iff] at h
    rcases List.mem_cons.1 hs with rfl | hs
    · exact h.1
    · exact ih hs h.2
/-- The first that is free. -/
def FirstIs (f : Nat) (P : Nat → Bool) : Option Nat → Prop
  | some k => f ≤ k ∧ k < 11881376 ∧ P k = false ∧ ∀ j, f ≤ j → j < k → P j = true
  | none => ∀ j, f ≤ j → j < 11881376 → P j = true
theorem first_uni {f : Nat} {P : Nat → Bool} {a b : Option Nat} (ha : FirstIs f P a) (hb : FirstIs f P b) : a = b := by
  cases a with
  | none =>
    cases b with
    | none => rfl
    | some k => have := ha k hb.1 hb.2.1; rw [hb.2.2.1] at this; cases this
  | some j =>
    cases b with
    | none => have := hb j ha.1 ha.2.1; rw [ha.2.2.1] at this; cases this
    | some k =>
      congr 1
      rcases Nat.lt_trichotomy j k with h | h | h
      · have := hb.2.2.2 j ha.1 h; rw [ha.2.2.1] at this; cases this
      · exact h
      · have := ha.2.2.2 k hb.1 h; rw [hb.2.2.1] at this; cases this
/-- All numbers looked at, one is free if there are more of them than heads. -/
theorem all_taken {f L : Nat} {ts : List ByteArray} (h : ∀ i, i < L → tk ts (f + i) = true) : L ≤ (allH ts).length := by
  have h1 := marks_count f (allH ts) (List.replicate L false)
  have h0 : (List.replicate L false).count true = 0 := by simp [List.count_replicate]
  have e : marks f (List.replicate L false) (allH ts) = List.replicate L true := by
    apply List.ext_getElem?
    intro i
    by_cases hi : i < L
    · rw [marks_get f _ _ i (by simpa using hi)]
      have := h i hi
      unfold tk at this
      rw [this]; simp [hi]
    · rw [List.getElem?_eq_none (by rw [marks_len]; simp; omega), List.getElem?_eq_none (by simp; omega)]
  rw [e, h0] at h1
  simpa using h1
/-- The tag of a number. -/
def tagL (n : Nat) : List UInt8 := (66 :: 81 :: sp 5 n) ++ [95, 83, 69, 65, 66, 65, 71, 95] ++ (69 :: 81 :: sp 5 n)
theorem tag_len (n : Nat) : (tagL n).length = 22 := by simp [tagL, sp_len]
theorem tag_inj {m n : Nat} (hm : m < 11881376) (hn : n < 11881376) (h : tagL m = tagL n) : m = n := by
  apply sp_inj hm hn
  have : (tagL m).take 7 = (tagL n).take 7 := by rw [h]
  unfold tagL at this
  rw [List.append_assoc, List.append_assoc, List.take_append_of_le_length (by simp [sp_len]), List.take_append_of_le_length (by simp [sp_len]), List.take_of_length_le (by simp [sp_len]), List.take_of_length_le (by simp [sp_len])] at this
  injection this with _ this
  injection this with _ this
theorem tag_not {n : Nat} {s : List UInt8} (h : hasB (66 :: 81 :: sp 5 n) s = false) : hasB (tagL n) s = false := by
  cases e : hasB (tagL n) s
  · rfl
  · have := hasB_part (a := []) (t := 66 :: 81 :: sp 5 n) (b := [95, 83, 69, 65, 66, 65, 71, 95] ++ (69 :: 81 :: sp 5 n)) (by simp) (s := s) (by rw [List.nil_append, ← List.append_assoc]; exact e)
    rw [h] at this; cases this
end Go.Proofs.YtabnhdbhccbebaaDoor
