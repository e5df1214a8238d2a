/- Plain facts on lines of letters: how bytes are written as letters, and read again. No condition but those that each says. -/
import Derived.WalkKit
import Derived.PlainAid
namespace Go.Proofs.Ytdjfapaebonadaa
open Go.RowKit Go.PlainAid
set_option linter.unusedVariables false
set_option linter.unusedSimpArgs false

abbrev ls (s : ByteArray) : List UInt8 := s.data.toList
def mk (l : List UInt8) : ByteArray := ⟨l.toArray⟩
theorem ls_mk (l : List UInt8) : ls (mk l) = l := rfl
theorem mk_ls (s : ByteArray) : mk (ls s) = s := by unfold mk ls; simp
theorem ls_len (s : ByteArray) : (ls s).length = s.size := by simp [ls]
theorem mk_size (l : List UInt8) : (mk l).size = l.length := by rw [← ls_len, ls_mk]
theorem ls_inj {s t : ByteArray} (h : ls s = ls t) : s = t := by rw [← mk_ls s, h, mk_ls]
theorem mk_app (a b : List UInt8) : mk a ++ mk b = mk (a ++ b) := by
  apply ByteArray.ext
  show (ByteArray.append _ _).data = _
  simp [mk, ByteArray.append]
theorem app_ls (s t : ByteArray) : s ++ t = mk (ls s ++ ls t) := by rw [← mk_app, mk_ls, mk_ls]
theorem ls_ext (s : ByteArray) (a b : Nat) : ls (s.extract a b) = ((ls s).take b).drop a := by
  show (s.extract a b).data.toList = _
  rw [ByteArray.data_extract, Array.toList_extract, List.extract_eq_drop_take', ]
theorem ls_take (s : ByteArray) (n : Nat) : ls (s.extract 0 n) = (ls s).take n := by rw [ls_ext, List.drop_zero]
theorem ls_drop (s : ByteArray) (n : Nat) : ls (s.extract n s.size) = (ls s).drop n := by rw [ls_ext, List.take_of_length_le (by rw [ls_len]; exact Nat.le_refl _)]

/-- The byte at a place, or nought. -/
def at0 (l : List UInt8) (k : Nat) : Nat := (l.getD k 0).toNat
theorem at0_lt (l : List UInt8) (k : Nat) : at0 l k < 256 := (l.getD k 0).toNat_lt
theorem at0_of {l : List UInt8} {k : Nat} (h : k < l.length) : at0 l k = l[k].toNat := by unfold at0; rw [List.getD_eq_getElem?_getD, List.getElem?_eq_getElem h]; rfl
theorem at0_end {l : List UInt8} {k : Nat} (h : l.length ≤ k) : at0 l k = 0 := by unfold at0; rw [List.getD_eq_getElem?_getD, List.getElem?_eq_none h]; rfl
theorem bt_at (s : ByteArray) (k : Nat) : bt s k = (at0 (ls s) k : Int) := by
  by_cases h : k < s.size
  · rw [at0_of (by rw [ls_len]; exact h), ← get_bt s k h]; rfl
  · rw [bt_end s (by omega), at0_end (by rw [ls_len]; omega)]; rfl
theorem at0_take (l : List UInt8) (n k : Nat) (h : k < n) : at0 (l.take n) k = at0 l k := by
  unfold at0; rw [List.getD_eq_getElem?_getD, List.getD_eq_getElem?_getD, List.getElem?_take, if_pos h]
theorem at0_drop (l : List UInt8) (n k : Nat) : at0 (l.drop n) k = at0 l (n + k) := by
  unfold at0; rw [List.getD_eq_getElem?_getD, List.getD_eq_getElem?_getD, List.getElem?_drop]

/-- The letter of six bits. -/
def lt (n : Nat) : UInt8 := if n = 0 then 96 else UInt8.ofNat (32 + n)
theorem lt_nat (n : Nat) (h : n < 64) : (lt n).toNat = if n = 0 then 96 else 32 + n := by
  unfold lt; split
  · rfl
  · rw [UInt8.toNat_ofNat']; omega
theorem lt_ge (n : Nat) (h : n < 64) : 33 ≤ (lt n).toNat ∧ (lt n).toNat ≤ 96 := by rw [lt_nat n h]; split <;> omega
/-- Three bytes as one number. -/
def val3 (l : List UInt8) : Nat := 65536 * at0 l 0 + 256 * at0 l 1 + at0 l 2
theorem val3_lt (l : List UInt8) : val3 l < 16777216 := by
  have := at0_lt l 0; have := at0_lt l 1; have := at0_lt l 2
  unfold val3; omega
theorem val3_take (l : List UInt8) (n : Nat) (h : 3 ≤ n) : val3 (l.take n) = val3 l := by
  unfold val3; rw [at0_take _ _ _ (by omega), at0_take _ _ _ (by omega), at0_take _ _ _ (by omega)]
def four (v : Nat) : List UInt8 := [lt (v / 262144), lt (v / 4096 % 64), lt (v / 64 % 64), lt (v % 64)]
theorem four_len (v : Nat) : (four v).length = 4 := rfl
theorem four_ge (v : Nat) (h : v < 16777216) : ∀ c ∈ four v, 33 ≤ c.toNat ∧ c.toNat ≤ 96 := by
  intro c hc
  simp only [four, List.mem_cons, List.not_mem_nil, or_false] at hc
  rcases hc with rfl | rfl | rfl | rfl <;> exact lt_ge _ (by omega)
def body (l : List UInt8) : List UInt8 := if h : l = [] then [] else four (val3 l) ++ body (l.drop 3)
termination_by l.length
decreasing_by have := List.length_pos_iff.2 h; simp; omega
theorem body_nil : body [] = [] := by rw [body]; simp
theorem body_cons {l : List UInt8} (h : l ≠ []) : body l = four (val3 l) ++ body (l.drop 3) := by rw [body, dif_neg h]
theorem body_len (l : List UInt8) : (body l).length = (l.length + 2) / 3 * 4 := by
  by_cases h : l = []
  · subst h; rw [body_nil]; rfl
  · have hp := List.length_pos_iff.2 h
    rw [body_cons h, List.length_append, four_len, body_len (l.drop 3), List.length_drop]; omega
termination_by l.length
decreasing_by have := List.length_pos_iff.2 h; simp; omega
theorem body_ge (l : List UInt8) : ∀ c ∈ body l, 33 ≤ c.toNat ∧ c.toNat ≤ 96 := by
  by_cases h : l = []
  · subst h; rw [body_nil]; intro c hc; cases hc
  · intro c hc
    rw [body_cons h, List.mem_append] at hc
    rcases hc with hc | hc
    · exact four_ge _ (val3_lt l) c hc
    · exact body_ge (l.drop 3) c hc
termination_by l.length
decreasing_by have := List.length_pos_iff.2 h; simp; omega
/-- A line of bytes. -/
def line (l : List UInt8) : List UInt8 := lt l.length :: (body l ++ [10])
def endL : List UInt8 := [101, 110, 100, 10]
/-- All lines behind the first one. -/
def restL (l : List UInt8) : List UInt8 := if h : l = [] then line [] ++ endL else line (l.take 45) ++ restL (l.drop 45)
termination_by l.length
decreasing_by have := List.length_pos_iff.2 h; simp; omega
theorem restL_nil : restL [] = line [] ++ endL := by rw [restL]; simp
theorem restL_cons {l : List UInt8} (h : l ≠ []) : restL l = line (l.take 45) ++ restL (l.drop 45) := by rw [restL, dif_neg h]
theorem line_len (l : List UInt8) : (line l).length = 2 + (l.length + 2) / 3 * 4 := by unfold line; simp [body_len]; omega
theorem restL_len (l : List UInt8) : (restL l).length = l.length / 45 * 62 + 6 + if 0 < l.length % 45 then 2 + (l.length % 45 + 2) / 3 * 4 else 0 := by
  by_cases h : l = []
  · subst h; rw [restL_nil, List.length_append, line_len]; rfl
  · have hp := List.length_pos_iff.2 h
    rw [restL_cons h, List.length_append, line_len, restL_len (l.drop 45), List.length_drop, List.length_take]
    by_cases h45 : 45 ≤ l.length
    · rw [Nat.min_eq_left h45, show (l.length - 45) / 45 = l.length / 45 - 1 by omega, show (l.length - 45) % 45 = l.length % 45 by omega]
      have : 1 ≤ l.length / 45 := by omega
      split <;> omega
    · rw [Nat.min_eq_right (by omega), show l.length - 45 = 0 by omega]
      rw [if_neg (by omega), if_pos (by omega)]; omega
termination_by l.length
decreasing_by have := List.length_pos_iff.2 h; simp; omega

/-- Six bits of a letter. -/
def sixO (c : UInt8) : Option Nat := if 32 ≤ c.toNat ∧ c.toNat ≤ 96 then some ((c.toNat - 32) % 64) else none
theorem sixO_lt (n : Nat) (h : n < 64) : sixO (lt n) = some n := by
  unfold sixO; rw [lt_nat n h]; split
  · subst_vars; rfl
  · rw [if_pos (by omega)]; congr 1; omega
theorem sixO_small {c : UInt8} {n : Nat} (h : sixO c = some n) : n < 64 := by
  unfold sixO at h; split at h
  · cases h; omega
  · cases h
def r4 : List UInt8 → Option Nat
  | a :: b :: c :: d :: _ => match sixO a, sixO b, sixO c, sixO d with
    | some a, some b, some c, some d => some (262144 * a + 4096 * b + 64 * c + d)
    | _, _, _, _ => none
  | _ => none
theorem r4_four (v : Nat) (h : v < 16777216) (r : List UInt8) : r4 (four v ++ r) = some v := by
  show r4 (_ :: _ :: _ :: _ :: r) = _
  simp only [r4]
  rw [sixO_lt _ (by omega), sixO_lt _ (by omega), sixO_lt _ (by omega), sixO_lt _ (by omega)]
  simp only
  congr 1; omega
def three (v : Nat) : List UInt8 := [UInt8.ofNat (v / 65536), UInt8.ofNat (v / 256), UInt8.ofNat v]
theorem three_len (v : Nat) : (three v).length = 3 := rfl
/-- So many bytes of letters. -/
def gr (n : Nat) (r : List UInt8) : Option (List UInt8) := if h : n = 0 then some [] else match r4 r with
  | none => none
  | some v => (gr (n - 3) (r.drop 4)).map ((three v).take n ++ ·)
termination_by n
theorem gr_zero (r : List UInt8) : gr 0 r = some [] := by rw [gr]; simp
theorem gr_none {n : Nat} {r : List UInt8} (h : 0 < n) (h4 : r4 r = none) : gr n r = none := by rw [gr, dif_neg (by omega), h4]
theorem gr_some {n v : Nat} {r : List UInt8} (h : 0 < n) (h4 : r4 r = some v) : gr n r = (gr (n - 3) (r.drop 4)).map ((three v).take n ++ ·) := by rw [gr, dif_neg (by omega), h4]
theorem gr_len (n : Nat) (r d : List UInt8) (h : gr n r = some d) : d.length = n := by
  by_cases h0 : n = 0
  · subst h0; rw [gr_zero] at h; cases h; rfl
  · cases h4 : r4 r with
    | none => rw [gr_none (by omega) h4] at h; cases h
    | some v =>
      rw [gr_some (by omega) h4] at h
      cases hg : gr (n - 3) (r.drop 4) with
      | none => rw [hg] at h; cases h
      | some d' =>
        rw [hg] at h
        simp only [Option.map_some, Option.some.injEq] at h
        have ih := gr_len (n - 3) (r.drop 4) d' hg
        rw [← h, List.length_append, List.length_take, three_len, ih]; omega
termination_by n
theorem three_val (l : List UInt8) (h : 0 < l.length) : (three (val3 l)).take l.length = l.take 3 := by
  have h0 := at0_lt l 0; have h1 := at0_lt l 1; have h2 := at0_lt l 2
  have e : three (val3 l) = [UInt8.ofNat (at0 l 0), UInt8.ofNat (at0 l 1), UInt8.ofNat (at0 l 2)] := by
    unfold three val3
    have a1 : UInt8.ofNat ((65536 * at0 l 0 + 256 * at0 l 1 + at0 l 2) / 65536) = UInt8.ofNat (at0 l 0) := by congr 1; omega
    have a2 : UInt8.ofNat ((65536 * at0 l 0 + 256 * at0 l 1 + at0 l 2) / 256) = UInt8.ofNat (at0 l 1) := by apply UInt8.toNat_inj.1; rw [UInt8.toNat_ofNat', UInt8.toNat_ofNat']; omega
    have a3 : UInt8.ofNat (65536 * at0 l 0 + 256 * at0 l 1 + at0 l 2) = UInt8.ofNat (at0 l 2) := by apply UInt8.toNat_inj.1; rw [UInt8.toNat_ofNat', UInt8.toNat_ofNat']; omega
    rw [a1, a2, a3]
  rw [e]
  match l, h with
  | [a], _ => simp [at0]
  | [a, b], _ => simp [at0]
  | a :: b :: c :: r, _ => simp [at0]
theorem gr_body (l r : List UInt8) : gr l.length (body l ++ r) = some l := by
  by_cases h : l = []
  · subst h; exact gr_zero _
  · have hp := List.length_pos_iff.2 h
    rw [body_cons h, List.append_assoc, gr_some hp (r4_four _ (val3_lt l) _)]
    have e : (four (val3 l) ++ (body (l.drop 3) ++ r)).drop 4 = body (l.drop 3) ++ r := rfl
    rw [e, show l.length - 3 = (l.drop 3).length by simp, gr_body (l.drop 3) r, three_val l hp]
    simp
termination_by l.length
decreasing_by have := List.length_pos_iff.2 h; simp; omega
/-- The bytes of a line, without its newline. -/
def bytesOf : List UInt8 → Option (List UInt8)
  | [] => none
  | c :: r => match sixO c with
    | none => none
    | some n => if n ≤ 45 ∧ r.length = (n + 2) / 3 * 4 then gr n r else none
theorem bytesOf_line (l : List UInt8) (h : l.length ≤ 45) : bytesOf (lt l.length :: body l) = some l := by
  simp only [bytesOf, sixO_lt _ (show l.length < 64 by omega)]
  rw [if_pos ⟨h, body_len l⟩]
  have := gr_body l []
  rw [List.append_nil] at this
  exact this
/-- Where the first newline stands (the text's length: nowhere). -/
def nl (l : List UInt8) : Nat := l.idxOf 10
/-- Lines read, from a line's beginning on. -/
def dec (l acc : List UInt8) : Option (List UInt8) := if h : nl l < l.length then
  match bytesOf (l.take (nl l)) with
  | none => none
  | some d => if d = [] then (if l.drop (nl l + 1) = endL then some acc else none) else dec (l.drop (nl l + 1)) (acc ++ d)
  else none
termination_by l.length
decreasing_by simp; omega
theorem dec_none {l acc : List UInt8} (h : ¬ nl l < l.length) : dec l acc = none := by rw [dec, dif_neg h]
theorem dec_bad {l acc : List UInt8} (h : nl l < l.length) (h2 : bytesOf (l.take (nl l)) = none) : dec l acc = none := by rw [dec, dif_pos h, h2]
theorem dec_end {l acc : List UInt8} (h : nl l < l.length) (h2 : bytesOf (l.take (nl l)) = some []) : dec l acc = if l.drop (nl l + 1) = endL then some acc else none := by rw [dec, dif_pos h, h2]; simp
theorem dec_next {l acc d : List UInt8} (h : nl l < l.length) (h2 : bytesOf (l.take (nl l)) = some d) (hd : d ≠ []) : dec l acc = dec (l.drop (nl l + 1)) (acc ++ d) := by rw [dec, dif_pos h, h2]; simp [hd]
theorem nl_app (a r : List UInt8) (h : ∀ c ∈ a, c ≠ 10) : nl (a ++ 10 :: r) = a.length := by
  induction a with
  | nil => simp [nl]
  | cons x a ih =>
    have hx : x ≠ 10 := h x (by simp)
    unfold nl at ih ⊢
    rw [List.cons_append, List.idxOf_cons, ih fun c hc => h c (by simp [hc])]
    have hxb : (x == 10) = false := by simpa using hx
    rw [hxb]; rfl
theorem ne10 {c : UInt8} (h : 33 ≤ c.toNat ∧ c.toNat ≤ 96) : c ≠ 10 := by rintro rfl; exact absurd h.1 (by decide)
theorem nl_line (l r : List UInt8) (h : l.length < 64) : nl (line l ++ r) = 1 + (body l).length ∧ (line l ++ r).take (nl (line l ++ r)) = lt l.length :: body l ∧ (line l ++ r).drop (nl (line l ++ r) + 1) = r := by
  have e : line l ++ r = (lt l.length :: body l) ++ 10 :: r := by simp [line]
  have hn : nl (line l ++ r) = 1 + (body l).length := by
    rw [e, nl_app _ _ (by
      intro c hc
      rcases List.mem_cons.1 hc with rfl | hc
      · exact ne10 (lt_ge _ h)
      · exact ne10 (body_ge l c hc))]
    simp; omega
  refine ⟨hn, ?_, ?_⟩
  · rw [hn, e, show 1 + (body l).length = (lt l.length :: body l).length by simp; omega, List.take_left]
  · rw [hn, show line l ++ r = ((lt l.length :: body l) ++ [10]) ++ r by simp [line], List.drop_left' (by simp; omega)]
theorem dec_restL (l acc : List UInt8) : dec (restL l) acc = some (acc ++ l) := by
  by_cases h : l = []
  · subst h
    obtain ⟨h1, h2, h3⟩ := nl_line [] endL (by simp)
    rw [restL_nil, dec_end (by rw [h1, List.length_append, line_len]; simp [body_nil, endL]) (by rw [h2]; exact bytesOf_line [] (by simp)), h3, if_pos rfl, List.append_nil]
  · have hp := List.length_pos_iff.2 h
    have hle : (l.take 45).length ≤ 45 := by simp; omega
    obtain ⟨h1, h2, h3⟩ := nl_line (l.take 45) (restL (l.drop 45)) (by omega)
    rw [restL_cons h, dec_next (d := l.take 45) (by rw [h1, List.length_append, line_len, body_len]; omega) (by rw [h2]; exact bytesOf_line _ hle) (by intro e; simp at e; exact h e), h3, dec_restL (l.drop 45)]
    simp
termination_by l.length
decreasing_by have := List.length_pos_iff.2 h; simp; omega
end Go.Proofs.Ytdjfapaebonadaa
