/- Plain: the document's numbers and places are ours. No condition. -/
import Derived.Test.YtckhomeokhhneaaDoorP
namespace Go.Proofs.YtckhomeokhhneaaDoor
open Go.RowKit Go.PlainAid
set_option linter.unusedVariables false
set_option linter.unusedSimpArgs false

theorem pum_ge (M : Nat) : ∀ (l : List UInt8) (acc u : Nat), Lib.parseUintM M acc l = .ok u → acc ≤ u
  | [], acc, u, h => by rw [Lib.parseUintM] at h; injection h with h; omega
  | c :: r, acc, u, h => by
    rw [Lib.parseUintM] at h
    split at h
    · split at h
      · cases h
      · split at h
        · cases h
        · have := pum_ge M r _ u h; omega
    · cases h
/-- The document's number of digits, one by one. -/
def dloop (minus : Bool) : Nat → List UInt8 → Option Nat
  | v, [] => some v
  | v, c :: r => if 48 ≤ c.toNat ∧ c.toNat ≤ 57 then
      if 922337203685477580 < v then none else
      if 9223372036854775808 < 10 * v + (c.toNat - 48) ∨ (10 * v + (c.toNat - 48) = 9223372036854775808 ∧ minus = false) then none else
      dloop minus (10 * v + (c.toNat - 48)) r
    else none
def fit (minus : Bool) (x : Lib.NumEnd Nat) : Option Nat := match x with
  | .ok u => if (minus = false ∧ 9223372036854775808 ≤ u) ∨ (minus = true ∧ 9223372036854775808 < u) then none else some u
  | _ => none
theorem dloop_is (minus : Bool) : ∀ (l : List UInt8) (v : Nat), v ≤ 9223372036854775808 → (minus = false → v < 9223372036854775808) → dloop minus v l = fit minus (Lib.parseUintM 18446744073709551615 v l)
  | [], v, h1, h2 => by
    rw [dloop, Lib.parseUintM]
    unfold fit
    simp only
    rw [if_neg]
    rintro (⟨a, b⟩ | ⟨a, b⟩)
    · have := h2 a; omega
    · omega
  | c :: r, v, h1, h2 => by
    rw [dloop, Lib.parseUintM]
    by_cases hd : 48 ≤ c.toNat ∧ c.toNat ≤ 57
    · rw [if_pos hd, if_pos hd]
      have hbig : ∀ x, 9223372036854775808 < x → fit minus (Lib.parseUintM 18446744073709551615 x r) = none := fun x hx => by
        unfold fit
        split
        · rename_i u hu
          have := pum_ge _ _ _ _ hu
          rw [if_pos]
          cases minus
          · left; exact ⟨rfl, by omega⟩
          · right; exact ⟨rfl, by omega⟩
        · rfl
      have heq : minus = false → fit minus (Lib.parseUintM 18446744073709551615 9223372036854775808 r) = none := fun hm => by
        unfold fit
        split
        · rename_i u hu
          have := pum_ge _ _ _ _ hu
          rw [if_pos]
          left; exact ⟨hm, by omega⟩
        · rfl
      have hrg : fit minus .range = none := rfl
      rw [Nat.mul_comm v 10]
      by_cases hv : 922337203685477580 < v
      · rw [if_pos hv]
        symm
        split
        · exact hrg
        · split
          · exact hrg
          · exact hbig _ (by omega)
      · rw [if_neg hv]
        have e1 : ¬ 1844674407370955162 ≤ v := by omega
        have e2 : ¬ 18446744073709551615 < 10 * v + (c.toNat - 48) := by omega
        rw [if_neg e1, if_neg e2]
        by_cases hb : 9223372036854775808 < 10 * v + (c.toNat - 48) ∨ (10 * v + (c.toNat - 48) = 9223372036854775808 ∧ minus = false)
        · rw [if_pos hb]
          symm
          rcases hb with hb | ⟨hb, hm⟩
          · exact hbig _ hb
          · rw [hb]; exact heq hm
        · rw [if_neg hb]
          exact dloop_is minus r _ (by omega) (fun hm => by
            rcases Nat.lt_trichotomy (10 * v + (c.toNat - 48)) 9223372036854775808 with h | h | h
            · exact h
            · exact absurd (Or.inr ⟨h, hm⟩) hb
            · exact absurd (Or.inl h) hb)
    · rw [if_neg hd, if_neg hd]; rfl
/-- The document's number of an argument. -/
def dnum (a : List UInt8) : Option (Bool × Nat) := match a with
  | [] => some (false, 0)
  | c :: r =>
    if c.toNat = 39 ∨ c.toNat = 34 then (if a.length = 2 then some (false, at0 a 1) else none) else
    let rest := if c.toNat = 45 ∨ c.toNat = 43 then r else a
    if rest = [] then none else
    match dloop (decide (c.toNat = 45)) 0 rest with
    | none => none
    | some v => some (decide (c.toNat = 45) && decide (v ≠ 0), v)
def sgd (x : Bool × Nat) : Int := if x.1 then -(x.2 : Int) else x.2
theorem dnum_is (a : List UInt8) : numO a = (dnum a).map sgd := by
  unfold numO dnum
  cases a with
  | nil => rfl
  | cons c r =>
    rw [if_neg (by simp)]
    simp only
    have h0 : at0 (c :: r) 0 = c.toNat := rfl
    rw [h0]
    by_cases hq : c.toNat = 39 ∨ c.toNat = 34
    · rw [if_pos hq]
      by_cases hl : (c :: r).length = 2
      · rw [if_pos ⟨hl, hq⟩, if_pos hl]; rfl
      · rw [if_neg (fun h => hl h.1), if_neg hl]
        have : Lib.parseIntB 64 (c :: r) = .syntax := by
          unfold Lib.parseIntB
          simp only
          rw [if_neg (by omega)]
          unfold Lib.parseUintB
          rw [if_neg (by simp), Lib.parseUintM, if_neg (by omega)]
        rw [this]; rfl
    · rw [if_neg hq, if_neg (fun h => hq h.2)]
      unfold Lib.parseIntB
      simp only
      have hcm : (c.toNat = 45 ∨ c.toNat = 43) ↔ (c.toNat = 43 ∨ c.toNat = 45) := Or.comm
      rw [show (if c.toNat = 45 ∨ c.toNat = 43 then r else c :: r) = (if c.toNat = 43 ∨ c.toNat = 45 then r else c :: r) from by simp only [hcm]]
      generalize (if c.toNat = 43 ∨ c.toNat = 45 then r else c :: r) = rest
      unfold Lib.parseUintB
      by_cases hr : rest = []
      · rw [if_pos hr, if_pos hr]; rfl
      · rw [if_neg hr, if_neg hr, dloop_is _ _ _ (by omega) (by omega), show (2 ^ 64 - 1 : Nat) = 18446744073709551615 from rfl]
        cases Lib.parseUintM 18446744073709551615 0 rest with
        | «syntax» => rfl
        | range => rfl
        | ok u =>
          unfold fit
          simp only
          by_cases hm : c.toNat = 45
          · simp only [hm, decide_true, not_true, false_and, if_false, true_and, Bool.true_eq_false, false_or, if_true, Bool.true_and]
            by_cases hu : 9223372036854775808 < u
            · rw [if_pos (show 2 ^ (64 - 1) < u from hu), if_pos hu]; rfl
            · rw [if_neg (show ¬ 2 ^ (64 - 1) < u from hu), if_neg hu]
              simp only [Option.map, sgd]
              by_cases h0 : u = 0
              · subst h0; rfl
              · simp [h0]
          · simp only [hm, decide_false, not_false_iff, true_and, false_and, if_false, Bool.false_eq_true, or_false, Bool.false_and]
            by_cases hu : 9223372036854775808 ≤ u
            · rw [if_pos (show 2 ^ (64 - 1) ≤ u from hu), if_pos hu]; rfl
            · rw [if_neg (show ¬ 2 ^ (64 - 1) ≤ u from hu), if_neg hu]
              rfl

/-- The document's digits: at most three, else none. -/
def dg (r : List UInt8) : Option Nat × Nat := let d := dig 4 r 0 0; if d.2 = 4 then (none, 4) else (some d.1, d.2)
theorem dig_more : ∀ (k : Nat) (r : List UInt8) (v n : Nat), (dig (k + 1) r v n).2 < n + k + 1 → dig k r v n = dig (k + 1) r v n
  | 0, r, v, n, h => by
    cases r with
    | nil => rfl
    | cons c r =>
      rw [dig] at h ⊢
      rw [dig]
      split
      · rename_i hc; rw [if_pos hc, dig] at h; simp at h
      · rfl
  | k + 1, r, v, n, h => by
    cases r with
    | nil => rfl
    | cons c r =>
      rw [dig] at h ⊢
      rw [dig]
      by_cases hc : 48 ≤ c.toNat ∧ c.toNat ≤ 57
      · rw [if_pos hc, if_pos hc]
        rw [if_pos hc] at h
        exact dig_more k r _ _ (by omega)
      · rw [if_neg hc, if_neg hc]
theorem dig_full : ∀ (k : Nat) (r : List UInt8) (v n : Nat), (dig (k + 1) r v n).2 = n + k + 1 → (dig k r v n).2 = n + k ∧ 48 ≤ at0 r k ∧ at0 r k ≤ 57
  | 0, r, v, n, h => by
    cases r with
    | nil => rw [dig] at h; simp at h
    | cons c r =>
      rw [dig] at h
      by_cases hc : 48 ≤ c.toNat ∧ c.toNat ≤ 57
      · exact ⟨rfl, hc⟩
      · rw [if_neg hc] at h; simp at h
  | k + 1, r, v, n, h => by
    cases r with
    | nil => rw [dig] at h; simp only at h; omega
    | cons c r =>
      rw [dig] at h ⊢
      by_cases hc : 48 ≤ c.toNat ∧ c.toNat ≤ 57
      · rw [if_pos hc] at h ⊢
        have := dig_full k r (10 * v + (c.toNat - 48)) (n + 1) (by omega)
        exact ⟨by omega, this.2⟩
      · rw [if_neg hc] at h; simp only at h; omega
theorem dg_some (r : List UInt8) (h : (dig 4 r 0 0).2 ≠ 4) : dg r = (some (dig 3 r 0 0).1, (dig 3 r 0 0).2) := by
  have h1 := (dig_le 4 r 0 0).2.1
  unfold dg
  simp only
  rw [if_neg h, dig_more 3 r 0 0 (Nat.lt_of_le_of_ne h1 h)]
theorem dg_none (r : List UInt8) (h : (dig 4 r 0 0).2 = 4) : dg r = (none, 4) ∧ (dig 3 r 0 0).2 = 3 ∧ 48 ≤ at0 r 3 ∧ at0 r 3 ≤ 57 := by
  have := dig_full 3 r 0 0 (by rw [h])
  refine ⟨?_, by omega, this.2⟩
  unfold dg
  simp only
  rw [if_pos h]
/-- The document's place. -/
def dplace (r : List UInt8) : Option (Pl × Nat) :=
  let f := flags r 0 false false
  let w := dg (r.drop f.1)
  let at1 := f.1 + w.2
  if at0 r at1 = 46 then
    let q := dg (r.drop (at1 + 1))
    match q.1, w.1 with
    | some qv, some wv => if isLet (at0 r (at1 + 1 + q.2)) then some (⟨f.2.1, f.2.2, wv, some qv, at0 r (at1 + 1 + q.2)⟩, at1 + 1 + q.2 + 1) else none
    | _, _ => none
  else match w.1 with
    | some wv => if isLet (at0 r at1) then some (⟨f.2.1, f.2.2, wv, none, at0 r at1⟩, at1 + 1) else none
    | none => none
theorem notLet {c : Nat} (h1 : 48 ≤ c) (h2 : c ≤ 57) : isLet c = false := by
  have : c = 48 ∨ c = 49 ∨ c = 50 ∨ c = 51 ∨ c = 52 ∨ c = 53 ∨ c = 54 ∨ c = 55 ∨ c = 56 ∨ c = 57 := by omega
  rcases this with rfl | rfl | rfl | rfl | rfl | rfl | rfl | rfl | rfl | rfl <;> rfl
theorem dplace_is (r : List UInt8) : dplace r = placeO r := by
  unfold dplace placeO precAt
  simp only
  generalize flags r 0 false false = f
  by_cases hw : (dig 4 (r.drop f.1) 0 0).2 = 4
  · obtain ⟨h1, h2, h3, h4⟩ := dg_none _ hw
    rw [at0_drop] at h3 h4
    rw [h1, h2]
    simp only
    rw [if_neg (show ¬ at0 r (f.1 + 3) = 46 by omega)]
    simp only
    rw [notLet h3 h4]
    split
    · split
      · rename_i a b c d; simp at d
      · rfl
    · rfl
  · rw [dg_some _ hw]
    simp only
    by_cases hd : at0 r (f.1 + (dig 3 (r.drop f.1) 0 0).2) = 46
    · rw [if_pos hd, if_pos hd]
      simp only
      by_cases hq : (dig 4 (r.drop (f.1 + (dig 3 (r.drop f.1) 0 0).2 + 1)) 0 0).2 = 4
      · obtain ⟨h1, h2, h3, h4⟩ := dg_none _ hq
        rw [at0_drop] at h3 h4
        rw [h1, h2, notLet h3 h4]
        simp
      · rw [dg_some _ hq]
    · rw [if_neg hd, if_neg hd]
end Go.Proofs.YtckhomeokhhneaaDoor
