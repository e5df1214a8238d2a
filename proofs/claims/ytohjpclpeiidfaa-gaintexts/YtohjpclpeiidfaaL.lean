/- Plain facts on quotients of whole numbers as floats: one of a number and itself; at least one of a greater one; never below nought. -/
import Derived.Test.YtohjpclpeiidfaaI
namespace Go.Proofs.Ytohjpclpeiidfaa
set_option linter.unusedVariables false
set_option linter.unusedSimpArgs false
namespace Fl

theorem cut_zero (N : Nat) : Ieee.Toward.even.cut false N 0 = N := by
  unfold Ieee.Toward.cut
  simp [Nat.mod_one]
theorem log_le {n : Nat} (h : n < 9007199254740992) : n.log2 ≤ 52 := by
  rcases Nat.eq_zero_or_pos n with h0 | h0
  · subst h0; decide
  · have h1 := Nat.log2_self_le (n := n) (by omega)
    rcases Nat.lt_or_ge 52 n.log2 with h2 | h2
    · have : 2 ^ 53 ≤ 2 ^ n.log2 := Nat.pow_le_pow_right (by omega) h2
      omega
    · exact h2

/-- The digits of a number, the first one in the place of 2 ^ 52. -/
def dg (n : Nat) : Nat := n * 2 ^ (52 - n.log2)
theorem dg_range {n : Nat} (h0 : 0 < n) (h : n < 9007199254740992) : 4503599627370496 ≤ dg n ∧ dg n < 9007199254740992 := by
  have hl := log_le h
  have h1 := Nat.log2_self_le (n := n) (by omega)
  have h2 := Nat.lt_log2_self (n := n)
  unfold dg
  have e : 2 ^ n.log2 * 2 ^ (52 - n.log2) = 2 ^ 52 := by rw [← Nat.pow_add]; congr 1; omega
  have e2 : 2 ^ (n.log2 + 1) * 2 ^ (52 - n.log2) = 2 ^ 53 := by rw [← Nat.pow_add]; congr 1; omega
  have a := Nat.mul_le_mul_right (2 ^ (52 - n.log2)) h1
  have b := Nat.mul_lt_mul_of_pos_right h2 (Nat.two_pow_pos (52 - n.log2))
  rw [e] at a
  rw [e2] at b
  exact ⟨a, b⟩
theorem fb : dbl.fractionBits = 52 := rfl
theorem near_is {m : Nat} (h : m ≠ 0) (pl last : Int) (hl : max (pl + m.log2 - 52) (-1074) = last) :
    dbl.nearest false m pl = min ((last - -1074).toNat * 4503599627370496 + Ieee.Toward.even.cut false (m <<< (pl - last).toNat) (last - pl).toNat) 9218868437227405312 := by
  unfold Ieee.Format.nearest
  rw [if_neg h]
  simp only [bi, ir, lp, fb]
  rw [show pl + (m.log2 : Int) - ((52 : Nat) : Int) = pl + m.log2 - 52 from rfl, hl]
  unfold Ieee.Format.word
  simp only [Bool.false_eq_true, if_false]
theorem of_is {n : Nat} (h0 : 0 < n) (h : n < 9007199254740992) : of n = (n.log2 + 1022) * 4503599627370496 + dg n := by
  have hl := log_le h
  have hd := dg_range h0 h
  have e : of n = dbl.nearest (decide ((n : Int) < 0)) n 0 := rfl
  rw [e, decide_eq_false (by omega), near_is (by omega) 0 ((n.log2 : Int) - 52) (by omega)]
  have l2 : ((0 : Int) - ((n.log2 : Int) - 52)).toNat = 52 - n.log2 := by omega
  have l3 : ((n.log2 : Int) - 52 - 0).toNat = 0 := by omega
  have l4 : ((n.log2 : Int) - 52 - -1074).toNat = n.log2 + 1022 := by omega
  rw [l2, l3, l4, cut_zero, Nat.shiftLeft_eq]
  show min ((n.log2 + 1022) * 4503599627370496 + dg n) 9218868437227405312 = _
  omega
theorem read_of {n : Nat} (h0 : 0 < n) (h : n < 9007199254740992) : dbl.read (of n) = .number false (dg n) ((n.log2 : Int) - 52) := by
  have hl := log_le h
  have hd := dg_range h0 h
  have e := of_is h0 h
  have hb : of n < 9218868437227405312 := by omega
  have hr : rg (of n) = of n := Nat.mod_eq_of_lt (by omega)
  have hs : sg (of n) = false := by unfold sg; rw [Nat.div_eq_of_lt (by omega)]; rfl
  have hdiv : of n / 4503599627370496 = n.log2 + 1023 := by omega
  have hmod : of n % 4503599627370496 = dg n - 4503599627370496 := by omega
  rw [read_is, hr, hs, if_neg (by omega), if_pos hb, hdiv, hmod]
  have a1 : 4503599627370496 + (dg n - 4503599627370496) = dg n := by omega
  have a2 : -1074 + ((n.log2 + 1023 - 1 : Nat) : Int) = (n.log2 : Int) - 52 := by omega
  rw [a1, a2]
theorem of_zero : of (0 : Nat) = 0 := by decide +kernel

theorem log2_of {n k : Nat} (h1 : 2 ^ k ≤ n) (h2 : n < 2 ^ (k + 1)) : n.log2 = k := by
  have h0 : n ≠ 0 := by have := Nat.two_pow_pos k; omega
  exact (Nat.log2_eq_iff h0).2 ⟨h1, h2⟩
theorem dg_log {n : Nat} (h0 : 0 < n) (h : n < 9007199254740992) : (dg n).log2 = 52 := log2_of (dg_range h0 h).1 (dg_range h0 h).2

/-- The quotient of two numbers above nought. -/
def qm (p q : Nat) : Nat := 2 * (dg p * 2 ^ 54 / dg q) + (dg p * 2 ^ 54 % dg q != 0).toNat
theorem dv_is {p q : Nat} (hp : 0 < p) (hp' : p < 9007199254740992) (hq : 0 < q) (hq' : q < 9007199254740992) :
    dv (of p) (of q) = some (dbl.nearest false (qm p q) ((p.log2 : Int) - q.log2 - 55)) := by
  have hd := dg_range hq hq'
  unfold dv Ieee.Format.div
  rw [read_of hp hp', read_of hq hq']
  unfold Ieee.Datum.quotient
  simp only [if_neg (show ¬ dg q = 0 by omega), dg_log hp hp', dg_log hq hq']
  rw [show dbl.fractionBits + 2 + 52 - 52 = 54 from rfl, Nat.shiftLeft_eq]
  simp only [Option.map_some]
  unfold qm
  have e : (p.log2 : Int) - 52 - ((q.log2 : Int) - 52) - (54 : Nat) - 1 = (p.log2 : Int) - q.log2 - 55 := by omega
  show some (dbl.nearest (false ^^ false) _ ((p.log2 : Int) - 52 - ((q.log2 : Int) - 52) - (54 : Nat) - 1)) = _
  rw [e]
  rfl
theorem ks_same {p : Nat} (hp : 0 < p) (hp' : p < 9007199254740992) : ks p p = 4607182418800017408 := by
  have hd := dg_range hp hp'
  unfold ks kq
  rw [dv_is hp hp' hp hp']
  have e : qm p p = 36028797018963968 := by
    unfold qm
    rw [Nat.mul_div_cancel_left _ (by omega), Nat.mul_mod_right]; rfl
  rw [e, show (p.log2 : Int) - p.log2 - 55 = -55 by omega]
  decide +kernel
theorem log_mono {p q : Nat} (h : q ≤ p) (hq : 0 < q) : q.log2 ≤ p.log2 := by
  rcases Nat.lt_or_ge p.log2 q.log2 with h1 | h1
  · have h2 := Nat.log2_self_le (n := q) (by omega)
    have h3 := Nat.lt_log2_self (n := p)
    have : 2 ^ (p.log2 + 1) ≤ 2 ^ q.log2 := Nat.pow_le_pow_right (by omega) h1
    omega
  · exact h1
theorem near_pos (m : Nat) (pl : Int) (h : 0 < m) : ∃ r, dbl.nearest false m pl = r ∧ r ≤ 9218868437227405312 := by
  refine ⟨_, rfl, ?_⟩
  unfold Ieee.Format.nearest
  rw [if_neg (by omega)]
  simp only [ir]
  unfold Ieee.Format.word
  simp only [Bool.false_eq_true, if_false]
  exact Nat.min_le_right _ _
theorem ky_small {r : Nat} (h : r ≤ 9218868437227405312) : ky r = r := by
  have hr : rg r = r := Nat.mod_eq_of_lt (by omega)
  have hs : sg r = false := by unfold sg; rw [Nat.div_eq_of_lt (by omega)]; rfl
  unfold ky nn
  rw [hr, hs, decide_eq_false (by omega)]
  rfl

theorem cut_ge {m d : Nat} (h : 2 ^ (52 + d) ≤ m) : 4503599627370496 ≤ Ieee.Toward.even.cut false m d := by
  unfold Ieee.Toward.cut
  have hm : m ≠ 0 := by have := Nat.two_pow_pos (52 + d); omega
  have hl : 52 + d ≤ m.log2 := (Nat.le_log2 hm).2 h
  have e : 1 <<< min d (m.log2 + 2) = 2 ^ d := by rw [Nat.min_eq_left (by omega), Nat.shiftLeft_eq, Nat.one_mul]
  simp only [e]
  have : 4503599627370496 ≤ m / 2 ^ d := by
    rw [Nat.le_div_iff_mul_le (Nat.two_pow_pos d)]
    rw [Nat.pow_add] at h
    exact h
  omega
theorem sum_ge {X Y : Nat} (hx : 1022 ≤ X) (hy : 4503599627370496 ≤ Y) : 4607182418800017408 ≤ min (X * 4503599627370496 + Y) 9218868437227405312 := by
  have : 1022 * 4503599627370496 ≤ X * 4503599627370496 := Nat.mul_le_mul_right _ hx
  omega
/-- A number that is at least one has at least one's word. -/
theorem near_ge {m k : Nat} (h : 2 ^ k ≤ m) (h53 : 53 ≤ m.log2) (pl : Int) (hp : -(k : Int) ≤ pl) : 4607182418800017408 ≤ dbl.nearest false m pl := by
  have hm : m ≠ 0 := by
    have := Nat.two_pow_pos k
    intro e
    rw [e] at h
    exact absurd (Nat.lt_of_lt_of_le this h) (Nat.lt_irrefl 0)
  have hl : k ≤ m.log2 := (Nat.le_log2 hm).2 h
  have l1 : max (pl + (m.log2 : Int) - 52) (-1074) = pl + m.log2 - 52 := by clear h; omega
  have l2 : (pl - (pl + (m.log2 : Int) - 52)).toNat = 0 := by clear h; omega
  have l3 : (pl + (m.log2 : Int) - 52 - pl).toNat = m.log2 - 52 := by clear h; omega
  have hx : 1022 ≤ (pl + (m.log2 : Int) - 52 - -1074).toNat := by clear h; omega
  have hc := cut_ge (m := m) (d := m.log2 - 52) (by rw [show 52 + (m.log2 - 52) = m.log2 by clear h; omega]; exact Nat.log2_self_le hm)
  rw [near_is hm pl (pl + m.log2 - 52) l1, l2, l3, Nat.shiftLeft_zero]
  exact sum_ge hx hc
theorem ks_ge {p q : Nat} (hq : 0 < q) (h : q ≤ p) (hp' : p < 9007199254740992) : 4607182418800017408 ≤ ks p q := by
  have hq' : q < 9007199254740992 := by omega
  have hp : 0 < p := by omega
  have d1 := dg_range hp hp'
  have d2 := dg_range hq hq'
  have hlm := log_mono h hq
  have hlp := log_le hp'
  unfold ks kq
  rw [dv_is hp hp' hq hq']
  obtain ⟨r, hr, hr2⟩ := near_pos (qm p q) ((p.log2 : Int) - q.log2 - 55) (by
    unfold qm
    have : 0 < dg p * 2 ^ 54 / dg q := Nat.div_pos (by omega) (by omega)
    omega)
  simp only [hr]
  rw [ky_small hr2, ← hr]
  have hqm : 2 * (dg p * 2 ^ 54 / dg q) ≤ qm p q := Nat.le_add_right _ _
  have big : 9007199254740992 ≤ dg p * 2 ^ 54 / dg q := by
    rw [Nat.le_div_iff_mul_le (by omega)]; omega
  have h53 : 53 ≤ (qm p q).log2 := (Nat.le_log2 (by omega)).2 (by show 9007199254740992 ≤ _; omega)
  have key : ∃ k : Nat, 2 ^ k ≤ qm p q ∧ -(k : Int) ≤ (p.log2 : Int) - q.log2 - 55 := by
    by_cases e : p.log2 = q.log2
    · refine ⟨55, ?_, by omega⟩
      have hdd : dg q ≤ dg p := by
        unfold dg; rw [e]; exact Nat.mul_le_mul_right _ h
      have : 2 ^ 54 ≤ dg p * 2 ^ 54 / dg q := by
        rw [Nat.le_div_iff_mul_le (by omega), Nat.mul_comm]
        exact Nat.mul_le_mul_right _ hdd
      omega
    · exact ⟨54, by omega, by omega⟩
  obtain ⟨k, hk1, hk2⟩ := key
  have := near_ge hk1 h53 _ hk2
  omega
/-- A share of numbers that are not below nought isn't below it either. -/
theorem ks_nonneg {p q : Nat} (hp' : p < 9007199254740992) (hq' : q < 9007199254740992) : 0 ≤ ks p q := by
  by_cases hp : p = 0
  · subst hp
    by_cases hq : q = 0
    · subst hq; have := ks00; show 0 ≤ ks 0 0; rw [this]; decide
    · have hd := dg_range (n := q) (by omega) hq'
      have e : dv (of (0 : Nat)) (of q) = some 0 := by
        unfold dv Ieee.Format.div
        rw [of_zero, read_of (by omega) hq', show dbl.read 0 = .number false 0 (-1074) from rfl]
        unfold Ieee.Datum.quotient
        simp only [if_neg (show ¬ dg q = 0 by omega)]
        rw [Nat.zero_shiftLeft, Nat.zero_div, Nat.zero_mod]
        rfl
      unfold ks kq
      rw [e]; decide
  · by_cases hq : q = 0
    · subst hq
      have hd := dg_range (n := p) (by omega) hp'
      have e : dv (of p) (of (0 : Nat)) = some 9218868437227405312 := by
        unfold dv Ieee.Format.div
        rw [of_zero, read_of (by omega) hp', show dbl.read 0 = .number false 0 (-1074) from rfl]
        unfold Ieee.Datum.quotient
        simp only [if_pos, if_neg (show ¬ dg p = 0 by omega)]
        rfl
      unfold ks kq
      rw [e]; decide
    · have d1 := dg_range (n := p) (by omega) hp'
      have d2 := dg_range (n := q) (by omega) hq'
      unfold ks kq
      rw [dv_is (by omega) hp' (by omega) hq']
      obtain ⟨r, hr, hr2⟩ := near_pos (qm p q) ((p.log2 : Int) - q.log2 - 55) (by
        unfold qm
        have : 0 < dg p * 2 ^ 54 / dg q := Nat.div_pos (by omega) (by omega)
        omega)
      simp only [hr]
      rw [ky_small hr2]
      omega
end Fl
end Go.Proofs.Ytohjpclpeiidfaa
