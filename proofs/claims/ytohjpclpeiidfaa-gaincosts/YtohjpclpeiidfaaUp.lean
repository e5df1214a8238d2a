/- Plain: bytes as lines of letters. -/
import Derived.Test.YtohjpclpeiidfaaBy
namespace Go.Proofs.Ytohjpclpeiidfaa
open Go.RowKit Go.PlainAid
set_option linter.unusedSimpArgs false
set_option linter.unusedVariables false
namespace Uu
/-- The letter of six bits. -/
def lt (n : Nat) : UInt8 := if n = 0 then 96 else UInt8.ofNat (32 + n)
theorem lt_nat (n : Nat) (h : n < 64) : (lt n).toNat = if n = 0 then 96 else 32 + n := by
  unfold lt; split
  · rfl
  · rw [UInt8.toNat_ofNat']; omega
theorem lt_ge (n : Nat) (h : n < 64) : 33 ≤ (lt n).toNat ∧ (lt n).toNat ≤ 96 := by rw [lt_nat n h]; split <;> omega
/-- Three bytes as one number. -/
def val3 (l : List UInt8) : Nat := 65536 * at0 l 0 + 256 * at0 l 1 + at0 l 2
theorem val3_lt (l : List UInt8) : val3 l < 16777216 := by
  have := at0_lt l 0; have := at0_lt l 1; have := at0_lt l 2
  unfold val3; omega
theorem val3_take (l : List UInt8) (n : Nat) (h : 3 ≤ n) : val3 (l.take n) = val3 l := by
  unfold val3; rw [at0_take _ _ _ (by omega), at0_take _ _ _ (by omega), at0_take _ _ _ (by omega)]
def four (v : Nat) : List UInt8 := [lt (v / 262144), lt (v / 4096 % 64), lt (v / 64 % 64), lt (v % 64)]
theorem four_len (v : Nat) : (four v).length = 4 := rfl
theorem four_ge (v : Nat) (h : v < 16777216) : ∀ c ∈ four v, 33 ≤ c.toNat ∧ c.toNat ≤ 96 := by
  intro c hc
  simp only [four, List.mem_cons, List.not_mem_nil, or_false] at hc
  rcases hc with rfl | rfl | rfl | rfl <;> exact lt_ge _ (by omega)
def body (l : List UInt8) : List UInt8 := if h : l = [] then [] else four (val3 l) ++ body (l.drop 3)
termination_by l.length
decreasing_by have := List.length_pos_iff.2 h; simp; omega
theorem body_nil : body [] = [] := by rw [body]; simp
theorem body_cons {l : List UInt8} (h : l ≠ []) : body l = four (val3 l) ++ body (l.drop 3) := by rw [body, dif_neg h]
theorem body_len (l : List UInt8) : (body l).length = (l.length + 2) / 3 * 4 := by
  by_cases h : l = []
  · subst h; rw [body_nil]; rfl
  · have hp := List.length_pos_iff.2 h
    rw [body_cons h, List.length_append, four_len, body_len (l.drop 3), List.length_drop]; omega
termination_by l.length
decreasing_by have := List.length_pos_iff.2 h; simp; omega
theorem body_ge (l : List UInt8) : ∀ c ∈ body l, 33 ≤ c.toNat ∧ c.toNat ≤ 96 := by
  by_cases h : l = []
  · subst h; rw [body_nil]; intro c hc; cases hc
  · intro c hc
    rw [body_cons h, List.mem_append] at hc
    rcases hc with hc | hc
    · exact four_ge _ (val3_lt l) c hc
    · exact body_ge (l.drop 3) c hc
termination_by l.length
decreasing_by have := List.length_pos_iff.2 h; simp; omega
/-- A line of bytes. -/
def line (l : List UInt8) : List UInt8 := lt l.length :: (body l ++ [10])
def endL : List UInt8 := [101, 110, 100, 10]
/-- All lines behind the first one. -/
def restL (l : List UInt8) : List UInt8 := if h : l = [] then line [] ++ endL else line (l.take 45) ++ restL (l.drop 45)
termination_by l.length
decreasing_by have := List.length_pos_iff.2 h; simp; omega
theorem restL_nil : restL [] = line [] ++ endL := by rw [restL]; simp
theorem restL_cons {l : List UInt8} (h : l ≠ []) : restL l = line (l.take 45) ++ restL (l.drop 45) := by rw [restL, dif_neg h]
theorem line_len (l : List UInt8) : (line l).length = 2 + (l.length + 2) / 3 * 4 := by unfold line; simp [body_len]; omega
theorem restL_len (l : List UInt8) : (restL l).length = l.length / 45 * 62 + 6 + if 0 < l.length % 45 then 2 + (l.length % 45 + 2) / 3 * 4 else 0 := by
  by_cases h : l = []
  · subst h; rw [restL_nil, List.length_append, line_len]; rfl
  · have hp := List.length_pos_iff.2 h
    rw [restL_cons h, List.length_append, line_len, restL_len (l.drop 45), List.length_drop, List.length_take]
    by_cases h45 : 45 ≤ l.length
    · rw [Nat.min_eq_left h45, show (l.length - 45) / 45 = l.length / 45 - 1 by omega, show (l.length - 45) % 45 = l.length % 45 by omega]
      have : 1 ≤ l.length / 45 := by omega
      split <;> omega
    · rw [Nat.min_eq_right (by omega), show l.length - 45 = 0 by omega]
      rw [if_neg (by omega), if_pos (by omega)]; omega
termination_by l.length
decreasing_by have := List.length_pos_iff.2 h; simp; omega


end Uu
end Go.Proofs.Ytohjpclpeiidfaa
