/- FormWidths: one text in a place of its own. Condition: the tables read as they are laid. -/
import Derived.Test.YtckhomeokhhneaaDoorY
namespace Go.Proofs.YtckhomeokhhneaaDoor
open Go.RowKit Go.PlainAid
set_option linter.unusedSimpArgs false
set_option linter.unusedVariables false

theorem dig_step (k d v n : Nat) (r : List UInt8) (h : d < 10) : dig (k + 1) (UInt8.ofNat (48 + d) :: r) v n = dig k r (10 * v + d) (n + 1) := by
  rw [dig, UInt8.toNat_ofNat', Nat.mod_eq_of_lt (by omega), if_pos (by omega), show 48 + d - 48 = d by omega]
theorem dig_stop (k v n : Nat) (r : List UInt8) : dig k (115 :: r) v n = (v, n) := by
  cases k with
  | zero => rfl
  | succ k => rw [dig, if_neg (by decide)]
theorem flags_digit (d n : Nat) (a b : Bool) (r : List UInt8) (h : d < 10) (h0 : 0 < d) : flags (UInt8.ofNat (48 + d) :: r) n a b = (n, a, b) := by
  rw [flags, UInt8.toNat_ofNat', Nat.mod_eq_of_lt (by omega), if_neg (by omega), if_neg (by omega)]
theorem flags_zero (n : Nat) (a b : Bool) (r : List UInt8) : flags (UInt8.ofNat (48 + 0) :: r) n a b = flags r (n + 1) a true := by
  rw [flags, if_neg (by decide), if_pos (by decide)]
theorem flags_s (n : Nat) (a b : Bool) (r : List UInt8) : flags (115 :: r) n a b = (n, a, b) := by
  rw [flags, if_neg (by decide), if_neg (by decide)]
def dgs (m : Nat) : List UInt8 := [UInt8.ofNat (48 + m / 100), UInt8.ofNat (48 + m / 10 % 10), UInt8.ofNat (48 + m % 10), 115]
theorem dgs_read (m : Nat) (hm : m < 1000) (n : Nat) (l : Bool) : ∃ z j, flags (dgs m) n l false = (n + j, l, z) ∧ j ≤ 3 ∧ dig 3 ((dgs m).drop j) 0 0 = (m, 3 - j) := by
  unfold dgs
  by_cases ha : 0 < m / 100
  · refine ⟨false, 0, flags_digit _ _ _ _ _ (by omega) ha, by omega, ?_⟩
    rw [List.drop_zero, dig_step _ _ _ _ _ (by omega), dig_step _ _ _ _ _ (by omega), dig_step _ _ _ _ _ (by omega), dig_stop]
    congr 1
    omega
  · have ea : m / 100 = 0 := by omega
    rw [ea, flags_zero]
    by_cases hb : 0 < m / 10 % 10
    · refine ⟨true, 1, flags_digit _ _ _ _ _ (by omega) hb, by omega, ?_⟩
      show dig (2 + 1) (UInt8.ofNat (48 + m / 10 % 10) :: _) 0 0 = _
      rw [dig_step _ _ _ _ _ (by omega), dig_step _ _ _ _ _ (by omega), dig_stop]
      congr 1
      omega
    · have eb : m / 10 % 10 = 0 := by omega
      rw [eb, flags_zero]
      by_cases hc : 0 < m % 10
      · refine ⟨true, 2, flags_digit _ _ _ _ _ (by omega) hc, by omega, ?_⟩
        show dig (2 + 1) (UInt8.ofNat (48 + m % 10) :: _) 0 0 = _
        rw [dig_step _ _ _ _ _ (by omega), dig_stop]
        congr 1
        omega
      · have ec : m % 10 = 0 := by omega
        rw [ec, flags_zero, flags_s]
        refine ⟨true, 3, rfl, by omega, ?_⟩
        show dig 3 [115] 0 0 = _
        rw [dig_stop]
        congr 1
        omega
def rW (l : Bool) (m : Nat) : List UInt8 := (if l then [45] else []) ++ dgs m
theorem place_w (l : Bool) (m : Nat) (hm : m < 1000) : ∃ z, placeO (rW l m) = some (⟨l, z, m, none, 115⟩, (rW l m).length) := by
  unfold rW
  cases l
  · simp only [Bool.false_eq_true, if_false, List.nil_append]
    obtain ⟨z, j, h1, h2, h3⟩ := dgs_read m hm 0 false
    refine ⟨z, ?_⟩
    unfold placeO precAt
    simp only
    rw [h1]
    simp only [Nat.zero_add]
    rw [h3]
    simp only
    rw [show j + (3 - j) = 3 by omega]
    rfl
  · simp only [if_true]
    obtain ⟨z, j, h1, h2, h3⟩ := dgs_read m hm 1 true
    refine ⟨z, ?_⟩
    have hf : flags ([45] ++ dgs m) 0 false false = (1 + j, true, z) := by
      show flags (45 :: dgs m) 0 false false = _
      rw [flags, if_pos (by decide)]; exact h1
    unfold placeO precAt
    simp only
    rw [hf]
    simp only
    have hdd : ([45] ++ dgs m).drop (1 + j) = (dgs m).drop j := by
      rw [← List.drop_drop]; rfl
    rw [hdd, h3]
    simp only
    rw [show 1 + j + (3 - j) = 4 by omega]
    rfl
theorem form_w (l : Bool) (m : Nat) (hm : m < 1000) (a : List UInt8) (ha : a.length ≤ 500) : ∃ R, formatM [a] (37 :: rW l m) 0 [] = .ok R ∧ R.length = max m a.length ∧ (if l then R.take a.length = a else R.drop (R.length - a.length) = a) := by
  obtain ⟨z, hp⟩ := place_w l m hm
  have hf : fillO ⟨l, z, m, none, 115⟩ (argAt [a] 0) = some (padL ⟨l, z, m, none, 115⟩ [] a) := by
    unfold fillO; rw [if_pos rfl]; rfl
  have ht : tellM [a] (37 :: rW l m) 0 [] = .ok (1, padL ⟨l, z, m, none, 115⟩ [] a) := by
    rw [tell_yes [a] (rW l m) 0 [] _ _ _ hp (by decide : (115 : Nat) ≠ 37) hf, List.drop_length, tell_nil]
    rfl
  have hl := padL_len ⟨l, z, m, none, 115⟩ [] a
  simp only [List.length_nil, Nat.zero_add] at hl
  refine ⟨_, fm_done ht (by omega) (by simp), hl, ?_⟩
  cases l
  · simp only [Bool.false_eq_true, if_false]
    rw [hl]
    unfold padL
    rw [if_neg (by simp), show (z && (none : Option Nat).isNone && isNum 115) = false by cases z <;> rfl, if_neg (by simp)]
    simp only [List.append_nil, List.length_nil, Nat.sub_zero]
    rw [List.drop_append_of_le_length (by rw [rep_len]; omega), show max m a.length - a.length = (rep 32 (m - a.length)).length by rw [rep_len]; omega, List.drop_length, List.nil_append]
  · simp only [if_true]
    unfold padL
    rw [if_pos rfl, List.nil_append, List.take_append_of_le_length (Nat.le_refl _), List.take_length]
end Go.Proofs.YtckhomeokhhneaaDoor
