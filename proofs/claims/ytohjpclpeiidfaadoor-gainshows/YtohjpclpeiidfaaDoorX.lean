/- How eighths are told: the facts that ftoa64 asks; the text as the law has it. -/
import Derived.Test.YtohjpclpeiidfaaDoorW
namespace Go.Proofs.YtohjpclpeiidfaaDoor
open Go.RowKit Go.PlainAid
set_option linter.unusedSimpArgs false
set_option linter.unusedVariables false
namespace Fl

theorem or52 {m : Nat} (h : m < 4503599627370496) : bits .or .u64 (m : Int) 4503599627370496 = ((m + 4503599627370496 : Nat) : Int) := by
  have := u64_or_nat m 4503599627370496 (by omega) (by decide)
  have h2 := Nat.two_pow_add_eq_or_of_lt (i := 52) (b := m) h 1
  rw [show m ||| 4503599627370496 = m + 4503599627370496 from by rw [Nat.or_comm, Nat.add_comm]; exact h2.symm] at this
  exact this
theorem and52 {b : Nat} (h : b < 18446744073709551616) : bits .and .u64 (b : Int) 4503599627370495 = ((b % 4503599627370496 : Nat) : Int) := by
  have := u64_and_nat b 4503599627370495 h (by decide)
  rw [show b &&& 4503599627370495 = b % 4503599627370496 from Nat.and_two_pow_sub_one_eq_mod b 52] at this
  exact this
theorem and11 {c : Nat} : bits .and .i64 (c : Int) 2047 = ((c % 2048 : Nat) : Int) := by
  have := and_nat c 2047 (by decide)
  rw [show c &&& 2047 = c % 2048 from Nat.and_two_pow_sub_one_eq_mod c 11] at this
  exact this
theorem fixed_of {n : Nat} (h0 : 0 < n) (h : n ≤ 1073741824) (w : World) (he : Env w) :
    Calls Tryd.prog 44 #[.int .u64 ((dg n : Int) * 2048), .int .i64 ((n.log2 : Int) - 66), .int .i64 (nL n.log2).toNat, .int .i64 3, .int .u8 102] w fun e w' => e = .returned (.tuple #[.int .u64 (125 * n : Nat), .int .i64 (-3)]) ∧ Below w.heap.size w w' := by
  have hL := log_lt h0 h
  have hd := dg_range h0 (by omega)
  have ht := table n.log2 hL
  have hX : (dg n : Int) * 2048 = ((dg n * 2048 : Nat) : Int) := by simp
  rw [hX]
  have hq : ∀ q, l10 (((n.log2 : Int) - 66) + 63) = q → l10 ((n.log2 : Int) - 3) = q := by
    intro q h; rw [← h]; congr 1; omega
  obtain ⟨q, hq1⟩ : ∃ q, l10 (((n.log2 : Int) - 66) + 63) = q := ⟨_, rfl⟩
  have hq2 := hq q hq1
  have hqb : -100 ≤ q ∧ q ≤ 100 := by rw [← hq2]; unfold l10; omega
  rcases ht with ⟨hp, hN1, hN2, hlt⟩ | ⟨hp, hN1, hN2⟩
  · obtain ⟨t1, t2⟩ := top3 h0 h
    have hNN : ((nL n.log2).toNat : Int) = nL n.log2 := by omega
    have hp3 := prod3 h0 h
    unfold pL at hp
    rw [hq2] at hp
    exact fixed44_3 (dg n * 2048) (500 * n) (54 - n.log2) (nL n.log2).toNat n _ q w he (by omega) (by omega) h (by omega) (by omega) (by omega) hq1 hqb.1 hqb.2 (by omega) rfl
      (by
        have : 500 * n < 500 * 2 ^ (n.log2 + 1) := Nat.mul_lt_mul_of_pos_left t2 (by decide)
        omega)
      (by rw [hp3, Nat.mul_div_cancel _ (by decide)]) (by rw [hp3, Nat.mul_mod_left]) t1
  · have t1 := top4 h0 h
    have hNN : ((nL n.log2).toNat : Int) = nL n.log2 := by omega
    have hp4 := prod4 h0 h
    unfold pL at hp
    rw [hq2] at hp
    by_cases hc : 4 * 10 ^ (nL n.log2).toNat ≤ 10 * (500 * n) + 2
    · exact fixed44_4b (dg n * 2048) (10 * (500 * n)) (50 - n.log2) (nL n.log2).toNat n _ q w he (by omega) (by omega) h (by omega) (by omega) (by omega) hq1 hqb.1 hqb.2 (by omega) rfl hc
        (by rw [hp4, Nat.mul_div_cancel _ (by decide)]) (by rw [hp4, Nat.mul_mod_left]) t1
    · exact fixed44_4a (dg n * 2048) (10 * (500 * n)) (50 - n.log2) (nL n.log2).toNat n _ q w he (by omega) (by omega) h (by omega) (by omega) (by omega) hq1 hqb.1 hqb.2 (by omega) rfl hc
        (by rw [hp4, Nat.mul_div_cancel _ (by decide)]) (by rw [hp4, Nat.mul_mod_left]) t1

/-- A word of eighths, with its sign. -/
def yw (n : Nat) (neg : Bool) : Nat := yb n + if neg then 9223372036854775808 else 0
theorem num_of {n : Nat} (h0 : 0 < n) (h : n ≤ 1073741824) (neg : Bool) :
    Num n n.log2 (nL n.log2).toNat neg (yw n neg) (n.log2 + 1020 + if neg then 2048 else 0) (n.log2 + 1020) (dg n - 4503599627370496) ((n.log2 : Int) - 3) ((n.log2 : Int) - 66) := by
  have hL := log_lt h0 h
  have hd := dg_range h0 (by omega)
  have hNN : 4 ≤ nL n.log2 ∧ nL n.log2 ≤ 18 := by
    rcases table n.log2 hL with ⟨_, a, b, _⟩ | ⟨_, a, b⟩ <;> exact ⟨a, b⟩
  have hb : yw n neg = (n.log2 + 1019) * 4503599627370496 + dg n + if neg then 9223372036854775808 else 0 := by unfold yw yb; rfl
  have hblt : yw n neg < 18446744073709551616 := by rw [hb]; cases neg <;> simp <;> omega
  refine ⟨h0, h, by omega, ?_, ?_, ?_, ?_, by omega, by omega, by omega, ?_, ?_, ?_, by omega, fun w he => fixed_of h0 h w he, hd.2, ?_⟩
  · rw [hb]; cases neg <;> simp <;> omega
  · rw [and11]; cases neg <;> simp <;> omega
  · rw [and52 hblt, hb]; cases neg <;> simp <;> omega
  · rw [or52 (by omega), show dg n - 4503599627370496 + 4503599627370496 = dg n by omega]
  · cases neg <;> simp <;> omega
  · intro hx
    have : nL n.log2 = 1 + l10 (1 + ((n.log2 : Int) - 3)) + 3 := by unfold nL; rw [if_pos (by omega)]
    rw [← this]; omega
  · intro hx
    have : nL n.log2 = 1 + 3 - l10 (-((n.log2 : Int) - 3)) := by unfold nL; rw [if_neg (by omega)]
    omega
  · rw [hb]; cases neg <;> simp <;> omega
theorem fin_len (ds : List UInt8) (h : ds.length ≤ 15) : (fin ds).length ≤ 18 := by
  unfold fin; split <;> simp <;> omega
theorem told_num {n : Nat} (h0 : 0 < n) (h : n ≤ 1073741824) (neg : Bool) : Told (yw n neg) (sgn neg ++ fin (Lib.decDigits (125 * n))) := by
  refine ⟨?_, fun M l w hd hl he => ?_⟩
  · have := fin_len (Lib.decDigits (125 * n)) (by rw [Lib.decDigits_length]; exact nd_small _ (by omega))
    rw [List.length_append]
    have : (sgn neg).length ≤ 1 := by cases neg <;> simp [sgn]
    omega
  · rw [← List.append_assoc]
    exact ftoa29_num M l n _ _ neg _ _ _ _ _ _ w hd hl he (num_of h0 h neg) (dg_bits h0 (by omega))
theorem told_zero (neg : Bool) : Told (if neg then 9223372036854775808 else 0) (sgn neg ++ fin (Lib.decDigits (125 * 0))) := by
  refine ⟨by cases neg <;> simp [sgn, fin, Lib.decDigits_one], fun M l w hd hl he => ?_⟩
  have := ftoa29_zero M l neg w hd hl
  rw [← List.append_assoc]
  have e : fin (Lib.decDigits (125 * 0)) = [48, 46, 48, 48, 48] := by rw [Lib.decDigits_one (by omega)]; rfl
  rw [e]
  exact this
end Fl
end Go.Proofs.YtohjpclpeiidfaaDoor
