/- Plain facts on 64-bit floats: the order of their words, and the place of each in the document's order. -/
import Derived.Laws.FloatArith
namespace Go.Proofs.Ytohjpclpeiidfaa
namespace Fl

abbrev dbl : Ieee.Format := FloatKind.f64.format

/-- The word without its sign. -/
def rg (a : Nat) : Nat := a % 9223372036854775808
def sg (a : Nat) : Bool := a / 9223372036854775808 % 2 == 1
/-- No number. -/
def nn (a : Nat) : Bool := decide (9218868437227405312 < rg a)
/-- The word as a whole number that rises as the number does; both noughts are one. -/
def vl (a : Nat) : Int := if sg a then -(rg a : Int) else (rg a : Int)
/-- The place in the document's order. -/
def ky (a : Nat) : Int := if nn a then 9223372036854775808 else if sg a then -(rg a : Int) - 1 else (rg a : Int)

theorem sw : dbl.signWeight = 9223372036854775808 := rfl
theorem bi : dbl.binade = 4503599627370496 := rfl
theorem ir : dbl.infRung = 9218868437227405312 := rfl
theorem lp : dbl.leastPlace = -1074 := rfl

def mag (r : Nat) : Nat := if r < 4503599627370496 then r else (4503599627370496 + r % 4503599627370496) * 2 ^ (r / 4503599627370496 - 1)

theorem mag_lt {r q : Nat} (h : r < q) : mag r < mag q := by
  unfold mag
  by_cases hq : q < 4503599627370496
  · rw [if_pos (by omega), if_pos hq]; exact h
  · rw [if_neg hq]
    have h1 : 1 ≤ 2 ^ (q / 4503599627370496 - 1) := Nat.one_le_two_pow
    by_cases hr : r < 4503599627370496
    · rw [if_pos hr]
      have := Nat.mul_le_mul_left (4503599627370496 + q % 4503599627370496) h1
      omega
    · rw [if_neg hr]
      have e1 : r / 4503599627370496 ≤ q / 4503599627370496 := Nat.div_le_div_right (by omega)
      rcases Nat.lt_or_ge (r / 4503599627370496) (q / 4503599627370496) with hlt | hge
      · have hp : 2 ^ (r / 4503599627370496 - 1) * 2 ≤ 2 ^ (q / 4503599627370496 - 1) := by
          rw [← Nat.pow_succ]; exact Nat.pow_le_pow_right (by omega) (by omega)
        have h2 : r % 4503599627370496 < 4503599627370496 := Nat.mod_lt _ (by omega)
        have h3 : (4503599627370496 + r % 4503599627370496) * 2 ^ (r / 4503599627370496 - 1) < (4503599627370496 * 2) * 2 ^ (r / 4503599627370496 - 1) :=
          Nat.mul_lt_mul_of_pos_right (by omega) (Nat.two_pow_pos _)
        have h4 : (4503599627370496 * 2) * 2 ^ (r / 4503599627370496 - 1) ≤ 4503599627370496 * 2 ^ (q / 4503599627370496 - 1) := by
          rw [Nat.mul_assoc, Nat.mul_comm 2]; exact Nat.mul_le_mul_left _ hp
        have h5 : 4503599627370496 * 2 ^ (q / 4503599627370496 - 1) ≤ (4503599627370496 + q % 4503599627370496) * 2 ^ (q / 4503599627370496 - 1) := Nat.mul_le_mul_right _ (by omega)
        omega
      · have e2 : r / 4503599627370496 = q / 4503599627370496 := by omega
        rw [e2]
        exact Nat.mul_lt_mul_of_pos_right (by omega) (Nat.two_pow_pos _)

theorem mag_lt_iff (r q : Nat) : mag r < mag q ↔ r < q := by
  constructor
  · intro h
    rcases Nat.lt_trichotomy r q with h' | h' | h'
    · exact h'
    · subst h'; omega
    · have := mag_lt h'; omega
  · exact mag_lt

theorem mag_inj (r q : Nat) : mag r = mag q ↔ r = q := by
  constructor
  · intro h
    rcases Nat.lt_trichotomy r q with h' | h' | h'
    · have := mag_lt h'; omega
    · exact h'
    · have := mag_lt h'; omega
  · intro h; rw [h]

theorem mag_zero : mag 0 = 0 := rfl

/-- What a word stands for. -/
theorem read_is (a : Nat) : dbl.read a = if rg a < 4503599627370496 then .number (sg a) (rg a) (-1074)
    else if rg a < 9218868437227405312 then .number (sg a) (4503599627370496 + rg a % 4503599627370496) (-1074 + (rg a / 4503599627370496 - 1 : Nat))
    else if rg a = 9218868437227405312 then .infinity (sg a) else .nan (sg a) (rg a - 9218868437227405312) := rfl

theorem read_number {a : Nat} (h : rg a < 9218868437227405312) : ∃ m x : Nat, dbl.read a = .number (sg a) m (-1074 + (x : Int)) ∧ m * 2 ^ x = mag (rg a) := by
  rw [read_is]
  unfold mag
  by_cases h1 : rg a < 4503599627370496
  · rw [if_pos h1, if_pos h1]
    exact ⟨_, 0, by rfl, by simp⟩
  · rw [if_neg h1, if_pos h, if_neg h1]
    exact ⟨_, _, rfl, rfl⟩

theorem read_inf {a : Nat} (h : rg a = 9218868437227405312) : dbl.read a = .infinity (sg a) := by
  rw [read_is, if_neg (by omega), if_neg (by omega), if_pos h]

theorem read_nan {a : Nat} (h : nn a = true) : ∃ s t, dbl.read a = .nan s t := by
  have h : 9218868437227405312 < rg a := by simpa [nn] using h
  rw [read_is, if_neg (by omega), if_neg (by omega), if_neg (by omega)]
  exact ⟨_, _, rfl⟩

theorem rg_lt (a : Nat) : rg a < 9223372036854775808 := Nat.mod_lt _ (by decide)

theorem cmp_of {x y x' y' : Int} (h1 : x < y ↔ x' < y') (h2 : x = y ↔ x' = y') : compare x y = compare x' y' := by
  show compareOfLessAndEq x y = compareOfLessAndEq x' y'
  unfold compareOfLessAndEq
  by_cases c : x < y
  · rw [if_pos c, if_pos (h1.1 c)]
  · rw [if_neg c, if_neg (fun d => c (h1.2 d))]
    by_cases e : x = y
    · rw [if_pos e, if_pos (h2.1 e)]
    · rw [if_neg e, if_neg (fun d => e (h2.2 d))]

theorem cmp_lt {x y : Int} (h : x < y) : compare x y = .lt := by
  show compareOfLessAndEq x y = _
  unfold compareOfLessAndEq; rw [if_pos h]
theorem cmp_gt {x y : Int} (h : y < x) : compare x y = .gt := by
  show compareOfLessAndEq x y = _
  unfold compareOfLessAndEq; rw [if_neg (by omega), if_neg (by omega)]
theorem cmp_eq {x y : Int} (h : x = y) : compare x y = .eq := by
  show compareOfLessAndEq x y = _
  unfold compareOfLessAndEq; rw [if_neg (by omega), if_pos h]

theorem signed_mul (s : Bool) (m u z : Nat) : Ieee.signed s m u * (2 ^ z : Nat) = if s then -((m * 2 ^ (u + z) : Nat) : Int) else ((m * 2 ^ (u + z) : Nat) : Int) := by
  unfold Ieee.signed
  rw [Nat.shiftLeft_eq, Nat.pow_add, ← Nat.mul_assoc]
  cases s
  · simp only [Bool.false_eq_true, if_false]; rw [← Int.natCast_mul]
  · simp only [if_true]; rw [Int.neg_mul, ← Int.natCast_mul]

theorem order_num {a b : Nat} (ha : rg a < 9218868437227405312) (hb : rg b < 9218868437227405312) : dbl.order a b = some (compare (vl a) (vl b)) := by
  obtain ⟨m, x, e1, e2⟩ := read_number ha
  obtain ⟨n, y, e3, e4⟩ := read_number hb
  unfold Ieee.Format.order
  rw [e1, e3]
  simp only [Ieee.Datum.order]
  refine congrArg some ?_
  have z1 : (-1074 + (x : Int) - min (-1074 + (x : Int)) (-1074 + (y : Int))).toNat = x - min x y := by omega
  have z2 : (-1074 + (y : Int) - min (-1074 + (x : Int)) (-1074 + (y : Int))).toNat = y - min x y := by omega
  rw [z1, z2]
  have f1 := signed_mul (sg a) m (x - min x y) (min x y)
  have f2 := signed_mul (sg b) n (y - min x y) (min x y)
  rw [show x - min x y + min x y = x from by omega, e2] at f1
  rw [show y - min x y + min x y = y from by omega, e4] at f2
  have hp : (0 : Int) < (2 ^ (min x y) : Nat) := by exact_mod_cast Nat.two_pow_pos _
  have l1 := mag_lt_iff (rg a) (rg b)
  have l2 := mag_lt_iff (rg b) (rg a)
  have l3 := mag_inj (rg a) (rg b)
  have l4 : mag (rg a) = 0 ↔ rg a = 0 := by rw [← mag_zero]; exact mag_inj _ _
  have l5 : mag (rg b) = 0 ↔ rg b = 0 := by rw [← mag_zero]; exact mag_inj _ _
  generalize Ieee.signed (sg a) m (x - min x y) = A at *
  generalize Ieee.signed (sg b) n (y - min x y) = C at *
  generalize mag (rg a) = ma at *
  generalize mag (rg b) = mb at *
  unfold vl
  have g1 : A < C ↔ A * (2 ^ (min x y) : Nat) < C * (2 ^ (min x y) : Nat) := (Int.mul_lt_mul_right hp).symm
  have g2 : A = C ↔ A * (2 ^ (min x y) : Nat) = C * (2 ^ (min x y) : Nat) := by
    constructor
    · intro h; rw [h]
    · intro h; exact Int.eq_of_mul_eq_mul_right (by omega) h
  rw [f1, f2] at g1 g2
  refine cmp_of (g1.trans ?_) (g2.trans ?_) <;> cases sg a <;> cases sg b <;> simp only [if_true, Bool.false_eq_true, if_false] <;> omega

theorem not_nn {a : Nat} (h : nn a = false) : rg a ≤ 9218868437227405312 := by
  have : ¬ 9218868437227405312 < rg a := by simpa [nn] using h
  omega

/-- How two numbers stand to each other. -/
theorem order_is {a b : Nat} (ha : nn a = false) (hb : nn b = false) : dbl.order a b = some (compare (vl a) (vl b)) := by
  have ha' := not_nn ha
  have hb' := not_nn hb
  by_cases h1 : rg a < 9218868437227405312
  · by_cases h2 : rg b < 9218868437227405312
    · exact order_num h1 h2
    · have h2 : rg b = 9218868437227405312 := by omega
      obtain ⟨m, x, e1, -⟩ := read_number h1
      unfold Ieee.Format.order
      rw [e1, read_inf h2]
      simp only [Ieee.Datum.order]
      unfold vl
      rw [h2]
      cases sg b
      · simp only [Bool.false_eq_true, if_false]
        refine congrArg some (cmp_lt ?_).symm
        cases sg a <;> simp only [if_true, Bool.false_eq_true, if_false] <;> omega
      · simp only [if_true]
        refine congrArg some (cmp_gt ?_).symm
        cases sg a <;> simp only [if_true, Bool.false_eq_true, if_false] <;> omega
  · have h1 : rg a = 9218868437227405312 := by omega
    by_cases h2 : rg b < 9218868437227405312
    · obtain ⟨m, x, e1, -⟩ := read_number h2
      unfold Ieee.Format.order
      rw [e1, read_inf h1]
      simp only [Ieee.Datum.order]
      unfold vl
      rw [h1]
      cases sg a
      · simp only [Bool.false_eq_true, if_false]
        refine congrArg some (cmp_gt ?_).symm
        cases sg b <;> simp only [if_true, Bool.false_eq_true, if_false] <;> omega
      · simp only [if_true]
        refine congrArg some (cmp_lt ?_).symm
        cases sg b <;> simp only [if_true, Bool.false_eq_true, if_false] <;> omega
    · have h2 : rg b = 9218868437227405312 := by omega
      unfold Ieee.Format.order
      rw [read_inf h1, read_inf h2]
      simp only [Ieee.Datum.order]
      unfold vl
      rw [h1, h2]
      cases sg a <;> cases sg b <;> rfl

theorem order_nan {a b : Nat} (h : nn a = true ∨ nn b = true) : dbl.order a b = none := by
  unfold Ieee.Format.order
  rcases h with h | h
  · obtain ⟨s, t, e⟩ := read_nan h
    rw [e]; cases dbl.read b <;> rfl
  · obtain ⟨s, t, e⟩ := read_nan h
    rw [e]; cases dbl.read a <;> rfl

/-- Less, of floats: as the machine has it. -/
def lt (a b : Nat) : Bool := dbl.order a b == some .lt
def eq (a b : Nat) : Bool := dbl.order a b == some .eq

theorem lt_is {a b : Nat} : lt a b = (!nn a && !nn b && decide (vl a < vl b)) := by
  unfold lt
  cases ha : nn a
  · cases hb : nn b
    · rw [order_is ha hb]
      rcases Int.lt_trichotomy (vl a) (vl b) with h | h | h
      · rw [cmp_lt h]; simp [h]
      · rw [cmp_eq h]; simp [h]
      · rw [cmp_gt h]; simp [show ¬ vl a < vl b by omega]
    · rw [order_nan (.inr hb)]; rfl
  · rw [order_nan (.inl ha)]; simp

theorem eq_is {a b : Nat} : eq a b = (!nn a && !nn b && decide (vl a = vl b)) := by
  unfold eq
  cases ha : nn a
  · cases hb : nn b
    · rw [order_is ha hb]
      rcases Int.lt_trichotomy (vl a) (vl b) with h | h | h
      · rw [cmp_lt h]; simp [show ¬ vl a = vl b by omega]
      · rw [cmp_eq h]; simp [h]
      · rw [cmp_gt h]; simp [show ¬ vl a = vl b by omega]
    · rw [order_nan (.inr hb)]; rfl
  · rw [order_nan (.inl ha)]; simp

theorem gt_is {a b : Nat} : (dbl.order a b == some .gt) = (!nn a && !nn b && decide (vl b < vl a)) := by
  cases ha : nn a
  · cases hb : nn b
    · rw [order_is ha hb]
      rcases Int.lt_trichotomy (vl a) (vl b) with h | h | h
      · rw [cmp_lt h]; simp [show ¬ vl b < vl a by omega]
      · rw [cmp_eq h]; simp [h]
      · rw [cmp_gt h]; simp [h]
    · rw [order_nan (.inr hb)]; rfl
  · rw [order_nan (.inl ha)]; simp

end Fl
end Go.Proofs.Ytohjpclpeiidfaa
