/- GainShares, walked. -/
import Derived.Test.YtohjpclpeiidfaaI
namespace Go.Proofs.Ytohjpclpeiidfaa
open Go.RowKit Go.PlainAid
set_option linter.unusedSimpArgs false
set_option linter.unusedVariables false
namespace Fl

@[go_sem] theorem run_neg (b : Nat) (w : World) : (Op.unary .neg (.float .f64 b)).run Try.prog w = .ok (.float .f64 (Op.negFloat .f64 b)) w := rfl
theorem rg_cps (a b : Nat) : rg (cps a b) = rg a := by
  have := rg_lt a
  unfold cps
  cases sg b
  · simp only [Bool.false_eq_true, if_false, Nat.add_zero]; exact rg_rg a
  · simp only [if_true]
    show (rg a + 9223372036854775808) % 9223372036854775808 = rg a
    omega
theorem sg_cps (a b : Nat) : sg (cps a b) = sg b := by
  have := rg_lt a
  unfold cps
  cases h : sg b
  · simp only [Bool.false_eq_true, if_false, Nat.add_zero]; exact sg_rg a
  · simp only [if_true]
    show ((rg a + 9223372036854775808) / 9223372036854775808 % 2 == 1) = true
    simp only [beq_iff_eq]
    omega
theorem cps_lt (a b : Nat) : cps a b < 18446744073709551616 := by
  have := rg_lt a
  unfold cps; split <;> omega
theorem nn_cps (a b : Nat) : nn (cps a b) = nn a := by unfold nn; rw [rg_cps]
theorem word_of {a : Nat} (h : a < 18446744073709551616) : a = rg a + if sg a then 9223372036854775808 else 0 := by
  have e : sg a = true ∨ sg a = false := by cases sg a <;> simp
  rcases e with e | e
  · rw [e]; simp only [if_true]
    unfold sg at e; simp only [beq_iff_eq] at e
    unfold rg; omega
  · rw [e]; simp only [Bool.false_eq_true, if_false]
    unfold sg at e; simp only [beq_eq_false_iff_ne, ne_eq] at e
    unfold rg; omega
theorem xor_top {r : Nat} (hr : r < 9223372036854775808) : r ^^^ 9223372036854775808 = r + 9223372036854775808 := by
  have h2 := Nat.two_pow_add_eq_or_of_lt (i := 63) (b := r) hr 1
  have h3 : r ^^^ 9223372036854775808 = r ||| 9223372036854775808 := by
    refine Nat.eq_of_testBit_eq fun i => ?_
    rw [Nat.testBit_xor, Nat.testBit_or, show (9223372036854775808 : Nat) = 2 ^ 63 from rfl, Nat.testBit_two_pow]
    by_cases c : 63 = i
    · subst c
      rw [Nat.testBit_lt_two_pow hr]; rfl
    · rw [decide_eq_false c, Bool.xor_false, Bool.or_false]
  rw [h3, Nat.or_comm, Nat.add_comm]
  exact h2.symm
theorem neg_is {a : Nat} (h : a < 18446744073709551616) : Op.negFloat .f64 a = rg a + if sg a then 0 else 9223372036854775808 := by
  show a ^^^ 9223372036854775808 = _
  have hr := rg_lt a
  have e := word_of h
  cases hs : sg a
  · rw [hs] at e
    simp only [Bool.false_eq_true, if_false, Nat.add_zero] at e ⊢
    rw [← xor_top hr, ← e]
  · rw [hs] at e
    simp only [if_true, Nat.add_zero] at e ⊢
    rw [← xor_top hr] at e
    generalize rg a = r at *
    rw [e, Nat.xor_assoc, Nat.xor_self, Nat.xor_zero]
theorem rg_neg {a : Nat} (h : a < 18446744073709551616) : rg (Op.negFloat .f64 a) = rg a := by
  have := rg_lt a
  rw [neg_is h]
  cases sg a
  · simp only [Bool.false_eq_true, if_false]
    show (rg a + 9223372036854775808) % 9223372036854775808 = rg a
    omega
  · simp only [if_true, Nat.add_zero]; exact rg_rg a
theorem sg_neg {a : Nat} (h : a < 18446744073709551616) : sg (Op.negFloat .f64 a) = !sg a := by
  have := rg_lt a
  rw [neg_is h]
  cases hs : sg a
  · simp only [Bool.false_eq_true, if_false]
    show ((rg a + 9223372036854775808) / 9223372036854775808 % 2 == 1) = true
    simp only [beq_iff_eq]
    omega
  · simp only [if_true, Nat.add_zero]; exact sg_rg a
theorem nn_neg {a : Nat} (h : a < 18446744073709551616) : nn (Op.negFloat .f64 a) = nn a := by unfold nn; rw [rg_neg h]

theorem ne_of (a b : Nat) : (FloatKind.f64.format.order a b != some .eq) = !eq a b := rfl
theorem one_of {x s : Nat} (h : x < 18446744073709551616) (hx : nn x = false) : eq (cps x s) x = true ∨ (eq (cps x s) x = false ∧ eq (cps x s) (Op.negFloat .f64 x) = true) := by
  have e1 : eq (cps x s) x = decide (vl (cps x s) = vl x) := by rw [eq_is, nn_cps, hx]; rfl
  have e2 : eq (cps x s) (Op.negFloat .f64 x) = decide (vl (cps x s) = vl (Op.negFloat .f64 x)) := by rw [eq_is, nn_cps, nn_neg h, hx]; rfl
  rw [e1, e2]
  unfold vl
  rw [rg_cps, sg_cps, rg_neg h, sg_neg h]
  cases sg s <;> cases sg x <;> simp only [Bool.false_eq_true, if_true, if_false, Bool.not_true, Bool.not_false, decide_eq_true_eq, decide_eq_false_iff_not] <;> first | (simp; done) | (simp; omega)
theorem low_is {a : Nat} (h : nn a = false) : decide (cls a ≤ 2) = sg a := by
  rcases seven a with ⟨h1, h2⟩ | ⟨h1, h2, h3, h4⟩ | ⟨h1, h2, h3, h4⟩ | ⟨h1, h2, h3, h4⟩ | ⟨h1, h2, h3, h4⟩ | ⟨h1, h2, h2', h3, h4⟩ | ⟨h1, h2, h2', h3, h4⟩
  · rw [h] at h1; cases h1
  all_goals (rw [h4, h3]; rfl)

/-- The law's second part: what is saved. -/
def Part (a b : Int) : Prop := a < 0 ∨ b < 0 ∨ 1099511627776 < a ∨ 1099511627776 < b

set_option maxHeartbeats 16000000 in
set_option maxRecDepth 100000 in
theorem shares4 (a b : Int) (x s : Nat) (hx : x < 18446744073709551616) (hs : s < 18446744073709551616) (W : World) :
    Calls Try.prog 4 #[.int .i64 a, .int .i64 b, .float .f64 x, .float .f64 s] W fun e W' => e = .returned (.bool true) ∧ Below W.heap.size W W' := by
  have C := Lib.hid (anchor7 W)
  have S1 := Lib.hid fun w => share13' a b w
  have S2 := Lib.hid fun w => share14' a b w
  have SG := Lib.hid fun w => signed15 x s w hx hs
  have hy := cps_lt x s
  have B1 := Lib.hid fun w => below16 (cps x s) w hy
  have B2 := Lib.hid fun w => below16 s w hs
  have f1 : (FloatKind.f64.format.order x x != some .eq) = nn x := o_ne x
  have f2 : (FloatKind.f64.format.order (cps x s) (cps x s) == some .eq) = !nn x := by rw [← nn_cps x s, ← o_ne]; simp [bne]
  have f3 : (FloatKind.f64.format.order s s == some .eq) = !nn s := by rw [← o_ne]; simp [bne]
  have hone := fun h => @one_of x s hx h
  have f4 : (FloatKind.f64.format.order (cps x s) x != some .eq) = !eq (cps x s) x := rfl
  have f5 : (FloatKind.f64.format.order (cps x s) (Op.negFloat .f64 x) != some .eq) = !eq (cps x s) (Op.negFloat .f64 x) := rfl
  have hl1 : nn x = false → decide (cls (cps x s) ≤ 2) = sg s := fun h => by rw [low_is (by rw [nn_cps]; exact h), sg_cps]
  have hl2 : nn s = false → decide (cls s ≤ 2) = sg s := fun h => low_is h
  generalize eq (cps x s) x = q1 at *
  generalize eq (cps x s) (Op.negFloat .f64 x) = q2 at *
  generalize decide (cls (cps x s) ≤ 2) = b1 at *
  generalize decide (cls s ≤ 2) = b2 at *
  generalize cps x s = y at *
  have hc : nn x = true ∨ (nn x = false ∧ nn s = true) ∨ (nn x = false ∧ nn s = false ∧ b1 = b2 ∧ (q1 = true ∨ (q1 = false ∧ q2 = true))) := by
    cases h1 : nn x
    · cases h2 : nn s
      · exact .inr (.inr ⟨rfl, rfl, (hl1 h1).trans (hl2 h2).symm, hone h1⟩)
      · exact .inr (.inl ⟨rfl, rfl⟩)
    · exact .inl rfl
  clear hl1 hl2 hone
  generalize nn x = nx at *
  generalize nn s = ns at *
  go_enter Try.func4, Try.ntmps4
  go_wp2_with fail
  refine C.out.mono ?_
  rintro e w1 ⟨rfl, hb1⟩
  have HB1 := Lib.hid hb1
  clear hb1 C
  go_wp2_with fail
  refine (S1.out _).mono ?_
  rintro e w2 ⟨r1, rfl, hr1, hk1, hd⟩
  have HB2 := Lib.hid (HB1.out.trans (hd.bel.mono HB1.out.size))
  clear hd S1 HB1
  go_wp2_with fail
  refine (S2.out _).mono ?_
  rintro e w3 ⟨r2, rfl, hr2, hk2, hd⟩
  have HB3 := Lib.hid (HB2.out.trans (hd.bel.mono HB2.out.size))
  have SA := Lib.hid fun w => same12 r1 r2 w hr1 hr2
  rw [hk1, hk2, decide_eq_true rfl] at SA
  clear hd S2 HB2 hr1 hr2 hk1 hk2
  go_wp2_with (go_at_call 12; (with_reducible refine (SA.out _).mono ?_); rintro e w' ⟨rfl, rfl⟩)
  have SV := Lib.hid fun (h : ¬ (a = 0 ∧ b = 0)) (h1 : 0 ≤ a) (h2 : a ≤ 1099511627776) (h3 : 0 ≤ b) (h4 : b ≤ 1099511627776) w => saved17 a b w h h1 h2 h3 h4
  have SZ := Lib.hid fun w => saved17_zero w
  have SW := Lib.hid fun w => share14' (a - b) a w
  have CZ := Lib.hid fun w => class18 9223372036854775808 w (by decide)
  rw [show cls 9223372036854775808 = 2 from rfl] at CZ
  rcases hc with rfl | ⟨rfl, rfl⟩ | ⟨rfl, rfl, rfl, rfl | ⟨rfl, rfl⟩⟩
  all_goals
    go_wp2_with (first
      | (go_at_call 15; (with_reducible refine (SG.out _).mono ?_); rintro e w' ⟨rfl, rfl⟩)
      | (go_at_call 16; (first
        | ((with_reducible refine (B1.out _).mono ?_); rintro e w' ⟨rfl, rfl⟩)
        | ((with_reducible refine (B2.out _).mono ?_); rintro e w' ⟨rfl, rfl⟩))))
    all_goals first
      | (go_ret; exact ⟨rfl, HB3.out⟩)
      | skip
    by_cases hz : a = 0 ∧ b = 0
    · obtain ⟨rfl, rfl⟩ := hz
      refine (SZ.out _).mono ?_
      rintro e w' ⟨rfl, rfl⟩
      go_wp2_with (go_at_call 18; (with_reducible refine (CZ.out _).mono ?_); rintro e w' ⟨rfl, rfl⟩)
      go_ret
      exact ⟨rfl, HB3.out⟩
    · have hw : IntKind.i64.wrap (a - b) = a - b := by rw [IntKind.wrap_i64]; omega
      have hw' : wrap64 (a - b) = a - b := by unfold wrap64; omega
      have hd : (a == 0) = false ∨ ((a == 0) = true ∧ (b == 0) = false) := by
        simp only [beq_eq_false_iff_ne, beq_iff_eq, ne_eq]; omega
      refine (SV.out hz (by omega) (by omega) (by omega) (by omega) _).mono ?_
      rintro e w4 ⟨r, rfl, hr, hk, hdr⟩
      have HB4 := Lib.hid (HB3.out.trans (hdr.bel.mono HB3.out.size))
      clear hdr hz SV
      rcases hd with d1 | ⟨d1, d2⟩
      all_goals
        go_wp2_with fail
        refine (SW.out _).mono ?_
        rintro e w5 ⟨r', rfl, hr', hk', hdr⟩
        have HB5 := Lib.hid (HB4.out.trans (hdr.bel.mono HB4.out.size))
        have SA := Lib.hid fun w => same12 r r' w hr hr'
        rw [hk, hk', decide_eq_true rfl] at SA
        clear hdr hk hk' hr hr'
        go_wp2_with (go_at_call 12; (with_reducible refine (SA.out _).mono ?_); rintro e w' ⟨rfl, rfl⟩)
        go_ret
        exact ⟨rfl, HB5.out⟩
end Fl
end Go.Proofs.Ytohjpclpeiidfaa
