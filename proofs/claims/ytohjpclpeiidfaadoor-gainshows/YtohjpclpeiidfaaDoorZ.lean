/- GainShows, walked, but for the law's own text. -/
import Derived.Test.YtohjpclpeiidfaaDoorX
namespace Go.Proofs.YtohjpclpeiidfaaDoor
open Go.RowKit Go.PlainAid
set_option linter.unusedSimpArgs false
set_option linter.unusedVariables false
namespace Fl

/-- What the law's own text of thousandths is: a contract. -/
def WholeOk (t : Nat → Bool → ByteArray) : Prop := ∀ (u : Nat), u ≤ 1000000000000 → ∀ (neg : Bool) (w : World), Calls Tryd.prog 7 #[.int .i64 u, .bool neg] w fun e w' => e = .returned (.string (t u neg)) ∧ Below w.heap.size w w'
theorem showM_none {a : Nat} (h1 : nn a = false) (h2 : rg a ≠ 9218868437227405312) : showM a = none := by unfold showM; rw [h1, if_neg h2]; rfl
theorem rg_add (a : Nat) : rg (a + 9223372036854775808) = rg a := by unfold rg; omega

set_option maxHeartbeats 8000000 in
set_option maxRecDepth 100000 in
theorem shows3 (n : Int) (x : Nat) (t : Nat → Bool → ByteArray) (hx : x < 18446744073709551616) (hw : WholeOk t) (ht : ∀ u neg, t u neg = mk (sgn neg ++ fin (Lib.decDigits u))) (W : World) (he : Env W) :
    Calls Tryd.prog 3 #[.int .i64 n, .float .f64 x] W fun e W' => e = .returned (.bool true) ∧ Below W.heap.size W W' := by
  have C := Lib.hid (anchor7 W)
  have CC := Lib.hid fun w => class18 x w hx
  have HE := Lib.hid he
  have HW := Lib.hid hw
  have HT := Lib.hid ht
  clear hw ht he
  -- what is told of x, where it is asked
  have hz := two_zeros hx
  have hx4 : (cls x = 6 ∧ showM x = some ⟨#[110, 111, 110, 101]⟩) ∨ (cls x = 5 ∧ showM x = some ⟨#[97, 108, 108]⟩) ∨ (cls x = 0 ∧ showM x = some ⟨#[45, 97, 108, 108]⟩) ∨ (cls x = 2 ∧ showM x = none ∧ x = 9223372036854775808) ∨ (cls x ≠ 6 ∧ cls x ≠ 5 ∧ cls x ≠ 0 ∧ cls x ≠ 2) := by
    unfold showM
    rcases seven x with ⟨h1, h2⟩ | ⟨h1, h2, h3, h4⟩ | ⟨h1, h2, h3, h4⟩ | ⟨h1, h2, h3, h4⟩ | ⟨h1, h2, h3, h4⟩ | ⟨h1, h2, h2', h3, h4⟩ | ⟨h1, h2, h2', h3, h4⟩
    · left; exact ⟨h2, by rw [h1]; rfl⟩
    · right; right; right; left; exact ⟨h4, by rw [h1, h2]; rfl, (hz h2).1 h3⟩
    · right; right; right; right; rw [h4]; decide
    · right; right; left; exact ⟨h4, by rw [h1, h2, h3]; rfl⟩
    · right; left; exact ⟨h4, by rw [h1, h2, h3]; rfl⟩
    · right; right; right; right; rw [h4]; decide
    · right; right; right; right; rw [h4]; decide
  -- what is told of the eighths
  have hy : ∀ (m : Nat), m ≤ 1073741824 → ∃ y, dv (of m) 4620693217682128896 = some y ∧ y < 18446744073709551616 ∧ Op.negFloat .f64 y < 18446744073709551616 ∧ (∀ w, Env w → Calls Tryd.prog 6 #[.float .f64 y] w fun e w' => e = .returned (.string (t (125 * m) false)) ∧ Below w.heap.size w w') ∧ (∀ w, Env w → Calls Tryd.prog 6 #[.float .f64 (Op.negFloat .f64 y)] w fun e w' => e = .returned (.string (t (125 * m) true)) ∧ Below w.heap.size w w') := by
    intro m hm
    rcases Nat.eq_zero_or_pos m with h0 | h0
    · subst h0
      refine ⟨0, by decide +kernel, by decide, by decide +kernel, fun w he => ?_, fun w he => ?_⟩
      · rw [HT.out]
        exact show6 0 _ w (by decide) he (.inr ⟨by decide +kernel, _, told_zero false, rfl⟩)
      · rw [HT.out]
        exact show6 9223372036854775808 _ w (by decide) he (.inr ⟨by decide +kernel, _, told_zero true, rfl⟩)
    · obtain ⟨h1, h2, h3, h4⟩ := yb_lt h0 hm
      have hn := yb_neg h0 hm
      refine ⟨yb m, dv8 h0 hm, by omega, by rw [hn]; omega, fun w he => ?_, fun w he => ?_⟩
      · rw [HT.out]
        exact show6 (yb m) _ w (by omega) he (.inr ⟨showM_none h4 (by rw [h2]; omega), _, (by have := told_num h0 hm false; rw [show yw m false = yb m from by unfold yw; simp] at this; exact this), rfl⟩)
      · rw [HT.out, hn]
        refine show6 _ _ w (by omega) he (.inr ⟨showM_none (by unfold nn; rw [rg_add]; exact h4) (by rw [rg_add, h2]; omega), _, told_num h0 hm true, rfl⟩)
  have CX := Lib.hid fun (s : ByteArray) (h : showM x = some s ∨ (showM x = none ∧ ∃ F, Told x F ∧ s = mk F)) w he => show6 x s w hx he h
  have tail : n < 0 ∨ 1073741824 < n ∨ ∃ m : Nat, m ≤ 1073741824 ∧ n = m := by
    rcases Int.lt_or_le n 0 with h | h
    · exact .inl h
    · rcases Int.lt_or_le 1073741824 n with h' | h'
      · exact .inr (.inl h')
      · exact .inr (.inr ⟨n.toNat, by omega, by omega⟩)
  rcases hx4 with ⟨h1, h2⟩ | ⟨h1, h2⟩ | ⟨h1, h2⟩ | ⟨h1, h2, h3⟩ | ⟨h1, h2, h3, h4⟩
  · rw [h1] at CC
    have CS := Lib.hid fun w he => CX.out _ (.inl h2) w he
    clear CX h1 h2
    rcases tail with hneg | hbig | ⟨m, hm, rfl⟩
    · go_enter Tryd.func3, Tryd.ntmps3
      go_wp2_with fail
      refine C.out.mono ?_
      rintro e w1 ⟨rfl, hb⟩
      have HB1 := Lib.hid hb
      clear hb
      go_wp2_with (go_at_call 5; (with_reducible refine (CC.out _).mono ?_); rintro e w' ⟨rfl, rfl⟩)
      refine (CS.out _ (HE.out.below HB1.out)).mono ?_
      rintro e w2 ⟨rfl, hb⟩
      have HB2 := Lib.hid (HB1.out.trans (hb.mono HB1.out.size))
      clear hb
      go_wp2_with fail
      go_ret
      exact ⟨rfl, HB2.out⟩
    · have hnn : ¬ n < 0 := by omega
      go_enter Tryd.func3, Tryd.ntmps3
      go_wp2_with fail
      refine C.out.mono ?_
      rintro e w1 ⟨rfl, hb⟩
      have HB1 := Lib.hid hb
      clear hb
      go_wp2_with (go_at_call 5; (with_reducible refine (CC.out _).mono ?_); rintro e w' ⟨rfl, rfl⟩)
      refine (CS.out _ (HE.out.below HB1.out)).mono ?_
      rintro e w2 ⟨rfl, hb⟩
      have HB2 := Lib.hid (HB1.out.trans (hb.mono HB1.out.size))
      clear hb
      go_wp2_with fail
      go_ret
      exact ⟨rfl, HB2.out⟩
    · obtain ⟨y, hdv, hy1, hy2, hs1, hs2⟩ := hy m hm
      have fQ : ∀ w, quoB w (floatOfInt .f64 (m : Int)) 4620693217682128896 = y := fun w => by unfold quoB; rw [show dv (floatOfInt .f64 (m : Int)) 4620693217682128896 = some y from hdv]
      have fW : ∀ w, quoW w (floatOfInt .f64 (m : Int)) 4620693217682128896 = w := fun w => by unfold quoW; rw [show dv (floatOfInt .f64 (m : Int)) 4620693217682128896 = some y from hdv]
      have S1 := Lib.hid hs1
      have S2 := Lib.hid hs2
      have W1 : Hid (∀ w, Calls Tryd.prog 7 #[.int .i64 (125 * (m : Int)), .bool false] w fun e w' => e = .returned (.string (t (125 * m) false)) ∧ Below w.heap.size w w') := Lib.hid fun w => by
        have := HW.out (125 * m) (by omega) false w
        rw [show ((125 * m : Nat) : Int) = 125 * (m : Int) by omega] at this
        exact this
      have W2 : Hid (∀ w, Calls Tryd.prog 7 #[.int .i64 (125 * (m : Int)), .bool true] w fun e w' => e = .returned (.string (t (125 * m) true)) ∧ Below w.heap.size w w') := Lib.hid fun w => by
        have := HW.out (125 * m) (by omega) true w
        rw [show ((125 * m : Nat) : Int) = 125 * (m : Int) by omega] at this
        exact this
      generalize t (125 * m) false = T0 at *
      generalize t (125 * m) true = T1 at *
      have r0 : (T0.toList == T0.toList) = true := by simp
      have r1 : (T1.toList == T1.toList) = true := by simp
      clear hs1 hs2 hdv hy1 hy2 HW HT hy
      go_enter Tryd.func3, Tryd.ntmps3
      go_wp2_with fail
      refine C.out.mono ?_
      rintro e w1 ⟨rfl, hb⟩
      have HB1 := Lib.hid hb
      clear hb
      go_wp2_with (go_at_call 5; (with_reducible refine (CC.out _).mono ?_); rintro e w' ⟨rfl, rfl⟩)
      refine (CS.out _ (HE.out.below HB1.out)).mono ?_
      rintro e w2 ⟨rfl, hb⟩
      have HB2 := Lib.hid (HB1.out.trans (hb.mono HB1.out.size))
      clear hb
      go_wp2_with fail
      refine (S1.out _ (HE.out.below HB2.out)).mono ?_
      rintro e wa0 ⟨rfl, hb⟩
      have HA0 := Lib.hid (HB2.out.trans (hb.mono HB2.out.size))
      clear hb
      go_wp2_with fail
      refine (W1.out _).mono ?_
      rintro e wa1 ⟨rfl, hb⟩
      have HA1 := Lib.hid (HA0.out.trans (hb.mono HA0.out.size))
      clear hb
      go_wp2_with fail
      refine (S2.out _ (HE.out.below HA1.out)).mono ?_
      rintro e wa2 ⟨rfl, hb⟩
      have HA2 := Lib.hid (HA1.out.trans (hb.mono HA1.out.size))
      clear hb
      go_wp2_with fail
      refine (W2.out _).mono ?_
      rintro e wa3 ⟨rfl, hb⟩
      have HA3 := Lib.hid (HA2.out.trans (hb.mono HA2.out.size))
      clear hb
      go_wp2
      go_ret
      exact ⟨rfl, HA3.out⟩
  · rw [h1] at CC
    have CS := Lib.hid fun w he => CX.out _ (.inl h2) w he
    clear CX h1 h2
    rcases tail with hneg | hbig | ⟨m, hm, rfl⟩
    · go_enter Tryd.func3, Tryd.ntmps3
      go_wp2_with fail
      refine C.out.mono ?_
      rintro e w1 ⟨rfl, hb⟩
      have HB1 := Lib.hid hb
      clear hb
      go_wp2_with (go_at_call 5; (with_reducible refine (CC.out _).mono ?_); rintro e w' ⟨rfl, rfl⟩)
      refine (CS.out _ (HE.out.below HB1.out)).mono ?_
      rintro e w2 ⟨rfl, hb⟩
      have HB2 := Lib.hid (HB1.out.trans (hb.mono HB1.out.size))
      clear hb
      go_wp2_with fail
      go_ret
      exact ⟨rfl, HB2.out⟩
    · have hnn : ¬ n < 0 := by omega
      go_enter Tryd.func3, Tryd.ntmps3
      go_wp2_with fail
      refine C.out.mono ?_
      rintro e w1 ⟨rfl, hb⟩
      have HB1 := Lib.hid hb
      clear hb
      go_wp2_with (go_at_call 5; (with_reducible refine (CC.out _).mono ?_); rintro e w' ⟨rfl, rfl⟩)
      refine (CS.out _ (HE.out.below HB1.out)).mono ?_
      rintro e w2 ⟨rfl, hb⟩
      have HB2 := Lib.hid (HB1.out.trans (hb.mono HB1.out.size))
      clear hb
      go_wp2_with fail
      go_ret
      exact ⟨rfl, HB2.out⟩
    · obtain ⟨y, hdv, hy1, hy2, hs1, hs2⟩ := hy m hm
      have fQ : ∀ w, quoB w (floatOfInt .f64 (m : Int)) 4620693217682128896 = y := fun w => by unfold quoB; rw [show dv (floatOfInt .f64 (m : Int)) 4620693217682128896 = some y from hdv]
      have fW : ∀ w, quoW w (floatOfInt .f64 (m : Int)) 4620693217682128896 = w := fun w => by unfold quoW; rw [show dv (floatOfInt .f64 (m : Int)) 4620693217682128896 = some y from hdv]
      have S1 := Lib.hid hs1
      have S2 := Lib.hid hs2
      have W1 : Hid (∀ w, Calls Tryd.prog 7 #[.int .i64 (125 * (m : Int)), .bool false] w fun e w' => e = .returned (.string (t (125 * m) false)) ∧ Below w.heap.size w w') := Lib.hid fun w => by
        have := HW.out (125 * m) (by omega) false w
        rw [show ((125 * m : Nat) : Int) = 125 * (m : Int) by omega] at this
        exact this
      have W2 : Hid (∀ w, Calls Tryd.prog 7 #[.int .i64 (125 * (m : Int)), .bool true] w fun e w' => e = .returned (.string (t (125 * m) true)) ∧ Below w.heap.size w w') := Lib.hid fun w => by
        have := HW.out (125 * m) (by omega) true w
        rw [show ((125 * m : Nat) : Int) = 125 * (m : Int) by omega] at this
        exact this
      generalize t (125 * m) false = T0 at *
      generalize t (125 * m) true = T1 at *
      have r0 : (T0.toList == T0.toList) = true := by simp
      have r1 : (T1.toList == T1.toList) = true := by simp
      clear hs1 hs2 hdv hy1 hy2 HW HT hy
      go_enter Tryd.func3, Tryd.ntmps3
      go_wp2_with fail
      refine C.out.mono ?_
      rintro e w1 ⟨rfl, hb⟩
      have HB1 := Lib.hid hb
      clear hb
      go_wp2_with (go_at_call 5; (with_reducible refine (CC.out _).mono ?_); rintro e w' ⟨rfl, rfl⟩)
      refine (CS.out _ (HE.out.below HB1.out)).mono ?_
      rintro e w2 ⟨rfl, hb⟩
      have HB2 := Lib.hid (HB1.out.trans (hb.mono HB1.out.size))
      clear hb
      go_wp2_with fail
      refine (S1.out _ (HE.out.below HB2.out)).mono ?_
      rintro e wa0 ⟨rfl, hb⟩
      have HA0 := Lib.hid (HB2.out.trans (hb.mono HB2.out.size))
      clear hb
      go_wp2_with fail
      refine (W1.out _).mono ?_
      rintro e wa1 ⟨rfl, hb⟩
      have HA1 := Lib.hid (HA0.out.trans (hb.mono HA0.out.size))
      clear hb
      go_wp2_with fail
      refine (S2.out _ (HE.out.below HA1.out)).mono ?_
      rintro e wa2 ⟨rfl, hb⟩
      have HA2 := Lib.hid (HA1.out.trans (hb.mono HA1.out.size))
      clear hb
      go_wp2_with fail
      refine (W2.out _).mono ?_
      rintro e wa3 ⟨rfl, hb⟩
      have HA3 := Lib.hid (HA2.out.trans (hb.mono HA2.out.size))
      clear hb
      go_wp2
      go_ret
      exact ⟨rfl, HA3.out⟩
  · rw [h1] at CC
    have CS := Lib.hid fun w he => CX.out _ (.inl h2) w he
    clear CX h1 h2
    rcases tail with hneg | hbig | ⟨m, hm, rfl⟩
    · go_enter Tryd.func3, Tryd.ntmps3
      go_wp2_with fail
      refine C.out.mono ?_
      rintro e w1 ⟨rfl, hb⟩
      have HB1 := Lib.hid hb
      clear hb
      go_wp2_with (go_at_call 5; (with_reducible refine (CC.out _).mono ?_); rintro e w' ⟨rfl, rfl⟩)
      refine (CS.out _ (HE.out.below HB1.out)).mono ?_
      rintro e w2 ⟨rfl, hb⟩
      have HB2 := Lib.hid (HB1.out.trans (hb.mono HB1.out.size))
      clear hb
      go_wp2_with fail
      go_ret
      exact ⟨rfl, HB2.out⟩
    · have hnn : ¬ n < 0 := by omega
      go_enter Tryd.func3, Tryd.ntmps3
      go_wp2_with fail
      refine C.out.mono ?_
      rintro e w1 ⟨rfl, hb⟩
      have HB1 := Lib.hid hb
      clear hb
      go_wp2_with (go_at_call 5; (with_reducible refine (CC.out _).mono ?_); rintro e w' ⟨rfl, rfl⟩)
      refine (CS.out _ (HE.out.below HB1.out)).mono ?_
      rintro e w2 ⟨rfl, hb⟩
      have HB2 := Lib.hid (HB1.out.trans (hb.mono HB1.out.size))
      clear hb
      go_wp2_with fail
      go_ret
      exact ⟨rfl, HB2.out⟩
    · obtain ⟨y, hdv, hy1, hy2, hs1, hs2⟩ := hy m hm
      have fQ : ∀ w, quoB w (floatOfInt .f64 (m : Int)) 4620693217682128896 = y := fun w => by unfold quoB; rw [show dv (floatOfInt .f64 (m : Int)) 4620693217682128896 = some y from hdv]
      have fW : ∀ w, quoW w (floatOfInt .f64 (m : Int)) 4620693217682128896 = w := fun w => by unfold quoW; rw [show dv (floatOfInt .f64 (m : Int)) 4620693217682128896 = some y from hdv]
      have S1 := Lib.hid hs1
      have S2 := Lib.hid hs2
      have W1 : Hid (∀ w, Calls Tryd.prog 7 #[.int .i64 (125 * (m : Int)), .bool false] w fun e w' => e = .returned (.string (t (125 * m) false)) ∧ Below w.heap.size w w') := Lib.hid fun w => by
        have := HW.out (125 * m) (by omega) false w
        rw [show ((125 * m : Nat) : Int) = 125 * (m : Int) by omega] at this
        exact this
      have W2 : Hid (∀ w, Calls Tryd.prog 7 #[.int .i64 (125 * (m : Int)), .bool true] w fun e w' => e = .returned (.string (t (125 * m) true)) ∧ Below w.heap.size w w') := Lib.hid fun w => by
        have := HW.out (125 * m) (by omega) true w
        rw [show ((125 * m : Nat) : Int) = 125 * (m : Int) by omega] at this
        exact this
      generalize t (125 * m) false = T0 at *
      generalize t (125 * m) true = T1 at *
      have r0 : (T0.toList == T0.toList) = true := by simp
      have r1 : (T1.toList == T1.toList) = true := by simp
      clear hs1 hs2 hdv hy1 hy2 HW HT hy
      go_enter Tryd.func3, Tryd.ntmps3
      go_wp2_with fail
      refine C.out.mono ?_
      rintro e w1 ⟨rfl, hb⟩
      have HB1 := Lib.hid hb
      clear hb
      go_wp2_with (go_at_call 5; (with_reducible refine (CC.out _).mono ?_); rintro e w' ⟨rfl, rfl⟩)
      refine (CS.out _ (HE.out.below HB1.out)).mono ?_
      rintro e w2 ⟨rfl, hb⟩
      have HB2 := Lib.hid (HB1.out.trans (hb.mono HB1.out.size))
      clear hb
      go_wp2_with fail
      refine (S1.out _ (HE.out.below HB2.out)).mono ?_
      rintro e wa0 ⟨rfl, hb⟩
      have HA0 := Lib.hid (HB2.out.trans (hb.mono HB2.out.size))
      clear hb
      go_wp2_with fail
      refine (W1.out _).mono ?_
      rintro e wa1 ⟨rfl, hb⟩
      have HA1 := Lib.hid (HA0.out.trans (hb.mono HA0.out.size))
      clear hb
      go_wp2_with fail
      refine (S2.out _ (HE.out.below HA1.out)).mono ?_
      rintro e wa2 ⟨rfl, hb⟩
      have HA2 := Lib.hid (HA1.out.trans (hb.mono HA1.out.size))
      clear hb
      go_wp2_with fail
      refine (W2.out _).mono ?_
      rintro e wa3 ⟨rfl, hb⟩
      have HA3 := Lib.hid (HA2.out.trans (hb.mono HA2.out.size))
      clear hb
      go_wp2
      go_ret
      exact ⟨rfl, HA3.out⟩
  · rw [h1] at CC
    have hF : Told x (sgn true ++ fin (Lib.decDigits (125 * 0))) := by rw [h3]; exact told_zero true
    have hF2 : (⟨#[45, 48, 46, 48, 48, 48]⟩ : ByteArray) = mk (sgn true ++ fin (Lib.decDigits (125 * 0))) := by rw [Lib.decDigits_one (by omega)]; rfl
    have CS := Lib.hid fun w he => CX.out ⟨#[45, 48, 46, 48, 48, 48]⟩ (.inr ⟨h2, _, hF, hF2⟩) w he
    clear CX h1 h2 h3 hF hF2
    rcases tail with hneg | hbig | ⟨m, hm, rfl⟩
    · go_enter Tryd.func3, Tryd.ntmps3
      go_wp2_with fail
      refine C.out.mono ?_
      rintro e w1 ⟨rfl, hb⟩
      have HB1 := Lib.hid hb
      clear hb
      go_wp2_with (go_at_call 5; (with_reducible refine (CC.out _).mono ?_); rintro e w' ⟨rfl, rfl⟩)
      refine (CS.out _ (HE.out.below HB1.out)).mono ?_
      rintro e w2 ⟨rfl, hb⟩
      have HB2 := Lib.hid (HB1.out.trans (hb.mono HB1.out.size))
      clear hb
      go_wp2_with fail
      go_ret
      exact ⟨rfl, HB2.out⟩
    · have hnn : ¬ n < 0 := by omega
      go_enter Tryd.func3, Tryd.ntmps3
      go_wp2_with fail
      refine C.out.mono ?_
      rintro e w1 ⟨rfl, hb⟩
      have HB1 := Lib.hid hb
      clear hb
      go_wp2_with (go_at_call 5; (with_reducible refine (CC.out _).mono ?_); rintro e w' ⟨rfl, rfl⟩)
      refine (CS.out _ (HE.out.below HB1.out)).mono ?_
      rintro e w2 ⟨rfl, hb⟩
      have HB2 := Lib.hid (HB1.out.trans (hb.mono HB1.out.size))
      clear hb
      go_wp2_with fail
      go_ret
      exact ⟨rfl, HB2.out⟩
    · obtain ⟨y, hdv, hy1, hy2, hs1, hs2⟩ := hy m hm
      have fQ : ∀ w, quoB w (floatOfInt .f64 (m : Int)) 4620693217682128896 = y := fun w => by unfold quoB; rw [show dv (floatOfInt .f64 (m : Int)) 4620693217682128896 = some y from hdv]
      have fW : ∀ w, quoW w (floatOfInt .f64 (m : Int)) 4620693217682128896 = w := fun w => by unfold quoW; rw [show dv (floatOfInt .f64 (m : Int)) 4620693217682128896 = some y from hdv]
      have S1 := Lib.hid hs1
      have S2 := Lib.hid hs2
      have W1 : Hid (∀ w, Calls Tryd.prog 7 #[.int .i64 (125 * (m : Int)), .bool false] w fun e w' => e = .returned (.string (t (125 * m) false)) ∧ Below w.heap.size w w') := Lib.hid fun w => by
        have := HW.out (125 * m) (by omega) false w
        rw [show ((125 * m : Nat) : Int) = 125 * (m : Int) by omega] at this
        exact this
      have W2 : Hid (∀ w, Calls Tryd.prog 7 #[.int .i64 (125 * (m : Int)), .bool true] w fun e w' => e = .returned (.string (t (125 * m) true)) ∧ Below w.heap.size w w') := Lib.hid fun w => by
        have := HW.out (125 * m) (by omega) true w
        rw [show ((125 * m : Nat) : Int) = 125 * (m : Int) by omega] at this
        exact this
      generalize t (125 * m) false = T0 at *
      generalize t (125 * m) true = T1 at *
      have r0 : (T0.toList == T0.toList) = true := by simp
      have r1 : (T1.toList == T1.toList) = true := by simp
      clear hs1 hs2 hdv hy1 hy2 HW HT hy
      go_enter Tryd.func3, Tryd.ntmps3
      go_wp2_with fail
      refine C.out.mono ?_
      rintro e w1 ⟨rfl, hb⟩
      have HB1 := Lib.hid hb
      clear hb
      go_wp2_with (go_at_call 5; (with_reducible refine (CC.out _).mono ?_); rintro e w' ⟨rfl, rfl⟩)
      refine (CS.out _ (HE.out.below HB1.out)).mono ?_
      rintro e w2 ⟨rfl, hb⟩
      have HB2 := Lib.hid (HB1.out.trans (hb.mono HB1.out.size))
      clear hb
      go_wp2_with fail
      refine (S1.out _ (HE.out.below HB2.out)).mono ?_
      rintro e wa0 ⟨rfl, hb⟩
      have HA0 := Lib.hid (HB2.out.trans (hb.mono HB2.out.size))
      clear hb
      go_wp2_with fail
      refine (W1.out _).mono ?_
      rintro e wa1 ⟨rfl, hb⟩
      have HA1 := Lib.hid (HA0.out.trans (hb.mono HA0.out.size))
      clear hb
      go_wp2_with fail
      refine (S2.out _ (HE.out.below HA1.out)).mono ?_
      rintro e wa2 ⟨rfl, hb⟩
      have HA2 := Lib.hid (HA1.out.trans (hb.mono HA1.out.size))
      clear hb
      go_wp2_with fail
      refine (W2.out _).mono ?_
      rintro e wa3 ⟨rfl, hb⟩
      have HA3 := Lib.hid (HA2.out.trans (hb.mono HA2.out.size))
      clear hb
      go_wp2
      go_ret
      exact ⟨rfl, HA3.out⟩
  · have g1 : (cls x == 6) = false := by simpa using h1
    have g2 : (cls x == 5) = false := by simpa using h2
    have g3 : (cls x == 0) = false := by simpa using h3
    have g4 : (cls x == 2) = false := by simpa using h4
    generalize cls x = c at *
    clear CX h1 h2 h3 h4
    rcases tail with hneg | hbig | ⟨m, hm, rfl⟩
    · go_enter Tryd.func3, Tryd.ntmps3
      go_wp2_with fail
      refine C.out.mono ?_
      rintro e w1 ⟨rfl, hb⟩
      have HB1 := Lib.hid hb
      clear hb
      go_wp2_with (go_at_call 5; (with_reducible refine (CC.out _).mono ?_); rintro e w' ⟨rfl, rfl⟩)
      go_ret
      exact ⟨rfl, HB1.out⟩
    · have hnn : ¬ n < 0 := by omega
      go_enter Tryd.func3, Tryd.ntmps3
      go_wp2_with fail
      refine C.out.mono ?_
      rintro e w1 ⟨rfl, hb⟩
      have HB1 := Lib.hid hb
      clear hb
      go_wp2_with (go_at_call 5; (with_reducible refine (CC.out _).mono ?_); rintro e w' ⟨rfl, rfl⟩)
      go_ret
      exact ⟨rfl, HB1.out⟩
    · obtain ⟨y, hdv, hy1, hy2, hs1, hs2⟩ := hy m hm
      have fQ : ∀ w, quoB w (floatOfInt .f64 (m : Int)) 4620693217682128896 = y := fun w => by unfold quoB; rw [show dv (floatOfInt .f64 (m : Int)) 4620693217682128896 = some y from hdv]
      have fW : ∀ w, quoW w (floatOfInt .f64 (m : Int)) 4620693217682128896 = w := fun w => by unfold quoW; rw [show dv (floatOfInt .f64 (m : Int)) 4620693217682128896 = some y from hdv]
      have S1 := Lib.hid hs1
      have S2 := Lib.hid hs2
      have W1 : Hid (∀ w, Calls Tryd.prog 7 #[.int .i64 (125 * (m : Int)), .bool false] w fun e w' => e = .returned (.string (t (125 * m) false)) ∧ Below w.heap.size w w') := Lib.hid fun w => by
        have := HW.out (125 * m) (by omega) false w
        rw [show ((125 * m : Nat) : Int) = 125 * (m : Int) by omega] at this
        exact this
      have W2 : Hid (∀ w, Calls Tryd.prog 7 #[.int .i64 (125 * (m : Int)), .bool true] w fun e w' => e = .returned (.string (t (125 * m) true)) ∧ Below w.heap.size w w') := Lib.hid fun w => by
        have := HW.out (125 * m) (by omega) true w
        rw [show ((125 * m : Nat) : Int) = 125 * (m : Int) by omega] at this
        exact this
      generalize t (125 * m) false = T0 at *
      generalize t (125 * m) true = T1 at *
      have r0 : (T0.toList == T0.toList) = true := by simp
      have r1 : (T1.toList == T1.toList) = true := by simp
      clear hs1 hs2 hdv hy1 hy2 HW HT hy
      go_enter Tryd.func3, Tryd.ntmps3
      go_wp2_with fail
      refine C.out.mono ?_
      rintro e w1 ⟨rfl, hb⟩
      have HB1 := Lib.hid hb
      clear hb
      go_wp2_with (go_at_call 5; (with_reducible refine (CC.out _).mono ?_); rintro e w' ⟨rfl, rfl⟩)
      refine (S1.out _ (HE.out.below HB1.out)).mono ?_
      rintro e wa0 ⟨rfl, hb⟩
      have HA0 := Lib.hid (HB1.out.trans (hb.mono HB1.out.size))
      clear hb
      go_wp2_with fail
      refine (W1.out _).mono ?_
      rintro e wa1 ⟨rfl, hb⟩
      have HA1 := Lib.hid (HA0.out.trans (hb.mono HA0.out.size))
      clear hb
      go_wp2_with fail
      refine (S2.out _ (HE.out.below HA1.out)).mono ?_
      rintro e wa2 ⟨rfl, hb⟩
      have HA2 := Lib.hid (HA1.out.trans (hb.mono HA1.out.size))
      clear hb
      go_wp2_with fail
      refine (W2.out _).mono ?_
      rintro e wa3 ⟨rfl, hb⟩
      have HA3 := Lib.hid (HA2.out.trans (hb.mono HA2.out.size))
      clear hb
      go_wp2
      go_ret
      exact ⟨rfl, HA3.out⟩
end Fl
end Go.Proofs.YtohjpclpeiidfaaDoor
