/- GainOrders, walked. -/
import Derived.Test.YtohjpclpeiidfaaI
namespace Go.Proofs.Ytohjpclpeiidfaa
open Go.RowKit Go.PlainAid
set_option linter.unusedSimpArgs false
set_option linter.unusedVariables false
namespace Fl

set_option maxHeartbeats 4000000 in
set_option maxRecDepth 100000 in
theorem orders3 (a b c : Nat) (v : Value) (ha : a < 18446744073709551616) (hb : b < 18446744073709551616) (hc : c < 18446744073709551616) (W : World)
    (hv : ∃ l, Sl W v (fl l) ∧ All l) :
    Calls Try.prog 3 #[.float .f64 a, .float .f64 b, .float .f64 c, v] W fun e W' => e = .returned (.bool true) ∧ Below W.heap.size W W' := by
  obtain ⟨l, hv, hl⟩ := hv
  obtain ⟨av, cv, rfl⟩ := hv.shape
  rw [fl_len] at *
  have HV := Lib.hid hv
  have HL := Lib.hid hl
  have C := Lib.hid (anchor7 W)
  have a1 := Lib.hid fun w => less8 a b w ha hb
  have a2 := Lib.hid fun w => less8 b a w hb ha
  have a3 := Lib.hid fun w => less8 b c w hb hc
  have a4 := Lib.hid fun w => less8 a c w ha hc
  have a5 := Lib.hid fun w => less9 a b w ha hb
  have t1 : less a b = true → less b a = false := less_not
  have t2 : less a b = true → less b c = true → less a c = true := less_trans
  generalize less a b = p1 at *
  generalize less b a = p2 at *
  generalize less b c = p3 at *
  generalize less a c = p4 at *
  by_cases hlen : 100 < l.length
  · clear hv hl t1 t2
    go_enter Try.func3, Try.ntmps3
    go_wp2_with fail
    refine C.out.mono ?_
    rintro e w1 ⟨rfl, hb1⟩
    have HB := Lib.hid hb1
    clear hb1
    go_wp2_with fail
    go_ret
    exact ⟨rfl, HB.out⟩
  · have L1 := Lib.hid fun w hv => least10 l (.slice av l.length cv) w hv HL.out (by omega)
    have L2 := Lib.hid fun w hv => least11 l (.slice av l.length cv) w hv HL.out (by omega)
    have hs : p1 = false ∨ (p1 = true ∧ p2 = false ∧ p3 = false) ∨ (p1 = true ∧ p2 = false ∧ p3 = true ∧ p4 = true) := by
      cases p1
      · exact .inl rfl
      · cases p3
        · exact .inr (.inl ⟨rfl, t1 rfl, rfl⟩)
        · exact .inr (.inr ⟨rfl, t1 rfl, rfl, t2 rfl rfl⟩)
    clear hv hl t1 t2
    rcases hs with rfl | ⟨rfl, rfl, rfl⟩ | ⟨rfl, rfl, rfl, rfl⟩
    all_goals
      go_enter Try.func3, Try.ntmps3
      go_wp2_with fail
      refine C.out.mono ?_
      rintro e w1 ⟨rfl, hb1⟩
      have HB := Lib.hid hb1
      have HV1 := Lib.hid (HV.out.below hb1)
      clear hb1
      go_wp2_with (first
        | (go_at_call 8; (first
          | ((with_reducible refine (a1.out _).mono ?_); rintro e w' ⟨rfl, rfl⟩)
          | ((with_reducible refine (a2.out _).mono ?_); rintro e w' ⟨rfl, rfl⟩)
          | ((with_reducible refine (a3.out _).mono ?_); rintro e w' ⟨rfl, rfl⟩)
          | ((with_reducible refine (a4.out _).mono ?_); rintro e w' ⟨rfl, rfl⟩)))
        | (go_at_call 9; (with_reducible refine (a5.out _).mono ?_); rintro e w' ⟨rfl, rfl⟩))
      refine (L1.out _ HV1.out).mono ?_
      rintro e w2 ⟨m, rfl, hm, hb2⟩
      have HB2 := Lib.hid (HB.out.trans (hb2.mono HB.out.size))
      have HV2 := Lib.hid (HV1.out.below hb2)
      have HM := Lib.hid hm
      clear hb2 hm
      go_wp2_with fail
      refine (L2.out _ HV2.out).mono ?_
      rintro e w3 ⟨m', rfl, hm', hb3⟩
      have HB3 := Lib.hid (HB2.out.trans (hb3.mono HB2.out.size))
      have E := Lib.hid (hm'.unique HM.out)
      clear hb3 hm'
      go_wp2
      go_ret
      exact ⟨by rw [E.out]; simp, HB3.out⟩
end Fl
end Go.Proofs.Ytohjpclpeiidfaa
