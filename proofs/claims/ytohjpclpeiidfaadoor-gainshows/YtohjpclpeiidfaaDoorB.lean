/- Contracts of the two orders, of the classes, of quotients. -/
import Derived.Test.YtohjpclpeiidfaaDoorA
namespace Go.Proofs.YtohjpclpeiidfaaDoor
open Go.RowKit Go.PlainAid
set_option linter.unusedSimpArgs false
set_option linter.unusedVariables false
namespace Fl

/-- A quotient in a world: its word, and the world behind it. -/
def quoB (w : World) (a b : Nat) : Nat := match dv a b with | some r => r | none => (Question.nanBits .f64 a b).cut (w.tape w.drawn (.nanBits .f64 a b))
def quoW (w : World) (a b : Nat) : World := match dv a b with | some _ => w | none => w.drew
@[go_sem] theorem run_quo (t : TypeId) (a b : Nat) (w : World) : (binOp .quo t (.float .f64 a) (.float .f64 b)).run Tryd.prog w = .ok (.float .f64 (quoB w a b)) (quoW w a b) := by
  unfold quoB quoW dv
  cases h : dbl.div a b with
  | some r => simp [binOp, Op.floatArith, show FloatKind.f64.format.div a b = some r from h]
  | none => simp [binOp, Op.floatArith, show FloatKind.f64.format.div a b = none from h, Question.forced]

theorem quoB_lt (w : World) (a b : Nat) : quoB w a b < 18446744073709551616 := by
  unfold quoB
  cases h : dv a b with
  | some r => exact dbl.div_lt h
  | none => exact (nan_word _).2
theorem quoB_ky (w : World) (a b : Nat) : ky (quoB w a b) = kq a b := by
  unfold quoB kq
  cases h : dv a b with
  | some r => rfl
  | none =>
    have := (nan_word (w.tape w.drawn (.nanBits .f64 a b))).1
    simp only
    unfold ky
    rw [if_pos (by exact this)]
theorem quoW_or (w : World) (a b : Nat) : quoW w a b = w ∨ quoW w a b = w.drew := by
  unfold quoW; cases dv a b <;> simp

/-- What the call does to the world: nothing, or it draws. -/
def Dr (w w' : World) : Prop := w' = w ∨ w' = w.drew
theorem Dr.below {w w' : World} (h : Dr w w') (n : Nat) : Below n w w' := by
  rcases h with rfl | rfl
  · exact Below.refl _ _
  · exact (Below.refl _ _).drew

theorem o_ne (a : Nat) : (FloatKind.f64.format.order a a != some .eq) = nn a := by
  have := @eq_is a a
  unfold eq at this
  rw [bne, this]; cases nn a <;> simp
theorem o_eq (a b : Nat) : (FloatKind.f64.format.order a b == some .eq) = eq a b := rfl
theorem o_lt (a b : Nat) : (FloatKind.f64.format.order a b == some .lt) = lt a b := rfl
theorem nn_z : nn 0 = false := rfl
theorem nn_M : nn 9218868437227405311 = false := rfl
theorem nn_m : nn 18442240474082181119 = false := rfl
theorem vl_z : vl 0 = 0 := rfl
theorem vl_M : vl 9218868437227405311 = 9218868437227405311 := rfl
theorem vl_m : vl 18442240474082181119 = -9218868437227405311 := rfl

/-- Each number has one of seven places. -/
theorem seven (a : Nat) : (nn a = true ∧ cls a = 6) ∨ (nn a = false ∧ rg a = 0 ∧ sg a = true ∧ cls a = 2) ∨ (nn a = false ∧ rg a = 0 ∧ sg a = false ∧ cls a = 3)
    ∨ (nn a = false ∧ rg a = 9218868437227405312 ∧ sg a = true ∧ cls a = 0) ∨ (nn a = false ∧ rg a = 9218868437227405312 ∧ sg a = false ∧ cls a = 5)
    ∨ (nn a = false ∧ 0 < rg a ∧ rg a < 9218868437227405312 ∧ sg a = true ∧ cls a = 1) ∨ (nn a = false ∧ 0 < rg a ∧ rg a < 9218868437227405312 ∧ sg a = false ∧ cls a = 4) := by
  unfold cls
  cases h : nn a
  · have := not_nn h
    by_cases h1 : rg a = 0
    · cases h2 : sg a <;> simp [h1]
    · by_cases h3 : rg a = 9218868437227405312
      · cases h2 : sg a <;> simp [h3]
      · have p1 : 0 < rg a := by omega
        have p2 : rg a < 9218868437227405312 := by omega
        cases h2 : sg a <;> simp [h1, h3, p1, p2]
  · simp

theorem two_zeros {a : Nat} (ha : a < 18446744073709551616) (h : rg a = 0) : (sg a = true → a = 9223372036854775808) ∧ (sg a = false → a = 0) := by
  unfold rg at h
  unfold sg
  constructor
  · intro e; simp only [beq_iff_eq] at e; omega
  · intro e; simp only [beq_eq_false_iff_ne, ne_eq] at e; omega

theorem class27 (a : Nat) (w : World) (ha : a < 18446744073709551616) :
    Calls Tryd.prog 9 #[.float .f64 a] w fun e w' => e = .returned (.int .i64 (cls a)) ∧ w' = w := by
  have z := two_zeros ha
  rcases seven a with ⟨h1, h2⟩ | ⟨h1, h2, h3, h4⟩ | ⟨h1, h2, h3, h4⟩ | ⟨h1, h2, h3, h4⟩ | ⟨h1, h2, h3, h4⟩ | ⟨h1, h2, h2', h3, h4⟩ | ⟨h1, h2, h2', h3, h4⟩
  · have f1 : (FloatKind.f64.format.order a a != some .eq) = true := by rw [o_ne, h1]
    rw [h2]
    clear z h2
    go_enter Tryd.func9, Tryd.ntmps9
    go_wp2
    all_goals (go_ret; exact ⟨rfl, rfl⟩)
  · have e := (z h2).1 h3
    subst e
    rw [h4]
    clear z h1 h2 h3 h4
    have f1 : (FloatKind.f64.format.order 9223372036854775808 9223372036854775808 != some .eq) = false := rfl
    have f2 : (FloatKind.f64.format.order 9223372036854775808 0 == some .eq) = true := rfl
    have f3 : quoB w 4607182418800017408 9223372036854775808 = 18442240474082181120 := rfl
    have f4 : quoW w 4607182418800017408 9223372036854775808 = w := rfl
    have f5 : (FloatKind.f64.format.order 18442240474082181120 0 == some .lt) = true := rfl
    go_enter Tryd.func9, Tryd.ntmps9
    go_wp2
    all_goals (go_ret; exact ⟨rfl, rfl⟩)
  · have e := (z h2).2 h3
    subst e
    rw [h4]
    clear z h1 h2 h3 h4
    have f1 : (FloatKind.f64.format.order 0 0 != some .eq) = false := rfl
    have f2 : (FloatKind.f64.format.order 0 0 == some .eq) = true := rfl
    have f3 : quoB w 4607182418800017408 0 = 9218868437227405312 := rfl
    have f4 : quoW w 4607182418800017408 0 = w := rfl
    have f5 : (FloatKind.f64.format.order 9218868437227405312 0 == some .lt) = false := rfl
    go_enter Tryd.func9, Tryd.ntmps9
    go_wp2
    all_goals (go_ret; exact ⟨rfl, rfl⟩)
  all_goals
    have f1 : (FloatKind.f64.format.order a a != some .eq) = false := by rw [o_ne, h1]
    have v : vl a = if sg a then -(rg a : Int) else (rg a : Int) := rfl
    rw [h3] at v
    simp only [if_true, Bool.false_eq_true, if_false] at v
    obtain ⟨b2, f2, e2⟩ : ∃ b, (FloatKind.f64.format.order a 0 == some .eq) = b ∧ b = decide (vl a = 0) := ⟨_, rfl, by rw [o_eq, eq_is, h1, nn_z, vl_z]; rfl⟩
    obtain ⟨b3, f3, e3⟩ : ∃ b, (FloatKind.f64.format.order a 0 == some .gt) = b ∧ b = decide (0 < vl a) := ⟨_, rfl, by rw [gt_is, h1, nn_z, vl_z]; rfl⟩
    obtain ⟨b4, f4, e4⟩ : ∃ b, (FloatKind.f64.format.order a 9218868437227405311 == some .gt) = b ∧ b = decide (9218868437227405311 < vl a) := ⟨_, rfl, by rw [gt_is, h1, nn_M, vl_M]; rfl⟩
    obtain ⟨b5, f5, e5⟩ : ∃ b, (FloatKind.f64.format.order a 18442240474082181119 == some .lt) = b ∧ b = decide (vl a < -9218868437227405311) := ⟨_, rfl, by rw [o_lt, lt_is, h1, nn_m, vl_m]; rfl⟩
    rw [h4]
    have e2' : b2 = false := by rw [e2]; exact decide_eq_false (by omega)
    subst e2'
    first
    | (have e3' : b3 = true := by rw [e3]; exact decide_eq_true (by omega)
       subst e3'
       first
       | (have e4' : b4 = true := by rw [e4]; exact decide_eq_true (by omega)
          subst e4')
       | (have e4' : b4 = false := by rw [e4]; exact decide_eq_false (by omega)
          subst e4'))
    | (have e3' : b3 = false := by rw [e3]; exact decide_eq_false (by omega)
       subst e3'
       first
       | (have e5' : b5 = true := by rw [e5]; exact decide_eq_true (by omega)
          subst e5')
       | (have e5' : b5 = false := by rw [e5]; exact decide_eq_false (by omega)
          subst e5'))
    clear e2 e3 e4 e5 v h1 h2 h3 h4 z
    go_enter Tryd.func9, Tryd.ntmps9
    go_wp2
    all_goals (go_ret; exact ⟨rfl, rfl⟩)

theorem class18 (a : Nat) (w : World) (ha : a < 18446744073709551616) :
    Calls Tryd.prog 5 #[.float .f64 a] w fun e w' => e = .returned (.int .i64 (cls a)) ∧ w' = w := by
  go_enter Tryd.func5, Tryd.ntmps5
  go_wp2_with (go_at_call 9; refine (class27 a _ ha).mono ?_; rintro _ _ ⟨rfl, rfl⟩)
  go_ret; exact ⟨rfl, rfl⟩

theorem less8 (a b : Nat) (w : World) (ha : a < 18446744073709551616) (hb : b < 18446744073709551616) :
    Calls Tryd.prog 25 #[.float .f64 a, .float .f64 b] w fun e w' => e = .returned (.bool (less a b)) ∧ w' = w := by
  have h := less_is a b
  have f1 := o_lt a b
  have f2 := o_eq a b
  have na := isnan25 a
  have nb := isnan25 b
  have sa := fun w => signbit26 a w ha
  have sb := fun w => signbit26 b w hb
  generalize nn a = p1 at *
  generalize nn b = p2 at *
  generalize sg a = p3 at *
  generalize sg b = p4 at *
  generalize lt a b = p5 at *
  generalize eq a b = p6 at *
  generalize less a b = r at *
  have H := Lib.hid h
  clear ha hb h
  go_enter Tryd.func25, Tryd.ntmps25
  go_wp2_with (first | (go_at_call 10; (first | (with_reducible refine (na _).mono ?_; rintro _ _ ⟨rfl, rfl⟩) | (with_reducible refine (nb _).mono ?_; rintro _ _ ⟨rfl, rfl⟩))) | (go_at_call 33; (first | (with_reducible refine (sa _).mono ?_; rintro _ _ ⟨rfl, rfl⟩) | (with_reducible refine (sb _).mono ?_; rintro _ _ ⟨rfl, rfl⟩))))
  all_goals (have h : (if p1 then false else if p2 then true else if p6 then (p3 && !p4) else p5) = r := H; clear H na nb sa sb f1 f2; go_ret; exact ⟨by rw [← h]; simp_all, rfl⟩)

def of (n : Int) : Nat := floatOfInt .f64 n
theorem of_lt (n : Int) : of n < 18446744073709551616 := by
  have h := dbl.write_lt (.number (n < 0) n.natAbs 0)
  exact h

theorem share13 (a b : Int) (w : World) :
    Calls Tryd.prog 20 #[.int .i64 a, .int .i64 b] w fun e w' => e = .returned (.float .f64 (quoB w (of a) (of b))) ∧ w' = quoW w (of a) (of b) := by
  go_enter Tryd.func20, Tryd.ntmps20
  go_wp2
  go_ret; exact ⟨rfl, rfl⟩
/-- What a share's call gives: some word at the quotient's place. -/
def Shr (k : Int) (w : World) (e : Ending) (w' : World) : Prop := ∃ r, e = .returned (.float .f64 r) ∧ r < 18446744073709551616 ∧ ky r = k ∧ Dr w w'
def ks (a b : Int) : Int := kq (of a) (of b)
theorem share13' (a b : Int) (w : World) : Calls Tryd.prog 20 #[.int .i64 a, .int .i64 b] w (Shr (ks a b) w) :=
  (share13 a b w).mono (by rintro e w' ⟨rfl, rfl⟩; exact ⟨_, rfl, quoB_lt _ _ _, quoB_ky _ _ _, quoW_or _ _ _⟩)
end Fl
end Go.Proofs.YtohjpclpeiidfaaDoor
