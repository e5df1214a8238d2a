/- The anchor; quotients of numbers that are not below nought. -/
import Derived.Test.YtohjpclpeiidfaaH
namespace Go.Proofs.Ytohjpclpeiidfaa
open Go.RowKit Go.PlainAid
set_option linter.unusedSimpArgs false
set_option linter.unusedVariables false
namespace Fl

theorem ks60 : ks 6 0 = kInf := by decide +kernel
theorem ks00 : ks 0 0 = kNan := by decide +kernel

theorem sl_two (a b : Int) (w : World) : Sl (w.alloc (.cells #[.int .i64 a, .int .i64 b] 3)) (.slice (some ⟨w.heap.size, 0, none⟩) 2 2) (il [a, b]) := by
  refine .inr ⟨w.heap.size, 0, 2, rfl, Nat.le_refl _, ?_⟩
  intro i x hi
  match i, hi with
  | 0, hi => simp [il] at hi; subst hi; simp
  | 1, hi => simp [il] at hi; subst hi; simp
theorem sl_three (a b c : Int) (w : World) : Sl (w.alloc (.cells #[.int .i64 a, .int .i64 b, .int .i64 c] 3)) (.slice (some ⟨w.heap.size, 0, none⟩) 3 3) (il [a, b, c]) := by
  refine .inr ⟨w.heap.size, 0, 3, rfl, Nat.le_refl _, ?_⟩
  intro i x hi
  match i, hi with
  | 0, hi => simp [il] at hi; subst hi; simp
  | 1, hi => simp [il] at hi; subst hi; simp
  | 2, hi => simp [il] at hi; subst hi; simp
theorem alloc_bel (w : World) (o : Obj) : Below w.heap.size w (w.alloc o) := (Below.refl _ w).alloc (Nat.le_refl _) o

set_option maxHeartbeats 2000000 in
set_option maxRecDepth 100000 in
theorem anchor7 (w : World) : Calls Try.prog 7 #[] w fun e w' => e = .returned (.bool true) ∧ Below w.heap.size w w' := by
  have C := Lib.hid fun v W hv => best21 ⟨#[]⟩ v [2, 3] W (by decide) hv (by decide)
  have HK : Hid (∀ x y, BestR (kw [2, 3] (ls ⟨#[]⟩)) [2, 3] 0 x y → x = 2 ∧ y = 0) := Lib.hid (by
    rintro x y (⟨h, _⟩ | ⟨j, hj, hF, h⟩)
    · cases h
    · have k0 : kw [2, 3] (ls ⟨#[]⟩) 0 = kInf := ks60
      have k1 : kw [2, 3] (ls ⟨#[]⟩) 1 = kNan := ks00
      have hj : j < 2 := hj
      rcases hF with ⟨h0, _⟩ | ⟨j', h1, h2, h3, h4⟩
      · simp at h0
      · have e : j = j' := by omega
        subst e
        have hj0 : j = 0 := by
          rcases Nat.eq_zero_or_pos j with h | h
          · exact h
          · obtain rfl : j = 1 := by omega
            have := h3 0 (by decide)
            rw [k0, k1] at this
            exact absurd this (by decide)
        subst hj0
        rcases h with ⟨h, _⟩ | ⟨_, h5, h6⟩
        · exact absurd h (by decide)
        · exact ⟨h5, h6⟩)
  go_enter Try.func7, Try.ntmps7
  go_wp2_with fail
  refine (C.out _ _ (sl_two 2 3 w)).mono ?_
  rintro e w1 ⟨x, y, rfl, hr, hb⟩
  obtain ⟨rfl, rfl⟩ := HK.out x y hr
  have HB := Lib.hid ((alloc_bel w _).trans (hb.mono (by simp)))
  clear hr hb C HK
  go_wp2
  go_ret
  exact ⟨rfl, HB.out⟩
end Fl
end Go.Proofs.Ytohjpclpeiidfaa
