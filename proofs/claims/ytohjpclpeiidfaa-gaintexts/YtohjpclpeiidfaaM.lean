/- GainTexts, walked. -/
import Derived.Test.YtohjpclpeiidfaaL
namespace Go.Proofs.Ytohjpclpeiidfaa
open Go.RowKit Go.PlainAid
set_option linter.unusedSimpArgs false
set_option linter.unusedVariables false
namespace Fl

theorem at0_app (a b : List UInt8) (h : 0 < b.length) : at0 (a ++ b) ((a ++ b).length - 1) = at0 b (b.length - 1) := by
  unfold at0
  rw [List.getD_eq_getElem?_getD, List.getD_eq_getElem?_getD, List.length_append, List.getElem?_append_right (by omega)]
  congr 3
  omega
theorem txt_both {a b : List UInt8} (h1 : txt a = true) (h2 : txt b = true) : txt (a ++ b) = true := by
  unfold txt at *
  simp only [Bool.and_eq_true, decide_eq_true_eq] at *
  obtain ⟨p1, p2, p3⟩ := h1
  obtain ⟨q1, q2, q3⟩ := h2
  refine ⟨by unfold allT at *; rw [List.all_append, p1, q1]; rfl, by rw [List.length_append]; omega, ?_⟩
  rw [at0_app a b q2]; exact q3
theorem txt_second {a b : List UInt8} (h : txt (a ++ b) = true) (hb : 0 < b.length) : txt b = true := by
  unfold txt at *
  simp only [Bool.and_eq_true, decide_eq_true_eq] at *
  obtain ⟨p1, p2, p3⟩ := h
  rw [at0_app a b hb] at p3
  refine ⟨?_, hb, p3⟩
  unfold allT at *
  rw [List.all_append, Bool.and_eq_true] at p1
  exact p1.2
theorem txt_pos {a : List UInt8} (h : txt a = true) : 0 < a.length := by
  unfold txt at h
  simp only [Bool.and_eq_true, decide_eq_true_eq] at h
  exact h.2.1

theorem kInf_cls {r : Nat} (h : ky r = kInf) : cls r = 5 := by
  have : ky 9218868437227405312 = kInf := by decide
  rw [cls_ky (h.trans this.symm)]; rfl
theorem kOne_eq {r : Nat} (h : ky r = 4607182418800017408) : (FloatKind.f64.format.order r 4607182418800017408 == some .eq) = true := by
  rw [o_eq, eq_is]
  have h2 := rg_lt r
  have h3 : nn 4607182418800017408 = false := by decide
  have h4 : vl 4607182418800017408 = 4607182418800017408 := by decide
  rw [h3, h4]
  unfold ky at h
  unfold vl
  cases hn : nn r
  · rw [hn] at h
    cases hs : sg r
    · rw [hs] at h
      simp only [Bool.false_eq_true, if_false] at h ⊢
      rw [h]; rfl
    · rw [hs] at h
      simp only [Bool.false_eq_true, if_false, if_true] at h
      omega
  · rw [hn] at h
    simp only [if_true] at h
    omega

/-- Told raw no way costs less. -/
theorem raw_best {l : List UInt8} (ht : txt l = true) (hl : l.length ≤ 3000) {x y : Int} (h : BestR (kw [1, 2, 3] l) [1, 2, 3] l.length x y) : x = 1 ∧ y = 0 := by
  have hp := txt_pos ht
  have k0 : kw [1, 2, 3] l 0 = 4607182418800017408 := by
    show kc 1 l = _
    unfold kc; rw [if_pos rfl, ht, if_pos rfl]
    exact ks_same hp (by omega)
  have k1 : 4607182418800017408 ≤ kw [1, 2, 3] l 1 := by
    show _ ≤ kc 2 l
    unfold kc; rw [if_neg (by decide), if_pos rfl]
    refine ks_ge hp ?_ ?_ <;> unfold Uu.sizeR <;> split <;> omega
  have k2 : 4607182418800017408 ≤ kw [1, 2, 3] l 2 := by
    show _ ≤ kc 3 l
    unfold kc; rw [if_neg (by decide), if_neg (by decide), if_pos rfl]
    have := Es.esc_len_le l
    split
    · exact ks_ge hp this.1 (by omega)
    · decide
  rcases h with ⟨h, _⟩ | ⟨j, hj, hF, h⟩
  · cases h
  · have hj : j < 3 := hj
    have hj0 : j = 0 := by
      rcases hF with ⟨h0, _⟩ | ⟨j', h1, h2, h3, h4⟩
      · simp at h0
      · have e : j = j' := by omega
        subst e
        rcases Nat.eq_zero_or_pos j with h | h
        · exact h
        · have h5 := h4 0 h
          have : j = 1 ∨ j = 2 := by omega
          rcases this with rfl | rfl <;> omega
    subst hj0
    rcases h with ⟨_, h, _⟩ | ⟨_, h5, h6⟩
    · rw [k0] at h; exact absurd h (by decide)
    · exact ⟨h5, h6⟩

set_option maxHeartbeats 16000000 in
set_option maxRecDepth 100000 in
theorem texts6 (a b : ByteArray) (ha : a.size ≤ 140737488351232) (hb : b.size ≤ 140737488351232) (W : World) :
    Calls Try.prog 6 #[.string a, .string b] W fun e W' => e = .returned (.bool true) ∧ Below W.heap.size W W' := by
  have C := Lib.hid (anchor7 W)
  by_cases hlen : 2000 < a.size + b.size
  · go_enter Try.func6, Try.ntmps6
    go_wp2_with fail
    refine C.out.mono ?_
    rintro e w1 ⟨rfl, hb1⟩
    have HB := Lib.hid hb1
    clear hb1
    go_wp2_with fail
    go_ret
    exact ⟨rfl, HB.out⟩
  · have hab : (a ++ b).size = a.size + b.size := by simp
    have T0 := Lib.hid fun w => text23 (a ++ b) w (by omega)
    have T1 := Lib.hid fun w => text23 a w (by omega)
    have T2 := Lib.hid fun w => text23 b w (by omega)
    have CC := Lib.hid fun w => cost19 1 (a ++ b) w (by omega)
    have CB := Lib.hid fun v w hv => best21 (a ++ b) v [1, 2, 3] w (by omega) hv (by decide)
    have hl : ls (a ++ b) = ls a ++ ls b := app_ls2 a b
    have t1 : txt (ls a) = true → txt (ls b) = true → txt (ls (a ++ b)) = true := by rw [hl]; exact txt_both
    have t2 : txt (ls (a ++ b)) = true → 0 < b.size → txt (ls b) = true := by rw [hl]; intro h h2; exact txt_second h (by rw [ls_len]; exact h2)
    have hlab : (ls (a ++ b)).length ≤ 2000 := by rw [ls_len]; omega
    have HR : Hid (txt (ls (a ++ b)) = true → ∀ x y, BestR (kw [1, 2, 3] (ls (a ++ b))) [1, 2, 3] (a ++ b).size x y → x = 1 ∧ y = 0) := Lib.hid fun h x y hB => raw_best h (by omega) (by rw [ls_len]; exact hB)
    have k1 : txt (ls (a ++ b)) = false → kc 1 (ls (a ++ b)) = kInf := by intro h; unfold kc; rw [if_pos rfl, h]; rfl
    have k2 : txt (ls (a ++ b)) = true → kc 1 (ls (a ++ b)) = 4607182418800017408 := by intro h; unfold kc; rw [if_pos rfl, h, if_pos rfl]; exact ks_same (txt_pos h) (by omega)
    have hbe : (b.size = 0 ∧ (b.toList == []) = true) ∨ (0 < b.size ∧ (b.toList == []) = false) := by
      rcases Nat.eq_zero_or_pos b.size with h | h
      · exact .inl ⟨h, toList_em h⟩
      · exact .inr ⟨h, toList_ne h⟩
    have HAB := Lib.hid hab
    clear hl hlab hab
    generalize txt (ls (a ++ b)) = pm at *
    generalize txt (ls a) = pa at *
    generalize txt (ls b) = pb at *
    generalize kw [1, 2, 3] (ls (a ++ b)) = KW at *
    generalize kc 1 (ls (a ++ b)) = KC at *
    cases pm
    · have KE := Lib.hid (k1 rfl)
      have hs : pa = false ∨ (pa = true ∧ pb = false) := by
        cases pa
        · exact .inl rfl
        · cases pb
          · exact .inr ⟨rfl, rfl⟩
          · exact absurd (t1 rfl rfl) (by decide)
      clear t1 t2 k1 k2 HR CB hbe
      rcases hs with rfl | ⟨rfl, rfl⟩
      all_goals
        go_enter Try.func6, Try.ntmps6
        go_wp2_with fail
        refine C.out.mono ?_
        rintro e w1 ⟨rfl, hb1⟩
        have HB := Lib.hid hb1
        clear hb1
        go_wp2_with (go_at_call 23; (first
          | ((with_reducible refine (T0.out _).mono ?_); rintro e w' ⟨rfl, rfl⟩)
          | ((with_reducible refine (T1.out _).mono ?_); rintro e w' ⟨rfl, rfl⟩)
          | ((with_reducible refine (T2.out _).mono ?_); rintro e w' ⟨rfl, rfl⟩)))
        refine (CC.out _).mono ?_
        rintro e w2 ⟨r, rfl, hr, hk, hd⟩
        have HB2 := Lib.hid (HB.out.trans (hd.bel.mono HB.out.size))
        have CL := Lib.hid fun w => class18 r w hr
        rw [kInf_cls (hk.trans KE.out)] at CL
        clear hd hr hk
        go_wp2_with (go_at_call 18; (with_reducible refine (CL.out _).mono ?_); rintro e w' ⟨rfl, rfl⟩)
        go_ret
        exact ⟨rfl, HB2.out⟩
    · have KE := Lib.hid (k2 rfl)
      have HX := Lib.hid (HR.out rfl)
      have hs : (pa = false ∨ pa = true) ∧ ((pb = true ∧ (b.toList == []) = true) ∨ (pb = true ∧ (b.toList == []) = false) ∨ (pb = false ∧ (b.toList == []) = true)) := by
        refine ⟨by cases pa <;> simp, ?_⟩
        rcases hbe with ⟨h, h2⟩ | ⟨h, h2⟩
        · cases pb
          · exact .inr (.inr ⟨rfl, h2⟩)
          · exact .inl ⟨rfl, h2⟩
        · exact .inr (.inl ⟨t2 rfl h, h2⟩)
      clear t1 t2 k1 k2 HR hbe
      rcases hs with ⟨rfl | rfl, ⟨rfl, he⟩ | ⟨rfl, he⟩ | ⟨rfl, he⟩⟩
      all_goals
        go_enter Try.func6, Try.ntmps6
        go_wp2_with fail
        refine C.out.mono ?_
        rintro e w1 ⟨rfl, hb1⟩
        have HB := Lib.hid hb1
        clear hb1
        go_wp2_with (go_at_call 23; (first
          | ((with_reducible refine (T0.out _).mono ?_); rintro e w' ⟨rfl, rfl⟩)
          | ((with_reducible refine (T1.out _).mono ?_); rintro e w' ⟨rfl, rfl⟩)
          | ((with_reducible refine (T2.out _).mono ?_); rintro e w' ⟨rfl, rfl⟩)))
        refine (CB.out _ _ (sl_three 1 2 3 _)).mono ?_
        rintro e w2 ⟨x, y, rfl, hr, hd⟩
        obtain ⟨rfl, rfl⟩ := HX.out x y hr
        have HB2 := Lib.hid (HB.out.trans (((alloc_bel _ _).trans (hd.mono (by simp))).mono HB.out.size))
        clear hd hr
        go_wp2_with fail
        refine (CC.out _).mono ?_
        rintro e w3 ⟨r, rfl, hr, hk, hd⟩
        have HB3 := Lib.hid (HB2.out.trans (hd.bel.mono HB2.out.size))
        have f1 := kOne_eq (hk.trans KE.out)
        clear hd hr hk
        go_wp2
        go_ret
        exact ⟨rfl, HB3.out⟩
end Fl
end Go.Proofs.Ytohjpclpeiidfaa
