/- PathJoins, walked: the function returns true for every two texts. Condition: lengths as any row's. -/
import Derived.Test.YthpdmnhopbbnfaaDoorK
namespace Go.Proofs.YthpdmnhopbbnfaaDoor
open Go.RowKit Go.PlainAid
set_option linter.unusedSimpArgs false

theorem under_cases (a b : ByteArray) : (¬ b.size < a.size ∧ underB a b = false) ∨ (b.size < a.size ∧ ((a.extract 0 b.size).toList == b.toList) = false ∧ underB a b = false) ∨
    (b.size < a.size ∧ ((a.extract 0 b.size).toList == b.toList) = true ∧ underB a b = (bt a b.size == 47)) := by
  by_cases h : b.size < a.size
  · have hb : absB (a.extract b.size a.size) = (bt a b.size == 47) := by
      unfold absB
      rw [ext_size, ext_bt _ _ _ _ (by omega), decide_eq_true (by omega)]; rfl
    cases he : ((a.extract 0 b.size).toList == b.toList)
    · exact .inr (.inl ⟨h, rfl, by unfold underB prefB; rw [he]; simp⟩)
    · exact .inr (.inr ⟨h, rfl, by unfold underB prefB; rw [he, hb, decide_eq_true (by omega)]; simp⟩)
  · refine .inl ⟨h, ?_⟩
    unfold underB
    have : absB (a.extract b.size a.size) = false := by unfold absB; rw [ext_size, decide_eq_false (by omega)]; rfl
    rw [this, Bool.and_false]

theorem joinS_size (a b : ByteArray) : (joinS a b).size ≤ a.size + b.size + 1 := by
  have h1 : ByteArray.size ⟨#[47]⟩ = 1 := rfl
  unfold joinS
  split
  · omega
  · split
    · rw [app_size]; omega
    · rw [app_size, app_size, h1]; omega

set_option maxHeartbeats 8000000 in
set_option maxRecDepth 100000 in
theorem joins5_in (a b : ByteArray) (w : World) (h : a.size + b.size ≤ 5000) : Calls Tryd.prog 5 #[.string a, .string b] w fun e w' => e = .returned (.bool true) ∧ Below w.heap.size w w' := by
  have hjs := joinS_size a b
  have hm : (joinS a b).size ≤ maxLen := by unfold maxLen; omega
  have c22 := fun w => join22 a b w (by omega) (by omega)
  have c23 := fun w => join23 a b w (by omega) (by omega)
  have c24 := fun w => under24 a b w
  have c24b := fun w => under24 (joinS a b) a w
  have c18 := fun w => base18 (joinS a b) w hm
  have c20 := fun w => dir20 (joinS a b) w hm
  have c25 := fun w => above25 a w (by omega)
  have c26 := fun w => above26 a w (by omega)
  have c13 := fun w => plain13 a w (by omega)
  have c9 := fun w => name9 b w (by unfold maxLen; omega)
  have hlen : (abvL a).length ≤ 5000 := Nat.le_trans (abvF_len a _) (by omega)
  have hf : plainB a = true → nameB b = true → underB (joinS a b) a = true ∧ baseS (joinS a b) = b ∧ dirS (joinS a b) = a := fun h1 h2 => join_facts h1 h2
  have hu := under_cases a b
  clear hm
  generalize underB (joinS a b) a = u2 at c24b hf
  generalize baseS (joinS a b) = bs at c18 hf
  generalize dirS (joinS a b) = ds at c20 hf
  generalize joinS a b = j at c22 c23 c24b c18 c20 hjs
  generalize abvL a = l at c25 c26 hlen
  generalize plainB a = pa at c13 hf
  generalize nameB b = nb at c9 hf
  generalize underB a b = u at c24 hu
  have C22 := Lib.hid c22
  have C23 := Lib.hid c23
  have C24 := Lib.hid c24
  have C24b := Lib.hid c24b
  have C18 := Lib.hid c18
  have C20 := Lib.hid c20
  have C25 := Lib.hid c25
  have C26 := Lib.hid c26
  have C13 := Lib.hid c13
  have C9 := Lib.hid c9
  have HF := Lib.hid hf
  clear c22 c23 c24 c24b c18 c20 c25 c26 c13 c9 hf
  have e1 : (j.toList == j.toList) = true := by simp
  have e2 : (a.toList == a.toList) = true := by simp
  have e3 : (b.toList == b.toList) = true := by simp
  have hb := get_bt a
  rcases hu with ⟨hu1, rfl⟩ | ⟨hu1, hu2, rfl⟩ | ⟨hu1, hu2, rfl⟩
  · go_enter Tryd.func5, Tryd.ntmps5
    go_wp2_with (first | (go_at_call 7; refine (anchor7 _).mono ?_; rintro e w' ⟨rfl, rfl⟩) | (go_at_call 22; refine (C22.out _).mono ?_; rintro e w' ⟨rfl, rfl⟩) | (go_at_call 23; refine (C23.out _).mono ?_; rintro e w' ⟨rfl, rfl⟩) | (go_at_call 24; refine (C24.out _).mono ?_; rintro e w' ⟨rfl, rfl⟩))
    refine (C25.out _).mono ?_
    rintro e w3 ⟨v3, rfl, o3, b3⟩
    have B3 := Lib.hid b3
    have L3 := Lib.hid o3.list
    obtain ⟨x1, x2, x3, rfl⟩ := slice_shape o3
    clear b3 o3
    go_wp2_with fail
    refine (C26.out _).mono ?_
    rintro e w4 ⟨v4, rfl, o4, b4⟩
    have B4 := Lib.hid (bel_trans B3.out b4)
    have L4 := Lib.hid o4.list
    have L5 := Lib.hid (L3.out.kept b4)
    obtain ⟨y1, y2, y3, rfl⟩ := slice_shape o4
    clear b4 o4
    go_wp2_with fail
    refine (same15 L5.out L4.out (by omega)).mono ?_
    rintro e w5 ⟨rfl, b5⟩
    have B5 := Lib.hid (bel_trans B4.out b5)
    clear b5
    go_wp2_with fail
    refine (C13.out _).mono ?_
    rintro e w6 ⟨rfl, b6⟩
    have B6 := Lib.hid (bel_trans B5.out b6)
    clear b6
    cases pa
    · go_wp2_with fail
      go_ret
      exact ⟨rfl, B6.out⟩
    cases nb
    · go_wp2_with (go_at_call 9; refine (C9.out _).mono ?_; rintro e w' ⟨rfl, rfl⟩)
      go_ret
      exact ⟨rfl, B6.out⟩
    obtain ⟨f1, f2, f3⟩ := HF.out rfl rfl
    subst f1 f2 f3
    go_wp2_with (first | (go_at_call 9; refine (C9.out _).mono ?_; rintro e w' ⟨rfl, rfl⟩) | (go_at_call 24; refine (C24b.out _).mono ?_; rintro e w' ⟨rfl, rfl⟩) | (go_at_call 18; refine (C18.out _).mono ?_; rintro e w' ⟨rfl, rfl⟩) | (go_at_call 20; refine (C20.out _).mono ?_; rintro e w' ⟨rfl, rfl⟩))
    go_ret
    exact ⟨rfl, B6.out⟩
  · go_enter Tryd.func5, Tryd.ntmps5
    go_wp2_with (first | (go_at_call 7; refine (anchor7 _).mono ?_; rintro e w' ⟨rfl, rfl⟩) | (go_at_call 22; refine (C22.out _).mono ?_; rintro e w' ⟨rfl, rfl⟩) | (go_at_call 23; refine (C23.out _).mono ?_; rintro e w' ⟨rfl, rfl⟩) | (go_at_call 24; refine (C24.out _).mono ?_; rintro e w' ⟨rfl, rfl⟩))
    refine (C25.out _).mono ?_
    rintro e w3 ⟨v3, rfl, o3, b3⟩
    have B3 := Lib.hid b3
    have L3 := Lib.hid o3.list
    obtain ⟨x1, x2, x3, rfl⟩ := slice_shape o3
    clear b3 o3
    go_wp2_with fail
    refine (C26.out _).mono ?_
    rintro e w4 ⟨v4, rfl, o4, b4⟩
    have B4 := Lib.hid (bel_trans B3.out b4)
    have L4 := Lib.hid o4.list
    have L5 := Lib.hid (L3.out.kept b4)
    obtain ⟨y1, y2, y3, rfl⟩ := slice_shape o4
    clear b4 o4
    go_wp2_with fail
    refine (same15 L5.out L4.out (by omega)).mono ?_
    rintro e w5 ⟨rfl, b5⟩
    have B5 := Lib.hid (bel_trans B4.out b5)
    clear b5
    go_wp2_with fail
    refine (C13.out _).mono ?_
    rintro e w6 ⟨rfl, b6⟩
    have B6 := Lib.hid (bel_trans B5.out b6)
    clear b6
    cases pa
    · go_wp2_with fail
      go_ret
      exact ⟨rfl, B6.out⟩
    cases nb
    · go_wp2_with (go_at_call 9; refine (C9.out _).mono ?_; rintro e w' ⟨rfl, rfl⟩)
      go_ret
      exact ⟨rfl, B6.out⟩
    obtain ⟨f1, f2, f3⟩ := HF.out rfl rfl
    subst f1 f2 f3
    go_wp2_with (first | (go_at_call 9; refine (C9.out _).mono ?_; rintro e w' ⟨rfl, rfl⟩) | (go_at_call 24; refine (C24b.out _).mono ?_; rintro e w' ⟨rfl, rfl⟩) | (go_at_call 18; refine (C18.out _).mono ?_; rintro e w' ⟨rfl, rfl⟩) | (go_at_call 20; refine (C20.out _).mono ?_; rintro e w' ⟨rfl, rfl⟩))
    go_ret
    exact ⟨rfl, B6.out⟩
  · go_enter Tryd.func5, Tryd.ntmps5
    go_wp2_with (first | (go_at_call 7; refine (anchor7 _).mono ?_; rintro e w' ⟨rfl, rfl⟩) | (go_at_call 22; refine (C22.out _).mono ?_; rintro e w' ⟨rfl, rfl⟩) | (go_at_call 23; refine (C23.out _).mono ?_; rintro e w' ⟨rfl, rfl⟩) | (go_at_call 24; refine (C24.out _).mono ?_; rintro e w' ⟨rfl, rfl⟩))
    refine (C25.out _).mono ?_
    rintro e w3 ⟨v3, rfl, o3, b3⟩
    have B3 := Lib.hid b3
    have L3 := Lib.hid o3.list
    obtain ⟨x1, x2, x3, rfl⟩ := slice_shape o3
    clear b3 o3
    go_wp2_with fail
    refine (C26.out _).mono ?_
    rintro e w4 ⟨v4, rfl, o4, b4⟩
    have B4 := Lib.hid (bel_trans B3.out b4)
    have L4 := Lib.hid o4.list
    have L5 := Lib.hid (L3.out.kept b4)
    obtain ⟨y1, y2, y3, rfl⟩ := slice_shape o4
    clear b4 o4
    go_wp2_with fail
    refine (same15 L5.out L4.out (by omega)).mono ?_
    rintro e w5 ⟨rfl, b5⟩
    have B5 := Lib.hid (bel_trans B4.out b5)
    clear b5
    go_wp2_with fail
    refine (C13.out _).mono ?_
    rintro e w6 ⟨rfl, b6⟩
    have B6 := Lib.hid (bel_trans B5.out b6)
    clear b6
    cases pa
    · go_wp2_with fail
      go_ret
      exact ⟨rfl, B6.out⟩
    cases nb
    · go_wp2_with (go_at_call 9; refine (C9.out _).mono ?_; rintro e w' ⟨rfl, rfl⟩)
      go_ret
      exact ⟨rfl, B6.out⟩
    obtain ⟨f1, f2, f3⟩ := HF.out rfl rfl
    subst f1 f2 f3
    go_wp2_with (first | (go_at_call 9; refine (C9.out _).mono ?_; rintro e w' ⟨rfl, rfl⟩) | (go_at_call 24; refine (C24b.out _).mono ?_; rintro e w' ⟨rfl, rfl⟩) | (go_at_call 18; refine (C18.out _).mono ?_; rintro e w' ⟨rfl, rfl⟩) | (go_at_call 20; refine (C20.out _).mono ?_; rintro e w' ⟨rfl, rfl⟩))
    go_ret
    exact ⟨rfl, B6.out⟩

set_option maxHeartbeats 2000000 in
set_option maxRecDepth 100000 in
theorem joins5 (a b : ByteArray) (ha : a.size ≤ 140737488351232) (hb : b.size ≤ 140737488351232) (w : World) : Calls Tryd.prog 5 #[.string a, .string b] w fun e w' => e = .returned (.bool true) ∧ Below w.heap.size w w' := by
  by_cases h : a.size + b.size ≤ 5000
  · exact joins5_in a b w h
  · go_enter Tryd.func5, Tryd.ntmps5
    go_wp2_with (go_at_call 7; refine (anchor7 _).mono ?_; rintro e w' ⟨rfl, rfl⟩)
    go_ret
    exact ⟨rfl, Below.refl _ _⟩
end Go.Proofs.YthpdmnhopbbnfaaDoor
