/- Contracts of Base and Dir, ours and the document's, and of the anchor. Condition: the text has a length that fits an int. -/
import Derived.Test.YthpdmnhopbbnfaaDoorB
import Derived.Below
namespace Go.Proofs.YthpdmnhopbbnfaaDoor
open Go.RowKit Go.PlainAid
set_option linter.unusedSimpArgs false

theorem beq_list {s t : ByteArray} : (s.toList == t.toList) = decide (s = t) := by
  rw [ByteArray.toList_eq, ByteArray.toList_eq]
  by_cases h : s = t
  · subst h; simp
  · rw [decide_eq_false h]
    apply beq_eq_false_iff_ne.2
    intro e
    apply h
    cases s; cases t
    simp at e
    rw [e]
theorem list47 (s : ByteArray) : (s.toList == [47]) = decide (s = ⟨#[47]⟩) := by
  rw [← beq_list]; congr 1; rw [ByteArray.toList_eq]

set_option maxHeartbeats 1000000 in
set_option maxRecDepth 100000 in
theorem base18 (s : ByteArray) (w : World) (hs : s.size ≤ maxLen) : Calls Tryd.prog 18 #[.string s] w fun e w' => e = .returned (.string (baseS s)) ∧ w = w' := by
  have hle := bareS_le s
  have c := fun w => wls31 s w hs
  obtain ⟨r, hr⟩ : ∃ r, baseS s = r := ⟨_, rfl⟩
  rw [hr]
  unfold baseS at hr
  generalize bareS s = t at c hr hle
  have C := Lib.hid c
  clear c
  have hl := lastN_lt t t.size
  by_cases h : t = ⟨#[47]⟩
  · rw [if_pos h] at hr
    subst hr
    have he : (t.toList == [47]) = true := by rw [list47]; exact decide_eq_true h
    clear h hl
    go_enter Tryd.func18, Tryd.ntmps18
    go_wp2_with (go_at_call 31; refine (C.out _).mono ?_; rintro e w' ⟨rfl, rfl⟩)
    go_ret
    exact ⟨rfl, rfl⟩
  · rw [if_neg h] at hr
    have he : (t.toList == [47]) = false := by rw [list47]; exact decide_eq_false h
    clear h
    have c2 := fun w => lib32 t w (by omega)
    generalize lastN t t.size = a at c2 hr hl
    have C2 := Lib.hid c2
    clear c2
    unfold maxLen at hs
    have HR := Lib.hid hr
    clear hr
    have h1 : 0 ≤ a + 1 := by omega
    have h2 : a + 1 ≤ (t.size : Int) := by omega
    go_enter Tryd.func18, Tryd.ntmps18
    go_wp2_with (first | (go_at_call 31; refine (C.out _).mono ?_; rintro e w' ⟨rfl, rfl⟩) | (go_at_call 32; refine (C2.out _).mono ?_; rintro e w' ⟨rfl, rfl⟩))
    go_ret
    rw [← HR.out]
    exact ⟨rfl, rfl⟩

set_option maxHeartbeats 1000000 in
set_option maxRecDepth 100000 in
theorem base19 (s : ByteArray) (w : World) (hs : s.size ≤ maxLen) : Calls Tryd.prog 19 #[.string s] w fun e w' => e = .returned (.string (baseS s)) ∧ w = w' := by
  have hle := bareS_le s
  have c := fun w => bare33 s w hs
  obtain ⟨r, hr⟩ : ∃ r, baseS s = r := ⟨_, rfl⟩
  rw [hr]
  unfold baseS at hr
  generalize bareS s = t at c hr hle
  have C := Lib.hid c
  clear c
  have hl := lastN_lt t t.size
  by_cases h : t = ⟨#[47]⟩
  · rw [if_pos h] at hr
    subst hr
    have he : (t.toList == [47]) = true := by rw [list47]; exact decide_eq_true h
    clear h hl
    go_enter Tryd.func19, Tryd.ntmps19
    go_wp2_with (go_at_call 33; refine (C.out _).mono ?_; rintro e w' ⟨rfl, rfl⟩)
    go_ret
    exact ⟨rfl, rfl⟩
  · rw [if_neg h] at hr
    have he : (t.toList == [47]) = false := by rw [list47]; exact decide_eq_false h
    clear h
    have c2 := fun w => last34 t w (by omega)
    generalize lastN t t.size = a at c2 hr hl
    have C2 := Lib.hid c2
    clear c2
    unfold maxLen at hs
    have HR := Lib.hid hr
    clear hr
    have h1 : 0 ≤ a + 1 := by omega
    have h2 : a + 1 ≤ (t.size : Int) := by omega
    go_enter Tryd.func19, Tryd.ntmps19
    go_wp2_with (first | (go_at_call 33; refine (C.out _).mono ?_; rintro e w' ⟨rfl, rfl⟩) | (go_at_call 34; refine (C2.out _).mono ?_; rintro e w' ⟨rfl, rfl⟩))
    go_ret
    rw [← HR.out]
    exact ⟨rfl, rfl⟩

set_option maxHeartbeats 1000000 in
set_option maxRecDepth 100000 in
theorem dir20 (s : ByteArray) (w : World) (hs : s.size ≤ maxLen) : Calls Tryd.prog 20 #[.string s] w fun e w' => e = .returned (.string (dirS s)) ∧ w = w' := by
  have hle := bareS_le s
  have c := fun w => wls31 s w hs
  obtain ⟨r, hr⟩ : ∃ r, dirS s = r := ⟨_, rfl⟩
  rw [hr]
  unfold dirS at hr
  generalize bareS s = t at c hr hle
  have C := Lib.hid c
  clear c
  have hl := lastN_lt t t.size
  have c2 := fun w => lib32 t w (by omega)
  generalize lastN t t.size = a at c2 hr hl
  have C2 := Lib.hid c2
  clear c2
  by_cases h : a < 0
  · rw [if_pos h] at hr
    subst hr
    clear hs
    go_enter Tryd.func20, Tryd.ntmps20
    go_wp2_with (first | (go_at_call 31; refine (C.out _).mono ?_; rintro e w' ⟨rfl, rfl⟩) | (go_at_call 32; refine (C2.out _).mono ?_; rintro e w' ⟨rfl, rfl⟩))
    go_ret
    exact ⟨rfl, rfl⟩
  · rw [if_neg h] at hr
    have c3 := fun w => wls31 (t.extract 0 (a + 1).toNat) w (by rw [ext_size]; omega)
    rw [hr] at c3
    have C3 := Lib.hid c3
    clear c3 hr
    unfold maxLen at hs
    have h1 : 0 ≤ a + 1 := by omega
    have h2 : a + 1 ≤ (t.size : Int) := by omega
    go_enter Tryd.func20, Tryd.ntmps20
    go_wp2_with (first | (go_at_call 31; (first | ((with_reducible refine (C.out _).mono ?_); rintro e w' ⟨rfl, rfl⟩) | ((with_reducible refine (C3.out _).mono ?_); rintro e w' ⟨rfl, rfl⟩))) | (go_at_call 32; refine (C2.out _).mono ?_; rintro e w' ⟨rfl, rfl⟩))
    go_ret
    exact ⟨rfl, rfl⟩

set_option maxHeartbeats 1000000 in
set_option maxRecDepth 100000 in
theorem dir21 (s : ByteArray) (w : World) (hs : s.size ≤ maxLen) : Calls Tryd.prog 21 #[.string s] w fun e w' => e = .returned (.string (dirS s)) ∧ w = w' := by
  have hle := bareS_le s
  have c := fun w => bare33 s w hs
  obtain ⟨r, hr⟩ : ∃ r, dirS s = r := ⟨_, rfl⟩
  rw [hr]
  have hsl : bareS s = ⟨#[47]⟩ → r = ⟨#[47]⟩ := fun h => by rw [← hr]; exact dirS_slash h
  unfold dirS at hr
  generalize bareS s = t at c hr hle hsl
  have C := Lib.hid c
  clear c
  have hl := lastN_lt t t.size
  by_cases h47 : t = ⟨#[47]⟩
  · have he : (t.toList == [47]) = true := by rw [list47]; exact decide_eq_true h47
    have HS := Lib.hid ((hsl h47).trans h47.symm)
    clear h47 hl hsl hr
    go_enter Tryd.func21, Tryd.ntmps21
    go_wp2_with (go_at_call 33; refine (C.out _).mono ?_; rintro e w' ⟨rfl, rfl⟩)
    go_ret
    rw [HS.out]
    exact ⟨rfl, rfl⟩
  have he : (t.toList == [47]) = false := by rw [list47]; exact decide_eq_false h47
  clear h47 hsl
  have c2 := fun w => last34 t w (by omega)
  generalize lastN t t.size = a at c2 hr hl
  have C2 := Lib.hid c2
  clear c2
  by_cases h : a < 0
  · rw [if_pos h] at hr
    subst hr
    clear hs
    go_enter Tryd.func21, Tryd.ntmps21
    go_wp2_with (first | (go_at_call 33; refine (C.out _).mono ?_; rintro e w' ⟨rfl, rfl⟩) | (go_at_call 34; refine (C2.out _).mono ?_; rintro e w' ⟨rfl, rfl⟩))
    go_ret
    exact ⟨rfl, rfl⟩
  · rw [if_neg h] at hr
    have c3 := fun w => bare33 (t.extract 0 (a + 1).toNat) w (by rw [ext_size]; omega)
    rw [hr] at c3
    have C3 := Lib.hid c3
    clear c3 hr
    unfold maxLen at hs
    have h1 : 0 ≤ a + 1 := by omega
    have h2 : a + 1 ≤ (t.size : Int) := by omega
    go_enter Tryd.func21, Tryd.ntmps21
    go_wp2_with (first | (go_at_call 33; (first | ((with_reducible refine (C.out _).mono ?_); rintro e w' ⟨rfl, rfl⟩) | ((with_reducible refine (C3.out _).mono ?_); rintro e w' ⟨rfl, rfl⟩))) | (go_at_call 34; refine (C2.out _).mono ?_; rintro e w' ⟨rfl, rfl⟩))
    go_ret
    exact ⟨rfl, rfl⟩

theorem anchor_dir : dirS ⟨#[97, 47, 47, 98, 47]⟩ = ⟨#[97]⟩ := by decide +kernel
theorem anchor_base : baseS ⟨#[97, 47, 47, 98, 47]⟩ = ⟨#[98]⟩ := by decide +kernel

set_option maxHeartbeats 1000000 in
set_option maxRecDepth 100000 in
theorem anchor7 (w : World) : Calls Tryd.prog 7 #[] w fun e w' => e = .returned (.bool true) ∧ w = w' := by
  have c1 := fun w => dir20 ⟨#[97, 47, 47, 98, 47]⟩ w (by decide)
  have c2 := fun w => base18 ⟨#[97, 47, 47, 98, 47]⟩ w (by decide)
  rw [anchor_dir] at c1
  rw [anchor_base] at c2
  have C1 := Lib.hid c1
  have C2 := Lib.hid c2
  clear c1 c2
  go_enter Tryd.func7, Tryd.ntmps7
  go_wp2_with (first | (go_at_call 20; refine (C1.out _).mono ?_; rintro e w' ⟨rfl, rfl⟩) | (go_at_call 18; refine (C2.out _).mono ?_; rintro e w' ⟨rfl, rfl⟩))
  go_ret
  exact ⟨rfl, rfl⟩

set_option maxHeartbeats 1000000 in
set_option maxRecDepth 100000 in
theorem splits4 (s : ByteArray) (hs : s.size ≤ 140737488351232) (w : World) : Calls Tryd.prog 4 #[.string s] w fun e w' => e = .returned (.bool true) ∧ Below w.heap.size w w' := by
  by_cases h : 5000 < s.size
  · go_enter Tryd.func4, Tryd.ntmps4
    go_wp2_with (go_at_call 7; refine (anchor7 _).mono ?_; rintro e w' ⟨rfl, rfl⟩)
    go_ret
    exact ⟨rfl, Below.refl _ _⟩
  · have hm : s.size ≤ maxLen := by unfold maxLen; omega
    have c1 := fun w => base18 s w hm
    have c2 := fun w => base19 s w hm
    have c3 := fun w => dir20 s w hm
    have c4 := fun w => dir21 s w hm
    clear hm
    generalize baseS s = b at c1 c2
    generalize dirS s = d at c3 c4
    have C1 := Lib.hid c1
    have C2 := Lib.hid c2
    have C3 := Lib.hid c3
    have C4 := Lib.hid c4
    clear c1 c2 c3 c4
    have e1 : (b.toList == b.toList) = true := by simp
    have e2 : (d.toList == d.toList) = true := by simp
    go_enter Tryd.func4, Tryd.ntmps4
    go_wp2_with (first | (go_at_call 7; refine (anchor7 _).mono ?_; rintro e w' ⟨rfl, rfl⟩) | (go_at_call 18; refine (C1.out _).mono ?_; rintro e w' ⟨rfl, rfl⟩) | (go_at_call 19; refine (C2.out _).mono ?_; rintro e w' ⟨rfl, rfl⟩) | (go_at_call 20; refine (C3.out _).mono ?_; rintro e w' ⟨rfl, rfl⟩) | (go_at_call 21; refine (C4.out _).mono ?_; rintro e w' ⟨rfl, rfl⟩))
    go_ret
    exact ⟨rfl, Below.refl _ _⟩
end Go.Proofs.YthpdmnhopbbnfaaDoor
