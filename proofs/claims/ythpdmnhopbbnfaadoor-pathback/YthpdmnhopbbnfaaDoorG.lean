/- Two lists of the same texts are the same; PathKinds, walked. Condition: the lists have at most 100000 texts. -/
import Derived.Test.YthpdmnhopbbnfaaDoorF
namespace Go.Proofs.YthpdmnhopbbnfaaDoor
open Go.RowKit Go.PlainAid
set_option linter.unusedSimpArgs false

def Rel15 (w : World) (l : List ByteArray) (i : Value) (wr : World) : Prop := ∃ (k n : Nat), k ≤ l.length ∧ i = .int .i64 k ∧ wr = w.drewN n

theorem list_cases {v : Value} {l : List ByteArray} {w : World} (h : ListAt v l w) : (v = .slice none 0 0 ∧ l = []) ∨ (l ≠ [] ∧ ∃ g cap, v = .slice (some ⟨g, 0, none⟩) l.length cap ∧ l.length ≤ cap ∧ ∀ j x, l[j]? = some x → w.cell? ⟨g, j, none⟩ = some (.string x)) ∨ (l = [] ∧ ∃ g cap, v = .slice (some ⟨g, 0, none⟩) 0 cap) := by
  rcases h with h | ⟨g, cap, h1, h2, _, h3⟩
  · exact .inl h
  · by_cases e : l = []
    · subst e; exact .inr (.inr ⟨rfl, g, cap, h1⟩)
    · exact .inr (.inl ⟨e, g, cap, h1, h2, h3⟩)

set_option maxHeartbeats 2000000 in
set_option maxRecDepth 100000 in
theorem same15_nil (a b : Option Addr) (c d : Nat) (w : World) : Calls Tryd.prog 15 #[.slice a 0 c, .slice b 0 d] w fun e w' => e = .returned (.bool true) ∧ w = w' := by
  go_enter Tryd.func15, Tryd.ntmps15
  go_wp2
  go_loopw [13] (fun i wr => i = .int .i64 0 ∧ wr = w) (fun _ _ => 0)
  case atStart => exact ⟨rfl, rfl⟩
  case round =>
    obtain ⟨rfl, rfl⟩ := hrel
    go_wp2
    go_ret
    exact ⟨rfl, rfl⟩

set_option maxHeartbeats 2000000 in
set_option maxRecDepth 100000 in
theorem same15_some (g1 g2 c1 c2 : Nat) (l : List ByteArray) (w : World) (hlen : l.length ≤ 100000)
    (hc1 : ∀ j x, l[j]? = some x → w.cell? ⟨g1, j, none⟩ = some (.string x)) (hc2 : ∀ j x, l[j]? = some x → w.cell? ⟨g2, j, none⟩ = some (.string x)) :
    Calls Tryd.prog 15 #[.slice (some ⟨g1, 0, none⟩) l.length c1, .slice (some ⟨g2, 0, none⟩) l.length c2] w fun e w' => e = .returned (.bool true) ∧ ∃ n, w' = w.drewN n := by
  have HC1 := Lib.hid hc1
  have HC2 := Lib.hid hc2
  clear hc1 hc2
  have hll : ((l.length : Int) != (l.length : Int)) = false := by simp
  go_enter Tryd.func15, Tryd.ntmps15
  go_wp2
  go_loopw [13] (Rel15 w l) (fun i _ => l.length - (intOf i).toNat)
  case atStart => exact ⟨0, 0, Nat.zero_le _, rfl, rfl⟩
  case round =>
    obtain ⟨k, n, hk, rfl, rfl⟩ := hrel
    by_cases hlt : k < l.length
    · obtain ⟨x, hx, _, _⟩ := drop_cons hlt
      have e1 := HC1.out k x hx
      have e2 := HC2.out k x hx
      have p1 : (0 : Int) ≤ (k : Int) := by omega
      have p2 : (k : Int) < (l.length : Int) := by omega
      have hxx : (x.toList == x.toList) = true := by simp
      clear hx
      go_wp2
      go_region
      go_wp2
      go_roundw
      case rel => exact ⟨k + 1, n + 1, hlt, by go_num, rfl⟩
      case measure => simp [intOf]; omega
    · obtain rfl : k = l.length := by omega
      go_wp2
      go_ret
      exact ⟨rfl, n, rfl⟩

theorem below_drewN {B : Nat} {a w : World} (h : Below B a w) : ∀ n, Below B a (w.drewN n)
  | 0 => h
  | _ + 1 => ⟨h.os, h.tape, h.output, h.size, h.block⟩

theorem same15 {v1 v2 : Value} {l : List ByteArray} {w : World} (h1 : ListAt v1 l w) (h2 : ListAt v2 l w) (hlen : l.length ≤ 100000) :
    Calls Tryd.prog 15 #[v1, v2] w fun e w' => e = .returned (.bool true) ∧ Below w.heap.size w w' := by
  have one : ∀ {v : Value}, ListAt v l w → (l = [] ∧ ∃ a c, v = .slice a 0 c) ∨ ∃ g c, v = .slice (some ⟨g, 0, none⟩) l.length c ∧ ∀ j x, l[j]? = some x → w.cell? ⟨g, j, none⟩ = some (.string x) := by
    intro v h
    rcases h with ⟨h, e⟩ | ⟨g, c, h, _, _, h3⟩
    · exact .inl ⟨e, _, _, h⟩
    · exact .inr ⟨g, c, h, h3⟩
  rcases one h1 with ⟨e, a, c, rfl⟩ | ⟨g, c, rfl, hc⟩
  · rcases one h2 with ⟨_, a', c', rfl⟩ | ⟨g', c', rfl, hc'⟩
    · exact (same15_nil _ _ _ _ w).mono fun _ _ ⟨he, hw⟩ => ⟨he, hw ▸ Below.refl _ _⟩
    · subst e
      exact (same15_nil _ _ _ _ w).mono fun _ _ ⟨he, hw⟩ => ⟨he, hw ▸ Below.refl _ _⟩
  · rcases one h2 with ⟨e, a', c', rfl⟩ | ⟨g', c', rfl, hc'⟩
    · subst e
      exact (same15_nil _ _ _ _ w).mono fun _ _ ⟨he, hw⟩ => ⟨he, hw ▸ Below.refl _ _⟩
    · exact (same15_some g g' c c' l w hlen hc hc').mono fun _ _ ⟨he, n, hw⟩ => ⟨he, hw ▸ below_drewN (Below.refl _ _) n⟩

theorem partsL_len (s : ByteArray) : (partsL s).length ≤ s.size + 1 := Nat.le_trans (List.length_filter_le _ _) (pcsF_len s _ _)

set_option maxHeartbeats 4000000 in
set_option maxRecDepth 100000 in
theorem kinds3 (s : ByteArray) (hs : s.size ≤ 140737488351232) (w : World) : Calls Tryd.prog 3 #[.string s] w fun e w' => e = .returned (.bool true) ∧ Below w.heap.size w w' := by
  by_cases h : 5000 < s.size
  · go_enter Tryd.func3, Tryd.ntmps3
    go_wp2_with (go_at_call 7; refine (anchor7 _).mono ?_; rintro e w' ⟨rfl, rfl⟩)
    go_ret
    exact ⟨rfl, Below.refl _ _⟩
  have hm : s.size ≤ maxLen := by unfold maxLen; omega
  have c8 := fun w => name8 s w hm
  have c9 := fun w => name9 s w hm
  have c10 := fun w => right10 s w hm
  have c11 := fun w => right11 s w hm
  have c12 := fun w => plain12 s w (by omega)
  have c13 := fun w => plain13 s w (by omega)
  have c14 := fun w => abs14 s w
  have c16 := fun w => parts16 s w (by omega)
  have c17 := fun w => parts17 s w (by omega)
  have hpl := partsL_len s
  clear hm
  generalize nameB s = b1 at c8 c9
  generalize rightB s = b2 at c10 c11
  generalize plainB s = b3 at c12 c13
  generalize partsL s = l at c16 c17 hpl
  have C8 := Lib.hid c8
  have C9 := Lib.hid c9
  have C10 := Lib.hid c10
  have C11 := Lib.hid c11
  have C12 := Lib.hid c12
  have C13 := Lib.hid c13
  have C14 := Lib.hid c14
  have C16 := Lib.hid c16
  have C17 := Lib.hid c17
  clear c8 c9 c10 c11 c12 c13 c14 c16 c17
  have e1 : (b1 == b1) = true := by simp
  have e2 : (b2 == b2) = true := by simp
  have e3 : (b3 == b3) = true := by simp
  have hb := get_bt s
  have key : ∀ a : Bool, absB s = a → (s.size = 0 ∧ a = false) ∨ (0 < s.size ∧ a = (bt s 0 == 47)) := by
    intro a ha
    subst ha
    by_cases h0 : s.size = 0
    · exact .inl ⟨h0, by simp [absB, h0]⟩
    · exact .inr ⟨by omega, by unfold absB; rw [decide_eq_true (by omega)]; rfl⟩
  obtain ⟨a, ha⟩ : ∃ a, absB s = a := ⟨_, rfl⟩
  have hk := key a ha
  rw [ha] at C14
  clear key ha
  rcases hk with ⟨h0, rfl⟩ | ⟨h0, rfl⟩
  · have he := toList_em h0
    clear h0
    go_enter Tryd.func3, Tryd.ntmps3
    go_wp2_with (first | (go_at_call 7; refine (anchor7 _).mono ?_; rintro e w' ⟨rfl, rfl⟩) | (go_at_call 8; refine (C8.out _).mono ?_; rintro e w' ⟨rfl, rfl⟩) | (go_at_call 9; refine (C9.out _).mono ?_; rintro e w' ⟨rfl, rfl⟩) | (go_at_call 10; refine (C10.out _).mono ?_; rintro e w' ⟨rfl, rfl⟩) | (go_at_call 11; refine (C11.out _).mono ?_; rintro e w' ⟨rfl, rfl⟩))
    refine (C12.out _).mono ?_
    rintro e w1 ⟨rfl, b1⟩
    have B1 := Lib.hid b1
    clear b1
    go_wp2_with fail
    refine (C13.out _).mono ?_
    rintro e w2 ⟨rfl, b2⟩
    have B2 := Lib.hid (bel_trans B1.out b2)
    clear b2
    go_wp2_with (go_at_call 14; refine (C14.out _).mono ?_; rintro e w' ⟨rfl, rfl⟩)
    refine (C16.out _).mono ?_
    rintro e w3 ⟨v3, rfl, o3, b3⟩
    have B3 := Lib.hid (bel_trans B2.out b3)
    have L3 := Lib.hid o3.list
    obtain ⟨x1, x2, x3, rfl⟩ := slice_shape o3
    clear b3 o3
    go_wp2_with fail
    refine (C17.out _).mono ?_
    rintro e w4 ⟨v4, rfl, o4, b4⟩
    have B4 := Lib.hid (bel_trans B3.out b4)
    have L4 := Lib.hid o4.list
    have L5 := Lib.hid (L3.out.kept b4)
    obtain ⟨y1, y2, y3, rfl⟩ := slice_shape o4
    clear b4 o4
    go_wp2_with fail
    refine (same15 L5.out L4.out (by omega)).mono ?_
    rintro e w5 ⟨rfl, b5⟩
    have B5 := Lib.hid (bel_trans B4.out b5)
    clear b5
    go_wp2
    go_ret
    exact ⟨rfl, B5.out⟩
  · have he := toList_ne (s := s) (by omega)
    have e4 : ((bt s 0 == 47) == (bt s 0 == 47)) = true := by simp
    go_enter Tryd.func3, Tryd.ntmps3
    go_wp2_with (first | (go_at_call 7; refine (anchor7 _).mono ?_; rintro e w' ⟨rfl, rfl⟩) | (go_at_call 8; refine (C8.out _).mono ?_; rintro e w' ⟨rfl, rfl⟩) | (go_at_call 9; refine (C9.out _).mono ?_; rintro e w' ⟨rfl, rfl⟩) | (go_at_call 10; refine (C10.out _).mono ?_; rintro e w' ⟨rfl, rfl⟩) | (go_at_call 11; refine (C11.out _).mono ?_; rintro e w' ⟨rfl, rfl⟩))
    refine (C12.out _).mono ?_
    rintro e w1 ⟨rfl, b1⟩
    have B1 := Lib.hid b1
    clear b1
    go_wp2_with fail
    refine (C13.out _).mono ?_
    rintro e w2 ⟨rfl, b2⟩
    have B2 := Lib.hid (bel_trans B1.out b2)
    clear b2
    go_wp2_with (go_at_call 14; refine (C14.out _).mono ?_; rintro e w' ⟨rfl, rfl⟩)
    refine (C16.out _).mono ?_
    rintro e w3 ⟨v3, rfl, o3, b3⟩
    have B3 := Lib.hid (bel_trans B2.out b3)
    have L3 := Lib.hid o3.list
    obtain ⟨x1, x2, x3, rfl⟩ := slice_shape o3
    clear b3 o3
    go_wp2_with fail
    refine (C17.out _).mono ?_
    rintro e w4 ⟨v4, rfl, o4, b4⟩
    have B4 := Lib.hid (bel_trans B3.out b4)
    have L4 := Lib.hid o4.list
    have L5 := Lib.hid (L3.out.kept b4)
    obtain ⟨y1, y2, y3, rfl⟩ := slice_shape o4
    clear b4 o4
    go_wp2_with fail
    refine (same15 L5.out L4.out (by omega)).mono ?_
    rintro e w5 ⟨rfl, b5⟩
    have B5 := Lib.hid (bel_trans B4.out b5)
    clear b5
    go_wp2
    go_ret
    exact ⟨rfl, B5.out⟩
end Go.Proofs.YthpdmnhopbbnfaaDoor
