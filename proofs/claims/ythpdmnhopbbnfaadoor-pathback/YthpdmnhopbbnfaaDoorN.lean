/- PathBack, walked: the function returns true for every text. Condition: lengths as any row's. -/
import Derived.Test.YthpdmnhopbbnfaaDoorM
namespace Go.Proofs.YthpdmnhopbbnfaaDoor
open Go.RowKit Go.PlainAid
set_option linter.unusedSimpArgs false

theorem baseS_le (s : ByteArray) : (baseS s).size ≤ s.size := by
  have := bareS_le s
  unfold baseS
  split
  · exact this
  · rw [ext_size]; omega

set_option maxHeartbeats 8000000 in
set_option maxRecDepth 100000 in
theorem back6_alone (s : ByteArray) (w : World) (h : s.size ≤ 5000) (hp : plainB s = true) (hl : lastN s s.size < 0) : Calls Tryd.prog 6 #[.string s] w fun e w' => e = .returned (.bool true) ∧ Below w.heap.size w w' := by
  obtain ⟨f1, f2, f3⟩ := back_alone hl
  have hm : s.size ≤ maxLen := by unfold maxLen; omega
  have c13 := fun w => plain13 s w (by omega)
  have c20 := fun w => dir20 s w hm
  have c18 := fun w => base18 s w hm
  have c25 := fun w => above25 s w (by omega)
  rw [hp] at c13
  rw [f1] at c20
  rw [f2] at c18
  rw [f3] at c25
  have C13 := Lib.hid c13
  have C20 := Lib.hid c20
  have C18 := Lib.hid c18
  have C25 := Lib.hid c25
  have e1 : (s.toList == s.toList) = true := by simp
  clear c13 c20 c18 c25 f1 f2 f3 hm hp hl
  go_enter Tryd.func6, Tryd.ntmps6
  go_wp2_with (go_at_call 7; refine (anchor7 _).mono ?_; rintro e w' ⟨rfl, rfl⟩)
  refine (C13.out _).mono ?_
  rintro e w1 ⟨rfl, b1⟩
  have B1 := Lib.hid b1
  clear b1
  go_wp2_with (first | (go_at_call 20; refine (C20.out _).mono ?_; rintro e w' ⟨rfl, rfl⟩) | (go_at_call 18; refine (C18.out _).mono ?_; rintro e w' ⟨rfl, rfl⟩))
  refine (C25.out _).mono ?_
  rintro e w3 ⟨v3, rfl, o3, b3⟩
  have B3 := Lib.hid (bel_trans B1.out b3)
  have hv : ∃ a c, v3 = .slice a 0 c := by
    rcases o3.list with ⟨h, _⟩ | ⟨g, c, h, _⟩
    · exact ⟨_, _, h⟩
    · exact ⟨_, _, h⟩
  obtain ⟨a, c, rfl⟩ := hv
  clear b3 o3
  go_wp2
  go_ret
  exact ⟨rfl, B3.out⟩

def Rel6 (m : Nat) (w1 : World) (i : Value) (wr : World) : Prop := ∃ k : Nat, k ≤ m ∧ i = .int .i64 k ∧ Below w1.heap.size w1 wr

set_option maxHeartbeats 8000000 in
set_option maxRecDepth 100000 in
theorem back6_slash (s : ByteArray) (w : World) (h : s.size ≤ 5000) (hp : plainB s = true) (hl : ¬ lastN s s.size < 0) : Calls Tryd.prog 6 #[.string s] w fun e w' => e = .returned (.bool true) ∧ Below w.heap.size w w' := by
  have B := back_slash hp hl
  have hm : s.size ≤ maxLen := by unfold maxLen; omega
  have hbl := baseS_le s
  have hdl : (dirS s).size ≤ s.size := (B.under _ _ B.last).2.2
  have c13 := fun w => plain13 s w (by omega)
  have c20 := fun w => dir20 s w hm
  have c18 := fun w => base18 s w hm
  have c25 := fun w => above25 s w (by omega)
  have c16 := fun w => parts16 s w (by omega)
  have c22 := fun w => join22 (dirS s) (baseS s) w (by omega) (by omega)
  have hlen : (abvL s).length ≤ 5000 := Nat.le_trans (abvF_len s _) h
  rw [hp] at c13
  rw [B.join] at c22
  clear hm hp hl hbl hdl
  generalize dirS s = d at c20 c22 B
  generalize baseS s = b at c18 c22 B
  generalize abvL s = l at c25 hlen B
  have hp2 := B.len
  generalize partsL s = l2 at c16 hp2
  obtain ⟨m, hlm⟩ : ∃ m, l.length = m + 1 := ⟨l.length - 1, by have := List.length_pos_iff.2 B.ne; omega⟩
  have hlast : l[m]? = some d := by have := B.last; rwa [hlm] at this
  have hdot := B.dot
  have hne := B.ne
  have HU := Lib.hid B.under
  have HC := Lib.hid B.chain
  have hne2 : l2 ≠ [] := by intro e; rw [e] at hp2; simp at hp2
  clear B
  have C13 := Lib.hid c13
  have C20 := Lib.hid c20
  have C18 := Lib.hid c18
  have C25 := Lib.hid c25
  have C16 := Lib.hid c16
  have C22 := Lib.hid c22
  have e1 : (s.toList == s.toList) = true := by simp
  have e2 : (d.toList == d.toList) = true := by simp
  clear c13 c20 c18 c25 c16 c22
  go_enter Tryd.func6, Tryd.ntmps6
  go_wp2_with (go_at_call 7; refine (anchor7 _).mono ?_; rintro e w' ⟨rfl, rfl⟩)
  refine (C13.out _).mono ?_
  rintro e w1 ⟨rfl, b1⟩
  have B1 := Lib.hid b1
  clear b1
  go_wp2_with (go_at_call 20; refine (C20.out _).mono ?_; rintro e w' ⟨rfl, rfl⟩)
  refine (C25.out _).mono ?_
  rintro e w3 ⟨v3, rfl, o3, b3⟩
  have B3 := Lib.hid (bel_trans B1.out b3)
  obtain ⟨g, cap, rfl, hcap, hg, hcell⟩ := o3.list.some hne
  have HCELL := Lib.hid hcell
  have HLM := Lib.hid hlm
  clear b3 o3 hcell hne
  rw [hlm] at hcap hlen hp2 ⊢
  have HP2 := Lib.hid hp2
  clear hp2 hlm
  go_wp2
  go_loopw [35] (Rel6 (m + 1) w3) (fun i _ => m + 1 - (intOf i).toNat)
  case atStart => exact ⟨0, Nat.zero_le _, rfl, Below.refl _ _⟩
  case round =>
    obtain ⟨k, hk, rfl, hbel⟩ := hrel
    by_cases hlt : k < m + 1
    · obtain ⟨x, hx, _, _⟩ := drop_cons (l := l) (k := k) (by rw [HLM.out]; exact hlt)
      obtain ⟨u1, u2, u3⟩ := HU.out k x hx
      have hcx : wr.cell? ⟨g, k, none⟩ = some (.string x) := by rw [hbel.cell hg]; exact HCELL.out k x hx
      have c24 := fun w => under24 s x w
      have c12 := fun w => plain12 x w (by omega)
      rw [u1] at c24
      rw [u2] at c12
      have C24 := Lib.hid c24
      have C12 := Lib.hid c12
      have HB := Lib.hid hbel
      have HX := Lib.hid hx
      clear c24 c12 u1 u2 hbel hx
      by_cases h0 : k = 0
      · subst h0
        go_wp2_with (go_at_call 24; refine (C24.out _).mono ?_; rintro e w' ⟨rfl, rfl⟩)
        refine (C12.out _).mono ?_
        rintro e w5 ⟨rfl, b5⟩
        have B5 := Lib.hid (HB.out.trans (b5.mono HB.out.size))
        clear b5
        go_wp2
        go_roundw
        case rel => exact ⟨1, by omega, by go_num, B5.out⟩
        case measure => simp [intOf]
      · obtain ⟨j, rfl⟩ : ∃ j, k = j + 1 := ⟨k - 1, by omega⟩
        obtain ⟨y, hy, _, _⟩ := drop_cons (l := l) (k := j) (by rw [HLM.out]; omega)
        have c24b := fun w => under24 x y w
        rw [HC.out j x y HX.out hy] at c24b
        have C24b := Lib.hid c24b
        have HY := Lib.hid (HCELL.out j y hy)
        clear c24b hy
        go_wp2_with (go_at_call 24; refine (C24.out _).mono ?_; rintro e w' ⟨rfl, rfl⟩)
        refine (C12.out _).mono ?_
        rintro e w5 ⟨rfl, b5⟩
        have b6 : Below w3.heap.size w3 w5 := HB.out.trans (b5.mono HB.out.size)
        have hcy : w5.cell? ⟨g, j, none⟩ = some (.string y) := by rw [b6.cell hg]; exact HY.out
        have B5 := Lib.hid b6
        clear b5 b6
        go_wp2_with (go_at_call 24; refine (C24b.out _).mono ?_; rintro e w' ⟨rfl, rfl⟩)
        go_roundw
        case rel => exact ⟨j + 1 + 1, by omega, by go_num, B5.out⟩
        case measure => simp [intOf]; omega
    · obtain rfl : k = m + 1 := by omega
      have HB := Lib.hid hbel
      clear hbel
      go_wp2_with (first | (go_at_call 18; refine (C18.out _).mono ?_; rintro e w' ⟨rfl, rfl⟩) | (go_at_call 22; refine (C22.out _).mono ?_; rintro e w' ⟨rfl, rfl⟩))
      refine (C16.out _).mono ?_
      rintro e w5 ⟨v5, rfl, o5, b5⟩
      have b6 : Below w3.heap.size w3 w5 := HB.out.trans (b5.mono HB.out.size)
      obtain ⟨g2, cap2, rfl, _, _, _⟩ := o5.list.some hne2
      have hcd : w5.cell? ⟨g, m, none⟩ = some (.string d) := by rw [b6.cell hg]; exact HCELL.out m d hlast
      have B5 := Lib.hid (bel_trans B3.out b6)
      clear b5 b6 o5
      rw [← HP2.out]
      go_wp2
      go_ret
      exact ⟨rfl, B5.out⟩

set_option maxHeartbeats 2000000 in
set_option maxRecDepth 100000 in
theorem back6 (s : ByteArray) (hs : s.size ≤ 140737488351232) (w : World) : Calls Tryd.prog 6 #[.string s] w fun e w' => e = .returned (.bool true) ∧ Below w.heap.size w w' := by
  by_cases h : 5000 < s.size
  · go_enter Tryd.func6, Tryd.ntmps6
    go_wp2_with (go_at_call 7; refine (anchor7 _).mono ?_; rintro e w' ⟨rfl, rfl⟩)
    go_ret
    exact ⟨rfl, Below.refl _ _⟩
  cases hp : plainB s
  · have c13 := fun w => plain13 s w (by omega)
    rw [hp] at c13
    have C13 := Lib.hid c13
    clear c13 hp
    go_enter Tryd.func6, Tryd.ntmps6
    go_wp2_with (go_at_call 7; refine (anchor7 _).mono ?_; rintro e w' ⟨rfl, rfl⟩)
    refine (C13.out _).mono ?_
    rintro e w1 ⟨rfl, b1⟩
    have B1 := Lib.hid b1
    clear b1
    go_wp2
    go_ret
    exact ⟨rfl, B1.out⟩
  · by_cases hl : lastN s s.size < 0
    · exact back6_alone s w (by omega) hp hl
    · exact back6_slash s w (by omega) hp hl
end Go.Proofs.YthpdmnhopbbnfaaDoor
