/- Contract of the document's Best. Conditions: lengths. -/
import Derived.Test.YtohjpclpeiidfaaR
namespace Go.Proofs.Ytohjpclpeiidfaa
open Go.RowKit Go.PlainAid
set_option linter.unusedSimpArgs false
set_option linter.unusedVariables false
namespace Fl

def hiK (k : Int) : Bool := decide (k = kInf) || decide (k = kNan)
theorem cls_hi (r : Nat) : decide (5 ≤ cls r) = hiK (ky r) := by
  have h2 := rg_lt r
  unfold hiK ky kInf kNan
  rcases seven r with ⟨h1, h2⟩ | ⟨h1, h2, h3, h4⟩ | ⟨h1, h2, h3, h4⟩ | ⟨h1, h2, h3, h4⟩ | ⟨h1, h2, h3, h4⟩ | ⟨h1, h2, h2', h3, h4⟩ | ⟨h1, h2, h2', h3, h4⟩
  · rw [h1, h2]; rfl
  all_goals
    rw [h1, h3, h4]
    rw [Bool.eq_iff_iff]
    simp only [Bool.false_eq_true, if_true, if_false, Bool.or_eq_true, decide_eq_true_eq]
    omega
def BestD (K : Nat → Int) (ws : List Int) (z : Nat) (x y : Int) : Prop :=
  (ws = [] ∧ x = 0 ∧ y = 12) ∨ ∃ j : Nat, j < ws.length ∧ FM K ws.length j ∧ ((0 < z ∧ hiK (K j) = true ∧ x = 0 ∧ y = 43) ∨ (¬ (0 < z ∧ hiK (K j) = true) ∧ x = ws.getD j 0 ∧ y = 0))
def GivesD (K : Nat → Int) (ws : List Int) (z : Nat) (w : World) (e : Ending) (w' : World) : Prop := ∃ x y : Int, e = .returned (.tuple #[.int .i64 x, .int .i64 y]) ∧ BestD K ws z x y ∧ Below w.heap.size w w'
def kwD (ws : List Int) (l : List UInt8) (i : Nat) : Int := kcD (ws.getD i 0) l
def Rel22 (w : World) (ws : List Int) (l : List UInt8) (v i : Value) (wx : World) : Prop := ∃ cs : List Nat, cs.length ≤ ws.length ∧ i = .int .i64 cs.length ∧ Hid (OF w.heap.size v cs wx) ∧ Hid (At (kwD ws l) cs) ∧ Hid (Below w.heap.size w wx)

set_option maxHeartbeats 4000000 in
set_option maxRecDepth 100000 in
theorem best22 (s : ByteArray) (v : Value) (ws : List Int) (w : World) (hs : s.size ≤ 3000) (hv : Sl w v (il ws)) (hn : ws.length ≤ 100) :
    Calls Try.prog 22 #[.string s, v] w (GivesD (kwD ws (ls s)) ws s.size w) := by
  obtain ⟨av, cv, rfl⟩ := hv.shape
  rw [il_len] at *
  by_cases h0 : ws.length = 0
  · have e : ws = [] := List.length_eq_zero_iff.1 h0
    subst e
    clear hv hn h0
    go_enter Try.func22, Try.ntmps22
    go_wp2
    go_ret2
    exact ⟨0, 12, rfl, .inl ⟨rfl, rfl, rfl⟩, Below.refl _ _⟩
  · obtain ⟨g, off, cc, e, hcc, hcell⟩ : ∃ g off cc, (Value.slice av ws.length cv) = .slice (some ⟨g, off, none⟩) ws.length cc ∧ ws.length ≤ cc ∧ ∀ (i : Nat) (x : Value), (il ws)[i]? = some x → w.cell? ⟨g, off + i, none⟩ = some x := by
      rcases hv with ⟨e, _⟩ | ⟨g, off, cc, e, h1, h2⟩
      · have := congrArg List.length e
        rw [il_len] at this
        exact absurd this h0
      · rw [il_len] at e h1; exact ⟨g, off, cc, e, h1, h2⟩
    cases e
    have HC := Lib.hid hcell
    have d0 : ((ws.length : Int) == 0) = false := by simpa using h0
    obtain ⟨i0, hi0, hz0, hz1, hz2⟩ := info_parts Try.info22
    have HN := Lib.hid hn
    have H0 := Lib.hid h0
    have HO0 : Hid (OF w.heap.size (.slice none 0 0) [] w) := Lib.hid ⟨rfl, .inl ⟨rfl, rfl⟩⟩
    have HB0 := Lib.hid (Below.refl w.heap.size w)
    clear hcell hv h0
    go_enter Try.func22, Try.ntmps22
    go_wp2
    go_loopw [6, 7] (Rel22 w ws (ls s)) (fun _ i _ => ws.length - (intOf i).toNat)
    case atStart => exact ⟨[], Nat.zero_le _, rfl, HO0, Lib.hid (At.nil _), HB0⟩
    case round =>
      obtain ⟨cs, hk, rfl, HO, HA, HB⟩ := hrel
      rename World => wx
      by_cases hlt : cs.length < ws.length
      · have hc : wx.cell? _ = _ := cell_kept (HC.out cs.length _ (il_at hlt)) HB.out
        have C := Lib.hid (cost20 ws[cs.length] s wx hs)
        have hkw : kwD ws (ls s) cs.length = kcD ws[cs.length] (ls s) := by unfold kwD; rw [List.getD_eq_getElem?_getD, List.getElem?_eq_getElem hlt]; rfl
        have HK := Lib.hid hkw
        rw [← HK.out] at C
        obtain ⟨a1, c1, rfl⟩ := slice_shape HO.out
        clear hkw
        go_wp2_with fail
        refine C.out.mono ?_
        rintro e w1 ⟨r, rfl, hr1, hr2, hr3⟩
        have HO1 := Lib.hid (HO.out.below hr3)
        have HB1 := Lib.hid (HB.out.trans (hr3.mono HB.out.size))
        have hb1 : w.heap.size ≤ w1.heap.size := HB1.out.size
        have HA1 := Lib.hid (HA.out.push hr1 hr2)
        clear hr3 C HO hr1 hr2 HA
        go_wp2_with (at_builtin; refine wpList_append_own _ rfl _ _ 23 rfl w.heap.size 22 i0 (.float .f64 0) 1 8 Try.underlying23 hi0 hz0 hz1 hz2 rfl (by decide) _ _ _ rfl (World.ownsRow.alloc HO1.out _) ⟨w1.heap.size, 0, none⟩ 1 1 [.float .f64 r] rfl rfl ?c1 ?c2 ?c3 ?c4 ?c5 ?_)
        case c1 => exact new_f w1 _
        case c2 => intro u hu; simp at hu; subst hu; rfl
        case c3 => have := HN.out; unfold maxLen; omega
        case c4 => have := HN.out; omega
        case c5 => simp; omega
        · intro v' w2 hown' hgrow _
          have P := Lib.hid (of_push HO1.out HB1.out hown' hgrow)
          clear hown' hgrow
          go_wp2
          go_roundw
          case rel => exact ⟨cs ++ [r], by simp; omega, by rw [List.length_append]; go_num, Lib.hid P.out.1, HA1, Lib.hid P.out.2⟩
          case measure => simp [intOf]; omega
      · obtain hkk : cs.length = ws.length := by omega
        have C := Lib.hid fun v hv => least11 cs v wx hv HA.out.1 (by omega)
        have HS := Lib.hid (Sl.own HO.out)
        obtain ⟨a1, c1, rfl⟩ := slice_shape HO.out
        have C1 := Lib.hid (C.out _ HS.out)
        clear C HO
        have HK : Hid (cs.length = ws.length) := Lib.hid hkk
        rw [hkk] at C1 HS ⊢
        clear hk hlt hkk
        go_wp2_with fail
        refine C1.out.mono ?_
        rintro e w1 ⟨m, rfl, hm, hb⟩
        have hB := HB.out.trans (hb.mono HB.out.size)
        obtain ⟨j, hj, rfl⟩ : ∃ j : Nat, j < ws.length ∧ m = j := by
          rcases hm with ⟨h, _⟩ | ⟨j, h1, h2, _⟩
          · exact absurd h H0.out
          · exact ⟨j, h1, h2⟩
        have hjc : j < cs.length := by rw [HK.out]; exact hj
        have hky : kyAt cs j = kwD ws (ls s) j := HA.out.2 j hjc
        have HM := Lib.hid (hm.congr fun i hi => HA.out.2 i (by rw [HK.out]; exact hi))
        have c1' : w1.cell? _ = _ := cell_kept (HC.out j _ (il_at hj)) hB
        have hsl := HS.out.below hb
        rcases hsl with ⟨e, _⟩ | ⟨g2, off2, cc2, e, hcc2, hcell2⟩
        · have := congrArg List.length e
          rw [fl_len] at this
          change cs.length = 0 at this
          omega
        rw [fl_len, HK.out] at e
        cases e
        have c2' := hcell2 j _ (fl_at hjc)
        have hfin : decide (5 ≤ cls cs[j]) = hiK (kwD ws (ls s) j) := by rw [cls_hi, ← kyAt_is hjc, hky]
        have C := Lib.hid fun W => class27 cs[j] W (HA.out.1.at j hjc)
        generalize cls cs[j] = q at C hfin
        have hgd : ws.getD j 0 = ws[j] := by rw [List.getD_eq_getElem?_getD, List.getElem?_eq_getElem hj]; rfl
        have HE : Hid (∀ x y, ((0 < s.size ∧ hiK (kwD ws (ls s) j) = true ∧ x = 0 ∧ y = 43) ∨ (¬ (0 < s.size ∧ hiK (kwD ws (ls s) j) = true) ∧ x = ws[j] ∧ y = 0)) → BestD (kwD ws (ls s)) ws s.size x y) :=
          Lib.hid fun x y h => .inr ⟨j, hj, HM.out, by rw [hgd]; exact h⟩
        have HBF := Lib.hid hB
        generalize hiK (kwD ws (ls s) j) = f at hfin HE
        clear hm hky HM hcell2 hgd hB hb
        by_cases hz : s.size = 0
        · have f1 := toList_em hz
          clear hfin
          go_wp2
          go_ret2
          exact ⟨ws[j], 0, rfl, HE.out _ _ (.inr ⟨fun h => by omega, rfl, rfl⟩), HBF.out⟩
        · have f1 := toList_ne (show 0 < s.size by omega)
          cases f
          · go_wp2_with (go_at_call 27; refine (C.out _).mono ?_; rintro e w' ⟨rfl, rfl⟩)
            go_ret2
            exact ⟨ws[j], 0, rfl, HE.out _ _ (.inr ⟨(by simp), rfl, rfl⟩), HBF.out⟩
          · go_wp2_with (go_at_call 27; refine (C.out _).mono ?_; rintro e w' ⟨rfl, rfl⟩)
            go_ret2
            exact ⟨0, 43, rfl, HE.out _ _ (.inl ⟨by omega, (by first | rfl | trivial), rfl, rfl⟩), HBF.out⟩
end Fl
end Go.Proofs.Ytohjpclpeiidfaa
