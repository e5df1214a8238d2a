/- The document's cases. Conditions: lengths below a bound. -/
import Derived.Test.YtfaohicadahcjaaGreatDoorTH
import Derived.Test.YtfaohicadahcjaaGreatDoorSP
namespace Go.Proofs.YtfaohicadahcjaaGreatDoor
open Go.RowKit Go.PlainAid Go.ChangeShapes Go.WideShapes Go.ChangeAt
set_option linter.unusedSimpArgs false
set_option linter.unusedVariables false
/-! A case's arms. -/
def armD (W : List Pt → Int → Bool) (C : List Nd → Int → Bool) (left : Int) (a : Ar) : Bool := !z0 a.words && C a.body left && wordsB W a.words left
set_option maxHeartbeats 32000000 in
set_option maxRecDepth 100000 in
theorem comp66_10 (n : Nat) (G : DGood n) (nm : ByteArray) (a1 a2 a3 a4 a5 : Option Addr) (m1 m2 m3 m4 c1 c2 c3 c4 c5 : Nat) (l : List Ar) (w : World) (lev deep : Int) (hl : Lv lev deep) (hd : lev ≤ deep) (b1 : m1 ≤ 1048576) (b2 : m2 ≤ 1048576) (b3 : m3 ≤ 1048576) (b4 : m4 ≤ 1048576) (h5 : ArsAt n w (.slice a5 l.length c5) l) :
    Calls Tryz.prog 66 #[.agg #[.int .i64 10, .string nm, .slice a1 m1 c1, .slice a2 m2 c2, .slice a3 m3 c3, .slice a4 m4 c4, .slice a5 l.length c5], .int .i64 lev, .int .i64 deep] w fun e w' => e = .returned (.bool (l.all (armD (rgt n).1 (rgt n).2 (deep - lev)) && (decide (m1 = 0) && emB nm && decide (m2 = 1) && decide (m4 = 0)))) ∧ Below w.heap.size w w' := by
  have K5 := Lib.hid h5
  have l5 := h5.len
  have hlev := hl.2.1
  have hlev1 := hl.1
  have CW := Lib.hid fun (y : List Pt) (v : Value) (W : World) (hy : WdAt n W v y) => (show Calls Tryz.prog 62 #[v, .int .i64 (lev + 1), .int .i64 deep, .bool true] W fun e w' => e = .returned (.bool (!z0 y && (rgt n).1 y (deep - lev))) ∧ Below W.heap.size W w' from by
    have := G.w v y W (lev + 1) deep true hy (hl.next hd)
    rw [show deep - (lev + 1) + 1 = deep - lev by omega] at this
    rw [show (!z0 y && (rgt n).1 y (deep - lev)) = ((rgt n).1 y (deep - lev) && (!z0 y || !true)) from by cases z0 y <;> cases (rgt n).1 y (deep - lev) <;> rfl]
    exact this)
  have CN := Lib.hid fun (y : List Nd) (v : Value) (W : World) (hy : NsAt n W v y) => (show Calls Tryz.prog 12 #[v, .int .i64 (lev + 1), .int .i64 deep, .bool true] W fun e w' => e = .returned (.bool ((rgt n).2 y (deep - lev))) ∧ Below W.heap.size W w' from by
    have := G.c v y W (lev + 1) deep true hy (hl.next hd)
    rw [show deep - (lev + 1) + 1 = deep - lev by omega] at this
    simpa using this)
  obtain ⟨fw, HFW⟩ : ∃ f : List Pt → Bool, Hid ((fun y => !z0 y && (rgt n).1 y (deep - lev)) = f) := ⟨_, Lib.hid rfl⟩
  obtain ⟨fm, HFM⟩ : ∃ f : Ar → Bool, Hid (armD (rgt n).1 (rgt n).2 (deep - lev) = f) := ⟨_, Lib.hid rfl⟩
  rw [HFM.out]
  obtain ⟨q5, Hq5⟩ : ∃ q, Hid (l.length = q) := ⟨_, Lib.hid rfl⟩
  rw [Hq5.out] at K5 l5 ⊢
  have HB := Lib.hid ((Below.refl w.heap.size w).alloc (Nat.le_refl _) (.cells #[.int .i64 10, .string nm, .slice a1 m1 c1, .slice a2 m2 c2, .slice a3 m3 c3, .slice a4 m4 c4, .slice a5 q5 c5] 64))
  have HH := Lib.hid (heap_alloc_new w (.cells #[.int .i64 10, .string nm, .slice a1 m1 c1, .slice a2 m2 c2, .slice a3 m3 c3, .slice a4 m4 c4, .slice a5 q5 c5] 64))
  obtain ⟨s1, Hs1⟩ : ∃ b, Hid (decide (m1 = 0) = b) := ⟨_, Lib.hid rfl⟩
  have s1a : decide (0 < m1) = !s1 := by rw [← Hs1.out, ← decide_not]; exact decide_eq_decide.2 (by omega)
  have s1b : decide (0 < (m1 : Int)) = !s1 := by rw [← Hs1.out, ← decide_not]; exact decide_eq_decide.2 (by omega)
  have hem := emp_is nm
  obtain ⟨t2, Ht2⟩ : ∃ b, Hid (decide (m2 = 1) = b) := ⟨_, Lib.hid rfl⟩
  have t2a : (m2 == 1) = t2 := by rw [eqz, Ht2.out]
  have t2b : ((m2 : Int) == 1) = t2 := by rw [eq_int, ← Ht2.out]; exact decide_eq_decide.2 (by omega)
  obtain ⟨t4, Ht4⟩ : ∃ b, Hid (decide (m4 = 0) = b) := ⟨_, Lib.hid rfl⟩
  have t4a : (m4 == 0) = t4 := by rw [eqz, Ht4.out]
  have t4b : ((m4 : Int) == 0) = t4 := by rw [eq_int, ← Ht4.out]; exact decide_eq_decide.2 (by omega)
  rw [Hs1.out, Ht2.out, Ht4.out]
  generalize emB nm = en at hem ⊢
  obtain ⟨RES, HR⟩ : ∃ b, Hid ((l.all fm && (s1 && en && t2 && t4)) = b) := ⟨_, Lib.hid rfl⟩
  rw [HR.out]
  clear h5 G hl
  go_enter Tryz.func66, Tryz.ntmps66
  go_upto_region 1 with fail
  generalize w.alloc (.cells #[.int .i64 10, .string nm, .slice a1 m1 c1, .slice a2 m2 c2, .slice a3 m3 c3, .slice a4 m4 c4, .slice a5 q5 c5] 64) = w1 at HB HH ⊢
  have p0 := cells_at HH.out (i := 0) (u := .int .i64 10) rfl
  have p2 := cells_at HH.out (i := 2) (u := .slice a1 m1 c1) rfl
  have p5 := cells_at HH.out (i := 5) (u := .slice a4 m4 c4) rfl
  go_wp2
  clear p2 p5
  go_loopw [10] (RelA fm l w w1) (fun i _ => q5 - (intOf i).toNat)
  case atStart => exact ⟨0, Nat.zero_le _, rfl, HB.out, Below.refl _ _, Lib.hid (by simp)⟩
  case round =>
    obtain ⟨k, hk, rfl, HBx, HB1, HRl⟩ := hrel
    rename World => wx
    rw [Hq5.out] at hk
    have HBx := Lib.hid HBx
    have HB1 := Lib.hid HB1
    have p6 := cell_low (cells_at HH.out (i := 6) (u := .slice a5 q5 c5) rfl) HB1.out
    clear p0
    by_cases hlt : k < q5
    · have hlt' : k < l.length := by rw [Hq5.out]; exact hlt
      have HC := Lib.hid (all_step fm l k hlt')
      obtain ⟨bb, of, cz, wa, wc, ba, bc, e, hws, hnb, z0', z1'⟩ := ar_at K5.out k hlt'
      obtain ⟨y, Hy⟩ : ∃ y, Hid (l[k] = y) := ⟨_, Lib.hid rfl⟩
      rw [Hy.out] at HC hws hnb z0' z1'
      rw [Hq5.out] at e
      cases e
      replace z0' := cell_low z0' HBx.out
      replace z1' := cell_low z1' HBx.out
      have K7 := Lib.hid hws
      have l7 := hws.len
      have C1 := Lib.hid fun (W : World) (hW : Below w.heap.size w W) => CN.out y.body _ W (kept_ns n _ _ _ _ hnb hW)
      have Hfy : Hid (fm y = (!z0 y.words && (rgt n).2 y.body (deep - lev) && y.words.all fw)) := Lib.hid (by rw [← HFM.out, ← HFW.out]; rfl)
      rw [z0_len] at Hfy
      generalize (rgt n).2 y.body (deep - lev) = r1 at C1 Hfy
      generalize y.body.length = nb at z1' C1
      obtain ⟨q7, Hq7⟩ : ∃ q, Hid (y.words.length = q) := ⟨_, Lib.hid rfl⟩
      rw [Hq7.out] at K7 l7 z0' Hfy
      have e7a := eqz q7 0
      have e7b := eqzI q7
      obtain ⟨zq, Hzq⟩ : ∃ b, Hid (decide (q7 = 0) = b) := ⟨_, Lib.hid rfl⟩
      rw [Hzq.out] at e7a e7b Hfy
      have HX := Lib.hid (And.intro (HBx.out.alloc HBx.out.size (.cells #[.slice wa q7 wc, .slice ba nb bc] 80)) (HB1.out.alloc HB1.out.size (.cells #[.slice wa q7 wc, .slice ba nb bc] 80)))
      have hbox := heap_alloc_new wx (.cells #[.slice wa q7 wc, .slice ba nb bc] 80)
      have HF0 : Hid (fm y = false → RES = false) := Lib.hid fun e => by rw [← HR.out, HRl.out, HC.out, e]; simp
      have HT0 : Hid (fm y = true → l.all fm = (l.drop (k + 1)).all fm) := Lib.hid fun e => by rw [HRl.out, HC.out, e]; rfl
      clear hws hnb t2a t2b t4a t4b hem
      go_upto_region 24 with fail
      generalize wx.alloc (.cells #[.slice wa q7 wc, .slice ba nb bc] 80) = wy at HX hbox ⊢
      have HBox := Lib.hid hbox
      have y0 : wy.cell? ⟨wx.heap.size, 0, none⟩ = some (.slice wa q7 wc) := cells_at hbox (i := 0) rfl
      have y1 : wy.cell? ⟨wx.heap.size, 1, none⟩ = some (.slice ba nb bc) := cells_at hbox (i := 1) rfl
      clear z0' z1' hbox p6
      cases zq
      case true =>
        have hg := Lib.hid (HF0.out (by rw [Hfy.out]; rfl))
        go_wp2
        go_ret
        rw [hg.out]; exact ⟨rfl, HX.out.1⟩
      go_wp2_with fail
      refine (C1.out _ HX.out.1).mono ?_
      rintro e w2 ⟨rfl, hb2⟩
      have HX1 := Lib.hid (And.intro (HX.out.1.trans (hb2.mono HX.out.1.size)) (HX.out.2.trans (hb2.mono HX.out.2.size)))
      have HBox2 := Lib.hid ((hb2.block _ (lt_of_block HBox.out)).trans HBox.out)
      replace y0 := cell_low y0 hb2
      clear y1 hb2
      cases r1
      case false =>
        have hg := Lib.hid (HF0.out (by rw [Hfy.out]; rfl))
        go_wp2
        go_ret
        rw [hg.out]; exact ⟨rfl, HX1.out.1⟩
      have Hfy2 : Hid (fm y = y.words.all fw) := Lib.hid (by rw [Hfy.out]; rfl)
      clear e7a e7b
      go_wp2
      go_loopw [12] (fun i wv => RelA fw y.words w w2 i wv ∧ Below w1.heap.size w1 wv) (fun i _ => q7 - (intOf i).toNat)
      case atStart => exact ⟨⟨0, Nat.zero_le _, rfl, HX1.out.1, Below.refl _ _, Lib.hid (by simp)⟩, HX1.out.2⟩
      case round =>
        obtain ⟨⟨k7, hk7, rfl, HBx7, HB17, HRl7⟩, HB27⟩ := hrel
        rename World => wv
        rw [Hq7.out] at hk7
        have HBx7 := Lib.hid HBx7
        have HB17 := Lib.hid HB17
        have HB27 := Lib.hid HB27
        replace y0 := cell_low y0 HB17.out
        by_cases hlt7 : k7 < q7
        · have hlt7' : k7 < y.words.length := by rw [Hq7.out]; exact hlt7
          have HC7 := Lib.hid (all_step fw y.words k7 hlt7')
          obtain ⟨bb, of, cz, u, e, _, hcell, hu⟩ := one_at K7.out k7 hlt7'
          obtain ⟨ua, uc, rfl⟩ := wd_shape _ _ _ _ hu
          rw [Hq7.out] at e
          cases e
          obtain ⟨z, Hz⟩ : ∃ z, Hid (y.words[k7] = z) := ⟨_, Lib.hid rfl⟩
          rw [Hz.out] at HC7 hu hcell
          replace hcell := cell_low hcell HBx7.out
          have C7 := Lib.hid (CW.out z _ wv (kept_wd n _ _ _ _ hu HBx7.out))
          have Hfz : Hid (fw z = (!z0 z && (rgt n).1 z (deep - lev))) := Lib.hid (by rw [← HFW.out])
          generalize (!z0 z && (rgt n).1 z (deep - lev)) = r7 at C7 Hfz
          generalize z.length = nw at hcell C7
          clear hu
          go_wp2_with fail
          refine C7.out.mono ?_
          rintro e w5 ⟨rfl, hb5⟩
          have HX7 := Lib.hid (And.intro (HBx7.out.trans (hb5.mono HBx7.out.size)) (And.intro (HB17.out.trans (hb5.mono HB17.out.size)) (HB27.out.trans (hb5.mono HB27.out.size))))
          clear hb5
          cases r7
          · have hg := Lib.hid (HF0.out (by rw [Hfy2.out, HRl7.out, HC7.out, Hfz.out]; rfl))
            go_wp2
            go_ret
            rw [hg.out]; exact ⟨rfl, HX7.out.1⟩
          · go_wp2
            go_round
            case rel => exact ⟨⟨k7 + 1, hlt7', vi (Int.natCast_succ k7).symm, HX7.out.1, HX7.out.2.1, Lib.hid (by rw [HRl7.out, HC7.out, Hfz.out]; rfl)⟩, HX7.out.2.2⟩
            case measure => exact sz_meas hlt7
        · have hkq7 : q7 = k7 := sz_eq hlt7 hk7
          have hg := Lib.hid (HT0.out (by rw [Hfy2.out, HRl7.out, List.drop_of_length_le (by rw [Hq7.out, hkq7]; exact Nat.le_refl _)]; rfl))
          have hnl : decide ((k7 : Int) < (q7 : Int)) = false := by rw [hkq7]; simp
          have hnl2 : decide (k7 < q7) = false := by rw [hkq7]; simp
          clear hkq7
          go_wp2
          go_round
          case rel => exact ⟨k + 1, hlt', vi (Int.natCast_succ k).symm, HBx7.out, HB27.out, hg⟩
          case measure => exact sz_meas hlt
    · have hkq : q5 = k := sz_eq hlt hk
      have HT : Hid (l.all fm = true) := Lib.hid (by rw [HRl.out, List.drop_of_length_le (by rw [Hq5.out, hkq]; exact Nat.le_refl _)]; rfl)
      have HR2 : Hid ((s1 && en && t2 && t4) = RES) := Lib.hid (by rw [← HR.out, HT.out]; rfl)
      have hnl : decide ((k : Int) < (q5 : Int)) = false := by rw [hkq]; simp
      have hnl2 : decide (k < q5) = false := by rw [hkq]; simp
      have p1 := cell_low (cells_at HH.out (i := 1) (u := .string nm) rfl) HB1.out
      have p3 := cell_low (cells_at HH.out (i := 3) (u := .slice a2 m2 c2) rfl) HB1.out
      clear hkq
      cases s1 <;> cases en <;> cases t2 <;> cases t4
      all_goals (
        go_wp2
        go_ret
        exact ⟨by rw [← HR2.out]; rfl, HBx.out⟩)
end Go.Proofs.YtfaohicadahcjaaGreatDoor
