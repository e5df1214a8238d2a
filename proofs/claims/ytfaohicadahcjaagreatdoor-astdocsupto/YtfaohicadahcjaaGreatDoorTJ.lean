/- The document's simple commands. Conditions: lengths below a bound. -/
import Derived.Test.YtfaohicadahcjaaGreatDoorTI
namespace Go.Proofs.YtfaohicadahcjaaGreatDoor
open Go.RowKit Go.PlainAid Go.ChangeShapes Go.WideShapes Go.ChangeAt
set_option linter.unusedSimpArgs false
set_option linter.unusedVariables false
/-! Simple commands. -/
def simpleD (W : List Pt → Int → Bool) (x : Nd) (left : Int) : Bool :=
  x.assigns.all (fun a => nameL (ls a.name) && W a.word left) && (match x.words with | [] => true | w :: _ => firstB w) && (emB x.name && z0 x.lists && z0 x.arms && !(decide (x.assigns.length + x.words.length + x.redirs.length = 0)))
abbrev agg7 (k : Int) (nm : ByteArray) (a1 a2 a3 a4 a5 : Option Addr) (q1 c1 q2 c2 q3 c3 q4 c4 q5 c5 : Nat) : Array Value := #[.int .i64 k, .string nm, .slice a1 q1 c1, .slice a2 q2 c2, .slice a3 q3 c3, .slice a4 q4 c4, .slice a5 q5 c5]
set_option maxHeartbeats 16000000 in
set_option maxRecDepth 100000 in
theorem simple64 (n : Nat) (G : DGood n) (x : Nd) (a1 a2 a3 a4 a5 : Option Addr) (c1 c2 c3 c4 c5 : Nat) (w : World) (lev deep : Int) (hl : Lv lev deep) (hd : lev ≤ deep) (h1 : AssAt n w (.slice a1 x.assigns.length c1) x.assigns) (h2 : WsAt n w (.slice a2 x.words.length c2) x.words) (b3 : x.redirs.length ≤ 1048576) (hne : ∀ y r, x.words = y :: r → y ≠ []) :
    Calls Tryz.prog 64 #[.agg #[.int .i64 x.kind, .string x.name, .slice a1 x.assigns.length c1, .slice a2 x.words.length c2, .slice a3 x.redirs.length c3, .slice a4 x.lists.length c4, .slice a5 x.arms.length c5], .int .i64 lev, .int .i64 deep] w fun e w' => e = .returned (.bool (simpleD (rgt n).1 x (deep - lev))) ∧ Below w.heap.size w w' := by
  have K1 := Lib.hid h1
  have l1 := h1.len
  have l2 := h2.len
  have hlev := hl.2.1
  have hlev1 := hl.1
  have CW := Lib.hid fun (y : List Pt) (v : Value) (W : World) (hy : WdAt n W v y) => (show Calls Tryz.prog 62 #[v, .int .i64 (lev + 1), .int .i64 deep, .bool false] W fun e w' => e = .returned (.bool ((rgt n).1 y (deep - lev))) ∧ Below W.heap.size W w' from by
    have := G.w v y W (lev + 1) deep false hy (hl.next hd)
    rw [show deep - (lev + 1) + 1 = deep - lev by omega] at this
    simpa using this)
  obtain ⟨fa, HA⟩ : ∃ f : As → Bool, Hid ((fun a => nameL (ls a.name) && (rgt n).1 a.word (deep - lev)) = f) := ⟨_, Lib.hid rfl⟩
  obtain ⟨F, HFst⟩ : ∃ b, Hid ((match x.words with | [] => true | w :: _ => firstB w) = b) := ⟨_, Lib.hid rfl⟩
  have HFC : Hid ((x.words = [] ∧ F = true) ∨ ∃ (b off : Nat) (u : Value), a2 = some ⟨b, off, none⟩ ∧ 0 < x.words.length ∧ w.cell? ⟨b, off, none⟩ = some u ∧ (∃ a m c, u = .slice a m c) ∧ ∀ W, Below w.heap.size w W → Calls Tryz.prog 91 #[u] W fun e w' => e = .returned (.bool F) ∧ Below W.heap.size W w') := Lib.hid (by
    cases hw : x.words with
    | nil => left; exact ⟨rfl, by rw [← HFst.out, hw]⟩
    | cons y r =>
      right
      rw [hw] at h2
      obtain ⟨b, off, c', u, e, hc, hcell, hu⟩ := one_at h2 0 (by simp)
      simp only [Value.slice.injEq] at e
      obtain ⟨ua, uc, hus⟩ := wd_shape _ _ _ _ hu
      refine ⟨b, off, u, e.1, by simp, hcell, ⟨_, _, _, hus⟩, fun W hW => ?_⟩
      have := first91 n u y W (kept_wd n _ _ _ _ hu hW) (hne y r hw)
      have hF : firstB y = F := by rw [← HFst.out, hw]
      rw [hF] at this
      exact this)
  obtain ⟨RES, HR0⟩ : ∃ b, Hid (simpleD (rgt n).1 x (deep - lev) = b) := ⟨_, Lib.hid rfl⟩
  rw [HR0.out]
  obtain ⟨q1, Hq1⟩ : ∃ q, Hid (x.assigns.length = q) := ⟨_, Lib.hid rfl⟩
  obtain ⟨q2, Hq2⟩ : ∃ q, Hid (x.words.length = q) := ⟨_, Lib.hid rfl⟩
  obtain ⟨q3, Hq3⟩ : ∃ q, Hid (x.redirs.length = q) := ⟨_, Lib.hid rfl⟩
  obtain ⟨q4, Hq4⟩ : ∃ q, Hid (x.lists.length = q) := ⟨_, Lib.hid rfl⟩
  obtain ⟨q5, Hq5⟩ : ∃ q, Hid (x.arms.length = q) := ⟨_, Lib.hid rfl⟩
  have HR : Hid (RES = (x.assigns.all fa && F && (emB x.name && decide (q4 = 0) && decide (q5 = 0) && !(decide (q1 + q2 + q3 = 0))))) := Lib.hid (by rw [← HR0.out, ← HA.out, ← HFst.out, ← Hq1.out, ← Hq2.out, ← Hq3.out, ← Hq4.out, ← Hq5.out]; rfl)
  rw [Hq1.out] at K1 l1
  rw [Hq2.out] at l2 HFC
  rw [Hq3.out] at b3
  rw [Hq1.out, Hq2.out, Hq3.out, Hq4.out, Hq5.out]
  have hem := emp_is x.name
  have z4a := eqz q4 0
  have z4b := eqzI q4
  have z5a := eqz q5 0
  have z5b := eqzI q5
  have zs : decide (0 < q1 + q2 + q3) = !decide (q1 + q2 + q3 = 0) := by rw [← decide_not]; exact decide_eq_decide.2 (by omega)
  have zsI : decide (0 < (q1 : Int) + q2 + q3) = !decide (q1 + q2 + q3 = 0) := by rw [← decide_not]; exact decide_eq_decide.2 (by omega)
  have HZ2 : Hid (x.words = [] → q2 = 0) := Lib.hid fun e => by rw [← Hq2.out, e]; rfl
  generalize emB x.name = en at hem HR
  generalize decide (q4 = 0) = y4 at z4a z4b HR
  generalize decide (q5 = 0) = y5 at z5a z5b HR
  generalize decide (q1 + q2 + q3 = 0) = ys at zs zsI HR
  clear h1 h2 hl G hne HR0
  have HB := Lib.hid ((Below.refl w.heap.size w).alloc (Nat.le_refl _) (.cells (agg7 x.kind x.name a1 a2 a3 a4 a5 q1 c1 q2 c2 q3 c3 q4 c4 q5 c5) 64))
  have HH := Lib.hid (heap_alloc_new w (.cells (agg7 x.kind x.name a1 a2 a3 a4 a5 q1 c1 q2 c2 q3 c3 q4 c4 q5 c5) 64))
  go_enter Tryz.func64, Tryz.ntmps64
  go_upto_region 1 with fail
  generalize w.alloc (.cells (agg7 x.kind x.name a1 a2 a3 a4 a5 q1 c1 q2 c2 q3 c3 q4 c4 q5 c5) 64) = w1 at HB HH ⊢
  have p2 := cells_at HH.out (i := 2) (u := .slice a1 q1 c1) rfl
  go_wp2
  go_loopw [7] (RelA fa x.assigns w w1) (fun i _ => q1 - (intOf i).toNat)
  case atStart => exact ⟨0, Nat.zero_le _, rfl, HB.out, Below.refl _ _, Lib.hid (by simp)⟩
  case round =>
    obtain ⟨k, hk, rfl, HBx, HB1, HRl⟩ := hrel
    rename World => wx
    rw [Hq1.out] at hk
    have HBx := Lib.hid HBx
    have HB1 := Lib.hid HB1
    replace p2 := cell_low p2 HB1.out
    by_cases hlt : k < q1
    · have hlt' : k < x.assigns.length := by rw [Hq1.out]; exact hlt
      have HC := Lib.hid (all_step fa x.assigns k hlt')
      obtain ⟨b, off, c', wa, wc, e, hns, hwd, d0, d1⟩ := as_at K1.out k hlt'
      obtain ⟨y, Hy⟩ : ∃ y, Hid (x.assigns[k] = y) := ⟨_, Lib.hid rfl⟩
      rw [Hy.out] at HC hns hwd d0 d1
      rw [Hq1.out] at e
      cases e
      replace d0 := cell_low d0 HBx.out
      replace d1 := cell_low d1 HBx.out
      have C24 := Lib.hid fun W => name24 y.name (by omega) W
      have C62 := Lib.hid (CW.out y.word _ wx (kept_wd n _ _ _ _ hwd HBx.out))
      have Hfx : Hid (fa y = (nameL (ls y.name) && (rgt n).1 y.word (deep - lev))) := Lib.hid (by rw [← HA.out])
      generalize nameL (ls y.name) = y1 at C24 Hfx
      generalize (rgt n).1 y.word (deep - lev) = y2 at C62 Hfx
      generalize y.word.length = nx at d1 C62
      clear hwd hns zs zsI
      cases y1
      case false =>
        have HF0 : Hid (RES = false) := Lib.hid (by rw [HR.out, HRl.out, HC.out, Hfx.out]; simp)
        go_wp2_with (first | (go_at_call 24; refine (C24.out _).mono ?_; rintro e w3 ⟨rfl, rfl⟩))
        go_ret
        rw [HF0.out]; exact ⟨rfl, HBx.out⟩
      go_wp2_with (first | (go_at_call 24; refine (C24.out _).mono ?_; rintro e w3 ⟨rfl, rfl⟩))
      refine C62.out.mono ?_
      rintro e w3 ⟨rfl, hb⟩
      have HB3 := Lib.hid (And.intro (HBx.out.trans (hb.mono HBx.out.size)) (HB1.out.trans (hb.mono HB1.out.size)))
      replace p2 := cell_low p2 hb
      clear hb
      cases y2
      · have HF0 : Hid (RES = false) := Lib.hid (by rw [HR.out, HRl.out, HC.out, Hfx.out]; simp)
        go_wp2
        go_ret
        rw [HF0.out]; exact ⟨rfl, HB3.out.1⟩
      · go_wp2
        go_round
        case rel => exact ⟨k + 1, hlt', vi (Int.natCast_succ k).symm, HB3.out.1, HB3.out.2, Lib.hid (by rw [HRl.out, HC.out, Hfx.out]; rfl)⟩
        case measure => exact sz_meas hlt
    · have hkq : q1 = k := sz_eq hlt hk
      have HT : Hid (x.assigns.all fa = true) := Lib.hid (by rw [HRl.out, List.drop_of_length_le (by rw [Hq1.out, hkq]; exact Nat.le_refl _)]; rfl)
      have HR1 : Hid (RES = (F && (en && y4 && y5 && !ys))) := Lib.hid (by rw [HR.out, HT.out]; rfl)
      have hnl : decide ((k : Int) < (q1 : Int)) = false := by rw [hkq]; simp
      have hnl2 : decide (k < q1) = false := by rw [hkq]; simp
      have p1 := cell_low (cells_at HH.out (i := 1) (u := .string x.name) rfl) HB1.out
      have p3 := cell_low (cells_at HH.out (i := 3) (u := .slice a2 q2 c2) rfl) HB1.out
      have p4 := cell_low (cells_at HH.out (i := 4) (u := .slice a3 q3 c3) rfl) HB1.out
      have p5 := cell_low (cells_at HH.out (i := 5) (u := .slice a4 q4 c4) rfl) HB1.out
      have p6 := cell_low (cells_at HH.out (i := 6) (u := .slice a5 q5 c5) rfl) HB1.out
      clear hkq
      rcases HFC.out with ⟨hw0, hF⟩ | ⟨b, off, u, e2, hp, hcell, ⟨ua, um, uc, hus⟩, CF⟩
      · have hq20 := HZ2.out hw0
        subst hF
        subst hq20
        have zs3 : decide (0 < q1 + q3) = !ys := by simpa using zs
        have zs3I : decide (0 < (q1 : Int) + q3) = !ys := by simpa using zsI
        cases en <;> cases y4 <;> cases y5 <;> cases ys
        all_goals (
          simp only [Bool.not_true, Bool.not_false] at zs zsI zs3 zs3I
          go_wp2
          go_ret
          exact ⟨by rw [HR1.out]; rfl, HBx.out⟩)
      · subst e2
        subst hus
        have CF := Lib.hid (CF wx HBx.out)
        replace hcell := cell_low hcell HBx.out
        have hp1 : decide (0 < q2) = true := decide_eq_true hp
        have hp2 : decide (0 < (q2 : Int)) = true := decide_eq_true (by omega)
        clear zs
        cases F
        case false =>
          clear zsI
          go_wp2_with fail
          refine CF.out.mono ?_
          rintro e w4 ⟨rfl, hb⟩
          have HB4 := Lib.hid (HBx.out.trans (hb.mono HBx.out.size))
          clear hb
          go_wp2
          go_ret
          exact ⟨by rw [HR1.out]; rfl, HB4.out⟩
        go_wp2_with fail
        refine CF.out.mono ?_
        rintro e w4 ⟨rfl, hb⟩
        have HB4 := Lib.hid (HBx.out.trans (hb.mono HBx.out.size))
        replace p1 := cell_low p1 hb
        replace p2 := cell_low p2 hb
        replace p3 := cell_low p3 hb
        replace p4 := cell_low p4 hb
        replace p5 := cell_low p5 hb
        replace p6 := cell_low p6 hb
        clear hb hcell
        cases en <;> cases y4 <;> cases y5 <;> cases ys
        all_goals (
          simp only [Bool.not_true, Bool.not_false] at zsI
          go_wp2
          go_ret
          exact ⟨by rw [HR1.out]; rfl, HB4.out⟩)
end Go.Proofs.YtfaohicadahcjaaGreatDoor
