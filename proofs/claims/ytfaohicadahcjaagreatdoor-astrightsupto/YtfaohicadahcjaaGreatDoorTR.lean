/- AstRights, walked. Conditions: weights below a bound; the library's own variable holds some number. -/
import Derived.Test.YtfaohicadahcjaaGreatDoorTQ
import Derived.Test.YtfaohicadahcjaaGreatDoorSQ
import Derived.Test.YtfaohicadahcjaaGreatDoorTA
import Derived.Test.YtfaohicadahcjaaGreatDoorSN
namespace Go.Proofs.YtfaohicadahcjaaGreatDoor
open Go.RowKit Go.PlainAid Go.ChangeShapes Go.WideShapes Go.ChangeAt
set_option linter.unusedSimpArgs false
set_option linter.unusedVariables false
set_option maxHeartbeats 16000000 in
set_option maxRecDepth 100000 in
theorem rights3 (n : Nat) (v : Value) (l : List Nd) (w : World) (deep : Int) (h : NsAt n w v l) (hwt : (wts n).2 l ≤ 1048576) (he : Env w) (h64 : L64 deep) :
    Calls Tryz.prog 3 #[v, .int .i64 deep] w fun e w' => e = .returned (.bool true) ∧ Below w.heap.size w w' := by
  have CA := Lib.hid (anchor8 w he)
  have HL := Lib.hid h
  have HE := Lib.hid he
  have hlen := ns_len _ _ _ _ h
  have C9 := Lib.hid fun W (hW : NsAt n W v l) => small9 n v l W hW hwt
  have CV := Lib.hid fun W (hW : NsAt n W v l) => (conv n).c v l W hW
  have CR := Lib.hid fun W d (hW : NsAt n W v l) (hE : Env W) (hd : L64 d) => right11 n v l W d hW hE hd
  have CD := Lib.hid fun u W d (hW : NsAt n W u l) (h1 : d ≤ 1000) (hd : L64 d) => list_one n u l W d hW h1 hd
  have HI : Hid (smallB n l = true → rightM n l deep = (rgt n).2 l deep) := Lib.hid fun hs => rightM_indep n l deep (of_decide_eq_true hs)
  have HJ : Hid (rightM n l 200 = (rgt n).2 l 200) := Lib.hid (by unfold rightM; rw [if_pos (by omega)])
  obtain ⟨a, c, rfl⟩ := ns_shape _ _ _ _ h
  obtain ⟨q, Hq⟩ : ∃ q, Hid (l.length = q) := ⟨_, Lib.hid rfl⟩
  rw [Hq.out] at HL hlen C9 CV CR ⊢
  generalize smallB n l = bs at C9 HI
  have hr1 := h64.1
  have hr2 := h64.2
  have H64 := Lib.hid h64
  obtain ⟨b1, Hb1⟩ : ∃ b, Hid (decide (1000 < deep) = b) := ⟨_, Lib.hid rfl⟩
  have e1 := Hb1.out
  clear h he hwt h64
  go_enter Tryz.func3, Tryz.ntmps3
  go_wp2_with fail
  refine CA.out.mono ?_
  rintro e w1 ⟨rfl, hb⟩
  have HB1 := Lib.hid hb
  have C9 := Lib.hid (C9.out w1 (kept_ns n _ _ _ _ HL.out hb))
  clear hb
  go_wp2_with fail
  refine C9.out.mono ?_
  rintro e w2 ⟨rfl, hb⟩
  have HB2 := Lib.hid (HB1.out.trans (hb.mono HB1.out.size))
  clear hb
  cases bs
  case false =>
    go_wp2
    go_ret
    exact ⟨rfl, HB2.out⟩
  cases b1
  case true =>
    go_wp2
    go_ret
    exact ⟨rfl, HB2.out⟩
  have hd1 : deep ≤ 1000 := Int.not_lt.1 (of_decide_eq_false Hb1.out)
  have HI1 : Hid (rightM n l deep = (rgt n).2 l deep) := Lib.hid (HI.out (by simp))
  have CV := Lib.hid (CV.out w2 (kept_ns n _ _ _ _ HL.out HB2.out))
  go_wp2_with fail
  refine CV.out.mono ?_
  rintro e w3 ⟨u, rfl, hF, hb⟩
  have HU := Lib.hid hF.here
  have HB3 := Lib.hid (HB2.out.trans (hb.mono HB2.out.size))
  have CR1 := Lib.hid (CR.out w3 deep (kept_ns n _ _ _ _ HL.out HB3.out) (HE.out.on HB3.out) H64.out)
  rw [HI1.out] at CR1
  clear hF hb
  obtain ⟨ua, uc, eu⟩ := ns_shape _ _ _ _ HU.out
  rw [Hq.out] at eu
  subst eu
  obtain ⟨r1, Hr1⟩ : ∃ b, Hid ((rgt n).2 l deep = b) := ⟨_, Lib.hid rfl⟩
  rw [Hr1.out] at CR1
  go_wp2_with fail
  refine CR1.out.mono ?_
  rintro e w4 ⟨rfl, hb⟩
  have HB4 := Lib.hid (HB3.out.trans (hb.mono HB3.out.size))
  have HU4 := Lib.hid (kept_ns n _ _ _ _ HU.out hb)
  have CD1 := Lib.hid (CD.out _ w4 deep HU4.out hd1 H64.out)
  rw [Hr1.out] at CD1
  clear hb
  go_wp2_with fail
  refine CD1.out.mono ?_
  rintro e w5 ⟨rfl, hb⟩
  have HB5 := Lib.hid (HB4.out.trans (hb.mono HB4.out.size))
  have HU5 := Lib.hid (kept_ns n _ _ _ _ HU4.out hb)
  have CR2 := Lib.hid (CR.out w5 200 (kept_ns n _ _ _ _ HL.out HB5.out) (HE.out.on HB5.out) ⟨by omega, by omega⟩)
  rw [HJ.out] at CR2
  clear hb
  obtain ⟨r2, Hr2⟩ : ∃ b, Hid ((rgt n).2 l 200 = b) := ⟨_, Lib.hid rfl⟩
  rw [Hr2.out] at CR2
  have hrr1 : (r1 == r1) = true := by cases r1 <;> rfl
  have hrr2 : (r2 == r2) = true := by cases r2 <;> rfl
  go_wp2_with fail
  refine CR2.out.mono ?_
  rintro e w6 ⟨rfl, hb⟩
  have HB6 := Lib.hid (HB5.out.trans (hb.mono HB5.out.size))
  have HU6 := Lib.hid (kept_ns n _ _ _ _ HU5.out hb)
  have CD2 := Lib.hid (CD.out _ w6 200 HU6.out (by omega) ⟨by omega, by omega⟩)
  rw [Hr2.out] at CD2
  clear hb
  go_wp2_with fail
  refine CD2.out.mono ?_
  rintro e w7 ⟨rfl, hb⟩
  have HB7 := Lib.hid (HB6.out.trans (hb.mono HB6.out.size))
  clear hb
  go_wp2
  go_ret
  exact ⟨rfl, HB7.out⟩
end Go.Proofs.YtfaohicadahcjaaGreatDoor
