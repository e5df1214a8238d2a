/- The document's lists of commands. Conditions: lengths below a bound. -/
import Derived.Test.YtfaohicadahcjaaGreatDoorTPb
import Derived.Test.YtfaohicadahcjaaGreatDoorMf
namespace Go.Proofs.YtfaohicadahcjaaGreatDoor
open Go.RowKit Go.PlainAid Go.ChangeShapes Go.WideShapes Go.ChangeAt
set_option linter.unusedSimpArgs false
set_option linter.unusedVariables false
set_option maxHeartbeats 16000000 in
set_option maxRecDepth 100000 in
theorem list12 (n : Nat) (G : DGood n) (v : Value) (l : List Nd) (w : World) (lev deep : Int) (nn : Bool) (h : NsAt (n + 1) w v l) (hl : Lv lev deep) :
    Calls Tryz.prog 12 #[v, .int .i64 lev, .int .i64 deep, .bool nn] w fun e w' => e = .returned (.bool ((rgt (n + 1)).2 l (deep - lev + 1) && (nn || !z0 l))) ∧ Below w.heap.size w w' := by
  have HL := Lib.hid h
  have hlen := ns_len _ _ _ _ h
  obtain ⟨a, c, rfl⟩ := ns_shape _ _ _ _ h
  have CN0 := Lib.hid fun (x : Nd) (a1 a2 a3 a4 a5 : Option Addr) (c1 c2 c3 c4 c5 : Nat) (W : World) (hf : NdFits x) (h1 : AssAt n W (.slice a1 x.assigns.length c1) x.assigns) (h2 : WsAt n W (.slice a2 x.words.length c2) x.words) (h3 : RdsAt n W (.slice a3 x.redirs.length c3) x.redirs) (h4 : LsAt n W (.slice a4 x.lists.length c4) x.lists) (h5 : ArsAt n W (.slice a5 x.arms.length c5) x.arms) => node41 n G x a1 a2 a3 a4 a5 c1 c2 c3 c4 c5 W lev deep hl hf h1 h2 h3 h4 h5
  rw [rgt_c, z0_len]
  obtain ⟨f, Hf⟩ : ∃ f, Hid (nodeF n (deep - lev + 1) = f) := ⟨_, Lib.hid rfl⟩
  rw [Hf.out] at CN0 ⊢
  obtain ⟨q, Hq⟩ : ∃ q, Hid (l.length = q) := ⟨_, Lib.hid rfl⟩
  rw [Hq.out] at HL hlen ⊢
  have z5c : decide (0 < q) = !decide (q = 0) := by rw [← decide_not]; exact decide_eq_decide.2 (by omega)
  have z5d : decide (0 < (q : Int)) = !decide (q = 0) := by rw [← decide_not]; exact decide_eq_decide.2 (by omega)
  obtain ⟨zq, Hzq⟩ : ∃ b, Hid (decide (q = 0) = b) := ⟨_, Lib.hid rfl⟩
  rw [Hzq.out] at z5c z5d ⊢
  clear h G hl
  go_enter Tryz.func12, Tryz.ntmps12
  go_wp2
  go_loopw [9] (RelA f l w w) (fun i _ => q - (intOf i).toNat)
  case atStart => exact ⟨0, Nat.zero_le _, rfl, Below.refl _ _, Below.refl _ _, Lib.hid (by simp)⟩
  case round =>
    obtain ⟨k, hk, rfl, HB, _, HR⟩ := hrel
    rename World => wx
    rw [Hq.out] at hk
    have HB := Lib.hid HB
    by_cases hlt : k < q
    · have hlt' : k < l.length := by rw [Hq.out]; exact hlt
      obtain ⟨m, b, off, c', a1, a2, a3, a4, a5, c1, c2, c3, c4, c5, em, e, hc, hfit, ⟨i1, i2, i3, i4, i5⟩, p0, p1, p2, p3, p4, p5, p6⟩ := ns_at2 HL.out k hlt'
      obtain rfl : n = m := by omega
      rw [Hq.out] at e hc
      cases e
      have HC := Lib.hid (all_step f l k hlt')
      obtain ⟨x, Hx⟩ : ∃ x, Hid (l[k] = x) := ⟨_, Lib.hid rfl⟩
      rw [Hx.out] at HC hfit i1 i2 i3 i4 i5 p0 p1 p2 p3 p4 p5 p6
      have CN := Lib.hid (CN0.out x a1 a2 a3 a4 a5 c1 c2 c3 c4 c5 wx hfit (kept_ass n _ _ _ _ i1 HB.out) (kept_ws n _ _ _ _ i2 HB.out) (kept_rds n _ _ _ _ i3 HB.out) (kept_ls n _ _ _ _ i4 HB.out) (kept_ars n _ _ _ _ i5 HB.out))
      replace p0 := cell_low p0 HB.out
      replace p1 := cell_low p1 HB.out
      replace p2 := cell_low p2 HB.out
      replace p3 := cell_low p3 HB.out
      replace p4 := cell_low p4 HB.out
      replace p5 := cell_low p5 HB.out
      replace p6 := cell_low p6 HB.out
      clear hfit i1 i2 i3 i4 i5 z5c z5d
      generalize x.assigns.length = m1 at p2 CN
      generalize x.words.length = m2 at p3 CN
      generalize x.redirs.length = m3 at p4 CN
      generalize x.lists.length = m4 at p5 CN
      generalize x.arms.length = m5 at p6 CN
      obtain ⟨r, Hr⟩ : ∃ b, Hid (f x = b) := ⟨_, Lib.hid rfl⟩
      rw [Hr.out] at CN HC
      go_wp2_with fail
      refine CN.out.mono ?_
      rintro e w3 ⟨rfl, hb⟩
      have HB3 := Lib.hid (HB.out.trans (hb.mono HB.out.size))
      clear hb p0 p1 p2 p3 p4 p5 p6
      cases r
      · go_wp2
        go_ret
        exact ⟨by rw [HR.out, HC.out]; rfl, HB3.out⟩
      · go_wp2
        go_round
        case rel => exact ⟨k + 1, hlt', vi (Int.natCast_succ k).symm, HB3.out, HB3.out, Lib.hid (by rw [HR.out, HC.out]; rfl)⟩
        case measure => exact sz_meas hlt
    · have hkq : q = k := sz_eq hlt hk
      have HE2 : Hid (l.all f = true) := Lib.hid (by rw [HR.out, List.drop_of_length_le (by rw [Hq.out, hkq]; exact Nat.le_refl _)]; rfl)
      have hnl : decide ((k : Int) < (q : Int)) = false := by rw [hkq]; simp
      have hnl2 : decide (k < q) = false := by rw [hkq]; simp
      clear hkq HR
      cases nn <;> cases zq
      all_goals (
        simp only [Bool.not_true, Bool.not_false] at z5c z5d
        go_wp2
        go_ret
        rw [HE2.out]; exact ⟨rfl, HB.out⟩)
set_option maxHeartbeats 2000000 in
set_option maxRecDepth 100000 in
theorem empty62 (a : Option Addr) (c : Nat) (w : World) (lev deep : Int) (sm : Bool) : Calls Tryz.prog 62 #[.slice a 0 c, .int .i64 lev, .int .i64 deep, .bool sm] w fun e w' => e = .returned (.bool (!sm)) ∧ Below w.heap.size w w' := by
  cases sm
  all_goals (
    go_enter Tryz.func62, Tryz.ntmps62
    go_wp2
    go_loop [9] (fun i => i = .int .i64 0) (fun i => 0)
    case atStart => rfl
    case round =>
      subst hrel
      go_wp2
      go_ret
      exact ⟨rfl, Below.refl _ _⟩)
set_option maxHeartbeats 2000000 in
set_option maxRecDepth 100000 in
theorem empty12 (a : Option Addr) (c : Nat) (w : World) (lev deep : Int) (nn : Bool) : Calls Tryz.prog 12 #[.slice a 0 c, .int .i64 lev, .int .i64 deep, .bool nn] w fun e w' => e = .returned (.bool nn) ∧ Below w.heap.size w w' := by
  cases nn
  all_goals (
    go_enter Tryz.func12, Tryz.ntmps12
    go_wp2
    go_loop [9] (fun i => i = .int .i64 0) (fun i => 0)
    case atStart => rfl
    case round =>
      subst hrel
      go_wp2
      go_ret
      exact ⟨rfl, Below.refl _ _⟩)
theorem dgood : ∀ n, DGood n
  | 0 => ⟨fun v l w lev deep sm h _ => by
      obtain ⟨rfl, a, c, rfl⟩ := h
      have := empty62 a c w lev deep sm
      rw [show ((rgt 0).1 [] (deep - lev + 1) && (!z0 ([] : List Pt) || !sm)) = !sm from by cases sm <;> rfl]
      exact this, fun v l w lev deep nn h _ => by
      obtain ⟨rfl, a, c, rfl⟩ := h
      have := empty12 a c w lev deep nn
      rw [show ((rgt 0).2 [] (deep - lev + 1) && (nn || !z0 ([] : List Nd))) = nn from by cases nn <;> rfl]
      exact this⟩
  | n + 1 => ⟨fun v l w lev deep sm h hl => word62 n (dgood n) v l w lev deep sm h hl, fun v l w lev deep nn h hl => list12 n (dgood n) v l w lev deep nn h hl⟩
/-- The document's answer, from the first level on. -/
theorem list_one (n : Nat) (v : Value) (l : List Nd) (w : World) (deep : Int) (h : NsAt n w v l) (hd : deep ≤ 1000) (h64 : L64 deep) :
    Calls Tryz.prog 12 #[v, .int .i64 1, .int .i64 deep, .bool true] w fun e w' => e = .returned (.bool ((rgt n).2 l deep)) ∧ Below w.heap.size w w' := by
  have := (dgood n).c v l w 1 deep true h ⟨by omega, by omega, hd, h64.1⟩
  rw [show deep - 1 + 1 = deep by omega, Bool.true_or, Bool.and_true] at this
  exact this
end Go.Proofs.YtfaohicadahcjaaGreatDoor
