/- The document's command. Conditions: lengths below a bound. -/
import Derived.Test.YtfaohicadahcjaaGreatDoorTP
namespace Go.Proofs.YtfaohicadahcjaaGreatDoor
open Go.RowKit Go.PlainAid Go.ChangeShapes Go.WideShapes Go.ChangeAt
set_option linter.unusedSimpArgs false
set_option linter.unusedVariables false
theorem nodeF_is (n : Nat) (lev deep : Int) (x : Nd) : nodeF n (deep - lev + 1) x = (decide (lev ≤ deep) && nodeV (rgt n).1 (rgt n).2 x (deep - lev)) := by
  unfold nodeF
  rw [nodeV_is, show deep - lev + 1 - 1 = deep - lev by omega, Bool.and_assoc]
  congr 1
  exact decide_eq_decide.2 (by omega)
set_option maxHeartbeats 32000000 in
set_option maxRecDepth 100000 in
theorem node41 (n : Nat) (G : DGood n) (x : Nd) (a1 a2 a3 a4 a5 : Option Addr) (c1 c2 c3 c4 c5 : Nat) (w : World) (lev deep : Int) (hl : Lv lev deep) (hf : NdFits x)
    (h1 : AssAt n w (.slice a1 x.assigns.length c1) x.assigns) (h2 : WsAt n w (.slice a2 x.words.length c2) x.words) (h3 : RdsAt n w (.slice a3 x.redirs.length c3) x.redirs) (h4 : LsAt n w (.slice a4 x.lists.length c4) x.lists) (h5 : ArsAt n w (.slice a5 x.arms.length c5) x.arms) :
    Calls Tryz.prog 41 #[.agg #[.int .i64 x.kind, .string x.name, .slice a1 x.assigns.length c1, .slice a2 x.words.length c2, .slice a3 x.redirs.length c3, .slice a4 x.lists.length c4, .slice a5 x.arms.length c5], .int .i64 lev, .int .i64 deep] w fun e w' => e = .returned (.bool (nodeF n (deep - lev + 1) x)) ∧ Below w.heap.size w w' := by
  rw [nodeF_is]
  by_cases hd : lev ≤ deep
  case neg =>
    rw [decide_eq_false hd, Bool.false_and]
    have hd1 : decide (deep < lev) = true := decide_eq_true (by omega)
    have HB := Lib.hid fun o => (Below.refl w.heap.size w).alloc (Nat.le_refl _) o
    clear h1 h2 h3 h4 h5 hf G hl hd
    go_enter Tryz.func41, Tryz.ntmps41
    go_wp2
    go_ret
    exact ⟨rfl, HB.out _⟩
  rw [decide_eq_true hd, Bool.true_and]
  have hd1 : decide (deep < lev) = false := decide_eq_false (by omega)
  have hlev := hl.2.1
  have hlev1 := hl.1
  have HLN := Lib.hid (hl.next hd)
  obtain ⟨fw, HW⟩ : ∃ f : List Pt → Bool, Hid ((fun w => !z0 w && (rgt n).1 w (deep - lev)) = f) := ⟨_, Lib.hid rfl⟩
  obtain ⟨fr, HR⟩ : ∃ f : Rd → Bool, Hid ((fun r => redB (rgt n).1 r (deep - lev)) = f) := ⟨_, Lib.hid rfl⟩
  obtain ⟨fl, HF⟩ : ∃ f : List Nd → Bool, Hid ((fun l => !z0 l && (rgt n).2 l (deep - lev)) = f) := ⟨_, Lib.hid rfl⟩
  obtain ⟨T, HT0⟩ : ∃ b, Hid ((if x.kind = 1 then simpleD (rgt n).1 x (deep - lev) else if 2 ≤ x.kind ∧ x.kind ≤ 5 then joinV x else compV (rgt n).1 (rgt n).2 x (deep - lev)) = b) := ⟨_, Lib.hid rfl⟩
  have HCt0 : Hid (nodeV (rgt n).1 (rgt n).2 x (deep - lev) = (x.words.all fw && x.redirs.all fr && x.lists.all fl && T)) := Lib.hid (by rw [← HW.out, ← HR.out, ← HF.out, ← HT0.out]; rfl)
  obtain ⟨ct, HCT⟩ : ∃ b, Hid (nodeV (rgt n).1 (rgt n).2 x (deep - lev) = b) := ⟨_, Lib.hid rfl⟩
  have HCt := HCt0
  rw [HCT.out] at HCt ⊢
  have CW := Lib.hid fun (y : List Pt) (v : Value) (W : World) (hy : WdAt n W v y) => (show Calls Tryz.prog 62 #[v, .int .i64 (lev + 1), .int .i64 deep, .bool true] W fun e w' => e = .returned (.bool (fw y)) ∧ Below W.heap.size W w' from by
    have := G.w v y W (lev + 1) deep true hy HLN.out
    rw [show deep - (lev + 1) + 1 = deep - lev by omega] at this
    have e : fw y = ((rgt n).1 y (deep - lev) && (!z0 y || !true)) := by rw [← HW.out]; simp [Bool.and_comm]
    rw [e]; exact this)
  have CR := Lib.hid fun (fd : Int) (op tag : ByteArray) (a : Option Addr) (c : Nat) (y : List Pt) (W : World) (hf : RdFits (.mk fd op tag y)) (hy : WdAt n W (.slice a y.length c) y) => (show Calls Tryz.prog 63 #[.agg #[.int .i64 fd, .string op, .string tag, .slice a y.length c], .int .i64 (lev + 1), .int .i64 deep] W fun e w' => e = .returned (.bool (fr (.mk fd op tag y))) ∧ Below W.heap.size W w' from by
    have := redir63 n G fd op tag a c y W (lev + 1) deep hf hy HLN.out
    rw [show deep - (lev + 1) + 1 = deep - lev by omega] at this
    rw [← HR.out]; exact this)
  have CL := Lib.hid fun (y : List Nd) (v : Value) (W : World) (hy : NsAt n W v y) => (show Calls Tryz.prog 12 #[v, .int .i64 (lev + 1), .int .i64 deep, .bool false] W fun e w' => e = .returned (.bool (fl y)) ∧ Below W.heap.size W w' from by
    have := G.c v y W (lev + 1) deep false hy HLN.out
    rw [show deep - (lev + 1) + 1 = deep - lev by omega] at this
    have e : fl y = ((rgt n).2 y (deep - lev) && (false || !z0 y)) := by rw [← HF.out]; simp [Bool.and_comm]
    rw [e]; exact this)
  have l1 := h1.len
  have l2 := h2.len
  have l3 := h3.len
  have l4 := h4.len
  have l5 := h5.len
  have C64 := Lib.hid fun (hk : x.kind = 1) (hwd : x.words.all fw = true) (W : World) (hW : Below w.heap.size w W) => (show Calls Tryz.prog 64 #[.agg #[.int .i64 x.kind, .string x.name, .slice a1 x.assigns.length c1, .slice a2 x.words.length c2, .slice a3 x.redirs.length c3, .slice a4 x.lists.length c4, .slice a5 x.arms.length c5], .int .i64 lev, .int .i64 deep] W fun e w' => e = .returned (.bool T) ∧ Below W.heap.size W w' from by
    have := simple64 n G x a1 a2 a3 a4 a5 c1 c2 c3 c4 c5 W lev deep hl hd (kept_ass n _ _ _ _ h1 hW) (kept_ws n _ _ _ _ h2 hW) l3 (fun y r e hn => by
      rw [e, List.all_cons, ← HW.out, hn] at hwd
      simp [z0] at hwd)
    rw [← HT0.out, if_pos hk]; exact this)
  have C65 := Lib.hid fun (hk1 : ¬ x.kind = 1) (hk : 2 ≤ x.kind ∧ x.kind ≤ 5) (W : World) (hW : Below w.heap.size w W) => (show Calls Tryz.prog 65 #[.agg #[.int .i64 x.kind, .string x.name, .slice a1 x.assigns.length c1, .slice a2 x.words.length c2, .slice a3 x.redirs.length c3, .slice a4 x.lists.length c4, .slice a5 x.arms.length c5]] W fun e w' => e = .returned (.bool T) ∧ Below W.heap.size W w' from by
    have := joined65 n x a1 a2 a3 a4 a5 c1 c2 c3 c4 c5 W hk (kept_ls n _ _ _ _ h4 hW) l1 l2 l3 l5
    rw [← HT0.out, if_neg hk1, if_pos hk]; exact this)
  have C66 := Lib.hid fun (hk1 : ¬ x.kind = 1) (hk : ¬ (2 ≤ x.kind ∧ x.kind ≤ 5)) (W : World) (hW : Below w.heap.size w W) => (show Calls Tryz.prog 66 #[.agg #[.int .i64 x.kind, .string x.name, .slice a1 x.assigns.length c1, .slice a2 x.words.length c2, .slice a3 x.redirs.length c3, .slice a4 x.lists.length c4, .slice a5 x.arms.length c5], .int .i64 lev, .int .i64 deep] W fun e w' => e = .returned (.bool T) ∧ Below W.heap.size W w' from by
    have := comp66 n G x a1 a2 a3 a4 a5 c1 c2 c3 c4 c5 W lev deep hl hd hf l1 l2 l3 (kept_ls n _ _ _ _ h4 hW) (kept_ars n _ _ _ _ h5 hW)
    rw [← HT0.out, if_neg hk1, if_neg hk]; exact this)
  have K2 := Lib.hid h2
  have K3 := Lib.hid h3
  have K4 := Lib.hid h4
  have kk1 := eq_int x.kind 1
  have HKD : Hid (x.kind = x.kind) := Lib.hid rfl
  obtain ⟨kd, HKd⟩ : ∃ k, Hid (x.kind = k) := ⟨_, Lib.hid rfl⟩
  rw [HKd.out] at C64 C65 C66 kk1 ⊢
  clear HKD HKd HT0
  obtain ⟨q1, Hq1⟩ : ∃ q, Hid (x.assigns.length = q) := ⟨_, Lib.hid rfl⟩
  obtain ⟨q2, Hq2⟩ : ∃ q, Hid (x.words.length = q) := ⟨_, Lib.hid rfl⟩
  obtain ⟨q3, Hq3⟩ : ∃ q, Hid (x.redirs.length = q) := ⟨_, Lib.hid rfl⟩
  obtain ⟨q4, Hq4⟩ : ∃ q, Hid (x.lists.length = q) := ⟨_, Lib.hid rfl⟩
  obtain ⟨q5, Hq5⟩ : ∃ q, Hid (x.arms.length = q) := ⟨_, Lib.hid rfl⟩
  rw [Hq1.out, Hq2.out, Hq3.out, Hq4.out, Hq5.out] at C64 C65 C66 ⊢
  rw [Hq2.out] at K2 l2
  rw [Hq3.out] at K3 l3
  rw [Hq4.out] at K4 l4
  have HB := Lib.hid ((Below.refl w.heap.size w).alloc (Nat.le_refl _) (.cells #[.int .i64 kd, .string x.name, .slice a1 q1 c1, .slice a2 q2 c2, .slice a3 q3 c3, .slice a4 q4 c4, .slice a5 q5 c5] 64))
  have HH := Lib.hid (heap_alloc_new w (.cells #[.int .i64 kd, .string x.name, .slice a1 q1 c1, .slice a2 q2 c2, .slice a3 q3 c3, .slice a4 q4 c4, .slice a5 q5 c5] 64))
  obtain ⟨k1, Hk1⟩ : ∃ b, Hid (decide (kd = 1) = b) := ⟨_, Lib.hid rfl⟩
  rw [Hk1.out] at kk1
  obtain ⟨k2, Hk2⟩ : ∃ b, Hid (decide (2 ≤ kd) = b) := ⟨_, Lib.hid rfl⟩
  have kk2 := Hk2.out
  obtain ⟨k5, Hk5⟩ : ∃ b, Hid (decide (kd ≤ 5) = b) := ⟨_, Lib.hid rfl⟩
  have kk5 := Hk5.out
  clear h1 h2 h3 h4 h5 G hl hf HCT HCt0 l1 l5 hd HLN
  go_enter Tryz.func41, Tryz.ntmps41
  go_upto_region 1 with fail
  generalize w.alloc (.cells #[.int .i64 kd, .string x.name, .slice a1 q1 c1, .slice a2 q2 c2, .slice a3 q3 c3, .slice a4 q4 c4, .slice a5 q5 c5] 64) = w1 at HB HH ⊢
  have p3 := cells_at HH.out (i := 3) (u := .slice a2 q2 c2) rfl
  have HBA := HB
  have HBB := Lib.hid (Below.refl w1.heap.size w1)
  go_wp2
  go_loopw [7] (RelA fw x.words w w1) (fun i _ => q2 - (intOf i).toNat)
  case atStart => exact ⟨0, Nat.zero_le _, rfl, HBA.out, HBB.out, Lib.hid (by simp)⟩
  case round =>
    obtain ⟨k, hk, rfl, HBx, HB1, HRl⟩ := hrel
    rename World => wx
    rw [Hq2.out] at hk
    have HBx := Lib.hid HBx
    have HB1 := Lib.hid HB1
    replace p3 := cell_low p3 HB1.out
    by_cases hlt : k < q2
    · have hlt' : k < x.words.length := by rw [Hq2.out]; exact hlt
      have HC := Lib.hid (all_step fw x.words k hlt')
      obtain ⟨b, off, c', u, e, _, hcell, hu⟩ := one_at K2.out k hlt'
      obtain ⟨ua, uc, rfl⟩ := wd_shape _ _ _ _ hu
      rw [Hq2.out] at e
      cases e
      obtain ⟨y, Hy⟩ : ∃ y, Hid (x.words[k] = y) := ⟨_, Lib.hid rfl⟩
      rw [Hy.out] at HC hu hcell
      replace hcell := cell_low hcell HBx.out
      have C := Lib.hid (CW.out y _ wx (kept_wd n _ _ _ _ hu HBx.out))
      obtain ⟨r, Hr⟩ : ∃ b, Hid (fw y = b) := ⟨_, Lib.hid rfl⟩
      rw [Hr.out] at C HC
      generalize y.length = ny at hcell C
      clear hu kk1 kk2 kk5
      cases r
      · have HF0 : Hid (ct = false) := Lib.hid (by rw [HCt.out, HRl.out, HC.out]; rfl)
        go_wp2_with fail
        refine C.out.mono ?_
        rintro e w3 ⟨rfl, hb⟩
        have HB3 := Lib.hid (HBx.out.trans (hb.mono HBx.out.size))
        clear hb
        go_wp2
        go_ret
        rw [HF0.out]; exact ⟨rfl, HB3.out⟩
      · go_wp2_with fail
        refine C.out.mono ?_
        rintro e w3 ⟨rfl, hb⟩
        have HB3 := Lib.hid (And.intro (HBx.out.trans (hb.mono HBx.out.size)) (HB1.out.trans (hb.mono HB1.out.size)))
        clear hb
        go_wp2
        go_round
        case rel => exact ⟨k + 1, hlt', vi (Int.natCast_succ k).symm, HB3.out.1, HB3.out.2, Lib.hid (by rw [HRl.out, HC.out]; rfl)⟩
        case measure => exact sz_meas hlt
    · have hkq : q2 = k := sz_eq hlt hk
      have HT1 : Hid (x.words.all fw = true) := Lib.hid (by rw [HRl.out, List.drop_of_length_le (by rw [Hq2.out, hkq]; exact Nat.le_refl _)]; rfl)
      have HCt := Lib.hid (show ct = (x.redirs.all fr && x.lists.all fl && T) from by rw [HCt.out, HT1.out]; rfl)
      have C64 := Lib.hid fun hk => C64.out hk HT1.out
      have HBA := Lib.hid HBx.out
      have HBB := Lib.hid HB1.out
      have hnl : decide ((k : Int) < (q2 : Int)) = false := by rw [hkq]; simp
      have hnl2 : decide (k < q2) = false := by rw [hkq]; simp
      clear HT1 HRl hkq hlt hk
      have p4 := cell_low (cells_at HH.out (i := 4) (u := .slice a3 q3 c3) rfl) HB1.out
      go_wp2
      go_loopw [8] (RelA fr x.redirs w w1) (fun i _ => q3 - (intOf i).toNat)
      case atStart => exact ⟨0, Nat.zero_le _, rfl, HBA.out, HBB.out, Lib.hid (by simp)⟩
      case round =>
        obtain ⟨j, hk, rfl, HBx, HB1, HRl⟩ := hrel
        rename World => wy
        rw [Hq3.out] at hk
        have HBx := Lib.hid HBx
        have HB1 := Lib.hid HB1
        have p4 := cell_low (cells_at HH.out (i := 4) (u := .slice a3 q3 c3) rfl) HB1.out
        clear hnl hnl2
        by_cases hlt : j < q3
        · have hlt' : j < x.redirs.length := by rw [Hq3.out]; exact hlt
          have HC := Lib.hid (all_step fr x.redirs j hlt')
          obtain ⟨b, off, c', wa, wc, e, hfit, hwd, d0, d1, d2, d3⟩ := rd_at K3.out j hlt'
          obtain ⟨y, Hy⟩ : ∃ y, Hid (x.redirs[j] = y) := ⟨_, Lib.hid rfl⟩
          rw [Hy.out] at HC hfit hwd d0 d1 d2 d3
          rw [Hq3.out] at e
          cases e
          replace d0 := cell_low d0 HBx.out
          replace d1 := cell_low d1 HBx.out
          replace d2 := cell_low d2 HBx.out
          replace d3 := cell_low d3 HBx.out
          have Hre : Hid (Rd.mk y.fd y.op y.tag y.word = y) := Lib.hid (by cases y; rfl)
          have C := Lib.hid (CR.out y.fd y.op y.tag wa wc y.word wy (by rw [Hre.out]; exact hfit) (kept_wd n _ _ _ _ hwd HBx.out))
          rw [Hre.out] at C
          obtain ⟨r, Hr⟩ : ∃ b, Hid (fr y = b) := ⟨_, Lib.hid rfl⟩
          rw [Hr.out] at C HC
          generalize y.word.length = ny at d3 C
          clear hwd hfit kk1 kk2 kk5
          cases r
          · have HF0 : Hid (ct = false) := Lib.hid (by rw [HCt.out, HRl.out, HC.out]; rfl)
            go_wp2_with fail
            refine C.out.mono ?_
            rintro e w3 ⟨rfl, hb⟩
            have HB3 := Lib.hid (HBx.out.trans (hb.mono HBx.out.size))
            clear hb
            go_wp2
            go_ret
            rw [HF0.out]; exact ⟨rfl, HB3.out⟩
          · go_wp2_with fail
            refine C.out.mono ?_
            rintro e w3 ⟨rfl, hb⟩
            have HB3 := Lib.hid (And.intro (HBx.out.trans (hb.mono HBx.out.size)) (HB1.out.trans (hb.mono HB1.out.size)))
            clear hb
            go_wp2
            go_round
            case rel => exact ⟨j + 1, hlt', vi (Int.natCast_succ j).symm, HB3.out.1, HB3.out.2, Lib.hid (by rw [HRl.out, HC.out]; rfl)⟩
            case measure => exact sz_meas hlt
        · have hkq : q3 = j := sz_eq hlt hk
          have HT1 : Hid (x.redirs.all fr = true) := Lib.hid (by rw [HRl.out, List.drop_of_length_le (by rw [Hq3.out, hkq]; exact Nat.le_refl _)]; rfl)
          have HCt := Lib.hid (show ct = (x.lists.all fl && T) from by rw [HCt.out, HT1.out]; rfl)
          have HBA := Lib.hid HBx.out
          have HBB := Lib.hid HB1.out
          have hnl : decide ((j : Int) < (q3 : Int)) = false := by rw [hkq]; simp
          have hnl2 : decide (j < q3) = false := by rw [hkq]; simp
          clear HT1 HRl hkq hlt hk
          have p5 := cell_low (cells_at HH.out (i := 5) (u := .slice a4 q4 c4) rfl) HB1.out
          go_wp2
          go_loopw [9] (RelA fl x.lists w w1) (fun i _ => q4 - (intOf i).toNat)
          case atStart => exact ⟨0, Nat.zero_le _, rfl, HBA.out, HBB.out, Lib.hid (by simp)⟩
          case round =>
            obtain ⟨i, hk, rfl, HBx, HB1, HRl⟩ := hrel
            rename World => wz
            rw [Hq4.out] at hk
            have HBx := Lib.hid HBx
            have HB1 := Lib.hid HB1
            have p5 := cell_low (cells_at HH.out (i := 5) (u := .slice a4 q4 c4) rfl) HB1.out
            clear hnl hnl2
            by_cases hlt : i < q4
            · have hlt' : i < x.lists.length := by rw [Hq4.out]; exact hlt
              have HC := Lib.hid (all_step fl x.lists i hlt')
              obtain ⟨b, off, c', u, e, _, hcell, hu⟩ := one_at K4.out i hlt'
              obtain ⟨ua, uc, rfl⟩ := ns_shape _ _ _ _ hu
              rw [Hq4.out] at e
              cases e
              obtain ⟨y, Hy⟩ : ∃ y, Hid (x.lists[i] = y) := ⟨_, Lib.hid rfl⟩
              rw [Hy.out] at HC hu hcell
              replace hcell := cell_low hcell HBx.out
              have C := Lib.hid (CL.out y _ wz (kept_ns n _ _ _ _ hu HBx.out))
              obtain ⟨r, Hr⟩ : ∃ b, Hid (fl y = b) := ⟨_, Lib.hid rfl⟩
              rw [Hr.out] at C HC
              generalize y.length = ny at hcell C
              clear hu kk1 kk2 kk5
              cases r
              · have HF0 : Hid (ct = false) := Lib.hid (by rw [HCt.out, HRl.out, HC.out]; rfl)
                go_wp2_with fail
                refine C.out.mono ?_
                rintro e w3 ⟨rfl, hb⟩
                have HB3 := Lib.hid (HBx.out.trans (hb.mono HBx.out.size))
                clear hb
                go_wp2
                go_ret
                rw [HF0.out]; exact ⟨rfl, HB3.out⟩
              · go_wp2_with fail
                refine C.out.mono ?_
                rintro e w3 ⟨rfl, hb⟩
                have HB3 := Lib.hid (And.intro (HBx.out.trans (hb.mono HBx.out.size)) (HB1.out.trans (hb.mono HB1.out.size)))
                clear hb
                go_wp2
                go_round
                case rel => exact ⟨i + 1, hlt', vi (Int.natCast_succ i).symm, HB3.out.1, HB3.out.2, Lib.hid (by rw [HRl.out, HC.out]; rfl)⟩
                case measure => exact sz_meas hlt
            · have hkq : q4 = i := sz_eq hlt hk
              have HCt : Hid (ct = T) := Lib.hid (by rw [HCt.out, HRl.out, List.drop_of_length_le (by rw [Hq4.out, hkq]; exact Nat.le_refl _)]; rfl)
              have hnl : decide ((i : Int) < (q4 : Int)) = false := by rw [hkq]; simp
              have hnl2 : decide (i < q4) = false := by rw [hkq]; simp
              clear HRl hkq hlt hk
              have p0 := cell_low (cells_at HH.out (i := 0) (u := .int .i64 kd) rfl) HB1.out
              have p1 := cell_low (cells_at HH.out (i := 1) (u := .string x.name) rfl) HB1.out
              have p2 := cell_low (cells_at HH.out (i := 2) (u := .slice a1 q1 c1) rfl) HB1.out
              have p3 := cell_low (cells_at HH.out (i := 3) (u := .slice a2 q2 c2) rfl) HB1.out
              have p4 := cell_low (cells_at HH.out (i := 4) (u := .slice a3 q3 c3) rfl) HB1.out
              have p6 := cell_low (cells_at HH.out (i := 6) (u := .slice a5 q5 c5) rfl) HB1.out
              cases k1
              case true =>
                have C := Lib.hid (C64.out (of_decide_eq_true Hk1.out) wz HBx.out)
                go_wp2_with fail
                refine C.out.mono ?_
                rintro e w3 ⟨rfl, hb⟩
                have HB3 := Lib.hid (HBx.out.trans (hb.mono HBx.out.size))
                clear hb
                go_wp2
                go_ret
                rw [HCt.out]; exact ⟨rfl, HB3.out⟩
              have hk1 := of_decide_eq_false Hk1.out
              cases k2
              case false =>
                have C := Lib.hid (C66.out hk1 (fun h => of_decide_eq_false Hk2.out h.1) wz HBx.out)
                clear hk1
                go_wp2_with fail
                refine C.out.mono ?_
                rintro e w3 ⟨rfl, hb⟩
                have HB3 := Lib.hid (HBx.out.trans (hb.mono HBx.out.size))
                clear hb
                go_wp2
                go_ret
                rw [HCt.out]; exact ⟨rfl, HB3.out⟩
              cases k5
              case false =>
                have C := Lib.hid (C66.out hk1 (fun h => of_decide_eq_false Hk5.out h.2) wz HBx.out)
                clear hk1
                go_wp2_with fail
                refine C.out.mono ?_
                rintro e w3 ⟨rfl, hb⟩
                have HB3 := Lib.hid (HBx.out.trans (hb.mono HBx.out.size))
                clear hb
                go_wp2
                go_ret
                rw [HCt.out]; exact ⟨rfl, HB3.out⟩
              have C := Lib.hid (C65.out hk1 ⟨of_decide_eq_true Hk2.out, of_decide_eq_true Hk5.out⟩ wz HBx.out)
              clear hk1
              go_wp2_with fail
              refine C.out.mono ?_
              rintro e w3 ⟨rfl, hb⟩
              have HB3 := Lib.hid (HBx.out.trans (hb.mono HBx.out.size))
              clear hb
              go_wp2
              go_ret
              rw [HCt.out]; exact ⟨rfl, HB3.out⟩
end Go.Proofs.YtfaohicadahcjaaGreatDoor
