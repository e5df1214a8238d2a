/- Contracts: what a command has may be. Conditions: lengths below a bound. -/
import Derived.Test.YtfaohicadahcjaaGreatDoorU
namespace Go.Proofs.YtfaohicadahcjaaGreatDoor
open Go.RowKit Go.PlainAid Go.ChangeShapes Go.WideShapes Go.ChangeAt
set_option linter.unusedSimpArgs false
set_option linter.unusedVariables false

theorem as_at {n : Nat} {w : World} {v : Value} {l : List As} (h : AssAt n w v l) (i : Nat) (hi : i < l.length) :
    ∃ b off c wa wc, v = .slice (some ⟨b, off, none⟩) l.length c ∧ l[i].name.size ≤ 1048576 ∧ WdAt n w (.slice wa l[i].word.length wc) l[i].word ∧ w.cell? ⟨b, off + i * 2, none⟩ = some (.string l[i].name) ∧ w.cell? ⟨b, off + i * 2 + 1, none⟩ = some (.slice wa l[i].word.length wc) := by
  obtain ⟨b, off, c, cs, hv, hc, hx, wv, rfl, hf, h1⟩ := Seg.at h i hi
  obtain ⟨wa, wc, rfl⟩ := wd_shape _ _ _ _ h1
  exact ⟨b, off, c, wa, wc, hv, hf, h1, hx 0 _ rfl, hx 1 _ rfl⟩
theorem rd_at {n : Nat} {w : World} {v : Value} {l : List Rd} (h : RdsAt n w v l) (i : Nat) (hi : i < l.length) :
    ∃ b off c wa wc, v = .slice (some ⟨b, off, none⟩) l.length c ∧ RdFits l[i] ∧ WdAt n w (.slice wa l[i].word.length wc) l[i].word ∧ w.cell? ⟨b, off + i * 4, none⟩ = some (.int .i64 l[i].fd) ∧ w.cell? ⟨b, off + i * 4 + 1, none⟩ = some (.string l[i].op) ∧ w.cell? ⟨b, off + i * 4 + 2, none⟩ = some (.string l[i].tag) ∧ w.cell? ⟨b, off + i * 4 + 3, none⟩ = some (.slice wa l[i].word.length wc) := by
  obtain ⟨b, off, c, cs, hv, hc, hx, wv, rfl, hf, h1⟩ := Seg.at h i hi
  obtain ⟨wa, wc, rfl⟩ := wd_shape _ _ _ _ h1
  exact ⟨b, off, c, wa, wc, hv, hf, h1, hx 0 _ rfl, hx 1 _ rfl, hx 2 _ rfl, hx 3 _ rfl⟩
theorem ar_at {n : Nat} {w : World} {v : Value} {l : List Ar} (h : ArsAt n w v l) (i : Nat) (hi : i < l.length) :
    ∃ b off c wa wc ba bc, v = .slice (some ⟨b, off, none⟩) l.length c ∧ WsAt n w (.slice wa l[i].words.length wc) l[i].words ∧ NsAt n w (.slice ba l[i].body.length bc) l[i].body ∧ w.cell? ⟨b, off + i * 2, none⟩ = some (.slice wa l[i].words.length wc) ∧ w.cell? ⟨b, off + i * 2 + 1, none⟩ = some (.slice ba l[i].body.length bc) := by
  obtain ⟨b, off, c, cs, hv, hc, hx, wv, bv, rfl, h1, h2⟩ := Seg.at h i hi
  obtain ⟨wa, wc, rfl⟩ := h1.shape
  obtain ⟨ba, bc, rfl⟩ := ns_shape _ _ _ _ h2
  exact ⟨b, off, c, wa, wc, ba, bc, hv, h1, h2, hx 0 _ rfl, hx 1 _ rfl⟩
theorem all_step {α : Type} (f : α → Bool) (l : List α) (k : Nat) (h : k < l.length) : (l.drop k).all f = (f l[k] && (l.drop (k + 1)).all f) := by
  rw [List.drop_eq_getElem_cons h, List.all_cons]
/-- A loop over a list, each of which is asked. -/
def RelA {α : Type} (f : α → Bool) (l : List α) (w w1 : World) (i : Value) (wx : World) : Prop := ∃ k : Nat, k ≤ l.length ∧ i = .int .i64 k ∧ Below w.heap.size w wx ∧ Below w1.heap.size w1 wx ∧ Hid (l.all f = (l.drop k).all f)
set_option maxHeartbeats 8000000 in
set_option maxRecDepth 100000 in
theorem words88 (n : Nat) (G : Good n) (v : Value) (l : List (List Pt)) (w : World) (left : Int) (h : WsAt n w v l) (he : Env w) (h64 : L64 left) :
    Calls Tryz.prog 88 #[v, .int .i64 left] w fun e w' => e = .returned (.bool (wordsB (rgt n).1 l left)) ∧ Below w.heap.size w w' := by
  have HL := Lib.hid h
  have hlen := h.len
  have HE := Lib.hid he
  obtain ⟨a, c, rfl⟩ := h.shape
  obtain ⟨f, Hf⟩ : ∃ f : List Pt → Bool, Hid ((fun w => !z0 w && (rgt n).1 w left) = f) := ⟨_, Lib.hid rfl⟩
  have HW : Hid (wordsB (rgt n).1 l left = l.all f) := Lib.hid (by rw [← Hf.out]; rfl)
  rw [HW.out]
  have CW := Lib.hid fun (u : Value) (x : List Pt) (W : World) (hx : WdAt n W u x) (hW : Env W) => G.w u x W left hx hW h64
  obtain ⟨q, Hq⟩ : ∃ q, Hid (l.length = q) := ⟨_, Lib.hid rfl⟩
  rw [Hq.out] at HL hlen ⊢
  clear h he G h64
  go_enter Tryz.func88, Tryz.ntmps88
  go_wp2
  go_loopw [9] (RelA f l w w) (fun i _ => q - (intOf i).toNat)
  case atStart => exact ⟨0, Nat.zero_le _, rfl, Below.refl _ _, Below.refl _ _, Lib.hid (by simp)⟩
  case round =>
    obtain ⟨k, hk, rfl, HB, _, HR⟩ := hrel
    rename World => wx
    rw [Hq.out] at hk
    have HB := Lib.hid HB
    by_cases hlt : k < q
    · have hlt' : k < l.length := by rw [Hq.out]; exact hlt
      obtain ⟨b, off, c', u, e, hc, hcell, hu⟩ := one_at HL.out k hlt'
      obtain ⟨ua, uc, rfl⟩ := wd_shape _ _ _ _ hu
      rw [Hq.out] at e hc
      cases e
      have HC := Lib.hid (all_step f l k hlt')
      obtain ⟨x, Hx⟩ : ∃ x, Hid (l[k] = x) := ⟨_, Lib.hid rfl⟩
      rw [Hx.out] at HC hu hcell
      replace hcell := cell_low hcell HB.out
      have C := Lib.hid (CW.out _ x wx (kept_wd n _ _ _ _ hu HB.out) (HE.out.on HB.out))
      have Hfx : Hid (f x = (!z0 x && (rgt n).1 x left)) := Lib.hid (by rw [← Hf.out])
      have z1 : (x.length == 0) = z0 x := eqz _ _
      have z2 : ((x.length : Int) == 0) = z0 x := eqzI _
      generalize (rgt n).1 x left = r at C Hfx
      generalize z0 x = z at z1 z2 Hfx
      generalize x.length = nx at hcell C z1 z2
      clear hu
      cases z
      case true =>
        go_wp2
        go_ret
        exact ⟨by rw [HR.out, HC.out, Hfx.out]; rfl, HB.out⟩
      cases r
      · go_wp2_with (first | (go_at_call 86; refine C.out.mono ?_; rintro e w3 ⟨rfl, hb⟩))
        have HB3 := Lib.hid (HB.out.trans (hb.mono HB.out.size))
        go_ret
        exact ⟨by rw [HR.out, HC.out, Hfx.out]; rfl, HB3.out⟩
      · go_wp2_with fail
        refine C.out.mono ?_
        rintro e w3 ⟨rfl, hb⟩
        have HB3 := Lib.hid (HB.out.trans (hb.mono HB.out.size))
        clear hb
        go_wp2
        go_round
        case rel => exact ⟨k + 1, hlt', by go_num, HB3.out, HB3.out, Lib.hid (by rw [HR.out, HC.out, Hfx.out]; rfl)⟩
        case measure => simp [intOf]; omega
    · obtain rfl : k = q := by omega
      have HE2 : Hid (l.all f = true) := Lib.hid (by rw [HR.out, List.drop_of_length_le (by rw [Hq.out]; exact Nat.le_refl _)]; rfl)
      go_wp2
      go_ret
      rw [HE2.out]; exact ⟨rfl, HB.out⟩
set_option maxHeartbeats 32000000 in
set_option maxRecDepth 100000 in
theorem content61 (n : Nat) (G : Good n) (kd : Int) (nm : ByteArray) (a1 a2 a3 a4 a5 : Option Addr) (c1 c2 c3 c4 c5 : Nat) (las : List As) (lws : List (List Pt)) (lrs : List Rd) (lls : List (List Nd)) (lms : List Ar) (w : World) (left : Int)
    (h1 : AssAt n w (.slice a1 las.length c1) las) (h2 : WsAt n w (.slice a2 lws.length c2) lws) (h3 : RdsAt n w (.slice a3 lrs.length c3) lrs) (h4 : LsAt n w (.slice a4 lls.length c4) lls) (h5 : ArsAt n w (.slice a5 lms.length c5) lms) (he : Env w) (h64 : L64 left) :
    Calls Tryz.prog 61 #[.agg #[.int .i64 kd, .string nm, .slice a1 las.length c1, .slice a2 lws.length c2, .slice a3 lrs.length c3, .slice a4 lls.length c4, .slice a5 lms.length c5], .int .i64 left] w fun e w' => e = .returned (.bool (contentB (rgt n).1 (rgt n).2 (.mk kd nm las lws lrs lls lms) left)) ∧ Below w.heap.size w w' := by
  obtain ⟨fa, HA⟩ : ∃ f : As → Bool, Hid ((fun a => nameL (ls a.name) && (rgt n).1 a.word left) = f) := ⟨_, Lib.hid rfl⟩
  obtain ⟨fr, HR⟩ : ∃ f : Rd → Bool, Hid ((fun r => redB (rgt n).1 r left) = f) := ⟨_, Lib.hid rfl⟩
  obtain ⟨fl, HF⟩ : ∃ f : List Nd → Bool, Hid ((fun l => !z0 l && (rgt n).2 l left) = f) := ⟨_, Lib.hid rfl⟩
  obtain ⟨fm, HM⟩ : ∃ f : Ar → Bool, Hid ((fun a => !z0 a.words && wordsB (rgt n).1 a.words left && (rgt n).2 a.body left) = f) := ⟨_, Lib.hid rfl⟩
  obtain ⟨w5, HW5⟩ : ∃ b, Hid (wordsB (rgt n).1 lws left = b) := ⟨_, Lib.hid rfl⟩
  have HCt : Hid (contentB (rgt n).1 (rgt n).2 (.mk kd nm las lws lrs lls lms) left = (las.all fa && lrs.all fr && lls.all fl && lms.all fm && w5)) := Lib.hid (by rw [← HA.out, ← HR.out, ← HF.out, ← HM.out, ← HW5.out]; rfl)
  obtain ⟨ct, HCT⟩ : ∃ b, Hid (contentB (rgt n).1 (rgt n).2 (.mk kd nm las lws lrs lls lms) left = b) := ⟨_, Lib.hid rfl⟩
  rw [HCT.out] at HCt ⊢
  have K1 := Lib.hid h1
  have K2 := Lib.hid h2
  have K3 := Lib.hid h3
  have K4 := Lib.hid h4
  have K5 := Lib.hid h5
  have l1 := h1.len
  have l2 := h2.len
  have l3 := h3.len
  have l4 := h4.len
  have l5 := h5.len
  have HE := Lib.hid he
  have HG := Lib.hid G
  have H64 := Lib.hid h64
  have HB := Lib.hid ((Below.refl w.heap.size w).alloc (Nat.le_refl _) (.cells #[.int .i64 kd, .string nm, .slice a1 las.length c1, .slice a2 lws.length c2, .slice a3 lrs.length c3, .slice a4 lls.length c4, .slice a5 lms.length c5] 51))
  have HH := Lib.hid (heap_alloc_new w (.cells #[.int .i64 kd, .string nm, .slice a1 las.length c1, .slice a2 lws.length c2, .slice a3 lrs.length c3, .slice a4 lls.length c4, .slice a5 lms.length c5] 51))
  obtain ⟨q1, Hq1⟩ : ∃ q, Hid (las.length = q) := ⟨_, Lib.hid rfl⟩
  obtain ⟨q2, Hq2⟩ : ∃ q, Hid (lws.length = q) := ⟨_, Lib.hid rfl⟩
  obtain ⟨q3, Hq3⟩ : ∃ q, Hid (lrs.length = q) := ⟨_, Lib.hid rfl⟩
  obtain ⟨q4, Hq4⟩ : ∃ q, Hid (lls.length = q) := ⟨_, Lib.hid rfl⟩
  obtain ⟨q5, Hq5⟩ : ∃ q, Hid (lms.length = q) := ⟨_, Lib.hid rfl⟩
  rw [Hq1.out, Hq2.out, Hq3.out, Hq4.out, Hq5.out] at HB HH ⊢
  rw [Hq1.out] at K1 l1
  rw [Hq2.out] at K2 l2
  rw [Hq3.out] at K3 l3
  rw [Hq4.out] at K4 l4
  rw [Hq5.out] at K5 l5
  clear h1 h2 h3 h4 h5 he G h64 HCT
  go_enter Tryz.func61, Tryz.ntmps61
  go_upto_region 1 with fail
  generalize w.alloc (.cells #[.int .i64 kd, .string nm, .slice a1 q1 c1, .slice a2 q2 c2, .slice a3 q3 c3, .slice a4 q4 c4, .slice a5 q5 c5] 51) = w1 at HB HH ⊢
  have p0 : w1.cell? ⟨w.heap.size, 0, none⟩ = some (.int .i64 kd) := cells_at HH.out (i := 0) rfl
  have p1 : w1.cell? ⟨w.heap.size, 1, none⟩ = some (.string nm) := cells_at HH.out (i := 1) rfl
  have p2 : w1.cell? ⟨w.heap.size, 2, none⟩ = some (.slice a1 q1 c1) := cells_at HH.out (i := 2) rfl
  have p3 : w1.cell? ⟨w.heap.size, 3, none⟩ = some (.slice a2 q2 c2) := cells_at HH.out (i := 3) rfl
  have p4 : w1.cell? ⟨w.heap.size, 4, none⟩ = some (.slice a3 q3 c3) := cells_at HH.out (i := 4) rfl
  have p5 : w1.cell? ⟨w.heap.size, 5, none⟩ = some (.slice a4 q4 c4) := cells_at HH.out (i := 5) rfl
  have p6 : w1.cell? ⟨w.heap.size, 6, none⟩ = some (.slice a5 q5 c5) := cells_at HH.out (i := 6) rfl
  have HBA := HB
  have HBB := Lib.hid (Below.refl w1.heap.size w1)
  go_wp2
  go_loopw [16] (RelA fa las w w1) (fun i _ => q1 - (intOf i).toNat)
  case atStart => exact ⟨0, Nat.zero_le _, rfl, HBA.out, HBB.out, Lib.hid (by simp)⟩
  case round =>
    obtain ⟨k, hk, rfl, HBx, HB1, HRl⟩ := hrel
    rename World => wx
    rw [Hq1.out] at hk
    have HBx := Lib.hid HBx
    have HB1 := Lib.hid HB1
    by_cases hlt : k < q1
    · have hlt' : k < las.length := by rw [Hq1.out]; exact hlt
      have HC := Lib.hid (all_step fa las k hlt')
      obtain ⟨b, off, c', wa, wc, e, hns, hwd, c0, c1'⟩ := as_at K1.out k hlt'
      obtain ⟨x, Hx⟩ : ∃ x, Hid (las[k] = x) := ⟨_, Lib.hid rfl⟩
      rw [Hx.out] at HC hns hwd c0 c1'
      rw [Hq1.out] at e
      cases e
      replace c0 := cell_low c0 HBx.out
      replace c1' := cell_low c1' HBx.out
      have HX := Lib.hid fun (o : Obj) => And.intro (HBx.out.alloc HBx.out.size o) (HB1.out.alloc HB1.out.size o)
      have C23 := Lib.hid fun W => name23 x.name (by omega) W
      have C86 := Lib.hid fun (W : World) (hW : Below w.heap.size w W) => HG.out.w _ x.word W left (kept_wd n _ _ _ _ hwd hW) (HE.out.on hW) H64.out
      have Hfx : Hid (fa x = (nameL (ls x.name) && (rgt n).1 x.word left)) := Lib.hid (by rw [← HA.out])
      generalize nameL (ls x.name) = y1 at C23 Hfx
      generalize (rgt n).1 x.word left = y2 at C86 Hfx
      generalize x.word.length = nx at c1' C86
      clear hwd hns
      cases y1
      case false =>
        have HF0 : Hid (ct = false) := Lib.hid (by rw [HCt.out, HRl.out, HC.out, Hfx.out]; rfl)
        go_wp2_with (first | (go_at_call 23; refine (C23.out _).mono ?_; rintro e w3 ⟨rfl, rfl⟩))
        go_ret
        rw [HF0.out]; exact ⟨rfl, (HX.out _).1⟩
      cases y2
      · have HF0 : Hid (ct = false) := Lib.hid (by rw [HCt.out, HRl.out, HC.out, Hfx.out]; rfl)
        go_wp2_with (first | (go_at_call 23; refine (C23.out _).mono ?_; rintro e w3 ⟨rfl, rfl⟩))
        refine (C86.out _ (HX.out _).1).mono ?_
        rintro e w3 ⟨rfl, hb⟩
        have HB3 := Lib.hid ((HX.out _).1.trans (hb.mono (HX.out _).1.size))
        clear hb
        go_wp2
        go_ret
        rw [HF0.out]; exact ⟨rfl, HB3.out⟩
      · go_wp2_with (first | (go_at_call 23; refine (C23.out _).mono ?_; rintro e w3 ⟨rfl, rfl⟩))
        refine (C86.out _ (HX.out _).1).mono ?_
        rintro e w3 ⟨rfl, hb⟩
        have HB3 := Lib.hid (And.intro ((HX.out _).1.trans (hb.mono (HX.out _).1.size)) ((HX.out _).2.trans (hb.mono (HX.out _).2.size)))
        clear hb
        go_wp2
        go_round
        case rel => exact ⟨k + 1, hlt', by go_num, HB3.out.1, HB3.out.2, Lib.hid (by rw [HRl.out, HC.out, Hfx.out]; rfl)⟩
        case measure => simp [intOf]; omega
    · have hkq : q1 = k := by omega
      subst hkq
      have HT : Hid (las.all fa = true) := Lib.hid (by rw [HRl.out, List.drop_of_length_le (by rw [Hq1.out]; exact Nat.le_refl _)]; rfl)
      have HCt := Lib.hid (show ct = (lrs.all fr && lls.all fl && lms.all fm && w5) from by rw [HCt.out, HT.out]; rfl)
      have HBA := Lib.hid HBx.out
      have HBB := Lib.hid HB1.out
      clear HT HRl
      have p2 := cell_low (cells_at HH.out (i := 2) (u := .slice a1 q1 c1) rfl) HB1.out
      have p3 := cell_low (cells_at HH.out (i := 3) (u := .slice a2 q2 c2) rfl) HB1.out
      have p4 := cell_low (cells_at HH.out (i := 4) (u := .slice a3 q3 c3) rfl) HB1.out
      have p5 := cell_low (cells_at HH.out (i := 5) (u := .slice a4 q4 c4) rfl) HB1.out
      have p6 := cell_low (cells_at HH.out (i := 6) (u := .slice a5 q5 c5) rfl) HB1.out
      go_wp2
      go_loopw [35] (RelA fr lrs w w1) (fun i _ => q3 - (intOf i).toNat)
      case atStart => exact ⟨0, Nat.zero_le _, rfl, HBA.out, HBB.out, Lib.hid (by simp)⟩
      case round =>
        obtain ⟨k, hk, rfl, HBx, HB1, HRl⟩ := hrel
        rename World => wx
        rw [Hq3.out] at hk
        have HBx := Lib.hid HBx
        have HB1 := Lib.hid HB1
        by_cases hlt : k < q3
        · have hlt' : k < lrs.length := by rw [Hq3.out]; exact hlt
          have HC := Lib.hid (all_step fr lrs k hlt')
          obtain ⟨b, off, c', wa, wc, e, hfit, hwd, c0, c1', c2', c3'⟩ := rd_at K3.out k hlt'
          obtain ⟨x, Hx⟩ : ∃ x, Hid (lrs[k] = x) := ⟨_, Lib.hid rfl⟩
          rw [Hx.out] at HC hfit hwd c0 c1' c2' c3'
          rw [Hq3.out] at e
          cases e
          replace c0 := cell_low c0 HBx.out
          replace c1' := cell_low c1' HBx.out
          replace c2' := cell_low c2' HBx.out
          replace c3' := cell_low c3' HBx.out
          have HX := Lib.hid fun (o : Obj) => And.intro (HBx.out.alloc HBx.out.size o) (HB1.out.alloc HB1.out.size o)
          have Hre : Hid (Rd.mk x.fd x.op x.tag x.word = x) := Lib.hid (by cases x; rfl)
          have C87 := Lib.hid fun (W : World) (hW : Below w.heap.size w W) => redir87 n HG.out x.fd x.op x.tag wa wc x.word W left (by rw [Hre.out]; exact hfit) (kept_wd n _ _ _ _ hwd hW) (HE.out.on hW) H64.out
          have Hfx : Hid (fr x = redB (rgt n).1 (.mk x.fd x.op x.tag x.word) left) := Lib.hid (by rw [← HR.out, Hre.out])
          generalize redB (rgt n).1 (.mk x.fd x.op x.tag x.word) left = y1 at C87 Hfx
          generalize x.word.length = nx at c3' C87
          clear hwd hfit
          cases y1
          · have HF0 : Hid (ct = false) := Lib.hid (by rw [HCt.out, HRl.out, HC.out, Hfx.out]; simp)
            go_wp2_with fail
            refine (C87.out _ (HX.out _).1).mono ?_
            rintro e w3 ⟨rfl, hb⟩
            have HB3 := Lib.hid ((HX.out _).1.trans (hb.mono (HX.out _).1.size))
            clear hb
            go_wp2
            go_ret
            rw [HF0.out]; exact ⟨rfl, HB3.out⟩
          · go_wp2_with fail
            refine (C87.out _ (HX.out _).1).mono ?_
            rintro e w3 ⟨rfl, hb⟩
            have HB3 := Lib.hid (And.intro ((HX.out _).1.trans (hb.mono (HX.out _).1.size)) ((HX.out _).2.trans (hb.mono (HX.out _).2.size)))
            clear hb
            go_wp2
            go_round
            case rel => exact ⟨k + 1, hlt', by go_num, HB3.out.1, HB3.out.2, Lib.hid (by rw [HRl.out, HC.out, Hfx.out]; rfl)⟩
            case measure => simp [intOf]; omega
        · have hkq : q3 = k := by omega
          subst hkq
          have HT : Hid (lrs.all fr = true) := Lib.hid (by rw [HRl.out, List.drop_of_length_le (by rw [Hq3.out]; exact Nat.le_refl _)]; rfl)
          have HCt := Lib.hid (show ct = (lls.all fl && lms.all fm && w5) from by rw [HCt.out, HT.out]; rfl)
          have HBA := Lib.hid HBx.out
          have HBB := Lib.hid HB1.out
          clear HT HRl
          have p2 := cell_low (cells_at HH.out (i := 2) (u := .slice a1 q1 c1) rfl) HB1.out
          have p3 := cell_low (cells_at HH.out (i := 3) (u := .slice a2 q2 c2) rfl) HB1.out
          have p4 := cell_low (cells_at HH.out (i := 4) (u := .slice a3 q3 c3) rfl) HB1.out
          have p5 := cell_low (cells_at HH.out (i := 5) (u := .slice a4 q4 c4) rfl) HB1.out
          have p6 := cell_low (cells_at HH.out (i := 6) (u := .slice a5 q5 c5) rfl) HB1.out
          go_wp2
          go_loopw [47] (RelA fl lls w w1) (fun i _ => q4 - (intOf i).toNat)
          case atStart => exact ⟨0, Nat.zero_le _, rfl, HBA.out, HBB.out, Lib.hid (by simp)⟩
          case round =>
            obtain ⟨k, hk, rfl, HBx, HB1, HRl⟩ := hrel
            rename World => wx
            rw [Hq4.out] at hk
            have HBx := Lib.hid HBx
            have HB1 := Lib.hid HB1
            by_cases hlt : k < q4
            · have hlt' : k < lls.length := by rw [Hq4.out]; exact hlt
              have HC := Lib.hid (all_step fl lls k hlt')
              obtain ⟨b, off, c', u, e, _, hcell, hu⟩ := one_at K4.out k hlt'
              obtain ⟨ua, uc, rfl⟩ := ns_shape _ _ _ _ hu
              rw [Hq4.out] at e
              cases e
              obtain ⟨x, Hx⟩ : ∃ x, Hid (lls[k] = x) := ⟨_, Lib.hid rfl⟩
              rw [Hx.out] at HC hu hcell
              replace hcell := cell_low hcell HBx.out
              have C40 := Lib.hid (HG.out.c _ x wx left (kept_ns n _ _ _ _ hu HBx.out) (HE.out.on HBx.out) H64.out)
              have Hfx : Hid (fl x = (!z0 x && (rgt n).2 x left)) := Lib.hid (by rw [← HF.out])
              have z1 : (x.length == 0) = z0 x := eqz _ _
              have z2 : ((x.length : Int) == 0) = z0 x := eqzI _
              generalize (rgt n).2 x left = y2 at C40 Hfx
              generalize z0 x = z at z1 z2 Hfx
              generalize x.length = nx at hcell C40 z1 z2
              clear hu
              cases z
              case true =>
                have HF0 : Hid (ct = false) := Lib.hid (by rw [HCt.out, HRl.out, HC.out, Hfx.out]; simp)
                go_wp2
                go_ret
                rw [HF0.out]; exact ⟨rfl, HBx.out⟩
              cases y2
              · have HF0 : Hid (ct = false) := Lib.hid (by rw [HCt.out, HRl.out, HC.out, Hfx.out]; simp)
                go_wp2_with fail
                refine C40.out.mono ?_
                rintro e w3 ⟨rfl, hb⟩
                have HB3 := Lib.hid (HBx.out.trans (hb.mono HBx.out.size))
                clear hb
                go_wp2
                go_ret
                rw [HF0.out]; exact ⟨rfl, HB3.out⟩
              · go_wp2_with fail
                refine C40.out.mono ?_
                rintro e w3 ⟨rfl, hb⟩
                have HB3 := Lib.hid (And.intro (HBx.out.trans (hb.mono HBx.out.size)) (HB1.out.trans (hb.mono HB1.out.size)))
                clear hb
                go_wp2
                go_round
                case rel => exact ⟨k + 1, hlt', by go_num, HB3.out.1, HB3.out.2, Lib.hid (by rw [HRl.out, HC.out, Hfx.out]; rfl)⟩
                case measure => simp [intOf]; omega
            · have hkq : q4 = k := by omega
              subst hkq
              have HT : Hid (lls.all fl = true) := Lib.hid (by rw [HRl.out, List.drop_of_length_le (by rw [Hq4.out]; exact Nat.le_refl _)]; rfl)
              have HCt := Lib.hid (show ct = (lms.all fm && w5) from by rw [HCt.out, HT.out]; rfl)
              have HBA := Lib.hid HBx.out
              have HBB := Lib.hid HB1.out
              clear HT HRl
              have p2 := cell_low (cells_at HH.out (i := 2) (u := .slice a1 q1 c1) rfl) HB1.out
              have p3 := cell_low (cells_at HH.out (i := 3) (u := .slice a2 q2 c2) rfl) HB1.out
              have p4 := cell_low (cells_at HH.out (i := 4) (u := .slice a3 q3 c3) rfl) HB1.out
              have p5 := cell_low (cells_at HH.out (i := 5) (u := .slice a4 q4 c4) rfl) HB1.out
              have p6 := cell_low (cells_at HH.out (i := 6) (u := .slice a5 q5 c5) rfl) HB1.out
              go_wp2
              go_loopw [64] (RelA fm lms w w1) (fun i _ => q5 - (intOf i).toNat)
              case atStart => exact ⟨0, Nat.zero_le _, rfl, HBA.out, HBB.out, Lib.hid (by simp)⟩
              case round =>
                obtain ⟨k, hk, rfl, HBx, HB1, HRl⟩ := hrel
                rename World => wx
                rw [Hq5.out] at hk
                have HBx := Lib.hid HBx
                have HB1 := Lib.hid HB1
                by_cases hlt : k < q5
                · have hlt' : k < lms.length := by rw [Hq5.out]; exact hlt
                  have HC := Lib.hid (all_step fm lms k hlt')
                  obtain ⟨b, off, c', wa, wc, ba, bc, e, hws, hbd, c0, c1'⟩ := ar_at K5.out k hlt'
                  obtain ⟨x, Hx⟩ : ∃ x, Hid (lms[k] = x) := ⟨_, Lib.hid rfl⟩
                  rw [Hx.out] at HC hws hbd c0 c1'
                  rw [Hq5.out] at e
                  cases e
                  replace c0 := cell_low c0 HBx.out
                  replace c1' := cell_low c1' HBx.out
                  have HX := Lib.hid fun (o : Obj) => And.intro (HBx.out.alloc HBx.out.size o) (HB1.out.alloc HB1.out.size o)
                  have C88 := Lib.hid fun (W : World) (hW : Below w.heap.size w W) => words88 n HG.out _ x.words W left (kept_ws n _ _ _ _ hws hW) (HE.out.on hW) H64.out
                  have C40 := Lib.hid fun (W : World) (hW : Below w.heap.size w W) => HG.out.c _ x.body W left (kept_ns n _ _ _ _ hbd hW) (HE.out.on hW) H64.out
                  have Hfx : Hid (fm x = (!z0 x.words && wordsB (rgt n).1 x.words left && (rgt n).2 x.body left)) := Lib.hid (by rw [← HM.out])
                  have z1 : (x.words.length == 0) = z0 x.words := eqz _ _
                  have z2 : ((x.words.length : Int) == 0) = z0 x.words := eqzI _
                  generalize (rgt n).2 x.body left = y2 at C40 Hfx
                  generalize wordsB (rgt n).1 x.words left = y1 at C88 Hfx
                  generalize z0 x.words = z at z1 z2 Hfx
                  generalize x.words.length = nx at c0 C88 z1 z2
                  generalize x.body.length = ny at c1' C40
                  clear hws hbd
                  have HN := Lib.hid (heap_alloc_new wx (.cells #[.slice wa nx wc, .slice ba ny bc] 78))
                  cases z
                  case true =>
                    have HF0 : Hid (ct = false) := Lib.hid (by rw [HCt.out, HRl.out, HC.out, Hfx.out]; simp)
                    go_wp2
                    go_ret
                    rw [HF0.out]; exact ⟨rfl, (HX.out _).1⟩
                  have HX1 := Lib.hid (HX.out (.cells #[.slice wa nx wc, .slice ba ny bc] 78))
                  go_wp2_with fail
                  generalize wx.alloc (.cells #[.slice wa nx wc, .slice ba ny bc] 78) = w2 at HN HX1 ⊢
                  refine (C88.out _ HX1.out.1).mono ?_
                  rintro e w3 ⟨rfl, hb⟩
                  have HB3 := Lib.hid (And.intro (HX1.out.1.trans (hb.mono HX1.out.1.size)) (HX1.out.2.trans (hb.mono HX1.out.2.size)))
                  have s1 : w3.cell? ⟨wx.heap.size, 1, none⟩ = some (.slice ba ny bc) := cell_low (cells_at HN.out (i := 1) rfl) hb
                  clear hb
                  cases y1
                  case false =>
                    have HF0 : Hid (ct = false) := Lib.hid (by rw [HCt.out, HRl.out, HC.out, Hfx.out]; simp)
                    go_wp2
                    go_ret
                    rw [HF0.out]; exact ⟨rfl, HB3.out.1⟩
                  cases y2
                  · have HF0 : Hid (ct = false) := Lib.hid (by rw [HCt.out, HRl.out, HC.out, Hfx.out]; simp)
                    go_wp2_with fail
                    refine (C40.out _ HB3.out.1).mono ?_
                    rintro e w4 ⟨rfl, hb⟩
                    have HB4 := Lib.hid (HB3.out.1.trans (hb.mono HB3.out.1.size))
                    clear hb
                    go_wp2
                    go_ret
                    rw [HF0.out]; exact ⟨rfl, HB4.out⟩
                  · go_wp2_with fail
                    refine (C40.out _ HB3.out.1).mono ?_
                    rintro e w4 ⟨rfl, hb⟩
                    have HB4 := Lib.hid (And.intro (HB3.out.1.trans (hb.mono HB3.out.1.size)) (HB3.out.2.trans (hb.mono HB3.out.2.size)))
                    clear hb
                    go_wp2
                    go_round
                    case rel => exact ⟨k + 1, hlt', by go_num, HB4.out.1, HB4.out.2, Lib.hid (by rw [HRl.out, HC.out, Hfx.out]; rfl)⟩
                    case measure => simp [intOf]; omega
                · have hkq : q5 = k := by omega
                  subst hkq
                  have HT : Hid (lms.all fm = true) := Lib.hid (by rw [HRl.out, List.drop_of_length_le (by rw [Hq5.out]; exact Nat.le_refl _)]; rfl)
                  have HCt := Lib.hid (show ct = w5 from by rw [HCt.out, HT.out]; rfl)
                  clear HT HRl
                  have p2 := cell_low (cells_at HH.out (i := 2) (u := .slice a1 q1 c1) rfl) HB1.out
                  have p3 := cell_low (cells_at HH.out (i := 3) (u := .slice a2 q2 c2) rfl) HB1.out
                  have p4 := cell_low (cells_at HH.out (i := 4) (u := .slice a3 q3 c3) rfl) HB1.out
                  have p5 := cell_low (cells_at HH.out (i := 5) (u := .slice a4 q4 c4) rfl) HB1.out
                  have p6 := cell_low (cells_at HH.out (i := 6) (u := .slice a5 q5 c5) rfl) HB1.out
                  have C88 := Lib.hid (words88 n HG.out _ lws wx left (kept_ws n _ _ _ _ K2.out HBx.out) (HE.out.on HBx.out) H64.out)
                  rw [HW5.out] at C88
                  go_wp2_with fail
                  refine C88.out.mono ?_
                  rintro e w3 ⟨rfl, hb⟩
                  have HB3 := Lib.hid (HBx.out.trans (hb.mono HBx.out.size))
                  clear hb
                  go_wp2
                  go_ret
                  rw [HCt.out]; exact ⟨rfl, HB3.out⟩
end Go.Proofs.YtfaohicadahcjaaGreatDoor
