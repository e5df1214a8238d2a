/- Contracts: the law's own count of what commands have. Conditions: weights below a bound. -/
import Derived.Test.YtfaohicadahcjaaGreatDoorSO
import Derived.Test.YtfaohicadahcjaaGreatDoorV
import Derived.Deep.RegionHeld3
namespace Go.Proofs.YtfaohicadahcjaaGreatDoor
open Go.RowKit Go.PlainAid Go.ChangeShapes Go.WideShapes Go.ChangeAt
set_option linter.unusedSimpArgs false
set_option linter.unusedVariables false
theorem wr64 {x : Int} (h0 : 0 ≤ x) (h1 : x ≤ 1000000000000) : IntKind.i64.wrap x = x := by rw [IntKind.wrap_i64]; omega
theorem wr64' {x : Int} (h0 : 0 ≤ x) (h1 : x ≤ 1000000000000) : wrap64 x = x := by unfold wrap64; omega
theorem sz_bd {ac fx rest X v B : Nat} (h1 : ac + (fx + rest) = X) (h3 : X ≤ B) (h4 : fx = v) : ac + v ≤ B := by omega
theorem sz_nx {ac fx rest X v : Nat} (h1 : ac + (fx + rest) = X) (h4 : fx = v) : ac + v + rest = X := by omega
theorem sz_w3 {ac ts x1 : Nat} (h : ac + (1 + ts + x1) ≤ 3146776576) : IntKind.i64.wrap (1 + (ts : Int)) = 1 + (ts : Int) ∧ IntKind.i64.wrap (1 + (ts : Int) + x1) = 1 + (ts : Int) + x1 ∧ IntKind.i64.wrap ((ac : Int) + (1 + (ts : Int) + x1)) = (ac : Int) + (1 + (ts : Int) + x1) ∧ (ac : Int) + (1 + (ts : Int) + x1) = ((ac + (1 + ts + x1) : Nat) : Int) :=
  ⟨wr64 (by omega) (by omega), wr64 (by omega) (by omega), wr64 (by omega) (by omega), by omega⟩
theorem sz_w2 {ac x1 : Nat} (h : ac + (1 + x1) ≤ 3146776576) : wrap64 (1 + (x1 : Int)) = 1 + (x1 : Int) ∧ wrap64 ((ac : Int) + (1 + (x1 : Int))) = (ac : Int) + (1 + (x1 : Int)) ∧ (ac : Int) + (1 + (x1 : Int)) = ((ac + (1 + x1) : Nat) : Int) :=
  ⟨wr64' (by omega) (by omega), wr64' (by omega) (by omega), by omega⟩
theorem sz_meas {q k : Nat} (h : k < q) : q - (intOf (.int .i64 ((k : Int) + 1))).toNat < q - (intOf (.int .i64 (k : Int))).toNat := by simp [intOf]; omega
theorem sz_end {α : Type} {f : α → Nat} {l : List α} {k ac X : Nat} (h : ac + ((l.drop k).map f).sum = X) (hk : l.length ≤ k) : ac = X := by
  rw [List.drop_of_length_le hk] at h; simpa using h
theorem sz_cut {α : Type} {f : α → Nat} {l : List α} {k ac X : Nat} (h : ac + ((l.drop k).map f).sum = X) (hk : k < l.length) : ac + (f l[k] + ((l.drop (k + 1)).map f).sum) = X := by
  rw [sum_cut f l k hk] at h; exact h
theorem sz_in {ac x1 S rest X : Nat} (h : ac + (1 + x1 + S) + rest = X) : ac + (1 + x1) + S + rest = X := by omega
theorem sz_in2 {ac x1 S B : Nat} (h : ac + (1 + x1 + S) ≤ B) : ac + (1 + x1) + S ≤ B := by omega
theorem sz_le1 {a S B : Nat} (h : a + S ≤ B) : a ≤ B := by omega
theorem sz_eq {q k : Nat} (h : ¬ k < q) (hk : k ≤ q) : q = k := by omega
/-- A sum at work. -/
def RelI {α : Type} (f : α → Nat) (T : Nat) (l : List α) (w w1 : World) (a i : Value) (wx : World) : Prop :=
  ∃ k acc : Nat, k ≤ l.length ∧ a = .int .i64 acc ∧ i = .int .i64 k ∧ Below w.heap.size w wx ∧ Below w1.heap.size w1 wx ∧ Hid (acc + ((l.drop k).map f).sum = T)
theorem wtX_parts {W : List Pt → Nat} {N : List Nd → Nat} {x : Nd} (h : wtX W N x ≤ 1048576) : (∀ a ∈ x.assigns, W a.word ≤ 1048576) ∧ (∀ w ∈ x.words, W w ≤ 1048576) ∧ (∀ r ∈ x.redirs, W r.word ≤ 1048576) ∧ (∀ y ∈ x.lists, N y ≤ 1048576) ∧ (∀ a ∈ x.arms, N a.body ≤ 1048576 ∧ ∀ w ∈ a.words, W w ≤ 1048576) := by
  unfold wtX at h
  refine ⟨fun a ha => ?_, fun w hw => ?_, fun r hr => ?_, fun y hy => ?_, fun a ha => ⟨?_, fun w hw => ?_⟩⟩
  · have := le_sum (wtA W) _ a ha; simp only [wtA] at this h; omega
  · have := le_sum (fun w => 1 + W w) _ w hw; omega
  · have := le_sum (wtR W) _ r hr; simp only [wtR] at this h; omega
  · have := le_sum (fun y => 1 + N y) _ y hy; omega
  · have := le_sum (wtM W N) _ a ha; simp only [wtM] at this h; omega
  · have := le_sum (wtM W N) _ a ha; have h3 := le_sum (fun w => 1 + W w) _ w hw; simp only [wtM] at this h h3; omega
theorem wx_le {n : Nat} {p : Nd} {l : List Nd} (k : Nat) (h : k < l.length) (e : l[k] = p) (hl : (wts (n + 1)).2 l ≤ 1048576) : wtX (wts n).1 (wts n).2 p ≤ 1048576 := by
  have := le_sum (wtX (wts n).1 (wts n).2) l p (by rw [← e]; exact List.getElem_mem h)
  exact Nat.le_trans this hl
set_option maxHeartbeats 32000000 in
set_option maxRecDepth 100000 in
theorem size38 (n : Nat) (G : SzOk n) (v : Value) (l : List Nd) (w : World) (d : Int) (h : NsAt (n + 1) w v l) (hwt : (wts (n + 1)).2 l ≤ 1048576) (hd0 : 0 ≤ d) (hd1 : d ≤ 100) :
    Calls Tryz.prog 38 #[v, .int .i64 3000, .int .i64 d] w fun e w' => e = .returned (.int .i64 ((szs (n + 1)).2 l d : Nat)) ∧ Below w.heap.size w w' := by
  have HL := Lib.hid h
  have hlen := ns_len _ _ _ _ h
  have HG := Lib.hid G
  obtain ⟨a, c, rfl⟩ := ns_shape _ _ _ _ h
  obtain ⟨W', HW'⟩ : ∃ f : List Pt → Nat, Hid ((fun w => (szs n).1 w (d - 1)) = f) := ⟨_, Lib.hid rfl⟩
  obtain ⟨N', HN'⟩ : ∃ f : List Nd → Nat, Hid ((fun l => (szs n).2 l (d - 1)) = f) := ⟨_, Lib.hid rfl⟩
  obtain ⟨f, Hf⟩ : ∃ f : Nd → Nat, Hid (szX W' N' = f) := ⟨_, Lib.hid rfl⟩
  obtain ⟨fA, HfA⟩ : ∃ f : As → Nat, Hid (szA W' = f) := ⟨_, Lib.hid rfl⟩
  obtain ⟨fW, HfW⟩ : ∃ f : List Pt → Nat, Hid ((fun w => 1 + W' w) = f) := ⟨_, Lib.hid rfl⟩
  obtain ⟨fR, HfR⟩ : ∃ f : Rd → Nat, Hid (szR W' = f) := ⟨_, Lib.hid rfl⟩
  obtain ⟨fL, HfL⟩ : ∃ f : List Nd → Nat, Hid ((fun y => 1 + N' y) = f) := ⟨_, Lib.hid rfl⟩
  obtain ⟨fM, HfM⟩ : ∃ f : Ar → Nat, Hid (szM W' N' = f) := ⟨_, Lib.hid rfl⟩
  obtain ⟨s, Hs⟩ : ∃ s : Bool, Hid (decide (d ≤ 0) = s) := ⟨_, Lib.hid rfl⟩
  obtain ⟨T, HT⟩ : ∃ T, Hid (sumT f s 0 l = T) := ⟨_, Lib.hid rfl⟩
  have HT2 : Hid ((szs (n + 1)).2 l d = T) := Lib.hid (by rw [← HT.out, ← Hf.out, ← Hs.out, ← HW'.out, ← HN'.out]; rfl)
  rw [HT2.out]
  have HW := Lib.hid hwt
  have HFG : Hid (∀ p, f p + 1 ≤ 3001 * wtX (wts n).1 (wts n).2 p) := Lib.hid (by
    rw [← Hf.out, ← HW'.out, ← HN'.out]
    exact fun p => szX_le (fun w => (szs_le n).1 w _) (fun l => (szs_le n).2 l _) p)
  have H0 : Hid (0 + 3001 * ((l.drop 0).map (wtX (wts n).1 (wts n).2)).sum ≤ 3146776576) := Lib.hid (by
    have : ((l.drop 0).map (wtX (wts n).1 (wts n).2)).sum ≤ 1048576 := hwt
    omega)
  obtain ⟨q, Hq⟩ : ∃ q, Hid (l.length = q) := ⟨_, Lib.hid rfl⟩
  rw [Hq.out] at HL hlen ⊢
  clear h hwt G HT2
  have HDW : Hid (IntKind.i64.wrap (d - 1) = d - 1) := Lib.hid (by rw [IntKind.wrap_i64]; omega)
  have CW0 := Lib.hid fun (hd : 1 ≤ d) (x : List Pt) (u : Value) (W : World) (hx : WdAt n W u x) (hwx : (wts n).1 x ≤ 1048576) => (show Calls Tryz.prog 57 #[u, .int .i64 3000, .int .i64 (d - 1)] W fun e w' => e = .returned (.int .i64 (W' x : Nat)) ∧ Below W.heap.size W w' from by rw [← HW'.out]; exact HG.out.w u x W (d - 1) hx hwx (by omega) (by omega))
  have CN0 := Lib.hid fun (hd : 1 ≤ d) (x : List Nd) (u : Value) (W : World) (hx : NsAt n W u x) (hwx : (wts n).2 x ≤ 1048576) => (show Calls Tryz.prog 38 #[u, .int .i64 3000, .int .i64 (d - 1)] W fun e w' => e = .returned (.int .i64 (N' x : Nat)) ∧ Below W.heap.size W w' from by rw [← HN'.out]; exact HG.out.c u x W (d - 1) hx hwx (by omega) (by omega))
  have hds : (d == 0) = s := by rw [← Hs.out, Bool.eq_iff_iff]; simp; omega
  go_enter Tryz.func38, Tryz.ntmps38
  go_wp2
  go_loopw [7, 24] (RelT f (wtX (wts n).1 (wts n).2) s T l w) (fun _ i _ => q - (intOf i).toNat)
  case atStart => exact ⟨0, 0, Nat.zero_le _, rfl, rfl, Below.refl _ _, H0, HT⟩
  case round =>
    obtain ⟨k, acc, hk, rfl, rfl, HB, HA, HR⟩ := hrel
    rename World => wx
    rw [Hq.out] at hk
    have HB := Lib.hid HB
    by_cases hlt : k < q
    · have hlt' : k < l.length := by rw [Hq.out]; exact hlt
      obtain ⟨m, b, off, c', a1, a2, a3, a4, a5, c1, c2, c3, c4, c5, em, e, hc, hfit, ⟨i1, i2, i3, i4, i5⟩, p0, p1, p2, p3, p4, p5, p6⟩ := ns_at2 HL.out k hlt'
      obtain rfl : n = m := by omega
      have HC := Lib.hid (sumT_cut f s acc l k hlt')
      have HS := Lib.hid (sum_cut (wtX (wts n).1 (wts n).2) l k hlt')
      obtain ⟨x, Hx⟩ : ∃ x, Hid (l[k] = x) := ⟨_, Lib.hid rfl⟩
      have HPW := Lib.hid (wtX_parts (wx_le k hlt' Hx.out HW.out))
      rw [Hx.out] at HC HS hfit i1 i2 i3 i4 i5 p0 p1 p2 p3 p4 p5 p6
      rw [Hq.out] at e hc
      cases e
      replace p0 := cell_low p0 HB.out
      replace p1 := cell_low p1 HB.out
      replace p2 := cell_low p2 HB.out
      replace p3 := cell_low p3 HB.out
      replace p4 := cell_low p4 HB.out
      replace p5 := cell_low p5 HB.out
      replace p6 := cell_low p6 HB.out
      have hacc : acc ≤ 3146776576 := by have := HA.out; omega
      have hfp := HFG.out x
      have Hnx : Hid (acc + 1 + f x + 3001 * ((l.drop (k + 1)).map (wtX (wts n).1 (wts n).2)).sum ≤ 3146776576) := Lib.hid (by
        have h1 := HA.out; have h2 := HS.out; rw [h2, Nat.mul_add] at h1; omega)
      obtain ⟨S1, HS1⟩ : ∃ S, Hid ((x.assigns.map fA).sum = S) := ⟨_, Lib.hid rfl⟩
      obtain ⟨S2, HS2⟩ : ∃ S, Hid ((x.words.map fW).sum = S) := ⟨_, Lib.hid rfl⟩
      obtain ⟨S3, HS3⟩ : ∃ S, Hid ((x.redirs.map fR).sum = S) := ⟨_, Lib.hid rfl⟩
      obtain ⟨S4, HS4⟩ : ∃ S, Hid ((x.lists.map fL).sum = S) := ⟨_, Lib.hid rfl⟩
      obtain ⟨S5, HS5⟩ : ∃ S, Hid ((x.arms.map fM).sum = S) := ⟨_, Lib.hid rfl⟩
      obtain ⟨nm, Hnm⟩ : ∃ t, Hid (x.name.size = t) := ⟨_, Lib.hid rfl⟩
      have HFx : Hid (f x = nm + S1 + S2 + S3 + S4 + S5) := Lib.hid (by rw [← HS1.out, ← HS2.out, ← HS3.out, ← HS4.out, ← HS5.out, ← Hnm.out, ← HfA.out, ← HfW.out, ← HfR.out, ← HfL.out, ← HfM.out, ← Hf.out]; rfl)
      obtain ⟨F, HF⟩ : ∃ t, Hid (acc + 1 + f x = t) := ⟨_, Lib.hid rfl⟩
      have HFb : Hid (F ≤ 3146776576) := Lib.hid (by have := Hnx.out; have := HF.out; omega)
      have HRn : Hid (F + 3001 * ((l.drop (k + 1)).map (wtX (wts n).1 (wts n).2)).sum ≤ 3146776576) := Lib.hid (by rw [← HF.out]; exact Hnx.out)
      rw [HF.out] at HC
      obtain ⟨A, HAe⟩ : ∃ A : Nat, Hid (acc + 1 + nm = A) := ⟨_, Lib.hid rfl⟩
      have hAi : (acc : Int) + 1 + nm = A := by have := HAe.out; omega
      have HSum : Hid (A + (S1 + (S2 + (S3 + (S4 + S5)))) = F) := Lib.hid (by rw [← HF.out, HFx.out]; have := HAe.out; omega)
      have K1 := Lib.hid i1
      have K2 := Lib.hid i2
      have K3 := Lib.hid i3
      have K4 := Lib.hid i4
      have K5 := Lib.hid i5
      have l1 := i1.len
      have l2 := i2.len
      have l3 := i3.len
      have l4 := i4.len
      have l5 := i5.len
      have hnms := hfit.t
      rw [Hnm.out] at hnms
      have hnm2 := Hnm.out
      obtain ⟨q1, Hq1⟩ : ∃ q, Hid (x.assigns.length = q) := ⟨_, Lib.hid rfl⟩
      obtain ⟨q2, Hq2⟩ : ∃ q, Hid (x.words.length = q) := ⟨_, Lib.hid rfl⟩
      obtain ⟨q3, Hq3⟩ : ∃ q, Hid (x.redirs.length = q) := ⟨_, Lib.hid rfl⟩
      obtain ⟨q4, Hq4⟩ : ∃ q, Hid (x.lists.length = q) := ⟨_, Lib.hid rfl⟩
      obtain ⟨q5, Hq5⟩ : ∃ q, Hid (x.arms.length = q) := ⟨_, Lib.hid rfl⟩
      rw [Hq1.out] at K1 l1 p2
      rw [Hq2.out] at K2 l2 p3
      rw [Hq3.out] at K3 l3 p4
      rw [Hq4.out] at K4 l4 p5
      rw [Hq5.out] at K5 l5 p6
      clear hfit i1 i2 i3 i4 i5 hfp
      have HBo := Lib.hid (HB.out.alloc HB.out.size (.cells #[.int .i64 x.kind, .string x.name, .slice a1 q1 c1, .slice a2 q2 c2, .slice a3 q3 c3, .slice a4 q4 c4, .slice a5 q5 c5] 51))
      have HH := Lib.hid (heap_alloc_new wx (.cells #[.int .i64 x.kind, .string x.name, .slice a1 q1 c1, .slice a2 q2 c2, .slice a3 q3 c3, .slice a4 q4 c4, .slice a5 q5 c5] 51))
      obtain ⟨b0, Hb0⟩ : ∃ b, Hid (decide (3000 < acc + 1) = b) := ⟨_, Lib.hid rfl⟩
      have hb1 : decide (3000 < (acc : Int) + 1) = b0 := by rw [← Hb0.out]; exact decide_eq_decide.2 (by omega)
      have hb2 := Hb0.out
      rw [Hb0.out] at HC
      cases b0
      case true =>
        have HFF : Hid (T = 3001) := Lib.hid (by rw [← HR.out, HC.out]; simp)
        go_wp2
        go_ret
        rw [HFF.out]; exact ⟨rfl, HBo.out⟩
      cases s
      case true =>
        have HFF : Hid (T = 3001) := Lib.hid (by rw [← HR.out, HC.out]; simp)
        go_wp2
        go_ret
        rw [HFF.out]; exact ⟨rfl, HBo.out⟩
      have hd1' : 1 ≤ d := by have := of_decide_eq_false Hs.out; omega
      have HRt : Hid (sumT f false F (l.drop (k + 1)) = T) := Lib.hid (by rw [← HR.out, HC.out]; simp)
      have CW := Lib.hid (CW0.out hd1')
      have CN := Lib.hid (CN0.out hd1')
      have CW2 := Lib.hid fun x u W hx hwx => (show Calls Tryz.prog 57 #[u, .int .i64 3000, .int .i64 (IntKind.i64.wrap (d - 1))] W _ from by rw [HDW.out]; exact CW.out x u W hx hwx)
      go_upto_region 8 with fail
      generalize wx.alloc (.cells #[.int .i64 x.kind, .string x.name, .slice a1 q1 c1, .slice a2 q2 c2, .slice a3 q3 c3, .slice a4 q4 c4, .slice a5 q5 c5] 51) = w1 at HBo HH ⊢
      clear p0 p1 p2 p3 p4 p5 p6
      have HBA := HBo
      have HBB := Lib.hid (Below.refl w1.heap.size w1)
      have p1 := cells_at HH.out (i := 1) (u := .string x.name) rfl
      go_upto_region 9 with fail
      clear p1
      have p2 := cells_at HH.out (i := 2) (u := .slice a1 q1 c1) rfl
      have HSb := Lib.hid (sz_bd HSum.out HFb.out rfl)
      go_wp2
      go_loopw [7, 47] (RelI fA (A + S1) x.assigns w w1) (fun _ i _ => q1 - (intOf i).toNat)
      case atStart => exact ⟨0, A, Nat.zero_le _, rfl, rfl, HBA.out, HBB.out, Lib.hid (by rw [← HS1.out]; rfl)⟩
      case round =>
        obtain ⟨k2, ac_1, hk2, rfl, rfl, HBx, HB1, HRl⟩ := hrel
        rename World => wz
        rw [Hq1.out] at hk2
        have HBx := Lib.hid HBx
        have HB1 := Lib.hid HB1
        by_cases hlt2 : k2 < q1
        · have hlt2' : k2 < x.assigns.length := by rw [Hq1.out]; exact hlt2
          have HRl2 := Lib.hid (sz_cut HRl.out hlt2')
          obtain ⟨bb, of, cz, wa, wc, e, hns, hwd, z0, z1⟩ := as_at K1.out k2 hlt2'
          obtain ⟨y, Hy⟩ : ∃ y, Hid (x.assigns[k2] = y) := ⟨_, Lib.hid rfl⟩
          have hyw := HPW.out.1 y (by rw [← Hy.out]; exact List.getElem_mem hlt2')
          rw [Hy.out] at HRl2 hns hwd z0 z1
          rw [Hq1.out] at e
          cases e
          replace z0 := cell_low z0 HBx.out
          replace z1 := cell_low z1 HBx.out
          obtain ⟨ts, Hts⟩ : ∃ t, Hid (y.name.size = t) := ⟨_, Lib.hid rfl⟩
          have Hfx : Hid (fA y = 1 + ts + W' y.word) := Lib.hid (by rw [← HfA.out, ← Hts.out]; rfl)
          rw [Hts.out] at hns
          have C1 := Lib.hid fun (W : World) (hW : Below w.heap.size w W) => CW.out y.word _ W (kept_wd n _ _ _ _ hwd hW) hyw
          have C2 := Lib.hid fun (W : World) (hW : Below w.heap.size w W) => CW2.out y.word _ W (kept_wd n _ _ _ _ hwd hW) hyw
          generalize W' y.word = x1 at C1 C2 Hfx
          generalize y.word.length = nw at z1 C1 C2
          have hbd := sz_bd HRl2.out HSb.out Hfx.out
          have HRl3 := Lib.hid (sz_nx HRl2.out Hfx.out)
          have hts2 := Hts.out
          obtain ⟨hv1, hv2, hv3, hv4⟩ := sz_w3 hbd
          have HV4 := Lib.hid (vi hv4)
          clear hv4
          have hdw := HDW.out
          have HX := Lib.hid (And.intro (HBx.out.alloc HBx.out.size (.cells #[.string y.name, .slice wa nw wc] 96)) (HB1.out.alloc HB1.out.size (.cells #[.string y.name, .slice wa nw wc] 96)))
          have hbox := heap_alloc_new wz (.cells #[.string y.name, .slice wa nw wc] 96)
          clear hwd hns hyw hbd
          go_upto_region 12 with fail
          generalize wz.alloc (.cells #[.string y.name, .slice wa nw wc] 96) = wy at HX hbox ⊢
          have hh0 : wy.drew.cell? ⟨wz.heap.size, 0, none⟩ = some (.string y.name) ∧ wy.drew.cell? ⟨wz.heap.size, 1, none⟩ = some (.slice wa nw wc) := ⟨cells_at hbox (i := 0) rfl, cells_at hbox (i := 1) rfl⟩
          have HX0 := Lib.hid (And.intro HX.out.1.drew HX.out.2.drew)
          clear z0 z1 hbox
          go_region_held3 (fun W => W.cell? ⟨wz.heap.size, 0, none⟩ = some (.string y.name) ∧ W.cell? ⟨wz.heap.size, 1, none⟩ = some (.slice wa nw wc))
            (first | exact hh1 | exact hh0)
            (first
              | (go_at_call 57; first | refine (C1.out _ HX0.out.1).mono ?_ | refine (C2.out _ HX0.out.1).mono ?_
                 rintro e w2 ⟨rfl, hb2⟩
                 have HX1 := Lib.hid (And.intro (HX0.out.1.trans (hb2.mono HX0.out.1.size)) (HX0.out.2.trans (hb2.mono HX0.out.2.size)))
                 have hh1 : w2.cell? ⟨wz.heap.size, 0, none⟩ = some (.string y.name) ∧ w2.cell? ⟨wz.heap.size, 1, none⟩ = some (.slice wa nw wc) := ⟨cell_low hh0.1 hb2, cell_low hh0.2 hb2⟩
                 clear hb2))
          clear hh0 hh1
          go_wp2
          go_round
          case rel => exact ⟨k2 + 1, ac_1 + (1 + ts + x1), hlt2', HV4.out, vi (Int.natCast_succ k2).symm, HX1.out.1, HX1.out.2, HRl3⟩
          case measure => exact sz_meas hlt2
        · have hkq2 : q1 = k2 := sz_eq hlt2 hk2
          subst hkq2
          have hac : ac_1 = A + S1 := sz_end HRl.out (Nat.le_of_eq Hq1.out)
          have HSum : Hid (ac_1 + (S2 + (S3 + (S4 + S5))) = F) := Lib.hid (by rw [hac]; exact sz_nx HSum.out rfl)
          have HBA := Lib.hid HBx.out
          have HBB := Lib.hid HB1.out
          clear hac HRl
          have p3 := cell_low (cells_at HH.out (i := 3) (u := .slice a2 q2 c2) rfl) HB1.out
          have HSb := Lib.hid (sz_bd HSum.out HFb.out rfl)
          go_wp2
          go_loopw [7, 68] (RelI fW (ac_1 + S2) x.words w w1) (fun _ i _ => q2 - (intOf i).toNat)
          case atStart => exact ⟨0, ac_1, Nat.zero_le _, rfl, rfl, HBA.out, HBB.out, Lib.hid (by rw [← HS2.out]; rfl)⟩
          case round =>
            obtain ⟨k2, ac_2, hk2, rfl, rfl, HBx, HB1, HRl⟩ := hrel
            rename World => wz
            rw [Hq2.out] at hk2
            have HBx := Lib.hid HBx
            have HB1 := Lib.hid HB1
            by_cases hlt2 : k2 < q2
            · have hlt2' : k2 < x.words.length := by rw [Hq2.out]; exact hlt2
              have HRl2 := Lib.hid (sz_cut HRl.out hlt2')
              obtain ⟨bb, of, cz, u, e, _, hcell, hu⟩ := one_at K2.out k2 hlt2'
              obtain ⟨ua, uc, rfl⟩ := wd_shape _ _ _ _ hu
              rw [Hq2.out] at e
              cases e
              obtain ⟨y, Hy⟩ : ∃ y, Hid (x.words[k2] = y) := ⟨_, Lib.hid rfl⟩
              have hyw := HPW.out.2.1 y (by rw [← Hy.out]; exact List.getElem_mem hlt2')
              rw [Hy.out] at HRl2 hu hcell
              replace hcell := cell_low hcell HBx.out
              have Hfx : Hid (fW y = 1 + W' y) := Lib.hid (by rw [← HfW.out])
              have C1 := Lib.hid (CW.out y _ wz (kept_wd n _ _ _ _ hu HBx.out) hyw)
              generalize W' y = x1 at C1 Hfx
              generalize y.length = nw at hcell C1
              have hbd := sz_bd HRl2.out HSb.out Hfx.out
              have HRl3 := Lib.hid (sz_nx HRl2.out Hfx.out)
              have HV4 := Lib.hid (vi (sz_w2 hbd).2.2)
              clear hu hyw
              go_wp2_with fail
              refine C1.out.mono ?_
              rintro e w2 ⟨rfl, hb2⟩
              have HX1 := Lib.hid (And.intro (HBx.out.trans (hb2.mono HBx.out.size)) (HB1.out.trans (hb2.mono HB1.out.size)))
              clear hb2
              go_wp2
              go_round
              case rel => exact ⟨k2 + 1, ac_2 + (1 + x1), hlt2', HV4.out, vi (Int.natCast_succ k2).symm, HX1.out.1, HX1.out.2, HRl3⟩
              case measure => exact sz_meas hlt2
            · have hkq2 : q2 = k2 := sz_eq hlt2 hk2
              subst hkq2
              have hac : ac_2 = ac_1 + S2 := sz_end HRl.out (Nat.le_of_eq Hq2.out)
              have HSum : Hid (ac_2 + (S3 + (S4 + S5)) = F) := Lib.hid (by rw [hac]; exact sz_nx HSum.out rfl)
              have HBA := Lib.hid HBx.out
              have HBB := Lib.hid HB1.out
              clear hac HRl
              have p4 := cell_low (cells_at HH.out (i := 4) (u := .slice a3 q3 c3) rfl) HB1.out
              have HSb := Lib.hid (sz_bd HSum.out HFb.out rfl)
              go_wp2
              go_loopw [7, 84] (RelI fR (ac_2 + S3) x.redirs w w1) (fun _ i _ => q3 - (intOf i).toNat)
              case atStart => exact ⟨0, ac_2, Nat.zero_le _, rfl, rfl, HBA.out, HBB.out, Lib.hid (by rw [← HS3.out]; rfl)⟩
              case round =>
                obtain ⟨k2, ac_3, hk2, rfl, rfl, HBx, HB1, HRl⟩ := hrel
                rename World => wz
                rw [Hq3.out] at hk2
                have HBx := Lib.hid HBx
                have HB1 := Lib.hid HB1
                by_cases hlt2 : k2 < q3
                · have hlt2' : k2 < x.redirs.length := by rw [Hq3.out]; exact hlt2
                  have HRl2 := Lib.hid (sz_cut HRl.out hlt2')
                  obtain ⟨bb, of, cz, wa, wc, e, hfit, hwd, z0, z1, z2, z3⟩ := rd_at K3.out k2 hlt2'
                  obtain ⟨y, Hy⟩ : ∃ y, Hid (x.redirs[k2] = y) := ⟨_, Lib.hid rfl⟩
                  have hyw := HPW.out.2.2.1 y (by rw [← Hy.out]; exact List.getElem_mem hlt2')
                  rw [Hy.out] at HRl2 hfit hwd z0 z1 z2 z3
                  have hns := hfit.t
                  rw [Hq3.out] at e
                  cases e
                  replace z0 := cell_low z0 HBx.out
                  replace z1 := cell_low z1 HBx.out
                  replace z2 := cell_low z2 HBx.out
                  replace z3 := cell_low z3 HBx.out
                  obtain ⟨ts, Hts⟩ : ∃ t, Hid (y.tag.size = t) := ⟨_, Lib.hid rfl⟩
                  have Hfx : Hid (fR y = 1 + ts + W' y.word) := Lib.hid (by rw [← HfR.out, ← Hts.out]; rfl)
                  rw [Hts.out] at hns
                  clear hfit
                  have C1 := Lib.hid fun (W : World) (hW : Below w.heap.size w W) => CW.out y.word _ W (kept_wd n _ _ _ _ hwd hW) hyw
                  have C2 := Lib.hid fun (W : World) (hW : Below w.heap.size w W) => CW2.out y.word _ W (kept_wd n _ _ _ _ hwd hW) hyw
                  generalize W' y.word = x1 at C1 C2 Hfx
                  generalize y.word.length = nw at z3 C1 C2
                  have hbd := sz_bd HRl2.out HSb.out Hfx.out
                  have HRl3 := Lib.hid (sz_nx HRl2.out Hfx.out)
                  have hts2 := Hts.out
                  obtain ⟨hv1, hv2, hv3, hv4⟩ := sz_w3 hbd
                  have HV4 := Lib.hid (vi hv4)
                  clear hv4
                  have hdw := HDW.out
                  have HX := Lib.hid (And.intro (HBx.out.alloc HBx.out.size (.cells #[.int .i64 y.fd, .string y.op, .string y.tag, .slice wa nw wc] 44)) (HB1.out.alloc HB1.out.size (.cells #[.int .i64 y.fd, .string y.op, .string y.tag, .slice wa nw wc] 44)))
                  have hbox := heap_alloc_new wz (.cells #[.int .i64 y.fd, .string y.op, .string y.tag, .slice wa nw wc] 44)
                  clear hwd hns hyw hbd
                  go_upto_region 22 with fail
                  generalize wz.alloc (.cells #[.int .i64 y.fd, .string y.op, .string y.tag, .slice wa nw wc] 44) = wy at HX hbox ⊢
                  have hh0 : wy.drew.cell? ⟨wz.heap.size, 2, none⟩ = some (.string y.tag) ∧ wy.drew.cell? ⟨wz.heap.size, 3, none⟩ = some (.slice wa nw wc) := ⟨cells_at hbox (i := 2) rfl, cells_at hbox (i := 3) rfl⟩
                  have HX0 := Lib.hid (And.intro HX.out.1.drew HX.out.2.drew)
                  clear z0 z1 z2 z3 hbox
                  go_region_held3 (fun W => W.cell? ⟨wz.heap.size, 2, none⟩ = some (.string y.tag) ∧ W.cell? ⟨wz.heap.size, 3, none⟩ = some (.slice wa nw wc))
                    (first | exact hh1 | exact hh0)
                    (first
                      | (go_at_call 57; first | refine (C1.out _ HX0.out.1).mono ?_ | refine (C2.out _ HX0.out.1).mono ?_
                         rintro e w2 ⟨rfl, hb2⟩
                         have HX1 := Lib.hid (And.intro (HX0.out.1.trans (hb2.mono HX0.out.1.size)) (HX0.out.2.trans (hb2.mono HX0.out.2.size)))
                         have hh1 : w2.cell? ⟨wz.heap.size, 2, none⟩ = some (.string y.tag) ∧ w2.cell? ⟨wz.heap.size, 3, none⟩ = some (.slice wa nw wc) := ⟨cell_low hh0.1 hb2, cell_low hh0.2 hb2⟩
                         clear hb2))
                  clear hh0 hh1
                  go_wp2
                  go_round
                  case rel => exact ⟨k2 + 1, ac_3 + (1 + ts + x1), hlt2', HV4.out, vi (Int.natCast_succ k2).symm, HX1.out.1, HX1.out.2, HRl3⟩
                  case measure => exact sz_meas hlt2
                · have hkq2 : q3 = k2 := sz_eq hlt2 hk2
                  subst hkq2
                  have hac : ac_3 = ac_2 + S3 := sz_end HRl.out (Nat.le_of_eq Hq3.out)
                  have HSum : Hid (ac_3 + (S4 + S5) = F) := Lib.hid (by rw [hac]; exact sz_nx HSum.out rfl)
                  have HBA := Lib.hid HBx.out
                  have HBB := Lib.hid HB1.out
                  clear hac HRl
                  have p5 := cell_low (cells_at HH.out (i := 5) (u := .slice a4 q4 c4) rfl) HB1.out
                  have HSb := Lib.hid (sz_bd HSum.out HFb.out rfl)
                  go_wp2
                  go_loopw [7, 105] (RelI fL (ac_3 + S4) x.lists w w1) (fun _ i _ => q4 - (intOf i).toNat)
                  case atStart => exact ⟨0, ac_3, Nat.zero_le _, rfl, rfl, HBA.out, HBB.out, Lib.hid (by rw [← HS4.out]; rfl)⟩
                  case round =>
                    obtain ⟨k2, ac_4, hk2, rfl, rfl, HBx, HB1, HRl⟩ := hrel
                    rename World => wz
                    rw [Hq4.out] at hk2
                    have HBx := Lib.hid HBx
                    have HB1 := Lib.hid HB1
                    by_cases hlt2 : k2 < q4
                    · have hlt2' : k2 < x.lists.length := by rw [Hq4.out]; exact hlt2
                      have HRl2 := Lib.hid (sz_cut HRl.out hlt2')
                      obtain ⟨bb, of, cz, u, e, _, hcell, hu⟩ := one_at K4.out k2 hlt2'
                      obtain ⟨ua, uc, rfl⟩ := ns_shape _ _ _ _ hu
                      rw [Hq4.out] at e
                      cases e
                      obtain ⟨y, Hy⟩ : ∃ y, Hid (x.lists[k2] = y) := ⟨_, Lib.hid rfl⟩
                      have hyw := HPW.out.2.2.2.1 y (by rw [← Hy.out]; exact List.getElem_mem hlt2')
                      rw [Hy.out] at HRl2 hu hcell
                      replace hcell := cell_low hcell HBx.out
                      have Hfx : Hid (fL y = 1 + N' y) := Lib.hid (by rw [← HfL.out])
                      have C1 := Lib.hid (CN.out y _ wz (kept_ns n _ _ _ _ hu HBx.out) hyw)
                      generalize N' y = x1 at C1 Hfx
                      generalize y.length = nw at hcell C1
                      have hbd := sz_bd HRl2.out HSb.out Hfx.out
                      have HRl3 := Lib.hid (sz_nx HRl2.out Hfx.out)
                      have HV4 := Lib.hid (vi (sz_w2 hbd).2.2)
                      clear hu hyw
                      go_wp2_with fail
                      refine C1.out.mono ?_
                      rintro e w2 ⟨rfl, hb2⟩
                      have HX1 := Lib.hid (And.intro (HBx.out.trans (hb2.mono HBx.out.size)) (HB1.out.trans (hb2.mono HB1.out.size)))
                      clear hb2
                      go_wp2
                      go_round
                      case rel => exact ⟨k2 + 1, ac_4 + (1 + x1), hlt2', HV4.out, vi (Int.natCast_succ k2).symm, HX1.out.1, HX1.out.2, HRl3⟩
                      case measure => exact sz_meas hlt2
                    · have hkq2 : q4 = k2 := sz_eq hlt2 hk2
                      subst hkq2
                      have hac : ac_4 = ac_3 + S4 := sz_end HRl.out (Nat.le_of_eq Hq4.out)
                      have HSum : Hid (ac_4 + S5 = F) := Lib.hid (by rw [hac]; exact sz_nx HSum.out rfl)
                      have HBA := Lib.hid HBx.out
                      have HBB := Lib.hid HB1.out
                      clear hac HRl
                      have p6 := cell_low (cells_at HH.out (i := 6) (u := .slice a5 q5 c5) rfl) HB1.out
                      have HSb := Lib.hid (sz_bd (rest := 0) HSum.out HFb.out rfl)
                      go_wp2
                      go_loopw [7, 121] (RelI fM (ac_4 + S5) x.arms w w1) (fun _ i _ => q5 - (intOf i).toNat)
                      case atStart => exact ⟨0, ac_4, Nat.zero_le _, rfl, rfl, HBA.out, HBB.out, Lib.hid (by rw [← HS5.out]; rfl)⟩
                      case round =>
                        obtain ⟨k2, ac_5, hk2, rfl, rfl, HBx, HB1, HRl⟩ := hrel
                        rename World => wz
                        rw [Hq5.out] at hk2
                        have HBx := Lib.hid HBx
                        have HB1 := Lib.hid HB1
                        by_cases hlt2 : k2 < q5
                        · have hlt2' : k2 < x.arms.length := by rw [Hq5.out]; exact hlt2
                          have HRl2 := Lib.hid (sz_cut HRl.out hlt2')
                          obtain ⟨bb, of, cz, wa, wc, ba, bc, e, hws, hnb, z0, z1⟩ := ar_at K5.out k2 hlt2'
                          obtain ⟨y, Hy⟩ : ∃ y, Hid (x.arms[k2] = y) := ⟨_, Lib.hid rfl⟩
                          have hyw := HPW.out.2.2.2.2 y (by rw [← Hy.out]; exact List.getElem_mem hlt2')
                          rw [Hy.out] at HRl2 hws hnb z0 z1
                          rw [Hq5.out] at e
                          cases e
                          replace z0 := cell_low z0 HBx.out
                          replace z1 := cell_low z1 HBx.out
                          obtain ⟨S7, HS7⟩ : ∃ S, Hid ((y.words.map fW).sum = S) := ⟨_, Lib.hid rfl⟩
                          have Hfx : Hid (fM y = 1 + N' y.body + S7) := Lib.hid (by rw [← HfM.out, ← HS7.out, ← HfW.out]; rfl)
                          have hyb := hyw.1
                          have HYW := Lib.hid hyw.2
                          have K7 := Lib.hid hws
                          have l7 := hws.len
                          have C1 := Lib.hid fun (W : World) (hW : Below w.heap.size w W) => CN.out y.body _ W (kept_ns n _ _ _ _ hnb hW) hyb
                          generalize N' y.body = x1 at C1 Hfx
                          generalize y.body.length = nb at z1 C1
                          obtain ⟨q7, Hq7⟩ : ∃ q, Hid (y.words.length = q) := ⟨_, Lib.hid rfl⟩
                          rw [Hq7.out] at K7 l7 z0
                          have HbT := Lib.hid (sz_in2 (sz_bd HRl2.out HSb.out Hfx.out))
                          have hbd := sz_le1 HbT.out
                          have HRl3 := Lib.hid (sz_in (sz_nx HRl2.out Hfx.out))
                          have hv4 := (sz_w2 hbd).2.2
                          obtain ⟨A7, HA7⟩ : ∃ B : Nat, Hid (ac_5 + (1 + x1) = B) := ⟨_, Lib.hid rfl⟩
                          rw [HA7.out] at HRl3 HbT hv4
                          have HV4 := Lib.hid (vi hv4)
                          have HX := Lib.hid (And.intro (HBx.out.alloc HBx.out.size (.cells #[.slice wa q7 wc, .slice ba nb bc] 78)) (HB1.out.alloc HB1.out.size (.cells #[.slice wa q7 wc, .slice ba nb bc] 78)))
                          have hbox := heap_alloc_new wz (.cells #[.slice wa q7 wc, .slice ba nb bc] 78)
                          clear hws hnb hyw hyb hv4
                          go_upto_region 32 with fail
                          generalize wz.alloc (.cells #[.slice wa q7 wc, .slice ba nb bc] 78) = wy at HX hbox ⊢
                          have y0 : wy.cell? ⟨wz.heap.size, 0, none⟩ = some (.slice wa q7 wc) := cells_at hbox (i := 0) rfl
                          have y1 : wy.cell? ⟨wz.heap.size, 1, none⟩ = some (.slice ba nb bc) := cells_at hbox (i := 1) rfl
                          clear z0 z1 hbox
                          go_wp2_with fail
                          refine (C1.out _ HX.out.1).mono ?_
                          rintro e w2 ⟨rfl, hb2⟩
                          have HX1 := Lib.hid (And.intro (HX.out.1.trans (hb2.mono HX.out.1.size)) (HX.out.2.trans (hb2.mono HX.out.2.size)))
                          replace y0 := cell_low y0 hb2
                          clear y1 hb2
                          go_wp2
                          go_loopw [7, 137] (RelI fW (A7 + S7) y.words w w1) (fun _ i _ => q7 - (intOf i).toNat)
                          case atStart => exact ⟨0, A7, Nat.zero_le _, HV4.out, rfl, HX1.out.1, HX1.out.2, Lib.hid (by rw [← HS7.out]; rfl)⟩
                          case round =>
                            obtain ⟨k7, ac7, hk7, rfl, rfl, HBx7, HB17, HRl7⟩ := hrel
                            rename World => wv
                            rw [Hq7.out] at hk7
                            have HBx7 := Lib.hid HBx7
                            have HB17 := Lib.hid HB17
                            by_cases hlt7 : k7 < q7
                            · have hlt7' : k7 < y.words.length := by rw [Hq7.out]; exact hlt7
                              have HRl72 := Lib.hid (sz_cut HRl7.out hlt7')
                              obtain ⟨bb, of, cz, u, e, _, hcell, hu⟩ := one_at K7.out k7 hlt7'
                              obtain ⟨ua, uc, rfl⟩ := wd_shape _ _ _ _ hu
                              rw [Hq7.out] at e
                              cases e
                              obtain ⟨z, Hz⟩ : ∃ z, Hid (y.words[k7] = z) := ⟨_, Lib.hid rfl⟩
                              have hzw := HYW.out z (by rw [← Hz.out]; exact List.getElem_mem hlt7')
                              rw [Hz.out] at HRl72 hu hcell
                              replace hcell := cell_low hcell HBx7.out
                              have Hfx7 : Hid (fW z = 1 + W' z) := Lib.hid (by rw [← HfW.out])
                              have C7 := Lib.hid (CW.out z _ wv (kept_wd n _ _ _ _ hu HBx7.out) hzw)
                              generalize W' z = x7 at C7 Hfx7
                              generalize z.length = nw at hcell C7
                              have hbd7 := sz_bd HRl72.out HbT.out Hfx7.out
                              have HRl73 := Lib.hid (sz_nx HRl72.out Hfx7.out)
                              have HV74 := Lib.hid (vi (sz_w2 hbd7).2.2)
                              clear hu hzw
                              go_wp2_with fail
                              refine C7.out.mono ?_
                              rintro e w2 ⟨rfl, hb2⟩
                              have HX7 := Lib.hid (And.intro (HBx7.out.trans (hb2.mono HBx7.out.size)) (HB17.out.trans (hb2.mono HB17.out.size)))
                              clear hb2
                              go_wp2
                              go_round
                              case rel => exact ⟨k7 + 1, ac7 + (1 + x7), hlt7', HV74.out, vi (Int.natCast_succ k7).symm, HX7.out.1, HX7.out.2, HRl73⟩
                              case measure => exact sz_meas hlt7
                            · have hkq7 : q7 = k7 := sz_eq hlt7 hk7
                              subst hkq7
                              have hac7 : ac7 = A7 + S7 := sz_end HRl7.out (Nat.le_of_eq Hq7.out)
                              have HRl8 : Hid (ac7 + ((x.arms.drop (k2 + 1)).map fM).sum = ac_4 + S5) := Lib.hid (by rw [hac7]; exact HRl3.out)
                              clear hac7
                              go_wp2
                              go_round
                              case rel => exact ⟨k2 + 1, ac7, hlt2', rfl, vi (Int.natCast_succ k2).symm, HBx7.out, HB17.out, HRl8⟩
                              case measure => exact sz_meas hlt2
                        · have hkq2 : q5 = k2 := sz_eq hlt2 hk2
                          subst hkq2
                          have hac : ac_5 = ac_4 + S5 := sz_end HRl.out (Nat.le_of_eq Hq5.out)
                          have HSum : ac_5 = F := by rw [hac]; exact HSum.out
                          subst HSum
                          clear hac HRl
                          go_wp2
                          go_round
                          case rel => exact ⟨k + 1, ac_5, hlt', rfl, vi (Int.natCast_succ k).symm, HBx.out, HRn, HRt⟩
                          case measure => exact sz_meas hlt
    · have hkq : q = k := sz_eq hlt hk
      subst hkq
      have HFF : Hid (acc = T) := Lib.hid (by rw [← HR.out, List.drop_of_length_le (by rw [Hq.out]; exact Nat.le_refl _)]; rfl)
      go_wp2
      go_ret
      rw [HFF.out]; exact ⟨rfl, HB.out⟩
end Go.Proofs.YtfaohicadahcjaaGreatDoor
