/- Contracts: the law's own count of what words have. Conditions: weights below a bound. -/
import Derived.Test.YtfaohicadahcjaaGreatDoorMh
import Derived.Test.YtfaohicadahcjaaGreatDoorMe
import Derived.Deep.RegionHeld3
namespace Go.Proofs.YtfaohicadahcjaaGreatDoor
open Go.RowKit Go.PlainAid Go.ChangeShapes Go.WideShapes Go.ChangeAt
set_option linter.unusedSimpArgs false
set_option linter.unusedVariables false
theorem sumT_cut {α : Type} (f : α → Nat) (s : Bool) (a : Nat) (l : List α) (k : Nat) (h : k < l.length) : sumT f s a (l.drop k) = if (s || decide (3000 < a + 1)) = true then 3001 else sumT f s (a + 1 + f l[k]) (l.drop (k + 1)) := by
  rw [List.drop_eq_getElem_cons h, sumT]
theorem sum_cut {α : Type} (f : α → Nat) (l : List α) (k : Nat) (h : k < l.length) : ((l.drop k).map f).sum = f l[k] + ((l.drop (k + 1)).map f).sum := by
  rw [List.drop_eq_getElem_cons h, List.map_cons, List.sum_cons]
theorem vi {a b : Int} (h : a = b) : Value.int .i64 a = .int .i64 b := by rw [h]
/-- What the law's count answers, of trees of so many levels. -/
structure SzOk (n : Nat) : Prop where
  w : ∀ (v : Value) (l : List Pt) (w : World) (d : Int), WdAt n w v l → (wts n).1 l ≤ 1048576 → 0 ≤ d → d ≤ 100 → Calls Tryz.prog 57 #[v, .int .i64 3000, .int .i64 d] w fun e w' => e = .returned (.int .i64 ((szs n).1 l d : Nat)) ∧ Below w.heap.size w w'
  c : ∀ (v : Value) (l : List Nd) (w : World) (d : Int), NsAt n w v l → (wts n).2 l ≤ 1048576 → 0 ≤ d → d ≤ 100 → Calls Tryz.prog 38 #[v, .int .i64 3000, .int .i64 d] w fun e w' => e = .returned (.int .i64 ((szs n).2 l d : Nat)) ∧ Below w.heap.size w w'
/-- The count at work: so much so far, no more than a bound in the end. -/
def RelT {α : Type} (f g : α → Nat) (s : Bool) (T : Nat) (l : List α) (w : World) (a i : Value) (wx : World) : Prop :=
  ∃ k acc : Nat, k ≤ l.length ∧ a = .int .i64 acc ∧ i = .int .i64 k ∧ Below w.heap.size w wx ∧ Hid (acc + 3001 * ((l.drop k).map g).sum ≤ 3146776576) ∧ Hid (sumT f s acc (l.drop k) = T)
theorem wp_le {n : Nat} {p : Pt} {l : List Pt} (k : Nat) (h : k < l.length) (e : l[k] = p) (hl : (wts (n + 1)).1 l ≤ 1048576) : wtP (wts n).1 (wts n).2 p ≤ 1048576 := by
  have := le_sum (wtP (wts n).1 (wts n).2) l p (by rw [← e]; exact List.getElem_mem h)
  exact Nat.le_trans this hl
set_option maxHeartbeats 16000000 in
set_option maxRecDepth 100000 in
theorem parts57 (n : Nat) (G : SzOk n) (v : Value) (l : List Pt) (w : World) (d : Int) (h : WdAt (n + 1) w v l) (hwt : (wts (n + 1)).1 l ≤ 1048576) (hd0 : 0 ≤ d) (hd1 : d ≤ 100) :
    Calls Tryz.prog 57 #[v, .int .i64 3000, .int .i64 d] w fun e w' => e = .returned (.int .i64 ((szs (n + 1)).1 l d : Nat)) ∧ Below w.heap.size w w' := by
  have HL := Lib.hid h
  have hlen := at_len _ _ _ _ h
  have HG := Lib.hid G
  obtain ⟨a, c, rfl⟩ := wd_shape _ _ _ _ h
  obtain ⟨f, Hf⟩ : ∃ f : Pt → Nat, Hid (szP (fun w => (szs n).1 w (d - 1)) (fun l => (szs n).2 l (d - 1)) = f) := ⟨_, Lib.hid rfl⟩
  obtain ⟨s, Hs⟩ : ∃ s : Bool, Hid (decide (d ≤ 0) = s) := ⟨_, Lib.hid rfl⟩
  obtain ⟨T, HT⟩ : ∃ T, Hid (sumT f s 0 l = T) := ⟨_, Lib.hid rfl⟩
  have HT2 : Hid ((szs (n + 1)).1 l d = T) := Lib.hid (by rw [← HT.out, ← Hf.out, ← Hs.out]; rfl)
  rw [HT2.out]
  have HW := Lib.hid hwt
  have HFG : Hid (∀ p, f p + 1 ≤ 3001 * wtP (wts n).1 (wts n).2 p) := Lib.hid (by
    rw [← Hf.out]
    exact fun p => szP_le (fun w => (szs_le n).1 w _) (fun l => (szs_le n).2 l _) p)
  have H0 : Hid (0 + 3001 * ((l.drop 0).map (wtP (wts n).1 (wts n).2)).sum ≤ 3146776576) := Lib.hid (by
    have : ((l.drop 0).map (wtP (wts n).1 (wts n).2)).sum ≤ 1048576 := hwt
    omega)
  obtain ⟨q, Hq⟩ : ∃ q, Hid (l.length = q) := ⟨_, Lib.hid rfl⟩
  rw [Hq.out] at HL hlen ⊢
  clear h hwt G HT2
  have hdw : IntKind.i64.wrap (d - 1) = d - 1 := by rw [IntKind.wrap_i64]; omega
  go_enter Tryz.func57, Tryz.ntmps57
  go_wp2
  go_loopw [7, 12] (RelT f (wtP (wts n).1 (wts n).2) s T l w) (fun _ i _ => q - (intOf i).toNat)
  case atStart => exact ⟨0, 0, Nat.zero_le _, rfl, rfl, Below.refl _ _, H0, HT⟩
  case round =>
    obtain ⟨k, acc, hk, rfl, rfl, HB, HA, HR⟩ := hrel
    rename World => wx
    rw [Hq.out] at hk
    have HB := Lib.hid HB
    by_cases hlt : k < q
    · have hlt' : k < l.length := by rw [Hq.out]; exact hlt
      obtain ⟨m, b1, off, c', wa, wc, ba, bc, em, e, hc, hfit, ⟨hw5, hw6⟩, c0, c1, c2, c3, c4, c5⟩ := wd_at2 HL.out k hlt'
      obtain rfl : n = m := by omega
      have HC := Lib.hid (sumT_cut f s acc l k hlt')
      have HS := Lib.hid (sum_cut (wtP (wts n).1 (wts n).2) l k hlt')
      obtain ⟨p, Hp⟩ : ∃ p, Hid (l[k] = p) := ⟨_, Lib.hid rfl⟩
      have HPW := Lib.hid (wp_le k hlt' Hp.out HW.out)
      rw [Hp.out] at HC HS c0 c1 c2 c3 c4 c5 hfit hw5 hw6
      rw [Hq.out] at e hc
      cases e
      replace c0 := cell_low c0 HB.out
      replace c1 := cell_low c1 HB.out
      replace c2 := cell_low c2 HB.out
      replace c3 := cell_low c3 HB.out
      replace c4 := cell_low c4 HB.out
      replace c5 := cell_low c5 HB.out
      have hacc : acc ≤ 3146776576 := by have := HA.out; omega
      have hfp := HFG.out p
      have hnx : acc + 1 + f p + 3001 * ((l.drop (k + 1)).map (wtP (wts n).1 (wts n).2)).sum ≤ 3146776576 := by
        have h1 := HA.out; have h2 := HS.out; rw [h2, Nat.mul_add] at h1; omega
      have Hnx := Lib.hid hnx
      have hnb : acc + 1 + f p ≤ 3146776576 := by omega
      have HFp : Hid (f p = p.text.size + (szs n).1 p.word (d - 1) + (szs n).2 p.body (d - 1)) := Lib.hid (by rw [← Hf.out]; rfl)
      have hwp := HPW.out
      unfold wtP at hwp
      have CW := Lib.hid fun (hd : 1 ≤ d) (W : World) (hW : Below w.heap.size w W) => HG.out.w _ p.word W (d - 1) (kept_wd n _ _ _ _ hw5 hW) (by omega) (by omega) (by omega)
      have CN := Lib.hid fun (hd : 1 ≤ d) (W : World) (hW : Below w.heap.size w W) => HG.out.c _ p.body W (d - 1) (kept_ns n _ _ _ _ hw6 hW) (by omega) (by omega) (by omega)
      generalize (szs n).1 p.word (d - 1) = x1 at CW HFp
      generalize (szs n).2 p.body (d - 1) = x2 at CN HFp
      generalize p.word.length = nw at c4 CW
      generalize p.body.length = nb at c5 CN
      have hts := hfit.t
      obtain ⟨ts, Hts⟩ : ∃ t, Hid (p.text.size = t) := ⟨_, Lib.hid rfl⟩
      rw [Hts.out] at HFp hts
      have hsum : acc + 1 + (ts + x1 + x2) ≤ 3146776576 := by have := HFp.out; omega
      have HRn : Hid (acc + 1 + (ts + x1 + x2) + 3001 * ((l.drop (k + 1)).map (wtP (wts n).1 (wts n).2)).sum ≤ 3146776576) := Lib.hid (by have h1 := HFp.out; have h2 := Hnx.out; omega)
      rw [HFp.out] at HC
      clear hfit hw5 hw6 hwp hfp hnx hnb
      have HBo := Lib.hid (HB.out.alloc HB.out.size (.cells #[.int .i64 p.kind, .bool p.quoted, .string p.text, .string p.op, .slice wa nw wc, .slice ba nb bc] 55))
      have hbox := heap_alloc_new wx (.cells #[.int .i64 p.kind, .bool p.quoted, .string p.text, .string p.op, .slice wa nw wc, .slice ba nb bc] 55)
      obtain ⟨b0, Hb0⟩ : ∃ b, Hid (decide (3000 < acc + 1) = b) := ⟨_, Lib.hid rfl⟩
      have hb1 : decide (3000 < (acc : Int) + 1) = b0 := by rw [← Hb0.out]; exact decide_eq_decide.2 (by omega)
      have hb2 := Hb0.out
      have hs1 := Hs.out
      rw [Hb0.out] at HC
      cases b0
      case true =>
        have HF : Hid (T = 3001) := Lib.hid (by rw [← HR.out, HC.out]; simp)
        go_wp2
        go_ret
        rw [HF.out]; exact ⟨rfl, HBo.out⟩
      cases s
      case true =>
        have HF : Hid (T = 3001) := Lib.hid (by rw [← HR.out, HC.out]; simp)
        go_wp2
        go_ret
        rw [HF.out]; exact ⟨rfl, HBo.out⟩
      have hd1' : 1 ≤ d := by have := of_decide_eq_false hs1; omega
      have HF : Hid (sumT f false (acc + 1 + (ts + x1 + x2)) (l.drop (k + 1)) = T) := Lib.hid (by rw [← HR.out, HC.out]; simp)
      have CW := Lib.hid (CW.out hd1')
      have CN := Lib.hid (CN.out hd1')
      have hq1 : IntKind.i64.wrap ((ts : Int) + x1) = (ts : Int) + x1 := by rw [IntKind.wrap_i64]; omega
      have hq2 : IntKind.i64.wrap ((ts : Int) + x1 + x2) = (ts : Int) + x1 + x2 := by rw [IntKind.wrap_i64]; omega
      have hq3 : IntKind.i64.wrap ((acc : Int) + 1 + ((ts : Int) + x1 + x2)) = (acc : Int) + 1 + ((ts : Int) + x1 + x2) := by rw [IntKind.wrap_i64]; omega
      have hts2 := Hts.out
      have CW2 := Lib.hid fun W hW => (show Calls Tryz.prog 57 #[.slice wa nw wc, .int .i64 3000, .int .i64 (IntKind.i64.wrap (d - 1))] W _ from by rw [hdw]; exact CW.out W hW)
      have CN2 := Lib.hid fun W hW => (show Calls Tryz.prog 38 #[.slice ba nb bc, .int .i64 3000, .int .i64 (IntKind.i64.wrap (d - 1))] W _ from by rw [hdw]; exact CN.out W hW)
      go_upto_region 8 with fail
      generalize wx.alloc (.cells #[.int .i64 p.kind, .bool p.quoted, .string p.text, .string p.op, .slice wa nw wc, .slice ba nb bc] 55) = wy at HBo hbox ⊢
      have hh0 : wy.drew.cell? ⟨wx.heap.size, 2, none⟩ = some (.string p.text) ∧ wy.drew.cell? ⟨wx.heap.size, 4, none⟩ = some (.slice wa nw wc) ∧ wy.drew.cell? ⟨wx.heap.size, 5, none⟩ = some (.slice ba nb bc) := ⟨cells_at hbox (i := 2) rfl, cells_at hbox (i := 4) rfl, cells_at hbox (i := 5) rfl⟩
      have HB0 := Lib.hid HBo.out.drew
      clear c0 c1 c2 c3 c4 c5 hbox
      go_region_held3 (fun W => W.cell? ⟨wx.heap.size, 2, none⟩ = some (.string p.text) ∧ W.cell? ⟨wx.heap.size, 4, none⟩ = some (.slice wa nw wc) ∧ W.cell? ⟨wx.heap.size, 5, none⟩ = some (.slice ba nb bc))
        (first | exact hh2 | exact hh1 | exact hh0)
        (first
          | (go_at_call 57; first | refine (CW.out _ HB0.out).mono ?_ | refine (CW2.out _ HB0.out).mono ?_
             rintro e w2 ⟨rfl, hb2⟩
             have HB1 := Lib.hid (HB0.out.trans (hb2.mono HB0.out.size))
             have hh1 : w2.cell? ⟨wx.heap.size, 2, none⟩ = some (.string p.text) ∧ w2.cell? ⟨wx.heap.size, 4, none⟩ = some (.slice wa nw wc) ∧ w2.cell? ⟨wx.heap.size, 5, none⟩ = some (.slice ba nb bc) := ⟨cell_low hh0.1 hb2, cell_low hh0.2.1 hb2, cell_low hh0.2.2 hb2⟩
             clear hb2)
          | (go_at_call 38; first | refine (CN.out _ HB1.out).mono ?_ | refine (CN2.out _ HB1.out).mono ?_
             rintro e w3 ⟨rfl, hb3⟩
             have HB2 := Lib.hid (HB1.out.trans (hb3.mono HB1.out.size))
             have hh2 : w3.cell? ⟨wx.heap.size, 2, none⟩ = some (.string p.text) ∧ w3.cell? ⟨wx.heap.size, 4, none⟩ = some (.slice wa nw wc) ∧ w3.cell? ⟨wx.heap.size, 5, none⟩ = some (.slice ba nb bc) := ⟨cell_low hh1.1 hb3, cell_low hh1.2.1 hb3, cell_low hh1.2.2 hb3⟩
             clear hb3))
      clear hh0 hh1 hh2
      go_wp2
      go_round
      case rel => exact ⟨k + 1, acc + 1 + (ts + x1 + x2), hlt', vi (by omega), by go_num, HB2.out, HRn, HF⟩
      case measure => simp [intOf]; omega
    · have hkq : q = k := by omega
      subst hkq
      have HF : Hid (acc = T) := Lib.hid (by rw [← HR.out, List.drop_of_length_le (by rw [Hq.out]; exact Nat.le_refl _)]; rfl)
      go_wp2
      go_ret
      rw [HF.out]; exact ⟨rfl, HB.out⟩
end Go.Proofs.YtfaohicadahcjaaGreatDoor
