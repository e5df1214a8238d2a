/- The document's parts and words. Conditions: lengths below a bound. -/
import Derived.Test.YtfaohicadahcjaaGreatDoorTG
import Derived.BigQuiet
namespace Go.Proofs.YtfaohicadahcjaaGreatDoor
open Go.RowKit Go.PlainAid Go.ChangeShapes Go.WideShapes Go.ChangeAt
set_option linter.unusedSimpArgs false
set_option linter.unusedVariables false
theorem Lv.next {lev deep : Int} (h : Lv lev deep) (hd : lev ≤ deep) : Lv (lev + 1) deep := ⟨by have := h.1; omega, by have := h.2.2.1; omega, h.2.2.1, h.2.2.2⟩
theorem z0_len {α : Type} (l : List α) : z0 l = decide (l.length = 0) := rfl
theorem fst_ok {n : Nat} {w : World} {wa : Option Addr} {wc : Nat} {l : List Pt} (h : WdAt n w (.slice wa l.length wc) l) : FstOk w wa l.length (beginsB l && firstPc l) := by
  cases l with
  | nil => exact .inl ⟨rfl, rfl⟩
  | cons p r =>
    obtain ⟨m, b1, off, c', wa', wc', ba, bc, _, e, hc, hfit, _, c0, c1, c2, c3, c4, c5⟩ := wd_at2 h 0 (by simp)
    simp only [Nat.zero_mul, Nat.add_zero, List.getElem_cons_zero] at c0 c1 c2
    simp only [Value.slice.injEq] at e
    refine .inr ⟨b1, off, p.kind, p.quoted, p.text, e.1, by simp, c0, c1, c2, ?_⟩
    unfold beginsB firstPc
    simp only [pre37]
theorem part89 (n : Nat) (G : DGood n) (p : Pt) (wa ba : Option Addr) (wc bc : Nat) (w : World) (lev deep : Int) (hl : Lv lev deep) (hf : PtFits p) (hw : WdAt n w (.slice wa p.word.length wc) p.word) (hb : NsAt n w (.slice ba p.body.length bc) p.body) :
    Calls Tryz.prog 89 #[.agg #[.int .i64 p.kind, .bool p.quoted, .string p.text, .string p.op, .slice wa p.word.length wc, .slice ba p.body.length bc], .int .i64 lev, .int .i64 deep] w fun e w' => e = .returned (.bool (partF n (deep - lev + 1) p)) ∧ Below w.heap.size w w' := by
  unfold partF
  by_cases hd : deep < lev
  · rw [decide_eq_false (show ¬ (1 ≤ deep - lev + 1) by omega)]
    exact part89_deep _ _ _ _ _ _ _ _ _ _ w lev deep hd
  · have hdd : decide (deep < lev) = false := decide_eq_false hd
    rw [decide_eq_true (show 1 ≤ deep - lev + 1 by omega), Bool.true_and]
    have hl' := hl.next (by omega)
    unfold partB
    by_cases h1 : p.kind = 1
    · rw [if_pos h1, h1]
      exact part89_1 _ _ _ _ _ _ _ _ _ w lev deep hdd hf.t
    by_cases h2 : p.kind = 2
    · rw [if_neg h1, if_pos h2, h2]
      have hW : ∀ W, Below w.heap.size w W → Calls Tryz.prog 62 #[.slice wa p.word.length wc, .int .i64 (lev + 1), .int .i64 deep, .bool false] W fun e w' => e = .returned (.bool ((rgt n).1 p.word (deep - lev + 1 - 1))) ∧ Below W.heap.size W w' := fun W hW => by
        have := G.w _ p.word W (lev + 1) deep false (kept_wd n _ _ _ _ hw hW) hl'
        rw [show deep - (lev + 1) + 1 = deep - lev + 1 - 1 by omega] at this
        simpa using this
      have := part89_2 p.quoted p.text p.op wa ba p.word.length wc p.body.length bc w lev deep hdd hl hf.t _ _ (fst_ok hw) hW
      rw [← paramD_is _ _ _ _ _ _ _ _ _ _ _ _ (fun h => var_sh _ h)] at this
      exact this
    by_cases h3 : p.kind = 3
    · rw [if_neg h1, if_neg h2, if_pos h3, h3]
      refine part89_3 p.quoted p.text p.op wa ba p.word.length wc p.body.length bc w lev deep hdd hl _ fun W hW => ?_
      have := G.c _ p.body W (lev + 1) deep true (kept_ns n _ _ _ _ hb hW) hl'
      rw [show deep - (lev + 1) + 1 = deep - lev + 1 - 1 by omega] at this
      simpa using this
    by_cases h4 : p.kind = 4
    · rw [if_neg h1, if_neg h2, if_neg h3, if_pos h4, h4]
      have := part89_4 p.quoted p.text p.op wa ba p.word.length wc p.body.length bc w lev deep hdd hf.t
      rw [show (sumL (ls p.text) && emB p.op && decide (p.word.length = 0) && decide (p.body.length = 0)) = (emB p.op && z0 p.word && z0 p.body && sumL (ls p.text)) from by unfold z0; cases sumL (ls p.text) <;> simp] at this
      exact this
    · rw [if_neg h1, if_neg h2, if_neg h3, if_neg h4]
      exact part89_x _ (by rw [eq_int]; exact decide_eq_false h1) (by rw [eq_int]; exact decide_eq_false h2) (by rw [eq_int]; exact decide_eq_false h3) (by rw [eq_int]; exact decide_eq_false h4) _ _ _ _ _ _ _ _ _ w lev deep hdd
theorem below_drewN {B : Nat} {a w : World} (h : Below B a w) (n : Nat) : Below B a (w.drewN n) := ⟨h.os, h.tape, h.output, h.size, h.block⟩
/-! Words. -/
def behindD (p a : Pt) : Bool := !decide (a.kind = 1) || !((decide (p.kind = 1) && (a.quoted == p.quoted)) || (a.quoted && emB a.text && p.quoted))
def wordD (f : Pt → Bool) : Option Pt → List Pt → Bool
  | _, [] => true
  | a, p :: r => f p && (match a with | none => true | some a => behindD p a) && wordD f (some p) r
theorem behind_is (p a : Pt) (h : a.kind = 1 → a.quoted = false → emB a.text = false) : behindD p a = behindB p a := by
  unfold behindD behindB
  by_cases h1 : a.kind = 1
  · rw [if_neg (by simpa using h1), decide_eq_true h1]
    have h2 := h h1
    generalize a.quoted = qa at h2 ⊢
    generalize emB a.text = ea at h2 ⊢
    generalize p.quoted = qp
    by_cases h3 : p.kind = 1
    · rw [if_pos h3, decide_eq_true h3]
      cases qa <;> cases qp <;> cases ea <;> rfl
    · rw [if_neg h3, decide_eq_false h3]
      cases qa <;> cases qp <;> cases ea <;> first | rfl | (exact absurd (h2 rfl) (by simp))
  · rw [if_pos h1, decide_eq_false h1]; rfl
theorem wordD_is (f : Pt → Bool) (hf : ∀ a, f a = true → a.kind = 1 → a.quoted = false → emB a.text = false) : ∀ (l : List Pt) (o : Option Pt), (∀ a, o = some a → f a = true) → wordD f o l = wordB f o l
  | [], o, _ => by simp [wordD, wordB]
  | p :: r, o, ho => by
    rw [wordD.eq_def, wordB.eq_def]
    simp only
    cases hp : f p with
    | false => rfl
    | true =>
      rw [wordD_is f hf r (some p) (fun a e => by cases e; exact hp)]
      cases o with
      | none => rfl
      | some a => simp only; rw [behind_is p a (hf a (ho a rfl))]
theorem partF_lit (n : Nat) (left : Int) (a : Pt) (h : partF n left a = true) (hk : a.kind = 1) (hq : a.quoted = false) : emB a.text = false := by
  unfold partF partB at h
  rw [if_pos hk] at h
  simp only [Bool.and_eq_true] at h
  have h2 := h.2.2
  unfold bytesB at h2
  rw [hq] at h2
  simp only [Bool.false_eq_true, if_false, Bool.and_eq_true, Bool.not_eq_true'] at h2
  exact h2.2
theorem wordD_cut (f : Pt → Bool) (l : List Pt) (k : Nat) (h : k < l.length) : wordD f (prev l k) (l.drop k) = (f l[k] && (match prev l k with | none => true | some a => behindD l[k] a) && wordD f (prev l (k + 1)) (l.drop (k + 1))) := by
  rw [List.drop_eq_getElem_cons h, wordD.eq_def]
  simp only
  congr 1
  unfold prev
  rw [if_neg (by omega), Nat.add_sub_cancel, List.getElem?_eq_getElem h]
def Rel62 (f : Pt → Bool) (w : World) (l : List Pt) (B : Bool) (i : Value) (wx : World) : Prop := ∃ k : Nat, k ≤ l.length ∧ i = .int .i64 k ∧ Below w.heap.size w wx ∧ Hid (wordD f (prev l k) (l.drop k) = B)
set_option maxHeartbeats 16000000 in
set_option maxRecDepth 100000 in
theorem word62 (n : Nat) (G : DGood n) (v : Value) (l : List Pt) (w : World) (lev deep : Int) (sm : Bool) (h : WdAt (n + 1) w v l) (hl : Lv lev deep) :
    Calls Tryz.prog 62 #[v, .int .i64 lev, .int .i64 deep, .bool sm] w fun e w' => e = .returned (.bool ((rgt (n + 1)).1 l (deep - lev + 1) && (!z0 l || !sm))) ∧ Below w.heap.size w w' := by
  have HL := Lib.hid h
  have hlen := at_len _ _ _ _ h
  obtain ⟨a, c, rfl⟩ := wd_shape _ _ _ _ h
  have CP0 := Lib.hid fun (p : Pt) (wa ba : Option Addr) (wc bc : Nat) (W : World) (hf : PtFits p) (hw : WdAt n W (.slice wa p.word.length wc) p.word) (hb : NsAt n W (.slice ba p.body.length bc) p.body) => part89 n G p wa ba wc bc W lev deep hl hf hw hb
  rw [rgt_w, ← wordD_is _ (partF_lit n _) l none (fun a e => by cases e), z0_len]
  obtain ⟨f, Hf⟩ : ∃ f, Hid (partF n (deep - lev + 1) = f) := ⟨_, Lib.hid rfl⟩
  rw [Hf.out] at CP0 ⊢
  obtain ⟨B, HB0⟩ : ∃ B, Hid (wordD f none l = B) := ⟨_, Lib.hid rfl⟩
  rw [HB0.out]
  obtain ⟨q, Hq⟩ : ∃ q, Hid (l.length = q) := ⟨_, Lib.hid rfl⟩
  rw [Hq.out] at HL hlen ⊢
  have z5c : decide (0 < q) = !decide (q = 0) := by rw [← decide_not]; exact decide_eq_decide.2 (by omega)
  have z5d : decide (0 < (q : Int)) = !decide (q = 0) := by rw [← decide_not]; exact decide_eq_decide.2 (by omega)
  obtain ⟨zq, Hzq⟩ : ∃ b, Hid (decide (q = 0) = b) := ⟨_, Lib.hid rfl⟩
  rw [Hzq.out] at z5c z5d ⊢
  clear h G hl
  go_enter Tryz.func62, Tryz.ntmps62
  go_wp2
  go_loopw [9] (Rel62 f w l B) (fun i _ => q - (intOf i).toNat)
  case atStart => exact ⟨0, Nat.zero_le _, rfl, Below.refl _ _, Lib.hid (by simp only [prev, if_true, List.drop_zero]; exact HB0.out)⟩
  case round =>
    obtain ⟨k, hk, rfl, HB, HR⟩ := hrel
    rename World => wx
    rw [Hq.out] at hk
    have HB := Lib.hid HB
    by_cases hlt : k < q
    · have hlt' : k < l.length := by rw [Hq.out]; exact hlt
      obtain ⟨m, b1, off, c', wa, wc, ba, bc, em, e, hc, hfit, ⟨hw5, hw6⟩, c0, c1, c2, c3, c4, c5⟩ := wd_at2 HL.out k hlt'
      obtain rfl : n = m := by omega
      have HC := Lib.hid (wordD_cut f l k hlt')
      have CP := Lib.hid (CP0.out l[k] wa ba wc bc wx hfit (kept_wd n _ _ _ _ hw5 HB.out) (kept_ns n _ _ _ _ hw6 HB.out))
      rw [Hq.out] at e hc
      cases e
      replace c0 := cell_low c0 HB.out
      replace c1 := cell_low c1 HB.out
      replace c2 := cell_low c2 HB.out
      replace c3 := cell_low c3 HB.out
      replace c4 := cell_low c4 HB.out
      replace c5 := cell_low c5 HB.out
      generalize l[k].word.length = nw at c4 CP
      generalize l[k].body.length = nb at c5 CP
      have hnk : decide (k < q) = true := decide_eq_true hlt
      clear hfit hw5 hw6
      obtain ⟨r1, Hr1⟩ : ∃ b, Hid (f l[k] = b) := ⟨_, Lib.hid rfl⟩
      rw [Hr1.out] at CP HC
      cases r1
      · have HF : Hid (B = false) := Lib.hid (by rw [← HR.out, HC.out]; rfl)
        clear z5c z5d
        go_wp2_with fail
        refine CP.out.mono ?_
        rintro e w3 ⟨rfl, hb⟩
        have HB3 := Lib.hid (HB.out.trans (hb.mono HB.out.size))
        clear hb c0 c1 c2 c3 c4 c5
        go_wp2
        go_ret
        rw [HF.out]; exact ⟨rfl, HB3.out⟩
      have hz0 := eqz k 0
      have hz1 := eqzI k
      rcases Nat.eq_zero_or_pos k with hk0 | hk0
      · have HF : Hid (wordD f (prev l (k + 1)) (l.drop (k + 1)) = B) := Lib.hid (by
          have : prev l k = none := by unfold prev; rw [if_pos hk0]
          rw [← HR.out, HC.out, this]; simp)
        rw [decide_eq_true hk0] at hz0 hz1
        clear hk0 z5c z5d
        go_wp2_with fail
        refine CP.out.mono ?_
        rintro e w3 ⟨rfl, hb⟩
        have HB3 := Lib.hid (HB.out.trans (hb.mono HB.out.size))
        clear hb c0 c1 c2 c3 c4 c5
        go_wp2
        go_round
        case rel => exact ⟨k + 1, hlt', vi (Int.natCast_succ k).symm, HB3.out, HF⟩
        case measure => exact sz_meas hlt
      · obtain ⟨j, hj⟩ : ∃ j, k = j + 1 := ⟨k - 1, by omega⟩
        have hjl : j < l.length := by omega
        obtain ⟨m2, b2, off2, c2', wa2, wc2, ba2, bc2, _, e2, _, _, _, d0, d1, d2, d3, d4, d5⟩ := wd_at2 HL.out j hjl
        rw [Hq.out] at e2
        cases e2
        replace d0 := cell_low d0 HB.out
        replace d1 := cell_low d1 HB.out
        replace d2 := cell_low d2 HB.out
        have HC0 : Hid ((behindD l[k] l[j] && wordD f (prev l (k + 1)) (l.drop (k + 1))) = B) := Lib.hid (by
          rw [← HR.out, HC.out]
          have : prev l k = some l[j] := by unfold prev; rw [if_neg (by omega)]; subst hj; rw [Nat.add_sub_cancel]; exact List.getElem?_eq_getElem hjl
          rw [this]; rfl)
        rw [decide_eq_false (by omega)] at hz0 hz1
        have hsub : IntKind.i64.wrap (j : Int) = (j : Int) := by rw [IntKind.wrap_i64]; omega
        have hsub2 : (k : Int) - 1 = (j : Int) := by omega
        have hjq : j < q := by omega
        have hka := ne_int l[j].kind 1
        have hkp := eq_int l[k].kind 1
        have hea := emp_is l[j].text
        have HBD : Hid (behindD l[k] l[j] = (!decide (l[j].kind = 1) || !((decide (l[k].kind = 1) && (l[j].quoted == l[k].quoted)) || (l[j].quoted && emB l[j].text && l[k].quoted)))) := Lib.hid rfl
        generalize decide (l[j].kind = 1) = ya at hka HBD
        generalize decide (l[k].kind = 1) = yp at hkp HBD
        generalize emB l[j].text = ea at hea HBD
        generalize l[j].quoted = qa at d1 HBD
        obtain ⟨qp, Hqp⟩ : ∃ b, Hid (l[k].quoted = b) := ⟨_, Lib.hid rfl⟩
        rw [Hqp.out] at HBD
        have HJ := Lib.hid hj
        clear hj d3 d4 d5 hk0 z5c z5d HC
        go_wp2_with fail
        refine CP.out.mono ?_
        rintro e w3 ⟨rfl, hb⟩
        have HB3 := Lib.hid (HB.out.trans (hb.mono HB.out.size))
        replace c0 := cell_low c0 hb
        replace c1 := cell_low c1 hb
        replace d0 := cell_low d0 hb
        replace d1 := cell_low d1 hb
        replace d2 := cell_low d2 hb
        rw [Hqp.out] at c1
        clear hb c2 c3 c4 c5
        cases ya
        case false =>
          simp only [Bool.not_false] at hka
          have HF : Hid (wordD f (prev l (k + 1)) (l.drop (k + 1)) = B) := Lib.hid (by rw [← HC0.out, HBD.out]; rfl)
          go_wp2
          go_round
          case rel => exact ⟨k + 1, hlt', vi (Int.natCast_succ k).symm, HB3.out, HF⟩
          case measure => exact sz_meas hlt
        simp only [Bool.not_true] at hka
        have HF1 : Hid (behindD l[k] l[j] = false → B = false) := Lib.hid fun e => by rw [← HC0.out, e]; rfl
        have HF2 : Hid (behindD l[k] l[j] = true → wordD f (prev l (k + 1)) (l.drop (k + 1)) = B) := Lib.hid fun e => by rw [← HC0.out, e]; rfl
        cases yp <;> cases qa <;> cases qp <;> cases ea
        all_goals first
          | (have HFF := Lib.hid (HF1.out (by rw [HBD.out]; rfl))
             go_upto_region 7 with fail
             go_quiet (fail)
             go_wp2
             go_ret
             rw [HFF.out]; exact ⟨rfl, below_drewN HB3.out _⟩)
          | (have HFF := Lib.hid (HF2.out (by rw [HBD.out]; rfl))
             go_upto_region 7 with fail
             go_quiet (fail)
             go_wp2
             go_round
             case rel => exact ⟨k + 1, hlt', vi (Int.natCast_succ k).symm, below_drewN HB3.out _, HFF⟩
             case measure => exact sz_meas hlt)
    · have hkq : q = k := sz_eq hlt hk
      have HF : Hid (B = true) := Lib.hid (by rw [← HR.out, List.drop_of_length_le (by rw [Hq.out, hkq]; exact Nat.le_refl _)]; simp [wordD])
      have hnl : decide ((k : Int) < (q : Int)) = false := by rw [hkq]; simp
      have hnl2 : decide (k < q) = false := by rw [hkq]; simp
      clear hkq
      cases zq <;> cases sm
      all_goals (
        simp only [Bool.not_true, Bool.not_false] at z5c z5d
        go_wp2
        go_ret
        rw [HF.out]; exact ⟨rfl, HB.out⟩)
end Go.Proofs.YtfaohicadahcjaaGreatDoor
