/- The document's redirections. Conditions: lengths below a bound. -/
import Derived.Test.YtfaohicadahcjaaGreatDoorTH
import Derived.Test.YtfaohicadahcjaaGreatDoorTE
namespace Go.Proofs.YtfaohicadahcjaaGreatDoor
open Go.RowKit Go.PlainAid Go.ChangeShapes Go.WideShapes Go.ChangeAt
set_option linter.unusedSimpArgs false
set_option linter.unusedVariables false
/-! Redirections. -/
theorem redLs_any (l : List UInt8) : ((redLs ++ [[], [], [], [], [], [], [], [], []]).any (fun t => t == l) && !(l == [])) = redLs.contains l := by
  rw [List.any_append, List.any_beq']
  cases l
  · rfl
  · simp
theorem redLs_one (s : ByteArray) : oneB s [⟨#[60]⟩, ⟨#[62]⟩, ⟨#[62, 62]⟩, ⟨#[60, 62]⟩, ⟨#[62, 124]⟩, ⟨#[60, 38]⟩, ⟨#[62, 38]⟩, ⟨#[]⟩, ⟨#[]⟩, ⟨#[]⟩, ⟨#[]⟩, ⟨#[]⟩, ⟨#[]⟩, ⟨#[]⟩, ⟨#[]⟩, ⟨#[]⟩] = redLs.contains (ls s) := by
  refine Eq.trans ?_ (redLs_any (ls s))
  unfold oneB emB
  simp only [List.any_cons, List.any_nil, toList_data]
  rfl
theorem suf_is (d : ByteArray) : Lib.hasSuffix (ls d) [10] = (!emB d && decide (at0 (ls d) (d.size - 1) = 10)) := by
  rw [emB_size, ← ls_len]
  generalize ls d = l
  rcases List.eq_nil_or_concat l with rfl | ⟨r, b, rfl⟩
  · rfl
  · rw [List.concat_eq_append]
    have h1 : decide ((r ++ [b]).length = 0) = false := by simp
    have h2 : at0 (r ++ [b]) ((r ++ [b]).length - 1) = b.toNat := by
      unfold at0
      simp
    rw [h1, h2]
    rw [Bool.eq_iff_iff]
    unfold Lib.hasSuffix
    simp only [List.isSuffixOf_iff_suffix, Bool.not_false, Bool.true_and, decide_eq_true_eq]
    constructor
    · intro h
      obtain ⟨t, ht⟩ := h
      have := (List.append_inj' ht rfl).2
      simp only [List.cons.injEq, and_true] at this
      rw [← this]; rfl
    · intro h
      have : b = 10 := UInt8.toNat_inj.1 h
      rw [this]
      exact ⟨r, rfl⟩
def redD (W : List Pt → Int → Bool) (r : Rd) (left : Int) : Bool :=
  if decide (r.fd < 0) || decide (9 < r.fd) then false
  else if ls r.op == [60, 60] then nameL (ls r.tag) && W r.word left && r.word.all docPartB && (z0 r.word || (Lib.hasSuffix (docL r.word) [10] && !standL (ls r.tag) [] (docL r.word)))
  else redLs.contains (ls r.op) && emB r.tag && (W r.word left && (!z0 r.word || !true))
theorem redD_is (W : List Pt → Int → Bool) (r : Rd) (left : Int) : redD W r left = redB W r left := by
  unfold redD redB
  cases h1 : (decide (r.fd < 0) || decide (9 < r.fd)) with
  | true => simp
  | false =>
    simp only [Bool.false_eq_true, if_false, Bool.false_or]
    cases hw : W r.word left with
    | false => simp
    | true =>
      simp only [Bool.not_true, Bool.false_eq_true, if_false, Bool.and_true]
      cases h7 : (ls r.op == [60, 60]) with
      | true =>
        have e : ls r.op = [60, 60] := by simpa using h7
        rw [e]
        simp only [if_true]
        rw [if_neg (by decide)]
        cases hn : nameL (ls r.tag) with
        | false => rfl
        | true =>
          unfold docB
          rw [← stand_is (ls r.tag) (name_no10 _ hn) (docL r.word) [] (by simp)]
          have : z0 r.word = r.word.isEmpty := by unfold z0; cases r.word <;> simp
          rw [this]
          simp
      | false =>
        simp only [Bool.false_eq_true, if_false]
        cases redLs.contains (ls r.op) <;> simp
def RelR (l : List Pt) (w w1 : World) (i : Value) (wx : World) : Prop := ∃ k : Nat, k ≤ l.length ∧ i = .int .i64 k ∧ Below w.heap.size w wx ∧ Below w1.heap.size w1 wx ∧ Hid (l.all docPartB = (l.drop k).all docPartB)
set_option maxHeartbeats 16000000 in
set_option maxRecDepth 100000 in
theorem redir63 (n : Nat) (G : DGood n) (fd : Int) (op tag : ByteArray) (a : Option Addr) (c : Nat) (l : List Pt) (w : World) (lev deep : Int) (hf : RdFits (.mk fd op tag l)) (h : WdAt n w (.slice a l.length c) l) (hl : Lv lev deep) :
    Calls Tryz.prog 63 #[.agg #[.int .i64 fd, .string op, .string tag, .slice a l.length c], .int .i64 lev, .int .i64 deep] w fun e w' => e = .returned (.bool (redB (rgt n).1 (.mk fd op tag l) (deep - lev + 1))) ∧ Below w.heap.size w w' := by
  have CW := Lib.hid fun (sm : Bool) (W : World) (hW : Below w.heap.size w W) => G.w _ l W lev deep sm (kept_wd n _ _ _ _ h hW) hl
  have CD := Lib.hid fun (W : World) (hW : Below w.heap.size w W) => doc36 n _ l W (kept_wd n _ _ _ _ h hW) hf.s
  have hts : tag.size ≤ 1048576 := hf.t
  have C24 := Lib.hid fun W => name24 tag (by omega) W
  have C53 := Lib.hid fun W => one53 op ⟨#[60]⟩ ⟨#[62]⟩ ⟨#[62, 62]⟩ ⟨#[60, 62]⟩ ⟨#[62, 124]⟩ ⟨#[60, 38]⟩ ⟨#[62, 38]⟩ ⟨#[]⟩ ⟨#[]⟩ ⟨#[]⟩ ⟨#[]⟩ ⟨#[]⟩ ⟨#[]⟩ ⟨#[]⟩ ⟨#[]⟩ ⟨#[]⟩ W
  rw [redLs_one] at C53
  have HPk := Lib.hid fun hr => parts_ok n l (deep - lev + 1) hr (at_zero h)
  have HS := Lib.hid hf.s
  have HL := Lib.hid h
  have hlen := at_len _ _ _ _ h
  rw [← redD_is]
  obtain ⟨RES, HR0⟩ : ∃ b, Hid (redD (rgt n).1 (.mk fd op tag l) (deep - lev + 1) = b) := ⟨_, Lib.hid rfl⟩
  rw [HR0.out]
  obtain ⟨q, Hq⟩ : ∃ q, Hid (l.length = q) := ⟨_, Lib.hid rfl⟩
  obtain ⟨x2, H2⟩ : ∃ b, Hid ((rgt n).1 l (deep - lev + 1) = b) := ⟨_, Lib.hid rfl⟩
  have HB := Lib.hid ((Below.refl w.heap.size w).alloc (Nat.le_refl _) (.cells #[.int .i64 fd, .string op, .string tag, .slice a q c] 102))
  have HH := Lib.hid (heap_alloc_new w (.cells #[.int .i64 fd, .string op, .string tag, .slice a q c] 102))
  have HR : Hid (RES = (if decide (fd < 0) || decide (9 < fd) then false else if ls op == [60, 60] then nameL (ls tag) && x2 && l.all docPartB && (decide (q = 0) || (Lib.hasSuffix (docL l) [10] && !standL (ls tag) [] (docL l))) else redLs.contains (ls op) && emB tag && (x2 && (!decide (q = 0) || !true)))) := Lib.hid (by rw [← HR0.out, ← H2.out, ← Hq.out]; rfl)
  rw [H2.out] at CW HPk
  have hz0 : z0 l = decide (q = 0) := by rw [z0_len, Hq.out]
  rw [hz0] at CW
  rw [Hq.out] at HL hlen CW CD ⊢
  have h7 : (op.toList == [60, 60]) = (ls op == [60, 60]) := by rw [toList_data]
  have h7b : (op.toList != [60, 60]) = !(ls op == [60, 60]) := by rw [bne, h7]
  generalize (ls op == [60, 60]) = b7 at h7 h7b HR
  have ht := emp_is tag
  have hz1 := eqz q 0
  have hz2 := eqzI q
  obtain ⟨zl, Hzl⟩ : ∃ b, Hid (decide (q = 0) = b) := ⟨_, Lib.hid rfl⟩
  rw [Hzl.out] at hz1 hz2 HR CW
  obtain ⟨x0, H0⟩ : ∃ b, decide (fd < 0) = b := ⟨_, rfl⟩
  obtain ⟨x1, H1⟩ : ∃ b, decide (9 < fd) = b := ⟨_, rfl⟩
  rw [H0, H1] at HR
  generalize emB tag = et at ht HR
  generalize nameL (ls tag) = nt at C24 HR
  generalize redLs.contains (ls op) = ro at C53 HR
  clear hf h hl G HR0 H2 hz0
  go_enter Tryz.func63, Tryz.ntmps63
  go_upto_region 1 with fail
  generalize w.alloc (.cells #[.int .i64 fd, .string op, .string tag, .slice a q c] 102) = w1 at HB HH ⊢
  have p0 : w1.cell? ⟨w.heap.size, 0, none⟩ = some (.int .i64 fd) := cells_at HH.out (i := 0) rfl
  have p1 : w1.cell? ⟨w.heap.size, 1, none⟩ = some (.string op) := cells_at HH.out (i := 1) rfl
  have p2 : w1.cell? ⟨w.heap.size, 2, none⟩ = some (.string tag) := cells_at HH.out (i := 2) rfl
  have p3 : w1.cell? ⟨w.heap.size, 3, none⟩ = some (.slice a q c) := cells_at HH.out (i := 3) rfl
  have hbw := HB.out
  cases x0
  case true =>
    go_wp2
    go_ret
    exact ⟨by rw [HR.out]; rfl, hbw⟩
  cases x1
  case true =>
    go_wp2
    go_ret
    exact ⟨by rw [HR.out]; rfl, hbw⟩
  cases b7
  case false =>
    simp only [Bool.not_false] at h7b
    have HR1 : Hid (RES = (ro && et && (x2 && (!zl || !true)))) := Lib.hid (by rw [HR.out]; rfl)
    have CW1 := Lib.hid (CW.out true)
    generalize (x2 && (!zl || !true)) = y at CW1 HR1
    cases ro <;> cases et
    all_goals (
      go_wp2_with (first
        | (go_at_call 53; refine (C53.out _).mono ?_; rintro e w2 ⟨rfl, hb⟩; replace p0 := cell_low p0 hb; replace p1 := cell_low p1 hb; replace p2 := cell_low p2 hb; replace p3 := cell_low p3 hb; replace hbw := hbw.trans (hb.mono hbw.size); clear hb)
        | (go_at_call 62; refine (CW1.out _ hbw).mono ?_; rintro e w2 ⟨rfl, hb⟩; replace hbw := hbw.trans (hb.mono hbw.size); clear hb))
      go_ret
      exact ⟨by rw [HR1.out]; rfl, hbw⟩)
  simp only [Bool.not_true] at h7b
  have HR1 : Hid (RES = (nt && x2 && l.all docPartB && (zl || (Lib.hasSuffix (docL l) [10] && !standL (ls tag) [] (docL l))))) := Lib.hid (by rw [HR.out]; rfl)
  have CW1 := Lib.hid (CW.out false)
  rw [show (x2 && (!zl || !false)) = x2 from by cases x2 <;> cases zl <;> rfl] at CW1
  clear HR CW C53
  cases nt
  case false =>
    go_wp2_with (go_at_call 24; refine (C24.out _).mono ?_; rintro e w' ⟨rfl, rfl⟩)
    go_ret
    exact ⟨by rw [HR1.out]; rfl, hbw⟩
  cases x2
  case false =>
    go_wp2_with (first
      | (go_at_call 24; refine (C24.out _).mono ?_; rintro e w' ⟨rfl, rfl⟩)
      | (go_at_call 62; refine (CW1.out _ hbw).mono ?_; rintro e w2 ⟨rfl, hb⟩; replace hbw := hbw.trans (hb.mono hbw.size); clear hb))
    go_ret
    exact ⟨by rw [HR1.out]; rfl, hbw⟩
  have HR2 : Hid (RES = (l.all docPartB && (zl || (Lib.hasSuffix (docL l) [10] && !standL (ls tag) [] (docL l))))) := Lib.hid (by rw [HR1.out]; rfl)
  have HPO := Lib.hid (HPk.out rfl)
  clear HR1 HPk
  go_wp2_with (first | (go_at_call 24; refine (C24.out _).mono ?_; rintro e w' ⟨rfl, rfl⟩))
  refine (CW1.out _ hbw).mono ?_
  rintro e w2 ⟨rfl, hb⟩
  have HBA := Lib.hid (hbw.trans (hb.mono hbw.size))
  have HH2 := Lib.hid ((hb.block _ (lt_of_block HH.out)).trans HH.out)
  replace p0 := cell_low p0 hb
  replace p1 := cell_low p1 hb
  replace p2 := cell_low p2 hb
  replace p3 := cell_low p3 hb
  clear hb
  go_wp2
  go_loopw [7] (RelR l w w2) (fun i _ => q - (intOf i).toNat)
  case atStart => exact ⟨0, Nat.zero_le _, rfl, HBA.out, Below.refl _ _, Lib.hid (by simp)⟩
  case round =>
    obtain ⟨k, hk, rfl, HBx, HB1, HRl⟩ := hrel
    rename World => wx
    rw [Hq.out] at hk
    have HBx := Lib.hid HBx
    have HB1 := Lib.hid HB1
    replace p2 := cell_low (cells_at HH2.out (i := 2) (u := .string tag) rfl) HB1.out
    replace p3 := cell_low (cells_at HH2.out (i := 3) (u := .slice a q c) rfl) HB1.out
    clear p0 p1
    by_cases hlt : k < q
    · have hlt' : k < l.length := by rw [Hq.out]; exact hlt
      obtain ⟨m, b1, off, c', wa, wc, ba, bc, _, e, hc, hfit, _, c0, c1, c2, c3, c4, c5⟩ := wd_at2 HL.out k hlt'
      have HC := Lib.hid (dparts_cut l k hlt')
      obtain ⟨p, Hp⟩ : ∃ p, Hid (l[k] = p) := ⟨_, Lib.hid rfl⟩
      rw [Hp.out] at HC c0 c1 c2 c3 c4 c5 hfit
      rw [Hq.out] at e hc
      cases e
      replace c0 := cell_low c0 HBx.out
      replace c1 := cell_low c1 HBx.out
      replace c2 := cell_low c2 HBx.out
      replace c3 := cell_low c3 HBx.out
      replace c4 := cell_low c4 HBx.out
      replace c5 := cell_low c5 HBx.out
      generalize p.word.length = nw at c4
      generalize p.body.length = nb at c5
      have HX := Lib.hid fun (o : Obj) => And.intro (HBx.out.alloc HBx.out.size o) (HB1.out.alloc HB1.out.size o)
      have HD : Hid (docPartB p = (p.quoted && !decide (p.kind = 3) && emB p.op && !(decide (p.kind = 4) && hasC (ls p.text) 10))) := Lib.hid rfl
      have CI := Lib.hid fun W => in51 p.text (by have := hfit.t; omega) 10 (by decide) W
      have g3 := eq_int p.kind 3
      have g4 := eq_int p.kind 4
      have ge := emp_is p.op
      have ge2 : (p.op.toList != []) = !emB p.op := by rw [bne, ge]
      generalize p.quoted = b1 at c1 HD
      generalize decide (p.kind = 3) = b3 at g3 HD
      generalize decide (p.kind = 4) = b4 at g4 HD
      generalize emB p.op = b5 at ge ge2 HD
      generalize hasC (ls p.text) 10 = b6 at CI HD
      clear hfit
      have HF : Hid (docPartB p = false → RES = false) := Lib.hid fun e => by rw [HR2.out, HRl.out, HC.out, e]; rfl
      have HT : Hid (docPartB p = true → l.all docPartB = (l.drop (k + 1)).all docPartB) := Lib.hid fun e => by rw [HRl.out, HC.out, e]; rfl
      cases b1
      case false =>
        go_wp2
        go_ret
        rw [HF.out (by rw [HD.out]; rfl)]; exact ⟨rfl, (HX.out _).1⟩
      cases b5
      case false =>
        simp only [Bool.not_false] at ge2
        go_wp2
        go_ret
        rw [HF.out (by rw [HD.out]; simp)]; exact ⟨rfl, (HX.out _).1⟩
      simp only [Bool.not_true] at ge2
      cases b3
      case true =>
        go_wp2
        go_ret
        rw [HF.out (by rw [HD.out]; rfl)]; exact ⟨rfl, (HX.out _).1⟩
      cases b4
      case false =>
        go_wp2
        go_round
        case rel => exact ⟨k + 1, hlt', vi (Int.natCast_succ k).symm, (HX.out _).1, (HX.out _).2, Lib.hid (HT.out (by rw [HD.out]; rfl))⟩
        case measure => exact sz_meas hlt
      cases b6
      case false =>
        go_wp2_with (go_at_call 51; refine (CI.out _).mono ?_; rintro e w' ⟨rfl, rfl⟩)
        go_round
        case rel => exact ⟨k + 1, hlt', vi (Int.natCast_succ k).symm, (HX.out _).1, (HX.out _).2, Lib.hid (HT.out (by rw [HD.out]; rfl))⟩
        case measure => exact sz_meas hlt
      go_wp2_with (go_at_call 51; refine (CI.out _).mono ?_; rintro e w' ⟨rfl, rfl⟩)
      go_ret
      rw [HF.out (by rw [HD.out]; rfl)]; exact ⟨rfl, (HX.out _).1⟩
    · have hkq : q = k := sz_eq hlt hk
      have HA : Hid (l.all docPartB = true) := Lib.hid (by rw [HRl.out, List.drop_of_length_le (by rw [Hq.out, hkq]; exact Nat.le_refl _)]; rfl)
      have HR3 : Hid (RES = (zl || (Lib.hasSuffix (docL l) [10] && !standL (ls tag) [] (docL l)))) := Lib.hid (by rw [HR2.out, HA.out]; rfl)
      have CD2 := Lib.hid (CD.out wx HBx.out)
      rw [docX_is l (fun p hp => by
        have h1 := (HPO.out p hp).1
        have h2 := List.all_eq_true.1 HA.out p hp
        simp only [docPartB, Bool.and_eq_true, Bool.not_eq_true', decide_eq_false_iff_not] at h2
        rcases h1 with e | e | e | e
        · exact .inl e
        · exact .inr (.inl e)
        · exact absurd e h2.1.1.2
        · exact .inr (.inr e))] at CD2
      have hdl : (docL l).length ≤ 10485760 := by have h1 := docL_len l; have h2 := HS.out; have h3 := Hq.out; simp only [Rd.word] at h2; omega
      obtain ⟨D, HDm⟩ : ∃ D, Hid (mk (docL l) = D) := ⟨_, Lib.hid rfl⟩
      have hlD : docL l = ls D := by rw [← HDm.out]; rfl
      have hDs : D.size ≤ 10485760 := by rw [← HDm.out, mk_size]; exact hdl
      rw [HDm.out] at CD2
      rw [hlD, suf_is] at HR3
      have hnl : decide ((k : Int) < (q : Int)) = false := by rw [hkq]; simp
      have hnl2 : decide (k < q) = false := by rw [hkq]; simp
      have CS := Lib.hid fun W => stands90 D tag (by omega) W
      have he0 := emp_is D
      have he1 : (D.toList != []) = !emB D := by rw [bne, emp_is]
      have hb := get_bt D
      have HLs : Hid (emB D = false → ∃ L : Nat, D.size = L + 1) := Lib.hid fun e => by rw [emB_size] at e; have := of_decide_eq_false e; exact ⟨D.size - 1, by omega⟩
      generalize standL (ls tag) [] (ls D) = st at CS HR3
      generalize emB D = ed at he0 he1 HR3 HLs
      clear hkq hlD hdl
      cases zl
      case true =>
        have hq0 : q = 0 := of_decide_eq_true Hzl.out
        subst hq0
        go_wp2_with fail
        refine CD2.out.mono ?_
        rintro e w4 ⟨rfl, rfl⟩
        go_wp2
        go_ret
        rw [HR3.out]; exact ⟨rfl, HBx.out⟩
      cases ed
      case true =>
        simp only [Bool.not_true] at he1
        go_wp2_with fail
        refine CD2.out.mono ?_
        rintro e w4 ⟨rfl, rfl⟩
        go_wp2
        go_ret
        rw [HR3.out]; exact ⟨rfl, HBx.out⟩
      simp only [Bool.not_false] at he1
      obtain ⟨L, hL⟩ := HLs.out rfl
      have hz10 : ((at0 (ls D) L : Int) == 10) = decide (at0 (ls D) L = 10) := by rw [eq_int]; exact decide_eq_decide.2 (by omega)
      rw [show D.size - 1 = L by omega] at HR3
      have hbt := bt_at D L
      have hch := at0_lt (ls D) L
      have hLi : (D.size : Int) - 1 = L := by omega
      have hLl : L < D.size := by omega
      have hHL := Lib.hid hL
      generalize decide (at0 (ls D) L = 10) = y at hz10 HR3
      generalize at0 (ls D) L = ch at hbt hz10 hch
      clear hL HLs
      cases y <;> cases st
      all_goals (
        go_wp2_with fail
        refine CD2.out.mono ?_
        rintro e w4 ⟨rfl, rfl⟩
        go_wp2_with (go_at_call 90; refine (CS.out _).mono ?_; rintro e w' ⟨rfl, rfl⟩)
        go_ret
        rw [HR3.out]; first | exact ⟨rfl, HBx.out⟩ | (trace_state; simp))
end Go.Proofs.YtfaohicadahcjaaGreatDoor
