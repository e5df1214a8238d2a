/- fill: an argument in a place. Conditions: lengths below a bound. -/
import Derived.Test.YtckhomeokhhneaaDoorM
import Derived.Deep.RegionHeld3
namespace Go.Proofs.YtckhomeokhhneaaDoor
open Go.RowKit Go.PlainAid
set_option linter.unusedSimpArgs false
set_option linter.unusedVariables false

/-- A place in a block of its own. -/
def Bx (q : Nat) (p : Pl) (w : World) : Prop := w.heap[q]? = some (.cells (plC p) 53 (0, 0))
def Six (q : Nat) (p : Pl) (w : World) : Prop := w.cell? ⟨q, 0, none⟩ = some (.bool p.left) ∧ w.cell? ⟨q, 1, none⟩ = some (.bool p.zero) ∧ w.cell? ⟨q, 2, none⟩ = some (.bool p.prec.isSome) ∧ w.cell? ⟨q, 3, none⟩ = some (.int .i64 p.width) ∧ w.cell? ⟨q, 4, none⟩ = some (.int .i64 (p.prec.getD 0 : Nat)) ∧ w.cell? ⟨q, 5, none⟩ = some (.int .u8 p.ch)
theorem Bx.six {q : Nat} {p : Pl} {w : World} (h : Bx q p w) : Six q p w := by
  refine ⟨?_, ?_, ?_, ?_, ?_, ?_⟩ <;> (rw [cell_of h]; rfl)
theorem Bx.below {q : Nat} {p : Pl} {w w' : World} (h : Bx q p w) (hb : Below w.heap.size w w') : Bx q p w' := (hb.block q (lt_of_block h)).trans h
theorem Bx.drew {q : Nat} {p : Pl} {w : World} (h : Bx q p w) : Bx q p w.drew := h
theorem cut_len (p : Pl) (l : List UInt8) : (cutL p l).length ≤ l.length := by unfold cutL; split <;> simp [List.length_take]; omega
def PlOk (p : Pl) : Prop := p.width < 1000 ∧ (∀ q, p.prec = some q → q < 1000) ∧ p.ch < 256
def Gv (W : World) (g : Nat) (S : List ByteArray) (tk : Bool) (T : List UInt8) (w' : World) : Prop := ∃ av tv T', Tl W g S tk T av tv T' w'
def fillE (p : Pl) (x : Option (List UInt8)) (e : Ending) : Prop := match x with
  | some r => e = .returned (.tuple #[.string (mk r), .bool true])
  | none => e = .returned (.tuple #[.string ⟨#[]⟩, .bool false])
set_option maxHeartbeats 4000000 in
set_option maxRecDepth 100000 in
theorem fill23_pc (W : World) (g : Nat) (S : List ByteArray) (tk : Bool) (T T' : List UInt8) (av tv : Value) (w : World) (h : Tl W g S tk T av tv T' w) (p : Pl) (hc : p.ch = 37) :
    Calls Tryd.prog 23 #[.pointer (some ⟨g, 0, none⟩), plV p] w fun e w' => e = .returned (.tuple #[.string ⟨#[37]⟩, .bool true]) ∧ Gv W g S tk T w' := by
  have HB0 := fun o => Lib.hid ((Below.refl w.heap.size w).alloc (Nat.le_refl _) o)
  have H := Lib.hid h
  clear h
  obtain ⟨a, b, wd, pr, ch⟩ := p
  simp only at hc
  subst hc
  unfold plV plC
  go_enter Tryd.func23, Tryd.ntmps23
  go_wp2
  go_ret2
  exact ⟨rfl, _, _, _, H.out.below (HB0 _).out⟩
set_option maxHeartbeats 4000000 in
set_option maxRecDepth 100000 in
theorem fill23 (W : World) (he : Env W) (g : Nat) (S : List ByteArray) (tk : Bool) (T T' : List UInt8) (av tv : Value) (w : World) (h : Tl W g S tk T av tv T' w) (p : Pl) (hp : PlOk p) (hc : p.ch ≠ 37) (hS : ∀ s ∈ S, s.size ≤ 100000) :
    Calls Tryd.prog 23 #[.pointer (some ⟨g, 0, none⟩), plV p] w fun e w' => fillE p (fillO p (ls (S.headD ⟨#[]⟩))) e ∧ Gv W g S.tail true T w' := by
  have HB0 := fun o => Lib.hid ((Below.refl w.heap.size w).alloc (Nat.le_refl _) o)
  obtain ⟨s, Hs⟩ : ∃ s, Hid (S.headD ⟨#[]⟩ = s) := ⟨_, Lib.hid rfl⟩
  rw [Hs.out]
  have hsz : s.size ≤ 100000 := by
    rw [← Hs.out]
    cases S with
    | nil => exact Nat.zero_le _
    | cons x r => exact hS x (by simp)
  obtain ⟨X, HX⟩ : ∃ X, Hid (fillO p (ls s) = X) := ⟨_, Lib.hid rfl⟩
  rw [HX.out]
  have HT0 := Lib.hid (h.below ((Below.refl w.heap.size w).alloc (Nat.le_refl _) (.cells (plC p) 53)))
  have HBX0 : Hid (Bx w.heap.size p (w.alloc (.cells (plC p) 53))) := Lib.hid (heap_alloc_new _ _)
  have HN : Hid (g ≠ w.heap.size) := Lib.hid (by have := lt_of_block h.cells; omega)
  clear h hS HB0
  have hc' : ((p.ch : Int) == 37) = false := by simp; omega
  obtain ⟨n, hn⟩ : ∃ n, n = T.length := ⟨_, rfl⟩
  obtain ⟨a, b, wd, pr, ch⟩ := p
  unfold plV plC
  simp only at hc'
  go_enter Tryd.func23, Tryd.ntmps23
  go_upto_region 4 with fail
  obtain ⟨w0, hw0⟩ : ∃ w0, w0 = w.alloc (.cells #[.bool a, .bool b, .bool pr.isSome, .int .i64 wd, .int .i64 (pr.getD 0 : Nat), .int .u8 ch] 53) := ⟨_, rfl⟩
  have HT1 : Hid (Tl W g S tk T av tv T' w0) := Lib.hid (by rw [hw0]; exact HT0.out)
  have HBX1 : Hid (Bx w.heap.size ⟨a, b, wd, pr, ch⟩ w0) := Lib.hid (by rw [hw0]; exact HBX0.out)
  rw [← hw0]
  have HP := Lib.hid hp
  clear hw0 HT0 HBX0 hc hc' hp
  obtain ⟨sa, sc, hav⟩ := HT1.out.args.shape
  have c0 : w0.cell? ⟨g, 0, none⟩ = some (.slice sa S.length sc) := by rw [cell_of HT1.out.cells, ← hav]; rfl
  have f0 := frozen_of HT1.out.cells 0
  obtain ⟨m, hm⟩ : ∃ m, m = S.length := ⟨_, rfl⟩
  rw [← hm] at c0 hav
  go_upto_if 19 with fail
  go_cut [6] (fun u6 wx => u6 = .string s ∧ ∃ av2, Hid (Tl W g S.tail tk T av2 tv T' wx) ∧ Hid (Bx w.heap.size ⟨a, b, wd, pr, ch⟩ wx))
  case first =>
    cases S with
    | nil =>
      have hs0 : s = ⟨#[]⟩ := Hs.out.symm
      obtain rfl : m = 0 := hm
      go_wp2
      go_meet
      case rel => exact ⟨by rw [hs0], av, HT1, HBX1⟩
    | cons x r =>
      obtain rfl : x = s := Hs.out
      have hm0 : 0 < m := by rw [hm]; simp
      rcases HT1.out.args with ⟨e, _⟩ | ⟨bb, off, cc, e1, hcc, hcell⟩
      · cases e
      · rw [hav] at e1
        cases e1
        have cx := hcell 0 x rfl
        have cx0 : w0.cell? ⟨bb, off, none⟩ = some (.string x) := by
          have := cell_below cx HT1.out.bel
          exact this
        go_upto_region 5 with fail
        have HC := Lib.hid hcell
        have HCC := Lib.hid hcc
        clear hcell hcc cx
        have HFIN : Hid (∀ v, Strs W v r → ∃ av2, Hid (Tl W g r tk T av2 tv T' (w0.setCell ⟨g, 0, none⟩ v).drew) ∧ Hid (Bx w.heap.size ⟨a, b, wd, pr, ch⟩ (w0.setCell ⟨g, 0, none⟩ v).drew)) := Lib.hid (fun v hv => ⟨v, Lib.hid (by
          rw [setCell_eq_setRow _ _ _ _ _ _ _ HT1.out.cells]
          exact (HT1.out.set (S2 := r) (tk2 := tk) (T2 := T) hv _ rfl HT1.out.same HT1.out.big).below ((Below.refl _ _).drew)), Lib.hid (by
          show (World.setCell _ _ _).heap[_]? = _
          rw [setCell_eq_setRow _ _ _ _ _ _ _ HT1.out.cells, setRow_other _ _ _ _ (fun e => HN.out e.symm)]
          exact HBX1.out)⟩)
        by_cases h1 : sc = 1
        · subst h1
          go_region
          go_wp2_with fail
          go_meet
          case rel => exact ⟨rfl, HFIN.out _ (Strs.tail1 HCC.out)⟩
        · go_region
          go_wp2_with fail
          go_meet
          case rel => exact ⟨rfl, HFIN.out _ (Strs.tail HCC.out HC.out)⟩
  case rest =>
    obtain ⟨rfl, av2, HT2, HB2⟩ := hcut
    rename World => wx
    have c1 : wx.cell? ⟨g, 1, none⟩ = some (.bool tk) := by rw [cell_of HT2.out.cells]; rfl
    have f1 := frozen_of HT2.out.cells 1
    clear c0 f0 HT1 HBX1 hav
    go_upto_region 7 with fail
    obtain ⟨wy, hwy⟩ : ∃ wy, wy = wx.setCell ⟨g, 1, none⟩ (.bool true) := ⟨_, rfl⟩
    have HT3 : Hid (Tl W g S.tail true T av2 tv T' wy) := Lib.hid (by
      rw [hwy, setCell_eq_setRow _ _ _ _ _ _ _ HT2.out.cells]
      exact HT2.out.set (S2 := S.tail) (tk2 := true) (T2 := T) HT2.out.args _ rfl HT2.out.same HT2.out.big)
    have HB3 : Hid (Bx w.heap.size ⟨a, b, wd, pr, ch⟩ wy) := Lib.hid (by
      rw [hwy]
      show (World.setCell _ _ _).heap[_]? = _
      rw [setCell_eq_setRow _ _ _ _ _ _ _ HT2.out.cells, setRow_other _ _ _ _ (fun e => HN.out e.symm)]
      exact HB2.out)
    rw [← hwy]
    clear hwy HT2 HB2 c1 f1 HN
    rename_i wx0 _
    obtain ⟨k0, k1, k2, k3, k4, k5⟩ := HB3.out.six
    simp only at k0 k1 k2 k3 k4 k5
    have HTd := Lib.hid (HT3.out.below ((Below.refl _ wy).drew))
    have HBd : Hid (Bx w.heap.size ⟨a, b, wd, pr, ch⟩ wy.drew) := Lib.hid HB3.out
    have HPO := HP.out
    obtain ⟨hp1, hp2, hp3⟩ := HPO
    simp only at hp1 hp2 hp3
    have HP2 := Lib.hid hp2
    clear hp2
    have CUT := Lib.hid fun (s' : ByteArray) (h : s'.size ≤ 1000000) W' => cut33 ⟨a, b, wd, pr, ch⟩ s' W' h HP2.out
    have PAD := Lib.hid fun (h s' : ByteArray) W' (h1 : h.size ≤ 1000) (h2 : s'.size ≤ 1000000) => pad32 ⟨a, b, wd, pr, ch⟩ h s' W' h1 h2 hp1 hp3
    unfold fillO at HX
    simp only at HX
    by_cases e115 : ch = 115
    · subst e115
      have HXX : Hid (X = some (padL ⟨a, b, wd, pr, 115⟩ [] (cutL ⟨a, b, wd, pr, 115⟩ (ls s)))) := Lib.hid HX.out.symm
      have HC1 : Hid ((mk (cutL ⟨a, b, wd, pr, 115⟩ (ls s))).size ≤ 1000000) := Lib.hid (by rw [mk_size]; have := cut_len ⟨a, b, wd, pr, 115⟩ (ls s); rw [ls_len] at this; omega)
      clear HX
      go_wp2
      go_region_held3 (fun wz => wz.cell? ⟨w.heap.size, 0, none⟩ = some (.bool a) ∧ wz.cell? ⟨w.heap.size, 1, none⟩ = some (.bool b) ∧ wz.cell? ⟨w.heap.size, 2, none⟩ = some (.bool pr.isSome) ∧ wz.cell? ⟨w.heap.size, 3, none⟩ = some (.int .i64 wd) ∧ wz.cell? ⟨w.heap.size, 4, none⟩ = some (.int .i64 (pr.getD 0 : Nat)) ∧ wz.cell? ⟨w.heap.size, 5, none⟩ = some (.int .u8 (115 : Nat))) (first | exact HBd.out.six | exact B3.out.six | exact B4.out.six)
        (first
          | (go_at_call 33; refine (CUT.out s (by omega) _).mono ?_; rintro e w3 ⟨rfl, b3⟩; have T3 := Lib.hid (HTd.out.below b3); have B3 := Lib.hid (HBd.out.below b3); clear b3)
          | (go_at_call 32; refine (PAD.out ⟨#[]⟩ (mk (cutL ⟨a, b, wd, pr, 115⟩ (ls s))) _ (by decide) HC1.out).mono ?_; rintro e w4 ⟨rfl, b4⟩; have T4 := Lib.hid (T3.out.below b4); have B4 := Lib.hid (B3.out.below b4); clear b4))
      go_wp2
      go_ret2
      exact ⟨by rw [HXX.out]; rfl, _, _, _, T4.out⟩
    have n115 : ((ch : Int) == 115) = false := by simp; omega
    rw [if_neg e115] at HX
    clear e115
    by_cases e98 : ch = 98
    · subst e98
      have HXX : Hid (X = some (padL ⟨a, b, wd, pr, 98⟩ [] (cutL ⟨a, b, wd, pr, 98⟩ (une (ls s))))) := Lib.hid HX.out.symm
      have CUN := Lib.hid fun W' => unescape12 s W' (by omega)
      have HC0 : Hid ((mk (une (ls s))).size ≤ 1000000) := Lib.hid (by rw [mk_size]; have := une_len (ls s); rw [ls_len] at this; omega)
      have HC1 : Hid ((mk (cutL ⟨a, b, wd, pr, 98⟩ (une (ls s)))).size ≤ 1000000) := Lib.hid (by rw [mk_size]; have := cut_len ⟨a, b, wd, pr, 98⟩ (une (ls s)); have := une_len (ls s); rw [ls_len] at this; omega)
      clear HX
      go_wp2
      go_region_held3 (fun wz => wz.cell? ⟨w.heap.size, 0, none⟩ = some (.bool a) ∧ wz.cell? ⟨w.heap.size, 1, none⟩ = some (.bool b) ∧ wz.cell? ⟨w.heap.size, 2, none⟩ = some (.bool pr.isSome) ∧ wz.cell? ⟨w.heap.size, 3, none⟩ = some (.int .i64 wd) ∧ wz.cell? ⟨w.heap.size, 4, none⟩ = some (.int .i64 (pr.getD 0 : Nat)) ∧ wz.cell? ⟨w.heap.size, 5, none⟩ = some (.int .u8 (98 : Nat))) (first | exact HBd.out.six | exact B2.out.six | exact B3.out.six | exact B4.out.six)
        (first
          | (go_at_call 12; refine (CUN.out _).mono ?_; rintro e w2 ⟨rfl, b2⟩; have T2 := Lib.hid (HTd.out.below b2); have B2 := Lib.hid (HBd.out.below b2); clear b2)
          | (go_at_call 33; refine (CUT.out (mk (une (ls s))) HC0.out _).mono ?_; rintro e w3 ⟨rfl, b3⟩; have T3 := Lib.hid (T2.out.below b3); have B3 := Lib.hid (B2.out.below b3); clear b3)
          | (go_at_call 32; refine (PAD.out ⟨#[]⟩ (mk (cutL ⟨a, b, wd, pr, 98⟩ (une (ls s)))) _ (by decide) HC1.out).mono ?_; rintro e w4 ⟨rfl, b4⟩; have T4 := Lib.hid (T3.out.below b4); have B4 := Lib.hid (B3.out.below b4); clear b4))
      go_wp2
      go_ret2
      exact ⟨by rw [HXX.out]; rfl, _, _, _, T4.out⟩
    have n98 : ((ch : Int) == 98) = false := by simp; omega
    rw [if_neg e98] at HX
    clear e98
    by_cases e99 : ch = 99
    · subst e99
      obtain ⟨m1, hm1⟩ : ∃ m1 : Nat, min s.size 1 = m1 := ⟨_, rfl⟩
      have hmx : min (s.size : Int) 1 = (m1 : Int) := by omega
      have hms : m1 ≤ s.size := by omega
      have HXX : Hid (X = some (padL ⟨a, b, wd, pr, 99⟩ [] (ls (s.extract 0 m1)))) := Lib.hid (by
        rw [← HX.out, ls_take]
        show some (padL _ _ ((ls s).take 1)) = _
        congr 2
        rw [← hm1, ← List.take_take]
        exact (List.take_of_length_le (by rw [List.length_take, ls_len]; omega)).symm)
      have HC1 : Hid ((s.extract 0 m1).size ≤ 1000000) := Lib.hid (by rw [ext_sz _ _ _ hms]; omega)
      clear hm1
      clear HX
      go_wp2
      go_region_held3 (fun wz => wz.cell? ⟨w.heap.size, 0, none⟩ = some (.bool a) ∧ wz.cell? ⟨w.heap.size, 1, none⟩ = some (.bool b) ∧ wz.cell? ⟨w.heap.size, 2, none⟩ = some (.bool pr.isSome) ∧ wz.cell? ⟨w.heap.size, 3, none⟩ = some (.int .i64 wd) ∧ wz.cell? ⟨w.heap.size, 4, none⟩ = some (.int .i64 (pr.getD 0 : Nat)) ∧ wz.cell? ⟨w.heap.size, 5, none⟩ = some (.int .u8 (99 : Nat))) (first | exact HBd.out.six | exact B4.out.six)
        (first
          | (go_at_call 32; refine (PAD.out ⟨#[]⟩ (s.extract 0 m1) _ (by decide) HC1.out).mono ?_; rintro e w4 ⟨rfl, b4⟩; have T4 := Lib.hid (HTd.out.below b4); have B4 := Lib.hid (HBd.out.below b4); clear b4))
      go_wp2
      go_ret2
      exact ⟨by rw [HXX.out]; rfl, _, _, _, T4.out⟩
    have n99 : ((ch : Int) == 99) = false := by simp; omega
    rw [if_neg e99] at HX
    clear e99
    have CN := Lib.hid fun W' h => number34 s W' h (by omega)
    have HE3 := Lib.hid (HT3.out.env he)
    cases hnum : numO (ls s) with
    | none =>
      rw [hnum] at HX CN
      have HXX : Hid (X = none) := Lib.hid HX.out.symm
      clear HX
      go_wp2_with (go_at_call 34; refine (CN.out _ HE3.out).mono ?_; rintro e w3 ⟨⟨y, rfl⟩, b3⟩; have T3 := Lib.hid (HT3.out.below b3); clear b3)
      go_ret2
      exact ⟨by rw [HXX.out]; rfl, _, _, _, T3.out⟩
    | some v =>
      obtain ⟨hv1, hv2⟩ := numO_range _ v hnum
      rw [hnum] at HX CN
      have HXX : Hid (X = some (padL ⟨a, b, wd, pr, ch⟩ (sgnO ch v).1 (rep 48 (pr.getD 0 - (sgnO ch v).2.length) ++ (sgnO ch v).2))) := Lib.hid HX.out.symm
      clear HX
      have CD := Lib.hid fun W' h => digits35 ⟨a, b, wd, pr, ch⟩ v W' h hv1 hv2
      have hln := sgn_len ch v hv1 hv2
      obtain ⟨sg, Hsg⟩ : ∃ sg, Hid (sgnO ch v = sg) := ⟨_, Lib.hid rfl⟩
      rw [show (⟨a, b, wd, pr, ch⟩ : Pl).ch = ch from rfl, Hsg.out] at CD
      rw [Hsg.out] at hln HXX
      obtain ⟨g1, g2⟩ := sg
      simp only at hln HXX
      unfold sgV at CD
      simp only at CD
      obtain ⟨D, HD⟩ : ∃ D, Hid (mk g2 = D) := ⟨_, Lib.hid rfl⟩
      obtain ⟨G, HG⟩ : ∃ G, Hid (mk g1 = G) := ⟨_, Lib.hid rfl⟩
      rw [HD.out, HG.out] at CD
      have hDs : D.size ≤ 22 := by rw [← HD.out, mk_size]; exact hln.2
      have hGs : G.size ≤ 1 := by rw [← HG.out, mk_size]; exact hln.1
      have hDl : Hid (g2 = ls D) := Lib.hid (by rw [← HD.out, ls_mk])
      have hGl : Hid (g1 = ls G) := Lib.hid (by rw [← HG.out, ls_mk])
      rw [hDl.out, hGl.out, ls_len] at HXX
      have hpr : pr.getD 0 < 1000 := by
        cases pr with
        | none => simp
        | some q => exact HP2.out q rfl
      obtain ⟨pz, Hpz⟩ : ∃ pz, Hid (pr.getD 0 = pz) := ⟨_, Lib.hid rfl⟩
      rw [Hpz.out] at HXX hpr
      obtain ⟨R, HR⟩ : ∃ R, Hid (mk (rep 48 (pz - D.size)) = R) := ⟨_, Lib.hid rfl⟩
      have hRs : R.size ≤ 1000 := by rw [← HR.out, mk_size, rep_len]; omega
      have hRl : Hid (rep 48 (pz - D.size) = ls R) := Lib.hid (by rw [← HR.out, ls_mk])
      have CF : Hid (∀ W', Calls Tryd.prog 36 #[.int .u8 48, .int .i64 ((pz : Int) - D.size)] W' (GivesS W' R)) := Lib.hid fun W' => by
        have h := fillUp36 48 ((pz : Int) - D.size) W' (by omega) (by omega)
        rw [show ((pz : Int) - D.size).toNat = pz - D.size by omega] at h
        rw [← HR.out]
        exact h
      rw [hRl.out] at HXX
      have hw1 : IntKind.i64.wrap ((pz : Int) - D.size) = (pz : Int) - D.size := by rw [IntKind.wrap_i64]; omega
      have CF2 : Hid (∀ W', Calls Tryd.prog 36 #[.int .u8 48, .int .i64 (IntKind.i64.wrap (((pr.getD 0 : Nat) : Int) - D.size))] W' (GivesS W' R)) := Lib.hid (by rw [Hpz.out, hw1]; exact CF.out)
      clear hw1 CF
      have hcat : ¬ 9223372036854775807 < R.size + D.size := by omega
      have HCS : Hid ((R ++ D).size ≤ 1000000) := Lib.hid (by rw [ByteArray.size_append]; omega)
      have HXX2 : Hid (X = some (padL ⟨a, b, wd, pr, ch⟩ (ls G) (ls (R ++ D)))) := Lib.hid (by rw [HXX.out, app_ls2])
      clear HXX hln Hsg HD HG hDl hGl HR hRl hnum
      go_upto_region 15 with (go_at_call 34; refine (CN.out _ HE3.out).mono ?_; rintro e w3 ⟨rfl, b3⟩; have T3 := Lib.hid (HT3.out.below b3); have B3 := Lib.hid (HB3.out.below b3); have E3 := Lib.hid (HE3.out.below b3); clear b3)
      clear k0 k1 k2 k3 k4 k5 CN HTd HBd
      obtain ⟨k0, k1, k2, k3, k4, k5⟩ := B3.out.six
      simp only at k0 k1 k2 k3 k4 k5
      go_upto_region 18 with (go_at_call 35; refine (CD.out _ E3.out).mono ?_; rintro e w4 ⟨rfl, b4⟩; have T4 := Lib.hid (T3.out.below b4); have B4 := Lib.hid (B3.out.below b4); clear b4)
      clear k0 k1 k2 k3 k4 k5 CD
      have T4d := Lib.hid (T4.out.below ((Below.refl _ _).drew))
      have B4d : Hid (Bx w.heap.size ⟨a, b, wd, pr, ch⟩ w4.drew) := Lib.hid B4.out
      have S4d := B4d.out.six
      unfold Six at S4d; simp only at S4d
      go_region_held3 (fun wz => wz.cell? ⟨w.heap.size, 0, none⟩ = some (.bool a) ∧ wz.cell? ⟨w.heap.size, 1, none⟩ = some (.bool b) ∧ wz.cell? ⟨w.heap.size, 2, none⟩ = some (.bool pr.isSome) ∧ wz.cell? ⟨w.heap.size, 3, none⟩ = some (.int .i64 wd) ∧ wz.cell? ⟨w.heap.size, 4, none⟩ = some (.int .i64 (pr.getD 0 : Nat)) ∧ wz.cell? ⟨w.heap.size, 5, none⟩ = some (.int .u8 ch)) (first | exact S4d | exact S5 | exact S6)
        (first
          | (go_at_call 36; refine (CF2.out _).mono ?_; rintro e w5 ⟨rfl, b5⟩; have T5 := Lib.hid (T4d.out.below b5); have B5 := Lib.hid (B4d.out.below b5); have S5 := B5.out.six; unfold Six at S5; simp only at S5; clear b5)
          | (go_at_call 32; refine (PAD.out G (R ++ D) _ (by omega) HCS.out).mono ?_; rintro e w6 ⟨rfl, b6⟩; have T6 := Lib.hid (T5.out.below b6); have B6 := Lib.hid (B5.out.below b6); have S6 := B6.out.six; unfold Six at S6; simp only at S6; clear b6))
      go_wp2
      go_ret2
      exact ⟨by rw [HXX2.out]; rfl, _, _, _, T6.out⟩
end Go.Proofs.YtckhomeokhhneaaDoor
