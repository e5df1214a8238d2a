/- Contracts: Literal, Plain. Conditions: lengths below a bound. -/
import Derived.Test.YtfaohicadahcjaaGreatDoorI
namespace Go.Proofs.YtfaohicadahcjaaGreatDoor
open Go.RowKit Go.PlainAid Go.ChangeShapes Go.WideShapes Go.ChangeAt
set_option linter.unusedSimpArgs false
set_option linter.unusedVariables false
/-- The same, its slices' shapes. -/
theorem wd_at2 {n : Nat} {w : World} {v : Value} {l : List Pt} (h : WdAt n w v l) (i : Nat) (hi : i < l.length) :
    ∃ m b off c wa wc ba bc, n = m + 1 ∧ v = .slice (some ⟨b, off, none⟩) l.length c ∧ l.length ≤ c ∧ PtFits l[i] ∧ (WdAt m w (.slice wa l[i].word.length wc) l[i].word ∧ NsAt m w (.slice ba l[i].body.length bc) l[i].body) ∧
      w.cell? ⟨b, off + i * 6, none⟩ = some (.int .i64 l[i].kind) ∧ w.cell? ⟨b, off + i * 6 + 1, none⟩ = some (.bool l[i].quoted) ∧ w.cell? ⟨b, off + i * 6 + 2, none⟩ = some (.string l[i].text) ∧
      w.cell? ⟨b, off + i * 6 + 3, none⟩ = some (.string l[i].op) ∧ w.cell? ⟨b, off + i * 6 + 4, none⟩ = some (.slice wa l[i].word.length wc) ∧ w.cell? ⟨b, off + i * 6 + 5, none⟩ = some (.slice ba l[i].body.length bc) := by
  obtain ⟨m, b, off, c, wv, bv, h1, h2, h3, h4, h5, h6, h7⟩ := wd_at h i hi
  obtain ⟨wa, wc, rfl⟩ := wd_shape _ _ _ _ h5
  obtain ⟨ba, bc, rfl⟩ := ns_shape _ _ _ _ h6
  exact ⟨m, b, off, c, wa, wc, ba, bc, h1, h2, h3, h4, ⟨h5, h6⟩, h7⟩
theorem ns_at2 {n : Nat} {w : World} {v : Value} {l : List Nd} (h : NsAt n w v l) (i : Nat) (hi : i < l.length) :
    ∃ m b off c a1 a2 a3 a4 a5 c1 c2 c3 c4 c5, n = m + 1 ∧ v = .slice (some ⟨b, off, none⟩) l.length c ∧ l.length ≤ c ∧ NdFits l[i] ∧
      (AssAt m w (.slice a1 l[i].assigns.length c1) l[i].assigns ∧ WsAt m w (.slice a2 l[i].words.length c2) l[i].words ∧ RdsAt m w (.slice a3 l[i].redirs.length c3) l[i].redirs ∧ LsAt m w (.slice a4 l[i].lists.length c4) l[i].lists ∧ ArsAt m w (.slice a5 l[i].arms.length c5) l[i].arms) ∧
      w.cell? ⟨b, off + i * 7, none⟩ = some (.int .i64 l[i].kind) ∧ w.cell? ⟨b, off + i * 7 + 1, none⟩ = some (.string l[i].name) ∧ w.cell? ⟨b, off + i * 7 + 2, none⟩ = some (.slice a1 l[i].assigns.length c1) ∧
      w.cell? ⟨b, off + i * 7 + 3, none⟩ = some (.slice a2 l[i].words.length c2) ∧ w.cell? ⟨b, off + i * 7 + 4, none⟩ = some (.slice a3 l[i].redirs.length c3) ∧ w.cell? ⟨b, off + i * 7 + 5, none⟩ = some (.slice a4 l[i].lists.length c4) ∧ w.cell? ⟨b, off + i * 7 + 6, none⟩ = some (.slice a5 l[i].arms.length c5) := by
  obtain ⟨m, b, off, c, av, wv, rv, lv, mv, h1, h2, h3, h4, ⟨i1, i2, i3, i4, i5⟩, h6⟩ := ns_at h i hi
  obtain ⟨a1, c1, rfl⟩ := i1.shape
  obtain ⟨a2, c2, rfl⟩ := i2.shape
  obtain ⟨a3, c3, rfl⟩ := i3.shape
  obtain ⟨a4, c4, rfl⟩ := i4.shape
  obtain ⟨a5, c5, rfl⟩ := i5.shape
  exact ⟨m, b, off, c, a1, a2, a3, a4, a5, c1, c2, c3, c4, c5, h1, h2, h3, h4, ⟨i1, i2, i3, i4, i5⟩, h6⟩
set_option maxHeartbeats 1000000 in
set_option maxRecDepth 100000 in
theorem literal37 (n : Nat) (fd : Int) (op tag : ByteArray) (v : Value) (l : List Pt) (w : World) (h : WdAt n w v l) : Calls Tryz.prog 37 #[.agg #[.int .i64 fd, .string op, .string tag, v]] w fun e w' => e = .returned (.bool (litB l)) ∧ Below w.heap.size w w' := by
  have HB := Lib.hid fun (o : Obj) => (Below.refl w.heap.size w).alloc (Nat.le_refl _) o
  rcases l with _ | ⟨p, _ | ⟨q, r⟩⟩
  · obtain ⟨a, c, rfl⟩ := wd_shape _ _ _ _ h
    clear h
    go_enter Tryz.func37, Tryz.ntmps37
    go_wp2
    go_ret
    exact ⟨rfl, HB.out _⟩
  · obtain ⟨m, b, off, c, wv, bv, _, rfl, hc, _, _, _, c0, c1, _⟩ := wd_at h 0 (by simp)
    simp only [List.getElem_cons_zero, Nat.zero_mul, Nat.add_zero, List.length_cons, List.length_nil, Nat.zero_add] at c0 c1 hc ⊢
    have c0' : (w.alloc (.cells #[.int .i64 fd, .string op, .string tag, .slice (some ⟨b, off, none⟩) 1 c] 44)).cell? ⟨b, off, none⟩ = some (.int .i64 p.kind) := cell_low c0 (HB.out _)
    have HL : Hid (litB [p] = decide (p.kind = 1)) := Lib.hid rfl
    have hk := eq_int p.kind 1
    clear h
    generalize decide (p.kind = 1) = b0 at hk HL
    cases b0
    all_goals (
      go_enter Tryz.func37, Tryz.ntmps37
      go_wp2
      go_ret
      exact ⟨by rw [HL.out]; rfl, HB.out _⟩)
  · obtain ⟨a, c, rfl⟩ := wd_shape _ _ _ _ h
    have hl := at_len _ _ _ _ h
    have HL : Hid (litB (p :: q :: r) = false) := Lib.hid rfl
    simp only [List.length_cons] at hl ⊢
    obtain ⟨t, Ht⟩ : ∃ t, Hid (r.length + 1 + 1 = t) := ⟨_, Lib.hid rfl⟩
    have h0 : ((r.length + 1 + 1 : Nat) == 0) = false := by simp
    have h1 : ((r.length + 1 + 1 : Nat) == 1) = false := by simp
    have h2 : (((r.length + 1 + 1 : Nat) : Int) == 0) = false := by rw [eq_int]; simp; omega
    have h3 : (((r.length + 1 + 1 : Nat) : Int) == 1) = false := by rw [eq_int]; simp; omega
    rw [Ht.out] at h0 h1 h2 h3 hl ⊢
    clear h
    go_enter Tryz.func37, Tryz.ntmps37
    go_wp2
    go_ret
    exact ⟨by rw [HL.out]; rfl, HB.out _⟩
/-- What Plain answers. -/
def plainV (o : Option (List UInt8 × Bool)) : Value := match o with | some (t, q) => .tuple #[.string (mk t), .bool q, .bool true] | none => .tuple #[.string ⟨#[]⟩, .bool false, .bool false]
def plusL (acc : List UInt8) (q : Bool) (o : Option (List UInt8 × Bool)) : Option (List UInt8 × Bool) := match o with | some (t, r) => some (acc ++ t, q || r) | none => none
theorem plus_nil (o : Option (List UInt8 × Bool)) : plusL [] false o = o := by rcases o with _ | ⟨t, q⟩ <;> simp [plusL]
theorem plain_cut (l : List Pt) (k : Nat) (h : k < l.length) (acc : List UInt8) (q : Bool) : plusL acc q (plainL (l.drop k)) = if l[k].kind = 1 then plusL (acc ++ ls l[k].text) (q || l[k].quoted) (plainL (l.drop (k + 1))) else none := by
  rw [List.drop_eq_getElem_cons h, plainL]
  split
  · cases plainL (l.drop (k + 1)) with
    | none => rfl
    | some x => obtain ⟨t, r⟩ := x; simp [plusL, List.append_assoc, Bool.or_assoc]
  · rfl
def Rel17 (w : World) (l : List Pt) (D : Nat) (q i : Value) (wx : World) : Prop := ∃ (k : Nat) (v : Value) (acc : List UInt8) (b : Bool), k ≤ l.length ∧ i = .int .i64 k ∧ q = .bool b ∧ IsBld w.heap.size D 70 [] v acc wx ∧ Below w.heap.size w wx ∧ acc.length ≤ k * 1048576 ∧ Hid (plainL l = plusL acc b (plainL (l.drop k)))
theorem bld_new (w : World) : IsBld w.heap.size w.heap.size 70 [] (.slice none 0 0) [] (w.alloc (.cells #[.pointer none, .slice none 0 0] 70)) :=
  .inl ⟨Nat.le_refl _, .inl ⟨rfl, rfl⟩, heap_alloc_new w _, World.ownsRow_nil _ _ _ _⟩
set_option maxHeartbeats 4000000 in
set_option maxRecDepth 100000 in
theorem plain17 (n : Nat) (v : Value) (l : List Pt) (w : World) (h : WdAt n w v l) : Calls Tryz.prog 17 #[v] w fun e w' => e = .returned (plainV (plainL l)) ∧ Below w.heap.size w w' := by
  have HL := Lib.hid h
  have hlen := at_len _ _ _ _ h
  obtain ⟨a, c, rfl⟩ := wd_shape _ _ _ _ h
  obtain ⟨q, Hq⟩ : ∃ q, Hid (l.length = q) := ⟨_, Lib.hid rfl⟩
  have HN := Lib.hid (bld_new w)
  have HB0 := Lib.hid ((Below.refl w.heap.size w).alloc (Nat.le_refl _) (.cells #[.pointer none, .slice none 0 0] 70))
  rw [Hq.out] at HL hlen ⊢
  clear h
  go_enter Tryz.func17, Tryz.ntmps17
  go_wp2
  generalize w.alloc (.cells #[.pointer none, .slice none 0 0] 70) = w1 at HN HB0 ⊢
  go_loopw [3, 10] (Rel17 w l w.heap.size) (fun _ i _ => q - (intOf i).toNat)
  case atStart => exact ⟨0, _, [], false, Nat.zero_le _, rfl, rfl, HN.out, HB0.out, Nat.zero_le _, Lib.hid (by rw [List.drop_zero, plus_nil])⟩
  case round =>
    obtain ⟨k, v, acc, b, hk, rfl, rfl, HD, HB, hacc, HR⟩ := hrel
    rename World => wx
    rw [Hq.out] at hk
    have HD := Lib.hid HD
    have HB := Lib.hid HB
    have hsz := HB.out.size
    have hDl := HD.out.lt
    by_cases hlt : k < q
    · have hlt' : k < l.length := by rw [Hq.out]; exact hlt
      obtain ⟨m, b1, off, c', wa, wc, ba, bc, _, e, hc, hfit, _, c0, c1, c2, c3, c4, c5⟩ := wd_at2 HL.out k hlt'
      have HC := Lib.hid (plain_cut l k hlt' acc b)
      obtain ⟨p, Hp⟩ : ∃ p, Hid (l[k] = p) := ⟨_, Lib.hid rfl⟩
      rw [Hp.out] at HC c0 c1 c2 c3 c4 c5 hfit
      generalize p.word.length = nw at c4
      generalize p.body.length = nb at c5
      rw [Hq.out] at e hc
      cases e
      replace c0 := cell_low c0 HB.out
      replace c1 := cell_low c1 HB.out
      replace c2 := cell_low c2 HB.out
      replace c3 := cell_low c3 HB.out
      replace c4 := cell_low c4 HB.out
      replace c5 := cell_low c5 HB.out
      have htx := hfit.t
      have hk1 := ne_int p.kind 1
      have hk2 := eq_int p.kind 1
      have HK : Hid (p.kind = 1 ↔ decide (p.kind = 1) = true) := Lib.hid (by simp)
      have HBa := Lib.hid fun (o : Obj) => (Below.refl wx.heap.size wx).alloc (Nat.le_refl _) o
      have HBb := Lib.hid fun (o : Obj) => HB.out.alloc hsz o
      generalize decide (p.kind = 1) = b0 at hk1 hk2 HK
      cases b0
      · have HE : Hid (plainL l = none) := Lib.hid (by rw [HR.out, HC.out, if_neg (fun e => by have := HK.out.1 e; cases this)])
        simp only [Bool.not_false] at hk1
        clear hfit
        go_wp2
        go_ret3
        rw [HE.out]; exact ⟨rfl, HBb.out _⟩
      · have HE : Hid (plainL l = plusL (acc ++ ls p.text) (b || p.quoted) (plainL (l.drop (k + 1)))) := Lib.hid (by rw [HR.out, HC.out, if_pos (HK.out.2 rfl)])
        have CW := Lib.hid fun (o : Obj) => wstr45 w.heap.size w.heap.size 70 [] v acc p.text (wx.alloc o) (HD.out.below (HBa.out o)) (by omega) (by simp; omega)
        simp only [Bool.not_true] at hk1
        have Hac : Hid ((acc ++ ls p.text).length ≤ (k + 1) * 1048576) := Lib.hid (by rw [List.length_append, ls_len]; omega)
        clear hfit HK hacc HC
        obtain ⟨qp, Hqp⟩ : ∃ q, Hid (p.quoted = q) := ⟨_, Lib.hid rfl⟩
        rw [Hqp.out] at c1 HE
        go_wp2_with fail
        refine (CW.out _).mono ?_
        rintro e w3 ⟨rfl, v', h3, k3, hb3⟩
        have p1 : w3.cell? ⟨wx.heap.size, 1, none⟩ = some (.bool qp) := by
          have hx := k3.keep wx.heap.size (by simp) (by omega) (fun c fr e => by rw [heap_alloc_new] at e; cases e)
          rw [heap_alloc_new] at hx
          exact cells_at hx rfl
        have H3 := Lib.hid h3
        have HB3 := Lib.hid ((HBb.out _).trans hb3)
        clear h3 k3 hb3 CW
        cases b <;> cases qp
        all_goals (
          go_wp2
          go_round
          case rel => exact ⟨k + 1, v', acc ++ ls p.text, _, hlt', by go_num, rfl, H3.out, HB3.out, Hac.out, HE⟩
          case measure => simp [intOf]; omega)
    · obtain rfl : k = q := by omega
      have HE : Hid (plainL l = some (acc, b)) := Lib.hid (by rw [HR.out, List.drop_of_length_le (by rw [Hq.out]; exact Nat.le_refl _)]; simp [plainL, plusL])
      have CS := Lib.hid (str43 w.heap.size w.heap.size 70 [] v acc wx HD.out hsz)
      go_wp2_with fail
      refine CS.out.mono ?_
      rintro e w3 ⟨rfl, hb3⟩
      have HB3 := Lib.hid (HB.out.trans hb3)
      clear hb3
      go_wp2
      go_ret3
      rw [HE.out]; exact ⟨rfl, HB3.out⟩
end Go.Proofs.YtfaohicadahcjaaGreatDoor
