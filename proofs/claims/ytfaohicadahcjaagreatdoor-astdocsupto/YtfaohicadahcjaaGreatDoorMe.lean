/- Contracts: Literal, Plain. Conditions: lengths below a bound. -/
import Derived.Test.YtfaohicadahcjaaGreatDoorI
import Derived.Deep.RegionHeld3
namespace Go.Proofs.YtfaohicadahcjaaGreatDoor
open Go.RowKit Go.PlainAid Go.ChangeShapes Go.WideShapes Go.ChangeAt
set_option linter.unusedSimpArgs false
set_option linter.unusedVariables false
/-- The same, its slices' shapes. -/
theorem wd_at2 {n : Nat} {w : World} {v : Value} {l : List Pt} (h : WdAt n w v l) (i : Nat) (hi : i < l.length) :
    ∃ m b off c wa wc ba bc, n = m + 1 ∧ v = .slice (some ⟨b, off, none⟩) l.length c ∧ l.length ≤ c ∧ PtFits l[i] ∧ (WdAt m w (.slice wa l[i].word.length wc) l[i].word ∧ NsAt m w (.slice ba l[i].body.length bc) l[i].body) ∧
      w.cell? ⟨b, off + i * 6, none⟩ = some (.int .i64 l[i].kind) ∧ w.cell? ⟨b, off + i * 6 + 1, none⟩ = some (.bool l[i].quoted) ∧ w.cell? ⟨b, off + i * 6 + 2, none⟩ = some (.string l[i].text) ∧
      w.cell? ⟨b, off + i * 6 + 3, none⟩ = some (.string l[i].op) ∧ w.cell? ⟨b, off + i * 6 + 4, none⟩ = some (.slice wa l[i].word.length wc) ∧ w.cell? ⟨b, off + i * 6 + 5, none⟩ = some (.slice ba l[i].body.length bc) := by
  obtain ⟨m, b, off, c, wv, bv, h1, h2, h3, h4, h5, h6, h7⟩ := wd_at h i hi
  obtain ⟨wa, wc, rfl⟩ := wd_shape _ _ _ _ h5
  obtain ⟨ba, bc, rfl⟩ := ns_shape _ _ _ _ h6
  exact ⟨m, b, off, c, wa, wc, ba, bc, h1, h2, h3, h4, ⟨h5, h6⟩, h7⟩
theorem ns_at2 {n : Nat} {w : World} {v : Value} {l : List Nd} (h : NsAt n w v l) (i : Nat) (hi : i < l.length) :
    ∃ m b off c a1 a2 a3 a4 a5 c1 c2 c3 c4 c5, n = m + 1 ∧ v = .slice (some ⟨b, off, none⟩) l.length c ∧ l.length ≤ c ∧ NdFits l[i] ∧
      (AssAt m w (.slice a1 l[i].assigns.length c1) l[i].assigns ∧ WsAt m w (.slice a2 l[i].words.length c2) l[i].words ∧ RdsAt m w (.slice a3 l[i].redirs.length c3) l[i].redirs ∧ LsAt m w (.slice a4 l[i].lists.length c4) l[i].lists ∧ ArsAt m w (.slice a5 l[i].arms.length c5) l[i].arms) ∧
      w.cell? ⟨b, off + i * 7, none⟩ = some (.int .i64 l[i].kind) ∧ w.cell? ⟨b, off + i * 7 + 1, none⟩ = some (.string l[i].name) ∧ w.cell? ⟨b, off + i * 7 + 2, none⟩ = some (.slice a1 l[i].assigns.length c1) ∧
      w.cell? ⟨b, off + i * 7 + 3, none⟩ = some (.slice a2 l[i].words.length c2) ∧ w.cell? ⟨b, off + i * 7 + 4, none⟩ = some (.slice a3 l[i].redirs.length c3) ∧ w.cell? ⟨b, off + i * 7 + 5, none⟩ = some (.slice a4 l[i].lists.length c4) ∧ w.cell? ⟨b, off + i * 7 + 6, none⟩ = some (.slice a5 l[i].arms.length c5) := by
  obtain ⟨m, b, off, c, av, wv, rv, lv, mv, h1, h2, h3, h4, ⟨i1, i2, i3, i4, i5⟩, h6⟩ := ns_at h i hi
  obtain ⟨a1, c1, rfl⟩ := i1.shape
  obtain ⟨a2, c2, rfl⟩ := i2.shape
  obtain ⟨a3, c3, rfl⟩ := i3.shape
  obtain ⟨a4, c4, rfl⟩ := i4.shape
  obtain ⟨a5, c5, rfl⟩ := i5.shape
  exact ⟨m, b, off, c, a1, a2, a3, a4, a5, c1, c2, c3, c4, c5, h1, h2, h3, h4, ⟨i1, i2, i3, i4, i5⟩, h6⟩
set_option maxHeartbeats 1000000 in
set_option maxRecDepth 100000 in
theorem literal37 (n : Nat) (fd : Int) (op tag : ByteArray) (v : Value) (l : List Pt) (w : World) (h : WdAt n w v l) : Calls Tryz.prog 37 #[.agg #[.int .i64 fd, .string op, .string tag, v]] w fun e w' => e = .returned (.bool (litB l)) ∧ Below w.heap.size w w' := by
  have HB := Lib.hid fun (o : Obj) => (Below.refl w.heap.size w).alloc (Nat.le_refl _) o
  rcases l with _ | ⟨p, _ | ⟨q, r⟩⟩
  · obtain ⟨a, c, rfl⟩ := wd_shape _ _ _ _ h
    clear h
    go_enter Tryz.func37, Tryz.ntmps37
    go_wp2
    go_ret
    exact ⟨rfl, HB.out _⟩
  · obtain ⟨m, b, off, c, wv, bv, _, rfl, hc, _, _, _, c0, c1, _⟩ := wd_at h 0 (by simp)
    simp only [List.getElem_cons_zero, Nat.zero_mul, Nat.add_zero, List.length_cons, List.length_nil, Nat.zero_add] at c0 c1 hc ⊢
    have c0' : (w.alloc (.cells #[.int .i64 fd, .string op, .string tag, .slice (some ⟨b, off, none⟩) 1 c] 44)).cell? ⟨b, off, none⟩ = some (.int .i64 p.kind) := cell_low c0 (HB.out _)
    have HL : Hid (litB [p] = decide (p.kind = 1)) := Lib.hid rfl
    have hk := eq_int p.kind 1
    clear h
    generalize decide (p.kind = 1) = b0 at hk HL
    cases b0
    all_goals (
      go_enter Tryz.func37, Tryz.ntmps37
      go_wp2
      go_ret
      exact ⟨by rw [HL.out]; rfl, HB.out _⟩)
  · obtain ⟨a, c, rfl⟩ := wd_shape _ _ _ _ h
    have hl := at_len _ _ _ _ h
    have HL : Hid (litB (p :: q :: r) = false) := Lib.hid rfl
    simp only [List.length_cons] at hl ⊢
    obtain ⟨t, Ht⟩ : ∃ t, Hid (r.length + 1 + 1 = t) := ⟨_, Lib.hid rfl⟩
    have h0 : ((r.length + 1 + 1 : Nat) == 0) = false := by simp
    have h1 : ((r.length + 1 + 1 : Nat) == 1) = false := by simp
    have h2 : (((r.length + 1 + 1 : Nat) : Int) == 0) = false := by rw [eq_int]; simp; omega
    have h3 : (((r.length + 1 + 1 : Nat) : Int) == 1) = false := by rw [eq_int]; simp; omega
    rw [Ht.out] at h0 h1 h2 h3 hl ⊢
    clear h
    go_enter Tryz.func37, Tryz.ntmps37
    go_wp2
    go_ret
    exact ⟨by rw [HL.out]; rfl, HB.out _⟩
/-- What Plain answers. -/
def plainV (o : Option (List UInt8 × Bool)) : Value := match o with | some (t, q) => .tuple #[.string (mk t), .bool q, .bool true] | none => .tuple #[.string ⟨#[]⟩, .bool false, .bool false]
def plusL (acc : List UInt8) (q : Bool) (o : Option (List UInt8 × Bool)) : Option (List UInt8 × Bool) := match o with | some (t, r) => some (acc ++ t, q || r) | none => none
theorem plus_nil (o : Option (List UInt8 × Bool)) : plusL [] false o = o := by rcases o with _ | ⟨t, q⟩ <;> simp [plusL]
theorem plain_cut (l : List Pt) (k : Nat) (h : k < l.length) (acc : List UInt8) (q : Bool) : plusL acc q (plainL (l.drop k)) = if l[k].kind = 1 then plusL (acc ++ ls l[k].text) (q || l[k].quoted) (plainL (l.drop (k + 1))) else none := by
  rw [List.drop_eq_getElem_cons h, plainL]
  split
  · cases plainL (l.drop (k + 1)) with
    | none => rfl
    | some x => obtain ⟨t, r⟩ := x; simp [plusL, List.append_assoc, Bool.or_assoc]
  · rfl
def Rel17 (w : World) (l : List Pt) (D : Nat) (q i : Value) (wx : World) : Prop := ∃ (k : Nat) (v : Value) (acc : List UInt8) (b : Bool), k ≤ l.length ∧ i = .int .i64 k ∧ q = .bool b ∧ IsBld w.heap.size D 70 [] v acc wx ∧ Below w.heap.size w wx ∧ acc.length ≤ k * 1048576 ∧ Hid (plainL l = plusL acc b (plainL (l.drop k)))
theorem bld_new (w : World) : IsBld w.heap.size w.heap.size 70 [] (.slice none 0 0) [] (w.alloc (.cells #[.pointer none, .slice none 0 0] 70)) :=
  .inl ⟨Nat.le_refl _, .inl ⟨rfl, rfl⟩, heap_alloc_new w _, World.ownsRow_nil _ _ _ _⟩
set_option maxHeartbeats 4000000 in
set_option maxRecDepth 100000 in
theorem plain17 (n : Nat) (v : Value) (l : List Pt) (w : World) (h : WdAt n w v l) : Calls Tryz.prog 17 #[v] w fun e w' => e = .returned (plainV (plainL l)) ∧ Below w.heap.size w w' := by
  have HL := Lib.hid h
  have hlen := at_len _ _ _ _ h
  obtain ⟨a, c, rfl⟩ := wd_shape _ _ _ _ h
  obtain ⟨q, Hq⟩ : ∃ q, Hid (l.length = q) := ⟨_, Lib.hid rfl⟩
  have HN := Lib.hid (bld_new w)
  have HB0 := Lib.hid ((Below.refl w.heap.size w).alloc (Nat.le_refl _) (.cells #[.pointer none, .slice none 0 0] 70))
  rw [Hq.out] at HL hlen ⊢
  clear h
  go_enter Tryz.func17, Tryz.ntmps17
  go_wp2
  generalize w.alloc (.cells #[.pointer none, .slice none 0 0] 70) = w1 at HN HB0 ⊢
  go_loopw [3, 10] (Rel17 w l w.heap.size) (fun _ i _ => q - (intOf i).toNat)
  case atStart => exact ⟨0, _, [], false, Nat.zero_le _, rfl, rfl, HN.out, HB0.out, Nat.zero_le _, Lib.hid (by rw [List.drop_zero, plus_nil])⟩
  case round =>
    obtain ⟨k, v, acc, b, hk, rfl, rfl, HD, HB, hacc, HR⟩ := hrel
    rename World => wx
    rw [Hq.out] at hk
    have HD := Lib.hid HD
    have HB := Lib.hid HB
    have hsz := HB.out.size
    have hDl := HD.out.lt
    by_cases hlt : k < q
    · have hlt' : k < l.length := by rw [Hq.out]; exact hlt
      obtain ⟨m, b1, off, c', wa, wc, ba, bc, _, e, hc, hfit, _, c0, c1, c2, c3, c4, c5⟩ := wd_at2 HL.out k hlt'
      have HC := Lib.hid (plain_cut l k hlt' acc b)
      obtain ⟨p, Hp⟩ : ∃ p, Hid (l[k] = p) := ⟨_, Lib.hid rfl⟩
      rw [Hp.out] at HC c0 c1 c2 c3 c4 c5 hfit
      generalize p.word.length = nw at c4
      generalize p.body.length = nb at c5
      rw [Hq.out] at e hc
      cases e
      replace c0 := cell_low c0 HB.out
      replace c1 := cell_low c1 HB.out
      replace c2 := cell_low c2 HB.out
      replace c3 := cell_low c3 HB.out
      replace c4 := cell_low c4 HB.out
      replace c5 := cell_low c5 HB.out
      have htx := hfit.t
      have hk1 := ne_int p.kind 1
      have hk2 := eq_int p.kind 1
      have HK : Hid (p.kind = 1 ↔ decide (p.kind = 1) = true) := Lib.hid (by simp)
      have HBa := Lib.hid fun (o : Obj) => (Below.refl wx.heap.size wx).alloc (Nat.le_refl _) o
      have HBb := Lib.hid fun (o : Obj) => HB.out.alloc hsz o
      generalize decide (p.kind = 1) = b0 at hk1 hk2 HK
      cases b0
      · have HE : Hid (plainL l = none) := Lib.hid (by rw [HR.out, HC.out, if_neg (fun e => by have := HK.out.1 e; cases this)])
        simp only [Bool.not_false] at hk1
        clear hfit
        go_wp2
        go_ret3
        rw [HE.out]; exact ⟨rfl, HBb.out _⟩
      · have HE : Hid (plainL l = plusL (acc ++ ls p.text) (b || p.quoted) (plainL (l.drop (k + 1)))) := Lib.hid (by rw [HR.out, HC.out, if_pos (HK.out.2 rfl)])
        have CW := Lib.hid fun (o : Obj) => wstr45 w.heap.size w.heap.size 70 [] v acc p.text (wx.alloc o) (HD.out.below (HBa.out o)) (by omega) (by simp; omega)
        simp only [Bool.not_true] at hk1
        have Hac : Hid ((acc ++ ls p.text).length ≤ (k + 1) * 1048576) := Lib.hid (by rw [List.length_append, ls_len]; omega)
        clear hfit HK hacc HC
        obtain ⟨qp, Hqp⟩ : ∃ q, Hid (p.quoted = q) := ⟨_, Lib.hid rfl⟩
        rw [Hqp.out] at c1 HE
        go_wp2_with fail
        refine (CW.out _).mono ?_
        rintro e w3 ⟨rfl, v', h3, k3, hb3⟩
        have p1 : w3.cell? ⟨wx.heap.size, 1, none⟩ = some (.bool qp) := by
          have hx := k3.keep wx.heap.size (by simp) (by omega) (fun c fr e => by rw [heap_alloc_new] at e; cases e)
          rw [heap_alloc_new] at hx
          exact cells_at hx rfl
        have H3 := Lib.hid h3
        have HB3 := Lib.hid ((HBb.out _).trans hb3)
        clear h3 k3 hb3 CW
        cases b <;> cases qp
        all_goals (
          go_wp2
          go_round
          case rel => exact ⟨k + 1, v', acc ++ ls p.text, _, hlt', by go_num, rfl, H3.out, HB3.out, Hac.out, HE⟩
          case measure => simp [intOf]; omega)
    · obtain rfl : k = q := by omega
      have HE : Hid (plainL l = some (acc, b)) := Lib.hid (by rw [HR.out, List.drop_of_length_le (by rw [Hq.out]; exact Nat.le_refl _)]; simp [plainL, plusL])
      have CS := Lib.hid (str43 w.heap.size w.heap.size 70 [] v acc wx HD.out hsz)
      go_wp2_with fail
      refine CS.out.mono ?_
      rintro e w3 ⟨rfl, hb3⟩
      have HB3 := Lib.hid (HB.out.trans hb3)
      clear hb3
      go_wp2
      go_ret3
      rw [HE.out]; exact ⟨rfl, HB3.out⟩
end Go.Proofs.YtfaohicadahcjaaGreatDoor

/- Contracts: the writer's text and escaped. Conditions: lengths below a bound. -/
namespace Go.Proofs.YtfaohicadahcjaaGreatDoor
open Go.RowKit Go.PlainAid Go.ChangeShapes Go.WideShapes Go.ChangeAt
set_option linter.unusedSimpArgs false
set_option linter.unusedVariables false
theorem ke_cell {D : Nat} {w w' : World} (h : Ke D w w') {g : Nat} {cs : Array Value} {t : TypeId} {fr : Nat × Nat} (hg : w.heap[g]? = some (.cells cs t fr)) (hD : g ≠ D) (ht : t ≠ 5) : w'.heap[g]? = some (.cells cs t fr) := by
  rw [h.keep g (lt_of_block hg) hD (fun c fr' e => by rw [hg] at e; cases e; exact ht rfl), hg]
theorem IsBld.ty {B D : Nat} {T : TypeId} {rest : List Value} {v : Value} {l : List UInt8} {w : World} (h : IsBld B D T rest v l w) : ∃ cs, w.heap[D]? = some (.cells cs T (0, 0)) := h.elim (fun h => ⟨_, h.blk⟩) (fun h => ⟨_, h.blk⟩)
theorem ne_ty {w : World} {g D : Nat} {cs cs' : Array Value} {t t' : TypeId} {fr fr' : Nat × Nat} (h : w.heap[g]? = some (.cells cs t fr)) (h' : w.heap[D]? = some (.cells cs' t' fr')) (ht : t ≠ t') : g ≠ D := by
  rintro rfl; rw [h] at h'; cases h'; exact ht rfl
/-- A list of texts that a call was given, in a block of its own. -/
def Lits (w : World) (v : Value) (ns : List ByteArray) : Prop := ∃ g fr, v = .slice (some ⟨g, 0, none⟩) ns.length ns.length ∧ w.heap[g]? = some (.cells (ns.map Value.string).toArray 9 fr)
theorem Lits.keep {w w' : World} {v : Value} {ns : List ByteArray} {D : Nat} (h : Lits w v ns) (hk : Ke D w w') {cs : Array Value} (hD : w.heap[D]? = some (.cells cs 72 (0, 0))) : Lits w' v ns := by
  obtain ⟨g, fr, e, hg⟩ := h
  exact ⟨g, fr, e, ke_cell hk hg (ne_ty hg hD (by decide)) (by decide)⟩
/-- What a method of the writer does: it writes a text. -/
def Wrote (B D : Nat) (rest : List Value) (l t : List UInt8) (w : World) (e : Ending) (w' : World) : Prop :=
  e = .returned (.tuple #[]) ∧ ∃ v', IsBld B D 72 rest v' (l ++ t) w' ∧ Ke D w w' ∧ Below B w w'
def flatS (ns : List ByteArray) : List UInt8 := (ns.map ls).flatten
theorem flat_cut (ns : List ByteArray) (k : Nat) (h : k < ns.length) : flatS (ns.drop k) = ls ns[k] ++ flatS (ns.drop (k + 1)) := by
  unfold flatS; rw [List.drop_eq_getElem_cons h]; rfl
def Rel75 (B D : Nat) (rest : List Value) (l : List UInt8) (ns : List ByteArray) (sv : Value) (w : World) (i : Value) (wx : World) : Prop := ∃ (k : Nat) (v : Value) (acc : List UInt8), k ≤ ns.length ∧ i = .int .i64 k ∧ IsBld B D 72 rest v acc wx ∧ Lits wx sv ns ∧ Ke D w wx ∧ Below B w wx ∧ Hid (l ++ flatS ns = acc ++ flatS (ns.drop k))
set_option maxHeartbeats 4000000 in
set_option maxRecDepth 100000 in
theorem text75 (B D : Nat) (rest : List Value) (v : Value) (l : List UInt8) (ns : List ByteArray) (sv : Value) (w : World) (h : IsBld B D 72 rest v l w) (hs : Lits w sv ns) (hlen : (l ++ flatS ns).length ≤ 140737488351232) (hn : ns.length ≤ 100) (hBw : B ≤ w.heap.size) :
    Calls Tryz.prog 75 #[.pointer (some ⟨D, 0, none⟩), sv] w (Wrote B D rest l (flatS ns) w) := by
  have HS := Lib.hid (show Rel75 B D rest l ns sv w (.int .i64 0) w from ⟨0, v, l, Nat.zero_le _, rfl, h, hs, Ke.refl _ _, Below.refl _ _, Lib.hid (by simp)⟩)
  have HBw := Lib.hid hBw
  obtain ⟨g, fr, rfl, _⟩ := hs
  obtain ⟨q, Hq⟩ : ∃ q, Hid (ns.length = q) := ⟨_, Lib.hid rfl⟩
  have HL := Lib.hid hlen
  rw [Hq.out] at hn HS ⊢
  clear h hlen hBw
  go_enter Tryz.func75, Tryz.ntmps75
  go_wp2
  go_loopw [8] (Rel75 B D rest l ns (.slice (some ⟨g, 0, none⟩) q q) w) (fun i _ => q - (intOf i).toNat)
  case atStart => exact HS.out
  case round =>
    clear HS
    obtain ⟨k, v, acc, hk, rfl, HD, HT, HK, HB, HR⟩ := hrel
    rename World => wx
    rw [Hq.out] at hk
    have HD := Lib.hid HD
    have HT := Lib.hid HT
    have HK := Lib.hid HK
    have HB := Lib.hid HB
    by_cases hlt : k < q
    · have hlt' : k < ns.length := by rw [Hq.out]; exact hlt
      obtain ⟨g', fr', e, hg⟩ := HT.out
      rw [Hq.out] at e
      cases e
      obtain ⟨x, Hx⟩ : ∃ x, Hid (ns[k] = x) := ⟨_, Lib.hid rfl⟩
      have hc : wx.cell? ⟨g, k, none⟩ = some (.string x) := cells_at hg (by rw [List.getElem?_toArray, List.getElem?_map, List.getElem?_eq_getElem hlt', ← Hx.out]; rfl)
      have HC := Lib.hid (flat_cut ns k hlt')
      rw [Hx.out] at HC
      have hal : acc.length + x.size ≤ 140737488351232 := by
        have h1 := HL.out
        rw [HR.out, HC.out] at h1
        simp only [List.length_append, ls_len] at h1
        omega
      have CW := Lib.hid (wstr45 B D 72 rest v acc x wx HD.out hal (Nat.le_trans HBw.out HB.out.size))
      clear hg hal
      go_wp2_with fail
      refine CW.out.mono ?_
      rintro e w3 ⟨rfl, v', h3, k3, b3⟩
      obtain ⟨cs, hcs⟩ := HD.out.ty
      have H := Lib.hid (show Rel75 B D rest l ns (.slice (some ⟨g, 0, none⟩) q q) w (.int .i64 ((k : Int) + 1)) w3 from ⟨k + 1, v', _, hlt', by go_num, h3, HT.out.keep k3 hcs, HK.out.trans k3, HB.out.trans b3, Lib.hid (by rw [HR.out, HC.out, List.append_assoc])⟩)
      clear h3 k3 b3 hcs
      go_wp2
      go_round
      case rel => exact H.out
      case measure => simp [intOf]; omega
    · obtain rfl : k = q := by omega
      have HE : Hid (l ++ flatS ns = acc) := Lib.hid (by rw [HR.out, List.drop_of_length_le (by rw [Hq.out]; exact Nat.le_refl _)]; simp [flatS])
      go_wp2
      go_end0
      exact ⟨rfl, v, by rw [HE.out]; exact HD.out, HK.out, HB.out⟩
theorem esc_cut (s : ByteArray) (k : Nat) (h : k < s.size) (b : Bool) (hb : hasC [92, 36, 96] (at0 (ls s) k) = b) : escL ((ls s).drop k) = (if b = true then [92] else []) ++ (UInt8.ofNat (at0 (ls s) k) :: escL ((ls s).drop (k + 1))) := by
  rw [ls_cut s k h, escL]
  have : b = decide (UInt8.ofNat (at0 (ls s) k) = 92 ∨ UInt8.ofNat (at0 (ls s) k) = 36 ∨ UInt8.ofNat (at0 (ls s) k) = 96) := by
    rw [← hb]; unfold hasC
    rw [Bool.eq_iff_iff]; simp
  by_cases e : UInt8.ofNat (at0 (ls s) k) = 92 ∨ UInt8.ofNat (at0 (ls s) k) = 36 ∨ UInt8.ofNat (at0 (ls s) k) = 96
  · rw [if_pos e, this, decide_eq_true e]; rfl
  · rw [if_neg e, this, decide_eq_false e]; rfl
def Rel54 (B D : Nat) (rest : List Value) (l : List UInt8) (s : ByteArray) (w : World) (i : Value) (wx : World) : Prop := ∃ (k : Nat) (v : Value) (acc : List UInt8), k ≤ s.size ∧ i = .int .i64 k ∧ IsBld B D 72 rest v acc wx ∧ Ke D w wx ∧ Below B w wx ∧ acc.length ≤ l.length + k * 2 ∧ Hid (l ++ escL (ls s) = acc ++ escL ((ls s).drop k))
set_option maxHeartbeats 8000000 in
set_option maxRecDepth 100000 in
theorem escaped54 (B D : Nat) (rest : List Value) (v : Value) (l : List UInt8) (s : ByteArray) (w : World) (h : IsBld B D 72 rest v l w) (hlen : l.length + s.size * 2 ≤ 140737488351000) (hBw : B ≤ w.heap.size) :
    Calls Tryz.prog 54 #[.pointer (some ⟨D, 0, none⟩), .string s] w (Wrote B D rest l (escL (ls s)) w) := by
  have HS := Lib.hid (show Rel54 B D rest l s w (.int .i64 0) w from ⟨0, v, l, Nat.zero_le _, rfl, h, Ke.refl _ _, Below.refl _ _, by omega, Lib.hid (by simp)⟩)
  have HBw := Lib.hid hBw
  have hss : s.size ≤ 140737488351000 := by omega
  have HL := Lib.hid hlen
  have hb := get_bt s
  clear h hlen hBw
  go_enter Tryz.func54, Tryz.ntmps54
  go_wp2
  go_loopw [7] (Rel54 B D rest l s w) (fun i _ => s.size - (intOf i).toNat)
  case atStart => exact HS.out
  case round =>
    clear HS
    obtain ⟨k, v, acc, hk, rfl, HD, HK, HB, hac, HR⟩ := hrel
    rename World => wx
    have HD := Lib.hid HD
    have HK := Lib.hid HK
    have HB := Lib.hid HB
    have HA := Lib.hid hac
    clear hac
    by_cases hlt : k < s.size
    · have C48 := Lib.hid fun W => ib48 ⟨#[92, 36, 96]⟩ (at0 (ls s) k) W
      rw [← bt_at, show ls ⟨#[92, 36, 96]⟩ = [92, 36, 96] from rfl] at C48
      have HC := Lib.hid fun b hb => esc_cut s k hlt b hb
      obtain ⟨b0, H0⟩ : ∃ b, Hid (hasC [92, 36, 96] (at0 (ls s) k) = b) := ⟨_, Lib.hid rfl⟩
      rw [H0.out] at C48
      have HC := Lib.hid (HC.out b0 H0.out)
      have hbu : (bt s k : Int) = ((UInt8.ofNat (at0 (ls s) k)).toNat : Int) := by rw [ofNat_toNat, bt_at]
      have HU := Lib.hid hbu
      clear hbu
      obtain ⟨u, Hu⟩ : ∃ u, Hid (UInt8.ofNat (at0 (ls s) k) = u) := ⟨_, Lib.hid rfl⟩
      rw [Hu.out] at HC HU
      have CB := Lib.hid fun (v1 : Value) (a1 : List UInt8) (c : UInt8) (W : World) (hW : IsBld B D 72 rest v1 a1 W) (hl : a1.length + 1 ≤ 140737488351232) (hB : B ≤ W.heap.size) => wbyte73 B D 72 rest v1 a1 c W hW hl hB
      cases b0
      · have HZ := Lib.hid (CB.out v acc u wx.drew (HD.out.below ((Below.refl _ wx).drew)) (by have := HL.out; have := HA.out; omega) (Nat.le_trans HBw.out HB.out.size))
        rw [← HU.out] at HZ
        have HF := Lib.hid fun (e : Ending) (w' : World) (hh : e = .returned .nilIface ∧ ∃ v', IsBld B D 72 rest v' (acc ++ [u]) w' ∧ Ke D wx.drew w' ∧ Below B wx.drew w') => (show e = .returned .nilIface ∧ Rel54 B D rest l s w (.int .i64 ((k : Int) + 1)) w' from ⟨hh.1, by
          obtain ⟨_, v', h1, h2, h3⟩ := hh
          exact ⟨k + 1, v', _, hlt, by go_num, h1, HK.out.trans ⟨h2.size, h2.keep⟩, HB.out.trans (((Below.refl _ wx).drew).trans h3), by have := HA.out; simp only [List.length_append, List.length_cons, List.length_nil]; omega, Lib.hid (by rw [HR.out, HC.out]; simp)⟩⟩)
        go_wp2_with (go_at_call 48; refine (C48.out _).mono ?_; rintro e w' ⟨⟨x, rfl, hx1, hx2⟩, rfl⟩)
        go_region_held3 (fun wy => True) (first | trivial) (first | (go_at_call 73; refine HZ.out.mono ?_; intro e w' hh; obtain ⟨rfl, hr⟩ := HF.out e w' hh))
        go_wp2
        go_round
        case rel => exact hr
        case measure => simp [intOf]; omega
      · have HZ1 : Hid (Calls Tryz.prog 73 #[.pointer (some ⟨D, 0, none⟩), .int .u8 92] wx fun e w' => e = .returned .nilIface ∧ ∃ v', IsBld B D 72 rest v' (acc ++ [92]) w' ∧ Ke D wx w' ∧ Below B wx w') := Lib.hid (CB.out v acc 92 wx HD.out (by have := HL.out; have := HA.out; omega) (Nat.le_trans HBw.out HB.out.size))
        go_wp2_with (go_at_call 48; refine (C48.out _).mono ?_; rintro e w' ⟨⟨x, rfl, hx1, hx2⟩, rfl⟩)
        refine HZ1.out.mono ?_
        rintro e w3 ⟨rfl, v3, h3, k3, b3⟩
        have HB3 := Lib.hid (HB.out.trans b3)
        have HK3 := Lib.hid (HK.out.trans k3)
        have HZ := Lib.hid (CB.out v3 (acc ++ [92]) u w3.drew (h3.below ((Below.refl _ w3).drew)) (by have := HL.out; have := HA.out; simp only [List.length_append, List.length_cons, List.length_nil]; omega) (Nat.le_trans HBw.out HB3.out.size))
        rw [← HU.out] at HZ
        have HF := Lib.hid fun (e : Ending) (w' : World) (hh : e = .returned .nilIface ∧ ∃ v', IsBld B D 72 rest v' (acc ++ [92] ++ [u]) w' ∧ Ke D w3.drew w' ∧ Below B w3.drew w') => (show e = .returned .nilIface ∧ Rel54 B D rest l s w (.int .i64 ((k : Int) + 1)) w' from ⟨hh.1, by
          obtain ⟨_, v', h1, h2, h3⟩ := hh
          exact ⟨k + 1, v', _, hlt, by go_num, h1, HK3.out.trans ⟨h2.size, h2.keep⟩, HB3.out.trans (((Below.refl _ w3).drew).trans h3), by have := HA.out; simp only [List.length_append, List.length_cons, List.length_nil]; omega, Lib.hid (by rw [HR.out, HC.out]; simp)⟩⟩)
        clear h3 k3 b3
        go_wp2_with fail
        go_region_held3 (fun wy => True) (first | trivial) (first | (go_at_call 73; refine HZ.out.mono ?_; intro e w' hh; obtain ⟨rfl, hr⟩ := HF.out e w' hh))
        go_wp2
        go_round
        case rel => exact hr
        case measure => simp [intOf]; omega
    · obtain rfl : k = s.size := by omega
      have HE : Hid (l ++ escL (ls s) = acc) := Lib.hid (by rw [HR.out, drop_end]; simp [escL])
      go_wp2
      go_end0
      exact ⟨rfl, v, by rw [HE.out]; exact HD.out, HK.out, HB.out⟩
set_option maxHeartbeats 1000000 in
set_option maxRecDepth 100000 in
theorem word105_nil (D : Nat) (a : Option Addr) (c : Nat) (w : World) : Calls Tryz.prog 105 #[.pointer (some ⟨D, 0, none⟩), .slice a 0 c] w fun e w' => e = .returned (.tuple #[]) ∧ w = w' := by
  go_enter Tryz.func105, Tryz.ntmps105
  go_wp2
  go_loop [8] (fun i => i = .int .i64 0) (fun i => 0)
  case atStart => rfl
  case round =>
    subst hrel
    go_wp2
    go_end0
    exact ⟨rfl, rfl⟩
end Go.Proofs.YtfaohicadahcjaaGreatDoor

/- Contracts: parts of a here-document. Conditions: lengths below a bound. -/
namespace Go.Proofs.YtfaohicadahcjaaGreatDoor
open Go.RowKit Go.PlainAid Go.ChangeShapes Go.WideShapes Go.ChangeAt
set_option linter.unusedSimpArgs false
set_option linter.unusedVariables false
theorem em_lit {s : ByteArray} (h : emB s = true) : s = ⟨#[]⟩ := ls_inj (by unfold emB at h; simpa using h)
theorem Wrote.trans {B D : Nat} {rest : List Value} {l t u : List UInt8} {w w1 w' : World} {v : Value} {e : Ending} (k : Ke D w w1) (b : Below B w w1) (h2 : Wrote B D rest (l ++ t) u w1 e w') : Wrote B D rest l (t ++ u) w e w' := by
  obtain ⟨he, v', h, k2, b2⟩ := h2
  exact ⟨he, v', by rw [← List.append_assoc]; exact h, k.trans k2, b.trans b2⟩
theorem lits_new (w : World) (ns : List ByteArray) : Lits (w.alloc (.cells (ns.map Value.string).toArray 9)) (.slice (some ⟨w.heap.size, 0, none⟩) ns.length ns.length) ns := ⟨_, _, rfl, heap_alloc_new w _⟩
/-- text at a list of texts that was just made. -/
theorem text_new (B D : Nat) (rest : List Value) (v : Value) (l : List UInt8) (ns : List ByteArray) (w : World) (h : IsBld B D 72 rest v l w) (hlen : (l ++ flatS ns).length ≤ 140737488351232) (hn : ns.length ≤ 100) (hBw : B ≤ w.heap.size) :
    Calls Tryz.prog 75 #[.pointer (some ⟨D, 0, none⟩), .slice (some ⟨w.heap.size, 0, none⟩) ns.length ns.length] (w.alloc (.cells (ns.map Value.string).toArray 9)) (Wrote B D rest l (flatS ns) w) := by
  have hb := (Below.refl w.heap.size w).alloc (Nat.le_refl _) (.cells (ns.map Value.string).toArray 9)
  refine (text75 B D rest v l ns _ _ (h.below hb) (lits_new w ns) hlen hn (by simp; omega)).mono ?_
  rintro e w' ⟨he, v', h1, h2, h3⟩
  exact ⟨he, v', h1, (Ke.of_below hb).trans h2, ((Below.refl B w).alloc hBw _).trans h3⟩
set_option maxHeartbeats 2000000 in
set_option maxRecDepth 100000 in
theorem param76_doc (B D : Nat) (rest : List Value) (v : Value) (l : List UInt8) (k : Int) (q : Bool) (t : ByteArray) (wa ba : Option Addr) (wc nb bc : Nat) (w : World) (h : IsBld B D 72 rest v l w) (hlen : l.length + t.size ≤ 140737488351000) (hBw : B ≤ w.heap.size) :
    Calls Tryz.prog 76 #[.pointer (some ⟨D, 0, none⟩), .agg #[.int .i64 k, .bool q, .string t, .string ⟨#[]⟩, .slice wa 0 wc, .slice ba nb bc]] w (Wrote B D rest l ([36, 123] ++ ls t ++ [125]) w) := by
  have hbb := (Below.refl w.heap.size w).alloc (Nat.le_refl _) (.cells #[.int .i64 k, .bool q, .string t, .string ⟨#[]⟩, .slice wa 0 wc, .slice ba nb bc] 55)
  have hh := heap_alloc_new w (.cells #[.int .i64 k, .bool q, .string t, .string ⟨#[]⟩, .slice wa 0 wc, .slice ba nb bc] 55)
  have HH := Lib.hid hh
  have h1 := h.below hbb
  have hBB := Lib.hid ((Below.refl B w).alloc hBw (.cells #[.int .i64 k, .bool q, .string t, .string ⟨#[]⟩, .slice wa 0 wc, .slice ba nb bc] 55))
  have HKe : Hid (Ke D w (w.alloc (.cells #[.int .i64 k, .bool q, .string t, .string ⟨#[]⟩, .slice wa 0 wc, .slice ba nb bc] 55))) := Lib.hid (Ke.of_below hbb)
  have e : ((⟨#[]⟩ : ByteArray).toList == [108, 101, 110]) = false := by rw [toList_data]; rfl
  have C1 := Lib.hid (text_new B D rest v l [⟨#[36, 123]⟩, t, ⟨#[]⟩] _ h1 (by simp [flatS, ls_len]; omega) (by simp) (Nat.le_trans hBw hBB.out.size))
  obtain ⟨cs, hcs⟩ := h1.ty
  have HNe := Lib.hid (ne_ty hh hcs (by decide))
  have HLn := Lib.hid hlen
  have HBw := Lib.hid hBw
  clear h h1 hbb hcs hlen hBw
  go_enter Tryz.func76, Tryz.ntmps76
  go_upto_region 1 with fail
  generalize w.alloc (.cells #[.int .i64 k, .bool q, .string t, .string ⟨#[]⟩, .slice wa 0 wc, .slice ba nb bc] 55) = w1 at hBB HKe HH hh C1 HNe ⊢
  have p2 : w1.cell? ⟨w.heap.size, 2, none⟩ = some (.string t) := cells_at hh (i := 2) rfl
  have p3 : w1.cell? ⟨w.heap.size, 3, none⟩ = some (.string ⟨#[]⟩) := cells_at hh (i := 3) rfl
  clear hh
  go_wp2_with fail
  refine C1.out.mono ?_
  rintro e w2 ⟨rfl, v2, h2, k2, b2⟩
  have hh := ke_cell k2 HH.out HNe.out (by decide)
  have p4 : w2.cell? ⟨w.heap.size, 4, none⟩ = some (.slice wa 0 wc) := cells_at hh (i := 4) rfl
  have HB2 := Lib.hid (hBB.out.trans b2)
  have HK2 := Lib.hid (HKe.out.trans k2)
  have C2 := Lib.hid (text_new B D rest v2 _ [⟨#[125]⟩] w2 h2 (by have := HLn.out; simp [flatS, ls_len]; omega) (by simp) (Nat.le_trans HBw.out HB2.out.size))
  have C3 := Lib.hid fun W => word105_nil D wa wc W
  clear h2 k2 b2 hh p2 p3
  go_wp2_with (go_at_call 105; refine (C3.out _).mono ?_; rintro e w' ⟨rfl, rfl⟩)
  refine C2.out.mono ?_
  intro e w3 hw
  have HW := Lib.hid (show Wrote B D rest l ([36, 123] ++ ls t ++ [125]) w e w3 from by
    have := Wrote.trans (v := .nilFunc) HK2.out HB2.out hw
    simpa [flatS, ls] using this)
  obtain ⟨rfl, _⟩ := hw
  go_wp2
  go_end0
  exact HW.out
set_option maxHeartbeats 4000000 in
set_option maxRecDepth 100000 in
theorem part55_doc (B D : Nat) (rest : List Value) (v : Value) (l : List UInt8) (p : Pt) (wa ba : Option Addr) (nw wc nb bc : Nat) (w : World) (h : IsBld B D 72 rest v l w) (hk : p.kind = 2 ∨ p.kind = 4) (ho : p.op = ⟨#[]⟩) (hw : p.kind = 2 → nw = 0) (hlen : l.length + p.text.size ≤ 140737488350000) (hBw : B ≤ w.heap.size) :
    Calls Tryz.prog 55 #[.pointer (some ⟨D, 0, none⟩), .agg #[.int .i64 p.kind, .bool false, .string p.text, .string p.op, .slice wa nw wc, .slice ba nb bc]] w (Wrote B D rest l (docP p) w) := by
  obtain ⟨k, t, o, HX⟩ : ∃ k t o, Hid (p.kind = k ∧ p.text = t ∧ p.op = o) := ⟨_, _, _, Lib.hid ⟨rfl, rfl, rfl⟩⟩
  rw [HX.out.1] at hk hw ⊢
  rw [HX.out.2.1] at hlen ⊢
  rw [HX.out.2.2] at ho ⊢
  subst ho
  have hbb := (Below.refl w.heap.size w).alloc (Nat.le_refl _) (.cells #[.int .i64 k, .bool false, .string t, .string ⟨#[]⟩, .slice wa nw wc, .slice ba nb bc] 55)
  have hh := heap_alloc_new w (.cells #[.int .i64 k, .bool false, .string t, .string ⟨#[]⟩, .slice wa nw wc, .slice ba nb bc] 55)
  have h1 := h.below hbb
  have hBB := Lib.hid ((Below.refl B w).alloc hBw (.cells #[.int .i64 k, .bool false, .string t, .string ⟨#[]⟩, .slice wa nw wc, .slice ba nb bc] 55))
  have HKe : Hid (Ke D w (w.alloc (.cells #[.int .i64 k, .bool false, .string t, .string ⟨#[]⟩, .slice wa nw wc, .slice ba nb bc] 55))) := Lib.hid (Ke.of_below hbb)
  rcases hk with rfl | rfl
  · obtain rfl := hw rfl
    have HP : Hid (docP p = [36, 123] ++ ls t ++ [125]) := Lib.hid (by unfold docP; rw [HX.out.1, HX.out.2.1]; rfl)
    have C1 := Lib.hid (param76_doc B D rest v l 2 false t wa ba wc nb bc _ h1 (by omega) (Nat.le_trans hBw hBB.out.size))
    rw [HP.out]
    clear h h1 hbb hlen hBw hw
    go_enter Tryz.func55, Tryz.ntmps55
    go_upto_region 1 with fail
    generalize w.alloc (.cells #[.int .i64 2, .bool false, .string t, .string ⟨#[]⟩, .slice wa 0 wc, .slice ba nb bc] 55) = w1 at hBB HKe hh C1 ⊢
    have p0 : w1.cell? ⟨w.heap.size, 0, none⟩ = some (.int .i64 2) := cells_at hh (i := 0) rfl
    have p1 : w1.cell? ⟨w.heap.size, 1, none⟩ = some (.bool false) := cells_at hh (i := 1) rfl
    have p2 : w1.cell? ⟨w.heap.size, 2, none⟩ = some (.string t) := cells_at hh (i := 2) rfl
    have p3 : w1.cell? ⟨w.heap.size, 3, none⟩ = some (.string ⟨#[]⟩) := cells_at hh (i := 3) rfl
    have p4 : w1.cell? ⟨w.heap.size, 4, none⟩ = some (.slice wa 0 wc) := cells_at hh (i := 4) rfl
    have p5 : w1.cell? ⟨w.heap.size, 5, none⟩ = some (.slice ba nb bc) := cells_at hh (i := 5) rfl
    clear hh
    go_wp2_with fail
    refine C1.out.mono ?_
    rintro e w2 ⟨rfl, v2, h2, k2, b2⟩
    have HW := Lib.hid (show Wrote B D rest l ([36, 123] ++ ls t ++ [125]) w (.returned (.tuple #[])) w2 from ⟨rfl, v2, h2, HKe.out.trans k2, hBB.out.trans b2⟩)
    clear h2 k2 b2
    go_wp2
    go_end0
    exact HW.out
  · have HP : Hid (docP p = [36, 40, 40] ++ ls t ++ [41, 41]) := Lib.hid (by unfold docP; rw [HX.out.1, HX.out.2.1]; rfl)
    have C1 := Lib.hid (text_new B D rest v l [⟨#[36, 40, 40]⟩, t, ⟨#[41, 41]⟩] _ h1 (by simp [flatS, ls_len]; omega) (by simp) (Nat.le_trans hBw hBB.out.size))
    rw [HP.out]
    clear h h1 hbb hlen hBw hw
    go_enter Tryz.func55, Tryz.ntmps55
    go_upto_region 1 with fail
    generalize w.alloc (.cells #[.int .i64 4, .bool false, .string t, .string ⟨#[]⟩, .slice wa nw wc, .slice ba nb bc] 55) = w1 at hBB HKe hh C1 ⊢
    have p0 : w1.cell? ⟨w.heap.size, 0, none⟩ = some (.int .i64 4) := cells_at hh (i := 0) rfl
    have p1 : w1.cell? ⟨w.heap.size, 1, none⟩ = some (.bool false) := cells_at hh (i := 1) rfl
    have p2 : w1.cell? ⟨w.heap.size, 2, none⟩ = some (.string t) := cells_at hh (i := 2) rfl
    clear hh
    go_wp2_with fail
    refine C1.out.mono ?_
    rintro e w2 ⟨rfl, v2, h2, k2, b2⟩
    have HW := Lib.hid (show Wrote B D rest l ([36, 40, 40] ++ ls t ++ [41, 41]) w (.returned (.tuple #[])) w2 from ⟨rfl, v2, by simpa [flatS, ls] using h2, HKe.out.trans k2, hBB.out.trans b2⟩)
    clear h2 k2 b2
    go_wp2
    go_end0
    exact HW.out
end Go.Proofs.YtfaohicadahcjaaGreatDoor

/- Contracts: Doc. Conditions: lengths below a bound. -/
namespace Go.Proofs.YtfaohicadahcjaaGreatDoor
open Go.RowKit Go.PlainAid Go.ChangeShapes Go.WideShapes Go.ChangeAt
set_option linter.unusedSimpArgs false
set_option linter.unusedVariables false
/-- May a word be a here-document's? (It may be a word.) -/
def DocFit (l : List Pt) : Prop := ∀ p ∈ l, (p.kind = 1 ∨ p.kind = 2 ∨ p.kind = 4) ∧ p.op = ⟨#[]⟩ ∧ (p.kind = 2 → p.word.length = 0)
def Rel35 (w : World) (D : Nat) (l : List Pt) (i : Value) (wx : World) : Prop := ∃ (k : Nat) (v : Value) (acc : List UInt8), k ≤ l.length ∧ i = .int .i64 k ∧ IsBld w.heap.size D 72 [.slice none 0 0] v acc wx ∧ Below w.heap.size w wx ∧ acc.length ≤ k * 2097160 ∧ Hid ((l.map docP).flatten = acc ++ ((l.drop k).map docP).flatten)
theorem docs_cut (l : List Pt) (k : Nat) (h : k < l.length) : ((l.drop k).map docP).flatten = docP l[k] ++ ((l.drop (k + 1)).map docP).flatten := by
  rw [List.drop_eq_getElem_cons h]; rfl
theorem esc_len : ∀ l : List UInt8, (escL l).length ≤ l.length * 2
  | [] => Nat.le_refl _
  | b :: r => by
    have := esc_len r
    rw [escL]
    split <;> simp only [List.length_cons] <;> omega
theorem docP_len (p : Pt) (h : p.text.size ≤ 1048576) : (docP p).length ≤ 2097160 := by
  unfold docP
  split
  · have := esc_len (ls p.text); rw [ls_len] at this; omega
  · split
    · simp only [List.length_append, ls_len, List.length_cons, List.length_nil]; omega
    · split
      · simp only [List.length_append, ls_len, List.length_cons, List.length_nil]; omega
      · simp
theorem lit_plain (l : List Pt) (h : litB l = true) : ∃ q, plainL l = some (docL l, q) := by
  rcases l with _ | ⟨p, _ | ⟨r, s⟩⟩
  · exact ⟨false, rfl⟩
  · have hk : p.kind = 1 := by simpa [litB] using h
    refine ⟨p.quoted, ?_⟩
    unfold docL
    rw [h]
    simp [plainL, hk]
  · simp [litB] at h
theorem docL_not (l : List Pt) (h : litB l = false) : docL l = (l.map docP).flatten := by unfold docL; rw [h]; rfl
theorem wr_new (w B : World) : True := trivial
theorem wrt_new (B : Nat) (w : World) (h : B ≤ w.heap.size) : IsBld B w.heap.size 72 [.slice none 0 0] (.slice none 0 0) [] (w.alloc (.cells #[.pointer none, .slice none 0 0, .slice none 0 0] 72)) :=
  .inl ⟨h, .inr ⟨rfl, _, rfl⟩, heap_alloc_new w _, World.ownsRow_nil _ _ _ _⟩
set_option maxHeartbeats 8000000 in
set_option maxRecDepth 100000 in
theorem doc35 (n : Nat) (fd : Int) (op tag : ByteArray) (a : Option Addr) (c : Nat) (l : List Pt) (w : World) (h : WdAt n w (.slice a l.length c) l) (hf : DocFit l) : Calls Tryz.prog 35 #[.agg #[.int .i64 fd, .string op, .string tag, .slice a l.length c]] w fun e w' => e = .returned (.string (mk (docL l))) ∧ Below w.heap.size w w' := by
  have HL := Lib.hid h
  have hlen := at_len _ _ _ _ h
  have HDF := Lib.hid hf
  have hbb := (Below.refl w.heap.size w).alloc (Nat.le_refl _) (.cells #[.int .i64 fd, .string op, .string tag, .slice a l.length c] 44)
  have HB0 := Lib.hid hbb
  have hh := heap_alloc_new w (.cells #[.int .i64 fd, .string op, .string tag, .slice a l.length c] 44)
  have C37 := Lib.hid (fun W (hW : WdAt n W (.slice a l.length c) l) => literal37 n fd op tag _ l W hW)
  have CP := Lib.hid (fun W (hW : WdAt n W (.slice a l.length c) l) => plain17 n _ l W hW)
  obtain ⟨q, Hq⟩ : ∃ q, Hid (l.length = q) := ⟨_, Lib.hid rfl⟩
  obtain ⟨bl, Hbl⟩ : ∃ b, Hid (litB l = b) := ⟨_, Lib.hid rfl⟩
  rw [Hq.out] at HL hlen hh HB0 C37 CP ⊢
  rw [Hbl.out] at C37
  clear h hf hbb
  go_enter Tryz.func35, Tryz.ntmps35
  go_upto_region 1 with fail
  generalize w.alloc (.cells #[.int .i64 fd, .string op, .string tag, .slice a q c] 44) = w1 at HB0 hh ⊢
  have p0 : w1.cell? ⟨w.heap.size, 0, none⟩ = some (.int .i64 fd) := cells_at hh (i := 0) rfl
  have p1 : w1.cell? ⟨w.heap.size, 1, none⟩ = some (.string op) := cells_at hh (i := 1) rfl
  have p2 : w1.cell? ⟨w.heap.size, 2, none⟩ = some (.string tag) := cells_at hh (i := 2) rfl
  have p3 : w1.cell? ⟨w.heap.size, 3, none⟩ = some (.slice a q c) := cells_at hh (i := 3) rfl
  clear hh
  go_wp2_with fail
  refine (C37.out w1 (kept_wd n _ _ _ _ HL.out HB0.out)).mono ?_
  rintro e w2 ⟨rfl, hb2⟩
  replace p3 := cell_low p3 hb2
  have HB2 := Lib.hid (HB0.out.trans (hb2.mono HB0.out.size))
  clear hb2 p0 p1 p2
  cases bl
  · have HE : Hid (docL l = (l.map docP).flatten) := Lib.hid (docL_not l Hbl.out)
    have HN := Lib.hid (wrt_new w.heap.size w2 HB2.out.size)
    have hbn := (Below.refl w2.heap.size w2).alloc (Nat.le_refl _) (.cells #[.pointer none, .slice none 0 0, .slice none 0 0] 72)
    have HB3 := Lib.hid (HB2.out.alloc HB2.out.size (.cells #[.pointer none, .slice none 0 0, .slice none 0 0] 72))
    replace p3 := cell_low p3 hbn
    have hD0 : w.heap.size ≤ w2.heap.size := HB2.out.size
    go_upto_region 5 with fail
    generalize w2.heap.size = D at HN hD0 ⊢
    generalize w2.alloc (.cells #[.pointer none, .slice none 0 0, .slice none 0 0] 72) = w3 at HN HB3 p3 ⊢
    clear hbn HB2
    go_wp2
    go_loopw [22] (Rel35 w D l) (fun i _ => q - (intOf i).toNat)
    case atStart => exact ⟨0, _, [], Nat.zero_le _, rfl, HN.out, HB3.out, Nat.zero_le _, Lib.hid (by simp)⟩
    case round =>
      clear HN HB3
      obtain ⟨k, v, acc, hk, rfl, HD, HB, hacc, HR⟩ := hrel
      rename World => wx
      rw [Hq.out] at hk
      have HD := Lib.hid HD
      have HB := Lib.hid HB
      have hsz := HB.out.size
      by_cases hlt : k < q
      · have hlt' : k < l.length := by rw [Hq.out]; exact hlt
        obtain ⟨m, b1, off, c', wa, wc, ba, bc, _, e, hc, hfit, _, c0, c1, c2, c3, c4, c5⟩ := wd_at2 HL.out k hlt'
        have hdf := HDF.out l[k] (List.getElem_mem hlt')
        have HC := Lib.hid (docs_cut l k hlt')
        obtain ⟨p, Hp⟩ : ∃ p, Hid (l[k] = p) := ⟨_, Lib.hid rfl⟩
        rw [Hp.out] at HC c0 c1 c2 c3 c4 c5 hfit hdf
        have htx := hfit.t
        have hdl := docP_len p htx
        obtain ⟨hkd, ho, hwd⟩ := hdf
        rw [Hq.out] at e hc
        cases e
        replace c0 := cell_low c0 HB.out
        replace c1 := cell_low c1 HB.out
        replace c2 := cell_low c2 HB.out
        replace c3 := cell_low c3 HB.out
        replace c4 := cell_low c4 HB.out
        replace c5 := cell_low c5 HB.out
        generalize p.word.length = nw at c4 hwd
        generalize p.body.length = nb at c5
        have hDl := HD.out.lt
        obtain ⟨cs, hcs⟩ := HD.out.ty
        have HF := Lib.hid fun (e : Ending) (w0 w' : World) (hb0 : Below wx.heap.size wx w0) (hh : Wrote w.heap.size D [.slice none 0 0] acc (docP p) w0 e w') => (show e = .returned (.tuple #[]) ∧ Rel35 w D l (.int .i64 ((k : Int) + 1)) w' from ⟨hh.1, by
          obtain ⟨_, v', h1, h2, h3⟩ := hh
          exact ⟨k + 1, v', _, hlt', by go_num, h1, (HB.out.trans (hb0.mono hsz)).trans h3, by rw [List.length_append]; omega, Lib.hid (by rw [HR.out, HC.out, List.append_assoc])⟩⟩)
        by_cases hk1 : p.kind = 1
        · have hq1 : (p.kind == 1) = true := by rw [hk1]; rfl
          have HP : Hid (docP p = escL (ls p.text)) := Lib.hid (by unfold docP; rw [if_pos hk1])
          have CE := Lib.hid fun (o : Obj) => escaped54 w.heap.size D [.slice none 0 0] v acc p.text (wx.alloc o) (HD.out.below ((Below.refl wx.heap.size wx).alloc (Nat.le_refl _) o)) (by omega) (by simp; omega)
          rw [← HP.out] at CE
          clear hfit hkd ho hwd hacc hcs hk1
          go_wp2_with fail
          refine (CE.out _).mono ?_
          intro e w4 hw
          obtain ⟨rfl, hr⟩ := HF.out _ _ _ ((Below.refl wx.heap.size wx).alloc (Nat.le_refl _) _) hw
          clear hw
          go_wp2
          go_round
          case rel => exact hr
          case measure => simp [intOf]; omega
        · have hq1 : (p.kind == 1) = false := by rw [eq_int]; simp [hk1]
          have hkd' : p.kind = 2 ∨ p.kind = 4 := by rcases hkd with e | e | e; exact absurd e hk1; exact .inl e; exact .inr e
          have CE := Lib.hid fun (W : World) (hW : IsBld w.heap.size D 72 [.slice none 0 0] v acc W) (hz : w.heap.size ≤ W.heap.size) => part55_doc w.heap.size D [.slice none 0 0] v acc p wa ba nw wc nb bc W hW hkd' ho hwd (by omega) hz
          have HBx := Lib.hid fun (o : Obj) => (Below.refl wx.heap.size wx).alloc (Nat.le_refl _) o
          clear hfit hkd ho hwd hacc hk1 hkd'
          go_wp2_with fail
          refine (CE.out _ (HD.out.below (HBx.out _)) (by simp; omega)).mono ?_
          intro e w4 hw
          obtain ⟨rfl, hr⟩ := HF.out _ _ _ (HBx.out _) hw
          clear hw
          go_wp2
          go_round
          case rel => exact hr
          case measure => simp [intOf]; omega
      · obtain rfl : k = q := by omega
        have HE2 : Hid (docL l = acc) := Lib.hid (by rw [HE.out, HR.out, List.drop_of_length_le (by rw [Hq.out]; exact Nat.le_refl _)]; simp)
        have CS := Lib.hid (str43 w.heap.size D 72 [.slice none 0 0] v acc wx HD.out hsz)
        go_wp2_with fail
        refine CS.out.mono ?_
        rintro e w4 ⟨rfl, hb4⟩
        have HB4 := Lib.hid (HB.out.trans hb4)
        clear hb4
        go_wp2
        go_ret
        rw [HE2.out]; exact ⟨rfl, HB4.out⟩
  · obtain ⟨qb, HPl⟩ : ∃ b, Hid (plainL l = some (docL l, b)) := by
      obtain ⟨b, hb⟩ := lit_plain l Hbl.out
      exact ⟨b, Lib.hid hb⟩
    have CP2 := Lib.hid (CP.out w2 (kept_wd n _ _ _ _ HL.out HB2.out))
    rw [HPl.out] at CP2
    go_wp2_with fail
    refine CP2.out.mono ?_
    rintro e w4 ⟨rfl, hb4⟩
    have HB4 := Lib.hid (HB2.out.trans (hb4.mono HB2.out.size))
    clear hb4
    unfold plainV
    go_wp2
    go_ret
    exact ⟨rfl, HB4.out⟩
end Go.Proofs.YtfaohicadahcjaaGreatDoor
