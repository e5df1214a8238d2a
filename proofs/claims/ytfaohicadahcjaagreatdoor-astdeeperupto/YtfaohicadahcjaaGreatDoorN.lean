/- Contracts: Doc. Conditions: lengths below a bound. -/
import Derived.Test.YtfaohicadahcjaaGreatDoorM
namespace Go.Proofs.YtfaohicadahcjaaGreatDoor
open Go.RowKit Go.PlainAid Go.ChangeShapes Go.WideShapes Go.ChangeAt
set_option linter.unusedSimpArgs false
set_option linter.unusedVariables false
/-- May a word be a here-document's? (It may be a word.) -/
def DocFit (l : List Pt) : Prop := ∀ p ∈ l, (p.kind = 1 ∨ p.kind = 2 ∨ p.kind = 4) ∧ p.op = ⟨#[]⟩ ∧ (p.kind = 2 → p.word.length = 0)
def Rel35 (w : World) (D : Nat) (l : List Pt) (i : Value) (wx : World) : Prop := ∃ (k : Nat) (v : Value) (acc : List UInt8), k ≤ l.length ∧ i = .int .i64 k ∧ IsBld w.heap.size D 72 [.slice none 0 0] v acc wx ∧ Below w.heap.size w wx ∧ acc.length ≤ k * 2097160 ∧ Hid ((l.map docP).flatten = acc ++ ((l.drop k).map docP).flatten)
theorem docs_cut (l : List Pt) (k : Nat) (h : k < l.length) : ((l.drop k).map docP).flatten = docP l[k] ++ ((l.drop (k + 1)).map docP).flatten := by
  rw [List.drop_eq_getElem_cons h]; rfl
theorem esc_len : ∀ l : List UInt8, (escL l).length ≤ l.length * 2
  | [] => Nat.le_refl _
  | b :: r => by
    have := esc_len r
    rw [escL]
    split <;> simp only [List.length_cons] <;> omega
theorem docP_len (p : Pt) (h : p.text.size ≤ 1048576) : (docP p).length ≤ 2097160 := by
  unfold docP
  split
  · have := esc_len (ls p.text); rw [ls_len] at this; omega
  · split
    · simp only [List.length_append, ls_len, List.length_cons, List.length_nil]; omega
    · split
      · simp only [List.length_append, ls_len, List.length_cons, List.length_nil]; omega
      · simp
theorem lit_plain (l : List Pt) (h : litB l = true) : ∃ q, plainL l = some (docL l, q) := by
  rcases l with _ | ⟨p, _ | ⟨r, s⟩⟩
  · exact ⟨false, rfl⟩
  · have hk : p.kind = 1 := by simpa [litB] using h
    refine ⟨p.quoted, ?_⟩
    unfold docL
    rw [h]
    simp [plainL, hk]
  · simp [litB] at h
theorem docL_not (l : List Pt) (h : litB l = false) : docL l = (l.map docP).flatten := by unfold docL; rw [h]; rfl
theorem wr_new (w B : World) : True := trivial
theorem wrt_new (B : Nat) (w : World) (h : B ≤ w.heap.size) : IsBld B w.heap.size 72 [.slice none 0 0] (.slice none 0 0) [] (w.alloc (.cells #[.pointer none, .slice none 0 0, .slice none 0 0] 72)) :=
  .inl ⟨h, .inr ⟨rfl, _, rfl⟩, heap_alloc_new w _, World.ownsRow_nil _ _ _ _⟩
set_option maxHeartbeats 8000000 in
set_option maxRecDepth 100000 in
theorem doc35 (n : Nat) (fd : Int) (op tag : ByteArray) (a : Option Addr) (c : Nat) (l : List Pt) (w : World) (h : WdAt n w (.slice a l.length c) l) (hf : DocFit l) : Calls Tryz.prog 35 #[.agg #[.int .i64 fd, .string op, .string tag, .slice a l.length c]] w fun e w' => e = .returned (.string (mk (docL l))) ∧ Below w.heap.size w w' := by
  have HL := Lib.hid h
  have hlen := at_len _ _ _ _ h
  have HDF := Lib.hid hf
  have hbb := (Below.refl w.heap.size w).alloc (Nat.le_refl _) (.cells #[.int .i64 fd, .string op, .string tag, .slice a l.length c] 44)
  have HB0 := Lib.hid hbb
  have hh := heap_alloc_new w (.cells #[.int .i64 fd, .string op, .string tag, .slice a l.length c] 44)
  have C37 := Lib.hid (fun W (hW : WdAt n W (.slice a l.length c) l) => literal37 n fd op tag _ l W hW)
  have CP := Lib.hid (fun W (hW : WdAt n W (.slice a l.length c) l) => plain17 n _ l W hW)
  obtain ⟨q, Hq⟩ : ∃ q, Hid (l.length = q) := ⟨_, Lib.hid rfl⟩
  obtain ⟨bl, Hbl⟩ : ∃ b, Hid (litB l = b) := ⟨_, Lib.hid rfl⟩
  rw [Hq.out] at HL hlen hh HB0 C37 CP ⊢
  rw [Hbl.out] at C37
  clear h hf hbb
  go_enter Tryz.func35, Tryz.ntmps35
  go_upto_region 1 with fail
  generalize w.alloc (.cells #[.int .i64 fd, .string op, .string tag, .slice a q c] 44) = w1 at HB0 hh ⊢
  have p0 : w1.cell? ⟨w.heap.size, 0, none⟩ = some (.int .i64 fd) := cells_at hh (i := 0) rfl
  have p1 : w1.cell? ⟨w.heap.size, 1, none⟩ = some (.string op) := cells_at hh (i := 1) rfl
  have p2 : w1.cell? ⟨w.heap.size, 2, none⟩ = some (.string tag) := cells_at hh (i := 2) rfl
  have p3 : w1.cell? ⟨w.heap.size, 3, none⟩ = some (.slice a q c) := cells_at hh (i := 3) rfl
  clear hh
  go_wp2_with fail
  refine (C37.out w1 (kept_wd n _ _ _ _ HL.out HB0.out)).mono ?_
  rintro e w2 ⟨rfl, hb2⟩
  replace p3 := cell_low p3 hb2
  have HB2 := Lib.hid (HB0.out.trans (hb2.mono HB0.out.size))
  clear hb2 p0 p1 p2
  cases bl
  · have HE : Hid (docL l = (l.map docP).flatten) := Lib.hid (docL_not l Hbl.out)
    have HN := Lib.hid (wrt_new w.heap.size w2 HB2.out.size)
    have hbn := (Below.refl w2.heap.size w2).alloc (Nat.le_refl _) (.cells #[.pointer none, .slice none 0 0, .slice none 0 0] 72)
    have HB3 := Lib.hid (HB2.out.alloc HB2.out.size (.cells #[.pointer none, .slice none 0 0, .slice none 0 0] 72))
    replace p3 := cell_low p3 hbn
    have hD0 : w.heap.size ≤ w2.heap.size := HB2.out.size
    go_upto_region 5 with fail
    generalize w2.heap.size = D at HN hD0 ⊢
    generalize w2.alloc (.cells #[.pointer none, .slice none 0 0, .slice none 0 0] 72) = w3 at HN HB3 p3 ⊢
    clear hbn HB2
    go_wp2
    go_loopw [22] (Rel35 w D l) (fun i _ => q - (intOf i).toNat)
    case atStart => exact ⟨0, _, [], Nat.zero_le _, rfl, HN.out, HB3.out, Nat.zero_le _, Lib.hid (by simp)⟩
    case round =>
      clear HN HB3
      obtain ⟨k, v, acc, hk, rfl, HD, HB, hacc, HR⟩ := hrel
      rename World => wx
      rw [Hq.out] at hk
      have HD := Lib.hid HD
      have HB := Lib.hid HB
      have hsz := HB.out.size
      by_cases hlt : k < q
      · have hlt' : k < l.length := by rw [Hq.out]; exact hlt
        obtain ⟨m, b1, off, c', wa, wc, ba, bc, _, e, hc, hfit, _, c0, c1, c2, c3, c4, c5⟩ := wd_at2 HL.out k hlt'
        have hdf := HDF.out l[k] (List.getElem_mem hlt')
        have HC := Lib.hid (docs_cut l k hlt')
        obtain ⟨p, Hp⟩ : ∃ p, Hid (l[k] = p) := ⟨_, Lib.hid rfl⟩
        rw [Hp.out] at HC c0 c1 c2 c3 c4 c5 hfit hdf
        have htx := hfit.t
        have hdl := docP_len p htx
        obtain ⟨hkd, ho, hwd⟩ := hdf
        rw [Hq.out] at e hc
        cases e
        replace c0 := cell_low c0 HB.out
        replace c1 := cell_low c1 HB.out
        replace c2 := cell_low c2 HB.out
        replace c3 := cell_low c3 HB.out
        replace c4 := cell_low c4 HB.out
        replace c5 := cell_low c5 HB.out
        generalize p.word.length = nw at c4 hwd
        generalize p.body.length = nb at c5
        have hDl := HD.out.lt
        obtain ⟨cs, hcs⟩ := HD.out.ty
        have HF := Lib.hid fun (e : Ending) (w0 w' : World) (hb0 : Below wx.heap.size wx w0) (hh : Wrote w.heap.size D [.slice none 0 0] acc (docP p) w0 e w') => (show e = .returned (.tuple #[]) ∧ Rel35 w D l (.int .i64 ((k : Int) + 1)) w' from ⟨hh.1, by
          obtain ⟨_, v', h1, h2, h3⟩ := hh
          exact ⟨k + 1, v', _, hlt', by go_num, h1, (HB.out.trans (hb0.mono hsz)).trans h3, by rw [List.length_append]; omega, Lib.hid (by rw [HR.out, HC.out, List.append_assoc])⟩⟩)
        by_cases hk1 : p.kind = 1
        · have hq1 : (p.kind == 1) = true := by rw [hk1]; rfl
          have HP : Hid (docP p = escL (ls p.text)) := Lib.hid (by unfold docP; rw [if_pos hk1])
          have CE := Lib.hid fun (o : Obj) => escaped54 w.heap.size D [.slice none 0 0] v acc p.text (wx.alloc o) (HD.out.below ((Below.refl wx.heap.size wx).alloc (Nat.le_refl _) o)) (by omega) (by simp; omega)
          rw [← HP.out] at CE
          clear hfit hkd ho hwd hacc hcs hk1
          go_wp2_with fail
          refine (CE.out _).mono ?_
          intro e w4 hw
          obtain ⟨rfl, hr⟩ := HF.out _ _ _ ((Below.refl wx.heap.size wx).alloc (Nat.le_refl _) _) hw
          clear hw
          go_wp2
          go_round
          case rel => exact hr
          case measure => simp [intOf]; omega
        · have hq1 : (p.kind == 1) = false := by rw [eq_int]; simp [hk1]
          have hkd' : p.kind = 2 ∨ p.kind = 4 := by rcases hkd with e | e | e; exact absurd e hk1; exact .inl e; exact .inr e
          have CE := Lib.hid fun (W : World) (hW : IsBld w.heap.size D 72 [.slice none 0 0] v acc W) (hz : w.heap.size ≤ W.heap.size) => part55_doc w.heap.size D [.slice none 0 0] v acc p wa ba nw wc nb bc W hW hkd' ho hwd (by omega) hz
          have HBx := Lib.hid fun (o : Obj) => (Below.refl wx.heap.size wx).alloc (Nat.le_refl _) o
          clear hfit hkd ho hwd hacc hk1 hkd'
          go_wp2_with fail
          refine (CE.out _ (HD.out.below (HBx.out _)) (by simp; omega)).mono ?_
          intro e w4 hw
          obtain ⟨rfl, hr⟩ := HF.out _ _ _ (HBx.out _) hw
          clear hw
          go_wp2
          go_round
          case rel => exact hr
          case measure => simp [intOf]; omega
      · obtain rfl : k = q := by omega
        have HE2 : Hid (docL l = acc) := Lib.hid (by rw [HE.out, HR.out, List.drop_of_length_le (by rw [Hq.out]; exact Nat.le_refl _)]; simp)
        have CS := Lib.hid (str43 w.heap.size D 72 [.slice none 0 0] v acc wx HD.out hsz)
        go_wp2_with fail
        refine CS.out.mono ?_
        rintro e w4 ⟨rfl, hb4⟩
        have HB4 := Lib.hid (HB.out.trans hb4)
        clear hb4
        go_wp2
        go_ret
        rw [HE2.out]; exact ⟨rfl, HB4.out⟩
  · obtain ⟨qb, HPl⟩ : ∃ b, Hid (plainL l = some (docL l, b)) := by
      obtain ⟨b, hb⟩ := lit_plain l Hbl.out
      exact ⟨b, Lib.hid hb⟩
    have CP2 := Lib.hid (CP.out w2 (kept_wd n _ _ _ _ HL.out HB2.out))
    rw [HPl.out] at CP2
    go_wp2_with fail
    refine CP2.out.mono ?_
    rintro e w4 ⟨rfl, hb4⟩
    have HB4 := Lib.hid (HB2.out.trans (hb4.mono HB2.out.size))
    clear hb4
    unfold plainV
    go_wp2
    go_ret
    exact ⟨rfl, HB4.out⟩
end Go.Proofs.YtfaohicadahcjaaGreatDoor
