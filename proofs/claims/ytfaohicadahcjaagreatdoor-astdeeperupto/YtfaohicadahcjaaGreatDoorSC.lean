/- Contracts: commands without here-documents, written; Show. Conditions: lengths below a bound. -/
import Derived.Test.YtfaohicadahcjaaGreatDoorSB
namespace Go.Proofs.YtfaohicadahcjaaGreatDoor
open Go.RowKit Go.PlainAid Go.ChangeShapes Go.WideShapes Go.ChangeAt
set_option linter.unusedSimpArgs false
set_option linter.unusedVariables false
/-- What command does with a command: it writes a text. -/
def NdOk (n : Nat) (W0 : World) (B D : Nat) (x : Nd) (t : List UInt8) : Prop :=
  ∀ (v : Value) (acc : List UInt8) (a1 a2 a3 a4 a5 : Option Addr) (c1 c2 c3 c4 c5 : Nat) (w : World), AssAt n W0 (.slice a1 x.assigns.length c1) x.assigns → WsAt n W0 (.slice a2 x.words.length c2) x.words → RdsAt n W0 (.slice a3 x.redirs.length c3) x.redirs → LsAt n W0 (.slice a4 x.lists.length c4) x.lists → ArsAt n W0 (.slice a5 x.arms.length c5) x.arms →
    Below B W0 w → IsBld B D 72 [nilS] v acc w → acc.length + t.length ≤ 140737390000000 → B ≤ w.heap.size →
    Calls Tryz.prog 67 #[.pointer (some ⟨D, 0, none⟩), .agg #[.int .i64 x.kind, .string x.name, .slice a1 x.assigns.length c1, .slice a2 x.words.length c2, .slice a3 x.redirs.length c3, .slice a4 x.lists.length c4, .slice a5 x.arms.length c5]] w (Wrote B D [nilS] acc t w)
def lnT (f : Nd → List UInt8) (x : Nd) : List UInt8 := f x ++ [10]
def Rel42 (f : Nd → List UInt8) (B D : Nat) (acc0 : List UInt8) (l : List Nd) (w : World) (i : Value) (wx : World) : Prop := ∃ (k : Nat) (v : Value) (acc : List UInt8), k ≤ l.length ∧ i = .int .i64 k ∧ IsBld B D 72 [nilS] v acc wx ∧ Ke D w wx ∧ Below B w wx ∧ Hid (acc0 ++ (l.map (lnT f)).flatten = acc ++ ((l.drop k).map (lnT f)).flatten)
set_option maxHeartbeats 8000000 in
set_option maxRecDepth 100000 in
theorem commands42_nil (n : Nat) (f : Nd → List UInt8) (W0 : World) (B D : Nat) (v : Value) (acc0 : List UInt8) (wv : Value) (l : List Nd) (w : World) (hf : ∀ x ∈ l, NdOk n W0 B D x (f x)) (hl : NsAt (n + 1) W0 wv l) (hWB : W0.heap.size ≤ B) (hb : Below B W0 w) (h : IsBld B D 72 [nilS] v acc0 w) (hlen : (acc0 ++ (l.map (lnT f)).flatten).length ≤ 140737390000000) (hBw : B ≤ w.heap.size) :
    Calls Tryz.prog 42 #[.pointer (some ⟨D, 0, none⟩), wv] w (Wrote B D [nilS] acc0 ((l.map (lnT f)).flatten) w) := by
  have HS := Lib.hid (show Rel42 f B D acc0 l w (.int .i64 0) w from ⟨0, v, acc0, Nat.zero_le _, rfl, h, Ke.refl _ _, Below.refl _ _, Lib.hid (by simp)⟩)
  have HF := Lib.hid hf
  have HL := Lib.hid hl
  have hll := ns_len _ _ _ _ hl
  obtain ⟨a, c, rfl⟩ := ns_shape _ _ _ _ hl
  have HBW := Lib.hid hBw
  have HB0 := Lib.hid hb
  have HLN := Lib.hid hlen
  have HWB := Lib.hid hWB
  obtain ⟨q, Hq⟩ : ∃ q, Hid (l.length = q) := ⟨_, Lib.hid rfl⟩
  rw [Hq.out] at HL hll ⊢
  clear h hf hl hb hlen hBw
  go_enter Tryz.func42, Tryz.ntmps42
  go_wp2
  go_loopw [8] (Rel42 f B D acc0 l w) (fun i _ => q - (intOf i).toNat)
  case atStart => exact HS.out
  case round =>
    clear HS
    obtain ⟨k, v, acc, hk, rfl, HD, HK, HB, HR⟩ := hrel
    rename World => wx
    rw [Hq.out] at hk
    have HD := Lib.hid HD
    have HK := Lib.hid HK
    have HB := Lib.hid HB
    by_cases hlt : k < q
    · have hlt' : k < l.length := by rw [Hq.out]; exact hlt
      obtain ⟨m, b, off, c', a1, a2, a3, a4, a5, c1, c2, c3, c4, c5, em, e, hc, hfit, ⟨i1, i2, i3, i4, i5⟩, p0, p1, p2, p3, p4, p5, p6⟩ := ns_at2 HL.out k hlt'
      obtain rfl : n = m := by omega
      rw [Hq.out] at e hc
      cases e
      have HC := Lib.hid (flatf_cut (lnT f) l k hlt')
      have HP := Lib.hid (HF.out l[k] (List.getElem_mem hlt'))
      obtain ⟨x, Hx⟩ : ∃ x, Hid (l[k] = x) := ⟨_, Lib.hid rfl⟩
      rw [Hx.out] at HC HP hfit i1 i2 i3 i4 i5 p0 p1 p2 p3 p4 p5 p6
      have hbx := (HB0.out.trans HB.out).mono HWB.out
      replace p0 := cell_low p0 hbx
      replace p1 := cell_low p1 hbx
      replace p2 := cell_low p2 hbx
      replace p3 := cell_low p3 hbx
      replace p4 := cell_low p4 hbx
      replace p5 := cell_low p5 hbx
      replace p6 := cell_low p6 hbx
      have hal : acc.length + (f x).length + 1 ≤ 140737390000000 := by
        have h1 := HLN.out
        rw [HR.out, HC.out] at h1
        simp only [List.length_append, lnT, List.length_cons, List.length_nil] at h1
        omega
      have hsz : B ≤ wx.heap.size := Nat.le_trans HBW.out HB.out.size
      have CP := Lib.hid fun (o : Obj) => HP.out v acc a1 a2 a3 a4 a5 c1 c2 c3 c4 c5 (wx.alloc o) i1 i2 i3 i4 i5 ((HB0.out.trans HB.out).trans ((Below.refl B wx).alloc hsz o)) (HD.out.below ((Below.refl wx.heap.size wx).alloc (Nat.le_refl _) o)) (by omega) (by simp; omega)
      have HX := Lib.hid fun (o : Obj) => And.intro (HK.out.trans (Ke.of_below ((Below.refl wx.heap.size wx).alloc (Nat.le_refl _) o))) (HB.out.trans ((Below.refl B wx).alloc hsz o))
      have HAL := Lib.hid hal
      generalize x.assigns.length = m1 at p2 CP
      generalize x.words.length = m2 at p3 CP
      generalize x.redirs.length = m3 at p4 CP
      generalize x.lists.length = m4 at p5 CP
      generalize x.arms.length = m5 at p6 CP
      clear hfit i1 i2 i3 i4 i5 hbx hal
      go_wp2_with fail
      refine (CP.out _).mono ?_
      rintro e w3 ⟨rfl, v3, j1, j2, j3⟩
      have CL := Lib.hid (line68_nil B D v3 (acc ++ f x) ⟨#[]⟩ w3 j1 (by have := HAL.out; simp only [List.length_append]; show _ + 0 ≤ _; omega) (Nat.le_trans HBW.out (Nat.le_trans (HX.out _).2.size j3.size)))
      have HN := Lib.hid (And.intro ((HX.out _).1.trans j2) ((HX.out _).2.trans j3))
      clear j1 j2 j3
      go_wp2_with fail
      refine CL.out.mono ?_
      rintro e w4 ⟨rfl, v4, j1, j2, j3⟩
      have HRel : Hid (Rel42 f B D acc0 l w (.int .i64 ((k : Int) + 1)) w4) := Lib.hid ⟨k + 1, v4, _, hlt', by go_num, j1, HN.out.1.trans j2, HN.out.2.trans j3, Lib.hid (by rw [HR.out, HC.out]; simp [lnT, ls])⟩
      clear j1 j2 j3
      go_wp2
      go_round
      case rel => exact HRel.out
      case measure => simp [intOf]; omega
    · obtain rfl : k = q := by omega
      have HE : Hid (acc0 ++ (l.map (lnT f)).flatten = acc) := Lib.hid (by rw [HR.out, List.drop_of_length_le (by rw [Hq.out]; exact Nat.le_refl _)]; simp)
      go_wp2
      go_end0
      exact ⟨rfl, v, by rw [HE.out]; exact HD.out, HK.out, HB.out⟩
set_option maxHeartbeats 4000000 in
set_option maxRecDepth 100000 in
theorem show13_nil (n : Nat) (f : Nd → List UInt8) (wv : Value) (l : List Nd) (w : World) (hf : ∀ x ∈ l, NdOk n w w.heap.size w.heap.size x (f x)) (hl : NsAt (n + 1) w wv l) (hlen : ((l.map (lnT f)).flatten).length ≤ 140737390000000) :
    Calls Tryz.prog 13 #[wv] w fun e w' => e = .returned (.string (mk (l.map (lnT f)).flatten)) ∧ Below w.heap.size w w' := by
  have hb := (Below.refl w.heap.size w).alloc (Nat.le_refl _) (.cells #[.pointer none, .slice none 0 0, .slice none 0 0] 72)
  have C := Lib.hid (commands42_nil n f w w.heap.size w.heap.size (.slice none 0 0) [] wv l _ hf hl (Nat.le_refl _) hb (wrt_new w.heap.size w (Nat.le_refl _)) (by simpa using hlen) hb.size)
  have HB := Lib.hid hb
  clear hb hl hf
  go_enter Tryz.func13, Tryz.ntmps13
  go_wp2_with fail
  generalize w.alloc (.cells #[.pointer none, .slice none 0 0, .slice none 0 0] 72) = w1 at C HB ⊢
  refine C.out.mono ?_
  rintro e w2 ⟨rfl, v2, j1, j2, j3⟩
  have CS := Lib.hid (str43 w.heap.size w.heap.size 72 [nilS] v2 _ w2 j1 (Nat.le_trans HB.out.size j3.size))
  have HB2 := Lib.hid (HB.out.trans j3)
  clear j1 j2 j3
  go_wp2_with fail
  refine CS.out.mono ?_
  rintro e w3 ⟨rfl, b3⟩
  have HB3 := Lib.hid (HB2.out.trans b3)
  clear b3
  go_wp2
  go_ret
  exact ⟨rfl, HB3.out⟩
end Go.Proofs.YtfaohicadahcjaaGreatDoor
