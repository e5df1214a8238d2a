/- Contracts: parts that are bytes, and words, written. Conditions: lengths below a bound. -/
import Derived.Test.YtfaohicadahcjaaGreatDoorX
namespace Go.Proofs.YtfaohicadahcjaaGreatDoor
open Go.RowKit Go.PlainAid Go.ChangeShapes Go.WideShapes Go.ChangeAt
set_option linter.unusedSimpArgs false
set_option linter.unusedVariables false
/-- What part does with a part: it writes a text. W0: the world in which the tree is read, all of it below B. -/
def PartOk (n : Nat) (W0 : World) (B D : Nat) (rest : List Value) (p : Pt) (t : List UInt8) : Prop :=
  ∀ (v : Value) (acc : List UInt8) (wa ba : Option Addr) (wc bc : Nat) (w : World), WdAt n W0 (.slice wa p.word.length wc) p.word → NsAt n W0 (.slice ba p.body.length bc) p.body → Below B W0 w → IsBld B D 72 rest v acc w → acc.length + t.length ≤ 140737390000000 → B ≤ w.heap.size →
    Calls Tryz.prog 55 #[.pointer (some ⟨D, 0, none⟩), .agg #[.int .i64 p.kind, .bool p.quoted, .string p.text, .string p.op, .slice wa p.word.length wc, .slice ba p.body.length bc]] w (Wrote B D rest acc t w)
set_option maxHeartbeats 4000000 in
set_option maxRecDepth 100000 in
theorem part55_lit (n : Nat) (W0 : World) (B D : Nat) (rest : List Value) (p : Pt) (hk : p.kind = 1) (ht : p.text.size ≤ 1048576) (he : Env W0) (hWB : W0.heap.size ≤ B) : PartOk n W0 B D rest p (litW p.text p.quoted) := by
  intro v acc wa ba wc bc w _ _ hb h hlen hBw
  generalize p.word.length = nw
  generalize p.body.length = nb
  obtain ⟨t, Ht⟩ : ∃ t, Hid (p.text = t) := ⟨_, Lib.hid rfl⟩
  obtain ⟨q, Hq⟩ : ∃ t, Hid (p.quoted = t) := ⟨_, Lib.hid rfl⟩
  obtain ⟨o, Ho⟩ : ∃ t, Hid (p.op = t) := ⟨_, Lib.hid rfl⟩
  rw [hk, Ht.out, Hq.out, Ho.out]
  rw [Ht.out] at ht
  rw [Ht.out, Hq.out] at hlen
  have hbb := (Below.refl w.heap.size w).alloc (Nat.le_refl _) (.cells #[.int .i64 1, .bool q, .string t, .string o, .slice wa nw wc, .slice ba nb bc] 55)
  have HBB := Lib.hid ((Below.refl B w).alloc hBw (.cells #[.int .i64 1, .bool q, .string t, .string o, .slice wa nw wc, .slice ba nb bc] 55))
  have HKe : Hid (Ke D w (w.alloc (.cells #[.int .i64 1, .bool q, .string t, .string o, .slice wa nw wc, .slice ba nb bc] 55))) := Lib.hid (Ke.of_below hbb)
  have C := Lib.hid (bytes74 B D rest v acc t q _ (h.below hbb) (he.on ((hb.trans HBB.out).mono hWB)) ht (by omega) (Nat.le_trans hBw HBB.out.size))
  clear hb h hlen he hk hbb
  go_enter Tryz.func55, Tryz.ntmps55
  go_wp2_with fail
  refine C.out.mono ?_
  intro e w2 hw
  have HW := Lib.hid (show Wrote B D rest acc (litW t q) w e w2 from ⟨hw.1, by
    obtain ⟨_, v', a1, a2, a3⟩ := hw
    exact ⟨v', a1, HKe.out.trans a2, HBB.out.trans a3⟩⟩)
  obtain ⟨rfl, _⟩ := hw
  go_wp2
  go_end0
  exact HW.out
theorem Wrote.base {B D : Nat} {rest : List Value} {l t : List UInt8} {w w' : World} {e : Ending} (h : Wrote B D rest l t w e w') : Below B w w' := by obtain ⟨_, _, _, _, h⟩ := h; exact h
def Rel105 (f : Pt → List UInt8) (B D : Nat) (rest : List Value) (acc0 : List UInt8) (l : List Pt) (w : World) (i : Value) (wx : World) : Prop := ∃ (k : Nat) (v : Value) (acc : List UInt8), k ≤ l.length ∧ i = .int .i64 k ∧ IsBld B D 72 rest v acc wx ∧ Ke D w wx ∧ Below B w wx ∧ Hid (acc0 ++ (l.map f).flatten = acc ++ ((l.drop k).map f).flatten)
theorem flatf_cut {α : Type} (f : α → List UInt8) (l : List α) (k : Nat) (h : k < l.length) : ((l.drop k).map f).flatten = f l[k] ++ ((l.drop (k + 1)).map f).flatten := by
  rw [List.drop_eq_getElem_cons h]; rfl
set_option maxHeartbeats 8000000 in
set_option maxRecDepth 100000 in
theorem word105 (n : Nat) (f : Pt → List UInt8) (W0 : World) (B D : Nat) (rest : List Value) (v : Value) (acc0 : List UInt8) (wv : Value) (l : List Pt) (w : World) (hf : ∀ p ∈ l, PartOk n W0 B D rest p (f p)) (hl : WdAt (n + 1) W0 wv l) (hWB : W0.heap.size ≤ B) (hb : Below B W0 w) (h : IsBld B D 72 rest v acc0 w) (hlen : (acc0 ++ (l.map f).flatten).length ≤ 140737390000000) (hBw : B ≤ w.heap.size) :
    Calls Tryz.prog 105 #[.pointer (some ⟨D, 0, none⟩), wv] w (Wrote B D rest acc0 ((l.map f).flatten) w) := by
  have HS := Lib.hid (show Rel105 f B D rest acc0 l w (.int .i64 0) w from ⟨0, v, acc0, Nat.zero_le _, rfl, h, Ke.refl _ _, Below.refl _ _, Lib.hid (by simp)⟩)
  have HF := Lib.hid hf
  have HL := Lib.hid hl
  have hll := at_len _ _ _ _ hl
  obtain ⟨a, c, rfl⟩ := wd_shape _ _ _ _ hl
  have HBW := Lib.hid hBw
  have HB0 := Lib.hid hb
  have HLN := Lib.hid hlen
  have HWB := Lib.hid hWB
  obtain ⟨q, Hq⟩ : ∃ q, Hid (l.length = q) := ⟨_, Lib.hid rfl⟩
  rw [Hq.out] at HL hll ⊢
  clear h hf hl hb hlen hBw
  go_enter Tryz.func105, Tryz.ntmps105
  go_wp2
  go_loopw [8] (Rel105 f B D rest acc0 l w) (fun i _ => q - (intOf i).toNat)
  case atStart => exact HS.out
  case round =>
    clear HS
    obtain ⟨k, v, acc, hk, rfl, HD, HK, HB, HR⟩ := hrel
    rename World => wx
    rw [Hq.out] at hk
    have HD := Lib.hid HD
    have HK := Lib.hid HK
    have HB := Lib.hid HB
    by_cases hlt : k < q
    · have hlt' : k < l.length := by rw [Hq.out]; exact hlt
      obtain ⟨m, b1, off, c', wa, wc, ba, bc, em, e, hc, hfit, ⟨hw5, hw6⟩, c0, c1, c2, c3, c4, c5⟩ := wd_at2 HL.out k hlt'
      obtain rfl : n = m := by omega
      rw [Hq.out] at e hc
      cases e
      have HC := Lib.hid (flatf_cut f l k hlt')
      have HP := Lib.hid (HF.out l[k] (List.getElem_mem hlt'))
      obtain ⟨p, Hp⟩ : ∃ p, Hid (l[k] = p) := ⟨_, Lib.hid rfl⟩
      rw [Hp.out] at HC HP c0 c1 c2 c3 c4 c5 hfit hw5 hw6
      have hbx := (HB0.out.trans HB.out).mono hWB
      replace c0 := cell_low c0 hbx
      replace c1 := cell_low c1 hbx
      replace c2 := cell_low c2 hbx
      replace c3 := cell_low c3 hbx
      replace c4 := cell_low c4 hbx
      replace c5 := cell_low c5 hbx
      have hal : acc.length + (f p).length ≤ 140737390000000 := by
        have h1 := HLN.out
        rw [HR.out, HC.out] at h1
        simp only [List.length_append] at h1
        omega
      have hsz : B ≤ wx.heap.size := Nat.le_trans HBW.out HB.out.size
      have CP := Lib.hid fun (o : Obj) => HP.out v acc wa ba wc bc (wx.alloc o) hw5 hw6 ((HB0.out.trans HB.out).trans ((Below.refl B wx).alloc hsz o)) (HD.out.below ((Below.refl wx.heap.size wx).alloc (Nat.le_refl _) o)) hal (by simp; omega)
      have HF2 := Lib.hid fun (o : Obj) (e : Ending) (w' : World) (hh : Wrote B D rest acc (f p) (wx.alloc o) e w') => (show e = .returned (.tuple #[]) ∧ Rel105 f B D rest acc0 l w (.int .i64 ((k : Int) + 1)) w' from ⟨hh.1, by
        obtain ⟨_, v', h1, h2, h3⟩ := hh
        exact ⟨k + 1, v', _, hlt', by go_num, h1, (HK.out.trans (Ke.of_below ((Below.refl wx.heap.size wx).alloc (Nat.le_refl _) o))).trans h2, (HB.out.trans ((Below.refl B wx).alloc hsz o)).trans h3, Lib.hid (by rw [HR.out, HC.out, List.append_assoc])⟩⟩)
      generalize p.word.length = nw at c4 CP
      generalize p.body.length = nb at c5 CP
      clear hfit hw5 hw6 hbx hal
      go_wp2_with fail
      refine (CP.out _).mono ?_
      intro e w3 hw
      obtain ⟨rfl, hr⟩ := HF2.out _ _ _ hw
      clear hw
      go_wp2
      go_round
      case rel => exact hr
      case measure => simp [intOf]; omega
    · obtain rfl : k = q := by omega
      have HE : Hid (acc0 ++ (l.map f).flatten = acc) := Lib.hid (by rw [HR.out, List.drop_of_length_le (by rw [Hq.out]; exact Nat.le_refl _)]; simp)
      go_wp2
      go_end0
      exact ⟨rfl, v, by rw [HE.out]; exact HD.out, HK.out, HB.out⟩
end Go.Proofs.YtfaohicadahcjaaGreatDoor
