/- Conversions of a word. Conditions: lengths below a bound. -/
import Derived.Test.YtfaohicadahcjaaGreatDoorSU
import Derived.Deep.RegionHeld3
namespace Go.Proofs.YtfaohicadahcjaaGreatDoor
open Go.RowKit Go.PlainAid Go.ChangeShapes Go.WideShapes Go.ChangeAt
set_option linter.unusedSimpArgs false
set_option linter.unusedVariables false
set_option maxHeartbeats 16000000 in
set_option maxRecDepth 100000 in
theorem word19 (n : Nat) (G : Conv n) (v : Value) (l : List Pt) (w : World) (h : WdAt (n + 1) w v l) : Calls Tryz.prog 19 #[v] w (Out (fun u v' => WdAt (n + 1) u v' l) w) := by
  obtain ⟨i0, hi, hz0, hz1, hz2⟩ := info_of info86'
  have HL := Lib.hid h
  have hlen := at_len _ _ _ _ h
  obtain ⟨a, c, rfl⟩ := wd_shape _ _ _ _ h
  obtain ⟨q, Hq⟩ : ∃ q, Hid (l.length = q) := ⟨_, Lib.hid rfl⟩
  rw [Hq.out] at HL hlen ⊢
  have HG := Lib.hid G
  clear h G
  go_enter Tryz.func19, Tryz.ntmps19
  go_wp2
  go_loopw [3, 8] (RelM 86 6 (PtC (WdAt n) (NsAt n)) l w) (fun _ i _ => q - (intOf i).toNat)
  case atStart => exact ⟨0, [], fun _ => False, Nat.zero_le _, rfl, Mk.nil (Nat.le_refl _), Below.refl _ _⟩
  case round =>
    obtain ⟨k, css, Z, hk, rfl, HM, HB⟩ := hrel
    rename World => wx
    have HM := Lib.hid HM
    have HB := Lib.hid HB
    obtain ⟨oa, oc, e0⟩ := HM.out.shape
    rw [take_len hk] at e0
    subst e0
    rw [Hq.out] at hk
    by_cases hlt : k < q
    · have hlt' : k < l.length := by rw [Hq.out]; exact hlt
      obtain ⟨m, b1, off, c', wa, wc, ba, bc, em, e, hc, hfit, ⟨hw5, hw6⟩, c0, c1, c2, c3, c4, c5⟩ := wd_at2 HL.out k hlt'
      obtain rfl : n = m := by omega
      rw [Hq.out] at e hc
      cases e
      obtain ⟨p, Hp⟩ : ∃ p, Hid (l[k] = p) := ⟨_, Lib.hid rfl⟩
      rw [Hp.out] at hfit hw5 hw6 c0 c1 c2 c3 c4 c5
      replace c0 := cell_low c0 HB.out
      replace c1 := cell_low c1 HB.out
      replace c2 := cell_low c2 HB.out
      replace c3 := cell_low c3 HB.out
      replace c4 := cell_low c4 HB.out
      replace c5 := cell_low c5 HB.out
      have HFit := Lib.hid hfit
      have C1 := Lib.hid fun (W : World) (hW : Below w.heap.size w W) => HG.out.w _ p.word W (kept_wd n _ _ _ _ hw5 hW)
      have C2 := Lib.hid fun (W : World) (hW : Below w.heap.size w W) => HG.out.c _ p.body W (kept_ns n _ _ _ _ hw6 hW)
      generalize p.word.length = nw at c4 C1
      generalize p.body.length = nb at c5 C2
      have hml := mlen hlt hlen
      have hmb := mul_le (c := 0) (b := 96) (Nat.lt_of_lt_of_le hlt hlen) (by decide)
      have hbo := (Below.refl wx.heap.size wx).alloc (Nat.le_refl _) (.cells #[.int .i64 p.kind, .bool p.quoted, .string p.text, .string p.op, .slice wa nw wc, .slice ba nb bc] 55)
      have HBX := Lib.hid hbo
      have hbox := heap_alloc_new wx (.cells #[.int .i64 p.kind, .bool p.quoted, .string p.text, .string p.op, .slice wa nw wc, .slice ba nb bc] 55)
      clear hfit hw5 hw6 hbo
      go_upto_region 5 with fail
      generalize wx.alloc (.cells #[.int .i64 p.kind, .bool p.quoted, .string p.text, .string p.op, .slice wa nw wc, .slice ba nb bc] 55) = wy at HBX hbox ⊢
      have HBox := Lib.hid hbox
      have HB0 := Lib.hid ((HB.out.trans (HBX.out.mono HB.out.size)).drew)
      have HX0 := Lib.hid HBX.out.drew
      obtain ⟨S, HS⟩ : ∃ S : World → Prop, Hid (∀ W, S W ↔ (W.cell? ⟨wx.heap.size, 0, none⟩ = some (.int .i64 p.kind) ∧ W.cell? ⟨wx.heap.size, 1, none⟩ = some (.bool p.quoted) ∧ W.cell? ⟨wx.heap.size, 2, none⟩ = some (.string p.text) ∧ W.cell? ⟨wx.heap.size, 3, none⟩ = some (.string p.op) ∧ W.cell? ⟨wx.heap.size, 4, none⟩ = some (.slice wa nw wc) ∧ W.cell? ⟨wx.heap.size, 5, none⟩ = some (.slice ba nb bc))) := ⟨fun W => _, Lib.hid fun W => Iff.rfl⟩
      have HSt : Hid (∀ W, W.heap[wx.heap.size]? = some (.cells #[.int .i64 p.kind, .bool p.quoted, .string p.text, .string p.op, .slice wa nw wc, .slice ba nb bc] 55 (0, 0)) → S W) := Lib.hid fun W hW => (HS.out W).2 ⟨cells_at hW (i := 0) rfl, cells_at hW (i := 1) rfl, cells_at hW (i := 2) rfl, cells_at hW (i := 3) rfl, cells_at hW (i := 4) rfl, cells_at hW (i := 5) rfl⟩
      have hh0 := (HS.out wy.drew).1 (HSt.out _ hbox)
      clear c0 c1 c2 c3 c4 c5 hbox
      go_region_held3 (fun W => W.cell? ⟨wx.heap.size, 0, none⟩ = some (.int .i64 p.kind) ∧ W.cell? ⟨wx.heap.size, 1, none⟩ = some (.bool p.quoted) ∧ W.cell? ⟨wx.heap.size, 2, none⟩ = some (.string p.text) ∧ W.cell? ⟨wx.heap.size, 3, none⟩ = some (.string p.op) ∧ W.cell? ⟨wx.heap.size, 4, none⟩ = some (.slice wa nw wc) ∧ W.cell? ⟨wx.heap.size, 5, none⟩ = some (.slice ba nb bc))
        (first | exact hh4 | exact hh5 | exact hh3 | exact hh2 | exact hh1 | exact hh0)
        (first
          | (go_at_call 19; refine (C1.out _ HB0.out).mono ?_
             rintro e w2 ⟨v2, rfl, hf2, hb2⟩
             have HB1 := Lib.hid (HB0.out.trans (hb2.mono HB0.out.size))
             have HX1 := Lib.hid (HX0.out.trans (hb2.mono HX0.out.size))
             have HF2 := Lib.hid hf2
             have hz2' := (hb2.block _ (lt_of_block HBox.out)).trans HBox.out
             have HBox2 := Lib.hid hz2'
             have hh1 := (HS.out w2).1 (HSt.out _ hz2')
             obtain ⟨a2, c2, e2⟩ := wd_shape _ _ _ _ hf2.here
             generalize p.word.length = nx2 at e2
             subst e2
             clear hf2 hb2 hz2')
          | (go_at_call 10; refine (C2.out _ HB1.out).mono ?_
             rintro e w3 ⟨v3, rfl, hf3, hb3⟩
             obtain ⟨a3, c3, e3⟩ := ns_shape _ _ _ _ hf3.here
             generalize p.body.length = nx3 at e3
             subst e3
             have HB2 := Lib.hid (HB1.out.trans (hb3.mono HB1.out.size))
             have HX2 := Lib.hid (HX1.out.trans (hb3.mono HX1.out.size))
             have HF3 := Lib.hid (((HF2.out.on (On.below hb3 fun b hb => hb.2)).mono (T := Btw wx.heap.size w3.heap.size) fun b hb => ⟨Nat.le_trans HX0.out.size hb.1, Nat.lt_of_lt_of_le hb.2 hb3.size⟩).both (hf3.mono (T := Btw wx.heap.size w3.heap.size) fun b hb => ⟨Nat.le_trans HX1.out.size hb.1, hb.2⟩))
             have hbd := ((Below.refl w3.heap.size w3).alloc (Nat.le_refl _) (.cells #[.int .i64 p.kind, .bool p.quoted, .string p.text, .string p.op, .slice a2 nx2 c2, .slice a3 nx3 c3] 86))
             have HBd := Lib.hid hbd
             have hz3 := (hb3.block _ (lt_of_block HBox2.out)).trans HBox2.out
             have hz4 := (hbd.block _ (lt_of_block hz3)).trans hz3
             have HBox4 := Lib.hid hz4
             have hh2 := (HS.out w3).1 (HSt.out _ hz3)
             have hh3 := (HS.out _).1 (HSt.out _ hz4)
             have hh5 := (HS.out (w3.alloc (.cells #[.int .i64 p.kind, .bool p.quoted, .string p.text, .string p.op, .slice a2 nx2 c2, .slice a3 nx3 c3] 86)).drew).1 (HSt.out _ hz4)
             have HM3 := Lib.hid ((HM.out.low HX2.out).low hbd)
             have HF4 := Lib.hid ((HF3.out.on (On.below hbd fun b hb => hb.2)).imp (R := fun u => PtC (WdAt n) (NsAt n) u [.int .i64 p.kind, .bool p.quoted, .string p.text, .string p.op, .slice a2 nx2 c2, .slice a3 nx3 c3] p) fun u hu => ⟨_, _, rfl, HFit.out, hu.1, hu.2⟩)
             have hown := HM3.out.own
             rw [take_len (Nat.le_of_lt hlt')] at hown
             have hnew := heap_alloc_new w3 (.cells #[.int .i64 p.kind, .bool p.quoted, .string p.text, .string p.op, .slice a2 nx2 c2, .slice a3 nx3 c3] 86)
             have HN1 : Hid (∀ j u, ([.int .i64 p.kind, .bool p.quoted, .string p.text, .string p.op, .slice a2 nx2 c2, .slice a3 nx3 c3] : List Value)[j]? = some u → (w3.alloc (.cells #[.int .i64 p.kind, .bool p.quoted, .string p.text, .string p.op, .slice a2 nx2 c2, .slice a3 nx3 c3] 86)).cell? ((⟨w3.heap.size, 0, none⟩ : Addr).add j) = some u) := Lib.hid (by
               intro j u hj
               rw [add_at, Nat.zero_add]
               exact cells_at hnew (by simpa using hj))
             have HN2 : Hid (∀ u ∈ ([.int .i64 p.kind, .bool p.quoted, .string p.text, .string p.op, .slice a2 nx2 c2, .slice a3 nx3 c3] : List Value), u.oneCell' = true) := Lib.hid (by
               intro u hu
               simp only [List.mem_cons, List.not_mem_nil, or_false] at hu
               rcases hu with rfl | rfl | rfl | rfl | rfl | rfl <;> rfl)
             have hsz5 := (HB2.out.trans (hbd.mono HB2.out.size)).size
             clear hf3 hb3 hz3 hz4 hbd hnew)
          | (refine step_append_lies _ rfl _ _ 37 rfl w.heap.size 86 i0 _ 6 96 Tryz.underlying37 hi hz0 hz1 hz2 rfl (by decide) _ _ _ rfl hown ⟨w3.heap.size, 0, none⟩ 1 1 [.int .i64 p.kind, .bool p.quoted, .string p.text, .string p.op, .slice a2 nx2 c2, .slice a3 nx3 c3] rfl rfl HN1.out HN2.out Nat.zero_lt_one hml hmb hsz5 _ rfl ?_
             intro g cap w7 hown7 hgrow hat hlt7
             have HY : Hid (∀ b, Btw wx.heap.size w3.heap.size b → w.heap.size ≤ b ∧ b < (w3.alloc (.cells #[.int .i64 p.kind, .bool p.quoted, .string p.text, .string p.op, .slice a2 nx2 c2, .slice a3 nx3 c3] 86)).heap.size ∧ (Value.slice oa k oc).ownBlock ≠ some b) := Lib.hid fun b hb => ⟨Nat.le_trans HB.out.size hb.1, Nat.lt_of_lt_of_le hb.2 HBd.out.size, fun e => absurd (World.ownsRow.lt HM.out.own b e).2 (Nat.not_lt.2 hb.1)⟩
             have HM7 := Lib.hid (HM3.out.one hlt' Hp.out hown7 hgrow rfl hat rfl HY.out HF4.out)
             have HB7 := Lib.hid ((HB2.out.trans (HBd.out.mono HB2.out.size)).grown hgrow hsz5 (fun j hj => (World.ownsRow.lt hown j hj).1))
             have HRl : Hid (RelM 86 6 (PtC (WdAt n) (NsAt n)) l w (.slice (some ⟨g, 0, none⟩) (k + 1) cap) (.int .i64 ((k : Int) + 1)) w7) := Lib.hid (by
               obtain ⟨css', Z', hm⟩ := HM7.out
               exact ⟨k + 1, css', Z', hlt', vi (Int.natCast_succ k).symm, hm, HB7.out⟩)
             have hz7 := (hgrow.block _ (lt_of_block HBox4.out) (fun e => absurd (World.ownsRow.lt HM.out.own _ e.symm).2 (Nat.lt_irrefl _))).trans HBox4.out
             have hh4 := (HS.out w7).1 (HSt.out _ hz7)
             clear hown7 hgrow hat hlt7 hz7 hown hsz5))
      clear hh0 hh1 hh2 hh3 hh4 hh5 hml hmb
      go_wp2
      go_round
      case rel => exact HRl.out
      case measure => exact sz_meas hlt
    · have hkq : q = k := sz_eq hlt hk
      subst hkq
      have hm := HM.out
      have HF := Lib.hid (by
        have := hm.fin (by rw [take_len (by rw [Hq.out]; exact Nat.le_refl _)]; exact hlen)
        rw [List.take_of_length_le (by rw [Hq.out]; exact Nat.le_refl _)] at this
        exact this)
      clear hm
      go_wp2
      go_ret
      exact ⟨_, rfl, HF.out, HB.out⟩
end Go.Proofs.YtfaohicadahcjaaGreatDoor
