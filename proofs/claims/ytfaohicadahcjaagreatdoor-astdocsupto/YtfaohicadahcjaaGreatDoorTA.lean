/- Conversions of commands: whole. Conditions: lengths below a bound. -/
import Derived.Test.YtfaohicadahcjaaGreatDoorSZ
namespace Go.Proofs.YtfaohicadahcjaaGreatDoor
open Go.RowKit Go.PlainAid Go.ChangeShapes Go.WideShapes Go.ChangeAt
set_option linter.unusedSimpArgs false
set_option linter.unusedVariables false
theorem info64'' : (Tryz.prog.info? 64).map (fun i => (i.zero, i.size, i.bytes)) = some (some (.agg #[.int .i64 0, .string ⟨#[]⟩, .slice none 0 0, .slice none 0 0, .slice none 0 0, .slice none 0 0, .slice none 0 0]), 7, 144) := by kernel_rfl
theorem ndv_c {n : Nat} {u : World} {k : Int} {nm : ByteArray} {av wv rv lv mv : Value} {y : Nd} (h : NdV n u (.agg #[.int .i64 k, .string nm, av, wv, rv, lv, mv]) y) : NdC (WdAt n) (NsAt n) u [.int .i64 k, .string nm, av, wv, rv, lv, mv] y := by
  obtain ⟨av', wv', rv', lv', mv', e, h1, h2, h3, h4, h5, h6⟩ := h
  simp only [Value.agg.injEq, Array.mk.injEq, List.cons.injEq, Value.int.injEq, Value.string.injEq, and_true, true_and] at e
  obtain ⟨e1, e2, e3, e4, e5, e6, e7⟩ := e
  subst e3 e4 e5 e6 e7
  exact ⟨_, _, _, _, _, by rw [e1, e2], h1, h2, h3, h4, h5, h6⟩
set_option maxHeartbeats 16000000 in
set_option maxRecDepth 100000 in
theorem nodes10 (n : Nat) (G : Conv n) (v : Value) (l : List Nd) (w : World) (h : NsAt (n + 1) w v l) : Calls Tryz.prog 10 #[v] w (Out (fun u v' => NsAt (n + 1) u v' l) w) := by
  obtain ⟨i0, hi, hz0, hz1, hz2⟩ := info_of info64''
  have HL := Lib.hid h
  have hlen := ns_len _ _ _ _ h
  obtain ⟨a, c, rfl⟩ := ns_shape _ _ _ _ h
  obtain ⟨q, Hq⟩ : ∃ q, Hid (l.length = q) := ⟨_, Lib.hid rfl⟩
  rw [Hq.out] at HL hlen ⊢
  have HG := Lib.hid G
  clear h G
  go_enter Tryz.func10, Tryz.ntmps10
  go_wp2
  go_loopw [3, 8] (RelM 64 7 (NdC (WdAt n) (NsAt n)) l w) (fun _ i _ => q - (intOf i).toNat)
  case atStart => exact ⟨0, [], fun _ => False, Nat.zero_le _, rfl, Mk.nil (Nat.le_refl _), Below.refl _ _⟩
  case round =>
    obtain ⟨k, css, Z, hk, rfl, HM, HB⟩ := hrel
    rename World => wx
    have HM := Lib.hid HM
    have HB := Lib.hid HB
    obtain ⟨oa, oc, e0⟩ := HM.out.shape
    rw [take_len hk] at e0
    subst e0
    rw [Hq.out] at hk
    by_cases hlt : k < q
    · have hlt' : k < l.length := by rw [Hq.out]; exact hlt
      obtain ⟨m, b, off, c', a1, a2, a3, a4, a5, c1, c2, c3, c4, c5, em, e, hc, hfit, ⟨i1, i2, i3, i4, i5⟩, p0, p1, p2, p3, p4, p5, p6⟩ := ns_at2 HL.out k hlt'
      obtain rfl : n = m := by omega
      rw [Hq.out] at e hc
      cases e
      obtain ⟨x, Hx⟩ : ∃ x, Hid (l[k] = x) := ⟨_, Lib.hid rfl⟩
      rw [Hx.out] at hfit i1 i2 i3 i4 i5 p0 p1 p2 p3 p4 p5 p6
      replace p0 := cell_low p0 HB.out
      replace p1 := cell_low p1 HB.out
      replace p2 := cell_low p2 HB.out
      replace p3 := cell_low p3 HB.out
      replace p4 := cell_low p4 HB.out
      replace p5 := cell_low p5 HB.out
      replace p6 := cell_low p6 HB.out
      have C1 := Lib.hid fun (W : World) (hW : Below w.heap.size w W) => node39 n HG.out x a1 a2 a3 a4 a5 c1 c2 c3 c4 c5 W hfit (kept_ass n _ _ _ _ i1 hW) (kept_ws n _ _ _ _ i2 hW) (kept_rds n _ _ _ _ i3 hW) (kept_ls n _ _ _ _ i4 hW) (kept_ars n _ _ _ _ i5 hW)
      generalize x.assigns.length = m1 at p2 C1
      generalize x.words.length = m2 at p3 C1
      generalize x.redirs.length = m3 at p4 C1
      generalize x.lists.length = m4 at p5 C1
      generalize x.arms.length = m5 at p6 C1
      have hml := mlen hlt hlen
      have hmb := mul_le (c := 0) (b := 144) (Nat.lt_of_lt_of_le hlt hlen) (by decide)
      have HBX := Lib.hid ((Below.refl wx.heap.size wx).alloc (Nat.le_refl _) (.cells #[.int .i64 x.kind, .string x.name, .slice a1 m1 c1, .slice a2 m2 c2, .slice a3 m3 c3, .slice a4 m4 c4, .slice a5 m5 c5] 51))
      have hbox := heap_alloc_new wx (.cells #[.int .i64 x.kind, .string x.name, .slice a1 m1 c1, .slice a2 m2 c2, .slice a3 m3 c3, .slice a4 m4 c4, .slice a5 m5 c5] 51)
      clear hfit i1 i2 i3 i4 i5
      go_upto_region 5 with fail
      generalize wx.alloc (.cells #[.int .i64 x.kind, .string x.name, .slice a1 m1 c1, .slice a2 m2 c2, .slice a3 m3 c3, .slice a4 m4 c4, .slice a5 m5 c5] 51) = wy at HBX hbox ⊢
      have n0 := cells_at hbox (i := 0) rfl
      have n1 := cells_at hbox (i := 1) rfl
      have n2 := cells_at hbox (i := 2) rfl
      have n3 := cells_at hbox (i := 3) rfl
      have n4 := cells_at hbox (i := 4) rfl
      have n5 := cells_at hbox (i := 5) rfl
      have n6 := cells_at hbox (i := 6) rfl
      have HB0 := Lib.hid (HB.out.trans (HBX.out.mono HB.out.size))
      clear p0 p1 p2 p3 p4 p5 p6 hbox
      go_wp2_with fail
      refine (C1.out _ HB0.out).mono ?_
      rintro e w2 ⟨v2, rfl, hf2, hb2⟩
      obtain ⟨av, wv, rv, lv, mv, e2, _, j1, j2, j3, j4, j5⟩ := hf2.here
      obtain ⟨b1, d1, e3⟩ := j1.shape
      obtain ⟨b2, d2, e4⟩ := j2.shape
      obtain ⟨b3, d3, e5⟩ := j3.shape
      obtain ⟨b4, d4, e6⟩ := j4.shape
      obtain ⟨b5, d5, e7⟩ := j5.shape
      generalize x.assigns.length = r1 at e3
      generalize x.words.length = r2 at e4
      generalize x.redirs.length = r3 at e5
      generalize x.lists.length = r4 at e6
      generalize x.arms.length = r5 at e7
      subst e3 e4 e5 e6 e7
      subst e2
      clear j1 j2 j3 j4 j5
      have hbx := HBX.out.trans (hb2.mono HBX.out.size)
      have HM2 := HM.out.low hbx
      have hb3 := (Below.refl w2.heap.size w2).alloc (Nat.le_refl _) (.cells #[.int .i64 x.kind, .string x.name, .slice b1 r1 d1, .slice b2 r2 d2, .slice b3 r3 d3, .slice b4 r4 d4, .slice b5 r5 d5] 64)
      have HM3 := Lib.hid (HM2.low hb3)
      have hbx3 := hbx.trans (hb3.mono hbx.size)
      have HB3 := Lib.hid (HB.out.trans (hbx3.mono HB.out.size))
      have HF3 := Lib.hid (((hf2.on (On.below hb3 fun b hb => hb.2)).mono (T := Btw wx.heap.size w2.heap.size) fun b hb => ⟨Nat.le_trans HBX.out.size hb.1, hb.2⟩).imp (R := fun u => NdC (WdAt n) (NsAt n) u [.int .i64 x.kind, .string x.name, .slice b1 r1 d1, .slice b2 r2 d2, .slice b3 r3 d3, .slice b4 r4 d4, .slice b5 r5 d5] x) fun u hu => ndv_c hu)
      have hnew := heap_alloc_new w2 (.cells #[.int .i64 x.kind, .string x.name, .slice b1 r1 d1, .slice b2 r2 d2, .slice b3 r3 d3, .slice b4 r4 d4, .slice b5 r5 d5] 64)
      have HY : Hid (∀ b, Btw wx.heap.size w2.heap.size b → w.heap.size ≤ b ∧ b < (w2.alloc (.cells #[.int .i64 x.kind, .string x.name, .slice b1 r1 d1, .slice b2 r2 d2, .slice b3 r3 d3, .slice b4 r4 d4, .slice b5 r5 d5] 64)).heap.size ∧ (Value.slice oa k oc).ownBlock ≠ some b) := Lib.hid fun b hb => ⟨Nat.le_trans HB.out.size hb.1, Nat.lt_of_lt_of_le hb.2 hb3.size, fun e => absurd (World.ownsRow.lt HM.out.own b e).2 (Nat.not_lt.2 hb.1)⟩
      have hown := HM3.out.own
      rw [take_len (Nat.le_of_lt hlt')] at hown
      clear hf2 hb2 hb3 hbx hbx3 HM2 n0 n1 n2 n3 n4 n5 n6
      go_wp2_with (at_builtin; refine wpList_append_lies _ rfl _ _ 25 rfl w.heap.size 64 i0 _ 7 144 Tryz.underlying25 hi hz0 hz1 hz2 rfl (by decide) _ _ _ rfl hown ⟨_, 0, none⟩ 1 1 [.int .i64 x.kind, .string x.name, .slice b1 r1 d1, .slice b2 r2 d2, .slice b3 r3 d3, .slice b4 r4 d4, .slice b5 r5 d5] rfl rfl ?c1 ?c2 (by decide) ?c3 ?c4 ?c5 _ rfl ?_)
      case c1 =>
        intro j u hj
        rw [add_at, Nat.zero_add]
        exact cells_at hnew (by simpa using hj)
      case c2 =>
        intro u hu
        simp only [List.mem_cons, List.not_mem_nil, or_false] at hu
        rcases hu with rfl | rfl | rfl | rfl | rfl | rfl | rfl <;> rfl
      case c3 => exact hml
      case c4 => exact hmb
      case c5 => exact HB3.out.size
      intro g cap w4 hown4 hgrow hat hlt4
      have HM4 := Lib.hid (HM3.out.one hlt' Hx.out hown4 hgrow (push_size w2 _ _ rfl) hat rfl HY.out HF3.out)
      have HB4 := Lib.hid (HB3.out.grown hgrow HB3.out.size (fun j hj => (World.ownsRow.lt hown j hj).1))
      have HRl : Hid (RelM 64 7 (NdC (WdAt n) (NsAt n)) l w (.slice (some ⟨g, 0, none⟩) (k + 1) cap) (.int .i64 ((k : Int) + 1)) w4) := Lib.hid (by
        obtain ⟨css', Z', hm⟩ := HM4.out
        exact ⟨k + 1, css', Z', hlt', vi (Int.natCast_succ k).symm, hm, HB4.out⟩)
      clear hown4 hgrow hat hlt4 hown hnew hml hmb
      go_wp2
      go_round
      case rel => exact HRl.out
      case measure => exact sz_meas hlt
    · have hkq : q = k := sz_eq hlt hk
      subst hkq
      have hm := HM.out
      have HF := Lib.hid (by
        have := hm.fin (by rw [take_len (by rw [Hq.out]; exact Nat.le_refl _)]; exact hlen)
        rw [List.take_of_length_le (by rw [Hq.out]; exact Nat.le_refl _)] at this
        exact this)
      clear hm
      go_wp2
      go_ret
      exact ⟨_, rfl, HF.out, HB.out⟩
theorem conv : ∀ n, Conv n
  | 0 => ⟨fun v l w h => by
      obtain ⟨rfl, a, c, rfl⟩ := h
      exact (word19_nil a c w).mono fun e w' ⟨he, hw⟩ => by subst hw; exact ⟨_, he, fun u _ => ⟨rfl, _, _, rfl⟩, Below.refl _ _⟩,
    fun v l w h => by
      obtain ⟨rfl, a, c, rfl⟩ := h
      exact (nodes10_nil a c w).mono fun e w' ⟨he, hw⟩ => by subst hw; exact ⟨_, he, fun u _ => ⟨rfl, _, _, rfl⟩, Below.refl _ _⟩⟩
  | n + 1 => ⟨fun v l w h => word19 n (conv n) v l w h, fun v l w h => nodes10 n (conv n) v l w h⟩
end Go.Proofs.YtfaohicadahcjaaGreatDoor
