/- The document's Enter that is done, or has no room. Conditions: few nodes; entries by rising names. -/
import Derived.Test.YtgdjoojghkdcbaaXn
namespace Go.Proofs.Ytgdjoojghkdcbaa
open Go.RowKit Go.PlainAid
set_option linter.unusedSimpArgs false

/-- A node's copy whose entries are written, beside a call under way. -/
theorem tmp_set4 {P : Nat → Prop} {w w2 : World} {v u0 u1 : Value} {room : Int} {Z : List Zn} {tb : Nat} {n : Nr} {ev : Value} (F : Frm P w v u0 u1 room Z w2) (hb : w2.heap[tb]? = some (.cells #[.int .i64 n.kind, .int .i64 n.mode, .int .i64 n.holds, .string n.data, ev] 48 (0, 0))) (hge : w.heap.size ≤ tb) (hx : ∀ b, v.ownBlock = some b → b ≠ tb) (X : Value) :
    Frm P w v u0 u1 room Z (w2.setCell ⟨tb, 4, none⟩ X) ∧ (w2.setCell ⟨tb, 4, none⟩ X).heap[tb]? = some (.cells #[.int .i64 n.kind, .int .i64 n.mode, .int .i64 n.holds, .string n.data, X] 48 (0, 0)) := by
  have hk : ∀ k, k ≠ tb → (w2.setCell ⟨tb, 4, none⟩ X).heap[k]? = w2.heap[k]? := fun k e => Below.heap_setCell _ _ _ _ e
  have hne : ∀ k cu, w2.heap[k]? = some (.cells cu 28 (0, 0)) → k ≠ tb := fun k cu e e' => by rw [e', hb] at e; cases e
  refine ⟨⟨F.bel.setCell (p := ⟨tb, 4, none⟩) hge _, (hk _ (hne _ _ F.b0)).trans F.b0, (hk _ (hne _ _ F.b1)).trans F.b1, ⟨⟨F.x.row.1, ?_⟩, fun z hz => (F.x.ents z hz).keep fun k e _ => hk k (fun e' => by rw [e'] at e; exact (F.x.ents z hz).ne hb (by decide) e), F.x.pv, F.x.pe⟩⟩, by rw [blk_setCell hb]; rfl⟩
  rcases F.x.row.2 with h3 | ⟨g, cap, cur, e, h4, h5, h6⟩
  · exact .inl h3
  · exact .inr ⟨g, cap, cur, e, h4, (hk g (hx g (by rw [e]; rfl))).trans h5, h6⟩

set_option maxHeartbeats 3000000 in
set_option maxRecDepth 100000 in
theorem renter41_20 (P : Nat → Prop) (v : Value) (room : Int) (Z : List Zn) (w : World) (h : XAt P v Z w) (hinv : InvR (nrs Z)) (hP : ∀ b, w.heap.size ≤ b → P b) (i j : Nat) (zi zj : Zn) (hi : Z[i]? = some zi) (hj : Z[j]? = some zj) (hi1 : 1 ≤ i) (hj1 : 1 ≤ j) (hki : zi.1.kind = 2) (hkj : (zj.1.kind != 0) = true) (hrise : Rising zi.1.ents) (s : ByteArray) (hs : s.size ≤ 100000)
    (hl1 : ¬ (zj.1.kind = 2 ∧ 0 < linksR (nrs Z) j)) (hl2 : ¬ 32768 ≤ linksR (nrs Z) j) (hput : putE s zi.1.ents = 0) (hu0 : usedR (nrs Z) ≤ 1000000000000) (hu : room < usedR (nrs Z) + s.size) :
    Calls Try.prog 22 #[xv v room, .int .i64 i, .string s, .int .i64 j] w (GivesE P room Z 20 w) := by
  have hlen : Z.length ≤ 1000 := by have := hinv.len; simpa using this
  have hel : ∀ z ∈ Z, z.1.ents.length ≤ 100000 := fun z hz => by have := hinv.few z.1 (List.mem_map.2 ⟨z, hz, rfl⟩); omega
  have hmi := List.mem_of_getElem? hi
  have hil9 := hinv.few zi.1 (List.mem_map.2 ⟨zi, hmi, rfl⟩)
  have hil : i < Z.length := (List.getElem?_eq_some_iff.1 hi).1
  have hjl : j < Z.length := (List.getElem?_eq_some_iff.1 hj).1
  have hz : 0 < Z.length := by omega
  obtain ⟨g, c, rfl⟩ := h.shape hz
  have F0 := Frm.start h room
  have CF := rfolder32 P _ room Z _ F0.x hz i
  rw [dirRE_ok (nrs_get hi) hi1 hki] at CF
  replace CF := Lib.hid CF
  have CH : ∀ w1, XAt P (.slice (some ⟨g, 0, none⟩) Z.length c) Z w1 → Calls Try.prog 38 #[xv (.slice (some ⟨g, 0, none⟩) Z.length c) room, .int .i64 j] w1 fun e w' => e = .returned (.bool true) ∧ Below w1.heap.size w1 w' := fun w1 x1 => by
    have := has17 P _ room Z w1 x1 hz j
    rwa [hasR_at (nrs_get hj) hj1, hkj] at this
  have CL : ∀ w1, XAt P (.slice (some ⟨g, 0, none⟩) Z.length c) Z w1 → _ := fun w1 x1 => links67 P _ room Z w1 x1 hz (by omega) hel j (by have := hinv.links j; omega)
  have CU : ∀ w1, XAt P (.slice (some ⟨g, 0, none⟩) Z.length c) Z w1 → _ := fun w1 x1 => rused30 P _ room Z w1 x1 hz (by omega) hel hu0
  have hun : 0 ≤ usedR (nrs Z) := by unfold usedR; omega
  have c0 := F0.c00
  have c1 := F0.c01
  have HF0 := Lib.hid F0
  have HJ := Lib.hid hj
  have HI := Lib.hid hi
  obtain ⟨ea, ec, hev⟩ := slice_shape (h.ents _ hmi)
  have hpe := h.pe _ hmi
  obtain ⟨ni, evi⟩ := zi
  simp only at hev hil9 hki hrise hput hpe
  subst hev
  have HPE := Lib.hid hpe
  have HP := Lib.hid hP
  have hcs : (zj.1.kind == 2) = true ∧ ¬ 0 < linksR (nrs Z) j ∨ (zj.1.kind == 2) = false := by
    by_cases e : zj.1.kind = 2
    · exact .inl ⟨by simpa using e, fun e2 => hl1 ⟨e, e2⟩⟩
    · exact .inr (by simpa using e)
  clear h F0 hinv hel hi hj hki hkj hl1 hP hpe
  generalize hw' : (w.alloc (.cells #[.slice (some ⟨g, 0, none⟩) Z.length c, .int .i64 room] 28)).alloc (.cells #[.slice none 0 0, .int .i64 0] 28) = wa at HF0 c0 c1 CF
  generalize linksR (nrs Z) j = lk at CL hcs hl2
  generalize usedR (nrs Z) = uu at CU hu hu0 hun
  have hwr : IntKind.i64.wrap (uu + (s.size : Int)) = uu + s.size := IntWalk.i64_in _ (by omega)
  replace CU := Lib.hid CU
  replace CH := Lib.hid CH
  replace CL := Lib.hid CL
  rcases hcs with ⟨h1, h2⟩ | h1
  · go_enter Try.func22, Try.ntmps22
    go_wp2_with fail
    refine CF.out.mono ?_
    rintro e w1 ⟨rfl, hb⟩
    have F1 := HF0.out.below hb
    clear c0 c1 hb
    have c0 := F1.c00
    have c1 := F1.c01
    have CH1 := Lib.hid (CH.out w1 F1.x)
    have HF1 := Lib.hid F1
    clear F1
    go_wp2_with fail
    refine CH1.out.mono ?_
    rintro e w2 ⟨rfl, hb⟩
    have F2 := HF1.out.below hb
    clear c0 c1 hb
    have c0 := F2.c00
    have c1 := F2.c01
    have d0 := (F2.x.at HJ.out).c0
    have CL1 := Lib.hid (CL.out w2 F2.x)
    have HF2 := Lib.hid F2
    clear F2
    go_wp2_with fail
    refine CL1.out.mono ?_
    rintro e w25 ⟨rfl, hb⟩
    have F25 := HF2.out.below hb
    clear c0 c1 hb
    have c0 := F25.c00
    have c1 := F25.c01
    have CL2 := Lib.hid (CL.out w25 F25.x)
    have HF25 := Lib.hid F25
    clear F25 d0
    go_wp2_with fail
    refine CL2.out.mono ?_
    rintro e w3 ⟨rfl, hb⟩
    have F3 := HF25.out.below hb
    clear c0 c1 hb
    have c0 := F3.c00
    have c1 := F3.c01
    have D := F3.x.at HI.out
    have i0 := D.c0
    have i1 := D.c1
    have i2 := D.c2
    have i3 := D.c3
    have i4 := D.c4
    have Bt := (Below.refl w3.heap.size w3).alloc (Nat.le_refl _) (.cells #[.int .i64 ni.kind, .int .i64 ni.mode, .int .i64 ni.holds, .string ni.data, .slice ea ni.ents.length ec] 48)
    have F4 := F3.below Bt
    have CPu := Lib.hid (fput58 0 w3.heap.size (.slice ea ni.ents.length ec) ni.ents s j _ (F4.x.ents _ hmi) hrise (by omega) Bt.size hput)
    have HTB := Lib.hid (heap_alloc_new w3 (.cells #[.int .i64 ni.kind, .int .i64 ni.mode, .int .i64 ni.holds, .string ni.data, .slice ea ni.ents.length ec] 48))
    have HF4 := Lib.hid F4
    have HW3 := Lib.hid F3.bel.size
    have HGL := Lib.hid ((World.ownsRow.lt F3.x.row g rfl).2)
    clear F3 F4 D Bt
    go_wp2_with fail
    refine CPu.out.mono ?_
    rintro e w5 ⟨u5, rfl, r5, b5⟩
    have F5 := HF4.out.below b5
    have HTB5 := Lib.hid ((b5.block _ (lt_of_block HTB.out)).trans HTB.out)
    have hr5lt := fun b e => (r5.lt (k := b) e)
    obtain ⟨ua, uc, hu5⟩ := slice_shape r5
    subst hu5
    clear c0 c1 i0 i1 i2 i3 i4
    have c0 := F5.c00
    have c1 := F5.c01
    have HF5 := Lib.hid F5
    have HR5 := Lib.hid r5
    have CU1 := Lib.hid (CU.out w5.drew (F5.below ((Below.refl _ _).drew)).x)
    have a0 : w5.drew.cell? ⟨w.heap.size, 0, none⟩ = some (.slice (some ⟨g, 0, none⟩) Z.length c) := c0
    have a1 : w5.drew.cell? ⟨w.heap.size, 1, none⟩ = some (.int .i64 room) := c1
    clear F5 r5 b5 hr5lt
    go_wp2
    go_region_held3 (fun wx => wx.cell? ⟨w.heap.size, 0, none⟩ = some (.slice (some ⟨g, 0, none⟩) Z.length c) ∧ wx.cell? ⟨w.heap.size, 1, none⟩ = some (.int .i64 room)) (first | exact ⟨a0, a1⟩ | exact ⟨c00', c01'⟩)
      (first | (go_at_call 42; refine CU1.out.mono ?_; rintro e w6 ⟨rfl, hb2⟩; have B6 := ((Below.refl w5.heap.size w5).drew).trans (hb2.mono (Nat.le_refl _)); have F6 := HF5.out.below B6; have c00' := F6.c00; have c01' := F6.c01; have HF6 := Lib.hid F6; have HTB6 := Lib.hid ((B6.block _ (lt_of_block HTB5.out)).trans HTB5.out); have HR6 := Lib.hid (HR5.out.below B6); clear F6 hb2 B6))
    clear c0 c1 a0 a1 c00' c01'
    have F6 := HF6.out
    have c0 := F6.c00
    have c1 := F6.c01
    have q0 := F6.c10
    have q1 := F6.c11
    have p0 := F6.f1 0
    have p1 := F6.f1 1
    have HE := Lib.hid (F6.fin F6.x)
    clear F6
    go_wp2
    exact bodyPost_ret_by (results_x1 rfl _ _ _ _ _ rfl HE.out.2.2) rfl ⟨_, rfl, HE.out.1, HE.out.2.1⟩
  · go_enter Try.func22, Try.ntmps22
    go_wp2_with fail
    refine CF.out.mono ?_
    rintro e w1 ⟨rfl, hb⟩
    have F1 := HF0.out.below hb
    clear c0 c1 hb
    have c0 := F1.c00
    have c1 := F1.c01
    have CH1 := Lib.hid (CH.out w1 F1.x)
    have HF1 := Lib.hid F1
    clear F1
    go_wp2_with fail
    refine CH1.out.mono ?_
    rintro e w2 ⟨rfl, hb⟩
    have F2 := HF1.out.below hb
    clear c0 c1 hb
    have c0 := F2.c00
    have c1 := F2.c01
    have d0 := (F2.x.at HJ.out).c0
    have CL1 := Lib.hid (CL.out w2 F2.x)
    have HF2 := Lib.hid F2
    clear F2
    go_wp2_with fail
    refine CL1.out.mono ?_
    rintro e w3 ⟨rfl, hb⟩
    have F3 := HF2.out.below hb
    clear c0 c1 hb
    have c0 := F3.c00
    have c1 := F3.c01
    have D := F3.x.at HI.out
    have i0 := D.c0
    have i1 := D.c1
    have i2 := D.c2
    have i3 := D.c3
    have i4 := D.c4
    have Bt := (Below.refl w3.heap.size w3).alloc (Nat.le_refl _) (.cells #[.int .i64 ni.kind, .int .i64 ni.mode, .int .i64 ni.holds, .string ni.data, .slice ea ni.ents.length ec] 48)
    have F4 := F3.below Bt
    have CPu := Lib.hid (fput58 0 w3.heap.size (.slice ea ni.ents.length ec) ni.ents s j _ (F4.x.ents _ hmi) hrise (by omega) Bt.size hput)
    have HTB := Lib.hid (heap_alloc_new w3 (.cells #[.int .i64 ni.kind, .int .i64 ni.mode, .int .i64 ni.holds, .string ni.data, .slice ea ni.ents.length ec] 48))
    have HF4 := Lib.hid F4
    have HW3 := Lib.hid F3.bel.size
    have HGL := Lib.hid ((World.ownsRow.lt F3.x.row g rfl).2)
    clear F3 F4 D Bt
    go_wp2_with fail
    refine CPu.out.mono ?_
    rintro e w5 ⟨u5, rfl, r5, b5⟩
    have F5 := HF4.out.below b5
    have HTB5 := Lib.hid ((b5.block _ (lt_of_block HTB.out)).trans HTB.out)
    have hr5lt := fun b e => (r5.lt (k := b) e)
    obtain ⟨ua, uc, hu5⟩ := slice_shape r5
    subst hu5
    clear c0 c1 i0 i1 i2 i3 i4
    have c0 := F5.c00
    have c1 := F5.c01
    have HF5 := Lib.hid F5
    have HR5 := Lib.hid r5
    have CU1 := Lib.hid (CU.out w5.drew (F5.below ((Below.refl _ _).drew)).x)
    have a0 : w5.drew.cell? ⟨w.heap.size, 0, none⟩ = some (.slice (some ⟨g, 0, none⟩) Z.length c) := c0
    have a1 : w5.drew.cell? ⟨w.heap.size, 1, none⟩ = some (.int .i64 room) := c1
    clear F5 r5 b5 hr5lt
    go_wp2
    go_region_held3 (fun wx => wx.cell? ⟨w.heap.size, 0, none⟩ = some (.slice (some ⟨g, 0, none⟩) Z.length c) ∧ wx.cell? ⟨w.heap.size, 1, none⟩ = some (.int .i64 room)) (first | exact ⟨a0, a1⟩ | exact ⟨c00', c01'⟩)
      (first | (go_at_call 42; refine CU1.out.mono ?_; rintro e w6 ⟨rfl, hb2⟩; have B6 := ((Below.refl w5.heap.size w5).drew).trans (hb2.mono (Nat.le_refl _)); have F6 := HF5.out.below B6; have c00' := F6.c00; have c01' := F6.c01; have HF6 := Lib.hid F6; have HTB6 := Lib.hid ((B6.block _ (lt_of_block HTB5.out)).trans HTB5.out); have HR6 := Lib.hid (HR5.out.below B6); clear F6 hb2 B6))
    clear c0 c1 a0 a1 c00' c01'
    have F6 := HF6.out
    have c0 := F6.c00
    have c1 := F6.c01
    have q0 := F6.c10
    have q1 := F6.c11
    have p0 := F6.f1 0
    have p1 := F6.f1 1
    have HE := Lib.hid (F6.fin F6.x)
    clear F6
    go_wp2
    exact bodyPost_ret_by (results_x1 rfl _ _ _ _ _ rfl HE.out.2.2) rfl ⟨_, rfl, HE.out.1, HE.out.2.1⟩

set_option maxHeartbeats 3000000 in
set_option maxRecDepth 100000 in
theorem renter41_ok (P : Nat → Prop) (v : Value) (room : Int) (Z : List Zn) (w : World) (h : XAt P v Z w) (hinv : InvR (nrs Z)) (hP : ∀ b, w.heap.size ≤ b → P b) (i j : Nat) (zi zj : Zn) (hi : Z[i]? = some zi) (hj : Z[j]? = some zj) (hi1 : 1 ≤ i) (hj1 : 1 ≤ j) (hki : zi.1.kind = 2) (hkj : (zj.1.kind != 0) = true) (hrise : Rising zi.1.ents) (s : ByteArray) (hs : s.size ≤ 100000)
    (hl1 : ¬ (zj.1.kind = 2 ∧ 0 < linksR (nrs Z) j)) (hl2 : ¬ 32768 ≤ linksR (nrs Z) j) (hput : putE s zi.1.ents = 0) (hu0 : usedR (nrs Z) ≤ 1000000000000) (hu : ¬ room < usedR (nrs Z) + s.size) :
    Calls Try.prog 22 #[xv v room, .int .i64 i, .string s, .int .i64 j] w (GivesR P room (fun R => R = (nrs Z).set i { zi.1 with ents := putL s j zi.1.ents }) 0 w) := by
  have hlen : Z.length ≤ 1000 := by have := hinv.len; simpa using this
  have hel : ∀ z ∈ Z, z.1.ents.length ≤ 100000 := fun z hz => by have := hinv.few z.1 (List.mem_map.2 ⟨z, hz, rfl⟩); omega
  have hmi := List.mem_of_getElem? hi
  have hil9 := hinv.few zi.1 (List.mem_map.2 ⟨zi, hmi, rfl⟩)
  have hil : i < Z.length := (List.getElem?_eq_some_iff.1 hi).1
  have hjl : j < Z.length := (List.getElem?_eq_some_iff.1 hj).1
  have hz : 0 < Z.length := by omega
  obtain ⟨g, c, rfl⟩ := h.shape hz
  have F0 := Frm.start h room
  have CF := rfolder32 P _ room Z _ F0.x hz i
  rw [dirRE_ok (nrs_get hi) hi1 hki] at CF
  replace CF := Lib.hid CF
  have CH : ∀ w1, XAt P (.slice (some ⟨g, 0, none⟩) Z.length c) Z w1 → Calls Try.prog 38 #[xv (.slice (some ⟨g, 0, none⟩) Z.length c) room, .int .i64 j] w1 fun e w' => e = .returned (.bool true) ∧ Below w1.heap.size w1 w' := fun w1 x1 => by
    have := has17 P _ room Z w1 x1 hz j
    rwa [hasR_at (nrs_get hj) hj1, hkj] at this
  have CL : ∀ w1, XAt P (.slice (some ⟨g, 0, none⟩) Z.length c) Z w1 → _ := fun w1 x1 => links67 P _ room Z w1 x1 hz (by omega) hel j (by have := hinv.links j; omega)
  have CU : ∀ w1, XAt P (.slice (some ⟨g, 0, none⟩) Z.length c) Z w1 → _ := fun w1 x1 => rused30 P _ room Z w1 x1 hz (by omega) hel hu0
  have hun : 0 ≤ usedR (nrs Z) := by unfold usedR; omega
  have c0 := F0.c00
  have c1 := F0.c01
  have HF0 := Lib.hid F0
  have HJ := Lib.hid hj
  have HI := Lib.hid hi
  obtain ⟨ea, ec, hev⟩ := slice_shape (h.ents _ hmi)
  have hpe := h.pe _ hmi
  obtain ⟨ni, evi⟩ := zi
  simp only at hev hil9 hki hrise hput hpe
  subst hev
  have HPE := Lib.hid hpe
  have HP := Lib.hid hP
  have hcs : (zj.1.kind == 2) = true ∧ ¬ 0 < linksR (nrs Z) j ∨ (zj.1.kind == 2) = false := by
    by_cases e : zj.1.kind = 2
    · exact .inl ⟨by simpa using e, fun e2 => hl1 ⟨e, e2⟩⟩
    · exact .inr (by simpa using e)
  clear h F0 hinv hel hi hj hki hkj hl1 hP hpe
  generalize hw' : (w.alloc (.cells #[.slice (some ⟨g, 0, none⟩) Z.length c, .int .i64 room] 28)).alloc (.cells #[.slice none 0 0, .int .i64 0] 28) = wa at HF0 c0 c1 CF
  generalize linksR (nrs Z) j = lk at CL hcs hl2
  generalize usedR (nrs Z) = uu at CU hu hu0 hun
  have hwr : IntKind.i64.wrap (uu + (s.size : Int)) = uu + s.size := IntWalk.i64_in _ (by omega)
  replace CU := Lib.hid CU
  replace CH := Lib.hid CH
  replace CL := Lib.hid CL
  rcases hcs with ⟨h1, h2⟩ | h1
  · go_enter Try.func22, Try.ntmps22
    go_wp2_with fail
    refine CF.out.mono ?_
    rintro e w1 ⟨rfl, hb⟩
    have F1 := HF0.out.below hb
    clear c0 c1 hb
    have c0 := F1.c00
    have c1 := F1.c01
    have CH1 := Lib.hid (CH.out w1 F1.x)
    have HF1 := Lib.hid F1
    clear F1
    go_wp2_with fail
    refine CH1.out.mono ?_
    rintro e w2 ⟨rfl, hb⟩
    have F2 := HF1.out.below hb
    clear c0 c1 hb
    have c0 := F2.c00
    have c1 := F2.c01
    have d0 := (F2.x.at HJ.out).c0
    have CL1 := Lib.hid (CL.out w2 F2.x)
    have HF2 := Lib.hid F2
    clear F2
    go_wp2_with fail
    refine CL1.out.mono ?_
    rintro e w25 ⟨rfl, hb⟩
    have F25 := HF2.out.below hb
    clear c0 c1 hb
    have c0 := F25.c00
    have c1 := F25.c01
    have CL2 := Lib.hid (CL.out w25 F25.x)
    have HF25 := Lib.hid F25
    clear F25 d0
    go_wp2_with fail
    refine CL2.out.mono ?_
    rintro e w3 ⟨rfl, hb⟩
    have F3 := HF25.out.below hb
    clear c0 c1 hb
    have c0 := F3.c00
    have c1 := F3.c01
    have D := F3.x.at HI.out
    have i0 := D.c0
    have i1 := D.c1
    have i2 := D.c2
    have i3 := D.c3
    have i4 := D.c4
    have Bt := (Below.refl w3.heap.size w3).alloc (Nat.le_refl _) (.cells #[.int .i64 ni.kind, .int .i64 ni.mode, .int .i64 ni.holds, .string ni.data, .slice ea ni.ents.length ec] 48)
    have F4 := F3.below Bt
    have CPu := Lib.hid (fput58 0 w3.heap.size (.slice ea ni.ents.length ec) ni.ents s j _ (F4.x.ents _ hmi) hrise (by omega) Bt.size hput)
    have HTB := Lib.hid (heap_alloc_new w3 (.cells #[.int .i64 ni.kind, .int .i64 ni.mode, .int .i64 ni.holds, .string ni.data, .slice ea ni.ents.length ec] 48))
    have HF4 := Lib.hid F4
    have HW3 := Lib.hid F3.bel.size
    have HGL := Lib.hid ((World.ownsRow.lt F3.x.row g rfl).2)
    clear F3 F4 D Bt
    go_wp2_with fail
    refine CPu.out.mono ?_
    rintro e w5 ⟨u5, rfl, r5, b5⟩
    have F5 := HF4.out.below b5
    have HTB5 := Lib.hid ((b5.block _ (lt_of_block HTB.out)).trans HTB.out)
    have hr5lt := fun b e => (r5.lt (k := b) e)
    obtain ⟨ua, uc, hu5⟩ := slice_shape r5
    subst hu5
    clear c0 c1 i0 i1 i2 i3 i4
    have c0 := F5.c00
    have c1 := F5.c01
    have HF5 := Lib.hid F5
    have HR5 := Lib.hid r5
    have CU1 := Lib.hid (CU.out w5.drew (F5.below ((Below.refl _ _).drew)).x)
    have a0 : w5.drew.cell? ⟨w.heap.size, 0, none⟩ = some (.slice (some ⟨g, 0, none⟩) Z.length c) := c0
    have a1 : w5.drew.cell? ⟨w.heap.size, 1, none⟩ = some (.int .i64 room) := c1
    clear F5 r5 b5 hr5lt
    go_wp2
    go_region_held3 (fun wx => wx.cell? ⟨w.heap.size, 0, none⟩ = some (.slice (some ⟨g, 0, none⟩) Z.length c) ∧ wx.cell? ⟨w.heap.size, 1, none⟩ = some (.int .i64 room)) (first | exact ⟨a0, a1⟩ | exact ⟨c00', c01'⟩)
      (first | (go_at_call 42; refine CU1.out.mono ?_; rintro e w6 ⟨rfl, hb2⟩; have B6 := ((Below.refl w5.heap.size w5).drew).trans (hb2.mono (Nat.le_refl _)); have F6 := HF5.out.below B6; have c00' := F6.c00; have c01' := F6.c01; have HF6 := Lib.hid F6; have HTB6 := Lib.hid ((B6.block _ (lt_of_block HTB5.out)).trans HTB5.out); have HR6 := Lib.hid (HR5.out.below B6); clear F6 hb2 B6))
    clear c0 c1 a0 a1 c00' c01'
    have F6 := HF6.out
    have c0 := F6.c00
    have c1 := F6.c01
    have t4 : w6.cell? ⟨w3.heap.size, 4, none⟩ = some (.slice ea ni.ents.length ec) := cells_at HTB6.out rfl
    have tf : w6.frozen? ⟨w3.heap.size, 4, none⟩ = false := free_at HTB6.out
    have TS := tmp_set4 F6 HTB6.out HW3.out (fun b e e' => by have := HGL.out; simp [Value.ownBlock] at e; omega) (.slice ua (putL s j ni.ents).length uc)
    have r7 : Row 85 0 (.slice ua (putL s j ni.ents).length uc) (putL s j ni.ents) (w6.setCell ⟨w3.heap.size, 4, none⟩ (.slice ua (putL s j ni.ents).length uc)) := (HR6.out.mono (Nat.zero_le _)).keep fun k e _ => Below.heap_setCell _ _ _ _ (fun e' => by rw [e'] at e; exact HR6.out.ne HTB6.out (by decide) e)
    have hpn : ∀ b, (Value.slice ua (putL s j ni.ents).length uc).ownBlock = some b → P b := fun b e => HP.out b (Nat.le_trans HW3.out (HR6.out.lt e).1)
    have CP := Lib.hid (rput47 P _ room Z _ TS.1.x (by omega) (fun b hb => HP.out b (Nat.le_trans TS.1.bel.size hb)) i hil { ni with ents := putL s j ni.ents } (.slice ua (putL s j ni.ents).length uc) r7 hpn)
    have b0 := TS.1.c00
    have b1 := TS.1.c01
    have s0 : (w6.setCell ⟨w3.heap.size, 4, none⟩ (.slice ua (putL s j ni.ents).length uc)).cell? ⟨w3.heap.size, 0, none⟩ = some (.int .i64 ni.kind) := cells_at TS.2 rfl
    have s1 : (w6.setCell ⟨w3.heap.size, 4, none⟩ (.slice ua (putL s j ni.ents).length uc)).cell? ⟨w3.heap.size, 1, none⟩ = some (.int .i64 ni.mode) := cells_at TS.2 rfl
    have s2 : (w6.setCell ⟨w3.heap.size, 4, none⟩ (.slice ua (putL s j ni.ents).length uc)).cell? ⟨w3.heap.size, 2, none⟩ = some (.int .i64 ni.holds) := cells_at TS.2 rfl
    have s3 : (w6.setCell ⟨w3.heap.size, 4, none⟩ (.slice ua (putL s j ni.ents).length uc)).cell? ⟨w3.heap.size, 3, none⟩ = some (.string ni.data) := cells_at TS.2 rfl
    have s4 : (w6.setCell ⟨w3.heap.size, 4, none⟩ (.slice ua (putL s j ni.ents).length uc)).cell? ⟨w3.heap.size, 4, none⟩ = some (.slice ua (putL s j ni.ents).length uc) := cells_at TS.2 rfl
    have HTS := Lib.hid TS.1
    clear F6 TS r7 hpn
    go_wp2_with fail
    refine CP.out.mono ?_
    rintro e w8 ⟨v8, rfl, X8, B8⟩
    have F8 := HTS.out.below B8
    obtain ⟨g8, c8, hv8⟩ := X8.shape (by rw [List.length_set]; omega)
    rw [List.length_set] at hv8
    subst hv8
    clear c0 c1 b0 b1 s0 s1 s2 s3 s4 t4 tf
    have q0 := F8.c10
    have q1 := F8.c11
    have p0 := F8.f1 0
    have p1 := F8.f1 1
    have HE := Lib.hid (F8.fin X8)
    clear F8 X8 B8 CP HTS
    go_wp2
    exact bodyPost_ret_by (results_x1 rfl _ _ _ _ _ rfl HE.out.2.2) rfl ⟨_, nrs_set _ _ _ _, _, rfl, HE.out.1, HE.out.2.1⟩
  · go_enter Try.func22, Try.ntmps22
    go_wp2_with fail
    refine CF.out.mono ?_
    rintro e w1 ⟨rfl, hb⟩
    have F1 := HF0.out.below hb
    clear c0 c1 hb
    have c0 := F1.c00
    have c1 := F1.c01
    have CH1 := Lib.hid (CH.out w1 F1.x)
    have HF1 := Lib.hid F1
    clear F1
    go_wp2_with fail
    refine CH1.out.mono ?_
    rintro e w2 ⟨rfl, hb⟩
    have F2 := HF1.out.below hb
    clear c0 c1 hb
    have c0 := F2.c00
    have c1 := F2.c01
    have d0 := (F2.x.at HJ.out).c0
    have CL1 := Lib.hid (CL.out w2 F2.x)
    have HF2 := Lib.hid F2
    clear F2
    go_wp2_with fail
    refine CL1.out.mono ?_
    rintro e w3 ⟨rfl, hb⟩
    have F3 := HF2.out.below hb
    clear c0 c1 hb
    have c0 := F3.c00
    have c1 := F3.c01
    have D := F3.x.at HI.out
    have i0 := D.c0
    have i1 := D.c1
    have i2 := D.c2
    have i3 := D.c3
    have i4 := D.c4
    have Bt := (Below.refl w3.heap.size w3).alloc (Nat.le_refl _) (.cells #[.int .i64 ni.kind, .int .i64 ni.mode, .int .i64 ni.holds, .string ni.data, .slice ea ni.ents.length ec] 48)
    have F4 := F3.below Bt
    have CPu := Lib.hid (fput58 0 w3.heap.size (.slice ea ni.ents.length ec) ni.ents s j _ (F4.x.ents _ hmi) hrise (by omega) Bt.size hput)
    have HTB := Lib.hid (heap_alloc_new w3 (.cells #[.int .i64 ni.kind, .int .i64 ni.mode, .int .i64 ni.holds, .string ni.data, .slice ea ni.ents.length ec] 48))
    have HF4 := Lib.hid F4
    have HW3 := Lib.hid F3.bel.size
    have HGL := Lib.hid ((World.ownsRow.lt F3.x.row g rfl).2)
    clear F3 F4 D Bt
    go_wp2_with fail
    refine CPu.out.mono ?_
    rintro e w5 ⟨u5, rfl, r5, b5⟩
    have F5 := HF4.out.below b5
    have HTB5 := Lib.hid ((b5.block _ (lt_of_block HTB.out)).trans HTB.out)
    have hr5lt := fun b e => (r5.lt (k := b) e)
    obtain ⟨ua, uc, hu5⟩ := slice_shape r5
    subst hu5
    clear c0 c1 i0 i1 i2 i3 i4
    have c0 := F5.c00
    have c1 := F5.c01
    have HF5 := Lib.hid F5
    have HR5 := Lib.hid r5
    have CU1 := Lib.hid (CU.out w5.drew (F5.below ((Below.refl _ _).drew)).x)
    have a0 : w5.drew.cell? ⟨w.heap.size, 0, none⟩ = some (.slice (some ⟨g, 0, none⟩) Z.length c) := c0
    have a1 : w5.drew.cell? ⟨w.heap.size, 1, none⟩ = some (.int .i64 room) := c1
    clear F5 r5 b5 hr5lt
    go_wp2
    go_region_held3 (fun wx => wx.cell? ⟨w.heap.size, 0, none⟩ = some (.slice (some ⟨g, 0, none⟩) Z.length c) ∧ wx.cell? ⟨w.heap.size, 1, none⟩ = some (.int .i64 room)) (first | exact ⟨a0, a1⟩ | exact ⟨c00', c01'⟩)
      (first | (go_at_call 42; refine CU1.out.mono ?_; rintro e w6 ⟨rfl, hb2⟩; have B6 := ((Below.refl w5.heap.size w5).drew).trans (hb2.mono (Nat.le_refl _)); have F6 := HF5.out.below B6; have c00' := F6.c00; have c01' := F6.c01; have HF6 := Lib.hid F6; have HTB6 := Lib.hid ((B6.block _ (lt_of_block HTB5.out)).trans HTB5.out); have HR6 := Lib.hid (HR5.out.below B6); clear F6 hb2 B6))
    clear c0 c1 a0 a1 c00' c01'
    have F6 := HF6.out
    have c0 := F6.c00
    have c1 := F6.c01
    have t4 : w6.cell? ⟨w3.heap.size, 4, none⟩ = some (.slice ea ni.ents.length ec) := cells_at HTB6.out rfl
    have tf : w6.frozen? ⟨w3.heap.size, 4, none⟩ = false := free_at HTB6.out
    have TS := tmp_set4 F6 HTB6.out HW3.out (fun b e e' => by have := HGL.out; simp [Value.ownBlock] at e; omega) (.slice ua (putL s j ni.ents).length uc)
    have r7 : Row 85 0 (.slice ua (putL s j ni.ents).length uc) (putL s j ni.ents) (w6.setCell ⟨w3.heap.size, 4, none⟩ (.slice ua (putL s j ni.ents).length uc)) := (HR6.out.mono (Nat.zero_le _)).keep fun k e _ => Below.heap_setCell _ _ _ _ (fun e' => by rw [e'] at e; exact HR6.out.ne HTB6.out (by decide) e)
    have hpn : ∀ b, (Value.slice ua (putL s j ni.ents).length uc).ownBlock = some b → P b := fun b e => HP.out b (Nat.le_trans HW3.out (HR6.out.lt e).1)
    have CP := Lib.hid (rput47 P _ room Z _ TS.1.x (by omega) (fun b hb => HP.out b (Nat.le_trans TS.1.bel.size hb)) i hil { ni with ents := putL s j ni.ents } (.slice ua (putL s j ni.ents).length uc) r7 hpn)
    have b0 := TS.1.c00
    have b1 := TS.1.c01
    have s0 : (w6.setCell ⟨w3.heap.size, 4, none⟩ (.slice ua (putL s j ni.ents).length uc)).cell? ⟨w3.heap.size, 0, none⟩ = some (.int .i64 ni.kind) := cells_at TS.2 rfl
    have s1 : (w6.setCell ⟨w3.heap.size, 4, none⟩ (.slice ua (putL s j ni.ents).length uc)).cell? ⟨w3.heap.size, 1, none⟩ = some (.int .i64 ni.mode) := cells_at TS.2 rfl
    have s2 : (w6.setCell ⟨w3.heap.size, 4, none⟩ (.slice ua (putL s j ni.ents).length uc)).cell? ⟨w3.heap.size, 2, none⟩ = some (.int .i64 ni.holds) := cells_at TS.2 rfl
    have s3 : (w6.setCell ⟨w3.heap.size, 4, none⟩ (.slice ua (putL s j ni.ents).length uc)).cell? ⟨w3.heap.size, 3, none⟩ = some (.string ni.data) := cells_at TS.2 rfl
    have s4 : (w6.setCell ⟨w3.heap.size, 4, none⟩ (.slice ua (putL s j ni.ents).length uc)).cell? ⟨w3.heap.size, 4, none⟩ = some (.slice ua (putL s j ni.ents).length uc) := cells_at TS.2 rfl
    have HTS := Lib.hid TS.1
    clear F6 TS r7 hpn
    go_wp2_with fail
    refine CP.out.mono ?_
    rintro e w8 ⟨v8, rfl, X8, B8⟩
    have F8 := HTS.out.below B8
    obtain ⟨g8, c8, hv8⟩ := X8.shape (by rw [List.length_set]; omega)
    rw [List.length_set] at hv8
    subst hv8
    clear c0 c1 b0 b1 s0 s1 s2 s3 s4 t4 tf
    have q0 := F8.c10
    have q1 := F8.c11
    have p0 := F8.f1 0
    have p1 := F8.f1 1
    have HE := Lib.hid (F8.fin X8)
    clear F8 X8 B8 CP HTS
    go_wp2
    exact bodyPost_ret_by (results_x1 rfl _ _ _ _ _ rfl HE.out.2.2) rfl ⟨_, nrs_set _ _ _ _, _, rfl, HE.out.1, HE.out.2.1⟩
end Go.Proofs.Ytgdjoojghkdcbaa
