/- The document's Enter. Conditions: few nodes; entries by rising names. -/
import Derived.Test.YtgdjoojghkdcbaaXj
namespace Go.Proofs.Ytgdjoojghkdcbaa
open Go.RowKit Go.PlainAid
set_option linter.unusedSimpArgs false

theorem dirRE_ok {R : List Nr} {i : Nat} {n : Nr} (h : R[i]? = some n) (h1 : 1 ≤ i) (hk : n.kind = 2) : dirRE R i = 0 := by
  unfold dirRE
  rw [hasR_at h h1, Int.toNat_natCast, h]
  simp [hk]
set_option maxHeartbeats 1000000 in
set_option maxRecDepth 100000 in
theorem renter41_early (P : Nat → Prop) (v : Value) (room : Int) (Z : List Zn) (w : World) (h : XAt P v Z w) (hz : 0 < Z.length) (id k r : Int) (s : ByteArray)
    (hcase : (dirRE (nrs Z) id ≠ 0 ∧ r = dirRE (nrs Z) id) ∨ (dirRE (nrs Z) id = 0 ∧ hasR (nrs Z) k = false ∧ r = 12)) :
    Calls Try.prog 22 #[xv v room, .int .i64 id, .string s, .int .i64 k] w (GivesE P room Z r w) := by
  obtain ⟨g, c, rfl⟩ := h.shape hz
  have F0 := Frm.start h room
  have CF := rfolder32 P _ room Z _ F0.x hz id
  have CH : ∀ w1, XAt P (.slice (some ⟨g, 0, none⟩) Z.length c) Z w1 → _ := fun w1 x1 => has17 P _ room Z w1 x1 hz k
  have c0 := F0.c00
  have c1 := F0.c01
  have HF0 := Lib.hid F0
  clear h F0
  generalize hw' : (w.alloc (.cells #[.slice (some ⟨g, 0, none⟩) Z.length c, .int .i64 room] 28)).alloc (.cells #[.slice none 0 0, .int .i64 0] 28) = wa at HF0 c0 c1 CF
  rcases hcase with ⟨h1, rfl⟩ | ⟨h1, h2, rfl⟩
  · have h1' : (dirRE (nrs Z) id != 0) = true := by simpa using h1
    generalize dirRE (nrs Z) id = f at CF h1'
    replace CF := Lib.hid CF
    clear h1 CH
    go_enter Try.func22, Try.ntmps22
    go_wp2_with fail
    refine CF.out.mono ?_
    rintro e w1 ⟨rfl, hb⟩
    have F1 := HF0.out.below hb
    clear c0 c1 hb
    have c0 := F1.c00
    have c1 := F1.c01
    have q0 := F1.c10
    have q1 := F1.c11
    have p0 := F1.f1 0
    have p1 := F1.f1 1
    have HE := Lib.hid (F1.fin F1.x)
    clear F1
    go_wp2
    exact bodyPost_ret_by (results_x1 rfl _ _ _ _ _ rfl HE.out.2.2) rfl ⟨_, rfl, HE.out.1, HE.out.2.1⟩
  · rw [h1] at CF
    replace CF := Lib.hid CF
    simp only [h2] at CH
    replace CH := Lib.hid CH
    clear h1 h2
    go_enter Try.func22, Try.ntmps22
    go_wp2_with fail
    refine CF.out.mono ?_
    rintro e w1 ⟨rfl, hb⟩
    have F1 := HF0.out.below hb
    clear c0 c1 hb
    have c0 := F1.c00
    have c1 := F1.c01
    have CH1 := Lib.hid (CH.out w1 F1.x)
    have HF1 := Lib.hid F1
    clear F1
    go_wp2_with fail
    refine CH1.out.mono ?_
    rintro e w2 ⟨rfl, hb⟩
    have F1 := HF1.out.below hb
    clear c0 c1 hb
    have c0 := F1.c00
    have c1 := F1.c01
    have q0 := F1.c10
    have q1 := F1.c11
    have p0 := F1.f1 0
    have p1 := F1.f1 1
    have HE := Lib.hid (F1.fin F1.x)
    clear F1
    go_wp2
    exact bodyPost_ret_by (results_x1 rfl _ _ _ _ _ rfl HE.out.2.2) rfl ⟨_, rfl, HE.out.1, HE.out.2.1⟩

/-- Enter's error, where both nodes are there. -/
def enRE (R : List Nr) (room : Int) (n m : Nr) (k : Int) (s : ByteArray) : Int :=
  if m.kind = 2 ∧ 0 < linksR R k then 22 else if 32768 ≤ linksR R k then 24 else if putE s n.ents ≠ 0 then putE s n.ents else if room < usedR R + s.size then 20 else 0

set_option maxHeartbeats 2000000 in
set_option maxRecDepth 100000 in
theorem renter41_links (P : Nat → Prop) (v : Value) (room : Int) (Z : List Zn) (w : World) (h : XAt P v Z w) (hinv : InvR (nrs Z)) (i j : Nat) (zi zj : Zn) (hi : Z[i]? = some zi) (hj : Z[j]? = some zj) (hi1 : 1 ≤ i) (hj1 : 1 ≤ j) (hki : zi.1.kind = 2) (hkj : (zj.1.kind != 0) = true) (s : ByteArray) (r : Int)
    (hcase : (zj.1.kind = 2 ∧ 0 < linksR (nrs Z) j ∧ r = 22) ∨ (¬ (zj.1.kind = 2 ∧ 0 < linksR (nrs Z) j) ∧ 32768 ≤ linksR (nrs Z) j ∧ r = 24)) :
    Calls Try.prog 22 #[xv v room, .int .i64 i, .string s, .int .i64 j] w (GivesE P room Z r w) := by
  have hlen : Z.length ≤ 1000 := by have := hinv.len; simpa using this
  have hel : ∀ z ∈ Z, z.1.ents.length ≤ 100000 := fun z hz => by have := hinv.few z.1 (List.mem_map.2 ⟨z, hz, rfl⟩); omega
  have hil : i < Z.length := (List.getElem?_eq_some_iff.1 hi).1
  have hjl : j < Z.length := (List.getElem?_eq_some_iff.1 hj).1
  have hz : 0 < Z.length := by omega
  obtain ⟨g, c, rfl⟩ := h.shape hz
  have F0 := Frm.start h room
  have CF := rfolder32 P _ room Z _ F0.x hz i
  have hd : dirRE (nrs Z) i = 0 := dirRE_ok (nrs_get hi) hi1 hki
  rw [hd] at CF
  replace CF := Lib.hid CF
  have CH : ∀ w1, XAt P (.slice (some ⟨g, 0, none⟩) Z.length c) Z w1 → Calls Try.prog 38 #[xv (.slice (some ⟨g, 0, none⟩) Z.length c) room, .int .i64 j] w1 fun e w' => e = .returned (.bool true) ∧ Below w1.heap.size w1 w' := fun w1 x1 => by
    have := has17 P _ room Z w1 x1 hz j
    rwa [hasR_at (nrs_get hj) hj1, hkj] at this
  have CL : ∀ w1, XAt P (.slice (some ⟨g, 0, none⟩) Z.length c) Z w1 → _ := fun w1 x1 => links67 P _ room Z w1 x1 hz (by omega) hel j (by have := hinv.links j; omega)
  have c0 := F0.c00
  have c1 := F0.c01
  have HF0 := Lib.hid F0
  have HJ := Lib.hid hj
  clear h F0 hd hinv hel hi hj hki
  generalize hw' : (w.alloc (.cells #[.slice (some ⟨g, 0, none⟩) Z.length c, .int .i64 room] 28)).alloc (.cells #[.slice none 0 0, .int .i64 0] 28) = wa at HF0 c0 c1 CF
  generalize linksR (nrs Z) j = lk at CL hcase
  replace CH := Lib.hid CH
  replace CL := Lib.hid CL
  have hcs : ((zj.1.kind == 2) = true ∧ 0 < lk ∧ r = 22) ∨ ((zj.1.kind == 2) = true ∧ ¬ 0 < lk ∧ 32768 ≤ lk ∧ r = 24) ∨ ((zj.1.kind == 2) = false ∧ 32768 ≤ lk ∧ r = 24) := by
    rcases hcase with ⟨h1, h2, h3⟩ | ⟨h1, h2, h3⟩
    · exact .inl ⟨by simpa using h1, h2, h3⟩
    · by_cases e : zj.1.kind = 2
      · exact absurd ⟨e, by omega⟩ h1
      · exact .inr (.inr ⟨by simpa using e, h2, h3⟩)
  clear hcase hkj
  rcases hcs with ⟨h1, h2, rfl⟩ | ⟨h1, h2, h3, rfl⟩ | ⟨h1, h3, rfl⟩
  · go_enter Try.func22, Try.ntmps22
    go_wp2_with fail
    refine CF.out.mono ?_
    rintro e w1 ⟨rfl, hb⟩
    have F1 := HF0.out.below hb
    clear c0 c1 hb
    have c0 := F1.c00
    have c1 := F1.c01
    have CH1 := Lib.hid (CH.out w1 F1.x)
    have HF1 := Lib.hid F1
    clear F1
    go_wp2_with fail
    refine CH1.out.mono ?_
    rintro e w2 ⟨rfl, hb⟩
    have F2 := HF1.out.below hb
    clear c0 c1 hb
    have c0 := F2.c00
    have c1 := F2.c01
    have d0 := (F2.x.at HJ.out).c0
    have CL1 := Lib.hid (CL.out w2 F2.x)
    have HF2 := Lib.hid F2
    clear F2
    go_wp2_with fail
    refine CL1.out.mono ?_
    rintro e w3 ⟨rfl, hb⟩
    have F1 := HF2.out.below hb
    clear c0 c1 hb d0
    have c0 := F1.c00
    have c1 := F1.c01
    have q0 := F1.c10
    have q1 := F1.c11
    have p0 := F1.f1 0
    have p1 := F1.f1 1
    have HE := Lib.hid (F1.fin F1.x)
    clear F1
    go_wp2
    exact bodyPost_ret_by (results_x1 rfl _ _ _ _ _ rfl HE.out.2.2) rfl ⟨_, rfl, HE.out.1, HE.out.2.1⟩
  · omega
  · go_enter Try.func22, Try.ntmps22
    go_wp2_with fail
    refine CF.out.mono ?_
    rintro e w1 ⟨rfl, hb⟩
    have F1 := HF0.out.below hb
    clear c0 c1 hb
    have c0 := F1.c00
    have c1 := F1.c01
    have CH1 := Lib.hid (CH.out w1 F1.x)
    have HF1 := Lib.hid F1
    clear F1
    go_wp2_with fail
    refine CH1.out.mono ?_
    rintro e w2 ⟨rfl, hb⟩
    have F2 := HF1.out.below hb
    clear c0 c1 hb
    have c0 := F2.c00
    have c1 := F2.c01
    have d0 := (F2.x.at HJ.out).c0
    have CL1 := Lib.hid (CL.out w2 F2.x)
    have HF2 := Lib.hid F2
    clear F2
    go_wp2_with fail
    refine CL1.out.mono ?_
    rintro e w3 ⟨rfl, hb⟩
    have F1 := HF2.out.below hb
    clear c0 c1 hb d0
    have c0 := F1.c00
    have c1 := F1.c01
    have q0 := F1.c10
    have q1 := F1.c11
    have p0 := F1.f1 0
    have p1 := F1.f1 1
    have HE := Lib.hid (F1.fin F1.x)
    clear F1
    go_wp2
    exact bodyPost_ret_by (results_x1 rfl _ _ _ _ _ rfl HE.out.2.2) rfl ⟨_, rfl, HE.out.1, HE.out.2.1⟩

set_option maxHeartbeats 3000000 in
set_option maxRecDepth 100000 in
theorem renter41_main (P : Nat → Prop) (v : Value) (room : Int) (Z : List Zn) (w : World) (h : XAt P v Z w) (hinv : InvR (nrs Z)) (hP : ∀ b, w.heap.size ≤ b → P b) (i j : Nat) (zi zj : Zn) (hi : Z[i]? = some zi) (hj : Z[j]? = some zj) (hi1 : 1 ≤ i) (hj1 : 1 ≤ j) (hki : zi.1.kind = 2) (hkj : (zj.1.kind != 0) = true) (hrise : Rising zi.1.ents) (s : ByteArray) (hs : s.size ≤ 100000)
    (hl1 : ¬ (zj.1.kind = 2 ∧ 0 < linksR (nrs Z) j)) (hl2 : ¬ 32768 ≤ linksR (nrs Z) j) (hput : putE s zi.1.ents ≠ 0) :
    Calls Try.prog 22 #[xv v room, .int .i64 i, .string s, .int .i64 j] w (GivesE P room Z (putE s zi.1.ents) w) := by
  have hlen : Z.length ≤ 1000 := by have := hinv.len; simpa using this
  have hel : ∀ z ∈ Z, z.1.ents.length ≤ 100000 := fun z hz => by have := hinv.few z.1 (List.mem_map.2 ⟨z, hz, rfl⟩); omega
  have hmi := List.mem_of_getElem? hi
  have hil9 := hinv.few zi.1 (List.mem_map.2 ⟨zi, hmi, rfl⟩)
  have hil : i < Z.length := (List.getElem?_eq_some_iff.1 hi).1
  have hjl : j < Z.length := (List.getElem?_eq_some_iff.1 hj).1
  have hz : 0 < Z.length := by omega
  obtain ⟨g, c, rfl⟩ := h.shape hz
  have F0 := Frm.start h room
  have CF := rfolder32 P _ room Z _ F0.x hz i
  rw [dirRE_ok (nrs_get hi) hi1 hki] at CF
  replace CF := Lib.hid CF
  have CH : ∀ w1, XAt P (.slice (some ⟨g, 0, none⟩) Z.length c) Z w1 → Calls Try.prog 38 #[xv (.slice (some ⟨g, 0, none⟩) Z.length c) room, .int .i64 j] w1 fun e w' => e = .returned (.bool true) ∧ Below w1.heap.size w1 w' := fun w1 x1 => by
    have := has17 P _ room Z w1 x1 hz j
    rwa [hasR_at (nrs_get hj) hj1, hkj] at this
  have CL : ∀ w1, XAt P (.slice (some ⟨g, 0, none⟩) Z.length c) Z w1 → _ := fun w1 x1 => links67 P _ room Z w1 x1 hz (by omega) hel j (by have := hinv.links j; omega)
  have c0 := F0.c00
  have c1 := F0.c01
  have HF0 := Lib.hid F0
  have HJ := Lib.hid hj
  have HI := Lib.hid hi
  obtain ⟨ea, ec, hev⟩ := slice_shape (h.ents _ hmi)
  have hpe := h.pe _ hmi
  obtain ⟨ni, evi⟩ := zi
  simp only at hev hil9 hki hrise hput hpe
  subst hev
  have HPE := Lib.hid hpe
  have HP := Lib.hid hP
  have hcs : (zj.1.kind == 2) = true ∧ ¬ 0 < linksR (nrs Z) j ∨ (zj.1.kind == 2) = false := by
    by_cases e : zj.1.kind = 2
    · exact .inl ⟨by simpa using e, fun e2 => hl1 ⟨e, e2⟩⟩
    · exact .inr (by simpa using e)
  clear h F0 hinv hel hi hj hki hkj hl1 hP hpe
  generalize hw' : (w.alloc (.cells #[.slice (some ⟨g, 0, none⟩) Z.length c, .int .i64 room] 28)).alloc (.cells #[.slice none 0 0, .int .i64 0] 28) = wa at HF0 c0 c1 CF
  generalize linksR (nrs Z) j = lk at CL hcs hl2
  replace CH := Lib.hid CH
  replace CL := Lib.hid CL
  have hput' : (putE s ni.ents != 0) = true := by simpa using hput
  rcases hcs with ⟨h1, h2⟩ | h1
  · go_enter Try.func22, Try.ntmps22
    go_wp2_with fail
    refine CF.out.mono ?_
    rintro e w1 ⟨rfl, hb⟩
    have F1 := HF0.out.below hb
    clear c0 c1 hb
    have c0 := F1.c00
    have c1 := F1.c01
    have CH1 := Lib.hid (CH.out w1 F1.x)
    have HF1 := Lib.hid F1
    clear F1
    go_wp2_with fail
    refine CH1.out.mono ?_
    rintro e w2 ⟨rfl, hb⟩
    have F2 := HF1.out.below hb
    clear c0 c1 hb
    have c0 := F2.c00
    have c1 := F2.c01
    have d0 := (F2.x.at HJ.out).c0
    have CL1 := Lib.hid (CL.out w2 F2.x)
    have HF2 := Lib.hid F2
    clear F2
    go_wp2_with fail
    refine CL1.out.mono ?_
    rintro e w25 ⟨rfl, hb⟩
    have F25 := HF2.out.below hb
    clear c0 c1 hb
    have c0 := F25.c00
    have c1 := F25.c01
    have CL2 := Lib.hid (CL.out w25 F25.x)
    have HF25 := Lib.hid F25
    clear F25 d0
    go_wp2_with fail
    refine CL2.out.mono ?_
    rintro e w3 ⟨rfl, hb⟩
    have F3 := HF25.out.below hb
    clear c0 c1 hb
    have c0 := F3.c00
    have c1 := F3.c01
    have D := F3.x.at HI.out
    have i0 := D.c0
    have i1 := D.c1
    have i2 := D.c2
    have i3 := D.c3
    have i4 := D.c4
    have Bt := (Below.refl w3.heap.size w3).alloc (Nat.le_refl _) (.cells #[.int .i64 ni.kind, .int .i64 ni.mode, .int .i64 ni.holds, .string ni.data, .slice ea ni.ents.length ec] 48)
    have F4 := F3.below Bt
    have CPu := Lib.hid (rput18 0 (.slice ea ni.ents.length ec) ni.ents s j _ (F4.x.ents _ hmi) hrise (by omega) hs (Nat.zero_le _))
    have HTB := Lib.hid (heap_alloc_new w3 (.cells #[.int .i64 ni.kind, .int .i64 ni.mode, .int .i64 ni.holds, .string ni.data, .slice ea ni.ents.length ec] 48))
    have HF4 := Lib.hid F4
    have HW3 := Lib.hid F3.bel.size
    have HGL := Lib.hid ((World.ownsRow.lt F3.x.row g rfl).2)
    clear F3 F4 D Bt
    go_wp2_with fail
    refine CPu.out.mono ?_
    rintro e w5 ⟨u5, rfl, r5, b5⟩
    have F5 := HF4.out.below b5
    have HTB5 := Lib.hid ((b5.block _ (lt_of_block HTB.out)).trans HTB.out)
    have hr5lt := fun b e => (r5.lt (k := b) e)
    obtain ⟨ua, uc, hu5⟩ := slice_shape r5
    subst hu5
    clear c0 c1 i0 i1 i2 i3 i4
    have c0 := F5.c00
    have c1 := F5.c01
    have q0 := F5.c10
    have q1 := F5.c11
    have p0 := F5.f1 0
    have p1 := F5.f1 1
    have HE := Lib.hid (F5.fin F5.x)
    clear F5 r5 b5 hr5lt
    go_wp2
    exact bodyPost_ret_by (results_x1 rfl _ _ _ _ _ rfl HE.out.2.2) rfl ⟨_, rfl, HE.out.1, HE.out.2.1⟩
  · go_enter Try.func22, Try.ntmps22
    go_wp2_with fail
    refine CF.out.mono ?_
    rintro e w1 ⟨rfl, hb⟩
    have F1 := HF0.out.below hb
    clear c0 c1 hb
    have c0 := F1.c00
    have c1 := F1.c01
    have CH1 := Lib.hid (CH.out w1 F1.x)
    have HF1 := Lib.hid F1
    clear F1
    go_wp2_with fail
    refine CH1.out.mono ?_
    rintro e w2 ⟨rfl, hb⟩
    have F2 := HF1.out.below hb
    clear c0 c1 hb
    have c0 := F2.c00
    have c1 := F2.c01
    have d0 := (F2.x.at HJ.out).c0
    have CL1 := Lib.hid (CL.out w2 F2.x)
    have HF2 := Lib.hid F2
    clear F2
    go_wp2_with fail
    refine CL1.out.mono ?_
    rintro e w3 ⟨rfl, hb⟩
    have F3 := HF2.out.below hb
    clear c0 c1 hb
    have c0 := F3.c00
    have c1 := F3.c01
    have D := F3.x.at HI.out
    have i0 := D.c0
    have i1 := D.c1
    have i2 := D.c2
    have i3 := D.c3
    have i4 := D.c4
    have Bt := (Below.refl w3.heap.size w3).alloc (Nat.le_refl _) (.cells #[.int .i64 ni.kind, .int .i64 ni.mode, .int .i64 ni.holds, .string ni.data, .slice ea ni.ents.length ec] 48)
    have F4 := F3.below Bt
    have CPu := Lib.hid (rput18 0 (.slice ea ni.ents.length ec) ni.ents s j _ (F4.x.ents _ hmi) hrise (by omega) hs (Nat.zero_le _))
    have HTB := Lib.hid (heap_alloc_new w3 (.cells #[.int .i64 ni.kind, .int .i64 ni.mode, .int .i64 ni.holds, .string ni.data, .slice ea ni.ents.length ec] 48))
    have HF4 := Lib.hid F4
    have HW3 := Lib.hid F3.bel.size
    have HGL := Lib.hid ((World.ownsRow.lt F3.x.row g rfl).2)
    clear F3 F4 D Bt
    go_wp2_with fail
    refine CPu.out.mono ?_
    rintro e w5 ⟨u5, rfl, r5, b5⟩
    have F5 := HF4.out.below b5
    have HTB5 := Lib.hid ((b5.block _ (lt_of_block HTB.out)).trans HTB.out)
    have hr5lt := fun b e => (r5.lt (k := b) e)
    obtain ⟨ua, uc, hu5⟩ := slice_shape r5
    subst hu5
    clear c0 c1 i0 i1 i2 i3 i4
    have c0 := F5.c00
    have c1 := F5.c01
    have q0 := F5.c10
    have q1 := F5.c11
    have p0 := F5.f1 0
    have p1 := F5.f1 1
    have HE := Lib.hid (F5.fin F5.x)
    clear F5 r5 b5 hr5lt
    go_wp2
    exact bodyPost_ret_by (results_x1 rfl _ _ _ _ _ rfl HE.out.2.2) rfl ⟨_, rfl, HE.out.1, HE.out.2.1⟩
end Go.Proofs.Ytgdjoojghkdcbaa
