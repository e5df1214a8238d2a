/- The document's Make. Conditions: few nodes. -/
import Derived.Test.YtgdjoojghkdcbaaXi
import Derived.Deep.RegionHeld3
namespace Go.Proofs.Ytgdjoojghkdcbaa
open Go.RowKit Go.PlainAid
set_option linter.unusedSimpArgs false

def makeRE (R : List Nr) (room kind m : Int) (s : ByteArray) : Int :=
  if kind < 1 ∨ 3 < kind ∨ (kind = 2 ∧ s.size ≠ 0) then 43 else if rightB m = false then 10 else if 4194304 < s.size then 18 else if 65536 ≤ countR R then 24 else if room < usedR R + s.size then 20 else 0
/-- A node that is made. -/
abbrev newZ (kind m : Int) (s : ByteArray) : Zn := (⟨kind, m, 1, s, []⟩, .slice none 0 0)
def GivesM (P : Nat → Prop) (room : Int) (Z : List Zn) (id err : Int) (w : World) (e : Ending) (w' : World) : Prop := ∃ v', e = .returned (.tuple #[xv v' room, .int .i64 id, .int .i64 err]) ∧ XAt P v' Z w' ∧ Below w.heap.size w w'

set_option maxHeartbeats 1000000 in
set_option maxRecDepth 100000 in
theorem rmake34_20 (P : Nat → Prop) (v : Value) (room : Int) (Z : List Zn) (w : World) (h : XAt P v Z w) (hz : 0 < Z.length) (hinv : InvR (nrs Z)) (kind m : Int) (s : ByteArray) (hk1 : ¬ kind < 1) (hk2 : ¬ 3 < kind) (q3 : (kind == 2) = false ∨ (kind = 2 ∧ s.toList.isEmpty = true)) (hm1 : ¬ m < 0) (hm2 : ¬ 4095 < m) (hs : s.size ≤ 4194304) (hc : ¬ 65536 ≤ countR (nrs Z)) (hu0 : usedR (nrs Z) ≤ 1000000000000) (hu : room < usedR (nrs Z) + s.size) :
    Calls Try.prog 20 #[xv v room, .int .i64 kind, .int .i64 m, .string s] w (GivesM P room Z 0 20 w) := by
  have hlen : Z.length ≤ 1000 := by have := hinv.len; simpa using this
  have hel : ∀ z ∈ Z, z.1.ents.length ≤ 100000 := fun z hz => by have := hinv.few z.1 (List.mem_map.2 ⟨z, hz, rfl⟩); omega
  obtain ⟨g, c, rfl⟩ := h.shape hz
  have F0 := Frm.start h room
  have CC := rcount71 P _ room Z _ F0.x hz (by omega)
  have CU : ∀ w1, XAt P (.slice (some ⟨g, 0, none⟩) Z.length c) Z w1 → _ := fun w1 x1 => rused30 P _ room Z w1 x1 hz (by omega) hel hu0
  have c0 := F0.c00
  have c1 := F0.c01
  have HF0 := Lib.hid F0
  have hun : 0 ≤ usedR (nrs Z) := by unfold usedR; omega
  clear h F0 hinv hel
  generalize hw' : (w.alloc (.cells #[.slice (some ⟨g, 0, none⟩) Z.length c, .int .i64 room] 28)).alloc (.cells #[.slice none 0 0, .int .i64 0] 28) = wa at HF0 c0 c1 CC
  generalize countR (nrs Z) = cc at CC hc
  generalize usedR (nrs Z) = uu at CU hu hu0 hun
  have hwr : IntKind.i64.wrap (uu + (s.size : Int)) = uu + s.size := IntWalk.i64_in _ (by omega)
  replace CC := Lib.hid CC
  replace CU := Lib.hid CU
  rcases q3 with q3 | ⟨rfl, q3⟩ <;>
  · go_enter Try.func20, Try.ntmps20
    go_wp2_with fail
    refine CC.out.mono ?_
    rintro e w1 ⟨rfl, hb⟩
    have F1 := HF0.out.below hb
    clear c0 c1 hb
    have c0 := F1.c00
    have c1 := F1.c01
    have HF1 := Lib.hid F1
    have CU1 := Lib.hid (CU.out w1.drew (F1.below ((Below.refl _ _).drew)).x)
    clear F1
    go_wp2
    have a0 : w1.drew.cell? ⟨w.heap.size, 0, none⟩ = some (.slice (some ⟨g, 0, none⟩) Z.length c) := c0
    have a1 : w1.drew.cell? ⟨w.heap.size, 1, none⟩ = some (.int .i64 room) := c1
    go_region_held3 (fun wx => wx.cell? ⟨w.heap.size, 0, none⟩ = some (.slice (some ⟨g, 0, none⟩) Z.length c) ∧ wx.cell? ⟨w.heap.size, 1, none⟩ = some (.int .i64 room)) (first | exact ⟨a0, a1⟩ | exact ⟨c00', c01'⟩)
      (first | (go_at_call 42; refine CU1.out.mono ?_; rintro e w2 ⟨rfl, hb2⟩; have F2 := HF1.out.below (((Below.refl _ w1).drew).trans (hb2.mono (Nat.le_refl _))); have c00' := F2.c00; have c01' := F2.c01; have HF2 := Lib.hid F2; clear F2 hb2))
    have F2 := HF2.out
    clear c0 c1 a0 a1
    have c0 := F2.c00
    have c1 := F2.c01
    have q0 := F2.c10
    have q1 := F2.c11
    have p0 := F2.f1 0
    have p1 := F2.f1 1
    have HE := Lib.hid (F2.fin F2.x)
    clear F2
    go_wp2
    exact bodyPost_ret_by (results_x2 rfl _ _ _ _ _ rfl HE.out.2.2) rfl ⟨_, rfl, HE.out.1, HE.out.2.1⟩

set_option maxHeartbeats 1000000 in
set_option maxRecDepth 100000 in
theorem rmake34_43 (P : Nat → Prop) (v : Value) (room : Int) (Z : List Zn) (w : World) (h : XAt P v Z w) (hz : 0 < Z.length) (kind m : Int) (s : ByteArray) (hbad : kind < 1 ∨ (¬ kind < 1 ∧ 3 < kind) ∨ (kind = 2 ∧ s.toList.isEmpty = false)) :
    Calls Try.prog 20 #[xv v room, .int .i64 kind, .int .i64 m, .string s] w (GivesM P room Z 0 43 w) := by
  obtain ⟨g, c, rfl⟩ := h.shape hz
  have F0 := Frm.start h room
  have c0 := F0.c00
  have c1 := F0.c01
  have q0 := F0.c10
  have q1 := F0.c11
  have p0 := F0.f1 0
  have p1 := F0.f1 1
  have HE := Lib.hid (F0.fin F0.x)
  clear h F0
  generalize hw' : (w.alloc (.cells #[.slice (some ⟨g, 0, none⟩) Z.length c, .int .i64 room] 28)).alloc (.cells #[.slice none 0 0, .int .i64 0] 28) = wa at HE c0 c1 q0 q1 p0 p1
  rcases hbad with hb | ⟨hb, hb2⟩ | ⟨rfl, hb⟩ <;>
  · go_enter Try.func20, Try.ntmps20
    go_wp2
    exact bodyPost_ret_by (results_x2 rfl _ _ _ _ _ rfl HE.out.2.2) rfl ⟨_, rfl, HE.out.1, HE.out.2.1⟩

set_option maxHeartbeats 1000000 in
set_option maxRecDepth 100000 in
theorem rmake34_10 (P : Nat → Prop) (v : Value) (room : Int) (Z : List Zn) (w : World) (h : XAt P v Z w) (hz : 0 < Z.length) (kind m : Int) (s : ByteArray) (hk1 : ¬ kind < 1) (hk2 : ¬ 3 < kind) (q3 : (kind == 2) = false ∨ (kind = 2 ∧ s.toList.isEmpty = true)) (hm : m < 0 ∨ (¬ m < 0 ∧ 4095 < m)) :
    Calls Try.prog 20 #[xv v room, .int .i64 kind, .int .i64 m, .string s] w (GivesM P room Z 0 10 w) := by
  obtain ⟨g, c, rfl⟩ := h.shape hz
  have F0 := Frm.start h room
  have c0 := F0.c00
  have c1 := F0.c01
  have q0 := F0.c10
  have q1 := F0.c11
  have p0 := F0.f1 0
  have p1 := F0.f1 1
  have HE := Lib.hid (F0.fin F0.x)
  clear h F0
  generalize hw' : (w.alloc (.cells #[.slice (some ⟨g, 0, none⟩) Z.length c, .int .i64 room] 28)).alloc (.cells #[.slice none 0 0, .int .i64 0] 28) = wa at HE c0 c1 q0 q1 p0 p1
  rcases q3 with q3 | ⟨rfl, q3⟩ <;> rcases hm with hm | ⟨hm, hm2⟩ <;>
  · go_enter Try.func20, Try.ntmps20
    go_wp2
    exact bodyPost_ret_by (results_x2 rfl _ _ _ _ _ rfl HE.out.2.2) rfl ⟨_, rfl, HE.out.1, HE.out.2.1⟩

set_option maxHeartbeats 1000000 in
set_option maxRecDepth 100000 in
theorem rmake34_18 (P : Nat → Prop) (v : Value) (room : Int) (Z : List Zn) (w : World) (h : XAt P v Z w) (hz : 0 < Z.length) (kind m : Int) (s : ByteArray) (hk1 : ¬ kind < 1) (hk2 : ¬ 3 < kind) (q3 : (kind == 2) = false ∨ (kind = 2 ∧ s.toList.isEmpty = true)) (hm1 : ¬ m < 0) (hm2 : ¬ 4095 < m) (hs : 4194304 < s.size) :
    Calls Try.prog 20 #[xv v room, .int .i64 kind, .int .i64 m, .string s] w (GivesM P room Z 0 18 w) := by
  obtain ⟨g, c, rfl⟩ := h.shape hz
  have F0 := Frm.start h room
  have c0 := F0.c00
  have c1 := F0.c01
  have q0 := F0.c10
  have q1 := F0.c11
  have p0 := F0.f1 0
  have p1 := F0.f1 1
  have HE := Lib.hid (F0.fin F0.x)
  clear h F0
  generalize hw' : (w.alloc (.cells #[.slice (some ⟨g, 0, none⟩) Z.length c, .int .i64 room] 28)).alloc (.cells #[.slice none 0 0, .int .i64 0] 28) = wa at HE c0 c1 q0 q1 p0 p1
  rcases q3 with q3 | ⟨rfl, q3⟩ <;>
  · go_enter Try.func20, Try.ntmps20
    go_wp2
    exact bodyPost_ret_by (results_x2 rfl _ _ _ _ _ rfl HE.out.2.2) rfl ⟨_, rfl, HE.out.1, HE.out.2.1⟩

theorem cnr_le : ∀ R : List Nr, cnr R ≤ R.length
  | [] => by simp [cnr]
  | n :: R => by have := cnr_le R; simp only [cnr, List.length_cons]; split <;> omega
theorem count_small {R : List Nr} (h : InvR R) : countR R ≤ 1000 := by
  have h1 := h.len
  have h3 := cnr_le (R.drop 1)
  unfold countR
  simp only [List.length_drop] at h3
  omega

set_option maxHeartbeats 2000000 in
set_option maxRecDepth 100000 in
theorem rmake34_ok (P : Nat → Prop) (v : Value) (room : Int) (Z : List Zn) (w : World) (h : XAt P v Z w) (hz : 0 < Z.length) (hinv : InvR (nrs Z)) (hP : ∀ b, w.heap.size ≤ b → P b) (kind m : Int) (s : ByteArray) (hk1 : ¬ kind < 1) (hk2 : ¬ 3 < kind) (q3 : (kind == 2) = false ∨ ((kind == 2) = true ∧ s.toList.isEmpty = true)) (hm1 : ¬ m < 0) (hm2 : ¬ 4095 < m) (hs : s.size ≤ 4194304) (hc : ¬ 65536 ≤ countR (nrs Z)) (hu0 : usedR (nrs Z) ≤ 1000000000000) (hu : ¬ room < usedR (nrs Z) + s.size) :
    Calls Try.prog 20 #[xv v room, .int .i64 kind, .int .i64 m, .string s] w (GivesM P room (Z ++ [newZ kind m s]) Z.length 0 w) := by
  obtain ⟨i0, hi0, hz0, hz1, hz2'⟩ := info_parts Try.info48
  have hlen : Z.length ≤ 1000 := by have := hinv.len; simpa using this
  have hel : ∀ z ∈ Z, z.1.ents.length ≤ 100000 := fun z hz => by have := hinv.few z.1 (List.mem_map.2 ⟨z, hz, rfl⟩); omega
  obtain ⟨g, c, rfl⟩ := h.shape hz
  have F0 := Frm.start h room
  have CC := rcount71 P _ room Z _ F0.x hz (by omega)
  have CU : ∀ w1, XAt P (.slice (some ⟨g, 0, none⟩) Z.length c) Z w1 → _ := fun w1 x1 => rused30 P _ room Z w1 x1 hz (by omega) hel hu0
  have c0 := F0.c00
  have c1 := F0.c01
  have HF0 := Lib.hid F0
  have HP := Lib.hid hP
  have HX := Lib.hid h
  have hun : 0 ≤ usedR (nrs Z) := by unfold usedR; omega
  clear h F0 hinv hel hP
  generalize hw' : (w.alloc (.cells #[.slice (some ⟨g, 0, none⟩) Z.length c, .int .i64 room] 28)).alloc (.cells #[.slice none 0 0, .int .i64 0] 28) = wa at HF0 c0 c1 CC
  generalize countR (nrs Z) = cc at CC hc
  generalize usedR (nrs Z) = uu at CU hu hu0 hun
  have hwr : IntKind.i64.wrap (uu + (s.size : Int)) = uu + s.size := IntWalk.i64_in _ (by omega)
  replace CC := Lib.hid CC
  replace CU := Lib.hid CU
  rcases q3 with q3 | ⟨q2, q3⟩ <;>
  · go_enter Try.func20, Try.ntmps20
    go_wp2_with fail
    refine CC.out.mono ?_
    rintro e w1 ⟨rfl, hb⟩
    have F1 := HF0.out.below hb
    clear c0 c1 hb
    have c0 := F1.c00
    have c1 := F1.c01
    have HF1 := Lib.hid F1
    have CU1 := Lib.hid (CU.out w1.drew (F1.below ((Below.refl _ _).drew)).x)
    clear F1
    go_wp2
    have a0 : w1.drew.cell? ⟨w.heap.size, 0, none⟩ = some (.slice (some ⟨g, 0, none⟩) Z.length c) := c0
    have a1 : w1.drew.cell? ⟨w.heap.size, 1, none⟩ = some (.int .i64 room) := c1
    go_region_held3 (fun wx => wx.cell? ⟨w.heap.size, 0, none⟩ = some (.slice (some ⟨g, 0, none⟩) Z.length c) ∧ wx.cell? ⟨w.heap.size, 1, none⟩ = some (.int .i64 room)) (first | exact ⟨a0, a1⟩ | exact ⟨c00', c01'⟩)
      (first | (go_at_call 42; refine CU1.out.mono ?_; rintro e w2 ⟨rfl, hb2⟩; have F2 := HF1.out.below (((Below.refl _ w1).drew).trans (hb2.mono (Nat.le_refl _))); have c00' := F2.c00; have c01' := F2.c01; have HF2 := Lib.hid F2; clear F2 hb2))
    have F2 := HF2.out
    clear c0 c1 a0 a1
    have c0 := F2.c00
    have c1 := F2.c01
    have HSRC : Hid (∀ j u, (ncs Z)[j]? = some u → w2.cell? ((⟨g, 0, none⟩ : Addr).add j) = some u) := Lib.hid (fun j u e => World.ownsRow.cells F2.x.row (g := g) rfl j u e)
    clear F2
    go_wp2_with (at_builtin; refine wpList_append_own _ rfl _ _ 26 rfl w2.heap.size 48 i0 _ 5 64 Try.underlying26 hi0 hz0 hz1 hz2' rfl (by decide) _ _ _ rfl (World.ownsRow_nil _ _ _ _) ⟨g, 0, none⟩ Z.length c (ncs Z) rfl (ncs_len Z) HSRC.out (zs_one Z (fun z hz => row_one (HX.out.ents z hz))) (by unfold maxLen; omega) (by omega) (Nat.le_refl _) ?_)
    intro v3 w3 r1 r2 _
    have hs23 := r2.size
    obtain ⟨a3, b3, rfl⟩ := slice_shape r1
    have F3 := HF2.out.below (⟨r2.os, r2.tape, r2.output, r2.size, fun k hk => r2.block k hk (by simp [Value.ownBlock])⟩)
    have HR1 := Lib.hid r1
    have HF3 := Lib.hid F3
    have HB23 : Hid (Below w2.heap.size w2 w3) := Lib.hid ⟨r2.os, r2.tape, r2.output, r2.size, fun k hk => r2.block k hk (by simp [Value.ownBlock])⟩
    clear c0 c1 r1 r2 F3
    have HNEW : Hid (∀ j u, (ncs [newZ kind m s])[j]? = some u → (w3.alloc (.cells #[.int .i64 kind, .int .i64 m, .int .i64 1, .string s, .slice none 0 0] 48)).cell? ((⟨w3.heap.size, 0, none⟩ : Addr).add j) = some u) := Lib.hid (fun j u e => by
      rw [add_at, Nat.zero_add]
      have hb := heap_alloc_new w3 (.cells #[.int .i64 kind, .int .i64 m, .int .i64 1, .string s, .slice none 0 0] 48)
      match j, e with
      | 0, e => cases e; exact cells_at hb rfl
      | 1, e => cases e; exact cells_at hb rfl
      | 2, e => cases e; exact cells_at hb rfl
      | 3, e => cases e; exact cells_at hb rfl
      | 4, e => cases e; exact cells_at hb rfl)
    have HO3 := Lib.hid (HR1.out.alloc (.cells #[.int .i64 kind, .int .i64 m, .int .i64 1, .string s, .slice none 0 0] 48))
    have HBN : Hid (∀ u ∈ ncs [newZ kind m s], u.oneCell' = true) := Lib.hid (zs_one _ (fun z hz => by simp at hz; subst hz; rfl))
    have hs24 : w2.heap.size ≤ (w3.alloc (.cells #[.int .i64 kind, .int .i64 m, .int .i64 1, .string s, .slice none 0 0] 48)).heap.size := by simp; omega
    go_wp2_with (at_builtin; refine wpList_append_own _ rfl _ _ 26 rfl w2.heap.size 48 i0 _ 5 64 Try.underlying26 hi0 hz0 hz1 hz2' rfl (by decide) _ _ _ rfl HO3.out ⟨w3.heap.size, 0, none⟩ 1 1 (ncs [newZ kind m s]) rfl rfl HNEW.out HBN.out (by unfold maxLen; omega) (by omega) hs24 ?_)
    intro v5 w5 r3 r4 _
    have r3' : w5.ownsRow w2.heap.size 48 5 v5 (Z ++ [newZ kind m s]).length (ncs (Z ++ [newZ kind m s])) := by
      rw [ncs_app, List.length_append]
      simpa using r3
    clear r3
    have B25 : Below w2.heap.size w2 w5 := by
      have b1 : Below w2.heap.size w2 (w3.alloc (.cells #[.int .i64 kind, .int .i64 m, .int .i64 1, .string s, .slice none 0 0] 48)) := HB23.out.alloc HB23.out.size _
      exact b1.grown r4 b1.size (fun j hj => (World.ownsRow.lt HR1.out j hj).1)
    have F5 := HF2.out.below B25
    have X5 : XAt P v5 (Z ++ [newZ kind m s]) w5 := by
      refine ⟨⟨r3'.1, ?_⟩, ?_, fun b e => HP.out b (Nat.le_trans HF2.out.bel.size (World.ownsRow.lt r3' b e).1), ?_⟩
      · rcases r3'.2 with h2 | ⟨g2, cap2, cur2, e2, _, h3⟩
        · exact .inl h2
        · exact .inr ⟨g2, cap2, cur2, e2, Nat.zero_le _, h3⟩
      · intro z hz
        rcases List.mem_append.1 hz with h1 | h1
        · exact F5.x.ents z h1
        · simp at h1; subst h1; exact row_nil _ _ _
      · intro z hz b e
        rcases List.mem_append.1 hz with h1 | h1
        · exact HX.out.pe z h1 b e
        · simp at h1; subst h1; simp [Value.ownBlock] at e
    obtain ⟨a5, b5, hv5⟩ := X5.shape (by simp)
    rw [List.length_append, List.length_singleton] at hv5
    subst hv5
    have c0 := F5.c00
    have c1 := F5.c01
    have f0 := F5.f0 0
    have q0 := F5.c10
    have q1 := F5.c11
    have p0 := F5.f1 0
    have p1 := F5.f1 1
    have k0 := blk_setCell (i := 0) F5.b0 (.slice (some ⟨a5, 0, none⟩) (Z.length + 1) b5)
    have F6 : Frm P w (.slice (some ⟨a5, 0, none⟩) (Z.length + 1) b5) (.slice none 0 0) (.int .i64 0) room (Z ++ [newZ kind m s]) (w5.setCell ⟨w.heap.size, 0, none⟩ (.slice (some ⟨a5, 0, none⟩) (Z.length + 1) b5)) :=
      ⟨F5.bel.setCell (p := ⟨w.heap.size, 0, none⟩) (Nat.le_refl _) _, by rw [k0]; rfl, (Below.heap_setCell _ _ _ _ (by show w.heap.size + 1 ≠ w.heap.size; omega)).trans F5.b1, X5.put31 F5.b0 (by decide) (by decide) 0 _⟩
    have HE := Lib.hid (F6.fin F6.x)
    clear F5 F6 X5 B25 r3' r4 k0
    go_wp2
    exact bodyPost_ret_by (results_x2 rfl _ _ _ _ _ rfl HE.out.2.2) rfl ⟨_, by go_num, HE.out.1, HE.out.2.1⟩
end Go.Proofs.Ytgdjoojghkdcbaa
