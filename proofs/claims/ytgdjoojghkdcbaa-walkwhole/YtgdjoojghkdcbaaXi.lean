/- The document's Chmod, Hold, Empty. Conditions: few nodes. -/
import Derived.Test.YtgdjoojghkdcbaaXh
namespace Go.Proofs.Ytgdjoojghkdcbaa
open Go.RowKit Go.PlainAid
set_option linter.unusedSimpArgs false

/-- The call returns a disk of just these nodes, and an error. -/
def GivesE (P : Nat → Prop) (room : Int) (Z : List Zn) (err : Int) (w : World) (e : Ending) (w' : World) : Prop := ∃ v', e = .returned (.tuple #[xv v' room, .int .i64 err]) ∧ XAt P v' Z w' ∧ Below w.heap.size w w'
/-- .. whose nodes keep R. -/
def GivesR (P : Nat → Prop) (room : Int) (K : List Nr → Prop) (err : Int) (w : World) (e : Ending) (w' : World) : Prop := ∃ Z, K (nrs Z) ∧ GivesE P room Z err w e w'

def chmodRE (R : List Nr) (id m : Int) : Int := if hasR R id = false then 12 else if rightB m = false then 10 else 0

set_option maxHeartbeats 1000000 in
set_option maxRecDepth 100000 in
theorem rhold19_bad (P : Nat → Prop) (v : Value) (room : Int) (Z : List Zn) (w : World) (h : XAt P v Z w) (hz : 0 < Z.length) (id b : Int) (hbad : hasR (nrs Z) id = false ∨ (b < 0 ∧ ∃ i n, id = (i : Nat) ∧ 1 ≤ i ∧ (nrs Z)[i]? = some n ∧ (n.kind != 0) = true ∧ n.holds = 0)) :
    Calls Try.prog 24 #[xv v room, .int .i64 id, .int .i64 b] w (GivesE P room Z 12 w) := by
  obtain ⟨g, c, rfl⟩ := h.shape hz
  have F0 := Frm.start h room
  have CH := has17 P _ room Z _ F0.x hz id
  have c0 := F0.c00
  have c1 := F0.c01
  have HF0 := Lib.hid F0
  clear h F0
  generalize hw' : (w.alloc (.cells #[.slice (some ⟨g, 0, none⟩) Z.length c, .int .i64 room] 28)).alloc (.cells #[.slice none 0 0, .int .i64 0] 28) = wa at HF0 c0 c1 CH
  rcases hbad with hbad | ⟨hb0, i, n, rfl, hi, hn, hk, hh⟩
  · rw [hbad] at CH
    replace CH := Lib.hid CH
    clear hbad
    go_enter Try.func24, Try.ntmps24
    go_wp2_with fail
    refine CH.out.mono ?_
    rintro e w1 ⟨rfl, hb⟩
    have F1 := HF0.out.below hb
    clear c0 c1 hb
    have c0 := F1.c00
    have c1 := F1.c01
    have q0 := F1.c10
    have q1 := F1.c11
    have p0 := F1.f1 0
    have p1 := F1.f1 1
    have HE := Lib.hid (F1.fin F1.x)
    clear F1
    go_wp2
    exact bodyPost_ret_by (results_x1 rfl _ _ _ _ _ rfl HE.out.2.2) rfl ⟨_, rfl, HE.out.1, HE.out.2.1⟩
  · rw [hasR_at hn hi, hk] at CH
    replace CH := Lib.hid CH
    obtain ⟨ev, hzn⟩ := zn_get hn
    have hil : i < Z.length := (List.getElem?_eq_some_iff.1 hzn).1
    have HZN := Lib.hid hzn
    have HH := Lib.hid hh
    clear hn hzn hk hh
    go_enter Try.func24, Try.ntmps24
    go_wp2_with fail
    refine CH.out.mono ?_
    rintro e w1 ⟨rfl, hb⟩
    have F1 := HF0.out.below hb
    clear c0 c1 hb
    have c0 := F1.c00
    have c1 := F1.c01
    have d2 := (F1.x.at HZN.out).c2
    simp only at d2
    rw [HH.out] at d2
    have q0 := F1.c10
    have q1 := F1.c11
    have p0 := F1.f1 0
    have p1 := F1.f1 1
    have HE := Lib.hid (F1.fin F1.x)
    clear F1
    go_wp2
    exact bodyPost_ret_by (results_x1 rfl _ _ _ _ _ rfl HE.out.2.2) rfl ⟨_, rfl, HE.out.1, HE.out.2.1⟩

/-- What free leaves of nodes. -/
def FreedR (R : List Nr) (id : Nat) (R' : List Nr) : Prop := Steps R R' ∧ ∀ j, Lone R' j → Lone R j ∧ j ≠ id

set_option maxHeartbeats 1000000 in
set_option maxRecDepth 100000 in
theorem rhold19_ok (P : Nat → Prop) (v : Value) (room : Int) (Z : List Zn) (w : World) (h : XAt P v Z w) (hP : ∀ b, w.heap.size ≤ b → P b) (i : Nat) (n : Nr) (ev : Value) (hzn : Z[i]? = some (n, ev)) (hi : 1 ≤ i) (hk : (n.kind != 0) = true) (b : Int) (hb0 : b = 1 ∨ (b = -1 ∧ n.holds ≠ 0))
    (hh : 0 ≤ n.holds ∧ n.holds ≤ 1000000) (hinv : InvR ((nrs Z).set i { n with holds := n.holds + b })) :
    Calls Try.prog 24 #[xv v room, .int .i64 i, .int .i64 b] w (GivesR P room (FreedR ((nrs Z).set i { n with holds := n.holds + b }) i) 0 w) := by
  have hil : i < Z.length := (List.getElem?_eq_some_iff.1 hzn).1
  have hlen : Z.length ≤ 1000 := by have := hinv.len; simpa using this
  obtain ⟨g, c, rfl⟩ := h.shape (by omega)
  have F0 := Frm.start h room
  have CH := has17 P _ room Z _ F0.x (by omega) i
  rw [hasR_at (nrs_get hzn) hi, hk] at CH
  replace CH := Lib.hid CH
  have c0 := F0.c00
  have c1 := F0.c01
  have HF0 := Lib.hid F0
  have HZN := Lib.hid hzn
  have HP := Lib.hid hP
  have HI := Lib.hid hinv
  have hmem := List.mem_of_getElem? hzn
  have hpe := h.pe _ hmem
  have HPE := Lib.hid hpe
  obtain ⟨ea, ec, hev⟩ := slice_shape (h.ents _ hmem)
  simp only at hev
  subst hev
  obtain ⟨hh1, hh2⟩ := hh
  clear h F0 hzn hP hpe hk hinv
  generalize hw' : (w.alloc (.cells #[.slice (some ⟨g, 0, none⟩) Z.length c, .int .i64 room] 28)).alloc (.cells #[.slice none 0 0, .int .i64 0] 28) = wa at HF0 c0 c1 CH
  have hcase : (¬ b < 0) ∨ (b < 0 ∧ (n.holds == 0) = false) := by
    rcases hb0 with e | ⟨e, e2⟩
    · exact .inl (by omega)
    · exact .inr ⟨by omega, by simpa using e2⟩
  have hbb : -1 ≤ b ∧ b ≤ 1 := by rcases hb0 with e | ⟨e, _⟩ <;> omega
  obtain ⟨hbb1, hbb2⟩ := hbb
  clear hb0
  rcases hcase with hca | ⟨hca, hcb⟩ <;>
  · go_enter Try.func24, Try.ntmps24
    go_wp2_with fail
    refine CH.out.mono ?_
    rintro e w1 ⟨rfl, hb⟩
    have F1 := HF0.out.below hb
    clear c0 c1 hb
    have c0 := F1.c00
    have c1 := F1.c01
    have D := F1.x.at HZN.out
    have d0 := D.c0
    have d1 := D.c1
    have d2 := D.c2
    have d3 := D.c3
    have d4 := D.c4
    have F2 := F1.below ((Below.refl _ w1).alloc (Nat.le_refl _) (.cells #[.int .i64 n.kind, .int .i64 n.mode, .int .i64 (n.holds + b), .string n.data, .slice ea n.ents.length ec] 48))
    have a0 := F2.c00
    have a1 := F2.c01
    have CP := Lib.hid (rput47 P _ room Z _ F2.x (by omega) (fun b hb => HP.out b (Nat.le_trans F2.bel.size hb)) i hil { n with holds := n.holds + b } (.slice ea n.ents.length ec) (F2.x.ents _ hmem) HPE.out)
    have HF2 := Lib.hid F2
    clear F1 F2 D
    go_wp2_with fail
    refine CP.out.mono ?_
    rintro e w3 ⟨v3, rfl, X3, B3⟩
    have F3 := HF2.out.below B3
    have CF := rfree48 P room (cnr ((nrs (Z.set i ({ n with holds := n.holds + b }, .slice ea n.ents.length ec))).drop 1) + 1) v3 _ w3 X3 (by rw [nrs_set]; exact HI.out) (Nat.lt_succ_self _) (fun b hb => HP.out b (Nat.le_trans F3.bel.size hb)) i hi (by rw [List.length_set]; exact hil)
    rw [nrs_set] at CF
    replace CF := Lib.hid CF
    obtain ⟨g3, c3, hv3⟩ := X3.shape (by rw [List.length_set]; omega)
    rw [List.length_set] at hv3
    subst hv3
    have HF3 := Lib.hid F3
    clear c0 c1 d0 d1 d2 d3 d4 a0 a1 F3 X3 B3
    go_wp2_with fail
    refine CF.out.mono ?_
    rintro e w4 ⟨v4, Z4, rfl, X4, B4, S4, L4⟩
    have F4 := HF3.out.below B4
    have q0 := F4.c10
    have q1 := F4.c11
    have p0 := F4.f1 0
    have p1 := F4.f1 1
    have hz4 : Z4.length = Z.length := by rw [← nrs_len, S4.length]; simp
    obtain ⟨g4, c4, hv4⟩ := X4.shape (by omega)
    subst hv4
    have HE := Lib.hid (F4.fin X4)
    have HK : Hid (FreedR ((nrs Z).set i { n with holds := n.holds + b }) i (nrs Z4)) := Lib.hid ⟨S4, L4⟩
    clear F4 X4 B4 S4 L4 hz4
    go_wp2
    exact bodyPost_ret_by (results_x1 rfl _ _ _ _ _ rfl HE.out.2.2) rfl ⟨Z4, HK.out, _, rfl, HE.out.1, HE.out.2.1⟩
end Go.Proofs.Ytgdjoojghkdcbaa
