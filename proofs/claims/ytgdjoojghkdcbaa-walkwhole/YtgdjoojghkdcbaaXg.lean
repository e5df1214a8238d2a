/- The document's Data, Look, Below, gives. Conditions: few nodes; entries by rising names. -/
import Derived.Test.YtgdjoojghkdcbaaXf
namespace Go.Proofs.Ytgdjoojghkdcbaa
open Go.RowKit Go.PlainAid
set_option linter.unusedSimpArgs false

/-- A document's call under way that only tells. -/
structure Bx (P : Nat → Prop) (w : World) (v : Value) (room : Int) (Z : List Zn) (wr : World) : Prop where
  bel : Below w.heap.size w wr
  b0 : wr.heap[w.heap.size]? = some (.cells #[v, .int .i64 room] 28 (0, 0))
  x : XAt P v Z wr
section
variable {P : Nat → Prop} {w wr : World} {v : Value} {room : Int} {Z : List Zn}
theorem Bx.start (h : XAt P v Z w) (room : Int) : Bx P w v room Z (w.alloc (.cells #[v, .int .i64 room] 28)) := by
  have hb : Below w.heap.size w (w.alloc (.cells #[v, .int .i64 room] 28)) := (Below.refl _ w).alloc (Nat.le_refl _) _
  exact ⟨hb, heap_alloc_new w _, h.below hb⟩
theorem Bx.below {w' : World} (h : Bx P w v room Z wr) (hb : Below wr.heap.size wr w') : Bx P w v room Z w' := ⟨h.bel.trans (hb.mono h.bel.size), (hb.block _ (lt_of_block h.b0)).trans h.b0, h.x.below hb⟩
theorem Bx.c00 (h : Bx P w v room Z wr) : wr.cell? ⟨w.heap.size, 0, none⟩ = some v := cells_at h.b0 rfl
theorem Bx.c01 (h : Bx P w v room Z wr) : wr.cell? ⟨w.heap.size, 1, none⟩ = some (.int .i64 room) := cells_at h.b0 rfl
end

/-- What the document's Data tells. -/
def dataRS (R : List Nr) (id : Int) : ByteArray := if fileRE R id = 0 ∨ fileRE R id = 43 then (match R[id.toNat]? with | some n => n.data | none => ⟨#[]⟩) else ⟨#[]⟩
def dataRE (R : List Nr) (id : Int) : Int := if fileRE R id = 0 ∨ fileRE R id = 43 then 0 else fileRE R id
theorem fileRE_get {R : List Nr} {id : Int} (h : fileRE R id = 0 ∨ fileRE R id = 43) : ∃ i n, id = (i : Nat) ∧ 1 ≤ i ∧ i < R.length ∧ R[i]? = some n ∧ (n.kind != 0) = true ∧ n.kind ≠ 2 := by
  cases hh : hasR R id
  · unfold fileRE at h; rw [hh] at h; rcases h with h | h <;> simp at h
  · obtain ⟨i, n, rfl, h1, h2, h3, h4⟩ := hasR_get hh
    refine ⟨i, n, rfl, h1, h2, h3, h4, fun e => ?_⟩
    unfold fileRE at h
    rw [hh, Int.toNat_natCast, h3] at h
    simp [e] at h

/-- What the document's Look tells. -/
def lookRE (R : List Nr) (id : Int) (s : ByteArray) : Int := if dirRE R id = 0 then (match R[id.toNat]? with | some n => if hasN s n.ents = true then 0 else 12 | none => 12) else dirRE R id
def lookRN (R : List Nr) (id : Int) (s : ByteArray) : Int := if dirRE R id = 0 then (match R[id.toNat]? with | some n => getN s n.ents | none => 0) else 0
theorem dirRE_get {R : List Nr} {id : Int} (h : dirRE R id = 0) : ∃ i n, id = (i : Nat) ∧ 1 ≤ i ∧ i < R.length ∧ R[i]? = some n ∧ n.kind = 2 := by
  cases hh : hasR R id
  · unfold dirRE at h; rw [hh] at h; simp at h
  · obtain ⟨i, n, rfl, h1, h2, h3, h4⟩ := hasR_get hh
    refine ⟨i, n, rfl, h1, h2, h3, ?_⟩
    unfold dirRE at h
    rw [hh, Int.toNat_natCast, h3] at h
    simp at h
    exact h

set_option maxHeartbeats 1000000 in
set_option maxRecDepth 100000 in
theorem rlook16 (P : Nat → Prop) (v : Value) (room : Int) (Z : List Zn) (w : World) (h : XAt P v Z w) (hz : 0 < Z.length) (hg : ∀ z ∈ Z, Rising z.1.ents ∧ z.1.ents.length ≤ 999) (id : Int) (s : ByteArray) :
    Calls Try.prog 83 #[xv v room, .int .i64 id, .string s] w fun e w' => e = .returned (.tuple #[.int .i64 (lookRN (nrs Z) id s), .int .i64 (lookRE (nrs Z) id s)]) ∧ Below w.heap.size w w' := by
  obtain ⟨g, c, rfl⟩ := h.shape hz
  have F0 := Bx.start h room
  have CF := rfolder32 P _ room Z _ F0.x hz id
  have c0 := F0.c00
  have c1 := F0.c01
  have HF0 := Lib.hid F0
  have HG := Lib.hid hg
  clear h F0 hg
  generalize hw' : w.alloc (.cells #[.slice (some ⟨g, 0, none⟩) Z.length c, .int .i64 room] 28) = wa at HF0 c0 c1 CF
  by_cases hf : dirRE (nrs Z) id = 0
  · obtain ⟨i, n, rfl, hi1, hil, hn, hk⟩ := dirRE_get hf
    obtain ⟨ev, hzn⟩ := zn_get hn
    rw [nrs_len] at hil
    have e1 : lookRN (nrs Z) i s = getN s n.ents := by unfold lookRN; rw [if_pos hf, Int.toNat_natCast, hn]
    have e2 : lookRE (nrs Z) i s = if hasN s n.ents = true then 0 else 12 := by unfold lookRE; rw [if_pos hf, Int.toNat_natCast, hn]
    rw [e1, e2]
    have HZN := Lib.hid hzn
    have hmem := List.mem_of_getElem? hzn
    rw [hf] at CF
    replace CF := Lib.hid CF
    obtain ⟨g1, g2⟩ := HG.out _ hmem
    simp only at g1 g2
    have HG1 := Lib.hid g1
    have HROW := fun (w1 : World) (F : Bx P w (.slice (some ⟨g, 0, none⟩) Z.length c) room Z w1) => F.x.ents _ hmem
    have HR0 := Lib.hid HROW
    clear hf e1 e2 hn hzn hk g1 HROW
    cases hh : hasN s n.ents
    · have eg : getN s n.ents = 0 := by unfold getN; rw [hh]; rfl
      rw [eg]
      have ei : findI s n.ents = -1 := by unfold findI; rw [hh]; rfl
      have HEI := Lib.hid ei
      clear eg ei
      go_enter Try.func83, Try.ntmps83
      go_wp2_with fail
      refine CF.out.mono ?_
      rintro e w1 ⟨rfl, hb⟩
      have F1 := HF0.out.below hb
      have r1 := HR0.out w1 F1
      clear hb c0 c1
      have c0 := F1.c00
      have d4 := (F1.x.at HZN.out).c4
      have CN := find9 0 ev n.ents s w1 r1 HG1.out (by omega)
      rw [HEI.out] at CN
      replace CN := Lib.hid CN
      have HB := Lib.hid F1.bel
      obtain ⟨ea, ec, hev⟩ := slice_shape r1
      subst hev
      clear F1 r1 HF0
      go_wp2_with (go_at_call 75; refine CN.out.mono ?_; rintro e w' ⟨rfl, rfl⟩)
      go_ret2
      exact ⟨rfl, HB.out⟩
    · obtain ⟨k, hx⟩ := hasN_some hh
      have eg : getN s n.ents = k := by unfold getN; rw [if_pos hh, hx]; rfl
      rw [eg]
      have ei : findI s n.ents = pos s n.ents := by unfold findI; rw [hh]; rfl
      have HEI := Lib.hid ei
      have hpl : pos s n.ents < n.ents.length := (List.getElem?_eq_some_iff.1 hx).1
      have HX := Lib.hid hx
      clear eg ei hx
      go_enter Try.func83, Try.ntmps83
      go_wp2_with fail
      refine CF.out.mono ?_
      rintro e w1 ⟨rfl, hb⟩
      have F1 := HF0.out.below hb
      have r1 := HR0.out w1 F1
      clear hb c0 c1
      have c0 := F1.c00
      have d4 := (F1.x.at HZN.out).c4
      have CN := find9 0 ev n.ents s w1 r1 HG1.out (by omega)
      rw [HEI.out] at CN
      replace CN := Lib.hid CN
      have HB := Lib.hid F1.bel
      rcases r1.cases with ⟨_, e⟩ | ⟨ge, cap, cur, hev, _⟩
      · rw [e] at hpl; simp at hpl
      subst hev
      have cx := r1.cell1 HX.out
      clear F1 r1 HF0
      generalize pos s n.ents = q at CN hpl cx
      go_wp2_with (go_at_call 75; refine CN.out.mono ?_; rintro e w' ⟨rfl, rfl⟩)
      go_ret2
      exact ⟨rfl, HB.out⟩
  · have e1 : lookRN (nrs Z) id s = 0 := if_neg hf
    have e2 : lookRE (nrs Z) id s = dirRE (nrs Z) id := if_neg hf
    rw [e1, e2]
    have hc : (dirRE (nrs Z) id != 0) = true := by simpa using hf
    generalize dirRE (nrs Z) id = r at CF hc
    replace CF := Lib.hid CF
    clear hf e1 e2
    go_enter Try.func83, Try.ntmps83
    go_wp2_with fail
    refine CF.out.mono ?_
    rintro e w1 ⟨rfl, hb⟩
    have HB := Lib.hid (HF0.out.below hb).bel
    clear hb c0 c1
    go_wp2
    go_ret2
    exact ⟨rfl, HB.out⟩
end Go.Proofs.Ytgdjoojghkdcbaa
