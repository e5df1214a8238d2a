/- The frame of the document's calls: its disk boxed, its result's place; Folder, file. Conditions: few nodes. -/
import Derived.Test.YtgdjoojghkdcbaaXd
namespace Go.Proofs.Ytgdjoojghkdcbaa
open Go.RowKit Go.PlainAid
set_option linter.unusedSimpArgs false

theorem XAt.put31 {P : Nat → Prop} {v : Value} {Z : List Zn} {w : World} {b : Nat} {cu : Array Value} {t : TypeId} (h : XAt P v Z w) (hb : w.heap[b]? = some (.cells cu t (0, 0))) (h1 : t ≠ 48) (h2 : t ≠ 85) (i : Nat) (u : Value) : XAt P v Z (w.setCell ⟨b, i, none⟩ u) := by
  have hk : ∀ k, k ≠ b → (w.setCell ⟨b, i, none⟩ u).heap[k]? = w.heap[k]? := fun k e => Below.heap_setCell _ _ _ _ e
  refine ⟨⟨h.row.1, ?_⟩, fun z hz => (h.ents z hz).keep fun k e _ => hk k (fun e' => by rw [e'] at e; exact (h.ents z hz).ne hb h2 e), h.pv, h.pe⟩
  rcases h.row.2 with h3 | ⟨g, cap, cur, e, h4, h5, h6⟩
  · exact .inl h3
  · refine .inr ⟨g, cap, cur, e, h4, (hk g (fun e' => ?_)).trans h5, h6⟩
    rw [e', hb] at h5
    cases h5
    exact h1 rfl

/-- A document's call under way: its disk's box, its result's place. -/
structure Frm (P : Nat → Prop) (w : World) (v u0 u1 : Value) (room : Int) (Z : List Zn) (wr : World) : Prop where
  bel : Below w.heap.size w wr
  b0 : wr.heap[w.heap.size]? = some (.cells #[v, .int .i64 room] 28 (0, 0))
  b1 : wr.heap[w.heap.size + 1]? = some (.cells #[u0, u1] 28 (0, 0))
  x : XAt P v Z wr
section
variable {P : Nat → Prop} {w wr : World} {v u0 u1 : Value} {room : Int} {Z : List Zn}
theorem Frm.start (h : XAt P v Z w) (room : Int) : Frm P w v (.slice none 0 0) (.int .i64 0) room Z ((w.alloc (.cells #[v, .int .i64 room] 28)).alloc (.cells #[.slice none 0 0, .int .i64 0] 28)) := by
  have hb : Below w.heap.size w ((w.alloc (.cells #[v, .int .i64 room] 28)).alloc (.cells #[.slice none 0 0, .int .i64 0] 28)) := ((Below.refl _ w).alloc (Nat.le_refl _) _).alloc (by simp) _
  exact ⟨hb, heap_alloc2_old w _ _, heap_alloc2_new w _ _, h.below hb⟩
theorem Frm.below {w' : World} (h : Frm P w v u0 u1 room Z wr) (hb : Below wr.heap.size wr w') : Frm P w v u0 u1 room Z w' :=
  ⟨h.bel.trans (hb.mono h.bel.size), (hb.block _ (lt_of_block h.b0)).trans h.b0, (hb.block _ (lt_of_block h.b1)).trans h.b1, h.x.below hb⟩
theorem Frm.c00 (h : Frm P w v u0 u1 room Z wr) : wr.cell? ⟨w.heap.size, 0, none⟩ = some v := cells_at h.b0 rfl
theorem Frm.c01 (h : Frm P w v u0 u1 room Z wr) : wr.cell? ⟨w.heap.size, 1, none⟩ = some (.int .i64 room) := cells_at h.b0 rfl
theorem Frm.c10 (h : Frm P w v u0 u1 room Z wr) : wr.cell? ⟨w.heap.size + 1, 0, none⟩ = some u0 := cells_at h.b1 rfl
theorem Frm.c11 (h : Frm P w v u0 u1 room Z wr) : wr.cell? ⟨w.heap.size + 1, 1, none⟩ = some u1 := cells_at h.b1 rfl
theorem Frm.f0 (h : Frm P w v u0 u1 room Z wr) (i : Nat) : wr.frozen? ⟨w.heap.size, i, none⟩ = false := free_at h.b0
theorem Frm.f1 (h : Frm P w v u0 u1 room Z wr) (i : Nat) : wr.frozen? ⟨w.heap.size + 1, i, none⟩ = false := free_at h.b1
/-- The result is laid. -/
theorem Frm.fin (h : Frm P w v u0 u1 room Z wr) {v' : Value} {Z' : List Zn} (h' : XAt P v' Z' wr) :
    XAt P v' Z' ((wr.setCell ⟨w.heap.size + 1, 0, none⟩ v').setCell ⟨w.heap.size + 1, 1, none⟩ (.int .i64 room)) ∧ Below w.heap.size w ((wr.setCell ⟨w.heap.size + 1, 0, none⟩ v').setCell ⟨w.heap.size + 1, 1, none⟩ (.int .i64 room)) ∧
      ((wr.setCell ⟨w.heap.size + 1, 0, none⟩ v').setCell ⟨w.heap.size + 1, 1, none⟩ (.int .i64 room)).heap[w.heap.size + 1]? = some (.cells #[v', .int .i64 room] 28 (0, 0)) := by
  have k1 := blk_setCell (i := 0) h.b1 v'
  have b1 := h.bel.setCell (p := ⟨w.heap.size + 1, 0, none⟩) (by show w.heap.size ≤ w.heap.size + 1; omega) v'
  refine ⟨(h'.put31 h.b1 (by decide) (by decide) 0 v').put31 k1 (by decide) (by decide) 1 _, b1.setCell (p := ⟨w.heap.size + 1, 1, none⟩) (by show w.heap.size ≤ w.heap.size + 1; omega) _, ?_⟩
  rw [blk_setCell k1]
  rfl
/-- The box is laid anew. -/
theorem Frm.box (h : Frm P w v u0 u1 room Z wr) {v' : Value} {Z' : List Zn} (h' : XAt P v' Z' wr) :
    Frm P w v' u0 u1 room Z' ((wr.setCell ⟨w.heap.size, 0, none⟩ v').setCell ⟨w.heap.size, 1, none⟩ (.int .i64 room)) := by
  have k0 := blk_setCell (i := 0) h.b0 v'
  have b1 := h.bel.setCell (p := ⟨w.heap.size, 0, none⟩) (Nat.le_refl _) v'
  refine ⟨b1.setCell (p := ⟨w.heap.size, 1, none⟩) (Nat.le_refl _) _, ?_, ?_, (h'.put31 h.b0 (by decide) (by decide) 0 v').put31 k0 (by decide) (by decide) 1 _⟩
  · rw [blk_setCell k0]; rfl
  · rw [Below.heap_setCell _ _ _ _ (by show w.heap.size + 1 ≠ w.heap.size; omega), Below.heap_setCell _ _ _ _ (by show w.heap.size + 1 ≠ w.heap.size; omega)]
    exact h.b1
end

/-- An error, if a node is no directory; no file. -/
def dirRE (R : List Nr) (id : Int) : Int := if hasR R id = true then (match R[id.toNat]? with | some n => if n.kind = 2 then 0 else 14 | none => 12) else 12
def fileRE (R : List Nr) (id : Int) : Int := if hasR R id = true then (match R[id.toNat]? with | some n => if n.kind = 2 then 15 else if n.kind = 3 then 43 else 0 | none => 12) else 12
theorem hasR_get {R : List Nr} {id : Int} (h : hasR R id = true) : ∃ i n, id = (i : Nat) ∧ 1 ≤ i ∧ i < R.length ∧ R[i]? = some n ∧ (n.kind != 0) = true := by
  unfold hasR at h
  simp only [Bool.and_eq_true, decide_eq_true_eq] at h
  obtain ⟨h1, h2⟩ := h
  cases hn : R[id.toNat]? with
  | none => rw [hn] at h2; cases h2
  | some n =>
    rw [hn] at h2
    exact ⟨id.toNat, n, by omega, by omega, (List.getElem?_eq_some_iff.1 hn).1, hn, h2⟩
theorem zn_get {Z : List Zn} {i : Nat} {n : Nr} (h : (nrs Z)[i]? = some n) : ∃ ev, Z[i]? = some (n, ev) := by
  simp only [nrs, List.getElem?_map, Option.map_eq_some_iff] at h
  obtain ⟨z, h1, rfl⟩ := h
  exact ⟨z.2, h1⟩

set_option maxHeartbeats 1000000 in
set_option maxRecDepth 100000 in
theorem rfolder32 (P : Nat → Prop) (v : Value) (room : Int) (Z : List Zn) (w : World) (h : XAt P v Z w) (hz : 0 < Z.length) (id : Int) :
    Calls Try.prog 15 #[xv v room, .int .i64 id] w fun e w' => e = .returned (.int .i64 (dirRE (nrs Z) id)) ∧ Below w.heap.size w w' := by
  obtain ⟨g, c, rfl⟩ := h.shape hz
  have HB := Lib.hid ((Below.refl w.heap.size w).alloc (Nat.le_refl _) (.cells #[.slice (some ⟨g, 0, none⟩) Z.length c, .int .i64 room] 28))
  have HK := Lib.hid (h.below HB.out)
  have c00 : (w.alloc (.cells #[.slice (some ⟨g, 0, none⟩) Z.length c, .int .i64 room] 28)).cell? ⟨w.heap.size, 0, none⟩ = some (.slice (some ⟨g, 0, none⟩) Z.length c) := cells_at (heap_alloc_new w _) rfl
  have c01 : (w.alloc (.cells #[.slice (some ⟨g, 0, none⟩) Z.length c, .int .i64 room] 28)).cell? ⟨w.heap.size, 1, none⟩ = some (.int .i64 room) := cells_at (heap_alloc_new w _) rfl
  clear h
  generalize hw' : w.alloc (.cells #[.slice (some ⟨g, 0, none⟩) Z.length c, .int .i64 room] 28) = wa at HB HK c00 c01
  have CH := has17 P _ room Z wa HK.out hz id
  have C00 := Lib.hid c00
  cases hh : hasR (nrs Z) id
  · have e : dirRE (nrs Z) id = 12 := by unfold dirRE; rw [hh]; rfl
    rw [e]
    rw [hh] at CH
    replace CH := Lib.hid CH
    clear e
    go_enter Try.func15, Try.ntmps15
    go_wp2_with (go_at_call 38; refine CH.out.mono ?_; rintro e w1 ⟨rfl, hb⟩; have HB1 := Lib.hid (HB.out.trans (hb.mono HB.out.size)); clear hb)
    go_ret
    exact ⟨rfl, Hid.out (by assumption)⟩
  · obtain ⟨i, n, rfl, hi1, hil, hn, hk⟩ := hasR_get hh
    obtain ⟨ev, hzn⟩ := zn_get hn
    rw [nrs_len] at hil
    rw [hh] at CH
    replace CH := Lib.hid CH
    have e : dirRE (nrs Z) i = if n.kind = 2 then 0 else 14 := by unfold dirRE; rw [hh, Int.toNat_natCast, hn]; rfl
    have HR := Lib.hid e
    generalize dirRE (nrs Z) i = r at HR
    clear e
    have HC0 := Lib.hid (HK.out.at hzn).c0
    clear hn hzn hk
    go_enter Try.func15, Try.ntmps15
    go_wp2_with fail
    refine CH.out.mono ?_
    rintro e w1 ⟨rfl, hb⟩
    have c00 := low_cell hb C00.out
    have c0 := low_cell hb HC0.out
    have HB1 := Lib.hid (HB.out.trans (hb.mono HB.out.size))
    clear hb
    by_cases h2 : n.kind = 2
    · have h3 : (n.kind != 2) = false := by simpa using h2
      go_wp2
      go_ret
      rw [HR.out, if_pos h2]
      exact ⟨rfl, HB1.out⟩
    · have h3 : (n.kind != 2) = true := by simpa using h2
      go_wp2
      go_ret
      rw [HR.out, if_neg h2]
      exact ⟨rfl, HB1.out⟩

end Go.Proofs.Ytgdjoojghkdcbaa
