/- walk's step. Conditions: a number that is handed in is an int; entries by rising names; modes are ones; directories have an upper one. -/
import Derived.Test.YtgdjoojghkdcbaaVc
namespace Go.Proofs.Ytgdjoojghkdcbaa
open Go.RowKit Go.PlainAid
set_option linter.unusedSimpArgs false

/-- Where a path leads. -/
structure Pla where
  (node dir : Int) (name : ByteArray)
def Pla.zero : Pla := ⟨0, 0, ⟨#[]⟩⟩
abbrev Pla.cells (p : Pla) : Array Value := #[.int .i64 p.node, .int .i64 p.dir, .string p.name]
/-- One part of a path. -/
def stepM (V : Int → Option Vw) (a : Int) (s : ByteArray) : Pla × Int :=
  match V a with
  | none => (.zero, 12)
  | some x => if closE (some x) = 0 then
      (if (s.toList == [46]) = true then (⟨a, 0, ⟨#[]⟩⟩, 0) else if (s.toList == [46, 46]) = true then (⟨x.up, 0, ⟨#[]⟩⟩, 0) else if 255 < s.size then (.zero, 18) else (⟨x.look s, a, s⟩, 0))
    else (.zero, closE (some x))
theorem Try.info32 : (Try.prog.info? 32).map (fun i => (i.zero, i.size, i.bytes)) = some (some (.agg #[.int .i64 0, .int .i64 0, .string ⟨#[]⟩]), 3, 32) := by kernel_rfl
theorem Try.agg32 (w : World) : (isAgg 32).run Try.prog w = .ok true w := by kernel_rfl

/-- All that a walk asks of a disk. -/
structure Good (S : St) : Prop where
  mode : ∀ k x, S.get k = some x → 0 ≤ x.mode ∧ x.mode ≤ 4095
  ents : ∀ k x, S.get k = some x → Rising x.ents ∧ x.ents.length ≤ 999
  up : ∀ k x, S.get k = some x → x.kind = 2 → x.up ≠ 0 ∧ In64 x.up
  rng : ∀ k x, S.get k = some x → ∀ e ∈ x.ents, In64 e.2
  data : ∀ k x, S.get k = some x → x.data.size ≤ 5000

/-- A call that returns a place and an error, and makes memory at most. -/
def GivesP (w : World) (r : Pla × Int) (e : Ending) (w' : World) : Prop := e = .returned (.tuple #[.agg r.1.cells, .int .i64 r.2]) ∧ Below w.heap.size w w'

abbrev lay3 (w : World) (b : Nat) (u0 u1 u2 : Value) : World := ((w.setCell ⟨b, 0, none⟩ u0).setCell ⟨b, 1, none⟩ u1).setCell ⟨b, 2, none⟩ u2
/-- The result's place of a call, and what was there before the call. -/
structure Cel (t : TypeId) (w : World) (v0 v1 v2 : Value) (wr : World) : Prop where
  bel : Below w.heap.size w wr
  blk : wr.heap[w.heap.size]? = some (.cells #[v0, v1, v2] t (0, 0))
section
variable {t : TypeId} {w wr : World} {v0 v1 v2 : Value}
theorem Cel.start (t : TypeId) (w : World) (v0 v1 v2 : Value) : Cel t w v0 v1 v2 (w.alloc (.cells #[v0, v1, v2] t)) := ⟨(Below.refl w.heap.size w).alloc (Nat.le_refl _) _, heap_alloc_new w _⟩
theorem Cel.below {w' : World} (h : Cel t w v0 v1 v2 wr) (hb : Below wr.heap.size wr w') : Cel t w v0 v1 v2 w' := ⟨h.bel.trans (hb.mono h.bel.size), (hb.block _ (lt_of_block h.blk)).trans h.blk⟩
theorem Cel.c0 (h : Cel t w v0 v1 v2 wr) : wr.cell? ⟨w.heap.size, 0, none⟩ = some v0 := cells_at h.blk rfl
theorem Cel.c1 (h : Cel t w v0 v1 v2 wr) : wr.cell? ⟨w.heap.size, 1, none⟩ = some v1 := cells_at h.blk rfl
theorem Cel.c2 (h : Cel t w v0 v1 v2 wr) : wr.cell? ⟨w.heap.size, 2, none⟩ = some v2 := cells_at h.blk rfl
theorem Cel.fr (h : Cel t w v0 v1 v2 wr) (i : Nat) : wr.frozen? ⟨w.heap.size, i, none⟩ = false := free_at h.blk
theorem Cel.fin (h : Cel t w v0 v1 v2 wr) (u0 u1 u2 : Value) : Cel t w u0 u1 u2 (lay3 wr w.heap.size u0 u1 u2) :=
  ⟨((h.bel.setCell (p := ⟨w.heap.size, 0, none⟩) (Nat.le_refl _) u0).setCell (p := ⟨w.heap.size, 1, none⟩) (Nat.le_refl _) u1).setCell (p := ⟨w.heap.size, 2, none⟩) (Nat.le_refl _) u2,
    blk_setCell (i := 2) (blk_setCell (i := 1) (blk_setCell (i := 0) h.blk u0) u1) u2⟩
end

set_option maxHeartbeats 4000000 in
set_option maxRecDepth 100000 in
theorem step29 (L : Lay) (D : Nat) (S : St) (w : World) (h : DiskAt L D S w) (hG : Good S) (k : Int) (hk : In64 k) (s : ByteArray) (hs : s.size ≤ maxLen) :
    Calls Try.prog 29 #[.pointer (some ⟨D, 0, none⟩), .int .i64 k, .string s] w (GivesP w (stepM (vwS S) k s)) := by
  unfold maxLen at hs
  have R1 := Lib.hid (Cel.start 32 w (.int .i64 0) (.int .i64 0) (.string ⟨#[]⟩))
  have K1 := h.below R1.out.bel
  have C := closed54 L D S _ K1 k hk (hG.mode k)
  have HK := Lib.hid K1
  have HG := Lib.hid hG
  clear h K1 hG
  by_cases hc : closE (vwS S k) = 0
  rotate_left
  · rw [show stepM (vwS S) k s = (.zero, closE (vwS S k)) by unfold stepM; cases hv : vwS S k with | none => rfl | some x => rw [hv] at hc; exact if_neg hc]
    have hc' : (closE (vwS S k) != 0) = true := by simpa using hc
    generalize closE (vwS S k) = r at C hc'
    replace C := Lib.hid C
    clear hc
    go_enter Try.func29, Try.ntmps29
    go_wp2_with fail
    refine C.out.mono ?_
    rintro e w1 ⟨rfl, hb⟩
    have R2 := R1.out.below hb
    have q0 := R2.c0
    have q1 := R2.c1
    have q2 := R2.c2
    have p0 := R2.fr 0
    have p1 := R2.fr 1
    have p2 := R2.fr 2
    have HE := Lib.hid (R2.fin (.int .i64 0) (.int .i64 0) (.string ⟨#[]⟩))
    clear R2 hb
    go_wp2
    exact bodyPost_ret_by (results_c1 Try.info32 Try.agg32 rfl _ _ _ _ rfl HE.out.blk rfl) rfl ⟨rfl, HE.out.bel⟩
  cases hx : S.get k with
  | none => simp [vwS, hx, closE] at hc
  | some x =>
  have hk2 : x.kind = 2 := by
    simp only [vwS, hx, Option.map_some, closE] at hc
    split at hc
    · assumption
    · cases hc
  have ev : vwS S k = some ⟨x.kind, x.mode, ⟨#[]⟩, x.up, fun s => getN s x.ents⟩ := by simp [vwS, hx, hk2]
  have es : stepM (vwS S) k s = (if (s.toList == [46]) = true then (⟨k, 0, ⟨#[]⟩⟩, 0) else if (s.toList == [46, 46]) = true then (⟨x.up, 0, ⟨#[]⟩⟩, 0) else if 255 < s.size then (.zero, 18) else (⟨getN s x.ents, k, s⟩, 0)) := by
    unfold stepM; rw [ev]; rw [ev] at hc; dsimp only; rw [if_pos hc]
  rw [es]
  rw [hc] at C
  replace C := Lib.hid C
  clear es ev hc
  cases h1 : (s.toList == [46])
  rotate_left
  · rw [if_pos rfl]
    go_enter Try.func29, Try.ntmps29
    go_wp2_with fail
    refine C.out.mono ?_
    rintro e w1 ⟨rfl, hb⟩
    have R2 := R1.out.below hb
    have q0 := R2.c0
    have q1 := R2.c1
    have q2 := R2.c2
    have p0 := R2.fr 0
    have p1 := R2.fr 1
    have p2 := R2.fr 2
    have HE := Lib.hid (R2.fin (.int .i64 k) (.int .i64 0) (.string ⟨#[]⟩))
    clear R2 hb
    go_wp2
    exact bodyPost_ret_by (results_c1 Try.info32 Try.agg32 rfl _ _ _ _ rfl HE.out.blk rfl) rfl ⟨rfl, HE.out.bel⟩
  rw [if_neg (by simp)]
  cases h2 : (s.toList == [46, 46])
  rotate_left
  · rw [if_pos rfl]
    have hu := HG.out.up k x hx hk2
    go_enter Try.func29, Try.ntmps29
    go_wp2_with fail
    refine C.out.mono ?_
    rintro e w1 ⟨rfl, hb⟩
    have CU := up55 L D S w1 (HK.out.below hb) k hk
    rw [hx, show upN (some x) = x.up by simp [upN, hk2], show upE (some x) = 0 by simp [upE, hk2, hu.1]] at CU
    replace CU := Lib.hid CU
    have R2 := R1.out.below hb
    have q0 := R2.c0
    have q1 := R2.c1
    have q2 := R2.c2
    have p0 := R2.fr 0
    have p1 := R2.fr 1
    have p2 := R2.fr 2
    have HE := Lib.hid (R2.fin (.int .i64 x.up) (.int .i64 0) (.string ⟨#[]⟩))
    clear R2 hb hu
    go_wp2_with (go_at_call 55; refine CU.out.mono ?_; rintro e w' ⟨rfl, rfl⟩)
    exact bodyPost_ret_by (results_c1 Try.info32 Try.agg32 rfl _ _ _ _ rfl HE.out.blk rfl) rfl ⟨rfl, HE.out.bel⟩
  rw [if_neg (by simp)]
  by_cases h3 : 255 < s.size
  · rw [if_pos h3]
    have h3' : (255 : Int) < (s.size : Int) := by omega
    go_enter Try.func29, Try.ntmps29
    go_wp2_with fail
    refine C.out.mono ?_
    rintro e w1 ⟨rfl, hb⟩
    have R2 := R1.out.below hb
    have q0 := R2.c0
    have q1 := R2.c1
    have q2 := R2.c2
    have p0 := R2.fr 0
    have p1 := R2.fr 1
    have p2 := R2.fr 2
    have HE := Lib.hid (R2.fin (.int .i64 0) (.int .i64 0) (.string ⟨#[]⟩))
    clear R2 hb
    go_wp2
    exact bodyPost_ret_by (results_c1 Try.info32 Try.agg32 rfl _ _ _ _ rfl HE.out.blk rfl) rfl ⟨rfl, HE.out.bel⟩
  rw [if_neg h3]
  have h3' : ¬ (255 : Int) < (s.size : Int) := by omega
  have eN : entrN (S.get k) s = getN s x.ents := by simp [entrN, hk2, hx]
  generalize hgn : getN s x.ents = gn at eN ⊢
  clear hgn
  go_enter Try.func29, Try.ntmps29
  go_wp2_with fail
  refine C.out.mono ?_
  rintro e w1 ⟨rfl, hb⟩
  have CU := look15 L D S w1 (HK.out.below hb) k hk (HG.out.ents k) s
  rw [eN] at CU
  generalize entrE (S.get k) s = ee at CU
  replace CU := Lib.hid CU
  have HR2 := Lib.hid (R1.out.below hb)
  clear hb
  go_wp2_with fail
  refine CU.out.mono ?_
  rintro e w2 ⟨rfl, hb⟩
  have R2 := HR2.out.below hb
  have q0 := R2.c0
  have q1 := R2.c1
  have q2 := R2.c2
  have p0 := R2.fr 0
  have p1 := R2.fr 1
  have p2 := R2.fr 2
  have HE := Lib.hid (R2.fin (.int .i64 gn) (.int .i64 k) (.string s))
  clear R2 hb
  go_wp2
  exact bodyPost_ret_by (results_c1 Try.info32 Try.agg32 rfl _ _ _ _ rfl HE.out.blk rfl) rfl ⟨rfl, HE.out.bel⟩
end Go.Proofs.Ytgdjoojghkdcbaa
