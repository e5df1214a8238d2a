/- The contract of one call of both, the program's and the document's. Conditions: at most 999 entries; texts have at most 500 bytes. -/
import Derived.Test.YtpkffkdojgpmhaaQ
namespace Go.Proofs.Ytpkffkdojgpmhaa
open Go.RowKit Go.PlainAid
set_option linter.unusedSimpArgs false

/-- Both have the same entries. -/
structure Both (D B : Nat) (v u : Value) (l : List En) (w : World) : Prop where
  dir : DirAt D B v l w
  row : Row 34 B u l w
  hD : B ≤ D
theorem Both.below {D B : Nat} {v u : Value} {l : List En} {w w' : World} (h : Both D B v u l w) (hb : Below w.heap.size w w') : Both D B v u l w' := ⟨h.dir.below hb, h.row.below hb, h.hD⟩
def Done (D B : Nat) (l : List En) (w : World) (e : Ending) (w' : World) : Prop := ∃ u v, e = .returned (.tuple #[u, .bool true]) ∧ Both D B v u l w' ∧ Below B w w'

/-- Behind the program's call. -/
theorem Both.moved {D B : Nat} {v u : Value} {l : List En} {w w' : World} (h : Both D B v u l w) (hm : Moves D v.ownBlock w w') :
    Row 34 B u l w' ∧ Below B w w' ∧ ∀ (b : Nat) (o : Obj) (t : TypeId) (cs : Array Value), o = .cells cs t (0, 0) → t ≠ 47 → b ≠ D → w.heap[b]? = some o → w'.heap[b]? = some o := by
  have hlt := lt_of_block h.dir.blk
  refine ⟨hm.row h.row (h.row.ne h.dir.blk (by decide)) (fun k hk => h.row.apart h.dir.row (by decide) hk), ?_, ?_⟩
  · have := h.hD
    exact hm.low (Below.refl _ _) h.hD (fun k hk => (h.dir.row.lt hk).1) (by omega)
  · intro b o t cs e ht hb ho
    subst e
    rw [hm.block b (lt_of_block ho) hb (fun e => h.dir.row.ne ho ht e.symm)]
    exact ho
theorem Both.told {D B : Nat} {v u' : Value} {l' : List En} {w' w3 : World} (hd : DirAt D B v l' w') (hD : B ≤ D) (hr : Row 34 B u' l' w3) (hb : Below w'.heap.size w' w3) : Both D B v u' l' w3 ∧ Below B w' w3 := by
  have := lt_of_block hd.blk
  exact ⟨⟨hd.below hb, hr, hD⟩, hb.mono (by omega)⟩
theorem cell3 {w : World} {b : Nat} {x y z : Value} {t : TypeId} (h : w.heap[b]? = some (.cells #[x, y, z] t (0, 0))) : w.cell? ⟨b, 0, none⟩ = some x ∧ w.cell? ⟨b, 1, none⟩ = some y ∧ w.cell? ⟨b, 2, none⟩ = some z := by
  simp [World.cell?, h]

set_option maxHeartbeats 1000000 in
set_option maxRecDepth 100000 in
theorem do7 (D B m : Nat) (v u : Value) (l : List En) (k : Int) (s : ByteArray) (n : Int) (w : World) (h : Both D B v u l w) (hg : Good l m) (hm : m ≤ 999) (hs : s.size ≤ 500) :
    Calls Try.prog 7 #[.pointer (some ⟨D, 0, none⟩), u, .agg #[.int .i64 k, .string s, .int .i64 n]] w (Done D B (stepL k s n l) w) := by
  have hlen := hg.len
  have hlt := lt_of_block h.dir.blk
  have hD := h.hD
  obtain ⟨W, hW⟩ : ∃ W, W = w.alloc (.cells #[.int .i64 k, .string s, .int .i64 n] 29) := ⟨_, rfl⟩
  have hWb : Below w.heap.size w W := by rw [hW]; exact (Below.refl _ w).alloc (Nat.le_refl _) _
  have hWs := hWb.size
  have hWB : Below B w W := hWb.mono (by omega)
  have K := h.below hWb
  have hbx : W.heap[w.heap.size]? = some (.cells #[.int .i64 k, .string s, .int .i64 n] 29 (0, 0)) := by rw [hW]; exact heap_alloc_new w _
  obtain ⟨b0, b1, b2⟩ := cell3 hbx
  have HBX := Lib.hid hbx
  have HK := Lib.hid K
  have HWB := Lib.hid hWB
  have HLT := Lib.hid hlt
  obtain ⟨a, c, hu⟩ := slice_shape h.row
  cases k1 : (k == 1)
  · cases k2 : (k == 2)
    · cases k3 : (k == 3)
      · have e1 : stepL k s n l = l := by unfold stepL; rw [k1, k2, k3]; rfl
        rw [e1]
        clear h hg hbx K hWb hWB e1
        subst hW hu
        go_enter Try.func7, Try.ntmps7
        go_wp2
        go_ret2
        exact ⟨_, _, rfl, HK.out, HWB.out⟩
      · have e1 : stepL k s n l = dropL s l := by unfold stepL; rw [k1, k2, k3]; rfl
        have C := Lib.hid (drop17 D B v l s W K.dir hg.rise (by omega))
        have C2 := Lib.hid (fun w1 (r : Row 34 B u l w1) (hb : B ≤ w1.heap.size) => rdrop21 B u l s w1 r hg.rise (by omega) hb)
        rw [e1]
        generalize dropL s l = l2 at C C2 ⊢
        generalize setE s l = er at C C2
        have hee : (er == er) = true := by simp
        clear h hg hbx K hWb hWB e1
        subst hW hu
        go_enter Try.func7, Try.ntmps7
        go_wp2_with fail
        refine C.out.mono ?_
        rintro e w2 ⟨v', rfl, d1, d2, d3⟩
        obtain ⟨r1, r2, r3⟩ := HK.out.moved d2
        have hbx2 := r3 _ _ _ _ rfl (by decide) (by have := HLT.out; omega) HBX.out
        clear b0 b1 b2
        obtain ⟨b0, b1, b2⟩ := cell3 hbx2
        have R := Lib.hid (C2.out w2 r1 (by have := d2.size; omega))
        have D1 := Lib.hid d1
        have R2 := Lib.hid (HWB.out.trans r2)
        clear d1 d2 d3 r1 r2 r3 hbx2
        go_wp2_with fail
        refine R.out.mono ?_
        rintro e w3 ⟨u', rfl, t1, t2⟩
        obtain ⟨a', c', rfl⟩ := slice_shape t1
        obtain ⟨q1, q2⟩ := Both.told D1.out hD t1 t2
        have F := Lib.hid (show Done D B l2 w (.returned (.tuple #[_, .bool true])) w3 from ⟨_, _, rfl, q1, R2.out.trans q2⟩)
        clear t1 t2 q1 q2
        go_wp2
        go_ret2
        exact F.out
    · have e1 : stepL k s n l = setL s n l := by unfold stepL; rw [k1, k2]; rfl
      have C := Lib.hid (set19 D B v l s n W K.dir hg.rise (by omega))
      have C2 := Lib.hid (fun w1 (r : Row 34 B u l w1) (hb : B ≤ w1.heap.size) => rset20 B u l s n w1 r hg.rise (by omega) hb)
      rw [e1]
      generalize setL s n l = l2 at C C2 ⊢
      generalize setE s l = er at C C2
      have hee : (er == er) = true := by simp
      clear h hg hbx K hWb hWB e1
      subst hW hu
      go_enter Try.func7, Try.ntmps7
      go_wp2_with fail
      refine C.out.mono ?_
      rintro e w2 ⟨v', rfl, d1, d2, d3⟩
      obtain ⟨r1, r2, r3⟩ := HK.out.moved d2
      have hbx2 := r3 _ _ _ _ rfl (by decide) (by have := HLT.out; omega) HBX.out
      clear b0 b1 b2
      obtain ⟨b0, b1, b2⟩ := cell3 hbx2
      have R := Lib.hid (C2.out w2 r1 (by have := d2.size; omega))
      have D1 := Lib.hid d1
      have R2 := Lib.hid (HWB.out.trans r2)
      clear d1 d2 d3 r1 r2 r3 hbx2
      go_wp2_with fail
      refine R.out.mono ?_
      rintro e w3 ⟨u', rfl, t1, t2⟩
      obtain ⟨a', c', rfl⟩ := slice_shape t1
      obtain ⟨q1, q2⟩ := Both.told D1.out hD t1 t2
      have F := Lib.hid (show Done D B l2 w (.returned (.tuple #[_, .bool true])) w3 from ⟨_, _, rfl, q1, R2.out.trans q2⟩)
      clear t1 t2 q1 q2
      go_wp2
      go_ret2
      exact F.out
  · have e1 : stepL k s n l = putL s n l := by unfold stepL; rw [k1]; rfl
    have C := Lib.hid (put16 D B v l s n W K.dir hg.rise (by omega) (by unfold maxLen; omega) (by omega))
    have C2 := Lib.hid (fun w1 (r : Row 34 B u l w1) (hb : B ≤ w1.heap.size) => rput18 B u l s n w1 r hg.rise (by omega) (by omega) hb)
    rw [e1]
    generalize putL s n l = l2 at C C2 ⊢
    generalize putE s l = er at C C2
    have hee : (er == er) = true := by simp
    clear h hg hbx K hWb hWB e1
    subst hW hu
    go_enter Try.func7, Try.ntmps7
    go_wp2_with fail
    refine C.out.mono ?_
    rintro e w2 ⟨v', rfl, d1, d2, d3⟩
    obtain ⟨r1, r2, r3⟩ := HK.out.moved d2
    have hbx2 := r3 _ _ _ _ rfl (by decide) (by have := HLT.out; omega) HBX.out
    clear b0 b1 b2
    obtain ⟨b0, b1, b2⟩ := cell3 hbx2
    have R := Lib.hid (C2.out w2 r1 (by have := d2.size; omega))
    have D1 := Lib.hid d1
    have R2 := Lib.hid (HWB.out.trans r2)
    clear d1 d2 d3 r1 r2 r3 hbx2
    go_wp2_with fail
    refine R.out.mono ?_
    rintro e w3 ⟨u', rfl, t1, t2⟩
    obtain ⟨a', c', rfl⟩ := slice_shape t1
    obtain ⟨q1, q2⟩ := Both.told D1.out hD t1 t2
    have F := Lib.hid (show Done D B l2 w (.returned (.tuple #[_, .bool true])) w3 from ⟨_, _, rfl, q1, R2.out.trans q2⟩)
    clear t1 t2 q1 q2
    go_wp2
    go_ret2
    exact F.out
end Go.Proofs.Ytpkffkdojgpmhaa
