/- Make. Conditions: lengths that fit; fewer nodes than a map may have. -/
import Derived.Test.YtgdjoojghkdcbaaUc
namespace Go.Proofs.Ytgdjoojghkdcbaa
open Go.RowKit Go.PlainAid
set_option linter.unusedSimpArgs false

section
variable {ops : Array Oper} {rest : List Oper} {o : Oper} {a : Act} {Q : Exit → Act → World → Prop}
theorem run_stInt (w : World) (A : Addr) (n : Int) (u : Value) (hc : w.cell? A = some u) (hf : w.frozen? A = false) : (Instr.storeAt 3 (.pointer (some A)) (.int .i64 n)).run Try.prog w = .ok () (w.setCell A (.int .i64 n)) := by
  simp [Instr.storeAt, hc, hf, go_sem]
end
theorem DiskAt.setUsed {L : Lay} {D : Nat} {S : St} {w : World} (h : DiskAt L D S w) (u : Int) : DiskAt L D { S with used := u } (w.setCell ⟨D, 1, none⟩ (.int .i64 u)) ∧ Fr L w (w.setCell ⟨D, 1, none⟩ (.int .i64 u)) := by
  have hb : ∀ b, b ≠ D → (w.setCell ⟨D, 1, none⟩ (.int .i64 u)).heap[b]? = w.heap[b]? := fun b e => Below.heap_setCell _ _ _ _ e
  have hs : (w.setCell ⟨D, 1, none⟩ (.int .i64 u)).heap.size = w.heap.size := by simp [World.setCell]
  refine ⟨⟨?_, h.map.block (hb _ (h.map.ne h.blk)), h.gone, ?_, h.pos, h.oD, h.oM, fun b hl => h.fresh b (by omega)⟩, rfl, rfl, rfl, by omega, fun b hl ho => hb b (by rintro rfl; rw [h.oD] at ho; cases ho)⟩
  · rw [blk_setCell h.blk]; rfl
  · intro k x e
    obtain ⟨p, dv, ev, h1, h2⟩ := h.there k x e
    have := h.pos k x e
    exact ⟨p, dv, ev, h1, h2.keep fun b hl ho => ⟨hb b (by rintro rfl; rw [h.oD] at ho; omega), ho⟩⟩
theorem DiskAt.setLast {L : Lay} {D : Nat} {S : St} {w : World} (h : DiskAt L D S w) (u : Int) : DiskAt L D { S with last := u } (w.setCell ⟨D, 2, none⟩ (.int .i64 u)) ∧ Fr L w (w.setCell ⟨D, 2, none⟩ (.int .i64 u)) := by
  have hb : ∀ b, b ≠ D → (w.setCell ⟨D, 2, none⟩ (.int .i64 u)).heap[b]? = w.heap[b]? := fun b e => Below.heap_setCell _ _ _ _ e
  have hs : (w.setCell ⟨D, 2, none⟩ (.int .i64 u)).heap.size = w.heap.size := by simp [World.setCell]
  refine ⟨⟨?_, h.map.block (hb _ (h.map.ne h.blk)), h.gone, ?_, h.pos, h.oD, h.oM, fun b hl => h.fresh b (by omega)⟩, rfl, rfl, rfl, by omega, fun b hl ho => hb b (by rintro rfl; rw [h.oD] at ho; cases ho)⟩
  · rw [blk_setCell h.blk]; rfl
  · intro k x e
    obtain ⟨p, dv, ev, h1, h2⟩ := h.there k x e
    have := h.pos k x e
    exact ⟨p, dv, ev, h1, h2.keep fun b hl ho => ⟨hb b (by rintro rfl; rw [h.oD] at ho; omega), ho⟩⟩

/-- What a call that may change a disk leaves. -/
def Acts (L : Lay) (D : Nat) (S' : St) (r : Value) (w : World) (e : Ending) (w' : World) : Prop := e = .returned r ∧ ∃ L', DiskAt L' D S' w' ∧ Ext L L' w ∧ Fr L w w'

/-- A node more. -/
def St.make (S : St) (kind m : Int) (s : ByteArray) : St := { S with used := S.used + s.size, last := S.last + 1, cnt := S.cnt + 1, get := fun j => if j = S.last + 1 then some ⟨kind, m, 0, 1, s, [], 0⟩ else S.get j }
def nodeO (kind m : Int) (dv : Value) : Obj := .cells #[.int .i64 kind, .int .i64 m, .int .i64 0, .int .i64 1, dv, .slice none 0 0, .int .i64 0] 91

theorem make_at {L : Lay} {D : Nat} {S : St} {w : World} (h : DiskAt L D S w) (kind m : Int) (s : ByteArray) (hlast : 0 < S.last) (hin : In64 (S.last)) (hg : S.get (S.last) = none) (hc : S.cnt < maxLen) {w1 : World} (hw1 : Below w.heap.size w w1)
    (dv : Value) (hdv : Byts dv s w1) (hdo : ∀ b, dv.ownBlock = some b → w.heap.size ≤ b) :
    ∃ w2, (Instr.mapUpdate 92 (.map (some L.M)) (.int .i64 (S.last)) (.pointer (some ⟨w1.heap.size, 0, none⟩))).run Try.prog (w1.alloc (nodeO kind m dv)) = .ok () w2 ∧
      ∃ L', DiskAt L' D { S with cnt := S.cnt + 1, get := fun j => if j = S.last then some ⟨kind, m, 0, 1, s, [], 0⟩ else S.get j } w2 ∧ Ext L L' w ∧ Fr L w w2 := by
  have hw := h.below hw1
  have h3 := hw.below ((Below.refl _ w1).alloc (Nat.le_refl _) (nodeO kind m dv))
  obtain ⟨w2, hr, hM, hgr⟩ := h3.map.store hin hc (h3.gone _ hg) w1.heap.size
  have hsz := hgr.size
  have hs1 := hw1.size
  have hal : (w1.alloc (nodeO kind m dv)).heap.size = w1.heap.size + 1 := by simp
  refine ⟨w2, hr, ⟨fun b => if w.heap.size ≤ b ∧ b < w2.heap.size then S.last else L.ow b, L.M, fset L.f (S.last) (some w1.heap.size)⟩, ?_, fun b hl => if_neg (fun e => by have := e.1; omega), ?_⟩
  · have hMlt := h.map.lt
    have hDlt := lt_of_block h.blk
    have hb : ∀ b, b < w.heap.size → b ≠ L.M → w2.heap[b]? = w.heap[b]? := fun b hl hne => (hgr.block b (by omega) (fun e => hne (by simpa using e))).trans ((Below.heap_alloc w1 _ b (by omega)).trans (hw1.block b hl))
    refine ⟨(hb D hDlt (fun e => (h.map.ne h.blk) e.symm)).trans h.blk, hM, ?_, ?_, ?_, (if_neg (by omega)).trans h.oD, (show (if w.heap.size ≤ L.M ∧ L.M < w2.heap.size then S.last else L.ow L.M) = 0 by rw [if_neg (by omega)]; exact h.oM), fun b hl => (if_neg (by omega)).trans (h.fresh b (by omega))⟩
    · intro k hk
      simp only at hk
      by_cases e : k = S.last
      · rw [if_pos e] at hk; cases hk
      · rw [if_neg e] at hk
        exact (if_neg e).trans (h.gone k hk)
    · intro k x hk
      simp only at hk
      by_cases e : k = S.last
      · rw [if_pos e] at hk
        cases hk
        refine ⟨w1.heap.size, dv, .slice none 0 0, if_pos e, ⟨?_, ?_, row_nil _ _ _, ?_, fun b e' => ?_, fun b e' => ?_⟩⟩
        · exact (hgr.block _ (by omega) (fun e' => by have : w1.heap.size = L.M := (by simpa using e'); omega)).trans (heap_alloc_new w1 _)
        · refine hdv.keep fun b e' hl => ?_
          have hge := hdo b e'
          exact (hgr.block b (by omega) (fun e'' => by have : b = L.M := (by simpa using e''); omega)).trans (Below.heap_alloc w1 _ b hl)
        · show (if _ then _ else _) = _
          rw [if_pos (by omega), e]
        · have := hdo b e'
          have := hdv.lt e'
          show (if _ then _ else _) = _
          rw [if_pos (by omega), e]
        · simp [Value.ownBlock] at e'
      · rw [if_neg e] at hk
        obtain ⟨p, du, eu, h1, h2⟩ := h.there k x hk
        have := h.pos k x hk
        exact ⟨p, du, eu, (if_neg e).trans h1, h2.keep fun b hl ho => ⟨hb b hl (by rintro rfl; rw [h.oM] at ho; omega), (if_neg (by omega)).trans ho⟩⟩
    · intro k x hk
      simp only at hk
      by_cases e : k = S.last
      · omega
      · rw [if_neg e] at hk; exact h.pos k x hk
  · refine ⟨hgr.os.trans hw1.os, hgr.tape.trans hw1.tape, hgr.output.trans hw1.output, by omega, fun b hl ho => ?_⟩
    exact (hgr.block b (by omega) (fun e => by have : b = L.M := (by simpa using e); subst this; rw [h.oM] at ho; cases ho)).trans ((Below.heap_alloc w1 _ b (by omega)).trans (hw1.block b hl))

theorem Acts.of {L L1 L2 : Lay} {D : Nat} {S2 : St} {r : Value} {w w1 w2 : World} (e1 : Ext L L1 w) (f1 : Fr L w w1) (h2 : DiskAt L2 D S2 w2) (e2 : Ext L1 L2 w1) (f2 : Fr L1 w1 w2) : Acts L D S2 r w (.returned r) w2 :=
  ⟨rfl, L2, h2, e1.trans e2 f1.size, f1.trans e1 f2⟩
theorem Acts.same {L : Lay} {D : Nat} {S : St} {r : Value} {w w' : World} (h : DiskAt L D S w) (hb : Below w.heap.size w w') : Acts L D S r w (.returned r) w' := ⟨rfl, L, h.below hb, .refl _ _, .of_below hb⟩
theorem below_drawn (w : World) (n : Nat) : Below w.heap.size w (w.drewN n) := below_drewN (Below.refl _ _) n

/-- Make: the disk behind it. -/
def makeS (S : St) (kind m : Int) (s : ByteArray) : St := if makeE S kind m s = 0 then S.make kind m s else S
def makeR (S : St) (kind m : Int) (s : ByteArray) : Value := .tuple #[.int .i64 (if makeE S kind m s = 0 then S.last + 1 else 0), .int .i64 (makeE S kind m s)]

set_option maxHeartbeats 2000000 in
set_option maxRecDepth 100000 in
theorem make24 (L : Lay) (D : Nat) (S : St) (w : World) (h : DiskAt L D S w) (h1 : 0 ≤ S.used) (h2 : S.used ≤ S.room) (h3 : S.room ≤ 9223372036854775807) (kind m : Int) (s : ByteArray) (hs : s.size ≤ maxLen) (hl0 : 0 ≤ S.last) (hl1 : S.last ≤ 1000000) (hg : S.get (S.last + 1) = none) (hc : S.cnt ≤ 1000000) :
    Calls Try.prog 19 #[.pointer (some ⟨D, 0, none⟩), .int .i64 kind, .int .i64 m, .string s] w (Acts L D (makeS S kind m s) (makeR S kind m s) w) := by
  have C := mayMake53 L D S w h h1 h2 h3 kind m s hs
  by_cases h0 : makeE S kind m s = 0
  rotate_left
  · have e1 : makeS S kind m s = S := if_neg h0
    have e2 : makeR S kind m s = .tuple #[.int .i64 0, .int .i64 (makeE S kind m s)] := by unfold makeR; rw [if_neg h0]
    rw [e1, e2]
    have F := Lib.hid (fun r n => Acts.same (r := r) h (below_drawn w n))
    have h0' : (makeE S kind m s != 0) = true := by simpa using h0
    generalize makeE S kind m s = r at C h0'
    replace C := Lib.hid C
    clear h h0 e1 e2
    go_enter Try.func19, Try.ntmps19
    go_wp2_with (go_at_call 40; refine C.out.mono ?_; rintro e w' ⟨rfl, n, rfl⟩)
    go_ret2
    exact F.out _ _
  have hfit : s.size ≤ 4194304 ∧ S.used + s.size ≤ S.room := by
    unfold makeE at h0
    split at h0
    · cases h0
    split at h0
    · cases h0
    split at h0
    · cases h0
    split at h0
    · cases h0
    split at h0
    · cases h0
    omega
  rw [show makeS S kind m s = S.make kind m s from if_pos h0, show makeR S kind m s = .tuple #[.int .i64 (S.last + 1), .int .i64 0] by unfold makeR; rw [if_pos h0, h0]]
  rw [h0] at C
  replace C := Lib.hid C
  have H := Lib.hid h
  clear h h0
  go_enter Try.func19, Try.ntmps19
  go_wp2_with fail
  refine C.out.mono ?_
  rintro e w' ⟨rfl, n, rfl⟩
  have K0 := H.out.below (below_drawn w n)
  have B0 := Lib.hid (below_drawn w n)
  clear H
  generalize w.drewN n = w0 at K0 B0
  have c2 := K0.c2
  have f2 := K0.fr 2
  obtain ⟨K1, F1⟩ := K0.setLast (S.last + 1)
  have HK1 := Lib.hid K1
  have HF1 := Lib.hid F1
  clear K0 K1 F1
  go_wp2
  clear c2 f2
  generalize w0.setCell ⟨D, 2, none⟩ (.int .i64 (S.last + 1)) = w1 at HK1 HF1
  have B1 : Below w1.heap.size w1 (made w1.drew s) := (((Below.refl w1.heap.size w1).drew).drew).alloc (Nat.le_refl _) _
  have D1 := HK1.out.below B1
  have D2 := D1.below ((Below.refl _ (made w1.drew s)).alloc (Nat.le_refl _) (nodeO kind m (.slice (some ⟨w1.heap.size, 0, none⟩) s.size (grownCap w1.drew s.size 0 5))))
  have c2 := HK1.out.c2
  have c3 := HK1.out.c3
  have d2 := D1.c2
  have d3 := D1.c3
  have e2 := D2.c2
  have e3 := D2.c3
  unfold nodeO at e2 e3
  obtain ⟨w2, hr, L2, D3, E2, F2⟩ := make_at HK1.out kind m s (by show (0 : Int) < S.last + 1; omega) (in64 (by show _ ≤ S.last + 1 ∧ S.last + 1 ≤ _; omega)) hg (by show S.cnt < maxLen; unfold maxLen; omega) B1 _ (made_byts w1.drew s hs) (fun b e => by simp [Value.ownBlock] at e; omega)
  have hr2 : (Instr.mapUpdate 92 (.map (some L.M)) (.int .i64 (S.last + 1)) (.pointer (some ⟨(made w1.drew s).heap.size, 0, none⟩))).run Try.prog ((made w1.drew s).alloc (.cells #[.int .i64 kind, .int .i64 m, .int .i64 0, .int .i64 1, .slice (some ⟨w1.heap.size, 0, none⟩) s.size (grownCap w1.drew s.size 0 5), .slice none 0 0, .int .i64 0] 91)) = .ok () w2 := hr
  clear hr
  have hr := hr2
  clear hr2
  have hcv := run_made s
  have HD3 := Lib.hid D3
  have HE := Lib.hid (show Ext L L2 w from (Ext.refl L w).trans E2 (Nat.le_trans B0.out.size HF1.out.size))
  have HF := Lib.hid (((Fr.of_below (L := L) B0.out).trans (.refl L w) HF1.out).trans (.refl L w) F2)
  clear D1 D2 D3 E2 F2 B1
  go_region
  clear c2 c3 d2 d3 e2 e3 hcv hr
  have c1 := HD3.out.c1
  have f1 := HD3.out.fr 1
  obtain ⟨K4, F4⟩ := HD3.out.setUsed (S.used + s.size)
  have c2 := K4.c2
  have G := Lib.hid (show Acts L D (S.make kind m s) (.tuple #[.int .i64 (S.last + 1), .int .i64 0]) w (.returned (.tuple #[.int .i64 (S.last + 1), .int .i64 0])) _ from ⟨rfl, L2, K4, HE.out, HF.out.trans HE.out F4⟩)
  clear K4 F4
  go_wp2
  go_ret2
  exact G.out
end Go.Proofs.Ytgdjoojghkdcbaa
