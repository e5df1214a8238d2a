/- sweep and Release of a node without entries that nothing names or holds any more. Conditions: the node is there; few bytes. -/
import Derived.Test.YtgdjoojghkdcbaaUj
import Derived.Deep.RegionHeld3
namespace Go.Proofs.Ytgdjoojghkdcbaa
open Go.RowKit Go.PlainAid
set_option linter.unusedSimpArgs false

/-- A node that has gone. -/
def St.gone (S : St) (k : Int) (x : Nd) : St := { S with used := S.used - (x.data.size + szs x.ents), cnt := S.cnt - 1, get := fun j => if j = k then none else S.get j }

theorem gone_at {L : Lay} {D : Nat} {S : St} {w w1 : World} (h : DiskAt L D S w) {k : Int} {n : Nat} (hM : MapAt L.M (fset L.f k none) n w1) (hg : w.grownBy w1 (some L.M)) (u : Int) :
    ∃ L', DiskAt L' D { S with used := u, cnt := n, get := fun j => if j = k then none else S.get j } (w1.setCell ⟨D, 1, none⟩ (.int .i64 u)) ∧ Ext L L' w ∧ Fr L w (w1.setCell ⟨D, 1, none⟩ (.int .i64 u)) ∧ DiskAt L' D { S with cnt := n, get := fun j => if j = k then none else S.get j } w1 ∧ Fr L w w1 := by
  have hsz : w.heap.size ≤ w1.heap.size := hg.size
  have hblk : ∀ b, b < w.heap.size → b ≠ L.M → w1.heap[b]? = w.heap[b]? := fun b hb e => hg.block b hb (by simpa using e)
  have hDM : D ≠ L.M := fun e => h.map.ne h.blk e.symm
  have F1 : Fr L w w1 := ⟨hg.os, hg.tape, hg.output, hsz, fun b hb ho => hblk b hb (fun e => by rw [e, h.oM] at ho; omega)⟩
  have K1 : DiskAt ⟨L.ow, L.M, fset L.f k none⟩ D { S with cnt := n, get := fun j => if j = k then none else S.get j } w1 := by
    refine ⟨(hblk D (lt_of_block h.blk) hDM).trans h.blk, hM, fun j hj => ?_, fun j y hj => ?_, fun j y hj => ?_, h.oD, h.oM, fun b hb => h.fresh b (by omega)⟩
    · show fset L.f k none j = none
      unfold fset
      by_cases e : j = k
      · rw [if_pos e]
      · rw [if_neg e]; exact h.gone j (by simpa [e] using hj)
    · by_cases e : j = k
      · simp [e] at hj
      · obtain ⟨p, dv, ev, h1, h2⟩ := h.there j y (by simpa [e] using hj)
        refine ⟨p, dv, ev, ?_, h2.keep fun b hl ho => ⟨hblk b hl (fun e' => ?_), ho⟩⟩
        · show fset L.f k none j = some p
          unfold fset
          rw [if_neg e]; exact h1
        · have := h.pos j y (by simpa [e] using hj)
          rw [e', h.oM] at ho
          omega
    · by_cases e : j = k
      · simp [e] at hj
      · exact h.pos j y (by simpa [e] using hj)
  obtain ⟨K2, F2⟩ := K1.setUsed u
  exact ⟨_, K2, fun _ _ => rfl, F1.trans (L' := ⟨L.ow, L.M, fset L.f k none⟩) (fun _ _ => rfl) F2, K1, F1⟩

set_option maxHeartbeats 1000000 in
set_option maxRecDepth 100000 in
theorem size_nil (p : Nat) (a : Option Addr) (c : Nat) (w : World) (c5 : w.cell? ⟨p, 5, none⟩ = some (.slice a 0 c)) : Calls Try.prog 76 #[.pointer (some ⟨p, 5, none⟩)] w fun e w' => e = .returned (.int .i64 0) ∧ w = w' := by
  go_enter Try.func76, Try.ntmps76
  go_wp2
  go_loopw [3, 11] (fun v i wr => v = .int .i64 0 ∧ i = .int .i64 0 ∧ wr = w) (fun _ _ _ => 0)
  case atStart => exact ⟨rfl, rfl, rfl⟩
  case round =>
    obtain ⟨rfl, rfl, rfl⟩ := hrel
    go_wp2
    go_ret
    exact ⟨rfl, rfl⟩

def RelLeaf (w : World) (k : Int) (K : World → Prop) (idv v : Value) (wr : World) : Prop := (idv = .int .i64 k ∧ v = .slice (some ⟨w.heap.size, 0, none⟩) 1 1 ∧ wr = w.alloc (.cells #[.int .i64 k] 3)) ∨ (v = .slice (some ⟨w.heap.size, 0, none⟩) 0 1 ∧ K wr)

set_option maxHeartbeats 2000000 in
set_option maxRecDepth 100000 in
theorem sweep46_leaf (L : Lay) (D : Nat) (S : St) (w : World) (h : DiskAt L D S w) (k : Int) (hk : In64 k) (x : Nd) (hx : S.get k = some x) (hlk : x.links = 0) (hho : x.holds = 0) (hen : x.ents = []) (n : Nat) (hcn : S.cnt = n + 1) (hu0 : 0 ≤ S.used - x.data.size) (hu1 : S.used ≤ 9223372036854775807) :
    Calls Try.prog 48 #[.pointer (some ⟨D, 0, none⟩), .int .i64 k] w (Acts L D { S with used := S.used - x.data.size, cnt := n, get := fun j => if j = k then none else S.get j } (.tuple #[]) w) := by
  obtain ⟨p, dv, ev, hp, hn⟩ := h.there k x hx
  have H := Lib.hid h
  have HN := Lib.hid hn
  clear h hn
  go_enter Try.func48, Try.ntmps48
  go_wp2
  go_loopw [1, 4] (RelLeaf w k (fun wr => Acts L D { S with used := S.used - x.data.size, cnt := n, get := fun j => if j = k then none else S.get j } (.tuple #[]) w (.returned (.tuple #[])) wr)) (fun _ v _ => match v with | .slice _ n _ => n | _ => 0)
  case atStart => exact .inl ⟨rfl, rfl, rfl⟩
  case round =>
    rcases hrel with ⟨rfl, rfl, rfl⟩ | ⟨rfl, hb⟩
    · have B1 := (Below.refl w.heap.size w).alloc (Nat.le_refl _) (.cells #[.int .i64 k] 3)
      have K1 := H.out.below B1
      have N1 := HN.out.keep (ow' := L.ow) (w' := w.alloc (.cells #[.int .i64 k] 3)) (fun b hl ho => ⟨B1.block b hl, ho⟩)
      have c0 : (w.alloc (.cells #[.int .i64 k] 3)).cell? ⟨w.heap.size, 0, none⟩ = some (.int .i64 k) := cell_of_one (heap_alloc_new w _)
      have c3 := K1.c3
      have hl := (K1.below ((Below.refl _ _).drew)).look1 hk hp
      have d2 := N1.c2
      have d3 := N1.c3
      rw [hlk] at d2
      rw [hho] at d3
      have B2 := Lib.hid B1
      have HK1 := Lib.hid K1
      have HN1 := Lib.hid N1
      clear K1 N1 B1
      generalize w.alloc (.cells #[.int .i64 k] 3) = w1 at c0 c3 hl d2 d3 B2 HK1 HN1
      have HK2 := Lib.hid (HK1.out.below ((Below.refl w1.heap.size w1).drew))
      have HN2 := Lib.hid (HN1.out.keep (ow' := L.ow) (w' := w1.drew) (fun b _ ho => ⟨rfl, ho⟩))
      have B3 := Lib.hid B2.out.drew
      obtain ⟨w3, hr3, hM3, hg3⟩ := MapAt.drop (n := n) (by rw [← hcn]; exact HK2.out.map) hk (by rw [hp]; rfl) 0
      obtain ⟨L', G1, G2, G3, G4, G5⟩ := gone_at HK2.out hM3 hg3 (S.used - x.data.size)
      have hpos := HK2.out.pos k x hx
      have HN3 := HN2.out.keep (ow' := L.ow) (w' := w3) (fun b hl ho => ⟨hg3.block b hl (fun e => by cases e; have := HK2.out.oM; omega), ho⟩)
      have c1 := G4.c1
      have f1 := G4.fr 1
      obtain ⟨a4, c4, rfl⟩ := HN3.data.shape
      have d4 := HN3.c4
      have d5 := HN3.c5
      have hrow := HN3.row
      rw [hen] at hrow
      obtain ⟨a5, c5, rfl⟩ : ∃ a5 c5, ev = .slice a5 0 c5 := by
        rcases hrow.cases with ⟨rfl, _⟩ | ⟨g, cap, cur, rfl, _⟩
        · exact ⟨_, _, rfl⟩
        · exact ⟨_, _, rfl⟩
      have CS := Lib.hid (size_nil p a5 c5 w3.drew d5)
      have hkD : ∀ b, L.ow b = k → b ≠ D := fun b ho e => by rw [e, HK2.out.oD] at ho; omega
      have HN4 := HN3.keep (ow' := L.ow) (w' := (w3.setCell ⟨D, 1, none⟩ (.int .i64 (S.used - x.data.size))).drew) (fun b _ ho => ⟨Below.heap_setCell _ _ _ _ (hkD b ho), ho⟩)
      have CL := list13 p _ 0 _ _ _ HN4.dir (by rw [hen]; decide)
      rw [hen] at CL
      replace CL := Lib.hid CL
      have HG := Lib.hid (show ∀ w', Below (w3.setCell ⟨D, 1, none⟩ (.int .i64 (S.used - x.data.size))).drew.heap.size (w3.setCell ⟨D, 1, none⟩ (.int .i64 (S.used - x.data.size))).drew w' → Acts L D { S with used := S.used - x.data.size, cnt := n, get := fun j => if j = k then none else S.get j } (.tuple #[]) w (.returned (.tuple #[])) w' from fun w' hb =>
        ⟨rfl, L', G1.below (((Below.refl _ _).drew).trans (hb.mono (Nat.le_refl _))), fun b hb' => G2 b (Nat.lt_of_lt_of_le hb' B3.out.size),
          (Fr.of_below B3.out).trans (.refl _ _) (G3.trans G2 (.of_below (((Below.refl _ _).drew).trans (hb.mono (Nat.le_refl _)))))⟩)
      clear G1 G2 G3 G4 G5 HK1 HN1 HK2 HN2 hM3 hg3
      go_wp2
      go_region
      go_wp2
      have a1 : w3.drew.cell? ⟨D, 1, none⟩ = some (.int .i64 S.used) := c1
      have a4' : w3.drew.cell? ⟨p, 4, none⟩ = some (.slice a4 x.data.size c4) := d4
      have a5' : w3.drew.frozen? ⟨D, 1, none⟩ = false := f1
      go_region_with (go_at_call 76; refine CS.out.mono ?_; rintro e w' ⟨rfl, rfl⟩)
      all_goals (
        go_wp2_with fail
        refine CL.out.mono ?_
        rintro e w4 ⟨v4, rfl, R4, B4⟩
        have HG4 := Lib.hid (HG.out w4 B4)
        obtain ⟨a6, c6, rfl⟩ : ∃ a6 c6, v4 = .slice a6 0 c6 := by
          rcases R4.cases with ⟨rfl, _⟩ | ⟨g, cap, cur, rfl, _⟩
          · exact ⟨_, _, rfl⟩
          · exact ⟨_, _, rfl⟩
        clear R4 B4
        go_wp2
        go_loopw [4, 78] (fun v i wr => v = .slice (some ⟨w.heap.size, 0, none⟩) 0 1 ∧ i = .int .i64 0 ∧ wr = w4) (fun _ _ _ => 0)
        case atStart => exact ⟨rfl, rfl, rfl⟩
        case round =>
          obtain ⟨rfl, rfl, rfl⟩ := hrel
          go_wp2
          go_roundw
          case rel => exact .inr ⟨rfl, HG4.out⟩
          case measure => simp)
    · have HB := Lib.hid hb
      clear hb
      go_wp2
      go_end0
      exact HB.out
end Go.Proofs.Ytgdjoojghkdcbaa
