/- sweep of a node that stays; Release of one that is named. Conditions: the node is there, and named or held. -/
import Derived.Test.YtgdjoojghkdcbaaUg
namespace Go.Proofs.Ytgdjoojghkdcbaa
open Go.RowKit Go.PlainAid
set_option linter.unusedSimpArgs false

def RelStay (w : World) (k : Int) (idv v : Value) (wr : World) : Prop := (idv = .int .i64 k ∧ v = .slice (some ⟨w.heap.size, 0, none⟩) 1 1 ∧ wr = w.alloc (.cells #[.int .i64 k] 3)) ∨ (v = .slice (some ⟨w.heap.size, 0, none⟩) 0 1 ∧ Below w.heap.size w wr)

set_option maxHeartbeats 2000000 in
set_option maxRecDepth 100000 in
theorem sweep46_stay (L : Lay) (D : Nat) (S : St) (w : World) (h : DiskAt L D S w) (k : Int) (hk : In64 k) (x : Nd) (hx : S.get k = some x) (hlk : 0 < x.links) :
    Calls Try.prog 48 #[.pointer (some ⟨D, 0, none⟩), .int .i64 k] w fun e w' => e = .returned (.tuple #[]) ∧ Below w.heap.size w w' := by
  obtain ⟨p, dv, ev, hp, hn⟩ := h.there k x hx
  have H := Lib.hid h
  have HN := Lib.hid hn
  clear h hn
  go_enter Try.func48, Try.ntmps48
  go_wp2
  go_loopw [1, 4] (RelStay w k) (fun _ v _ => match v with | .slice _ n _ => n | _ => 0)
  case atStart => exact .inl ⟨rfl, rfl, rfl⟩
  case round =>
    rcases hrel with ⟨rfl, rfl, rfl⟩ | ⟨rfl, hb⟩
    · have B1 := (Below.refl w.heap.size w).alloc (Nat.le_refl _) (.cells #[.int .i64 k] 3)
      have K1 := H.out.below B1
      have N1 := HN.out.keep (ow' := L.ow) (w' := w.alloc (.cells #[.int .i64 k] 3)) (fun b hl ho => ⟨B1.block b hl, ho⟩)
      have c0 : (w.alloc (.cells #[.int .i64 k] 3)).cell? ⟨w.heap.size, 0, none⟩ = some (.int .i64 k) := cell_of_one (heap_alloc_new w _)
      have c3 := K1.c3
      have hl := (K1.below ((Below.refl _ _).drew)).look1 hk hp
      have d2 := N1.c2
      have B2 := Lib.hid B1
      clear K1 N1 B1
      generalize w.alloc (.cells #[.int .i64 k] 3) = w1 at c0 c3 hl d2 B2
      go_wp2
      go_region
      go_wp2
      go_roundw
      case rel => exact .inr ⟨rfl, B2.out.drew⟩
      case measure => simp
    · have HB := Lib.hid hb
      clear hb
      go_wp2
      go_end0
      exact ⟨rfl, HB.out⟩

set_option maxHeartbeats 2000000 in
set_option maxRecDepth 100000 in
theorem release18_stay (L : Lay) (D : Nat) (S : St) (w : World) (h : DiskAt L D S w) (k : Int) (hk : In64 k) (x : Nd) (hx : S.get k = some x) (hlk : 0 < x.links) (hh : 0 < x.holds) (hh2 : x.holds ≤ 1000000) :
    Calls Try.prog 23 #[.pointer (some ⟨D, 0, none⟩), .int .i64 k] w (Acts L D (S.put k { x with holds := x.holds - 1 }) (.int .i64 0) w) := by
  obtain ⟨p, dv, ev, hp, hn⟩ := h.there k x hx
  have c3 := h.c3
  have hl := h.look1 hk hp
  have d3 := hn.c3
  have f3 := hn.fr 3
  have hnz : (x.holds == 0) = false := by simp; omega
  obtain ⟨K1, F1, N1⟩ := h.setN hx hn hp 3 (.int .i64 (x.holds - 1)) { x with holds := x.holds - 1 } rfl rfl rfl
  have C := Lib.hid (sweep46_stay L D _ _ K1 k hk _ (St.put_same _ _ _) hlk)
  have HK := Lib.hid K1
  have HF := Lib.hid F1
  clear h hn K1 F1 N1
  go_enter Try.func23, Try.ntmps23
  go_wp2_with fail
  refine C.out.mono ?_
  rintro e w1 ⟨rfl, hb⟩
  have G := Lib.hid (show Acts L D (S.put k { x with holds := x.holds - 1 }) (.int .i64 0) w (.returned (.int .i64 0)) w1 from ⟨rfl, L, HK.out.below hb, .refl _ _, HF.out.trans (.refl _ _) (.of_below hb)⟩)
  clear hb
  go_wp2
  go_ret
  exact G.out
end Go.Proofs.Ytgdjoojghkdcbaa
