/- The contracts of place, of its closure and of sort.Search with it. Conditions: the entries stand by rising names; at most 1000. -/
import Derived.Test.YtgdjoojghkdcbaaO
namespace Go.Proofs.Ytgdjoojghkdcbaa
open Go.RowKit Go.PlainAid
set_option linter.unusedSimpArgs false

/-- What the closure captured: the directory and the name. -/
structure Capt (D : Nat) (nc : NC) (B b1 b2 : Nat) (v : Value) (l : List En) (s : ByteArray) (w : World) : Prop where
  dir : DirAt D nc B v l w
  h1 : w.heap[b1]? = some (.cells #[.pointer (some ⟨D, 5, none⟩)] 137 (0, 0))
  h2 : w.heap[b2]? = some (.cells #[.string s] 9 (0, 0))
theorem Capt.drewN {D B b1 b2 : Nat} {nc : NC} {v : Value} {l : List En} {s : ByteArray} {w : World} (h : Capt D nc B b1 b2 v l s w) (n : Nat) : Capt D nc B b1 b2 v l s (w.drewN n) := ⟨⟨h.dir.blk, h.dir.row⟩, h.h1, h.h2⟩

set_option maxHeartbeats 2000000 in
set_option maxRecDepth 100000 in
theorem clos30 (D : Nat) (nc : NC) (B b1 b2 : Nat) (v : Value) (l : List En) (s : ByteArray) (w : World) (h : Capt D nc B b1 b2 v l s w) (hr : Rising l) (k : Nat) (hk : k < l.length) (hl : l.length ≤ 1000) :
    Calls Try.prog 98 #[.int .i64 k, .pointer (some ⟨b1, 0, none⟩), .pointer (some ⟨b2, 0, none⟩)] w fun e w' => e = .returned (.bool (!decide (k < pos s l))) ∧ ∃ n, w' = w.drewN n := by
  obtain ⟨x, hx⟩ := get_some hk
  have c0 := h.dir.cell
  have c1 := cell_of_one h.h1
  have c2 := cell_of_one h.h2
  have P := Lib.hid (pos_lt s l hr k x hx)
  rcases h.dir.row.cases with ⟨rfl, rfl⟩ | ⟨gv, cap, cur, rfl, _⟩
  · simp at hk
  have c3 := h.dir.row.cell0 hx
  have p1 : (0 : Int) ≤ (k : Int) := by omega
  have p2 : (k : Int) < (l.length : Int) := by omega
  clear h hx hr
  go_enter Try.func98, Try.ntmps98
  go_wp2
  go_region
  go_wp2
  go_ret
  exact ⟨by rw [← P.out]; rfl, 1, rfl⟩

def RelS (w : World) (p n : Nat) (i j : Value) (wr : World) : Prop := ∃ (a b m : Nat), i = .int .i64 a ∧ j = .int .i64 b ∧ a ≤ p ∧ p ≤ b ∧ b ≤ n ∧ wr = w.drewN m

set_option maxHeartbeats 2000000 in
set_option maxRecDepth 100000 in
theorem search29 (D : Nat) (nc : NC) (B b1 b2 : Nat) (v : Value) (l : List En) (s : ByteArray) (w : World) (h : Capt D nc B b1 b2 v l s w) (hr : Rising l) (hl : l.length ≤ 1000) :
    Calls Try.prog 97 #[.int .i64 l.length, .func (.func 98) #[] #[.pointer (some ⟨b1, 0, none⟩), .pointer (some ⟨b2, 0, none⟩)]] w fun e w' => e = .returned (.int .i64 (pos s l)) ∧ ∃ n, w' = w.drewN n := by
  have C := Lib.hid (fun n k hk => clos30 D nc B b1 b2 v l s (w.drewN n) (h.drewN n) hr k hk hl)
  have hp := pos_le s l
  generalize pos s l = p at C hp
  generalize l.length = n at C hp hl
  clear h hr
  go_enter Try.func97, Try.ntmps97
  go_wp2
  go_loopw [5, 6] (RelS w p n) (fun i j _ => (intOf j).toNat - (intOf i).toNat)
  case atStart => exact ⟨0, n, 0, rfl, rfl, Nat.zero_le _, hp, Nat.le_refl _, rfl⟩
  case round =>
    obtain ⟨a, b, m, rfl, rfl, ha, hb, hbn, rfl⟩ := hrel
    by_cases hab : a < b
    · go_wp2_with fail
      have e : ((a : Int) + (b : Int)) / 2 = (((a + b) / 2 : Nat) : Int) := by omega
      rw [e]
      have hc1 : a ≤ (a + b) / 2 := by omega
      have hc2 : (a + b) / 2 < b := by omega
      clear e
      generalize (a + b) / 2 = c at hc1 hc2
      refine (C.out m c (by omega)).mono ?_
      rintro e w1 ⟨rfl, n', rfl⟩
      cases hcp : decide (c < p)
      · have hcp' := of_decide_eq_false hcp
        go_wp2
        go_roundw
        case rel => exact ⟨a, c, m + n', rfl, rfl, ha, by omega, by omega, by simp [World.drewN, Nat.add_assoc]⟩
        case measure => simp [intOf]; omega
      · have hcp' := of_decide_eq_true hcp
        go_wp2
        go_roundw
        case rel => exact ⟨c + 1, b, m + n', by go_num, rfl, by omega, hb, hbn, by simp [World.drewN, Nat.add_assoc]⟩
        case measure => simp [intOf]; omega
    · obtain rfl : a = p := by omega
      obtain rfl : b = a := by omega
      go_wp2
      go_ret
      exact ⟨rfl, m, rfl⟩

theorem below_drewN {B : Nat} {a w : World} (h : Below B a w) (n : Nat) : Below B a (w.drewN n) := ⟨h.os, h.tape, h.output, h.size, h.block⟩
theorem capt_new {D B : Nat} {nc : NC} {v : Value} {l : List En} {s : ByteArray} {w : World} (h : DirAt D nc B v l w) :
    Capt D nc B w.heap.size (w.heap.size + 1) v l s ((w.alloc (.cells #[.pointer (some ⟨D, 5, none⟩)] 137)).alloc (.cells #[.string s] 9)) ∧ Below w.heap.size w ((w.alloc (.cells #[.pointer (some ⟨D, 5, none⟩)] 137)).alloc (.cells #[.string s] 9)) := by
  have hb : Below w.heap.size w ((w.alloc (.cells #[.pointer (some ⟨D, 5, none⟩)] 137)).alloc (.cells #[.string s] 9)) := ((Below.refl _ w).alloc (Nat.le_refl _) _).alloc (by simp) _
  exact ⟨⟨h.below hb, heap_alloc2_old _ _ _, heap_alloc2_new _ _ _⟩, hb⟩

set_option maxHeartbeats 2000000 in
set_option maxRecDepth 100000 in
theorem place22 (D : Nat) (nc : NC) (B : Nat) (v : Value) (l : List En) (s : ByteArray) (w : World) (h : DirAt D nc B v l w) (hr : Rising l) (hl : l.length ≤ 1000) :
    Calls Try.prog 88 #[.pointer (some ⟨D, 5, none⟩), .string s] w fun e w' => e = .returned (.tuple #[.int .i64 (pos s l), .bool (hasN s l)]) ∧ Below w.heap.size w w' := by
  obtain ⟨hcap, hb0⟩ := capt_new (s := s) h
  have C := Lib.hid (search29 D nc B w.heap.size (w.heap.size + 1) v l s _ hcap hr hl)
  have HB0 := Lib.hid hb0
  have c0 := hcap.dir.cell
  have c1 := cell_of_one hcap.h1
  have c2 := cell_of_one hcap.h2
  have HCAP := Lib.hid hcap
  have hp := pos_le s l
  have key : ∀ w1 n', w1 = ((w.alloc (.cells #[.pointer (some ⟨D, 5, none⟩)] 137)).alloc (.cells #[.string s] 9)).drewN n' → Capt D nc B w.heap.size (w.heap.size + 1) v l s w1 ∧ Below w.heap.size w w1 := by
    rintro w1 n' rfl
    exact ⟨HCAP.out.drewN n', below_drewN HB0.out n'⟩
  have KEY := Lib.hid key
  have HN : Hid (hasN s l = match l[pos s l]? with | some x => x.1.toList == s.toList | none => false) := rfl
  generalize hasN s l = r at HN ⊢
  generalize pos s l = p at C hp HN ⊢
  obtain ⟨a, c, rfl⟩ := slice_shape h.row
  clear hcap hb0 hr h key
  go_enter Try.func88, Try.ntmps88
  go_wp2_with fail
  refine C.out.mono ?_
  rintro e w1 ⟨rfl, n', hw1⟩
  obtain ⟨K1, K2⟩ := KEY.out w1 n' hw1
  clear hw1 c0 c1 c2
  have c0 := K1.dir.cell
  have c1 := cell_of_one K1.h1
  have c2 := cell_of_one K1.h2
  have HK2 := Lib.hid K2
  by_cases hlt : p < l.length
  · obtain ⟨x, hx⟩ := get_some hlt
    have HR : Hid (r = (x.1.toList == s.toList)) := by show _ = _; rw [HN.out, hx]
    rcases K1.dir.row.cases with ⟨_, rfl⟩ | ⟨gv, cap, cur, e2, _⟩
    · simp at hlt
    cases e2
    have c3 := K1.dir.row.cell0 hx
    have p1 : (0 : Int) ≤ (p : Int) := by omega
    have p2 : (p : Int) < (l.length : Int) := by omega
    clear K1 K2 hx HN
    go_wp2
    go_region
    go_wp2
    go_ret2
    rw [HR.out]
    exact ⟨rfl, HK2.out.drew⟩
  · have HR : Hid (r = false) := by show _ = _; rw [HN.out, List.getElem?_eq_none (by omega)]
    obtain rfl : p = l.length := by omega
    have p3 : ¬ ((l.length : Int) < (l.length : Int)) := by omega
    clear K1 K2 HN
    go_wp2
    go_region
    go_wp2
    go_ret2
    rw [HR.out]
    exact ⟨rfl, HK2.out.drew⟩
end Go.Proofs.Ytgdjoojghkdcbaa
