/- Contract of how eighths' digits are reckoned. -/
import Derived.Test.YtohjpclpeiidfaaDoorK
import Derived.Lib.AppendIntMem
import Derived.Lib.ItoaMem
import Derived.Lib.LaidTab
namespace Go.Proofs.YtohjpclpeiidfaaDoor
open Go.RowKit Go.PlainAid
set_option linter.unusedSimpArgs false
set_option linter.unusedVariables false

def Tab (w : World) : Prop := Lib.TabIs Tryd.prog w "internal/strconv.uint64pow10" .u64 Lib.pow10Tab
theorem tab_global : Tryd.prog.globalNamed "internal/strconv.uint64pow10" = some 2 := by kernel_rfl
theorem Tab.below {w w' : World} (h : Tab w) (hb : Below w.heap.size w w') : Tab w' := by
  unfold Tab Lib.TabIs World.var? at h ⊢
  rw [tab_global] at h ⊢
  simp only [Option.bind_some] at h ⊢
  have hlt : 2 < w.heap.size := by
    rcases Nat.lt_or_ge 2 w.heap.size with h' | h'
    · exact h'
    · rw [Array.getElem?_eq_none h'] at h; cases h
  rw [hb.block 2 hlt]
  exact h
namespace Fl
structure Env (w : World) : Prop where
  tab : Tab w
  opt : w.cell? ⟨1, 0, none⟩ = some (.bool true)
  h3 : w.cell? ⟨3, 702, none⟩ = some (.int .u64 18014398509481984000)
  l3 : w.cell? ⟨3, 703, none⟩ = some (.int .u64 0)
  h4 : w.cell? ⟨3, 704, none⟩ = some (.int .u64 11258999068426240000)
  l4 : w.cell? ⟨3, 705, none⟩ = some (.int .u64 0)
theorem Env.below {w w' : World} (h : Env w) (hb : Below w.heap.size w w') : Env w' :=
  ⟨h.tab.below hb, cell_kept h.opt hb, cell_kept h.h3 hb, cell_kept h.l3 hb, cell_kept h.h4 hb, cell_kept h.l4 hb⟩
theorem Env.pow {w : World} (h : Env w) (N : Nat) (hN : N ≤ 18) : w.cell? ⟨2, N, none⟩ = some (.int .u64 (10 ^ N : Nat)) := by
  have := Lib.TabIs.cell h.tab tab_global N (by rw [Lib.pow10Tab_length]; omega)
  rw [Lib.pow10Tab_at N (by omega)] at this
  exact this
/-- A scaler, as it stands. -/
def Scal (D hi : Nat) (k : Int) (w : World) : Prop := w.heap[D]? = some (.cells #[.int .u64 hi, .int .u64 0, .int .i64 k] 79 (0, 0))

theorem three_set {w : World} {D : Nat} {t : TypeId} {a b c x y z : Value} (hD : w.heap[D]? = some (.cells #[a, b, c] t (0, 0))) :
    (((w.setCell ⟨D, 0, none⟩ x).setCell ⟨D, 1, none⟩ y).setCell ⟨D, 2, none⟩ z).heap[D]? = some (.cells #[x, y, z] t (0, 0)) := by
  rw [setCell_eq_setRow w D 0 _ t (0, 0) x hD]
  have h1 := setRow_heap w D _ (#[a, b, c].setIfInBounds 0 x) t (0, 0) hD
  rw [setCell_eq_setRow _ D 1 _ t (0, 0) y h1]
  have h2 := setRow_heap _ D _ ((#[a, b, c].setIfInBounds 0 x).setIfInBounds 1 y) t (0, 0) h1
  rw [setCell_eq_setRow _ D 2 _ t (0, 0) z h2]
  exact setRow_heap _ D _ _ t (0, 0) h2
theorem three_bel {w : World} {D : Nat} {x y z : Value} : Below D w (((w.setCell ⟨D, 0, none⟩ x).setCell ⟨D, 1, none⟩ y).setCell ⟨D, 2, none⟩ z) :=
  (((Below.refl D w).setCell (p := ⟨D, 0, none⟩) (Nat.le_refl D) x).setCell (p := ⟨D, 1, none⟩) (Nat.le_refl D) y).setCell (p := ⟨D, 2, none⟩) (Nat.le_refl D) z
set_option maxHeartbeats 4000000 in
set_option maxRecDepth 100000 in
theorem prescale54_3 (D : Nat) (e : Int) (w : World) (he : Env w) (h1 : -1000 ≤ e) (h2 : e ≤ 1000) (hD : w.heap[D]? = some (.cells #[.int .u64 0, .int .u64 0, .int .i64 0] 79 (0, 0))) (hD3 : D ≠ 3) :
    Calls Tryd.prog 54 #[.pointer (some ⟨D, 0, none⟩), .int .i64 e, .int .i64 3, .int .i64 9] w fun e' w' => e' = .returned (.tuple #[]) ∧ Scal D 18014398509481984000 (-(e + 9 + 3)) w' ∧ Below D w w' := by
  have c1 := he.h3
  have c2 := he.l3
  have d0 : w.cell? ⟨D, 0, none⟩ = some (.int .u64 0) := by simp [World.cell?, hD]
  have d1 : w.cell? ⟨D, 1, none⟩ = some (.int .u64 0) := by simp [World.cell?, hD]
  have d2 : w.cell? ⟨D, 2, none⟩ = some (.int .i64 0) := by simp [World.cell?, hD]
  have z0 : w.frozen? ⟨D, 0, none⟩ = false := by simp [World.frozen?, hD]
  have z1 : w.frozen? ⟨D, 1, none⟩ = false := by simp [World.frozen?, hD]
  have z2 : w.frozen? ⟨D, 2, none⟩ = false := by simp [World.frozen?, hD]
  have HD := Lib.hid hD
  clear he hD
  go_enter Tryd.func54, Tryd.ntmps54
  go_wp2
  go_end0
  exact ⟨rfl, three_set HD.out, three_bel⟩
set_option maxHeartbeats 4000000 in
set_option maxRecDepth 100000 in
theorem prescale54_4 (D : Nat) (e : Int) (w : World) (he : Env w) (h1 : -1000 ≤ e) (h2 : e ≤ 1000) (hD : w.heap[D]? = some (.cells #[.int .u64 0, .int .u64 0, .int .i64 0] 79 (0, 0))) (hD3 : D ≠ 3) :
    Calls Tryd.prog 54 #[.pointer (some ⟨D, 0, none⟩), .int .i64 e, .int .i64 4, .int .i64 13] w fun e' w' => e' = .returned (.tuple #[]) ∧ Scal D 11258999068426240000 (-(e + 13 + 3)) w' ∧ Below D w w' := by
  have c1 := he.h4
  have c2 := he.l4
  have d0 : w.cell? ⟨D, 0, none⟩ = some (.int .u64 0) := by simp [World.cell?, hD]
  have d1 : w.cell? ⟨D, 1, none⟩ = some (.int .u64 0) := by simp [World.cell?, hD]
  have d2 : w.cell? ⟨D, 2, none⟩ = some (.int .i64 0) := by simp [World.cell?, hD]
  have z0 : w.frozen? ⟨D, 0, none⟩ = false := by simp [World.frozen?, hD]
  have z1 : w.frozen? ⟨D, 1, none⟩ = false := by simp [World.frozen?, hD]
  have z2 : w.frozen? ⟨D, 2, none⟩ = false := by simp [World.frozen?, hD]
  have HD := Lib.hid hD
  clear he hD
  go_enter Tryd.func54, Tryd.ntmps54
  go_wp2
  go_end0
  exact ⟨rfl, three_set HD.out, three_bel⟩

def Rel44 (V T : Nat) (w : World) (p u : Value) (wx : World) : Prop := Hid (Below w.heap.size w wx) ∧ ((p = .int .i64 3 ∧ u = .int .u64 V) ∨ (p = .int .i64 4 ∧ u = .int .u64 T))

set_option maxHeartbeats 8000000 in
set_option maxRecDepth 100000 in
theorem fixed44_3 (X U k N n : Nat) (e q : Int) (w : World) (he : Env w) (hX : X < 18446744073709551616) (hk : k < 64) (hn : n ≤ 1073741824)
    (hN : 4 ≤ N) (hN' : N ≤ 18) (hq : (N : Int) - 1 - q = 3) (hq1 : l10 (e + 63) = q) (hq2 : -100 ≤ q) (hq3 : q ≤ 100) (he1 : e = -12 - k)
    (hU : U = 500 * n) (hlt : 500 * n + 2 < 4 * 10 ^ N)
    (h1 : X * 18014398509481984000 / 18446744073709551616 = U * 2 ^ k) (h2 : X * 18014398509481984000 % 18446744073709551616 = 0) (h3 : U * 2 ^ k < 18446744073709551616) :
    Calls Tryd.prog 44 #[.int .u64 X, .int .i64 e, .int .i64 N, .int .i64 3, .int .u8 102] w fun e w' => e = .returned (.tuple #[.int .u64 (125 * n : Nat), .int .i64 (-3)]) ∧ Below w.heap.size w w' := by
  have CL : Hid (∀ w, Calls Tryd.prog 43 #[.int .i64 (e + 63)] w fun e' w' => e' = .returned (.int .i64 q) ∧ w = w') := Lib.hid fun w => by rw [← hq1]; exact log43 _ (by omega) (by omega) w
  have CP := Lib.hid fun w => log55_3 w
  have hw3 : 3 < w.heap.size := World.block_lt_of_cell? _ _ he.h3
  have HE := Lib.hid he
  have hb1 : -1000 ≤ e := by omega
  have hb2 : e ≤ 0 := by omega
  have f3 : -(e + 9 + 3) = k := by omega
  have hpow : 10 ^ N ≤ 1000000000000000000 := by
    have : 10 ^ N ≤ 10 ^ 18 := Nat.pow_le_pow_right (by decide) hN'
    exact this
  have hpow0 : 10000 ≤ 10 ^ N := by
    have : 10 ^ 4 ≤ 10 ^ N := Nat.pow_le_pow_right (by decide) hN
    exact this
  have PS := Lib.hid (prescale54_3 w.heap.size e (w.alloc (.cells #[.int .u64 0, .int .u64 0, .int .i64 0] 79 (0, 0))) (he.below (alloc_bel w _)) hb1 (by omega) (heap_alloc_new _ _) (by omega))
  rw [f3] at PS
  have HAB := Lib.hid (alloc_bel w (.cells #[.int .u64 0, .int .u64 0, .int .i64 0] 79 (0, 0)))
  have CU := Lib.hid fun w1 hD => uscale56 X 18014398509481984000 U k w.heap.size w1 hX (by decide) hk hD h1 h2 h3
  have CM := Lib.hid fun w => unmin63 (10 ^ N) hpow (by omega) w
  have CR := Lib.hid fun w => round60 n hn w
  have CD := Lib.hid fun w => div64 (500 * n) (by omega) (by omega) w
  have HP := Lib.hid fun w (h : Env w) => h.pow N hN'
  have hcmp : ¬ (4 * (10 ^ N : Nat) - 2 : Int) ≤ ((500 * n : Nat) : Int) := by omega
  generalize 10 ^ N = PW at *
  subst hU
  clear hX h1 h2 h3 hlt he he1 hq1 hk f3
  generalize 10 * (500 * n) = T at *
  generalize 500 * n = V at *
  generalize 125 * n = R at *
  go_enter Tryd.func44, Tryd.ntmps44
  go_wp2_with (first
    | (go_at_call 43; (with_reducible refine (CL.out _).mono ?_); rintro e w' ⟨rfl, rfl⟩)
    | (go_at_call 55; (with_reducible refine (CP.out _).mono ?_); rintro e w' ⟨rfl, rfl⟩))
  refine PS.out.mono ?_
  rintro e1 w1 ⟨rfl, hS, hb⟩
  have HB1 := Lib.hid (HAB.out.trans hb)
  have CU1 := Lib.hid (CU.out w1 hS)
  clear hS hb
  go_wp2_with fail
  refine CU1.out.mono ?_
  rintro e1 w2 ⟨rfl, hb⟩
  have HB2 := Lib.hid (HB1.out.trans (hb.mono HB1.out.size))
  have c3 := HP.out w2 (HE.out.below HB2.out)
  clear hb CU CU1 PS
  go_wp2_with (first
    | (go_at_call 63; (with_reducible refine (CM.out _).mono ?_); rintro e w' ⟨rfl, rfl⟩)
    | (go_at_call 60; (with_reducible refine (CR.out _).mono ?_); rintro e w' ⟨rfl, rfl⟩))
  clear CM CL CP HP HE
  go_loopw [11, 13] (Rel44 V T w) (fun p _ _ => (intOf p).toNat)
  case atStart => exact ⟨HB2, .inl ⟨rfl, rfl⟩⟩
  case round =>
    obtain ⟨HB, hpu⟩ := hrel
    rename World => wx
    rcases hpu with ⟨rfl, rfl⟩ | ⟨rfl, rfl⟩
    · go_wp2_with (go_at_call 60; (with_reducible refine (CR.out _).mono ?_); rintro e w' ⟨rfl, rfl⟩)
      go_ret2
      exact ⟨rfl, HB.out⟩
    · go_wp2_with fail
      refine (CD.out _).mono ?_
      rintro e1 w3 ⟨rfl, hb⟩
      have HB3 := Lib.hid (HB.out.trans (hb.mono HB.out.size))
      clear hb
      go_wp2_with fail
      go_roundw
      case rel => exact ⟨HB3, .inl ⟨rfl, rfl⟩⟩
      case measure => simp [intOf]

set_option maxHeartbeats 8000000 in
set_option maxRecDepth 100000 in
theorem fixed44_4a (X U k N n : Nat) (e q : Int) (w : World) (he : Env w) (hX : X < 18446744073709551616) (hk : k < 64) (hn : n ≤ 1073741824)
    (hN : 4 ≤ N) (hN' : N ≤ 18) (hq : (N : Int) - 1 - q = 4) (hq1 : l10 (e + 63) = q) (hq2 : -100 ≤ q) (hq3 : q ≤ 100) (he1 : e = -16 - k)
    (hU : U = 10 * (500 * n)) (hlt : ¬ 4 * 10 ^ N ≤ 10 * (500 * n) + 2)
    (h1 : X * 11258999068426240000 / 18446744073709551616 = U * 2 ^ k) (h2 : X * 11258999068426240000 % 18446744073709551616 = 0) (h3 : U * 2 ^ k < 18446744073709551616) :
    Calls Tryd.prog 44 #[.int .u64 X, .int .i64 e, .int .i64 N, .int .i64 3, .int .u8 102] w fun e w' => e = .returned (.tuple #[.int .u64 (125 * n : Nat), .int .i64 (-3)]) ∧ Below w.heap.size w w' := by
  have CL : Hid (∀ w, Calls Tryd.prog 43 #[.int .i64 (e + 63)] w fun e' w' => e' = .returned (.int .i64 q) ∧ w = w') := Lib.hid fun w => by rw [← hq1]; exact log43 _ (by omega) (by omega) w
  have CP := Lib.hid fun w => log55_4 w
  have hw3 : 3 < w.heap.size := World.block_lt_of_cell? _ _ he.h3
  have HE := Lib.hid he
  have hb1 : -1000 ≤ e := by omega
  have hb2 : e ≤ 0 := by omega
  have f3 : -(e + 13 + 3) = k := by omega
  have hpow : 10 ^ N ≤ 1000000000000000000 := by
    have : 10 ^ N ≤ 10 ^ 18 := Nat.pow_le_pow_right (by decide) hN'
    exact this
  have hpow0 : 10000 ≤ 10 ^ N := by
    have : 10 ^ 4 ≤ 10 ^ N := Nat.pow_le_pow_right (by decide) hN
    exact this
  have PS := Lib.hid (prescale54_4 w.heap.size e (w.alloc (.cells #[.int .u64 0, .int .u64 0, .int .i64 0] 79 (0, 0))) (he.below (alloc_bel w _)) hb1 (by omega) (heap_alloc_new _ _) (by omega))
  rw [f3] at PS
  have HAB := Lib.hid (alloc_bel w (.cells #[.int .u64 0, .int .u64 0, .int .i64 0] 79 (0, 0)))
  have CU := Lib.hid fun w1 hD => uscale56 X 11258999068426240000 U k w.heap.size w1 hX (by decide) hk hD h1 h2 h3
  have CM := Lib.hid fun w => unmin63 (10 ^ N) hpow (by omega) w
  have CR := Lib.hid fun w => round60 n hn w
  have CD := Lib.hid fun w => div64 (500 * n) (by omega) (by omega) w
  have HP := Lib.hid fun w (h : Env w) => h.pow N hN'
  have hcmp : ¬ (4 * (10 ^ N : Nat) - 2 : Int) ≤ ((10 * (500 * n) : Nat) : Int) := by omega
  generalize 10 ^ N = PW at *
  subst hU
  clear hX h1 h2 h3 hlt he he1 hq1 hk f3
  generalize 10 * (500 * n) = T at *
  generalize 500 * n = V at *
  generalize 125 * n = R at *
  go_enter Tryd.func44, Tryd.ntmps44
  go_wp2_with (first
    | (go_at_call 43; (with_reducible refine (CL.out _).mono ?_); rintro e w' ⟨rfl, rfl⟩)
    | (go_at_call 55; (with_reducible refine (CP.out _).mono ?_); rintro e w' ⟨rfl, rfl⟩))
  refine PS.out.mono ?_
  rintro e1 w1 ⟨rfl, hS, hb⟩
  have HB1 := Lib.hid (HAB.out.trans hb)
  have CU1 := Lib.hid (CU.out w1 hS)
  clear hS hb
  go_wp2_with fail
  refine CU1.out.mono ?_
  rintro e1 w2 ⟨rfl, hb⟩
  have HB2 := Lib.hid (HB1.out.trans (hb.mono HB1.out.size))
  have c3 := HP.out w2 (HE.out.below HB2.out)
  clear hb CU CU1 PS
  go_wp2_with (first
    | (go_at_call 63; (with_reducible refine (CM.out _).mono ?_); rintro e w' ⟨rfl, rfl⟩)
    | (go_at_call 60; (with_reducible refine (CR.out _).mono ?_); rintro e w' ⟨rfl, rfl⟩))
  clear CM CL CP HP HE
  go_loopw [11, 13] (Rel44 V T w) (fun p _ _ => (intOf p).toNat)
  case atStart => exact ⟨HB2, .inr ⟨rfl, rfl⟩⟩
  case round =>
    obtain ⟨HB, hpu⟩ := hrel
    rename World => wx
    rcases hpu with ⟨rfl, rfl⟩ | ⟨rfl, rfl⟩
    · go_wp2_with (go_at_call 60; (with_reducible refine (CR.out _).mono ?_); rintro e w' ⟨rfl, rfl⟩)
      go_ret2
      exact ⟨rfl, HB.out⟩
    · go_wp2_with fail
      refine (CD.out _).mono ?_
      rintro e1 w3 ⟨rfl, hb⟩
      have HB3 := Lib.hid (HB.out.trans (hb.mono HB.out.size))
      clear hb
      go_wp2_with fail
      go_roundw
      case rel => exact ⟨HB3, .inl ⟨rfl, rfl⟩⟩
      case measure => simp [intOf]

set_option maxHeartbeats 8000000 in
set_option maxRecDepth 100000 in
theorem fixed44_4b (X U k N n : Nat) (e q : Int) (w : World) (he : Env w) (hX : X < 18446744073709551616) (hk : k < 64) (hn : n ≤ 1073741824)
    (hN : 4 ≤ N) (hN' : N ≤ 18) (hq : (N : Int) - 1 - q = 4) (hq1 : l10 (e + 63) = q) (hq2 : -100 ≤ q) (hq3 : q ≤ 100) (he1 : e = -16 - k)
    (hU : U = 10 * (500 * n)) (hlt : 4 * 10 ^ N ≤ 10 * (500 * n) + 2)
    (h1 : X * 11258999068426240000 / 18446744073709551616 = U * 2 ^ k) (h2 : X * 11258999068426240000 % 18446744073709551616 = 0) (h3 : U * 2 ^ k < 18446744073709551616) :
    Calls Tryd.prog 44 #[.int .u64 X, .int .i64 e, .int .i64 N, .int .i64 3, .int .u8 102] w fun e w' => e = .returned (.tuple #[.int .u64 (125 * n : Nat), .int .i64 (-3)]) ∧ Below w.heap.size w w' := by
  have CL : Hid (∀ w, Calls Tryd.prog 43 #[.int .i64 (e + 63)] w fun e' w' => e' = .returned (.int .i64 q) ∧ w = w') := Lib.hid fun w => by rw [← hq1]; exact log43 _ (by omega) (by omega) w
  have CP := Lib.hid fun w => log55_4 w
  have hw3 : 3 < w.heap.size := World.block_lt_of_cell? _ _ he.h3
  have HE := Lib.hid he
  have hb1 : -1000 ≤ e := by omega
  have hb2 : e ≤ 0 := by omega
  have f3 : -(e + 13 + 3) = k := by omega
  have hpow : 10 ^ N ≤ 1000000000000000000 := by
    have : 10 ^ N ≤ 10 ^ 18 := Nat.pow_le_pow_right (by decide) hN'
    exact this
  have hpow0 : 10000 ≤ 10 ^ N := by
    have : 10 ^ 4 ≤ 10 ^ N := Nat.pow_le_pow_right (by decide) hN
    exact this
  have PS := Lib.hid (prescale54_4 w.heap.size e (w.alloc (.cells #[.int .u64 0, .int .u64 0, .int .i64 0] 79 (0, 0))) (he.below (alloc_bel w _)) hb1 (by omega) (heap_alloc_new _ _) (by omega))
  rw [f3] at PS
  have HAB := Lib.hid (alloc_bel w (.cells #[.int .u64 0, .int .u64 0, .int .i64 0] 79 (0, 0)))
  have CU := Lib.hid fun w1 hD => uscale56 X 11258999068426240000 U k w.heap.size w1 hX (by decide) hk hD h1 h2 h3
  have CM := Lib.hid fun w => unmin63 (10 ^ N) hpow (by omega) w
  have CR := Lib.hid fun w => round60 n hn w
  have CD := Lib.hid fun w => div64 (500 * n) (by omega) (by omega) w
  have HP := Lib.hid fun w (h : Env w) => h.pow N hN'
  have hcmp : (4 * (10 ^ N : Nat) - 2 : Int) ≤ ((10 * (500 * n) : Nat) : Int) := by omega
  generalize 10 ^ N = PW at *
  subst hU
  clear hX h1 h2 h3 hlt he he1 hq1 hk f3
  generalize 10 * (500 * n) = T at *
  generalize 500 * n = V at *
  generalize 125 * n = R at *
  go_enter Tryd.func44, Tryd.ntmps44
  go_wp2_with (first
    | (go_at_call 43; (with_reducible refine (CL.out _).mono ?_); rintro e w' ⟨rfl, rfl⟩)
    | (go_at_call 55; (with_reducible refine (CP.out _).mono ?_); rintro e w' ⟨rfl, rfl⟩))
  refine PS.out.mono ?_
  rintro e1 w1 ⟨rfl, hS, hb⟩
  have HB1 := Lib.hid (HAB.out.trans hb)
  have CU1 := Lib.hid (CU.out w1 hS)
  clear hS hb
  go_wp2_with fail
  refine CU1.out.mono ?_
  rintro e1 w2 ⟨rfl, hb⟩
  have HB2 := Lib.hid (HB1.out.trans (hb.mono HB1.out.size))
  have c3 := HP.out w2 (HE.out.below HB2.out)
  clear hb CU CU1 PS
  go_wp2_with (first
    | (go_at_call 63; (with_reducible refine (CM.out _).mono ?_); rintro e w' ⟨rfl, rfl⟩)
    | (go_at_call 60; (with_reducible refine (CR.out _).mono ?_); rintro e w' ⟨rfl, rfl⟩))
  refine (CD.out _).mono ?_
  rintro e1 w3 ⟨rfl, hb⟩
  have HB3 := Lib.hid (HB2.out.trans (hb.mono HB2.out.size))
  clear hb
  go_wp2_with fail
  clear CM CL CP HP HE
  go_loopw [11, 13] (Rel44 V T w) (fun p _ _ => (intOf p).toNat)
  case atStart => exact ⟨HB3, .inl ⟨rfl, rfl⟩⟩
  case round =>
    obtain ⟨HB, hpu⟩ := hrel
    rename World => wx
    rcases hpu with ⟨rfl, rfl⟩ | ⟨rfl, rfl⟩
    · go_wp2_with (go_at_call 60; (with_reducible refine (CR.out _).mono ?_); rintro e w' ⟨rfl, rfl⟩)
      go_ret2
      exact ⟨rfl, HB.out⟩
    · go_wp2_with fail
      refine (CD.out _).mono ?_
      rintro e1 w3 ⟨rfl, hb⟩
      have HB3 := Lib.hid (HB.out.trans (hb.mono HB.out.size))
      clear hb
      go_wp2_with fail
      go_roundw
      case rel => exact ⟨HB3, .inl ⟨rfl, rfl⟩⟩
      case measure => simp [intOf]
end Fl
end Go.Proofs.YtohjpclpeiidfaaDoor
