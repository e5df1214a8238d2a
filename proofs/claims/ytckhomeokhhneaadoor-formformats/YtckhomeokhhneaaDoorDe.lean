/- The document's put, of numbers. Conditions: lengths below a bound. -/
import Derived.Test.YtckhomeokhhneaaDoorDd
namespace Go.Proofs.YtckhomeokhhneaaDoor
open Go.RowKit Go.PlainAid
set_option linter.unusedSimpArgs false
set_option linter.unusedVariables false

set_option maxHeartbeats 1000000 in
set_option maxRecDepth 100000 in
theorem base29_10 (u : Nat) (hu : u < 18446744073709551616) (w : World) : Calls Tryd.prog 29 #[.int .u64 u, .int .u64 10, .bool false] w fun e w' => e = .returned (.string (mk (Lib.decDigits u))) ∧ Below w.heap.size w w' := by
  have C := Lib.hid fun W => digits38 u hu W
  go_enter Tryd.func29, Tryd.ntmps29
  go_wp2_with (go_at_call 38; refine (C.out _).mono ?_; rintro e w' ⟨rfl, hb⟩)
  go_ret
  exact ⟨rfl, hb⟩
/-- The document's place, as a value. -/
def dC (a b : Bool) (wd : Nat) (q : Int) (ch : Nat) : Array Value := #[.bool a, .bool b, .int .i64 wd, .int .i64 q, .int .u8 ch]
def Bd (g : Nat) (a b : Bool) (wd : Nat) (q : Int) (ch : Nat) (w : World) : Prop := w.heap[g]? = some (.cells (dC a b wd q ch) 45 (0, 0))
def Five (g : Nat) (a b : Bool) (wd : Nat) (q : Int) (ch : Nat) (w : World) : Prop := w.cell? ⟨g, 0, none⟩ = some (.bool a) ∧ w.cell? ⟨g, 1, none⟩ = some (.bool b) ∧ w.cell? ⟨g, 2, none⟩ = some (.int .i64 wd) ∧ w.cell? ⟨g, 3, none⟩ = some (.int .i64 q) ∧ w.cell? ⟨g, 4, none⟩ = some (.int .u8 ch)
theorem Bd.five {g : Nat} {a b : Bool} {wd : Nat} {q : Int} {ch : Nat} {w : World} (h : Bd g a b wd q ch w) : Five g a b wd q ch w := by
  refine ⟨?_, ?_, ?_, ?_, ?_⟩ <;> (rw [cell_of h]; rfl)
theorem Bd.below {g : Nat} {a b : Bool} {wd : Nat} {q : Int} {ch : Nat} {w w' : World} (h : Bd g a b wd q ch w) (hb : Below w.heap.size w w') : Bd g a b wd q ch w' := (hb.block g (lt_of_block h)).trans h
theorem dgI_neg (pr : Option Nat) : decide (dgI pr < 0) = pr.isNone := by
  cases pr with
  | none => rfl
  | some v => unfold dgI; simp
theorem dgI_rep (pr : Option Nat) (n : Nat) : (dgI pr - (n : Int)).toNat = pr.getD 0 - n := by
  cases pr with
  | none => unfold dgI; simp
  | some v => unfold dgI; simp
theorem dgI_bd (pr : Option Nat) (h : ∀ q, pr = some q → q < 1000) : -1 ≤ dgI pr ∧ dgI pr < 1000 := by
  cases pr with
  | none => show -1 ≤ (-1 : Int) ∧ (-1 : Int) < 1000; omega
  | some v => have := h v rfl; unfold dgI; simp only; omega

set_option maxHeartbeats 4000000 in
set_option maxRecDepth 100000 in
theorem put_dm (a b : Bool) (wd : Nat) (q : Int) (s : ByteArray) (w : World) (v : Nat) (hd : dnum (ls s) = some (true, v)) (hv : v ≤ 9223372036854775808) (hv0 : true = true → 0 < v) (hs : s.size ≤ 1000000) (hw : wd < 1000) (hq : -1 ≤ q ∧ q < 1000) :
    Calls Tryd.prog 20 #[.agg #[.bool a, .bool b, .int .i64 wd, .int .i64 q, .int .u8 100], .string s] w fun e w' => e = .returned (.tuple #[.string (mk (padX a b (decide (q < 0)) true wd [45] (rep 48 (q - ((Lib.decDigits (v)) : List UInt8).length).toNat ++ (Lib.decDigits (v))))), .bool true]) ∧ Below w.heap.size w w' := by
  obtain ⟨X, HX⟩ : ∃ X, Hid (padX a b (decide (q < 0)) true wd [45] (rep 48 (q - ((Lib.decDigits (v)) : List UInt8).length).toNat ++ (Lib.decDigits (v))) = X) := ⟨_, Lib.hid rfl⟩
  rw [HX.out]
  have HB0 := Lib.hid ((Below.refl w.heap.size w).alloc (Nat.le_refl _) (.cells (dC a b wd q 100) 45))
  have HD0 : Hid (Bd w.heap.size a b wd q 100 (w.alloc (.cells (dC a b wd q 100) 45))) := Lib.hid (heap_alloc_new _ _)
  have CN := Lib.hid fun W => number28 s W hs
  rw [hd] at CN
  unfold nmD at CN
  simp only at CN
  obtain ⟨T, HT⟩ : ∃ T, Hid (mk (Lib.decDigits (v)) = T) := ⟨_, Lib.hid rfl⟩
  obtain ⟨u, Hu⟩ : ∃ u, Hid (v = u) := ⟨_, Lib.hid rfl⟩
  have hu : u < 18446744073709551616 := by have := Hu.out; omega
  have hTs : T.size ≤ 22 := by rw [← HT.out, mk_size, Hu.out]; have := dec_len u hu; omega
  have HTl : Hid (ls T = (Lib.decDigits (v))) := Lib.hid (by rw [← HT.out, ls_mk])
  have CB : Hid (∀ W, Calls Tryd.prog 29 #[.int .u64 u, .int .u64 10, .bool false] W fun e w' => e = .returned (.string T) ∧ Below W.heap.size W w') := Lib.hid fun W => by
    have h := base29_10 u hu W
    rw [← HT.out, Hu.out]
    exact h
  have hng : IntKind.u64.wrap (-(v : Int)) = (18446744073709551616 - (v : Int)) % 18446744073709551616 := by rw [IntKind.wrap_u64]; omega
  have hnu : True := trivial
  obtain ⟨R, HR⟩ : ∃ R, Hid (mk (rep 48 (q - T.size).toNat) = R) := ⟨_, Lib.hid rfl⟩
  have hRs : R.size ≤ 1000 := by rw [← HR.out, mk_size, rep_len]; omega
  have CF : Hid (∀ W, Calls Tryd.prog 30 #[.string ⟨#[48]⟩, .int .i64 (IntKind.i64.wrap (q - T.size))] W fun e w' => e = .returned (.string R) ∧ W = w') := Lib.hid fun W => by
    rw [show IntKind.i64.wrap (q - T.size) = q - T.size by rw [IntKind.wrap_i64]; omega, ← HR.out]
    exact fill30 48 (q - T.size) W (by omega)
  have hcat : ¬ 9223372036854775807 < R.size + T.size := by omega
  have HRT : Hid (ls (R ++ T) = rep 48 (q - ((Lib.decDigits (v)) : List UInt8).length).toNat ++ (Lib.decDigits (v))) := Lib.hid (by
    rw [app_ls2, ← HR.out, ls_mk, HTl.out, ← HTl.out, ls_len])
  have CP : Hid (∀ W, Calls Tryd.prog 27 #[.agg #[.bool a, .bool b, .int .i64 wd, .int .i64 q, .int .u8 100], .string ⟨#[45]⟩, .string (R ++ T), .bool true] W (GivesT W X)) := Lib.hid fun W => by
    rw [← HX.out, ← HRT.out]
    exact pad27 a b true wd q 100 ⟨#[45]⟩ (R ++ T) W (by decide) (by rw [ByteArray.size_append]; omega) hw
  clear hTs HT HTl HR HRT HX hd hs
  have huv := Hu.out
  clear Hu
  subst huv
  clear hng hnu hv0
  go_enter Tryd.func20, Tryd.ntmps20
  go_upto_region 10 with (go_at_call 28; refine (CN.out _).mono ?_; rintro e w1 ⟨rfl, b1⟩; have B1 := Lib.hid (HB0.out.trans (b1.mono HB0.out.size)); have D1 := Lib.hid (HD0.out.below b1); clear b1)
  obtain ⟨k0, k1, k2, k3, k4⟩ := D1.out.five
  clear CN HD0 HB0
  go_upto_region 23 with (go_at_call 29; refine (CB.out _).mono ?_; rintro e w2 ⟨rfl, b2⟩; have B2 := Lib.hid (B1.out.trans (b2.mono B1.out.size)); have D2 := Lib.hid (D1.out.below b2); clear b2)
  clear k0 k1 k2 k3 k4 CB D1
  have B2d := Lib.hid B2.out.drew
  have D2d : Hid (Bd w.heap.size a b wd q 100 w2.drew) := Lib.hid D2.out
  go_region_held3 (fun wz => wz.cell? ⟨w.heap.size, 0, none⟩ = some (.bool a) ∧ wz.cell? ⟨w.heap.size, 1, none⟩ = some (.bool b) ∧ wz.cell? ⟨w.heap.size, 2, none⟩ = some (.int .i64 wd) ∧ wz.cell? ⟨w.heap.size, 3, none⟩ = some (.int .i64 q) ∧ wz.cell? ⟨w.heap.size, 4, none⟩ = some (.int .u8 100)) (first | exact D2d.out.five | exact D3.out.five)
    (first
      | (go_at_call 30; refine (CF.out _).mono ?_; rintro e w' ⟨rfl, rfl⟩)
      | (go_at_call 27; refine (CP.out _).mono ?_; rintro e w3 ⟨rfl, b3⟩; have B3 := Lib.hid (B2d.out.trans (b3.mono B2d.out.size)); have D3 := Lib.hid (D2d.out.below b3); clear b3))
  go_wp2
  go_ret2
  exact ⟨rfl, B3.out⟩

set_option maxHeartbeats 4000000 in
set_option maxRecDepth 100000 in
theorem put_d (a b : Bool) (wd : Nat) (q : Int) (s : ByteArray) (w : World) (v : Nat) (hd : dnum (ls s) = some (false, v)) (hv : v ≤ 9223372036854775808) (hv0 : false = true → 0 < v) (hs : s.size ≤ 1000000) (hw : wd < 1000) (hq : -1 ≤ q ∧ q < 1000) :
    Calls Tryd.prog 20 #[.agg #[.bool a, .bool b, .int .i64 wd, .int .i64 q, .int .u8 100], .string s] w fun e w' => e = .returned (.tuple #[.string (mk (padX a b (decide (q < 0)) true wd [] (rep 48 (q - ((Lib.decDigits (v)) : List UInt8).length).toNat ++ (Lib.decDigits (v))))), .bool true]) ∧ Below w.heap.size w w' := by
  obtain ⟨X, HX⟩ : ∃ X, Hid (padX a b (decide (q < 0)) true wd [] (rep 48 (q - ((Lib.decDigits (v)) : List UInt8).length).toNat ++ (Lib.decDigits (v))) = X) := ⟨_, Lib.hid rfl⟩
  rw [HX.out]
  have HB0 := Lib.hid ((Below.refl w.heap.size w).alloc (Nat.le_refl _) (.cells (dC a b wd q 100) 45))
  have HD0 : Hid (Bd w.heap.size a b wd q 100 (w.alloc (.cells (dC a b wd q 100) 45))) := Lib.hid (heap_alloc_new _ _)
  have CN := Lib.hid fun W => number28 s W hs
  rw [hd] at CN
  unfold nmD at CN
  simp only at CN
  obtain ⟨T, HT⟩ : ∃ T, Hid (mk (Lib.decDigits (v)) = T) := ⟨_, Lib.hid rfl⟩
  obtain ⟨u, Hu⟩ : ∃ u, Hid (v = u) := ⟨_, Lib.hid rfl⟩
  have hu : u < 18446744073709551616 := by have := Hu.out; omega
  have hTs : T.size ≤ 22 := by rw [← HT.out, mk_size, Hu.out]; have := dec_len u hu; omega
  have HTl : Hid (ls T = (Lib.decDigits (v))) := Lib.hid (by rw [← HT.out, ls_mk])
  have CB : Hid (∀ W, Calls Tryd.prog 29 #[.int .u64 u, .int .u64 10, .bool false] W fun e w' => e = .returned (.string T) ∧ Below W.heap.size W w') := Lib.hid fun W => by
    have h := base29_10 u hu W
    rw [← HT.out, Hu.out]
    exact h
  have hng : IntKind.u64.wrap (-(v : Int)) = (18446744073709551616 - (v : Int)) % 18446744073709551616 := by rw [IntKind.wrap_u64]; omega
  have hnu : True := trivial
  obtain ⟨R, HR⟩ : ∃ R, Hid (mk (rep 48 (q - T.size).toNat) = R) := ⟨_, Lib.hid rfl⟩
  have hRs : R.size ≤ 1000 := by rw [← HR.out, mk_size, rep_len]; omega
  have CF : Hid (∀ W, Calls Tryd.prog 30 #[.string ⟨#[48]⟩, .int .i64 (IntKind.i64.wrap (q - T.size))] W fun e w' => e = .returned (.string R) ∧ W = w') := Lib.hid fun W => by
    rw [show IntKind.i64.wrap (q - T.size) = q - T.size by rw [IntKind.wrap_i64]; omega, ← HR.out]
    exact fill30 48 (q - T.size) W (by omega)
  have hcat : ¬ 9223372036854775807 < R.size + T.size := by omega
  have HRT : Hid (ls (R ++ T) = rep 48 (q - ((Lib.decDigits (v)) : List UInt8).length).toNat ++ (Lib.decDigits (v))) := Lib.hid (by
    rw [app_ls2, ← HR.out, ls_mk, HTl.out, ← HTl.out, ls_len])
  have CP : Hid (∀ W, Calls Tryd.prog 27 #[.agg #[.bool a, .bool b, .int .i64 wd, .int .i64 q, .int .u8 100], .string ⟨#[]⟩, .string (R ++ T), .bool true] W (GivesT W X)) := Lib.hid fun W => by
    rw [← HX.out, ← HRT.out]
    exact pad27 a b true wd q 100 ⟨#[]⟩ (R ++ T) W (by decide) (by rw [ByteArray.size_append]; omega) hw
  clear hTs HT HTl HR HRT HX hd hs
  have huv := Hu.out
  clear Hu
  subst huv
  clear hng hnu hv0
  go_enter Tryd.func20, Tryd.ntmps20
  go_upto_region 10 with (go_at_call 28; refine (CN.out _).mono ?_; rintro e w1 ⟨rfl, b1⟩; have B1 := Lib.hid (HB0.out.trans (b1.mono HB0.out.size)); have D1 := Lib.hid (HD0.out.below b1); clear b1)
  obtain ⟨k0, k1, k2, k3, k4⟩ := D1.out.five
  clear CN HD0 HB0
  go_upto_region 23 with (go_at_call 29; refine (CB.out _).mono ?_; rintro e w2 ⟨rfl, b2⟩; have B2 := Lib.hid (B1.out.trans (b2.mono B1.out.size)); have D2 := Lib.hid (D1.out.below b2); clear b2)
  clear k0 k1 k2 k3 k4 CB D1
  have B2d := Lib.hid B2.out.drew
  have D2d : Hid (Bd w.heap.size a b wd q 100 w2.drew) := Lib.hid D2.out
  go_region_held3 (fun wz => wz.cell? ⟨w.heap.size, 0, none⟩ = some (.bool a) ∧ wz.cell? ⟨w.heap.size, 1, none⟩ = some (.bool b) ∧ wz.cell? ⟨w.heap.size, 2, none⟩ = some (.int .i64 wd) ∧ wz.cell? ⟨w.heap.size, 3, none⟩ = some (.int .i64 q) ∧ wz.cell? ⟨w.heap.size, 4, none⟩ = some (.int .u8 100)) (first | exact D2d.out.five | exact D3.out.five)
    (first
      | (go_at_call 30; refine (CF.out _).mono ?_; rintro e w' ⟨rfl, rfl⟩)
      | (go_at_call 27; refine (CP.out _).mono ?_; rintro e w3 ⟨rfl, b3⟩; have B3 := Lib.hid (B2d.out.trans (b3.mono B2d.out.size)); have D3 := Lib.hid (D2d.out.below b3); clear b3))
  go_wp2
  go_ret2
  exact ⟨rfl, B3.out⟩

set_option maxHeartbeats 4000000 in
set_option maxRecDepth 100000 in
theorem put_im (a b : Bool) (wd : Nat) (q : Int) (s : ByteArray) (w : World) (v : Nat) (hd : dnum (ls s) = some (true, v)) (hv : v ≤ 9223372036854775808) (hv0 : true = true → 0 < v) (hs : s.size ≤ 1000000) (hw : wd < 1000) (hq : -1 ≤ q ∧ q < 1000) :
    Calls Tryd.prog 20 #[.agg #[.bool a, .bool b, .int .i64 wd, .int .i64 q, .int .u8 105], .string s] w fun e w' => e = .returned (.tuple #[.string (mk (padX a b (decide (q < 0)) true wd [45] (rep 48 (q - ((Lib.decDigits (v)) : List UInt8).length).toNat ++ (Lib.decDigits (v))))), .bool true]) ∧ Below w.heap.size w w' := by
  obtain ⟨X, HX⟩ : ∃ X, Hid (padX a b (decide (q < 0)) true wd [45] (rep 48 (q - ((Lib.decDigits (v)) : List UInt8).length).toNat ++ (Lib.decDigits (v))) = X) := ⟨_, Lib.hid rfl⟩
  rw [HX.out]
  have HB0 := Lib.hid ((Below.refl w.heap.size w).alloc (Nat.le_refl _) (.cells (dC a b wd q 105) 45))
  have HD0 : Hid (Bd w.heap.size a b wd q 105 (w.alloc (.cells (dC a b wd q 105) 45))) := Lib.hid (heap_alloc_new _ _)
  have CN := Lib.hid fun W => number28 s W hs
  rw [hd] at CN
  unfold nmD at CN
  simp only at CN
  obtain ⟨T, HT⟩ : ∃ T, Hid (mk (Lib.decDigits (v)) = T) := ⟨_, Lib.hid rfl⟩
  obtain ⟨u, Hu⟩ : ∃ u, Hid (v = u) := ⟨_, Lib.hid rfl⟩
  have hu : u < 18446744073709551616 := by have := Hu.out; omega
  have hTs : T.size ≤ 22 := by rw [← HT.out, mk_size, Hu.out]; have := dec_len u hu; omega
  have HTl : Hid (ls T = (Lib.decDigits (v))) := Lib.hid (by rw [← HT.out, ls_mk])
  have CB : Hid (∀ W, Calls Tryd.prog 29 #[.int .u64 u, .int .u64 10, .bool false] W fun e w' => e = .returned (.string T) ∧ Below W.heap.size W w') := Lib.hid fun W => by
    have h := base29_10 u hu W
    rw [← HT.out, Hu.out]
    exact h
  have hng : IntKind.u64.wrap (-(v : Int)) = (18446744073709551616 - (v : Int)) % 18446744073709551616 := by rw [IntKind.wrap_u64]; omega
  have hnu : True := trivial
  obtain ⟨R, HR⟩ : ∃ R, Hid (mk (rep 48 (q - T.size).toNat) = R) := ⟨_, Lib.hid rfl⟩
  have hRs : R.size ≤ 1000 := by rw [← HR.out, mk_size, rep_len]; omega
  have CF : Hid (∀ W, Calls Tryd.prog 30 #[.string ⟨#[48]⟩, .int .i64 (IntKind.i64.wrap (q - T.size))] W fun e w' => e = .returned (.string R) ∧ W = w') := Lib.hid fun W => by
    rw [show IntKind.i64.wrap (q - T.size) = q - T.size by rw [IntKind.wrap_i64]; omega, ← HR.out]
    exact fill30 48 (q - T.size) W (by omega)
  have hcat : ¬ 9223372036854775807 < R.size + T.size := by omega
  have HRT : Hid (ls (R ++ T) = rep 48 (q - ((Lib.decDigits (v)) : List UInt8).length).toNat ++ (Lib.decDigits (v))) := Lib.hid (by
    rw [app_ls2, ← HR.out, ls_mk, HTl.out, ← HTl.out, ls_len])
  have CP : Hid (∀ W, Calls Tryd.prog 27 #[.agg #[.bool a, .bool b, .int .i64 wd, .int .i64 q, .int .u8 105], .string ⟨#[45]⟩, .string (R ++ T), .bool true] W (GivesT W X)) := Lib.hid fun W => by
    rw [← HX.out, ← HRT.out]
    exact pad27 a b true wd q 105 ⟨#[45]⟩ (R ++ T) W (by decide) (by rw [ByteArray.size_append]; omega) hw
  clear hTs HT HTl HR HRT HX hd hs
  have huv := Hu.out
  clear Hu
  subst huv
  clear hng hnu hv0
  go_enter Tryd.func20, Tryd.ntmps20
  go_upto_region 10 with (go_at_call 28; refine (CN.out _).mono ?_; rintro e w1 ⟨rfl, b1⟩; have B1 := Lib.hid (HB0.out.trans (b1.mono HB0.out.size)); have D1 := Lib.hid (HD0.out.below b1); clear b1)
  obtain ⟨k0, k1, k2, k3, k4⟩ := D1.out.five
  clear CN HD0 HB0
  go_upto_region 23 with (go_at_call 29; refine (CB.out _).mono ?_; rintro e w2 ⟨rfl, b2⟩; have B2 := Lib.hid (B1.out.trans (b2.mono B1.out.size)); have D2 := Lib.hid (D1.out.below b2); clear b2)
  clear k0 k1 k2 k3 k4 CB D1
  have B2d := Lib.hid B2.out.drew
  have D2d : Hid (Bd w.heap.size a b wd q 105 w2.drew) := Lib.hid D2.out
  go_region_held3 (fun wz => wz.cell? ⟨w.heap.size, 0, none⟩ = some (.bool a) ∧ wz.cell? ⟨w.heap.size, 1, none⟩ = some (.bool b) ∧ wz.cell? ⟨w.heap.size, 2, none⟩ = some (.int .i64 wd) ∧ wz.cell? ⟨w.heap.size, 3, none⟩ = some (.int .i64 q) ∧ wz.cell? ⟨w.heap.size, 4, none⟩ = some (.int .u8 105)) (first | exact D2d.out.five | exact D3.out.five)
    (first
      | (go_at_call 30; refine (CF.out _).mono ?_; rintro e w' ⟨rfl, rfl⟩)
      | (go_at_call 27; refine (CP.out _).mono ?_; rintro e w3 ⟨rfl, b3⟩; have B3 := Lib.hid (B2d.out.trans (b3.mono B2d.out.size)); have D3 := Lib.hid (D2d.out.below b3); clear b3))
  go_wp2
  go_ret2
  exact ⟨rfl, B3.out⟩

set_option maxHeartbeats 4000000 in
set_option maxRecDepth 100000 in
theorem put_i (a b : Bool) (wd : Nat) (q : Int) (s : ByteArray) (w : World) (v : Nat) (hd : dnum (ls s) = some (false, v)) (hv : v ≤ 9223372036854775808) (hv0 : false = true → 0 < v) (hs : s.size ≤ 1000000) (hw : wd < 1000) (hq : -1 ≤ q ∧ q < 1000) :
    Calls Tryd.prog 20 #[.agg #[.bool a, .bool b, .int .i64 wd, .int .i64 q, .int .u8 105], .string s] w fun e w' => e = .returned (.tuple #[.string (mk (padX a b (decide (q < 0)) true wd [] (rep 48 (q - ((Lib.decDigits (v)) : List UInt8).length).toNat ++ (Lib.decDigits (v))))), .bool true]) ∧ Below w.heap.size w w' := by
  obtain ⟨X, HX⟩ : ∃ X, Hid (padX a b (decide (q < 0)) true wd [] (rep 48 (q - ((Lib.decDigits (v)) : List UInt8).length).toNat ++ (Lib.decDigits (v))) = X) := ⟨_, Lib.hid rfl⟩
  rw [HX.out]
  have HB0 := Lib.hid ((Below.refl w.heap.size w).alloc (Nat.le_refl _) (.cells (dC a b wd q 105) 45))
  have HD0 : Hid (Bd w.heap.size a b wd q 105 (w.alloc (.cells (dC a b wd q 105) 45))) := Lib.hid (heap_alloc_new _ _)
  have CN := Lib.hid fun W => number28 s W hs
  rw [hd] at CN
  unfold nmD at CN
  simp only at CN
  obtain ⟨T, HT⟩ : ∃ T, Hid (mk (Lib.decDigits (v)) = T) := ⟨_, Lib.hid rfl⟩
  obtain ⟨u, Hu⟩ : ∃ u, Hid (v = u) := ⟨_, Lib.hid rfl⟩
  have hu : u < 18446744073709551616 := by have := Hu.out; omega
  have hTs : T.size ≤ 22 := by rw [← HT.out, mk_size, Hu.out]; have := dec_len u hu; omega
  have HTl : Hid (ls T = (Lib.decDigits (v))) := Lib.hid (by rw [← HT.out, ls_mk])
  have CB : Hid (∀ W, Calls Tryd.prog 29 #[.int .u64 u, .int .u64 10, .bool false] W fun e w' => e = .returned (.string T) ∧ Below W.heap.size W w') := Lib.hid fun W => by
    have h := base29_10 u hu W
    rw [← HT.out, Hu.out]
    exact h
  have hng : IntKind.u64.wrap (-(v : Int)) = (18446744073709551616 - (v : Int)) % 18446744073709551616 := by rw [IntKind.wrap_u64]; omega
  have hnu : True := trivial
  obtain ⟨R, HR⟩ : ∃ R, Hid (mk (rep 48 (q - T.size).toNat) = R) := ⟨_, Lib.hid rfl⟩
  have hRs : R.size ≤ 1000 := by rw [← HR.out, mk_size, rep_len]; omega
  have CF : Hid (∀ W, Calls Tryd.prog 30 #[.string ⟨#[48]⟩, .int .i64 (IntKind.i64.wrap (q - T.size))] W fun e w' => e = .returned (.string R) ∧ W = w') := Lib.hid fun W => by
    rw [show IntKind.i64.wrap (q - T.size) = q - T.size by rw [IntKind.wrap_i64]; omega, ← HR.out]
    exact fill30 48 (q - T.size) W (by omega)
  have hcat : ¬ 9223372036854775807 < R.size + T.size := by omega
  have HRT : Hid (ls (R ++ T) = rep 48 (q - ((Lib.decDigits (v)) : List UInt8).length).toNat ++ (Lib.decDigits (v))) := Lib.hid (by
    rw [app_ls2, ← HR.out, ls_mk, HTl.out, ← HTl.out, ls_len])
  have CP : Hid (∀ W, Calls Tryd.prog 27 #[.agg #[.bool a, .bool b, .int .i64 wd, .int .i64 q, .int .u8 105], .string ⟨#[]⟩, .string (R ++ T), .bool true] W (GivesT W X)) := Lib.hid fun W => by
    rw [← HX.out, ← HRT.out]
    exact pad27 a b true wd q 105 ⟨#[]⟩ (R ++ T) W (by decide) (by rw [ByteArray.size_append]; omega) hw
  clear hTs HT HTl HR HRT HX hd hs
  have huv := Hu.out
  clear Hu
  subst huv
  clear hng hnu hv0
  go_enter Tryd.func20, Tryd.ntmps20
  go_upto_region 10 with (go_at_call 28; refine (CN.out _).mono ?_; rintro e w1 ⟨rfl, b1⟩; have B1 := Lib.hid (HB0.out.trans (b1.mono HB0.out.size)); have D1 := Lib.hid (HD0.out.below b1); clear b1)
  obtain ⟨k0, k1, k2, k3, k4⟩ := D1.out.five
  clear CN HD0 HB0
  go_upto_region 23 with (go_at_call 29; refine (CB.out _).mono ?_; rintro e w2 ⟨rfl, b2⟩; have B2 := Lib.hid (B1.out.trans (b2.mono B1.out.size)); have D2 := Lib.hid (D1.out.below b2); clear b2)
  clear k0 k1 k2 k3 k4 CB D1
  have B2d := Lib.hid B2.out.drew
  have D2d : Hid (Bd w.heap.size a b wd q 105 w2.drew) := Lib.hid D2.out
  go_region_held3 (fun wz => wz.cell? ⟨w.heap.size, 0, none⟩ = some (.bool a) ∧ wz.cell? ⟨w.heap.size, 1, none⟩ = some (.bool b) ∧ wz.cell? ⟨w.heap.size, 2, none⟩ = some (.int .i64 wd) ∧ wz.cell? ⟨w.heap.size, 3, none⟩ = some (.int .i64 q) ∧ wz.cell? ⟨w.heap.size, 4, none⟩ = some (.int .u8 105)) (first | exact D2d.out.five | exact D3.out.five)
    (first
      | (go_at_call 30; refine (CF.out _).mono ?_; rintro e w' ⟨rfl, rfl⟩)
      | (go_at_call 27; refine (CP.out _).mono ?_; rintro e w3 ⟨rfl, b3⟩; have B3 := Lib.hid (B2d.out.trans (b3.mono B2d.out.size)); have D3 := Lib.hid (D2d.out.below b3); clear b3))
  go_wp2
  go_ret2
  exact ⟨rfl, B3.out⟩

set_option maxHeartbeats 4000000 in
set_option maxRecDepth 100000 in
theorem put_om (a b : Bool) (wd : Nat) (q : Int) (s : ByteArray) (w : World) (v : Nat) (hd : dnum (ls s) = some (true, v)) (hv : v ≤ 9223372036854775808) (hv0 : true = true → 0 < v) (hs : s.size ≤ 1000000) (hw : wd < 1000) (hq : -1 ≤ q ∧ q < 1000) :
    Calls Tryd.prog 20 #[.agg #[.bool a, .bool b, .int .i64 wd, .int .i64 q, .int .u8 111], .string s] w fun e w' => e = .returned (.tuple #[.string (mk (padX a b (decide (q < 0)) true wd [] (rep 48 (q - ((bd 8 (18446744073709551616 - v)) : List UInt8).length).toNat ++ (bd 8 (18446744073709551616 - v))))), .bool true]) ∧ Below w.heap.size w w' := by
  obtain ⟨X, HX⟩ : ∃ X, Hid (padX a b (decide (q < 0)) true wd [] (rep 48 (q - ((bd 8 (18446744073709551616 - v)) : List UInt8).length).toNat ++ (bd 8 (18446744073709551616 - v))) = X) := ⟨_, Lib.hid rfl⟩
  rw [HX.out]
  have HB0 := Lib.hid ((Below.refl w.heap.size w).alloc (Nat.le_refl _) (.cells (dC a b wd q 111) 45))
  have HD0 : Hid (Bd w.heap.size a b wd q 111 (w.alloc (.cells (dC a b wd q 111) 45))) := Lib.hid (heap_alloc_new _ _)
  have CN := Lib.hid fun W => number28 s W hs
  rw [hd] at CN
  unfold nmD at CN
  simp only at CN
  obtain ⟨T, HT⟩ : ∃ T, Hid (mk (bd 8 (18446744073709551616 - v)) = T) := ⟨_, Lib.hid rfl⟩
  obtain ⟨u, Hu⟩ : ∃ u, Hid (18446744073709551616 - v = u) := ⟨_, Lib.hid rfl⟩
  have hu : u < 18446744073709551616 := by have := Hu.out; have := hv0 rfl; omega
  have hTs : T.size ≤ 22 := by rw [← HT.out, mk_size, Hu.out]; exact bd_len 8 (by omega) 21 _ (Nat.lt_trans hu (by decide))
  have HTl : Hid (ls T = (bd 8 (18446744073709551616 - v))) := Lib.hid (by rw [← HT.out, ls_mk])
  have CB : Hid (∀ W, Calls Tryd.prog 29 #[.int .u64 u, .int .u64 8, .bool false] W fun e w' => e = .returned (.string T) ∧ Below W.heap.size W w') := Lib.hid fun W => by
    have h := base29_8 u hu W
    rw [← HT.out, Hu.out]
    exact by rw [no_map] at h; exact h
  have hng : IntKind.u64.wrap (-(v : Int)) = (18446744073709551616 - (v : Int)) % 18446744073709551616 := by rw [IntKind.wrap_u64]; omega
  have hnu : IntKind.u64.wrap (-(v : Int)) = (u : Int) := by rw [hng]; have := Hu.out; have := hv0 rfl; omega
  obtain ⟨R, HR⟩ : ∃ R, Hid (mk (rep 48 (q - T.size).toNat) = R) := ⟨_, Lib.hid rfl⟩
  have hRs : R.size ≤ 1000 := by rw [← HR.out, mk_size, rep_len]; omega
  have CF : Hid (∀ W, Calls Tryd.prog 30 #[.string ⟨#[48]⟩, .int .i64 (IntKind.i64.wrap (q - T.size))] W fun e w' => e = .returned (.string R) ∧ W = w') := Lib.hid fun W => by
    rw [show IntKind.i64.wrap (q - T.size) = q - T.size by rw [IntKind.wrap_i64]; omega, ← HR.out]
    exact fill30 48 (q - T.size) W (by omega)
  have hcat : ¬ 9223372036854775807 < R.size + T.size := by omega
  have HRT : Hid (ls (R ++ T) = rep 48 (q - ((bd 8 (18446744073709551616 - v)) : List UInt8).length).toNat ++ (bd 8 (18446744073709551616 - v))) := Lib.hid (by
    rw [app_ls2, ← HR.out, ls_mk, HTl.out, ← HTl.out, ls_len])
  have CP : Hid (∀ W, Calls Tryd.prog 27 #[.agg #[.bool a, .bool b, .int .i64 wd, .int .i64 q, .int .u8 111], .string ⟨#[]⟩, .string (R ++ T), .bool true] W (GivesT W X)) := Lib.hid fun W => by
    rw [← HX.out, ← HRT.out]
    exact pad27 a b true wd q 111 ⟨#[]⟩ (R ++ T) W (by decide) (by rw [ByteArray.size_append]; omega) hw
  clear hTs HT HTl HR HRT HX hd Hu hs
  clear hng hv0
  go_enter Tryd.func20, Tryd.ntmps20
  go_upto_region 10 with (go_at_call 28; refine (CN.out _).mono ?_; rintro e w1 ⟨rfl, b1⟩; have B1 := Lib.hid (HB0.out.trans (b1.mono HB0.out.size)); have D1 := Lib.hid (HD0.out.below b1); clear b1)
  obtain ⟨k0, k1, k2, k3, k4⟩ := D1.out.five
  clear CN HD0 HB0
  go_upto_region 23 with (go_at_call 29; refine (CB.out _).mono ?_; rintro e w2 ⟨rfl, b2⟩; have B2 := Lib.hid (B1.out.trans (b2.mono B1.out.size)); have D2 := Lib.hid (D1.out.below b2); clear b2)
  clear k0 k1 k2 k3 k4 CB D1
  have B2d := Lib.hid B2.out.drew
  have D2d : Hid (Bd w.heap.size a b wd q 111 w2.drew) := Lib.hid D2.out
  go_region_held3 (fun wz => wz.cell? ⟨w.heap.size, 0, none⟩ = some (.bool a) ∧ wz.cell? ⟨w.heap.size, 1, none⟩ = some (.bool b) ∧ wz.cell? ⟨w.heap.size, 2, none⟩ = some (.int .i64 wd) ∧ wz.cell? ⟨w.heap.size, 3, none⟩ = some (.int .i64 q) ∧ wz.cell? ⟨w.heap.size, 4, none⟩ = some (.int .u8 111)) (first | exact D2d.out.five | exact D3.out.five)
    (first
      | (go_at_call 30; refine (CF.out _).mono ?_; rintro e w' ⟨rfl, rfl⟩)
      | (go_at_call 27; refine (CP.out _).mono ?_; rintro e w3 ⟨rfl, b3⟩; have B3 := Lib.hid (B2d.out.trans (b3.mono B2d.out.size)); have D3 := Lib.hid (D2d.out.below b3); clear b3))
  go_wp2
  go_ret2
  exact ⟨rfl, B3.out⟩

set_option maxHeartbeats 4000000 in
set_option maxRecDepth 100000 in
theorem put_o (a b : Bool) (wd : Nat) (q : Int) (s : ByteArray) (w : World) (v : Nat) (hd : dnum (ls s) = some (false, v)) (hv : v ≤ 9223372036854775808) (hv0 : false = true → 0 < v) (hs : s.size ≤ 1000000) (hw : wd < 1000) (hq : -1 ≤ q ∧ q < 1000) :
    Calls Tryd.prog 20 #[.agg #[.bool a, .bool b, .int .i64 wd, .int .i64 q, .int .u8 111], .string s] w fun e w' => e = .returned (.tuple #[.string (mk (padX a b (decide (q < 0)) true wd [] (rep 48 (q - ((bd 8 (v)) : List UInt8).length).toNat ++ (bd 8 (v))))), .bool true]) ∧ Below w.heap.size w w' := by
  obtain ⟨X, HX⟩ : ∃ X, Hid (padX a b (decide (q < 0)) true wd [] (rep 48 (q - ((bd 8 (v)) : List UInt8).length).toNat ++ (bd 8 (v))) = X) := ⟨_, Lib.hid rfl⟩
  rw [HX.out]
  have HB0 := Lib.hid ((Below.refl w.heap.size w).alloc (Nat.le_refl _) (.cells (dC a b wd q 111) 45))
  have HD0 : Hid (Bd w.heap.size a b wd q 111 (w.alloc (.cells (dC a b wd q 111) 45))) := Lib.hid (heap_alloc_new _ _)
  have CN := Lib.hid fun W => number28 s W hs
  rw [hd] at CN
  unfold nmD at CN
  simp only at CN
  obtain ⟨T, HT⟩ : ∃ T, Hid (mk (bd 8 (v)) = T) := ⟨_, Lib.hid rfl⟩
  obtain ⟨u, Hu⟩ : ∃ u, Hid (v = u) := ⟨_, Lib.hid rfl⟩
  have hu : u < 18446744073709551616 := by have := Hu.out; omega
  have hTs : T.size ≤ 22 := by rw [← HT.out, mk_size, Hu.out]; exact bd_len 8 (by omega) 21 _ (Nat.lt_trans hu (by decide))
  have HTl : Hid (ls T = (bd 8 (v))) := Lib.hid (by rw [← HT.out, ls_mk])
  have CB : Hid (∀ W, Calls Tryd.prog 29 #[.int .u64 u, .int .u64 8, .bool false] W fun e w' => e = .returned (.string T) ∧ Below W.heap.size W w') := Lib.hid fun W => by
    have h := base29_8 u hu W
    rw [← HT.out, Hu.out]
    exact by rw [no_map] at h; exact h
  have hng : IntKind.u64.wrap (-(v : Int)) = (18446744073709551616 - (v : Int)) % 18446744073709551616 := by rw [IntKind.wrap_u64]; omega
  have hnu : True := trivial
  obtain ⟨R, HR⟩ : ∃ R, Hid (mk (rep 48 (q - T.size).toNat) = R) := ⟨_, Lib.hid rfl⟩
  have hRs : R.size ≤ 1000 := by rw [← HR.out, mk_size, rep_len]; omega
  have CF : Hid (∀ W, Calls Tryd.prog 30 #[.string ⟨#[48]⟩, .int .i64 (IntKind.i64.wrap (q - T.size))] W fun e w' => e = .returned (.string R) ∧ W = w') := Lib.hid fun W => by
    rw [show IntKind.i64.wrap (q - T.size) = q - T.size by rw [IntKind.wrap_i64]; omega, ← HR.out]
    exact fill30 48 (q - T.size) W (by omega)
  have hcat : ¬ 9223372036854775807 < R.size + T.size := by omega
  have HRT : Hid (ls (R ++ T) = rep 48 (q - ((bd 8 (v)) : List UInt8).length).toNat ++ (bd 8 (v))) := Lib.hid (by
    rw [app_ls2, ← HR.out, ls_mk, HTl.out, ← HTl.out, ls_len])
  have CP : Hid (∀ W, Calls Tryd.prog 27 #[.agg #[.bool a, .bool b, .int .i64 wd, .int .i64 q, .int .u8 111], .string ⟨#[]⟩, .string (R ++ T), .bool true] W (GivesT W X)) := Lib.hid fun W => by
    rw [← HX.out, ← HRT.out]
    exact pad27 a b true wd q 111 ⟨#[]⟩ (R ++ T) W (by decide) (by rw [ByteArray.size_append]; omega) hw
  clear hTs HT HTl HR HRT HX hd hs
  have huv := Hu.out
  clear Hu
  subst huv
  clear hng hnu hv0
  go_enter Tryd.func20, Tryd.ntmps20
  go_upto_region 10 with (go_at_call 28; refine (CN.out _).mono ?_; rintro e w1 ⟨rfl, b1⟩; have B1 := Lib.hid (HB0.out.trans (b1.mono HB0.out.size)); have D1 := Lib.hid (HD0.out.below b1); clear b1)
  obtain ⟨k0, k1, k2, k3, k4⟩ := D1.out.five
  clear CN HD0 HB0
  go_upto_region 23 with (go_at_call 29; refine (CB.out _).mono ?_; rintro e w2 ⟨rfl, b2⟩; have B2 := Lib.hid (B1.out.trans (b2.mono B1.out.size)); have D2 := Lib.hid (D1.out.below b2); clear b2)
  clear k0 k1 k2 k3 k4 CB D1
  have B2d := Lib.hid B2.out.drew
  have D2d : Hid (Bd w.heap.size a b wd q 111 w2.drew) := Lib.hid D2.out
  go_region_held3 (fun wz => wz.cell? ⟨w.heap.size, 0, none⟩ = some (.bool a) ∧ wz.cell? ⟨w.heap.size, 1, none⟩ = some (.bool b) ∧ wz.cell? ⟨w.heap.size, 2, none⟩ = some (.int .i64 wd) ∧ wz.cell? ⟨w.heap.size, 3, none⟩ = some (.int .i64 q) ∧ wz.cell? ⟨w.heap.size, 4, none⟩ = some (.int .u8 111)) (first | exact D2d.out.five | exact D3.out.five)
    (first
      | (go_at_call 30; refine (CF.out _).mono ?_; rintro e w' ⟨rfl, rfl⟩)
      | (go_at_call 27; refine (CP.out _).mono ?_; rintro e w3 ⟨rfl, b3⟩; have B3 := Lib.hid (B2d.out.trans (b3.mono B2d.out.size)); have D3 := Lib.hid (D2d.out.below b3); clear b3))
  go_wp2
  go_ret2
  exact ⟨rfl, B3.out⟩

set_option maxHeartbeats 4000000 in
set_option maxRecDepth 100000 in
theorem put_um (a b : Bool) (wd : Nat) (q : Int) (s : ByteArray) (w : World) (v : Nat) (hd : dnum (ls s) = some (true, v)) (hv : v ≤ 9223372036854775808) (hv0 : true = true → 0 < v) (hs : s.size ≤ 1000000) (hw : wd < 1000) (hq : -1 ≤ q ∧ q < 1000) :
    Calls Tryd.prog 20 #[.agg #[.bool a, .bool b, .int .i64 wd, .int .i64 q, .int .u8 117], .string s] w fun e w' => e = .returned (.tuple #[.string (mk (padX a b (decide (q < 0)) true wd [] (rep 48 (q - ((Lib.decDigits (18446744073709551616 - v)) : List UInt8).length).toNat ++ (Lib.decDigits (18446744073709551616 - v))))), .bool true]) ∧ Below w.heap.size w w' := by
  obtain ⟨X, HX⟩ : ∃ X, Hid (padX a b (decide (q < 0)) true wd [] (rep 48 (q - ((Lib.decDigits (18446744073709551616 - v)) : List UInt8).length).toNat ++ (Lib.decDigits (18446744073709551616 - v))) = X) := ⟨_, Lib.hid rfl⟩
  rw [HX.out]
  have HB0 := Lib.hid ((Below.refl w.heap.size w).alloc (Nat.le_refl _) (.cells (dC a b wd q 117) 45))
  have HD0 : Hid (Bd w.heap.size a b wd q 117 (w.alloc (.cells (dC a b wd q 117) 45))) := Lib.hid (heap_alloc_new _ _)
  have CN := Lib.hid fun W => number28 s W hs
  rw [hd] at CN
  unfold nmD at CN
  simp only at CN
  obtain ⟨T, HT⟩ : ∃ T, Hid (mk (Lib.decDigits (18446744073709551616 - v)) = T) := ⟨_, Lib.hid rfl⟩
  obtain ⟨u, Hu⟩ : ∃ u, Hid (18446744073709551616 - v = u) := ⟨_, Lib.hid rfl⟩
  have hu : u < 18446744073709551616 := by have := Hu.out; have := hv0 rfl; omega
  have hTs : T.size ≤ 22 := by rw [← HT.out, mk_size, Hu.out]; have := dec_len u hu; omega
  have HTl : Hid (ls T = (Lib.decDigits (18446744073709551616 - v))) := Lib.hid (by rw [← HT.out, ls_mk])
  have CB : Hid (∀ W, Calls Tryd.prog 29 #[.int .u64 u, .int .u64 10, .bool false] W fun e w' => e = .returned (.string T) ∧ Below W.heap.size W w') := Lib.hid fun W => by
    have h := base29_10 u hu W
    rw [← HT.out, Hu.out]
    exact h
  have hng : IntKind.u64.wrap (-(v : Int)) = (18446744073709551616 - (v : Int)) % 18446744073709551616 := by rw [IntKind.wrap_u64]; omega
  have hnu : IntKind.u64.wrap (-(v : Int)) = (u : Int) := by rw [hng]; have := Hu.out; have := hv0 rfl; omega
  obtain ⟨R, HR⟩ : ∃ R, Hid (mk (rep 48 (q - T.size).toNat) = R) := ⟨_, Lib.hid rfl⟩
  have hRs : R.size ≤ 1000 := by rw [← HR.out, mk_size, rep_len]; omega
  have CF : Hid (∀ W, Calls Tryd.prog 30 #[.string ⟨#[48]⟩, .int .i64 (IntKind.i64.wrap (q - T.size))] W fun e w' => e = .returned (.string R) ∧ W = w') := Lib.hid fun W => by
    rw [show IntKind.i64.wrap (q - T.size) = q - T.size by rw [IntKind.wrap_i64]; omega, ← HR.out]
    exact fill30 48 (q - T.size) W (by omega)
  have hcat : ¬ 9223372036854775807 < R.size + T.size := by omega
  have HRT : Hid (ls (R ++ T) = rep 48 (q - ((Lib.decDigits (18446744073709551616 - v)) : List UInt8).length).toNat ++ (Lib.decDigits (18446744073709551616 - v))) := Lib.hid (by
    rw [app_ls2, ← HR.out, ls_mk, HTl.out, ← HTl.out, ls_len])
  have CP : Hid (∀ W, Calls Tryd.prog 27 #[.agg #[.bool a, .bool b, .int .i64 wd, .int .i64 q, .int .u8 117], .string ⟨#[]⟩, .string (R ++ T), .bool true] W (GivesT W X)) := Lib.hid fun W => by
    rw [← HX.out, ← HRT.out]
    exact pad27 a b true wd q 117 ⟨#[]⟩ (R ++ T) W (by decide) (by rw [ByteArray.size_append]; omega) hw
  clear hTs HT HTl HR HRT HX hd Hu hs
  clear hng hv0
  go_enter Tryd.func20, Tryd.ntmps20
  go_upto_region 10 with (go_at_call 28; refine (CN.out _).mono ?_; rintro e w1 ⟨rfl, b1⟩; have B1 := Lib.hid (HB0.out.trans (b1.mono HB0.out.size)); have D1 := Lib.hid (HD0.out.below b1); clear b1)
  obtain ⟨k0, k1, k2, k3, k4⟩ := D1.out.five
  clear CN HD0 HB0
  go_upto_region 23 with (go_at_call 29; refine (CB.out _).mono ?_; rintro e w2 ⟨rfl, b2⟩; have B2 := Lib.hid (B1.out.trans (b2.mono B1.out.size)); have D2 := Lib.hid (D1.out.below b2); clear b2)
  clear k0 k1 k2 k3 k4 CB D1
  have B2d := Lib.hid B2.out.drew
  have D2d : Hid (Bd w.heap.size a b wd q 117 w2.drew) := Lib.hid D2.out
  go_region_held3 (fun wz => wz.cell? ⟨w.heap.size, 0, none⟩ = some (.bool a) ∧ wz.cell? ⟨w.heap.size, 1, none⟩ = some (.bool b) ∧ wz.cell? ⟨w.heap.size, 2, none⟩ = some (.int .i64 wd) ∧ wz.cell? ⟨w.heap.size, 3, none⟩ = some (.int .i64 q) ∧ wz.cell? ⟨w.heap.size, 4, none⟩ = some (.int .u8 117)) (first | exact D2d.out.five | exact D3.out.five)
    (first
      | (go_at_call 30; refine (CF.out _).mono ?_; rintro e w' ⟨rfl, rfl⟩)
      | (go_at_call 27; refine (CP.out _).mono ?_; rintro e w3 ⟨rfl, b3⟩; have B3 := Lib.hid (B2d.out.trans (b3.mono B2d.out.size)); have D3 := Lib.hid (D2d.out.below b3); clear b3))
  go_wp2
  go_ret2
  exact ⟨rfl, B3.out⟩

set_option maxHeartbeats 4000000 in
set_option maxRecDepth 100000 in
theorem put_u (a b : Bool) (wd : Nat) (q : Int) (s : ByteArray) (w : World) (v : Nat) (hd : dnum (ls s) = some (false, v)) (hv : v ≤ 9223372036854775808) (hv0 : false = true → 0 < v) (hs : s.size ≤ 1000000) (hw : wd < 1000) (hq : -1 ≤ q ∧ q < 1000) :
    Calls Tryd.prog 20 #[.agg #[.bool a, .bool b, .int .i64 wd, .int .i64 q, .int .u8 117], .string s] w fun e w' => e = .returned (.tuple #[.string (mk (padX a b (decide (q < 0)) true wd [] (rep 48 (q - ((Lib.decDigits (v)) : List UInt8).length).toNat ++ (Lib.decDigits (v))))), .bool true]) ∧ Below w.heap.size w w' := by
  obtain ⟨X, HX⟩ : ∃ X, Hid (padX a b (decide (q < 0)) true wd [] (rep 48 (q - ((Lib.decDigits (v)) : List UInt8).length).toNat ++ (Lib.decDigits (v))) = X) := ⟨_, Lib.hid rfl⟩
  rw [HX.out]
  have HB0 := Lib.hid ((Below.refl w.heap.size w).alloc (Nat.le_refl _) (.cells (dC a b wd q 117) 45))
  have HD0 : Hid (Bd w.heap.size a b wd q 117 (w.alloc (.cells (dC a b wd q 117) 45))) := Lib.hid (heap_alloc_new _ _)
  have CN := Lib.hid fun W => number28 s W hs
  rw [hd] at CN
  unfold nmD at CN
  simp only at CN
  obtain ⟨T, HT⟩ : ∃ T, Hid (mk (Lib.decDigits (v)) = T) := ⟨_, Lib.hid rfl⟩
  obtain ⟨u, Hu⟩ : ∃ u, Hid (v = u) := ⟨_, Lib.hid rfl⟩
  have hu : u < 18446744073709551616 := by have := Hu.out; omega
  have hTs : T.size ≤ 22 := by rw [← HT.out, mk_size, Hu.out]; have := dec_len u hu; omega
  have HTl : Hid (ls T = (Lib.decDigits (v))) := Lib.hid (by rw [← HT.out, ls_mk])
  have CB : Hid (∀ W, Calls Tryd.prog 29 #[.int .u64 u, .int .u64 10, .bool false] W fun e w' => e = .returned (.string T) ∧ Below W.heap.size W w') := Lib.hid fun W => by
    have h := base29_10 u hu W
    rw [← HT.out, Hu.out]
    exact h
  have hng : IntKind.u64.wrap (-(v : Int)) = (18446744073709551616 - (v : Int)) % 18446744073709551616 := by rw [IntKind.wrap_u64]; omega
  have hnu : True := trivial
  obtain ⟨R, HR⟩ : ∃ R, Hid (mk (rep 48 (q - T.size).toNat) = R) := ⟨_, Lib.hid rfl⟩
  have hRs : R.size ≤ 1000 := by rw [← HR.out, mk_size, rep_len]; omega
  have CF : Hid (∀ W, Calls Tryd.prog 30 #[.string ⟨#[48]⟩, .int .i64 (IntKind.i64.wrap (q - T.size))] W fun e w' => e = .returned (.string R) ∧ W = w') := Lib.hid fun W => by
    rw [show IntKind.i64.wrap (q - T.size) = q - T.size by rw [IntKind.wrap_i64]; omega, ← HR.out]
    exact fill30 48 (q - T.size) W (by omega)
  have hcat : ¬ 9223372036854775807 < R.size + T.size := by omega
  have HRT : Hid (ls (R ++ T) = rep 48 (q - ((Lib.decDigits (v)) : List UInt8).length).toNat ++ (Lib.decDigits (v))) := Lib.hid (by
    rw [app_ls2, ← HR.out, ls_mk, HTl.out, ← HTl.out, ls_len])
  have CP : Hid (∀ W, Calls Tryd.prog 27 #[.agg #[.bool a, .bool b, .int .i64 wd, .int .i64 q, .int .u8 117], .string ⟨#[]⟩, .string (R ++ T), .bool true] W (GivesT W X)) := Lib.hid fun W => by
    rw [← HX.out, ← HRT.out]
    exact pad27 a b true wd q 117 ⟨#[]⟩ (R ++ T) W (by decide) (by rw [ByteArray.size_append]; omega) hw
  clear hTs HT HTl HR HRT HX hd hs
  have huv := Hu.out
  clear Hu
  subst huv
  clear hng hnu hv0
  go_enter Tryd.func20, Tryd.ntmps20
  go_upto_region 10 with (go_at_call 28; refine (CN.out _).mono ?_; rintro e w1 ⟨rfl, b1⟩; have B1 := Lib.hid (HB0.out.trans (b1.mono HB0.out.size)); have D1 := Lib.hid (HD0.out.below b1); clear b1)
  obtain ⟨k0, k1, k2, k3, k4⟩ := D1.out.five
  clear CN HD0 HB0
  go_upto_region 23 with (go_at_call 29; refine (CB.out _).mono ?_; rintro e w2 ⟨rfl, b2⟩; have B2 := Lib.hid (B1.out.trans (b2.mono B1.out.size)); have D2 := Lib.hid (D1.out.below b2); clear b2)
  clear k0 k1 k2 k3 k4 CB D1
  have B2d := Lib.hid B2.out.drew
  have D2d : Hid (Bd w.heap.size a b wd q 117 w2.drew) := Lib.hid D2.out
  go_region_held3 (fun wz => wz.cell? ⟨w.heap.size, 0, none⟩ = some (.bool a) ∧ wz.cell? ⟨w.heap.size, 1, none⟩ = some (.bool b) ∧ wz.cell? ⟨w.heap.size, 2, none⟩ = some (.int .i64 wd) ∧ wz.cell? ⟨w.heap.size, 3, none⟩ = some (.int .i64 q) ∧ wz.cell? ⟨w.heap.size, 4, none⟩ = some (.int .u8 117)) (first | exact D2d.out.five | exact D3.out.five)
    (first
      | (go_at_call 30; refine (CF.out _).mono ?_; rintro e w' ⟨rfl, rfl⟩)
      | (go_at_call 27; refine (CP.out _).mono ?_; rintro e w3 ⟨rfl, b3⟩; have B3 := Lib.hid (B2d.out.trans (b3.mono B2d.out.size)); have D3 := Lib.hid (D2d.out.below b3); clear b3))
  go_wp2
  go_ret2
  exact ⟨rfl, B3.out⟩

set_option maxHeartbeats 4000000 in
set_option maxRecDepth 100000 in
theorem put_xm (a b : Bool) (wd : Nat) (q : Int) (s : ByteArray) (w : World) (v : Nat) (hd : dnum (ls s) = some (true, v)) (hv : v ≤ 9223372036854775808) (hv0 : true = true → 0 < v) (hs : s.size ≤ 1000000) (hw : wd < 1000) (hq : -1 ≤ q ∧ q < 1000) :
    Calls Tryd.prog 20 #[.agg #[.bool a, .bool b, .int .i64 wd, .int .i64 q, .int .u8 120], .string s] w fun e w' => e = .returned (.tuple #[.string (mk (padX a b (decide (q < 0)) true wd [] (rep 48 (q - ((bd 16 (18446744073709551616 - v)) : List UInt8).length).toNat ++ (bd 16 (18446744073709551616 - v))))), .bool true]) ∧ Below w.heap.size w w' := by
  obtain ⟨X, HX⟩ : ∃ X, Hid (padX a b (decide (q < 0)) true wd [] (rep 48 (q - ((bd 16 (18446744073709551616 - v)) : List UInt8).length).toNat ++ (bd 16 (18446744073709551616 - v))) = X) := ⟨_, Lib.hid rfl⟩
  rw [HX.out]
  have HB0 := Lib.hid ((Below.refl w.heap.size w).alloc (Nat.le_refl _) (.cells (dC a b wd q 120) 45))
  have HD0 : Hid (Bd w.heap.size a b wd q 120 (w.alloc (.cells (dC a b wd q 120) 45))) := Lib.hid (heap_alloc_new _ _)
  have CN := Lib.hid fun W => number28 s W hs
  rw [hd] at CN
  unfold nmD at CN
  simp only at CN
  obtain ⟨T, HT⟩ : ∃ T, Hid (mk (bd 16 (18446744073709551616 - v)) = T) := ⟨_, Lib.hid rfl⟩
  obtain ⟨u, Hu⟩ : ∃ u, Hid (18446744073709551616 - v = u) := ⟨_, Lib.hid rfl⟩
  have hu : u < 18446744073709551616 := by have := Hu.out; have := hv0 rfl; omega
  have hTs : T.size ≤ 22 := by rw [← HT.out, mk_size, Hu.out]; have := bd_len 16 (by omega) 15 _ hu; omega
  have HTl : Hid (ls T = (bd 16 (18446744073709551616 - v))) := Lib.hid (by rw [← HT.out, ls_mk])
  have CB : Hid (∀ W, Calls Tryd.prog 29 #[.int .u64 u, .int .u64 16, .bool false] W fun e w' => e = .returned (.string T) ∧ Below W.heap.size W w') := Lib.hid fun W => by
    have h := base29_16 u hu W
    rw [← HT.out, Hu.out]
    exact by rw [no_map] at h; exact h
  have hng : IntKind.u64.wrap (-(v : Int)) = (18446744073709551616 - (v : Int)) % 18446744073709551616 := by rw [IntKind.wrap_u64]; omega
  have hnu : IntKind.u64.wrap (-(v : Int)) = (u : Int) := by rw [hng]; have := Hu.out; have := hv0 rfl; omega
  obtain ⟨R, HR⟩ : ∃ R, Hid (mk (rep 48 (q - T.size).toNat) = R) := ⟨_, Lib.hid rfl⟩
  have hRs : R.size ≤ 1000 := by rw [← HR.out, mk_size, rep_len]; omega
  have CF : Hid (∀ W, Calls Tryd.prog 30 #[.string ⟨#[48]⟩, .int .i64 (IntKind.i64.wrap (q - T.size))] W fun e w' => e = .returned (.string R) ∧ W = w') := Lib.hid fun W => by
    rw [show IntKind.i64.wrap (q - T.size) = q - T.size by rw [IntKind.wrap_i64]; omega, ← HR.out]
    exact fill30 48 (q - T.size) W (by omega)
  have hcat : ¬ 9223372036854775807 < R.size + T.size := by omega
  have HRT : Hid (ls (R ++ T) = rep 48 (q - ((bd 16 (18446744073709551616 - v)) : List UInt8).length).toNat ++ (bd 16 (18446744073709551616 - v))) := Lib.hid (by
    rw [app_ls2, ← HR.out, ls_mk, HTl.out, ← HTl.out, ls_len])
  have CP : Hid (∀ W, Calls Tryd.prog 27 #[.agg #[.bool a, .bool b, .int .i64 wd, .int .i64 q, .int .u8 120], .string ⟨#[]⟩, .string (R ++ T), .bool true] W (GivesT W X)) := Lib.hid fun W => by
    rw [← HX.out, ← HRT.out]
    exact pad27 a b true wd q 120 ⟨#[]⟩ (R ++ T) W (by decide) (by rw [ByteArray.size_append]; omega) hw
  clear hTs HT HTl HR HRT HX hd Hu hs
  clear hng hv0
  go_enter Tryd.func20, Tryd.ntmps20
  go_upto_region 10 with (go_at_call 28; refine (CN.out _).mono ?_; rintro e w1 ⟨rfl, b1⟩; have B1 := Lib.hid (HB0.out.trans (b1.mono HB0.out.size)); have D1 := Lib.hid (HD0.out.below b1); clear b1)
  obtain ⟨k0, k1, k2, k3, k4⟩ := D1.out.five
  clear CN HD0 HB0
  go_upto_region 23 with (go_at_call 29; refine (CB.out _).mono ?_; rintro e w2 ⟨rfl, b2⟩; have B2 := Lib.hid (B1.out.trans (b2.mono B1.out.size)); have D2 := Lib.hid (D1.out.below b2); clear b2)
  clear k0 k1 k2 k3 k4 CB D1
  have B2d := Lib.hid B2.out.drew
  have D2d : Hid (Bd w.heap.size a b wd q 120 w2.drew) := Lib.hid D2.out
  go_region_held3 (fun wz => wz.cell? ⟨w.heap.size, 0, none⟩ = some (.bool a) ∧ wz.cell? ⟨w.heap.size, 1, none⟩ = some (.bool b) ∧ wz.cell? ⟨w.heap.size, 2, none⟩ = some (.int .i64 wd) ∧ wz.cell? ⟨w.heap.size, 3, none⟩ = some (.int .i64 q) ∧ wz.cell? ⟨w.heap.size, 4, none⟩ = some (.int .u8 120)) (first | exact D2d.out.five | exact D3.out.five)
    (first
      | (go_at_call 30; refine (CF.out _).mono ?_; rintro e w' ⟨rfl, rfl⟩)
      | (go_at_call 27; refine (CP.out _).mono ?_; rintro e w3 ⟨rfl, b3⟩; have B3 := Lib.hid (B2d.out.trans (b3.mono B2d.out.size)); have D3 := Lib.hid (D2d.out.below b3); clear b3))
  go_wp2
  go_ret2
  exact ⟨rfl, B3.out⟩

set_option maxHeartbeats 4000000 in
set_option maxRecDepth 100000 in
theorem put_x (a b : Bool) (wd : Nat) (q : Int) (s : ByteArray) (w : World) (v : Nat) (hd : dnum (ls s) = some (false, v)) (hv : v ≤ 9223372036854775808) (hv0 : false = true → 0 < v) (hs : s.size ≤ 1000000) (hw : wd < 1000) (hq : -1 ≤ q ∧ q < 1000) :
    Calls Tryd.prog 20 #[.agg #[.bool a, .bool b, .int .i64 wd, .int .i64 q, .int .u8 120], .string s] w fun e w' => e = .returned (.tuple #[.string (mk (padX a b (decide (q < 0)) true wd [] (rep 48 (q - ((bd 16 (v)) : List UInt8).length).toNat ++ (bd 16 (v))))), .bool true]) ∧ Below w.heap.size w w' := by
  obtain ⟨X, HX⟩ : ∃ X, Hid (padX a b (decide (q < 0)) true wd [] (rep 48 (q - ((bd 16 (v)) : List UInt8).length).toNat ++ (bd 16 (v))) = X) := ⟨_, Lib.hid rfl⟩
  rw [HX.out]
  have HB0 := Lib.hid ((Below.refl w.heap.size w).alloc (Nat.le_refl _) (.cells (dC a b wd q 120) 45))
  have HD0 : Hid (Bd w.heap.size a b wd q 120 (w.alloc (.cells (dC a b wd q 120) 45))) := Lib.hid (heap_alloc_new _ _)
  have CN := Lib.hid fun W => number28 s W hs
  rw [hd] at CN
  unfold nmD at CN
  simp only at CN
  obtain ⟨T, HT⟩ : ∃ T, Hid (mk (bd 16 (v)) = T) := ⟨_, Lib.hid rfl⟩
  obtain ⟨u, Hu⟩ : ∃ u, Hid (v = u) := ⟨_, Lib.hid rfl⟩
  have hu : u < 18446744073709551616 := by have := Hu.out; omega
  have hTs : T.size ≤ 22 := by rw [← HT.out, mk_size, Hu.out]; have := bd_len 16 (by omega) 15 _ hu; omega
  have HTl : Hid (ls T = (bd 16 (v))) := Lib.hid (by rw [← HT.out, ls_mk])
  have CB : Hid (∀ W, Calls Tryd.prog 29 #[.int .u64 u, .int .u64 16, .bool false] W fun e w' => e = .returned (.string T) ∧ Below W.heap.size W w') := Lib.hid fun W => by
    have h := base29_16 u hu W
    rw [← HT.out, Hu.out]
    exact by rw [no_map] at h; exact h
  have hng : IntKind.u64.wrap (-(v : Int)) = (18446744073709551616 - (v : Int)) % 18446744073709551616 := by rw [IntKind.wrap_u64]; omega
  have hnu : True := trivial
  obtain ⟨R, HR⟩ : ∃ R, Hid (mk (rep 48 (q - T.size).toNat) = R) := ⟨_, Lib.hid rfl⟩
  have hRs : R.size ≤ 1000 := by rw [← HR.out, mk_size, rep_len]; omega
  have CF : Hid (∀ W, Calls Tryd.prog 30 #[.string ⟨#[48]⟩, .int .i64 (IntKind.i64.wrap (q - T.size))] W fun e w' => e = .returned (.string R) ∧ W = w') := Lib.hid fun W => by
    rw [show IntKind.i64.wrap (q - T.size) = q - T.size by rw [IntKind.wrap_i64]; omega, ← HR.out]
    exact fill30 48 (q - T.size) W (by omega)
  have hcat : ¬ 9223372036854775807 < R.size + T.size := by omega
  have HRT : Hid (ls (R ++ T) = rep 48 (q - ((bd 16 (v)) : List UInt8).length).toNat ++ (bd 16 (v))) := Lib.hid (by
    rw [app_ls2, ← HR.out, ls_mk, HTl.out, ← HTl.out, ls_len])
  have CP : Hid (∀ W, Calls Tryd.prog 27 #[.agg #[.bool a, .bool b, .int .i64 wd, .int .i64 q, .int .u8 120], .string ⟨#[]⟩, .string (R ++ T), .bool true] W (GivesT W X)) := Lib.hid fun W => by
    rw [← HX.out, ← HRT.out]
    exact pad27 a b true wd q 120 ⟨#[]⟩ (R ++ T) W (by decide) (by rw [ByteArray.size_append]; omega) hw
  clear hTs HT HTl HR HRT HX hd hs
  have huv := Hu.out
  clear Hu
  subst huv
  clear hng hnu hv0
  go_enter Tryd.func20, Tryd.ntmps20
  go_upto_region 10 with (go_at_call 28; refine (CN.out _).mono ?_; rintro e w1 ⟨rfl, b1⟩; have B1 := Lib.hid (HB0.out.trans (b1.mono HB0.out.size)); have D1 := Lib.hid (HD0.out.below b1); clear b1)
  obtain ⟨k0, k1, k2, k3, k4⟩ := D1.out.five
  clear CN HD0 HB0
  go_upto_region 23 with (go_at_call 29; refine (CB.out _).mono ?_; rintro e w2 ⟨rfl, b2⟩; have B2 := Lib.hid (B1.out.trans (b2.mono B1.out.size)); have D2 := Lib.hid (D1.out.below b2); clear b2)
  clear k0 k1 k2 k3 k4 CB D1
  have B2d := Lib.hid B2.out.drew
  have D2d : Hid (Bd w.heap.size a b wd q 120 w2.drew) := Lib.hid D2.out
  go_region_held3 (fun wz => wz.cell? ⟨w.heap.size, 0, none⟩ = some (.bool a) ∧ wz.cell? ⟨w.heap.size, 1, none⟩ = some (.bool b) ∧ wz.cell? ⟨w.heap.size, 2, none⟩ = some (.int .i64 wd) ∧ wz.cell? ⟨w.heap.size, 3, none⟩ = some (.int .i64 q) ∧ wz.cell? ⟨w.heap.size, 4, none⟩ = some (.int .u8 120)) (first | exact D2d.out.five | exact D3.out.five)
    (first
      | (go_at_call 30; refine (CF.out _).mono ?_; rintro e w' ⟨rfl, rfl⟩)
      | (go_at_call 27; refine (CP.out _).mono ?_; rintro e w3 ⟨rfl, b3⟩; have B3 := Lib.hid (B2d.out.trans (b3.mono B2d.out.size)); have D3 := Lib.hid (D2d.out.below b3); clear b3))
  go_wp2
  go_ret2
  exact ⟨rfl, B3.out⟩

set_option maxHeartbeats 4000000 in
set_option maxRecDepth 100000 in
theorem put_Xm (a b : Bool) (wd : Nat) (q : Int) (s : ByteArray) (w : World) (v : Nat) (hd : dnum (ls s) = some (true, v)) (hv : v ≤ 9223372036854775808) (hv0 : true = true → 0 < v) (hs : s.size ≤ 1000000) (hw : wd < 1000) (hq : -1 ≤ q ∧ q < 1000) :
    Calls Tryd.prog 20 #[.agg #[.bool a, .bool b, .int .i64 wd, .int .i64 q, .int .u8 88], .string s] w fun e w' => e = .returned (.tuple #[.string (mk (padX a b (decide (q < 0)) true wd [] (rep 48 (q - ((up (bd 16 (18446744073709551616 - v))) : List UInt8).length).toNat ++ (up (bd 16 (18446744073709551616 - v)))))), .bool true]) ∧ Below w.heap.size w w' := by
  obtain ⟨X, HX⟩ : ∃ X, Hid (padX a b (decide (q < 0)) true wd [] (rep 48 (q - ((up (bd 16 (18446744073709551616 - v))) : List UInt8).length).toNat ++ (up (bd 16 (18446744073709551616 - v)))) = X) := ⟨_, Lib.hid rfl⟩
  rw [HX.out]
  have HB0 := Lib.hid ((Below.refl w.heap.size w).alloc (Nat.le_refl _) (.cells (dC a b wd q 88) 45))
  have HD0 : Hid (Bd w.heap.size a b wd q 88 (w.alloc (.cells (dC a b wd q 88) 45))) := Lib.hid (heap_alloc_new _ _)
  have CN := Lib.hid fun W => number28 s W hs
  rw [hd] at CN
  unfold nmD at CN
  simp only at CN
  obtain ⟨T, HT⟩ : ∃ T, Hid (mk (up (bd 16 (18446744073709551616 - v))) = T) := ⟨_, Lib.hid rfl⟩
  obtain ⟨u, Hu⟩ : ∃ u, Hid (18446744073709551616 - v = u) := ⟨_, Lib.hid rfl⟩
  have hu : u < 18446744073709551616 := by have := Hu.out; have := hv0 rfl; omega
  have hTs : T.size ≤ 22 := by rw [← HT.out, mk_size, Hu.out]; rw [up_len]; have := bd_len 16 (by omega) 15 _ hu; omega
  have HTl : Hid (ls T = (up (bd 16 (18446744073709551616 - v)))) := Lib.hid (by rw [← HT.out, ls_mk])
  have CB : Hid (∀ W, Calls Tryd.prog 29 #[.int .u64 u, .int .u64 16, .bool true] W fun e w' => e = .returned (.string T) ∧ Below W.heap.size W w') := Lib.hid fun W => by
    have h := base29_16u u hu W
    rw [← HT.out, Hu.out]
    exact by rw [up_map] at h; exact h
  have hng : IntKind.u64.wrap (-(v : Int)) = (18446744073709551616 - (v : Int)) % 18446744073709551616 := by rw [IntKind.wrap_u64]; omega
  have hnu : IntKind.u64.wrap (-(v : Int)) = (u : Int) := by rw [hng]; have := Hu.out; have := hv0 rfl; omega
  obtain ⟨R, HR⟩ : ∃ R, Hid (mk (rep 48 (q - T.size).toNat) = R) := ⟨_, Lib.hid rfl⟩
  have hRs : R.size ≤ 1000 := by rw [← HR.out, mk_size, rep_len]; omega
  have CF : Hid (∀ W, Calls Tryd.prog 30 #[.string ⟨#[48]⟩, .int .i64 (IntKind.i64.wrap (q - T.size))] W fun e w' => e = .returned (.string R) ∧ W = w') := Lib.hid fun W => by
    rw [show IntKind.i64.wrap (q - T.size) = q - T.size by rw [IntKind.wrap_i64]; omega, ← HR.out]
    exact fill30 48 (q - T.size) W (by omega)
  have hcat : ¬ 9223372036854775807 < R.size + T.size := by omega
  have HRT : Hid (ls (R ++ T) = rep 48 (q - ((up (bd 16 (18446744073709551616 - v))) : List UInt8).length).toNat ++ (up (bd 16 (18446744073709551616 - v)))) := Lib.hid (by
    rw [app_ls2, ← HR.out, ls_mk, HTl.out, ← HTl.out, ls_len])
  have CP : Hid (∀ W, Calls Tryd.prog 27 #[.agg #[.bool a, .bool b, .int .i64 wd, .int .i64 q, .int .u8 88], .string ⟨#[]⟩, .string (R ++ T), .bool true] W (GivesT W X)) := Lib.hid fun W => by
    rw [← HX.out, ← HRT.out]
    exact pad27 a b true wd q 88 ⟨#[]⟩ (R ++ T) W (by decide) (by rw [ByteArray.size_append]; omega) hw
  clear hTs HT HTl HR HRT HX hd Hu hs
  clear hng hv0
  go_enter Tryd.func20, Tryd.ntmps20
  go_upto_region 10 with (go_at_call 28; refine (CN.out _).mono ?_; rintro e w1 ⟨rfl, b1⟩; have B1 := Lib.hid (HB0.out.trans (b1.mono HB0.out.size)); have D1 := Lib.hid (HD0.out.below b1); clear b1)
  obtain ⟨k0, k1, k2, k3, k4⟩ := D1.out.five
  clear CN HD0 HB0
  go_upto_region 23 with (go_at_call 29; refine (CB.out _).mono ?_; rintro e w2 ⟨rfl, b2⟩; have B2 := Lib.hid (B1.out.trans (b2.mono B1.out.size)); have D2 := Lib.hid (D1.out.below b2); clear b2)
  clear k0 k1 k2 k3 k4 CB D1
  have B2d := Lib.hid B2.out.drew
  have D2d : Hid (Bd w.heap.size a b wd q 88 w2.drew) := Lib.hid D2.out
  go_region_held3 (fun wz => wz.cell? ⟨w.heap.size, 0, none⟩ = some (.bool a) ∧ wz.cell? ⟨w.heap.size, 1, none⟩ = some (.bool b) ∧ wz.cell? ⟨w.heap.size, 2, none⟩ = some (.int .i64 wd) ∧ wz.cell? ⟨w.heap.size, 3, none⟩ = some (.int .i64 q) ∧ wz.cell? ⟨w.heap.size, 4, none⟩ = some (.int .u8 88)) (first | exact D2d.out.five | exact D3.out.five)
    (first
      | (go_at_call 30; refine (CF.out _).mono ?_; rintro e w' ⟨rfl, rfl⟩)
      | (go_at_call 27; refine (CP.out _).mono ?_; rintro e w3 ⟨rfl, b3⟩; have B3 := Lib.hid (B2d.out.trans (b3.mono B2d.out.size)); have D3 := Lib.hid (D2d.out.below b3); clear b3))
  go_wp2
  go_ret2
  exact ⟨rfl, B3.out⟩

set_option maxHeartbeats 4000000 in
set_option maxRecDepth 100000 in
theorem put_X (a b : Bool) (wd : Nat) (q : Int) (s : ByteArray) (w : World) (v : Nat) (hd : dnum (ls s) = some (false, v)) (hv : v ≤ 9223372036854775808) (hv0 : false = true → 0 < v) (hs : s.size ≤ 1000000) (hw : wd < 1000) (hq : -1 ≤ q ∧ q < 1000) :
    Calls Tryd.prog 20 #[.agg #[.bool a, .bool b, .int .i64 wd, .int .i64 q, .int .u8 88], .string s] w fun e w' => e = .returned (.tuple #[.string (mk (padX a b (decide (q < 0)) true wd [] (rep 48 (q - ((up (bd 16 (v))) : List UInt8).length).toNat ++ (up (bd 16 (v)))))), .bool true]) ∧ Below w.heap.size w w' := by
  obtain ⟨X, HX⟩ : ∃ X, Hid (padX a b (decide (q < 0)) true wd [] (rep 48 (q - ((up (bd 16 (v))) : List UInt8).length).toNat ++ (up (bd 16 (v)))) = X) := ⟨_, Lib.hid rfl⟩
  rw [HX.out]
  have HB0 := Lib.hid ((Below.refl w.heap.size w).alloc (Nat.le_refl _) (.cells (dC a b wd q 88) 45))
  have HD0 : Hid (Bd w.heap.size a b wd q 88 (w.alloc (.cells (dC a b wd q 88) 45))) := Lib.hid (heap_alloc_new _ _)
  have CN := Lib.hid fun W => number28 s W hs
  rw [hd] at CN
  unfold nmD at CN
  simp only at CN
  obtain ⟨T, HT⟩ : ∃ T, Hid (mk (up (bd 16 (v))) = T) := ⟨_, Lib.hid rfl⟩
  obtain ⟨u, Hu⟩ : ∃ u, Hid (v = u) := ⟨_, Lib.hid rfl⟩
  have hu : u < 18446744073709551616 := by have := Hu.out; omega
  have hTs : T.size ≤ 22 := by rw [← HT.out, mk_size, Hu.out]; rw [up_len]; have := bd_len 16 (by omega) 15 _ hu; omega
  have HTl : Hid (ls T = (up (bd 16 (v)))) := Lib.hid (by rw [← HT.out, ls_mk])
  have CB : Hid (∀ W, Calls Tryd.prog 29 #[.int .u64 u, .int .u64 16, .bool true] W fun e w' => e = .returned (.string T) ∧ Below W.heap.size W w') := Lib.hid fun W => by
    have h := base29_16u u hu W
    rw [← HT.out, Hu.out]
    exact by rw [up_map] at h; exact h
  have hng : IntKind.u64.wrap (-(v : Int)) = (18446744073709551616 - (v : Int)) % 18446744073709551616 := by rw [IntKind.wrap_u64]; omega
  have hnu : True := trivial
  obtain ⟨R, HR⟩ : ∃ R, Hid (mk (rep 48 (q - T.size).toNat) = R) := ⟨_, Lib.hid rfl⟩
  have hRs : R.size ≤ 1000 := by rw [← HR.out, mk_size, rep_len]; omega
  have CF : Hid (∀ W, Calls Tryd.prog 30 #[.string ⟨#[48]⟩, .int .i64 (IntKind.i64.wrap (q - T.size))] W fun e w' => e = .returned (.string R) ∧ W = w') := Lib.hid fun W => by
    rw [show IntKind.i64.wrap (q - T.size) = q - T.size by rw [IntKind.wrap_i64]; omega, ← HR.out]
    exact fill30 48 (q - T.size) W (by omega)
  have hcat : ¬ 9223372036854775807 < R.size + T.size := by omega
  have HRT : Hid (ls (R ++ T) = rep 48 (q - ((up (bd 16 (v))) : List UInt8).length).toNat ++ (up (bd 16 (v)))) := Lib.hid (by
    rw [app_ls2, ← HR.out, ls_mk, HTl.out, ← HTl.out, ls_len])
  have CP : Hid (∀ W, Calls Tryd.prog 27 #[.agg #[.bool a, .bool b, .int .i64 wd, .int .i64 q, .int .u8 88], .string ⟨#[]⟩, .string (R ++ T), .bool true] W (GivesT W X)) := Lib.hid fun W => by
    rw [← HX.out, ← HRT.out]
    exact pad27 a b true wd q 88 ⟨#[]⟩ (R ++ T) W (by decide) (by rw [ByteArray.size_append]; omega) hw
  clear hTs HT HTl HR HRT HX hd hs
  have huv := Hu.out
  clear Hu
  subst huv
  clear hng hnu hv0
  go_enter Tryd.func20, Tryd.ntmps20
  go_upto_region 10 with (go_at_call 28; refine (CN.out _).mono ?_; rintro e w1 ⟨rfl, b1⟩; have B1 := Lib.hid (HB0.out.trans (b1.mono HB0.out.size)); have D1 := Lib.hid (HD0.out.below b1); clear b1)
  obtain ⟨k0, k1, k2, k3, k4⟩ := D1.out.five
  clear CN HD0 HB0
  go_upto_region 23 with (go_at_call 29; refine (CB.out _).mono ?_; rintro e w2 ⟨rfl, b2⟩; have B2 := Lib.hid (B1.out.trans (b2.mono B1.out.size)); have D2 := Lib.hid (D1.out.below b2); clear b2)
  clear k0 k1 k2 k3 k4 CB D1
  have B2d := Lib.hid B2.out.drew
  have D2d : Hid (Bd w.heap.size a b wd q 88 w2.drew) := Lib.hid D2.out
  go_region_held3 (fun wz => wz.cell? ⟨w.heap.size, 0, none⟩ = some (.bool a) ∧ wz.cell? ⟨w.heap.size, 1, none⟩ = some (.bool b) ∧ wz.cell? ⟨w.heap.size, 2, none⟩ = some (.int .i64 wd) ∧ wz.cell? ⟨w.heap.size, 3, none⟩ = some (.int .i64 q) ∧ wz.cell? ⟨w.heap.size, 4, none⟩ = some (.int .u8 88)) (first | exact D2d.out.five | exact D3.out.five)
    (first
      | (go_at_call 30; refine (CF.out _).mono ?_; rintro e w' ⟨rfl, rfl⟩)
      | (go_at_call 27; refine (CP.out _).mono ?_; rintro e w3 ⟨rfl, b3⟩; have B3 := Lib.hid (B2d.out.trans (b3.mono B2d.out.size)); have D3 := Lib.hid (D2d.out.below b3); clear b3))
  go_wp2
  go_ret2
  exact ⟨rfl, B3.out⟩
end Go.Proofs.YtckhomeokhhneaaDoor
