/- The document's parts. Conditions: lengths below a bound. -/
import Derived.Test.YtfaohicadahcjaaGreatDoorTB
import Derived.Test.YtfaohicadahcjaaGreatDoorTD
namespace Go.Proofs.YtfaohicadahcjaaGreatDoor
open Go.RowKit Go.PlainAid Go.ChangeShapes Go.WideShapes Go.ChangeAt
set_option linter.unusedSimpArgs false
set_option linter.unusedVariables false
/-! A part, as the document has it. -/
def Lv (lev deep : Int) : Prop := 1 ≤ lev ∧ lev ≤ 1001 ∧ deep ≤ 1000 ∧ -9223372036854775808 ≤ deep
/-- What the document's calls answer, of trees of so many levels. -/
structure DGood (n : Nat) : Prop where
  w : ∀ (v : Value) (l : List Pt) (w : World) (lev deep : Int) (some : Bool), WdAt n w v l → Lv lev deep → Calls Tryz.prog 62 #[v, .int .i64 lev, .int .i64 deep, .bool some] w fun e w' => e = .returned (.bool ((rgt n).1 l (deep - lev + 1) && (!z0 l || !some))) ∧ Below w.heap.size w w'
  c : ∀ (v : Value) (l : List Nd) (w : World) (lev deep : Int) (none : Bool), NsAt n w v l → Lv lev deep → Calls Tryz.prog 12 #[v, .int .i64 lev, .int .i64 deep, .bool none] w fun e w' => e = .returned (.bool ((rgt n).2 l (deep - lev + 1) && (none || !z0 l))) ∧ Below w.heap.size w w'
def paramD (zb N M S E Ln zw Pc bg O Sh Wr : Bool) : Bool :=
  if !zb || (!(N || M) && !S) then false
  else if E || Ln then zw && (E || (N || M))
  else if Pc && bg then false
  else O && !Sh && Wr
theorem paramD_is : ∀ zb N M S E Ln zw Pc bg O Sh Wr : Bool, ((N || M) = true → Sh = false) → (zb && (if E then zw && ((N || M) || S) else if Ln then zw && (N || M) else if !O || (Pc && bg) then false else ((N || M) || (S && !Sh)) && Wr)) = paramD zb N M S E Ln zw Pc bg O Sh Wr := by decide +kernel
theorem var_sh (t : List UInt8) (h : (nameL t || numL t) = true) : isSh t = false := by
  rw [Bool.eq_false_iff]
  intro e
  have : t = [35] := by simpa [isSh] using e
  subst this
  revert h
  decide
theorem pre37 (t : ByteArray) : Lib.hasPrefix (ls t) [37] = (!emB t && decide (at0 (ls t) 0 = 37)) := by
  rw [emB_size, ← ls_len]
  generalize ls t = l
  cases l with
  | nil => rfl
  | cons b r =>
    have : at0 (b :: r) 0 = b.toNat := rfl
    rw [this]
    show List.isPrefixOf [37] (b :: r) = _
    rw [List.isPrefixOf_cons_cons, Bool.eq_iff_iff]
    simp
    constructor
    · intro e; rw [← e]; rfl
    · intro e; exact (UInt8.toNat_inj.1 e).symm
/-- What stands ahead of a word's first byte. -/
def FstOk (w : World) (wa : Option Addr) (nw : Nat) (bg : Bool) : Prop :=
  (nw = 0 ∧ bg = false) ∨ ∃ b off k0 q0 t0, wa = some ⟨b, off, none⟩ ∧ 0 < nw ∧ w.cell? ⟨b, off, none⟩ = some (.int .i64 k0) ∧ w.cell? ⟨b, off + 1, none⟩ = some (.bool q0) ∧ w.cell? ⟨b, off + 2, none⟩ = some (.string t0) ∧ bg = (decide (k0 = 1) && !q0 && (!emB t0 && decide (at0 (ls t0) 0 = 37)))
set_option maxHeartbeats 16000000 in
set_option maxRecDepth 100000 in
theorem part89_deep (k : Int) (q : Bool) (t o : ByteArray) (wa ba : Option Addr) (nw wc nb bc : Nat) (w : World) (lev deep : Int) (hd : deep < lev) : Calls Tryz.prog 89 #[.agg #[.int .i64 k, .bool q, .string t, .string o, .slice wa nw wc, .slice ba nb bc], .int .i64 lev, .int .i64 deep] w fun e w' => e = .returned (.bool false) ∧ Below w.heap.size w w' := by
  have HB := Lib.hid ((Below.refl w.heap.size w).alloc (Nat.le_refl _) (.cells #[.int .i64 k, .bool q, .string t, .string o, .slice wa nw wc, .slice ba nb bc] 86))
  have HH := Lib.hid (heap_alloc_new w (.cells #[.int .i64 k, .bool q, .string t, .string o, .slice wa nw wc, .slice ba nb bc] 86))
  have hd1 : decide (deep < lev) = true := decide_eq_true hd
  go_enter Tryz.func89, Tryz.ntmps89
  go_upto_region 1 with fail
  generalize w.alloc (.cells #[.int .i64 k, .bool q, .string t, .string o, .slice wa nw wc, .slice ba nb bc] 86) = w1 at HB HH ⊢
  have p0 : w1.cell? ⟨w.heap.size, 0, none⟩ = some (.int .i64 k) := cells_at HH.out (i := 0) rfl
  have p1 : w1.cell? ⟨w.heap.size, 1, none⟩ = some (.bool q) := cells_at HH.out (i := 1) rfl
  have p2 : w1.cell? ⟨w.heap.size, 2, none⟩ = some (.string t) := cells_at HH.out (i := 2) rfl
  have p3 : w1.cell? ⟨w.heap.size, 3, none⟩ = some (.string o) := cells_at HH.out (i := 3) rfl
  have p4 : w1.cell? ⟨w.heap.size, 4, none⟩ = some (.slice wa nw wc) := cells_at HH.out (i := 4) rfl
  have p5 : w1.cell? ⟨w.heap.size, 5, none⟩ = some (.slice ba nb bc) := cells_at HH.out (i := 5) rfl
  have hbw := HB.out
  clear HB HH
  go_wp2
  go_ret
  exact ⟨rfl, hbw⟩
set_option maxHeartbeats 16000000 in
set_option maxRecDepth 100000 in
theorem part89_x (k : Int) (k1 : (k == 1) = false) (k2 : (k == 2) = false) (k3 : (k == 3) = false) (k4 : (k == 4) = false) (q : Bool) (t o : ByteArray) (wa ba : Option Addr) (nw wc nb bc : Nat) (w : World) (lev deep : Int) (hd : decide (deep < lev) = false) : Calls Tryz.prog 89 #[.agg #[.int .i64 k, .bool q, .string t, .string o, .slice wa nw wc, .slice ba nb bc], .int .i64 lev, .int .i64 deep] w fun e w' => e = .returned (.bool false) ∧ Below w.heap.size w w' := by
  have HB := Lib.hid ((Below.refl w.heap.size w).alloc (Nat.le_refl _) (.cells #[.int .i64 k, .bool q, .string t, .string o, .slice wa nw wc, .slice ba nb bc] 86))
  have HH := Lib.hid (heap_alloc_new w (.cells #[.int .i64 k, .bool q, .string t, .string o, .slice wa nw wc, .slice ba nb bc] 86))
  go_enter Tryz.func89, Tryz.ntmps89
  go_upto_region 1 with fail
  generalize w.alloc (.cells #[.int .i64 k, .bool q, .string t, .string o, .slice wa nw wc, .slice ba nb bc] 86) = w1 at HB HH ⊢
  have p0 : w1.cell? ⟨w.heap.size, 0, none⟩ = some (.int .i64 k) := cells_at HH.out (i := 0) rfl
  have p1 : w1.cell? ⟨w.heap.size, 1, none⟩ = some (.bool q) := cells_at HH.out (i := 1) rfl
  have p2 : w1.cell? ⟨w.heap.size, 2, none⟩ = some (.string t) := cells_at HH.out (i := 2) rfl
  have p3 : w1.cell? ⟨w.heap.size, 3, none⟩ = some (.string o) := cells_at HH.out (i := 3) rfl
  have p4 : w1.cell? ⟨w.heap.size, 4, none⟩ = some (.slice wa nw wc) := cells_at HH.out (i := 4) rfl
  have p5 : w1.cell? ⟨w.heap.size, 5, none⟩ = some (.slice ba nb bc) := cells_at HH.out (i := 5) rfl
  have hbw := HB.out
  clear HB HH
  go_wp2
  go_ret
  exact ⟨rfl, hbw⟩
set_option maxHeartbeats 16000000 in
set_option maxRecDepth 100000 in
theorem part89_1 (q : Bool) (t o : ByteArray) (wa ba : Option Addr) (nw wc nb bc : Nat) (w : World) (lev deep : Int) (hd : decide (deep < lev) = false) (ht : t.size ≤ 1048576) : Calls Tryz.prog 89 #[.agg #[.int .i64 1, .bool q, .string t, .string o, .slice wa nw wc, .slice ba nb bc], .int .i64 lev, .int .i64 deep] w fun e w' => e = .returned (.bool (emB o && decide (nw = 0) && decide (nb = 0) && bytesB t q)) ∧ Below w.heap.size w w' := by
  have HB := Lib.hid ((Below.refl w.heap.size w).alloc (Nat.le_refl _) (.cells #[.int .i64 1, .bool q, .string t, .string o, .slice wa nw wc, .slice ba nb bc] 86))
  have HH := Lib.hid (heap_alloc_new w (.cells #[.int .i64 1, .bool q, .string t, .string o, .slice wa nw wc, .slice ba nb bc] 86))
  have C := Lib.hid fun W => lit110 q t o wa ba nw wc nb bc W ht
  go_enter Tryz.func89, Tryz.ntmps89
  go_upto_region 1 with fail
  generalize w.alloc (.cells #[.int .i64 1, .bool q, .string t, .string o, .slice wa nw wc, .slice ba nb bc] 86) = w1 at HB HH ⊢
  have p0 : w1.cell? ⟨w.heap.size, 0, none⟩ = some (.int .i64 1) := cells_at HH.out (i := 0) rfl
  have p1 : w1.cell? ⟨w.heap.size, 1, none⟩ = some (.bool q) := cells_at HH.out (i := 1) rfl
  have p2 : w1.cell? ⟨w.heap.size, 2, none⟩ = some (.string t) := cells_at HH.out (i := 2) rfl
  have p3 : w1.cell? ⟨w.heap.size, 3, none⟩ = some (.string o) := cells_at HH.out (i := 3) rfl
  have p4 : w1.cell? ⟨w.heap.size, 4, none⟩ = some (.slice wa nw wc) := cells_at HH.out (i := 4) rfl
  have p5 : w1.cell? ⟨w.heap.size, 5, none⟩ = some (.slice ba nb bc) := cells_at HH.out (i := 5) rfl
  have hbw := HB.out
  clear HB HH
  go_wp2_with fail
  refine (C.out _).mono ?_
  rintro e w2 ⟨rfl, hb⟩
  replace hbw := hbw.trans (hb.mono hbw.size)
  clear hb p0 p1 p2 p3 p4 p5
  go_wp2
  go_ret
  exact ⟨rfl, hbw⟩
set_option maxHeartbeats 16000000 in
set_option maxRecDepth 100000 in
theorem part89_3 (q : Bool) (t o : ByteArray) (wa ba : Option Addr) (nw wc nb bc : Nat) (w : World) (lev deep : Int) (hd : decide (deep < lev) = false) (hl : Lv lev deep) (r : Bool) (HC : ∀ W, Below w.heap.size w W → Calls Tryz.prog 12 #[.slice ba nb bc, .int .i64 (lev + 1), .int .i64 deep, .bool true] W fun e w' => e = .returned (.bool r) ∧ Below W.heap.size W w') : Calls Tryz.prog 89 #[.agg #[.int .i64 3, .bool q, .string t, .string o, .slice wa nw wc, .slice ba nb bc], .int .i64 lev, .int .i64 deep] w fun e w' => e = .returned (.bool (emB t && emB o && decide (nw = 0) && r)) ∧ Below w.heap.size w w' := by
  have HB := Lib.hid ((Below.refl w.heap.size w).alloc (Nat.le_refl _) (.cells #[.int .i64 3, .bool q, .string t, .string o, .slice wa nw wc, .slice ba nb bc] 86))
  have HH := Lib.hid (heap_alloc_new w (.cells #[.int .i64 3, .bool q, .string t, .string o, .slice wa nw wc, .slice ba nb bc] 86))
  have C := Lib.hid HC
  clear HC
  have hl1 := hl.1
  have hl2 := hl.2.1
  have z1a := emp_is t
  obtain ⟨z1, H1⟩ : ∃ b, Hid (emB t = b) := ⟨_, Lib.hid rfl⟩
  rw [H1.out] at z1a ⊢
  have z2a := emp_is o
  obtain ⟨z2, H2⟩ : ∃ b, Hid (emB o = b) := ⟨_, Lib.hid rfl⟩
  rw [H2.out] at z2a ⊢
  have z3a := eqz nw 0
  have z3b := eqzI nw
  obtain ⟨z3, H3⟩ : ∃ b, Hid (decide (nw = 0) = b) := ⟨_, Lib.hid rfl⟩
  rw [H3.out] at z3a z3b ⊢
  clear hl
  go_enter Tryz.func89, Tryz.ntmps89
  go_upto_region 1 with fail
  generalize w.alloc (.cells #[.int .i64 3, .bool q, .string t, .string o, .slice wa nw wc, .slice ba nb bc] 86) = w1 at HB HH ⊢
  have p0 : w1.cell? ⟨w.heap.size, 0, none⟩ = some (.int .i64 3) := cells_at HH.out (i := 0) rfl
  have p1 : w1.cell? ⟨w.heap.size, 1, none⟩ = some (.bool q) := cells_at HH.out (i := 1) rfl
  have p2 : w1.cell? ⟨w.heap.size, 2, none⟩ = some (.string t) := cells_at HH.out (i := 2) rfl
  have p3 : w1.cell? ⟨w.heap.size, 3, none⟩ = some (.string o) := cells_at HH.out (i := 3) rfl
  have p4 : w1.cell? ⟨w.heap.size, 4, none⟩ = some (.slice wa nw wc) := cells_at HH.out (i := 4) rfl
  have p5 : w1.cell? ⟨w.heap.size, 5, none⟩ = some (.slice ba nb bc) := cells_at HH.out (i := 5) rfl
  have hbw := HB.out
  clear HB HH
  cases z1 <;> cases z2 <;> cases z3
  all_goals (
    go_wp2_with (go_at_call 12; refine (C.out _ hbw).mono ?_; rintro e w2 ⟨rfl, hb⟩; replace p0 := cell_low p0 hb; replace p1 := cell_low p1 hb; replace p2 := cell_low p2 hb; replace p3 := cell_low p3 hb; replace p4 := cell_low p4 hb; replace p5 := cell_low p5 hb; replace hbw := hbw.trans (hb.mono hbw.size); clear hb)
    go_ret
    exact ⟨rfl, hbw⟩)
set_option maxHeartbeats 16000000 in
set_option maxRecDepth 100000 in
theorem part89_4 (q : Bool) (t o : ByteArray) (wa ba : Option Addr) (nw wc nb bc : Nat) (w : World) (lev deep : Int) (hd : decide (deep < lev) = false) (ht : t.size ≤ 1048576) : Calls Tryz.prog 89 #[.agg #[.int .i64 4, .bool q, .string t, .string o, .slice wa nw wc, .slice ba nb bc], .int .i64 lev, .int .i64 deep] w fun e w' => e = .returned (.bool (sumL (ls t) && emB o && decide (nw = 0) && decide (nb = 0))) ∧ Below w.heap.size w w' := by
  have HB := Lib.hid ((Below.refl w.heap.size w).alloc (Nat.le_refl _) (.cells #[.int .i64 4, .bool q, .string t, .string o, .slice wa nw wc, .slice ba nb bc] 86))
  have HH := Lib.hid (heap_alloc_new w (.cells #[.int .i64 4, .bool q, .string t, .string o, .slice wa nw wc, .slice ba nb bc] 86))
  have z2a := emp_is o
  obtain ⟨z2, H2⟩ : ∃ b, Hid (emB o = b) := ⟨_, Lib.hid rfl⟩
  rw [H2.out] at z2a ⊢
  have z3a := eqz nw 0
  have z3b := eqzI nw
  obtain ⟨z3, H3⟩ : ∃ b, Hid (decide (nw = 0) = b) := ⟨_, Lib.hid rfl⟩
  rw [H3.out] at z3a z3b ⊢
  have z4a := eqz nb 0
  have z4b := eqzI nb
  obtain ⟨z4, H4⟩ : ∃ b, Hid (decide (nb = 0) = b) := ⟨_, Lib.hid rfl⟩
  rw [H4.out] at z4a z4b ⊢
  have C := Lib.hid fun W => sum34 t (by omega) W
  generalize sumL (ls t) = z1 at C ⊢
  go_enter Tryz.func89, Tryz.ntmps89
  go_upto_region 1 with fail
  generalize w.alloc (.cells #[.int .i64 4, .bool q, .string t, .string o, .slice wa nw wc, .slice ba nb bc] 86) = w1 at HB HH ⊢
  have p0 : w1.cell? ⟨w.heap.size, 0, none⟩ = some (.int .i64 4) := cells_at HH.out (i := 0) rfl
  have p1 : w1.cell? ⟨w.heap.size, 1, none⟩ = some (.bool q) := cells_at HH.out (i := 1) rfl
  have p2 : w1.cell? ⟨w.heap.size, 2, none⟩ = some (.string t) := cells_at HH.out (i := 2) rfl
  have p3 : w1.cell? ⟨w.heap.size, 3, none⟩ = some (.string o) := cells_at HH.out (i := 3) rfl
  have p4 : w1.cell? ⟨w.heap.size, 4, none⟩ = some (.slice wa nw wc) := cells_at HH.out (i := 4) rfl
  have p5 : w1.cell? ⟨w.heap.size, 5, none⟩ = some (.slice ba nb bc) := cells_at HH.out (i := 5) rfl
  have hbw := HB.out
  clear HB HH
  cases z1 <;> cases z2 <;> cases z3 <;> cases z4
  all_goals (
    go_wp2_with (go_at_call 34; refine (C.out _).mono ?_; rintro e w' ⟨rfl, rfl⟩)
    go_ret
    exact ⟨rfl, hbw⟩)
end Go.Proofs.YtfaohicadahcjaaGreatDoor
