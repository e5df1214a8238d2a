/- Contracts: what may be a part. Conditions: lengths below a bound. -/
import Derived.Test.YtfaohicadahcjaaGreatDoorO
namespace Go.Proofs.YtfaohicadahcjaaGreatDoor
open Go.RowKit Go.PlainAid Go.ChangeShapes Go.WideShapes Go.ChangeAt
set_option linter.unusedSimpArgs false
set_option linter.unusedVariables false
def z0 {α : Type} (l : List α) : Bool := decide (l.length = 0)
def isPc (l : List UInt8) : Bool := l == [37]
def isSh (l : List UInt8) : Bool := l == [35]
def isLen (l : List UInt8) : Bool := l == [108, 101, 110]
def firstPc (w : List Pt) : Bool := match w with | [] => false | p :: _ => Lib.hasPrefix (ls p.text) [37]
def varB (t : List UInt8) : Bool := nameL t || numL t
def paramB (W : List Pt → Int → Bool) (p : Pt) (left : Int) : Bool :=
  if emB p.op then z0 p.word && (varB (ls p.text) || spL (ls p.text))
  else if isLen (ls p.op) then z0 p.word && varB (ls p.text)
  else if !opL (ls p.op) || (isPc (ls p.op) && (beginsB p.word && firstPc p.word)) then false
  else (varB (ls p.text) || (spL (ls p.text) && !isSh (ls p.text))) && W p.word (left - 1)
def partB (W : List Pt → Int → Bool) (C : List Nd → Int → Bool) (p : Pt) (left : Int) : Bool :=
  if p.kind = 1 then emB p.op && z0 p.word && z0 p.body && bytesB p.text p.quoted
  else if p.kind = 2 then z0 p.body && paramB W p left
  else if p.kind = 3 then emB p.text && emB p.op && z0 p.word && C p.body (left - 1)
  else if p.kind = 4 then emB p.op && z0 p.word && z0 p.body && sumL (ls p.text)
  else false
def redB (W : List Pt → Int → Bool) (r : Rd) (left : Int) : Bool :=
  if decide (r.fd < 0) || decide (9 < r.fd) || !W r.word left then false
  else if redLs.contains (ls r.op) then emB r.tag && !z0 r.word
  else if ls r.op == [60, 60] then nameL (ls r.tag) && docB r.tag r.word
  else false
def wordsB (W : List Pt → Int → Bool) (l : List (List Pt)) (left : Int) : Bool := l.all fun w => !z0 w && W w left
def contentB (W : List Pt → Int → Bool) (C : List Nd → Int → Bool) (x : Nd) (left : Int) : Bool :=
  x.assigns.all (fun a => nameL (ls a.name) && W a.word left) && x.redirs.all (fun r => redB W r left) && x.lists.all (fun l => !z0 l && C l left) &&
    x.arms.all (fun a => !z0 a.words && wordsB W a.words left && C a.body left) && wordsB W x.words left
/-- May a word be, may commands be, of trees of so many levels? -/
def rgt : Nat → (List Pt → Int → Bool) × (List Nd → Int → Bool)
  | 0 => (fun _ _ => true, fun _ _ => true)
  | n + 1 => (fun w left => wordB (fun p => decide (1 ≤ left) && partB (rgt n).1 (rgt n).2 p left) none w, fun l left => l.all fun x => decide (1 ≤ left) && shapeB x && contentB (rgt n).1 (rgt n).2 x (left - 1))
def L64 (x : Int) : Prop := -9223372036854775808 ≤ x ∧ x ≤ 9223372036854775807
/-- What the calls answer, of trees of so many levels. -/
structure Good (n : Nat) : Prop where
  w : ∀ (v : Value) (l : List Pt) (w : World) (left : Int), WdAt n w v l → Env w → L64 left → Calls Tryz.prog 86 #[v, .int .i64 left] w fun e w' => e = .returned (.bool ((rgt n).1 l left)) ∧ Below w.heap.size w w'
  c : ∀ (v : Value) (l : List Nd) (w : World) (left : Int), NsAt n w v l → Env w → L64 left → Calls Tryz.prog 40 #[v, .int .i64 left] w fun e w' => e = .returned (.bool ((rgt n).2 l left)) ∧ Below w.heap.size w w'
theorem eqz (n m : Nat) : (n == m) = decide (n = m) := by rw [Bool.eq_iff_iff]; simp
theorem eqzI (n : Nat) : ((n : Int) == 0) = decide (n = 0) := by rw [Bool.eq_iff_iff]; simp; try omega
set_option maxHeartbeats 8000000 in
set_option maxRecDepth 100000 in
theorem part107_1 (left : Int) (q : Bool) (t o : ByteArray) (wa ba : Option Addr) (nw wc nb bc : Nat) (w : World) (ht : t.size ≤ 1048576) : Calls Tryz.prog 107 #[.agg #[.int .i64 1, .bool q, .string t, .string o, .slice wa nw wc, .slice ba nb bc], .int .i64 left] w fun e w' => e = .returned (.bool (emB o && decide (nw = 0) && decide (nb = 0) && bytesB t q)) ∧ Below w.heap.size w w' := by
  have HB := Lib.hid ((Below.refl w.heap.size w).alloc (Nat.le_refl _) (.cells #[.int .i64 1, .bool q, .string t, .string o, .slice wa nw wc, .slice ba nb bc] 55))
  have HH := Lib.hid (heap_alloc_new w (.cells #[.int .i64 1, .bool q, .string t, .string o, .slice wa nw wc, .slice ba nb bc] 55))
  have z1a := emp_is o
  obtain ⟨z1, H1⟩ : ∃ b, Hid (emB o = b) := ⟨_, Lib.hid rfl⟩
  rw [H1.out] at z1a ⊢
  have z2a := eqz nw 0
  have z2b := eqzI nw
  obtain ⟨z2, H2⟩ : ∃ b, Hid (decide (nw = 0) = b) := ⟨_, Lib.hid rfl⟩
  rw [H2.out] at z2a z2b ⊢
  have z3a := eqz nb 0
  have z3b := eqzI nb
  obtain ⟨z3, H3⟩ : ∃ b, Hid (decide (nb = 0) = b) := ⟨_, Lib.hid rfl⟩
  rw [H3.out] at z3a z3b ⊢
  have C := Lib.hid fun W => bytes119 t (by omega) q W
  generalize bytesB t q = z4 at C ⊢
  go_enter Tryz.func107, Tryz.ntmps107
  go_upto_region 1 with fail
  generalize w.alloc (.cells #[.int .i64 1, .bool q, .string t, .string o, .slice wa nw wc, .slice ba nb bc] 55) = w1 at HB HH ⊢
  have p0 : w1.cell? ⟨w.heap.size, 0, none⟩ = some (.int .i64 1) := cells_at HH.out (i := 0) rfl
  have p1 : w1.cell? ⟨w.heap.size, 1, none⟩ = some (.bool q) := cells_at HH.out (i := 1) rfl
  have p2 : w1.cell? ⟨w.heap.size, 2, none⟩ = some (.string t) := cells_at HH.out (i := 2) rfl
  have p3 : w1.cell? ⟨w.heap.size, 3, none⟩ = some (.string o) := cells_at HH.out (i := 3) rfl
  have p4 : w1.cell? ⟨w.heap.size, 4, none⟩ = some (.slice wa nw wc) := cells_at HH.out (i := 4) rfl
  have p5 : w1.cell? ⟨w.heap.size, 5, none⟩ = some (.slice ba nb bc) := cells_at HH.out (i := 5) rfl
  have hbw := HB.out
  clear HB HH
  cases z1 <;> cases z2 <;> cases z3 <;> cases z4
  all_goals (
    go_wp2_with (go_at_call 119; refine (C.out _).mono ?_; rintro e w' ⟨rfl, rfl⟩)
    go_ret
    exact ⟨rfl, hbw⟩)
set_option maxHeartbeats 8000000 in
set_option maxRecDepth 100000 in
theorem part107_2 (left : Int) (q : Bool) (t o : ByteArray) (wa ba : Option Addr) (nw wc nb bc : Nat) (w : World) (r : Bool) (HC : nb = 0 → ∀ W, Below w.heap.size w W → Calls Tryz.prog 120 #[.agg #[.int .i64 2, .bool q, .string t, .string o, .slice wa nw wc, .slice ba nb bc], .int .i64 left] W fun e w' => e = .returned (.bool r) ∧ Below W.heap.size W w') : Calls Tryz.prog 107 #[.agg #[.int .i64 2, .bool q, .string t, .string o, .slice wa nw wc, .slice ba nb bc], .int .i64 left] w fun e w' => e = .returned (.bool (decide (nb = 0) && r)) ∧ Below w.heap.size w w' := by
  have HB := Lib.hid ((Below.refl w.heap.size w).alloc (Nat.le_refl _) (.cells #[.int .i64 2, .bool q, .string t, .string o, .slice wa nw wc, .slice ba nb bc] 55))
  have HH := Lib.hid (heap_alloc_new w (.cells #[.int .i64 2, .bool q, .string t, .string o, .slice wa nw wc, .slice ba nb bc] 55))
  have C := Lib.hid HC
  clear HC
  have z3a := eqz nb 0
  have z3b := eqzI nb
  obtain ⟨z3, H3⟩ : ∃ b, Hid (decide (nb = 0) = b) := ⟨_, Lib.hid rfl⟩
  rw [H3.out] at z3a z3b ⊢
  go_enter Tryz.func107, Tryz.ntmps107
  go_upto_region 1 with fail
  generalize w.alloc (.cells #[.int .i64 2, .bool q, .string t, .string o, .slice wa nw wc, .slice ba nb bc] 55) = w1 at HB HH ⊢
  have p0 : w1.cell? ⟨w.heap.size, 0, none⟩ = some (.int .i64 2) := cells_at HH.out (i := 0) rfl
  have p1 : w1.cell? ⟨w.heap.size, 1, none⟩ = some (.bool q) := cells_at HH.out (i := 1) rfl
  have p2 : w1.cell? ⟨w.heap.size, 2, none⟩ = some (.string t) := cells_at HH.out (i := 2) rfl
  have p3 : w1.cell? ⟨w.heap.size, 3, none⟩ = some (.string o) := cells_at HH.out (i := 3) rfl
  have p4 : w1.cell? ⟨w.heap.size, 4, none⟩ = some (.slice wa nw wc) := cells_at HH.out (i := 4) rfl
  have p5 : w1.cell? ⟨w.heap.size, 5, none⟩ = some (.slice ba nb bc) := cells_at HH.out (i := 5) rfl
  have hbw := HB.out
  clear HB HH
  cases z3
  · go_wp2
    go_ret
    exact ⟨rfl, hbw⟩
  · have C2 := Lib.hid (C.out (of_decide_eq_true H3.out))
    go_wp2_with (go_at_call 120; refine (C2.out _ hbw).mono ?_; rintro e w2 ⟨rfl, hb⟩; replace p0 := cell_low p0 hb; replace p1 := cell_low p1 hb; replace p2 := cell_low p2 hb; replace p3 := cell_low p3 hb; replace p4 := cell_low p4 hb; replace p5 := cell_low p5 hb; replace hbw := hbw.trans (hb.mono hbw.size); clear hb)
    go_ret
    exact ⟨rfl, hbw⟩
set_option maxHeartbeats 8000000 in
set_option maxRecDepth 100000 in
theorem part107_3 (left : Int) (hl : 1 ≤ left) (hl2 : left ≤ 9223372036854775807) (q : Bool) (t o : ByteArray) (wa ba : Option Addr) (nw wc nb bc : Nat) (w : World) (r : Bool) (HC : ∀ W, Below w.heap.size w W → Calls Tryz.prog 40 #[.slice ba nb bc, .int .i64 (left - 1)] W fun e w' => e = .returned (.bool r) ∧ Below W.heap.size W w') : Calls Tryz.prog 107 #[.agg #[.int .i64 3, .bool q, .string t, .string o, .slice wa nw wc, .slice ba nb bc], .int .i64 left] w fun e w' => e = .returned (.bool (emB t && emB o && decide (nw = 0) && r)) ∧ Below w.heap.size w w' := by
  have HB := Lib.hid ((Below.refl w.heap.size w).alloc (Nat.le_refl _) (.cells #[.int .i64 3, .bool q, .string t, .string o, .slice wa nw wc, .slice ba nb bc] 55))
  have HH := Lib.hid (heap_alloc_new w (.cells #[.int .i64 3, .bool q, .string t, .string o, .slice wa nw wc, .slice ba nb bc] 55))
  have C := Lib.hid HC
  clear HC
  have z1a := emp_is t
  obtain ⟨z1, H1⟩ : ∃ b, Hid (emB t = b) := ⟨_, Lib.hid rfl⟩
  rw [H1.out] at z1a ⊢
  have z2a := emp_is o
  obtain ⟨z2, H2⟩ : ∃ b, Hid (emB o = b) := ⟨_, Lib.hid rfl⟩
  rw [H2.out] at z2a ⊢
  have z3a := eqz nw 0
  have z3b := eqzI nw
  obtain ⟨z3, H3⟩ : ∃ b, Hid (decide (nw = 0) = b) := ⟨_, Lib.hid rfl⟩
  rw [H3.out] at z3a z3b ⊢
  go_enter Tryz.func107, Tryz.ntmps107
  go_upto_region 1 with fail
  generalize w.alloc (.cells #[.int .i64 3, .bool q, .string t, .string o, .slice wa nw wc, .slice ba nb bc] 55) = w1 at HB HH ⊢
  have p0 : w1.cell? ⟨w.heap.size, 0, none⟩ = some (.int .i64 3) := cells_at HH.out (i := 0) rfl
  have p1 : w1.cell? ⟨w.heap.size, 1, none⟩ = some (.bool q) := cells_at HH.out (i := 1) rfl
  have p2 : w1.cell? ⟨w.heap.size, 2, none⟩ = some (.string t) := cells_at HH.out (i := 2) rfl
  have p3 : w1.cell? ⟨w.heap.size, 3, none⟩ = some (.string o) := cells_at HH.out (i := 3) rfl
  have p4 : w1.cell? ⟨w.heap.size, 4, none⟩ = some (.slice wa nw wc) := cells_at HH.out (i := 4) rfl
  have p5 : w1.cell? ⟨w.heap.size, 5, none⟩ = some (.slice ba nb bc) := cells_at HH.out (i := 5) rfl
  have hbw := HB.out
  clear HB HH
  cases z1 <;> cases z2 <;> cases z3
  all_goals (
    go_wp2_with (go_at_call 40; refine (C.out _ hbw).mono ?_; rintro e w2 ⟨rfl, hb⟩; replace p0 := cell_low p0 hb; replace p1 := cell_low p1 hb; replace p2 := cell_low p2 hb; replace p3 := cell_low p3 hb; replace p4 := cell_low p4 hb; replace p5 := cell_low p5 hb; replace hbw := hbw.trans (hb.mono hbw.size); clear hb)
    go_ret
    exact ⟨rfl, hbw⟩)
set_option maxHeartbeats 8000000 in
set_option maxRecDepth 100000 in
theorem part107_4 (left : Int) (q : Bool) (t o : ByteArray) (wa ba : Option Addr) (nw wc nb bc : Nat) (w : World) (ht : t.size ≤ 1048576) : Calls Tryz.prog 107 #[.agg #[.int .i64 4, .bool q, .string t, .string o, .slice wa nw wc, .slice ba nb bc], .int .i64 left] w fun e w' => e = .returned (.bool (emB o && decide (nw = 0) && decide (nb = 0) && sumL (ls t))) ∧ Below w.heap.size w w' := by
  have HB := Lib.hid ((Below.refl w.heap.size w).alloc (Nat.le_refl _) (.cells #[.int .i64 4, .bool q, .string t, .string o, .slice wa nw wc, .slice ba nb bc] 55))
  have HH := Lib.hid (heap_alloc_new w (.cells #[.int .i64 4, .bool q, .string t, .string o, .slice wa nw wc, .slice ba nb bc] 55))
  have z1a := emp_is o
  obtain ⟨z1, H1⟩ : ∃ b, Hid (emB o = b) := ⟨_, Lib.hid rfl⟩
  rw [H1.out] at z1a ⊢
  have z2a := eqz nw 0
  have z2b := eqzI nw
  obtain ⟨z2, H2⟩ : ∃ b, Hid (decide (nw = 0) = b) := ⟨_, Lib.hid rfl⟩
  rw [H2.out] at z2a z2b ⊢
  have z3a := eqz nb 0
  have z3b := eqzI nb
  obtain ⟨z3, H3⟩ : ∃ b, Hid (decide (nb = 0) = b) := ⟨_, Lib.hid rfl⟩
  rw [H3.out] at z3a z3b ⊢
  have C := Lib.hid fun W => sum33 t (by omega) W
  generalize sumL (ls t) = z4 at C ⊢
  go_enter Tryz.func107, Tryz.ntmps107
  go_upto_region 1 with fail
  generalize w.alloc (.cells #[.int .i64 4, .bool q, .string t, .string o, .slice wa nw wc, .slice ba nb bc] 55) = w1 at HB HH ⊢
  have p0 : w1.cell? ⟨w.heap.size, 0, none⟩ = some (.int .i64 4) := cells_at HH.out (i := 0) rfl
  have p1 : w1.cell? ⟨w.heap.size, 1, none⟩ = some (.bool q) := cells_at HH.out (i := 1) rfl
  have p2 : w1.cell? ⟨w.heap.size, 2, none⟩ = some (.string t) := cells_at HH.out (i := 2) rfl
  have p3 : w1.cell? ⟨w.heap.size, 3, none⟩ = some (.string o) := cells_at HH.out (i := 3) rfl
  have p4 : w1.cell? ⟨w.heap.size, 4, none⟩ = some (.slice wa nw wc) := cells_at HH.out (i := 4) rfl
  have p5 : w1.cell? ⟨w.heap.size, 5, none⟩ = some (.slice ba nb bc) := cells_at HH.out (i := 5) rfl
  have hbw := HB.out
  clear HB HH
  cases z1 <;> cases z2 <;> cases z3 <;> cases z4
  all_goals (
    go_wp2_with (go_at_call 33; refine (C.out _).mono ?_; rintro e w' ⟨rfl, rfl⟩)
    go_ret
    exact ⟨rfl, hbw⟩)
set_option maxHeartbeats 8000000 in
set_option maxRecDepth 100000 in
theorem part107_x (left k : Int) (k1 : (k == 1) = false) (k2 : (k == 2) = false) (k3 : (k == 3) = false) (k4 : (k == 4) = false) (q : Bool) (t o : ByteArray) (wa ba : Option Addr) (nw wc nb bc : Nat) (w : World) : Calls Tryz.prog 107 #[.agg #[.int .i64 k, .bool q, .string t, .string o, .slice wa nw wc, .slice ba nb bc], .int .i64 left] w fun e w' => e = .returned (.bool false) ∧ Below w.heap.size w w' := by
  have HB := Lib.hid ((Below.refl w.heap.size w).alloc (Nat.le_refl _) (.cells #[.int .i64 k, .bool q, .string t, .string o, .slice wa nw wc, .slice ba nb bc] 55))
  have HH := Lib.hid (heap_alloc_new w (.cells #[.int .i64 k, .bool q, .string t, .string o, .slice wa nw wc, .slice ba nb bc] 55))
  go_enter Tryz.func107, Tryz.ntmps107
  go_upto_region 1 with fail
  generalize w.alloc (.cells #[.int .i64 k, .bool q, .string t, .string o, .slice wa nw wc, .slice ba nb bc] 55) = w1 at HB HH ⊢
  have p0 : w1.cell? ⟨w.heap.size, 0, none⟩ = some (.int .i64 k) := cells_at HH.out (i := 0) rfl
  have p1 : w1.cell? ⟨w.heap.size, 1, none⟩ = some (.bool q) := cells_at HH.out (i := 1) rfl
  have p2 : w1.cell? ⟨w.heap.size, 2, none⟩ = some (.string t) := cells_at HH.out (i := 2) rfl
  have p3 : w1.cell? ⟨w.heap.size, 3, none⟩ = some (.string o) := cells_at HH.out (i := 3) rfl
  have p4 : w1.cell? ⟨w.heap.size, 4, none⟩ = some (.slice wa nw wc) := cells_at HH.out (i := 4) rfl
  have p5 : w1.cell? ⟨w.heap.size, 5, none⟩ = some (.slice ba nb bc) := cells_at HH.out (i := 5) rfl
  have hbw := HB.out
  clear HB HH
  go_wp2
  go_ret
  exact ⟨rfl, hbw⟩
end Go.Proofs.YtfaohicadahcjaaGreatDoor
