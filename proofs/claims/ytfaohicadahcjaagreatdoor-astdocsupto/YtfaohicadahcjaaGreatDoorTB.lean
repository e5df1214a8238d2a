/- The document's leaves. Conditions: lengths below a bound. -/
import Derived.Test.YtfaohicadahcjaaGreatDoorTA
namespace Go.Proofs.YtfaohicadahcjaaGreatDoor
open Go.RowKit Go.PlainAid Go.ChangeShapes Go.WideShapes Go.ChangeAt
set_option linter.unusedSimpArgs false
set_option linter.unusedVariables false
set_option maxHeartbeats 2000000 in
set_option maxRecDepth 100000 in
theorem lit56 (n : Nat) (v : Value) (l : List Pt) (w : World) (h : WdAt n w v l) : Calls Tryz.prog 56 #[v] w fun e w' => e = .returned (.bool (litB l)) ∧ w = w' := by
  have hlen := at_len _ _ _ _ h
  obtain ⟨a, c, rfl⟩ := wd_shape _ _ _ _ h
  rcases l with _ | ⟨p, _ | ⟨p2, r⟩⟩
  · clear h hlen
    go_enter Tryz.func56, Tryz.ntmps56
    go_wp2
    go_ret
    exact ⟨rfl, rfl⟩
  · obtain ⟨m, b1, off, c', wa, wc, ba, bc, _, e, hc, hfit, _, c0, c1, c2, c3, c4, c5⟩ := wd_at2 h 0 (by simp)
    have hk := eq_int p.kind 1
    have HE : Hid (litB [p] = decide (p.kind = 1)) := Lib.hid rfl
    rw [HE.out]
    cases e
    simp only [List.getElem_cons_zero, Nat.zero_mul, Nat.add_zero] at c0
    generalize decide (p.kind = 1) = b0 at hk ⊢
    clear h hfit c1 c2 c3 c4 c5
    simp only [List.length_cons, List.length_nil, Nat.zero_add] at hc ⊢
    cases b0
    all_goals (
      go_enter Tryz.func56, Tryz.ntmps56
      go_wp2
      go_ret
      exact ⟨rfl, rfl⟩)
  · have HE : Hid (litB (p :: p2 :: r) = false) := Lib.hid rfl
    rw [HE.out]
    obtain ⟨q, Hq⟩ : ∃ q, Hid ((p :: p2 :: r).length = q) := ⟨_, Lib.hid rfl⟩
    have hq : 2 ≤ q := by rw [← Hq.out]; simp
    rw [Hq.out] at hlen ⊢
    have z0 : (q == 0) = false := by simp; omega
    have z1 : (q == 1) = false := by simp; omega
    have z2 : ((q : Int) == 0) = false := by simp; omega
    have z3 : ((q : Int) == 1) = false := by simp; omega
    clear h
    go_enter Tryz.func56, Tryz.ntmps56
    go_wp2
    go_ret
    exact ⟨rfl, rfl⟩
/-- May a byte be in a Lit? -/
def okQ (q : Bool) (b : UInt8) : Bool := if q then b != 0 else bareN b.toNat
theorem okQ_is (q : Bool) (x : UInt8) : okQ q x = if q then !decide (x.toNat = 0) else bareN x.toNat := by
  unfold okQ
  cases q
  · rfl
  · simp only [if_true]
    rw [Bool.eq_iff_iff, bne_iff_ne, Bool.not_eq_true', decide_eq_false_iff_not]
    constructor
    · intro h e; exact h (UInt8.toNat_inj.1 e)
    · intro h e; exact h (by rw [e]; rfl)
theorem bytesB_ok (t : ByteArray) (q : Bool) : bytesB t q = ((ls t).all (okQ q) && (q || !emB t)) := by
  unfold bytesB
  generalize ls t = l
  cases q
  · have : (fun b : UInt8 => bareN b.toNat) = okQ false := by funext b; rfl
    simp [this]
  · simp only [if_true, Bool.true_or, Bool.and_true]
    rw [Bool.eq_iff_iff, List.all_eq_true, Bool.not_eq_true', List.contains_eq_mem, decide_eq_false_iff_not]
    constructor
    · intro h x hx
      show (x != 0) = true
      rw [bne_iff_ne]
      intro e; exact h (e ▸ hx)
    · intro h hx; have := h 0 hx; exact absurd this (by decide)
theorem all_cutb (f : UInt8 → Bool) (s : ByteArray) (k : Nat) (h : k < (ls s).length) : ((ls s).drop k).all f = (f (ls s)[k] && ((ls s).drop (k + 1)).all f) := by
  rw [List.drop_eq_getElem_cons h, List.all_cons]
def RelB (f : UInt8 → Bool) (s : ByteArray) (i : Value) : Prop := ∃ k : Nat, k ≤ s.size ∧ i = .int .i64 k ∧ Hid ((ls s).all f = ((ls s).drop k).all f)
set_option maxHeartbeats 4000000 in
set_option maxRecDepth 100000 in
theorem lit110 (q : Bool) (t o : ByteArray) (wa ba : Option Addr) (nw wc nb bc : Nat) (w : World) (ht : t.size ≤ 1048576) : Calls Tryz.prog 110 #[.agg #[.int .i64 1, .bool q, .string t, .string o, .slice wa nw wc, .slice ba nb bc]] w fun e w' => e = .returned (.bool (emB o && decide (nw = 0) && decide (nb = 0) && bytesB t q)) ∧ Below w.heap.size w w' := by
  have hb := get_bt t
  have HB := Lib.hid ((Below.refl w.heap.size w).alloc (Nat.le_refl _) (.cells #[.int .i64 1, .bool q, .string t, .string o, .slice wa nw wc, .slice ba nb bc] 86))
  have HH := Lib.hid (heap_alloc_new w (.cells #[.int .i64 1, .bool q, .string t, .string o, .slice wa nw wc, .slice ba nb bc] 86))
  have HY := Lib.hid (bytesB_ok t q)
  rw [HY.out]
  have z1a := emp_is o
  obtain ⟨z1, H1⟩ : ∃ b, Hid (emB o = b) := ⟨_, Lib.hid rfl⟩
  rw [H1.out] at z1a ⊢
  have z2a := eqz nw 0
  have z2b := eqzI nw
  obtain ⟨z2, H2⟩ : ∃ b, Hid (decide (nw = 0) = b) := ⟨_, Lib.hid rfl⟩
  rw [H2.out] at z2a z2b ⊢
  have z3a := eqz nb 0
  have z3b := eqzI nb
  obtain ⟨z3, H3⟩ : ∃ b, Hid (decide (nb = 0) = b) := ⟨_, Lib.hid rfl⟩
  rw [H3.out] at z3a z3b ⊢
  have z4a := emp_is t
  obtain ⟨z4, H4⟩ : ∃ b, Hid (emB t = b) := ⟨_, Lib.hid rfl⟩
  rw [H4.out] at z4a ⊢
  have z4b : (t.toList != []) = !z4 := by rw [bne, z4a]
  obtain ⟨A, HA⟩ : ∃ A, Hid ((ls t).all (okQ q) = A) := ⟨_, Lib.hid rfl⟩
  rw [HA.out]
  go_enter Tryz.func110, Tryz.ntmps110
  go_upto_region 1 with fail
  generalize w.alloc (.cells #[.int .i64 1, .bool q, .string t, .string o, .slice wa nw wc, .slice ba nb bc] 86) = w1 at HB HH ⊢
  have p0 : w1.cell? ⟨w.heap.size, 0, none⟩ = some (.int .i64 1) := cells_at HH.out (i := 0) rfl
  have p1 : w1.cell? ⟨w.heap.size, 1, none⟩ = some (.bool q) := cells_at HH.out (i := 1) rfl
  have p2 : w1.cell? ⟨w.heap.size, 2, none⟩ = some (.string t) := cells_at HH.out (i := 2) rfl
  have p3 : w1.cell? ⟨w.heap.size, 3, none⟩ = some (.string o) := cells_at HH.out (i := 3) rfl
  have p4 : w1.cell? ⟨w.heap.size, 4, none⟩ = some (.slice wa nw wc) := cells_at HH.out (i := 4) rfl
  have p5 : w1.cell? ⟨w.heap.size, 5, none⟩ = some (.slice ba nb bc) := cells_at HH.out (i := 5) rfl
  go_wp2
  go_loop [3] (RelB (okQ q) t) (fun i => t.size - (intOf i).toNat)
  case atStart => exact ⟨0, Nat.zero_le _, rfl, Lib.hid (by simp)⟩
  case round =>
    obtain ⟨k, hk, rfl, HR⟩ := hrel
    by_cases hlt : k < t.size
    · have hlt2 : k < (ls t).length := by rw [ls_len]; exact hlt
      have HC := Lib.hid (all_cutb (okQ q) t k hlt2)
      have hc := at0_lt (ls t) k
      have hbt := bt_at t k
      have C := Lib.hid fun W => bare22 (at0 (ls t) k) hc W
      have Hf : Hid (okQ q (ls t)[k] = if q then !decide (at0 (ls t) k = 0) else bareN (at0 (ls t) k)) := Lib.hid (by rw [at0_of hlt2]; exact okQ_is q _)
      have hz := eqzI (at0 (ls t) k)
      generalize decide (at0 (ls t) k = 0) = y1 at hz Hf
      generalize bareN (at0 (ls t) k) = y2 at C Hf
      generalize at0 (ls t) k = ch at hbt hz C hc
      cases q
      · cases y2
        · have HF : Hid (A = false) := Lib.hid (by rw [← HA.out, HR.out, HC.out, Hf.out]; rfl)
          go_wp2_with (go_at_call 22; refine (C.out _).mono ?_; rintro e w' ⟨rfl, rfl⟩)
          go_ret
          rw [HF.out]; exact ⟨by simp, HB.out⟩
        · go_wp2_with (go_at_call 22; refine (C.out _).mono ?_; rintro e w' ⟨rfl, rfl⟩)
          go_round
          case rel => exact ⟨k + 1, hlt, vi (Int.natCast_succ k).symm, Lib.hid (by rw [HR.out, HC.out, Hf.out]; rfl)⟩
          case measure => exact sz_meas hlt
      · cases y1
        · go_wp2
          go_round
          case rel => exact ⟨k + 1, hlt, vi (Int.natCast_succ k).symm, Lib.hid (by rw [HR.out, HC.out, Hf.out]; rfl)⟩
          case measure => exact sz_meas hlt
        · have HF : Hid (A = false) := Lib.hid (by rw [← HA.out, HR.out, HC.out, Hf.out]; rfl)
          go_wp2
          go_ret
          rw [HF.out]; exact ⟨by simp, HB.out⟩
    · have hkq : t.size = k := sz_eq hlt hk
      have HF : Hid (A = true) := Lib.hid (by rw [← HA.out, HR.out, List.drop_of_length_le (by rw [ls_len, hkq]; exact Nat.le_refl _)]; rfl)
      have hnl : decide ((k : Int) < (t.size : Int)) = false := by rw [hkq]; simp
      have hnl2 : decide (k < t.size) = false := by rw [hkq]; simp
      clear hkq
      cases z1 <;> cases z2 <;> cases z3 <;> cases q <;> cases z4
      all_goals (
        go_wp2
        go_ret
        first | (rw [HF.out]; exact ⟨rfl, HB.out⟩) | exact ⟨rfl, HB.out⟩)
/-- Is each list one command? -/
def aloneB (l : List (List Nd)) : Bool := l.all fun y => decide (y.length = 1)
def RelC {α : Type} (f : α → Bool) (l : List α) (i : Value) : Prop := ∃ k : Nat, k ≤ l.length ∧ i = .int .i64 k ∧ Hid (l.all f = (l.drop k).all f)
set_option maxHeartbeats 4000000 in
set_option maxRecDepth 100000 in
theorem alone92 (n : Nat) (kd : Int) (nm : ByteArray) (a1 a2 a3 a4 a5 : Option Addr) (m1 m2 m3 m5 : Nat) (c1 c2 c3 c4 c5 : Nat) (l : List (List Nd)) (w : World) (h : LsAt n w (.slice a4 l.length c4) l) :
    Calls Tryz.prog 92 #[.agg #[.int .i64 kd, .string nm, .slice a1 m1 c1, .slice a2 m2 c2, .slice a3 m3 c3, .slice a4 l.length c4, .slice a5 m5 c5]] w fun e w' => e = .returned (.bool (aloneB l)) ∧ Below w.heap.size w w' := by
  have HL := Lib.hid h
  have hlen := h.len
  obtain ⟨q, Hq⟩ : ∃ q, Hid (l.length = q) := ⟨_, Lib.hid rfl⟩
  rw [Hq.out] at HL hlen ⊢
  have HB := Lib.hid ((Below.refl w.heap.size w).alloc (Nat.le_refl _) (.cells #[.int .i64 kd, .string nm, .slice a1 m1 c1, .slice a2 m2 c2, .slice a3 m3 c3, .slice a4 q c4, .slice a5 m5 c5] 64))
  have HH := Lib.hid (heap_alloc_new w (.cells #[.int .i64 kd, .string nm, .slice a1 m1 c1, .slice a2 m2 c2, .slice a3 m3 c3, .slice a4 q c4, .slice a5 m5 c5] 64))
  obtain ⟨A, HA⟩ : ∃ A, Hid (aloneB l = A) := ⟨_, Lib.hid rfl⟩
  have HA2 : Hid (l.all (fun y : List Nd => decide (y.length = 1)) = A) := HA
  rw [HA.out]
  clear h
  go_enter Tryz.func92, Tryz.ntmps92
  go_upto_region 1 with fail
  generalize w.alloc (.cells #[.int .i64 kd, .string nm, .slice a1 m1 c1, .slice a2 m2 c2, .slice a3 m3 c3, .slice a4 q c4, .slice a5 m5 c5] 64) = w1 at HB HH ⊢
  have p5 : w1.cell? ⟨w.heap.size, 5, none⟩ = some (.slice a4 q c4) := cells_at HH.out (i := 5) rfl
  go_wp2
  go_loop [3] (RelC (fun y : List Nd => decide (y.length = 1)) l) (fun i => q - (intOf i).toNat)
  case atStart => exact ⟨0, Nat.zero_le _, rfl, Lib.hid (by simp)⟩
  case round =>
    obtain ⟨k, hk, rfl, HR⟩ := hrel
    rw [Hq.out] at hk
    by_cases hlt : k < q
    · have hlt' : k < l.length := by rw [Hq.out]; exact hlt
      obtain ⟨b, off, c', u, e, hc, hcell, hu⟩ := one_at HL.out k hlt'
      obtain ⟨ua, uc, rfl⟩ := ns_shape _ _ _ _ hu
      have HC := Lib.hid (all_step (fun y : List Nd => decide (y.length = 1)) l k hlt')
      rw [Hq.out] at e hc
      cases e
      replace hcell := cell_low hcell HB.out
      generalize l[k].length = nx at hcell HC
      obtain ⟨y, Hy⟩ : ∃ b, Hid (decide (nx = 1) = b) := ⟨_, Lib.hid rfl⟩
      have z1 : (nx != 1) = !y := by rw [bne, eqz, Hy.out]
      have z2 : ((nx : Int) != 1) = !y := by rw [bne, eq_int, ← Hy.out]; congr 1; exact decide_eq_decide.2 (by omega)
      rw [Hy.out] at HC
      clear hu
      cases y
      · have HF : Hid (A = false) := Lib.hid (by rw [← HA2.out, HR.out, HC.out]; rfl)
        go_wp2
        go_ret
        rw [HF.out]; exact ⟨rfl, HB.out⟩
      · go_wp2
        go_round
        case rel => exact ⟨k + 1, hlt', vi (Int.natCast_succ k).symm, Lib.hid (by rw [HR.out, HC.out]; rfl)⟩
        case measure => exact sz_meas hlt
    · have hkq : q = k := sz_eq hlt hk
      subst hkq
      have HF : Hid (A = true) := Lib.hid (by rw [← HA2.out, HR.out, List.drop_of_length_le (by rw [Hq.out]; exact Nat.le_refl _)]; rfl)
      go_wp2
      go_ret
      rw [HF.out]; exact ⟨rfl, HB.out⟩
end Go.Proofs.YtfaohicadahcjaaGreatDoor
