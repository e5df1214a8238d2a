/- Contracts: begins, what stands behind, bytes that may be. No condition. -/
import Derived.Test.YtfaohicadahcjaaGreatDoorE
namespace Go.Proofs.YtfaohicadahcjaaGreatDoor
open Go.RowKit Go.PlainAid Go.ChangeShapes Go.WideShapes Go.ChangeAt
set_option linter.unusedSimpArgs false
set_option linter.unusedVariables false

/-- A part of a word, its cells. -/
theorem wd_at {n : Nat} {w : World} {v : Value} {l : List Pt} (h : WdAt n w v l) (i : Nat) (hi : i < l.length) :
    ∃ m b off c wv bv, n = m + 1 ∧ v = .slice (some ⟨b, off, none⟩) l.length c ∧ l.length ≤ c ∧ PtFits l[i] ∧ WdAt m w wv l[i].word ∧ NsAt m w bv l[i].body ∧
      w.cell? ⟨b, off + i * 6, none⟩ = some (.int .i64 l[i].kind) ∧ w.cell? ⟨b, off + i * 6 + 1, none⟩ = some (.bool l[i].quoted) ∧ w.cell? ⟨b, off + i * 6 + 2, none⟩ = some (.string l[i].text) ∧
      w.cell? ⟨b, off + i * 6 + 3, none⟩ = some (.string l[i].op) ∧ w.cell? ⟨b, off + i * 6 + 4, none⟩ = some wv ∧ w.cell? ⟨b, off + i * 6 + 5, none⟩ = some bv := by
  cases n with
  | zero => obtain ⟨rfl, _⟩ := h; simp at hi
  | succ m =>
    obtain ⟨b, off, c, cs, hv, hc, hx, wv, bv, rfl, hf, h1, h2⟩ := Seg.at h i hi
    exact ⟨m, b, off, c, wv, bv, rfl, hv, hc, hf, h1, h2, hx 0 _ rfl, hx 1 _ rfl, hx 2 _ rfl, hx 3 _ rfl, hx 4 _ rfl, hx 5 _ rfl⟩
theorem beg_cons (p : Pt) (r : List Pt) : beginsB (p :: r) = (decide (p.kind = 1) && !p.quoted) := rfl
theorem eq_int (a b : Int) : (a == b) = decide (a = b) := by rw [Bool.eq_iff_iff]; simp
theorem ne_int (a b : Int) : (a != b) = !decide (a = b) := by rw [bne, eq_int]

set_option maxHeartbeats 2000000 in
set_option maxRecDepth 100000 in
theorem begins106 (n : Nat) (v : Value) (l : List Pt) (w : World) (h : WdAt n w v l) : Calls Tryz.prog 106 #[v] w fun e w' => e = .returned (.bool (beginsB l)) ∧ w = w' := by
  rcases l with _ | ⟨p, r⟩
  · obtain ⟨a, c, rfl⟩ := wd_shape _ _ _ _ h
    clear h
    go_enter Tryz.func106, Tryz.ntmps106
    go_wp2
    go_ret
    exact ⟨rfl, rfl⟩
  · obtain ⟨m, b, off, c, wv, bv, _, rfl, hc, _, _, _, c0, c1, _⟩ := wd_at h 0 (by simp)
    have hl := at_len _ _ _ _ h
    simp only [List.getElem_cons_zero, Nat.zero_mul, Nat.add_zero, List.length_cons] at c0 c1 hc hl ⊢
    have HB : Hid (beginsB (p :: r) = (decide (p.kind = 1) && !p.quoted)) := Lib.hid rfl
    have hk := eq_int p.kind 1
    obtain ⟨q, Hq⟩ : ∃ q, Hid (r.length + 1 = q) := ⟨_, Lib.hid rfl⟩
    rw [Hq.out] at hc hl ⊢
    have hpos : 0 < q := by rw [← Hq.out]; omega
    have hpos2 : decide (0 < q) = true := decide_eq_true hpos
    have hpos3 : decide (0 < (q : Int)) = true := decide_eq_true (by omega)
    clear h
    generalize decide (p.kind = 1) = b0 at hk HB
    generalize p.quoted = b1 at c1 HB
    cases b0 <;> cases b1
    all_goals (
      go_enter Tryz.func106, Tryz.ntmps106
      go_wp2
      go_ret
      exact ⟨by rw [HB.out]; rfl, rfl⟩)
set_option maxHeartbeats 2000000 in
set_option maxRecDepth 100000 in
theorem behind108 (k1 k2 : Int) (q1 q2 : Bool) (t1 o1 t2 o2 : ByteArray) (a1 b1 a2 b2 : Value) (w : World) :
    Calls Tryz.prog 108 #[.agg #[.int .i64 k1, .bool q1, .string t1, .string o1, a1, b1], .agg #[.int .i64 k2, .bool q2, .string t2, .string o2, a2, b2]] w fun e w' =>
      e = .returned (.bool (if k2 ≠ 1 then true else if k1 = 1 then q1 != q2 else !emB t2 || !q1)) ∧ Below w.heap.size w w' := by
  have h1 := eq_int k1 1
  have h2 := ne_int k2 1
  have h3 : (t2.toList != []) = !emB t2 := by rw [bne, emp_is]
  have h3' : (t2.toList == []) = emB t2 := emp_is t2
  obtain ⟨b0, H0⟩ : ∃ b, decide (k1 = 1) = b := ⟨_, rfl⟩
  obtain ⟨b1, H1⟩ : ∃ b, decide (k2 = 1) = b := ⟨_, rfl⟩
  have HR : Hid ((if k2 ≠ 1 then true else if k1 = 1 then q1 != q2 else !emB t2 || !q1) = (!b1 || (bif b0 then q1 != q2 else !emB t2 || !q1))) := Lib.hid (by
    rw [← H0, ← H1]
    by_cases e1 : k1 = 1 <;> by_cases e2 : k2 = 1 <;> simp [e1, e2])
  rw [H0] at h1
  rw [H1] at h2
  rw [HR.out]
  clear H0 H1 HR
  generalize emB t2 = b2 at h3 h3' ⊢
  have HB := Lib.hid fun (o1 o2 : Obj) => ((Below.refl w.heap.size w).alloc (Nat.le_refl _) o1).alloc (by simp) o2
  cases b0 <;> cases b1 <;> cases b2 <;> cases q1 <;> cases q2
  all_goals (
    simp only [Bool.not_true, Bool.not_false] at h2 h3
    go_enter Tryz.func108, Tryz.ntmps108
    go_wp2
    go_ret
    exact ⟨rfl, HB.out _ _⟩)
theorem all_bare (s : ByteArray) (k : Nat) (h : k < s.size) : ((ls s).drop k).all (fun b => bareN b.toNat) = (bareN (at0 (ls s) k) && ((ls s).drop (k + 1)).all (fun b => bareN b.toNat)) := by
  rw [all_cut _ s k h, ofNat_toNat]
def bareA (l : List UInt8) : Bool := l.all (fun b => bareN b.toNat)
def Rel119 (s : ByteArray) (i : Value) : Prop := ∃ k : Nat, k ≤ s.size ∧ i = .int .i64 k ∧ Hid (bareA (ls s) = bareA ((ls s).drop k))
set_option maxHeartbeats 4000000 in
set_option maxRecDepth 100000 in
theorem bytes119 (s : ByteArray) (hs : s.size ≤ 9223372036854775806) (q : Bool) (w : World) : Calls Tryz.prog 119 #[.string s, .bool q] w fun e w' => e = .returned (.bool (bytesB s q)) ∧ w = w' := by
  have hb := get_bt s
  cases q
  · have HS : Hid (bytesB s false = (bareA (ls s) && !emB s)) := Lib.hid rfl
    have HE0 : Hid ((s.toList == []) = emB s) := Lib.hid (emp_is s)
    have HE1 : Hid ((s.toList != []) = !emB s) := Lib.hid (by rw [bne, emp_is])
    go_enter Tryz.func119, Tryz.ntmps119
    go_wp2
    go_loop [12] (Rel119 s) (fun i => s.size - (intOf i).toNat)
    case atStart => exact ⟨0, Nat.zero_le _, rfl, Lib.hid rfl⟩
    case round =>
      obtain ⟨k, hk, rfl, HR⟩ := hrel
      by_cases hlt : k < s.size
      · have C1 := Lib.hid fun W => bare21 (at0 (ls s) k) (at0_lt _ _) W
        rw [← bt_at] at C1
        have HC : Hid (bareA ((ls s).drop k) = (bareN (at0 (ls s) k) && bareA ((ls s).drop (k + 1)))) := Lib.hid (all_bare s k hlt)
        generalize bareN (at0 (ls s) k) = b5 at C1 HC
        cases b5
        · go_wp2_with (go_at_call 21; refine (C1.out _).mono ?_; rintro e w' ⟨rfl, rfl⟩)
          go_ret
          exact ⟨by rw [HS.out, HR.out, HC.out]; rfl, rfl⟩
        · go_wp2_with (go_at_call 21; refine (C1.out _).mono ?_; rintro e w' ⟨rfl, rfl⟩)
          go_round
          case rel => exact ⟨k + 1, by omega, by go_num, Lib.hid (by rw [HR.out, HC.out]; rfl)⟩
          case measure => simp [intOf]; omega
      · obtain rfl : k = s.size := by omega
        have HE : Hid (bytesB s false = !emB s) := Lib.hid (by rw [HS.out, HR.out, drop_end]; rfl)
        have h0 := HE0.out
        have h1 := HE1.out
        generalize emB s = b0 at h0 h1 HE
        cases b0
        all_goals (
          simp only [Bool.not_true, Bool.not_false] at h1
          go_wp2
          go_ret
          rw [HE.out]; exact ⟨rfl, rfl⟩)
  · have C := Lib.hid fun W => ib48 s 0 W
    have HS : Hid (bytesB s true = !hasC (ls s) 0) := Lib.hid rfl
    generalize hasC (ls s) 0 = b0 at C HS
    cases b0
    all_goals (
      go_enter Tryz.func119, Tryz.ntmps119
      go_wp2_with (go_at_call 48; refine (C.out _).mono ?_; rintro e w' ⟨⟨x, rfl, h1, h2⟩, rfl⟩)
      go_ret
      rw [HS.out]; exact ⟨rfl, rfl⟩)
end Go.Proofs.YtfaohicadahcjaaGreatDoor
