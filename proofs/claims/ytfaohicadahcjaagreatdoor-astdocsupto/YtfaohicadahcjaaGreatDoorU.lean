/- Contracts: redirections that may be. Conditions: lengths below a bound. -/
import Derived.Test.YtfaohicadahcjaaGreatDoorS
namespace Go.Proofs.YtfaohicadahcjaaGreatDoor
open Go.RowKit Go.PlainAid Go.ChangeShapes Go.WideShapes Go.ChangeAt
set_option linter.unusedSimpArgs false
set_option linter.unusedVariables false

theorem wordB_all (f : Pt → Bool) : ∀ (l : List Pt) (a : Option Pt), wordB f a l = true → ∀ p ∈ l, f p = true
  | [], _, _, p, h => by cases h
  | x :: r, a, h, p, hp => by
    rw [wordB.eq_def] at h
    simp only [Bool.and_eq_true] at h
    rcases List.mem_cons.1 hp with rfl | hp
    · exact h.1.1
    · exact wordB_all f r _ h.2 p hp
theorem parts_ok (n : Nat) (l : List Pt) (left : Int) (h : (rgt n).1 l left = true) (hz : n = 0 → l = []) : PartsOk l := by
  cases n with
  | zero => rw [hz rfl]; intro p hp; cases hp
  | succ n =>
    rw [rgt_w] at h
    intro p hp
    have := wordB_all _ l none h p hp
    unfold partF at this
    rw [Bool.and_eq_true] at this
    have h2 := this.2
    by_cases h1 : p.kind = 1
    · exact ⟨.inl h1, fun e => by omega⟩
    by_cases h3 : p.kind = 2
    · refine ⟨.inr (.inl h3), fun _ he => ?_⟩
      unfold partB at h2
      rw [if_neg h1, if_pos h3, Bool.and_eq_true] at h2
      have h4 := h2.2
      unfold paramB at h4
      rw [he, if_pos rfl, Bool.and_eq_true] at h4
      exact of_decide_eq_true h4.1
    by_cases h4 : p.kind = 3
    · exact ⟨.inr (.inr (.inl h4)), fun e => by omega⟩
    by_cases h5 : p.kind = 4
    · exact ⟨.inr (.inr (.inr h5)), fun e => by omega⟩
    · unfold partB at h2
      rw [if_neg h1, if_neg h3, if_neg h4, if_neg h5] at h2
      cases h2
theorem at_zero {w : World} {v : Value} {l : List Pt} {n : Nat} (h : WdAt n w v l) : n = 0 → l = [] := by rintro rfl; exact h.1
set_option maxHeartbeats 16000000 in
set_option maxRecDepth 100000 in
theorem redir87 (n : Nat) (G : Good n) (fd : Int) (op tag : ByteArray) (a : Option Addr) (c : Nat) (l : List Pt) (w : World) (left : Int) (hf : RdFits (.mk fd op tag l)) (h : WdAt n w (.slice a l.length c) l) (he : Env w) (h64 : L64 left) :
    Calls Tryz.prog 87 #[.agg #[.int .i64 fd, .string op, .string tag, .slice a l.length c], .int .i64 left] w fun e w' => e = .returned (.bool (redB (rgt n).1 (.mk fd op tag l) left)) ∧ Below w.heap.size w w' := by
  have CW := Lib.hid fun (W : World) (hW : Below w.heap.size w W) => G.w _ l W left (kept_wd n _ _ _ _ h hW) (he.on hW) h64
  have CD := Lib.hid fun (hp : PartsOk l) (W : World) (hW : Below w.heap.size w W) => rightDoc109 n fd op tag a c l W (kept_wd n _ _ _ _ h hW) hp (he.on hW) hf.t hf.s
  have hts : tag.size ≤ 1048576 := hf.t
  have C23 := Lib.hid fun W => name23 tag (by omega) W
  have HPk := Lib.hid fun hr => parts_ok n l left hr (at_zero h)
  have hlen := at_len _ _ _ _ h
  have HB := Lib.hid ((Below.refl w.heap.size w).alloc (Nat.le_refl _) (.cells #[.int .i64 fd, .string op, .string tag, .slice a l.length c] 44))
  have HH := Lib.hid (heap_alloc_new w (.cells #[.int .i64 fd, .string op, .string tag, .slice a l.length c] 44))
  have HR : Hid (redB (rgt n).1 (.mk fd op tag l) left = (if decide (fd < 0) || decide (9 < fd) || !(rgt n).1 l left then false else if redLs.contains (ls op) then emB tag && !z0 l else if ls op == [60, 60] then nameL (ls tag) && docB tag l else false)) := Lib.hid rfl
  rw [HR.out]
  clear HR hf h he G
  have hz1 := eqz l.length 0
  have hz2 := eqzI l.length
  have hz3 : decide (0 < l.length) = !z0 l := by unfold z0; rw [← decide_not]; exact decide_eq_decide.2 (by omega)
  have hz4 : decide (0 < (l.length : Int)) = !z0 l := by unfold z0; rw [← decide_not]; exact decide_eq_decide.2 (by omega)
  have ht := emp_is tag
  obtain ⟨b0, h0⟩ : ∃ b, (op.toList == [60]) = b := ⟨_, rfl⟩
  obtain ⟨b1, h1⟩ : ∃ b, (op.toList == [62]) = b := ⟨_, rfl⟩
  obtain ⟨b2, h2⟩ : ∃ b, (op.toList == [62, 62]) = b := ⟨_, rfl⟩
  obtain ⟨b3, h3⟩ : ∃ b, (op.toList == [60, 62]) = b := ⟨_, rfl⟩
  obtain ⟨b4, h4⟩ : ∃ b, (op.toList == [62, 124]) = b := ⟨_, rfl⟩
  obtain ⟨b5, h5⟩ : ∃ b, (op.toList == [60, 38]) = b := ⟨_, rfl⟩
  obtain ⟨b6, h6⟩ : ∃ b, (op.toList == [62, 38]) = b := ⟨_, rfl⟩
  obtain ⟨b7, h7⟩ : ∃ b, (op.toList == [60, 60]) = b := ⟨_, rfl⟩
  have HRL : Hid (redLs.contains (ls op) = (b0 || b1 || b2 || b3 || b4 || b5 || b6)) := Lib.hid (by
    show redLs.contains op.data.toList = _
    rw [← toList_data op]
    simp only [redLs, List.contains_cons, List.contains_nil, h0, h1, h2, h3, h4, h5, h6, Bool.or_false, Bool.or_assoc])
  have HR7 : Hid ((ls op == [60, 60]) = b7) := Lib.hid (by rw [← h7, toList_data])
  rw [HRL.out, HR7.out]
  obtain ⟨x0, H0⟩ : ∃ b, decide (fd < 0) = b := ⟨_, rfl⟩
  obtain ⟨x1, H1⟩ : ∃ b, decide (9 < fd) = b := ⟨_, rfl⟩
  obtain ⟨x2, H2⟩ : ∃ b, Hid ((rgt n).1 l left = b) := ⟨_, Lib.hid rfl⟩
  rw [H0, H1, H2.out]
  rw [H2.out] at CW
  generalize z0 l = zl at hz3 hz4 ⊢
  clear hz1 hz2
  generalize emB tag = et at ht ⊢
  generalize nameL (ls tag) = nt at C23 ⊢
  go_enter Tryz.func87, Tryz.ntmps87
  go_upto_region 1 with fail
  generalize w.alloc (.cells #[.int .i64 fd, .string op, .string tag, .slice a l.length c] 44) = w1 at HB HH ⊢
  have p0 : w1.cell? ⟨w.heap.size, 0, none⟩ = some (.int .i64 fd) := cells_at HH.out (i := 0) rfl
  have p1 : w1.cell? ⟨w.heap.size, 1, none⟩ = some (.string op) := cells_at HH.out (i := 1) rfl
  have p2 : w1.cell? ⟨w.heap.size, 2, none⟩ = some (.string tag) := cells_at HH.out (i := 2) rfl
  have p3 : w1.cell? ⟨w.heap.size, 3, none⟩ = some (.slice a l.length c) := cells_at HH.out (i := 3) rfl
  have hbw := HB.out
  clear HB HH
  generalize hq : l.length = q at *
  cases x0
  case true =>
    go_wp2
    go_ret
    exact ⟨rfl, hbw⟩
  cases x1
  case true =>
    go_wp2
    go_ret
    exact ⟨rfl, hbw⟩
  cases x2
  case false =>
    go_wp2_with (first | (go_at_call 86; refine (CW.out _ hbw).mono ?_; rintro e w2 ⟨rfl, hb⟩; replace p0 := cell_low p0 hb; replace p1 := cell_low p1 hb; replace p2 := cell_low p2 hb; replace p3 := cell_low p3 hb; replace hbw := hbw.trans (hb.mono hbw.size); clear hb))
    go_ret
    exact ⟨rfl, hbw⟩
  have CD1 := Lib.hid (CD.out (HPk.out H2.out))
  obtain ⟨dt, HDt⟩ : ∃ b, Hid (docB tag l = b) := ⟨_, Lib.hid rfl⟩
  rw [HDt.out] at CD1
  cases b0
  case true =>
    cases et <;> cases zl
    all_goals (
      simp only [Bool.not_true, Bool.not_false] at hz3 hz4
      go_wp2_with (first
      | (go_at_call 86; refine (CW.out _ hbw).mono ?_; rintro e w2 ⟨rfl, hb⟩; replace p0 := cell_low p0 hb; replace p1 := cell_low p1 hb; replace p2 := cell_low p2 hb; replace p3 := cell_low p3 hb; replace hbw := hbw.trans (hb.mono hbw.size); clear hb)
      | (go_at_call 23; refine (C23.out _).mono ?_; rintro e w2 ⟨rfl, rfl⟩)
      | (go_at_call 109; refine (CD1.out _ hbw).mono ?_; rintro e w2 ⟨rfl, hb⟩; replace p0 := cell_low p0 hb; replace p1 := cell_low p1 hb; replace p2 := cell_low p2 hb; replace p3 := cell_low p3 hb; replace hbw := hbw.trans (hb.mono hbw.size); clear hb))
      go_ret
      exact ⟨rfl, hbw⟩)
  cases b1
  case true =>
    cases et <;> cases zl
    all_goals (
      simp only [Bool.not_true, Bool.not_false] at hz3 hz4
      go_wp2_with (first
      | (go_at_call 86; refine (CW.out _ hbw).mono ?_; rintro e w2 ⟨rfl, hb⟩; replace p0 := cell_low p0 hb; replace p1 := cell_low p1 hb; replace p2 := cell_low p2 hb; replace p3 := cell_low p3 hb; replace hbw := hbw.trans (hb.mono hbw.size); clear hb)
      | (go_at_call 23; refine (C23.out _).mono ?_; rintro e w2 ⟨rfl, rfl⟩)
      | (go_at_call 109; refine (CD1.out _ hbw).mono ?_; rintro e w2 ⟨rfl, hb⟩; replace p0 := cell_low p0 hb; replace p1 := cell_low p1 hb; replace p2 := cell_low p2 hb; replace p3 := cell_low p3 hb; replace hbw := hbw.trans (hb.mono hbw.size); clear hb))
      go_ret
      exact ⟨rfl, hbw⟩)
  cases b2
  case true =>
    cases et <;> cases zl
    all_goals (
      simp only [Bool.not_true, Bool.not_false] at hz3 hz4
      go_wp2_with (first
      | (go_at_call 86; refine (CW.out _ hbw).mono ?_; rintro e w2 ⟨rfl, hb⟩; replace p0 := cell_low p0 hb; replace p1 := cell_low p1 hb; replace p2 := cell_low p2 hb; replace p3 := cell_low p3 hb; replace hbw := hbw.trans (hb.mono hbw.size); clear hb)
      | (go_at_call 23; refine (C23.out _).mono ?_; rintro e w2 ⟨rfl, rfl⟩)
      | (go_at_call 109; refine (CD1.out _ hbw).mono ?_; rintro e w2 ⟨rfl, hb⟩; replace p0 := cell_low p0 hb; replace p1 := cell_low p1 hb; replace p2 := cell_low p2 hb; replace p3 := cell_low p3 hb; replace hbw := hbw.trans (hb.mono hbw.size); clear hb))
      go_ret
      exact ⟨rfl, hbw⟩)
  cases b3
  case true =>
    cases et <;> cases zl
    all_goals (
      simp only [Bool.not_true, Bool.not_false] at hz3 hz4
      go_wp2_with (first
      | (go_at_call 86; refine (CW.out _ hbw).mono ?_; rintro e w2 ⟨rfl, hb⟩; replace p0 := cell_low p0 hb; replace p1 := cell_low p1 hb; replace p2 := cell_low p2 hb; replace p3 := cell_low p3 hb; replace hbw := hbw.trans (hb.mono hbw.size); clear hb)
      | (go_at_call 23; refine (C23.out _).mono ?_; rintro e w2 ⟨rfl, rfl⟩)
      | (go_at_call 109; refine (CD1.out _ hbw).mono ?_; rintro e w2 ⟨rfl, hb⟩; replace p0 := cell_low p0 hb; replace p1 := cell_low p1 hb; replace p2 := cell_low p2 hb; replace p3 := cell_low p3 hb; replace hbw := hbw.trans (hb.mono hbw.size); clear hb))
      go_ret
      exact ⟨rfl, hbw⟩)
  cases b4
  case true =>
    cases et <;> cases zl
    all_goals (
      simp only [Bool.not_true, Bool.not_false] at hz3 hz4
      go_wp2_with (first
      | (go_at_call 86; refine (CW.out _ hbw).mono ?_; rintro e w2 ⟨rfl, hb⟩; replace p0 := cell_low p0 hb; replace p1 := cell_low p1 hb; replace p2 := cell_low p2 hb; replace p3 := cell_low p3 hb; replace hbw := hbw.trans (hb.mono hbw.size); clear hb)
      | (go_at_call 23; refine (C23.out _).mono ?_; rintro e w2 ⟨rfl, rfl⟩)
      | (go_at_call 109; refine (CD1.out _ hbw).mono ?_; rintro e w2 ⟨rfl, hb⟩; replace p0 := cell_low p0 hb; replace p1 := cell_low p1 hb; replace p2 := cell_low p2 hb; replace p3 := cell_low p3 hb; replace hbw := hbw.trans (hb.mono hbw.size); clear hb))
      go_ret
      exact ⟨rfl, hbw⟩)
  cases b5
  case true =>
    cases et <;> cases zl
    all_goals (
      simp only [Bool.not_true, Bool.not_false] at hz3 hz4
      go_wp2_with (first
      | (go_at_call 86; refine (CW.out _ hbw).mono ?_; rintro e w2 ⟨rfl, hb⟩; replace p0 := cell_low p0 hb; replace p1 := cell_low p1 hb; replace p2 := cell_low p2 hb; replace p3 := cell_low p3 hb; replace hbw := hbw.trans (hb.mono hbw.size); clear hb)
      | (go_at_call 23; refine (C23.out _).mono ?_; rintro e w2 ⟨rfl, rfl⟩)
      | (go_at_call 109; refine (CD1.out _ hbw).mono ?_; rintro e w2 ⟨rfl, hb⟩; replace p0 := cell_low p0 hb; replace p1 := cell_low p1 hb; replace p2 := cell_low p2 hb; replace p3 := cell_low p3 hb; replace hbw := hbw.trans (hb.mono hbw.size); clear hb))
      go_ret
      exact ⟨rfl, hbw⟩)
  cases b6
  case true =>
    cases et <;> cases zl
    all_goals (
      simp only [Bool.not_true, Bool.not_false] at hz3 hz4
      go_wp2_with (first
      | (go_at_call 86; refine (CW.out _ hbw).mono ?_; rintro e w2 ⟨rfl, hb⟩; replace p0 := cell_low p0 hb; replace p1 := cell_low p1 hb; replace p2 := cell_low p2 hb; replace p3 := cell_low p3 hb; replace hbw := hbw.trans (hb.mono hbw.size); clear hb)
      | (go_at_call 23; refine (C23.out _).mono ?_; rintro e w2 ⟨rfl, rfl⟩)
      | (go_at_call 109; refine (CD1.out _ hbw).mono ?_; rintro e w2 ⟨rfl, hb⟩; replace p0 := cell_low p0 hb; replace p1 := cell_low p1 hb; replace p2 := cell_low p2 hb; replace p3 := cell_low p3 hb; replace hbw := hbw.trans (hb.mono hbw.size); clear hb))
      go_ret
      exact ⟨rfl, hbw⟩)
  cases b7
  case true =>
    cases nt <;> cases dt
    all_goals (
      go_wp2_with (first
      | (go_at_call 86; refine (CW.out _ hbw).mono ?_; rintro e w2 ⟨rfl, hb⟩; replace p0 := cell_low p0 hb; replace p1 := cell_low p1 hb; replace p2 := cell_low p2 hb; replace p3 := cell_low p3 hb; replace hbw := hbw.trans (hb.mono hbw.size); clear hb)
      | (go_at_call 23; refine (C23.out _).mono ?_; rintro e w2 ⟨rfl, rfl⟩)
      | (go_at_call 109; refine (CD1.out _ hbw).mono ?_; rintro e w2 ⟨rfl, hb⟩; replace p0 := cell_low p0 hb; replace p1 := cell_low p1 hb; replace p2 := cell_low p2 hb; replace p3 := cell_low p3 hb; replace hbw := hbw.trans (hb.mono hbw.size); clear hb))
      go_ret
      first | exact ⟨rfl, hbw⟩ | exact ⟨by rw [HDt.out]; rfl, hbw⟩)
  go_wp2_with (first
      | (go_at_call 86; refine (CW.out _ hbw).mono ?_; rintro e w2 ⟨rfl, hb⟩; replace p0 := cell_low p0 hb; replace p1 := cell_low p1 hb; replace p2 := cell_low p2 hb; replace p3 := cell_low p3 hb; replace hbw := hbw.trans (hb.mono hbw.size); clear hb)
      | (go_at_call 23; refine (C23.out _).mono ?_; rintro e w2 ⟨rfl, rfl⟩)
      | (go_at_call 109; refine (CD1.out _ hbw).mono ?_; rintro e w2 ⟨rfl, hb⟩; replace p0 := cell_low p0 hb; replace p1 := cell_low p1 hb; replace p2 := cell_low p2 hb; replace p3 := cell_low p3 hb; replace hbw := hbw.trans (hb.mono hbw.size); clear hb))
  go_ret
  exact ⟨rfl, hbw⟩
end Go.Proofs.YtfaohicadahcjaaGreatDoor
