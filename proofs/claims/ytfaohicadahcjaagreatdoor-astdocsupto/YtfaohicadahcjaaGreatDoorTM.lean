/- The document's functions. Conditions: lengths below a bound. -/
import Derived.Test.YtfaohicadahcjaaGreatDoorTK
namespace Go.Proofs.YtfaohicadahcjaaGreatDoor
open Go.RowKit Go.PlainAid Go.ChangeShapes Go.WideShapes Go.ChangeAt
set_option linter.unusedSimpArgs false
set_option linter.unusedVariables false
/-! Functions. -/
set_option maxHeartbeats 16000000 in
set_option maxRecDepth 100000 in
theorem comp66_11 (n : Nat) (nm : ByteArray) (a1 a2 a3 a4 a5 : Option Addr) (m1 m2 m3 m5 c1 c2 c3 c4 c5 : Nat) (l : List (List Nd)) (w : World) (lev deep : Int) (b1 : m1 ≤ 1048576) (b2 : m2 ≤ 1048576) (b3 : m3 ≤ 1048576) (b5 : m5 ≤ 1048576) (hnm : nm.size ≤ 1048576) (h4 : LsAt n w (.slice a4 l.length c4) l) : Calls Tryz.prog 66 #[.agg #[.int .i64 11, .string nm, .slice a1 m1 c1, .slice a2 m2 c2, .slice a3 m3 c3, .slice a4 l.length c4, .slice a5 m5 c5], .int .i64 lev, .int .i64 deep] w fun e w' => e = .returned (.bool (decide (m1 = 0) && nameL (ls nm) && !resL (ls nm) && decide (m2 + m5 + m3 = 0) && decide (l.length = 1) && singleM (fun _ k => funM k) 0 l)) ∧ Below w.heap.size w w' := by
  have K4 := Lib.hid h4
  have b4 := h4.len
  have C92 := Lib.hid fun (W : World) (hW : Below w.heap.size w W) => alone92 n 11 nm a1 a2 a3 a4 a5 m1 m2 m3 m5 c1 c2 c3 c4 c5 l W (kept_ls n _ _ _ _ h4 hW)
  have HSA : Hid (aloneB l = false → singleM (fun _ k => funM k) 0 l = false) := Lib.hid (single_alone _ l 0)
  obtain ⟨AL, HAL⟩ : ∃ b, Hid (aloneB l = b) := ⟨_, Lib.hid rfl⟩
  rw [HAL.out] at C92 HSA
  obtain ⟨SG, HSG⟩ : ∃ b, Hid (singleM (fun _ k => funM k) 0 l = b) := ⟨_, Lib.hid rfl⟩
  rw [HSG.out] at HSA ⊢
  obtain ⟨m4, Hm4⟩ : ∃ q, Hid (l.length = q) := ⟨_, Lib.hid rfl⟩
  rw [Hm4.out] at K4 b4 C92 ⊢
  have HB := Lib.hid ((Below.refl w.heap.size w).alloc (Nat.le_refl _) (.cells #[.int .i64 11, .string nm, .slice a1 m1 c1, .slice a2 m2 c2, .slice a3 m3 c3, .slice a4 m4 c4, .slice a5 m5 c5] 64))
  have HH := Lib.hid (heap_alloc_new w (.cells #[.int .i64 11, .string nm, .slice a1 m1 c1, .slice a2 m2 c2, .slice a3 m3 c3, .slice a4 m4 c4, .slice a5 m5 c5] 64))
  obtain ⟨s1, Hs1⟩ : ∃ b, Hid (decide (m1 = 0) = b) := ⟨_, Lib.hid rfl⟩
  have s1a : decide (0 < m1) = !s1 := by rw [← Hs1.out, ← decide_not]; exact decide_eq_decide.2 (by omega)
  have s1b : decide (0 < (m1 : Int)) = !s1 := by rw [← Hs1.out, ← decide_not]; exact decide_eq_decide.2 (by omega)
  rw [Hs1.out]
  obtain ⟨s25, Hs25⟩ : ∃ b, Hid (decide (m2 + m5 + m3 = 0) = b) := ⟨_, Lib.hid rfl⟩
  have s25a : decide (0 < m2 + m5 + m3) = !s25 := by rw [← Hs25.out, ← decide_not]; exact decide_eq_decide.2 (by omega)
  have s25b : decide (0 < (m2 : Int) + m5 + m3) = !s25 := by rw [← Hs25.out, ← decide_not]; exact decide_eq_decide.2 (by omega)
  rw [Hs25.out]
  obtain ⟨t2, Ht2⟩ : ∃ b, Hid (decide (m4 = 1) = b) := ⟨_, Lib.hid rfl⟩
  have t2a : (m4 != 1) = !t2 := by rw [bne, eqz, Ht2.out]
  have t2b : ((m4 : Int) != 1) = !t2 := by rw [bne, eq_int, ← Ht2.out]; congr 1; exact decide_eq_decide.2 (by omega)
  rw [Ht2.out]
  have C24 := Lib.hid fun W => name24 nm (by omega) W
  have C30 := Lib.hid fun W => res30 nm W
  generalize nameL (ls nm) = nn at C24 ⊢
  generalize resL (ls nm) = rr at C30 ⊢
  clear h4
  go_enter Tryz.func66, Tryz.ntmps66
  go_upto_region 1 with fail
  generalize w.alloc (.cells #[.int .i64 11, .string nm, .slice a1 m1 c1, .slice a2 m2 c2, .slice a3 m3 c3, .slice a4 m4 c4, .slice a5 m5 c5] 64) = w1 at HB HH ⊢
  have p0 := cells_at HH.out (i := 0) (u := .int .i64 11) rfl
  have p1 := cells_at HH.out (i := 1) (u := .string nm) rfl
  have p2 := cells_at HH.out (i := 2) (u := .slice a1 m1 c1) rfl
  have p3 := cells_at HH.out (i := 3) (u := .slice a2 m2 c2) rfl
  have p4 := cells_at HH.out (i := 4) (u := .slice a3 m3 c3) rfl
  have p5 := cells_at HH.out (i := 5) (u := .slice a4 m4 c4) rfl
  have p6 := cells_at HH.out (i := 6) (u := .slice a5 m5 c5) rfl
  have hbw := HB.out
  cases s1
  case false =>
    simp only [Bool.not_false] at s1a s1b
    clear s25a s25b t2a t2b
    go_wp2
    go_ret
    exact ⟨rfl, hbw⟩
  simp only [Bool.not_true] at s1a s1b
  cases nn
  case false =>
    clear s25a s25b t2a t2b
    go_wp2_with (go_at_call 24; refine (C24.out _).mono ?_; rintro e w' ⟨rfl, rfl⟩)
    go_ret
    exact ⟨rfl, hbw⟩
  go_wp2_with (first | (go_at_call 24; refine (C24.out _).mono ?_; rintro e w' ⟨rfl, rfl⟩))
  refine (C30.out _).mono ?_
  rintro e w2 ⟨rfl, hb⟩
  have HB2 := Lib.hid (hbw.trans (hb.mono hbw.size))
  replace p0 := cell_low p0 hb
  replace p1 := cell_low p1 hb
  replace p2 := cell_low p2 hb
  replace p3 := cell_low p3 hb
  replace p4 := cell_low p4 hb
  replace p5 := cell_low p5 hb
  replace p6 := cell_low p6 hb
  clear hb
  cases rr
  case true =>
    clear s25a s25b t2a t2b
    go_wp2
    go_ret
    exact ⟨rfl, HB2.out⟩
  cases s25
  case false =>
    simp only [Bool.not_false] at s25a s25b
    clear t2a t2b
    go_wp2
    go_ret
    exact ⟨rfl, HB2.out⟩
  simp only [Bool.not_true] at s25a s25b
  cases t2
  case false =>
    simp only [Bool.not_false] at t2a t2b
    go_wp2
    go_ret
    exact ⟨rfl, HB2.out⟩
  simp only [Bool.not_true] at t2a t2b
  have C92 := Lib.hid (C92.out w2 HB2.out)
  go_wp2_with fail
  refine C92.out.mono ?_
  rintro e w3 ⟨rfl, hb⟩
  have HB3 := Lib.hid (HB2.out.trans (hb.mono HB2.out.size))
  replace p5 := cell_low p5 hb
  clear hb p0 p1 p2 p3 p4 p6 s25a s25b
  cases AL
  case false =>
    have HF := Lib.hid (HSA.out rfl)
    go_wp2
    go_ret
    rw [HF.out]; exact ⟨rfl, HB3.out⟩
  have hm : m4 = 1 := of_decide_eq_true Ht2.out
  have hl1 : l.length = 1 := by rw [Hm4.out]; exact hm
  obtain ⟨b, off, c', u, e, hc, hcell, hu⟩ := one_at K4.out 0 (by omega)
  obtain ⟨ua, uc, rfl⟩ := ns_shape _ _ _ _ hu
  have hmem : l[0]'(by omega) ∈ l := List.getElem_mem _
  have h1 : (l[0]'(by omega)).length = 1 := of_decide_eq_true (List.all_eq_true.1 (show l.all (fun y : List Nd => decide (y.length = 1)) = true from HAL.out) _ hmem)
  clear hmem
  obtain ⟨y, hy⟩ := one_of h1
  have HSV : Hid (SG = funM y.kind) := Lib.hid (by
    rw [← HSG.out]
    have hle : l = [[y]] := by
      match l, hl1, hy with
      | [z], _, hy => simp at hy; rw [hy]
    rw [hle]
    simp [singleM])
  rw [hy] at hu hcell
  obtain ⟨m, b2, off2, c2', u1, u2, u3, u4, u5, v1, v2, v3, v4, v5, _, e2, _, _, _, d0, _⟩ := ns_at2 hu 0 (by simp)
  simp only [List.getElem_cons_zero, Nat.zero_mul, Nat.add_zero, List.length_cons, List.length_nil, Nat.zero_add] at d0 e2 hcell
  rw [Hm4.out] at e hc
  cases e
  cases e2
  replace hcell := cell_low hcell HB3.out
  replace d0 := cell_low d0 HB3.out
  have HFM : Hid (funM y.kind = (decide (6 ≤ y.kind) && !decide (y.kind = 11))) := Lib.hid rfl
  generalize y.kind = kk at d0 HSV HFM
  have hkn := ne_int kk 11
  obtain ⟨y1, H1⟩ : ∃ b, decide (6 ≤ kk) = b := ⟨_, rfl⟩
  rw [H1] at HFM
  generalize decide (kk = 11) = y2 at hkn HFM
  subst hm
  clear hu h1 hy hl1
  cases y1 <;> cases y2
  all_goals (
    try simp only [Bool.not_true, Bool.not_false] at hkn
    go_wp2
    go_ret
    rw [HSV.out, HFM.out]; exact ⟨rfl, HB3.out⟩)
end Go.Proofs.YtfaohicadahcjaaGreatDoor
