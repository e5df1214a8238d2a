/- The document's commands that join others. Conditions: lengths below a bound. -/
import Derived.Test.YtfaohicadahcjaaGreatDoorTB
import Derived.Test.YtfaohicadahcjaaGreatDoorTF
namespace Go.Proofs.YtfaohicadahcjaaGreatDoor
open Go.RowKit Go.PlainAid Go.ChangeShapes Go.WideShapes Go.ChangeAt
set_option linter.unusedSimpArgs false
set_option linter.unusedVariables false
/-! Commands that join others. -/
abbrev agg7k (k : Int) (nm : ByteArray) (a1 a2 a3 a4 a5 : Option Addr) (q1 c1 q2 c2 q3 c3 q4 c4 q5 c5 : Nat) : Array Value := #[.int .i64 k, .string nm, .slice a1 q1 c1, .slice a2 q2 c2, .slice a3 q3 c3, .slice a4 q4 c4, .slice a5 q5 c5]
theorem single_alone (f : Int → Int → Bool) : ∀ (l : List (List Nd)) (i : Nat), aloneB l = false → singleM f i l = false
  | [], _, h => by simp [aloneB] at h
  | [] :: r, i, h => rfl
  | [x] :: r, i, h => by
    have : aloneB r = false := by simpa [aloneB] using h
    rw [singleM, single_alone f r (i + 1) this]; simp
  | (x :: y :: z) :: r, i, h => rfl
def orD (p k : Int) : Bool := !decide (p = 1) || (!decide (k = 3) && !decide (k = 4))
theorem pipe_rng (k : Int) : pipeM k = !(decide (2 ≤ k) && decide (k ≤ 5)) := by
  unfold pipeM
  rw [Bool.eq_iff_iff]
  simp only [Bool.and_eq_true, Bool.not_eq_true', decide_eq_false_iff_not, Bool.and_eq_false_iff, Bool.not_eq_true]
  constructor
  · rintro ⟨⟨⟨h1, h2⟩, h3⟩, h4⟩; omega
  · intro h; refine ⟨⟨⟨?_, ?_⟩, ?_⟩, ?_⟩ <;> omega
theorem not_rng (k : Int) : notM k = !(decide (3 ≤ k) && decide (k ≤ 5)) := by
  unfold notM
  rw [Bool.eq_iff_iff]
  simp only [Bool.and_eq_true, Bool.not_eq_true', decide_eq_false_iff_not, Bool.and_eq_false_iff, Bool.not_eq_true]
  constructor
  · rintro ⟨⟨h1, h2⟩, h3⟩; omega
  · intro h; refine ⟨⟨?_, ?_⟩, ?_⟩ <;> omega
theorem one_of {y : List Nd} (h : y.length = 1) : ∃ x, y = [x] := List.length_eq_one_iff.1 h
def Rel65 (f : Int → Int → Bool) (l : List (List Nd)) (i : Value) : Prop := ∃ k : Nat, k ≤ l.length ∧ i = .int .i64 k ∧ Hid (singleM f 0 l = singleM f k (l.drop k))
theorem single_end (f : Int → Int → Bool) (l : List (List Nd)) (k : Nat) (h : l.length ≤ k) : singleM f k (l.drop k) = true := by
  rw [List.drop_of_length_le h]; rfl
set_option maxHeartbeats 16000000 in
set_option maxRecDepth 100000 in
theorem joined65_2 (n : Nat) (x : Nd) (a1 a2 a3 a4 a5 : Option Addr) (c1 c2 c3 c4 c5 : Nat) (w : World) (h4 : LsAt n w (.slice a4 x.lists.length c4) x.lists) (b1 : x.assigns.length ≤ 1048576) (b2 : x.words.length ≤ 1048576) (b3 : x.redirs.length ≤ 1048576) (b5 : x.arms.length ≤ 1048576) :
    Calls Tryz.prog 65 #[.agg #[.int .i64 2, .string x.name, .slice a1 x.assigns.length c1, .slice a2 x.words.length c2, .slice a3 x.redirs.length c3, .slice a4 x.lists.length c4, .slice a5 x.arms.length c5]] w fun e w' => e = .returned (.bool (emB x.name && decide (x.assigns.length + x.words.length + x.arms.length + x.redirs.length = 0) && aloneB x.lists && singleM (fun _ k => pipeM k) 0 x.lists && decide (2 ≤ x.lists.length))) ∧ Below w.heap.size w w' := by
  have K4 := Lib.hid h4
  have l4 := h4.len
  have C92 := Lib.hid fun (W : World) (hW : Below w.heap.size w W) => alone92 n 2 x.name a1 a2 a3 a4 a5 x.assigns.length x.words.length x.redirs.length x.arms.length c1 c2 c3 c4 c5 x.lists W (kept_ls n _ _ _ _ h4 hW)
  obtain ⟨f, Hf⟩ : ∃ f : Int → Int → Bool, Hid ((fun _ k => pipeM k) = f) := ⟨_, Lib.hid rfl⟩
  rw [Hf.out]
  obtain ⟨AL, HAL⟩ : ∃ b, Hid (aloneB x.lists = b) := ⟨_, Lib.hid rfl⟩
  rw [HAL.out] at C92 ⊢
  obtain ⟨SG, HSG⟩ : ∃ b, Hid (singleM f 0 x.lists = b) := ⟨_, Lib.hid rfl⟩
  rw [HSG.out]
  obtain ⟨q1, Hq1⟩ : ∃ q, Hid (x.assigns.length = q) := ⟨_, Lib.hid rfl⟩
  obtain ⟨q2, Hq2⟩ : ∃ q, Hid (x.words.length = q) := ⟨_, Lib.hid rfl⟩
  obtain ⟨q3, Hq3⟩ : ∃ q, Hid (x.redirs.length = q) := ⟨_, Lib.hid rfl⟩
  obtain ⟨q4, Hq4⟩ : ∃ q, Hid (x.lists.length = q) := ⟨_, Lib.hid rfl⟩
  obtain ⟨q5, Hq5⟩ : ∃ q, Hid (x.arms.length = q) := ⟨_, Lib.hid rfl⟩
  rw [Hq1.out, Hq2.out, Hq3.out, Hq4.out, Hq5.out] at C92
  rw [Hq4.out] at K4 l4
  rw [Hq1.out] at b1
  rw [Hq2.out] at b2
  rw [Hq3.out] at b3
  rw [Hq5.out] at b5
  rw [Hq1.out, Hq2.out, Hq3.out, Hq4.out, Hq5.out]
  have hem := emp_is x.name
  have hem2 : (x.name.toList != []) = !emB x.name := by rw [bne, hem]
  have zs : decide (0 < q1 + q2 + q5 + q3) = !decide (q1 + q2 + q5 + q3 = 0) := by rw [← decide_not]; exact decide_eq_decide.2 (by omega)
  have zsI : decide (0 < (q1 : Int) + q2 + q5 + q3) = !decide (q1 + q2 + q5 + q3 = 0) := by rw [← decide_not]; exact decide_eq_decide.2 (by omega)
  obtain ⟨yf, Hyf⟩ : ∃ b, Hid (decide (2 ≤ q4) = b) := ⟨_, Lib.hid rfl⟩
  have zf := Hyf.out
  have zfI : decide (2 ≤ (q4 : Int)) = yf := by rw [← Hyf.out]; exact decide_eq_decide.2 (by omega)
  rw [zf]
  generalize emB x.name = en at hem hem2 ⊢
  generalize decide (q1 + q2 + q5 + q3 = 0) = ys at zs zsI ⊢
  clear h4
  have HB := Lib.hid ((Below.refl w.heap.size w).alloc (Nat.le_refl _) (.cells (agg7k 2 x.name a1 a2 a3 a4 a5 q1 c1 q2 c2 q3 c3 q4 c4 q5 c5) 64))
  have HH := Lib.hid (heap_alloc_new w (.cells (agg7k 2 x.name a1 a2 a3 a4 a5 q1 c1 q2 c2 q3 c3 q4 c4 q5 c5) 64))
  go_enter Tryz.func65, Tryz.ntmps65
  go_upto_region 1 with fail
  generalize w.alloc (.cells (agg7k 2 x.name a1 a2 a3 a4 a5 q1 c1 q2 c2 q3 c3 q4 c4 q5 c5) 64) = w1 at HB HH ⊢
  have p0 := cells_at HH.out (i := 0) (u := .int .i64 2) rfl
  have p1 := cells_at HH.out (i := 1) (u := .string x.name) rfl
  have p2 := cells_at HH.out (i := 2) (u := .slice a1 q1 c1) rfl
  have p3 := cells_at HH.out (i := 3) (u := .slice a2 q2 c2) rfl
  have p4 := cells_at HH.out (i := 4) (u := .slice a3 q3 c3) rfl
  have p5 := cells_at HH.out (i := 5) (u := .slice a4 q4 c4) rfl
  have p6 := cells_at HH.out (i := 6) (u := .slice a5 q5 c5) rfl
  cases en
  case false =>
    simp only [Bool.not_false] at hem2
    clear zs zsI zf zfI
    go_wp2
    go_ret
    exact ⟨by simp, HB.out⟩
  simp only [Bool.not_true] at hem2
  cases ys
  case false =>
    simp only [Bool.not_false] at zs zsI
    clear zf zfI
    go_wp2
    go_ret
    exact ⟨by simp, HB.out⟩
  simp only [Bool.not_true] at zs zsI
  go_wp2_with fail
  refine (C92.out _ HB.out).mono ?_
  rintro e w2 ⟨rfl, hb⟩
  have HB2 := Lib.hid (HB.out.trans (hb.mono HB.out.size))
  replace p0 := cell_low p0 hb
  replace p5 := cell_low p5 hb
  clear hb p1 p2 p3 p4 p6 zs zsI hem hem2
  cases AL
  case false =>
    clear zf zfI
    go_wp2
    go_ret
    exact ⟨by simp, HB2.out⟩
  go_wp2
  go_loop [3] (Rel65 f x.lists) (fun i => q4 - (intOf i).toNat)
  case atStart => exact ⟨0, Nat.zero_le _, rfl, Lib.hid (by rw [List.drop_zero])⟩
  case round =>
    obtain ⟨k, hk, rfl, HR⟩ := hrel
    rw [Hq4.out] at hk
    by_cases hlt : k < q4
    · have hlt' : k < x.lists.length := by rw [Hq4.out]; exact hlt
      have HC := Lib.hid (single_cut f x.lists k hlt')
      obtain ⟨b, off, c', u, e, hc, hcell, hu⟩ := one_at K4.out k hlt'
      obtain ⟨ua, uc, rfl⟩ := ns_shape _ _ _ _ hu
      have h1 : x.lists[k].length = 1 := by
        have := List.all_eq_true.1 (show x.lists.all (fun y : List Nd => decide (y.length = 1)) = true from HAL.out) _ (List.getElem_mem hlt')
        exact of_decide_eq_true this
      obtain ⟨y, hy⟩ := one_of h1
      rw [hy] at hu hcell HC
      simp only at HC
      obtain ⟨m, b2, off2, c2', u1, u2, u3, u4, u5, v1, v2, v3, v4, v5, _, e2, _, _, _, d0, _⟩ := ns_at2 hu 0 (by simp)
      simp only [List.getElem_cons_zero, Nat.zero_mul, Nat.add_zero, List.length_cons, List.length_nil, Nat.zero_add] at d0 e2 hcell
      rw [Hq4.out] at e hc
      cases e
      cases e2
      replace hcell := cell_low hcell HB2.out
      replace d0 := cell_low d0 HB2.out
      have hf : f k y.kind = (fun _ k => pipeM k) (k : Int) y.kind := by rw [Hf.out]
      generalize y.kind = kk at d0 HC hf
      simp only [pipe_rng] at hf
      obtain ⟨y1, H1⟩ : ∃ b, decide (2 ≤ kk) = b := ⟨_, rfl⟩
      obtain ⟨y2, H2⟩ : ∃ b, decide (kk ≤ 5) = b := ⟨_, rfl⟩
      rw [H1, H2] at hf
      have Hff := Lib.hid hf
      have HF : Hid (f k kk = false → SG = false) := Lib.hid fun e => by rw [← HSG.out, HR.out, HC.out, e]; rfl
      have HT : Hid (f k kk = true → singleM f 0 x.lists = singleM f (k + 1) (x.lists.drop (k + 1))) := Lib.hid fun e => by rw [HR.out, HC.out, e]; rfl
      clear hf hu h1 hy zf zfI
      cases y1 <;> cases y2
      all_goals first
        | (have hgo := Lib.hid (HF.out (by rw [Hff.out]; rfl))
           go_wp2
           go_ret
           rw [hgo.out]; exact ⟨by simp, HB2.out⟩)
        | (have hgo := Lib.hid (HT.out (by rw [Hff.out]; rfl))
           go_wp2
           go_round
           case rel => exact ⟨k + 1, hlt', vi (Int.natCast_succ k).symm, hgo⟩
           case measure => exact sz_meas hlt)
    · have hkq : q4 = k := sz_eq hlt hk
      have HF : Hid (SG = true) := Lib.hid (by rw [← HSG.out, HR.out]; exact single_end f _ _ (by rw [Hq4.out, hkq]; exact Nat.le_refl _))
      have hnl : decide ((k : Int) < (q4 : Int)) = false := by rw [hkq]; simp
      have hnl2 : decide (k < q4) = false := by rw [hkq]; simp
      clear hkq
      cases yf
      all_goals (
        go_wp2
        go_ret
        first | (rw [HF.out]; exact ⟨rfl, HB2.out⟩) | exact ⟨by simp, HB2.out⟩)
set_option maxHeartbeats 16000000 in
set_option maxRecDepth 100000 in
theorem joined65_3 (n : Nat) (x : Nd) (a1 a2 a3 a4 a5 : Option Addr) (c1 c2 c3 c4 c5 : Nat) (w : World) (h4 : LsAt n w (.slice a4 x.lists.length c4) x.lists) (b1 : x.assigns.length ≤ 1048576) (b2 : x.words.length ≤ 1048576) (b3 : x.redirs.length ≤ 1048576) (b5 : x.arms.length ≤ 1048576) :
    Calls Tryz.prog 65 #[.agg #[.int .i64 3, .string x.name, .slice a1 x.assigns.length c1, .slice a2 x.words.length c2, .slice a3 x.redirs.length c3, .slice a4 x.lists.length c4, .slice a5 x.arms.length c5]] w fun e w' => e = .returned (.bool (emB x.name && decide (x.assigns.length + x.words.length + x.arms.length + x.redirs.length = 0) && aloneB x.lists && singleM (orD) 0 x.lists && decide (x.lists.length = 2))) ∧ Below w.heap.size w w' := by
  have K4 := Lib.hid h4
  have l4 := h4.len
  have C92 := Lib.hid fun (W : World) (hW : Below w.heap.size w W) => alone92 n 3 x.name a1 a2 a3 a4 a5 x.assigns.length x.words.length x.redirs.length x.arms.length c1 c2 c3 c4 c5 x.lists W (kept_ls n _ _ _ _ h4 hW)
  obtain ⟨f, Hf⟩ : ∃ f : Int → Int → Bool, Hid ((orD) = f) := ⟨_, Lib.hid rfl⟩
  rw [Hf.out]
  obtain ⟨AL, HAL⟩ : ∃ b, Hid (aloneB x.lists = b) := ⟨_, Lib.hid rfl⟩
  rw [HAL.out] at C92 ⊢
  obtain ⟨SG, HSG⟩ : ∃ b, Hid (singleM f 0 x.lists = b) := ⟨_, Lib.hid rfl⟩
  rw [HSG.out]
  obtain ⟨q1, Hq1⟩ : ∃ q, Hid (x.assigns.length = q) := ⟨_, Lib.hid rfl⟩
  obtain ⟨q2, Hq2⟩ : ∃ q, Hid (x.words.length = q) := ⟨_, Lib.hid rfl⟩
  obtain ⟨q3, Hq3⟩ : ∃ q, Hid (x.redirs.length = q) := ⟨_, Lib.hid rfl⟩
  obtain ⟨q4, Hq4⟩ : ∃ q, Hid (x.lists.length = q) := ⟨_, Lib.hid rfl⟩
  obtain ⟨q5, Hq5⟩ : ∃ q, Hid (x.arms.length = q) := ⟨_, Lib.hid rfl⟩
  rw [Hq1.out, Hq2.out, Hq3.out, Hq4.out, Hq5.out] at C92
  rw [Hq4.out] at K4 l4
  rw [Hq1.out] at b1
  rw [Hq2.out] at b2
  rw [Hq3.out] at b3
  rw [Hq5.out] at b5
  rw [Hq1.out, Hq2.out, Hq3.out, Hq4.out, Hq5.out]
  have hem := emp_is x.name
  have hem2 : (x.name.toList != []) = !emB x.name := by rw [bne, hem]
  have zs : decide (0 < q1 + q2 + q5 + q3) = !decide (q1 + q2 + q5 + q3 = 0) := by rw [← decide_not]; exact decide_eq_decide.2 (by omega)
  have zsI : decide (0 < (q1 : Int) + q2 + q5 + q3) = !decide (q1 + q2 + q5 + q3 = 0) := by rw [← decide_not]; exact decide_eq_decide.2 (by omega)
  obtain ⟨yf, Hyf⟩ : ∃ b, Hid (decide (q4 = 2) = b) := ⟨_, Lib.hid rfl⟩
  have zf : (q4 == 2) = yf := by rw [eqz, Hyf.out]
  have zfI : ((q4 : Int) == 2) = yf := by rw [eq_int, ← Hyf.out]; exact decide_eq_decide.2 (by omega)
  rw [Hyf.out]
  generalize emB x.name = en at hem hem2 ⊢
  generalize decide (q1 + q2 + q5 + q3 = 0) = ys at zs zsI ⊢
  clear h4
  have HB := Lib.hid ((Below.refl w.heap.size w).alloc (Nat.le_refl _) (.cells (agg7k 3 x.name a1 a2 a3 a4 a5 q1 c1 q2 c2 q3 c3 q4 c4 q5 c5) 64))
  have HH := Lib.hid (heap_alloc_new w (.cells (agg7k 3 x.name a1 a2 a3 a4 a5 q1 c1 q2 c2 q3 c3 q4 c4 q5 c5) 64))
  go_enter Tryz.func65, Tryz.ntmps65
  go_upto_region 1 with fail
  generalize w.alloc (.cells (agg7k 3 x.name a1 a2 a3 a4 a5 q1 c1 q2 c2 q3 c3 q4 c4 q5 c5) 64) = w1 at HB HH ⊢
  have p0 := cells_at HH.out (i := 0) (u := .int .i64 3) rfl
  have p1 := cells_at HH.out (i := 1) (u := .string x.name) rfl
  have p2 := cells_at HH.out (i := 2) (u := .slice a1 q1 c1) rfl
  have p3 := cells_at HH.out (i := 3) (u := .slice a2 q2 c2) rfl
  have p4 := cells_at HH.out (i := 4) (u := .slice a3 q3 c3) rfl
  have p5 := cells_at HH.out (i := 5) (u := .slice a4 q4 c4) rfl
  have p6 := cells_at HH.out (i := 6) (u := .slice a5 q5 c5) rfl
  cases en
  case false =>
    simp only [Bool.not_false] at hem2
    clear zs zsI zf zfI
    go_wp2
    go_ret
    exact ⟨by simp, HB.out⟩
  simp only [Bool.not_true] at hem2
  cases ys
  case false =>
    simp only [Bool.not_false] at zs zsI
    clear zf zfI
    go_wp2
    go_ret
    exact ⟨by simp, HB.out⟩
  simp only [Bool.not_true] at zs zsI
  go_wp2_with fail
  refine (C92.out _ HB.out).mono ?_
  rintro e w2 ⟨rfl, hb⟩
  have HB2 := Lib.hid (HB.out.trans (hb.mono HB.out.size))
  replace p0 := cell_low p0 hb
  replace p5 := cell_low p5 hb
  clear hb p1 p2 p3 p4 p6 zs zsI hem hem2
  cases AL
  case false =>
    clear zf zfI
    go_wp2
    go_ret
    exact ⟨by simp, HB2.out⟩
  go_wp2
  go_loop [3] (Rel65 f x.lists) (fun i => q4 - (intOf i).toNat)
  case atStart => exact ⟨0, Nat.zero_le _, rfl, Lib.hid (by rw [List.drop_zero])⟩
  case round =>
    obtain ⟨k, hk, rfl, HR⟩ := hrel
    rw [Hq4.out] at hk
    by_cases hlt : k < q4
    · have hlt' : k < x.lists.length := by rw [Hq4.out]; exact hlt
      have HC := Lib.hid (single_cut f x.lists k hlt')
      obtain ⟨b, off, c', u, e, hc, hcell, hu⟩ := one_at K4.out k hlt'
      obtain ⟨ua, uc, rfl⟩ := ns_shape _ _ _ _ hu
      have h1 : x.lists[k].length = 1 := by
        have := List.all_eq_true.1 (show x.lists.all (fun y : List Nd => decide (y.length = 1)) = true from HAL.out) _ (List.getElem_mem hlt')
        exact of_decide_eq_true this
      obtain ⟨y, hy⟩ := one_of h1
      rw [hy] at hu hcell HC
      simp only at HC
      obtain ⟨m, b2, off2, c2', u1, u2, u3, u4, u5, v1, v2, v3, v4, v5, _, e2, _, _, _, d0, _⟩ := ns_at2 hu 0 (by simp)
      simp only [List.getElem_cons_zero, Nat.zero_mul, Nat.add_zero, List.length_cons, List.length_nil, Nat.zero_add] at d0 e2 hcell
      rw [Hq4.out] at e hc
      cases e
      cases e2
      replace hcell := cell_low hcell HB2.out
      replace d0 := cell_low d0 HB2.out
      have hf : f k y.kind = (orD) (k : Int) y.kind := by rw [Hf.out]
      generalize y.kind = kk at d0 HC hf
      unfold orD at hf
      have H1 : (k == 1) = decide ((k : Int) = 1) := by rw [eqz]; exact decide_eq_decide.2 (by omega)
      have H1I : ((k : Int) == 1) = decide ((k : Int) = 1) := eq_int _ _
      have H2 := eq_int kk 3
      have H3 := eq_int kk 4
      generalize decide ((k : Int) = 1) = y1 at H1 H1I hf
      generalize decide (kk = 3) = y2 at H2 hf
      generalize decide (kk = 4) = y3 at H3 hf
      have Hff := Lib.hid hf
      have HF : Hid (f k kk = false → SG = false) := Lib.hid fun e => by rw [← HSG.out, HR.out, HC.out, e]; rfl
      have HT : Hid (f k kk = true → singleM f 0 x.lists = singleM f (k + 1) (x.lists.drop (k + 1))) := Lib.hid fun e => by rw [HR.out, HC.out, e]; rfl
      clear hf hu h1 hy zf zfI
      cases y1 <;> cases y2 <;> cases y3
      all_goals first
        | (have hgo := Lib.hid (HF.out (by rw [Hff.out]; rfl))
           go_wp2
           go_ret
           rw [hgo.out]; exact ⟨by simp, HB2.out⟩)
        | (have hgo := Lib.hid (HT.out (by rw [Hff.out]; rfl))
           go_wp2
           go_round
           case rel => exact ⟨k + 1, hlt', vi (Int.natCast_succ k).symm, hgo⟩
           case measure => exact sz_meas hlt)
    · have hkq : q4 = k := sz_eq hlt hk
      have HF : Hid (SG = true) := Lib.hid (by rw [← HSG.out, HR.out]; exact single_end f _ _ (by rw [Hq4.out, hkq]; exact Nat.le_refl _))
      have hnl : decide ((k : Int) < (q4 : Int)) = false := by rw [hkq]; simp
      have hnl2 : decide (k < q4) = false := by rw [hkq]; simp
      clear hkq
      cases yf
      all_goals (
        go_wp2
        go_ret
        first | (rw [HF.out]; exact ⟨rfl, HB2.out⟩) | exact ⟨by simp, HB2.out⟩)
set_option maxHeartbeats 16000000 in
set_option maxRecDepth 100000 in
theorem joined65_4 (n : Nat) (x : Nd) (a1 a2 a3 a4 a5 : Option Addr) (c1 c2 c3 c4 c5 : Nat) (w : World) (h4 : LsAt n w (.slice a4 x.lists.length c4) x.lists) (b1 : x.assigns.length ≤ 1048576) (b2 : x.words.length ≤ 1048576) (b3 : x.redirs.length ≤ 1048576) (b5 : x.arms.length ≤ 1048576) :
    Calls Tryz.prog 65 #[.agg #[.int .i64 4, .string x.name, .slice a1 x.assigns.length c1, .slice a2 x.words.length c2, .slice a3 x.redirs.length c3, .slice a4 x.lists.length c4, .slice a5 x.arms.length c5]] w fun e w' => e = .returned (.bool (emB x.name && decide (x.assigns.length + x.words.length + x.arms.length + x.redirs.length = 0) && aloneB x.lists && singleM (orD) 0 x.lists && decide (x.lists.length = 2))) ∧ Below w.heap.size w w' := by
  have K4 := Lib.hid h4
  have l4 := h4.len
  have C92 := Lib.hid fun (W : World) (hW : Below w.heap.size w W) => alone92 n 4 x.name a1 a2 a3 a4 a5 x.assigns.length x.words.length x.redirs.length x.arms.length c1 c2 c3 c4 c5 x.lists W (kept_ls n _ _ _ _ h4 hW)
  obtain ⟨f, Hf⟩ : ∃ f : Int → Int → Bool, Hid ((orD) = f) := ⟨_, Lib.hid rfl⟩
  rw [Hf.out]
  obtain ⟨AL, HAL⟩ : ∃ b, Hid (aloneB x.lists = b) := ⟨_, Lib.hid rfl⟩
  rw [HAL.out] at C92 ⊢
  obtain ⟨SG, HSG⟩ : ∃ b, Hid (singleM f 0 x.lists = b) := ⟨_, Lib.hid rfl⟩
  rw [HSG.out]
  obtain ⟨q1, Hq1⟩ : ∃ q, Hid (x.assigns.length = q) := ⟨_, Lib.hid rfl⟩
  obtain ⟨q2, Hq2⟩ : ∃ q, Hid (x.words.length = q) := ⟨_, Lib.hid rfl⟩
  obtain ⟨q3, Hq3⟩ : ∃ q, Hid (x.redirs.length = q) := ⟨_, Lib.hid rfl⟩
  obtain ⟨q4, Hq4⟩ : ∃ q, Hid (x.lists.length = q) := ⟨_, Lib.hid rfl⟩
  obtain ⟨q5, Hq5⟩ : ∃ q, Hid (x.arms.length = q) := ⟨_, Lib.hid rfl⟩
  rw [Hq1.out, Hq2.out, Hq3.out, Hq4.out, Hq5.out] at C92
  rw [Hq4.out] at K4 l4
  rw [Hq1.out] at b1
  rw [Hq2.out] at b2
  rw [Hq3.out] at b3
  rw [Hq5.out] at b5
  rw [Hq1.out, Hq2.out, Hq3.out, Hq4.out, Hq5.out]
  have hem := emp_is x.name
  have hem2 : (x.name.toList != []) = !emB x.name := by rw [bne, hem]
  have zs : decide (0 < q1 + q2 + q5 + q3) = !decide (q1 + q2 + q5 + q3 = 0) := by rw [← decide_not]; exact decide_eq_decide.2 (by omega)
  have zsI : decide (0 < (q1 : Int) + q2 + q5 + q3) = !decide (q1 + q2 + q5 + q3 = 0) := by rw [← decide_not]; exact decide_eq_decide.2 (by omega)
  obtain ⟨yf, Hyf⟩ : ∃ b, Hid (decide (q4 = 2) = b) := ⟨_, Lib.hid rfl⟩
  have zf : (q4 == 2) = yf := by rw [eqz, Hyf.out]
  have zfI : ((q4 : Int) == 2) = yf := by rw [eq_int, ← Hyf.out]; exact decide_eq_decide.2 (by omega)
  rw [Hyf.out]
  generalize emB x.name = en at hem hem2 ⊢
  generalize decide (q1 + q2 + q5 + q3 = 0) = ys at zs zsI ⊢
  clear h4
  have HB := Lib.hid ((Below.refl w.heap.size w).alloc (Nat.le_refl _) (.cells (agg7k 4 x.name a1 a2 a3 a4 a5 q1 c1 q2 c2 q3 c3 q4 c4 q5 c5) 64))
  have HH := Lib.hid (heap_alloc_new w (.cells (agg7k 4 x.name a1 a2 a3 a4 a5 q1 c1 q2 c2 q3 c3 q4 c4 q5 c5) 64))
  go_enter Tryz.func65, Tryz.ntmps65
  go_upto_region 1 with fail
  generalize w.alloc (.cells (agg7k 4 x.name a1 a2 a3 a4 a5 q1 c1 q2 c2 q3 c3 q4 c4 q5 c5) 64) = w1 at HB HH ⊢
  have p0 := cells_at HH.out (i := 0) (u := .int .i64 4) rfl
  have p1 := cells_at HH.out (i := 1) (u := .string x.name) rfl
  have p2 := cells_at HH.out (i := 2) (u := .slice a1 q1 c1) rfl
  have p3 := cells_at HH.out (i := 3) (u := .slice a2 q2 c2) rfl
  have p4 := cells_at HH.out (i := 4) (u := .slice a3 q3 c3) rfl
  have p5 := cells_at HH.out (i := 5) (u := .slice a4 q4 c4) rfl
  have p6 := cells_at HH.out (i := 6) (u := .slice a5 q5 c5) rfl
  cases en
  case false =>
    simp only [Bool.not_false] at hem2
    clear zs zsI zf zfI
    go_wp2
    go_ret
    exact ⟨by simp, HB.out⟩
  simp only [Bool.not_true] at hem2
  cases ys
  case false =>
    simp only [Bool.not_false] at zs zsI
    clear zf zfI
    go_wp2
    go_ret
    exact ⟨by simp, HB.out⟩
  simp only [Bool.not_true] at zs zsI
  go_wp2_with fail
  refine (C92.out _ HB.out).mono ?_
  rintro e w2 ⟨rfl, hb⟩
  have HB2 := Lib.hid (HB.out.trans (hb.mono HB.out.size))
  replace p0 := cell_low p0 hb
  replace p5 := cell_low p5 hb
  clear hb p1 p2 p3 p4 p6 zs zsI hem hem2
  cases AL
  case false =>
    clear zf zfI
    go_wp2
    go_ret
    exact ⟨by simp, HB2.out⟩
  go_wp2
  go_loop [3] (Rel65 f x.lists) (fun i => q4 - (intOf i).toNat)
  case atStart => exact ⟨0, Nat.zero_le _, rfl, Lib.hid (by rw [List.drop_zero])⟩
  case round =>
    obtain ⟨k, hk, rfl, HR⟩ := hrel
    rw [Hq4.out] at hk
    by_cases hlt : k < q4
    · have hlt' : k < x.lists.length := by rw [Hq4.out]; exact hlt
      have HC := Lib.hid (single_cut f x.lists k hlt')
      obtain ⟨b, off, c', u, e, hc, hcell, hu⟩ := one_at K4.out k hlt'
      obtain ⟨ua, uc, rfl⟩ := ns_shape _ _ _ _ hu
      have h1 : x.lists[k].length = 1 := by
        have := List.all_eq_true.1 (show x.lists.all (fun y : List Nd => decide (y.length = 1)) = true from HAL.out) _ (List.getElem_mem hlt')
        exact of_decide_eq_true this
      obtain ⟨y, hy⟩ := one_of h1
      rw [hy] at hu hcell HC
      simp only at HC
      obtain ⟨m, b2, off2, c2', u1, u2, u3, u4, u5, v1, v2, v3, v4, v5, _, e2, _, _, _, d0, _⟩ := ns_at2 hu 0 (by simp)
      simp only [List.getElem_cons_zero, Nat.zero_mul, Nat.add_zero, List.length_cons, List.length_nil, Nat.zero_add] at d0 e2 hcell
      rw [Hq4.out] at e hc
      cases e
      cases e2
      replace hcell := cell_low hcell HB2.out
      replace d0 := cell_low d0 HB2.out
      have hf : f k y.kind = (orD) (k : Int) y.kind := by rw [Hf.out]
      generalize y.kind = kk at d0 HC hf
      unfold orD at hf
      have H1 : (k == 1) = decide ((k : Int) = 1) := by rw [eqz]; exact decide_eq_decide.2 (by omega)
      have H1I : ((k : Int) == 1) = decide ((k : Int) = 1) := eq_int _ _
      have H2 := eq_int kk 3
      have H3 := eq_int kk 4
      generalize decide ((k : Int) = 1) = y1 at H1 H1I hf
      generalize decide (kk = 3) = y2 at H2 hf
      generalize decide (kk = 4) = y3 at H3 hf
      have Hff := Lib.hid hf
      have HF : Hid (f k kk = false → SG = false) := Lib.hid fun e => by rw [← HSG.out, HR.out, HC.out, e]; rfl
      have HT : Hid (f k kk = true → singleM f 0 x.lists = singleM f (k + 1) (x.lists.drop (k + 1))) := Lib.hid fun e => by rw [HR.out, HC.out, e]; rfl
      clear hf hu h1 hy zf zfI
      cases y1 <;> cases y2 <;> cases y3
      all_goals first
        | (have hgo := Lib.hid (HF.out (by rw [Hff.out]; rfl))
           go_wp2
           go_ret
           rw [hgo.out]; exact ⟨by simp, HB2.out⟩)
        | (have hgo := Lib.hid (HT.out (by rw [Hff.out]; rfl))
           go_wp2
           go_round
           case rel => exact ⟨k + 1, hlt', vi (Int.natCast_succ k).symm, hgo⟩
           case measure => exact sz_meas hlt)
    · have hkq : q4 = k := sz_eq hlt hk
      have HF : Hid (SG = true) := Lib.hid (by rw [← HSG.out, HR.out]; exact single_end f _ _ (by rw [Hq4.out, hkq]; exact Nat.le_refl _))
      have hnl : decide ((k : Int) < (q4 : Int)) = false := by rw [hkq]; simp
      have hnl2 : decide (k < q4) = false := by rw [hkq]; simp
      clear hkq
      cases yf
      all_goals (
        go_wp2
        go_ret
        first | (rw [HF.out]; exact ⟨rfl, HB2.out⟩) | exact ⟨by simp, HB2.out⟩)
set_option maxHeartbeats 16000000 in
set_option maxRecDepth 100000 in
theorem joined65_5 (n : Nat) (x : Nd) (a1 a2 a3 a4 a5 : Option Addr) (c1 c2 c3 c4 c5 : Nat) (w : World) (h4 : LsAt n w (.slice a4 x.lists.length c4) x.lists) (b1 : x.assigns.length ≤ 1048576) (b2 : x.words.length ≤ 1048576) (b3 : x.redirs.length ≤ 1048576) (b5 : x.arms.length ≤ 1048576) :
    Calls Tryz.prog 65 #[.agg #[.int .i64 5, .string x.name, .slice a1 x.assigns.length c1, .slice a2 x.words.length c2, .slice a3 x.redirs.length c3, .slice a4 x.lists.length c4, .slice a5 x.arms.length c5]] w fun e w' => e = .returned (.bool (emB x.name && decide (x.assigns.length + x.words.length + x.arms.length + x.redirs.length = 0) && aloneB x.lists && singleM (fun _ k => notM k) 0 x.lists && decide (x.lists.length = 1))) ∧ Below w.heap.size w w' := by
  have K4 := Lib.hid h4
  have l4 := h4.len
  have C92 := Lib.hid fun (W : World) (hW : Below w.heap.size w W) => alone92 n 5 x.name a1 a2 a3 a4 a5 x.assigns.length x.words.length x.redirs.length x.arms.length c1 c2 c3 c4 c5 x.lists W (kept_ls n _ _ _ _ h4 hW)
  obtain ⟨f, Hf⟩ : ∃ f : Int → Int → Bool, Hid ((fun _ k => notM k) = f) := ⟨_, Lib.hid rfl⟩
  rw [Hf.out]
  obtain ⟨AL, HAL⟩ : ∃ b, Hid (aloneB x.lists = b) := ⟨_, Lib.hid rfl⟩
  rw [HAL.out] at C92 ⊢
  obtain ⟨SG, HSG⟩ : ∃ b, Hid (singleM f 0 x.lists = b) := ⟨_, Lib.hid rfl⟩
  rw [HSG.out]
  obtain ⟨q1, Hq1⟩ : ∃ q, Hid (x.assigns.length = q) := ⟨_, Lib.hid rfl⟩
  obtain ⟨q2, Hq2⟩ : ∃ q, Hid (x.words.length = q) := ⟨_, Lib.hid rfl⟩
  obtain ⟨q3, Hq3⟩ : ∃ q, Hid (x.redirs.length = q) := ⟨_, Lib.hid rfl⟩
  obtain ⟨q4, Hq4⟩ : ∃ q, Hid (x.lists.length = q) := ⟨_, Lib.hid rfl⟩
  obtain ⟨q5, Hq5⟩ : ∃ q, Hid (x.arms.length = q) := ⟨_, Lib.hid rfl⟩
  rw [Hq1.out, Hq2.out, Hq3.out, Hq4.out, Hq5.out] at C92
  rw [Hq4.out] at K4 l4
  rw [Hq1.out] at b1
  rw [Hq2.out] at b2
  rw [Hq3.out] at b3
  rw [Hq5.out] at b5
  rw [Hq1.out, Hq2.out, Hq3.out, Hq4.out, Hq5.out]
  have hem := emp_is x.name
  have hem2 : (x.name.toList != []) = !emB x.name := by rw [bne, hem]
  have zs : decide (0 < q1 + q2 + q5 + q3) = !decide (q1 + q2 + q5 + q3 = 0) := by rw [← decide_not]; exact decide_eq_decide.2 (by omega)
  have zsI : decide (0 < (q1 : Int) + q2 + q5 + q3) = !decide (q1 + q2 + q5 + q3 = 0) := by rw [← decide_not]; exact decide_eq_decide.2 (by omega)
  obtain ⟨yf, Hyf⟩ : ∃ b, Hid (decide (q4 = 1) = b) := ⟨_, Lib.hid rfl⟩
  have zf : (q4 == 1) = yf := by rw [eqz, Hyf.out]
  have zfI : ((q4 : Int) == 1) = yf := by rw [eq_int, ← Hyf.out]; exact decide_eq_decide.2 (by omega)
  rw [Hyf.out]
  generalize emB x.name = en at hem hem2 ⊢
  generalize decide (q1 + q2 + q5 + q3 = 0) = ys at zs zsI ⊢
  clear h4
  have HB := Lib.hid ((Below.refl w.heap.size w).alloc (Nat.le_refl _) (.cells (agg7k 5 x.name a1 a2 a3 a4 a5 q1 c1 q2 c2 q3 c3 q4 c4 q5 c5) 64))
  have HH := Lib.hid (heap_alloc_new w (.cells (agg7k 5 x.name a1 a2 a3 a4 a5 q1 c1 q2 c2 q3 c3 q4 c4 q5 c5) 64))
  go_enter Tryz.func65, Tryz.ntmps65
  go_upto_region 1 with fail
  generalize w.alloc (.cells (agg7k 5 x.name a1 a2 a3 a4 a5 q1 c1 q2 c2 q3 c3 q4 c4 q5 c5) 64) = w1 at HB HH ⊢
  have p0 := cells_at HH.out (i := 0) (u := .int .i64 5) rfl
  have p1 := cells_at HH.out (i := 1) (u := .string x.name) rfl
  have p2 := cells_at HH.out (i := 2) (u := .slice a1 q1 c1) rfl
  have p3 := cells_at HH.out (i := 3) (u := .slice a2 q2 c2) rfl
  have p4 := cells_at HH.out (i := 4) (u := .slice a3 q3 c3) rfl
  have p5 := cells_at HH.out (i := 5) (u := .slice a4 q4 c4) rfl
  have p6 := cells_at HH.out (i := 6) (u := .slice a5 q5 c5) rfl
  cases en
  case false =>
    simp only [Bool.not_false] at hem2
    clear zs zsI zf zfI
    go_wp2
    go_ret
    exact ⟨by simp, HB.out⟩
  simp only [Bool.not_true] at hem2
  cases ys
  case false =>
    simp only [Bool.not_false] at zs zsI
    clear zf zfI
    go_wp2
    go_ret
    exact ⟨by simp, HB.out⟩
  simp only [Bool.not_true] at zs zsI
  go_wp2_with fail
  refine (C92.out _ HB.out).mono ?_
  rintro e w2 ⟨rfl, hb⟩
  have HB2 := Lib.hid (HB.out.trans (hb.mono HB.out.size))
  replace p0 := cell_low p0 hb
  replace p5 := cell_low p5 hb
  clear hb p1 p2 p3 p4 p6 zs zsI hem hem2
  cases AL
  case false =>
    clear zf zfI
    go_wp2
    go_ret
    exact ⟨by simp, HB2.out⟩
  go_wp2
  go_loop [3] (Rel65 f x.lists) (fun i => q4 - (intOf i).toNat)
  case atStart => exact ⟨0, Nat.zero_le _, rfl, Lib.hid (by rw [List.drop_zero])⟩
  case round =>
    obtain ⟨k, hk, rfl, HR⟩ := hrel
    rw [Hq4.out] at hk
    by_cases hlt : k < q4
    · have hlt' : k < x.lists.length := by rw [Hq4.out]; exact hlt
      have HC := Lib.hid (single_cut f x.lists k hlt')
      obtain ⟨b, off, c', u, e, hc, hcell, hu⟩ := one_at K4.out k hlt'
      obtain ⟨ua, uc, rfl⟩ := ns_shape _ _ _ _ hu
      have h1 : x.lists[k].length = 1 := by
        have := List.all_eq_true.1 (show x.lists.all (fun y : List Nd => decide (y.length = 1)) = true from HAL.out) _ (List.getElem_mem hlt')
        exact of_decide_eq_true this
      obtain ⟨y, hy⟩ := one_of h1
      rw [hy] at hu hcell HC
      simp only at HC
      obtain ⟨m, b2, off2, c2', u1, u2, u3, u4, u5, v1, v2, v3, v4, v5, _, e2, _, _, _, d0, _⟩ := ns_at2 hu 0 (by simp)
      simp only [List.getElem_cons_zero, Nat.zero_mul, Nat.add_zero, List.length_cons, List.length_nil, Nat.zero_add] at d0 e2 hcell
      rw [Hq4.out] at e hc
      cases e
      cases e2
      replace hcell := cell_low hcell HB2.out
      replace d0 := cell_low d0 HB2.out
      have hf : f k y.kind = (fun _ k => notM k) (k : Int) y.kind := by rw [Hf.out]
      generalize y.kind = kk at d0 HC hf
      simp only [not_rng] at hf
      obtain ⟨y1, H1⟩ : ∃ b, decide (3 ≤ kk) = b := ⟨_, rfl⟩
      obtain ⟨y2, H2⟩ : ∃ b, decide (kk ≤ 5) = b := ⟨_, rfl⟩
      rw [H1, H2] at hf
      have Hff := Lib.hid hf
      have HF : Hid (f k kk = false → SG = false) := Lib.hid fun e => by rw [← HSG.out, HR.out, HC.out, e]; rfl
      have HT : Hid (f k kk = true → singleM f 0 x.lists = singleM f (k + 1) (x.lists.drop (k + 1))) := Lib.hid fun e => by rw [HR.out, HC.out, e]; rfl
      clear hf hu h1 hy zf zfI
      cases y1 <;> cases y2
      all_goals first
        | (have hgo := Lib.hid (HF.out (by rw [Hff.out]; rfl))
           go_wp2
           go_ret
           rw [hgo.out]; exact ⟨by simp, HB2.out⟩)
        | (have hgo := Lib.hid (HT.out (by rw [Hff.out]; rfl))
           go_wp2
           go_round
           case rel => exact ⟨k + 1, hlt', vi (Int.natCast_succ k).symm, hgo⟩
           case measure => exact sz_meas hlt)
    · have hkq : q4 = k := sz_eq hlt hk
      have HF : Hid (SG = true) := Lib.hid (by rw [← HSG.out, HR.out]; exact single_end f _ _ (by rw [Hq4.out, hkq]; exact Nat.le_refl _))
      have hnl : decide ((k : Int) < (q4 : Int)) = false := by rw [hkq]; simp
      have hnl2 : decide (k < q4) = false := by rw [hkq]; simp
      clear hkq
      cases yf
      all_goals (
        go_wp2
        go_ret
        first | (rw [HF.out]; exact ⟨rfl, HB2.out⟩) | exact ⟨by simp, HB2.out⟩)
end Go.Proofs.YtfaohicadahcjaaGreatDoor
