/- The document's example holds: a, ab and b are put; From of a tells a and ab. No condition. -/
import Derived.Test.YtpkffkdojgpmhaaR
namespace Go.Proofs.Ytpkffkdojgpmhaa
open Go.RowKit Go.PlainAid
set_option linter.unusedSimpArgs false

def tA : ByteArray := ⟨#[97]⟩
def tB : ByteArray := ⟨#[98]⟩
def tAB : ByteArray := ⟨#[97, 98]⟩
theorem lA : tA.toList = [97] := by rw [ByteArray.toList_eq]; rfl
theorem lB : tB.toList = [98] := by rw [ByteArray.toList_eq]; rfl
theorem lAB : tAB.toList = [97, 98] := by rw [ByteArray.toList_eq]; rfl
theorem nm (s : ByteArray) (h1 : 1 ≤ s.size ∧ s.size ≤ 255) (h2 : ∀ k, k < s.size → bt s k ≠ 0 ∧ bt s k ≠ 47) (h3 : (s.toList == [46]) = false) (h4 : (s.toList == [46, 46]) = false) : nameB s = true := by
  have e0 : hasB s 0 = false := decide_eq_false (by rintro ⟨k, hk, e⟩; exact (h2 k hk).1 e)
  have e1 : hasB s 47 = false := decide_eq_false (by rintro ⟨k, hk, e⟩; exact (h2 k hk).2 e)
  unfold nameB
  rw [decide_eq_true h1, e0, e1, h3, h4]; rfl
theorem nmA : nameB tA = true := nm tA (by decide) (by intro k hk; match k, hk with | 0, _ => decide) (by rw [lA]; rfl) (by rw [lA]; rfl)
theorem nmB : nameB tB = true := nm tB (by decide) (by intro k hk; match k, hk with | 0, _ => decide) (by rw [lB]; rfl) (by rw [lB]; rfl)
theorem nmAB : nameB tAB = true := nm tAB (by decide) (by intro k hk; match k, hk with | 0, _ => decide | 1, _ => decide) (by rw [lAB]; rfl) (by rw [lAB]; rfl)
theorem blBA : bl tB tA = false := by unfold bl; rw [lA, lB]; rfl
theorem blAAB : bl tA tAB = true := by unfold bl; rw [lA, lAB]; rfl
theorem blBAB : bl tB tAB = false := by unfold bl; rw [lB, lAB]; rfl
theorem put1 : putL tB 1 [] = [(tB, 1)] := by
  have e : putE tB [] = 0 := by unfold putE; rw [if_neg (by decide), nmB]; rfl
  unfold putL; rw [e]; rfl
theorem put2 : putL tA 2 [(tB, 1)] = [(tA, 2), (tB, 1)] := by
  have p : pos tA [(tB, 1)] = 0 := by simp [pos, blBA]
  have h : hasN tA [(tB, 1)] = false := by unfold hasN; rw [p]; simp [lA, lB]
  have e : putE tA [(tB, 1)] = 0 := by unfold putE; rw [if_neg (by decide), nmA, h]; rfl
  unfold putL; rw [e, p]; rfl
theorem put3 : putL tAB 3 [(tA, 2), (tB, 1)] = [(tA, 2), (tAB, 3), (tB, 1)] := by
  have p : pos tAB [(tA, 2), (tB, 1)] = 1 := by simp [pos, blAAB, blBAB]
  have h : hasN tAB [(tA, 2), (tB, 1)] = false := by unfold hasN; rw [p]; simp [lAB, lB]
  have e : putE tAB [(tA, 2), (tB, 1)] = 0 := by unfold putE; rw [if_neg (by decide), nmAB, h]; rfl
  unfold putL; rw [e, p]; rfl
theorem from3 : frm tA [(tA, 2), (tAB, 3), (tB, 1)] (pos tA [(tA, 2), (tAB, 3), (tB, 1)]) = [(tA, 2), (tAB, 3)] := by
  have p : pos tA [(tA, 2), (tAB, 3), (tB, 1)] = 0 := by simp [pos, bl_irrefl]
  have e1 : preB tA tA = true := (preB_iff _ _).2 ⟨[], by simp⟩
  have e2 : preB tAB tA = true := (preB_iff _ _).2 ⟨[98], by rw [lA, lAB]; rfl⟩
  have e3 : preB tB tA = false := by
    cases e : preB tB tA
    · rfl
    · obtain ⟨t, ht⟩ := (preB_iff _ _).1 e
      rw [lA, lB] at ht; simp at ht
  rw [p]
  unfold frm
  simp [e1, e2, e3]

theorem dir_new (w : World) : DirAt w.heap.size w.heap.size (.slice none 0 0) [] (w.alloc (.cells #[.slice none 0 0] 26)) := ⟨heap_alloc_new w _, row_nil _ _ _⟩
/-- Behind a call of a directory of one's own. -/
theorem own_moved {D B : Nat} {v v' : Value} {l l' : List En} {w0 w w' : World} (h : DirAt D B v l w) (hB : B = w0.heap.size) (hD : B ≤ D) (hb : Below w0.heap.size w0 w) (hd : DirAt D B v' l' w') (hm : Moves D v.ownBlock w w') : DirAt D B v' l' w' ∧ Below w0.heap.size w0 w' := by
  have := lt_of_block h.blk
  subst hB
  exact ⟨hd, hm.low hb hD (fun k hk => (h.row.lt hk).1) (by omega)⟩

set_option maxHeartbeats 1000000 in
set_option maxRecDepth 100000 in
theorem anchor6 (w : World) : Calls Try.prog 6 #[] w fun e w' => e = .returned (.bool true) ∧ Below w.heap.size w w' := by
  have g0 := good_nil
  have g1 := g0.put tB 1
  rw [put1] at g1
  have g2 := g1.put tA 2
  rw [put2] at g2
  have g3 := g2.put tAB 3
  rw [put3] at g3
  have C1 := Lib.hid (fun w1 v (h : DirAt w.heap.size w.heap.size v [] w1) hB => put16 w.heap.size w.heap.size v [] tB 1 w1 h g0.rise (by simp) (by decide) hB)
  have C2 := Lib.hid (fun w1 v (h : DirAt w.heap.size w.heap.size v [(tB, 1)] w1) hB => put16 w.heap.size w.heap.size v [(tB, 1)] tA 2 w1 h g1.rise (by simp) (by decide) hB)
  have C3 := Lib.hid (fun w1 v (h : DirAt w.heap.size w.heap.size v [(tA, 2), (tB, 1)] w1) hB => put16 w.heap.size w.heap.size v [(tA, 2), (tB, 1)] tAB 3 w1 h g2.rise (by simp) (by decide) hB)
  have C4 := Lib.hid (fun w1 v (h : DirAt w.heap.size w.heap.size v [(tA, 2), (tAB, 3), (tB, 1)] w1) => from14 w.heap.size w.heap.size v [(tA, 2), (tAB, 3), (tB, 1)] tA w1 h g3.rise (by simp))
  rw [put1] at C1
  rw [put2] at C2
  rw [put3] at C3
  rw [from3] at C4
  clear g0 g1 g2 g3
  have D0 := Lib.hid (dir_new w)
  have hb0 : Below w.heap.size w (w.alloc (.cells #[.slice none 0 0] 26)) := (Below.refl _ w).alloc (Nat.le_refl _) _
  have B0 := Lib.hid hb0
  clear hb0
  go_enter Try.func6, Try.ntmps6
  go_wp2_with fail
  refine (C1.out _ _ D0.out (by simp)).mono ?_
  rintro e w1 ⟨v1, rfl, d1, d2, _⟩
  obtain ⟨q1, q2⟩ := own_moved D0.out rfl (Nat.le_refl _) B0.out d1 d2
  have D1 := Lib.hid q1
  have B1 := Lib.hid q2
  clear d1 d2 q1 q2
  go_wp2_with fail
  refine (C2.out _ _ D1.out B1.out.size).mono ?_
  rintro e w2 ⟨v2, rfl, d1, d2, _⟩
  obtain ⟨q1, q2⟩ := own_moved D1.out rfl (Nat.le_refl _) B1.out d1 d2
  have D2 := Lib.hid q1
  have B2 := Lib.hid q2
  clear d1 d2 q1 q2
  go_wp2_with fail
  refine (C3.out _ _ D2.out B2.out.size).mono ?_
  rintro e w3 ⟨v3, rfl, d1, d2, _⟩
  obtain ⟨q1, q2⟩ := own_moved D2.out rfl (Nat.le_refl _) B2.out d1 d2
  have D3 := Lib.hid q1
  have B3 := Lib.hid q2
  clear d1 d2 q1 q2
  go_wp2_with fail
  refine (C4.out _ _ D3.out).mono ?_
  rintro e w4 ⟨v4, rfl, d1, d2⟩
  have B4 := Lib.hid (B3.out.trans (d2.mono B3.out.size))
  rcases d1.cases with ⟨_, e⟩ | ⟨g, cap, cur, rfl, _⟩
  · simp at e
  have x0 := d1.cell0 (k := 0) (x := (tA, 2)) rfl
  have x1 := d1.cell1 (k := 1) (x := (tAB, 3)) rfl
  have l0 := lA
  clear d1 d2
  simp only [Nat.zero_mul, Nat.one_mul] at x0 x1
  go_wp2
  go_ret
  exact ⟨rfl, B4.out⟩
end Go.Proofs.Ytpkffkdojgpmhaa
