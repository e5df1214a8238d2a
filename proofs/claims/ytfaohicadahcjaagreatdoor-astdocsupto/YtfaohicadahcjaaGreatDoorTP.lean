/- The document's commands, by kinds. Conditions: lengths below a bound. -/
import Derived.Test.YtfaohicadahcjaaGreatDoorTO
import Derived.Test.YtfaohicadahcjaaGreatDoorTM
namespace Go.Proofs.YtfaohicadahcjaaGreatDoor
open Go.RowKit Go.PlainAid Go.ChangeShapes Go.WideShapes Go.ChangeAt
set_option linter.unusedSimpArgs false
set_option linter.unusedVariables false
/-! Each kind's way. -/
theorem joined65 (n : Nat) (x : Nd) (a1 a2 a3 a4 a5 : Option Addr) (c1 c2 c3 c4 c5 : Nat) (w : World) (hk : 2 ≤ x.kind ∧ x.kind ≤ 5) (h4 : LsAt n w (.slice a4 x.lists.length c4) x.lists) (b1 : x.assigns.length ≤ 1048576) (b2 : x.words.length ≤ 1048576) (b3 : x.redirs.length ≤ 1048576) (b5 : x.arms.length ≤ 1048576) :
    Calls Tryz.prog 65 #[.agg #[.int .i64 x.kind, .string x.name, .slice a1 x.assigns.length c1, .slice a2 x.words.length c2, .slice a3 x.redirs.length c3, .slice a4 x.lists.length c4, .slice a5 x.arms.length c5]] w fun e w' => e = .returned (.bool (joinV x)) ∧ Below w.heap.size w w' := by
  by_cases k2 : x.kind = 2
  · have := joined65_2 n x a1 a2 a3 a4 a5 c1 c2 c3 c4 c5 w h4 b1 b2 b3 b5
    rw [← k2] at this
    unfold joinV cnt4; rw [if_pos k2]; exact this
  by_cases k5 : x.kind = 5
  · have := joined65_5 n x a1 a2 a3 a4 a5 c1 c2 c3 c4 c5 w h4 b1 b2 b3 b5
    rw [← k5] at this
    unfold joinV cnt4; rw [if_neg k2, if_pos k5]; exact this
  by_cases k3 : x.kind = 3
  · have := joined65_3 n x a1 a2 a3 a4 a5 c1 c2 c3 c4 c5 w h4 b1 b2 b3 b5
    rw [← k3] at this
    unfold joinV cnt4; rw [if_neg k2, if_neg k5]; exact this
  · have k4 : x.kind = 4 := by omega
    have := joined65_4 n x a1 a2 a3 a4 a5 c1 c2 c3 c4 c5 w h4 b1 b2 b3 b5
    rw [← k4] at this
    unfold joinV cnt4; rw [if_neg k2, if_neg k5]; exact this
theorem comp66 (n : Nat) (G : DGood n) (x : Nd) (a1 a2 a3 a4 a5 : Option Addr) (c1 c2 c3 c4 c5 : Nat) (w : World) (lev deep : Int) (hl : Lv lev deep) (hd : lev ≤ deep) (hf : NdFits x) (b1 : x.assigns.length ≤ 1048576) (b2 : x.words.length ≤ 1048576) (b3 : x.redirs.length ≤ 1048576) (h4 : LsAt n w (.slice a4 x.lists.length c4) x.lists) (h5 : ArsAt n w (.slice a5 x.arms.length c5) x.arms) :
    Calls Tryz.prog 66 #[.agg #[.int .i64 x.kind, .string x.name, .slice a1 x.assigns.length c1, .slice a2 x.words.length c2, .slice a3 x.redirs.length c3, .slice a4 x.lists.length c4, .slice a5 x.arms.length c5], .int .i64 lev, .int .i64 deep] w fun e w' => e = .returned (.bool (compV (rgt n).1 (rgt n).2 x (deep - lev))) ∧ Below w.heap.size w w' := by
  have b4 := h4.len
  have b5 := h5.len
  unfold compV
  by_cases k6 : x.kind = 6
  · rw [if_pos k6, k6]
    exact comp66_6 x.name a1 a2 a3 a4 a5 _ _ _ _ _ c1 c2 c3 c4 c5 w lev deep b1 b2 b3 b4 b5
  rw [if_neg k6]
  by_cases k7 : x.kind = 7 ∨ x.kind = 8
  · rw [if_pos k7]
    rcases k7 with e | e
    · rw [e]; exact comp66_7 x.name a1 a2 a3 a4 a5 _ _ _ _ _ c1 c2 c3 c4 c5 w lev deep b1 b2 b3 b4 b5
    · rw [e]; exact comp66_8 x.name a1 a2 a3 a4 a5 _ _ _ _ _ c1 c2 c3 c4 c5 w lev deep b1 b2 b3 b4 b5
  rw [if_neg k7]
  by_cases k12 : x.kind = 12 ∨ x.kind = 13
  · rw [if_pos k12]
    rcases k12 with e | e
    · rw [e]; exact comp66_12 x.name a1 a2 a3 a4 a5 _ _ _ _ _ c1 c2 c3 c4 c5 w lev deep b1 b2 b3 b4 b5
    · rw [e]; exact comp66_13 x.name a1 a2 a3 a4 a5 _ _ _ _ _ c1 c2 c3 c4 c5 w lev deep b1 b2 b3 b4 b5
  rw [if_neg k12]
  by_cases k9 : x.kind = 9
  · rw [if_pos k9, k9]
    exact comp66_9 x.name a1 a2 a3 a4 a5 _ _ _ _ _ c1 c2 c3 c4 c5 w lev deep b1 b2 b3 b4 b5 hf.t
  rw [if_neg k9]
  by_cases k10 : x.kind = 10
  · rw [if_pos k10, k10]
    exact comp66_10 n G x.name a1 a2 a3 a4 a5 _ _ _ _ c1 c2 c3 c4 c5 x.arms w lev deep hl hd b1 b2 b3 b4 h5
  rw [if_neg k10]
  by_cases k11 : x.kind = 11
  · rw [if_pos k11, k11]
    exact comp66_11 n x.name a1 a2 a3 a4 a5 _ _ _ _ c1 c2 c3 c4 c5 x.lists w lev deep b1 b2 b3 b5 hf.t h4
  rw [if_neg k11]
  exact comp66_x x.kind (by rw [eq_int]; exact decide_eq_false k6) (by rw [eq_int]; exact decide_eq_false (fun e => k7 (.inl e))) (by rw [eq_int]; exact decide_eq_false (fun e => k7 (.inr e))) (by rw [eq_int]; exact decide_eq_false k9) (by rw [eq_int]; exact decide_eq_false k10) (by rw [eq_int]; exact decide_eq_false k11) (by rw [eq_int]; exact decide_eq_false (fun e => k12 (.inl e))) (by rw [eq_int]; exact decide_eq_false (fun e => k12 (.inr e))) x.name a1 a2 a3 a4 a5 _ _ _ _ _ c1 c2 c3 c4 c5 w lev deep b1 b2 b3 b4 b5
end Go.Proofs.YtfaohicadahcjaaGreatDoor
