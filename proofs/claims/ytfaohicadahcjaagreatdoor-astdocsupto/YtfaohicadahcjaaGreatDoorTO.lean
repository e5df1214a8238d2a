/- Plain: both ways of telling what a command may be say the same. No conditions. -/
import Derived.Test.YtfaohicadahcjaaGreatDoorTJ
import Derived.Test.YtfaohicadahcjaaGreatDoorTK
import Derived.Test.YtfaohicadahcjaaGreatDoorTL
import Derived.Test.YtfaohicadahcjaaGreatDoorTN
import Derived.Test.YtfaohicadahcjaaGreatDoorSN
import Derived.Test.YtfaohicadahcjaaGreatDoorTC
namespace Go.Proofs.YtfaohicadahcjaaGreatDoor
open Go.RowKit Go.PlainAid Go.ChangeShapes Go.WideShapes Go.ChangeAt
set_option linter.unusedSimpArgs false
set_option linter.unusedVariables false
/-! What a command may be: both ways of telling say the same. -/
def cnt4 (x : Nd) : Bool := decide (x.assigns.length + x.words.length + x.arms.length + x.redirs.length = 0)
def joinV (x : Nd) : Bool :=
  if x.kind = 2 then emB x.name && cnt4 x && aloneB x.lists && singleM (fun _ k => pipeM k) 0 x.lists && decide (2 ≤ x.lists.length)
  else if x.kind = 5 then emB x.name && cnt4 x && aloneB x.lists && singleM (fun _ k => notM k) 0 x.lists && decide (x.lists.length = 1)
  else emB x.name && cnt4 x && aloneB x.lists && singleM orD 0 x.lists && decide (x.lists.length = 2)
def compV (W : List Pt → Int → Bool) (C : List Nd → Int → Bool) (x : Nd) (left : Int) : Bool :=
  if x.kind = 6 then decide (x.assigns.length = 0) && emB x.name && decide (x.words.length + x.arms.length = 0) && (decide (x.lists.length = 2) || decide (x.lists.length = 3))
  else if x.kind = 7 ∨ x.kind = 8 then decide (x.assigns.length = 0) && emB x.name && decide (x.words.length + x.arms.length = 0) && decide (x.lists.length = 2)
  else if x.kind = 12 ∨ x.kind = 13 then decide (x.assigns.length = 0) && emB x.name && decide (x.words.length + x.arms.length = 0) && decide (x.lists.length = 1)
  else if x.kind = 9 then decide (x.assigns.length = 0) && nameL (ls x.name) && decide (x.arms.length = 0) && decide (x.lists.length = 1)
  else if x.kind = 10 then x.arms.all (armD W C left) && (decide (x.assigns.length = 0) && emB x.name && decide (x.words.length = 1) && decide (x.lists.length = 0))
  else if x.kind = 11 then decide (x.assigns.length = 0) && nameL (ls x.name) && !resL (ls x.name) && decide (x.words.length + x.arms.length + x.redirs.length = 0) && decide (x.lists.length = 1) && singleM (fun _ k => funM k) 0 x.lists
  else false
def nodeV (W : List Pt → Int → Bool) (C : List Nd → Int → Bool) (x : Nd) (left : Int) : Bool :=
  wordsB W x.words left && x.redirs.all (fun r => redB W r left) && x.lists.all (fun l => !z0 l && C l left) &&
    (if x.kind = 1 then simpleD W x left else if 2 ≤ x.kind ∧ x.kind ≤ 5 then joinV x else compV W C x left)
theorem oX14 : ∀ b0 b1 b2 b3 b4 b5 : Bool, (bits .andNot .i64 (hasI (!b0) (!b1) (!b2) (!b3) (!b4) (!b5)) 14 == 0) = (b0 && b4 && b5) := by decide +kernel
theorem oX16 : ∀ b0 b1 b2 b3 b4 b5 : Bool, (bits .andNot .i64 (hasI (!b0) (!b1) (!b2) (!b3) (!b4) (!b5)) 16 == 0) = (b0 && b1 && b2 && b3 && b5) := by decide +kernel
theorem oX24 : ∀ b0 b1 b2 b3 b4 b5 : Bool, (bits .andNot .i64 (hasI (!b0) (!b1) (!b2) (!b3) (!b4) (!b5)) 24 == 0) = (b0 && b1 && b2 && b5) := by decide +kernel
theorem oX29 : ∀ b0 b1 b2 b3 b4 b5 : Bool, (bits .andNot .i64 (hasI (!b0) (!b1) (!b2) (!b3) (!b4) (!b5)) 29 == 0) = (b1 && b5) := by decide +kernel
theorem oX44 : ∀ b0 b1 b2 b3 b4 b5 : Bool, (bits .andNot .i64 (hasI (!b0) (!b1) (!b2) (!b3) (!b4) (!b5)) 44 == 0) = (b0 && b1 && b4) := by decide +kernel
theorem oX17 : ∀ b0 b1 b2 b3 b4 b5 : Bool, (bits .andNot .i64 (hasI (!b0) (!b1) (!b2) (!b3) (!b4) (!b5)) 17 == 0) = (b1 && b2 && b3 && b5) := by decide +kernel
theorem oX0 : ∀ b0 b1 b2 b3 b4 b5 : Bool, (hasI (!b0) (!b1) (!b2) (!b3) (!b4) (!b5) != 0) = !(b0 && b1 && b2 && b3 && b4 && b5) := by decide +kernel
theorem dz (n : Nat) : decide (0 < n) = !decide (n = 0) := by rw [← decide_not]; exact decide_eq_decide.2 (by omega)
theorem dz2 (a b : Nat) : decide (a + b = 0) = (decide (a = 0) && decide (b = 0)) := by rw [← Bool.decide_and]; exact decide_eq_decide.2 (by omega)
theorem dz3 (a b c : Nat) : decide (a + b + c = 0) = (decide (a = 0) && decide (b = 0) && decide (c = 0)) := by rw [← Bool.decide_and, ← Bool.decide_and]; exact decide_eq_decide.2 (by omega)
theorem dz4 (a b c d : Nat) : decide (a + b + c + d = 0) = (decide (a = 0) && decide (b = 0) && decide (c = 0) && decide (d = 0)) := by rw [← Bool.decide_and, ← Bool.decide_and, ← Bool.decide_and]; exact decide_eq_decide.2 (by omega)
theorem hasX_is (x : Nd) : hasX x = hasI (!emB x.name) (!decide (x.assigns.length = 0)) (!decide (x.words.length = 0)) (!decide (x.redirs.length = 0)) (!decide (x.lists.length = 0)) (!decide (x.arms.length = 0)) := by
  unfold hasX fl0 fl1 fl2 fl3 fl4 fl5
  rw [dz, dz, dz, dz, dz]
theorem all_empty {α : Type} (l : List α) (f : α → Bool) (h : decide (l.length = 0) = true) : l.all f = true := by
  have := List.length_eq_zero_iff.1 (of_decide_eq_true h)
  rw [this]; rfl
theorem or_two (l : List (List Nd)) (h : decide (l.length = 2) = true) : singleM orD 0 l = singleM orM 0 l := by
  have := of_decide_eq_true h
  match l, this with
  | [a, b], _ =>
    unfold singleM singleM singleM orD orM
    simp
theorem q1 : ∀ a0 a1 a2 a3 a4 a5 A R L M Wd F : Bool, (a1 = true → A = true) → (a4 = true → L = true) → (a5 = true → M = true) → (Wd && R && L && (A && F && (a0 && a4 && a5 && !(a1 && a2 && a3)))) = (!(a0 && a1 && a2 && a3 && a4 && a5) && (a0 && a4 && a5) && F && (A && R && L && M && Wd)) := by decide +kernel
theorem q2 : ∀ a0 a1 a2 a3 a5 A R L M Wd AL S G : Bool, (a1 = true → A = true) → (a5 = true → M = true) → (AL = false → S = false) → (Wd && R && L && (a0 && (a1 && a2 && a5 && a3) && AL && S && G)) = (a0 && a1 && a2 && a3 && a5 && G && S && (A && R && L && M && Wd)) := by decide +kernel
theorem q6 : ∀ a0 a1 a2 a5 A R L M Wd G : Bool, (a1 = true → A = true) → (a5 = true → M = true) → (Wd && R && L && (a1 && a0 && (a2 && a5) && G)) = (a0 && a1 && a2 && a5 && G && (A && R && L && M && Wd)) := by decide +kernel
theorem q9 : ∀ a1 a5 A R L M Wd G nm : Bool, (a1 = true → A = true) → (a5 = true → M = true) → (Wd && R && L && (a1 && nm && a5 && G)) = (a1 && a5 && nm && G && (A && R && L && M && Wd)) := by decide +kernel
theorem q10 : ∀ a0 a1 a4 A R L M Wd G : Bool, (a1 = true → A = true) → (Wd && R && L && (M && (a1 && a0 && G && a4))) = (a0 && a1 && a4 && G && (A && R && L && M && Wd)) := by decide +kernel
theorem q11 : ∀ a1 a2 a3 a5 A R L M Wd G S nm rs : Bool, (a1 = true → A = true) → (a5 = true → M = true) → (Wd && R && L && (a1 && nm && !rs && (a2 && a5 && a3) && G && S)) = (a1 && a2 && a3 && a5 && nm && !rs && G && S && (A && R && L && M && Wd)) := by decide +kernel
theorem simpleD_is (W : List Pt → Int → Bool) (x : Nd) (left : Int) : simpleD W x left = (x.assigns.all (fun a => nameL (ls a.name) && W a.word left) && begB x.words && (emB x.name && z0 x.lists && z0 x.arms && !(decide (x.assigns.length + x.words.length + x.redirs.length = 0)))) := by
  unfold simpleD
  cases hw : x.words with
  | nil => rfl
  | cons w r => rw [firstB_is (w :: r) w r rfl]
theorem armD_is (W : List Pt → Int → Bool) (C : List Nd → Int → Bool) (left : Int) (l : List Ar) : l.all (armD W C left) = l.all (fun a => !z0 a.words && wordsB W a.words left && C a.body left) :=
  all_congr l fun a _ => by
    unfold armD
    cases z0 a.words <;> cases C a.body left <;> cases wordsB W a.words left <;> rfl
theorem z0_one {α : Type} (l : List α) (h : z0 l = true) : decide (l.length = 1) = false := by
  unfold z0 at h
  have := of_decide_eq_true h
  rw [this]; rfl
/-- What the document asks of a command is its kind's shape and what it holds. -/
theorem nodeV_is (W : List Pt → Int → Bool) (C : List Nd → Int → Bool) (x : Nd) (left : Int) : nodeV W C x left = (shapeB x && contentB W C x left) := by
  have hA := all_empty x.assigns (fun a => nameL (ls a.name) && W a.word left)
  have hL := all_empty x.lists (fun l => !z0 l && C l left)
  have hM := all_empty x.arms (fun a => !z0 a.words && wordsB W a.words left && C a.body left)
  have hor := or_two x.lists
  have hal2 := single_alone (fun _ k => pipeM k) x.lists 0
  have hal5 := single_alone (fun _ k => notM k) x.lists 0
  have hal3 := single_alone orD x.lists 0
  unfold nodeV shapeB contentB joinV compV onlyX cnt4
  rw [simpleD_is, armD_is, hasX_is, oX14, oX16, oX24, oX29, oX44, oX17, oX0, dz4 x.assigns.length x.words.length x.arms.length x.redirs.length, dz3 x.assigns.length x.words.length x.redirs.length, dz3 x.words.length x.arms.length x.redirs.length, dz2 x.words.length x.arms.length]
  unfold z0 at hL hM ⊢
  generalize hk : x.kind = k
  generalize emB x.name = a0 at *
  generalize e1 : decide (x.assigns.length = 0) = a1 at *
  generalize e2 : decide (x.words.length = 0) = a2 at *
  generalize e3 : decide (x.redirs.length = 0) = a3 at *
  generalize e4 : decide (x.lists.length = 0) = a4 at *
  generalize e5 : decide (x.arms.length = 0) = a5 at *
  generalize x.assigns.all (fun a => nameL (ls a.name) && W a.word left) = A at *
  generalize x.redirs.all (fun r => redB W r left) = R at *
  generalize x.lists.all (fun l => !decide (l.length = 0) && C l left) = L at *
  generalize x.arms.all (fun a => !decide (a.words.length = 0) && wordsB W a.words left && C a.body left) = M at *
  generalize wordsB W x.words left = Wd at *
  generalize begB x.words = F at *
  by_cases k1 : k = 1
  · subst k1; exact q1 a0 a1 a2 a3 a4 a5 A R L M Wd F hA hL hM
  by_cases k2 : k = 2
  · subst k2; exact q2 a0 a1 a2 a3 a5 A R L M Wd _ _ _ hA hM hal2
  by_cases k34 : k = 3 ∨ k = 4
  · have h1 : ¬ k = 5 := by omega
    have h2 : 2 ≤ k ∧ k ≤ 5 := by omega
    rw [if_neg k1, if_pos h2, if_neg k2, if_neg h1, if_neg k1, if_neg k2, if_pos k34]
    cases hg : decide (x.lists.length = 2)
    · simp
    · rw [hor hg] at hal3 ⊢
      exact q2 a0 a1 a2 a3 a5 A R L M Wd _ _ true hA hM hal3
  by_cases k5 : k = 5
  · subst k5; exact q2 a0 a1 a2 a3 a5 A R L M Wd _ _ _ hA hM hal5
  have h2 : ¬ (2 ≤ k ∧ k ≤ 5) := by omega
  rw [if_neg k1, if_neg h2, if_neg k1, if_neg k2, if_neg k34, if_neg k5]
  by_cases k6 : k = 6
  · rw [if_pos k6, if_pos k6]; exact q6 a0 a1 a2 a5 A R L M Wd _ hA hM
  rw [if_neg k6, if_neg k6]
  by_cases k7 : k = 7 ∨ k = 8
  · rw [if_pos k7, if_pos k7]; exact q6 a0 a1 a2 a5 A R L M Wd _ hA hM
  rw [if_neg k7, if_neg k7]
  by_cases k12 : k = 12 ∨ k = 13
  · rw [if_pos k12, if_pos k12]; exact q6 a0 a1 a2 a5 A R L M Wd _ hA hM
  rw [if_neg k12, if_neg k12]
  by_cases k9 : k = 9
  · rw [if_pos k9, if_pos k9]; exact q9 a1 a5 A R L M Wd _ _ hA hM
  rw [if_neg k9, if_neg k9]
  by_cases k10 : k = 10
  · rw [if_pos k10, if_pos k10]; exact q10 a0 a1 a4 A R L M Wd _ hA
  rw [if_neg k10, if_neg k10]
  by_cases k11 : k = 11
  · rw [if_pos k11, if_pos k11]; exact q11 a1 a2 a3 a5 A R L M Wd _ _ _ _ hA hM
  rw [if_neg k11, if_neg k11]
  simp
end Go.Proofs.YtfaohicadahcjaaGreatDoor
