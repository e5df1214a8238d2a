/- Plain: behind the depth of what is small, more levels change nothing. No conditions. -/
import Derived.Test.YtfaohicadahcjaaGreatDoorMh
import Derived.Test.YtfaohicadahcjaaGreatDoorMi
namespace Go.Proofs.YtfaohicadahcjaaGreatDoor
open Go.RowKit Go.PlainAid Go.ChangeShapes Go.WideShapes Go.ChangeAt
set_option linter.unusedSimpArgs false
set_option linter.unusedVariables false
theorem wordB_congr {f g : Pt → Bool} : ∀ (l : List Pt) (a : Option Pt), (∀ p ∈ l, f p = g p) → wordB f a l = wordB g a l
  | [], a, _ => by simp [wordB]
  | p :: r, a, h => by
    simp only [wordB]
    rw [h p (by simp), wordB_congr r (some p) (fun q hq => h q (by simp [hq]))]
theorem all_congr {α : Type} {f g : α → Bool} : ∀ (l : List α), (∀ x ∈ l, f x = g x) → l.all f = l.all g
  | [], _ => rfl
  | x :: r, h => by rw [List.all_cons, List.all_cons, h x (by simp), all_congr r (fun y hy => h y (by simp [hy]))]
theorem wordsB_congr {W V : List Pt → Bool} {A B : List Pt → Int → Bool} {a b : Int} (l : List (List Pt)) (h : ∀ w ∈ l, A w a = B w b) : wordsB A l a = wordsB B l b := by
  unfold wordsB
  exact all_congr l fun w hw => by rw [h w hw]
theorem rgt_indep : ∀ n, (∀ w d a b, (dps n).1 w d = true → d ≤ a → d ≤ b → (rgt n).1 w a = (rgt n).1 w b) ∧ (∀ l d a b, (dps n).2 l d = true → d ≤ a → d ≤ b → (rgt n).2 l a = (rgt n).2 l b)
  | 0 => ⟨fun _ _ _ _ _ _ _ => rfl, fun _ _ _ _ _ _ _ => rfl⟩
  | n + 1 => by
    obtain ⟨hW, hC⟩ := rgt_indep n
    refine ⟨fun w d a b h ha hb => ?_, fun l d a b h ha hb => ?_⟩
    · refine wordB_congr w none fun p hp => ?_
      have h2 := List.all_eq_true.1 h p hp
      simp only [dpP, Bool.and_eq_true, decide_eq_true_eq] at h2
      obtain ⟨h1, h3, h4⟩ := h2
      have e1 := hW p.word (d - 1) (a - 1) (b - 1) h3 (by omega) (by omega)
      have e2 := hC p.body (d - 1) (a - 1) (b - 1) h4 (by omega) (by omega)
      rw [decide_eq_true (show 1 ≤ a by omega), decide_eq_true (show 1 ≤ b by omega)]
      unfold partB paramB
      rw [e1, e2]
    · refine all_congr l fun x hx => ?_
      have h2 := List.all_eq_true.1 h x hx
      simp only [dpX, Bool.and_eq_true, decide_eq_true_eq, List.all_eq_true] at h2
      obtain ⟨h1, ⟨⟨⟨⟨i1, i2⟩, i3⟩, i4⟩, i5⟩⟩ := h2
      have W1 := fun w hw => hW w (d - 1) (a - 1) (b - 1) hw (by omega) (by omega)
      have N1 := fun w hw => hC w (d - 1) (a - 1) (b - 1) hw (by omega) (by omega)
      rw [decide_eq_true (show 1 ≤ a by omega), decide_eq_true (show 1 ≤ b by omega)]
      unfold contentB
      rw [all_congr (g := fun a => nameL (ls a.name) && (rgt n).1 a.word (b - 1)) x.assigns (fun y hy => by rw [W1 _ (i1 y hy)]),
        all_congr (g := fun r => redB (rgt n).1 r (b - 1)) x.redirs (fun y hy => by unfold redB; rw [W1 _ (i3 y hy)]),
        all_congr (g := fun l => !z0 l && (rgt n).2 l (b - 1)) x.lists (fun y hy => by rw [N1 _ (i4 y hy)]),
        all_congr (g := fun a => !z0 a.words && wordsB (rgt n).1 a.words (b - 1) && (rgt n).2 a.body (b - 1)) x.arms (fun y hy => by
          rw [N1 _ (i5 y hy).1, wordsB_congr (W := fun _ => true) (V := fun _ => true) (B := (rgt n).1) (b := b - 1) y.words (fun w hw => W1 w ((i5 y hy).2 w hw))]),
        wordsB_congr (W := fun _ => true) (V := fun _ => true) (B := (rgt n).1) (b := b - 1) x.words (fun w hw => W1 w (i2 w hw))]
/-- Behind the depth of what is small, more levels change nothing. -/
theorem rightM_indep (n : Nat) (l : List Nd) (a : Int) (h : (szs n).2 l 100 ≤ 3000) : rightM n l a = (rgt n).2 l a := by
  unfold rightM
  split
  · rfl
  · exact (rgt_indep n).2 l 100 _ _ ((szs_dps n).2 l 100 h) (by omega) (by omega)
end Go.Proofs.YtfaohicadahcjaaGreatDoor
