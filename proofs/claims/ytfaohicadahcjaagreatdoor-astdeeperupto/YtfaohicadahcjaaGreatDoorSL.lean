/- Plain: what may be at a depth may be at a greater one; so may some of it. No conditions. -/
import Derived.Test.YtfaohicadahcjaaGreatDoorW
namespace Go.Proofs.YtfaohicadahcjaaGreatDoor
open Go.RowKit Go.PlainAid Go.ChangeShapes Go.WideShapes Go.ChangeAt
set_option linter.unusedSimpArgs false
set_option linter.unusedVariables false
theorem wordB_mono {f g : Pt → Bool} (h : ∀ p, f p = true → g p = true) : ∀ (l : List Pt) (a : Option Pt), wordB f a l = true → wordB g a l = true
  | [], a, _ => by simp [wordB]
  | p :: r, a, hw => by
    simp only [wordB, Bool.and_eq_true] at hw ⊢
    exact ⟨⟨h p hw.1.1, hw.1.2⟩, wordB_mono h r (some p) hw.2⟩

def MonoW (W V : List Pt → Int → Bool) : Prop := ∀ w a b, a ≤ b → W w a = true → V w b = true
def MonoC (W V : List Nd → Int → Bool) : Prop := ∀ w a b, a ≤ b → W w a = true → V w b = true

theorem paramB_mono {W : List Pt → Int → Bool} (hW : MonoW W W) (p : Pt) (a b : Int) (hab : a ≤ b) (h : paramB W p a = true) : paramB W p b = true := by
  unfold paramB at h ⊢
  split
  · rename_i c; rw [if_pos c] at h; exact h
  · rename_i c; rw [if_neg c] at h
    split
    · rename_i c2; rw [if_pos c2] at h; exact h
    · rename_i c2; rw [if_neg c2] at h
      split
      · rename_i c3; rw [if_pos c3] at h; exact h
      · rename_i c3; rw [if_neg c3] at h
        rw [Bool.and_eq_true] at h ⊢
        exact ⟨h.1, hW _ _ _ (by omega) h.2⟩

theorem partB_mono {W : List Pt → Int → Bool} {C : List Nd → Int → Bool} (hW : MonoW W W) (hC : MonoC C C) (p : Pt) (a b : Int) (hab : a ≤ b) (h : partB W C p a = true) : partB W C p b = true := by
  unfold partB at h ⊢
  split
  · rename_i c; rw [if_pos c] at h; exact h
  · rename_i c; rw [if_neg c] at h
    split
    · rename_i c2; rw [if_pos c2, Bool.and_eq_true] at h
      rw [Bool.and_eq_true]
      exact ⟨h.1, paramB_mono hW p a b hab h.2⟩
    · rename_i c2; rw [if_neg c2] at h
      split
      · rename_i c3; rw [if_pos c3, Bool.and_eq_true] at h
        rw [Bool.and_eq_true]
        exact ⟨h.1, hC _ _ _ (by omega) h.2⟩
      · rename_i c3; rw [if_neg c3] at h
        exact h

theorem redB_mono {W : List Pt → Int → Bool} (hW : MonoW W W) (r : Rd) (a b : Int) (hab : a ≤ b) (h : redB W r a = true) : redB W r b = true := by
  unfold redB at h ⊢
  split at h
  · cases h
  · rename_i c
    have c2 : ¬ ((decide (r.fd < 0) || decide (9 < r.fd) || !W r.word b) = true) := by
      intro hc
      apply c
      simp only [Bool.or_eq_true, Bool.not_eq_true'] at hc ⊢
      rcases hc with hc | hc
      · exact Or.inl hc
      · right
        cases e : W r.word a with
        | false => rfl
        | true => rw [hW _ _ _ hab e] at hc; cases hc
    rw [if_neg c2]
    exact h

theorem all_mono {α : Type} {f g : α → Bool} (h : ∀ x, f x = true → g x = true) (l : List α) (hl : l.all f = true) : l.all g = true := by
  rw [List.all_eq_true] at hl ⊢
  exact fun x hx => h x (hl x hx)

theorem wordsB_mono {W : List Pt → Int → Bool} (hW : MonoW W W) (l : List (List Pt)) (a b : Int) (hab : a ≤ b) (h : wordsB W l a = true) : wordsB W l b = true := by
  unfold wordsB at h ⊢
  refine all_mono (fun x hx => ?_) l h
  rw [Bool.and_eq_true] at hx ⊢
  exact ⟨hx.1, hW _ _ _ hab hx.2⟩

theorem contentB_mono {W : List Pt → Int → Bool} {C : List Nd → Int → Bool} (hW : MonoW W W) (hC : MonoC C C) (x : Nd) (a b : Int) (hab : a ≤ b) (h : contentB W C x a = true) : contentB W C x b = true := by
  unfold contentB at h ⊢
  simp only [Bool.and_eq_true] at h ⊢
  obtain ⟨⟨⟨⟨h1, h2⟩, h3⟩, h4⟩, h5⟩ := h
  refine ⟨⟨⟨⟨all_mono (fun y hy => ?_) _ h1, all_mono (fun y hy => redB_mono hW y a b hab hy) _ h2⟩, all_mono (fun y hy => ?_) _ h3⟩, all_mono (fun y hy => ?_) _ h4⟩, wordsB_mono hW _ a b hab h5⟩
  · rw [Bool.and_eq_true] at hy ⊢; exact ⟨hy.1, hW _ _ _ hab hy.2⟩
  · rw [Bool.and_eq_true] at hy ⊢; exact ⟨hy.1, hC _ _ _ hab hy.2⟩
  · simp only [Bool.and_eq_true] at hy ⊢
    exact ⟨⟨hy.1.1, wordsB_mono hW _ a b hab hy.1.2⟩, hC _ _ _ hab hy.2⟩

theorem rgt_mono : ∀ n, MonoW (rgt n).1 (rgt n).1 ∧ MonoC (rgt n).2 (rgt n).2
  | 0 => ⟨fun _ _ _ _ _ => rfl, fun _ _ _ _ _ => rfl⟩
  | n + 1 => by
    obtain ⟨hW, hC⟩ := rgt_mono n
    refine ⟨fun w a b hab h => ?_, fun l a b hab h => ?_⟩
    · refine wordB_mono (fun p hp => ?_) w none h
      simp only [Bool.and_eq_true, decide_eq_true_eq] at hp ⊢
      exact ⟨by omega, partB_mono hW hC p a b hab hp.2⟩
    · refine all_mono (fun x hx => ?_) l h
      simp only [Bool.and_eq_true, decide_eq_true_eq] at hx ⊢
      exact ⟨⟨by omega, hx.1.2⟩, contentB_mono hW hC x _ _ (by omega) hx.2⟩

/-- Some of the commands. -/
theorem rgt_sub (n : Nat) (l m : List Nd) (hs : ∀ x, x ∈ m → x ∈ l) (a : Int) (h : (rgt n).2 l a = true) : (rgt n).2 m a = true := by
  cases n with
  | zero => rfl
  | succ n =>
    have h2 : l.all (fun x => decide (1 ≤ a) && shapeB x && contentB (rgt n).1 (rgt n).2 x (a - 1)) = true := h
    have g : m.all (fun x => decide (1 ≤ a) && shapeB x && contentB (rgt n).1 (rgt n).2 x (a - 1)) = true := by
      rw [List.all_eq_true] at h2 ⊢
      exact fun x hx => h2 x (hs x hx)
    exact g

theorem rightM_sub (n : Nat) (l m : List Nd) (hs : ∀ x, x ∈ m → x ∈ l) (deep : Int) (h : rightM n l deep = true) : rightM n m deep = true := rgt_sub n l m hs _ h
theorem rightM_mono (n : Nat) (l : List Nd) (a b : Int) (hab : a ≤ b) (h : rightM n l a = true) : rightM n l b = true := by
  unfold rightM at h ⊢
  refine (rgt_mono n).2 l _ _ ?_ h
  split <;> split <;> omega
end Go.Proofs.YtfaohicadahcjaaGreatDoor
