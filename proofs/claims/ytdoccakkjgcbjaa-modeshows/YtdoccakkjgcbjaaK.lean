/- The plain law behind ModeTwice: one action done twice does what it does once, and + then - leaves none of the bits. Conditions: who of u, g, o, a; letters of r, w, x, s, t. -/
import Derived.Test.YtdoccakkjgcbjaaH
namespace Go.Proofs.Ytdoccakkjgcbjaa
open Go.RowKit Go.PlainAid

/-- One of the three signs. -/
def Sign (c : Int) : Prop := c = 43 ∨ c = 45 ∨ c = 61

theorem rwho_only : ∀ (l : List Int), (∀ c ∈ l, c = 117 ∨ c = 103 ∨ c = 111 ∨ c = 97) → ∀ acc : Int, ∃ W : Int, ∀ (sg : Int) (r : List Int), Sign sg → rwho (l ++ sg :: r) acc = (W, sg :: r)
  | [], _, acc => ⟨acc, fun sg r h => by rcases h with rfl | rfl | rfl <;> rfl⟩
  | c :: l, h, acc => by
    have ih := rwho_only l (fun x hx => h x (by simp [hx]))
    rcases h c (by simp) with rfl | rfl | rfl | rfl
    · obtain ⟨W, hW⟩ := ih (bits .or .i64 acc 448)
      exact ⟨W, fun sg r hs => by rw [List.cons_append]; exact hW sg r hs⟩
    · obtain ⟨W, hW⟩ := ih (bits .or .i64 acc 56)
      exact ⟨W, fun sg r hs => by rw [List.cons_append]; exact hW sg r hs⟩
    · obtain ⟨W, hW⟩ := ih (bits .or .i64 acc 7)
      exact ⟨W, fun sg r hs => by rw [List.cons_append]; exact hW sg r hs⟩
    · obtain ⟨W, hW⟩ := ih (bits .or .i64 acc 511)
      exact ⟨W, fun sg r hs => by rw [List.cons_append]; exact hW sg r hs⟩

theorem rbits_only (who : Int) : ∀ (l : List Int), (∀ c ∈ l, c = 114 ∨ c = 119 ∨ c = 120 ∨ c = 115 ∨ c = 116) → ∀ acc : Int, ∃ B : Int, ∀ may : Bool, rbits who may l acc = some (B, [])
  | [], _, acc => ⟨acc, fun _ => rfl⟩
  | c :: l, h, acc => by
    have ih := rbits_only who l (fun x hx => h x (by simp [hx]))
    rcases h c (by simp) with rfl | rfl | rfl | rfl | rfl
    · obtain ⟨B, hB⟩ := ih (bits .or .i64 acc (bits .and .i64 292 who)); exact ⟨B, fun may => hB may⟩
    · obtain ⟨B, hB⟩ := ih (bits .or .i64 acc (bits .and .i64 146 who)); exact ⟨B, fun may => hB may⟩
    · obtain ⟨B, hB⟩ := ih (bits .or .i64 acc (bits .and .i64 73 who)); exact ⟨B, fun may => hB may⟩
    · obtain ⟨B, hB⟩ := ih (bits .or .i64 acc (setM who)); exact ⟨B, fun may => hB may⟩
    · obtain ⟨B, hB⟩ := ih (bits .or .i64 acc 512); exact ⟨B, fun may => hB may⟩

theorem cgo_one (who kept : Int) (dir : Bool) (n : Nat) (sg : Int) (l : List Int) (m B : Int) (h : ∀ may, rbits who may l 0 = some (B, [])) : cgo who kept dir (n + 1) (sg :: l) m = actM sg m B who kept := by
  rw [cgo, h]
  simp only [Option.bind_some]
  cases actM sg m B who kept with
  | none => rfl
  | some x => cases n <;> rfl

theorem clause_one (who ls : List Int) (hw : ∀ c ∈ who, c = 117 ∨ c = 103 ∨ c = 111 ∨ c = 97) (hl : ∀ c ∈ ls, c = 114 ∨ c = 119 ∨ c = 120 ∨ c = 115 ∨ c = 116) (dir : Bool) (mask : Int) :
    ∃ W kept B : Int, ∀ (sg m : Int), Sign sg → clauseM (who ++ sg :: ls) m dir mask = actM sg m B W kept := by
  obtain ⟨W, hW⟩ := rwho_only who hw 0
  by_cases h0 : who = []
  · subst h0
    obtain ⟨B, hB⟩ := rbits_only 511 ls hl 0
    refine ⟨511, bits .and .i64 mask 511, B, fun sg m hs => ?_⟩
    unfold clauseM
    rw [hW sg ls hs]
    simp only [List.nil_append, if_true, List.cons_ne_nil, if_false]
    exact cgo_one _ _ _ _ _ _ _ _ hB
  · obtain ⟨B, hB⟩ := rbits_only W ls hl 0
    refine ⟨W, 0, B, fun sg m hs => ?_⟩
    unfold clauseM
    rw [hW sg ls hs]
    have hne : ¬ (sg :: ls).length = (who ++ sg :: ls).length := by
      rw [List.length_append]; have := List.length_pos_iff.2 h0; omega
    simp only [hne, if_false, reduceCtorEq]
    rw [show (who ++ sg :: ls).length = (who.length + ls.length) + 1 by simp; omega]
    exact cgo_one _ _ _ _ _ _ _ _ hB

theorem no_comma {who ls : List Int} {sg : Int} (hw : ∀ c ∈ who, c = 117 ∨ c = 103 ∨ c = 111 ∨ c = 97) (hl : ∀ c ∈ ls, c = 114 ∨ c = 119 ∨ c = 120 ∨ c = 115 ∨ c = 116) (hs : Sign sg) : ∀ c ∈ who ++ sg :: ls, (c == 44) = false := by
  intro c hc
  simp only [List.mem_append, List.mem_cons] at hc
  refine beq_eq_false_iff_ne.2 ?_
  rcases hc with h | rfl | h
  · rcases hw c h with rfl | rfl | rfl | rfl <;> decide
  · rcases hs with rfl | rfl | rfl <;> decide
  · rcases hl c h with rfl | rfl | rfl | rfl | rfl <;> decide

theorem chgM_nodig {l : List Int} {m : Int} {dir : Bool} {mask : Int} (h : ∀ c ∈ l.head?, ¬ (48 ≤ c ∧ c ≤ 57)) : chgM l m dir mask = formM (chgL dir mask l [] m) := by
  cases l with
  | nil => rfl
  | cons c r => rw [chgM, if_neg (h c (by simp))]

theorem head_one {who r : List Int} {sg : Int} (hw : ∀ c ∈ who, c = 117 ∨ c = 103 ∨ c = 111 ∨ c = 97) (hs : Sign sg) : ∀ c ∈ (who ++ sg :: r).head?, ¬ (48 ≤ c ∧ c ≤ 57) := by
  intro c hc
  cases who with
  | nil =>
    simp only [List.nil_append, List.head?_cons, Option.mem_some_iff] at hc
    subst hc
    rcases hs with rfl | rfl | rfl <;> decide
  | cons d t =>
    simp only [List.cons_append, List.head?_cons, Option.mem_some_iff] at hc
    subst hc
    rcases hw d (by simp) with rfl | rfl | rfl | rfl <;> decide

theorem act_twice (sg m B W kept : Int) (hs : Sign sg) : ∃ a, actM sg m B W kept = some a ∧ actM sg a B W kept = some a := by
  rcases hs with rfl | rfl | rfl
  · refine ⟨_, rfl, ?_⟩
    show some (bits .or .i64 (bits .or .i64 m (bits .andNot .i64 B kept)) (bits .andNot .i64 B kept)) = some (bits .or .i64 m (bits .andNot .i64 B kept))
    generalize bits .andNot .i64 B kept = Y
    congr 1
    rw [or_V (bits .or .i64 m Y) Y, or_V m Y, V_toInt]
    congr 1
    apply BitVec.eq_of_getLsbD_eq; intro i _; simp only [BitVec.getLsbD_or]; cases (V m).getLsbD i <;> cases (V Y).getLsbD i <;> rfl
  · refine ⟨_, rfl, ?_⟩
    show some (bits .andNot .i64 (bits .andNot .i64 m (bits .andNot .i64 B kept)) (bits .andNot .i64 B kept)) = some (bits .andNot .i64 m (bits .andNot .i64 B kept))
    generalize bits .andNot .i64 B kept = Y
    congr 1
    rw [andNot_V (bits .andNot .i64 m Y) Y, andNot_V m Y, V_toInt]
    congr 1
    apply BitVec.eq_of_getLsbD_eq; intro i hi; simp only [BitVec.getLsbD_and, BitVec.getLsbD_not, hi, decide_true, Bool.true_and]; cases (V m).getLsbD i <;> cases (V Y).getLsbD i <;> rfl
  · refine ⟨_, rfl, ?_⟩
    show some (bits .or .i64 (bits .andNot .i64 (bits .or .i64 (bits .andNot .i64 m (bits .andNot .i64 (bits .or .i64 W (setM W)) kept)) (bits .andNot .i64 B kept)) (bits .andNot .i64 (bits .or .i64 W (setM W)) kept)) (bits .andNot .i64 B kept)) = some (bits .or .i64 (bits .andNot .i64 m (bits .andNot .i64 (bits .or .i64 W (setM W)) kept)) (bits .andNot .i64 B kept))
    generalize bits .andNot .i64 B kept = Y
    generalize bits .andNot .i64 (bits .or .i64 W (setM W)) kept = X
    congr 1
    rw [or_V (bits .andNot .i64 (bits .or .i64 (bits .andNot .i64 m X) Y) X) Y, andNot_V (bits .or .i64 (bits .andNot .i64 m X) Y) X, V_toInt, or_V (bits .andNot .i64 m X) Y, V_toInt, andNot_V m X, V_toInt]
    congr 1
    apply BitVec.eq_of_getLsbD_eq; intro i hi; simp only [BitVec.getLsbD_or, BitVec.getLsbD_and, BitVec.getLsbD_not, hi, decide_true, Bool.true_and]; cases (V m).getLsbD i <;> cases (V Y).getLsbD i <;> cases (V X).getLsbD i <;> rfl

theorem act_plus_minus (m B W kept : Int) : ∃ p d, actM 43 m B W kept = some p ∧ actM 45 p B W kept = some d ∧ actM 45 m B W kept = some d := by
  refine ⟨_, _, rfl, rfl, ?_⟩
  show some (bits .andNot .i64 m (bits .andNot .i64 B kept)) = some (bits .andNot .i64 (bits .or .i64 m (bits .andNot .i64 B kept)) (bits .andNot .i64 B kept))
  generalize bits .andNot .i64 B kept = Y
  congr 1
  rw [andNot_V (bits .or .i64 m Y) Y, andNot_V m Y, or_V, V_toInt]
  congr 1
  apply BitVec.eq_of_getLsbD_eq; intro i hi; simp only [BitVec.getLsbD_or, BitVec.getLsbD_and, BitVec.getLsbD_not, hi, decide_true, Bool.true_and]; cases (V m).getLsbD i <;> cases (V Y).getLsbD i <;> rfl

/-- The whole of ModeTwice over lists. -/
theorem twice_law (who ls : List Int) (hw : ∀ c ∈ who, c = 117 ∨ c = 103 ∨ c = 111 ∨ c = 97) (hl : ∀ c ∈ ls, c = 114 ∨ c = 119 ∨ c = 120 ∨ c = 115 ∨ c = 116) (sg m mask : Int) (hs : Sign sg) :
    ∃ a d, chgM (who ++ sg :: ls) m false mask = (a, 0) ∧ chgM (who ++ sg :: ls) a false mask = (a, 0) ∧ chgM (who ++ 43 :: ls ++ 44 :: (who ++ 45 :: ls)) m false mask = (d, 0) ∧ chgM (who ++ 45 :: ls) m false mask = (d, 0) := by
  obtain ⟨W, kept, B, h⟩ := clause_one who ls hw hl false mask
  obtain ⟨a, ha1, ha2⟩ := act_twice sg m B W kept hs
  obtain ⟨p, d, hp, hd, hd2⟩ := act_plus_minus m B W kept
  have s43 : Sign 43 := .inl rfl
  have s45 : Sign 45 := .inr (.inl rfl)
  have hc : ∀ (sg m : Int), Sign sg → chgL false mask (who ++ sg :: ls) [] m = actM sg m B W kept := fun sg m hs => by
    rw [chgL_miss false mask _ [] m (no_comma hw hl hs), List.nil_append, h sg m hs]
  refine ⟨a, d, ?_, ?_, ?_, ?_⟩
  · rw [chgM_nodig (head_one hw hs), hc _ _ hs, ha1]; rfl
  · rw [chgM_nodig (head_one hw hs), hc _ _ hs, ha2]; rfl
  · rw [chgM_nodig (by rw [List.append_assoc]; exact head_one hw s43), chgL_join, hc _ _ s43, hp, Option.bind_some, hc _ _ s45, hd]; rfl
  · rw [chgM_nodig (head_one hw s45), hc _ _ s45, hd2]; rfl
end Go.Proofs.Ytdoccakkjgcbjaa
