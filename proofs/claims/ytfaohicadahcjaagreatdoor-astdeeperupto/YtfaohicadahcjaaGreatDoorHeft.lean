/- What a bound on the bulk of what is read gives: of a part, of a row, of a text. No conditions. -/
import Derived.Test.YtfaohicadahcjaaGreatDoorRows
namespace Go.Proofs.YtfaohicadahcjaaGreatDoor.heft
variable {H : Type}

/-- Nothing weighs nothing. -/
theorem pos (d : DataW H) : 0 < Rows.uptoBulk d := by
  cases d <;> first | (simp only [Rows.uptoBulk]; omega) | (rename_i l; cases l <;> (simp only [Rows.uptoBulk]; omega))

/-- A row's weight, as a sum. -/
theorem all_sum : ∀ l : List (DataW H), Rows.uptoBulkAll l = (l.map Rows.uptoBulk).sum
  | [] => by simp only [Rows.uptoBulkAll, List.map_nil, List.sum_nil]
  | d :: r => by rw [Rows.uptoBulkAll, all_sum r, List.map_cons, List.sum_cons]

theorem two (l r : List (DataW H)) : Rows.uptoBulkAll (l ++ r) = Rows.uptoBulkAll l + Rows.uptoBulkAll r := by
  rw [all_sum, all_sum, all_sum, List.map_append, List.sum_append]

theorem of_mem {d : DataW H} {l : List (DataW H)} (h : d ∈ l) : Rows.uptoBulk d ≤ Rows.uptoBulkAll l := by
  obtain ⟨a, b, rfl⟩ := List.append_of_mem h
  have e : Rows.uptoBulkAll (d :: b) = Rows.uptoBulk d + Rows.uptoBulkAll b := by rw [Rows.uptoBulkAll]
  rw [two, e]
  omega

/-- A row is no longer than it is heavy. -/
theorem row : ∀ l : List (DataW H), l.length ≤ Rows.uptoBulkAll l
  | [] => Nat.zero_le _
  | d :: r => by
    have h := row r
    have hp := pos d
    rw [Rows.uptoBulkAll, List.length_cons]
    omega

/-- A slice: what it shows, and how many places it has. -/
theorem shown (a b : List (DataW H)) : Rows.uptoBulkAll a < Rows.uptoBulk (.slice a b) ∧ a.length + b.length < Rows.uptoBulk (.slice a b) := by
  have ha := row a
  have hb := row b
  rw [Rows.uptoBulk]
  exact ⟨by omega, by omega⟩

theorem text (s : List UInt8) : Rows.uptoBulk (DataW.lit (H := H) (.string s)) = s.length + 1 := by rw [Rows.uptoBulk]

/-- The bound itself. -/
theorem least {l : List (DataW H)} (h : Rows.uptoSmall H l = true) : Rows.uptoBulkAll l ≤ 1048576 := of_decide_eq_true h

end Go.Proofs.YtfaohicadahcjaaGreatDoor.heft
