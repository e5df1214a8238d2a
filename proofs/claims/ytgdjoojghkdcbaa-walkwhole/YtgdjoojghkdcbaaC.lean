/- The contract of slices.Insert at entries: one entry comes in at a place. Conditions: the place is one of the row, which has at most 1000 entries; the new one lies elsewhere. -/
import Derived.Test.YtgdjoojghkdcbaaB
namespace Go.Proofs.Ytgdjoojghkdcbaa
open Go.RowKit Go.PlainAid
set_option linter.unusedSimpArgs false

theorem Try.info119 : (Try.prog.info? 119).map (fun i => (i.zero, i.size, i.bytes)) = some (some (.agg #[.string ⟨#[]⟩, .int .i64 0]), 2, 24) := by kernel_rfl
theorem Try.size119 : (Try.prog.info? 119).map (·.size) = some 2 := by kernel_rfl

theorem splice_in {α : Type} (cur A X D : List α) (p q : Nat) (hA : cur.take p = A) (hp : A.length = p) (hX : X.length = 2) (hD : D.length = q) (hc : p + 2 + q ≤ cur.length) :
    (splice (splice cur (p + 2) D) p X).take (p + 2 + q) = A ++ (X ++ D) := by
  subst hD
  have e1 : (splice cur (p + 2) D).take p = A := by
    unfold splice
    rw [List.take_append_of_le_length (by simp; omega), List.take_take, Nat.min_eq_left (by omega), hA]
  have e2 : ((splice cur (p + 2) D).drop (p + 2)).take D.length = D := by
    unfold splice
    rw [List.drop_append, List.drop_of_length_le (by simp; omega), List.length_take, Nat.min_eq_left (by omega), Nat.sub_self, List.drop_zero, List.nil_append, List.take_left]
  have e3 : splice (splice cur (p + 2) D) p X = A ++ (X ++ (splice cur (p + 2) D).drop (p + 2)) := by
    rw [splice.eq_def (splice cur (p + 2) D), e1, hX]
  rw [e3, ← List.append_assoc, List.take_append, List.take_of_length_le (by simp; omega), List.length_append, hp, hX, show p + 2 + D.length - (p + 2) = D.length by omega, e2, List.append_assoc]
theorem splice_on {α : Type} (cur A X D : List α) (p q : Nat) (hA : cur.take p = A) (hp : A.length = p) (hX : X.length = 2) (hD : D.length = q) (hc : p + 2 + q ≤ cur.length) :
    (splice (splice cur p X) (p + 2) D).take (p + 2 + q) = A ++ (X ++ D) := by
  subst hD
  have e1 : (splice cur p X).take (p + 2) = A ++ X := by
    unfold splice
    rw [hA, ← List.append_assoc, List.take_append_of_le_length (by simp; omega), List.take_of_length_le (by simp; omega)]
  rw [splice.eq_def (splice cur p X), e1, List.append_assoc, ← List.append_assoc A, List.take_append, List.take_of_length_le (by simp; omega), List.length_append, hp, hX, show p + 2 + D.length - (p + 2) = D.length by omega, List.take_left, List.append_assoc]

def Ins (B : Nat) (v : Value) (l : List En) (w : World) (e : Ending) (w' : World) : Prop := ∃ v', e = .returned v' ∧ Row 119 B v' l w' ∧ w.grownBy w' v.ownBlock ∧ Near w v v'

theorem new_two {w : World} {g : Nat} {x : En} {t : TypeId} (hg : w.heap[g]? = some (.cells #[.string x.1, .int .i64 x.2] t (0, 0))) : ∀ j u, (cs [x])[j]? = some u → w.cell? ((⟨g, 0, none⟩ : Addr).add j) = some u := by
  intro j u hj
  rw [add_at, Nat.zero_add, cell_of_row w g j _ t (0, 0) hg]
  simpa [cs] using hj

set_option maxHeartbeats 2000000 in
set_option maxRecDepth 100000 in
theorem insert26_end (B : Nat) (v : Value) (l : List En) (g : Nat) (x : En) (w : World) (h : Row 119 B v l w) (hl : l.length ≤ 1000)
    (hg : w.heap[g]? = some (.cells #[.string x.1, .int .i64 x.2] 119 (0, 0))) (hB : B ≤ w.heap.size) :
    Calls Try.prog 89 #[v, .int .i64 l.length, .slice (some ⟨g, 0, none⟩) 1 1] w (Ins B v (l ++ [x]) w) := by
  obtain ⟨i0, hi0, hz0, hz1, hz2⟩ := info_parts Try.info119
  have HG := Lib.hid (new_two hg)
  have H := Lib.hid h
  have e1 : ((l.length : Int) == (l.length : Int)) = true := by simp
  have fin : ∀ v' w', w'.ownsRow B 119 2 v' (l.length + 1) (cs l ++ cs [x]) → w.grownBy w' v.ownBlock → Near w v v' → Ins B v (l ++ [x]) w (.returned v') w' := by
    intro v' w' h1 h2 h3
    refine ⟨v', rfl, ?_, h2, h3⟩
    unfold Row
    rw [List.length_append, cs_app]
    exact h1
  have FIN := Lib.hid fin
  clear fin
  rcases h.cases with ⟨rfl, rfl⟩ | ⟨gv, cap, cur, rfl, _, hgv, hcap, hmax, _⟩
  · clear h hg
    go_enter Try.func89, Try.ntmps89
    go_wp2_with (at_builtin; refine wpList_append_near _ rfl _ _ 87 rfl B 119 i0 (.agg #[.string ⟨#[]⟩, .int .i64 0]) 2 24 Try.underlying87 hi0 hz0 hz1 hz2 rfl (by decide) _ _ _ rfl H.out ⟨g, 0, none⟩ 1 1 (cs [x]) rfl rfl HG.out (cs_one _) ?a3 ?a4 hB ?_)
    case a3 => unfold maxLen; simp
    case a4 => simp
    intro v' w1 h1 h2 h3
    obtain ⟨a', c', rfl⟩ := slice_shape h1
    have F := Lib.hid (FIN.out _ _ h1 h2 h3)
    clear h1 h2 h3
    go_wp2
    go_ret
    exact F.out
  · clear h hg
    unfold maxLen at hmax
    go_enter Try.func89, Try.ntmps89
    go_wp2_with (at_builtin; refine wpList_append_near _ rfl _ _ 87 rfl B 119 i0 (.agg #[.string ⟨#[]⟩, .int .i64 0]) 2 24 Try.underlying87 hi0 hz0 hz1 hz2 rfl (by decide) _ _ _ rfl H.out ⟨g, 0, none⟩ 1 1 (cs [x]) rfl rfl HG.out (cs_one _) (by unfold maxLen; omega) (by omega) hB ?_; intro v' w1 h1 h2 h3; obtain ⟨a', c', rfl⟩ := slice_shape h1; have F := Lib.hid (FIN.out _ _ h1 h2 h3); clear h1 h2 h3)
    all_goals
      go_ret
      exact Hid.out (by assumption)
end Go.Proofs.Ytgdjoojghkdcbaa
