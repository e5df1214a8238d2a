/- The contracts of the document's Put, Set and Drop. Conditions: the entries stand by rising names, at most 1000. -/
import Derived.Test.YtgdjoojghkdcbaaK
namespace Go.Proofs.Ytgdjoojghkdcbaa
open Go.RowKit Go.PlainAid
set_option linter.unusedSimpArgs false

set_option maxHeartbeats 400000 in
set_option maxRecDepth 100000 in
theorem rput18_nil (B : Nat) (s : ByteArray) (n : Int) (w : World) (hs : s.size ≤ 255) (hB : B ≤ w.heap.size) (h2 : nameB s = true) :
    Calls Try.prog 46 #[.slice none 0 0, .string s, .int .i64 n] w (Told B w 0 [(s, n)]) := by
  obtain ⟨i0, hi0, hz0, hz1, hz2⟩ := info_parts Try.info85
  have CN := Lib.hid (fun w => name28 s w (by unfold maxLen; omega))
  rw [h2] at CN
  have CF := Lib.hid (find9 B _ [] s w (row_nil 85 B w) List.Pairwise.nil (by simp))
  rw [show findI s [] = -1 from rfl] at CF
  go_enter Try.func46, Try.ntmps46
  go_wp2_with (first | (go_at_call 74; refine (CN.out _).mono ?_; rintro e w' ⟨rfl, rfl⟩) | (go_at_call 75; refine CF.out.mono ?_; rintro e w' ⟨rfl, rfl⟩))
  go_loopw [8, 9] (fun v i wr => v = .slice none 0 0 ∧ i = .int .i64 0 ∧ wr = w) (fun _ _ _ => 0)
  case atStart => exact ⟨rfl, rfl, rfl⟩
  case round =>
    obtain ⟨rfl, rfl, rfl⟩ := hrel
    have HO := Lib.hid (row_nil 85 wr.heap.size wr)
    have HB := Lib.hid (Below.refl wr.heap.size wr)
    go_wp2_with (at_builtin; refine wpList_append_own _ rfl _ _ 46 rfl wr.heap.size 85 i0 (.agg #[.string ⟨#[]⟩, .int .i64 0]) 2 24 Try.underlying46 hi0 hz0 hz1 hz2 rfl (by decide) _ _ _ rfl (World.ownsRow.alloc HO.out _) ⟨wr.heap.size, 0, none⟩ 1 1 (cs [(s, n)]) rfl rfl (new_two (heap_alloc_new wr _)) (cs_one _) (by unfold maxLen; simp) (by simp) (by simp) ?_)
    intro v' w2 r1 r2 _
    have P := Lib.hid (row_push HO.out HB.out r1 r2)
    obtain ⟨a', c', rfl⟩ := slice_shape r1
    clear r1 r2 HO HB
    go_wp2
    go_loopw [8, 10] (fun v i w3 => v = .slice a' 1 c' ∧ i = .int .i64 0 ∧ w3 = w2) (fun _ _ _ => 0)
    case atStart => exact ⟨rfl, rfl, rfl⟩
    case round =>
      obtain ⟨rfl, rfl, rfl⟩ := hrel
      go_wp2
      go_ret2
      exact ⟨_, rfl, P.out.1.mono hB, P.out.2⟩

theorem Told.same {B : Nat} {u : Value} {err : Int} {l : List En} {w : World} (h : Row 85 B u l w) : Told B w err l (.returned (.tuple #[u, .int .i64 err])) w := ⟨u, rfl, h, Below.refl _ _⟩

set_option maxHeartbeats 400000 in
set_option maxRecDepth 100000 in
theorem rput18 (B : Nat) (u : Value) (l : List En) (s : ByteArray) (n : Int) (w : World) (h : Row 85 B u l w) (hr : Rising l) (hl : l.length ≤ 1000) (hs : s.size ≤ 100000) (hB : B ≤ w.heap.size) :
    Calls Try.prog 46 #[u, .string s, .int .i64 n] w (Told B w (putE s l) (putL s n l)) := by
  have CN := Lib.hid (fun w => name28 s w (by unfold maxLen; omega))
  have CF := Lib.hid (find9 B u l s w h hr hl)
  obtain ⟨a, c, rfl⟩ := slice_shape h
  by_cases h1 : 255 < s.size
  · have e1 : putE s l = 18 := by unfold putE; rw [if_pos h1]
    have e2 : putL s n l = l := by unfold putL; rw [e1]; rfl
    have F := Lib.hid (Told.same (err := 18) h)
    rw [e1, e2]
    clear h hr e1 e2
    go_enter Try.func46, Try.ntmps46
    go_wp2
    go_ret2
    exact F.out
  cases h2 : nameB s
  · have e1 : putE s l = 11 := by unfold putE; rw [if_neg h1, if_pos h2]
    have e2 : putL s n l = l := by unfold putL; rw [e1]; rfl
    have F := Lib.hid (Told.same (err := 11) h)
    rw [e1, e2]
    clear h hr e1 e2
    rw [h2] at CN
    go_enter Try.func46, Try.ntmps46
    go_wp2_with (go_at_call 74; refine (CN.out _).mono ?_; rintro e w' ⟨rfl, rfl⟩)
    go_ret2
    exact F.out
  cases h3 : hasN s l
  · have e1 : putE s l = 0 := by unfold putE; rw [if_neg h1, h2, h3]; rfl
    have e2 : putL s n l = l.take (pos s l) ++ (s, n) :: l.drop (pos s l) := by unfold putL; rw [e1]; rfl
    rw [e1, e2]
    rcases h.cases with ⟨e3, rfl⟩ | ⟨gv, cap, cur, e3, _⟩
    · rw [e3]
      exact rput18_nil B s n w (by omega) hB h2
    · rw [e3] at h ⊢
      exact rput18_new B gv cap l s n w h hr hl (by omega) hB h2 h3
  · have e1 : putE s l = 13 := by unfold putE; rw [if_neg h1, h2, h3]; rfl
    have e2 : putL s n l = l := by unfold putL; rw [e1]; rfl
    have F := Lib.hid (Told.same (err := 13) h)
    have hp : (0 : Int) ≤ (pos s l : Int) := by omega
    rw [show findI s l = pos s l by unfold findI; rw [h3]; rfl] at CF
    rw [e1, e2]
    generalize pos s l = p at CF hp
    rw [h2] at CN
    clear h hr e1 e2
    go_enter Try.func46, Try.ntmps46
    go_wp2_with (first | (go_at_call 74; refine (CN.out _).mono ?_; rintro e w' ⟨rfl, rfl⟩) | (go_at_call 75; refine CF.out.mono ?_; rintro e w' ⟨rfl, rfl⟩))
    go_ret2
    exact F.out

/-- The entries but one, among the first k. -/
def outD (p : Nat) (l : List En) (k : Nat) : List En := l.take (min k p) ++ (l.take k).drop (p + 1)
theorem outD_hit {p : Nat} {l : List En} {k : Nat} {x : En} (hx : l[k]? = some x) (hk : k ≠ p) : outD p l k ++ [x] = outD p l (k + 1) := by
  have hl := (List.getElem?_eq_some_iff.1 hx).1
  unfold outD
  by_cases h : k < p
  · rw [Nat.min_eq_left (by omega), Nat.min_eq_left (by omega), List.drop_of_length_le (by rw [List.length_take]; omega), List.drop_of_length_le (by rw [List.length_take]; omega), take_succ hx]; simp
  · rw [Nat.min_eq_right (by omega), Nat.min_eq_right (by omega), take_succ hx, List.drop_append_of_le_length (by rw [List.length_take]; omega), List.append_assoc]
theorem outD_miss (p : Nat) (l : List En) : outD p l p = outD p l (p + 1) := by
  unfold outD
  rw [Nat.min_eq_left (by omega), Nat.min_eq_right (by omega), List.drop_of_length_le (by rw [List.length_take]; omega), List.drop_of_length_le (by rw [List.length_take]; omega)]
theorem outD_end {p : Nat} {l : List En} (hp : p ≤ l.length) : outD p l l.length = l.take p ++ l.drop (p + 1) := by
  unfold outD; rw [Nat.min_eq_right hp, List.take_length]
theorem outD_le (p : Nat) (l : List En) (k : Nat) : (outD p l k).length ≤ 2 * l.length := by
  unfold outD; simp only [List.length_append, List.length_take, List.length_drop]; omega
def RelD (p : Nat) (l : List En) (w : World) (v i : Value) (wr : World) : Prop := ∃ k : Nat, k ≤ l.length ∧ i = .int .i64 k ∧ Row 85 w.heap.size v (outD p l k) wr ∧ Below w.heap.size w wr

end Go.Proofs.Ytgdjoojghkdcbaa
