/- Plain facts on a name that is put and dropped again; DirBack, walked as far as its second loop. Conditions: the names that came in fit an int. -/
import Derived.Test.YtpkffkdojgpmhaaS
namespace Go.Proofs.Ytpkffkdojgpmhaa
open Go.RowKit Go.PlainAid
set_option linter.unusedSimpArgs false

theorem pos_app (s : ByteArray) (y : En) (C : List En) (hy : bl y.1 s = false) : ∀ A : List En, (∀ x ∈ A, bl x.1 s = true) → pos s (A ++ y :: C) = A.length
  | [], _ => by simp [pos, hy]
  | x :: A, h => by
    have := pos_app s y C hy A (fun z hz => h z (by simp [hz]))
    simp [pos, h x (by simp), this]
theorem put_back {s : ByteArray} {n : Int} {l : List En} (hr : Rising l) (h0 : putE s l = 0) : hasN s (putL s n l) = true ∧ getN s (putL s n l) = n ∧ dropL s (putL s n l) = l := by
  have hA : ∀ x ∈ l.take (pos s l), bl x.1 s = true := by
    intro x hx
    obtain ⟨j, hj, hx2⟩ := mem_take_lt hx
    rw [pos_lt s l hr j x hx2]; exact decide_eq_true hj
  have hl : (l.take (pos s l)).length = pos s l := by rw [List.length_take, Nat.min_eq_left (pos_le s l)]
  have e : putL s n l = l.take (pos s l) ++ (s, n) :: l.drop (pos s l) := by unfold putL; rw [h0]; rfl
  have hp : pos s (putL s n l) = pos s l := by rw [e, pos_app s (s, n) _ (bl_irrefl s) _ hA, hl]
  have hg : (putL s n l)[pos s (putL s n l)]? = some (s, n) := by
    rw [hp, e, List.getElem?_append_right (by omega), hl, Nat.sub_self]; rfl
  have hh : hasN s (putL s n l) = true := by unfold hasN; rw [hg]; simp
  refine ⟨hh, ?_, ?_⟩
  · unfold getN; rw [if_pos hh, hg]; rfl
  · unfold dropL
    rw [if_pos hh, hp, e, List.take_left' hl, List.drop_append, List.drop_of_length_le (by omega), hl, show pos s l + 1 - pos s l = 1 by omega]
    simp
theorem put_there {s : ByteArray} {n : Int} {l : List En} {k : Nat} (hg : Good l k) (h : hasN s l = true) : putE s l = 13 ∧ putL s n l = l := by
  obtain ⟨m, hm⟩ := hasN_some h
  have hn := hg.right _ (List.mem_of_getElem? hm)
  have h1 := nameB_le hn
  have e : putE s l = 13 := by
    unfold putE
    rw [if_neg (show ¬ 255 < s.size by have : (s, m).1.size ≤ 255 := h1; simp at this; omega), show nameB s = true from hn, h]; rfl
  exact ⟨e, by unfold putL; rw [e]; rfl⟩
theorem put_same {s : ByteArray} {n : Int} {l : List En} (h : putE s l ≠ 0) : putL s n l = l := by unfold putL; rw [if_neg h]

/-- A list of texts that came in. -/
def Strs (w : World) (v : Value) (ns : List ByteArray) : Prop := (ns = [] ∧ ∃ a c, v = .slice a 0 c) ∨ ∃ b off c, v = .slice (some ⟨b, off, none⟩) ns.length c ∧ ∀ (i : Nat) (s : ByteArray), ns[i]? = some s → w.cell? ⟨b, off + i, none⟩ = some (.string s)
theorem strs_shape {w : World} {v : Value} {ns : List ByteArray} (h : Strs w v ns) : ∃ a c, v = .slice a ns.length c := by
  rcases h with ⟨rfl, a, c, rfl⟩ | ⟨b, off, c, rfl, _⟩
  · exact ⟨a, c, rfl⟩
  · exact ⟨_, c, rfl⟩
theorem strs_cell {w w' : World} {b off : Nat} {ns : List ByteArray} (hb : Below w.heap.size w w') {i : Nat} {s : ByteArray} (h : ∀ (i : Nat) (s : ByteArray), ns[i]? = some s → w.cell? ⟨b, off + i, none⟩ = some (.string s)) (hi : ns[i]? = some s) : w'.cell? ⟨b, off + i, none⟩ = some (.string s) := by
  have h1 := h i s hi
  rw [hb.cell (p := ⟨b, off + i, none⟩) (block_lt_of_cell h1)]
  exact h1

/-- A directory that the call itself has made. -/
structure Mine (D : Nat) (v : Value) (l : List En) (w wr : World) : Prop where
  dir : DirAt D w.heap.size v l wr
  hD : w.heap.size ≤ D
  low : Below w.heap.size w wr
theorem Mine.did {D : Nat} {v v' : Value} {l l' : List En} {w wr w' : World} (h : Mine D v l w wr) (hd : DirAt D w.heap.size v' l' w') (hm : Moves D v.ownBlock wr w') : Mine D v' l' w w' := by
  have := lt_of_block h.dir.blk
  exact ⟨hd, h.hD, hm.low h.low h.hD (fun k hk => (h.dir.row.lt hk).1) h.low.size⟩
theorem Mine.below {D : Nat} {v : Value} {l : List En} {w wr w' : World} (h : Mine D v l w wr) (hb : Below wr.heap.size wr w') : Mine D v l w w' :=
  ⟨h.dir.below hb, h.hD, h.low.trans (hb.mono h.low.size)⟩
theorem mine_new {w w1 : World} (hb : Below w.heap.size w w1) : Mine w1.heap.size (.slice none 0 0) [] w (w1.alloc (.cells #[.slice none 0 0] 26)) :=
  ⟨⟨heap_alloc_new w1 _, row_nil _ _ _⟩, hb.size, hb.alloc hb.size _⟩

def RelK (D : Nat) (ns : List ByteArray) (w : World) (i : Value) (wr : World) : Prop := ∃ (k : Nat) (v : Value) (l : List En), k ≤ ns.length ∧ i = .int .i64 k ∧ Mine D v l w wr ∧ Good l k

set_option maxHeartbeats 1000000 in
set_option maxRecDepth 100000 in
theorem back5_early (v0 : Value) (ns : List ByteArray) (name : ByteArray) (node : Int) (w : World) (h : Strs w v0 ns) (hx : 60 < ns.length ∨ 500 < name.size) :
    Calls Try.prog 5 #[v0, .string name, .int .i64 node] w fun e w' => e = .returned (.bool true) ∧ Below w.heap.size w w' := by
  have A := Lib.hid (anchor6 w)
  obtain ⟨a, c, rfl⟩ := strs_shape h
  clear h
  by_cases h1 : 60 < ns.length
  · have h2 : (60 : Int) < (ns.length : Int) := by omega
    go_enter Try.func5, Try.ntmps5
    go_wp2_with (go_at_call 6; refine A.out.mono ?_; rintro e w1 ⟨rfl, hb⟩; have HB := Lib.hid hb; clear hb)
    go_ret
    exact ⟨rfl, Hid.out (by assumption)⟩
  · have h2 : ¬ ((60 : Int) < (ns.length : Int)) := by omega
    have h3 : (500 : Int) < (name.size : Int) := by omega
    clear hx
    go_enter Try.func5, Try.ntmps5
    go_wp2_with (go_at_call 6; refine A.out.mono ?_; rintro e w1 ⟨rfl, hb⟩; have HB := Lib.hid hb; clear hb)
    go_ret
    exact ⟨rfl, Hid.out (by assumption)⟩
end Go.Proofs.Ytpkffkdojgpmhaa
