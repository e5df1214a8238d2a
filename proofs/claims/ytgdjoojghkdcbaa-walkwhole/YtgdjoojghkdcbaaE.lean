/- The contracts of slices.Delete of one entry, and slices.Clone. Conditions: the place is one of the row, which has at most 1000 entries. -/
import Derived.Test.YtgdjoojghkdcbaaD
namespace Go.Proofs.Ytgdjoojghkdcbaa
open Go.RowKit Go.PlainAid
set_option linter.unusedSimpArgs false

section
variable {P : Program}
theorem step_append2 {ops : Array Oper} {o : Oper} {a : Act} {w : World} {K : Act → World → Prop} {Q : Exit → Act → World → Prop} {E : Prop} (hgd : o.guard = none) (s x : Operand) (t : TypeId)
    (ho : o.op = .call { callee := .builtin .append, args := #[s, x], argTypes := #[t, t] }) (e : TypeId) (i : TypeInfo) (ht : P.underlying t = some (.slice e)) (hi : P.info? e = some i) (hsz : i.size = 2)
    (g n cap : Nat) (hs : a.eval s = .slice (some ⟨g, 0, none⟩) n cap) (ad : Addr) (m c : Nat) (hx : a.eval x = .slice (some ad) m c)
    (cur : List Value) (hg : w.heap[g]? = some (.cells cur.toArray e (0, 0))) (xs : List Value) (hn : xs.length = m * 2)
    (hsrc : ∀ j v, xs[j]? = some v → w.cell? (ad.add j) = some v) (hroom : n + m ≤ cap) (hfit : n * 2 + xs.length ≤ cur.length) (h1 : ∀ v ∈ xs, v.oneCell' = true)
    (h : ∀ w', Hid (w'.heap[g]? = some (.cells (splice cur (n * 2) xs).toArray e (0, 0))) → Hid (w.grownBy w' (some g)) → K (a.put o.dst (.slice (some ⟨g, 0, none⟩) (n + m) cap)) w') :
    if Region.wanted o (yielded ops a.tmps) = true then Oper.wp P o a w K Q else E := by
  have hw : Region.wanted o (yielded ops a.tmps) = true := by simp [Region.wanted, hgd]
  rw [if_pos hw]
  have hrun := run_append_room (P := P) w t o.type e i ht hi g n cap cur.toArray hg ad m c xs (by rw [hsz]; exact hn) hsrc h1 hroom (by rw [hsz]; simpa using hfit)
  unfold Oper.wp
  simp [execOp, ho, resolve, invoke, builtin, hs, hx, hrun, Result.andThen]
  refine h _ (show _ = _ from ?_) (grown_setRow g _)
  rw [setRow_heap w g _ _ e _ hg, hsz]
  simp [splice]

theorem wpList_clear2 {w : World} {ops : Array Oper} {rest : List Oper} {o : Oper} {a : Act} {Q : Exit → Act → World → Prop} (hgd : o.guard = none) (d : Operand) (t : TypeId)
    (ho : o.op = .call { callee := .builtin .clear, args := #[d], argTypes := #[t] }) (e : TypeId) (i : TypeInfo) (z : Value) (ht : P.underlying t = some (.slice e)) (hi : P.info? e = some i) (hz : i.zero = some z)
    (g off n c : Nat) (hd : a.eval d = .slice (some ⟨g, off, none⟩) n c) (cur : List Value) (hg : w.heap[g]? = some (.cells cur.toArray e (0, 0)))
    (hfit : off + (Builtin.zeroCells z.cells n).size ≤ cur.length) (h1 : ∀ v ∈ (Builtin.zeroCells z.cells n).toList, v.oneCell' = true)
    (h : ∀ w', Hid (w'.heap[g]? = some (.cells (splice cur off (Builtin.zeroCells z.cells n).toList).toArray e (0, 0))) → Hid (w.grownBy w' (some g)) → wpList P ops Q rest (a.put o.dst (.tuple #[])) w') : wpList P ops Q (o :: rest) a w := by
  refine wpList_plain hgd fun K hK => ?_
  have hrun := run_clear_cells (P := P) w t o.type e i z ht hi hz g off n c cur.toArray hg (by simpa using hfit) h1
  unfold Oper.wp
  simp [execOp, ho, resolve, invoke, builtin, hd, hrun, Result.andThen]
  exact hK _ _ (h _ (show _ = _ from setRow_heap w g _ _ e _ hg) (grown_setRow g _))
end

theorem splice_out {α : Type} (cur A D Z : List α) (p q : Nat) (hA : cur.take p = A) (hp : A.length = p) (hD : D.length = q) (hc : p + q + Z.length ≤ cur.length) :
    (splice (splice cur p D) (p + q) Z).take (p + q) = A ++ D := by
  subst hD
  have e1 : (splice cur p D).take (p + D.length) = A ++ D := by
    unfold splice
    rw [hA, ← List.append_assoc, List.take_append_of_le_length (by simp; omega), List.take_of_length_le (by simp; omega)]
  rw [splice.eq_def (splice cur p D), e1, List.take_append_of_le_length (by simp; omega), List.take_of_length_le (by simp; omega)]

theorem fit_out {cur : Array Value} {l : List En} {Z : List Value} {i cap : Nat} (hi : i < l.length) (hc : l.length ≤ cap) (hs : cur.size = cap * 2) (ht : cur.toList.take (l.length * 2) = cs l) (hZ : Z.length = 2) :
    (splice (splice cur.toList (i * 2) (cs (l.drop (i + 1)))) ((l.length - 1) * 2) Z).take ((l.length - 1) * 2) = cs (l.take i ++ l.drop (i + 1)) := by
  have h := splice_out cur.toList (cs (l.take i)) (cs (l.drop (i + 1))) Z (i * 2) ((l.length - (i + 1)) * 2) (by rw [← cs_take, ← ht, List.take_take, Nat.min_eq_left (by omega)]) (by rw [cs_len, List.length_take, Nat.min_eq_left (by omega)])
    (by rw [cs_len, List.length_drop]) (by simp; omega)
  rw [show i * 2 + (l.length - (i + 1)) * 2 = (l.length - 1) * 2 by omega] at h
  rw [h, cs_app]

theorem zeros_two : Builtin.zeroCells (Value.agg #[.string ⟨#[]⟩, .int .i64 0]).cells 1 = #[.string ⟨#[]⟩, .int .i64 0] := by simp [Builtin.zeroCells, Value.cells, Array.range]; rfl

theorem zeros_one : ∀ v ∈ (Builtin.zeroCells (Value.agg #[.string ⟨#[]⟩, .int .i64 0]).cells 1).toList, v.oneCell' = true := by
  rw [zeros_two]; intro v hv; simp at hv; rcases hv with rfl | rfl <;> rfl

set_option maxHeartbeats 4000000 in
set_option maxRecDepth 100000 in
theorem delete27 (B : Nat) (v : Value) (l : List En) (i : Nat) (w : World) (h : Row 119 B v l w) (hi : i < l.length) (hl : l.length ≤ 1000) :
    Calls Try.prog 90 #[v, .int .i64 i, .int .i64 ((i : Int) + 1)] w (Ins B v (l.take i ++ l.drop (i + 1)) w) := by
  obtain ⟨i0, hi0, hz0, hz1, hz2⟩ := info_parts Try.info119
  rcases h.cases with ⟨rfl, rfl⟩ | ⟨gv, cap, cur, rfl, hBg, hgv, hcap, hmax, hs, ht⟩
  · simp at hi
  unfold maxLen at hmax
  obtain ⟨m, hm⟩ : ∃ m, l.length = m + 1 := ⟨l.length - 1, by omega⟩
  have fin : ∀ (w1 w2 : World), Hid (w.drew.grownBy w1 (some gv)) →
      Hid (w2.heap[gv]? = some (.cells (splice (splice cur.toList (i * 2) (cs (l.drop (i + 1)))) (m * 2) (Builtin.zeroCells (Value.agg #[.string ⟨#[]⟩, .int .i64 0]).cells 1).toList).toArray 119 (0, 0))) → Hid (w1.grownBy w2 (some gv)) →
      Ins B (.slice (some ⟨gv, 0, none⟩) (m + 1) cap) (l.take i ++ l.drop (i + 1)) w (.returned (.slice (some ⟨gv, 0, none⟩) m cap)) w2 := by
    intro w1 w2 a2 a3 a4
    have hlen : (l.take i ++ l.drop (i + 1)).length = m := by simp; omega
    refine ⟨_, rfl, ⟨cs_len _, .inr ⟨gv, cap, _, by rw [hlen], hBg, a3.out, by rw [hlen]; omega, hmax, ?_, ?_⟩⟩, grown_trans (grown_drew a2.out) a4.out (fun j hj => .inl hj), fun k hk => .inl hk⟩
    · rw [zeros_two, List.size_toArray, length_splice _ _ _ (by rw [length_splice _ _ _ (by simp [cs_len]; omega)]; simp; omega), length_splice _ _ _ (by simp [cs_len]; omega)]
      simp [hs]
    · rw [hlen]
      have := fit_out hi hcap hs ht (show (Builtin.zeroCells (Value.agg #[.string ⟨#[]⟩, .int .i64 0]).cells 1).toList.length = 2 by rw [zeros_two]; rfl)
      rwa [hm, Nat.add_sub_cancel] at this
  have FIN := Lib.hid fin
  have hsrc : Hid (∀ (ad : Addr), ad = (if cap = i + 1 then (⟨gv, 0, none⟩ : Addr) else ⟨gv, (i + 1) * 2, none⟩) → ∀ j v, (cs (l.drop (i + 1)))[j]? = some v → w.drew.cell? (ad.add j) = some v) := by
    intro ad had j v hj
    by_cases hc : cap = i + 1
    · rw [List.drop_of_length_le (by omega)] at hj
      simp [cs] at hj
    · rw [if_neg hc] at had
      subst had
      rw [add_at]
      show w.cell? _ = _
      rw [cell_of_row w gv _ _ _ _ hgv]
      rw [← cs_drop, ← ht, List.getElem?_drop, List.getElem?_take] at hj
      split at hj
      · simpa using hj
      · cases hj
  have HGV : Hid (w.drew.heap[gv]? = some (.cells cur.toList.toArray 119 (0, 0))) := by rw [Array.toArray_toList]; exact hgv
  have HS := Lib.hid hs
  have hdl : (cs (l.drop (i + 1))).length = (m - i) * 2 := by rw [cs_len, List.length_drop]; omega
  have HDL := Lib.hid hdl
  have HC1 := Lib.hid (cs_one (l.drop (i + 1)))
  generalize cs (l.drop (i + 1)) = D at FIN hsrc HDL HC1
  clear fin hgv ht h hs hdl
  rw [hm] at hi hl hcap ⊢
  clear hm
  have n1 : ((i : Int) == (i : Int) + 1) = false := by simp; omega
  have hw1 : IntKind.i64.wrap ((i : Int) + 1) = (i : Int) + 1 := IntWalk.i64_in _ (by omega)
  have hb1 : (0 : Int) ≤ (i : Int) + 1 := by omega
  have hin : i ≤ m := by omega
  have hin2 : i ≤ m + 1 := by omega
  have hin4 : (i : Int) ≤ (m : Int) + 1 := by omega
  have htn : ((i : Int) + 1).toNat = i + 1 := by omega
  have hx1 : (i : Int) ≤ (i : Int) + 1 := by omega
  have hx2 : (i : Int) ≤ (cap : Int) := by omega
  have hx3 : (m : Int) + 1 ≤ (cap : Int) := by omega
  have hx4 : ¬ (cap = m) := by omega
  by_cases hc : cap = i + 1
  · have HSRC := Lib.hid (hsrc.out ⟨gv, 0, none⟩ (by rw [if_pos hc]))
    obtain rfl : m = i := by omega
    subst hc
    go_enter Try.func90, Try.ntmps90
    go_wp2
    go_region_law (refine step_append2 rfl (.tmp 22) (.tmp 25) 87 rfl 119 i0 Try.underlying87 hi0 hz1 gv m (m + 1) (by simp [Act.eval, Act.put]) ⟨gv, 0, none⟩ 0 0 (by simp [Act.eval, Act.put]) cur.toList HGV.out D (by have := HDL.out; omega) HSRC.out (by omega) (by have := HS.out; have := HDL.out; simp; omega) HC1.out ?_; intro w1 q1 q2)
    all_goals
      try rw [Nat.add_zero]
      go_wp2_with (with_reducible refine wpList_clear2 rfl (.tmp 31) 87 rfl 119 i0 _ Try.underlying87 hi0 hz0 gv (m * 2) 1 _ rfl _ q1.out (by have := HS.out; have := HDL.out; rw [zeros_two, length_splice _ _ _ (by simp; omega)]; simp; omega) zeros_one ?_; intro w2 q3 q4)
      have F := Lib.hid (FIN.out w1 w2 q2 q3 q4)
      go_wp2
      go_ret
      exact F.out
  · have HSRC := Lib.hid (hsrc.out ⟨gv, (i + 1) * 2, none⟩ (by rw [if_neg hc]))
    go_enter Try.func90, Try.ntmps90
    go_wp2
    go_region_law (refine step_append2 rfl (.tmp 22) (.tmp 25) 87 rfl 119 i0 Try.underlying87 hi0 hz1 gv i cap (by simp [Act.eval, Act.put]) ⟨gv, (i + 1) * 2, none⟩ (m - i) (cap - (i + 1)) (by simp [Act.eval, Act.put]) cur.toList HGV.out D HDL.out HSRC.out (by omega) (by have := HS.out; have := HDL.out; simp; omega) HC1.out ?_; intro w1 q1 q2)
    all_goals
      try rw [show i + (m - i) = m by omega]
      go_wp2_with (with_reducible refine wpList_clear2 rfl (.tmp 31) 87 rfl 119 i0 _ Try.underlying87 hi0 hz0 gv (m * 2) 1 _ rfl _ q1.out (by have := HS.out; have := HDL.out; rw [zeros_two, length_splice _ _ _ (by simp; omega)]; simp; omega) zeros_one ?_; intro w2 q3 q4)
      have F := Lib.hid (FIN.out w1 w2 q2 q3 q4)
      go_wp2
      go_ret
      exact F.out
end Go.Proofs.Ytgdjoojghkdcbaa
