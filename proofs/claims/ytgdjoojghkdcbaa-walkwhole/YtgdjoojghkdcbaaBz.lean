/- A node's bytes: append of noughts, copy of a text. Conditions: lengths below a bound. -/
import Derived.Test.YtgdjoojghkdcbaaBy
namespace Go.Proofs.Ytgdjoojghkdcbaa
open Go.RowKit Go.PlainAid

theorem Try.info5 : (Try.prog.info? 5).map (fun i => (i.zero, i.size, i.bytes)) = some (some (.int .u8 0), 1, 1) := by kernel_rfl
theorem zeros_bc (n : Nat) : (Builtin.zeroCells (Value.int .u8 0).cells n).toList = bc (List.replicate n 0) := by
  rw [bc_rep]
  simp [Builtin.zeroCells, Value.cells]
  apply List.ext_getElem
  · simp
  · intro i h1 h2; simp [Nat.mod_one]
theorem zeros_ar (n : Nat) : Builtin.zeroCells (Value.int .u8 0).cells n = (bc (List.replicate n 0)).toArray := by rw [← zeros_bc, Array.toArray_toList]

theorem byts_grown {w' : World} {v' : Value} {g cap : Nat} {cur : Array Value} {fr : Nat × Nat} {l : List UInt8} (hg : w'.heap[g]? = some (.cells cur 5 fr)) (e : v' = .slice (some ⟨g, 0, none⟩) l.length cap) (h1 : cur.size = cap) (h2 : Unmarked fr cap) (h3 : l.length ≤ cap) (h4 : cap ≤ maxLen) (h5 : cur.toList.take l.length = bc l) : Byts v' (mk l) w' :=
  .inr ⟨g, cap, cur, fr, by rw [e, mk_size], hg, h1, h2, by rw [mk_size]; exact h3, h4, by rw [mk_size, ls_mk]; exact h5⟩

theorem Byts.zeros {v : Value} {s : ByteArray} {w : World} (h : Byts v s w) (n : Nat) (hn : s.size + n ≤ 100000000) (ty : TypeId) :
    ∃ v' w', (Builtin.append_ #[50, 3] ty #[v, .int .i64 n]).run Try.prog w = .ok v' w' ∧ Byts v' (mk (ls s ++ List.replicate n 0)) w' ∧ w.grownBy w' v.ownBlock ∧ Near w v v' := by
  obtain ⟨i0, hi0, hz0, hz1, hz2⟩ := info_parts Try.info5
  have hw : IntKind.i64.wrap (n : Int) = n := IntWalk.i64_in _ (by omega)
  have hw0 : IntKind.i64.wrap 0 = 0 := rfl
  have hneg : ¬ ((n : Int) < 0) := by omega
  have hbi : ¬ ((281474976710656 : Int) < (n : Int)) := by omega
  have h63' : ¬ (9223372036854775807 < ((s.size : Int) + (n : Int))) := by omega
  have hl := ls_len s
  have hlen : (ls s ++ List.replicate n 0).length = s.size + n := by simp
  rcases h with ⟨rfl, h⟩ | ⟨g, cap, cur, fr, rfl, hg, hc, hu, hle, hm, ht⟩
  · by_cases h0 : n = 0
    · subst h0
      refine ⟨_, _, ?_, byts_nil w _ (by rw [mk_size, hlen]; omega), ⟨rfl, rfl, rfl, Nat.le_refl _, fun _ _ _ => rfl⟩, .refl _ _⟩
      simp [Builtin.append_, run_underlying Try.underlying50, run_underlying Try.underlying3, sizeOf, typeInfo, hi0, hz2, asInt, asIntOf, hw0]
    · have hf : ¬ (281474976710656 < Builtin.nextslicecap n 0) := by
        have := growslice_fits (need := n) (old := 0) (bytes := 1) (by omega) (by omega)
        omega
      have hcg := grownCap_ge w n 0 5
      have hcm := grownCap_le_maxLen w n 0 5 (by unfold maxLen; omega)
      refine ⟨.slice (some ⟨w.heap.size, 0, none⟩) n (grownCap w n 0 5), w.drew.alloc (.cells ((bc (List.replicate n 0)).toArray ++ (bc (List.replicate (grownCap w n 0 5 - n) 0)).toArray) 5), ?_, ?_, ?_, ?_⟩
      · have h1 : ¬ (9223372036854775807 < (n : Int)) := by omega
        simp [Builtin.append_, run_underlying Try.underlying50, run_underlying Try.underlying3, sizeOf, typeInfo, zeroValue, hi0, hz0, hz1, hz2, asInt, asIntOf, hw, hneg, hbi, h0, h1, hf, Question.forced, newRow, grownCap, zeros_ar, Builtin.firstCells]
      · refine byts_grown (heap_alloc_new _ _) (by rw [hlen, h]; simp) (by simp [bc_len]; omega) (fun j _ => by omega) (by rw [hlen, h]; omega) hcm ?_
        rw [hlen, h]
        have : ls s = [] := List.eq_nil_of_length_eq_zero (by omega)
        rw [this]
        simp [bc_rep]
      · exact ⟨rfl, rfl, rfl, by simp, fun j hj _ => Below.heap_alloc w.drew _ j hj⟩
      · intro k hk
        simp [Value.ownBlock] at hk
        exact .inr (by omega)
  · subst hc
    by_cases hroom : s.size + n ≤ cur.size
    · have hst := run_store_mark Try.prog g s.size 5 fr (bc (List.replicate n 0)) 0 cur w hg hu (by simpa [bc_len] using hroom) (bc_one _)
      refine ⟨.slice (some ⟨g, 0, none⟩) (s.size + n) cur.size, w.setRow g (splice cur.toList s.size (bc (List.replicate n 0))).toArray, ?_, ?_, ?_, ?_⟩
      · by_cases h0 : n = 0
        · subst h0
          have e : splice cur.toList s.size (bc (List.replicate 0 0)) = cur.toList := by simp [splice, bc]
          rw [e, Array.toArray_toList, setRow_self w g cur 5 fr hg]
          simp [Builtin.append_, run_underlying Try.underlying50, run_underlying Try.underlying3, sizeOf, typeInfo, hi0, hz2, asInt, asIntOf, hw0, hle, storeCells]
        · simp [Builtin.append_, run_underlying Try.underlying50, run_underlying Try.underlying3, sizeOf, typeInfo, zeroValue, hi0, hz0, hz1, hz2, asInt, asIntOf, hw, hneg, hbi, h0, hroom, zeros_bc, add_at]
          simp only [Nat.add_zero] at hst
          rw [hst]
          rfl
      · refine byts_grown (setRow_heap w g cur _ 5 fr hg) (by rw [hlen]) ?_ (by simpa using hu) (by rw [hlen]; exact hroom) hm ?_
        · simp [splice, bc_len]; omega
        · rw [hlen, bc_app, ← ht]
          unfold splice
          rw [show s.size + n = (cur.toList.take s.size ++ bc (List.replicate n 0)).length by simp [bc_len]; omega]
          rw [← List.append_assoc, List.toList_toArray, List.take_left]
      · exact grown_setRow g _
      · exact .refl _ _
    · have hf : ¬ (281474976710656 < Builtin.nextslicecap (s.size + n) cur.size) := by
        have := growslice_fits (need := s.size + n) (old := cur.size) (bytes := 1) (by omega) (by omega)
        omega
      have hcg := grownCap_ge w (s.size + n) cur.size 5
      have hcm := grownCap_le_maxLen w (s.size + n) cur.size 5 (by unfold maxLen; omega)
      have h0 : ¬ n = 0 := by omega
      have hfo := run_firstCells_some (P := Try.prog) w.drew 1 s.size ⟨g, 0, none⟩ s.size cur.size (bc (ls s)) (by rw [bc_len, hl]; omega) (fun j u hj => by
        rw [add_at, Nat.zero_add]
        have hj' : j < s.size := by have := (List.getElem?_eq_some_iff.1 hj).1; rw [bc_len, hl] at this; exact this
        rw [← ht, List.getElem?_take, if_pos hj'] at hj
        have : w.drew.heap[g]? = some (.cells cur 5 fr) := hg
        simp only [World.cell?, this]
        simpa using hj)
      refine ⟨.slice (some ⟨w.heap.size, 0, none⟩) (s.size + n) (grownCap w (s.size + n) cur.size 5), w.drew.alloc (.cells ((bc (ls s)).toArray ++ (bc (List.replicate n 0)).toArray ++ (bc (List.replicate (grownCap w (s.size + n) cur.size 5 - (s.size + n)) 0)).toArray) 5), ?_, ?_, ?_, ?_⟩
      · simp [Builtin.append_, run_underlying Try.underlying50, run_underlying Try.underlying3, sizeOf, typeInfo, zeroValue, hi0, hz0, hz1, hz2, asInt, asIntOf, hw, hneg, hbi, h0, hroom, h63', hf, Question.forced, newRow, grownCap, zeros_ar, hfo]
      · refine byts_grown (heap_alloc_new _ _) (by rw [hlen]; rfl) (by simp [bc_len]; omega) (fun j _ => by omega) (by rw [hlen]; omega) hcm ?_
        rw [hlen, bc_app]
        rw [Array.toList_append, Array.toList_append, List.toList_toArray, List.toList_toArray, List.toList_toArray]
        rw [show s.size + n = (bc (ls s) ++ bc (List.replicate n 0)).length by simp [bc_len]]
        rw [List.take_left]
      · exact ⟨rfl, rfl, rfl, by simp, fun j hj _ => Below.heap_alloc w.drew _ j hj⟩
      · intro k hk
        simp [Value.ownBlock] at hk
        exact .inr (by omega)

/-- A text laid over others. -/
def over (s : ByteArray) (at_ : Nat) (t : ByteArray) : ByteArray := mk (splice (ls s) at_ (ls t))
theorem over_size {s t : ByteArray} {k : Nat} (h : k + t.size ≤ s.size) : (over s k t).size = s.size := by
  unfold over
  rw [mk_size]
  simp [splice]
  omega
/-- copy(v[k:], t). -/
theorem Byts.copy {g cap k : Nat} {s t : ByteArray} {w : World} (h : Byts (.slice (some ⟨g, 0, none⟩) s.size cap) s w) (hk : k + t.size ≤ s.size) (ty : TypeId) (n c : Nat) (hn : t.size ≤ n) :
    ∃ w', (Builtin.copy_ #[50, 9] ty #[.slice (some ⟨g, k, none⟩) n c, .string t]).run Try.prog w = .ok (goInt t.size) w' ∧ Byts (.slice (some ⟨g, 0, none⟩) s.size cap) (over s k t) w' ∧ w.grownBy w' (some g) := by
  obtain ⟨i0, hi0, hz0, hz1, hz2⟩ := info_parts Try.info5
  rcases h with ⟨h, _⟩ | ⟨g', cap', cur, fr, h, hg, hc, hu, hle, hm, ht⟩
  · cases h
  cases h
  subst hc
  have hst := run_store_mark Try.prog g k 5 fr (bc (ls t)) 0 cur w hg hu (by rw [bc_len, ls_len]; omega) (bc_one _)
  simp only [Nat.add_zero] at hst
  have hmin : Nat.min t.size n = t.size := Nat.min_eq_left hn
  refine ⟨_, ?_, ?_, grown_setRow g (splice cur.toList k (bc (ls t))).toArray⟩
  · have e : List.take t.size (List.map (fun b => Value.int .u8 b.toNat) t.data.toList) = bc (ls t) := List.take_of_length_le (by simp)
    simp [Builtin.copy_, run_underlying Try.underlying50, Builtin.lenOf, Builtin.firstCells, sizeOf, typeInfo, hi0, hmin]
    rw [e, hst]
    rfl
  · refine .inr ⟨g, cur.size, _, fr, by rw [over_size hk], setRow_heap w g cur _ 5 fr hg, ?_, hu, by rw [over_size hk]; exact hle, hm, ?_⟩
    · simp [splice, bc_len]; omega
    · rw [over_size hk]
      unfold over
      rw [ls_mk]
      have hl : (ls t).length = t.size := ls_len t
      have hls : (ls s).length = s.size := ls_len s
      unfold splice
      rw [bc_app, bc_app, bc_take, bc_drop, ← ht, List.toList_toArray, bc_len, hl]
      rw [List.take_append, List.take_append, bc_len]
      simp only [List.length_take, Array.length_toList, List.take_take, hl]
      rw [Nat.min_comm s.size k]
      rw [show s.size - min k cur.size - t.size = s.size - (k + t.size) by omega]
      rw [List.take_of_length_le (l := bc (ls t)) (by rw [bc_len, hl]; omega), List.take_drop, show k + t.size + (s.size - (k + t.size)) = s.size by omega]

section
variable {ops : Array Oper} {rest : List Oper} {o : Oper} {a : Act} {Q : Exit → Act → World → Prop}
theorem wpList_zeros {w : World} (hgd : o.guard = none) (s x : Operand) (ho : o.op = .call { callee := .builtin .append, args := #[s, x], argTypes := #[50, 3] })
    (v : Value) (n : Nat) (hs : a.eval s = v) (hx : a.eval x = .int .i64 n) (t : ByteArray) (hB : Byts v t w) (hn : t.size + n ≤ 100000000)
    (h : ∀ v' w', Byts v' (mk (ls t ++ List.replicate n 0)) w' → w.grownBy w' v.ownBlock → Near w v v' → wpList Try.prog ops Q rest (a.put o.dst v') w') : wpList Try.prog ops Q (o :: rest) a w := by
  refine wpList_plain hgd fun K hK => ?_
  obtain ⟨v', w', hr, h1, h2, h3⟩ := hB.zeros n hn o.type
  unfold Oper.wp
  simp [execOp, ho, resolve, invoke, builtin, hs, hx, hr, Result.andThen]
  exact hK _ _ (h v' w' h1 h2 h3)
theorem wpList_copyS {w : World} (hgd : o.guard = none) (d x : Operand) (ho : o.op = .call { callee := .builtin .copy, args := #[d, x], argTypes := #[50, 9] })
    (g k n c cap : Nat) (s t : ByteArray) (hd : a.eval d = .slice (some ⟨g, k, none⟩) n c) (hx : a.eval x = .string t) (hB : Byts (.slice (some ⟨g, 0, none⟩) s.size cap) s w) (hk : k + t.size ≤ s.size) (hn : t.size ≤ n)
    (h : ∀ w', Byts (.slice (some ⟨g, 0, none⟩) s.size cap) (over s k t) w' → w.grownBy w' (some g) → wpList Try.prog ops Q rest (a.put o.dst (goInt t.size)) w') : wpList Try.prog ops Q (o :: rest) a w := by
  refine wpList_plain hgd fun K hK => ?_
  obtain ⟨w', hr, h1, h2⟩ := hB.copy hk o.type n c hn
  unfold Oper.wp
  simp [execOp, ho, resolve, invoke, builtin, hd, hx, hr, Result.andThen]
  exact hK _ _ (h w' h1 h2)
theorem wpList_look {w : World} (hgd : o.guard = none) (m x : Operand) (ho : o.op = Op.lookup 92 m x true) (M : Nat) (f : Int → Option Nat) (n : Nat) (hM : MapAt M f n w) (k : Int) (hk : In64 k)
    (hm : a.eval m = .map (some M)) (hx : a.eval x = .int .i64 k) (h : wpList Try.prog ops Q rest (a.put o.dst (.tuple #[ptr (f k), .bool (f k).isSome])) w) : wpList Try.prog ops Q (o :: rest) a w := by
  refine wpList_plain hgd fun K' hK' => ?_
  unfold Oper.wp
  simp [execOp, ho, hm, hx, hM.look hk, Result.andThen]
  exact hK' _ _ h
theorem wpList_store {w : World} (hgd : o.guard = none) (m x v : Operand) (ho : o.op = Op.mapUpdate 92 m x v) (M : Nat) (f : Int → Option Nat) (n : Nat) (hM : MapAt M f n w) (k : Int) (hk : In64 k) (hf : f k = none) (hn : n < maxLen) (b : Nat)
    (hm : a.eval m = .map (some M)) (hx : a.eval x = .int .i64 k) (hv : a.eval v = .pointer (some ⟨b, 0, none⟩))
    (h : ∀ w', MapAt M (fset f k (some b)) (n + 1) w' → w.grownBy w' (some M) → wpList Try.prog ops Q rest (a.put o.dst undef) w') : wpList Try.prog ops Q (o :: rest) a w := by
  refine wpList_plain hgd fun K' hK' => ?_
  obtain ⟨w', hr, h1, h2⟩ := hM.store hk hn hf b
  unfold Oper.wp
  simp [execOp, ho, hm, hx, hv, hr, Result.andThen]
  exact hK' _ _ (h w' h1 h2)
theorem wpList_del {w : World} (hgd : o.guard = none) (m x : Operand) (ho : o.op = Op.call { callee := Callee.builtin Builtin.delete, args := #[m, x], argTypes := #[92, 3] }) (M : Nat) (f : Int → Option Nat) (n : Nat) (hM : MapAt M f (n + 1) w) (k : Int) (hk : In64 k) (hf : (f k).isSome = true)
    (hm : a.eval m = .map (some M)) (hx : a.eval x = .int .i64 k) (h : ∀ w', MapAt M (fset f k none) n w' → w.grownBy w' (some M) → wpList Try.prog ops Q rest (a.put o.dst (.tuple #[])) w') : wpList Try.prog ops Q (o :: rest) a w := by
  refine wpList_plain hgd fun K' hK' => ?_
  obtain ⟨w', hr, h1, h2⟩ := hM.drop hk hf o.type
  unfold Oper.wp
  simp [execOp, ho, resolve, invoke, builtin, hm, hx, hr, Result.andThen]
  exact hK' _ _ (h w' h1 h2)
end
end Go.Proofs.Ytgdjoojghkdcbaa
