/- The contract of slices.Insert at entries, within the row: where there is room, and where the row must grow; then at any place. Conditions: as in the text ahead. -/
import Derived.Test.YtgdjoojghkdcbaaC
namespace Go.Proofs.Ytgdjoojghkdcbaa
open Go.RowKit Go.PlainAid
set_option linter.unusedSimpArgs false

theorem fit_in {cur : Array Value} {l : List En} {x : En} {i cap : Nat} (hi : i < l.length) (hc : l.length + 1 ≤ cap) (hs : cur.size = cap * 2) (ht : cur.toList.take (l.length * 2) = cs l) :
    (splice (splice cur.toList ((i + 1) * 2) (cs (l.drop i))) (i * 2) (cs [x])).take ((l.length + 1) * 2) = cs (l.take i ++ x :: l.drop i) := by
  have h := splice_in cur.toList (cs (l.take i)) (cs [x]) (cs (l.drop i)) (i * 2) ((l.length - i) * 2) (by rw [← cs_take, ← ht, List.take_take, Nat.min_eq_left (by omega)]) (by rw [cs_len, List.length_take, Nat.min_eq_left (by omega)]) rfl
    (by rw [cs_len, List.length_drop]) (by simp; omega)
  rw [show i * 2 + 2 + (l.length - i) * 2 = (l.length + 1) * 2 by omega, show i * 2 + 2 = (i + 1) * 2 by omega] at h
  rw [h, cs_app]
  rfl

set_option maxHeartbeats 4000000 in
set_option maxRecDepth 100000 in
theorem insert26_room (B : Nat) (gv cap : Nat) (cur : Array Value) (l : List En) (i g : Nat) (x : En) (w : World) (hi : i < l.length) (hl : l.length ≤ 1000) (hcap : l.length + 1 ≤ cap) (hmax : cap ≤ 9223372036854775807)
    (hgv : w.heap[gv]? = some (.cells cur 119 (0, 0))) (hs : cur.size = cap * 2) (ht : cur.toList.take (l.length * 2) = cs l)
    (hg : w.heap[g]? = some (.cells #[.string x.1, .int .i64 x.2] 119 (0, 0))) (hne : gv ≠ g) (hBg : B ≤ gv) :
    Calls Try.prog 89 #[.slice (some ⟨gv, 0, none⟩) l.length cap, .int .i64 i, .slice (some ⟨g, 0, none⟩) 1 1] w (Ins B (.slice (some ⟨gv, 0, none⟩) l.length cap) (l.take i ++ x :: l.drop i) w) := by
  have hov : ∀ lb cb, (callFunc 99 #[.slice (some ⟨g, 0, none⟩) 1 1, .slice (some ⟨gv, (i + 1) * 2, none⟩) lb cb]).run Try.prog w = .ok (.value (.bool false)) w := fun lb cb => by
    rw [run_callFunc_extern Try.func99 (by kernel_rfl) (by kernel_rfl) (by kernel_rfl) (e := Extern.SlicesOverlaps.overlaps #[87, 87] #[4]) (by kernel_rfl),
      Lib.run_overlaps_apart w 87 4 119 Try.underlying87 2 (fun w => by obtain ⟨i0, hi0, _, hz1, _⟩ := info_parts Try.info119; simp [sizeOf, typeInfo, hi0, hz1]) ⟨g, 0, none⟩ ⟨gv, (i + 1) * 2, none⟩ 1 1 lb cb (fun e => hne e.symm) 119 119 2 (cap * 2)
        (by simp [World.shape?, hg]) (by simp [World.shape?, hgv, hs]) (by omega) (by simp [World.frozen?, hg]) (by simp [World.frozen?, hg])]
    rfl
  have HG := Lib.hid hg
  have fin : ∀ (w1 w2 w3 : World), Hid (w1.heap[gv]? = some (.cells (splice cur.toList ((i + 1) * 2) (cs (l.drop i))).toArray 119 (0, 0))) → Hid (w.drew.grownBy w1 (some gv)) →
      Hid (w2.heap[gv]? = some (.cells (splice (splice cur.toList ((i + 1) * 2) (cs (l.drop i))) (i * 2) (cs [x])).toArray 119 (0, 0))) → Hid (w1.grownBy w2 (some gv)) → w3 = w2 → 
      Ins B (.slice (some ⟨gv, 0, none⟩) l.length cap) (l.take i ++ x :: l.drop i) w (.returned (.slice (some ⟨gv, 0, none⟩) (l.length + 1) cap)) w3 := by
    intro w1 w2 w3 a1 a2 a3 a4 e
    subst e
    have hlen : (l.take i ++ x :: l.drop i).length = l.length + 1 := by simp; omega
    refine ⟨_, rfl, ⟨cs_len _, .inr ⟨gv, cap, _, by rw [hlen], hBg, a3.out, by rw [hlen]; exact hcap, hmax, ?_, ?_⟩⟩, grown_trans (grown_drew a2.out) a4.out (fun j hj => .inl hj), fun k hk => .inl hk⟩
    · rw [List.size_toArray, length_splice _ _ _ (by rw [length_splice _ _ _ (by simp [cs_len]; omega)]; simp [cs_len]; omega), length_splice _ _ _ (by simp [cs_len]; omega)]
      simp [hs]
    · rw [hlen]
      exact fit_in hi hcap hs ht
  have FIN := Lib.hid fin
  have HGV : Hid (w.drew.heap[gv]? = some (.cells cur.toList.toArray 119 (0, 0))) := by rw [Array.toArray_toList]; exact hgv
  have HNE := Lib.hid hne
  have HS := Lib.hid hs
  have n1 : ¬ ((1 : Int) = 0) := by decide
  have n2 : ((i : Int) == (l.length : Int)) = false := by simp; omega
  have hsrc : ∀ j v, (cs (l.drop i))[j]? = some v → w.drew.cell? ((⟨gv, i * 2, none⟩ : Addr).add j) = some v := by
    intro j v hj
    rw [add_at]
    show w.cell? _ = _
    rw [cell_of_row w gv _ _ _ _ hgv]
    rw [← cs_drop, ← ht, List.getElem?_drop, List.getElem?_take] at hj
    split at hj
    · simpa using hj
    · cases hj
  have HSRC := Lib.hid hsrc
  clear fin hgv hg hsrc ht hne hs
  have hb2 : ¬ (cap = i + 1) := by omega
  have hb4 : ¬ (cap = i) := by omega
  go_enter Try.func89, Try.ntmps89
  go_wp2_with (simp only [hov])
  have hw1 : IntKind.i64.wrap ((i : Int) + 1) = (i : Int) + 1 := IntWalk.i64_in _ (by omega)
  have hb1 : (0 : Int) ≤ (i : Int) + 1 := by omega
  have hin : i ≤ l.length := by omega
  have htn : ((i : Int) + 1).toNat = i + 1 := by omega
  have hb3 : (i : Int) ≤ (l.length : Int) + 1 := by omega
  have hb5 : i ≤ l.length + 1 := by omega
  go_region_law (refine step_copy2 rfl (.tmp 73) (.tmp 76) 87 87 rfl 119 Try.underlying87 Try.size119 gv ((i + 1) * 2) (l.length - i) (cap - (i + 1)) ⟨gv, i * 2, none⟩ (l.length + 1 - i) (cap - i) (by simp [Act.eval, Act.put]) (by simp [Act.eval, Act.put]) cur.toList 119 HGV.out (cs (l.drop i)) (by rw [cs_len, List.length_drop]; simp only [Nat.min_def]; split <;> omega) HSRC.out (by have := HS.out; simp [cs_len]; omega) (cs_one _) ?_; intro w1 q1 q2)
  all_goals
    have HX := Lib.hid (new_two ((q2.out.block g (lt_of_block HG.out) (fun e => HNE.out (by simpa using e.symm))).trans HG.out))
    go_wp2_with (with_reducible refine wpList_copy2 rfl (.tmp 80) (.tmp 81) 87 87 rfl 119 Try.underlying87 Try.size119 gv (i * 2) (l.length + 1 - i) (cap - i) ⟨g, 0, none⟩ 1 1 rfl rfl _ 119 q1.out (cs [x]) (by simp only [Nat.min_def]; split <;> simp [cs] <;> omega) HX.out (by have := HS.out; rw [length_splice _ _ _ (by simp [cs_len]; omega)]; simp [cs_len]; omega) (cs_one _) ?_; intro w2 q3 q4)
    have F := Lib.hid (FIN.out _ _ _ q1 q2 q3 q4 rfl)
    go_ret
    exact F.out

theorem wpList_append_zeros {P : Program} (w : World) {ops : Array Oper} {rest : List Oper} {o : Oper} {a : Act} {Q : Exit → Act → World → Prop} (hgd : o.guard = none) (s x : Operand) (t u : TypeId)
    (ho : o.op = .call { callee := .builtin .append, args := #[s, x], argTypes := #[t, u] })
    (e : TypeId) (i : TypeInfo) (z : Value) (ht : P.underlying t = some (.slice e)) (hu : P.underlying u = some (.int .i64)) (hi : P.info? e = some i) (hz : i.zero = some z) (hsize : i.size = 2) (hby : i.bytes = 24) (hzs : z.cells.size = 2)
    (b : Addr) (sLen sCap : Nat) (hs : a.eval s = .slice (some b) sLen sCap) (olds : List Value) (hlo : olds.length = sLen * 2) (holds : ∀ j v, olds[j]? = some v → w.cell? (b.add j) = some v)
    (k : Int) (n : Nat) (hk : k = n) (hx : a.eval x = .int .i64 k) (hpos : 0 < n) (hg : sCap < sLen + n) (hn64 : sLen + n ≤ 10000)
    (h : ∀ (C : Nat) (Z : List Value) w', sLen + n ≤ C → C ≤ maxLen → Z.length = (C - sLen) * 2 → Hid (w'.heap[w.heap.size]? = some (.cells (olds ++ Z).toArray e (0, 0))) → Hid (w.grownBy w' none) →
      wpList P ops Q rest (a.put o.dst (.slice (some ⟨w.heap.size, 0, none⟩) (sLen + n) C)) w') : wpList P ops Q (o :: rest) a w := by
  refine wpList_plain hgd fun K hK => ?_
  subst hk
  have hr := run_append_zeros (P := P) w t u o.type e i z ht hu hi hz b sLen sCap olds (by rw [hsize]; exact hlo) holds n (by rw [hsize]; omega) hg (by omega) (by omega) (by rw [hby]; omega) (growslice_fits (by omega) (by rw [hby]; omega))
  have hge := grownCap_ge w (sLen + n) sCap e
  have hle := grownCap_le_maxLen w (sLen + n) sCap e (by unfold maxLen; omega)
  unfold Oper.wp execOp
  simp only [ho, resolve, invoke, builtin, Sem.run_bind, Sem.run_pure, Result.andThen_ok, List.map_toArray, List.map_cons, List.map_nil, hs, hx, hr]
  refine hK _ _ (h _ ((Builtin.zeroCells z.cells n).toList ++ (Builtin.zeroCells z.cells (grownCap w (sLen + n) sCap e - (sLen + n))).toList) _ hge hle ?_ ?_ ⟨rfl, rfl, rfl, by simp, fun j hj _ => Below.heap_alloc w.drew _ j hj⟩)
  · simp only [List.length_append, Array.length_toList, size_zeroCells, hzs]
    omega
  · have e2 : (olds.toArray ++ Builtin.zeroCells z.cells n ++ Builtin.zeroCells z.cells (grownCap w (sLen + n) sCap e - (sLen + n))) = (olds ++ ((Builtin.zeroCells z.cells n).toList ++ (Builtin.zeroCells z.cells (grownCap w (sLen + n) sCap e - (sLen + n))).toList)).toArray := by
      apply Array.ext'
      simp [List.append_assoc]
    rw [e2]
    exact heap_alloc_new w.drew _

theorem fit_on {Z : List Value} {l : List En} {x : En} {i C : Nat} (hi : i < l.length) (hc : l.length + 1 ≤ C) (hs : Z.length = (C - i) * 2) :
    (splice (splice (cs (l.take i) ++ Z) (i * 2) (cs [x])) ((i + 1) * 2) (cs (l.drop i))).take ((l.length + 1) * 2) = cs (l.take i ++ x :: l.drop i) := by
  have hlen : (cs (l.take i)).length = i * 2 := by rw [cs_len, List.length_take, Nat.min_eq_left (by omega)]
  have h := splice_on (cs (l.take i) ++ Z) (cs (l.take i)) (cs [x]) (cs (l.drop i)) (i * 2) ((l.length - i) * 2) (by rw [← hlen, List.take_left]) hlen rfl
    (by rw [cs_len, List.length_drop]) (by rw [List.length_append, hlen, hs]; omega)
  rw [show i * 2 + 2 + (l.length - i) * 2 = (l.length + 1) * 2 by omega, show i * 2 + 2 = (i + 1) * 2 by omega] at h
  rw [h, cs_app]
  rfl

set_option maxHeartbeats 4000000 in
set_option maxRecDepth 100000 in
theorem insert26_grow (B : Nat) (gv cap : Nat) (cur : Array Value) (l : List En) (i g : Nat) (x : En) (w : World) (hi : i < l.length) (hl : l.length ≤ 1000) (hcap : cap < l.length + 1) (hcap2 : l.length ≤ cap)
    (hgv : w.heap[gv]? = some (.cells cur 119 (0, 0))) (ht : cur.toList.take (l.length * 2) = cs l)
    (hg : w.heap[g]? = some (.cells #[.string x.1, .int .i64 x.2] 119 (0, 0))) (hB : B ≤ w.heap.size) :
    Calls Try.prog 89 #[.slice (some ⟨gv, 0, none⟩) l.length cap, .int .i64 i, .slice (some ⟨g, 0, none⟩) 1 1] w (Ins B (.slice (some ⟨gv, 0, none⟩) l.length cap) (l.take i ++ x :: l.drop i) w) := by
  obtain ⟨i0, hi0, hz0, hz1, hz2⟩ := info_parts Try.info119
  have htk : (cs (l.take i)).length = i * 2 := by rw [cs_len, List.length_take, Nat.min_eq_left (by omega)]
  have hsrc0 : ∀ j v, (cs l)[j]? = some v → w.cell? ⟨gv, j, none⟩ = some v := by
    intro j v hj
    rw [cell_of_row w gv _ _ _ _ hgv]
    rw [← ht, List.getElem?_take] at hj
    split at hj
    · simpa using hj
    · cases hj
  have hsrc1 : ∀ j v, (cs (l.take i))[j]? = some v → w.cell? ((⟨gv, 0, none⟩ : Addr).add j) = some v := by
    intro j v hj
    rw [add_at, Nat.zero_add]
    rw [← cs_take, List.getElem?_take] at hj
    split at hj
    · exact hsrc0 j v hj
    · cases hj
  have hsrc2 : ∀ j v, (cs (l.drop i))[j]? = some v → w.cell? ((⟨gv, i * 2, none⟩ : Addr).add j) = some v := by
    intro j v hj
    rw [add_at]
    rw [← cs_drop, List.getElem?_drop] at hj
    exact hsrc0 _ v hj
  have HS1 := Lib.hid hsrc1
  have HS2 := Lib.hid hsrc2
  have HG := Lib.hid hg
  have HGV := Lib.hid (lt_of_block hgv)
  have fin : ∀ (C : Nat) (Z : List Value) (w1 w2 w3 : World), Hid (w.grownBy w1 none) → l.length + 1 ≤ C → C ≤ maxLen → Z.length = (C - i) * 2 → Hid (w1.grownBy w2 (some w.heap.size)) →
      Hid (w3.heap[w.heap.size]? = some (.cells (splice (splice (cs (l.take i) ++ Z) (i * 2) (cs [x])) ((i + 1) * 2) (cs (l.drop i))).toArray 119 (0, 0))) → Hid (w2.drew.grownBy w3 (some w.heap.size)) →
      Ins B (.slice (some ⟨gv, 0, none⟩) l.length cap) (l.take i ++ x :: l.drop i) w (.returned (.slice (some ⟨w.heap.size, 0, none⟩) (l.length + 1) C)) w3 := by
    intro C Z w1 w2 w3 a1 a2 a2' a3 a4 a5 a6
    have hlen : (l.take i ++ x :: l.drop i).length = l.length + 1 := by simp; omega
    have b1 : w.grownBy w3 none := grown_trans (grown_trans a1.out a4.out (fun j hj => .inr (by simp at hj; omega))) (grown_drew a6.out) (fun j hj => .inr (by simp at hj; omega))
    refine ⟨_, rfl, ⟨cs_len _, .inr ⟨w.heap.size, C, _, by rw [hlen], hB, a5.out, by rw [hlen]; exact a2, a2', ?_, ?_⟩⟩, ⟨b1.os, b1.tape, b1.output, b1.size, fun k hk _ => b1.block k hk (by simp)⟩, fun k hk => .inr ?_⟩
    · rw [List.size_toArray, length_splice _ _ _ (by rw [length_splice _ _ _ (by simp [cs_len]; omega)]; simp [cs_len]; omega), length_splice _ _ _ (by simp [cs_len]; omega)]
      rw [List.length_append, htk, a3]; omega
    · rw [hlen]
      exact fit_on hi a2 a3
    · simp [Value.ownBlock] at hk; omega
  have FIN := Lib.hid fin
  have n1 : ¬ ((1 : Int) = 0) := by decide
  have n2 : ((i : Int) == (l.length : Int)) = false := by simp; omega
  have HTK := Lib.hid htk
  clear fin hgv hg hsrc0 hsrc1 hsrc2 ht htk
  have hb4 : ¬ (cap = i) := by omega
  go_enter Try.func89, Try.ntmps89
  go_wp2_with (at_builtin; refine wpList_append_zeros _ rfl _ _ 87 3 rfl 119 i0 (.agg #[.string ⟨#[]⟩, .int .i64 0]) Try.underlying87 Try.underlying3 hi0 hz0 hz1 hz2 rfl ⟨gv, 0, none⟩ i cap rfl (cs (l.take i)) HTK.out HS1.out _ (l.length + 1 - i) ?hk rfl (by omega) (by omega) (by omega) ?_)
  case hk => omega
  intro C Z w1 c1 c2 c3 q1 q2
  rw [show i + (l.length + 1 - i) = l.length + 1 by omega] at c1 ⊢
  unfold maxLen at c2
  have HX := Lib.hid (new_two ((q2.out.block g (lt_of_block HG.out) (by simp)).trans HG.out))
  have hb5 : ¬ (C = i) := by omega
  have hb6 : ¬ (C = i + 1) := by omega
  have hw1 : IntKind.i64.wrap ((i : Int) + 1) = (i : Int) + 1 := IntWalk.i64_in _ (by omega)
  have hb1 : (0 : Int) ≤ (i : Int) + 1 := by omega
  have hin : i ≤ l.length := by omega
  have htn : ((i : Int) + 1).toNat = i + 1 := by omega
  have hb3 : (i : Int) ≤ (l.length : Int) + 1 := by omega
  have hb7 : i ≤ l.length + 1 := by omega
  go_wp2_with (with_reducible refine wpList_copy2 rfl (.tmp 43) (.tmp 44) 87 87 rfl 119 Try.underlying87 Try.size119 w.heap.size (i * 2) (l.length + 1 - i) (C - i) ⟨g, 0, none⟩ 1 1 rfl rfl _ 119 q1.out (cs [x]) (by simp only [Nat.min_def]; split <;> simp [cs] <;> omega) HX.out (by have := HTK.out; simp [cs_len]; omega) (cs_one _) ?_; intro w2 q3 q4)
  have HY : Hid (∀ j v, (cs (l.drop i))[j]? = some v → w2.drew.cell? ((⟨gv, i * 2, none⟩ : Addr).add j) = some v) := by
    intro j v hj
    have h1 := HS2.out j v hj
    rw [add_at] at h1 ⊢
    have hlt := HGV.out
    show w2.cell? _ = _
    rw [World.cell?_of_block (w := w) (a := ⟨gv, i * 2 + j, none⟩) ((q4.out.block gv (Nat.lt_of_lt_of_le hlt q2.out.size) (by simp; omega)).trans (q2.out.block gv hlt (by simp)))]
    exact h1
  go_region_law (refine step_copy2 rfl (.tmp 50) (.tmp 53) 87 87 rfl 119 Try.underlying87 Try.size119 w.heap.size ((i + 1) * 2) (l.length - i) (C - (i + 1)) ⟨gv, i * 2, none⟩ (l.length - i) (cap - i) (by simp [Act.eval, Act.put]) (by simp [Act.eval, Act.put]) _ 119 q3.out (cs (l.drop i)) (by rw [cs_len, List.length_drop]; simp only [Nat.min_def]; split <;> omega) HY.out (by have := HTK.out; rw [length_splice _ _ _ (by simp [cs_len]; omega)]; simp [cs_len]; omega) (cs_one _) ?_; intro w3 q5 q6)
  all_goals
    have F := Lib.hid (FIN.out C Z w1 w2 w3 q2 c1 (by unfold maxLen; omega) c3 q4 q5 q6)
    go_wp2
    go_ret
    exact F.out

theorem insert26 (B : Nat) (v : Value) (l : List En) (i g : Nat) (x : En) (w : World) (h : Row 119 B v l w) (hi : i ≤ l.length) (hl : l.length ≤ 1000)
    (hg : w.heap[g]? = some (.cells #[.string x.1, .int .i64 x.2] 119 (0, 0))) (hne : v.ownBlock ≠ some g) (hB : B ≤ w.heap.size) :
    Calls Try.prog 89 #[v, .int .i64 i, .slice (some ⟨g, 0, none⟩) 1 1] w (Ins B v (l.take i ++ x :: l.drop i) w) := by
  by_cases e : i = l.length
  · subst e
    rw [List.take_length, List.drop_length]
    exact insert26_end B v l g x w h hl hg hB
  · rcases h.cases with ⟨rfl, rfl⟩ | ⟨gv, cap, cur, rfl, hb, hgv, hcap, hmax, hs, ht⟩
    · simp at hi; exact absurd hi (by simpa using e)
    · by_cases hr : l.length + 1 ≤ cap
      · exact insert26_room B gv cap cur l i g x w (by omega) hl hr (by unfold maxLen at hmax; omega) hgv hs ht hg (fun e => hne (by rw [e]; rfl)) hb
      · exact insert26_grow B gv cap cur l i g x w (by omega) hl (by omega) hcap hgv ht hg hB
end Go.Proofs.Ytgdjoojghkdcbaa
