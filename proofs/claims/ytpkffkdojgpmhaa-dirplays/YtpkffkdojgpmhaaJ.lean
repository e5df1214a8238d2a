/- The contracts of strings.HasPrefix and From. Conditions: the entries stand by rising names, at most 1000; texts have at most 100000 bytes. -/
import Derived.Test.YtpkffkdojgpmhaaI
import Derived.ScopeJumps
namespace Go.Proofs.Ytpkffkdojgpmhaa
open Go.RowKit Go.PlainAid
set_option linter.unusedSimpArgs false

/-- Does a text begin with another? -/
def preB (s h : ByteArray) : Bool := decide (h.size ≤ s.size) && ((s.extract 0 h.size).toList == h.toList)
set_option maxHeartbeats 1000000 in
set_option maxRecDepth 100000 in
theorem pre31 (s h : ByteArray) (w : World) : Calls Try.prog 31 #[.string s, .string h] w fun e w' => e = .returned (.bool (preB s h)) ∧ w = w' := by
  have HP : Hid (preB s h = (decide (h.size ≤ s.size) && ((s.extract 0 h.size).toList == h.toList))) := rfl
  generalize preB s h = r at HP ⊢
  by_cases hle : h.size ≤ s.size
  · have HR : Hid (r = ((s.extract 0 h.size).toList == h.toList)) := by show _ = _; rw [HP.out, decide_eq_true hle, Bool.true_and]
    have p1 : (h.size : Int) ≤ (s.size : Int) := by omega
    clear HP
    go_enter Try.func31, Try.ntmps31
    go_wp2
    go_ret
    rw [HR.out]
    exact ⟨rfl, rfl⟩
  · have HR : Hid (r = false) := by show _ = _; rw [HP.out, decide_eq_false hle, Bool.false_and]
    have p1 : ¬ ((h.size : Int) ≤ (s.size : Int)) := by omega
    clear HP
    go_enter Try.func31, Try.ntmps31
    go_wp2
    go_ret
    rw [HR.out]
    exact ⟨rfl, rfl⟩
theorem pre24 (s h : ByteArray) (w : World) : Calls Try.prog 24 #[.string s, .string h] w fun e w' => e = .returned (.bool (preB s h)) ∧ w = w' := by
  have C := Lib.hid (fun w => pre31 s h w)
  generalize preB s h = r at C ⊢
  go_enter Try.func24, Try.ntmps24
  go_wp2_with (go_at_call 31; refine (C.out _).mono ?_; rintro e w' ⟨rfl, rfl⟩)
  go_ret
  exact ⟨rfl, rfl⟩

theorem row_push {e : Nat} {w wr w1 : World} {acc : List En} {v v' : Value} {x : En} {o : Obj} (h0 : Row e w.heap.size v acc wr) (hb : Below w.heap.size w wr)
    (hown : w1.ownsRow w.heap.size e 2 v' (acc.length + 1) (cs acc ++ cs [x])) (hg : (wr.alloc o).grownBy w1 v.ownBlock) : Row e w.heap.size v' (acc ++ [x]) w1 ∧ Below w.heap.size w w1 := by
  refine ⟨?_, (hb.alloc hb.size o).grown hg (by simp; have := hb.size; omega) (fun j hj => (World.ownsRow.lt h0 j hj).1)⟩
  unfold Row
  rw [List.length_append, cs_app]
  exact hown

/-- The entries from a place on that begin with a text. -/
def frm (h : ByteArray) (l : List En) (k : Nat) : List En := (l.drop k).takeWhile fun x => preB x.1 h
theorem frm_hit {h : ByteArray} {l : List En} {k : Nat} {x : En} (hx : l[k]? = some x) (hp : preB x.1 h = true) : frm h l k = x :: frm h l (k + 1) := by
  obtain ⟨hk, rfl⟩ := List.getElem?_eq_some_iff.1 hx
  unfold frm
  rw [List.drop_eq_getElem_cons hk, List.takeWhile_cons, hp]; rfl
theorem frm_miss {h : ByteArray} {l : List En} {k : Nat} {x : En} (hx : l[k]? = some x) (hp : preB x.1 h = false) : frm h l k = [] := by
  obtain ⟨hk, rfl⟩ := List.getElem?_eq_some_iff.1 hx
  unfold frm
  rw [List.drop_eq_getElem_cons hk, List.takeWhile_cons, hp]; rfl
theorem frm_end {h : ByteArray} {l : List En} {k : Nat} (hk : l.length ≤ k) : frm h l k = [] := by
  unfold frm; rw [List.drop_of_length_le hk]; rfl

def Jump14 (D : Nat) (h : ByteArray) (l T : List En) (w : World) (a' : Act) (wr : World) : Prop := ∃ (k : Nat) (v : Value) (acc : List En), k ≤ l.length ∧ acc.length ≤ k ∧ Row 47 w.heap.size v acc wr ∧ Below w.heap.size w wr ∧ acc ++ frm h l k = T ∧
  ∃ (u2 u3 u7 u8 u9 u10 u11 u12 u13 u14 u15 u16 u17 u18 u19 u20 u21 u22 u23 u24 u25 u26 u27 u28 u29 u30 u31 u32 u33 u34 u35 u36 u37 u38 u39 u40 u41 u42 u43 u44 u45 : Value), a' = { tmps := #[.pointer (some ⟨D, 0, none⟩), .string h, u2, u3, .slice none 0 0, v, .int .i64 k, u7, u8, u9, u10, u11, u12, u13, u14, u15, u16, u17, u18, u19, u20, u21, u22, u23, u24, u25, u26, u27, u28, u29, u30, u31, u32, u33, u34, u35, u36, u37, u38, u39, u40, u41, u42, u43, u44, u45], defers := [] }

set_option maxHeartbeats 4000000 in
set_option maxRecDepth 100000 in
theorem from14 (D B : Nat) (v : Value) (l : List En) (h : ByteArray) (w : World) (hd : DirAt D B v l w) (hr : Rising l) (hl : l.length ≤ 1000) :
    Calls Try.prog 14 #[.pointer (some ⟨D, 0, none⟩), .string h] w (Gives 47 w (frm h l (pos h l))) := by
  obtain ⟨i0, hi0, hz0, hz1, hz2⟩ := info_parts Try.info47
  have C := Lib.hid (place22 D B v l h w hd hr hl)
  have CP := Lib.hid (fun (x : En) w => pre24 x.1 h w)
  have H := Lib.hid hd
  have hp := pos_le h l
  obtain ⟨T, hT⟩ : ∃ T, frm h l (pos h l) = T := ⟨_, rfl⟩
  rw [hT]
  have HT := Lib.hid hT
  generalize pos h l = p at C hp HT
  generalize hasN h l = r at C
  clear hd hr hT
  go_enter Try.func14, Try.ntmps14
  go_wp2
  refine wp_scope_jumps 0 (Jump14 D h l T w) (fun a' _ => l.length - (intOf (a'.tmps.getD 6 undef)).toNat) rfl ?_ ?_
  · go_wp2_with fail
    refine C.out.mono ?_
    rintro e w1 ⟨rfl, hb⟩
    have K := H.out.below hb
    have c0 := cell_of_one K.blk
    have HB := Lib.hid hb
    have HO := Lib.hid (row_nil 47 w.heap.size w1)
    clear hb
    by_cases hlt : p < l.length
    · obtain ⟨x, hx⟩ := get_some hlt
      have CX := Lib.hid (CP.out x)
      rcases K.row.cases with ⟨_, rfl⟩ | ⟨gv, cap, cur, rfl, _⟩
      · simp at hlt
      have c3 := K.row.cell0 hx
      have c4 := K.row.cell1 hx
      have HX := Lib.hid hx
      clear K hx CP
      cases hpx : preB x.1 h
      · have HF := Lib.hid (frm_miss HX.out hpx)
        rw [hpx] at CX
        go_wp2
        go_step3
        go_wp2_with (go_at_call 24; refine (CX.out _).mono ?_; rintro e w' ⟨rfl, rfl⟩)
        simp only [Exit.jump]
        go_ret
        exact ⟨_, rfl, by rw [← HT.out, HF.out]; exact HO.out, HB.out⟩
      · have HF := Lib.hid (frm_hit HX.out hpx)
        rw [hpx] at CX
        go_wp2
        go_step3
        go_wp2_with (first | (go_at_call 24; refine (CX.out _).mono ?_; rintro e w' ⟨rfl, rfl⟩) | (at_builtin; refine wpList_append_own _ rfl _ _ 24 rfl w.heap.size 47 i0 (.agg #[.string ⟨#[]⟩, .int .i64 0]) 2 24 Try.underlying24 hi0 hz0 hz1 hz2 rfl (by decide) _ _ _ rfl (World.ownsRow.alloc HO.out _) ⟨w1.heap.size, 0, none⟩ 1 1 (cs [x]) rfl rfl (new_two (heap_alloc_new w1 _)) (cs_one _) (by unfold maxLen; simp) (by simp) (by have := HB.out.size; simp; omega) ?_))
        intro v' w2 r1 r2 _
        have P := Lib.hid (row_push HO.out HB.out r1 r2)
        obtain ⟨a', c', rfl⟩ := slice_shape r1
        clear r1 r2
        go_wp2
        go_step3
        rw [show ((p : Int) + 1) = ((p + 1 : Nat) : Int) by omega]
        exact ⟨rfl, p + 1, _, [x], hlt, by simp, P.out.1, P.out.2, by rw [← HT.out, HF.out]; rfl, _, _, _, _, _, _, _, _, _, _, _, _, _, _, _, _, _, _, _, _, _, _, _, _, _, _, _, _, _, _, _, _, _, _, _, _, _, _, _, _, _, rfl⟩
    · obtain rfl : p = l.length := by omega
      have HF := Lib.hid (frm_end (h := h) (Nat.le_refl l.length))
      obtain ⟨a0, cc0, rfl⟩ := slice_shape K.row
      clear K CP
      go_wp2
      go_step3
      go_wp2
      simp only [Exit.jump]
      go_ret
      exact ⟨_, rfl, by rw [← HT.out, HF.out]; exact HO.out, HB.out⟩
  · rintro a' wr ⟨k, v0, acc, hk, hac, ho, hb, hT, u2, u3, u7, u8, u9, u10, u11, u12, u13, u14, u15, u16, u17, u18, u19, u20, u21, u22, u23, u24, u25, u26, u27, u28, u29, u30, u31, u32, u33, u34, u35, u36, u37, u38, u39, u40, u41, u42, u43, u44, u45, rfl⟩
    have HO := Lib.hid ho
    have HB := Lib.hid hb
    have K := H.out.below hb
    have c0 := cell_of_one K.blk
    have HT := Lib.hid hT
    obtain ⟨a1, cc1, rfl⟩ := slice_shape ho
    clear ho hb hT
    by_cases hlt : k < l.length
    · obtain ⟨x, hx⟩ := get_some hlt
      have CX := Lib.hid (CP.out x)
      rcases K.row.cases with ⟨_, rfl⟩ | ⟨gv, cap, cur, rfl, _⟩
      · simp at hlt
      have c3 := K.row.cell0 hx
      have c4 := K.row.cell1 hx
      have HX := Lib.hid hx
      clear K hx CP
      cases hpx : preB x.1 h
      · have HF := Lib.hid (frm_miss HX.out hpx)
        rw [hpx] at CX
        go_wp2_with (go_at_call 24; refine (CX.out _).mono ?_; rintro e w' ⟨rfl, rfl⟩)
        simp only [Exit.jump]
        go_ret
        exact ⟨_, rfl, by rw [← HT.out, HF.out, List.append_nil]; exact HO.out, HB.out⟩
      · have HF := Lib.hid (frm_hit HX.out hpx)
        rw [hpx] at CX
        go_wp2_with (first | (go_at_call 24; refine (CX.out _).mono ?_; rintro e w' ⟨rfl, rfl⟩) | (at_builtin; refine wpList_append_own _ rfl _ _ 24 rfl w.heap.size 47 i0 (.agg #[.string ⟨#[]⟩, .int .i64 0]) 2 24 Try.underlying24 hi0 hz0 hz1 hz2 rfl (by decide) _ _ _ rfl (World.ownsRow.alloc HO.out _) ⟨wr.heap.size, 0, none⟩ 1 1 (cs [x]) rfl rfl (new_two (heap_alloc_new wr _)) (cs_one _) (by unfold maxLen; omega) (by omega) (by have := HB.out.size; simp; omega) ?_))
        intro v' w2 r1 r2 _
        have P := Lib.hid (row_push HO.out HB.out r1 r2)
        obtain ⟨a', c', rfl⟩ := slice_shape r1
        clear r1 r2
        go_wp2
        go_step3
        rw [show ((k : Int) + 1) = ((k + 1 : Nat) : Int) by omega]
        exact ⟨rfl, ⟨k + 1, _, acc ++ [x], hlt, by simp; omega, P.out.1, P.out.2, by rw [List.append_assoc, ← HT.out, HF.out]; rfl, _, _, _, _, _, _, _, _, _, _, _, _, _, _, _, _, _, _, _, _, _, _, _, _, _, _, _, _, _, _, _, _, _, _, _, _, _, _, _, _, _, rfl⟩, by simp [intOf]; omega⟩
    · obtain rfl : k = l.length := by omega
      have HF := Lib.hid (frm_end (h := h) (Nat.le_refl l.length))
      obtain ⟨a0, cc0, rfl⟩ := slice_shape K.row
      clear K CP
      go_wp2
      simp only [Exit.jump]
      go_ret
      exact ⟨_, rfl, by rw [← HT.out, HF.out, List.append_nil]; exact HO.out, HB.out⟩
end Go.Proofs.Ytpkffkdojgpmhaa
