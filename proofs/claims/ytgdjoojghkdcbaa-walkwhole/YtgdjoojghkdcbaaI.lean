/- The contracts of Get, Put, Set and Drop. Conditions: the entries stand by rising names, at most 1000. -/
import Derived.Test.YtgdjoojghkdcbaaH
namespace Go.Proofs.Ytgdjoojghkdcbaa
open Go.RowKit Go.PlainAid
set_option linter.unusedSimpArgs false

/-- All old blocks stand but two. -/
structure Moves (D : Nat) (r : Option Nat) (w w' : World) : Prop where
  os : w'.os = w.os
  tape : w'.tape = w.tape
  output : w'.output = w.output
  size : w.heap.size ≤ w'.heap.size
  block : ∀ k, k < w.heap.size → k ≠ D → some k ≠ r → w'.heap[k]? = w.heap[k]?
theorem Moves.of_below {D : Nat} {r : Option Nat} {w w' : World} (h : Below w.heap.size w w') : Moves D r w w' := ⟨h.os, h.tape, h.output, h.size, fun k hk _ _ => h.block k hk⟩
theorem Moves.row {D : Nat} {r : Option Nat} {w w' : World} (h : Moves D r w w') {e B : Nat} {u : Value} {m : List En} (hu : Row e B u m w) (h1 : u.ownBlock ≠ some D) (h2 : ∀ k, u.ownBlock = some k → r ≠ some k) : Row e B u m w' :=
  hu.keep fun k hk hlt => h.block k hlt (fun e => h1 (by rw [hk, e])) (fun e => h2 k hk e.symm)
theorem Moves.low {D B : Nat} {r : Option Nat} {w0 w w' : World} (h : Moves D r w w') (hb : Below B w0 w) (hD : B ≤ D) (hr : ∀ k, r = some k → B ≤ k) (hB : B ≤ w.heap.size) : Below B w0 w' :=
  hb.trans ⟨h.os, h.tape, h.output, h.size, fun k hk => h.block k (by omega) (by omega) (fun e => by have := hr k e.symm; omega)⟩

/-- What a call that may change a directory leaves. -/
def Did (D : Nat) (nc : NC) (B : Nat) (v : Value) (err : Int) (l' : List En) (w : World) (e : Ending) (w' : World) : Prop := ∃ v', e = .returned (.int .i64 err) ∧ DirAt D nc B v' l' w' ∧ Moves D v.ownBlock w w' ∧ Near w v v'
theorem Did.same {D B : Nat} {nc : NC} {v : Value} {err : Int} {l : List En} {w w' : World} (h : DirAt D nc B v l w) (hb : Below w.heap.size w w') : Did D nc B v err l w (.returned (.int .i64 err)) w' := ⟨v, rfl, h.below hb, .of_below hb, .refl _ _⟩

theorem stored {D B : Nat} {nc : NC} {v v' : Value} {l l' : List En} {w w1 w2 : World} (h : DirAt D nc B v l w) (hb : Below w.heap.size w w1) (hg : w1.grownBy w2 v.ownBlock) (hrow : Row 119 B v' l' w2) (hn : Near w1 v v') :
    (w2.cell? ⟨D, 5, none⟩ = some v ∧ w2.frozen? ⟨D, 5, none⟩ = false) ∧ DirAt D nc B v' l' (w2.setCell ⟨D, 5, none⟩ v') ∧ Moves D v.ownBlock w (w2.setCell ⟨D, 5, none⟩ v') ∧ Near w v v' := by
  have hlt := lt_of_block h.blk
  have hne : v.ownBlock ≠ some D := h.row.ne h.blk (by decide)
  have hs := hb.size
  have hD : w2.heap[D]? = some (.cells (nc.fill v) 91 (0, 0)) := (hg.block D (by omega) (fun e => hne e.symm)).trans ((hb.block D hlt).trans h.blk)
  have hne' : v'.ownBlock ≠ some D := hrow.ne hD (by decide)
  refine ⟨⟨by simp [World.cell?, hD, NC.fill], by simp [World.frozen?, hD]⟩, ⟨by rw [blk_setCell hD, fill_set], ownsRow_setCell_other hrow (a := ⟨D, 5, none⟩) hne' v'⟩, ⟨hg.os.trans hb.os, hg.tape.trans hb.tape, hg.output.trans hb.output, ?_, ?_⟩, ?_⟩
  · have := hg.size; simp [World.setCell]; omega
  · intro k hk hkD hkr
    rw [Below.heap_setCell _ _ _ _ hkD, hg.block k (by omega) hkr, hb.block k hk]
  · intro k hk
    rcases hn k hk with h1 | h1
    · exact .inl h1
    · exact .inr (by omega)

/-- The node that a name names. -/
def getN (s : ByteArray) (l : List En) : Int := if hasN s l = true then ((l[pos s l]?).map (·.2)).getD 0 else 0

set_option maxHeartbeats 2000000 in
set_option maxRecDepth 100000 in
theorem get8 (D : Nat) (nc : NC) (B : Nat) (v : Value) (l : List En) (s : ByteArray) (w : World) (h : DirAt D nc B v l w) (hr : Rising l) (hl : l.length ≤ 1000) :
    Calls Try.prog 94 #[.pointer (some ⟨D, 5, none⟩), .string s] w fun e w' => e = .returned (.tuple #[.int .i64 (getN s l), .bool (hasN s l)]) ∧ Below w.heap.size w w' := by
  have C := Lib.hid (place22 D nc B v l s w h hr hl)
  have H := Lib.hid h
  have hg : ∀ n, l[pos s l]? = some (s, n) → hasN s l = true → getN s l = n := by
    intro n h1 h2; unfold getN; rw [if_pos h2, h1]; rfl
  have hg0 : hasN s l = false → getN s l = 0 := by
    intro h2; unfold getN; rw [h2]; rfl
  have HS := Lib.hid (fun h => hasN_some (s := s) (l := l) h)
  generalize hasN s l = r at C hg hg0 HS ⊢
  generalize getN s l = q at hg hg0 ⊢
  generalize pos s l = p at C hg HS
  have HG := Lib.hid hg
  have HG0 := Lib.hid hg0
  clear h hr hg hg0
  go_enter Try.func94, Try.ntmps94
  go_wp2_with fail
  refine C.out.mono ?_
  rintro e w1 ⟨rfl, hb⟩
  have HB := Lib.hid hb
  clear hb
  cases r
  · have HQ := Lib.hid (HG0.out rfl)
    go_wp2
    go_ret2
    rw [HQ.out]
    exact ⟨rfl, HB.out⟩
  · obtain ⟨n, hx⟩ := HS.out rfl
    have HQ := Lib.hid (HG.out n hx rfl)
    have K := H.out.below HB.out
    have c0 := K.cell
    have hlt : p < l.length := (List.getElem?_eq_some_iff.1 hx).1
    rcases K.row.cases with ⟨_, rfl⟩ | ⟨gv, cap, cur, rfl, _⟩
    · simp at hlt
    have c3 := K.row.cell1 hx
    clear K hx HG HG0
    go_wp2
    go_ret2
    rw [HQ.out]
    exact ⟨rfl, HB.out⟩

/-- Put: the error, and the entries behind it. -/
def putE (s : ByteArray) (l : List En) : Int := if 255 < s.size then 18 else if nameB s = false then 11 else if hasN s l = true then 13 else 0
def putL (s : ByteArray) (n : Int) (l : List En) : List En := if putE s l = 0 then l.take (pos s l) ++ (s, n) :: l.drop (pos s l) else l
def setE (s : ByteArray) (l : List En) : Int := if hasN s l = true then 0 else 12
def setL (s : ByteArray) (n : Int) (l : List En) : List En := if hasN s l = true then l.set (pos s l) (s, n) else l
def dropL (s : ByteArray) (l : List En) : List En := if hasN s l = true then l.take (pos s l) ++ l.drop (pos s l + 1) else l

set_option maxHeartbeats 4000000 in
set_option maxRecDepth 100000 in
theorem put16 (D : Nat) (nc : NC) (B : Nat) (v : Value) (l : List En) (s : ByteArray) (n : Int) (w : World) (h : DirAt D nc B v l w) (hr : Rising l) (hl : l.length ≤ 1000) (hs : s.size ≤ maxLen) (hB : B ≤ w.heap.size) :
    Calls Try.prog 72 #[.pointer (some ⟨D, 5, none⟩), .string s, .int .i64 n] w (Did D nc B v (putE s l) (putL s n l) w) := by
  have CN := Lib.hid (fun w => name25 s w hs)
  have C := Lib.hid (place22 D nc B v l s w h hr hl)
  have H := Lib.hid h
  have hp := pos_le s l
  unfold maxLen at hs
  by_cases h1 : 255 < s.size
  · have e1 : putE s l = 18 := by unfold putE; rw [if_pos h1]
    have e2 : putL s n l = l := by unfold putL; rw [e1]; rfl
    have F := Lib.hid (Did.same (err := 18) h (Below.refl _ w))
    rw [e1, e2]
    clear h hr e1 e2
    go_enter Try.func72, Try.ntmps72
    go_wp2
    go_ret
    exact F.out
  cases h2 : nameB s
  · have e1 : putE s l = 11 := by unfold putE; rw [if_neg h1, if_pos h2]
    have e2 : putL s n l = l := by unfold putL; rw [e1]; rfl
    have F := Lib.hid (Did.same (err := 11) h (Below.refl _ w))
    rw [e1, e2]
    clear h hr e1 e2
    rw [h2] at CN
    go_enter Try.func72, Try.ntmps72
    go_wp2_with (go_at_call 87; refine (CN.out _).mono ?_; rintro e w' ⟨rfl, rfl⟩)
    go_ret
    exact F.out
  rw [h2] at CN
  cases h3 : hasN s l
  · have e1 : putE s l = 0 := by unfold putE; rw [if_neg h1, h2, h3]; rfl
    have e2 : putL s n l = l.take (pos s l) ++ (s, n) :: l.drop (pos s l) := by unfold putL; rw [e1]; rfl
    rw [h3] at C
    have ins : ∀ w1, Below w.heap.size w w1 → Calls Try.prog 89 #[v, .int .i64 (pos s l), .slice (some ⟨w1.heap.size, 0, none⟩) 1 1] (w1.alloc (.cells #[.string s, .int .i64 n] 119)) (Ins B v (l.take (pos s l) ++ (s, n) :: l.drop (pos s l)) (w1.alloc (.cells #[.string s, .int .i64 n] 119))) := by
      intro w1 hb
      have hrow : Row 119 B v l w1 := h.row.below hb
      have hbs := hb.size
      exact insert26 B v l (pos s l) w1.heap.size (s, n) _ (hrow.below ((Below.refl _ w1).alloc (Nat.le_refl _) _)) hp hl (heap_alloc_new w1 _) (fun e => by have := (hrow.lt e).2; omega) (by simp; omega)
    have I := Lib.hid ins
    rw [e1, e2]
    clear hr e1 e2 ins
    generalize l.take (pos s l) ++ (s, n) :: l.drop (pos s l) = l2 at I ⊢
    generalize pos s l = p at C I hp
    have c0 := h.cell
    obtain ⟨a, c, rfl⟩ := slice_shape h.row
    clear h
    go_enter Try.func72, Try.ntmps72
    go_wp2_with (go_at_call 87; refine (CN.out _).mono ?_; rintro e w' ⟨rfl, rfl⟩)
    refine C.out.mono ?_
    rintro e w1 ⟨rfl, hb⟩
    clear c0
    have c1 := (H.out.below hb).cell
    have HB := Lib.hid hb
    clear hb
    go_wp2_with fail
    refine (I.out w1 HB.out).mono ?_
    rintro e w2 ⟨v', rfl, r1, r2, r3⟩
    obtain ⟨⟨c2, c3⟩, r4, r5, r6⟩ := stored H.out (HB.out.alloc HB.out.size _) r2 r1 r3
    obtain ⟨a', c', rfl⟩ := slice_shape r1
    have F := Lib.hid (show Did D nc B (.slice a l.length c) 0 l2 w (.returned (.int .i64 0)) _ from ⟨_, rfl, r4, r5, r6⟩)
    clear r1 r2 r3 r4 r5 r6 c1
    go_wp2
    go_ret
    exact F.out
  · have e1 : putE s l = 13 := by unfold putE; rw [if_neg h1, h2, h3]; rfl
    have e2 : putL s n l = l := by unfold putL; rw [e1]; rfl
    rw [e1, e2]
    rw [h3] at C
    have F := Lib.hid (fun w1 => Did.same (err := 13) (w' := w1) h)
    clear h hr e1 e2
    go_enter Try.func72, Try.ntmps72
    go_wp2_with (first | (go_at_call 87; refine (CN.out _).mono ?_; rintro e w' ⟨rfl, rfl⟩) | (go_at_call 88; refine C.out.mono ?_; rintro e w1 ⟨rfl, hb⟩; have HB := Lib.hid hb; clear hb))
    go_ret
    exact F.out _ (Hid.out (by assumption))

set_option maxHeartbeats 4000000 in
set_option maxRecDepth 100000 in
theorem drop17 (D : Nat) (nc : NC) (B : Nat) (v : Value) (l : List En) (s : ByteArray) (w : World) (h : DirAt D nc B v l w) (hr : Rising l) (hl : l.length ≤ 1000) :
    Calls Try.prog 73 #[.pointer (some ⟨D, 5, none⟩), .string s] w (Did D nc B v (setE s l) (dropL s l) w) := by
  have C := Lib.hid (place22 D nc B v l s w h hr hl)
  have H := Lib.hid h
  cases h3 : hasN s l
  · have e1 : setE s l = 12 := by unfold setE; rw [h3]; rfl
    have e2 : dropL s l = l := by unfold dropL; rw [h3]; rfl
    rw [e1, e2]
    rw [h3] at C
    have F := Lib.hid (fun w1 => Did.same (err := 12) (w' := w1) h)
    clear h hr e1 e2
    go_enter Try.func73, Try.ntmps73
    go_wp2_with (go_at_call 88; refine C.out.mono ?_; rintro e w1 ⟨rfl, hb⟩; have HB := Lib.hid hb; clear hb)
    go_ret
    exact F.out _ (Hid.out (by assumption))
  · have e1 : setE s l = 0 := by unfold setE; rw [h3]; rfl
    have e2 : dropL s l = l.take (pos s l) ++ l.drop (pos s l + 1) := by unfold dropL; rw [h3]; rfl
    obtain ⟨n0, hx⟩ := hasN_some h3
    have hp : pos s l < l.length := (List.getElem?_eq_some_iff.1 hx).1
    rw [h3] at C
    have del : ∀ w1, Below w.heap.size w w1 → Calls Try.prog 90 #[v, .int .i64 (pos s l), .int .i64 ((pos s l : Int) + 1)] w1 (Ins B v (l.take (pos s l) ++ l.drop (pos s l + 1)) w1) := by
      intro w1 hb
      exact delete27 B v l (pos s l) w1 (h.row.below hb) hp hl
    have I := Lib.hid del
    rw [e1, e2]
    clear hr e1 e2 del hx
    generalize l.take (pos s l) ++ l.drop (pos s l + 1) = l2 at I ⊢
    generalize pos s l = p at C I hp
    obtain ⟨a, c, rfl⟩ := slice_shape h.row
    clear h
    go_enter Try.func73, Try.ntmps73
    go_wp2_with fail
    refine C.out.mono ?_
    rintro e w1 ⟨rfl, hb⟩
    have c1 := (H.out.below hb).cell
    have HB := Lib.hid hb
    clear hb
    go_wp2_with fail
    refine (I.out w1 HB.out).mono ?_
    rintro e w2 ⟨v', rfl, r1, r2, r3⟩
    obtain ⟨⟨c2, c3⟩, r4, r5, r6⟩ := stored H.out HB.out r2 r1 r3
    obtain ⟨a', c', rfl⟩ := slice_shape r1
    have F := Lib.hid (show Did D nc B (.slice a l.length c) 0 l2 w (.returned (.int .i64 0)) _ from ⟨_, rfl, r4, r5, r6⟩)
    clear r1 r2 r3 r4 r5 r6 c1
    go_wp2
    go_ret
    exact F.out

theorem cs_set1 : ∀ (l : List En) (k : Nat) (s : ByteArray) (m n : Int), l[k]? = some (s, m) → (cs l).set (k * 2 + 1) (.int .i64 n) = cs (l.set k (s, n))
  | [], k, s, m, n, h => by simp at h
  | y :: l, 0, s, m, n, h => by simp at h; subst h; rfl
  | y :: l, k + 1, s, m, n, h => by
    rw [show (k + 1) * 2 + 1 = k * 2 + 1 + 1 + 1 by omega]
    simp only [cs, List.set_cons_succ]
    rw [cs_set1 l k s m n (by simpa using h)]
theorem Row.set {e B gv cap : Nat} {l : List En} {w : World} {k : Nat} {s : ByteArray} {m : Int} (h : Row e B (.slice (some ⟨gv, 0, none⟩) l.length cap) l w) (hx : l[k]? = some (s, m)) (n : Int) :
    Row e B (.slice (some ⟨gv, 0, none⟩) l.length cap) (l.set k (s, n)) (w.setCell ⟨gv, k * 2 + 1, none⟩ (.int .i64 n)) ∧ w.grownBy (w.setCell ⟨gv, k * 2 + 1, none⟩ (.int .i64 n)) (some gv) ∧ w.frozen? ⟨gv, k * 2 + 1, none⟩ = false := by
  have h2 := World.ownsRow.stored h (k * 2 + 1) (.int .i64 n)
  rw [cs_set1 l k s m n hx] at h2
  refine ⟨?_, h2.2, World.ownsRow.frozenAt h _⟩
  unfold Row
  rw [List.length_set]
  exact h2.1

end Go.Proofs.Ytgdjoojghkdcbaa
