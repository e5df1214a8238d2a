/- DirPlays, walked. Conditions: the texts that came in fit an int. -/
import Derived.Test.YtpkffkdojgpmhaaY
namespace Go.Proofs.Ytpkffkdojgpmhaa
open Go.RowKit Go.PlainAid
set_option linter.unusedSimpArgs false

abbrev Opn := Int × ByteArray × Int
/-- A list of calls that came in. -/
def OpsAt (w : World) (v : Value) (os : List Opn) : Prop := (os = [] ∧ ∃ a c, v = .slice a 0 c) ∨ ∃ b off c, v = .slice (some ⟨b, off, none⟩) os.length c ∧ ∀ (i : Nat) (o : Opn), os[i]? = some o →
  w.cell? ⟨b, off + i * 3, none⟩ = some (.int .i64 o.1) ∧ w.cell? ⟨b, off + i * 3 + 1, none⟩ = some (.string o.2.1) ∧ w.cell? ⟨b, off + i * 3 + 2, none⟩ = some (.int .i64 o.2.2)
theorem ops_shape {w : World} {v : Value} {os : List Opn} (h : OpsAt w v os) : ∃ a c, v = .slice a os.length c := by
  rcases h with ⟨rfl, a, c, rfl⟩ | ⟨b, off, c, rfl, _⟩
  · exact ⟨a, c, rfl⟩
  · exact ⟨_, c, rfl⟩
theorem low_cell {w w' : World} (hb : Below w.heap.size w w') {p : Addr} {u : Value} (h : w.cell? p = some u) : w'.cell? p = some u := by
  rw [hb.cell (block_lt_of_cell h)]; exact h

def RelP (D : Nat) (os : List Opn) (w : World) (u i : Value) (wr : World) : Prop := ∃ (k : Nat) (v : Value) (l : List En), k ≤ os.length ∧ i = .int .i64 k ∧ Both D w.heap.size v u l wr ∧ Good l k ∧ Below w.heap.size w wr
theorem both_new {w w1 : World} (hb : Below w.heap.size w w1) : Both w1.heap.size w.heap.size (.slice none 0 0) (.slice none 0 0) [] (w1.alloc (.cells #[.slice none 0 0] 26)) ∧ Below w.heap.size w (w1.alloc (.cells #[.slice none 0 0] 26)) :=
  ⟨⟨⟨heap_alloc_new w1 _, row_nil _ _ _⟩, row_nil _ _ _, hb.size⟩, hb.alloc hb.size _⟩

set_option maxHeartbeats 1000000 in
set_option maxRecDepth 100000 in
theorem play3_early (v0 : Value) (os : List Opn) (name head : ByteArray) (w : World) (h : OpsAt w v0 os) (hx : 100 < os.length ∨ 500 < name.size ∨ 500 < head.size) :
    Calls Try.prog 3 #[v0, .string name, .string head] w fun e w' => e = .returned (.bool true) ∧ Below w.heap.size w w' := by
  have A := Lib.hid (anchor6 w)
  obtain ⟨a, c, rfl⟩ := ops_shape h
  clear h
  by_cases h1 : 100 < os.length
  · have h2 : (100 : Int) < (os.length : Int) := by omega
    go_enter Try.func3, Try.ntmps3
    go_wp2_with (go_at_call 6; refine A.out.mono ?_; rintro e w1 ⟨rfl, hb⟩; have HB := Lib.hid hb; clear hb)
    go_ret
    exact ⟨rfl, Hid.out (by assumption)⟩
  have h2 : ¬ ((100 : Int) < (os.length : Int)) := by omega
  by_cases h3 : 500 < name.size
  · have h4 : (500 : Int) < (name.size : Int) := by omega
    go_enter Try.func3, Try.ntmps3
    go_wp2_with (go_at_call 6; refine A.out.mono ?_; rintro e w1 ⟨rfl, hb⟩; have HB := Lib.hid hb; clear hb)
    go_ret
    exact ⟨rfl, Hid.out (by assumption)⟩
  · have h4 : ¬ ((500 : Int) < (name.size : Int)) := by omega
    have h5 : (500 : Int) < (head.size : Int) := by omega
    clear hx
    go_enter Try.func3, Try.ntmps3
    go_wp2_with (go_at_call 6; refine A.out.mono ?_; rintro e w1 ⟨rfl, hb⟩; have HB := Lib.hid hb; clear hb)
    go_ret
    exact ⟨rfl, Hid.out (by assumption)⟩

/-- Both, behind what the call has done. -/
structure Play (D : Nat) (v u : Value) (l : List En) (w wr : World) : Prop where
  both : Both D w.heap.size v u l wr
  low : Below w.heap.size w wr
theorem Play.below {D : Nat} {v u : Value} {l : List En} {w wr w' : World} (h : Play D v u l w wr) (hb : Below wr.heap.size wr w') : Play D v u l w w' := ⟨h.both.below hb, h.low.trans (hb.mono h.low.size)⟩
theorem getP {D k : Nat} {v u : Value} {l : List En} {w wr : World} (h : Play D v u l w wr) (hg : Good l k) (hk : k ≤ 999) (s : ByteArray) :
    Calls Try.prog 8 #[.pointer (some ⟨D, 0, none⟩), .string s] wr fun e w' => e = .returned (.tuple #[.int .i64 (getN s l), .bool (hasN s l)]) ∧ Play D v u l w w' := by
  have := hg.len
  exact (get8 D w.heap.size v l s wr h.both.dir hg.rise (by omega)).mono fun e w' ⟨e1, hb⟩ => ⟨e1, h.below hb⟩
theorem findP {D k : Nat} {v u : Value} {l : List En} {w wr : World} (h : Play D v u l w wr) (hg : Good l k) (hk : k ≤ 999) (s : ByteArray) :
    Calls Try.prog 9 #[u, .string s] wr fun e w' => e = .returned (.int .i64 (findI s l)) ∧ wr = w' := by
  have := hg.len
  exact find9 w.heap.size u l s wr h.both.row hg.rise (by omega)
theorem sizeP {D k : Nat} {v u : Value} {l : List En} {w wr : World} (h : Play D v u l w wr) (hg : Good l k) (hk : k ≤ 999) :
    Calls Try.prog 11 #[.pointer (some ⟨D, 0, none⟩)] wr fun e w' => e = .returned (.int .i64 (szs l)) ∧ Play D v u l w w' := by
  have := hg.len
  exact (size11 D w.heap.size v l wr h.both.dir (by omega) hg.names).mono fun e w' ⟨e1, hb⟩ => ⟨e1, h.below hb⟩
theorem listP {D k : Nat} {v u : Value} {l : List En} {w wr : World} (h : Play D v u l w wr) (hg : Good l k) (hk : k ≤ 999) :
    Calls Try.prog 13 #[.pointer (some ⟨D, 0, none⟩)] wr fun e w' => ∃ x, e = .returned x ∧ Row 47 wr.heap.size x l w' ∧ Play D v u l w w' := by
  have := hg.len
  exact (list13 D w.heap.size v l wr h.both.dir (by omega)).mono fun e w' ⟨x, e1, r1, r2⟩ => ⟨x, e1, r1, h.below r2⟩
theorem sameP {D B k : Nat} {v u x : Value} {l : List En} {w wr : World} (h : Play D v u l w wr) (hx : Row 47 B x l wr) (hg : Good l k) (hk : k ≤ 999) :
    Calls Try.prog 12 #[x, u] wr fun e w' => e = .returned (.bool true) ∧ Play D v u l w w' := by
  have := hg.len
  exact (same12 hx h.both.row (by omega)).mono fun e w' ⟨e1, hb⟩ => ⟨e1, h.below hb⟩
theorem fromP {D k : Nat} {v u : Value} {l : List En} {w wr : World} (h : Play D v u l w wr) (hg : Good l k) (hk : k ≤ 999) (s : ByteArray) :
    Calls Try.prog 14 #[.pointer (some ⟨D, 0, none⟩), .string s] wr fun e w' => ∃ x, e = .returned x ∧ Row 47 wr.heap.size x (flt s l) w' ∧ Play D v u l w w' := by
  have := hg.len
  rw [flt_frm s l hg.rise]
  exact (from14 D w.heap.size v l s wr h.both.dir hg.rise (by omega)).mono fun e w' ⟨x, e1, r1, r2⟩ => ⟨x, e1, r1, h.below r2⟩
theorem rfromP {D B k : Nat} {v u x : Value} {l : List En} {w wr : World} (h : Play D v u l w wr) (s : ByteArray) (hx : Row 47 B x (flt s l) wr) (hg : Good l k) (hk : k ≤ 999) :
    Calls Try.prog 15 #[u, .string s] wr fun e w' => ∃ y, e = .returned y ∧ Row 34 wr.heap.size y (flt s l) w' ∧ Row 47 B x (flt s l) w' ∧ Below w.heap.size w w' := by
  have := hg.len
  exact (rfrom15 w.heap.size u l s wr h.both.row (by omega)).mono fun e w' ⟨y, e1, r1, r2⟩ => ⟨y, e1, r1, hx.below r2, h.low.trans (r2.mono h.low.size)⟩
theorem flt_len (h : ByteArray) (l : List En) : (flt h l).length ≤ l.length := List.length_filter_le _ _

theorem Good.step' {l : List En} {k : Nat} (h : Good l k) (o : Opn) : Good (stepL o.1 o.2.1 o.2.2 l) (k + 1) := h.step _ _ _

set_option maxHeartbeats 2000000 in
set_option maxRecDepth 100000 in
theorem play3_main (v0 : Value) (os : List Opn) (name head : ByteArray) (w : World) (h : OpsAt w v0 os) (h100 : os.length ≤ 100) (hn5 : name.size ≤ 500) (hh5 : head.size ≤ 500) :
    Calls Try.prog 3 #[v0, .string name, .string head] w fun e w' => e = .returned (.bool true) ∧ Below w.heap.size w w' := by
  have A := Lib.hid (anchor6 w)
  have q1 : ¬ ((100 : Int) < (os.length : Int)) := by omega
  have q2 : ¬ ((500 : Int) < (name.size : Int)) := by omega
  have q3 : ¬ ((500 : Int) < (head.size : Int)) := by omega
  have H := Lib.hid h
  obtain ⟨a0, c0, rfl⟩ := ops_shape h
  clear h
  go_enter Try.func3, Try.ntmps3
  go_wp2_with fail
  refine A.out.mono ?_
  rintro e w1 ⟨rfl, hb⟩
  have M0 := Lib.hid (both_new hb)
  clear hb
  go_wp2
  go_loopw [8, 35] (RelP w1.heap.size os w) (fun _ i _ => os.length - (intOf i).toNat)
  case atStart => exact ⟨0, _, [], Nat.zero_le _, rfl, M0.out.1, good_nil, M0.out.2⟩
  case round =>
    clear M0
    obtain ⟨k, v, l, hk, rfl, hm, hg, hb⟩ := hrel
    obtain ⟨au, cu, rfl⟩ := slice_shape hm.row
    have HM := Lib.hid hm
    have HG := Lib.hid hg
    have HB := Lib.hid hb
    by_cases hlt : k < os.length
    · obtain ⟨o, ho⟩ := get_some hlt
      rcases H.out with ⟨e, _⟩ | ⟨b, off, c, e, hcell⟩
      · rw [e] at hlt; simp at hlt
      cases e
      obtain ⟨x0, x1, x2⟩ := hcell k o ho
      replace x0 := low_cell hb x0
      replace x1 := low_cell hb x1
      replace x2 := low_cell hb x2
      have hw2 : Below wr.heap.size wr (wr.alloc (.cells #[.int .i64 o.1, .string o.2.1, .int .i64 o.2.2] 29)) := (Below.refl _ wr).alloc (Nat.le_refl _) _
      have hw3 : Below w.heap.size w (wr.alloc (.cells #[.int .i64 o.1, .string o.2.1, .int .i64 o.2.2] 29)) := hb.alloc hb.size _
      have L := Lib.hid hw3
      have C := Lib.hid (fun (h5 : o.2.1.size ≤ 500) => do7 w1.heap.size w.heap.size k v _ l o.1 o.2.1 o.2.2 _ (hm.below hw2) hg (by omega) h5)
      have G2 := Lib.hid (hg.step' o)
      generalize stepL o.1 o.2.1 o.2.2 l = l2 at C G2
      clear hm hg hcell ho HM HB hb hw2 hw3
      by_cases h5 : 500 < o.2.1.size
      · have h6 : (500 : Int) < (o.2.1.size : Int) := by omega
        go_wp2
        go_ret
        exact ⟨rfl, L.out⟩
      · have h6 : ¬ ((500 : Int) < (o.2.1.size : Int)) := by omega
        go_wp2_with fail
        refine (C.out (by omega)).mono ?_
        rintro e w2 ⟨u', v', rfl, b1, b2⟩
        obtain ⟨au', cu', rfl⟩ := slice_shape b1.row
        have B1 := Lib.hid b1
        have B2 := Lib.hid (L.out.trans b2)
        clear b1 b2
        go_wp2
        go_roundw
        case rel => exact ⟨k + 1, v', l2, hlt, by go_num, B1.out, G2.out, B2.out⟩
        case measure => simp [intOf]; omega
    · obtain rfl : k = os.length := by omega
      have PL : Hid (Play w1.heap.size v _ l w wr) := ⟨HM.out, HB.out⟩
      have hlen := HG.out.len
      clear hm hg hb HM HB
      go_wp2
      go_loopw [12, 54] (RelSz wr l) (fun _ i _ => l.length - (intOf i).toNat)
      case atStart => exact ⟨0, Nat.zero_le _, rfl, rfl, Below.refl _ _⟩
      case round =>
        obtain ⟨k, hk, rfl, rfl, hb⟩ := hrel
        have HB := Lib.hid hb
        have P2 := PL.out.below hb
        clear hb
        by_cases hlt : k < l.length
        · obtain ⟨x, hx⟩ := get_some hlt
          rcases P2.both.row.cases with ⟨_, e⟩ | ⟨gu, capu, curu, e, _⟩
          · rw [e] at hlt; simp at hlt
          cases e
          have e0 := P2.both.row.cell0 hx
          have e1 := P2.both.row.cell1 hx
          have hsz := szs_le (l.take k) (fun y hy => HG.out.names y (List.mem_of_mem_take hy))
          have hsz2 : szs (l.take k) ≤ 500000 := by have := List.length_take_le k l; omega
          have hx5 := HG.out.names x (List.mem_of_getElem? hx)
          have ES : Hid (szs (l.take (k + 1)) = szs (l.take k) + x.1.size) := by show _ = _; rw [take_succ hx, szs_app]; simp [szs]
          clear hx hsz P2
          generalize szs (l.take k) = n at hsz2 ES
          go_wp2
          go_roundw
          case rel => exact ⟨k + 1, hlt, by go_num, by rw [ES.out]; go_num, HB.out.alloc HB.out.size _⟩
          case measure => simp [intOf]; omega
        · obtain rfl : k = l.length := by omega
          rw [List.take_length]
          have C1 := Lib.hid (getP P2 HG.out (by omega) name)
          clear P2 PL HB
          go_wp2_with fail
          refine C1.out.mono ?_
          rintro e w3 ⟨rfl, p3⟩
          clear C1
          have C2 := Lib.hid (findP p3 HG.out (by omega) name)
          have C3 := Lib.hid (len10 _ _ _ _ _ p3.both.dir)
          have C4 := Lib.hid (sizeP p3 HG.out (by omega))
          have hll : ((l.length : Int) == (l.length : Int)) = true := by simp
          have hss : ((szs l : Int) == (szs l : Int)) = true := by simp
          cases hh : hasN name l
          · rw [show findI name l = -1 by unfold findI; rw [hh]; rfl] at C2
            rw [show getN name l = 0 by unfold getN; rw [hh]; rfl]
            clear p3
            generalize szs l = z at C4 hss
            go_wp2_with (first | (go_at_call 9; refine C2.out.mono ?_; rintro e w' ⟨rfl, rfl⟩) | (go_at_call 10; refine C3.out.mono ?_; rintro e w' ⟨rfl, rfl⟩))
            refine C4.out.mono ?_
            rintro e w4 ⟨rfl, p4⟩
            have C5 := Lib.hid (listP p4 HG.out (by omega))
            clear p4 C4
            go_wp2_with fail
            refine C5.out.mono ?_
            rintro e w5 ⟨x5, rfl, r5, p5⟩
            obtain ⟨ax, cx, rfl⟩ := slice_shape r5
            have C6 := Lib.hid (sameP p5 r5 HG.out (by omega))
            clear p5 r5 C5
            go_wp2_with fail
            refine C6.out.mono ?_
            rintro e w6 ⟨rfl, p6⟩
            have C7 := Lib.hid (fromP p6 HG.out (by omega) head)
            clear p6 C6
            go_wp2_with fail
            refine C7.out.mono ?_
            rintro e w7 ⟨x7, rfl, r7, p7⟩
            obtain ⟨ax7, cx7, hx7⟩ := slice_shape r7
            have C8 := Lib.hid (rfromP p7 head r7 HG.out (by omega))
            clear p7 r7 C7
            subst hx7
            go_wp2_with fail
            refine C8.out.mono ?_
            rintro e w8 ⟨y8, rfl, r8, r9, l8⟩
            obtain ⟨ay8, cy8, hy8⟩ := slice_shape r8
            have C9 := Lib.hid (same12 r9 r8 (by have := flt_len head l; omega))
            have L8 := Lib.hid l8
            clear r8 r9 l8 C8
            subst hy8
            go_wp2_with fail
            refine C9.out.mono ?_
            rintro e w9 ⟨rfl, l9⟩
            have L9 := Lib.hid (L8.out.trans (l9.mono L8.out.size))
            clear l9
            go_wp2
            go_ret
            exact ⟨rfl, L9.out⟩
          · obtain ⟨m, hm⟩ := hasN_some hh
            have hpl : pos name l < l.length := (List.getElem?_eq_some_iff.1 hm).1
            rw [show findI name l = pos name l by unfold findI; rw [hh]; rfl] at C2
            rw [show getN name l = m by unfold getN; rw [if_pos hh, hm]; rfl]
            rcases p3.both.row.cases with ⟨_, e⟩ | ⟨gu, capu, curu, e, _⟩
            · rw [e] at hpl; simp at hpl
            cases e
            have e1 := p3.both.row.cell1 hm
            have hmm : (m != m) = false := by simp
            clear p3 hm
            generalize pos name l = pp at C2 hpl e1
            generalize szs l = z at C4 hss
            have p1 : (0 : Int) ≤ (pp : Int) := by omega
            go_wp2_with (first | (go_at_call 9; refine C2.out.mono ?_; rintro e w' ⟨rfl, rfl⟩) | (go_at_call 10; refine C3.out.mono ?_; rintro e w' ⟨rfl, rfl⟩))
            refine C4.out.mono ?_
            rintro e w4 ⟨rfl, p4⟩
            have C5 := Lib.hid (listP p4 HG.out (by omega))
            clear p4 C4
            go_wp2_with fail
            refine C5.out.mono ?_
            rintro e w5 ⟨x5, rfl, r5, p5⟩
            obtain ⟨ax, cx, rfl⟩ := slice_shape r5
            have C6 := Lib.hid (sameP p5 r5 HG.out (by omega))
            clear p5 r5 C5
            go_wp2_with fail
            refine C6.out.mono ?_
            rintro e w6 ⟨rfl, p6⟩
            have C7 := Lib.hid (fromP p6 HG.out (by omega) head)
            clear p6 C6
            go_wp2_with fail
            refine C7.out.mono ?_
            rintro e w7 ⟨x7, rfl, r7, p7⟩
            obtain ⟨ax7, cx7, hx7⟩ := slice_shape r7
            have C8 := Lib.hid (rfromP p7 head r7 HG.out (by omega))
            clear p7 r7 C7
            subst hx7
            go_wp2_with fail
            refine C8.out.mono ?_
            rintro e w8 ⟨y8, rfl, r8, r9, l8⟩
            obtain ⟨ay8, cy8, hy8⟩ := slice_shape r8
            have C9 := Lib.hid (same12 r9 r8 (by have := flt_len head l; omega))
            have L8 := Lib.hid l8
            clear r8 r9 l8 C8
            subst hy8
            go_wp2_with fail
            refine C9.out.mono ?_
            rintro e w9 ⟨rfl, l9⟩
            have L9 := Lib.hid (L8.out.trans (l9.mono L8.out.size))
            clear l9
            go_wp2
            go_ret
            exact ⟨rfl, L9.out⟩
end Go.Proofs.Ytpkffkdojgpmhaa
