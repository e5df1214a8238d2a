/- DirBack, walked. Conditions: the names that came in fit an int. -/
import Derived.Test.YtpkffkdojgpmhaaT
namespace Go.Proofs.Ytpkffkdojgpmhaa
open Go.RowKit Go.PlainAid
set_option linter.unusedSimpArgs false

/-- A directory of the call's own, and a list that was made of it. -/
structure Kept (D : Nat) (v : Value) (l : List En) (x : Value) (lx : List En) (w wr : World) : Prop where
  mine : Mine D v l w wr
  row : Row 47 w.heap.size x lx wr
  apart : ∀ k, x.ownBlock = some k → v.ownBlock ≠ some k
theorem Kept.did {D : Nat} {v v' x : Value} {l l' lx : List En} {w wr w' : World} (h : Kept D v l x lx w wr) (hd : DirAt D w.heap.size v' l' w') (hm : Moves D v.ownBlock wr w') (hn : Near wr v v') : Kept D v' l' x lx w w' := by
  refine ⟨h.mine.did hd hm, hm.row h.row (h.row.ne h.mine.dir.blk (by decide)) (fun k hk => h.apart k hk), ?_⟩
  intro k hk e
  rcases hn k e with h1 | h1
  · exact h.apart k hk h1
  · have := (h.row.lt hk).2; omega
theorem Kept.below {D : Nat} {v x : Value} {l lx : List En} {w wr w' : World} (h : Kept D v l x lx w wr) (hb : Below wr.heap.size wr w') : Kept D v l x lx w w' := ⟨h.mine.below hb, h.row.below hb, h.apart⟩
theorem kept_new {D : Nat} {v x : Value} {l : List En} {w wr w' : World} (h : Mine D v l w wr) (hx : Row 47 wr.heap.size x l w') (hb : Below wr.heap.size wr w') : Kept D v l x l w w' :=
  ⟨h.below hb, hx.mono h.low.size, fun k hk e => by have := (hx.lt hk).1; have := (h.dir.row.lt e).2; omega⟩

theorem putM {D k : Nat} {v : Value} {l : List En} {w wr : World} (h : Mine D v l w wr) (hg : Good l k) (hk : k ≤ 999) (s : ByteArray) (n : Int) (hs : s.size ≤ maxLen) :
    Calls Try.prog 16 #[.pointer (some ⟨D, 0, none⟩), .string s, .int .i64 n] wr fun e w' => e = .returned (.int .i64 (putE s l)) ∧ ∃ v', Mine D v' (putL s n l) w w' := by
  have := hg.len
  exact (put16 D w.heap.size v l s n wr h.dir hg.rise (by omega) hs h.low.size).mono fun e w' ⟨v', e1, d1, d2, _⟩ => ⟨e1, v', h.did d1 d2⟩
theorem putK {D k : Nat} {v x : Value} {l lx : List En} {w wr : World} (h : Kept D v l x lx w wr) (hg : Good l k) (hk : k ≤ 999) (s : ByteArray) (n : Int) (hs : s.size ≤ maxLen) :
    Calls Try.prog 16 #[.pointer (some ⟨D, 0, none⟩), .string s, .int .i64 n] wr fun e w' => e = .returned (.int .i64 (putE s l)) ∧ ∃ v', Kept D v' (putL s n l) x lx w w' := by
  have := hg.len
  exact (put16 D w.heap.size v l s n wr h.mine.dir hg.rise (by omega) hs h.mine.low.size).mono fun e w' ⟨v', e1, d1, d2, d3⟩ => ⟨e1, v', h.did d1 d2 d3⟩
theorem dropK {D k : Nat} {v x : Value} {l lx : List En} {w wr : World} (h : Kept D v l x lx w wr) (hg : Good l k) (hk : k ≤ 999) (s : ByteArray) :
    Calls Try.prog 17 #[.pointer (some ⟨D, 0, none⟩), .string s] wr fun e w' => e = .returned (.int .i64 (setE s l)) ∧ ∃ v', Kept D v' (dropL s l) x lx w w' := by
  have := hg.len
  exact (drop17 D w.heap.size v l s wr h.mine.dir hg.rise (by omega)).mono fun e w' ⟨v', e1, d1, d2, d3⟩ => ⟨e1, v', h.did d1 d2 d3⟩
theorem getK {D k : Nat} {v x : Value} {l lx : List En} {w wr : World} (h : Kept D v l x lx w wr) (hg : Good l k) (hk : k ≤ 999) (s : ByteArray) :
    Calls Try.prog 8 #[.pointer (some ⟨D, 0, none⟩), .string s] wr fun e w' => e = .returned (.tuple #[.int .i64 (getN s l), .bool (hasN s l)]) ∧ Kept D v l x lx w w' := by
  have := hg.len
  exact (get8 D w.heap.size v l s wr h.mine.dir hg.rise (by omega)).mono fun e w' ⟨e1, hb⟩ => ⟨e1, h.below hb⟩
theorem lenK {D : Nat} {v x : Value} {l lx : List En} {w wr : World} (h : Kept D v l x lx w wr) :
    Calls Try.prog 10 #[.pointer (some ⟨D, 0, none⟩)] wr fun e w' => e = .returned (.int .i64 l.length) ∧ wr = w' := len10 D w.heap.size v l wr h.mine.dir
theorem listM {D k : Nat} {v : Value} {l : List En} {w wr : World} (h : Mine D v l w wr) (hg : Good l k) (hk : k ≤ 999) :
    Calls Try.prog 13 #[.pointer (some ⟨D, 0, none⟩)] wr fun e w' => ∃ x, e = .returned x ∧ Kept D v l x l w w' := by
  have := hg.len
  exact (list13 D w.heap.size v l wr h.dir (by omega)).mono fun e w' ⟨x, e1, r1, r2⟩ => ⟨x, e1, kept_new h r1 r2⟩
/-- Two lists, made one behind the other. -/
structure Twice (x y : Value) (l : List En) (w wr : World) : Prop where
  one : Row 47 w.heap.size x l wr
  two : Row 47 w.heap.size y l wr
  low : Below w.heap.size w wr
theorem listK {D k : Nat} {v x : Value} {l : List En} {w wr : World} (h : Kept D v l x l w wr) (hg : Good l k) (hk : k ≤ 999) :
    Calls Try.prog 13 #[.pointer (some ⟨D, 0, none⟩)] wr fun e w' => ∃ y, e = .returned y ∧ Twice x y l w w' := by
  have := hg.len
  exact (list13 D w.heap.size v l wr h.mine.dir (by omega)).mono fun e w' ⟨y, e1, r1, r2⟩ => ⟨y, e1, h.row.below r2, r1.mono h.mine.low.size, h.mine.low.trans (r2.mono h.mine.low.size)⟩

def RelY (w : World) (l : List En) (i : Value) (wr : World) : Prop := ∃ (k n : Nat), k ≤ l.length ∧ i = .int .i64 k ∧ wr = w.drewN n

set_option maxHeartbeats 2000000 in
set_option maxRecDepth 100000 in
theorem back5_main (v0 : Value) (ns : List ByteArray) (name : ByteArray) (node : Int) (w : World) (h : Strs w v0 ns) (hz : ∀ s ∈ ns, s.size ≤ maxLen) (h60 : ns.length ≤ 60) (h500 : name.size ≤ 500) :
    Calls Try.prog 5 #[v0, .string name, .int .i64 node] w fun e w' => e = .returned (.bool true) ∧ Below w.heap.size w w' := by
  have A := Lib.hid (anchor6 w)
  have hc1 : ¬ ((60 : Int) < (ns.length : Int)) := by omega
  have hc2 : ¬ ((500 : Int) < (name.size : Int)) := by omega
  have HZ := Lib.hid hz
  have H := Lib.hid h
  obtain ⟨a0, c0, rfl⟩ := strs_shape h
  clear h hz
  go_enter Try.func5, Try.ntmps5
  go_wp2_with fail
  refine A.out.mono ?_
  rintro e w1 ⟨rfl, hb⟩
  have M0 := Lib.hid (mine_new hb)
  clear hb
  go_wp2
  go_loopw [32] (RelK w1.heap.size ns w) (fun i _ => ns.length - (intOf i).toNat)
  case atStart => exact ⟨0, _, [], Nat.zero_le _, rfl, M0.out, good_nil⟩
  case round =>
    clear M0
    obtain ⟨k, v, l, hk, rfl, hm, hg⟩ := hrel
    have HM := Lib.hid hm
    have HG := Lib.hid hg
    by_cases hlt : k < ns.length
    · obtain ⟨s, hs⟩ := get_some hlt
      rcases H.out with ⟨e, _⟩ | ⟨b, off, c, e, hcell⟩
      · rw [e] at hlt; simp at hlt
      cases e
      have x0 := strs_cell hm.low hcell hs
      have hsz := HZ.out s (List.mem_of_getElem? hs)
      have C := Lib.hid (putM hm hg (by omega) s k hsz)
      have L := Lib.hid hm.low
      generalize putE s l = er at C
      clear hm hg hcell hs HM
      by_cases h5 : 500 < s.size
      · have h6 : (500 : Int) < (s.size : Int) := by omega
        go_wp2
        go_ret
        exact ⟨rfl, L.out⟩
      · have h6 : ¬ ((500 : Int) < (s.size : Int)) := by omega
        go_wp2_with fail
        refine C.out.mono ?_
        rintro e w2 ⟨rfl, v', hm'⟩
        have HM := Lib.hid hm'
        clear hm'
        go_wp2
        go_roundw
        case rel => exact ⟨k + 1, v', _, hlt, by go_num, HM.out, HG.out.put s k⟩
        case measure => simp [intOf]; omega
    · obtain rfl : k = ns.length := by omega
      have C1 := Lib.hid (listM hm hg (by omega))
      clear hm hg HM
      go_wp2_with fail
      refine C1.out.mono ?_
      rintro e w2 ⟨x, rfl, k1⟩
      obtain ⟨ax, cx, rfl⟩ := slice_shape k1.row
      have C2 := Lib.hid (getK k1 HG.out (by omega) name)
      clear k1
      go_wp2_with fail
      refine C2.out.mono ?_
      rintro e w3 ⟨rfl, k2⟩
      have C3 := Lib.hid (putK k2 HG.out (by omega) name node (by unfold maxLen; omega))
      clear k2 C1 C2
      go_wp2_with fail
      refine C3.out.mono ?_
      rintro e w4 ⟨rfl, v4, k3⟩
      clear C3
      cases hh : hasN name l
      · by_cases he : putE name l = 0
        · have G4 := HG.out.put name node
          obtain ⟨f1, f2, f3⟩ := put_back (n := node) HG.out.rise he
          have C5 := Lib.hid (getK k3 G4 (by omega) name)
          rw [f1, f2] at C5
          clear k3
          rw [he]
          have hnn : (node != node) = false := by simp
          go_wp2_with fail
          refine C5.out.mono ?_
          rintro e w5 ⟨rfl, k5⟩
          have C6 := Lib.hid (dropK k5 G4 (by omega) name)
          rw [f3, show setE name (putL name node l) = 0 by unfold setE; rw [f1]; rfl] at C6
          clear k5 C5 f1 f2 f3 G4
          go_wp2_with fail
          refine C6.out.mono ?_
          rintro e w6 ⟨rfl, v6, k6⟩
          have C9 := Lib.hid (listK k6 HG.out (by omega))
          clear k6 C6
          go_wp2_with fail
          refine C9.out.mono ?_
          rintro e w9 ⟨y, rfl, t9⟩
          obtain ⟨ay, cy, rfl⟩ := slice_shape t9.two
          have hll : ((l.length : Int) != (l.length : Int)) = false := by simp
          have L9 := Lib.hid t9.low
          by_cases hl0 : l = []
          · subst hl0
            clear t9 HG
            go_wp2
            go_loopw [99] (fun i wr => i = .int .i64 0 ∧ wr = w9) (fun _ _ => 0)
            case atStart => exact ⟨rfl, rfl⟩
            case round =>
              obtain ⟨rfl, rfl⟩ := hrel
              go_wp2
              go_ret
              exact ⟨rfl, L9.out⟩
          · rcases t9.one.cases with ⟨_, e⟩ | ⟨g1, cap1, cur1, e1, _⟩
            · exact absurd e hl0
            rcases t9.two.cases with ⟨_, e⟩ | ⟨g2, cap2, cur2, e2, _⟩
            · exact absurd e hl0
            cases e1
            cases e2
            have T1 := Lib.hid t9.one.both
            have T2 := Lib.hid t9.two.both
            clear t9 hl0
            have hlen := HG.out.len
            go_wp2
            go_loopw [99] (RelY w9 l) (fun i _ => l.length - (intOf i).toNat)
            case atStart => exact ⟨0, 0, Nat.zero_le _, rfl, rfl⟩
            case round =>
              obtain ⟨k, n, hk, rfl, rfl⟩ := hrel
              by_cases hlt : k < l.length
              · obtain ⟨z, hx⟩ := get_some hlt
                obtain ⟨e1, e2⟩ := T1.out k z hx
                obtain ⟨e3, e4⟩ := T2.out k z hx
                have p1 : (0 : Int) ≤ (k : Int) := by omega
                have p2 : (k : Int) < (l.length : Int) := by omega
                have hxx : (z.1.toList == z.1.toList) = true := by simp
                have hyy : (z.2 == z.2) = true := by simp
                clear hx
                go_wp2
                go_region
                go_wp2
                go_roundw
                case rel => exact ⟨k + 1, n + 1, hlt, by go_num, rfl⟩
                case measure => simp [intOf]; omega
              · obtain rfl : k = l.length := by omega
                go_wp2
                go_ret
                exact ⟨rfl, below_drewN L9.out n⟩

        · have e1 := put_same (n := node) he
          rw [e1] at k3
          have C9 := Lib.hid (listK k3 HG.out (by omega))
          have hne : (putE name l == 0) = false := by simpa using he
          generalize putE name l = er at hne
          clear k3 e1 he
          go_wp2_with fail
          refine C9.out.mono ?_
          rintro e w9 ⟨y, rfl, t9⟩
          obtain ⟨ay, cy, rfl⟩ := slice_shape t9.two
          have hll : ((l.length : Int) != (l.length : Int)) = false := by simp
          have L9 := Lib.hid t9.low
          by_cases hl0 : l = []
          · subst hl0
            clear t9 HG
            go_wp2
            go_loopw [99] (fun i wr => i = .int .i64 0 ∧ wr = w9) (fun _ _ => 0)
            case atStart => exact ⟨rfl, rfl⟩
            case round =>
              obtain ⟨rfl, rfl⟩ := hrel
              go_wp2
              go_ret
              exact ⟨rfl, L9.out⟩
          · rcases t9.one.cases with ⟨_, e⟩ | ⟨g1, cap1, cur1, e1, _⟩
            · exact absurd e hl0
            rcases t9.two.cases with ⟨_, e⟩ | ⟨g2, cap2, cur2, e2, _⟩
            · exact absurd e hl0
            cases e1
            cases e2
            have T1 := Lib.hid t9.one.both
            have T2 := Lib.hid t9.two.both
            clear t9 hl0
            have hlen := HG.out.len
            go_wp2
            go_loopw [99] (RelY w9 l) (fun i _ => l.length - (intOf i).toNat)
            case atStart => exact ⟨0, 0, Nat.zero_le _, rfl, rfl⟩
            case round =>
              obtain ⟨k, n, hk, rfl, rfl⟩ := hrel
              by_cases hlt : k < l.length
              · obtain ⟨z, hx⟩ := get_some hlt
                obtain ⟨e1, e2⟩ := T1.out k z hx
                obtain ⟨e3, e4⟩ := T2.out k z hx
                have p1 : (0 : Int) ≤ (k : Int) := by omega
                have p2 : (k : Int) < (l.length : Int) := by omega
                have hxx : (z.1.toList == z.1.toList) = true := by simp
                have hyy : (z.2 == z.2) = true := by simp
                clear hx
                go_wp2
                go_region
                go_wp2
                go_roundw
                case rel => exact ⟨k + 1, n + 1, hlt, by go_num, rfl⟩
                case measure => simp [intOf]; omega
              · obtain rfl : k = l.length := by omega
                go_wp2
                go_ret
                exact ⟨rfl, below_drewN L9.out n⟩

      · obtain ⟨f1, f2⟩ := put_there (n := node) HG.out hh
        rw [f2] at k3
        have C5 := Lib.hid (getK k3 HG.out (by omega) name)
        rw [hh] at C5
        clear k3 f2
        rw [f1]
        have hll : ((l.length : Int) == (l.length : Int)) = true := by simp
        have hnn : (getN name l == getN name l) = true := by simp
        generalize getN name l = gn at C5 hnn
        go_wp2_with fail
        refine C5.out.mono ?_
        rintro e w5 ⟨rfl, k5⟩
        have C6 := Lib.hid (lenK k5)
        have L5 := Lib.hid k5.mine.low
        clear k5 C5
        go_wp2_with (go_at_call 10; refine C6.out.mono ?_; rintro e w' ⟨rfl, rfl⟩)
        go_ret
        exact ⟨rfl, L5.out⟩

theorem back5 (v0 : Value) (ns : List ByteArray) (name : ByteArray) (node : Int) (w : World) (h : Strs w v0 ns) (hz : ∀ s ∈ ns, s.size ≤ maxLen) :
    Calls Try.prog 5 #[v0, .string name, .int .i64 node] w fun e w' => e = .returned (.bool true) ∧ Below w.heap.size w w' := by
  by_cases h1 : 60 < ns.length ∨ 500 < name.size
  · exact back5_early v0 ns name node w h h1
  · exact back5_main v0 ns name node w h hz (by omega) (by omega)
end Go.Proofs.Ytpkffkdojgpmhaa
