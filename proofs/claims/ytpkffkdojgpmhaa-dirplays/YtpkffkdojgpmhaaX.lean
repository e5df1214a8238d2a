/- DirOrders, walked. Conditions: the names that came in fit an int. -/
import Derived.Test.YtpkffkdojgpmhaaW
namespace Go.Proofs.Ytpkffkdojgpmhaa
open Go.RowKit Go.PlainAid
set_option linter.unusedSimpArgs false

def RelO (Da Db r : Nat) (ns : List ByteArray) (w : World) (i : Value) (wr : World) : Prop := ∃ (k : Nat) (va vb : Value) (la lb : List En), k ≤ ns.length ∧ i = .int .i64 k ∧ Pair Da Db va vb la lb w wr ∧ Good la k ∧ Good lb k ∧ Sevens la (SA ns k) ∧ Sevens lb (SB ns r k)

set_option maxHeartbeats 1000000 in
set_option maxRecDepth 100000 in
theorem ord4_early (v0 : Value) (ns : List ByteArray) (t : Int) (w : World) (h : Strs w v0 ns) (hx : ns.length < 1 ∨ 60 < ns.length ∨ t < 0) :
    Calls Try.prog 4 #[v0, .int .i64 t] w fun e w' => e = .returned (.bool true) ∧ Below w.heap.size w w' := by
  have A := Lib.hid (anchor6 w)
  obtain ⟨a, c, rfl⟩ := strs_shape h
  clear h
  by_cases h0 : ns.length < 1
  · have h2 : (ns.length : Int) < 1 := by omega
    go_enter Try.func4, Try.ntmps4
    go_wp2_with (go_at_call 6; refine A.out.mono ?_; rintro e w1 ⟨rfl, hb⟩; have HB := Lib.hid hb; clear hb)
    go_ret
    exact ⟨rfl, Hid.out (by assumption)⟩
  have h2 : ¬ ((ns.length : Int) < 1) := by omega
  by_cases h1 : 60 < ns.length
  · have h3 : (60 : Int) < (ns.length : Int) := by omega
    go_enter Try.func4, Try.ntmps4
    go_wp2_with (go_at_call 6; refine A.out.mono ?_; rintro e w1 ⟨rfl, hb⟩; have HB := Lib.hid hb; clear hb)
    go_ret
    exact ⟨rfl, Hid.out (by assumption)⟩
  · have h3 : ¬ ((60 : Int) < (ns.length : Int)) := by omega
    have h4 : t < 0 := by omega
    clear hx
    go_enter Try.func4, Try.ntmps4
    go_wp2_with (go_at_call 6; refine A.out.mono ?_; rintro e w1 ⟨rfl, hb⟩; have HB := Lib.hid hb; clear hb)
    go_ret
    exact ⟨rfl, Hid.out (by assumption)⟩

set_option maxHeartbeats 2000000 in
set_option maxRecDepth 100000 in
theorem ord4_main (b off c : Nat) (ns : List ByteArray) (t : Nat) (w : World) (hcell : ∀ (i : Nat) (s : ByteArray), ns[i]? = some s → w.cell? ⟨b, off + i, none⟩ = some (.string s)) (hz : ∀ s ∈ ns, s.size ≤ maxLen)
    (h1 : 1 ≤ ns.length) (h60 : ns.length ≤ 60) (ht : (t : Int) ≤ 9223372036854775807) :
    Calls Try.prog 4 #[.slice (some ⟨b, off, none⟩) ns.length c, .int .i64 t] w fun e w' => e = .returned (.bool true) ∧ Below w.heap.size w w' := by
  have A := Lib.hid (anchor6 w)
  have HZ := Lib.hid hz
  have HC := Lib.hid hcell
  have q1 : ¬ ((ns.length : Int) < 1) := by omega
  have q2 : ¬ ((60 : Int) < (ns.length : Int)) := by omega
  have q3 : ¬ ((t : Int) < 0) := by omega
  have hr : t % ns.length < ns.length := Nat.mod_lt _ h1
  clear hcell hz
  go_enter Try.func4, Try.ntmps4
  go_wp2_with fail
  refine A.out.mono ?_
  rintro e w1 ⟨rfl, hb⟩
  have M0 := Lib.hid (pair_new hb)
  clear hb
  go_wp2
  go_loopw [27] (RelO w1.heap.size (w1.heap.size + 1) (t % ns.length) ns w) (fun i _ => ns.length - (intOf i).toNat)
  case atStart => exact ⟨0, _, _, [], [], Nat.zero_le _, rfl, M0.out, good_nil, good_nil, sevens_nil.congr (fun y => by unfold SA; simp), sevens_nil.congr (fun y => by unfold SB; simp)⟩
  case round =>
    clear M0
    obtain ⟨k, va, vb, la, lb, hk, rfl, hp, ga, gb, sa, sb⟩ := hrel
    have GA := Lib.hid ga
    have GB := Lib.hid gb
    have SA' := Lib.hid sa
    have SB' := Lib.hid sb
    by_cases hlt : k < ns.length
    · obtain ⟨s, hs⟩ := get_some hlt
      obtain ⟨s2, hs2⟩ := get_some (l := ns) (k := (k + t % ns.length) % ns.length) (Nat.mod_lt _ h1)
      have x0 := strs_cell hp.a.low HC.out hs
      have C := Lib.hid (putA hp ga (by omega) s 7 (HZ.out s (List.mem_of_getElem? hs)))
      have C2 := Lib.hid (fun va' la' wr' (hp' : Pair w1.heap.size (w1.heap.size + 1) va' vb la' lb w wr') => putB hp' gb (by omega) s2 7 (HZ.out s2 (List.mem_of_getElem? hs2)))
      have L := Lib.hid hp.a.low
      have HS := Lib.hid hs
      have HS2 := Lib.hid hs2
      generalize putE s la = er at C
      generalize putE s2 lb = er2 at C2
      clear hp ga gb sa sb hs hs2
      by_cases h5 : 500 < s.size
      · have h6 : (500 : Int) < (s.size : Int) := by omega
        go_wp2
        go_ret
        exact ⟨rfl, L.out⟩
      · have h6 : ¬ ((500 : Int) < (s.size : Int)) := by omega
        go_wp2_with fail
        refine C.out.mono ?_
        rintro e w2 ⟨rfl, va', hp2⟩
        have x1 := strs_cell hp2.a.low HC.out HS2.out
        rw [Nat.add_mod_mod] at x1
        have p1 : (0 : Int) ≤ ((k : Int) + (t : Int)) % (ns.length : Int) := Int.emod_nonneg _ (by omega)
        have p2 : ((k : Int) + (t : Int)) % (ns.length : Int) < (ns.length : Int) := Int.emod_lt_of_pos _ (by omega)
        have C3 := Lib.hid (C2.out _ _ _ hp2)
        clear hp2 x0 C C2
        go_wp2_with fail
        refine C3.out.mono ?_
        rintro e w3 ⟨rfl, vb', hp3⟩
        have HP3 := Lib.hid hp3
        clear hp3 x1 C3
        go_wp2
        go_roundw
        case rel => exact ⟨k + 1, va', vb', _, _, hlt, by go_num, HP3.out, GA.out.put s 7, GB.out.put s2 7, (SA'.out.put s).congr (SA_succ HS.out), (SB'.out.put s2).congr (SB_succ HS2.out)⟩
        case measure => simp [intOf]; omega
    · obtain rfl : k = ns.length := by omega
      have e := both_same hr ga gb sa sb
      subst e
      have C1 := Lib.hid (listA hp ga (by omega))
      clear hp gb sa sb GB SA' SB'
      go_wp2_with fail
      refine C1.out.mono ?_
      rintro e w2 ⟨x, rfl, r1, m1⟩
      obtain ⟨ax, cx, rfl⟩ := slice_shape r1
      have C2 := Lib.hid (listB m1 r1 ga (by omega))
      clear r1 m1 C1 ga
      go_wp2_with fail
      refine C2.out.mono ?_
      rintro e w9 ⟨y, rfl, t9⟩
      obtain ⟨ay, cy, rfl⟩ := slice_shape t9.two
      have hll : ((la.length : Int) != (la.length : Int)) = false := by simp
      have L9 := Lib.hid t9.low
      by_cases hl0 : la = []
      · subst hl0
        clear t9 GA C2
        go_wp2
        go_loopw [64] (fun i wr => i = .int .i64 0 ∧ wr = w9) (fun _ _ => 0)
        case atStart => exact ⟨rfl, rfl⟩
        case round =>
          obtain ⟨rfl, rfl⟩ := hrel
          go_wp2
          go_ret
          exact ⟨rfl, L9.out⟩
      · rcases t9.one.cases with ⟨_, e⟩ | ⟨g1, cap1, cur1, e1, _⟩
        · exact absurd e hl0
        rcases t9.two.cases with ⟨_, e⟩ | ⟨g2, cap2, cur2, e2, _⟩
        · exact absurd e hl0
        cases e1
        cases e2
        have T1 := Lib.hid t9.one.both
        have T2 := Lib.hid t9.two.both
        have hlen := GA.out.len
        have HR := Lib.hid GA.out.rise
        clear t9 hl0 C2 GA
        go_wp2
        go_loopw [64] (RelY w9 la) (fun i _ => la.length - (intOf i).toNat)
        case atStart => exact ⟨0, 0, Nat.zero_le _, rfl, rfl⟩
        case round =>
          obtain ⟨k, n, hk, rfl, rfl⟩ := hrel
          by_cases hlt : k < la.length
          · obtain ⟨z, hx⟩ := get_some hlt
            obtain ⟨e1, e2⟩ := T1.out k z hx
            obtain ⟨e3, e4⟩ := T2.out k z hx
            have p1 : (0 : Int) ≤ (k : Int) := by omega
            have p2 : (k : Int) < (la.length : Int) := by omega
            have hxx : (z.1.toList == z.1.toList) = true := by simp
            have hyy : (z.2 == z.2) = true := by simp
            match k with
            | 0 =>
              clear hx
              simp only [Nat.zero_mul, Nat.zero_add] at e1 e2 e3 e4
              go_wp2
              go_region
              go_wp2
              go_roundw
              case rel => exact ⟨1, n + 1, hlt, rfl, rfl⟩
              case measure => simp [intOf]; omega
            | k + 1 =>
              obtain ⟨y, hy⟩ := get_some (l := la) (k := k) (by omega)
              obtain ⟨f1, f2⟩ := T1.out k y hy
              have hless : Op.bytesLess y.1.toList z.1.toList = true := by
                obtain ⟨h1, rfl⟩ := List.getElem?_eq_some_iff.1 hx
                obtain ⟨h2, rfl⟩ := List.getElem?_eq_some_iff.1 hy
                exact List.pairwise_iff_getElem.1 HR.out k (k + 1) h2 h1 (by omega)
              clear hx hy
              go_wp2
              go_region
              go_wp2
              go_roundw
              case rel => exact ⟨k + 2, n + 1, hlt, by go_num, rfl⟩
              case measure => simp [intOf]; omega
          · obtain rfl : k = la.length := by omega
            go_wp2
            go_ret
            exact ⟨rfl, below_drewN L9.out n⟩
end Go.Proofs.Ytpkffkdojgpmhaa
