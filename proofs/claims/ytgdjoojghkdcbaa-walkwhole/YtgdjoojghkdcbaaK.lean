/- The contracts of the document's Find and Put. Conditions: the entries stand by rising names, at most 1000. -/
import Derived.Test.YtgdjoojghkdcbaaI
namespace Go.Proofs.Ytgdjoojghkdcbaa
open Go.RowKit Go.PlainAid
set_option linter.unusedSimpArgs false

theorem Try.info85 : (Try.prog.info? 85).map (fun i => (i.zero, i.size, i.bytes)) = some (some (.agg #[.string ⟨#[]⟩, .int .i64 0]), 2, 24) := by kernel_rfl

/-- The place of a name; -1: it isn't there. -/
def findI (s : ByteArray) (l : List En) : Int := if hasN s l = true then (pos s l : Int) else -1
theorem row_push {e : Nat} {w wr w1 : World} {acc : List En} {v v' : Value} {x : En} {o : Obj} (h0 : Row e w.heap.size v acc wr) (hb : Below w.heap.size w wr)
    (hown : w1.ownsRow w.heap.size e 2 v' (acc.length + 1) (cs acc ++ cs [x])) (hg : (wr.alloc o).grownBy w1 v.ownBlock) : Row e w.heap.size v' (acc ++ [x]) w1 ∧ Below w.heap.size w w1 := by
  refine ⟨?_, (hb.alloc hb.size o).grown hg (by simp; have := hb.size; omega) (fun j hj => (World.ownsRow.lt h0 j hj).1)⟩
  unfold Row
  rw [List.length_append, cs_app]
  exact hown

theorem find_hit {s : ByteArray} {l : List En} (hr : Rising l) {k : Nat} {x : En} (hx : l[k]? = some x) (e : x.1 = s) : pos s l = k ∧ hasN s l = true := by
  have h1 := pos_lt s l hr k x hx
  rw [e, bl_irrefl] at h1
  have h2 : ¬ k < pos s l := of_decide_eq_false h1.symm
  refine ⟨?_, hasN_true hr (List.mem_of_getElem? hx) e⟩
  by_cases h3 : pos s l < k
  · have := pos_ge hr hx h3
    rw [e, bl_irrefl] at this; cases this
  · omega

def RelF (s : ByteArray) (l : List En) (i : Value) : Prop := ∃ k : Nat, k ≤ l.length ∧ i = .int .i64 k ∧ ∀ (j : Nat) (x : En), j < k → l[j]? = some x → x.1 ≠ s

set_option maxHeartbeats 2000000 in
set_option maxRecDepth 100000 in
theorem find9 (B : Nat) (u : Value) (l : List En) (s : ByteArray) (w : World) (h : Row 85 B u l w) (hr : Rising l) (hl : l.length ≤ 1000) :
    Calls Try.prog 75 #[u, .string s] w fun e w' => e = .returned (.int .i64 (findI s l)) ∧ w = w' := by
  have hhit : ∀ (k : Nat) (x : En), l[k]? = some x → x.1 = s → findI s l = k := by
    intro k x hx e
    obtain ⟨h1, h2⟩ := find_hit hr hx e
    unfold findI; rw [if_pos h2, h1]
  have hmiss : (∀ (j : Nat) (x : En), j < l.length → l[j]? = some x → x.1 ≠ s) → findI s l = -1 := by
    intro hh
    unfold findI
    cases e : hasN s l
    · rfl
    · obtain ⟨n, hn⟩ := hasN_some e
      exact absurd rfl (hh _ _ (List.getElem?_eq_some_iff.1 hn).1 hn)
  generalize findI s l = r at hhit hmiss ⊢
  have HH := Lib.hid hhit
  have HM := Lib.hid hmiss
  have H := Lib.hid h
  clear hr hhit hmiss
  rcases h.cases with ⟨rfl, rfl⟩ | ⟨gv, cap, cur, rfl, _⟩
  · clear h
    go_enter Try.func75, Try.ntmps75
    go_wp2
    go_loop [5] (RelF s []) (fun _ => 0)
    case atStart => exact ⟨0, Nat.le_refl _, rfl, fun j x hj => by omega⟩
    case round =>
      obtain ⟨k, hk, rfl, hn⟩ := hrel
      have HN := Lib.hid hn
      clear hn
      simp at hk
      subst hk
      go_wp2
      go_ret
      rw [HM.out (fun j x hj => by simp at hj)]
      exact ⟨rfl, rfl⟩
  · clear h
    go_enter Try.func75, Try.ntmps75
    go_wp2
    go_loop [5] (RelF s l) (fun i => l.length - (intOf i).toNat)
    case atStart => exact ⟨0, Nat.zero_le _, rfl, fun j x hj => by omega⟩
    case round =>
      obtain ⟨k, hk, rfl, hn⟩ := hrel
      have HN := Lib.hid hn
      clear hn
      by_cases hlt : k < l.length
      · obtain ⟨x, hx⟩ := get_some hlt
        have c3 := H.out.cell0 hx
        have HX := Lib.hid hx
        clear hx
        cases hc : (x.1.toList == s.toList)
        · have HC : Hid (x.1 ≠ s) := fun e => by rw [e] at hc; simp at hc
          go_wp2
          go_round
          case rel => exact ⟨k + 1, hlt, by go_num, fun j y hj hy => by
            by_cases e : j = k
            · subst e; have := HX.out; rw [hy] at this; cases this; exact HC.out
            · exact HN.out j y (by omega) hy⟩
          case measure => simp [intOf]; omega
        · have HC := Lib.hid (HH.out k x HX.out (toList_inj (by simpa using hc)))
          go_wp2
          go_ret
          rw [HC.out]
          exact ⟨rfl, rfl⟩
      · obtain rfl : k = l.length := by omega
        have HC := Lib.hid (HM.out HN.out)
        go_wp2
        go_ret
        rw [HC.out]
        exact ⟨rfl, rfl⟩

/-- The document's call returns these entries, and an error. -/
def Told (B : Nat) (w : World) (err : Int) (l : List En) (e : Ending) (w' : World) : Prop := ∃ u, e = .returned (.tuple #[u, .int .i64 err]) ∧ Row 85 B u l w' ∧ Below w.heap.size w w'

/-- What stands ahead of a name among the first k; then the name, and what stands behind it. -/
def outA (s : ByteArray) (l : List En) (k : Nat) : List En := l.take (min k (pos s l))
def outB (s : ByteArray) (n : Int) (l : List En) (k : Nat) : List En := l.take (pos s l) ++ (s, n) :: (l.take k).drop (pos s l)
theorem outA_hit {s : ByteArray} {l : List En} {k : Nat} {x : En} (hx : l[k]? = some x) (hk : k < pos s l) : outA s l k ++ [x] = outA s l (k + 1) := by
  unfold outA; rw [Nat.min_eq_left (by omega), Nat.min_eq_left (by omega), take_succ hx]
theorem outA_miss {s : ByteArray} {l : List En} {k : Nat} (hk : ¬ k < pos s l) : outA s l k = outA s l (k + 1) := by
  unfold outA; rw [Nat.min_eq_right (by omega), Nat.min_eq_right (by omega)]
theorem outB_hit {s : ByteArray} {n : Int} {l : List En} {k : Nat} {x : En} (hx : l[k]? = some x) (hk : ¬ k < pos s l) : outB s n l k ++ [x] = outB s n l (k + 1) := by
  have hl := (List.getElem?_eq_some_iff.1 hx).1
  unfold outB
  rw [take_succ hx, List.drop_append_of_le_length (by rw [List.length_take]; omega), List.append_assoc, List.cons_append]
theorem outB_miss {s : ByteArray} {n : Int} {l : List En} {k : Nat} (hk : k < pos s l) : outB s n l k = outB s n l (k + 1) := by
  unfold outB
  rw [List.drop_of_length_le (by rw [List.length_take]; omega), List.drop_of_length_le (by rw [List.length_take]; omega)]
theorem outA_end (s : ByteArray) (l : List En) : outA s l l.length = l.take (pos s l) := by
  unfold outA; rw [Nat.min_eq_right (pos_le s l)]
theorem outB_end (s : ByteArray) (n : Int) (l : List En) : outB s n l l.length = l.take (pos s l) ++ (s, n) :: l.drop (pos s l) := by
  unfold outB; rw [List.take_length]
theorem outB_start (s : ByteArray) (n : Int) (l : List En) : outB s n l 0 = l.take (pos s l) ++ [(s, n)] := by unfold outB; simp
theorem outA_le (s : ByteArray) (l : List En) (k : Nat) : (outA s l k).length ≤ l.length := by unfold outA; rw [List.length_take]; omega
theorem outB_le (s : ByteArray) (n : Int) (l : List En) (k : Nat) : (outB s n l k).length ≤ l.length + 1 := by
  unfold outB
  have := pos_le s l
  simp only [List.length_append, List.length_take, List.length_cons, List.length_drop]; omega

def RelA (s : ByteArray) (l : List En) (w : World) (v i : Value) (wr : World) : Prop := ∃ k : Nat, k ≤ l.length ∧ i = .int .i64 k ∧ Row 85 w.heap.size v (outA s l k) wr ∧ Below w.heap.size w wr
def RelB (s : ByteArray) (n : Int) (l : List En) (w : World) (v i : Value) (wr : World) : Prop := ∃ k : Nat, k ≤ l.length ∧ i = .int .i64 k ∧ Row 85 w.heap.size v (outB s n l k) wr ∧ Below w.heap.size w wr

set_option maxHeartbeats 4000000 in
set_option maxRecDepth 100000 in
/-- A name that is new, into a list that is not nil. -/
theorem rput18_new (B gv cap : Nat) (l : List En) (s : ByteArray) (n : Int) (w : World) (h : Row 85 B (.slice (some ⟨gv, 0, none⟩) l.length cap) l w) (hr : Rising l) (hl : l.length ≤ 1000) (hs : s.size ≤ 255) (hB : B ≤ w.heap.size)
    (h2 : nameB s = true) (h3 : hasN s l = false) :
    Calls Try.prog 46 #[.slice (some ⟨gv, 0, none⟩) l.length cap, .string s, .int .i64 n] w (Told B w 0 (l.take (pos s l) ++ (s, n) :: l.drop (pos s l))) := by
  obtain ⟨i0, hi0, hz0, hz1, hz2⟩ := info_parts Try.info85
  have CN := Lib.hid (fun w => name28 s w (by unfold maxLen; omega))
  rw [h2] at CN
  have CF := Lib.hid (find9 B _ l s w h hr hl)
  rw [show findI s l = -1 by unfold findI; rw [h3]; rfl] at CF
  have H := Lib.hid h
  have HP := Lib.hid (pos_lt s l hr)
  have HNO := Lib.hid (hasN_false hr h3)
  have HE : Hid (∀ u w', Row 85 w.heap.size u (outB s n l l.length) w' → Below w.heap.size w w' → Told B w 0 (l.take (pos s l) ++ (s, n) :: l.drop (pos s l)) (.returned (.tuple #[u, .int .i64 0])) w') := by
    intro u w' a1 a2
    rw [outB_end] at a1
    exact ⟨u, rfl, a1.mono hB, a2⟩
  clear h hr h2 h3
  go_enter Try.func46, Try.ntmps46
  go_wp2_with (first | (go_at_call 74; refine (CN.out _).mono ?_; rintro e w' ⟨rfl, rfl⟩) | (go_at_call 75; refine CF.out.mono ?_; rintro e w' ⟨rfl, rfl⟩))
  go_loopw [8, 9] (RelA s l w) (fun _ i _ => l.length - (intOf i).toNat)
  case atStart => exact ⟨0, Nat.zero_le _, rfl, by unfold outA; simp; exact row_nil _ _ _, Below.refl _ _⟩
  case round =>
    obtain ⟨k, hk, rfl, ho, hb⟩ := hrel
    have HO := Lib.hid ho
    have HB := Lib.hid hb
    have hlen := outA_le s l k
    obtain ⟨a1, cc1, rfl⟩ := slice_shape ho
    clear ho
    by_cases hlt : k < l.length
    · obtain ⟨x, hx⟩ := get_some hlt
      have c3 := (H.out.below hb).cell0 hx
      have c4 := (H.out.below hb).cell1 hx
      have hcm := HP.out k x hx
      have HX := Lib.hid hx
      clear hx hb
      by_cases hkp : k < pos s l
      · have HA := Lib.hid (outA_hit HX.out hkp)
        have hcm2 : Op.bytesLess x.1.toList s.toList = true := by rw [show Op.bytesLess x.1.toList s.toList = bl x.1 s from rfl, hcm]; simpa using hkp
        have HPOS := Lib.hid hkp
        clear hcm hkp
        generalize outA s l k = acc at HO hlen HA
        go_wp2_with (at_builtin; refine wpList_append_own _ rfl _ _ 46 rfl w.heap.size 85 i0 (.agg #[.string ⟨#[]⟩, .int .i64 0]) 2 24 Try.underlying46 hi0 hz0 hz1 hz2 rfl (by decide) _ _ _ rfl (World.ownsRow.alloc HO.out _) ⟨wr.heap.size, 0, none⟩ 1 1 (cs [x]) rfl rfl (new_two (heap_alloc_new wr _)) (cs_one _) (by unfold maxLen; omega) (by omega) (by have := HB.out.size; simp; omega) ?_)
        intro v' w2 r1 r2 _
        have P := Lib.hid (row_push HO.out HB.out r1 r2)
        obtain ⟨a', c', rfl⟩ := slice_shape r1
        clear r1 r2
        go_wp2
        go_roundw
        case rel => exact ⟨k + 1, hlt, by go_num, by rw [← HA.out]; exact P.out.1, P.out.2⟩
        case measure => simp [intOf]; omega
      · have HA := Lib.hid (outA_miss hkp)
        have hcm2 : Op.bytesLess x.1.toList s.toList = false := by rw [show Op.bytesLess x.1.toList s.toList = bl x.1 s from rfl, hcm]; simpa using hkp
        have HPOS := Lib.hid hkp
        clear hcm hkp
        go_wp2
        go_roundw
        case rel => exact ⟨k + 1, hlt, by go_num, by rw [← HA.out]; exact HO.out, HB.out⟩
        case measure => simp [intOf]; omega
    · obtain rfl : k = l.length := by omega
      have HA := Lib.hid (outA_end s l)
      have HS := Lib.hid (outB_start s n l)
      clear hb
      generalize outA s l l.length = acc at HO hlen HA
      go_wp2_with (at_builtin; refine wpList_append_own _ rfl _ _ 46 rfl w.heap.size 85 i0 (.agg #[.string ⟨#[]⟩, .int .i64 0]) 2 24 Try.underlying46 hi0 hz0 hz1 hz2 rfl (by decide) _ _ _ rfl (World.ownsRow.alloc HO.out _) ⟨wr.heap.size, 0, none⟩ 1 1 (cs [(s, n)]) rfl rfl (new_two (heap_alloc_new wr _)) (cs_one _) (by unfold maxLen; omega) (by omega) (by have := HB.out.size; simp; omega) ?_)
      intro v' w2 r1 r2 _
      have P := Lib.hid (row_push HO.out HB.out r1 r2)
      obtain ⟨a', c', rfl⟩ := slice_shape r1
      clear r1 r2 HO HB
      go_wp2
      go_loopw [8, 10] (RelB s n l w) (fun _ i _ => l.length - (intOf i).toNat)
      case atStart => exact ⟨0, Nat.zero_le _, rfl, by rw [HS.out, ← HA.out]; exact P.out.1, P.out.2⟩
      case round =>
        obtain ⟨k, hk, rfl, ho, hb⟩ := hrel
        have HO := Lib.hid ho
        have HB := Lib.hid hb
        have hlen := outB_le s n l k
        obtain ⟨a1, cc1, rfl⟩ := slice_shape ho
        clear ho
        by_cases hlt : k < l.length
        · obtain ⟨x, hx⟩ := get_some hlt
          have c3 := (H.out.below hb).cell0 hx
          have c4 := (H.out.below hb).cell1 hx
          have hcm := HP.out k x hx
          have hne : (x.1.toList == s.toList) = false := by rw [beq_list]; exact decide_eq_false (HNO.out x (List.mem_of_getElem? hx))
          have HX := Lib.hid hx
          clear hx hb
          by_cases hkp : k < pos s l
          · have HA := Lib.hid (outB_miss (n := n) hkp)
            have hcm2 : Op.bytesLess x.1.toList s.toList = true := by rw [show Op.bytesLess x.1.toList s.toList = bl x.1 s from rfl, hcm]; simpa using hkp
            clear hcm hkp
            go_wp2
            go_roundw
            case rel => exact ⟨k + 1, hlt, by go_num, by rw [← HA.out]; exact HO.out, HB.out⟩
            case measure => simp [intOf]; omega
          · have HA := Lib.hid (outB_hit (n := n) HX.out hkp)
            have hcm2 : Op.bytesLess x.1.toList s.toList = false := by rw [show Op.bytesLess x.1.toList s.toList = bl x.1 s from rfl, hcm]; simpa using hkp
            clear hcm hkp
            generalize outB s n l k = acc at HO hlen HA
            go_wp2_with (at_builtin; refine wpList_append_own _ rfl _ _ 46 rfl w.heap.size 85 i0 (.agg #[.string ⟨#[]⟩, .int .i64 0]) 2 24 Try.underlying46 hi0 hz0 hz1 hz2 rfl (by decide) _ _ _ rfl (World.ownsRow.alloc HO.out _) ⟨wr.heap.size, 0, none⟩ 1 1 (cs [x]) rfl rfl (new_two (heap_alloc_new wr _)) (cs_one _) (by unfold maxLen; omega) (by omega) (by have := HB.out.size; simp; omega) ?_)
            intro v' w2 r1 r2 _
            have P := Lib.hid (row_push HO.out HB.out r1 r2)
            obtain ⟨a', c', rfl⟩ := slice_shape r1
            clear r1 r2
            go_wp2
            go_roundw
            case rel => exact ⟨k + 1, hlt, by go_num, by rw [← HA.out]; exact P.out.1, P.out.2⟩
            case measure => simp [intOf]; omega
        · obtain rfl : k = l.length := by omega
          clear hb
          go_wp2
          go_ret2
          exact HE.out _ _ HO.out HB.out
end Go.Proofs.Ytgdjoojghkdcbaa
