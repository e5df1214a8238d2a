/- The contracts of the document's From and of the comparison of two lists; where the entries stand that begin with a text. Conditions: at most 1000 entries. -/
import Derived.Test.YtpkffkdojgpmhaaL
namespace Go.Proofs.Ytpkffkdojgpmhaa
open Go.RowKit Go.PlainAid
set_option linter.unusedSimpArgs false

/-- Those that begin with a text. -/
def flt (h : ByteArray) (l : List En) : List En := l.filter fun x => preB x.1 h
theorem flt_hit {h : ByteArray} {l : List En} {k : Nat} {x : En} (hx : l[k]? = some x) (hp : preB x.1 h = true) : flt h (l.take k) ++ [x] = flt h (l.take (k + 1)) := by
  unfold flt; rw [take_succ hx, List.filter_append]; simp [hp]
theorem flt_miss {h : ByteArray} {l : List En} {k : Nat} {x : En} (hx : l[k]? = some x) (hp : preB x.1 h = false) : flt h (l.take k) = flt h (l.take (k + 1)) := by
  unfold flt; rw [take_succ hx, List.filter_append]; simp [hp]
theorem flt_le (h : ByteArray) (l : List En) (k : Nat) : (flt h (l.take k)).length ≤ l.length := by
  have := List.length_filter_le (fun x : En => preB x.1 h) (l.take k)
  have := List.length_take_le k l
  have := List.length_take_le' k l
  unfold flt; omega
def RelW (h : ByteArray) (l : List En) (w : World) (v i : Value) (wr : World) : Prop := ∃ k : Nat, k ≤ l.length ∧ i = .int .i64 k ∧ Row 34 w.heap.size v (flt h (l.take k)) wr ∧ Below w.heap.size w wr

set_option maxHeartbeats 1000000 in
set_option maxRecDepth 100000 in
theorem rfrom15 (B : Nat) (u : Value) (l : List En) (h : ByteArray) (w : World) (hu : Row 34 B u l w) (hl : l.length ≤ 1000) :
    Calls Try.prog 15 #[u, .string h] w (Gives 34 w (flt h l)) := by
  obtain ⟨i0, hi0, hz0, hz1, hz2⟩ := info_parts Try.info34
  have H := Lib.hid hu
  rcases hu.cases with ⟨rfl, rfl⟩ | ⟨gv, cap, cur, rfl, _⟩
  · clear hu
    go_enter Try.func15, Try.ntmps15
    go_wp2
    go_loopw [5, 6] (fun v i wr => v = .slice none 0 0 ∧ i = .int .i64 0 ∧ wr = w) (fun _ _ _ => 0)
    case atStart => exact ⟨rfl, rfl, rfl⟩
    case round =>
      obtain ⟨rfl, rfl, rfl⟩ := hrel
      go_wp2
      go_ret
      exact ⟨_, rfl, row_nil _ _ _, Below.refl _ _⟩
  · clear hu
    have HE : Hid (flt h (l.take l.length) = flt h l) := by show _ = _; rw [List.take_length]
    go_enter Try.func15, Try.ntmps15
    go_wp2
    go_loopw [5, 6] (RelW h l w) (fun _ i _ => l.length - (intOf i).toNat)
    case atStart => exact ⟨0, Nat.zero_le _, rfl, by unfold flt; simp; exact row_nil _ _ _, Below.refl _ _⟩
    case round =>
      obtain ⟨k, hk, rfl, ho, hb⟩ := hrel
      have HO := Lib.hid ho
      have HB := Lib.hid hb
      have hlen := flt_le h l k
      obtain ⟨a1, cc1, rfl⟩ := slice_shape ho
      clear ho
      by_cases hlt : k < l.length
      · obtain ⟨x, hx⟩ := get_some hlt
        have c3 := (H.out.below hb).cell0 hx
        have c4 := (H.out.below hb).cell1 hx
        have HX := Lib.hid hx
        clear hx hb
        by_cases hle : h.size ≤ x.1.size
        · have p1 : (h.size : Int) ≤ (x.1.size : Int) := by omega
          cases he : ((x.1.extract 0 h.size).toList == h.toList)
          · have HA := Lib.hid (flt_miss HX.out (show preB x.1 h = false by unfold preB; rw [he, Bool.and_false]))
            go_wp2
            go_roundw
            case rel => exact ⟨k + 1, hlt, by go_num, by rw [← HA.out]; exact HO.out, HB.out⟩
            case measure => simp [intOf]; omega
          · have HA := Lib.hid (flt_hit HX.out (show preB x.1 h = true by unfold preB; rw [he, decide_eq_true hle]; rfl))
            generalize flt h (l.take k) = acc at HO hlen HA
            go_wp2_with (at_builtin; refine wpList_append_own _ rfl _ _ 27 rfl w.heap.size 34 i0 (.agg #[.string ⟨#[]⟩, .int .i64 0]) 2 24 Try.underlying27 hi0 hz0 hz1 hz2 rfl (by decide) _ _ _ rfl (World.ownsRow.alloc HO.out _) ⟨wr.heap.size, 0, none⟩ 1 1 (cs [x]) rfl rfl (new_two (heap_alloc_new wr _)) (cs_one _) (by unfold maxLen; omega) (by omega) (by have := HB.out.size; simp; omega) ?_)
            intro v' w2 r1 r2 _
            have P := Lib.hid (row_push HO.out HB.out r1 r2)
            obtain ⟨a', c', rfl⟩ := slice_shape r1
            clear r1 r2
            go_wp2
            go_roundw
            case rel => exact ⟨k + 1, hlt, by go_num, by rw [← HA.out]; exact P.out.1, P.out.2⟩
            case measure => simp [intOf]; omega
        · have p1 : ¬ ((h.size : Int) ≤ (x.1.size : Int)) := by omega
          have HA := Lib.hid (flt_miss HX.out (show preB x.1 h = false by unfold preB; rw [decide_eq_false hle, Bool.false_and]))
          go_wp2
          go_roundw
          case rel => exact ⟨k + 1, hlt, by go_num, by rw [← HA.out]; exact HO.out, HB.out⟩
          case measure => simp [intOf]; omega
      · obtain rfl : k = l.length := by omega
        clear hb
        go_wp2
        go_ret
        exact ⟨_, rfl, by rw [← HE.out]; exact HO.out, HB.out⟩

def RelE (w : World) (l : List En) (i : Value) (wr : World) : Prop := ∃ (k n : Nat), k ≤ l.length ∧ i = .int .i64 k ∧ wr = w.drewN n

set_option maxHeartbeats 1000000 in
set_option maxRecDepth 100000 in
theorem same12_some (g1 g2 c1 c2 : Nat) (l : List En) (w : World) (hlen : l.length ≤ 1000)
    (hc1 : ∀ (j : Nat) (x : En), l[j]? = some x → w.cell? ⟨g1, j * 2, none⟩ = some (.string x.1) ∧ w.cell? ⟨g1, j * 2 + 1, none⟩ = some (.int .i64 x.2))
    (hc2 : ∀ (j : Nat) (x : En), l[j]? = some x → w.cell? ⟨g2, j * 2, none⟩ = some (.string x.1) ∧ w.cell? ⟨g2, j * 2 + 1, none⟩ = some (.int .i64 x.2)) :
    Calls Try.prog 12 #[.slice (some ⟨g1, 0, none⟩) l.length c1, .slice (some ⟨g2, 0, none⟩) l.length c2] w fun e w' => e = .returned (.bool true) ∧ ∃ n, w' = w.drewN n := by
  have HC1 := Lib.hid hc1
  have HC2 := Lib.hid hc2
  clear hc1 hc2
  have hll : ((l.length : Int) != (l.length : Int)) = false := by simp
  go_enter Try.func12, Try.ntmps12
  go_wp2
  go_loopw [13] (RelE w l) (fun i _ => l.length - (intOf i).toNat)
  case atStart => exact ⟨0, 0, Nat.zero_le _, rfl, rfl⟩
  case round =>
    obtain ⟨k, n, hk, rfl, rfl⟩ := hrel
    by_cases hlt : k < l.length
    · obtain ⟨x, hx⟩ := get_some hlt
      obtain ⟨e1, e2⟩ := HC1.out k x hx
      obtain ⟨e3, e4⟩ := HC2.out k x hx
      have p1 : (0 : Int) ≤ (k : Int) := by omega
      have p2 : (k : Int) < (l.length : Int) := by omega
      have hxx : (x.1.toList == x.1.toList) = true := by simp
      have hyy : (x.2 == x.2) = true := by simp
      clear hx
      go_wp2
      go_region
      go_wp2
      go_roundw
      case rel => exact ⟨k + 1, n + 1, hlt, by go_num, rfl⟩
      case measure => simp [intOf]; omega
    · obtain rfl : k = l.length := by omega
      go_wp2
      go_ret
      exact ⟨rfl, n, rfl⟩

set_option maxHeartbeats 1000000 in
set_option maxRecDepth 100000 in
theorem same12_nil (a b : Option Addr) (c d : Nat) (w : World) : Calls Try.prog 12 #[.slice a 0 c, .slice b 0 d] w fun e w' => e = .returned (.bool true) ∧ w = w' := by
  go_enter Try.func12, Try.ntmps12
  go_wp2
  go_loopw [13] (fun i wr => i = .int .i64 0 ∧ wr = w) (fun _ _ => 0)
  case atStart => exact ⟨rfl, rfl⟩
  case round =>
    obtain ⟨rfl, rfl⟩ := hrel
    go_wp2
    go_ret
    exact ⟨rfl, rfl⟩
theorem Row.both {e B gv n cap : Nat} {l : List En} {w : World} (h : Row e B (.slice (some ⟨gv, 0, none⟩) n cap) l w) : ∀ (j : Nat) (x : En), l[j]? = some x → w.cell? ⟨gv, j * 2, none⟩ = some (.string x.1) ∧ w.cell? ⟨gv, j * 2 + 1, none⟩ = some (.int .i64 x.2) :=
  fun _ _ hx => ⟨h.cell0 hx, h.cell1 hx⟩
theorem same12 {B B' : Nat} {v u : Value} {l : List En} {w : World} (h1 : Row 47 B v l w) (h2 : Row 34 B' u l w) (hl : l.length ≤ 1000) : Calls Try.prog 12 #[v, u] w fun e w' => e = .returned (.bool true) ∧ Below w.heap.size w w' := by
  rcases h1.cases with ⟨rfl, rfl⟩ | ⟨g1, cap1, cur1, rfl, _⟩
  · obtain ⟨a, c, rfl⟩ := slice_shape h2
    exact (same12_nil _ _ _ _ w).mono fun _ _ ⟨he, hw⟩ => ⟨he, hw ▸ Below.refl _ _⟩
  · rcases h2.cases with ⟨rfl, rfl⟩ | ⟨g2, cap2, cur2, rfl, _⟩
    · exact (same12_nil _ _ _ _ w).mono fun _ _ ⟨he, hw⟩ => ⟨he, hw ▸ Below.refl _ _⟩
    · exact (same12_some g1 g2 cap1 cap2 l w hl h1.both h2.both).mono fun _ _ ⟨he, n, hw⟩ => ⟨he, hw ▸ below_drewN (Below.refl _ _) n⟩

/-! Where the entries stand that begin with a text. -/
theorem less_pre : ∀ h t, Op.bytesLess (h ++ t) h = false
  | [], t => by cases t <;> rfl
  | a :: h, t => by simp [Op.bytesLess, less_pre h t]
theorem pre_up : ∀ h y t, Op.bytesLess y h = false → Op.bytesLess y (h ++ t) = true → ∃ t', y = h ++ t'
  | [], y, _, _, _ => ⟨y, rfl⟩
  | a :: h, [], t, h1, _ => by simp [Op.bytesLess] at h1
  | a :: h, b :: y, t, h1, h2 => by
    simp only [Op.bytesLess, List.cons_append, Bool.or_eq_true, Bool.or_eq_false_iff, decide_eq_true_eq, decide_eq_false_iff_not, Bool.and_eq_true, Bool.and_eq_false_imp, beq_iff_eq] at h1 h2
    rcases h2 with h2 | ⟨rfl, h2⟩
    · exact absurd h2 h1.1
    · obtain ⟨t', rfl⟩ := pre_up h y t (h1.2 rfl) h2
      exact ⟨t', rfl⟩
theorem preB_iff (s h : ByteArray) : preB s h = true ↔ ∃ t, s.toList = h.toList ++ t := by
  unfold preB
  rw [Bool.and_eq_true, decide_eq_true_eq, beq_iff_eq, ByteArray.toList_eq, ByteArray.toList_eq, ByteArray.toList_eq]
  have e : (s.extract 0 h.size).data.toList = s.data.toList.take h.size := by simp
  have hl : h.data.toList.length = h.size := rfl
  have sl : s.data.toList.length = s.size := rfl
  rw [e]
  constructor
  · rintro ⟨_, h2⟩
    exact ⟨s.data.toList.drop h.size, by rw [← h2, List.take_append_drop]⟩
  · rintro ⟨t, ht⟩
    refine ⟨?_, ?_⟩
    · have := congrArg List.length ht
      rw [List.length_append, hl, sl] at this; omega
    · rw [ht, ← hl, List.take_left]
theorem pre_not_less {s h : ByteArray} (hp : preB s h = true) : bl s h = false := by
  obtain ⟨t, ht⟩ := (preB_iff s h).1 hp
  unfold bl; rw [ht]; exact less_pre _ _
theorem pre_between {s y h : ByteArray} (hp : preB s h = true) (h1 : bl y h = false) (h2 : bl y s = true) : preB y h = true := by
  obtain ⟨t, ht⟩ := (preB_iff s h).1 hp
  unfold bl at h1 h2; rw [ht] at h2
  exact (preB_iff y h).2 (pre_up _ _ _ h1 h2)
theorem flt_while (h : ByteArray) : ∀ l : List En, Rising l → (∀ x ∈ l, bl x.1 h = false) → flt h l = l.takeWhile fun x => preB x.1 h
  | [], _, _ => rfl
  | y :: l, hr, hb => by
    have hr' := List.pairwise_cons.1 hr
    cases e : preB y.1 h
    · have : flt h l = [] := by
        unfold flt
        rw [List.filter_eq_nil_iff]
        intro z hz hp
        have := pre_between hp (hb y (by simp)) (hr'.1 z hz)
        rw [e] at this; cases this
      unfold flt at this ⊢
      rw [List.filter_cons, List.takeWhile_cons]; simp [e, this]
    · have := flt_while h l hr'.2 (fun x hx => hb x (by simp [hx]))
      unfold flt at this ⊢
      rw [List.filter_cons, List.takeWhile_cons]; simp [e, this]
theorem flt_frm (h : ByteArray) : ∀ l : List En, Rising l → flt h l = frm h l (pos h l)
  | [], _ => rfl
  | y :: l, hr => by
    have hr' := List.pairwise_cons.1 hr
    cases e : bl y.1 h
    · have hp : pos h (y :: l) = 0 := by unfold pos; rw [e]; rfl
      rw [hp]
      unfold frm
      rw [List.drop_zero]
      refine flt_while h _ hr fun x hx => ?_
      rcases List.mem_cons.1 hx with rfl | hx
      · exact e
      · cases e2 : bl x.1 h
        · rfl
        · rw [bl_trans (hr'.1 x hx) e2] at e; cases e
    · have hp : pos h (y :: l) = pos h l + 1 := by rw [pos]; simp [e]
      have hn : preB y.1 h = false := by
        cases e2 : preB y.1 h
        · rfl
        · rw [pre_not_less e2] at e; cases e
      have := flt_frm h l hr'.2
      unfold flt frm at this ⊢
      rw [hp, List.drop_succ_cons, List.filter_cons]; simp [hn, this]
end Go.Proofs.Ytpkffkdojgpmhaa
