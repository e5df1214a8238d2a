/- Contracts of the document's Pieces; of Plain, Parts and the lists' compare. Condition: the text has at most 10000 bytes. -/
import Derived.Test.YthpdmnhopbbnfaaDoorE
namespace Go.Proofs.YthpdmnhopbbnfaaDoor
open Go.RowKit Go.PlainAid
set_option linter.unusedSimpArgs false

set_option maxHeartbeats 2000000 in
set_option maxRecDepth 100000 in
theorem pieces30 (s : ByteArray) (w : World) (hs : s.size ≤ 10000) : Calls Tryd.prog 30 #[.string s] w (GivesL w (pcs s)) := by
  obtain ⟨i0, hi0, hz0, hz1, hz2⟩ := info_parts Tryd.info9
  have hb := get_bt s
  go_enter Tryd.func30, Tryd.ntmps30
  go_wp2
  go_loopw [3, 4, 5] (Rel29 w s) (fun _ _ i _ => s.size - (intOf i).toNat)
  case atStart => exact ⟨0, 0, [], Nat.zero_le _, Nat.le_refl _, rfl, rfl, Nat.le_refl _, own_nil w, Below.refl _ _, rfl⟩
  case round =>
    obtain ⟨k, bg, acc, hk, hbg, rfl, rfl, hal, hown, hbel, hr⟩ := hrel
    have hbs := hbel.size
    have HO := Lib.hid hown
    have HL := Lib.hid hbel
    have HR := Lib.hid hr
    obtain ⟨a, l, c, rfl⟩ := slice_shape hown
    clear hown hbel hr
    by_cases hlt : k < s.size
    · cases hc : (bt s k == 47)
      · have HN := Lib.hid (pcsF_miss s k bg hlt hc)
        go_wp2
        go_roundw
        case rel => exact ⟨k + 1, bg, acc, hlt, by omega, by go_num, rfl, by omega, HO.out, HL.out, by rw [← HN.out]; exact HR.out⟩
        case measure => simp [intOf]; omega
      · have HN := Lib.hid (pcsF_hit s k bg hlt hc)
        go_wp2_with (at_builtin; refine wpList_append_own _ rfl _ _ 25 rfl w.heap.size 9 i0 (.string ⟨#[]⟩) 1 16 Tryd.underlying25 hi0 hz0 hz1 hz2 rfl (by decide) _ _ _ rfl (World.ownsRow.alloc HO.out _) ⟨wr.heap.size, 0, none⟩ 1 1 [.string (s.extract bg k)] rfl rfl ?c1 ?c2 ?c3 ?c4 ?c5 ?_)
        case c1 => exact new_one wr _
        case c2 => intro u hu; simp at hu; subst hu; rfl
        case c3 => unfold maxLen; omega
        case c4 => omega
        case c5 => simp; omega
        · intro v' w1 hown' hgrow _
          have P := Lib.hid (own_push HO.out HL.out hown' hgrow)
          clear hown' hgrow
          go_wp2
          go_roundw
          case rel => exact ⟨k + 1, k + 1, acc ++ [s.extract bg k], hlt, Nat.le_refl _, by go_num, by go_num, by simp; omega, P.out.1, P.out.2, by rw [List.append_assoc, List.singleton_append, ← HN.out]; exact HR.out⟩
          case measure => simp [intOf]; omega
    · obtain rfl : k = s.size := by omega
      have HN := Lib.hid (pcsF_end s s.size bg rfl)
      go_wp2_with (at_builtin; refine wpList_append_own _ rfl _ _ 25 rfl w.heap.size 9 i0 (.string ⟨#[]⟩) 1 16 Tryd.underlying25 hi0 hz0 hz1 hz2 rfl (by decide) _ _ _ rfl (World.ownsRow.alloc HO.out _) ⟨wr.heap.size, 0, none⟩ 1 1 [.string (s.extract bg s.size)] rfl rfl ?d1 ?d2 ?d3 ?d4 ?d5 ?_)
      case d1 => exact new_one wr _
      case d2 => intro u hu; simp at hu; subst hu; rfl
      case d3 => unfold maxLen; omega
      case d4 => omega
      case d5 => simp; omega
      · intro v' w1 hown' hgrow _
        obtain ⟨a', l', c', rfl⟩ := slice_shape hown'
        have P := Lib.hid (own_push HO.out HL.out hown' hgrow)
        clear hown' hgrow
        go_wp2
        go_ret
        exact ⟨_, rfl, by rw [← HR.out, HN.out]; exact P.out.1, P.out.2⟩

/-- A list of texts that can be read. -/
def ListAt (v : Value) (l : List ByteArray) (w : World) : Prop :=
  (v = .slice none 0 0 ∧ l = []) ∨ ∃ g cap, v = .slice (some ⟨g, 0, none⟩) l.length cap ∧ l.length ≤ cap ∧ g < w.heap.size ∧ ∀ j x, l[j]? = some x → w.cell? ⟨g, j, none⟩ = some (.string x)
theorem OwnsL.list {B : Nat} {v : Value} {l : List ByteArray} {w : World} (h : OwnsL B v l w) : ListAt v l w := by
  have hc := fun g hg => World.ownsRow.cells h (g := g) hg
  rcases h.2 with ⟨rfl, h0⟩ | ⟨g, cap, cur, rfl, _, hg, hle, _, _, _⟩
  · exact .inl ⟨rfl, List.length_eq_zero_iff.1 h0⟩
  · refine .inr ⟨g, cap, rfl, hle, lt_of_block hg, fun j x hx => ?_⟩
    have := hc g rfl j (.string x) (by simp [strs, hx])
    rw [show (⟨g, j, none⟩ : Addr) = (⟨g, 0, none⟩ : Addr).add j by unfold Addr.add; split <;> simp_all]
    exact this
theorem ListAt.kept {v : Value} {l : List ByteArray} {w w' : World} (h : ListAt v l w) (hb : Below w.heap.size w w') : ListAt v l w' := by
  rcases h with h | ⟨g, cap, h1, h2, h3, h4⟩
  · exact .inl h
  · exact .inr ⟨g, cap, h1, h2, Nat.lt_of_lt_of_le h3 hb.size, fun j x hx => by rw [hb.cell h3]; exact h4 j x hx⟩
theorem ListAt.some {v : Value} {l : List ByteArray} {w : World} (h : ListAt v l w) (hl : l ≠ []) : ∃ g cap, v = .slice (some ⟨g, 0, none⟩) l.length cap ∧ l.length ≤ cap ∧ g < w.heap.size ∧ ∀ j x, l[j]? = some x → w.cell? ⟨g, j, none⟩ = some (.string x) := by
  rcases h with ⟨_, h⟩ | h
  · exact absurd h hl
  · exact h

theorem pcsF_ne (s : ByteArray) : ∀ n b, pcsF s n b ≠ []
  | 0, b => by simp [pcsF]
  | n + 1, b => by rw [pcsF]; split; simp; exact pcsF_ne s n b
theorem pcsF_len (s : ByteArray) : ∀ n b, (pcsF s n b).length ≤ n + 1
  | 0, b => by simp [pcsF]
  | n + 1, b => by
    rw [pcsF]; split
    · have := pcsF_len s n (s.size - n); simp; omega
    · have := pcsF_len s n b; omega
theorem pcsF_size (s : ByteArray) : ∀ n b x, x ∈ pcsF s n b → x.size ≤ s.size
  | 0, b, x, h => by simp [pcsF] at h; subst h; rw [ext_size]; omega
  | n + 1, b, x, h => by
    rw [pcsF] at h; split at h
    · rcases List.mem_cons.1 h with rfl | h
      · rw [ext_size]; omega
      · exact pcsF_size s n _ x h
    · exact pcsF_size s n _ x h

def plainB (s : ByteArray) : Bool := rightB s && (pcs s).all nameB
def partsL (s : ByteArray) : List ByteArray := (pcs s).filter fun x => decide (0 < x.size)

def Rel12 (l : List ByteArray) (r : Bool) (i : Value) : Prop := ∃ k : Nat, k ≤ l.length ∧ i = .int .i64 k ∧ (l.drop k).all nameB = r
theorem drop_cons {l : List ByteArray} {k : Nat} (h : k < l.length) : ∃ x, l[k]? = some x ∧ x ∈ l ∧ l.drop k = x :: l.drop (k + 1) :=
  ⟨l[k], List.getElem?_eq_getElem h, List.getElem_mem h, List.drop_eq_getElem_cons h⟩
theorem bel_trans {w a b : World} (h : Below w.heap.size w a) (k : Below a.heap.size a b) : Below w.heap.size w b := h.trans (k.mono h.size)

set_option maxHeartbeats 2000000 in
set_option maxRecDepth 100000 in
theorem plain12 (s : ByteArray) (w : World) (hs : s.size ≤ 10000) : Calls Tryd.prog 12 #[.string s] w fun e w' => e = .returned (.bool (plainB s)) ∧ Below w.heap.size w w' := by
  have cr := fun w => right10 s w (by unfold maxLen; omega)
  have cb := fun w => between29 s w hs
  have hne : pcs s ≠ [] := pcsF_ne s _ _
  have hlen : (pcs s).length ≤ 10001 := Nat.le_trans (pcsF_len s _ _) (by omega)
  have hsz : ∀ x ∈ pcs s, x.size ≤ maxLen := fun x hx => Nat.le_trans (pcsF_size s _ _ x hx) (by unfold maxLen; omega)
  obtain ⟨q, hq⟩ : ∃ q, (pcs s).all nameB = q := ⟨_, rfl⟩
  have hp : plainB s = (rightB s && q) := by unfold plainB; rw [hq]
  rw [hp]
  clear hp
  generalize rightB s = r at cr
  generalize pcs s = l at cb hne hlen hsz hq
  have CR := Lib.hid cr
  have CB := Lib.hid cb
  have HSZ := Lib.hid hsz
  have HQ := Lib.hid hq
  clear cr cb hsz hq
  cases r
  · go_enter Tryd.func12, Tryd.ntmps12
    go_wp2_with (go_at_call 10; refine (CR.out _).mono ?_; rintro e w' ⟨rfl, rfl⟩)
    go_ret
    exact ⟨rfl, Below.refl _ _⟩
  · go_enter Tryd.func12, Tryd.ntmps12
    go_wp2_with (go_at_call 10; refine (CR.out _).mono ?_; rintro e w' ⟨rfl, rfl⟩)
    refine (CB.out _).mono ?_
    rintro e w1 ⟨v, rfl, hown, hbel⟩
    obtain ⟨g, cap, rfl, hcap, hg, hcell⟩ := hown.list.some hne
    have HB := Lib.hid hbel
    have HC := Lib.hid hcell
    clear hown hbel hcell
    go_wp2
    go_loop [11] (Rel12 l q) (fun i => l.length - (intOf i).toNat)
    case atStart => exact ⟨0, Nat.zero_le _, rfl, HQ.out⟩
    case round =>
      obtain ⟨k, hk, rfl, hr⟩ := hrel
      by_cases hlt : k < l.length
      · obtain ⟨x, hx, hm, hd⟩ := drop_cons hlt
        rw [hd, List.all_cons] at hr
        have hcell := HC.out k x hx
        have cn := fun w => name8 x w (HSZ.out x hm)
        generalize nameB x = b at cn hr
        have CN := Lib.hid cn
        have HR := Lib.hid hr
        clear cn hr hd hx hm
        cases b
        · go_wp2_with (go_at_call 8; refine (CN.out _).mono ?_; rintro e w' ⟨rfl, rfl⟩)
          go_ret
          rw [← HR.out]
          exact ⟨rfl, HB.out⟩
        · go_wp2_with (go_at_call 8; refine (CN.out _).mono ?_; rintro e w' ⟨rfl, rfl⟩)
          go_round
          case rel => exact ⟨k + 1, hlt, by go_num, by rw [← HR.out]; simp⟩
          case measure => simp [intOf]; omega
      · obtain rfl : k = l.length := by omega
        have HR := Lib.hid hr
        clear hr
        go_wp2
        go_ret
        rw [← HR.out]
        exact ⟨by simp, HB.out⟩

set_option maxHeartbeats 2000000 in
set_option maxRecDepth 100000 in
theorem plain13 (s : ByteArray) (w : World) (hs : s.size ≤ 10000) : Calls Tryd.prog 13 #[.string s] w fun e w' => e = .returned (.bool (plainB s)) ∧ Below w.heap.size w w' := by
  have cr := fun w => right11 s w (by unfold maxLen; omega)
  have cb := fun w => pieces30 s w hs
  have hne : pcs s ≠ [] := pcsF_ne s _ _
  have hlen : (pcs s).length ≤ 10001 := Nat.le_trans (pcsF_len s _ _) (by omega)
  have hsz : ∀ x ∈ pcs s, x.size ≤ maxLen := fun x hx => Nat.le_trans (pcsF_size s _ _ x hx) (by unfold maxLen; omega)
  obtain ⟨q, hq⟩ : ∃ q, (pcs s).all nameB = q := ⟨_, rfl⟩
  have hp : plainB s = (q && rightB s) := by unfold plainB; rw [hq, Bool.and_comm]
  rw [hp]
  clear hp
  generalize rightB s = r at cr
  generalize pcs s = l at cb hne hlen hsz hq
  have CR := Lib.hid cr
  have CB := Lib.hid cb
  have HSZ := Lib.hid hsz
  have HQ := Lib.hid hq
  clear cr cb hsz hq
  go_enter Tryd.func13, Tryd.ntmps13
  go_wp2_with fail
  refine (CB.out _).mono ?_
  rintro e w1 ⟨v, rfl, hown, hbel⟩
  obtain ⟨g, cap, rfl, hcap, hg, hcell⟩ := hown.list.some hne
  have HB := Lib.hid hbel
  have HC := Lib.hid hcell
  clear hown hbel hcell
  go_wp2
  go_loop [4] (Rel12 l q) (fun i => l.length - (intOf i).toNat)
  case atStart => exact ⟨0, Nat.zero_le _, rfl, HQ.out⟩
  case round =>
    obtain ⟨k, hk, rfl, hr⟩ := hrel
    by_cases hlt : k < l.length
    · obtain ⟨x, hx, hm, hd⟩ := drop_cons hlt
      rw [hd, List.all_cons] at hr
      have hcell := HC.out k x hx
      have cn := fun w => name9 x w (HSZ.out x hm)
      generalize nameB x = b at cn hr
      have CN := Lib.hid cn
      have HR := Lib.hid hr
      clear cn hr hd hx hm
      cases b
      · go_wp2_with (go_at_call 9; refine (CN.out _).mono ?_; rintro e w' ⟨rfl, rfl⟩)
        go_ret
        rw [← HR.out]
        exact ⟨rfl, HB.out⟩
      · go_wp2_with (go_at_call 9; refine (CN.out _).mono ?_; rintro e w' ⟨rfl, rfl⟩)
        go_round
        case rel => exact ⟨k + 1, hlt, by go_num, by rw [← HR.out]; simp⟩
        case measure => simp [intOf]; omega
    · obtain rfl : k = l.length := by omega
      have HR := Lib.hid hr
      clear hr
      go_wp2_with (go_at_call 11; refine (CR.out _).mono ?_; rintro e w' ⟨rfl, rfl⟩)
      go_ret
      rw [← HR.out]
      exact ⟨by simp, HB.out⟩

def Rel16 (l out : List ByteArray) (w1 : World) (v i : Value) (wr : World) : Prop :=
  ∃ (k : Nat) (acc : List ByteArray), k ≤ l.length ∧ i = .int .i64 k ∧ acc.length ≤ k ∧ OwnsL w1.heap.size v acc wr ∧ Below w1.heap.size w1 wr ∧ acc ++ (l.drop k).filter (fun x => decide (0 < x.size)) = out

theorem OwnsL.low {B B' : Nat} {v : Value} {l : List ByteArray} {w : World} (h : OwnsL B v l w) (hB : B' ≤ B) : OwnsL B' v l w := by
  refine ⟨h.1, ?_⟩
  rcases h.2 with h | ⟨g, cap, cur, h1, h2, h3⟩
  · exact .inl h
  · exact .inr ⟨g, cap, cur, h1, Nat.le_trans hB h2, h3⟩

set_option maxHeartbeats 2000000 in
set_option maxRecDepth 100000 in
theorem parts16 (s : ByteArray) (w : World) (hs : s.size ≤ 10000) : Calls Tryd.prog 16 #[.string s] w (GivesL w (partsL s)) := by
  obtain ⟨i0, hi0, hz0, hz1, hz2⟩ := info_parts Tryd.info9
  have cb := fun w => between29 s w hs
  have hne : pcs s ≠ [] := pcsF_ne s _ _
  have hlen : (pcs s).length ≤ 10001 := Nat.le_trans (pcsF_len s _ _) (by omega)
  obtain ⟨q, hq⟩ : ∃ q, partsL s = q := ⟨_, rfl⟩
  rw [hq]
  unfold partsL at hq
  generalize pcs s = l at cb hne hlen hq
  have CB := Lib.hid cb
  have HQ := Lib.hid hq
  clear cb hq
  go_enter Tryd.func16, Tryd.ntmps16
  go_wp2_with fail
  refine (CB.out _).mono ?_
  rintro e w1 ⟨v, rfl, hown, hbel⟩
  obtain ⟨g, cap, rfl, hcap, hg, hcell⟩ := hown.list.some hne
  have HB := Lib.hid hbel
  have HC := Lib.hid hcell
  have hws := hbel.size
  clear hown hbel hcell
  go_wp2
  go_loopw [3, 9] (Rel16 l q w1) (fun _ i _ => l.length - (intOf i).toNat)
  case atStart => exact ⟨0, [], Nat.zero_le _, rfl, Nat.le_refl _, own_nil w1, Below.refl _ _, HQ.out⟩
  case round =>
    obtain ⟨k, acc, hk, rfl, hal, hown, hbel, hr⟩ := hrel
    have hbs := hbel.size
    have HO := Lib.hid hown
    have HL := Lib.hid hbel
    obtain ⟨a, ln, c, rfl⟩ := slice_shape hown
    by_cases hlt : k < l.length
    · obtain ⟨x, hx, hm, hd⟩ := drop_cons hlt
      rw [hd, List.filter_cons] at hr
      have hcell : wr.cell? ⟨g, k, none⟩ = some (.string x) := by rw [hbel.cell hg]; exact HC.out k x hx
      clear hown hbel hd hx hm
      by_cases h0 : x.size = 0
      · have he := toList_em h0
        rw [decide_eq_false (by omega), if_neg (by decide)] at hr
        have HR := Lib.hid hr
        clear hr h0
        go_wp2
        go_roundw
        case rel => exact ⟨k + 1, acc, hlt, by go_num, by omega, HO.out, HL.out, HR.out⟩
        case measure => simp [intOf]; omega
      · have he := toList_ne h0
        rw [decide_eq_true (by omega), if_pos rfl] at hr
        have HR := Lib.hid hr
        clear hr h0
        go_wp2_with (at_builtin; refine wpList_append_own _ rfl _ _ 25 rfl w1.heap.size 9 i0 (.string ⟨#[]⟩) 1 16 Tryd.underlying25 hi0 hz0 hz1 hz2 rfl (by decide) _ _ _ rfl (World.ownsRow.alloc HO.out _) ⟨wr.heap.size, 0, none⟩ 1 1 [.string x] rfl rfl ?c1 ?c2 ?c3 ?c4 ?c5 ?_)
        case c1 => exact new_one wr _
        case c2 => intro u hu; simp at hu; subst hu; rfl
        case c3 => unfold maxLen; omega
        case c4 => omega
        case c5 => simp; omega
        · intro v' w2 hown' hgrow _
          have P := Lib.hid (own_push HO.out HL.out hown' hgrow)
          clear hown' hgrow
          go_wp2
          go_roundw
          case rel => exact ⟨k + 1, acc ++ [x], hlt, by go_num, by simp; omega, P.out.1, P.out.2, by rw [List.append_assoc, List.singleton_append]; exact HR.out⟩
          case measure => simp [intOf]; omega
    · obtain rfl : k = l.length := by omega
      rw [List.drop_length] at hr
      have HR := Lib.hid hr
      clear hr hown hbel
      go_wp2
      go_ret
      exact ⟨_, rfl, by rw [← HR.out]; simpa using HO.out.low hws, bel_trans HB.out HL.out⟩

set_option maxHeartbeats 2000000 in
set_option maxRecDepth 100000 in
theorem parts17 (s : ByteArray) (w : World) (hs : s.size ≤ 10000) : Calls Tryd.prog 17 #[.string s] w (GivesL w (partsL s)) := by
  obtain ⟨i0, hi0, hz0, hz1, hz2⟩ := info_parts Tryd.info9
  have cb := fun w => pieces30 s w hs
  have hne : pcs s ≠ [] := pcsF_ne s _ _
  have hlen : (pcs s).length ≤ 10001 := Nat.le_trans (pcsF_len s _ _) (by omega)
  obtain ⟨q, hq⟩ : ∃ q, partsL s = q := ⟨_, rfl⟩
  rw [hq]
  unfold partsL at hq
  generalize pcs s = l at cb hne hlen hq
  have CB := Lib.hid cb
  have HQ := Lib.hid hq
  clear cb hq
  go_enter Tryd.func17, Tryd.ntmps17
  go_wp2_with fail
  refine (CB.out _).mono ?_
  rintro e w1 ⟨v, rfl, hown, hbel⟩
  obtain ⟨g, cap, rfl, hcap, hg, hcell⟩ := hown.list.some hne
  have HB := Lib.hid hbel
  have HC := Lib.hid hcell
  have hws := hbel.size
  clear hown hbel hcell
  go_wp2
  go_loopw [3, 5] (Rel16 l q w1) (fun _ i _ => l.length - (intOf i).toNat)
  case atStart => exact ⟨0, [], Nat.zero_le _, rfl, Nat.le_refl _, own_nil w1, Below.refl _ _, HQ.out⟩
  case round =>
    obtain ⟨k, acc, hk, rfl, hal, hown, hbel, hr⟩ := hrel
    have hbs := hbel.size
    have HO := Lib.hid hown
    have HL := Lib.hid hbel
    obtain ⟨a, ln, c, rfl⟩ := slice_shape hown
    by_cases hlt : k < l.length
    · obtain ⟨x, hx, hm, hd⟩ := drop_cons hlt
      rw [hd, List.filter_cons] at hr
      have hcell : wr.cell? ⟨g, k, none⟩ = some (.string x) := by rw [hbel.cell hg]; exact HC.out k x hx
      clear hown hbel hd hx hm
      by_cases h0 : x.size = 0
      · have he := toList_em h0
        rw [decide_eq_false (by omega), if_neg (by decide)] at hr
        have HR := Lib.hid hr
        clear hr h0
        go_wp2
        go_roundw
        case rel => exact ⟨k + 1, acc, hlt, by go_num, by omega, HO.out, HL.out, HR.out⟩
        case measure => simp [intOf]; omega
      · have he := toList_ne h0
        rw [decide_eq_true (by omega), if_pos rfl] at hr
        have HR := Lib.hid hr
        clear hr h0
        go_wp2_with (at_builtin; refine wpList_append_own _ rfl _ _ 25 rfl w1.heap.size 9 i0 (.string ⟨#[]⟩) 1 16 Tryd.underlying25 hi0 hz0 hz1 hz2 rfl (by decide) _ _ _ rfl (World.ownsRow.alloc HO.out _) ⟨wr.heap.size, 0, none⟩ 1 1 [.string x] rfl rfl ?c1 ?c2 ?c3 ?c4 ?c5 ?_)
        case c1 => exact new_one wr _
        case c2 => intro u hu; simp at hu; subst hu; rfl
        case c3 => unfold maxLen; omega
        case c4 => omega
        case c5 => simp; omega
        · intro v' w2 hown' hgrow _
          have P := Lib.hid (own_push HO.out HL.out hown' hgrow)
          clear hown' hgrow
          go_wp2
          go_roundw
          case rel => exact ⟨k + 1, acc ++ [x], hlt, by go_num, by simp; omega, P.out.1, P.out.2, by rw [List.append_assoc, List.singleton_append]; exact HR.out⟩
          case measure => simp [intOf]; omega
    · obtain rfl : k = l.length := by omega
      rw [List.drop_length] at hr
      have HR := Lib.hid hr
      clear hr hown hbel
      go_wp2
      go_ret
      exact ⟨_, rfl, by rw [← HR.out]; simpa using HO.out.low hws, bel_trans HB.out HL.out⟩
end Go.Proofs.YthpdmnhopbbnfaaDoor
