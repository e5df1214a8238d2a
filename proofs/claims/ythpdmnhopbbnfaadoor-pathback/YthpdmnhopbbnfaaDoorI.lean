/- Contracts of Join, Under and Above, ours and the document's. Condition: texts of at most 10000 bytes. -/
import Derived.Test.YthpdmnhopbbnfaaDoorG
namespace Go.Proofs.YthpdmnhopbbnfaaDoor
open Go.RowKit Go.PlainAid
set_option linter.unusedSimpArgs false

def joinS (a b : ByteArray) : ByteArray := if a.size = 0 then b else if (bt a (a.size - 1) == 47) = true then a ++ b else a ++ ⟨#[47]⟩ ++ b

set_option maxHeartbeats 2000000 in
set_option maxRecDepth 100000 in
theorem join22 (a b : ByteArray) (w : World) (ha : a.size ≤ 10000) (hb : b.size ≤ 10000) : Calls Tryd.prog 22 #[.string a, .string b] w fun e w' => e = .returned (.string (joinS a b)) ∧ w = w' := by
  have hg := get_bt a
  by_cases h0 : a.size = 0
  · have he := toList_em h0
    have hj : joinS a b = b := by unfold joinS; rw [if_pos h0]
    rw [hj]
    have hab : a ++ b = b := by rw [empty_is h0]; exact ByteArray.empty_append
    clear h0 hj
    go_enter Tryd.func22, Tryd.ntmps22
    go_wp2
    go_ret
    exact ⟨rfl, rfl⟩
  · have he := toList_ne h0
    cases hc : (bt a (a.size - 1) == 47)
    · have hj : joinS a b = a ++ ⟨#[47]⟩ ++ b := by unfold joinS; rw [if_neg h0, hc]; rfl
      rw [hj]
      clear hj
      have h1 : 0 < a.size := by omega
      go_enter Tryd.func22, Tryd.ntmps22
      go_wp2
      go_ret
      exact ⟨rfl, rfl⟩
    · have hj : joinS a b = a ++ b := by unfold joinS; rw [if_neg h0, hc]; rfl
      rw [hj]
      clear hj
      have h1 : 0 < a.size := by omega
      go_enter Tryd.func22, Tryd.ntmps22
      go_wp2
      go_ret
      exact ⟨rfl, rfl⟩

set_option maxHeartbeats 2000000 in
set_option maxRecDepth 100000 in
theorem join23 (a b : ByteArray) (w : World) (ha : a.size ≤ 10000) (hb : b.size ≤ 10000) : Calls Tryd.prog 23 #[.string a, .string b] w fun e w' => e = .returned (.string (joinS a b)) ∧ w = w' := by
  have hg := get_bt a
  by_cases h0 : a.size = 0
  · have he := toList_em h0
    have hj : joinS a b = b := by unfold joinS; rw [if_pos h0]
    rw [hj]
    clear h0 hj
    go_enter Tryd.func23, Tryd.ntmps23
    go_wp2
    go_ret
    exact ⟨rfl, rfl⟩
  · have he := toList_ne h0
    cases hc : (bt a (a.size - 1) == 47)
    · have hj : joinS a b = a ++ ⟨#[47]⟩ ++ b := by unfold joinS; rw [if_neg h0, hc]; rfl
      rw [hj]
      clear hj
      have h1 : 0 < a.size := by omega
      go_enter Tryd.func23, Tryd.ntmps23
      go_wp2
      go_ret
      exact ⟨rfl, rfl⟩
    · have hj : joinS a b = a ++ b := by unfold joinS; rw [if_neg h0, hc]; rfl
      rw [hj]
      clear hj
      have h1 : 0 < a.size := by omega
      go_enter Tryd.func23, Tryd.ntmps23
      go_wp2
      go_ret
      exact ⟨rfl, rfl⟩

def prefB (s p : ByteArray) : Bool := decide (p.size ≤ s.size) && ((s.extract 0 p.size).toList == p.toList)
def underB (s d : ByteArray) : Bool := prefB s d && absB (s.extract d.size s.size)

set_option maxHeartbeats 2000000 in
set_option maxRecDepth 100000 in
theorem pref45 (s p : ByteArray) (w : World) : Calls Tryd.prog 45 #[.string s, .string p] w fun e w' => e = .returned (.bool (prefB s p)) ∧ w = w' := by
  by_cases h : p.size ≤ s.size
  · have hk : prefB s p = ((s.extract 0 p.size).toList == p.toList) := by unfold prefB; rw [decide_eq_true h]; rfl
    rw [hk]
    clear hk
    go_enter Tryd.func45, Tryd.ntmps45
    go_wp2
    go_ret
    exact ⟨rfl, rfl⟩
  · have hk : prefB s p = false := by unfold prefB; rw [decide_eq_false h]; rfl
    rw [hk]
    clear hk
    go_enter Tryd.func45, Tryd.ntmps45
    go_wp2
    go_ret
    exact ⟨rfl, rfl⟩

set_option maxHeartbeats 2000000 in
set_option maxRecDepth 100000 in
theorem cut39 (s p : ByteArray) (w : World) : Calls Tryd.prog 39 #[.string s, .string p] w fun e w' =>
    e = .returned (if prefB s p = true then .tuple #[.string (s.extract p.size s.size), .bool true] else .tuple #[.string s, .bool false]) ∧ w = w' := by
  have c := fun w => pref45 s p w
  have hle : prefB s p = true → p.size ≤ s.size := fun h => by unfold prefB at h; simp at h; exact h.1
  generalize prefB s p = b at c hle
  have C := Lib.hid c
  clear c
  cases b
  · rw [if_neg (by decide)]
    clear hle
    go_enter Tryd.func39, Tryd.ntmps39
    go_wp2_with (go_at_call 45; refine (C.out _).mono ?_; rintro e w' ⟨rfl, rfl⟩)
    go_ret2
    exact ⟨rfl, rfl⟩
  · rw [if_pos rfl]
    replace hle := hle rfl
    go_enter Tryd.func39, Tryd.ntmps39
    go_wp2_with (go_at_call 45; refine (C.out _).mono ?_; rintro e w' ⟨rfl, rfl⟩)
    go_ret2
    exact ⟨rfl, rfl⟩

set_option maxHeartbeats 2000000 in
set_option maxRecDepth 100000 in
theorem under24 (s p : ByteArray) (w : World) : Calls Tryd.prog 24 #[.string s, .string p] w fun e w' =>
    e = .returned (.bool (underB s p)) ∧ w = w' := by
  have c := fun w => cut39 s p w
  have hu : underB s p = (prefB s p && absB (s.extract p.size s.size)) := rfl
  rw [hu]
  clear hu
  generalize prefB s p = b at c
  have c2 := fun w => abs14 (s.extract p.size s.size) w
  generalize s.extract p.size s.size = t at c c2
  generalize absB t = q at c2
  have C2 := Lib.hid c2
  clear c2
  cases b
  · rw [if_neg (by decide)] at c
    have C := Lib.hid c
    clear c
    have c3 : ∀ w, Calls Tryd.prog 35 #[.string s, .string p] w fun e w' => e = .returned (.tuple #[.string s, .bool false]) ∧ w = w' := by
      intro w
      go_enter Tryd.func35, Tryd.ntmps35
      go_wp2_with (go_at_call 39; refine (C.out _).mono ?_; rintro e w' ⟨rfl, rfl⟩)
      go_ret2
      exact ⟨rfl, rfl⟩
    have C3 := Lib.hid c3
    clear c3
    go_enter Tryd.func24, Tryd.ntmps24
    go_wp2_with (go_at_call 35; refine (C3.out _).mono ?_; rintro e w' ⟨rfl, rfl⟩)
    go_ret
    exact ⟨rfl, rfl⟩
  · rw [if_pos rfl] at c
    have C := Lib.hid c
    clear c
    have c3 : ∀ w, Calls Tryd.prog 35 #[.string s, .string p] w fun e w' => e = .returned (.tuple #[.string t, .bool true]) ∧ w = w' := by
      intro w
      go_enter Tryd.func35, Tryd.ntmps35
      go_wp2_with (go_at_call 39; refine (C.out _).mono ?_; rintro e w' ⟨rfl, rfl⟩)
      go_ret2
      exact ⟨rfl, rfl⟩
    have C3 := Lib.hid c3
    clear c3
    go_enter Tryd.func24, Tryd.ntmps24
    go_wp2_with (first | (go_at_call 35; refine (C3.out _).mono ?_; rintro e w' ⟨rfl, rfl⟩) | (go_at_call 14; refine (C2.out _).mono ?_; rintro e w' ⟨rfl, rfl⟩))
    go_ret
    exact ⟨by simp, rfl⟩

/-- What stands ahead of each slash among the last n bytes. -/
def abvF (s : ByteArray) : Nat → List ByteArray
  | 0 => []
  | n + 1 => if (bt s (s.size - (n + 1)) == 47) = true then s.extract 0 (s.size - (n + 1)) :: abvF s n else abvF s n
def abvL (s : ByteArray) : List ByteArray := abvF s s.size
theorem abvF_end (s : ByteArray) (k : Nat) (h : k = s.size) : abvF s (s.size - k) = [] := by subst h; rw [Nat.sub_self]; rfl
theorem abvF_hit (s : ByteArray) (k : Nat) (h : k < s.size) (hc : (bt s k == 47) = true) : abvF s (s.size - k) = s.extract 0 k :: abvF s (s.size - (k + 1)) := by
  obtain ⟨n, hn⟩ : ∃ n, s.size - k = n + 1 := ⟨s.size - k - 1, by omega⟩
  rw [hn, abvF, show s.size - (n + 1) = k by omega, if_pos hc, show s.size - (k + 1) = n by omega]
theorem abvF_miss (s : ByteArray) (k : Nat) (h : k < s.size) (hc : (bt s k == 47) = false) : abvF s (s.size - k) = abvF s (s.size - (k + 1)) := by
  obtain ⟨n, hn⟩ : ∃ n, s.size - k = n + 1 := ⟨s.size - k - 1, by omega⟩
  rw [hn, abvF, show s.size - (n + 1) = k by omega, hc, if_neg (by decide), show s.size - (k + 1) = n by omega]
theorem abvF_len (s : ByteArray) : ∀ n, (abvF s n).length ≤ n
  | 0 => by simp [abvF]
  | n + 1 => by rw [abvF]; have := abvF_len s n; split; simp; omega; omega

def Rel25 (w : World) (s : ByteArray) (v i : Value) (wr : World) : Prop :=
  ∃ (k : Nat) (acc : List ByteArray), k ≤ s.size ∧ i = .int .i64 k ∧ acc.length ≤ k ∧ OwnsL w.heap.size v acc wr ∧ Below w.heap.size w wr ∧ acc ++ abvF s (s.size - k) = abvL s

set_option maxHeartbeats 2000000 in
set_option maxRecDepth 100000 in
theorem above25 (s : ByteArray) (w : World) (hs : s.size ≤ 10000) : Calls Tryd.prog 25 #[.string s] w (GivesL w (abvL s)) := by
  obtain ⟨i0, hi0, hz0, hz1, hz2⟩ := info_parts Tryd.info9
  have hb := get_bt s
  go_enter Tryd.func25, Tryd.ntmps25
  go_wp2
  go_loopw [3, 7] (Rel25 w s) (fun _ i _ => s.size - (intOf i).toNat)
  case atStart => exact ⟨0, [], Nat.zero_le _, rfl, Nat.le_refl _, own_nil w, Below.refl _ _, rfl⟩
  case round =>
    obtain ⟨k, acc, hk, rfl, hal, hown, hbel, hr⟩ := hrel
    have hbs := hbel.size
    have HO := Lib.hid hown
    have HL := Lib.hid hbel
    have HR := Lib.hid hr
    obtain ⟨a, l, c, rfl⟩ := slice_shape hown
    clear hown hbel hr
    by_cases hlt : k < s.size
    · cases hc : (bt s k == 47)
      · have HN := Lib.hid (abvF_miss s k hlt hc)
        go_wp2
        go_roundw
        case rel => exact ⟨k + 1, acc, hlt, by go_num, by omega, HO.out, HL.out, by rw [← HN.out]; exact HR.out⟩
        case measure => simp [intOf]; omega
      · have HN := Lib.hid (abvF_hit s k hlt hc)
        go_wp2_with (at_builtin; refine wpList_append_own _ rfl _ _ 25 rfl w.heap.size 9 i0 (.string ⟨#[]⟩) 1 16 Tryd.underlying25 hi0 hz0 hz1 hz2 rfl (by decide) _ _ _ rfl (World.ownsRow.alloc HO.out _) ⟨wr.heap.size, 0, none⟩ 1 1 [.string (s.extract 0 k)] rfl rfl ?c1 ?c2 ?c3 ?c4 ?c5 ?_)
        case c1 => exact new_one wr _
        case c2 => intro u hu; simp at hu; subst hu; rfl
        case c3 => unfold maxLen; omega
        case c4 => omega
        case c5 => simp; omega
        · intro v' w1 hown' hgrow _
          have P := Lib.hid (own_push HO.out HL.out hown' hgrow)
          clear hown' hgrow
          go_wp2
          go_roundw
          case rel => exact ⟨k + 1, acc ++ [s.extract 0 k], hlt, by go_num, by simp; omega, P.out.1, P.out.2, by rw [List.append_assoc, List.singleton_append, ← HN.out]; exact HR.out⟩
          case measure => simp [intOf]; omega
    · obtain rfl : k = s.size := by omega
      have HN := Lib.hid (abvF_end s s.size rfl)
      go_wp2
      go_ret
      exact ⟨_, rfl, by rw [← HR.out, HN.out, List.append_nil]; exact HO.out, HL.out⟩

set_option maxHeartbeats 2000000 in
set_option maxRecDepth 100000 in
theorem above26 (s : ByteArray) (w : World) (hs : s.size ≤ 10000) : Calls Tryd.prog 26 #[.string s] w (GivesL w (abvL s)) := by
  obtain ⟨i0, hi0, hz0, hz1, hz2⟩ := info_parts Tryd.info9
  have hb := get_bt s
  go_enter Tryd.func26, Tryd.ntmps26
  go_wp2
  go_loopw [3, 4] (Rel25 w s) (fun _ i _ => s.size - (intOf i).toNat)
  case atStart => exact ⟨0, [], Nat.zero_le _, rfl, Nat.le_refl _, own_nil w, Below.refl _ _, rfl⟩
  case round =>
    obtain ⟨k, acc, hk, rfl, hal, hown, hbel, hr⟩ := hrel
    have hbs := hbel.size
    have HO := Lib.hid hown
    have HL := Lib.hid hbel
    have HR := Lib.hid hr
    obtain ⟨a, l, c, rfl⟩ := slice_shape hown
    clear hown hbel hr
    by_cases hlt : k < s.size
    · cases hc : (bt s k == 47)
      · have HN := Lib.hid (abvF_miss s k hlt hc)
        go_wp2
        go_roundw
        case rel => exact ⟨k + 1, acc, hlt, by go_num, by omega, HO.out, HL.out, by rw [← HN.out]; exact HR.out⟩
        case measure => simp [intOf]; omega
      · have HN := Lib.hid (abvF_hit s k hlt hc)
        go_wp2_with (at_builtin; refine wpList_append_own _ rfl _ _ 25 rfl w.heap.size 9 i0 (.string ⟨#[]⟩) 1 16 Tryd.underlying25 hi0 hz0 hz1 hz2 rfl (by decide) _ _ _ rfl (World.ownsRow.alloc HO.out _) ⟨wr.heap.size, 0, none⟩ 1 1 [.string (s.extract 0 k)] rfl rfl ?c1 ?c2 ?c3 ?c4 ?c5 ?_)
        case c1 => exact new_one wr _
        case c2 => intro u hu; simp at hu; subst hu; rfl
        case c3 => unfold maxLen; omega
        case c4 => omega
        case c5 => simp; omega
        · intro v' w1 hown' hgrow _
          have P := Lib.hid (own_push HO.out HL.out hown' hgrow)
          clear hown' hgrow
          go_wp2
          go_roundw
          case rel => exact ⟨k + 1, acc ++ [s.extract 0 k], hlt, by go_num, by simp; omega, P.out.1, P.out.2, by rw [List.append_assoc, List.singleton_append, ← HN.out]; exact HR.out⟩
          case measure => simp [intOf]; omega
    · obtain rfl : k = s.size := by omega
      have HN := Lib.hid (abvF_end s s.size rfl)
      go_wp2
      go_ret
      exact ⟨_, rfl, by rw [← HR.out, HN.out, List.append_nil]; exact HO.out, HL.out⟩
end Go.Proofs.YthpdmnhopbbnfaaDoor
