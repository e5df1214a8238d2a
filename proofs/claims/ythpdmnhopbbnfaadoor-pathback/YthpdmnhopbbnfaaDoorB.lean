/- Contracts of strings.TrimRight at one slash, withoutLastSlashes, LastIndexByte and last. Condition: the text has a length that fits an int. -/
import Derived.Test.YthpdmnhopbbnfaaDoorA
namespace Go.Proofs.YthpdmnhopbbnfaaDoor
open Go.RowKit Go.PlainAid
set_option linter.unusedSimpArgs false

def Rel41 (s : ByteArray) (v : Value) : Prop := ∃ t : ByteArray, v = .string t ∧ t.size ≤ s.size ∧ t = s.extract 0 t.size ∧ trimN s t.size = trimN s s.size
def strSize : Value → Nat
  | .string t => t.size
  | _ => 0

set_option maxHeartbeats 1000000 in
set_option maxRecDepth 100000 in
theorem trim41 (s : ByteArray) (w : World) (hs : s.size ≤ maxLen) : Calls Tryd.prog 41 #[.string s, .int .u8 47] w fun e w' => e = .returned (.string (s.extract 0 (trimN s s.size))) ∧ w = w' := by
  unfold maxLen at hs
  go_enter Tryd.func41, Tryd.ntmps41
  go_wp2
  go_loop [0] (Rel41 s) (fun v => strSize v)
  case atStart => exact ⟨s, rfl, Nat.le_refl _, (ext_all s).symm, rfl⟩
  case round =>
    obtain ⟨t, rfl, hle, ht, hr⟩ := hrel
    have hb := get_bt t
    have HR := Lib.hid hr
    have HT := Lib.hid ht
    clear hr ht
    by_cases h0 : t.size = 0
    · have hd : decide (0 < t.size) = false := decide_eq_false (by omega)
      have HK : Hid (s.extract 0 (trimN s s.size) = t) := by rw [← HR.out, h0]; rw [show trimN s 0 = t.size by rw [h0]; rfl]; exact HT.out.symm
      clear h0
      go_wp2
      go_ret
      rw [HK.out]
      exact ⟨rfl, rfl⟩
    · obtain ⟨n, hn⟩ : ∃ n, t.size = n + 1 := ⟨t.size - 1, by omega⟩
      have hj : t.size - 1 = n := by omega
      have hbt : bt t n = bt s n := by
        rw [show bt t n = bt (s.extract 0 t.size) n from congrArg (fun x => bt x n) HT.out, ext_bt _ _ _ _ (by omega), Nat.zero_add]
      cases hc : (bt t n == 47)
      · have HK : Hid (s.extract 0 (trimN s s.size) = t) := by
          rw [← HR.out, hn, trimN, ← hbt, hc]
          rw [if_neg (by decide), ← hn]; exact HT.out.symm
        go_wp2
        go_ret
        rw [HK.out]
        exact ⟨rfl, rfl⟩
      · have HK : Hid (trimN s n = trimN s s.size) := by rw [← HR.out, hn, trimN, ← hbt, hc]; rfl
        have HE : Hid (t.extract 0 n = s.extract 0 n) := by
          rw [show t.extract 0 n = (s.extract 0 t.size).extract 0 n from congrArg (fun x => ByteArray.extract x 0 n) HT.out, ext_ext _ _ _ (by omega)]; exact rfl
        go_wp2
        go_round
        case rel =>
          have hz : (t.extract 0 n).size = n := by rw [ext_size]; omega
          exact ⟨t.extract 0 n, by simp [hj], by omega, by rw [hz]; exact HE.out, by rw [hz]; exact HK.out⟩
        case measure => simp [strSize, ext_size]; omega

set_option maxHeartbeats 1000000 in
set_option maxRecDepth 100000 in
theorem right37 (s : ByteArray) (w : World) (hs : s.size ≤ maxLen) : Calls Tryd.prog 37 #[.string s, .string ⟨#[47]⟩] w fun e w' => e = .returned (.string (s.extract 0 (trimN s s.size))) ∧ w = w' := by
  by_cases h0 : s.size = 0
  · have he : s = ⟨#[]⟩ := ba_ext h0 fun k hk => by omega
    subst he
    go_enter Tryd.func37, Tryd.ntmps37
    go_wp2
    go_ret
    exact ⟨rfl, rfl⟩
  · have he : (s.toList == []) = false := by
      rw [ByteArray.toList_eq]; apply beq_eq_false_iff_ne.2; intro e; apply h0
      have := congrArg List.length e; simpa using this
    go_enter Tryd.func37, Tryd.ntmps37
    go_wp2_with (go_at_call 41; refine (trim41 s _ hs).mono ?_; rintro e w' ⟨rfl, rfl⟩)
    go_ret
    exact ⟨rfl, rfl⟩

theorem empty_is {s : ByteArray} (h : s.size = 0) : s = ⟨#[]⟩ := ba_ext h fun k hk => by omega
theorem toList_ne {s : ByteArray} (h : s.size ≠ 0) : s.toList.isEmpty = false := by
  rw [ByteArray.toList_eq]
  cases hl : s.data.toList with
  | nil => exact absurd (by have := congrArg List.length hl; simpa using this) h
  | cons a l => rfl
theorem toList_em {s : ByteArray} (h : s.size = 0) : s.toList.isEmpty = true := by rw [empty_is h, ByteArray.toList_eq]; rfl

set_option maxHeartbeats 1000000 in
set_option maxRecDepth 100000 in
theorem wls31 (s : ByteArray) (w : World) (hs : s.size ≤ maxLen) : Calls Tryd.prog 31 #[.string s] w fun e w' => e = .returned (.string (bareS s)) ∧ w = w' := by
  have hle := trimN_le s s.size
  obtain ⟨t, ht⟩ : ∃ t, s.extract 0 (trimN s s.size) = t := ⟨_, rfl⟩
  have c := fun w => right37 s w hs
  rw [ht] at c
  have C := Lib.hid c
  clear c
  have hz : t.size = trimN s s.size := by rw [← ht, ext_size]; omega
  by_cases h0 : t.size = 0
  · have he := toList_em h0
    by_cases h1 : s.size = 0
    · have he2 := toList_em h1
      have HE : Hid (bareS s = t) := by unfold bareS; rw [← ht, h1]; rfl
      clear ht hz h0 h1
      go_enter Tryd.func31, Tryd.ntmps31
      go_wp2_with (go_at_call 37; refine (C.out _).mono ?_; rintro e w' ⟨rfl, rfl⟩)
      go_ret
      rw [HE.out]
      exact ⟨rfl, rfl⟩
    · have he2 := toList_ne h1
      have HE : Hid (bareS s = ⟨#[47]⟩) := by
        have hp := bareN_pos s s.size (by omega)
        rcases trim_bare s s.size with h | ⟨_, h2, h3⟩
        · exact absurd h (by omega)
        · unfold bareS; rw [h2]; exact slash_is s (by omega) h3
      clear ht hz h0 h1
      go_enter Tryd.func31, Tryd.ntmps31
      go_wp2_with (go_at_call 37; refine (C.out _).mono ?_; rintro e w' ⟨rfl, rfl⟩)
      go_ret
      rw [HE.out]
      exact ⟨rfl, rfl⟩
  · have he := toList_ne h0
    have HE : Hid (bareS s = t) := by
      rcases trim_bare s s.size with h | ⟨h1, h2, h3⟩
      · unfold bareS; rw [← h]; exact ht
      · exact absurd h1 (by omega)
    clear ht hz h0
    go_enter Tryd.func31, Tryd.ntmps31
    go_wp2_with (go_at_call 37; refine (C.out _).mono ?_; rintro e w' ⟨rfl, rfl⟩)
    go_ret
    rw [HE.out]
    exact ⟨rfl, rfl⟩

def Rel38 (s : ByteArray) (v : Value) : Prop := ∃ k : Nat, k ≤ s.size ∧ v = .int .i64 ((k : Int) - 1) ∧ lastN s k = lastN s s.size
set_option maxHeartbeats 1000000 in
set_option maxRecDepth 100000 in
theorem lib38 (s : ByteArray) (w : World) (hs : s.size ≤ maxLen) : Calls Tryd.prog 38 #[.string s, .int .u8 47] w fun e w' => e = .returned (.int .i64 (lastN s s.size)) ∧ w = w' := by
  unfold maxLen at hs
  have hb := get_bt s
  go_enter Tryd.func38, Tryd.ntmps38
  go_wp2
  go_loop [5] (Rel38 s) (fun v => (intOf v + 1).toNat)
  case atStart => exact ⟨s.size, Nat.le_refl _, rfl, rfl⟩
  case round =>
    obtain ⟨k, hk, rfl, hr⟩ := hrel
    have HR := Lib.hid hr
    clear hr
    match k, hk, HR with
    | 0, hk, HR =>
      go_wp2
      go_ret
      rw [← HR.out]
      exact ⟨rfl, rfl⟩
    | n + 1, hk, HR =>
      have e1 : ((n + 1 : Nat) : Int) - 1 = n := by omega
      rw [e1]
      cases hc : (bt s n == 47)
      · have HK : Hid (lastN s n = lastN s s.size) := by rw [← HR.out, lastN, hc]; rfl
        go_wp2
        go_round
        case rel => exact ⟨n, by omega, rfl, HK.out⟩
        case measure => simp [intOf]
      · have HK : Hid (lastN s s.size = n) := by rw [← HR.out, lastN, hc]; rfl
        go_wp2
        go_ret
        rw [HK.out]
        exact ⟨rfl, rfl⟩
theorem lib32 (s : ByteArray) (w : World) (hs : s.size ≤ maxLen) : Calls Tryd.prog 32 #[.string s, .int .u8 47] w fun e w' => e = .returned (.int .i64 (lastN s s.size)) ∧ w = w' := by
  go_enter Tryd.func32, Tryd.ntmps32
  go_wp2_with (go_at_call 38; refine (lib38 s _ hs).mono ?_; rintro e w' ⟨rfl, rfl⟩)
  go_ret
  exact ⟨rfl, rfl⟩

def Rel34 (s : ByteArray) (a v : Value) : Prop := ∃ k : Nat, k ≤ s.size ∧ v = .int .i64 k ∧ a = .int .i64 (lastN s k)
set_option maxHeartbeats 1000000 in
set_option maxRecDepth 100000 in
theorem last34 (s : ByteArray) (w : World) (hs : s.size ≤ maxLen) : Calls Tryd.prog 34 #[.string s] w fun e w' => e = .returned (.int .i64 (lastN s s.size)) ∧ w = w' := by
  unfold maxLen at hs
  have hb := get_bt s
  go_enter Tryd.func34, Tryd.ntmps34
  go_wp2
  go_loop [3, 4] (Rel34 s) (fun _ v => s.size - (intOf v).toNat)
  case atStart => exact ⟨0, Nat.zero_le _, rfl, rfl⟩
  case round =>
    obtain ⟨k, hk, rfl, rfl⟩ := hrel
    by_cases hlt : k < s.size
    · cases hc : (bt s k == 47)
      · have HK : Hid (lastN s k = lastN s (k + 1)) := by rw [lastN, hc]; rfl
        generalize lastN s k = A at HK ⊢
        go_wp2
        go_round
        case rel => exact ⟨k + 1, hlt, by go_num, by rw [HK.out]⟩
        case measure => simp [intOf]; omega
      · have HK : Hid ((k : Int) = lastN s (k + 1)) := by rw [lastN, hc]; rfl
        generalize lastN s k = A at HK ⊢
        go_wp2
        go_round
        case rel => exact ⟨k + 1, hlt, by go_num, by rw [← HK.out]⟩
        case measure => simp [intOf]; omega
    · obtain rfl : k = s.size := by omega
      go_wp2
      go_ret
      exact ⟨rfl, rfl⟩
end Go.Proofs.YthpdmnhopbbnfaaDoor
