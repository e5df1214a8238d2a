/- Contracts of both Heads. Conditions: lengths that fit an int. -/
import Derived.Test.YtdjfapaebonadaaI
namespace Go.Proofs.Ytdjfapaebonadaa
open Go.RowKit Go.PlainAid
set_option linter.unusedSimpArgs false
set_option linter.unusedVariables false

/-- Three octal digits, so many of them left. -/
def dg (r : List UInt8) : Nat → Nat → Option Nat
  | 0, m => some m
  | n + 1, m => if 48 ≤ at0 r (2 - n) ∧ at0 r (2 - n) ≤ 55 then dg r n (8 * m + (at0 r (2 - n) - 48)) else none
def headR (r : List UInt8) : Option (Nat × List UInt8) := if 4 ≤ r.length ∧ at0 r 3 = 32 ∧ rightL (r.drop 4) = true then (dg r 3 0).map (·, r.drop 4) else none
/-- A first line's mode and name. -/
def headOf (l : List UInt8) : Option (Nat × List UInt8) := if l.take 6 = beginL then headR (l.drop 6) else none
def v15 : Option (Nat × List UInt8) → Value
  | none => .tuple #[.int .i64 0, .string ⟨#[]⟩, .int .i64 11]
  | some (m, nm) => .tuple #[.int .i64 m, .string (mk nm), .int .i64 0]
def v16 : Option (Nat × List UInt8) → Value
  | none => .tuple #[.int .i64 0, .string ⟨#[]⟩, .bool false]
  | some (m, nm) => .tuple #[.int .i64 m, .string (mk nm), .bool true]
theorem dg_step (r : List UInt8) (k m : Nat) (h : k < 3) (h1 : 48 ≤ at0 r k) (h2 : at0 r k ≤ 55) : dg r (3 - k) m = dg r (3 - (k + 1)) (8 * m + (at0 r k - 48)) := by
  obtain ⟨n, hn⟩ : ∃ n, 3 - k = n + 1 := ⟨2 - k, by omega⟩
  have e : 2 - n = k := by omega
  rw [hn, dg, e, if_pos ⟨h1, h2⟩, show 3 - (k + 1) = n by omega]
theorem dg_bad (r : List UInt8) (k m : Nat) (h : k < 3) (h1 : at0 r k < 48 ∨ 55 < at0 r k) : dg r (3 - k) m = none := by
  obtain ⟨n, hn⟩ : ∃ n, 3 - k = n + 1 := ⟨2 - k, by omega⟩
  have e : 2 - n = k := by omega
  rw [hn, dg, e, if_neg (by omega)]
def pre6 (s : ByteArray) : Bool := (s.extract 0 6).toList == [98, 101, 103, 105, 110, 32]
theorem pre6_iff (s : ByteArray) : pre6 s = true ↔ (ls s).take 6 = beginL := by
  unfold pre6; rw [toList_data, beq_iff_eq]; rw [show (s.extract 0 6).data.toList = (ls s).take 6 from ls_take s 6]; rfl
theorem pre6_len {s : ByteArray} (h : (ls s).take 6 = beginL) : 6 ≤ s.size := by
  have := congrArg List.length h; simp [beginL] at this; have h2 := ls_len s; simp at h2; omega
set_option maxHeartbeats 1000000 in
set_option maxRecDepth 100000 in
theorem cp48 (s : ByteArray) (w : World) (hs : s.size ≤ maxLen) : Calls Try.prog 48 #[.string s, .string ⟨#[98, 101, 103, 105, 110, 32]⟩] w fun e w' => e = .returned (.bool (decide ((ls s).take 6 = beginL))) ∧ w = w' := by
  unfold maxLen at hs
  by_cases h6 : 6 ≤ s.size
  · cases hp : pre6 s
    · have hd : decide ((ls s).take 6 = beginL) = false := decide_eq_false (fun h => by rw [(pre6_iff s).2 h] at hp; cases hp)
      rw [hd]
      unfold pre6 at hp
      clear hd
      go_enter Try.func48, Try.ntmps48
      go_wp2
      go_ret
      exact ⟨rfl, rfl⟩
    · have hd : decide ((ls s).take 6 = beginL) = true := decide_eq_true ((pre6_iff s).1 hp)
      rw [hd]
      unfold pre6 at hp
      clear hd
      go_enter Try.func48, Try.ntmps48
      go_wp2
      go_ret
      exact ⟨rfl, rfl⟩
  · have hd : decide ((ls s).take 6 = beginL) = false := decide_eq_false (fun h => h6 (pre6_len h))
    rw [hd]
    clear hd
    go_enter Try.func48, Try.ntmps48
    go_wp2
    go_ret
    exact ⟨rfl, rfl⟩
set_option maxHeartbeats 1000000 in
set_option maxRecDepth 100000 in
theorem cp43_no (s : ByteArray) (w : World) (hs : s.size ≤ maxLen) (h : (ls s).take 6 ≠ beginL) : Calls Try.prog 43 #[.string s, .string ⟨#[98, 101, 103, 105, 110, 32]⟩] w fun e w' => e = .returned (.tuple #[.string s, .bool false]) ∧ w = w' := by
  have C := Lib.hid fun w => cp48 s w hs
  rw [decide_eq_false h] at C
  clear h hs
  go_enter Try.func43, Try.ntmps43
  go_wp2_with (go_at_call 48; refine (C.out _).mono ?_; rintro e w' ⟨rfl, rfl⟩)
  go_ret2
  exact ⟨rfl, rfl⟩
set_option maxHeartbeats 1000000 in
set_option maxRecDepth 100000 in
theorem cp43_yes (s : ByteArray) (w : World) (hs : s.size ≤ maxLen) (h : (ls s).take 6 = beginL) : Calls Try.prog 43 #[.string s, .string ⟨#[98, 101, 103, 105, 110, 32]⟩] w fun e w' => e = .returned (.tuple #[.string (s.extract 6 s.size), .bool true]) ∧ w = w' := by
  have C := Lib.hid fun w => cp48 s w hs
  have h6 := pre6_len h
  rw [decide_eq_true h] at C
  clear h
  unfold maxLen at hs
  go_enter Try.func43, Try.ntmps43
  go_wp2_with (go_at_call 48; refine (C.out _).mono ?_; rintro e w' ⟨rfl, rfl⟩)
  go_ret2
  exact ⟨rfl, rfl⟩
set_option maxHeartbeats 1000000 in
set_option maxRecDepth 100000 in
theorem cp30_no (s : ByteArray) (w : World) (hs : s.size ≤ maxLen) (h : (ls s).take 6 ≠ beginL) : Calls Try.prog 30 #[.string s, .string ⟨#[98, 101, 103, 105, 110, 32]⟩] w fun e w' => e = .returned (.tuple #[.string s, .bool false]) ∧ w = w' := by
  have C := Lib.hid fun w => cp43_no s w hs h
  clear h hs
  go_enter Try.func30, Try.ntmps30
  go_wp2_with (go_at_call 43; refine (C.out _).mono ?_; rintro e w' ⟨rfl, rfl⟩)
  go_ret2
  exact ⟨rfl, rfl⟩
set_option maxHeartbeats 1000000 in
set_option maxRecDepth 100000 in
theorem cp30_yes (s : ByteArray) (w : World) (hs : s.size ≤ maxLen) (h : (ls s).take 6 = beginL) : Calls Try.prog 30 #[.string s, .string ⟨#[98, 101, 103, 105, 110, 32]⟩] w fun e w' => e = .returned (.tuple #[.string (s.extract 6 s.size), .bool true]) ∧ w = w' := by
  have C := Lib.hid fun w => cp43_yes s w hs h
  clear h hs
  go_enter Try.func30, Try.ntmps30
  go_wp2_with (go_at_call 43; refine (C.out _).mono ?_; rintro e w' ⟨rfl, rfl⟩)
  go_ret2
  exact ⟨rfl, rfl⟩

theorem headOf_no {s : ByteArray} (h : (ls s).take 6 ≠ beginL) : headOf (ls s) = none := by unfold headOf; rw [if_neg h]
theorem headOf_yes {s : ByteArray} (h : (ls s).take 6 = beginL) : headOf (ls s) = headR (ls (s.extract 6 s.size)) := by unfold headOf; rw [if_pos h, ls_drop]
theorem headR_no {r : ByteArray} (h : ¬ (4 ≤ r.size ∧ bt r 3 = 32 ∧ rightL (ls (r.extract 4 r.size)) = true)) : headR (ls r) = none := by
  unfold headR; rw [if_neg]; rintro ⟨h1, h2, h3⟩; exact h ⟨by rw [← ls_len]; exact h1, by rw [bt_at, h2]; rfl, by rw [ls_drop]; exact h3⟩
theorem headR_yes {r : ByteArray} (h : 4 ≤ r.size) (h2 : bt r 3 = 32) (h3 : rightL (ls (r.extract 4 r.size)) = true) : headR (ls r) = (dg (ls r) 3 0).map (·, ls (r.extract 4 r.size)) := by
  unfold headR; rw [if_pos, ls_drop]; exact ⟨by rw [ls_len]; exact h, by rw [bt_at] at h2; omega, by rw [← ls_drop]; exact h3⟩
def Rel15 (r : ByteArray) (D : Option Nat) (m i : Value) : Prop := ∃ k x : Nat, k ≤ 3 ∧ i = .int .i64 k ∧ m = .int .i64 x ∧ x ≤ 511 ∧ (k ≤ 2 → x ≤ 63) ∧ (k ≤ 1 → x ≤ 7) ∧ (k = 0 → x = 0) ∧ dg (ls r) (3 - k) x = D
def G15 (w : World) (o : Option (Nat × List UInt8)) (e : Ending) (w' : World) : Prop := e = .returned (v15 o) ∧ Below w.heap.size w w'
set_option maxHeartbeats 4000000 in
set_option maxRecDepth 100000 in
theorem head15 (l : ByteArray) (w : World) (hs : l.size ≤ 100000) : Calls Try.prog 15 #[.string l] w (G15 w (headOf (ls l))) := by
  by_cases hp : (ls l).take 6 = beginL
  · have C := Lib.hid fun w => cp30_yes l w (by unfold maxLen; omega) hp
    have h6 := pre6_len hp
    rw [headOf_yes hp]
    have hrs : (l.extract 6 l.size).size ≤ 100000 := by rw [ext_sz _ _ _ (Nat.le_refl _)]; omega
    clear hp h6
    generalize l.extract 6 l.size = r at C hrs ⊢
    by_cases h4 : r.size < 4
    · rw [headR_no (by omega)]
      go_enter Try.func15, Try.ntmps15
      go_wp2_with (go_at_call 30; refine (C.out _).mono ?_; rintro e w' ⟨rfl, rfl⟩)
      go_ret3
      exact ⟨rfl, Below.refl _ _⟩
    · have hb := get_bt r
      cases h3 : (bt r 3 == 32)
      · rw [headR_no (by rintro ⟨_, h, _⟩; rw [h] at h3; cases h3)]
        have h3' : (bt r 3 != 32) = true := by rw [bne, h3]; rfl
        go_enter Try.func15, Try.ntmps15
        go_wp2_with (go_at_call 30; refine (C.out _).mono ?_; rintro e w' ⟨rfl, rfl⟩)
        go_ret3
        exact ⟨rfl, Below.refl _ _⟩
      · have h3' : (bt r 3 != 32) = false := by rw [bne, h3]; rfl
        have CR := Lib.hid fun w => right19 (r.extract 4 r.size) w (by rw [ext_sz _ _ _ (Nat.le_refl _)]; unfold maxLen; omega)
        cases hr : rightL (ls (r.extract 4 r.size))
        · rw [headR_no (by rintro ⟨_, _, h⟩; rw [h] at hr; cases hr)]
          rw [hr] at CR
          clear hr
          go_enter Try.func15, Try.ntmps15
          go_wp2_with (first
            | (go_at_call 30; refine (C.out _).mono ?_; rintro e w' ⟨rfl, rfl⟩)
            | (go_at_call 19; refine (CR.out _).mono ?_; rintro e w' ⟨rfl, rfl⟩))
          go_ret3
          exact ⟨rfl, Below.refl _ _⟩
        · rw [headR_yes (by omega) (beq_iff_eq.1 h3) hr]
          rw [hr] at CR
          clear hr
          obtain ⟨D, HD⟩ : ∃ D, Hid (dg (ls r) 3 0 = D) := ⟨_, Lib.hid rfl⟩
          rw [HD.out]
          go_enter Try.func15, Try.ntmps15
          go_wp2_with (first
            | (go_at_call 30; refine (C.out _).mono ?_; rintro e w' ⟨rfl, rfl⟩)
            | (go_at_call 19; refine (CR.out _).mono ?_; rintro e w' ⟨rfl, rfl⟩))
          go_loop [2, 31] (Rel15 r D) (fun _ i => 3 - (intOf i).toNat)
          case atStart => exact ⟨0, 0, by omega, rfl, rfl, by omega, by omega, by omega, by omega, HD.out⟩
          case round =>
            clear C CR HD
            obtain ⟨k, x, hk, rfl, rfl, hx1, hx2, hx3, hx4, hd⟩ := hrel
            have HD := Lib.hid hd
            clear hd
            by_cases hlt : k < 3
            · have b1 := bt_nonneg r k
              have b2 := bt_le r k
              by_cases hc1 : bt r k < 48
              · have HN : Hid (D = none) := Lib.hid (by rw [← HD.out, dg_bad _ _ _ hlt (by left; rw [bt_at] at hc1; omega)])
                go_wp2
                go_ret3
                rw [HN.out]
                exact ⟨rfl, Below.refl _ _⟩
              · by_cases hc2 : 55 < bt r k
                · have HN : Hid (D = none) := Lib.hid (by rw [← HD.out, dg_bad _ _ _ hlt (by right; rw [bt_at] at hc2; omega)])
                  go_wp2
                  go_ret3
                  rw [HN.out]
                  exact ⟨rfl, Below.refl _ _⟩
                · have hx64 : x ≤ 63 := by omega
                  have HN : Hid (dg (ls r) (3 - (k + 1)) (x * 8 + (bt r k - 48).toNat) = D) := Lib.hid (by
                    rw [← HD.out, dg_step (ls r) k x hlt (by rw [bt_at] at hc1; omega) (by rw [bt_at] at hc2; omega)]
                    congr 1; rw [bt_at]; omega)
                  have HX : Hid (((x * 8 + (bt r k - 48).toNat : Nat) : Int) = (x : Int) * 8 + (bt r k - 48)) := Lib.hid (by omega)
                  go_wp2
                  go_round
                  case rel => exact ⟨k + 1, _, by omega, by go_num, by rw [HX.out], by omega, by omega, by omega, by omega, HN.out⟩
                  case measure => simp [intOf]; omega
            · obtain rfl : k = 3 := by omega
              have HF : Hid (D = some x) := Lib.hid HD.out.symm
              have c4 : (4 : Int) ≤ r.size := by omega
              go_wp2
              go_region
              go_wp2
              go_ret3
              rw [HF.out]
              refine ⟨?_, (Below.refl _ w).drew⟩
              show _ = Ending.returned (.tuple #[.int .i64 x, .string (mk (ls (r.extract 4 r.size))), .int .i64 0])
              rw [mk_ls]
              rfl
  · have C := Lib.hid fun w => cp30_no l w (by unfold maxLen; omega) hp
    rw [headOf_no hp]
    clear hp
    go_enter Try.func15, Try.ntmps15
    go_wp2_with (go_at_call 30; refine (C.out _).mono ?_; rintro e w' ⟨rfl, rfl⟩)
    go_ret3
    exact ⟨rfl, Below.refl _ _⟩
end Go.Proofs.Ytdjfapaebonadaa
