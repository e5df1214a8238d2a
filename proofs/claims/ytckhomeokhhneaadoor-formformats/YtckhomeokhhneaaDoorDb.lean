/- The document's number of an argument. Conditions: lengths below a bound. -/
import Derived.Test.YtckhomeokhhneaaDoorDa
namespace Go.Proofs.YtckhomeokhhneaaDoor
open Go.RowKit Go.PlainAid
set_option linter.unusedSimpArgs false
set_option linter.unusedVariables false

def dfin (m : Bool) (D : Option Nat) : Option (Bool × Nat) := match D with
  | none => none
  | some v => some (m && decide (v ≠ 0), v)
theorem dnum_at (s : ByteArray) (h : 0 < s.size) (hq : ¬ (at0 (ls s) 0 = 39 ∨ at0 (ls s) 0 = 34)) (a : Nat) (ha : a = if at0 (ls s) 0 = 45 ∨ at0 (ls s) 0 = 43 then 1 else 0) : dnum (ls s) = if a = s.size then none else dfin (decide (at0 (ls s) 0 = 45)) (dloop (decide (at0 (ls s) 0 = 45)) 0 ((ls s).drop a)) := by
  have hl := ls_len s
  generalize ls s = l at hl hq ha ⊢
  cases l with
  | nil => simp at hl; omega
  | cons c r =>
    have h0 : at0 (c :: r) 0 = c.toNat := rfl
    rw [h0] at hq ha ⊢
    unfold dnum
    simp only
    rw [if_neg hq]
    simp only [List.length_cons] at hl
    by_cases hs : c.toNat = 45 ∨ c.toNat = 43
    · rw [if_pos hs] at ha ⊢
      subst ha
      by_cases hr : r = []
      · rw [if_pos hr, if_pos (by subst hr; simpa using hl)]
      · rw [if_neg hr, if_neg (by have := List.length_pos_iff.2 hr; omega)]; rfl
    · rw [if_neg hs] at ha ⊢
      subst ha
      rw [if_neg (by simp), if_neg (by omega)]; rfl
theorem dloop_cut (m : Bool) (s : ByteArray) (k v : Nat) (h : k < s.size) : dloop m v ((ls s).drop k) = if 48 ≤ at0 (ls s) k ∧ at0 (ls s) k ≤ 57 then
      if 922337203685477580 < v then none else
      if 9223372036854775808 < 10 * v + (at0 (ls s) k - 48) ∨ (10 * v + (at0 (ls s) k - 48) = 9223372036854775808 ∧ m = false) then none else
      dloop m (10 * v + (at0 (ls s) k - 48)) ((ls s).drop (k + 1))
    else none := by rw [ls_cut s k h, dloop, at0_byte]
theorem dloop_end (m : Bool) (s : ByteArray) (k v : Nat) (h : s.size ≤ k) : dloop m v ((ls s).drop k) = some v := by
  rw [List.drop_eq_nil_of_le (by rw [ls_len]; exact h)]; rfl
def nmD (x : Option (Bool × Nat)) : Value := match x with
  | none => .tuple #[.bool false, .int .u64 0, .bool false]
  | some (m, v) => .tuple #[.bool m, .int .u64 v, .bool true]
def Rel28 (s : ByteArray) (m : Bool) (D : Option Nat) (x y : Value) : Prop := ∃ (k v : Nat), k ≤ s.size ∧ x = .int .i64 k ∧ y = .int .u64 v ∧ v ≤ 9223372036854775808 ∧ Hid (dloop m v ((ls s).drop k) = D)
set_option maxHeartbeats 8000000 in
set_option maxRecDepth 100000 in
theorem number28 (s : ByteArray) (w : World) (hs : s.size ≤ 1000000) : Calls Tryd.prog 28 #[.string s] w fun e w' => e = .returned (nmD (dnum (ls s))) ∧ Below w.heap.size w w' := by
  have hb := get_bt s
  obtain ⟨X, HX⟩ : ∃ X, Hid (dnum (ls s) = X) := ⟨_, Lib.hid rfl⟩
  rw [HX.out]
  have HB := Lib.hid (Below.refl w.heap.size w)
  by_cases h0 : s.size = 0
  · have hem := toList_em h0
    have HXX : Hid (X = some (false, 0)) := Lib.hid (by rw [← HX.out, ls_em h0]; rfl)
    go_enter Tryd.func28, Tryd.ntmps28
    go_wp2
    go_ret3
    exact ⟨by rw [HXX.out]; rfl, HB.out⟩
  have hne := toList_ne (s := s) (by omega)
  have h1 : 0 < s.size := by omega
  have H0 := Lib.hid (bt_at s 0)
  have HL : Hid (∃ r, ls s = UInt8.ofNat (at0 (ls s) 0) :: r) := Lib.hid ⟨_, ls_head s h1⟩
  clear h0
  by_cases hq : at0 (ls s) 0 = 39 ∨ at0 (ls s) 0 = 34
  · have hsplit : (bt s 0 == 39) = true ∨ ((bt s 0 == 39) = false ∧ (bt s 0 == 34) = true) := by
      rw [H0.out]; simp; omega
    have HD : Hid (X = if s.size = 2 then some (false, at0 (ls s) 1) else none) := Lib.hid (by
      rw [← HX.out]
      obtain ⟨r, hr⟩ := HL.out
      have h2 := ls_len s
      unfold dnum
      split
      · rename_i e; rw [e] at hr; cases hr
      · rename_i c r' e
        have hc : c.toNat = at0 (ls s) 0 := by rw [e]; rfl
        rw [hc, if_pos hq, h2])
    clear hq
    by_cases h2 : s.size = 2
    · have hz : ((s.size : Int) != 2) = false := by rw [h2]; rfl
      have HXX : Hid (X = some (false, at0 (ls s) 1)) := Lib.hid (by rw [HD.out, if_pos h2])
      have H1 := Lib.hid (bt_at s 1)
      have b0 := bt_nonneg s 1
      have b1 := bt_le s 1
      have hlt : 1 < s.size := by omega
      rcases hsplit with e1 | ⟨e1, e2⟩
      all_goals (
        go_enter Tryd.func28, Tryd.ntmps28
        go_wp2
        go_region
        go_wp2
        go_ret3
        exact ⟨by rw [HXX.out]; unfold nmD; simp only; rw [← H1.out]; rfl, HB.out.drew⟩)
    · have hz : ((s.size : Int) != 2) = true := by simp; omega
      have HXX : Hid (X = none) := Lib.hid (by rw [HD.out, if_neg h2])
      rcases hsplit with e1 | ⟨e1, e2⟩
      all_goals (
        go_enter Tryd.func28, Tryd.ntmps28
        go_wp2
        go_ret3
        exact ⟨by rw [HXX.out]; rfl, HB.out⟩)
  have e1 : (bt s 0 == 39) = false := by rw [H0.out]; simp; omega
  have e2 : (bt s 0 == 34) = false := by rw [H0.out]; simp; omega
  have HA := Lib.hid (dnum_at s h1 hq)
  rw [HX.out] at HA
  clear hq HL HX
  have key : ∀ (a : Nat) (m : Bool), (a = if at0 (ls s) 0 = 45 ∨ at0 (ls s) 0 = 43 then 1 else 0) → decide (at0 (ls s) 0 = 45) = m → a ≤ 1 → (bt s 0 == 45) = m → ((a = 1 ∧ m = false) → (bt s 0 == 43) = true) → (a = 0 → m = false ∧ (bt s 0 == 43) = false) → Calls Tryd.prog 28 #[.string s] w fun e w' => e = .returned (nmD X) ∧ Below w.heap.size w w' := by
    intro a m ha hm ha1 em ep en
    have HXX := Lib.hid (HA.out a ha)
    rw [hm] at HXX
    clear HA
    obtain ⟨D, HD⟩ : ∃ D, Hid (dloop m 0 ((ls s).drop a) = D) := ⟨_, Lib.hid rfl⟩
    rw [HD.out] at HXX
    have hcase : (a = 1 ∧ m = true) ∨ (a = 1 ∧ m = false ∧ (bt s 0 == 43) = true) ∨ (a = 0 ∧ m = false ∧ (bt s 0 == 43) = false) := by
      have : a = 0 ∨ a = 1 := by omega
      rcases this with h | h
      · exact .inr (.inr ⟨h, en h⟩)
      · cases m
        · exact .inr (.inl ⟨h, rfl, ep ⟨h, rfl⟩⟩)
        · exact .inl ⟨h, rfl⟩
    clear ha hm ep en
    rcases hcase with ⟨rfl, rfl⟩ | ⟨rfl, rfl, e43⟩ | ⟨rfl, rfl, e43⟩
    · have HXN := Lib.hid (show ¬ 1 = s.size → X = dfin true D from fun h => by rw [HXX.out, if_neg h])
      by_cases hsz : 1 = s.size
      · have hsn : ((1 : Int) == (s.size : Int)) = true := by rw [← hsz]; rfl
        have HF : Hid (X = none) := Lib.hid (by rw [HXX.out, if_pos hsz])
        clear HXN HXX
        go_enter Tryd.func28, Tryd.ntmps28
        go_wp2
        go_ret3
        exact ⟨by rw [HF.out]; rfl, HB.out⟩
      have hsn : ((1 : Int) == (s.size : Int)) = false := by simp; omega
      have hns : ¬ 1 = s.size := by omega
      have HXD := Lib.hid (HXN.out hns)
      clear HXN HXX
      go_enter Tryd.func28, Tryd.ntmps28
      go_wp2
      go_loop [5, 7] (Rel28 s true D) (fun x _ => s.size - (intOf x).toNat)
      case atStart => exact ⟨1, 0, by omega, rfl, rfl, by omega, HD⟩
      case round =>
        obtain ⟨k, v, hk, rfl, rfl, hv, HM⟩ := hrel
        by_cases hlt : k < s.size
        · have HK := Lib.hid (bt_at s k)
          have hc := at0_lt (ls s) k
          have HC := Lib.hid (dloop_cut true s k v hlt)
          rw [HM.out] at HC
          have hnone : D = none → Hid (X = none) := fun h => Lib.hid (by rw [HXD.out, h]; rfl)
          by_cases d1 : at0 (ls s) k < 48
          · have e1 : decide (bt s k < 48) = true := decide_eq_true (by rw [HK.out]; omega)
            have HF := hnone (by rw [HC.out, if_neg (by omega)])
            clear hnone HC
            go_wp2
            go_ret3
            exact ⟨by rw [HF.out]; rfl, HB.out⟩
          have e1 : decide (bt s k < 48) = false := decide_eq_false (by rw [HK.out]; omega)
          by_cases d2 : 57 < at0 (ls s) k
          · have e2 : decide (57 < bt s k) = true := decide_eq_true (by rw [HK.out]; omega)
            have HF := hnone (by rw [HC.out, if_neg (by omega)])
            clear hnone HC
            go_wp2
            go_ret3
            exact ⟨by rw [HF.out]; rfl, HB.out⟩
          have e2 : decide (57 < bt s k) = false := decide_eq_false (by rw [HK.out]; omega)
          have HC1 := Lib.hid (by have := HC.out; rw [if_pos (by omega)] at this; exact this)
          clear HC
          by_cases d3 : 922337203685477580 < v
          · have e3 : decide (922337203685477580 < (v : Int)) = true := decide_eq_true (by omega)
            have HF := hnone (by rw [HC1.out, if_pos d3])
            clear hnone HC1
            go_wp2
            go_ret3
            exact ⟨by rw [HF.out]; rfl, HB.out⟩
          have e3 : decide (922337203685477580 < (v : Int)) = false := decide_eq_false (by omega)
          have HC2 := Lib.hid (by have := HC1.out; rw [if_neg d3] at this; exact this)
          clear HC1
          obtain ⟨v', Hv⟩ : ∃ v', Hid (10 * v + (at0 (ls s) k - 48) = v') := ⟨_, Lib.hid rfl⟩
          rw [Hv.out] at HC2
          have x1 : (bt s k - 48) % 256 = ((at0 (ls s) k - 48 : Nat) : Int) := by rw [HK.out]; omega
          have x2 : IntKind.u64.wrap (10 * (v : Int)) = 10 * (v : Int) := by rw [IntKind.wrap_u64]; omega
          have x3 : IntKind.u64.wrap (10 * (v : Int) + ((at0 (ls s) k - 48 : Nat) : Int)) = (v' : Int) := by rw [IntKind.wrap_u64]; have := Hv.out; omega
          by_cases d4 : 9223372036854775808 < v'
          · have e4 : decide (9223372036854775808 < (v' : Int)) = true := decide_eq_true (by omega)
            have HF := hnone (by rw [HC2.out, if_pos (.inl d4)])
            clear hnone HC2
            go_wp2
            go_ret3
            exact ⟨by rw [HF.out]; rfl, HB.out⟩
          have e4 : decide (9223372036854775808 < (v' : Int)) = false := decide_eq_false (by omega)
          by_cases d5 : v' = 9223372036854775808
          · have e5 : ((v' : Int) == 9223372036854775808) = true := by rw [d5]; rfl
            have HN : Hid (dloop true v' ((ls s).drop (k + 1)) = D) := Lib.hid (by rw [HC2.out, if_neg (by rintro (h | ⟨_, h⟩); exact d4 h; cases h)])
            clear hnone HC2
            subst d5
            go_wp2
            go_round
            case rel => exact ⟨k + 1, 9223372036854775808, hlt, by go_num, by first | rfl | exact congrArg (Value.int .u64) x3, by omega, HN⟩
            case measure => simp [intOf]; omega
          · have e5 : ((v' : Int) == 9223372036854775808) = false := by simp; omega
            have HN : Hid (dloop true v' ((ls s).drop (k + 1)) = D) := Lib.hid (by rw [HC2.out, if_neg (by rintro (h | ⟨h, _⟩) <;> omega)])
            clear hnone HC2 d5
            go_wp2
            go_round
            case rel => exact ⟨k + 1, v', hlt, by go_num, by first | rfl | exact congrArg (Value.int .u64) x3, by omega, HN⟩
            case measure => simp [intOf]; omega
        · obtain rfl : k = s.size := by omega
          have HDv : Hid (D = some v) := Lib.hid (by rw [← HM.out, dloop_end _ _ _ _ (Nat.le_refl _)])
          have HF : Hid (X = some (((v : Int) != 0), v)) := Lib.hid (by
            rw [HXD.out, HDv.out]
            unfold dfin
            simp only [Bool.true_and]
            congr 2
            by_cases h : v = 0
            · subst h; rfl
            · have : ((v : Int) != 0) = true := by simp; omega
              rw [this, decide_eq_true h])
          go_wp2
          go_ret3
          exact ⟨by rw [HF.out]; rfl, HB.out⟩
    · have HXN := Lib.hid (show ¬ 1 = s.size → X = dfin false D from fun h => by rw [HXX.out, if_neg h])
      by_cases hsz : 1 = s.size
      · have hsn : ((1 : Int) == (s.size : Int)) = true := by rw [← hsz]; rfl
        have HF : Hid (X = none) := Lib.hid (by rw [HXX.out, if_pos hsz])
        clear HXN HXX
        go_enter Tryd.func28, Tryd.ntmps28
        go_wp2
        go_ret3
        exact ⟨by rw [HF.out]; rfl, HB.out⟩
      have hsn : ((1 : Int) == (s.size : Int)) = false := by simp; omega
      have hns : ¬ 1 = s.size := by omega
      have HXD := Lib.hid (HXN.out hns)
      clear HXN HXX
      go_enter Tryd.func28, Tryd.ntmps28
      go_wp2
      go_loop [5, 7] (Rel28 s false D) (fun x _ => s.size - (intOf x).toNat)
      case atStart => exact ⟨1, 0, by omega, rfl, rfl, by omega, HD⟩
      case round =>
        obtain ⟨k, v, hk, rfl, rfl, hv, HM⟩ := hrel
        by_cases hlt : k < s.size
        · have HK := Lib.hid (bt_at s k)
          have hc := at0_lt (ls s) k
          have HC := Lib.hid (dloop_cut false s k v hlt)
          rw [HM.out] at HC
          have hnone : D = none → Hid (X = none) := fun h => Lib.hid (by rw [HXD.out, h]; rfl)
          by_cases d1 : at0 (ls s) k < 48
          · have e1 : decide (bt s k < 48) = true := decide_eq_true (by rw [HK.out]; omega)
            have HF := hnone (by rw [HC.out, if_neg (by omega)])
            clear hnone HC
            go_wp2
            go_ret3
            exact ⟨by rw [HF.out]; rfl, HB.out⟩
          have e1 : decide (bt s k < 48) = false := decide_eq_false (by rw [HK.out]; omega)
          by_cases d2 : 57 < at0 (ls s) k
          · have e2 : decide (57 < bt s k) = true := decide_eq_true (by rw [HK.out]; omega)
            have HF := hnone (by rw [HC.out, if_neg (by omega)])
            clear hnone HC
            go_wp2
            go_ret3
            exact ⟨by rw [HF.out]; rfl, HB.out⟩
          have e2 : decide (57 < bt s k) = false := decide_eq_false (by rw [HK.out]; omega)
          have HC1 := Lib.hid (by have := HC.out; rw [if_pos (by omega)] at this; exact this)
          clear HC
          by_cases d3 : 922337203685477580 < v
          · have e3 : decide (922337203685477580 < (v : Int)) = true := decide_eq_true (by omega)
            have HF := hnone (by rw [HC1.out, if_pos d3])
            clear hnone HC1
            go_wp2
            go_ret3
            exact ⟨by rw [HF.out]; rfl, HB.out⟩
          have e3 : decide (922337203685477580 < (v : Int)) = false := decide_eq_false (by omega)
          have HC2 := Lib.hid (by have := HC1.out; rw [if_neg d3] at this; exact this)
          clear HC1
          obtain ⟨v', Hv⟩ : ∃ v', Hid (10 * v + (at0 (ls s) k - 48) = v') := ⟨_, Lib.hid rfl⟩
          rw [Hv.out] at HC2
          have x1 : (bt s k - 48) % 256 = ((at0 (ls s) k - 48 : Nat) : Int) := by rw [HK.out]; omega
          have x2 : IntKind.u64.wrap (10 * (v : Int)) = 10 * (v : Int) := by rw [IntKind.wrap_u64]; omega
          have x3 : IntKind.u64.wrap (10 * (v : Int) + ((at0 (ls s) k - 48 : Nat) : Int)) = (v' : Int) := by rw [IntKind.wrap_u64]; have := Hv.out; omega
          by_cases d4 : 9223372036854775808 < v'
          · have e4 : decide (9223372036854775808 < (v' : Int)) = true := decide_eq_true (by omega)
            have HF := hnone (by rw [HC2.out, if_pos (.inl d4)])
            clear hnone HC2
            go_wp2
            go_ret3
            exact ⟨by rw [HF.out]; rfl, HB.out⟩
          have e4 : decide (9223372036854775808 < (v' : Int)) = false := decide_eq_false (by omega)
          by_cases d5 : v' = 9223372036854775808
          · have e5 : ((v' : Int) == 9223372036854775808) = true := by rw [d5]; rfl
            have HF := hnone (by rw [HC2.out, if_pos (.inr ⟨d5, rfl⟩)])
            clear hnone HC2 d5
            go_wp2
            go_ret3
            exact ⟨by rw [HF.out]; rfl, HB.out⟩
          · have e5 : ((v' : Int) == 9223372036854775808) = false := by simp; omega
            have HN : Hid (dloop false v' ((ls s).drop (k + 1)) = D) := Lib.hid (by rw [HC2.out, if_neg (by rintro (h | ⟨h, _⟩) <;> omega)])
            clear hnone HC2 d5
            go_wp2
            go_round
            case rel => exact ⟨k + 1, v', hlt, by go_num, by first | rfl | exact congrArg (Value.int .u64) x3, by omega, HN⟩
            case measure => simp [intOf]; omega
        · obtain rfl : k = s.size := by omega
          have HDv : Hid (D = some v) := Lib.hid (by rw [← HM.out, dloop_end _ _ _ _ (Nat.le_refl _)])
          have HF : Hid (X = some (false, v)) := Lib.hid (by rw [HXD.out, HDv.out]; rfl)
          go_wp2
          go_ret3
          exact ⟨by rw [HF.out]; rfl, HB.out⟩
    · have HXN := Lib.hid (show ¬ 0 = s.size → X = dfin false D from fun h => by rw [HXX.out, if_neg h])
      have hsn : ((0 : Int) == (s.size : Int)) = false := by simp; omega
      have hns : ¬ 0 = s.size := by omega
      have HXD := Lib.hid (HXN.out hns)
      clear HXN HXX
      go_enter Tryd.func28, Tryd.ntmps28
      go_wp2
      go_loop [5, 7] (Rel28 s false D) (fun x _ => s.size - (intOf x).toNat)
      case atStart => exact ⟨0, 0, by omega, rfl, rfl, by omega, HD⟩
      case round =>
        obtain ⟨k, v, hk, rfl, rfl, hv, HM⟩ := hrel
        by_cases hlt : k < s.size
        · have HK := Lib.hid (bt_at s k)
          have hc := at0_lt (ls s) k
          have HC := Lib.hid (dloop_cut false s k v hlt)
          rw [HM.out] at HC
          have hnone : D = none → Hid (X = none) := fun h => Lib.hid (by rw [HXD.out, h]; rfl)
          by_cases d1 : at0 (ls s) k < 48
          · have e1 : decide (bt s k < 48) = true := decide_eq_true (by rw [HK.out]; omega)
            have HF := hnone (by rw [HC.out, if_neg (by omega)])
            clear hnone HC
            go_wp2
            go_ret3
            exact ⟨by rw [HF.out]; rfl, HB.out⟩
          have e1 : decide (bt s k < 48) = false := decide_eq_false (by rw [HK.out]; omega)
          by_cases d2 : 57 < at0 (ls s) k
          · have e2 : decide (57 < bt s k) = true := decide_eq_true (by rw [HK.out]; omega)
            have HF := hnone (by rw [HC.out, if_neg (by omega)])
            clear hnone HC
            go_wp2
            go_ret3
            exact ⟨by rw [HF.out]; rfl, HB.out⟩
          have e2 : decide (57 < bt s k) = false := decide_eq_false (by rw [HK.out]; omega)
          have HC1 := Lib.hid (by have := HC.out; rw [if_pos (by omega)] at this; exact this)
          clear HC
          by_cases d3 : 922337203685477580 < v
          · have e3 : decide (922337203685477580 < (v : Int)) = true := decide_eq_true (by omega)
            have HF := hnone (by rw [HC1.out, if_pos d3])
            clear hnone HC1
            go_wp2
            go_ret3
            exact ⟨by rw [HF.out]; rfl, HB.out⟩
          have e3 : decide (922337203685477580 < (v : Int)) = false := decide_eq_false (by omega)
          have HC2 := Lib.hid (by have := HC1.out; rw [if_neg d3] at this; exact this)
          clear HC1
          obtain ⟨v', Hv⟩ : ∃ v', Hid (10 * v + (at0 (ls s) k - 48) = v') := ⟨_, Lib.hid rfl⟩
          rw [Hv.out] at HC2
          have x1 : (bt s k - 48) % 256 = ((at0 (ls s) k - 48 : Nat) : Int) := by rw [HK.out]; omega
          have x2 : IntKind.u64.wrap (10 * (v : Int)) = 10 * (v : Int) := by rw [IntKind.wrap_u64]; omega
          have x3 : IntKind.u64.wrap (10 * (v : Int) + ((at0 (ls s) k - 48 : Nat) : Int)) = (v' : Int) := by rw [IntKind.wrap_u64]; have := Hv.out; omega
          by_cases d4 : 9223372036854775808 < v'
          · have e4 : decide (9223372036854775808 < (v' : Int)) = true := decide_eq_true (by omega)
            have HF := hnone (by rw [HC2.out, if_pos (.inl d4)])
            clear hnone HC2
            go_wp2
            go_ret3
            exact ⟨by rw [HF.out]; rfl, HB.out⟩
          have e4 : decide (9223372036854775808 < (v' : Int)) = false := decide_eq_false (by omega)
          by_cases d5 : v' = 9223372036854775808
          · have e5 : ((v' : Int) == 9223372036854775808) = true := by rw [d5]; rfl
            have HF := hnone (by rw [HC2.out, if_pos (.inr ⟨d5, rfl⟩)])
            clear hnone HC2 d5
            go_wp2
            go_ret3
            exact ⟨by rw [HF.out]; rfl, HB.out⟩
          · have e5 : ((v' : Int) == 9223372036854775808) = false := by simp; omega
            have HN : Hid (dloop false v' ((ls s).drop (k + 1)) = D) := Lib.hid (by rw [HC2.out, if_neg (by rintro (h | ⟨h, _⟩) <;> omega)])
            clear hnone HC2 d5
            go_wp2
            go_round
            case rel => exact ⟨k + 1, v', hlt, by go_num, by first | rfl | exact congrArg (Value.int .u64) x3, by omega, HN⟩
            case measure => simp [intOf]; omega
        · obtain rfl : k = s.size := by omega
          have HDv : Hid (D = some v) := Lib.hid (by rw [← HM.out, dloop_end _ _ _ _ (Nat.le_refl _)])
          have HF : Hid (X = some (false, v)) := Lib.hid (by rw [HXD.out, HDv.out]; rfl)
          go_wp2
          go_ret3
          exact ⟨by rw [HF.out]; rfl, HB.out⟩
  by_cases h45 : at0 (ls s) 0 = 45
  · exact key 1 true (by rw [if_pos (.inl h45)]) (decide_eq_true h45) (Nat.le_refl _) (by rw [H0.out, h45]; rfl) (fun h => by cases h.2) (fun h => by cases h)
  · by_cases h43 : at0 (ls s) 0 = 43
    · exact key 1 false (by rw [if_pos (.inr h43)]) (decide_eq_false h45) (Nat.le_refl _) (by rw [H0.out]; simp; omega) (fun _ => by rw [H0.out, h43]; rfl) (fun h => by cases h)
    · exact key 0 false (by rw [if_neg (by omega)]) (decide_eq_false h45) (by omega) (by rw [H0.out]; simp; omega) (fun h => by cases h.1) (fun _ => ⟨rfl, by rw [H0.out]; simp; omega⟩)
end Go.Proofs.YtckhomeokhhneaaDoor
