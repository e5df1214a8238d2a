/- Contracts of FormatUint, of a place's digits and of an argument's number, ours. Conditions: the tables read as they are laid. -/
import Derived.Test.YtckhomeokhhneaaDoorK
import Derived.Lib.AtoiErrMem
namespace Go.Proofs.YtckhomeokhhneaaDoor
open Go.RowKit Go.PlainAid Go.Sort
set_option linter.unusedSimpArgs false
set_option linter.unusedVariables false

set_option maxHeartbeats 1000000 in
set_option maxRecDepth 100000 in
theorem fu_8 (u : Nat) (hu : u < 18446744073709551616) (w : World) (he : Env w) : Calls Tryd.prog 41 #[.int .u64 u, .int .i64 8] w (GivesT w (bd 8 u)) := by
  have C1 := Lib.hid fun W h => fb67_8 u hu W h
  have C : Hid (∀ W, Env W → Calls Tryd.prog 48 #[.int .u64 u, .int .i64 8] W (GivesT W (bd 8 u))) := Lib.hid (by
    intro W HW
    go_enter Tryd.func48, Tryd.ntmps48
    go_wp2_with (go_at_call 67; (refine (C1.out _ HW).mono ?_; rintro e w' ⟨rfl, hb⟩))
    go_ret
    exact ⟨rfl, hb⟩)
  go_enter Tryd.func41, Tryd.ntmps41
  go_wp2_with (go_at_call 48; (refine (C.out _ he).mono ?_; rintro e w' ⟨rfl, hb⟩))
  go_ret
  exact ⟨rfl, hb⟩
set_option maxHeartbeats 1000000 in
set_option maxRecDepth 100000 in
theorem fu_16 (u : Nat) (hu : u < 18446744073709551616) (w : World) (he : Env w) : Calls Tryd.prog 41 #[.int .u64 u, .int .i64 16] w (GivesT w (bd 16 u)) := by
  have C1 := Lib.hid fun W h => fb67_16 u hu W h
  have C : Hid (∀ W, Env W → Calls Tryd.prog 48 #[.int .u64 u, .int .i64 16] W (GivesT W (bd 16 u))) := Lib.hid (by
    intro W HW
    go_enter Tryd.func48, Tryd.ntmps48
    go_wp2_with (go_at_call 67; (refine (C1.out _ HW).mono ?_; rintro e w' ⟨rfl, hb⟩))
    go_ret
    exact ⟨rfl, hb⟩)
  go_enter Tryd.func41, Tryd.ntmps41
  go_wp2_with (go_at_call 48; (refine (C.out _ he).mono ?_; rintro e w' ⟨rfl, hb⟩))
  go_ret
  exact ⟨rfl, hb⟩
theorem dch_ascii (n : Nat) (h : n < 16) : (dch n).toNat < 103 ∧ ((dch n).toNat < 58 ∨ 97 ≤ (dch n).toNat) := by
  unfold dch
  rw [UInt8.toNat_ofNat']
  split <;> omega
theorem bd_ascii (n : Nat) : ∀ c ∈ bd 16 n, c.toNat < 103 ∧ (c.toNat < 58 ∨ 97 ≤ c.toNat) := by
  induction n using Nat.strongRecOn with
  | ind n ih =>
    intro c hc
    by_cases h : n < 16
    · rw [bd_small h] at hc
      simp at hc; subst hc
      exact dch_ascii n h
    · rw [bd_big (by omega) (by omega)] at hc
      simp at hc
      rcases hc with hc | rfl
      · exact ih (n / 16) (by omega) c hc
      · exact dch_ascii _ (Nat.mod_lt _ (by omega))
theorem up_is (n : Nat) : Lib.toUpperA (bd 16 n) = up (bd 16 n) := by
  unfold Lib.toUpperA up
  apply List.map_congr_left
  intro c hc
  obtain ⟨h1, h2⟩ := bd_ascii n c hc
  unfold Lib.upperB
  have e : Lib.isLowerB c = decide (97 ≤ c.toNat) := by
    unfold Lib.isLowerB
    rw [Bool.eq_iff_iff]
    simp only [Bool.and_eq_true, decide_eq_true_eq, UInt8.le_iff_toNat_le, UInt8.toNat_ofNat]
    omega
  rw [e]
  by_cases h : 97 ≤ c.toNat
  · rw [decide_eq_true h, if_pos rfl, if_pos h]
    apply UInt8.toNat_inj.1
    rw [UInt8.toNat_sub_of_le _ _ (by rw [UInt8.le_iff_toNat_le]; show 32 ≤ _; omega), UInt8.toNat_ofNat']
    show c.toNat - 32 = _
    omega
  · rw [decide_eq_false h, if_neg (by decide), if_neg h]
theorem m64_wrap (v : Int) : IntKind.u64.wrap v = (m64 v : Int) := by
  unfold m64
  rw [IntKind.wrap_u64]
  omega
theorem m64_lt (v : Int) : m64 v < 18446744073709551616 := by unfold m64; omega
def sgV (x : List UInt8 × List UInt8) : Value := .tuple #[.string (mk x.1), .string (mk x.2)]
theorem itoa_neg (v : Int) (h : v < 0) : Lib.itoa v = 45 :: Lib.decDigits (-v).toNat := by
  unfold Lib.itoa; rw [if_pos h]; congr 2; omega
theorem itoa_pos (v : Int) (h : ¬ v < 0) : Lib.itoa v = Lib.decDigits v.toNat := by
  unfold Lib.itoa; rw [if_neg h]
theorem bd_len (b : Nat) (hb : 2 ≤ b) : ∀ k n, n < b ^ (k + 1) → (bd b n).length ≤ k + 1
  | 0, n, h => by rw [bd_small (by simpa using h)]; simp
  | k + 1, n, h => by
    by_cases h2 : n < b
    · rw [bd_small h2]; simp
    · rw [bd_big (by omega) hb, List.length_append]
      have := bd_len b hb k (n / b) (Nat.div_lt_of_lt_mul (by rw [Nat.pow_succ, Nat.mul_comm] at h; exact h))
      simp; omega
theorem bd16_len (v : Int) : (bd 16 (m64 v)).length ≤ 16 := bd_len 16 (by omega) 15 _ (m64_lt v)
theorem bd8_len (v : Int) : (bd 8 (m64 v)).length ≤ 22 := bd_len 8 (by omega) 21 _ (Nat.lt_trans (m64_lt v) (by decide))
theorem dec_len (u : Nat) (h : u < 18446744073709551616) : (Lib.decDigits u).length ≤ 20 := by rw [Lib.decDigits_length]; exact nd_le u h
theorem up_len (l : List UInt8) : (up l).length = l.length := by simp [up]
theorem sgn_len (c : Nat) (v : Int) (h1 : -9223372036854775808 ≤ v) (h2 : v ≤ 9223372036854775807) : (sgnO c v).1.length ≤ 1 ∧ (sgnO c v).2.length ≤ 22 := by
  have a1 := bd8_len v
  have a2 := bd16_len v
  have a3 := dec_len (m64 v) (m64_lt v)
  have a4 := dec_len (-v).toNat (by omega)
  have a5 := dec_len v.toNat (by omega)
  unfold sgnO
  repeat' split
  all_goals simp [up_len]
  all_goals omega
set_option maxHeartbeats 4000000 in
set_option maxRecDepth 100000 in
theorem digits35 (p : Pl) (v : Int) (w : World) (he : Env w) (h1 : -9223372036854775808 ≤ v) (h2 : v ≤ 9223372036854775807) : Calls Tryd.prog 35 #[plV p, .int .i64 v] w fun e w' => e = .returned (sgV (sgnO p.ch v)) ∧ Below w.heap.size w w' := by
  have HB0 := fun o => Lib.hid ((Below.refl w.heap.size w).alloc (Nat.le_refl _) o)
  have HE := Lib.hid fun o => he.below ((Below.refl _ w).alloc (Nat.le_refl _) o)
  have C8 := Lib.hid fun W h => fu_8 (m64 v) (m64_lt v) W h
  have C16 := Lib.hid fun W h => fu_16 (m64 v) (m64_lt v) W h
  have C10 := Lib.hid fun W (h : Env W) => fu41 (m64 v) (m64_lt v) W h.tab
  have CI := Lib.hid fun W (h : Env W) => Tryd.strconv_FormatInt_10 v h1 h2 W h.tab
  have CU := Lib.hid fun W => Tryd.strings_ToUpper_ascii (mk (bd 16 (m64 v))) W (by
    rw [mk_size]
    have := bd16_len v
    omega) (fun j b hb => by
    have := bd_ascii _ b (List.mem_of_getElem? hb)
    omega)
  rw [show (mk (bd 16 (m64 v))).data.toList = bd 16 (m64 v) from rfl, up_is] at CU
  have hm := m64_wrap v
  obtain ⟨X, HX⟩ : ∃ X, Hid (sgnO p.ch v = X) := ⟨_, Lib.hid rfl⟩
  rw [HX.out]
  unfold sgnO at HX
  obtain ⟨a, b, wd, pr, ch⟩ := p
  unfold plV plC
  simp only at HX ⊢
  clear he
  by_cases c1 : ch = 111
  · subst c1
    have HXX : Hid (X = ([], bd 8 (m64 v))) := Lib.hid HX.out.symm
    clear C16 C10 CI CU
    go_enter Tryd.func35, Tryd.ntmps35
    go_wp2_with (go_at_call 41; (refine (C8.out _ (HE.out _)).mono ?_; rintro e w' ⟨rfl, hb⟩))
    go_ret2
    exact ⟨by rw [HXX.out]; rfl, (HB0 _).out.trans (hb.mono (HB0 _).out.size)⟩
  have e1 : ((ch : Int) == 111) = false := by simp; omega
  have HX1 := Lib.hid (by have := HX.out; rw [if_neg c1] at this; exact this)
  clear HX C8 c1
  by_cases c2 : ch = 117
  · subst c2
    have HXX : Hid (X = ([], Lib.decDigits (m64 v))) := Lib.hid HX1.out.symm
    clear C16 CI CU HX1
    go_enter Tryd.func35, Tryd.ntmps35
    go_wp2_with (go_at_call 41; (refine (C10.out _ (HE.out _)).mono ?_; rintro e w' ⟨rfl, hb⟩))
    go_ret2
    exact ⟨by rw [HXX.out]; rfl, (HB0 _).out.trans (hb.mono (HB0 _).out.size)⟩
  have e2 : ((ch : Int) == 117) = false := by simp; omega
  have HX2 := Lib.hid (by have := HX1.out; rw [if_neg c2] at this; exact this)
  clear HX1 C10 c2
  by_cases c3 : ch = 120
  · subst c3
    have HXX : Hid (X = ([], bd 16 (m64 v))) := Lib.hid HX2.out.symm
    clear CI CU HX2
    go_enter Tryd.func35, Tryd.ntmps35
    go_wp2_with (go_at_call 41; (refine (C16.out _ (HE.out _)).mono ?_; rintro e w' ⟨rfl, hb⟩))
    go_ret2
    exact ⟨by rw [HXX.out]; rfl, (HB0 _).out.trans (hb.mono (HB0 _).out.size)⟩
  have e3 : ((ch : Int) == 120) = false := by simp; omega
  have HX3 := Lib.hid (by have := HX2.out; rw [if_neg c3] at this; exact this)
  clear HX2 c3
  by_cases c4 : ch = 88
  · subst c4
    have HXX : Hid (X = ([], up (bd 16 (m64 v)))) := Lib.hid HX3.out.symm
    clear CI HX3
    go_enter Tryd.func35, Tryd.ntmps35
    go_wp2_with (go_at_call 41; (refine (C16.out _ (HE.out _)).mono ?_; rintro e w' ⟨rfl, hb⟩))
    have B1 := Lib.hid ((HB0 (.cells #[.bool a, .bool b, .bool pr.isSome, .int .i64 wd, .int .i64 (pr.getD 0 : Nat), .int .u8 (88 : Nat)] 53)).out.trans (hb.mono (HB0 _).out.size))
    clear hb
    go_wp2_with (go_at_call 42; (refine (CU.out _).mono ?_; rintro e w' ⟨rfl, hb⟩))
    go_ret2
    exact ⟨by rw [HXX.out]; rfl, B1.out.trans (hb.mono B1.out.size)⟩
  have e4 : ((ch : Int) == 88) = false := by simp; omega
  have HX4 := Lib.hid (by have := HX3.out; rw [if_neg c4] at this; exact this)
  clear HX3 c4 CU C16
  by_cases hn : v < 0
  · rw [itoa_neg v hn] at CI
    obtain ⟨T, HT⟩ : ∃ T, Hid (Lib.decDigits (-v).toNat = T) := ⟨_, Lib.hid rfl⟩
    rw [HT.out] at CI
    have HXX : Hid (X = ([45], T)) := Lib.hid (by have := HX4.out; rw [if_pos hn, HT.out] at this; exact this.symm)
    obtain ⟨S, HS⟩ : ∃ S, Hid (mk (45 :: T) = S) := ⟨_, Lib.hid rfl⟩
    have CI2 : Hid (∀ W, Env W → Calls Tryd.prog 43 #[.int .i64 v, .int .i64 10] W fun e w' => e = .returned (.string S) ∧ Below W.heap.size W w') := Lib.hid (fun W h => (CI.out W h).mono fun e w' ⟨he, k, os, hw⟩ => by
      subst hw
      refine ⟨?_, Lib.below_grow _ W (Nat.le_refl _) k os⟩
      rw [he, ← HS.out]; rfl)
    have hz : 1 ≤ S.size := by rw [← HS.out, mk_size]; simp
    have HS1 : Hid (S.extract 0 1 = mk [45]) := Lib.hid (by apply ls_inj; rw [ls_take, ← HS.out]; rfl)
    have HS2 : Hid (S.extract 1 S.size = mk T) := Lib.hid (by apply ls_inj; rw [ls_drop, ← HS.out]; rfl)
    clear CI HT HS
    go_enter Tryd.func35, Tryd.ntmps35
    go_wp2_with (go_at_call 43; (refine (CI2.out _ (HE.out _)).mono ?_; rintro e w' ⟨rfl, hb⟩))
    have B1 := Lib.hid ((HB0 (.cells #[.bool a, .bool b, .bool pr.isSome, .int .i64 wd, .int .i64 (pr.getD 0 : Nat), .int .u8 ch] 53)).out.trans (hb.mono (HB0 _).out.size))
    clear hb
    go_region
    all_goals (
      go_wp2
      go_ret2
      exact ⟨by rw [HXX.out, HS1.out, HS2.out]; rfl, B1.out.drew⟩)
  · rw [itoa_pos v hn] at CI
    have HXX : Hid (X = ([], Lib.decDigits v.toNat)) := Lib.hid (by have := HX4.out; rw [if_neg hn] at this; exact this.symm)
    go_enter Tryd.func35, Tryd.ntmps35
    go_wp2_with (go_at_call 43; (refine (CI.out _ (HE.out _)).mono ?_; rintro e w' ⟨rfl, k, os, rfl⟩))
    go_ret2
    exact ⟨by rw [HXX.out]; rfl, (HB0 _).out.trans ((Lib.below_grow _ _ (Nat.le_refl _) k os).mono (HB0 _).out.size)⟩
def nmO (x : Option Int) (e : Ending) : Prop := match x with
  | some v => e = .returned (.tuple #[.int .i64 v, .bool true])
  | none => ∃ y : Int, e = .returned (.tuple #[.int .i64 y, .bool false])
theorem numO_range (a : List UInt8) (v : Int) (h : numO a = some v) : -9223372036854775808 ≤ v ∧ v ≤ 9223372036854775807 := by
  unfold numO at h
  split at h
  · injection h with h; omega
  · split at h
    · injection h with h
      have := at0_lt a 1
      omega
    · split at h
      · rename_i u hu
        injection h with h
        subst h
        unfold Lib.parseIntB at hu
        split at hu
        · cases hu
        · simp only at hu
          split at hu
          · cases hu
          · cases hu
          · split at hu
            · cases hu
            · split at hu
              · cases hu
              · rename_i g1 g2
                injection hu with hu
                split at hu
                · rename_i hneg; simp [hneg] at g1 g2; omega
                · rename_i hneg; simp [hneg] at g1 g2; omega
      · cases h
set_option maxHeartbeats 4000000 in
set_option maxRecDepth 100000 in
theorem number34 (s : ByteArray) (w : World) (he : Env w) (hs : s.size ≤ 1000000) : Calls Tryd.prog 34 #[.string s] w fun e w' => nmO (numO (ls s)) e ∧ Below w.heap.size w w' := by
  have hb := get_bt s
  obtain ⟨X, HX⟩ : ∃ X, Hid (numO (ls s) = X) := ⟨_, Lib.hid rfl⟩
  rw [HX.out]
  unfold numO at HX
  have HB := Lib.hid (Below.refl w.heap.size w)
  by_cases h0 : s.size = 0
  · have hem := toList_em h0
    have HXX : Hid (X = some 0) := Lib.hid (by have := HX.out; rw [if_pos (ls_em h0)] at this; exact this.symm)
    clear HX
    go_enter Tryd.func34, Tryd.ntmps34
    go_wp2
    go_ret2
    exact ⟨by rw [HXX.out]; rfl, HB.out⟩
  have hne := toList_ne (s := s) (by omega)
  have HX1 := Lib.hid (by have := HX.out; rw [if_neg (ls_ne (by omega))] at this; exact this)
  clear HX
  rw [ls_len] at HX1
  have H0 := Lib.hid (bt_at s 0)
  have H1 := Lib.hid (bt_at s 1)
  have hw64 : wrap64 (bt s 1) = bt s 1 := by have b0 := bt_nonneg s 1; have b1 := bt_le s 1; unfold wrap64; omega
  by_cases hq : s.size = 2 ∧ (at0 (ls s) 0 = 39 ∨ at0 (ls s) 0 = 34)
  · have HXX : Hid (X = some (wrap64 (bt s 1))) := Lib.hid (by have := HX1.out; rw [if_pos hq, ← H1.out] at this; rw [hw64]; exact this.symm)
    clear hw64
    obtain ⟨h2, h3⟩ := hq
    have hz : ((s.size : Int) == 2) = true := by rw [h2]; rfl
    clear HX1
    rcases h3 with h3 | h3
    · have e1 : (bt s 0 == 39) = true := by rw [H0.out, h3]; rfl
      clear h3
      go_enter Tryd.func34, Tryd.ntmps34
      go_wp2
      go_ret2
      exact ⟨by rw [HXX.out]; rfl, HB.out⟩
    · have e1 : (bt s 0 == 39) = false := by rw [H0.out, h3]; rfl
      have e2 : (bt s 0 == 34) = true := by rw [H0.out, h3]; rfl
      clear h3
      go_enter Tryd.func34, Tryd.ntmps34
      go_wp2
      go_ret2
      exact ⟨by rw [HXX.out]; rfl, HB.out⟩
  have HX2 := Lib.hid (by have := HX1.out; rw [if_neg hq] at this; exact this)
  clear HX1
  have HN : Hid (∀ W, Env W → Calls Tryd.prog 40 #[.string s, .int .i64 10, .int .i64 64] W fun e w' => (∃ (y : Int) (er : Value), e = .returned (.tuple #[.int .i64 y, er]) ∧ ((er = .nilIface ∧ X = some y) ∨ ((∃ N, er = .iface 98 (.pointer (some ⟨N, 0, none⟩))) ∧ X = none))) ∧ Below W.heap.size W w') := Lib.hid (fun W hW => by
    have := HX2.out
    cases hp : Lib.parseIntB 64 (ls s) with
    | ok v =>
      rw [hp] at this
      exact (Tryd.strconv_ParseInt_10_at64_ok s (by omega) v hp W).mono fun e w' ⟨h1, h2⟩ => by
        refine ⟨⟨v, .nilIface, h1, .inl ⟨rfl, this.symm⟩⟩, ?_⟩
        rcases h2 with rfl | ⟨t, rfl⟩
        · exact Below.refl _ _
        · exact Lib.bytesWorld_below _ _ _
    | «syntax» =>
      rw [hp] at this
      obtain ⟨te, pe, hv⟩ := hW.esyn
      exact (Tryd.strconv_ParseInt_10_at64_syntax s (by omega) hp _ W hv (.inr ⟨te, pe, rfl⟩)).mono fun e w' ⟨N, h1, h2, h3, h4⟩ => by
        exact ⟨⟨_, _, h1, .inr ⟨⟨N, rfl⟩, this.symm⟩⟩, h4⟩
    | range =>
      rw [hp] at this
      obtain ⟨te, pe, hv⟩ := hW.erng
      exact (Tryd.strconv_ParseInt_10_at64_range s (by omega) hp _ W hv (.inr ⟨te, pe, rfl⟩)).mono fun e w' ⟨N, h1, h2, h3, h4⟩ => by
        exact ⟨⟨_, _, h1, .inr ⟨⟨N, rfl⟩, this.symm⟩⟩, h4⟩)
  clear HX2
  by_cases h2 : s.size = 2
  · have hz : ((s.size : Int) == 2) = true := by rw [h2]; rfl
    have e1 : (bt s 0 == 39) = false := by
      rw [H0.out]
      have : at0 (ls s) 0 ≠ 39 := fun h => hq ⟨h2, .inl h⟩
      simp; omega
    have e2 : (bt s 0 == 34) = false := by
      rw [H0.out]
      have : at0 (ls s) 0 ≠ 34 := fun h => hq ⟨h2, .inr h⟩
      simp; omega
    clear hq
    go_enter Tryd.func34, Tryd.ntmps34
    go_wp2_with fail
    refine (HN.out _ he).mono ?_
    rintro e w1 ⟨⟨y, er, rfl, hor⟩, hbl⟩
    have B1 := Lib.hid hbl
    clear hbl HN he
    rcases hor with ⟨rfl, hX⟩ | ⟨⟨N, rfl⟩, hX⟩
    · have HXX := Lib.hid hX
      clear hX
      go_wp2_with fail
      go_region
      go_wp2
      go_ret2
      exact ⟨by rw [HXX.out]; rfl, B1.out.drew⟩
    · have HXX := Lib.hid hX
      clear hX
      go_wp2_with fail
      go_region
      go_wp2
      go_ret2
      exact ⟨by rw [HXX.out]; exact ⟨_, rfl⟩, B1.out.drew⟩
  · have hz : ((s.size : Int) == 2) = false := by simp; omega
    clear hq
    go_enter Tryd.func34, Tryd.ntmps34
    go_wp2_with fail
    refine (HN.out _ he).mono ?_
    rintro e w1 ⟨⟨y, er, rfl, hor⟩, hbl⟩
    have B1 := Lib.hid hbl
    clear hbl HN he
    rcases hor with ⟨rfl, hX⟩ | ⟨⟨N, rfl⟩, hX⟩
    · have HXX := Lib.hid hX
      clear hX
      go_wp2_with fail
      go_region
      go_wp2
      go_ret2
      exact ⟨by rw [HXX.out]; rfl, B1.out.drew⟩
    · have HXX := Lib.hid hX
      clear hX
      go_wp2_with fail
      go_region
      go_wp2
      go_ret2
      exact ⟨by rw [HXX.out]; exact ⟨_, rfl⟩, B1.out.drew⟩
end Go.Proofs.YtckhomeokhhneaaDoor
