/- Contracts of bytes behind backslashes, ours. Conditions: lengths below a bound. -/
import Derived.Test.YtckhomeokhhneaaDoorC
namespace Go.Proofs.YtckhomeokhhneaaDoor
open Go.RowKit Go.PlainAid
set_option linter.unusedSimpArgs false
set_option linter.unusedVariables false

theorem indexAny (l : List UInt8) (c : UInt8) : Lib.indexByte l c = if l.idxOf c < l.length then (l.idxOf c : Int) else -1 := by
  have hge := Lib.indexByte_ge l c
  by_cases h : l.idxOf c < l.length
  · rw [if_pos h]
    have h10 : l[l.idxOf c] = c := List.getElem_idxOf h
    by_cases hm : Lib.indexByte l c = -1
    · exact absurd (by rw [List.getElem?_eq_getElem h, h10]) (Lib.indexByte_none hm (l.idxOf c))
    · obtain ⟨o, ho⟩ : ∃ o : Nat, Lib.indexByte l c = o := ⟨(Lib.indexByte l c).toNat, by omega⟩
      obtain ⟨hs, hlt⟩ := Lib.indexByte_some ho
      rw [ho]
      obtain ⟨ho2, hso⟩ := List.getElem?_eq_some_iff.1 hs
      congr 1
      rcases Nat.lt_trichotomy o (l.idxOf c) with h1 | h1 | h1
      · have := List.not_of_lt_findIdx (p := fun x => x == c) (xs := l) (i := o) (by simpa [List.idxOf] using h1)
        simp [hso] at this
      · exact h1
      · exact absurd (by rw [List.getElem?_eq_getElem h, h10]) (hlt (l.idxOf c) h1)
  · rw [if_neg h]
    by_cases hm : Lib.indexByte l c = -1
    · exact hm
    · obtain ⟨o, ho⟩ : ∃ o : Nat, Lib.indexByte l c = o := ⟨(Lib.indexByte l c).toNat, by omega⟩
      obtain ⟨hs, _⟩ := Lib.indexByte_some ho
      exact absurd (List.idxOf_lt_length_iff.2 (List.mem_of_getElem? hs)) h
theorem getD_drop (s : ByteArray) (k : Nat) : ((ls s).drop k).getD 0 0 = UInt8.ofNat (at0 (ls s) k) := by
  unfold at0
  rw [UInt8.ofNat_toNat, List.getD_eq_getElem?_getD, List.getElem?_drop, List.getD_eq_getElem?_getD]; rfl
def lx (s : ByteArray) (k : Nat) : Nat := letL.idxOf (UInt8.ofNat (at0 (ls s) k))
theorem ib_let (s : ByteArray) (k : Nat) (w : World) : Calls Tryd.prog 24 #[.string ⟨#[92, 97, 98, 102, 110, 114, 116, 118]⟩, .int .u8 (at0 (ls s) k : Nat)] w fun e w' => e = .returned (.int .i64 (if lx s k < 8 then (lx s k : Int) else -1)) ∧ w = w' :=
  (Tryd.strings_IndexByte ⟨#[92, 97, 98, 102, 110, 114, 116, 118]⟩ (at0 (ls s) k : Nat) w).mono fun e w' ⟨h1, h2⟩ => by
    refine ⟨?_, h2.symm⟩
    rw [h1, show (⟨#[92, 97, 98, 102, 110, 114, 116, 118]⟩ : ByteArray).data.toList = letL from rfl, indexAny]
    rfl
theorem bsl_let (s : ByteArray) (k : Nat) (h : lx s k < 8) : bsl ((ls s).drop k) = (letR.getD (lx s k) 0, 1) := by
  unfold bsl; simp only; rw [getD_drop]; exact if_pos h
theorem bsl_oct (s : ByteArray) (k : Nat) (h : ¬ lx s k < 8) : bsl ((ls s).drop k) = if (octs 3 ((ls s).drop k) 0 0).2 = 0 then (92, 0) else (UInt8.ofNat (octs 3 ((ls s).drop k) 0 0).1, (octs 3 ((ls s).drop k) 0 0).2) := by
  unfold bsl; simp only; rw [getD_drop]; exact if_neg h
theorem at0_byte (l : List UInt8) (k : Nat) : (UInt8.ofNat (at0 l k)).toNat = at0 l k := by rw [UInt8.toNat_ofNat', Nat.mod_eq_of_lt (at0_lt l k)]
theorem octs_cut (s : ByteArray) (k f v n : Nat) (h : k < s.size) : octs (f + 1) ((ls s).drop k) v n = if oc (at0 (ls s) k) then octs f ((ls s).drop (k + 1)) (8 * v + (at0 (ls s) k - 48)) (n + 1) else (v, n) := by
  rw [ls_cut s k h, octs, at0_byte]
theorem octs_end (s : ByteArray) (k f v n : Nat) (h : s.size ≤ k) : octs f ((ls s).drop k) v n = (v, n) := by
  rw [List.drop_eq_nil_of_le (by rw [ls_len]; exact h)]; cases f <;> rfl
def Rel17 (s : ByteArray) (R : Nat × Nat) (b n : Value) : Prop := ∃ (k v : Nat), 1 ≤ k ∧ k ≤ 4 ∧ k ≤ s.size ∧ n = .int .i64 k ∧ b = .int .u8 ((v % 256 : Nat) : Int) ∧ Hid (octs (4 - k) ((ls s).drop k) v (k - 1) = R)
theorem step_u8 (v c : Nat) (h1 : 48 ≤ c) (h2 : c ≤ 55) : ((((v : Int) % 256) * 8 + (c : Int)) % 256 - 48) % 256 = (((8 * v + (c - 48)) % 256 : Nat) : Int) := by omega
/-- What the call answers. -/
def bsV (x : UInt8 × Nat) : Value := .tuple #[.int .u8 (x.1.toNat : Int), .int .i64 (1 + x.2 : Nat)]
theorem bsV_val (v k : Nat) (hk : 1 ≤ k) : bsV (UInt8.ofNat v, k - 1) = .tuple #[.int .u8 ((v : Int) % 256), .int .i64 (k : Int)] := by
  unfold bsV; simp only [UInt8.toNat_ofNat']; rw [show 1 + (k - 1) = k by omega]; rfl
set_option maxHeartbeats 4000000 in
set_option maxRecDepth 100000 in
theorem backslash17 (s : ByteArray) (w : World) (h1 : 1 ≤ s.size) (hs : s.size ≤ 1000000) : Calls Tryd.prog 17 #[.string s] w fun e w' => e = .returned (bsV (bsl ((ls s).drop 1))) ∧ w = w' := by
  have hb := get_bt s
  have HA := Lib.hid (bt_at s)
  obtain ⟨R, HR⟩ : ∃ R, Hid (octs 3 ((ls s).drop 1) 0 0 = R) := ⟨_, Lib.hid rfl⟩
  by_cases hx : lx s 1 < 8
  · have hsz : 1 < s.size := by
      rcases Nat.lt_or_ge 1 s.size with h | h
      · exact h
      · unfold lx at hx; rw [at0_end (by rw [ls_len]; exact h)] at hx; exact absurd hx (by decide)
    have C := Lib.hid fun W => ib_let s 1 W
    rw [if_pos hx, ← HA.out] at C
    rw [bsl_let s 1 hx]
    have hb2 := get_bt ⟨#[92, 7, 8, 12, 10, 13, 9, 11]⟩
    generalize lx s 1 = i at C hx ⊢
    unfold bsV
    simp only
    have HL : Hid (bt ⟨#[92, 7, 8, 12, 10, 13, 9, 11]⟩ i = ((letR.getD i 0).toNat : Int)) := Lib.hid (by
      have : i = 0 ∨ i = 1 ∨ i = 2 ∨ i = 3 ∨ i = 4 ∨ i = 5 ∨ i = 6 ∨ i = 7 := by omega
      rcases this with rfl | rfl | rfl | rfl | rfl | rfl | rfl | rfl <;> rfl)
    have hz2 : (⟨#[92, 7, 8, 12, 10, 13, 9, 11]⟩ : ByteArray).size = 8 := rfl
    go_enter Tryd.func17, Tryd.ntmps17
    go_wp2_with (go_at_call 24; refine (C.out _).mono ?_; rintro e w' ⟨rfl, rfl⟩)
    go_ret2
    rw [HL.out]
    exact ⟨rfl, rfl⟩
  · have HBS := Lib.hid (bsl_oct s 1 hx)
    rw [HR.out] at HBS
    obtain ⟨X, HX⟩ : ∃ X, Hid (bsl ((ls s).drop 1) = X) := ⟨_, Lib.hid rfl⟩
    rw [HX.out] at HBS ⊢
    have C := Lib.hid fun W => ib_let s 1 W
    rw [if_neg hx, ← HA.out] at C
    clear hx HX
    by_cases h2 : 1 < s.size
    · go_enter Tryd.func17, Tryd.ntmps17
      go_wp2_with (go_at_call 24; refine (C.out _).mono ?_; rintro e w' ⟨rfl, rfl⟩)
      go_loop [2, 3] (Rel17 s R) (fun _ n => s.size - (intOf n).toNat)
      case atStart => exact ⟨1, 0, by omega, by omega, h1, rfl, rfl, HR⟩
      case round =>
        obtain ⟨k, v, hk1, hk4, hks, rfl, rfl, HM⟩ := hrel
        by_cases hlt : k < s.size
        · have hc := at0_lt (ls s) k
          have Hk := Lib.hid (bt_at s k)
          by_cases h4 : k ≤ 3
          · have HC := Lib.hid (octs_cut s k (3 - k) v (k - 1) hlt)
            rw [show 3 - k + 1 = 4 - k by omega, HM.out] at HC
            by_cases d1 : 48 ≤ at0 (ls s) k
            · by_cases d2 : at0 (ls s) k ≤ 55
              · have e1 : decide (48 ≤ bt s k) = true := decide_eq_true (by rw [Hk.out]; omega)
                have e2 : decide (bt s k ≤ 55) = true := decide_eq_true (by rw [Hk.out]; omega)
                have HS := Lib.hid (step_u8 v (at0 (ls s) k) d1 d2)
                rw [← Hk.out] at HS
                have HN : Hid (octs (4 - (k + 1)) ((ls s).drop (k + 1)) (8 * v + (at0 (ls s) k - 48)) (k + 1 - 1) = R) := Lib.hid (by
                  rw [HC.out, if_pos (by unfold oc; simp; omega)]; congr 1; all_goals omega)
                clear HC
                go_wp2
                go_round
                case rel => exact ⟨k + 1, _, by omega, by omega, hlt, by go_num, congrArg (Value.int .u8) HS.out, HN⟩
                case measure => simp [intOf]; omega
              · have e1 : decide (48 ≤ bt s k) = true := decide_eq_true (by rw [Hk.out]; omega)
                have e2 : decide (bt s k ≤ 55) = false := decide_eq_false (by rw [Hk.out]; omega)
                have HRR : Hid (R = (v, k - 1)) := Lib.hid (by rw [HC.out, if_neg (by unfold oc; simp; omega)])
                clear HC
                by_cases hk : k = 1
                · subst hk
                  have HXX : Hid (X = (92, 0)) := Lib.hid (by rw [HBS.out, HRR.out]; rfl)
                  go_wp2
                  go_ret2
                  exact ⟨by rw [HXX.out]; rfl, rfl⟩
                · have hne : ((k : Int) == 1) = false := by simp; omega
                  have HXX : Hid (X = (UInt8.ofNat v, k - 1)) := Lib.hid (by rw [HBS.out, HRR.out, if_neg (by show ¬ (k - 1 = 0); omega)])
                  go_wp2
                  go_ret2
                  exact ⟨by rw [HXX.out, bsV_val v k hk1]; rfl, rfl⟩
            · have e1 : decide (48 ≤ bt s k) = false := decide_eq_false (by rw [Hk.out]; omega)
              have HRR : Hid (R = (v, k - 1)) := Lib.hid (by rw [HC.out, if_neg (by unfold oc; simp; omega)])
              clear HC
              by_cases hk : k = 1
              · subst hk
                have HXX : Hid (X = (92, 0)) := Lib.hid (by rw [HBS.out, HRR.out]; rfl)
                go_wp2
                go_ret2
                exact ⟨by rw [HXX.out]; rfl, rfl⟩
              · have hne : ((k : Int) == 1) = false := by simp; omega
                have HXX : Hid (X = (UInt8.ofNat v, k - 1)) := Lib.hid (by rw [HBS.out, HRR.out, if_neg (by show ¬ (k - 1 = 0); omega)])
                go_wp2
                go_ret2
                exact ⟨by rw [HXX.out, bsV_val v k hk1]; rfl, rfl⟩
          · obtain rfl : k = 4 := by omega
            have HRR : Hid (R = (v, 3)) := Lib.hid (by rw [← HM.out]; rfl)
            have HXX : Hid (X = (UInt8.ofNat v, 4 - 1)) := Lib.hid (by rw [HBS.out, HRR.out, if_neg (by show ¬ (3 = 0); omega)])
            go_wp2
            go_ret2
            exact ⟨by rw [HXX.out, bsV_val v 4 (by omega)]; rfl, rfl⟩
        · have HRR : Hid (R = (v, k - 1)) := Lib.hid (by rw [← HM.out, octs_end _ _ _ _ _ (by omega)])
          have hkl : decide ((k : Int) < (s.size : Int)) = false := decide_eq_false (by omega)
          have hkl2 : decide (k < s.size) = false := decide_eq_false (by omega)
          by_cases hk : k = 1
          · exfalso; omega
          · have hne : ((k : Int) == 1) = false := by simp; omega
            have HXX : Hid (X = (UInt8.ofNat v, k - 1)) := Lib.hid (by rw [HBS.out, HRR.out, if_neg (by show ¬ (k - 1 = 0); omega)])
            go_wp2
            go_ret2
            exact ⟨by rw [HXX.out, bsV_val v k hk1]; rfl, rfl⟩
    · obtain h2' : s.size = 1 := by omega
      have hkl2 : decide (1 < s.size) = false := decide_eq_false (by omega)
      have H2 := Lib.hid h2'
      clear h2'
      go_enter Tryd.func17, Tryd.ntmps17
      go_wp2_with (go_at_call 24; refine (C.out _).mono ?_; rintro e w' ⟨rfl, rfl⟩)
      go_loop [2, 3] (Rel17 s R) (fun _ n => s.size - (intOf n).toNat)
      case atStart => exact ⟨1, 0, by omega, by omega, h1, rfl, rfl, HR⟩
      case round =>
        obtain ⟨k, v, hk1, hk4, hks, rfl, rfl, HM⟩ := hrel
        obtain rfl : k = 1 := by have := H2.out; omega
        have HRR : Hid (R = (v, 1 - 1)) := Lib.hid (by rw [← HM.out, octs_end _ _ _ _ _ (by rw [H2.out]; exact Nat.le_refl _)])
        have HXX : Hid (X = (92, 0)) := Lib.hid (by rw [HBS.out, HRR.out]; rfl)
        go_wp2
        go_ret2
        exact ⟨by rw [HXX.out]; rfl, rfl⟩
end Go.Proofs.YtckhomeokhhneaaDoor
