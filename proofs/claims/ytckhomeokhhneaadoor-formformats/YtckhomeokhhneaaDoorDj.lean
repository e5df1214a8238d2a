/- The document's Format. Conditions: lengths below a bound. -/
import Derived.Test.YtckhomeokhhneaaDoorDi
namespace Go.Proofs.YtckhomeokhhneaaDoor
open Go.RowKit Go.PlainAid
set_option linter.unusedSimpArgs false
set_option linter.unusedVariables false

theorem tk_bs {A : List (List UInt8)} {f : ByteArray} {k u : Nat} {T : List UInt8} (h : k < f.size) (h2 : at0 (ls f) k = 92) (b : UInt8) (n : Nat) (hb : byteD ((ls f).drop (k + 1)) = (b, n)) (hn : 0 < n) : tellM A ((ls f).drop k) u T = tellM A ((ls f).drop (k + 1 + n)) u (T ++ [b]) := by
  rw [ls_cut f k h, h2, show UInt8.ofNat 92 = 92 from rfl, tell_bs, bsl_byte, hb, if_neg (show ¬ n = 0 by omega), List.drop_drop]
theorem tk_ch {A : List (List UInt8)} {f : ByteArray} {k u : Nat} {T : List UInt8} (h : k < f.size) (h2 : at0 (ls f) k ≠ 37) (h3 : at0 (ls f) k ≠ 92 ∨ (byteD ((ls f).drop (k + 1))).2 = 0) : tellM A ((ls f).drop k) u T = tellM A ((ls f).drop (k + 1)) u (T ++ [UInt8.ofNat (at0 (ls f) k)]) := by
  rw [ls_cut f k h]
  by_cases h9 : at0 (ls f) k = 92
  · rcases h3 with h3 | h3
    · exact absurd h9 h3
    · rw [h9, show UInt8.ofNat 92 = 92 from rfl, tell_bs, bsl_byte, if_pos h3]; rfl
  · refine tell_ch _ _ _ _ _ ?_ ?_
    · intro e
      have := congrArg UInt8.toNat e
      rw [at0_byte] at this
      exact h9 this
    · intro e
      have := congrArg UInt8.toNat e
      rw [at0_byte] at this
      exact h2 this
theorem tk_37 {f : ByteArray} {k : Nat} (h : k < f.size) (h2 : at0 (ls f) k = 37) : (ls f).drop k = 37 :: (ls f).drop (k + 1) := by
  rw [ls_cut f k h, h2]; rfl
theorem one_ext (f : ByteArray) (k : Nat) (h : k < f.size) : f.extract k (k + 1) = mk [UInt8.ofNat (at0 (ls f) k)] := by
  apply ls_inj
  rw [ls_part, ls_mk, ls_cut f k h]
  rfl
def RelI (f : ByteArray) (A : List (List UInt8)) (w : World) (u0 : Nat) (Y : Except Nat (Nat × List UInt8)) (x y i : Value) (wx : World) : Prop := ∃ (k u : Nat) (T : List UInt8), k ≤ f.size ∧ i = .int .i64 k ∧ x = .string (mk T) ∧ y = .int .i64 u ∧ u0 ≤ u ∧ u ≤ u0 + k ∧ T.length + 102100 * (f.size - k) ≤ 900000000000 ∧ Hid (tellM A ((ls f).drop k) u T = Y) ∧ Hid (Below w.heap.size w wx)
def RelO (f : ByteArray) (A : List (List UInt8)) (w : World) (R : Except Nat (List UInt8)) (x y : Value) (wx : World) : Prop := ∃ (u : Nat) (T : List UInt8), x = .string (mk T) ∧ y = .int .i64 u ∧ Hid (formatM A (ls f) u T = R) ∧ Hid (u = 0 ∨ 0 < cnt (ls f)) ∧ u ≤ 1000 ∧ T.length ≤ 4194304 ∧ Hid (Below w.heap.size w wx)
set_option maxHeartbeats 8000000 in
set_option maxRecDepth 100000 in
theorem format14 (f : ByteArray) (v : Value) (S0 : List ByteArray) (w : World) (hv : Strs w v S0) (hf : f.size ≤ 1000) (hn : S0.length ≤ 1000) (hS : ∀ s ∈ S0, s.size ≤ 100000) :
    Calls Tryd.prog 14 #[.string f, v] w fun e w' => FmE (formatM (S0.map ls) (ls f) 0 []) e ∧ Below w.heap.size w w' := by
  have hb := get_bt f
  obtain ⟨R, HM⟩ : ∃ R, Hid (formatM (S0.map ls) (ls f) 0 [] = R) := ⟨_, Lib.hid rfl⟩
  rw [HM.out]
  obtain ⟨A, HAA⟩ : ∃ A, Hid (S0.map ls = A) := ⟨_, Lib.hid rfl⟩
  rw [HAA.out] at HM
  have HV := Lib.hid hv
  have HS := Lib.hid hS
  have hal : A.length = S0.length := by rw [← HAA.out, List.length_map]
  obtain ⟨va, vc, rfl⟩ := hv.shape
  clear hS hv
  go_enter Tryd.func14, Tryd.ntmps14
  go_wp2
  go_loopw [6, 7] (RelO f A w R) (fun _ y _ => A.length - (intOf y).toNat)
  case atStart => exact ⟨0, [], rfl, rfl, HM, Lib.hid (.inl rfl), by omega, by simp, Lib.hid (Below.refl _ _)⟩
  case round =>
    obtain ⟨u0, T0, rfl, rfl, HR, HC, hu0, hT0, HB0⟩ := hrel
    rename World => wo
    obtain ⟨Y, HY⟩ : ∃ Y, Hid (tellM A (ls f) u0 T0 = Y) := ⟨_, Lib.hid rfl⟩
    go_wp2
    go_loopw [6, 7, 9] (RelI f A w u0 Y) (fun _ _ i _ => f.size - (intOf i).toNat)
    case atStart => exact ⟨0, u0, T0, Nat.zero_le _, rfl, rfl, rfl, Nat.le_refl _, by omega, by omega, Lib.hid (by rw [List.drop_zero]; exact HY.out), HB0⟩
    case round =>
      obtain ⟨k, u, T, hk, rfl, rfl, rfl, huu, huk, hT, HT, HB⟩ := hrel
      rename World => wi
      by_cases hlt : k < f.size
      · have HA := Lib.hid (bt_at f k)
        have hat := at0_lt (ls f) k
        have CB := Lib.hid (byte18 f (k + 1) wi (by omega) hlt)
        have HK1 := Lib.hid (fun b n => tk_bs (A := A) (u := u) (T := T) hlt (b := b) (n := n))
        have HK2 := Lib.hid (tk_ch (A := A) (u := u) (T := T) hlt)
        have hle := byteD_le ((ls f).drop (k + 1))
        rw [List.length_drop, ls_len] at hle
        generalize byteD ((ls f).drop (k + 1)) = X2 at CB HK1 HK2 hle
        obtain ⟨b, n⟩ := X2
        unfold byV at CB
        simp only at CB hle
        obtain ⟨k1, Hk1⟩ : ∃ k1, Hid (k + 1 = k1) := ⟨_, Lib.hid rfl⟩
        have hw1 : IntKind.i64.wrap ((k : Int) + 1) = (k1 : Int) := by rw [IntKind.wrap_i64]; have := Hk1.out; omega
        have hk1s : k1 ≤ f.size := by have := Hk1.out; omega
        rw [Hk1.out] at CB
        go_upto_region 7 with (go_at_call 18; refine CB.out.mono ?_; rintro e w1 ⟨rfl, b1⟩; have HB1 := Lib.hid (HB.out.trans (b1.mono HB.out.size)); clear b1)
        clear CB
        have hTs : (mk T).size = T.length := mk_size T
        have hTb : T.length ≤ 900000000000 := by omega
        by_cases h37 : at0 (ls f) k = 37
        · have e1 : (bt f k == 92) = false := by rw [HA.out, h37]; rfl
          have e2 : (bt f k != 37) = false := by rw [HA.out, h37]; rfl
          have CP := Lib.hid (place19 f k1 w1 hk1s (by omega))
          have HTK := Lib.hid (tk_37 hlt h37)
          rw [Hk1.out] at HTK
          clear HK1 HK2
          cases hp : placeO ((ls f).drop k1) with
          | none =>
            have HYY : Hid (Y = .error 11) := Lib.hid (by rw [← HT.out, HTK.out, tell_bad _ _ _ _ hp])
            have HRR : Hid (R = .error 11) := Lib.hid (by rw [← HR.out, fm_err (HY.out.trans HYY.out)])
            rw [hp] at CP
            unfold plE pC at CP
            simp only at CP
            clear hp h37
            go_wp2_with (go_at_call 19; refine CP.out.mono ?_; rintro e w2 ⟨⟨pa, pb, pw, pq, pc, rfl⟩, b2⟩; have HB2 := Lib.hid (HB1.out.trans (b2.mono HB1.out.size)); clear b2)
            go_ret2
            exact ⟨by rw [HRR.out]; rfl, HB2.out.alloc HB2.out.size _⟩
          | some pn =>
            obtain ⟨p, n4⟩ := pn
            have hpl := placeO_le hp
            rw [List.length_drop, ls_len] at hpl
            have hok : PlOk p := ⟨hpl.2.2.1, hpl.2.2.2.1, hpl.2.2.2.2.2⟩
            have hlet := hpl.2.2.2.2.1
            obtain ⟨q, Hq⟩ : ∃ q, Hid (k1 + n4 = q) := ⟨_, Lib.hid rfl⟩
            have hqs : q ≤ f.size := by have := Hq.out; omega
            have hqk : k + 1 ≤ q := by have := Hq.out; have := Hk1.out; omega
            have hdr : (((ls f).drop k1).drop n4) = (ls f).drop q := by rw [List.drop_drop, Hq.out]
            rw [hp] at CP
            unfold plE at CP
            simp only [Hq.out] at CP
            clear hpl
            by_cases hc : p.ch = 37
            · have HN : Hid (tellM A ((ls f).drop q) u (T ++ [37]) = Y) := Lib.hid (by rw [← HT.out, HTK.out, tell_pc _ _ _ _ _ _ hp hc, hdr])
              have ha : mk T ++ (⟨#[37]⟩ : ByteArray) = mk (T ++ [37]) := mk_app T [37]
              have n1 : ¬ 9223372036854775807 < (mk T).size + (⟨#[37]⟩ : ByteArray).size := by show ¬ _ < _ + 1; omega
              obtain ⟨pa, pb, pw, ppr, pch⟩ := p
              simp only at hc
              subst hc
              unfold dC at CP
              simp only at CP
              clear hp h37 hok hlet hdr hTs
              go_wp2_with (go_at_call 19; refine CP.out.mono ?_; rintro e w2 ⟨rfl, b2⟩; have HB2 := Lib.hid (HB1.out.trans (b2.mono HB1.out.size)); clear b2)
              go_roundw
              case rel => exact ⟨q, u, T ++ [37], hqs, rfl, rfl, rfl, huu, by omega, by simp; omega, HN, Lib.hid (HB2.out.alloc HB2.out.size _)⟩
              case measure => simp [intOf]; omega
            · have HPU := Lib.hid fun (s : ByteArray) (W : World) (hs : s.size ≤ 1000000) => put20 p hok hlet hc s W hs
              obtain ⟨sx, Hsx⟩ : ∃ sx : ByteArray, Hid (ls sx = argAt A u ∧ sx.size ≤ 100000 ∧ ((u < S0.length ∧ S0[u]? = some sx) ∨ (¬ u < S0.length ∧ sx = ⟨#[]⟩))) := by
                by_cases hu : u < S0.length
                · refine ⟨S0[u], Lib.hid ⟨?_, HS.out _ (List.getElem_mem hu), .inl ⟨hu, List.getElem?_eq_getElem hu⟩⟩⟩
                  unfold argAt
                  rw [← HAA.out, List.getD_eq_getElem?_getD, List.getElem?_map, List.getElem?_eq_getElem hu]; rfl
                · refine ⟨⟨#[]⟩, Lib.hid ⟨?_, Nat.zero_le _, .inr ⟨hu, rfl⟩⟩⟩
                  unfold argAt
                  rw [← HAA.out, List.getD_eq_getElem?_getD, List.getElem?_map, List.getElem?_eq_none (by omega)]; rfl
              have hsx2 := Hsx.out.2.1
              have CPU := Lib.hid fun W => HPU.out sx W (by omega)
              rw [Hsx.out.1] at CPU
              have hwu : IntKind.i64.wrap ((u : Int) + 1) = ((u + 1 : Nat) : Int) := by rw [IntKind.wrap_i64]; omega
              clear HPU
              cases hfl : fillO p (argAt A u) with
              | none =>
                have HYY : Hid (Y = .error 33) := Lib.hid (by rw [← HT.out, HTK.out, tell_no _ _ _ _ _ _ hp hc hfl])
                have HRR : Hid (R = .error 33) := Lib.hid (by rw [← HR.out, fm_err (HY.out.trans HYY.out)])
                rw [hfl] at CPU
                unfold fillE at CPU
                simp only at CPU
                obtain ⟨pa, pb, pw, ppr, pch⟩ := p
                have hch : ((pch : Int) == 37) = false := by simp at hc ⊢; omega
                unfold dC at CP CPU
                simp only at CP CPU
                clear hp h37 hok hlet hdr hTs hfl hc
                rcases Hsx.out.2.2 with ⟨hu, hsu⟩ | ⟨hu, hsu⟩
                · have d1 : decide ((u : Int) < (S0.length : Int)) = true := decide_eq_true (by omega)
                  have d2 : decide (u < S0.length) = true := decide_eq_true hu
                  rcases HV.out with ⟨e, _⟩ | ⟨g, off, cc, e, _, hcell⟩
                  · rw [e] at hu; simp at hu
                  cases e
                  have hcl := hcell u sx hsu
                  clear hcell hsu
                  go_upto_region 14 with (go_at_call 19; refine CP.out.mono ?_; rintro e w2 ⟨rfl, b2⟩; have HB2 := Lib.hid (HB1.out.trans (b2.mono HB1.out.size)); clear b2)
                  have HC2 := fun o => cell_below hcl (HB2.out.alloc HB2.out.size o)
                  have HB3 := fun o => Lib.hid (HB2.out.alloc HB2.out.size o)
                  have hc3 := HC2 (.cells #[.bool pa, .bool pb, .int .i64 pw, .int .i64 (dgI ppr), .int .u8 pch] 45)
                  go_wp2_with (go_at_call 20; refine (CPU.out _).mono ?_; rintro e w4 ⟨rfl, b4⟩; have HB4 := Lib.hid ((HB3 _).out.trans (b4.mono (HB3 _).out.size)); clear b4)
                  go_ret2
                  exact ⟨by rw [HRR.out]; rfl, HB4.out⟩
                · subst hsu
                  have d1 : decide ((u : Int) < (S0.length : Int)) = false := decide_eq_false (by omega)
                  have d2 : decide (u < S0.length) = false := decide_eq_false hu
                  go_upto_region 14 with (go_at_call 19; refine CP.out.mono ?_; rintro e w2 ⟨rfl, b2⟩; have HB2 := Lib.hid (HB1.out.trans (b2.mono HB1.out.size)); clear b2)
                  have HB3 := fun o => Lib.hid (HB2.out.alloc HB2.out.size o)
                  go_wp2_with (go_at_call 20; refine (CPU.out _).mono ?_; rintro e w4 ⟨rfl, b4⟩; have HB4 := Lib.hid ((HB3 _).out.trans (b4.mono (HB3 _).out.size)); clear b4)
                  go_ret2
                  exact ⟨by rw [HRR.out]; rfl, HB4.out⟩
              | some r =>
                have hrl := fill_len hok hfl
                have hrl2 : r.length ≤ 102100 := by rw [← Hsx.out.1, ls_len] at hrl; omega
                have HN : Hid (tellM A ((ls f).drop q) (u + 1) (T ++ r) = Y) := Lib.hid (by rw [← HT.out, HTK.out, tell_yes _ _ _ _ _ _ _ hp hc hfl, hdr])
                rw [hfl] at CPU
                unfold fillE at CPU
                simp only at CPU
                have ha : mk T ++ mk r = mk (T ++ r) := mk_app T r
                have n1 : ¬ 9223372036854775807 < (mk T).size + (mk r).size := by rw [mk_size, mk_size]; omega
                obtain ⟨pa, pb, pw, ppr, pch⟩ := p
                have hch : ((pch : Int) == 37) = false := by simp at hc ⊢; omega
                unfold dC at CP CPU
                simp only at CP CPU
                clear hp h37 hok hlet hdr hTs hfl hc hrl
                rcases Hsx.out.2.2 with ⟨hu, hsu⟩ | ⟨hu, hsu⟩
                · have d1 : decide ((u : Int) < (S0.length : Int)) = true := decide_eq_true (by omega)
                  have d2 : decide (u < S0.length) = true := decide_eq_true hu
                  rcases HV.out with ⟨e, _⟩ | ⟨g, off, cc, e, _, hcell⟩
                  · rw [e] at hu; simp at hu
                  cases e
                  have hcl := hcell u sx hsu
                  clear hcell hsu
                  go_upto_region 14 with (go_at_call 19; refine CP.out.mono ?_; rintro e w2 ⟨rfl, b2⟩; have HB2 := Lib.hid (HB1.out.trans (b2.mono HB1.out.size)); clear b2)
                  have HC2 := fun o => cell_below hcl (HB2.out.alloc HB2.out.size o)
                  have HB3 := fun o => Lib.hid (HB2.out.alloc HB2.out.size o)
                  have hc3 := HC2 (.cells #[.bool pa, .bool pb, .int .i64 pw, .int .i64 (dgI ppr), .int .u8 pch] 45)
                  go_wp2_with (go_at_call 20; refine (CPU.out _).mono ?_; rintro e w4 ⟨rfl, b4⟩; have HB4 := Lib.hid ((HB3 _).out.trans (b4.mono (HB3 _).out.size)); clear b4)
                  go_roundw
                  case rel => exact ⟨q, u + 1, T ++ r, hqs, rfl, rfl, by go_num, by omega, by omega, by simp; omega, HN, HB4⟩
                  case measure => simp [intOf]; omega
                · subst hsu
                  have d1 : decide ((u : Int) < (S0.length : Int)) = false := decide_eq_false (by omega)
                  have d2 : decide (u < S0.length) = false := decide_eq_false hu
                  go_upto_region 14 with (go_at_call 19; refine CP.out.mono ?_; rintro e w2 ⟨rfl, b2⟩; have HB2 := Lib.hid (HB1.out.trans (b2.mono HB1.out.size)); clear b2)
                  have HB3 := fun o => Lib.hid (HB2.out.alloc HB2.out.size o)
                  go_wp2_with (go_at_call 20; refine (CPU.out _).mono ?_; rintro e w4 ⟨rfl, b4⟩; have HB4 := Lib.hid ((HB3 _).out.trans (b4.mono (HB3 _).out.size)); clear b4)
                  go_roundw
                  case rel => exact ⟨q, u + 1, T ++ r, hqs, rfl, rfl, by go_num, by omega, by omega, by simp; omega, HN, HB4⟩
                  case measure => simp [intOf]; omega
        · have e2 : (bt f k != 37) = true := by rw [HA.out]; simp; omega
          by_cases h9 : at0 (ls f) k = 92 ∧ 0 < n
          · obtain ⟨h9, hn0⟩ := h9
            have e1 : (bt f k == 92) = true := by rw [HA.out, h9]; rfl
            have d1 : decide (0 < (n : Int)) = true := decide_eq_true (by omega)
            have d2 : decide (0 < n) = true := decide_eq_true hn0
            have HN : Hid (tellM A ((ls f).drop (k + 1 + n)) u (T ++ [b]) = Y) := Lib.hid (by rw [← HT.out, HK1.out b n h9 rfl hn0])
            have ha : mk T ++ mk [b] = mk (T ++ [b]) := mk_app T [b]
            have hz1 : (mk [b]).size = 1 := rfl
            have n1 : ¬ 9223372036854775807 < (mk T).size + (mk [b]).size := by omega
            have hcv := conv1 w1 (b.toNat : Int) b rfl
            have hw2 : IntKind.i64.wrap ((k1 : Int) + n) = ((k + 1 + n : Nat) : Int) := by rw [IntKind.wrap_i64]; have := Hk1.out; omega
            have HBB := fun o => Lib.hid (HB1.out.alloc HB1.out.size o)
            clear HK1 HK2 h9 h37 hz1 hTs
            go_wp2
            go_roundw
            case rel => exact ⟨k + 1 + n, u, T ++ [b], by omega, by first | rfl | exact congrArg (Value.int .i64) hw2, rfl, rfl, huu, by omega, by simp; omega, HN, HBB _⟩
            case measure => simp [intOf]; omega
          · have hor : at0 (ls f) k ≠ 92 ∨ n = 0 := by omega
            have HN : Hid (tellM A ((ls f).drop (k + 1)) u (T ++ [UInt8.ofNat (at0 (ls f) k)]) = Y) := Lib.hid (by rw [← HT.out, HK2.out h37 hor])
            have hsplit : (bt f k == 92) = false ∨ ((bt f k == 92) = true ∧ n = 0) := by
              by_cases h92 : at0 (ls f) k = 92
              · right
                refine ⟨by rw [HA.out, h92]; rfl, by omega⟩
              · left
                rw [HA.out]; simp; omega
            have hex := one_ext f k hlt
            rw [Hk1.out] at hex
            generalize UInt8.ofNat (at0 (ls f) k) = b0 at HN hex
            have ha : mk T ++ mk [b0] = mk (T ++ [b0]) := mk_app T [b0]
            have hz1 : (mk [b0]).size = 1 := rfl
            have n1 : ¬ 9223372036854775807 < (mk T).size + (mk [b0]).size := by omega
            have hkk : Hid ((k1 : Int) = ((k + 1 : Nat) : Int)) := Lib.hid (by have := Hk1.out; omega)
            have hkk1 : k < k1 := by have := Hk1.out; omega
            clear HK1 HK2 h9 h37 hor hz1 hTs
            rcases hsplit with e1 | ⟨e1, rfl⟩
            all_goals (
              go_wp2
              go_roundw
              case rel => exact ⟨k + 1, u, T ++ [b0], hlt, by rw [hkk.out], rfl, rfl, huu, by omega, by simp; omega, HN, HB1⟩
              case measure => have := Hk1.out; simp [intOf]; omega)
      · obtain rfl : k = f.size := by omega
        have HYY : Hid (Y = .ok (u, T)) := Lib.hid (by
          rw [← HT.out, List.drop_eq_nil_of_le (by rw [ls_len]; exact Nat.le_refl _), tell_nil])
        have HTL := Lib.hid (HY.out.trans HYY.out)
        have hcnt := tell_cnt _ _ _ _ _ _ HTL.out
        have hz : (mk T).size = T.length := mk_size T
        by_cases hbig : 4194304 < T.length
        · have HRR : Hid (R = .error 18) := Lib.hid (by rw [← HR.out, fm_long HTL.out hbig])
          have hd : decide (4194304 < ((mk T).size : Int)) = true := decide_eq_true (by omega)
          have hd2 : decide (4194304 < (mk T).size) = true := decide_eq_true (by omega)
          clear hz
          go_wp2
          go_ret2
          exact ⟨by rw [HRR.out]; rfl, HB.out⟩
        have hd : decide (4194304 < ((mk T).size : Int)) = false := decide_eq_false (by omega)
        have hd2 : decide (4194304 < (mk T).size) = false := decide_eq_false (by omega)
        clear hz
        by_cases hmore : u0 < u ∧ u < A.length
        · obtain ⟨m1, m2⟩ := hmore
          have HN : Hid (formatM A (ls f) u T = R) := Lib.hid (by rw [← HR.out, fm_more HTL.out hbig ⟨m1, m2⟩])
          have e1 : ((u : Int) == (u0 : Int)) = false := by simp; omega
          have e2 : decide ((S0.length : Int) ≤ (u : Int)) = false := decide_eq_false (by omega)
          have e3 : decide (S0.length ≤ u) = false := decide_eq_false (by omega)
          have HC2 : Hid (u = 0 ∨ 0 < cnt (ls f)) := Lib.hid (.inr (by omega))
          clear hcnt
          go_wp2
          go_roundw
          case rel => exact ⟨u, T, rfl, rfl, HN, HC2, by omega, by omega, HB⟩
          case measure => simp [intOf]; omega
        · have HRR : Hid (R = .ok T) := Lib.hid (by rw [← HR.out, fm_done HTL.out hbig hmore])
          clear hcnt
          by_cases hue : u = u0
          · have e1 : ((u : Int) == (u0 : Int)) = true := by rw [hue]; simp
            clear hmore hue
            go_wp2
            go_ret2
            exact ⟨by rw [HRR.out]; rfl, HB.out⟩
          · have e1 : ((u : Int) == (u0 : Int)) = false := by simp; omega
            have e2 : decide ((S0.length : Int) ≤ (u : Int)) = true := decide_eq_true (by omega)
            have e3 : decide (S0.length ≤ u) = true := decide_eq_true (by omega)
            clear hmore hue
            go_wp2
            go_ret2
            exact ⟨by rw [HRR.out]; rfl, HB.out⟩
end Go.Proofs.YtckhomeokhhneaaDoor
