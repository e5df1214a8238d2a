/- tell: a format, once. Conditions: lengths below a bound. -/
import Derived.Test.YtckhomeokhhneaaDoorN
namespace Go.Proofs.YtckhomeokhhneaaDoor
open Go.RowKit Go.PlainAid
set_option linter.unusedSimpArgs false
set_option linter.unusedVariables false

theorem at0_ofNat (l : List UInt8) (k c : Nat) (h : at0 l k = c) : UInt8.ofNat (at0 l k) = UInt8.ofNat c := by rw [h]
theorem t_em {A : List (List UInt8)} {t : ByteArray} {u : Nat} {T : List UInt8} (h : t.size = 0) : tellM A (ls t) u T = .ok (u, T) := by rw [ls_em h, tell_nil]
theorem t_bs {A : List (List UInt8)} {t : ByteArray} {u : Nat} {T : List UInt8} (h : 0 < t.size) (h2 : at0 (ls t) 0 = 92) (b : UInt8) (n : Nat) (hb : bsl ((ls t).drop 1) = (b, n)) : tellM A (ls t) u T = tellM A (ls (t.extract (1 + n) t.size)) u (T ++ [b]) := by
  rw [ls_drop, ← List.drop_drop]
  conv => lhs; rw [ls_head t h, h2]
  rw [show UInt8.ofNat 92 = 92 from rfl, tell_bs, hb]
theorem t_ch {A : List (List UInt8)} {t : ByteArray} {u : Nat} {T : List UInt8} (h : 0 < t.size) (h2 : at0 (ls t) 0 ≠ 92) (h3 : at0 (ls t) 0 ≠ 37) : tellM A (ls t) u T = tellM A (ls (t.extract 1 t.size)) u (T ++ ls (t.extract 0 1)) := by
  rw [ls_drop, ls_take]
  conv => lhs; rw [ls_head t h]
  rw [tell_ch]
  · have e : (ls t).take 1 = [UInt8.ofNat (at0 (ls t) 0)] := by
      conv => lhs; rw [ls_head t h]
      rfl
    rw [e]
  · intro e
    have := congrArg UInt8.toNat e
    rw [at0_byte] at this
    exact h2 this
  · intro e
    have := congrArg UInt8.toNat e
    rw [at0_byte] at this
    exact h3 this
theorem ls_37 {t : ByteArray} (h : 0 < t.size) (h2 : at0 (ls t) 0 = 37) : ls t = 37 :: (ls t).drop 1 := by
  conv => lhs; rw [ls_head t h, h2]
  rfl
theorem t_bad {A : List (List UInt8)} {t : ByteArray} {u : Nat} {T : List UInt8} (h : 0 < t.size) (h2 : at0 (ls t) 0 = 37) (hp : placeO ((ls t).drop 1) = none) : tellM A (ls t) u T = .error 11 := by
  rw [ls_37 h h2, tell_bad _ _ _ _ hp]
theorem t_pc {A : List (List UInt8)} {t : ByteArray} {u : Nat} {T : List UInt8} (h : 0 < t.size) (h2 : at0 (ls t) 0 = 37) {p : Pl} {n : Nat} (hp : placeO ((ls t).drop 1) = some (p, n)) (hc : p.ch = 37) : tellM A (ls t) u T = tellM A (ls (t.extract (1 + n) t.size)) u (T ++ [37]) := by
  rw [ls_drop, ← List.drop_drop]
  conv => lhs; rw [ls_37 h h2]
  exact tell_pc _ _ _ _ _ _ hp hc
theorem t_no {A : List (List UInt8)} {t : ByteArray} {u : Nat} {T : List UInt8} (h : 0 < t.size) (h2 : at0 (ls t) 0 = 37) {p : Pl} {n : Nat} (hp : placeO ((ls t).drop 1) = some (p, n)) (hc : p.ch ≠ 37) (hf : fillO p (argAt A u) = none) : tellM A (ls t) u T = .error 33 := by
  rw [ls_37 h h2, tell_no _ _ _ _ _ _ hp hc hf]
theorem t_yes {A : List (List UInt8)} {t : ByteArray} {u : Nat} {T : List UInt8} (h : 0 < t.size) (h2 : at0 (ls t) 0 = 37) {p : Pl} {n : Nat} {s : List UInt8} (hp : placeO ((ls t).drop 1) = some (p, n)) (hc : p.ch ≠ 37) (hf : fillO p (argAt A u) = some s) : tellM A (ls t) u T = tellM A (ls (t.extract (1 + n) t.size)) (u + 1) (T ++ s) := by
  rw [ls_drop, ← List.drop_drop]
  conv => lhs; rw [ls_37 h h2]
  exact tell_yes _ _ _ _ _ _ _ hp hc hf
theorem fill_len {p : Pl} {a r : List UInt8} (hp : PlOk p) (h : fillO p a = some r) : r.length ≤ 2100 + a.length := by
  obtain ⟨h1, h2, _⟩ := hp
  unfold fillO at h
  split at h
  · injection h with h
    rw [← h, padL_len]
    have := cut_len p a
    simp; omega
  · split at h
    · injection h with h
      rw [← h, padL_len]
      have := cut_len p (une a)
      have := une_len a
      simp; omega
    · split at h
      · injection h with h
        rw [← h, padL_len]
        simp; omega
      · split at h
        · cases h
        · rename_i v hv
          injection h with h
          obtain ⟨r1, r2⟩ := numO_range _ _ hv
          have hs := sgn_len p.ch v r1 r2
          rw [← h, padL_len, List.length_append, rep_len]
          have hq : p.prec.getD 0 < 1000 := by
            cases hpr : p.prec with
            | none => simp
            | some q => exact h2 q hpr
          omega
/-- What is left, of texts, behind so many. -/
theorem arg_head {A : List (List UInt8)} {S : List ByteArray} {u : Nat} (h : S.map ls = A.drop u) : ls (S.headD ⟨#[]⟩) = argAt A u := by
  unfold argAt
  have e : A.getD u [] = (A.drop u).headD [] := by
    rw [List.getD_eq_getElem?_getD, List.headD_eq_head?_getD, List.head?_drop]
  rw [e, ← h]
  cases S <;> rfl
theorem arg_tail {A : List (List UInt8)} {S : List ByteArray} {u : Nat} (h : S.map ls = A.drop u) : S.tail.map ls = A.drop (u + 1) := by
  rw [← List.drop_drop, ← h]
  cases S <;> rfl
def TellE (W : World) (g : Nat) (A : List (List UInt8)) (tk : Bool) (u : Nat) (R : Except Nat (Nat × List UInt8)) (e : Ending) (w' : World) : Prop := match R with
  | .error x => e = .returned (.int .i64 x) ∧ ∃ S tk2 T2, Gv W g S tk2 T2 w'
  | .ok (u2, T2) => e = .returned (.int .i64 0) ∧ u ≤ u2 ∧ ∃ S2, S2.map ls = A.drop u2 ∧ (∀ s ∈ S2, s.size ≤ 100000) ∧ Gv W g S2 (tk || decide (u < u2)) T2 w'
def Jump16 (W : World) (g : Nat) (A : List (List UInt8)) (tk : Bool) (u : Nat) (M : Nat) (R : Except Nat (Nat × List UInt8)) (a' : Act) (w' : World) : Prop := ∃ (t : ByteArray) (S : List ByteArray) (u2 : Nat) (T T' : List UInt8) (av tv : Value), Hid (Tl W g S (tk || decide (u < u2)) T av tv T' w') ∧ Hid (tellM A (ls t) u2 T = R) ∧ Hid (S.map ls = A.drop u2) ∧ Hid (∀ s ∈ S, s.size ≤ 100000) ∧ u ≤ u2 ∧ t.size ≤ M ∧ T.length + 102100 * t.size ≤ 900000000000 ∧
  ∃ (u5 u6 u7 u8 u9 u10 u11 u12 u13 u14 u15 u16 u17 u18 u19 u20 u21 u22 u23 u24 u25 u26 u27 u28 u29 u30 u31 u32 u33 u34 u35 u36 u37 u38 u39 u40 u41 u42 u43 u44 u45 u46 u47 u48 u49 u50 u51 u52 u53 u54 u55 u56 u57 u58 u59 : Value), a' = { tmps := #[.pointer (some ⟨g, 0, none⟩), .string t, undef, undef, .int .i64 0, u5, u6, u7, u8, u9, u10, u11, u12, u13, u14, u15, u16, u17, u18, u19, u20, u21, u22, u23, u24, u25, u26, u27, u28, u29, u30, u31, u32, u33, u34, u35, u36, u37, u38, u39, u40, u41, u42, u43, u44, u45, u46, u47, u48, u49, u50, u51, u52, u53, u54, u55, u56, u57, u58, u59], defers := [] }
set_option maxHeartbeats 8000000 in
set_option maxRecDepth 100000 in
theorem tell16 (W : World) (he : Env W) (g : Nat) (A : List (List UInt8)) (S1 : List ByteArray) (tk : Bool) (u : Nat) (T1 T1' : List UInt8) (av1 tv1 : Value) (w1 : World) (h : Tl W g S1 tk T1 av1 tv1 T1' w1) (t : ByteArray) (hf : t.size ≤ 1000000) (hlen : T1.length + 102100 * t.size ≤ 900000000000) (hA : S1.map ls = A.drop u) (hS : ∀ s ∈ S1, s.size ≤ 100000) :
    Calls Tryd.prog 16 #[.pointer (some ⟨g, 0, none⟩), .string t] w1 (TellE W g A tk u (tellM A (ls t) u T1)) := by
  obtain ⟨R, HM⟩ : ∃ R, Hid (tellM A (ls t) u T1 = R) := ⟨_, Lib.hid rfl⟩
  rw [HM.out]
  have HT : Hid (Tl W g S1 (tk || decide (u < u)) T1 av1 tv1 T1' w1) := Lib.hid (by rw [show (tk || decide (u < u)) = tk by simp]; exact h)
  have HA := Lib.hid hA
  have HS := Lib.hid hS
  obtain ⟨M, hM⟩ : ∃ M, t.size = M := ⟨_, rfl⟩
  have hM2 : M ≤ 1000000 := by omega
  have htm : t.size ≤ M := by omega
  clear h hA hS
  go_enter Tryd.func16, Tryd.ntmps16
  go_wp2
  refine wp_scope_jumps 0 (Jump16 W g A tk u M R) (fun a' _ => szOf (a'.tmps.getD 1 undef)) rfl ?_ ?_
  · have hu : u ≤ u := Nat.le_refl _
    clear hM
    by_cases h0 : t.size = 0
    · have hem := toList_em h0
      have HRR : Hid (R = .ok (u, T1)) := Lib.hid (by rw [← HM.out, t_em h0])
      clear h0
      go_wp2_with fail
      go_step3
      go_wp2
      simp only [Exit.jump]
      go_ret
      rw [HRR.out]
      exact ⟨rfl, hu, S1, HA.out, HS.out, _, _, _, HT.out⟩
    have hne := toList_ne (s := t) (by omega)
    have hb := get_bt t
    have h1 : 1 ≤ t.size := by omega
    have h1' : 0 < t.size := h1
    have H0 := Lib.hid (bt_at t 0)
    clear h0
    by_cases h92 : at0 (ls t) 0 = 92
    · have e1 : (bt t 0 == 92) = true := by rw [H0.out, h92]; rfl
      have C := Lib.hid fun W' => backslash17 t W' h1 (by omega)
      have hle := (bsl_le ((ls t).drop 1)).1
      rw [List.length_drop, ls_len] at hle
      have HU := Lib.hid fun b n => t_bs (A := A) (u := u) (T := T1) h1' h92 b n
      generalize bsl ((ls t).drop 1) = X at HU C hle
      obtain ⟨b, n⟩ := X
      simp only at hle
      unfold bsV at C
      simp only at C
      obtain ⟨m, Hm⟩ : ∃ m, Hid (1 + n = m) := ⟨_, Lib.hid rfl⟩
      have hn1 : m ≤ t.size := by have := Hm.out; omega
      have hm1 : 1 ≤ m := by have := Hm.out; omega
      have HN : Hid (tellM A (ls (t.extract m t.size)) u (T1 ++ [b]) = R) := Lib.hid (by rw [← HM.out, HU.out b n rfl, Hm.out])
      rw [Hm.out] at C
      have HZ := Lib.hid (show (t.extract m t.size).size = t.size - m from ext_sz _ _ _ (Nat.le_refl _))
      have hcv := conv1 w1 (b.toNat : Int) b rfl
      have HTA := fun o => Lib.hid (HT.out.below ((Below.refl w1.heap.size w1).alloc (Nat.le_refl _) o))
      have CPUT := Lib.hid fun o => put21 W g S1 (tk || decide (u < u)) T1 T1' av1 tv1 (mk [b]) _ (HTA o).out (by rw [mk_size]; simp) (by rw [mk_size]; simp; omega)
      clear HU h92 hle
      go_wp2_with fail
      go_step3
      go_wp2_with (first | (go_at_call 17; refine (C.out _).mono ?_; rintro e w' ⟨rfl, rfl⟩) | (go_at_call 21; refine (CPUT.out _).mono ?_; rintro e w3 ⟨rfl, tv3, T3', T3⟩; have HT3 := Lib.hid T3; clear T3))
      go_step3
      exact ⟨rfl, t.extract m t.size, S1, u, T1 ++ [b], T3', av1, tv3, HT3, HN, HA, HS, hu, by rw [HZ.out]; omega, by rw [HZ.out]; simp; omega, _, _, _, _, _, _, _, _, _, _, _, _, _, _, _, _, _, _, _, _, _, _, _, _, _, _, _, _, _, _, _, _, _, _, _, _, _, _, _, _, _, _, _, _, _, _, _, _, _, _, _, _, _, _, _, rfl⟩
    have e1 : (bt t 0 == 92) = false := by rw [H0.out]; simp; omega
    by_cases h37 : at0 (ls t) 0 = 37
    · have e2 : (bt t 0 == 37) = true := by rw [H0.out, h37]; rfl
      have CP := Lib.hid fun W' => readPlace22 t W' h1 (by omega)
      cases hp : placeO ((ls t).drop 1) with
      | none =>
        rw [hp] at CP
        have HRR : Hid (R = .error 11) := Lib.hid (by rw [← HM.out, t_bad h1' h37 hp])
        unfold plR flC at CP
        simp only at CP
        clear hp h37 h92
        go_wp2_with fail
        go_step3
        go_wp2_with (go_at_call 22; refine (CP.out _).mono ?_; rintro e w2 ⟨rfl, b2⟩; have HT2 := Lib.hid (HT.out.below b2); clear b2)
        simp only [Exit.jump]
        go_ret
        rw [HRR.out]
        exact ⟨rfl, S1, _, _, _, _, _, HT2.out.below ((Below.refl w2.heap.size w2).alloc (Nat.le_refl _) _)⟩
      | some pn =>
        obtain ⟨p, n⟩ := pn
        have hpl := placeO_le hp
        rw [List.length_drop, ls_len] at hpl
        have hok : PlOk p := ⟨hpl.2.2.1, hpl.2.2.2.1, hpl.2.2.2.2.2⟩
        obtain ⟨m, Hm⟩ : ∃ m, Hid (1 + n = m) := ⟨_, Lib.hid rfl⟩
        have hn1 : m ≤ t.size := by have := Hm.out; omega
        have hm1 : 1 ≤ m := by have := Hm.out; omega
        rw [hp] at CP
        unfold plR at CP
        simp only [Hm.out] at CP
        have HZ := Lib.hid (show (t.extract m t.size).size = t.size - m from ext_sz _ _ _ (Nat.le_refl _))
        clear hpl
        by_cases hc : p.ch = 37
        · have HN : Hid (tellM A (ls (t.extract m t.size)) u (T1 ++ [37]) = R) := Lib.hid (by rw [← HM.out, t_pc h1' h37 hp hc, Hm.out])
          have CF := Lib.hid fun W' av' tv' TT (h : Tl W g S1 (tk || decide (u < u)) T1 av' tv' TT W') => fill23_pc W g S1 (tk || decide (u < u)) T1 TT av' tv' W' h p hc
          obtain ⟨a, b, wd, pr, ch⟩ := p
          unfold plV plC at CP CF
          simp only at CP CF
          clear hp h37 h92 hc hok
          go_wp2_with fail
          go_step3
          go_wp2_with (first
            | (go_at_call 22; refine (CP.out _).mono ?_; rintro e w2 ⟨rfl, b2⟩; have HT2 := fun o => Lib.hid ((HT.out.below b2).below ((Below.refl w2.heap.size w2).alloc (Nat.le_refl _) o)); clear b2)
            | (go_at_call 23; refine (CF.out _ _ _ _ (HT2 _).out).mono ?_; rintro e w3 ⟨rfl, av3, tv3, T3', T3⟩; have CPUT := Lib.hid (put21 W g S1 (tk || decide (u < u)) T1 T3' av3 tv3 (mk [37]) _ T3 (by decide) (by rw [mk_size]; simp; omega)); clear T3)
            | (go_at_call 21; refine CPUT.out.mono ?_; rintro e w4 ⟨rfl, tv4, T4', T4⟩; have HT4 := Lib.hid T4; clear T4))
          go_step3
          exact ⟨rfl, t.extract m t.size, S1, u, T1 ++ [37], T4', av3, tv4, HT4, HN, HA, HS, hu, by rw [HZ.out]; omega, by rw [HZ.out]; simp; omega, _, _, _, _, _, _, _, _, _, _, _, _, _, _, _, _, _, _, _, _, _, _, _, _, _, _, _, _, _, _, _, _, _, _, _, _, _, _, _, _, _, _, _, _, _, _, _, _, _, _, _, _, _, _, _, rfl⟩
        · have CF := Lib.hid fun W' av' tv' TT (h : Tl W g S1 (tk || decide (u < u)) T1 av' tv' TT W') => fill23 W he g S1 (tk || decide (u < u)) T1 TT av' tv' W' h p hok hc HS.out
          rw [arg_head HA.out] at CF
          cases hfl : fillO p (argAt A u) with
          | none =>
            have HRR : Hid (R = .error 33) := Lib.hid (by rw [← HM.out, t_no h1' h37 hp hc hfl])
            rw [hfl] at CF
            unfold fillE at CF
            simp only at CF
            obtain ⟨a, b, wd, pr, ch⟩ := p
            unfold plV plC at CP CF
            simp only at CP CF
            clear hp h37 h92 hc hok hfl
            go_wp2_with fail
            go_step3
            go_wp2_with (first
              | (go_at_call 22; refine (CP.out _).mono ?_; rintro e w2 ⟨rfl, b2⟩; have HT2 := fun o => Lib.hid ((HT.out.below b2).below ((Below.refl w2.heap.size w2).alloc (Nat.le_refl _) o)); clear b2)
              | (go_at_call 23; refine (CF.out _ _ _ _ (HT2 _).out).mono ?_; rintro e w3 ⟨rfl, T3⟩; have HT3 := Lib.hid T3; clear T3))
            simp only [Exit.jump]
            go_ret
            rw [HRR.out]
            exact ⟨rfl, _, _, _, HT3.out⟩
          | some r =>
            have hrl := fill_len hok hfl
            have ha2 : (argAt A u).length ≤ 100000 := by
              rw [← arg_head HA.out, ls_len]
              cases S1 with
              | nil => exact Nat.zero_le _
              | cons x r => exact HS.out x (by simp)
            have hr2 : r.length ≤ 102100 := by omega
            have HN : Hid (tellM A (ls (t.extract m t.size)) (u + 1) (T1 ++ r) = R) := Lib.hid (by rw [← HM.out, t_yes h1' h37 hp hc hfl, Hm.out])
            rw [hfl] at CF
            unfold fillE at CF
            simp only at CF
            have HA2 := Lib.hid (arg_tail HA.out)
            have HS2 : Hid (∀ s ∈ S1.tail, s.size ≤ 100000) := Lib.hid (fun x hx => HS.out x (List.mem_of_mem_tail hx))
            have HK : Hid ((tk || decide (u < u + 1)) = true) := Lib.hid (by rw [decide_eq_true (by omega)]; simp)
            obtain ⟨a, b, wd, pr, ch⟩ := p
            unfold plV plC at CP CF
            simp only at CP CF
            clear hp h37 h92 hc hok hfl hrl ha2
            obtain ⟨rs, Hrs⟩ : ∃ rs, Hid (mk r = rs) := ⟨_, Lib.hid rfl⟩
            have hrsz : rs.size ≤ 102100 := by rw [← Hrs.out, mk_size]; exact hr2
            have Hrl : Hid (ls rs = r) := Lib.hid (by rw [← Hrs.out, ls_mk])
            rw [Hrs.out] at CF
            go_wp2_with fail
            go_step3
            go_wp2_with (first
              | (go_at_call 22; refine (CP.out _).mono ?_; rintro e w2 ⟨rfl, b2⟩; have HT2 := fun o => Lib.hid ((HT.out.below b2).below ((Below.refl w2.heap.size w2).alloc (Nat.le_refl _) o)); clear b2)
              | (go_at_call 23; refine (CF.out _ _ _ _ (HT2 _).out).mono ?_; rintro e w3 ⟨rfl, av3, tv3, T3', T3⟩; have CPUT := Lib.hid (put21 W g S1.tail true T1 T3' av3 tv3 rs _ T3 (by omega) (by omega)); clear T3)
              | (go_at_call 21; refine CPUT.out.mono ?_; rintro e w4 ⟨rfl, tv4, T4', T4⟩; rw [Hrl.out] at T4; have HT4 := Lib.hid T4; clear T4))
            go_step3
            exact ⟨rfl, t.extract m t.size, S1.tail, u + 1, T1 ++ r, T4', av3, tv4, Lib.hid (by rw [HK.out]; exact HT4.out), HN, HA2, HS2, by omega, by rw [HZ.out]; omega, by rw [HZ.out]; simp; omega, _, _, _, _, _, _, _, _, _, _, _, _, _, _, _, _, _, _, _, _, _, _, _, _, _, _, _, _, _, _, _, _, _, _, _, _, _, _, _, _, _, _, _, _, _, _, _, _, _, _, _, _, _, _, _, rfl⟩
    have e2 : (bt t 0 == 37) = false := by rw [H0.out]; simp; omega
    have HN : Hid (tellM A (ls (t.extract 1 t.size)) u (T1 ++ ls (t.extract 0 1)) = R) := Lib.hid (by rw [← HM.out, t_ch h1' h92 h37])
    have HZ := Lib.hid (show (t.extract 1 t.size).size = t.size - 1 from ext_sz _ _ _ (Nat.le_refl _))
    have HZ1 := Lib.hid (show (t.extract 0 1).size = 1 from by rw [ext_sz _ _ _ h1])
    have CPUT := Lib.hid (put21 W g S1 (tk || decide (u < u)) T1 T1' av1 tv1 (t.extract 0 1) _ HT.out (by rw [HZ1.out]; omega) (by rw [HZ1.out]; omega))
    clear h92 h37
    go_wp2_with fail
    go_step3
    go_wp2_with (go_at_call 21; refine CPUT.out.mono ?_; rintro e w3 ⟨rfl, tv3, T3', T3⟩; have HT3 := Lib.hid T3; clear T3)
    go_step3
    exact ⟨rfl, t.extract 1 t.size, S1, u, T1 ++ ls (t.extract 0 1), T3', av1, tv3, HT3, HN, HA, HS, hu, by rw [HZ.out]; omega, by rw [HZ.out, List.length_append, ls_len, HZ1.out]; omega, _, _, _, _, _, _, _, _, _, _, _, _, _, _, _, _, _, _, _, _, _, _, _, _, _, _, _, _, _, _, _, _, _, _, _, _, _, _, _, _, _, _, _, _, _, _, _, _, _, _, _, _, _, _, _, rfl⟩
  · clear HM HT HA HS htm hlen hM hf
    clear t S1 T1 T1' av1 tv1 w1
    rintro a' w1 ⟨t, S1, u2, T1, T1', av1, tv1, HT, HM, HA, HS, hu, htm, hlen, u5, u6, u7, u8, u9, u10, u11, u12, u13, u14, u15, u16, u17, u18, u19, u20, u21, u22, u23, u24, u25, u26, u27, u28, u29, u30, u31, u32, u33, u34, u35, u36, u37, u38, u39, u40, u41, u42, u43, u44, u45, u46, u47, u48, u49, u50, u51, u52, u53, u54, u55, u56, u57, u58, u59, rfl⟩
    have hf : t.size ≤ 1000000 := by omega
    by_cases h0 : t.size = 0
    · have hem := toList_em h0
      have HRR : Hid (R = .ok (u2, T1)) := Lib.hid (by rw [← HM.out, t_em h0])
      clear h0
      go_wp2
      simp only [Exit.jump]
      go_ret
      rw [HRR.out]
      exact ⟨rfl, hu, S1, HA.out, HS.out, _, _, _, HT.out⟩
    have hne := toList_ne (s := t) (by omega)
    have hb := get_bt t
    have h1 : 1 ≤ t.size := by omega
    have h1' : 0 < t.size := h1
    have H0 := Lib.hid (bt_at t 0)
    clear h0
    by_cases h92 : at0 (ls t) 0 = 92
    · have e1 : (bt t 0 == 92) = true := by rw [H0.out, h92]; rfl
      have C := Lib.hid fun W' => backslash17 t W' h1 (by omega)
      have hle := (bsl_le ((ls t).drop 1)).1
      rw [List.length_drop, ls_len] at hle
      have HU := Lib.hid fun b n => t_bs (A := A) (u := u2) (T := T1) h1' h92 b n
      generalize bsl ((ls t).drop 1) = X at HU C hle
      obtain ⟨b, n⟩ := X
      simp only at hle
      unfold bsV at C
      simp only at C
      obtain ⟨m, Hm⟩ : ∃ m, Hid (1 + n = m) := ⟨_, Lib.hid rfl⟩
      have hn1 : m ≤ t.size := by have := Hm.out; omega
      have hm1 : 1 ≤ m := by have := Hm.out; omega
      have HN : Hid (tellM A (ls (t.extract m t.size)) u2 (T1 ++ [b]) = R) := Lib.hid (by rw [← HM.out, HU.out b n rfl, Hm.out])
      rw [Hm.out] at C
      have HZ := Lib.hid (show (t.extract m t.size).size = t.size - m from ext_sz _ _ _ (Nat.le_refl _))
      have hcv := conv1 w1 (b.toNat : Int) b rfl
      have HTA := fun o => Lib.hid (HT.out.below ((Below.refl w1.heap.size w1).alloc (Nat.le_refl _) o))
      have CPUT := Lib.hid fun o => put21 W g S1 (tk || decide (u < u2)) T1 T1' av1 tv1 (mk [b]) _ (HTA o).out (by rw [mk_size]; simp) (by rw [mk_size]; simp; omega)
      clear HU h92 hle
      go_wp2_with (first | (go_at_call 17; refine (C.out _).mono ?_; rintro e w' ⟨rfl, rfl⟩) | (go_at_call 21; refine (CPUT.out _).mono ?_; rintro e w3 ⟨rfl, tv3, T3', T3⟩; have HT3 := Lib.hid T3; clear T3))
      go_step3
      exact ⟨rfl, ⟨t.extract m t.size, S1, u2, T1 ++ [b], T3', av1, tv3, HT3, HN, HA, HS, hu, by rw [HZ.out]; omega, by rw [HZ.out]; simp; omega, _, _, _, _, _, _, _, _, _, _, _, _, _, _, _, _, _, _, _, _, _, _, _, _, _, _, _, _, _, _, _, _, _, _, _, _, _, _, _, _, _, _, _, _, _, _, _, _, _, _, _, _, _, _, _, rfl⟩, by show (t.extract _ t.size).size < t.size; rw [HZ.out]; omega⟩
    have e1 : (bt t 0 == 92) = false := by rw [H0.out]; simp; omega
    by_cases h37 : at0 (ls t) 0 = 37
    · have e2 : (bt t 0 == 37) = true := by rw [H0.out, h37]; rfl
      have CP := Lib.hid fun W' => readPlace22 t W' h1 (by omega)
      cases hp : placeO ((ls t).drop 1) with
      | none =>
        rw [hp] at CP
        have HRR : Hid (R = .error 11) := Lib.hid (by rw [← HM.out, t_bad h1' h37 hp])
        unfold plR flC at CP
        simp only at CP
        clear hp h37 h92
        go_wp2_with (go_at_call 22; refine (CP.out _).mono ?_; rintro e w2 ⟨rfl, b2⟩; have HT2 := Lib.hid (HT.out.below b2); clear b2)
        simp only [Exit.jump]
        go_ret
        rw [HRR.out]
        exact ⟨rfl, S1, _, _, _, _, _, HT2.out.below ((Below.refl w2.heap.size w2).alloc (Nat.le_refl _) _)⟩
      | some pn =>
        obtain ⟨p, n⟩ := pn
        have hpl := placeO_le hp
        rw [List.length_drop, ls_len] at hpl
        have hok : PlOk p := ⟨hpl.2.2.1, hpl.2.2.2.1, hpl.2.2.2.2.2⟩
        obtain ⟨m, Hm⟩ : ∃ m, Hid (1 + n = m) := ⟨_, Lib.hid rfl⟩
        have hn1 : m ≤ t.size := by have := Hm.out; omega
        have hm1 : 1 ≤ m := by have := Hm.out; omega
        rw [hp] at CP
        unfold plR at CP
        simp only [Hm.out] at CP
        have HZ := Lib.hid (show (t.extract m t.size).size = t.size - m from ext_sz _ _ _ (Nat.le_refl _))
        clear hpl
        by_cases hc : p.ch = 37
        · have HN : Hid (tellM A (ls (t.extract m t.size)) u2 (T1 ++ [37]) = R) := Lib.hid (by rw [← HM.out, t_pc h1' h37 hp hc, Hm.out])
          have CF := Lib.hid fun W' av' tv' TT (h : Tl W g S1 (tk || decide (u < u2)) T1 av' tv' TT W') => fill23_pc W g S1 (tk || decide (u < u2)) T1 TT av' tv' W' h p hc
          obtain ⟨a, b, wd, pr, ch⟩ := p
          unfold plV plC at CP CF
          simp only at CP CF
          clear hp h37 h92 hc hok
          go_wp2_with (first
            | (go_at_call 22; refine (CP.out _).mono ?_; rintro e w2 ⟨rfl, b2⟩; have HT2 := fun o => Lib.hid ((HT.out.below b2).below ((Below.refl w2.heap.size w2).alloc (Nat.le_refl _) o)); clear b2)
            | (go_at_call 23; refine (CF.out _ _ _ _ (HT2 _).out).mono ?_; rintro e w3 ⟨rfl, av3, tv3, T3', T3⟩; have CPUT := Lib.hid (put21 W g S1 (tk || decide (u < u2)) T1 T3' av3 tv3 (mk [37]) _ T3 (by decide) (by rw [mk_size]; simp; omega)); clear T3)
            | (go_at_call 21; refine CPUT.out.mono ?_; rintro e w4 ⟨rfl, tv4, T4', T4⟩; have HT4 := Lib.hid T4; clear T4))
          go_step3
          exact ⟨rfl, ⟨t.extract m t.size, S1, u2, T1 ++ [37], T4', av3, tv4, HT4, HN, HA, HS, hu, by rw [HZ.out]; omega, by rw [HZ.out]; simp; omega, _, _, _, _, _, _, _, _, _, _, _, _, _, _, _, _, _, _, _, _, _, _, _, _, _, _, _, _, _, _, _, _, _, _, _, _, _, _, _, _, _, _, _, _, _, _, _, _, _, _, _, _, _, _, _, rfl⟩, by show (t.extract _ t.size).size < t.size; rw [HZ.out]; omega⟩
        · have CF := Lib.hid fun W' av' tv' TT (h : Tl W g S1 (tk || decide (u < u2)) T1 av' tv' TT W') => fill23 W he g S1 (tk || decide (u < u2)) T1 TT av' tv' W' h p hok hc HS.out
          rw [arg_head HA.out] at CF
          cases hfl : fillO p (argAt A u2) with
          | none =>
            have HRR : Hid (R = .error 33) := Lib.hid (by rw [← HM.out, t_no h1' h37 hp hc hfl])
            rw [hfl] at CF
            unfold fillE at CF
            simp only at CF
            obtain ⟨a, b, wd, pr, ch⟩ := p
            unfold plV plC at CP CF
            simp only at CP CF
            clear hp h37 h92 hc hok hfl
            go_wp2_with (first
              | (go_at_call 22; refine (CP.out _).mono ?_; rintro e w2 ⟨rfl, b2⟩; have HT2 := fun o => Lib.hid ((HT.out.below b2).below ((Below.refl w2.heap.size w2).alloc (Nat.le_refl _) o)); clear b2)
              | (go_at_call 23; refine (CF.out _ _ _ _ (HT2 _).out).mono ?_; rintro e w3 ⟨rfl, T3⟩; have HT3 := Lib.hid T3; clear T3))
            simp only [Exit.jump]
            go_ret
            rw [HRR.out]
            exact ⟨rfl, _, _, _, HT3.out⟩
          | some r =>
            have hrl := fill_len hok hfl
            have ha2 : (argAt A u2).length ≤ 100000 := by
              rw [← arg_head HA.out, ls_len]
              cases S1 with
              | nil => exact Nat.zero_le _
              | cons x r => exact HS.out x (by simp)
            have hr2 : r.length ≤ 102100 := by omega
            have HN : Hid (tellM A (ls (t.extract m t.size)) (u2 + 1) (T1 ++ r) = R) := Lib.hid (by rw [← HM.out, t_yes h1' h37 hp hc hfl, Hm.out])
            rw [hfl] at CF
            unfold fillE at CF
            simp only at CF
            have HA2 := Lib.hid (arg_tail HA.out)
            have HS2 : Hid (∀ s ∈ S1.tail, s.size ≤ 100000) := Lib.hid (fun x hx => HS.out x (List.mem_of_mem_tail hx))
            have HK : Hid ((tk || decide (u < u2 + 1)) = true) := Lib.hid (by rw [decide_eq_true (by omega)]; simp)
            obtain ⟨a, b, wd, pr, ch⟩ := p
            unfold plV plC at CP CF
            simp only at CP CF
            clear hp h37 h92 hc hok hfl hrl ha2
            obtain ⟨rs, Hrs⟩ : ∃ rs, Hid (mk r = rs) := ⟨_, Lib.hid rfl⟩
            have hrsz : rs.size ≤ 102100 := by rw [← Hrs.out, mk_size]; exact hr2
            have Hrl : Hid (ls rs = r) := Lib.hid (by rw [← Hrs.out, ls_mk])
            rw [Hrs.out] at CF
            go_wp2_with (first
              | (go_at_call 22; refine (CP.out _).mono ?_; rintro e w2 ⟨rfl, b2⟩; have HT2 := fun o => Lib.hid ((HT.out.below b2).below ((Below.refl w2.heap.size w2).alloc (Nat.le_refl _) o)); clear b2)
              | (go_at_call 23; refine (CF.out _ _ _ _ (HT2 _).out).mono ?_; rintro e w3 ⟨rfl, av3, tv3, T3', T3⟩; have CPUT := Lib.hid (put21 W g S1.tail true T1 T3' av3 tv3 rs _ T3 (by omega) (by omega)); clear T3)
              | (go_at_call 21; refine CPUT.out.mono ?_; rintro e w4 ⟨rfl, tv4, T4', T4⟩; rw [Hrl.out] at T4; have HT4 := Lib.hid T4; clear T4))
            go_step3
            exact ⟨rfl, ⟨t.extract m t.size, S1.tail, u2 + 1, T1 ++ r, T4', av3, tv4, Lib.hid (by rw [HK.out]; exact HT4.out), HN, HA2, HS2, by omega, by rw [HZ.out]; omega, by rw [HZ.out]; simp; omega, _, _, _, _, _, _, _, _, _, _, _, _, _, _, _, _, _, _, _, _, _, _, _, _, _, _, _, _, _, _, _, _, _, _, _, _, _, _, _, _, _, _, _, _, _, _, _, _, _, _, _, _, _, _, _, rfl⟩, by show (t.extract _ t.size).size < t.size; rw [HZ.out]; omega⟩
    have e2 : (bt t 0 == 37) = false := by rw [H0.out]; simp; omega
    have HN : Hid (tellM A (ls (t.extract 1 t.size)) u2 (T1 ++ ls (t.extract 0 1)) = R) := Lib.hid (by rw [← HM.out, t_ch h1' h92 h37])
    have HZ := Lib.hid (show (t.extract 1 t.size).size = t.size - 1 from ext_sz _ _ _ (Nat.le_refl _))
    have HZ1 := Lib.hid (show (t.extract 0 1).size = 1 from by rw [ext_sz _ _ _ h1])
    have CPUT := Lib.hid (put21 W g S1 (tk || decide (u < u2)) T1 T1' av1 tv1 (t.extract 0 1) _ HT.out (by rw [HZ1.out]; omega) (by rw [HZ1.out]; omega))
    clear h92 h37
    go_wp2_with (go_at_call 21; refine CPUT.out.mono ?_; rintro e w3 ⟨rfl, tv3, T3', T3⟩; have HT3 := Lib.hid T3; clear T3)
    go_step3
    exact ⟨rfl, ⟨t.extract 1 t.size, S1, u2, T1 ++ ls (t.extract 0 1), T3', av1, tv3, HT3, HN, HA, HS, hu, by rw [HZ.out]; omega, by rw [HZ.out, List.length_append, ls_len, HZ1.out]; omega, _, _, _, _, _, _, _, _, _, _, _, _, _, _, _, _, _, _, _, _, _, _, _, _, _, _, _, _, _, _, _, _, _, _, _, _, _, _, _, _, _, _, _, _, _, _, _, _, _, _, _, _, _, _, _, rfl⟩, by show (t.extract _ t.size).size < t.size; rw [HZ.out]; omega⟩
end Go.Proofs.YtckhomeokhhneaaDoor
