/- Format. Conditions: lengths below a bound. -/
import Derived.Test.YtckhomeokhhneaaDoorO
namespace Go.Proofs.YtckhomeokhhneaaDoor
open Go.RowKit Go.PlainAid
set_option linter.unusedSimpArgs false
set_option linter.unusedVariables false

theorem tell_err (A : List (List UInt8)) (f : List UInt8) : ∀ u T x, tellM A f u T = .error x → x = 11 ∨ x = 33 := by
  generalize hn : f.length = n
  induction n using Nat.strongRecOn generalizing f with
  | ind n ih =>
    intro u T x h
    cases f with
    | nil => rw [tell_nil] at h; cases h
    | cons c r =>
      have hl : r.length + 1 = n := by simpa using hn
      by_cases h92 : c = 92
      · subst h92
        rw [tell_bs] at h
        exact ih _ (by simp; omega) _ rfl _ _ _ h
      · by_cases h37 : c = 37
        · subst h37
          cases hp : placeO r with
          | none => rw [tell_bad _ _ _ _ hp] at h; injection h with h; exact .inl h.symm
          | some pn =>
            obtain ⟨p, k⟩ := pn
            have hk := placeO_le hp
            by_cases hc : p.ch = 37
            · rw [tell_pc _ _ _ _ p k hp hc] at h
              exact ih _ (by simp; omega) _ rfl _ _ _ h
            · cases hf : fillO p (argAt A u) with
              | none => rw [tell_no _ _ _ _ p k hp hc hf] at h; injection h with h; exact .inr h.symm
              | some s =>
                rw [tell_yes _ _ _ _ p k s hp hc hf] at h
                exact ih _ (by simp; omega) _ rfl _ _ _ h
        · rw [tell_ch _ _ _ _ _ h92 h37] at h
          exact ih _ (by omega) _ rfl _ _ _ h
theorem fm_err {A : List (List UInt8)} {f T : List UInt8} {u x : Nat} (h : tellM A f u T = .error x) : formatM A f u T = .error x := by rw [formatM, h]
theorem fm_long {A : List (List UInt8)} {f T T2 : List UInt8} {u u2 : Nat} (h : tellM A f u T = .ok (u2, T2)) (hl : 4194304 < T2.length) : formatM A f u T = .error 18 := by rw [formatM, h]; exact if_pos hl
theorem fm_more {A : List (List UInt8)} {f T T2 : List UInt8} {u u2 : Nat} (h : tellM A f u T = .ok (u2, T2)) (hl : ¬ 4194304 < T2.length) (h2 : u < u2 ∧ u2 < A.length) : formatM A f u T = formatM A f u2 T2 := by
  rw [formatM, h]
  simp only
  rw [if_neg hl, if_pos h2]
theorem fm_done {A : List (List UInt8)} {f T T2 : List UInt8} {u u2 : Nat} (h : tellM A f u T = .ok (u2, T2)) (hl : ¬ 4194304 < T2.length) (h2 : ¬ (u < u2 ∧ u2 < A.length)) : formatM A f u T = .ok T2 := by
  rw [formatM, h]
  simp only
  rw [if_neg hl, if_neg h2]
def slLen : Value → Nat | .slice _ n _ => n | _ => 0
def lenAt (g : Nat) (w : World) : Nat := match w.cell? ⟨g, 0, none⟩ with | some v => slLen v | none => 0
theorem Tl.lenAt {W w : World} {g : Nat} {S : List ByteArray} {tk : Bool} {T T' : List UInt8} {av tv : Value} (h : Tl W g S tk T av tv T' w) : lenAt g w = S.length := by
  obtain ⟨a, c, e⟩ := h.args.shape
  unfold Go.Proofs.YtckhomeokhhneaaDoor.lenAt
  rw [cell_of h.cells]
  show slLen av = _
  rw [e]; rfl
def FmE (R : Except Nat (List UInt8)) (e : Ending) : Prop := match R with
  | .error x => e = .returned (.tuple #[.string ⟨#[]⟩, .int .i64 x])
  | .ok T => e = .returned (.tuple #[.string (mk T), .int .i64 0])
def Jump9 (W : World) (g : Nat) (A : List (List UInt8)) (f : ByteArray) (v : Value) (R : Except Nat (List UInt8)) (a' : Act) (w' : World) : Prop := ∃ (u : Nat) (S : List ByteArray) (T T' : List UInt8) (av tv : Value), Hid (Tl W g S (decide (0 < u)) T av tv T' w') ∧ Hid (formatM A (ls f) u T = R) ∧ Hid (S.map ls = A.drop u) ∧ Hid (∀ s ∈ S, s.size ≤ 100000) ∧ Hid (u = 0 ∨ 0 < cnt (ls f)) ∧ T.length ≤ 4194304 ∧
  ∃ (u7 u8 u9 u10 u11 u12 u13 u14 u15 u16 u17 u18 u19 u20 u21 u22 u23 u24 u25 u26 u27 u28 : Value), a' = { tmps := #[.string f, v, undef, undef, .string ⟨#[]⟩, .int .i64 0, .pointer (some ⟨g, 0, none⟩), u7, u8, u9, u10, u11, u12, u13, u14, u15, u16, u17, u18, u19, u20, u21, u22, u23, u24, u25, u26, u27, u28], defers := [] }
set_option maxHeartbeats 8000000 in
set_option maxRecDepth 100000 in
theorem format9 (f : ByteArray) (v : Value) (S0 : List ByteArray) (w : World) (he : Env w) (hv : Strs w v S0) (hf : f.size ≤ 1000000) (hS : ∀ s ∈ S0, s.size ≤ 100000) :
    Calls Tryd.prog 9 #[.string f, v] w fun e w' => FmE (formatM (S0.map ls) (ls f) 0 []) e ∧ Below w.heap.size w w' := by
  obtain ⟨R, HM⟩ : ∃ R, Hid (formatM (S0.map ls) (ls f) 0 [] = R) := ⟨_, Lib.hid rfl⟩
  rw [HM.out]
  obtain ⟨A, HAA⟩ : ∃ A, Hid (S0.map ls = A) := ⟨_, Lib.hid rfl⟩
  rw [HAA.out] at HM
  have HT : Hid (Tl w w.heap.size S0 (decide (0 < 0)) [] v (.slice none 0 0) [] (w.alloc (.cells #[v, .bool false, .slice none 0 0, .int .i64 0] 39))) := Lib.hid ⟨Nat.le_refl _, heap_alloc_new _ _, hv, ob_nil _ _, by simp, fun _ => rfl, (Below.refl _ w).alloc (Nat.le_refl _) _, by simp⟩
  have HA : Hid (S0.map ls = A.drop 0) := Lib.hid (by rw [HAA.out]; rfl)
  have HS := Lib.hid hS
  have HE := Lib.hid he
  obtain ⟨va, vc, rfl⟩ := hv.shape
  clear hS he hv
  go_enter Tryd.func9, Tryd.ntmps9
  go_wp2
  refine wp_scope_jumps 0 (Jump9 w w.heap.size A f (.slice va S0.length vc) R) (fun _ w' => lenAt w.heap.size w') rfl ?_ ?_
  · obtain ⟨S, hSS⟩ : ∃ S, S = S0 := ⟨_, rfl⟩
    obtain ⟨u, hu⟩ : ∃ u, u = 0 := ⟨_, rfl⟩
    obtain ⟨T, hTT⟩ : ∃ T : List UInt8, T = [] := ⟨_, rfl⟩
    have hT4 : T.length ≤ 4194304 := by rw [hTT]; simp
    have HC : Hid (u = 0 ∨ 0 < cnt (ls f)) := Lib.hid (.inl hu)
    rw [← hSS, ← hu] at HA
    rw [← hu, ← hTT] at HM
    obtain ⟨T', hTT2⟩ : ∃ T' : List UInt8, T' = [] := ⟨_, rfl⟩
    have HT0 : Hid (Tl w w.heap.size S (decide (0 < u)) T (.slice va S0.length vc) (.slice none 0 0) T' (w.alloc (.cells #[.slice va S0.length vc, .bool false, .slice none 0 0, .int .i64 0] 39))) := Lib.hid (by rw [hSS, hu, hTT, hTT2]; exact HT.out)
    rw [← hSS] at HS
    clear HT hu hTT hTT2
    have CT := Lib.hid (tell16 w HE.out w.heap.size A S (decide (0 < u)) u T T' (.slice va S0.length vc) (.slice none 0 0) _ HT0.out f hf (by omega) HA.out HS.out)
    cases htl : tellM A (ls f) u T with
    | error x =>
      have HRR : Hid (R = .error x) := Lib.hid (by rw [← HM.out, fm_err htl])
      have hx := tell_err _ _ _ _ _ htl
      have hx0 : ((x : Int) != 0) = true := by simp; omega
      rw [htl] at CT
      unfold TellE at CT
      simp only at CT
      clear hx htl
      go_wp2_with fail
      go_step3
      go_wp2_with (go_at_call 16; refine CT.out.mono ?_; rintro e w2 ⟨rfl, S2, tk2, T2, av2, tv2, T2', H2⟩; have HT2 := Lib.hid H2; clear H2)
      simp only [Exit.jump]
      go_ret2
      exact ⟨by rw [HRR.out]; rfl, HT2.out.bel⟩
    | ok y =>
      obtain ⟨u2, T2⟩ := y
      have hcnt := tell_cnt _ _ _ _ _ _ htl
      have HTL := Lib.hid htl
      rw [htl] at CT
      unfold TellE at CT
      simp only at CT
      clear htl
      go_wp2_with fail
      go_step3
      go_wp2_with fail
      refine CT.out.mono ?_
      rintro e w2 ⟨rfl, hu2, S2, hA2, hS2, av2, tv2, T2', H2⟩
      have HT2 := Lib.hid H2
      have HA2 := Lib.hid hA2
      have HS2 := Lib.hid hS2
      obtain ⟨sa, sc, hav⟩ := H2.args.shape
      obtain ⟨ta, tc, htv⟩ := H2.told.shape
      have c0 : w2.cell? ⟨w.heap.size, 0, none⟩ = some (.slice sa S2.length sc) := by rw [cell_of H2.cells, ← hav]; rfl
      have c1 : w2.cell? ⟨w.heap.size, 1, none⟩ = some (.bool (decide (0 < u) || decide (u < u2))) := by rw [cell_of H2.cells]; rfl
      have c2 : w2.cell? ⟨w.heap.size, 2, none⟩ = some (.slice ta T2'.length tc) := by rw [cell_of H2.cells, ← htv]; rfl
      have c3 : w2.cell? ⟨w.heap.size, 3, none⟩ = some (.int .i64 T2.length) := by rw [cell_of H2.cells]; rfl
      have hbk := H2.told.back
      rw [htv] at hbk
      have hsl : S2.length = A.length - u2 := by have := congrArg List.length hA2; simpa using this
      have hsl0 : S.length = A.length - u := by have := congrArg List.length HA.out; simpa using this
      clear H2 hA2 hS2 hav htv CT
      by_cases hbig : 4194304 < T2.length
      · have HRR : Hid (R = .error 18) := Lib.hid (by rw [← HM.out, fm_long HTL.out hbig])
        clear c0 c1 c2 hbk
        have hd : decide (4194304 < (T2.length : Int)) = true := decide_eq_true (by omega)
        go_wp2
        simp only [Exit.jump]
        go_ret2
        exact ⟨by rw [HRR.out]; rfl, HT2.out.bel⟩
      have hd : decide (4194304 < (T2.length : Int)) = false := decide_eq_false (by omega)
      by_cases hmore : u < u2 ∧ u2 < A.length
      · obtain ⟨m1, m2⟩ := hmore
        have HN : Hid (formatM A (ls f) u2 T2 = R) := Lib.hid (by rw [← HM.out, fm_more HTL.out hbig ⟨m1, m2⟩])
        have hb1 : (decide (0 < u) || decide (u < u2)) = true := by rw [decide_eq_true m1]; simp
        rw [hb1] at c1
        have hd2 : decide (0 < (S2.length : Int)) = true := decide_eq_true (by omega)
        have hd3 : decide (0 < S2.length) = true := decide_eq_true (by omega)
        have HK : Hid ((decide (0 < u) || decide (u < u2)) = decide (0 < u2)) := Lib.hid (by rw [hb1, decide_eq_true (by omega)])
        have HC2 : Hid (u2 = 0 ∨ 0 < cnt (ls f)) := Lib.hid (.inr (by omega))
        have HLT : Hid (S2.length < S.length) := Lib.hid (by omega)
        clear c2 hbk hb1 hcnt
        go_wp2
        go_step3
        exact ⟨rfl, u2, S2, T2, T2', av2, tv2, Lib.hid (by rw [← HK.out]; exact HT2.out), HN, HA2, HS2, HC2, by omega, _, _, _, _, _, _, _, _, _, _, _, _, _, _, _, _, _, _, _, _, _, _, rfl⟩
      · have HRR : Hid (R = .ok T2) := Lib.hid (by rw [← HM.out, fm_done HTL.out hbig hmore])
        have hsame := HT2.out.same (by omega)
        subst hsame
        have hno : (decide (0 < u) || decide (u < u2)) = false ∨ S2.length = 0 := by
          by_cases h0 : 0 < u2
          · right
            have : u < u2 := by have := HC.out; omega
            have : ¬ u2 < A.length := fun h => hmore ⟨this, h⟩
            omega
          · left
            rw [decide_eq_false (by omega), decide_eq_false (by omega)]; rfl
        clear hmore hcnt
        rcases hno with hno | hno
        · rw [hno] at c1
          clear c0 hno
          go_wp2
          simp only [Exit.jump]
          go_ret2
          exact ⟨by rw [HRR.out]; rfl, HT2.out.bel⟩
        · rw [hno] at c0
          clear hno
          generalize (decide (0 < u) || decide (u < u2)) = bb at c1
          cases bb
          · clear c0
            go_wp2
            simp only [Exit.jump]
            go_ret2
            exact ⟨by rw [HRR.out]; rfl, HT2.out.bel⟩
          · go_wp2
            simp only [Exit.jump]
            go_ret2
            exact ⟨by rw [HRR.out]; rfl, HT2.out.bel⟩
  · clear HM HT HA HS
    rintro a' w1 ⟨u, S, T, T', av, tv, HT, HM, HA, HS, HC, hT4, u7, u8, u9, u10, u11, u12, u13, u14, u15, u16, u17, u18, u19, u20, u21, u22, u23, u24, u25, u26, u27, u28, rfl⟩
    have CT := Lib.hid (tell16 w HE.out w.heap.size A S (decide (0 < u)) u T T' av tv w1 HT.out f hf (by omega) HA.out HS.out)
    cases htl : tellM A (ls f) u T with
    | error x =>
      have HRR : Hid (R = .error x) := Lib.hid (by rw [← HM.out, fm_err htl])
      have hx := tell_err _ _ _ _ _ htl
      have hx0 : ((x : Int) != 0) = true := by simp; omega
      rw [htl] at CT
      unfold TellE at CT
      simp only at CT
      clear hx htl
      go_wp2_with (go_at_call 16; refine CT.out.mono ?_; rintro e w2 ⟨rfl, S2, tk2, T2, av2, tv2, T2', H2⟩; have HT2 := Lib.hid H2; clear H2)
      simp only [Exit.jump]
      go_ret2
      exact ⟨by rw [HRR.out]; rfl, HT2.out.bel⟩
    | ok y =>
      obtain ⟨u2, T2⟩ := y
      have hcnt := tell_cnt _ _ _ _ _ _ htl
      have HTL := Lib.hid htl
      rw [htl] at CT
      unfold TellE at CT
      simp only at CT
      clear htl
      go_wp2_with fail
      refine CT.out.mono ?_
      rintro e w2 ⟨rfl, hu2, S2, hA2, hS2, av2, tv2, T2', H2⟩
      have HT2 := Lib.hid H2
      have HA2 := Lib.hid hA2
      have HS2 := Lib.hid hS2
      obtain ⟨sa, sc, hav⟩ := H2.args.shape
      obtain ⟨ta, tc, htv⟩ := H2.told.shape
      have c0 : w2.cell? ⟨w.heap.size, 0, none⟩ = some (.slice sa S2.length sc) := by rw [cell_of H2.cells, ← hav]; rfl
      have c1 : w2.cell? ⟨w.heap.size, 1, none⟩ = some (.bool (decide (0 < u) || decide (u < u2))) := by rw [cell_of H2.cells]; rfl
      have c2 : w2.cell? ⟨w.heap.size, 2, none⟩ = some (.slice ta T2'.length tc) := by rw [cell_of H2.cells, ← htv]; rfl
      have c3 : w2.cell? ⟨w.heap.size, 3, none⟩ = some (.int .i64 T2.length) := by rw [cell_of H2.cells]; rfl
      have hbk := H2.told.back
      rw [htv] at hbk
      have hsl : S2.length = A.length - u2 := by have := congrArg List.length hA2; simpa using this
      have hsl0 : S.length = A.length - u := by have := congrArg List.length HA.out; simpa using this
      clear H2 hA2 hS2 hav htv CT
      by_cases hbig : 4194304 < T2.length
      · have HRR : Hid (R = .error 18) := Lib.hid (by rw [← HM.out, fm_long HTL.out hbig])
        clear c0 c1 c2 hbk
        have hd : decide (4194304 < (T2.length : Int)) = true := decide_eq_true (by omega)
        go_wp2
        simp only [Exit.jump]
        go_ret2
        exact ⟨by rw [HRR.out]; rfl, HT2.out.bel⟩
      have hd : decide (4194304 < (T2.length : Int)) = false := decide_eq_false (by omega)
      by_cases hmore : u < u2 ∧ u2 < A.length
      · obtain ⟨m1, m2⟩ := hmore
        have HN : Hid (formatM A (ls f) u2 T2 = R) := Lib.hid (by rw [← HM.out, fm_more HTL.out hbig ⟨m1, m2⟩])
        have hb1 : (decide (0 < u) || decide (u < u2)) = true := by rw [decide_eq_true m1]; simp
        rw [hb1] at c1
        have hd2 : decide (0 < (S2.length : Int)) = true := decide_eq_true (by omega)
        have hd3 : decide (0 < S2.length) = true := decide_eq_true (by omega)
        have HK : Hid ((decide (0 < u) || decide (u < u2)) = decide (0 < u2)) := Lib.hid (by rw [hb1, decide_eq_true (by omega)])
        have HC2 : Hid (u2 = 0 ∨ 0 < cnt (ls f)) := Lib.hid (.inr (by omega))
        have HLT : Hid (S2.length < S.length) := Lib.hid (by omega)
        clear c2 hbk hb1 hcnt
        go_wp2
        go_step3
        exact ⟨rfl, ⟨u2, S2, T2, T2', av2, tv2, Lib.hid (by rw [← HK.out]; exact HT2.out), HN, HA2, HS2, HC2, by omega, _, _, _, _, _, _, _, _, _, _, _, _, _, _, _, _, _, _, _, _, _, _, rfl⟩, by show lenAt _ _ < lenAt _ _; rw [HT2.out.lenAt, HT.out.lenAt]; exact HLT.out⟩
      · have HRR : Hid (R = .ok T2) := Lib.hid (by rw [← HM.out, fm_done HTL.out hbig hmore])
        have hsame := HT2.out.same (by omega)
        subst hsame
        have hno : (decide (0 < u) || decide (u < u2)) = false ∨ S2.length = 0 := by
          by_cases h0 : 0 < u2
          · right
            have : u < u2 := by have := HC.out; omega
            have : ¬ u2 < A.length := fun h => hmore ⟨this, h⟩
            omega
          · left
            rw [decide_eq_false (by omega), decide_eq_false (by omega)]; rfl
        clear hmore hcnt
        rcases hno with hno | hno
        · rw [hno] at c1
          clear c0 hno
          go_wp2
          simp only [Exit.jump]
          go_ret2
          exact ⟨by rw [HRR.out]; rfl, HT2.out.bel⟩
        · rw [hno] at c0
          clear hno
          generalize (decide (0 < u) || decide (u < u2)) = bb at c1
          cases bb
          · clear c0
            go_wp2
            simp only [Exit.jump]
            go_ret2
            exact ⟨by rw [HRR.out]; rfl, HT2.out.bel⟩
          · go_wp2
            simp only [Exit.jump]
            go_ret2
            exact ⟨by rw [HRR.out]; rfl, HT2.out.bel⟩
end Go.Proofs.YtckhomeokhhneaaDoor
