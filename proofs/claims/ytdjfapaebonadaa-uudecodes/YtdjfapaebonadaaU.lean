/- Contract of the document's Decode. Condition: at most 20000 bytes. -/
import Derived.Test.YtdjfapaebonadaaT
namespace Go.Proofs.Ytdjfapaebonadaa
open Go.RowKit Go.PlainAid
set_option linter.unusedSimpArgs false
set_option linter.unusedVariables false

def G14 (w : World) (o : Option (Nat × List UInt8 × List UInt8)) (e : Ending) (w' : World) : Prop := e = .returned (v14 o) ∧ Below w.heap.size w w'
theorem nl_le (l : List UInt8) : nl l ≤ l.length := List.idxOf_le_length
theorem nl_at0 {l : List UInt8} (h : nl l < l.length) : at0 l (nl l) = 10 := by
  rw [at0_of h]; unfold nl; rw [List.getElem_idxOf h]; rfl
theorem nl_lt0 {l : List UInt8} {k : Nat} (h : k < nl l) : at0 l k ≠ 10 := by
  have hl : k < l.length := Nat.lt_of_lt_of_le h (nl_le l)
  rw [at0_of hl]
  intro e
  have := List.not_of_lt_findIdx (p := fun x => x == 10) (xs := l) (i := k) (by simpa [nl, List.idxOf] using h)
  simp at this
  exact this (UInt8.toNat_inj.1 e)
theorem nl_of {l : List UInt8} {k : Nat} (h : k < l.length) (h10 : at0 l k = 10) (hb : ∀ j, j < k → at0 l j ≠ 10) : nl l = k := by
  rcases Nat.lt_trichotomy (nl l) k with h1 | h1 | h1
  · exact absurd (nl_at0 (by omega)) (hb _ h1)
  · exact h1
  · exact absurd h10 (nl_lt0 h1)
theorem nl_none {l : List UInt8} (hb : ∀ j, j < l.length → at0 l j ≠ 10) : ¬ nl l < l.length := fun h => hb _ h (nl_at0 h)
def Rel14 (w : World) (s : ByteArray) (O : Option (Nat × List UInt8 × List UInt8)) (vm vn vd vb vf vi : Value) (wx : World) : Prop := ∃ (M : Nat) (nm D : ByteArray) (b : Bool) (f k : Nat), vm = .int .i64 M ∧ vn = .string nm ∧ vd = .string D ∧ vb = .bool b ∧ vf = .int .i64 f ∧ vi = .int .i64 k ∧ f ≤ k ∧ k ≤ s.size ∧ D.size ≤ 45 * f ∧ Hid (Below w.heap.size w wx) ∧ Hid (∀ j, f ≤ j → j < k → bt s j ≠ 10) ∧
  Hid (if b = true then f = 0 ∧ decodeO (ls s) = O else (dec ((ls s).drop f) (ls D)).map (fun d => (M, ls nm, d)) = O)
theorem nlf {s : ByteArray} {f k : Nat} (hk : k < s.size) (hf : f ≤ k) (h10 : bt s k = 10) (hn : ∀ j, f ≤ j → j < k → bt s j ≠ 10) : nl ((ls s).drop f) = k - f := by
  apply nl_of
  · rw [List.length_drop, ls_len]; omega
  · rw [at0_drop, show f + (k - f) = k by omega]; rw [bt_at] at h10; omega
  · intro j hj e
    rw [at0_drop] at e
    exact hn (f + j) (by omega) (by omega) (by rw [bt_at, e]; rfl)
theorem ext_fk (s : ByteArray) (f k : Nat) (h : f ≤ k) : ls (s.extract f k) = ((ls s).drop f).take (k - f) := by rw [ls_ext, List.drop_take]
set_option maxHeartbeats 8000000 in
set_option maxRecDepth 100000 in
theorem decode14 (s : ByteArray) (w : World) (hs : s.size ≤ 20000) : Calls Try.prog 14 #[.string s] w (G14 w (decodeO (ls s))) := by
  have hb := get_bt s
  obtain ⟨O, HO⟩ : ∃ O, Hid (decodeO (ls s) = O) := ⟨_, Lib.hid rfl⟩
  rw [HO.out]
  go_enter Try.func14, Try.ntmps14
  go_wp2
  go_loopw [6, 7, 8, 9, 10, 11] (Rel14 w s O) (fun _ _ _ _ _ i _ => s.size - (intOf i).toNat)
  case atStart => exact ⟨0, ⟨#[]⟩, ⟨#[]⟩, true, 0, 0, rfl, rfl, rfl, rfl, rfl, rfl, by omega, by omega, by show 0 ≤ _; omega, Lib.hid (Below.refl _ _), Lib.hid (fun j _ h => by omega), Lib.hid (by rw [if_pos rfl]; exact ⟨rfl, HO.out⟩)⟩
  case round =>
    clear HO
    obtain ⟨M, nm, D, b, f, k, rfl, rfl, rfl, rfl, rfl, rfl, hfk, hk, hD, HB, HN, HC⟩ := hrel
    rename World => wx
    by_cases hlt : k < s.size
    · cases h10 : (bt s k == 10)
      · have h10' : (bt s k != 10) = true := by rw [bne, h10]; rfl
        have HN2 : Hid (∀ j, f ≤ j → j < k + 1 → bt s j ≠ 10) := Lib.hid fun j h1 h2 => by
          by_cases e : j = k
          · subst e; exact beq_eq_false_iff_ne.1 h10
          · exact HN.out j h1 (by omega)
        go_wp2
        go_roundw
        case rel => exact ⟨M, nm, D, b, f, k + 1, rfl, rfl, rfl, rfl, rfl, by go_num, by omega, by omega, hD, HB, HN2, HC⟩
        case measure => simp [intOf]; omega
      · have h10' : (bt s k != 10) = false := by rw [bne, h10]; rfl
        have HNL := Lib.hid (nlf hlt hfk (beq_iff_eq.1 h10) HN.out)
        have hlx : (s.extract f k).size = k - f := ext_sz _ _ _ (by omega)
        cases b
        · replace HC : Hid ((dec ((ls s).drop f) (ls D)).map (fun d => (M, ls nm, d)) = O) := HC
          have C := Lib.hid fun W => bytes29 (s.extract f k) W (by rw [hlx]; omega)
          have hll : nl ((ls s).drop f) < ((ls s).drop f).length := by rw [HNL.out, List.length_drop, ls_len]; omega
          have Hll := Lib.hid hll
          have HLX := Lib.hid hlx
          clear hll hlx
          cases hby : bytesOf (ls (s.extract f k)) with
          | none =>
            rw [hby] at C
            have HX : Hid (O = none) := Lib.hid (by rw [← HC.out, dec_bad Hll.out (by rw [HNL.out, ← ext_fk _ _ _ hfk]; exact hby)]; rfl)
            clear hby
            go_wp2_with fail
            refine (C.out _).mono ?_
            rintro e w2 ⟨b2, x, rfl⟩
            have HB2 := Lib.hid (HB.out.trans (b2.mono HB.out.size))
            clear b2 C
            go_wp2
            (try simp only [Exit.inBlock, Exit.then]); refine bodyPost_ret (results_tmp4 rfl _ _ _) rfl ?_
            rw [HX.out]
            exact ⟨rfl, HB2.out⟩
          | some d =>
            rw [hby] at C
            by_cases hd0 : d = []
            · subst hd0
              have HX : Hid (O = if endB (s.extract (k + 1) s.size) = true then some (M, ls nm, ls D) else none) := Lib.hid (by
                rw [← HC.out, dec_end Hll.out (by rw [HNL.out, ← ext_fk _ _ _ hfk]; exact hby), HNL.out, List.drop_drop, show f + (k - f + 1) = k + 1 by omega, ← ls_drop]
                by_cases e : endB (s.extract (k + 1) s.size) = true
                · rw [if_pos e, if_pos ((endB_iff _).1 e)]; rfl
                · rw [if_neg e, if_neg (fun h => e ((endB_iff _).2 h))]; rfl)
              clear hby
              have hem : (mk []).size = 0 := rfl
              have hem2 := toList_em hem
              replace C : Hid (∀ W, Calls Try.prog 29 #[.string (s.extract f k)] W fun e w' => Below W.heap.size W w' ∧ e = .returned (.tuple #[.string (mk []), .bool true])) := C
              generalize mk [] = em at C hem2
              clear hem
              cases heb : endB (s.extract (k + 1) s.size)
              · rw [heb] at HX
                unfold endB at heb
                have heb2 : ((s.extract (k + 1) s.size).toList != [101, 110, 100, 10]) = true := by rw [bne, heb]; rfl
                go_wp2_with fail
                refine (C.out _).mono ?_
                rintro e w2 ⟨b2, rfl⟩
                have HB2 := Lib.hid (HB.out.trans (b2.mono HB.out.size))
                clear b2 C
                go_wp2
                (try simp only [Exit.inBlock, Exit.then]); refine bodyPost_ret (results_tmp4 rfl _ _ _) rfl ?_
                rw [HX.out]
                exact ⟨rfl, HB2.out⟩
              · rw [heb] at HX
                unfold endB at heb
                have heb2 : ((s.extract (k + 1) s.size).toList != [101, 110, 100, 10]) = false := by rw [bne, heb]; rfl
                go_wp2_with fail
                refine (C.out _).mono ?_
                rintro e w2 ⟨b2, rfl⟩
                have HB2 := Lib.hid (HB.out.trans (b2.mono HB.out.size))
                clear b2 C
                go_wp2
                (try simp only [Exit.inBlock, Exit.then]); refine bodyPost_ret (results_tmp4 rfl _ _ _) rfl ?_
                rw [HX.out]
                refine ⟨?_, HB2.out⟩
                show _ = Ending.returned (.tuple #[.int .i64 M, .string (mk (ls nm)), .string (mk (ls D)), .bool true])
                rw [mk_ls, mk_ls]
                rfl
            · have hdl : d.length ≤ 45 := by
                cases hc : cnt (ls (s.extract f k)) with
                | none => rw [bytesOf_none hc] at hby; cases hby
                | some n => have h3 := cnt_some hc; rw [h3.1] at hby; rw [gr_len _ _ _ hby]; exact h3.2.1
              have HX : Hid ((dec ((ls s).drop (k + 1)) (ls (D ++ mk d))).map (fun d => (M, ls nm, d)) = O) := Lib.hid (by
                rw [← HC.out, dec_next Hll.out (by rw [HNL.out, ← ext_fk _ _ _ hfk]; exact hby) hd0, HNL.out, List.drop_drop, show f + (k - f + 1) = k + 1 by omega, ls_app, ls_mk])
              clear hby
              have hne : (mk d).size ≤ 45 := by rw [mk_size]; exact hdl
              have hne2 : ((mk d).toList == []) = false := toList_ne (by rw [mk_size]; exact List.length_pos_iff.2 hd0)
              have HDs : Hid ((D ++ mk d).size ≤ 45 * (k + 1)) := Lib.hid (by rw [ByteArray.size_append]; omega)
              replace C : Hid (∀ W, Calls Try.prog 29 #[.string (s.extract f k)] W fun e w' => Below W.heap.size W w' ∧ e = .returned (.tuple #[.string (mk d), .bool true])) := C
              generalize mk d = T at C hne hne2 HX HDs
              have hcat : ¬ (9223372036854775807 < D.size + T.size) := by omega
              go_wp2_with fail
              refine (C.out _).mono ?_
              rintro e w2 ⟨b2, rfl⟩
              have HB2 := Lib.hid (HB.out.trans (b2.mono HB.out.size))
              clear b2 C
              go_wp2
              go_roundw
              case rel => exact ⟨M, nm, D ++ T, false, k + 1, k + 1, rfl, rfl, rfl, rfl, by go_num, by go_num, by omega, by omega, HDs.out, HB2, Lib.hid (fun j h1 h2 => by omega), HX⟩
              case measure => simp [intOf]; omega
        · replace HC : Hid (f = 0 ∧ decodeO (ls s) = O) := HC
          obtain rfl : f = 0 := HC.out.1
          have C := Lib.hid fun W => head16 (s.extract 0 k) W (by rw [hlx]; omega)
          have HLX := Lib.hid hlx
          clear hlx
          have HNL2 : Hid (nl (ls s) = k) := Lib.hid HNL.out
          have HY := Lib.hid (de_yes HNL2.out hlt)
          rw [HC.out.2] at HY
          cases hh : headOf (ls (s.extract 0 k)) with
          | none =>
            rw [hh] at C HY
            have HX : Hid (O = none) := HY
            unfold G16 v16 at C
            clear hh HY
            go_wp2_with fail
            refine (C.out _).mono ?_
            rintro e w2 ⟨rfl, b2⟩
            have HB2 := Lib.hid (HB.out.trans (b2.mono HB.out.size))
            clear b2 C
            go_wp2
            (try simp only [Exit.inBlock, Exit.then]); refine bodyPost_ret (results_tmp4 rfl _ _ _) rfl ?_
            rw [HX.out]
            exact ⟨rfl, HB2.out⟩
          | some mn =>
            obtain ⟨M2, nm2⟩ := mn
            have hM2 := headOf_small hh
            rw [hh] at C HY
            have HX : Hid ((dec ((ls s).drop (k + 1)) (ls D)).map (fun d => (M2, ls (mk nm2), d)) = O) := Lib.hid (by rw [HY.out, ls_drop, ls_em (t := D) (by omega)]; rfl)
            replace C : Hid (∀ W, Calls Try.prog 16 #[.string (s.extract 0 k)] W fun e w' => e = .returned (.tuple #[.int .i64 M2, .string (mk nm2), .bool true]) ∧ Below W.heap.size W w') := C
            clear hh HY
            generalize mk nm2 = nm3 at C HX
            go_wp2_with fail
            refine (C.out _).mono ?_
            rintro e w2 ⟨rfl, b2⟩
            have HB2 := Lib.hid (HB.out.trans (b2.mono HB.out.size))
            clear b2 C
            go_wp2
            go_roundw
            case rel => exact ⟨M2, nm3, D, false, k + 1, k + 1, rfl, rfl, rfl, rfl, by go_num, by go_num, by omega, by omega, by omega, HB2, Lib.hid (fun j h1 h2 => by omega), HX⟩
            case measure => simp [intOf]; omega
    · obtain rfl : k = s.size := by omega
      have HX : Hid (O = none) := Lib.hid (by
        have h2 := HC.out
        have h3 : ¬ nl ((ls s).drop f) < ((ls s).drop f).length := nl_none (fun j hj e => by
          rw [List.length_drop, ls_len] at hj
          rw [at0_drop] at e
          exact HN.out (f + j) (by omega) (by omega) (by rw [bt_at, e]; rfl))
        split at h2
        · obtain ⟨rfl, h4⟩ := h2
          rw [← h4, de_no]
          rw [← ls_len]; exact h3
        · rw [← h2, dec_none h3]; rfl)
      go_wp2
      (try simp only [Exit.inBlock, Exit.then]); refine bodyPost_ret (results_tmp4 rfl _ _ _) rfl ?_
      rw [HX.out]
      exact ⟨rfl, HB.out⟩
end Go.Proofs.Ytdjfapaebonadaa
