/- The document's here-documents. Conditions: lengths below a bound. -/
import Derived.Test.YtfaohicadahcjaaGreatDoorTB
import Derived.Test.YtfaohicadahcjaaGreatDoorTD
namespace Go.Proofs.YtfaohicadahcjaaGreatDoor
open Go.RowKit Go.PlainAid Go.ChangeShapes Go.WideShapes Go.ChangeAt
set_option linter.unusedSimpArgs false
set_option linter.unusedVariables false
/-! A here-document, as the document has it. -/
def escX (b : Bool) (l : List UInt8) : List UInt8 := if b then l else escL l
def docX (b : Bool) (p : Pt) : List UInt8 := if p.kind = 2 then [36, 123] ++ ls p.text ++ [125] else if p.kind = 4 then [36, 40, 40] ++ ls p.text ++ [41, 41] else escX b (ls p.text)
theorem escL_len : ∀ l : List UInt8, (escL l).length ≤ 2 * l.length
  | [] => Nat.le_refl _
  | b :: r => by
    have := escL_len r
    rw [escL]
    split <;> simp only [List.length_cons] <;> omega
theorem docX_len (b : Bool) (p : Pt) : (docX b p).length ≤ 2 * p.text.size + 8 := by
  unfold docX escX
  have := escL_len (ls p.text)
  have h2 := ls_len p.text
  split
  · simp; omega
  · split
    · simp; omega
    · split <;> omega
theorem docXs_len (b : Bool) : ∀ l : List Pt, ((l.map (docX b)).flatten).length ≤ wordN l * 2 + l.length * 8
  | [] => by simp
  | p :: r => by
    have h1 := docXs_len b r
    have h2 := docX_len b p
    simp only [List.map_cons, List.flatten_cons, List.length_append, wordN, List.length_cons]
    omega
theorem docX_is (l : List Pt) (h : ∀ p ∈ l, p.kind = 1 ∨ p.kind = 2 ∨ p.kind = 4) : (l.map (docX (litB l))).flatten = docL l := by
  unfold docL
  cases hb : litB l with
  | true =>
    simp only [if_true]
    match l, hb with
    | [], _ => rfl
    | [p], hb =>
      have hk : p.kind = 1 := by simpa [litB] using hb
      simp [docX, escX, hk]
    | p :: q :: r, hb => simp [litB] at hb
  | false =>
    simp only [Bool.false_eq_true, if_false]
    congr 1
    apply List.map_congr_left
    intro p hp
    rcases h p hp with e | e | e <;> simp [docX, docP, escX, e]
theorem escX_cut (b : Bool) (l : List UInt8) (k : Nat) (h : k < l.length) : escX b (l.drop k) = (if !b && (decide (l[k] = 92 ∨ l[k] = 36 ∨ l[k] = 96)) then [92, l[k]] else [l[k]]) ++ escX b (l.drop (k + 1)) := by
  rw [List.drop_eq_getElem_cons h]
  cases b
  · unfold escX
    simp only [Bool.false_eq_true, if_false, Bool.not_false, Bool.true_and, escL]
    by_cases hb : l[k] = 92 ∨ l[k] = 36 ∨ l[k] = 96
    · rw [if_pos hb, if_pos (decide_eq_true hb)]; rfl
    · rw [if_neg hb, if_neg (by simpa using hb)]; rfl
  · simp [escX]
theorem doc_cut (f : Pt → List UInt8) (l : List Pt) (k : Nat) (h : k < l.length) : ((l.drop k).map f).flatten = f l[k] ++ ((l.drop (k + 1)).map f).flatten := by
  rw [List.drop_eq_getElem_cons h, List.map_cons, List.flatten_cons]
theorem hasC_esc (x : UInt8) : hasC [92, 36, 96] x.toNat = decide (x = 92 ∨ x = 36 ∨ x = 96) := by
  unfold hasC
  rw [UInt8.ofNat_toNat, List.contains_eq_mem, Bool.eq_iff_iff]
  simp
def RelD36 (f : Pt → List UInt8) (l : List Pt) (T : List UInt8) (s i : Value) : Prop := ∃ (k : Nat) (acc : ByteArray), k ≤ l.length ∧ s = .string acc ∧ i = .int .i64 k ∧ Hid (ls acc ++ ((l.drop k).map f).flatten = T)
def RelE36 (b : Bool) (t : ByteArray) (R T : List UInt8) (s i : Value) : Prop := ∃ (k : Nat) (acc : ByteArray), k ≤ t.size ∧ s = .string acc ∧ i = .int .i64 k ∧ Hid (ls acc ++ (escX b ((ls t).drop k) ++ R) = T)
theorem acc_le {acc : ByteArray} {R T : List UInt8} (h : ls acc ++ R = T) (hT : T.length ≤ 10485760) : acc.size ≤ 10485760 := by
  rw [← ls_len, ← (show (ls acc).length + R.length = T.length from by rw [← h, List.length_append])] at *
  omega
theorem d36_2 {acc t : ByteArray} {R T : List UInt8} (h : ls acc ++ (([36, 123] ++ ls t ++ [125]) ++ R) = T) : ls (acc ++ ⟨#[36, 123]⟩ ++ t ++ ⟨#[125]⟩) ++ R = T := by
  rw [app_ls2, app_ls2, app_ls2, ← h, show ls ⟨#[36, 123]⟩ = [36, 123] from rfl, show ls ⟨#[125]⟩ = [125] from rfl]; simp
theorem d36_4 {acc t : ByteArray} {R T : List UInt8} (h : ls acc ++ (([36, 40, 40] ++ ls t ++ [41, 41]) ++ R) = T) : ls (acc ++ ⟨#[36, 40, 40]⟩ ++ t ++ ⟨#[41, 41]⟩) ++ R = T := by
  rw [app_ls2, app_ls2, app_ls2, ← h, show ls ⟨#[36, 40, 40]⟩ = [36, 40, 40] from rfl, show ls ⟨#[41, 41]⟩ = [41, 41] from rfl]; simp
theorem ext_one (t : ByteArray) (k : Nat) (h : k < (ls t).length) : ls (t.extract k (k + 1)) = [(ls t)[k]] := by
  rw [ls_part, List.drop_eq_getElem_cons h]; rfl
theorem d36_end {f : Pt → List UInt8} {l : List Pt} {acc : ByteArray} {T : List UInt8} {k : Nat} (h : ls acc ++ ((l.drop k).map f).flatten = T) (hk : l.length ≤ k) : acc = mk T := by
  have h0 : l.drop k = [] := List.drop_of_length_le hk
  rw [h0] at h
  rw [← h]
  show acc = mk (ls acc ++ [])
  rw [List.append_nil, mk_ls]
theorem e36_end {b : Bool} {ac t : ByteArray} {R T : List UInt8} {j : Nat} (h : ls ac ++ (escX b ((ls t).drop j) ++ R) = T) (hj : t.size = j) : ls ac ++ R = T := by
  have h0 : (ls t).drop j = [] := List.drop_of_length_le (by rw [ls_len, hj]; exact Nat.le_refl _)
  rw [h0] at h
  cases b <;> exact h
set_option maxHeartbeats 16000000 in
set_option maxRecDepth 100000 in
theorem doc36 (n : Nat) (v : Value) (l : List Pt) (w : World) (h : WdAt n w v l) (hN : wordN l ≤ 1048576) : Calls Tryz.prog 36 #[v] w fun e w' => e = .returned (.string (mk (l.map (docX (litB l))).flatten)) ∧ w = w' := by
  have HL := Lib.hid h
  have hlen := at_len _ _ _ _ h
  have C56 := Lib.hid (lit56 n v l w h)
  obtain ⟨a, c, rfl⟩ := wd_shape _ _ _ _ h
  obtain ⟨q, Hq⟩ : ∃ q, Hid (l.length = q) := ⟨_, Lib.hid rfl⟩
  have HT0 := docXs_len (litB l) l
  have hT : ((l.map (docX (litB l))).flatten).length ≤ 10485760 := by omega
  obtain ⟨b, Hb⟩ : ∃ b, Hid (litB l = b) := ⟨_, Lib.hid rfl⟩
  rw [Hb.out] at hT C56 ⊢
  obtain ⟨f, Hf⟩ : ∃ f, Hid (docX b = f) := ⟨_, Lib.hid rfl⟩
  rw [Hf.out] at hT ⊢
  obtain ⟨T, HT⟩ : ∃ T, Hid ((l.map f).flatten = T) := ⟨_, Lib.hid rfl⟩
  rw [HT.out] at hT ⊢
  have HTl := Lib.hid hT
  rw [Hq.out] at HL hlen C56 ⊢
  clear h hN HT0 hT
  go_enter Tryz.func36, Tryz.ntmps36
  go_wp2
  go_loop [3, 4] (RelD36 f l T) (fun _ i => q - (intOf i).toNat)
  case atStart => exact ⟨0, ⟨#[]⟩, Nat.zero_le _, rfl, rfl, Lib.hid (by rw [List.drop_zero]; exact HT.out)⟩
  case round =>
    obtain ⟨k, acc, hk, rfl, rfl, HR⟩ := hrel
    rw [Hq.out] at hk
    by_cases hlt : k < q
    · have hlt' : k < l.length := by rw [Hq.out]; exact hlt
      obtain ⟨m, b1, off, c', wa, wc, ba, bc, _, e, hc, hfit, _, c0, c1, c2, c3, c4, c5⟩ := wd_at2 HL.out k hlt'
      have HC := Lib.hid (doc_cut f l k hlt')
      obtain ⟨p, Hp⟩ : ∃ p, Hid (l[k] = p) := ⟨_, Lib.hid rfl⟩
      rw [Hp.out] at HC c0 c1 c2 c3 c4 c5 hfit
      rw [Hq.out] at e hc
      cases e
      have ht := hfit.t
      have HDX : Hid (f p = docX b p) := Lib.hid (by rw [Hf.out])
      have HR1 := HR.out
      rw [HC.out, HDX.out] at HR1
      obtain ⟨R, HRr⟩ : ∃ R, Hid (((l.drop (k + 1)).map f).flatten = R) := ⟨_, Lib.hid rfl⟩
      rw [HRr.out] at HR1
      have HR2 := Lib.hid HR1
      have hacc := acc_le HR1 HTl.out
      obtain ⟨t, Ht⟩ : ∃ t, Hid (p.text = t) := ⟨_, Lib.hid rfl⟩
      have hb := get_bt t
      rw [Ht.out] at c2 ht
      have hk2 := eq_int p.kind 2
      have hk4 := eq_int p.kind 4
      clear hfit c1 c3 c4 c5 HR1 HC
      by_cases h2 : p.kind = 2
      · have HE : Hid (ls (acc ++ ⟨#[36, 123]⟩ ++ t ++ ⟨#[125]⟩) ++ R = T) := Lib.hid (d36_2 (by rw [← HR2.out]; unfold docX; rw [if_pos h2, Ht.out]))
        rw [decide_eq_true h2] at hk2
        obtain ⟨A1, HA1⟩ : ∃ x, Hid (acc ++ ⟨#[36, 123]⟩ = x) := ⟨_, Lib.hid rfl⟩
        have hs1 : A1.size = acc.size + 2 := by rw [← HA1.out, ByteArray.size_append]; rfl
        rw [HA1.out] at HE
        obtain ⟨A2, HA2⟩ : ∃ x, Hid (A1 ++ t = x) := ⟨_, Lib.hid rfl⟩
        have hs2 : A2.size = acc.size + 2 + t.size := by rw [← HA2.out, ByteArray.size_append, hs1]
        rw [HA2.out] at HE
        obtain ⟨A3, HA3⟩ : ∃ x, Hid (A2 ++ ⟨#[125]⟩ = x) := ⟨_, Lib.hid rfl⟩
        rw [HA3.out] at HE
        have g1 : ¬ 9223372036854775807 < acc.size + (⟨#[36, 123]⟩ : ByteArray).size := by show ¬ (_ < acc.size + 2); omega
        have g1' : ¬ 9223372036854775807 < acc.size + 2 := by omega
        have g2 : ¬ 9223372036854775807 < A1.size + t.size := by omega
        have g3 : ¬ 9223372036854775807 < A2.size + (⟨#[125]⟩ : ByteArray).size := by show ¬ (_ < A2.size + 1); omega
        have g3' : ¬ 9223372036854775807 < A2.size + 1 := by omega
        have r1 := HA1.out
        have r2 := HA2.out
        have r3 := HA3.out
        clear hs1 hs2 hk4 h2
        go_wp2
        go_round
        case rel => exact ⟨k + 1, A3, hlt', rfl, vi (Int.natCast_succ k).symm, Lib.hid (by rw [HRr.out]; exact HE.out)⟩
        case measure => exact sz_meas hlt
      by_cases h4 : p.kind = 4
      · have HE : Hid (ls (acc ++ ⟨#[36, 40, 40]⟩ ++ t ++ ⟨#[41, 41]⟩) ++ R = T) := Lib.hid (d36_4 (by rw [← HR2.out]; unfold docX; rw [if_neg h2, if_pos h4, Ht.out]))
        rw [decide_eq_false h2] at hk2
        rw [decide_eq_true h4] at hk4
        obtain ⟨A1, HA1⟩ : ∃ x, Hid (acc ++ ⟨#[36, 40, 40]⟩ = x) := ⟨_, Lib.hid rfl⟩
        have hs1 : A1.size = acc.size + 3 := by rw [← HA1.out, ByteArray.size_append]; rfl
        rw [HA1.out] at HE
        obtain ⟨A2, HA2⟩ : ∃ x, Hid (A1 ++ t = x) := ⟨_, Lib.hid rfl⟩
        have hs2 : A2.size = acc.size + 3 + t.size := by rw [← HA2.out, ByteArray.size_append, hs1]
        rw [HA2.out] at HE
        obtain ⟨A3, HA3⟩ : ∃ x, Hid (A2 ++ ⟨#[41, 41]⟩ = x) := ⟨_, Lib.hid rfl⟩
        rw [HA3.out] at HE
        have g1 : ¬ 9223372036854775807 < acc.size + (⟨#[36, 40, 40]⟩ : ByteArray).size := by show ¬ (_ < acc.size + 3); omega
        have g1' : ¬ 9223372036854775807 < acc.size + 3 := by omega
        have g2 : ¬ 9223372036854775807 < A1.size + t.size := by omega
        have g3 : ¬ 9223372036854775807 < A2.size + (⟨#[41, 41]⟩ : ByteArray).size := by show ¬ (_ < A2.size + 2); omega
        have g3' : ¬ 9223372036854775807 < A2.size + 2 := by omega
        have r1 := HA1.out
        have r2 := HA2.out
        have r3 := HA3.out
        clear hs1 hs2 h4 h2
        go_wp2
        go_round
        case rel => exact ⟨k + 1, A3, hlt', rfl, vi (Int.natCast_succ k).symm, Lib.hid (by rw [HRr.out]; exact HE.out)⟩
        case measure => exact sz_meas hlt
      have HE : Hid (ls acc ++ (escX b ((ls t).drop 0) ++ R) = T) := Lib.hid (by rw [← HR2.out, List.drop_zero]; unfold docX; rw [if_neg h2, if_neg h4, Ht.out])
      rw [decide_eq_false h2] at hk2
      rw [decide_eq_false h4] at hk4
      clear h2 h4
      go_wp2
      go_loop [3, 5] (RelE36 b t R T) (fun _ i => t.size - (intOf i).toNat)
      case atStart => exact ⟨0, acc, Nat.zero_le _, rfl, rfl, HE⟩
      case round =>
        obtain ⟨j, ac, hj, rfl, rfl, HRj⟩ := hrel
        by_cases hlj : j < t.size
        · have hlj' : j < (ls t).length := by rw [ls_len]; exact hlj
          have HCj := Lib.hid (escX_cut b (ls t) j hlj')
          have hac := acc_le HRj.out HTl.out
          have hbt := bt_at t j
          have hc := at0_lt (ls t) j
          have CI := Lib.hid fun W => in51 ⟨#[92, 36, 96]⟩ (by decide) (at0 (ls t) j) hc W
          rw [show ls ⟨#[92, 36, 96]⟩ = [92, 36, 96] from rfl] at CI
          have HHx : Hid (hasC [92, 36, 96] (at0 (ls t) j) = decide ((ls t)[j] = 92 ∨ (ls t)[j] = 36 ∨ (ls t)[j] = 96)) := Lib.hid (by rw [at0_of hlj']; exact hasC_esc _)
          rw [HHx.out] at CI
          generalize decide ((ls t)[j] = 92 ∨ (ls t)[j] = 36 ∨ (ls t)[j] = 96) = y at CI HCj
          have Hx1 := Lib.hid (ext_one t j hlj')
          generalize at0 (ls t) j = ch at hbt hc CI
          generalize (ls t)[j] = x at HCj Hx1
          obtain ⟨X, HX⟩ : ∃ X, Hid (t.extract j (j + 1) = X) := ⟨_, Lib.hid rfl⟩
          have hXs : X.size = 1 := by rw [← HX.out, ext_sz _ _ _ hlj]; omega
          rw [HX.out] at Hx1
          have hX := HX.out
          cases b
          case true =>
            obtain ⟨A, HA⟩ : ∃ A, Hid (ac ++ X = A) := ⟨_, Lib.hid rfl⟩
            have HE2 : Hid (ls A ++ (escX true ((ls t).drop (j + 1)) ++ R) = T) := Lib.hid (by rw [← HA.out, app_ls2, Hx1.out, ← HRj.out, HCj.out]; simp)
            have g1 : ¬ 9223372036854775807 < ac.size + X.size := by omega
            have r1 := HA.out
            go_wp2_with (first | (go_at_call 56; refine C56.out.mono ?_; rintro e w' ⟨rfl, rfl⟩) | (go_at_call 51; refine (CI.out _).mono ?_; rintro e w' ⟨rfl, rfl⟩))
            go_round
            case rel => exact ⟨j + 1, A, hlj, rfl, vi (Int.natCast_succ j).symm, HE2⟩
            case measure => exact sz_meas hlj
          cases y
          case false =>
            obtain ⟨A, HA⟩ : ∃ A, Hid (ac ++ X = A) := ⟨_, Lib.hid rfl⟩
            have HE2 : Hid (ls A ++ (escX false ((ls t).drop (j + 1)) ++ R) = T) := Lib.hid (by rw [← HA.out, app_ls2, Hx1.out, ← HRj.out, HCj.out]; simp)
            have g1 : ¬ 9223372036854775807 < ac.size + X.size := by omega
            have r1 := HA.out
            go_wp2_with (first | (go_at_call 56; refine C56.out.mono ?_; rintro e w' ⟨rfl, rfl⟩) | (go_at_call 51; refine (CI.out _).mono ?_; rintro e w' ⟨rfl, rfl⟩))
            go_round
            case rel => exact ⟨j + 1, A, hlj, rfl, vi (Int.natCast_succ j).symm, HE2⟩
            case measure => exact sz_meas hlj
          case true =>
            obtain ⟨A0, HA0⟩ : ∃ A, Hid (ac ++ ⟨#[92]⟩ = A) := ⟨_, Lib.hid rfl⟩
            have hs0 : A0.size = ac.size + 1 := by rw [← HA0.out, ByteArray.size_append]; rfl
            obtain ⟨A, HA⟩ : ∃ A, Hid (A0 ++ X = A) := ⟨_, Lib.hid rfl⟩
            have HE2 : Hid (ls A ++ (escX false ((ls t).drop (j + 1)) ++ R) = T) := Lib.hid (by rw [← HA.out, app_ls2, ← HA0.out, app_ls2, Hx1.out, ← HRj.out, HCj.out, show ls ⟨#[92]⟩ = [92] from rfl]; simp)
            have g0 : ¬ 9223372036854775807 < ac.size + (⟨#[92]⟩ : ByteArray).size := by show ¬ (_ < ac.size + 1); omega
            have g0' : ¬ 9223372036854775807 < ac.size + 1 := by omega
            have g1 : ¬ 9223372036854775807 < A0.size + X.size := by omega
            have r0 := HA0.out
            have r1 := HA.out
            clear hs0
            go_wp2_with (first | (go_at_call 56; refine C56.out.mono ?_; rintro e w' ⟨rfl, rfl⟩) | (go_at_call 51; refine (CI.out _).mono ?_; rintro e w' ⟨rfl, rfl⟩))
            go_round
            case rel => exact ⟨j + 1, A, hlj, rfl, vi (Int.natCast_succ j).symm, HE2⟩
            case measure => exact sz_meas hlj
        · have hkq : t.size = j := sz_eq hlj hj
          have HE3 : Hid (ls ac ++ ((l.drop (k + 1)).map f).flatten = T) := Lib.hid (by rw [HRr.out]; exact e36_end HRj.out hkq)
          have hnl : decide ((j : Int) < (t.size : Int)) = false := by rw [hkq]; simp
          have hnl2 : decide (j < t.size) = false := by rw [hkq]; simp
          clear hkq
          go_wp2
          go_round
          case rel => exact ⟨k + 1, ac, hlt', rfl, vi (Int.natCast_succ k).symm, HE3⟩
          case measure => exact sz_meas hlt
    · have hkq : q = k := sz_eq hlt hk
      subst hkq
      have HE : Hid (acc = mk T) := Lib.hid (d36_end HR.out (Nat.le_of_eq Hq.out))
      go_wp2
      go_ret
      rw [← HE.out]; exact ⟨rfl, rfl⟩
end Go.Proofs.YtfaohicadahcjaaGreatDoor
