/- Contracts: Read, ours and the document's. Conditions: lengths below a bound. -/
import Derived.Test.YtgcjokbgjjacdaaDoorC
namespace Go.Proofs.YtgcjokbgjjacdaaDoor
open Go.RowKit Go.PlainAid
set_option linter.unusedSimpArgs false
set_option linter.unusedVariables false

def GivesR (w : World) (o : Option (List UInt8)) (e : Ending) (w' : World) : Prop := e = .returned (.tuple #[.string (mk (o.getD [])), .int .i64 (if o.isSome then 0 else 11)]) ∧ Below w.heap.size w w'
def Rel14 (s : ByteArray) (w : World) (q v : Value) (wx : World) : Prop := ∃ (t : ByteArray) (p : List UInt8), q = .string t ∧ Hid (OB w.heap.size v p wx) ∧ t.size + p.length ≤ s.size ∧ Hid (rd false (ls s) = (rd false (ls t)).map (p ++ ·)) ∧ Hid (Below w.heap.size w wx) ∧ w.heap.size ≤ wx.heap.size
theorem map_app (o : Option (List UInt8)) (p q : List UInt8) : (o.map (q ++ ·)).map (p ++ ·) = o.map ((p ++ q) ++ ·) := by cases o <;> simp
set_option maxHeartbeats 4000000 in
set_option maxRecDepth 100000 in
theorem read14 (s : ByteArray) (w : World) (hs : s.size ≤ 1000000) : Calls Tryd.prog 14 #[.string s] w (GivesR w (readL (ls s))) := by
  by_cases h0 : s.size = 0
  · have he := toList_em h0
    have HF : Hid (readL (ls s) = none) := Lib.hid (by unfold readL; rw [ls_em h0, if_pos rfl])
    go_enter Tryd.func14, Tryd.ntmps14
    go_wp2
    go_ret2
    rw [HF.out]
    exact ⟨rfl, Below.refl _ _⟩
  have he := toList_ne (s := s) (by omega)
  have hr : readL (ls s) = rd false (ls s) := by unfold readL; rw [if_neg (ls_ne (by omega))]
  rw [hr]
  clear hr
  have HEM : Hid (∀ s : ByteArray, s.size = 0 → (s.toList == []) = true) := Lib.hid fun s => toList_em
  have HNE : Hid (∀ s : ByteArray, 0 < s.size → (s.toList == []) = false) := Lib.hid fun s => toList_ne
  have HO := Lib.hid (ob_nil w.heap.size w)
  have HB := Lib.hid (Below.refl w.heap.size w)
  go_enter Tryd.func14, Tryd.ntmps14
  go_wp2
  go_loopw [0, 4] (Rel14 s w) (fun q _ _ => szOf q)
  case atStart => exact ⟨s, [], rfl, HO, by simp, Lib.hid (by simp), HB, Nat.le_refl _⟩
  case round =>
    obtain ⟨t, p, rfl, HP, hsz, HR, HBx, hbx⟩ := hrel
    rename World => wx
    obtain ⟨a2, c2, rfl⟩ := HP.out.shape
    by_cases ht : t.size = 0
    · have het := HEM.out t ht
      have hk1 := HP.out.back
      have HF : Hid (rd false (ls s) = some p) := Lib.hid (by rw [HR.out, ls_em ht]; simp [rd])
      go_wp2
      go_ret2
      rw [HF.out]
      exact ⟨rfl, HBx.out⟩
    · have het := HNE.out t (show 0 < t.size by omega)
      have C := Lib.hid (piece20 t wx (by omega) (by omega))
      go_wp2_with fail
      refine C.out.mono ?_
      rintro e w1 ⟨pc, r, ok, rfl, hpc, b1⟩
      have HP1 := Lib.hid (HP.out.below b1)
      have HB1 := Lib.hid (HBx.out.trans (b1.mono hbx))
      have hb1 : w.heap.size ≤ w1.heap.size := HB1.out.size
      clear b1 HP C
      cases ok
      · have HF : Hid (rd false (ls s) = none) := Lib.hid (by rw [HR.out, hpc.2 rfl]; rfl)
        clear hpc
        go_wp2
        go_ret2
        rw [HF.out]
        exact ⟨rfl, HB1.out⟩
      · obtain ⟨q1, q2, q3⟩ := hpc.1 rfl
        obtain ⟨m, Hm⟩ : ∃ m, Hid (p ++ ls pc = m) := ⟨_, Lib.hid rfl⟩
        have hml : m.length = p.length + pc.size := by rw [← Hm.out, List.length_append, ls_len]
        have HR2 : Hid (rd false (ls s) = (rd false (ls r)).map (m ++ ·)) := Lib.hid (by rw [HR.out, q3, map_app, Hm.out])
        clear hpc q3
        go_wp2_with (at_builtin; refine wpList_appS rfl _ _ rfl _ w.heap.size p pc rfl rfl HP1.out ?c1 ?c2 ?_)
        case c1 => exact hb1
        case c2 => omega
        · intro v' w2 hO hg
          rw [Hm.out] at hO
          have HO2 := Lib.hid hO
          have HB2 := Lib.hid (HB1.out.grown hg (by omega) (fun j hj => (HP1.out.lt j hj).1))
          have hb2 : w.heap.size ≤ w2.heap.size := HB2.out.size
          clear hO hg
          go_wp2
          go_roundw
          case rel => exact ⟨r, m, rfl, HO2, by omega, HR2, HB2, hb2⟩
          case measure => simp [szOf]; omega
/-- What the document's reading has come to. -/
def Rel15 (st : Bool) (s : ByteArray) (x i : Value) : Prop := ∃ (k : Nat) (F : ByteArray), k ≤ s.size ∧ i = .int .i64 k ∧ x = .string F ∧ F.size ≤ k ∧ Hid (rd false (ls s) = (rd st ((ls s).drop k)).map (ls F ++ ·))
theorem map_one (o : Option (List UInt8)) (F : ByteArray) (p : ByteArray) (b : UInt8) (h : ls p = [b]) : (o.map (b :: ·)).map (ls F ++ ·) = o.map (ls (F ++ p) ++ ·) := by
  rw [app_ls2, h]; cases o <;> simp
theorem drop_end (s : ByteArray) : (ls s).drop s.size = [] := List.drop_eq_nil_of_le (by rw [ls_len]; exact Nat.le_refl _)
theorem not39 {n : Nat} (hat : n < 256) (h : n ≠ 39) : UInt8.ofNat n ≠ 39 := by
  intro e
  apply h
  rw [← show (39 : UInt8).toNat = 39 from rfl, ← e, UInt8.toNat_ofNat', Nat.mod_eq_of_lt hat]
theorem not92 {n : Nat} (hat : n < 256) (h : n ≠ 92) : UInt8.ofNat n ≠ 92 := by
  intro e
  apply h
  rw [← show (92 : UInt8).toNat = 92 from rfl, ← e, UInt8.toNat_ofNat', Nat.mod_eq_of_lt hat]
theorem head_drop (s : ByteArray) (k : Nat) (h : ∀ _ : k < s.size, at0 (ls s) k ≠ 39) : ((ls s).drop k).head? ≠ some 39 := by
  by_cases hk : k < s.size
  · rw [ls_cut s k hk]
    intro e
    simp at e
    exact not39 (at0_lt _ _) (h hk) e
  · rw [List.drop_eq_nil_of_le (by rw [ls_len]; omega)]; simp
def Rel15T (s : ByteArray) (k : Nat) (x i : Value) : Prop := ∃ (j : Nat) (F : ByteArray), j ≤ s.size ∧ k ≤ j ∧ i = .int .i64 j ∧ x = .string F ∧ F.size ≤ j ∧ Hid (rd false (ls s) = (rd true ((ls s).drop j)).map (ls F ++ ·))

set_option maxHeartbeats 4000000 in
set_option maxRecDepth 100000 in
theorem read15 (s : ByteArray) (w : World) (hs : s.size ≤ 1000000) : Calls Tryd.prog 15 #[.string s] w fun e w' => e = .returned (.tuple #[.string (mk ((readL (ls s)).getD [])), .bool (readL (ls s)).isSome]) ∧ w = w' := by
  by_cases h0 : s.size = 0
  · have he := toList_em h0
    have HF : Hid (readL (ls s) = none) := Lib.hid (by unfold readL; rw [ls_em h0, if_pos rfl])
    go_enter Tryd.func15, Tryd.ntmps15
    go_wp2
    go_loop [4, 5] (fun x i => x = .string ⟨#[]⟩ ∧ i = .int .i64 0) (fun _ _ => 0)
    case atStart => exact ⟨rfl, rfl⟩
    case round =>
      obtain ⟨rfl, rfl⟩ := hrel
      go_wp2
      go_ret2
      rw [HF.out]
      exact ⟨rfl, rfl⟩
  have he := toList_ne (s := s) (by omega)
  have hr : readL (ls s) = rd false (ls s) := by unfold readL; rw [if_neg (ls_ne (by omega))]
  rw [hr]
  clear hr
  have hb := get_bt s
  go_enter Tryd.func15, Tryd.ntmps15
  go_wp2
  go_loop [4, 5] (Rel15 false s) (fun _ i => s.size - (intOf i).toNat)
  case atStart => exact ⟨0, ⟨#[]⟩, Nat.zero_le _, rfl, rfl, Nat.zero_le _, Lib.hid (by rw [List.drop_zero]; show _ = (rd false (ls s)).map ([] ++ ·); simp)⟩
  case round =>
    obtain ⟨k, F, hk, rfl, rfl, hF, HR⟩ := hrel
    by_cases hlt : k < s.size
    · have HD := Lib.hid (ls_cut s k hlt)
      have hat := at0_lt (ls s) k
      have HA := Lib.hid (bt_at s k)
      have hps : (s.extract k (k + 1)).size = 1 := by rw [ext_sz s k (k + 1) hlt]; omega
      have HP := Lib.hid (ls_at s k hlt)
      have c1 : (0 : Int) ≤ (k : Int) := by omega
      have c2 : (k : Int) ≤ (k : Int) + 1 := by omega
      have c3 : (k : Int) + 1 ≤ (s.size : Int) := by omega
      by_cases h39 : at0 (ls s) k = 39
      · have hq : (bt s k == 39) = true := by rw [HA.out, h39]; rfl
        have HR1 : Hid (rd false (ls s) = (rd true ((ls s).drop (k + 1))).map (ls F ++ ·)) := Lib.hid (by
          rw [HR.out, HD.out, h39]; exact congrArg _ (rdF_39 _))
        clear h39 hps HP
        go_wp2
        go_loop [4, 5] (Rel15T s (k + 1)) (fun _ i => s.size - (intOf i).toNat)
        case atStart => exact ⟨k + 1, F, by omega, Nat.le_refl _, by go_num, rfl, by omega, HR1⟩
        case round =>
          obtain ⟨j, G, hj, hkj, rfl, rfl, hG, HR2⟩ := hrel
          by_cases hjl : j < s.size
          · have HD2 := Lib.hid (ls_cut s j hjl)
            have hat2 := at0_lt (ls s) j
            have HA2 := Lib.hid (bt_at s j)
            have HP2 := Lib.hid (ls_at s j hjl)
            have hps : (s.extract j (j + 1)).size = 1 := by rw [ext_sz s j (j + 1) hjl]; omega
            have d1 : (0 : Int) ≤ (j : Int) := by omega
            have d2 : (j : Int) ≤ (j : Int) + 1 := by omega
            have d3 : (j : Int) + 1 ≤ (s.size : Int) := by omega
            by_cases h2 : at0 (ls s) j = 39
            · have hq2 : (bt s j != 39) = false := by rw [HA2.out, h2]; rfl
              have hne : ((j : Int) == (s.size : Int)) = false := by rw [beq_eq_false_iff_ne]; omega
              have HR3 : Hid (rd false (ls s) = (rd false ((ls s).drop (j + 1))).map (ls G ++ ·)) := Lib.hid (by
                rw [HR2.out, HD2.out, h2]; exact congrArg _ (rdT_39 _))
              clear h2 hps
              go_wp2
              go_round
              case rel => exact ⟨j + 1, G, by omega, by go_num, rfl, by omega, HR3⟩
              case measure => simp [intOf]; omega
            · have hq2 : (bt s j != 39) = true := by rw [HA2.out, bne_iff_ne]; omega
              obtain ⟨p, Hp⟩ : ∃ p, Hid (s.extract j (j + 1) = p) := ⟨_, Lib.hid rfl⟩
              rw [Hp.out] at HP2 hps
              have hpp := Hp.out
              have n2 : ¬ 9223372036854775807 < G.size + p.size := by omega
              have z2 : (G ++ p).size = G.size + p.size := ByteArray.size_append
              have HR3 : Hid (rd false (ls s) = (rd true ((ls s).drop (j + 1))).map (ls (G ++ p) ++ ·)) := Lib.hid (by
                rw [HR2.out, HD2.out, rdT_ne _ _ (not39 hat2 h2), map_one _ _ _ _ HP2.out])
              clear h2
              go_wp2
              go_round
              case rel => exact ⟨j + 1, _, by omega, by omega, by go_num, rfl, by omega, HR3⟩
              case measure => simp [intOf]; omega
          · obtain rfl : j = s.size := by omega
            have hne : ((s.size : Int) == (s.size : Int)) = true := by simp
            have HF : Hid (rd false (ls s) = none) := Lib.hid (by rw [HR2.out, drop_end]; simp [rd])
            go_wp2
            go_ret2
            rw [HF.out]
            exact ⟨rfl, rfl⟩
      · have hq : (bt s k == 39) = false := by rw [HA.out, beq_eq_false_iff_ne]; omega
        obtain ⟨p, Hp⟩ : ∃ p, Hid (s.extract k (k + 1) = p) := ⟨_, Lib.hid rfl⟩
        rw [Hp.out] at HP hps
        have hpp := Hp.out
        have n2 : ¬ 9223372036854775807 < F.size + p.size := by omega
        have z2 : (F ++ p).size = F.size + p.size := ByteArray.size_append
        have C := Lib.hid fun W => safe17 (at0 (ls s) k) hat W
        rw [← HA.out] at C
        have HU : Hid (sfU (UInt8.ofNat (at0 (ls s) k)) = safeN (at0 (ls s) k)) := Lib.hid (by unfold sfU; rw [UInt8.toNat_ofNat', Nat.mod_eq_of_lt hat])
        have tail : ∀ _ : (UInt8.ofNat (at0 (ls s) k) = 92 → ((ls s).drop (k + 1)).head? ≠ some 39), (safeN (at0 (ls s) k) = true → Hid (rd false (ls s) = (rd false ((ls s).drop (k + 1))).map (ls (F ++ p) ++ ·))) ∧ (safeN (at0 (ls s) k) = false → Hid (rd false (ls s) = none)) := fun hb => ⟨fun h => Lib.hid (by
            rw [HR.out, HD.out, rdF_safe _ _ (by rw [HU.out]; exact h), map_one _ _ _ _ HP.out]), fun h => Lib.hid (by
            rw [HR.out, HD.out, rdF_bad _ _ (not39 hat h39) hb (by rw [HU.out]; exact h)]; rfl)⟩
        by_cases h92 : at0 (ls s) k = 92
        · have hq2 : (bt s k == 92) = true := by rw [HA.out, h92]; rfl
          by_cases hk1 : k + 1 < s.size
          · have hk2 : (k : Int) + 1 < (s.size : Int) := by omega
            have HA1 := Lib.hid (bt_at s (k + 1))
            have HD1 := Lib.hid (ls_cut s (k + 1) hk1)
            by_cases hn : at0 (ls s) (k + 1) = 39
            · have hq3 : (bt s (k + 1) == 39) = true := by rw [HA1.out, hn]; rfl
              have n3 : ¬ 9223372036854775807 < F.size + (⟨#[39]⟩ : ByteArray).size := by show ¬ _ < F.size + 1; omega
              have z3 : (F ++ (⟨#[39]⟩ : ByteArray)).size = F.size + 1 := ByteArray.size_append
              have HF : Hid (rd false (ls s) = (rd false ((ls s).drop (k + 2))).map (ls (F ++ (⟨#[39]⟩ : ByteArray)) ++ ·)) := Lib.hid (by
                rw [HR.out, HD.out, HD1.out, h92, hn]
                rw [← map_one _ F ⟨#[39]⟩ 39 rfl]
                exact congrArg _ (rdF_bs _))
              clear tail h92 hn h39
              go_wp2
              go_round
              case rel => exact ⟨k + 2, _, by omega, by go_num, rfl, by omega, HF⟩
              case measure => simp [intOf]; omega
            · have hq3 : (bt s (k + 1) == 39) = false := by rw [HA1.out, beq_eq_false_iff_ne]; omega
              obtain ⟨t1, t2⟩ := tail (fun _ => head_drop s (k + 1) (fun _ => hn))
              clear tail
              cases hsf : safeN (at0 (ls s) k)
              · have HF := t2 hsf
                rw [hsf] at C
                clear t1 t2 hsf
                go_wp2_with (go_at_call 17; refine (C.out _).mono ?_; rintro e w' ⟨rfl, rfl⟩)
                go_ret2
                rw [HF.out]
                exact ⟨rfl, rfl⟩
              · have HF := t1 hsf
                rw [hsf] at C
                clear t1 t2 hsf
                go_wp2_with (go_at_call 17; refine (C.out _).mono ?_; rintro e w' ⟨rfl, rfl⟩)
                go_round
                case rel => exact ⟨k + 1, _, by omega, by go_num, rfl, by omega, HF⟩
                case measure => simp [intOf]; omega
          · have hk2 : ¬ (k : Int) + 1 < (s.size : Int) := by omega
            obtain ⟨t1, t2⟩ := tail (fun _ => head_drop s (k + 1) (fun h => absurd h hk1))
            clear tail
            cases hsf : safeN (at0 (ls s) k)
            · have HF := t2 hsf
              rw [hsf] at C
              clear t1 t2 hsf
              go_wp2_with (go_at_call 17; refine (C.out _).mono ?_; rintro e w' ⟨rfl, rfl⟩)
              go_ret2
              rw [HF.out]
              exact ⟨rfl, rfl⟩
            · have HF := t1 hsf
              rw [hsf] at C
              clear t1 t2 hsf
              go_wp2_with (go_at_call 17; refine (C.out _).mono ?_; rintro e w' ⟨rfl, rfl⟩)
              go_round
              case rel => exact ⟨k + 1, _, by omega, by go_num, rfl, by omega, HF⟩
              case measure => simp [intOf]; omega
        · have hq2 : (bt s k == 92) = false := by rw [HA.out, beq_eq_false_iff_ne]; omega
          obtain ⟨t1, t2⟩ := tail (fun e => absurd e (not92 hat h92))
          clear tail
          cases hsf : safeN (at0 (ls s) k)
          · have HF := t2 hsf
            rw [hsf] at C
            clear t1 t2 hsf
            go_wp2_with (go_at_call 17; refine (C.out _).mono ?_; rintro e w' ⟨rfl, rfl⟩)
            go_ret2
            rw [HF.out]
            exact ⟨rfl, rfl⟩
          · have HF := t1 hsf
            rw [hsf] at C
            clear t1 t2 hsf
            go_wp2_with (go_at_call 17; refine (C.out _).mono ?_; rintro e w' ⟨rfl, rfl⟩)
            go_round
            case rel => exact ⟨k + 1, _, by omega, by go_num, rfl, by omega, HF⟩
            case measure => simp [intOf]; omega
    · obtain rfl : k = s.size := by omega
      have hne : (s.toList == []) = false := he
      have HF : Hid (rd false (ls s) = some (ls F)) := Lib.hid (by rw [HR.out, drop_end]; simp [rd])
      go_wp2
      go_ret2
      rw [HF.out]
      refine ⟨?_, rfl⟩
      show Ending.returned (.tuple #[.string F, _]) = Ending.returned (.tuple #[.string (mk (ls F)), _])
      rw [mk_ls]; rfl
end Go.Proofs.YtgcjokbgjjacdaaDoor
