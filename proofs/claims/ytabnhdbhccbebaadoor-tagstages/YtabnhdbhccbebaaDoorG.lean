/- Contracts: the document's Stage; TagStages, walked. No condition but those that each says. -/
import Derived.Test.YtabnhdbhccbebaaDoorF
namespace Go.Proofs.YtabnhdbhccbebaaDoor
open Go.RowKit Go.PlainAid Go.Maps
set_option linter.unusedSimpArgs false
set_option linter.unusedVariables false

def Rel7a (ns : List ByteArray) (k0 : Nat) (w : World) (i : Value) (wx : World) : Prop := ∃ j : Nat, j ≤ k0 ∧ i = .int .i64 j ∧ Hid (∀ i, i < j → isB ns (nmL i) = true) ∧ Hid (Below w.heap.size w wx)
def Rel7b (ns : List ByteArray) (l : List UInt8) (fo i : Value) : Prop := ∃ k : Nat, k ≤ ns.length ∧ i = .int .i64 k ∧ fo = .bool (isB (ns.take k) l)
theorem isB_take {ns : List ByteArray} {k : Nat} {x : ByteArray} (hk : k < ns.length) (hx : ns[k] = x) (T : ByteArray) : isB (ns.take (k + 1)) (ls T) = (isB (ns.take k) (ls T) || (x.toList == T.toList)) := by
  rw [List.take_succ_eq_append_getElem hk, hx, toList_eq]
  unfold isB
  rw [List.any_append]
  simp
theorem nm_next2 (j : Nat) (h : j ≠ 0) : (⟨#[46, 115, 101, 97, 98, 97, 103]⟩ : ByteArray) ++ ⟨#[45]⟩ ++ mk (Lib.decDigits j) = mk (nmL j) := by
  rw [app_ls, ls_mk, app_ls2]
  unfold nmL
  rw [if_neg h]; rfl
def Name7 (ns : List ByteArray) (n : Nat) : Prop := True
set_option maxHeartbeats 8000000 in
set_option maxRecDepth 100000 in
theorem stage7 (v : Value) (ns : List ByteArray) (w : World) (hv : Strs w v ns) (hF : Few ns) : Calls Tryd.prog 7 #[v] w (Gives6 ns w) := by
  obtain ⟨a, c, rfl⟩ := hv.shape
  have HV := Lib.hid hv
  have HF := Lib.hid hF
  clear hv hF
  have hn : ns.length ≤ 30 := HF.out.1
  obtain ⟨k0, hk0, hf0⟩ := stage_some HF.out.1
  obtain ⟨n, Hn⟩ : ∃ n, Hid (ns.length = n) := ⟨_, Lib.hid rfl⟩
  rw [Hn.out] at hn hk0 ⊢
  have HK0 := Lib.hid hf0
  clear hf0
  have hl45 : (⟨#[45]⟩ : ByteArray).size = 1 := rfl
  go_enter Tryd.func7, Tryd.ntmps7
  go_wp2
  go_loopw [3] (Rel7a ns k0 w) (fun i _ => k0 - (intOf i).toNat)
  case atStart => exact ⟨0, Nat.zero_le _, rfl, Lib.hid (fun i hi => absurd hi (Nat.not_lt_zero _)), Lib.hid (Below.refl _ _)⟩
  case round =>
    obtain ⟨j, hj, rfl, HI, HB⟩ := hrel
    rename World => wx
    have hjn : j ≤ n := by omega
    by_cases h0 : j = 0
    · subst h0
      have HlsT : Hid (ls (⟨#[46, 115, 101, 97, 98, 97, 103]⟩ : ByteArray) = nmL 0) := Lib.hid rfl
      go_wp2
      go_loop [5, 6] (Rel7b ns (nmL 0)) (fun _ i => n - (intOf i).toNat)
      case atStart => exact ⟨0, Nat.zero_le _, rfl, rfl⟩
      case round =>
        obtain ⟨k, hk, rfl, rfl⟩ := hrel
        obtain ⟨z, Hz⟩ : ∃ z, Hid (isB (ns.take k) (nmL 0) = z) := ⟨_, Lib.hid rfl⟩
        rw [Hz.out]
        by_cases hlt : k < n
        · have hlt' : k < ns.length := by rw [Hn.out]; exact hlt
          obtain ⟨b, off, c', e, hc, hcell⟩ := strs_at (HV.out.below HB.out) k hlt'
          rw [Hn.out] at e hc
          cases e
          obtain ⟨x, Hx⟩ : ∃ x, Hid (ns[k] = x) := ⟨_, Lib.hid rfl⟩
          rw [Hx.out] at hcell
          have HK := Lib.hid (isB_take hlt' Hx.out (⟨#[46, 115, 101, 97, 98, 97, 103]⟩ : ByteArray))
          rw [HlsT.out, Hz.out] at HK
          cases z
          · rw [Bool.false_or] at HK
            cases hq : (x.toList == [46, 115, 101, 97, 98, 97, 103])
            · have HK2 : Hid (isB (ns.take (k + 1)) (nmL 0) = false) := Lib.hid (by rw [HK.out, show (⟨#[46, 115, 101, 97, 98, 97, 103]⟩ : ByteArray).toList = [46, 115, 101, 97, 98, 97, 103] by rw [ByteArray.toList_eq], hq])
              go_wp2
              go_round
              case rel => exact ⟨k + 1, hlt', by go_num, by rw [HK2.out]⟩
              case measure => simp [intOf]; omega
            · have HK2 : Hid (isB (ns.take (k + 1)) (nmL 0) = true) := Lib.hid (by rw [HK.out, show (⟨#[46, 115, 101, 97, 98, 97, 103]⟩ : ByteArray).toList = [46, 115, 101, 97, 98, 97, 103] by rw [ByteArray.toList_eq], hq])
              go_wp2
              go_round
              case rel => exact ⟨k + 1, hlt', by go_num, by rw [HK2.out]⟩
              case measure => simp [intOf]; omega
          · go_wp2
            go_round
            case rel => exact ⟨k + 1, hlt', by go_num, by rw [HK.out, Bool.true_or]⟩
            case measure => simp [intOf]; omega
        · obtain rfl : k = n := by rw [Hn.out] at hk; omega
          rw [← Hn.out, List.take_length] at Hz
          cases z
          · have HN : Hid (StageIs ns 0) := Lib.hid ⟨Hz.out, HI.out⟩
            have hj30 : 0 ≤ 30 := by omega
            go_wp2
            go_ret
            exact ⟨0, HN.out, hj30, rfl, HB.out⟩
          · have hjk : 0 + 1 ≤ k0 := by
              rcases Nat.lt_or_ge 0 k0 with h | h
              · exact h
              · have e : k0 = 0 := by omega
                have := HK0.out
                rw [e, Hz.out] at this; cases this
            have HI2 : Hid (∀ i, i < 0 + 1 → isB ns (nmL i) = true) := Lib.hid fun i hi => by
              by_cases e : i = 0
              · subst e; exact Hz.out
              · exact HI.out i (by omega)
            go_wp2
            go_roundw
            case rel => exact ⟨0 + 1, hjk, rfl, HI2, HB⟩
            case measure => simp [intOf]; omega
    · have hj0 : (0 : Int) < (j : Int) := by omega
      have hj1 : decide (0 < j) = true := decide_eq_true (by omega)
      have CD := Lib.hid (digits10 j (by omega) wx)
      have HE := Lib.hid (nm_next2 j h0)
      obtain ⟨A, HA⟩ : ∃ A, Hid ((⟨#[46, 115, 101, 97, 98, 97, 103]⟩ : ByteArray) ++ ⟨#[45]⟩ = A) := ⟨_, Lib.hid rfl⟩
      have hA := HA.out
      have hAs : A.size = 8 := by rw [← hA]; rfl
      have hz : (mk (Lib.decDigits j)).size ≤ 2 := by rw [mk_size]; exact dec_len (by omega)
      rw [hA] at HE
      obtain ⟨G, HG⟩ : ∃ G, Hid (mk (Lib.decDigits j) = G) := ⟨_, Lib.hid rfl⟩
      rw [HG.out] at CD HE hz
      obtain ⟨T, HT⟩ : ∃ T, Hid (mk (nmL j) = T) := ⟨_, Lib.hid rfl⟩
      rw [HT.out] at HE
      have he := HE.out
      have HlsT : Hid (ls T = nmL j) := Lib.hid (by rw [← HT.out]; rfl)
      have n1 : ¬ 9223372036854775807 < A.size + G.size := by omega
      go_wp2_with fail
      refine CD.out.mono ?_
      rintro e w2 ⟨rfl, b2⟩
      have HB2 := Lib.hid (HB.out.trans (b2.mono HB.out.size))
      clear b2 CD HB
      go_wp2
      go_loop [5, 6] (Rel7b ns (nmL j)) (fun _ i => n - (intOf i).toNat)
      case atStart => exact ⟨0, Nat.zero_le _, rfl, rfl⟩
      case round =>
        obtain ⟨k, hk, rfl, rfl⟩ := hrel
        obtain ⟨z, Hz⟩ : ∃ z, Hid (isB (ns.take k) (nmL j) = z) := ⟨_, Lib.hid rfl⟩
        rw [Hz.out]
        by_cases hlt : k < n
        · have hlt' : k < ns.length := by rw [Hn.out]; exact hlt
          obtain ⟨b, off, c', e, hc, hcell⟩ := strs_at (HV.out.below HB2.out) k hlt'
          rw [Hn.out] at e hc
          cases e
          obtain ⟨x, Hx⟩ : ∃ x, Hid (ns[k] = x) := ⟨_, Lib.hid rfl⟩
          rw [Hx.out] at hcell
          have HK := Lib.hid (isB_take hlt' Hx.out T)
          rw [HlsT.out, Hz.out] at HK
          cases z
          · rw [Bool.false_or] at HK
            cases hq : (x.toList == (T).toList)
            · have HK2 : Hid (isB (ns.take (k + 1)) (nmL j) = false) := Lib.hid (by rw [HK.out, hq])
              go_wp2
              go_round
              case rel => exact ⟨k + 1, hlt', by go_num, by rw [HK2.out]⟩
              case measure => simp [intOf]; omega
            · have HK2 : Hid (isB (ns.take (k + 1)) (nmL j) = true) := Lib.hid (by rw [HK.out, hq])
              go_wp2
              go_round
              case rel => exact ⟨k + 1, hlt', by go_num, by rw [HK2.out]⟩
              case measure => simp [intOf]; omega
          · go_wp2
            go_round
            case rel => exact ⟨k + 1, hlt', by go_num, by rw [HK.out, Bool.true_or]⟩
            case measure => simp [intOf]; omega
        · obtain rfl : k = n := by rw [Hn.out] at hk; omega
          rw [← Hn.out, List.take_length] at Hz
          cases z
          · have HN : Hid (StageIs ns j) := Lib.hid ⟨Hz.out, HI.out⟩
            have hj30 : j ≤ 30 := by omega
            go_wp2
            go_ret
            exact ⟨j, HN.out, hj30, by rw [HT.out]; rfl, HB2.out⟩
          · have hjk : j + 1 ≤ k0 := by
              rcases Nat.lt_or_ge j k0 with h | h
              · exact h
              · have e : k0 = j := by omega
                have := HK0.out
                rw [e, Hz.out] at this; cases this
            have HI2 : Hid (∀ i, i < j + 1 → isB ns (nmL i) = true) := Lib.hid fun i hi => by
              by_cases e : i = j
              · subst e; exact Hz.out
              · exact HI.out i (by omega)
            go_wp2
            go_roundw
            case rel => exact ⟨j + 1, hjk, by go_num, HI2, HB2⟩
            case measure => simp [intOf]; omega
end Go.Proofs.YtabnhdbhccbebaaDoor
