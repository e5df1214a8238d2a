/- Contract of the document's Unescape. Conditions: lengths below a bound. -/
import Derived.Test.YtckhomeokhhneaaDoorT
namespace Go.Proofs.YtckhomeokhhneaaDoor
open Go.RowKit Go.PlainAid
set_option linter.unusedSimpArgs false
set_option linter.unusedVariables false

theorem byteD_le (r : List UInt8) : (byteD r).2 ≤ r.length := by
  have h := (bsl_le r).1
  rw [bsl_byte] at h
  split at h
  · omega
  · exact h
theorem une_k (s : ByteArray) (k : Nat) (h : k < s.size) (h2 : at0 (ls s) k = 92) (b : UInt8) (n : Nat) (hb : byteD ((ls s).drop (k + 1)) = (b, n)) (hn : 0 < n) : une ((ls s).drop k) = b :: une ((ls s).drop (k + 1 + n)) := by
  rw [ls_cut s k h, h2, show UInt8.ofNat 92 = 92 from rfl, une_bs, bsl_byte, hb, if_neg (show ¬ n = 0 by omega), List.drop_drop]
theorem une_k' (s : ByteArray) (k : Nat) (h : k < s.size) (h2 : at0 (ls s) k ≠ 92 ∨ (byteD ((ls s).drop (k + 1))).2 = 0) : une ((ls s).drop k) = UInt8.ofNat (at0 (ls s) k) :: une ((ls s).drop (k + 1)) := by
  by_cases h9 : at0 (ls s) k = 92
  · rcases h2 with h2 | h2
    · exact absurd h9 h2
    · rw [ls_cut s k h, h9, show UInt8.ofNat 92 = 92 from rfl, une_bs, bsl_byte, if_pos h2]; rfl
  · rw [ls_cut s k h, une_ch]
    intro e
    have := congrArg UInt8.toNat e
    rw [at0_byte] at this
    exact h9 this
def Rel13 (s : ByteArray) (w : World) (i v : Value) (wx : World) : Prop := ∃ (k : Nat) (p : List UInt8), k ≤ s.size ∧ i = .int .i64 k ∧ Hid (OB w.heap.size v p wx) ∧ Hid (p ++ une ((ls s).drop k) = une (ls s)) ∧ Hid (Below w.heap.size w wx) ∧ w.heap.size ≤ wx.heap.size ∧ p.length ≤ k
set_option maxHeartbeats 4000000 in
set_option maxRecDepth 100000 in
theorem unescape13 (s : ByteArray) (w : World) (hs : s.size ≤ 1000000) : Calls Tryd.prog 13 #[.string s] w (GivesT w (une (ls s))) := by
  have hb := get_bt s
  have HO := Lib.hid (ob_nil w.heap.size w)
  have HB := Lib.hid (Below.refl w.heap.size w)
  go_enter Tryd.func13, Tryd.ntmps13
  go_wp2
  go_loopw [4, 3] (Rel13 s w) (fun i _ _ => s.size - (intOf i).toNat)
  case atStart => exact ⟨0, [], Nat.zero_le _, rfl, HO, Lib.hid rfl, HB, Nat.le_refl _, by simp⟩
  case round =>
    obtain ⟨k, p, hk, rfl, HP, HR, HBw, hBx, hp⟩ := hrel
    rename World => wx
    by_cases hlt : k < s.size
    · have hat := at0_lt (ls s) k
      have HA := Lib.hid (bt_at s k)
      have C := Lib.hid (byte18 s (k + 1) wx hs hlt)
      have hle := byteD_le ((ls s).drop (k + 1))
      rw [List.length_drop, ls_len] at hle
      have HU1 := Lib.hid fun b n => une_k s k hlt (b := b) (n := n)
      have HU2 := Lib.hid (une_k' s k hlt)
      generalize byteD ((ls s).drop (k + 1)) = X at C hle HU1 HU2
      obtain ⟨b, n⟩ := X
      simp only at hle
      unfold byV at C
      simp only at C
      obtain ⟨k1, Hk1⟩ : ∃ k1, Hid (k + 1 = k1) := ⟨_, Lib.hid rfl⟩
      have hw1 : IntKind.i64.wrap ((k : Int) + 1) = (k1 : Int) := by rw [IntKind.wrap_i64]; have := Hk1.out; omega
      rw [Hk1.out] at C
      go_upto_region 6 with (go_at_call 18; refine C.out.mono ?_; rintro e w1 ⟨rfl, b1⟩; have HP1 := Lib.hid (HP.out.below b1); have HB1 := Lib.hid (HBw.out.trans (b1.mono hBx)); have hB1 : w.heap.size ≤ w1.heap.size := Nat.le_trans hBx b1.size; clear b1)
      clear C
      by_cases h9 : at0 (ls s) k = 92 ∧ 0 < n
      · obtain ⟨h9, hn⟩ := h9
        have e1 : (bt s k == 92) = true := by rw [HA.out, h9]; rfl
        have e2 : decide (0 < (n : Int)) = true := decide_eq_true (by omega)
        have e3 : decide (0 < n) = true := decide_eq_true hn
        obtain ⟨q, Hq⟩ : ∃ q, Hid (p ++ [b] = q) := ⟨_, Lib.hid rfl⟩
        have hql : q.length ≤ k + 1 := by rw [← Hq.out]; simp; omega
        have HQ : Hid (q ++ une ((ls s).drop (k + 1 + n)) = une (ls s)) := Lib.hid (by rw [← HR.out, HU1.out b n h9 rfl hn, ← Hq.out]; simp)
        have hw2 : IntKind.i64.wrap ((k : Int) + n) = ((k + n : Nat) : Int) := by rw [IntKind.wrap_i64]; omega
        have hw3 : IntKind.i64.wrap (((k + n : Nat) : Int) + 1) = ((k + 1 + n : Nat) : Int) := by rw [IntKind.wrap_i64]; omega
        have hw4 : IntKind.i64.wrap ((k : Int) + n + 1) = ((k + 1 + n : Nat) : Int) := by rw [IntKind.wrap_i64]; omega
        obtain ⟨a2, c2, rfl⟩ := HP1.out.shape
        clear HU1 HU2 h9
        go_wp2_with (at_builtin; refine wpList_appV rfl _ _ rfl _ w.heap.size p [b] ⟨w1.heap.size, 0, none⟩ 1 rfl rfl (OB.alloc HP1.out _) ?c1 ?c2 ?c3 ?_)
        case c1 => simp; omega
        case c2 => simp; omega
        case c3 => exact new_cells w1 [b] _ rfl
        · intro v' w2 hO' hg
          rw [Hq.out] at hO'
          have HO2 := Lib.hid hO'
          have HB2 := Lib.hid ((HB1.out.alloc hB1 _).grown hg (by simp; omega) (fun j hj => (HP1.out.lt j hj).1))
          have hs2 : w.heap.size ≤ w2.heap.size := HB2.out.size
          obtain ⟨a3, c3, rfl⟩ := hO'.shape
          clear hO' hg
          go_wp2
          go_roundw
          case rel => exact ⟨k + 1 + n, q, by omega, by first | rfl | exact congrArg (Value.int .i64) hw3 | exact congrArg (Value.int .i64) hw4, HO2, HQ, HB2, hs2, by omega⟩
          case measure => simp [intOf]; omega
      · have hor : at0 (ls s) k ≠ 92 ∨ n = 0 := by omega
        have HUU : Hid (une ((ls s).drop k) = UInt8.ofNat (at0 (ls s) k) :: une ((ls s).drop (k + 1))) := Lib.hid (HU2.out hor)
        have HC : Hid ([Value.int .u8 (at0 (ls s) k : Int)] = bc [UInt8.ofNat (at0 (ls s) k)]) := Lib.hid (by simp only [bc, List.map_cons, List.map_nil, at0_byte])
        rw [← HA.out] at HC
        have hsplit : (bt s k == 92) = false ∨ ((bt s k == 92) = true ∧ n = 0) := by
          by_cases h92 : at0 (ls s) k = 92
          · right
            refine ⟨by rw [HA.out, h92]; rfl, by omega⟩
          · left
            rw [HA.out]; simp; omega
        generalize UInt8.ofNat (at0 (ls s) k) = b0 at HUU HC
        obtain ⟨q, Hq⟩ : ∃ q, Hid (p ++ [b0] = q) := ⟨_, Lib.hid rfl⟩
        have hql : q.length ≤ k + 1 := by rw [← Hq.out]; simp; omega
        have HQ : Hid (q ++ une ((ls s).drop (k + 1)) = une (ls s)) := Lib.hid (by rw [← HR.out, HUU.out, ← Hq.out]; simp)
        obtain ⟨a2, c2, rfl⟩ := HP1.out.shape
        clear HU1 HU2 h9 hor HUU
        rcases hsplit with e1 | ⟨e1, rfl⟩
        all_goals (
          go_wp2_with (at_builtin; refine wpList_appV rfl _ _ rfl _ w.heap.size p [b0] ⟨w1.heap.size, 0, none⟩ 1 rfl rfl (OB.alloc HP1.out _) ?c1 ?c2 ?c3 ?_)
          case c1 => simp; omega
          case c2 => simp; omega
          case c3 => exact new_cells w1 [b0] _ HC.out
          · intro v' w2 hO' hg
            rw [Hq.out] at hO'
            have HO2 := Lib.hid hO'
            have HB2 := Lib.hid ((HB1.out.alloc hB1 _).grown hg (by simp; omega) (fun j hj => (HP1.out.lt j hj).1))
            have hs2 : w.heap.size ≤ w2.heap.size := HB2.out.size
            obtain ⟨a3, c3, rfl⟩ := hO'.shape
            clear hO' hg
            go_wp2
            go_roundw
            case rel => exact ⟨k + 1, q, hlt, by first | (rw [Hk1.out]) | go_num, HO2, HQ, HB2, hs2, hql⟩
            case measure => have := Hk1.out; simp [intOf]; omega)
    · obtain rfl : k = s.size := by omega
      have HF : Hid (p = une (ls s)) := Lib.hid (by
        rw [← HR.out, show (ls s).drop s.size = [] from List.drop_eq_nil_of_le (by rw [ls_len]; exact Nat.le_refl _), une_nil, List.append_nil])
      have hk1 := HP.out.back
      go_wp2
      go_ret
      rw [← HF.out]
      exact ⟨rfl, HBw.out⟩
end Go.Proofs.YtckhomeokhhneaaDoor
