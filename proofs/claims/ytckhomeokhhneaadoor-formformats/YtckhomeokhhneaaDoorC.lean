/- Contract of the document's Escape. Conditions: lengths below a bound. -/
import Derived.Test.YtckhomeokhhneaaDoorB
namespace Go.Proofs.YtckhomeokhhneaaDoor
open Go.RowKit Go.PlainAid
set_option linter.unusedSimpArgs false
set_option linter.unusedVariables false

theorem nonplain {c : Nat} {X : Int} (e : X = c) (h : plainB c = false) : (decide (X < 32) = true) ∨ (decide (X < 32) = false ∧ decide (126 < X) = true) ∨ (decide (X < 32) = false ∧ decide (126 < X) = false ∧ (X == 37) = true) ∨ (decide (X < 32) = false ∧ decide (126 < X) = false ∧ (X == 37) = false ∧ (X == 92) = true) ∨ (decide (X < 32) = false ∧ decide (126 < X) = false ∧ (X == 37) = false ∧ (X == 92) = false ∧ (X == 39) = true) := by
  subst e
  simp only [decide_eq_true_eq, decide_eq_false_iff_not, beq_iff_eq, beq_eq_false_iff_ne]
  unfold plainB at h
  simp only [Bool.and_eq_false_iff, decide_eq_false_iff_not, bne_eq_false_iff_eq] at h
  omega
theorem isplain {c : Nat} {X : Int} (e : X = c) (h : plainB c = true) : decide (X < 32) = false ∧ decide (126 < X) = false ∧ (X == 37) = false ∧ (X == 92) = false ∧ (X == 39) = false := by
  subst e
  simp only [decide_eq_false_iff_not, beq_eq_false_iff_ne]
  unfold plainB at h
  simp only [Bool.and_eq_true, decide_eq_true_eq, bne_iff_ne] at h
  omega
set_option maxHeartbeats 4000000 in
set_option maxRecDepth 100000 in
theorem escape10 (s : ByteArray) (w : World) (hs : s.size ≤ 1000000) : Calls Tryd.prog 10 #[.string s] w (GivesT w (esc (ls s))) := by
  have hb := get_bt s
  have HO := Lib.hid (ob_nil w.heap.size w)
  have HB := Lib.hid (Below.refl w.heap.size w)
  go_enter Tryd.func10, Tryd.ntmps10
  go_wp2
  go_loopw [4, 3] (RelE s w.heap.size w) (fun i _ _ => s.size - (intOf i).toNat)
  case atStart => exact ⟨0, [], Nat.zero_le _, rfl, HO, Lib.hid rfl, HB, Nat.le_refl _, Nat.le_refl _, by simp⟩
  case round =>
    obtain ⟨k, p, hk, rfl, HP, HR, HBw, hBx, hwB, hp⟩ := hrel
    rename World => wx
    obtain ⟨a2, c2, rfl⟩ := HP.out.shape
    by_cases hlt : k < s.size
    · have HD := Lib.hid (esc_drop s k hlt)
      have hat := at0_lt (ls s) k
      have HA := Lib.hid (bt_at s k)
      have b0 := bt_nonneg s k
      have b1 := bt_le s k
      have HU : Hid ((UInt8.ofNat (at0 (ls s) k)).toNat = at0 (ls s) k) := Lib.hid (by rw [UInt8.toNat_ofNat', Nat.mod_eq_of_lt hat])
      cases hpl : plainB (at0 (ls s) k)
      · obtain ⟨q, Hq⟩ : ∃ q, Hid (p ++ oct3 (at0 (ls s) k) = q) := ⟨_, Lib.hid rfl⟩
        have HQ : Hid (q ++ esc ((ls s).drop (k + 1)) = esc (ls s)) := Lib.hid (by rw [← HR.out, HD.out, ← Hq.out]; unfold escB; rw [HU.out, hpl]; simp)
        have hq := esc_room (q := []) HQ.out
        have HC := Lib.hid (oct_cells (at0 (ls s) k) hat)
        rw [← HA.out] at HC
        have hn := nonplain HA.out hpl
        clear hpl
        rcases hn with d1 | ⟨d1, d2⟩ | ⟨d1, d2, d3⟩ | ⟨d1, d2, d3, d4⟩ | ⟨d1, d2, d3, d4, d5⟩
        · go_wp2_with (at_builtin; refine wpList_appV rfl _ _ rfl _ w.heap.size p (oct3 (at0 (ls s) k)) ⟨wx.heap.size, 0, none⟩ 4 rfl rfl (OB.alloc HP.out _) ?c1 ?c2 ?c3 ?_)
          case c1 => simp; omega
          case c2 => have : (oct3 (at0 (ls s) k)).length = 4 := rfl; omega
          case c3 => exact new_cells wx (oct3 (at0 (ls s) k)) _ HC.out.symm
          · intro v' w1 hO' hg
            rw [Hq.out] at hO'
            have HO2 := Lib.hid hO'
            have HB2 := Lib.hid ((HBw.out.alloc (Nat.le_trans hwB hBx) _).grown hg (by simp; omega) (fun j hj => Nat.le_trans hwB (HP.out.lt j hj).1))
            have hs2 : w.heap.size ≤ w1.heap.size := HB2.out.size
            obtain ⟨a3, c3, rfl⟩ := hO'.shape
            clear hO' hg
            go_wp2
            go_roundw
            case rel => exact ⟨k + 1, q, hlt, by go_num, HO2, HQ, HB2, hs2, hwB, hq⟩
            case measure => simp [intOf]; omega
        · go_wp2_with (at_builtin; refine wpList_appV rfl _ _ rfl _ w.heap.size p (oct3 (at0 (ls s) k)) ⟨wx.heap.size, 0, none⟩ 4 rfl rfl (OB.alloc HP.out _) ?c1 ?c2 ?c3 ?_)
          case c1 => simp; omega
          case c2 => have : (oct3 (at0 (ls s) k)).length = 4 := rfl; omega
          case c3 => exact new_cells wx (oct3 (at0 (ls s) k)) _ HC.out.symm
          · intro v' w1 hO' hg
            rw [Hq.out] at hO'
            have HO2 := Lib.hid hO'
            have HB2 := Lib.hid ((HBw.out.alloc (Nat.le_trans hwB hBx) _).grown hg (by simp; omega) (fun j hj => Nat.le_trans hwB (HP.out.lt j hj).1))
            have hs2 : w.heap.size ≤ w1.heap.size := HB2.out.size
            obtain ⟨a3, c3, rfl⟩ := hO'.shape
            clear hO' hg
            go_wp2
            go_roundw
            case rel => exact ⟨k + 1, q, hlt, by go_num, HO2, HQ, HB2, hs2, hwB, hq⟩
            case measure => simp [intOf]; omega
        · go_wp2_with (at_builtin; refine wpList_appV rfl _ _ rfl _ w.heap.size p (oct3 (at0 (ls s) k)) ⟨wx.heap.size, 0, none⟩ 4 rfl rfl (OB.alloc HP.out _) ?c1 ?c2 ?c3 ?_)
          case c1 => simp; omega
          case c2 => have : (oct3 (at0 (ls s) k)).length = 4 := rfl; omega
          case c3 => exact new_cells wx (oct3 (at0 (ls s) k)) _ HC.out.symm
          · intro v' w1 hO' hg
            rw [Hq.out] at hO'
            have HO2 := Lib.hid hO'
            have HB2 := Lib.hid ((HBw.out.alloc (Nat.le_trans hwB hBx) _).grown hg (by simp; omega) (fun j hj => Nat.le_trans hwB (HP.out.lt j hj).1))
            have hs2 : w.heap.size ≤ w1.heap.size := HB2.out.size
            obtain ⟨a3, c3, rfl⟩ := hO'.shape
            clear hO' hg
            go_wp2
            go_roundw
            case rel => exact ⟨k + 1, q, hlt, by go_num, HO2, HQ, HB2, hs2, hwB, hq⟩
            case measure => simp [intOf]; omega
        · go_wp2_with (at_builtin; refine wpList_appV rfl _ _ rfl _ w.heap.size p (oct3 (at0 (ls s) k)) ⟨wx.heap.size, 0, none⟩ 4 rfl rfl (OB.alloc HP.out _) ?c1 ?c2 ?c3 ?_)
          case c1 => simp; omega
          case c2 => have : (oct3 (at0 (ls s) k)).length = 4 := rfl; omega
          case c3 => exact new_cells wx (oct3 (at0 (ls s) k)) _ HC.out.symm
          · intro v' w1 hO' hg
            rw [Hq.out] at hO'
            have HO2 := Lib.hid hO'
            have HB2 := Lib.hid ((HBw.out.alloc (Nat.le_trans hwB hBx) _).grown hg (by simp; omega) (fun j hj => Nat.le_trans hwB (HP.out.lt j hj).1))
            have hs2 : w.heap.size ≤ w1.heap.size := HB2.out.size
            obtain ⟨a3, c3, rfl⟩ := hO'.shape
            clear hO' hg
            go_wp2
            go_roundw
            case rel => exact ⟨k + 1, q, hlt, by go_num, HO2, HQ, HB2, hs2, hwB, hq⟩
            case measure => simp [intOf]; omega
        · go_wp2_with (at_builtin; refine wpList_appV rfl _ _ rfl _ w.heap.size p (oct3 (at0 (ls s) k)) ⟨wx.heap.size, 0, none⟩ 4 rfl rfl (OB.alloc HP.out _) ?c1 ?c2 ?c3 ?_)
          case c1 => simp; omega
          case c2 => have : (oct3 (at0 (ls s) k)).length = 4 := rfl; omega
          case c3 => exact new_cells wx (oct3 (at0 (ls s) k)) _ HC.out.symm
          · intro v' w1 hO' hg
            rw [Hq.out] at hO'
            have HO2 := Lib.hid hO'
            have HB2 := Lib.hid ((HBw.out.alloc (Nat.le_trans hwB hBx) _).grown hg (by simp; omega) (fun j hj => Nat.le_trans hwB (HP.out.lt j hj).1))
            have hs2 : w.heap.size ≤ w1.heap.size := HB2.out.size
            obtain ⟨a3, c3, rfl⟩ := hO'.shape
            clear hO' hg
            go_wp2
            go_roundw
            case rel => exact ⟨k + 1, q, hlt, by go_num, HO2, HQ, HB2, hs2, hwB, hq⟩
            case measure => simp [intOf]; omega
      · obtain ⟨q, Hq⟩ : ∃ q, Hid (p ++ [UInt8.ofNat (at0 (ls s) k)] = q) := ⟨_, Lib.hid rfl⟩
        have HQ : Hid (q ++ esc ((ls s).drop (k + 1)) = esc (ls s)) := Lib.hid (by rw [← HR.out, HD.out, ← Hq.out]; unfold escB; rw [HU.out, hpl]; simp)
        have hq := esc_room (q := []) HQ.out
        have HC : Hid ([Value.int .u8 (at0 (ls s) k : Int)] = bc [UInt8.ofNat (at0 (ls s) k)]) := Lib.hid (by simp [bc, HU.out])
        rw [← HA.out] at HC
        obtain ⟨d1, d2, d3, d4, d5⟩ := isplain HA.out hpl
        generalize UInt8.ofNat (at0 (ls s) k) = b at Hq HC
        clear hpl HU HD
        go_wp2_with (at_builtin; refine wpList_appV rfl _ _ rfl _ w.heap.size p [b] ⟨wx.heap.size, 0, none⟩ 1 rfl rfl (OB.alloc HP.out _) ?c1 ?c2 ?c3 ?_)
        case c1 => simp; omega
        case c2 => simp; omega
        case c3 => exact new_cells wx [b] _ HC.out
        · intro v' w1 hO' hg
          rw [Hq.out] at hO'
          have HO2 := Lib.hid hO'
          have HB2 := Lib.hid ((HBw.out.alloc (Nat.le_trans hwB hBx) _).grown hg (by simp; omega) (fun j hj => Nat.le_trans hwB (HP.out.lt j hj).1))
          have hs2 : w.heap.size ≤ w1.heap.size := HB2.out.size
          obtain ⟨a3, c3, rfl⟩ := hO'.shape
          clear hO' hg
          go_wp2
          go_roundw
          case rel => exact ⟨k + 1, q, hlt, by go_num, HO2, HQ, HB2, hs2, hwB, hq⟩
          case measure => simp [intOf]; omega
    · obtain rfl : k = s.size := by omega
      have HF : Hid (p = esc (ls s)) := Lib.hid (by
        rw [← HR.out, show (ls s).drop s.size = [] from List.drop_eq_nil_of_le (by rw [ls_len]; exact Nat.le_refl _), esc_nil, List.append_nil])
      have hk1 := HP.out.back
      go_wp2
      go_ret
      rw [← HF.out]
      exact ⟨rfl, HBw.out⟩
end Go.Proofs.YtckhomeokhhneaaDoor
