/- Contracts of both Escapes. Conditions: lengths below a bound. -/
import Derived.Test.YtckhomeokhhneaaDoorA
namespace Go.Proofs.YtckhomeokhhneaaDoor
open Go.RowKit Go.PlainAid
set_option linter.unusedSimpArgs false
set_option linter.unusedVariables false

def GivesT (w : World) (l : List UInt8) (e : Ending) (w' : World) : Prop := e = .returned (.string (mk l)) ∧ Below w.heap.size w w'
def RelE (s : ByteArray) (B : Nat) (w : World) (i v : Value) (wx : World) : Prop := ∃ (k : Nat) (p : List UInt8), k ≤ s.size ∧ i = .int .i64 k ∧ Hid (OB B v p wx) ∧ Hid (p ++ esc ((ls s).drop k) = esc (ls s)) ∧ Hid (Below w.heap.size w wx) ∧ B ≤ wx.heap.size ∧ w.heap.size ≤ B ∧ p.length ≤ 4 * s.size
theorem oct_cells (c : Nat) (h : c < 256) : ((oct3 c).map fun b => Value.int .u8 b.toNat) = [.int .u8 92, .int .u8 (48 + (c : Int) / 64), .int .u8 (48 + (c : Int) / 8 % 8), .int .u8 (48 + (c : Int) % 8)] := by
  unfold oct3
  simp only [List.map_cons, List.map_nil, UInt8.toNat_ofNat']
  have e1 : ((((48 + c / 64) % 2 ^ 8 : Nat)) : Int) = 48 + (c : Int) / 64 := by omega
  have e2 : ((((48 + c / 8 % 8) % 2 ^ 8 : Nat)) : Int) = 48 + (c : Int) / 8 % 8 := by omega
  have e3 : ((((48 + c % 8) % 2 ^ 8 : Nat)) : Int) = 48 + (c : Int) % 8 := by omega
  rw [e1, e2, e3]
  rfl
theorem esc_room {s : ByteArray} {k : Nat} {p q : List UInt8} (h : p ++ esc ((ls s).drop k) = esc (ls s)) : p.length ≤ 4 * s.size := by
  have h1 := congrArg List.length h
  have h2 := (esc_len_le (ls s)).2
  rw [List.length_append] at h1
  rw [ls_len] at h2
  omega
set_option maxHeartbeats 4000000 in
set_option maxRecDepth 100000 in
theorem escape8 (s : ByteArray) (w : World) (hs : s.size ≤ 1000000) : Calls Tryd.prog 8 #[.string s] w (GivesT w (esc (ls s))) := by
  have hb := get_bt s
  have HE := Lib.hid (esc_len_le (ls s))
  have C1 := Lib.hid (escaped11 s w hs)
  obtain ⟨w0, hmk, hO, hbel⟩ := run_make0 (esc (ls s)).length (by have := HE.out; rw [ls_len] at this; omega) w
  have HO := Lib.hid hO
  have HB := Lib.hid hbel
  have hB0 : w.heap.size ≤ w0.heap.size := hbel.size
  clear hO hbel
  go_enter Tryd.func8, Tryd.ntmps8
  go_wp2_with (go_at_call 11; refine C1.out.mono ?_; rintro e w' ⟨rfl, rfl⟩)
  go_loopw [11, 3] (RelE s w.heap.size w) (fun i _ _ => s.size - (intOf i).toNat)
  case atStart => exact ⟨0, [], Nat.zero_le _, rfl, HO, Lib.hid rfl, HB, hB0, Nat.le_refl _, by simp⟩
  case round =>
    obtain ⟨k, p, hk, rfl, HP, HR, HBw, hBx, hwB, hp⟩ := hrel
    rename World => wx
    obtain ⟨a2, c2, rfl⟩ := HP.out.shape
    by_cases hlt : k < s.size
    · have HD := Lib.hid (esc_drop s k hlt)
      have hat := at0_lt (ls s) k
      have HA := Lib.hid (bt_at s k)
      have C := Lib.hid fun W => plain15 (at0 (ls s) k) hat W
      rw [← HA.out] at C
      have b0 := bt_nonneg s k
      have b1 := bt_le s k
      have HU : Hid ((UInt8.ofNat (at0 (ls s) k)).toNat = at0 (ls s) k) := Lib.hid (by rw [UInt8.toNat_ofNat', Nat.mod_eq_of_lt hat])
      cases hpl : plainB (at0 (ls s) k)
      · rw [hpl] at C
        obtain ⟨q, Hq⟩ : ∃ q, Hid (p ++ oct3 (at0 (ls s) k) = q) := ⟨_, Lib.hid rfl⟩
        have HQ : Hid (q ++ esc ((ls s).drop (k + 1)) = esc (ls s)) := Lib.hid (by rw [← HR.out, HD.out, ← Hq.out]; unfold escB; rw [HU.out, hpl]; simp)
        have hq := esc_room (q := []) HQ.out
        have HC := Lib.hid (oct_cells (at0 (ls s) k) hat)
        rw [← HA.out] at HC
        clear hpl
        go_wp2_with (first
          | (go_at_call 15; refine (C.out _).mono ?_; rintro e w' ⟨rfl, rfl⟩)
          | (at_builtin; refine wpList_appV rfl _ _ rfl _ w.heap.size p (oct3 (at0 (ls s) k)) ⟨wx.heap.size, 0, none⟩ 4 rfl rfl (OB.alloc HP.out _) ?c1 ?c2 ?c3 ?_))
        case c1 => simp; omega
        case c2 => have : (oct3 (at0 (ls s) k)).length = 4 := rfl; omega
        case c3 => exact new_cells wx (oct3 (at0 (ls s) k)) _ HC.out.symm
        · intro v' w1 hO' hg
          rw [Hq.out] at hO'
          have HO2 := Lib.hid hO'
          have HB2 := Lib.hid ((HBw.out.alloc (Nat.le_trans hwB hBx) _).grown hg (by simp; omega) (fun j hj => Nat.le_trans hwB (HP.out.lt j hj).1))
          have hs2 : w.heap.size ≤ w1.heap.size := HB2.out.size
          obtain ⟨a3, c3, rfl⟩ := hO'.shape
          clear hO' hg
          go_wp2
          go_roundw
          case rel => exact ⟨k + 1, q, hlt, by go_num, HO2, HQ, HB2, hs2, hwB, hq⟩
          case measure => simp [intOf]; omega
      · rw [hpl] at C
        obtain ⟨q, Hq⟩ : ∃ q, Hid (p ++ [UInt8.ofNat (at0 (ls s) k)] = q) := ⟨_, Lib.hid rfl⟩
        have HQ : Hid (q ++ esc ((ls s).drop (k + 1)) = esc (ls s)) := Lib.hid (by rw [← HR.out, HD.out, ← Hq.out]; unfold escB; rw [HU.out, hpl]; simp)
        have hq := esc_room (q := []) HQ.out
        have HC : Hid ([Value.int .u8 (at0 (ls s) k : Int)] = bc [UInt8.ofNat (at0 (ls s) k)]) := Lib.hid (by simp [bc, HU.out])
        rw [← HA.out] at HC
        generalize UInt8.ofNat (at0 (ls s) k) = b at Hq HC
        clear hpl HU HD
        go_wp2_with (first
          | (go_at_call 15; refine (C.out _).mono ?_; rintro e w' ⟨rfl, rfl⟩)
          | (at_builtin; refine wpList_appV rfl _ _ rfl _ w.heap.size p [b] ⟨wx.heap.size, 0, none⟩ 1 rfl rfl (OB.alloc HP.out _) ?c1 ?c2 ?c3 ?_))
        case c1 => simp; omega
        case c2 => simp; omega
        case c3 => exact new_cells wx [b] _ HC.out
        · intro v' w1 hO' hg
          rw [Hq.out] at hO'
          have HO2 := Lib.hid hO'
          have HB2 := Lib.hid ((HBw.out.alloc (Nat.le_trans hwB hBx) _).grown hg (by simp; omega) (fun j hj => Nat.le_trans hwB (HP.out.lt j hj).1))
          have hs2 : w.heap.size ≤ w1.heap.size := HB2.out.size
          obtain ⟨a3, c3, rfl⟩ := hO'.shape
          clear hO' hg
          go_wp2
          go_roundw
          case rel => exact ⟨k + 1, q, hlt, by go_num, HO2, HQ, HB2, hs2, hwB, hq⟩
          case measure => simp [intOf]; omega
    · obtain rfl : k = s.size := by omega
      have HF : Hid (p = esc (ls s)) := Lib.hid (by
        rw [← HR.out, show (ls s).drop s.size = [] from List.drop_eq_nil_of_le (by rw [ls_len]; exact Nat.le_refl _), esc_nil, List.append_nil])
      have hk1 := HP.out.back
      go_wp2
      go_ret
      rw [← HF.out]
      exact ⟨rfl, HBw.out⟩
end Go.Proofs.YtckhomeokhhneaaDoor
