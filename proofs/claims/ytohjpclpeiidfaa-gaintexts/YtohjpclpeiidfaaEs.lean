/- Contracts of what is told behind backslashes. Conditions: lengths. -/
import Derived.Test.YtohjpclpeiidfaaBy
import Derived.Lib.Strings
import Derived.Lib.Bytealg
import Derived.Laws.BitsAllLaws
import Derived.Laws.DeepStrings4
namespace Go.Proofs.Ytohjpclpeiidfaa
open Go.RowKit Go.PlainAid
set_option linter.unusedSimpArgs false
set_option linter.unusedVariables false
namespace Es
/-- Bytes that stand for themselves. -/
def plainB (c : Nat) : Bool := decide (32 ≤ c) && decide (c ≤ 126) && (c != 37) && (c != 92) && (c != 39)
def oct3 (c : Nat) : List UInt8 := [92, UInt8.ofNat (48 + c / 64), UInt8.ofNat (48 + c / 8 % 8), UInt8.ofNat (48 + c % 8)]
def escB (b : UInt8) : List UInt8 := if plainB b.toNat then [b] else oct3 b.toNat
def esc (l : List UInt8) : List UInt8 := l.flatMap escB
theorem esc_nil : esc [] = [] := rfl
theorem esc_cons (b : UInt8) (l : List UInt8) : esc (b :: l) = escB b ++ esc l := rfl

set_option maxHeartbeats 1000000 in
set_option maxRecDepth 100000 in
theorem plain15 (c : Nat) (hc : c < 256) (w : World) : Calls Try.prog 39 #[.int .u8 c] w fun e w' => e = .returned (.bool (plainB c)) ∧ w = w' := by
  obtain ⟨r, HR⟩ : ∃ r, Hid (plainB c = r) := ⟨_, Lib.hid rfl⟩
  rw [HR.out]
  have HP : Hid (plainB c = (decide (32 ≤ c) && decide (c ≤ 126) && (c != 37) && (c != 92) && (c != 39))) := Lib.hid rfl
  by_cases h1 : 32 ≤ c
  · by_cases h2 : c ≤ 126
    · by_cases h3 : c = 37
      · subst h3
        have HF : Hid (r = false) := Lib.hid (by rw [← HR.out]; rfl)
        go_enter Try.func39, Try.ntmps39
        go_wp2
        go_ret
        rw [HF.out]; exact ⟨rfl, rfl⟩
      · by_cases h4 : c = 92
        · subst h4
          have HF : Hid (r = false) := Lib.hid (by rw [← HR.out]; rfl)
          go_enter Try.func39, Try.ntmps39
          go_wp2
          go_ret
          rw [HF.out]; exact ⟨rfl, rfl⟩
        · have d1 : decide (32 ≤ (c : Int)) = true := decide_eq_true (by omega)
          have d2 : decide ((c : Int) ≤ 126) = true := decide_eq_true (by omega)
          have d3 : ((c : Int) != 37) = true := by simp; omega
          have d4 : ((c : Int) != 92) = true := by simp; omega
          have HF : Hid (((c : Int) != 39) = r) := Lib.hid (by
            rw [← HR.out, HP.out, decide_eq_true h1, decide_eq_true h2]
            have a3 : (c != 37) = true := by simp [h3]
            have a4 : (c != 92) = true := by simp [h4]
            rw [a3, a4]
            rw [Bool.eq_iff_iff]
            simp; omega)
          go_enter Try.func39, Try.ntmps39
          go_wp2
          go_ret
          rw [← HF.out]; exact ⟨rfl, rfl⟩
    · have d1 : decide (32 ≤ (c : Int)) = true := decide_eq_true (by omega)
      have d2 : decide ((c : Int) ≤ 126) = false := decide_eq_false (by omega)
      have HF : Hid (r = false) := Lib.hid (by rw [← HR.out, HP.out, decide_eq_false h2]; simp)
      go_enter Try.func39, Try.ntmps39
      go_wp2
      go_ret
      rw [HF.out]; exact ⟨rfl, rfl⟩
  · have d1 : decide (32 ≤ (c : Int)) = false := decide_eq_false (by omega)
    have HF : Hid (r = false) := Lib.hid (by rw [← HR.out, HP.out, decide_eq_false h1]; simp)
    go_enter Try.func39, Try.ntmps39
    go_wp2
    go_ret
    rw [HF.out]; exact ⟨rfl, rfl⟩
theorem escB_len (b : UInt8) : (escB b).length = if plainB b.toNat then 1 else 4 := by unfold escB; split <;> rfl
theorem esc_len_le : ∀ l, l.length ≤ (esc l).length ∧ (esc l).length ≤ 4 * l.length
  | [] => by simp [esc_nil]
  | b :: r => by
    have := esc_len_le r
    rw [esc_cons, List.length_append, escB_len]
    simp only [List.length_cons]
    split <;> omega
theorem esc_drop (s : ByteArray) (k : Nat) (h : k < s.size) : esc ((ls s).drop k) = escB (UInt8.ofNat (at0 (ls s) k)) ++ esc ((ls s).drop (k + 1)) := by rw [ls_cut s k h, esc_cons]
def Rel11 (s : ByteArray) (i n : Value) : Prop := ∃ (k m : Nat), k ≤ s.size ∧ i = .int .i64 k ∧ n = .int .i64 m ∧ m ≤ 4 * s.size ∧ Hid (m + (esc ((ls s).drop k)).length = (esc (ls s)).length + (s.size - k))
set_option maxHeartbeats 1000000 in
set_option maxRecDepth 100000 in
theorem escaped11 (s : ByteArray) (w : World) (hs : s.size ≤ 1000000) : Calls Try.prog 30 #[.string s] w fun e w' => e = .returned (.int .i64 (esc (ls s)).length) ∧ w = w' := by
  have hb := get_bt s
  have HE := Lib.hid (esc_len_le (ls s))
  go_enter Try.func30, Try.ntmps30
  go_wp2
  go_loop [9, 3] (Rel11 s) (fun v _ => s.size - (intOf v).toNat)
  case atStart => exact ⟨0, s.size, Nat.zero_le _, rfl, rfl, by omega, Lib.hid (by rw [List.drop_zero]; omega)⟩
  case round =>
    obtain ⟨k, m, hk, rfl, rfl, hm, HM⟩ := hrel
    by_cases hlt : k < s.size
    · have HD := Lib.hid (esc_drop s k hlt)
      have hat := at0_lt (ls s) k
      have HA := Lib.hid (bt_at s k)
      have hlb := escB_len (UInt8.ofNat (at0 (ls s) k))
      rw [UInt8.toNat_ofNat', Nat.mod_eq_of_lt hat] at hlb
      have C := Lib.hid fun W => plain15 (at0 (ls s) k) hat W
      rw [← HA.out] at C
      have HL := Lib.hid hlb
      clear hlb
      cases hp : plainB (at0 (ls s) k)
      · rw [hp] at C HL
        go_wp2_with (go_at_call 39; refine (C.out _).mono ?_; rintro e w' ⟨rfl, rfl⟩)
        go_round
        case rel => exact ⟨k + 1, m + 3, hlt, by go_num, by go_num, by
          have h1 := HM.out; have h2 := HE.out; rw [HD.out, List.length_append, HL.out] at h1
          have h4 := (esc_len_le ((ls s).drop (k + 1))).1
          rw [List.length_drop, ls_len] at h4
          rw [ls_len] at h2
          simp at h1
          omega, Lib.hid (by
            have h1 := HM.out; rw [HD.out, List.length_append, HL.out] at h1; simp at h1; omega)⟩
        case measure => simp [intOf]; omega
      · rw [hp] at C HL
        go_wp2_with (go_at_call 39; refine (C.out _).mono ?_; rintro e w' ⟨rfl, rfl⟩)
        go_round
        case rel => exact ⟨k + 1, m, hlt, by go_num, rfl, hm, Lib.hid (by
            have h1 := HM.out; rw [HD.out, List.length_append, HL.out] at h1; simp at h1; omega)⟩
        case measure => simp [intOf]; omega
    · obtain rfl : k = s.size := by omega
      have HF : Hid (m = (esc (ls s)).length) := Lib.hid (by
        have h1 := HM.out
        rw [show (ls s).drop s.size = [] from List.drop_eq_nil_of_le (by rw [ls_len]; exact Nat.le_refl _), esc_nil] at h1
        simp at h1; omega)
      go_wp2
      go_ret
      rw [HF.out]
      exact ⟨rfl, rfl⟩

def GivesT (w : World) (l : List UInt8) (e : Ending) (w' : World) : Prop := e = .returned (.string (mk l)) ∧ Below w.heap.size w w'
def RelE (s : ByteArray) (B : Nat) (w : World) (i v : Value) (wx : World) : Prop := ∃ (k : Nat) (p : List UInt8), k ≤ s.size ∧ i = .int .i64 k ∧ Hid (OB B v p wx) ∧ Hid (p ++ esc ((ls s).drop k) = esc (ls s)) ∧ Hid (Below w.heap.size w wx) ∧ B ≤ wx.heap.size ∧ w.heap.size ≤ B ∧ p.length ≤ 4 * s.size
theorem oct_cells (c : Nat) (h : c < 256) : ((oct3 c).map fun b => Value.int .u8 b.toNat) = [.int .u8 92, .int .u8 (48 + (c : Int) / 64), .int .u8 (48 + (c : Int) / 8 % 8), .int .u8 (48 + (c : Int) % 8)] := by
  unfold oct3
  simp only [List.map_cons, List.map_nil, UInt8.toNat_ofNat']
  have e1 : ((((48 + c / 64) % 2 ^ 8 : Nat)) : Int) = 48 + (c : Int) / 64 := by omega
  have e2 : ((((48 + c / 8 % 8) % 2 ^ 8 : Nat)) : Int) = 48 + (c : Int) / 8 % 8 := by omega
  have e3 : ((((48 + c % 8) % 2 ^ 8 : Nat)) : Int) = 48 + (c : Int) % 8 := by omega
  rw [e1, e2, e3]
  rfl
theorem esc_room {s : ByteArray} {k : Nat} {p q : List UInt8} (h : p ++ esc ((ls s).drop k) = esc (ls s)) : p.length ≤ 4 * s.size := by
  have h1 := congrArg List.length h
  have h2 := (esc_len_le (ls s)).2
  rw [List.length_append] at h1
  rw [ls_len] at h2
  omega
theorem nonplain {c : Nat} {X : Int} (e : X = c) (h : plainB c = false) : (decide (X < 32) = true) ∨ (decide (X < 32) = false ∧ decide (126 < X) = true) ∨ (decide (X < 32) = false ∧ decide (126 < X) = false ∧ (X == 37) = true) ∨ (decide (X < 32) = false ∧ decide (126 < X) = false ∧ (X == 37) = false ∧ (X == 92) = true) ∨ (decide (X < 32) = false ∧ decide (126 < X) = false ∧ (X == 37) = false ∧ (X == 92) = false ∧ (X == 39) = true) := by
  subst e
  simp only [decide_eq_true_eq, decide_eq_false_iff_not, beq_iff_eq, beq_eq_false_iff_ne]
  unfold plainB at h
  simp only [Bool.and_eq_false_iff, decide_eq_false_iff_not, bne_eq_false_iff_eq] at h
  omega
theorem isplain {c : Nat} {X : Int} (e : X = c) (h : plainB c = true) : decide (X < 32) = false ∧ decide (126 < X) = false ∧ (X == 37) = false ∧ (X == 92) = false ∧ (X == 39) = false := by
  subst e
  simp only [decide_eq_false_iff_not, beq_eq_false_iff_ne]
  unfold plainB at h
  simp only [Bool.and_eq_true, decide_eq_true_eq, bne_iff_ne] at h
  omega
set_option maxHeartbeats 4000000 in
set_option maxRecDepth 100000 in
theorem escape10 (s : ByteArray) (w : World) (hs : s.size ≤ 1000000) : Calls Try.prog 41 #[.string s] w (GivesT w (esc (ls s))) := by
  have hb := get_bt s
  have HO := Lib.hid (ob_nil w.heap.size w)
  have HB := Lib.hid (Below.refl w.heap.size w)
  go_enter Try.func41, Try.ntmps41
  go_wp2
  go_loopw [4, 3] (RelE s w.heap.size w) (fun i _ _ => s.size - (intOf i).toNat)
  case atStart => exact ⟨0, [], Nat.zero_le _, rfl, HO, Lib.hid rfl, HB, Nat.le_refl _, Nat.le_refl _, by simp⟩
  case round =>
    obtain ⟨k, p, hk, rfl, HP, HR, HBw, hBx, hwB, hp⟩ := hrel
    rename World => wx
    obtain ⟨a2, c2, rfl⟩ := HP.out.shape
    by_cases hlt : k < s.size
    · have HD := Lib.hid (esc_drop s k hlt)
      have hat := at0_lt (ls s) k
      have HA := Lib.hid (bt_at s k)
      have b0 := bt_nonneg s k
      have b1 := bt_le s k
      have HU : Hid ((UInt8.ofNat (at0 (ls s) k)).toNat = at0 (ls s) k) := Lib.hid (by rw [UInt8.toNat_ofNat', Nat.mod_eq_of_lt hat])
      cases hpl : plainB (at0 (ls s) k)
      · obtain ⟨q, Hq⟩ : ∃ q, Hid (p ++ oct3 (at0 (ls s) k) = q) := ⟨_, Lib.hid rfl⟩
        have HQ : Hid (q ++ esc ((ls s).drop (k + 1)) = esc (ls s)) := Lib.hid (by rw [← HR.out, HD.out, ← Hq.out]; unfold escB; rw [HU.out, hpl]; simp)
        have hq := esc_room (q := []) HQ.out
        have HC := Lib.hid (oct_cells (at0 (ls s) k) hat)
        rw [← HA.out] at HC
        have hn := nonplain HA.out hpl
        clear hpl
        rcases hn with d1 | ⟨d1, d2⟩ | ⟨d1, d2, d3⟩ | ⟨d1, d2, d3, d4⟩ | ⟨d1, d2, d3, d4, d5⟩
        · go_wp2_with (at_builtin; refine wpList_appV rfl _ _ rfl _ w.heap.size p (oct3 (at0 (ls s) k)) ⟨wx.heap.size, 0, none⟩ 4 rfl rfl (OB.alloc HP.out _) ?c1 ?c2 ?c3 ?_)
          case c1 => simp; omega
          case c2 => have : (oct3 (at0 (ls s) k)).length = 4 := rfl; omega
          case c3 => exact new_cells wx (oct3 (at0 (ls s) k)) _ HC.out.symm
          · intro v' w1 hO' hg
            rw [Hq.out] at hO'
            have HO2 := Lib.hid hO'
            have HB2 := Lib.hid ((HBw.out.alloc (Nat.le_trans hwB hBx) _).grown hg (by simp; omega) (fun j hj => Nat.le_trans hwB (HP.out.lt j hj).1))
            have hs2 : w.heap.size ≤ w1.heap.size := HB2.out.size
            obtain ⟨a3, c3, rfl⟩ := hO'.shape
            clear hO' hg
            go_wp2
            go_roundw
            case rel => exact ⟨k + 1, q, hlt, by go_num, HO2, HQ, HB2, hs2, hwB, hq⟩
            case measure => simp [intOf]; omega
        · go_wp2_with (at_builtin; refine wpList_appV rfl _ _ rfl _ w.heap.size p (oct3 (at0 (ls s) k)) ⟨wx.heap.size, 0, none⟩ 4 rfl rfl (OB.alloc HP.out _) ?c1 ?c2 ?c3 ?_)
          case c1 => simp; omega
          case c2 => have : (oct3 (at0 (ls s) k)).length = 4 := rfl; omega
          case c3 => exact new_cells wx (oct3 (at0 (ls s) k)) _ HC.out.symm
          · intro v' w1 hO' hg
            rw [Hq.out] at hO'
            have HO2 := Lib.hid hO'
            have HB2 := Lib.hid ((HBw.out.alloc (Nat.le_trans hwB hBx) _).grown hg (by simp; omega) (fun j hj => Nat.le_trans hwB (HP.out.lt j hj).1))
            have hs2 : w.heap.size ≤ w1.heap.size := HB2.out.size
            obtain ⟨a3, c3, rfl⟩ := hO'.shape
            clear hO' hg
            go_wp2
            go_roundw
            case rel => exact ⟨k + 1, q, hlt, by go_num, HO2, HQ, HB2, hs2, hwB, hq⟩
            case measure => simp [intOf]; omega
        · go_wp2_with (at_builtin; refine wpList_appV rfl _ _ rfl _ w.heap.size p (oct3 (at0 (ls s) k)) ⟨wx.heap.size, 0, none⟩ 4 rfl rfl (OB.alloc HP.out _) ?c1 ?c2 ?c3 ?_)
          case c1 => simp; omega
          case c2 => have : (oct3 (at0 (ls s) k)).length = 4 := rfl; omega
          case c3 => exact new_cells wx (oct3 (at0 (ls s) k)) _ HC.out.symm
          · intro v' w1 hO' hg
            rw [Hq.out] at hO'
            have HO2 := Lib.hid hO'
            have HB2 := Lib.hid ((HBw.out.alloc (Nat.le_trans hwB hBx) _).grown hg (by simp; omega) (fun j hj => Nat.le_trans hwB (HP.out.lt j hj).1))
            have hs2 : w.heap.size ≤ w1.heap.size := HB2.out.size
            obtain ⟨a3, c3, rfl⟩ := hO'.shape
            clear hO' hg
            go_wp2
            go_roundw
            case rel => exact ⟨k + 1, q, hlt, by go_num, HO2, HQ, HB2, hs2, hwB, hq⟩
            case measure => simp [intOf]; omega
        · go_wp2_with (at_builtin; refine wpList_appV rfl _ _ rfl _ w.heap.size p (oct3 (at0 (ls s) k)) ⟨wx.heap.size, 0, none⟩ 4 rfl rfl (OB.alloc HP.out _) ?c1 ?c2 ?c3 ?_)
          case c1 => simp; omega
          case c2 => have : (oct3 (at0 (ls s) k)).length = 4 := rfl; omega
          case c3 => exact new_cells wx (oct3 (at0 (ls s) k)) _ HC.out.symm
          · intro v' w1 hO' hg
            rw [Hq.out] at hO'
            have HO2 := Lib.hid hO'
            have HB2 := Lib.hid ((HBw.out.alloc (Nat.le_trans hwB hBx) _).grown hg (by simp; omega) (fun j hj => Nat.le_trans hwB (HP.out.lt j hj).1))
            have hs2 : w.heap.size ≤ w1.heap.size := HB2.out.size
            obtain ⟨a3, c3, rfl⟩ := hO'.shape
            clear hO' hg
            go_wp2
            go_roundw
            case rel => exact ⟨k + 1, q, hlt, by go_num, HO2, HQ, HB2, hs2, hwB, hq⟩
            case measure => simp [intOf]; omega
        · go_wp2_with (at_builtin; refine wpList_appV rfl _ _ rfl _ w.heap.size p (oct3 (at0 (ls s) k)) ⟨wx.heap.size, 0, none⟩ 4 rfl rfl (OB.alloc HP.out _) ?c1 ?c2 ?c3 ?_)
          case c1 => simp; omega
          case c2 => have : (oct3 (at0 (ls s) k)).length = 4 := rfl; omega
          case c3 => exact new_cells wx (oct3 (at0 (ls s) k)) _ HC.out.symm
          · intro v' w1 hO' hg
            rw [Hq.out] at hO'
            have HO2 := Lib.hid hO'
            have HB2 := Lib.hid ((HBw.out.alloc (Nat.le_trans hwB hBx) _).grown hg (by simp; omega) (fun j hj => Nat.le_trans hwB (HP.out.lt j hj).1))
            have hs2 : w.heap.size ≤ w1.heap.size := HB2.out.size
            obtain ⟨a3, c3, rfl⟩ := hO'.shape
            clear hO' hg
            go_wp2
            go_roundw
            case rel => exact ⟨k + 1, q, hlt, by go_num, HO2, HQ, HB2, hs2, hwB, hq⟩
            case measure => simp [intOf]; omega
      · obtain ⟨q, Hq⟩ : ∃ q, Hid (p ++ [UInt8.ofNat (at0 (ls s) k)] = q) := ⟨_, Lib.hid rfl⟩
        have HQ : Hid (q ++ esc ((ls s).drop (k + 1)) = esc (ls s)) := Lib.hid (by rw [← HR.out, HD.out, ← Hq.out]; unfold escB; rw [HU.out, hpl]; simp)
        have hq := esc_room (q := []) HQ.out
        have HC : Hid ([Value.int .u8 (at0 (ls s) k : Int)] = bc [UInt8.ofNat (at0 (ls s) k)]) := Lib.hid (by simp [bc, HU.out])
        rw [← HA.out] at HC
        obtain ⟨d1, d2, d3, d4, d5⟩ := isplain HA.out hpl
        generalize UInt8.ofNat (at0 (ls s) k) = b at Hq HC
        clear hpl HU HD
        go_wp2_with (at_builtin; refine wpList_appV rfl _ _ rfl _ w.heap.size p [b] ⟨wx.heap.size, 0, none⟩ 1 rfl rfl (OB.alloc HP.out _) ?c1 ?c2 ?c3 ?_)
        case c1 => simp; omega
        case c2 => simp; omega
        case c3 => exact new_cells wx [b] _ HC.out
        · intro v' w1 hO' hg
          rw [Hq.out] at hO'
          have HO2 := Lib.hid hO'
          have HB2 := Lib.hid ((HBw.out.alloc (Nat.le_trans hwB hBx) _).grown hg (by simp; omega) (fun j hj => Nat.le_trans hwB (HP.out.lt j hj).1))
          have hs2 : w.heap.size ≤ w1.heap.size := HB2.out.size
          obtain ⟨a3, c3, rfl⟩ := hO'.shape
          clear hO' hg
          go_wp2
          go_roundw
          case rel => exact ⟨k + 1, q, hlt, by go_num, HO2, HQ, HB2, hs2, hwB, hq⟩
          case measure => simp [intOf]; omega
    · obtain rfl : k = s.size := by omega
      have HF : Hid (p = esc (ls s)) := Lib.hid (by
        rw [← HR.out, show (ls s).drop s.size = [] from List.drop_eq_nil_of_le (by rw [ls_len]; exact Nat.le_refl _), esc_nil, List.append_nil])
      have hk1 := HP.out.back
      go_wp2
      go_ret
      rw [← HF.out]
      exact ⟨rfl, HBw.out⟩

end Es
end Go.Proofs.Ytohjpclpeiidfaa
