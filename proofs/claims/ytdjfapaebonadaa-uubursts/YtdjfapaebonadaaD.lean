/- Contracts of letters put behind others: four letters, a line. Conditions: lengths below a bound. -/
import Derived.Test.YtdjfapaebonadaaC
namespace Go.Proofs.Ytdjfapaebonadaa
open Go.RowKit Go.PlainAid
set_option linter.unusedSimpArgs false
set_option linter.unusedVariables false

/-- The call returns a slice of just these bytes, and leaves what lies below a block. -/
def GivesB (B : Nat) (w : World) (l : List UInt8) (e : Ending) (w' : World) : Prop := ∃ v, e = .returned v ∧ OB B v l w' ∧ Below B w w'
/-- The number of the first k bytes. -/
def vk (l : List UInt8) : Nat → Nat
  | 0 => 0
  | 1 => 65536 * at0 l 0
  | 2 => 65536 * at0 l 0 + 256 * at0 l 1
  | _ => val3 l
theorem or_add (a b k : Nat) (ha : a < 4294967296) (hb : b < 2 ^ k) (hk : k ≤ 24) (hd : a % 2 ^ k = 0) : bits .or .i64 (a : Int) (b : Int) = ((a + b : Nat) : Int) := by
  have hb2 : b < 4294967296 := Nat.lt_of_lt_of_le hb (Nat.le_trans (Nat.pow_le_pow_right (by omega) hk) (by decide))
  rw [or_nat a b ha hb2]
  congr 1
  obtain ⟨q, rfl⟩ : ∃ q, a = 2 ^ k * q := ⟨a / 2 ^ k, by rw [Nat.mul_div_cancel' (Nat.dvd_of_mod_eq_zero hd)]⟩
  exact (Nat.two_pow_add_eq_or_of_lt hb q).symm
theorem vk_end (s : ByteArray) (h1 : 1 ≤ s.size) (h3 : s.size ≤ 3) : vk (ls s) s.size = val3 (ls s) := by
  have hl := ls_len s
  have : s.size = 1 ∨ s.size = 2 ∨ s.size = 3 := by omega
  rcases this with e | e | e <;> rw [e]
  · show 65536 * at0 (ls s) 0 = _
    unfold val3; rw [at0_end (k := 1) (by omega), at0_end (k := 2) (by omega)]; omega
  · show 65536 * at0 (ls s) 0 + 256 * at0 (ls s) 1 = _
    unfold val3; rw [at0_end (k := 2) (by omega)]; omega
  · rfl
def Rel36a (s : ByteArray) (x i : Value) : Prop := ∃ k : Nat, k ≤ s.size ∧ i = .int .i64 k ∧ x = .int .i64 (vk (ls s) k : Nat)
def Rel36b (B : Nat) (w : World) (acc f : List UInt8) (v i : Value) (wx : World) : Prop := ∃ (k : Nat) (p : List UInt8), k ≤ 4 ∧ i = .int .i64 k ∧ Hid (OB B v p wx) ∧ Hid (p = acc ++ f.take k) ∧ Hid (Below B w wx) ∧ B ≤ wx.heap.size ∧ p.length ≤ 1000004
theorem v0 (l : List UInt8) : bits .or .i64 0 ((at0 l 0 : Int) * 65536) = ((vk l 1 : Nat) : Int) := by
  have h := or_add 0 (65536 * at0 l 0) 24 (by omega) (by have := at0_lt l 0; omega) (by omega) rfl
  rw [Nat.zero_add] at h
  rw [show ((at0 l 0 : Int) * 65536) = ((65536 * at0 l 0 : Nat) : Int) by omega]
  exact h
theorem v1 (l : List UInt8) : bits .or .i64 ((vk l 1 : Nat) : Int) ((at0 l 1 : Int) * 256) = ((vk l 2 : Nat) : Int) := by
  have h0 := at0_lt l 0
  have h1 := at0_lt l 1
  have h := or_add (65536 * at0 l 0) (256 * at0 l 1) 16 (by omega) (by omega) (by omega) (by omega)
  rw [show ((at0 l 1 : Int) * 256) = ((256 * at0 l 1 : Nat) : Int) by omega]
  exact h
theorem v2 (l : List UInt8) : bits .or .i64 ((vk l 2 : Nat) : Int) (at0 l 2 : Int) = ((vk l 3 : Nat) : Int) := by
  have h0 := at0_lt l 0
  have h1 := at0_lt l 1
  have h2 := at0_lt l 2
  exact or_add (65536 * at0 l 0 + 256 * at0 l 1) (at0 l 2) 8 (by omega) (by omega) (by omega) (by omega)
set_option maxHeartbeats 4000000 in
set_option maxRecDepth 100000 in
theorem letters36 {B : Nat} {v : Value} {acc : List UInt8} (s : ByteArray) (w : World) (hO : OB B v acc w) (hB : B ≤ w.heap.size) (hn : acc.length ≤ 1000000) (h1 : 1 ≤ s.size) (h3 : s.size ≤ 3) :
    Calls Try.prog 36 #[v, .string s] w (GivesB B w (acc ++ four (val3 (ls s)))) := by
  have hb := get_bt s
  have HA : Hid (∀ k, bt s k = (at0 (ls s) k : Int)) := Lib.hid (bt_at s)
  have HE := Lib.hid (vk_end s h1 h3)
  have hV := val3_lt (ls s)
  generalize val3 (ls s) = V at HE hV ⊢
  have HO := Lib.hid hO
  obtain ⟨a, c, rfl⟩ := hO.shape
  clear hO
  obtain ⟨l, HL⟩ : ∃ l, Hid (ls s = l) := ⟨_, Lib.hid rfl⟩
  go_enter Try.func36, Try.ntmps36
  go_wp2
  go_loop [5, 10] (Rel36a s) (fun _ i => s.size - (intOf i).toNat)
  case atStart => exact ⟨0, Nat.zero_le _, rfl, rfl⟩
  case round =>
    obtain ⟨k, hk, rfl, rfl⟩ := hrel
    by_cases hlt : k < s.size
    · have hk3 : k = 0 ∨ k = 1 ∨ k = 2 := by omega
      rcases hk3 with rfl | rfl | rfl
      · have e0 := v0 (ls s)
        rw [← bt_at] at e0
        have E0 := Lib.hid e0
        have b1 := bt_nonneg s 0
        have b2 := bt_le s 0
        clear e0
        go_wp2
        go_round
        case rel => exact ⟨1, by omega, by go_num, congrArg _ E0.out⟩
        case measure => simp [intOf]; omega
      · have e0 := v1 (ls s)
        rw [← bt_at] at e0
        have E0 := Lib.hid e0
        have b1 := bt_nonneg s 1
        have b2 := bt_le s 1
        clear e0
        go_wp2
        go_round
        case rel => exact ⟨2, by omega, by go_num, congrArg _ E0.out⟩
        case measure => simp [intOf]; omega
      · have e0 := v2 (ls s)
        rw [← bt_at] at e0
        have E0 := Lib.hid e0
        have b1 := bt_nonneg s 2
        have b2 := bt_le s 2
        clear e0
        go_wp2
        go_round
        case rel => exact ⟨3, by omega, by go_num, congrArg _ E0.out⟩
        case measure => simp [intOf]; omega
    · obtain rfl : k = s.size := by omega
      rw [HE.out]
      clear HE HA hb
      go_wp2
      go_loopw [0, 24] (Rel36b B w acc (four V)) (fun _ i _ => 4 - (intOf i).toNat)
      case atStart => exact ⟨0, acc, by omega, rfl, HO, Lib.hid (by rw [List.take_zero, List.append_nil]), Lib.hid (Below.refl _ _), hB, by omega⟩
      case round =>
        obtain ⟨k, p, hk, rfl, HP, HE, HBw, hBx, hak⟩ := hrel
        rename World => wx
        obtain ⟨a2, c2, rfl⟩ := HP.out.shape
        by_cases hlt4 : k < 4
        · have hk4 : k = 0 ∨ k = 1 ∨ k = 2 ∨ k = 3 := by omega
          have hpl : p.length = acc.length + k := by rw [HE.out, List.length_append, List.length_take, four_len]; omega
          have hpn : p.length + 1 ≤ 1000004 := by omega
          have hpl0 := Lib.hid hpl
          clear hpl
          rcases hk4 with rfl | rfl | rfl | rfl
          · have C := Lib.hid (letter35 (V / 262144) (by omega))
            have e := and63 (V / 262144)
            rw [Nat.mod_eq_of_lt (show V / 262144 < 64 by omega)] at e
            rw [show ((V / 262144 : Nat) : Int) = (V : Int) / 262144 by omega] at e C
            have HF : Hid (p ++ [lt (V / 262144)] = acc ++ (four V).take 1) := Lib.hid (by rw [HE.out]; simp [four])
            generalize lt (V / 262144) = b at C HF
            go_wp2_with (first
              | (go_at_call 35; refine (C.out _).mono ?_; rintro e w' ⟨rfl, rfl⟩)
              | (at_builtin; refine wpList_appV rfl _ _ rfl _ B p [b] ⟨wx.heap.size, 0, none⟩ 1 rfl rfl (OB.alloc HP.out _) ?c1 ?c2 ?c3 ?_))
            case c1 => simp; omega
            case c2 => simp; omega
            case c3 => exact new_cells wx [b] _ rfl
            · intro v' w1 hO' hg
              have HO2 := Lib.hid hO'
              have HB2 := Lib.hid ((HBw.out.alloc hBx _).grown hg (by simp; omega) (fun j hj => (HP.out.lt j hj).1))
              have hs2 : B ≤ w1.heap.size := Nat.le_trans hB HB2.out.size
              clear hO' hg
              go_wp2
              go_roundw
              case rel => exact ⟨1, p ++ [b], by omega, by go_num, HO2, HF, HB2, hs2, by simp; omega⟩
              case measure => simp [intOf]
          · have C := Lib.hid (letter35 (V / 4096 % 64) (by omega))
            have e := and63 (V / 4096)
            rw [show ((V / 4096 : Nat) : Int) = (V : Int) / 4096 by omega, show ((V / 4096 % 64 : Nat) : Int) = (V : Int) / 4096 % 64 by omega] at e
            rw [show ((V / 4096 % 64 : Nat) : Int) = (V : Int) / 4096 % 64 by omega] at C
            have HF : Hid (p ++ [lt (V / 4096 % 64)] = acc ++ (four V).take 2) := Lib.hid (by rw [HE.out]; simp [four])
            generalize lt (V / 4096 % 64) = b at C HF
            go_wp2_with (first
              | (go_at_call 35; refine (C.out _).mono ?_; rintro e w' ⟨rfl, rfl⟩)
              | (at_builtin; refine wpList_appV rfl _ _ rfl _ B p [b] ⟨wx.heap.size, 0, none⟩ 1 rfl rfl (OB.alloc HP.out _) ?c1 ?c2 ?c3 ?_))
            case c1 => simp; omega
            case c2 => simp; omega
            case c3 => exact new_cells wx [b] _ rfl
            · intro v' w1 hO' hg
              have HO2 := Lib.hid hO'
              have HB2 := Lib.hid ((HBw.out.alloc hBx _).grown hg (by simp; omega) (fun j hj => (HP.out.lt j hj).1))
              have hs2 : B ≤ w1.heap.size := Nat.le_trans hB HB2.out.size
              clear hO' hg
              go_wp2
              go_roundw
              case rel => exact ⟨2, p ++ [b], by omega, by go_num, HO2, HF, HB2, hs2, by simp; omega⟩
              case measure => simp [intOf]
          · have C := Lib.hid (letter35 (V / 64 % 64) (by omega))
            have e := and63 (V / 64)
            rw [show ((V / 64 : Nat) : Int) = (V : Int) / 64 by omega, show ((V / 64 % 64 : Nat) : Int) = (V : Int) / 64 % 64 by omega] at e
            rw [show ((V / 64 % 64 : Nat) : Int) = (V : Int) / 64 % 64 by omega] at C
            have HF : Hid (p ++ [lt (V / 64 % 64)] = acc ++ (four V).take 3) := Lib.hid (by rw [HE.out]; simp [four])
            generalize lt (V / 64 % 64) = b at C HF
            go_wp2_with (first
              | (go_at_call 35; refine (C.out _).mono ?_; rintro e w' ⟨rfl, rfl⟩)
              | (at_builtin; refine wpList_appV rfl _ _ rfl _ B p [b] ⟨wx.heap.size, 0, none⟩ 1 rfl rfl (OB.alloc HP.out _) ?c1 ?c2 ?c3 ?_))
            case c1 => simp; omega
            case c2 => simp; omega
            case c3 => exact new_cells wx [b] _ rfl
            · intro v' w1 hO' hg
              have HO2 := Lib.hid hO'
              have HB2 := Lib.hid ((HBw.out.alloc hBx _).grown hg (by simp; omega) (fun j hj => (HP.out.lt j hj).1))
              have hs2 : B ≤ w1.heap.size := Nat.le_trans hB HB2.out.size
              clear hO' hg
              go_wp2
              go_roundw
              case rel => exact ⟨3, p ++ [b], by omega, by go_num, HO2, HF, HB2, hs2, by simp; omega⟩
              case measure => simp [intOf]
          · have C := Lib.hid (letter35 (V % 64) (by omega))
            have e := and63 (V)
            rw [show ((V % 64 : Nat) : Int) = (V : Int) % 64 by omega] at e C
            have HF : Hid (p ++ [lt (V % 64)] = acc ++ (four V).take 4) := Lib.hid (by rw [HE.out]; simp [four])
            generalize lt (V % 64) = b at C HF
            go_wp2_with (first
              | (go_at_call 35; refine (C.out _).mono ?_; rintro e w' ⟨rfl, rfl⟩)
              | (at_builtin; refine wpList_appV rfl _ _ rfl _ B p [b] ⟨wx.heap.size, 0, none⟩ 1 rfl rfl (OB.alloc HP.out _) ?c1 ?c2 ?c3 ?_))
            case c1 => simp; omega
            case c2 => simp; omega
            case c3 => exact new_cells wx [b] _ rfl
            · intro v' w1 hO' hg
              have HO2 := Lib.hid hO'
              have HB2 := Lib.hid ((HBw.out.alloc hBx _).grown hg (by simp; omega) (fun j hj => (HP.out.lt j hj).1))
              have hs2 : B ≤ w1.heap.size := Nat.le_trans hB HB2.out.size
              clear hO' hg
              go_wp2
              go_roundw
              case rel => exact ⟨4, p ++ [b], by omega, by go_num, HO2, HF, HB2, hs2, by simp; omega⟩
              case measure => simp [intOf]
        · obtain rfl : k = 4 := by omega
          have HF : Hid (p = acc ++ four V) := HE
          go_wp2
          go_ret
          exact ⟨_, rfl, by rw [← HF.out]; exact HP.out, HBw.out⟩
end Go.Proofs.Ytdjfapaebonadaa
