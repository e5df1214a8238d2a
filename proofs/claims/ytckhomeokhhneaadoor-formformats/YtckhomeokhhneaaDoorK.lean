/- A number's digits in base 10, 8 and 16: strconv.FormatUint. Conditions: the tables read as they are laid. -/
import Derived.Test.YtckhomeokhhneaaDoorJ
namespace Go.Proofs.YtckhomeokhhneaaDoor
open Go.RowKit Go.PlainAid Go.Sort
set_option linter.unusedSimpArgs false
set_option linter.unusedVariables false

/-- A number's digits, as a text. -/
def dd (u : Nat) : ByteArray := mk (Lib.decDigits u)
theorem nd_le (u : Nat) (h2 : u < 18446744073709551616) : Lib.nDigits u ≤ 20 := by
  by_cases h1 : 1 ≤ u
  · have := Lib.numDigits_eq u h1 h2; split at this <;> omega
  · have : u = 0 := by omega
    subst this
    rw [Lib.nDigits_small (by omega)]; omega
theorem dd_size (u : Nat) (h : u < 18446744073709551616) : (dd u).size ≤ 20 := by
  unfold dd; rw [mk_size, Lib.decDigits_length]; exact nd_le u h

theorem holds_zero0 (w : World) (T : TypeId) (nd : Nat) (hs : nd ≤ 24) : Holds (fun (b : UInt8) => Value.int .u8 (b.toNat : Int)) (w.alloc (.cells Lib.zeros24 T)) w.heap.size 0 (Array.replicate nd (0 : UInt8)) := fun j hj => by
  have hj' : j < nd := by simpa using hj
  refine ⟨?_, World.frozen?_alloc_new _ _ _ _⟩
  rw [World.cell?_alloc_new, Lib.zeros24_at _ (by omega), getElem!_pos _ j hj]
  simp
theorem below_put (w : World) (o : Obj) (dk : Array UInt8) (k : Nat) : Below w.heap.size w ((putRow (fun (b : UInt8) => Value.int .u8 (b.toNat : Int)) (w.alloc o) w.heap.size 0 dk).drewN k) := by
  rw [alloc_eq_grow]
  obtain ⟨os', _, e⟩ := putRow_grow_new (fun (b : UInt8) => Value.int .u8 (b.toNat : Int)) w #[o] w.heap.size 0 dk (Nat.le_refl _)
  rw [e]
  exact Lib.below_grow _ w (Nat.le_refl _) k os'

set_option maxHeartbeats 2000000 in
set_option maxRecDepth 100000 in
theorem fu48 (u : Nat) (hu64 : u < 18446744073709551616) (w : World) (ht : Tab w) : Calls Tryd.prog 48 #[.int .u64 u, .int .i64 10] w fun e w' => e = .returned (.string (dd u)) ∧ Below w.heap.size w w' := by
  by_cases hs : u < 100
  · go_enter Tryd.func48, Tryd.ntmps48
    go_wp2_with (go_at_call 64; (refine (Tryd.internal_strconv_small u hs _).mono ?_; rintro e w' ⟨rfl, rfl⟩))
    go_ret
    exact ⟨rfl, Below.refl _ _⟩
  · have hu1 : 1 ≤ u := by omega
    have hnd := nd_le u hu64
    have hal : Tryd.prog.arrayLen 102 = 24 := by kernel_rfl
    have hsl1 : ∀ W, (Instr.sliceAt 102 (.pointer (some ⟨w.heap.size, 0, none⟩)) none (some (.int .i64 (Lib.nDigits u : Int))) none).run Tryd.prog W = .ok (.slice (some ⟨w.heap.size, 0, none⟩) (Lib.nDigits u) 24) W := fun W => by
      rw [run_sliceAt_array_h W 102 ⟨w.heap.size, 0, none⟩ (by kernel_rfl) .i64 (Lib.nDigits u : Int) (by omega) (by rw [hal]; omega)]
      go_simp
      all_goals omega
    have hH0 := holds_zero0 w 102 (Lib.nDigits u) (by omega)
    have hfmt := Tryd.internal_strconv_formatBase10 w.heap.size 0 24 u (Array.replicate (Lib.nDigits u) 0) (w.alloc (.cells Lib.zeros24 102)) hH0 (by rw [Array.size_replicate]; exact Lib.lt_pow_nDigits u) hu64 (by rw [Array.size_replicate]; omega)
    rw [Array.size_replicate] at hfmt
    have HH0 := Lib.hid hH0
    have HT := Lib.hid ht
    clear hH0 hal ht
    go_enter Tryd.func48, Tryd.ntmps48
    go_wp2_with (go_at_call 65; (refine (Tryd.internal_strconv_numDigits u hu1 hu64 _ (Lib.tabIs_alloc HT.out _)).mono ?_; rintro e w' ⟨rfl, rfl⟩))
    refine hfmt.mono ?_
    rintro e w' ⟨rfl, k, v', dk, rfl, hF⟩
    have hcv : (convert 33 9 (.slice (some ⟨w.heap.size, 0, none⟩) (Lib.nDigits u) 24)).run Tryd.prog ((putRow (fun (b : UInt8) => Value.int .u8 (b.toNat : Int)) (w.alloc (.cells Lib.zeros24 102)) w.heap.size 0 dk).drewN k) = .ok (.string (dd u)) ((putRow (fun (b : UInt8) => Value.int .u8 (b.toNat : Int)) (w.alloc (.cells Lib.zeros24 102)) w.heap.size 0 dk).drewN k) := by
      have h := run_convert_bytes_back (P := Tryd.prog) ((putRow (fun (b : UInt8) => Value.int .u8 (b.toNat : Int)) (w.alloc (.cells Lib.zeros24 102)) w.heap.size 0 dk).drewN k) 33 9 5 ⟨w.heap.size, 0, none⟩ 24 (Lib.decDigits u) Tryd.underlying33 Tryd.underlying5 Tryd.underlying9 (fun j hj => by
        rw [Lib.row_is_numeral hF j hj, Lib.add_plain, World.cell?_drewN]
        exact cell?_putRow (fun (b : UInt8) => Value.int .u8 (b.toNat : Int)) _ w.heap.size 0 _ dk HH0.out (by rw [hF.size, Array.size_replicate]) j (by rw [hF.size]; rw [Lib.decDigits_length] at hj; exact hj))
      rw [Lib.decDigits_length] at h
      exact h
    have HB := Lib.hid (below_put w (.cells Lib.zeros24 102) dk k)
    clear hF
    go_wp2
    go_ret
    exact ⟨rfl, HB.out⟩
set_option maxHeartbeats 1000000 in
set_option maxRecDepth 100000 in
theorem fu41 (u : Nat) (hu64 : u < 18446744073709551616) (w : World) (ht : Tab w) : Calls Tryd.prog 41 #[.int .u64 u, .int .i64 10] w fun e w' => e = .returned (.string (dd u)) ∧ Below w.heap.size w w' := by
  go_enter Tryd.func41, Tryd.ntmps41
  go_wp2_with (go_at_call 48; (refine (fu48 u hu64 _ ht).mono ?_; rintro e w' ⟨rfl, hb⟩))
  go_ret
  exact ⟨rfl, hb⟩

theorem dch_at (n : Nat) (h : n < 16) : bt ⟨#[48, 49, 50, 51, 52, 53, 54, 55, 56, 57, 97, 98, 99, 100, 101, 102, 103, 104, 105, 106, 107, 108, 109, 110, 111, 112, 113, 114, 115, 116, 117, 118, 119, 120, 121, 122]⟩ n = ((dch n).toNat : Int) := by
  have : n = 0 ∨ n = 1 ∨ n = 2 ∨ n = 3 ∨ n = 4 ∨ n = 5 ∨ n = 6 ∨ n = 7 ∨ n = 8 ∨ n = 9 ∨ n = 10 ∨ n = 11 ∨ n = 12 ∨ n = 13 ∨ n = 14 ∨ n = 15 := by omega
  rcases this with rfl | rfl | rfl | rfl | rfl | rfl | rfl | rfl | rfl | rfl | rfl | rfl | rfl | rfl | rfl | rfl <;> rfl
theorem bd_small {b n : Nat} (h : n < b) : bd b n = [dch n] := by rw [bd, dif_pos (Or.inl h)]
theorem bd_big {b n : Nat} (h : b ≤ n) (h2 : 2 ≤ b) : bd b n = bd b (n / b) ++ [dch (n % b)] := by rw [bd, dif_neg (by omega)]
def rowZ (l : List UInt8) : Array Value := (List.replicate (65 - l.length) (Value.int .u8 0) ++ bc l).toArray
theorem rowZ_set (l : List UInt8) (d : UInt8) (j : Nat) (hj : j + l.length + 1 = 65) : (rowZ l).setIfInBounds j (.int .u8 d.toNat) = rowZ (d :: l) := by
  unfold rowZ
  rw [List.setIfInBounds_toArray]
  congr 1
  have e : 65 - l.length = j + 1 := by omega
  have e2 : 65 - (d :: l).length = j := by simp; omega
  rw [e, e2, List.replicate_succ', List.append_assoc, List.set_append_right _ _ (by simp), List.length_replicate, Nat.sub_self]
  rfl
theorem rowZ_at (l : List UInt8) (j k : Nat) (h : j + l.length = 65) (hk : k < l.length) : (rowZ l)[j + k]? = some (.int .u8 (l[k].toNat : Int)) := by
  unfold rowZ
  have e : 65 - l.length = j := by omega
  rw [e, List.getElem?_toArray, List.getElem?_append_right (by simp), List.length_replicate, Nat.add_sub_cancel_left]
  simp [bc, hk]
theorem pow8 (v n u : Nat) (h8 : 8 ≤ v) (h : v * 8 ^ n ≤ u) (hu : u < 18446744073709551616) : n ≤ 21 := by
  rcases Nat.lt_or_ge n 22 with h2 | h2
  · omega
  · have h3 : 8 ^ 22 ≤ 8 ^ n := Nat.pow_le_pow_right (by omega) h2
    have h4 : 8 * 8 ^ 22 ≤ v * 8 ^ n := Nat.mul_le_mul h8 h3
    have h5 : (8 : Nat) * 8 ^ 22 = 590295810358705651712 := by decide
    omega
theorem pow8_step (b v n u : Nat) (hb : 8 ≤ b) (h : v * 8 ^ n ≤ u) : v / b * 8 ^ (n + 1) ≤ u := by
  refine Nat.le_trans ?_ h
  rw [Nat.pow_succ, Nat.mul_comm (8 ^ n) 8, ← Nat.mul_assoc]
  refine Nat.mul_le_mul_right _ ?_
  exact Nat.le_trans (Nat.mul_le_mul_left _ hb) (Nat.div_mul_le_self v b)
def Rel67 (b u : Nat) (w : World) (x y : Value) (wx : World) : Prop := ∃ (v j : Nat) (l : List UInt8), x = .int .u64 v ∧ y = .int .i64 j ∧ Hid (j + l.length = 65) ∧ Hid (v * 8 ^ l.length ≤ u) ∧ v < 18446744073709551616 ∧ j ≤ 65 ∧ 43 ≤ j ∧ Hid (bd b v ++ l = bd b u) ∧ Hid (wx = w.alloc (.cells (rowZ l) 125))

set_option maxHeartbeats 4000000 in
set_option maxRecDepth 100000 in
theorem fb67_8 (u : Nat) (hu : u < 18446744073709551616) (w : World) (he : Env w) : Calls Tryd.prog 67 #[.slice none 0 0, .int .u64 u, .int .i64 8, .bool false, .bool false] w fun e w' => e = .returned (.tuple #[.slice none 0 0, .string (mk (bd 8 u))]) ∧ Below w.heap.size w w' := by
  have CP := Lib.hid fun W => pow86 8 (by omega) W
  have CZ := Lib.hid fun W (h : Env W) => tz87_8 W h
  have HE := Lib.hid fun o => he.below ((Below.refl _ w).alloc (Nat.le_refl _) o)
  have hb2 := get_bt ⟨#[48, 49, 50, 51, 52, 53, 54, 55, 56, 57, 97, 98, 99, 100, 101, 102, 103, 104, 105, 106, 107, 108, 109, 110, 111, 112, 113, 114, 115, 116, 117, 118, 119, 120, 121, 122]⟩
  have hz2 : (⟨#[48, 49, 50, 51, 52, 53, 54, 55, 56, 57, 97, 98, 99, 100, 101, 102, 103, 104, 105, 106, 107, 108, 109, 110, 111, 112, 113, 114, 115, 116, 117, 118, 119, 120, 121, 122]⟩ : ByteArray).size = 36 := rfl
  clear he
  go_enter Tryd.func67, Tryd.ntmps67
  go_wp2_with (first
    | (go_at_call 86; refine (CP.out _).mono ?_; rintro e w' ⟨rfl, rfl⟩)
    | (go_at_call 87; refine (CZ.out _ (HE.out _)).mono ?_; rintro e w' ⟨rfl, rfl⟩))
  go_loopw [1, 13] (Rel67 8 u w) (fun x _ _ => (intOf x).toNat)
  case atStart => exact ⟨u, 65, [], rfl, rfl, Lib.hid rfl, Lib.hid (by simp), hu, Nat.le_refl _, by omega, Lib.hid (by simp), Lib.hid rfl⟩
  case round =>
    obtain ⟨v, j, l, rfl, rfl, HJ, HV, hv, hj, hj2, HD, HW⟩ := hrel
    rename World => wx
    clear CP CZ HE
    have hlj : l.length ≤ 65 := by have := HJ.out; omega
    obtain ⟨j, rfl⟩ : ∃ i, j = i + 1 := ⟨j - 1, by omega⟩
    have hw1 : IntKind.i64.wrap (((j + 1 : Nat) : Int) - 1) = (j : Int) := by rw [IntKind.wrap_i64]; omega
    have hw2 : ((j + 1 : Nat) : Int) - 1 = (j : Int) := by omega
    have hf : wx.frozen? ⟨w.heap.size, j, none⟩ = false := by rw [HW.out, alloc_frozen]
    have hc : wx.cell? ⟨w.heap.size, j, none⟩ = some (.int .u8 0) := by
      rw [HW.out, alloc_cell]
      unfold rowZ
      rw [List.getElem?_toArray, List.getElem?_append_left (by simp; have := HJ.out; omega)]
      rw [List.getElem?_replicate, if_pos (by have := HJ.out; omega)]
    by_cases hb : 8 ≤ v
    · have hj3 : 43 ≤ j := by have := pow8 v l.length u (by omega) HV.out hu; have := HJ.out; omega
      have hm : bits .and .u64 (v : Int) 7 = ((v % 8 : Nat) : Int) := by
        rw [show (7 : Int) = ((7 : Nat) : Int) from rfl, u64_and_nat v 7 hv (by omega)]
        congr 1
        exact Nat.and_two_pow_sub_one_eq_mod v 3
      obtain ⟨r, Hr⟩ : ∃ r, Hid (v % 8 = r) := ⟨_, Lib.hid rfl⟩
      have hr : r < 8 := by rw [← Hr.out]; exact Nat.mod_lt _ (by omega)
      rw [Hr.out] at hm
      have HX := Lib.hid (dch_at r (by omega))
      obtain ⟨q, Hq⟩ : ∃ q, Hid (v / 8 = q) := ⟨_, Lib.hid rfl⟩
      have hq : (v : Int) / 8 = (q : Int) := by have := Hq.out; omega
      have hqv : q < v := by have := Hq.out; omega
      have HV2 : Hid (q * 8 ^ (dch r :: l).length ≤ u) := Lib.hid (by rw [← Hq.out]; exact pow8_step 8 v l.length u (by omega) HV.out)
      have HD2 : Hid (bd 8 q ++ dch r :: l = bd 8 u) := Lib.hid (by rw [← HD.out, bd_big hb (by omega), Hq.out, Hr.out]; simp)
      have HJ2 : Hid (j + (dch r :: l).length = 65) := Lib.hid (by have := HJ.out; simp; omega)
      go_wp2
      go_roundw
      case rel => exact ⟨q, j, dch r :: l, by first | rfl | (rw [hq]), by first | rfl | (rw [hw1]) | (rw [hw2]), HJ2, HV2, by omega, by omega, hj3, HD2, Lib.hid (by rw [HW.out, alloc_setCell, HX.out, rowZ_set l (dch r) j (by have := HJ.out; omega)])⟩
      case measure => simp [intOf]; omega
    · have HX := Lib.hid (dch_at v (by omega))
      have HD2 : Hid (dch v :: l = bd 8 u) := Lib.hid (by rw [← HD.out, bd_small (by omega)]; rfl)
      have hdv : decide (8 ≤ (v : Int)) = false := decide_eq_false (by omega)
      obtain ⟨L, HL⟩ : ∃ L, Hid ((dch v :: l).length = L) := ⟨_, Lib.hid rfl⟩
      have hL : j + L = 65 ∧ 1 ≤ L := by have := HJ.out; have := HL.out; simp at this; omega
      have hL1 := hL.2
      have hL := hL.1
      have hal : Tryd.prog.arrayLen 125 = 65 := by kernel_rfl
      have hsl : ∀ W, (Instr.sliceAt 125 (.pointer (some ⟨w.heap.size, 0, none⟩)) (some (.int .i64 (j : Int))) none none).run Tryd.prog W = .ok (.slice (some ⟨w.heap.size, j, none⟩) L L) W := fun W => by
        rw [run_sliceAt_array_l W 125 ⟨w.heap.size, 0, none⟩ (by kernel_rfl) .i64 (j : Int) (by omega) (by rw [hal]; omega)]
        rw [hal]
        go_simp
        constructor <;> omega
      have hcv0 : ∀ X : Int, X = ((dch v).toNat : Int) → (convert 33 9 (.slice (some ⟨w.heap.size, j, none⟩) L L)).run Tryd.prog (wx.setCell ⟨w.heap.size, j, none⟩ (.int .u8 X)) = .ok (.string (mk (bd 8 u))) (wx.setCell ⟨w.heap.size, j, none⟩ (.int .u8 X)) := by
        rintro X rfl
        rw [HW.out, alloc_setCell, rowZ_set l (dch v) j (by have := HJ.out; omega), ← HD2.out]
        have h := run_convert_bytes_back (P := Tryd.prog) (w.alloc (.cells (rowZ (dch v :: l)) 125)) 33 9 5 ⟨w.heap.size, j, none⟩ L (dch v :: l) Tryd.underlying33 Tryd.underlying5 Tryd.underlying9 (fun k hk => by
          rw [add_at, alloc_cell]
          exact rowZ_at (dch v :: l) j k (by rw [HL.out]; exact hL) hk)
        rw [HL.out] at h
        exact h
      have hcv := hcv0 _ HX.out
      have HB := Lib.hid (show ∀ X, Below w.heap.size w (wx.setCell ⟨w.heap.size, j, none⟩ X) from fun X => by
        rw [HW.out, alloc_setCell]
        exact (Below.refl _ w).alloc (Nat.le_refl _) _)
      clear hcv0 hal
      go_wp2
      go_ret2
      exact ⟨rfl, HB.out _⟩

set_option maxHeartbeats 4000000 in
set_option maxRecDepth 100000 in
theorem fb67_16 (u : Nat) (hu : u < 18446744073709551616) (w : World) (he : Env w) : Calls Tryd.prog 67 #[.slice none 0 0, .int .u64 u, .int .i64 16, .bool false, .bool false] w fun e w' => e = .returned (.tuple #[.slice none 0 0, .string (mk (bd 16 u))]) ∧ Below w.heap.size w w' := by
  have CP := Lib.hid fun W => pow86 16 (by omega) W
  have CZ := Lib.hid fun W (h : Env W) => tz87_16 W h
  have HE := Lib.hid fun o => he.below ((Below.refl _ w).alloc (Nat.le_refl _) o)
  have hb2 := get_bt ⟨#[48, 49, 50, 51, 52, 53, 54, 55, 56, 57, 97, 98, 99, 100, 101, 102, 103, 104, 105, 106, 107, 108, 109, 110, 111, 112, 113, 114, 115, 116, 117, 118, 119, 120, 121, 122]⟩
  have hz2 : (⟨#[48, 49, 50, 51, 52, 53, 54, 55, 56, 57, 97, 98, 99, 100, 101, 102, 103, 104, 105, 106, 107, 108, 109, 110, 111, 112, 113, 114, 115, 116, 117, 118, 119, 120, 121, 122]⟩ : ByteArray).size = 36 := rfl
  clear he
  go_enter Tryd.func67, Tryd.ntmps67
  go_wp2_with (first
    | (go_at_call 86; refine (CP.out _).mono ?_; rintro e w' ⟨rfl, rfl⟩)
    | (go_at_call 87; refine (CZ.out _ (HE.out _)).mono ?_; rintro e w' ⟨rfl, rfl⟩))
  go_loopw [1, 13] (Rel67 16 u w) (fun x _ _ => (intOf x).toNat)
  case atStart => exact ⟨u, 65, [], rfl, rfl, Lib.hid rfl, Lib.hid (by simp), hu, Nat.le_refl _, by omega, Lib.hid (by simp), Lib.hid rfl⟩
  case round =>
    obtain ⟨v, j, l, rfl, rfl, HJ, HV, hv, hj, hj2, HD, HW⟩ := hrel
    rename World => wx
    clear CP CZ HE
    have hlj : l.length ≤ 65 := by have := HJ.out; omega
    obtain ⟨j, rfl⟩ : ∃ i, j = i + 1 := ⟨j - 1, by omega⟩
    have hw1 : IntKind.i64.wrap (((j + 1 : Nat) : Int) - 1) = (j : Int) := by rw [IntKind.wrap_i64]; omega
    have hw2 : ((j + 1 : Nat) : Int) - 1 = (j : Int) := by omega
    have hf : wx.frozen? ⟨w.heap.size, j, none⟩ = false := by rw [HW.out, alloc_frozen]
    have hc : wx.cell? ⟨w.heap.size, j, none⟩ = some (.int .u8 0) := by
      rw [HW.out, alloc_cell]
      unfold rowZ
      rw [List.getElem?_toArray, List.getElem?_append_left (by simp; have := HJ.out; omega)]
      rw [List.getElem?_replicate, if_pos (by have := HJ.out; omega)]
    by_cases hb : 16 ≤ v
    · have hj3 : 43 ≤ j := by have := pow8 v l.length u (by omega) HV.out hu; have := HJ.out; omega
      have hm : bits .and .u64 (v : Int) 15 = ((v % 16 : Nat) : Int) := by
        rw [show (15 : Int) = ((15 : Nat) : Int) from rfl, u64_and_nat v 15 hv (by omega)]
        congr 1
        exact Nat.and_two_pow_sub_one_eq_mod v 4
      obtain ⟨r, Hr⟩ : ∃ r, Hid (v % 16 = r) := ⟨_, Lib.hid rfl⟩
      have hr : r < 16 := by rw [← Hr.out]; exact Nat.mod_lt _ (by omega)
      rw [Hr.out] at hm
      have HX := Lib.hid (dch_at r (by omega))
      obtain ⟨q, Hq⟩ : ∃ q, Hid (v / 16 = q) := ⟨_, Lib.hid rfl⟩
      have hq : (v : Int) / 16 = (q : Int) := by have := Hq.out; omega
      have hqv : q < v := by have := Hq.out; omega
      have HV2 : Hid (q * 8 ^ (dch r :: l).length ≤ u) := Lib.hid (by rw [← Hq.out]; exact pow8_step 16 v l.length u (by omega) HV.out)
      have HD2 : Hid (bd 16 q ++ dch r :: l = bd 16 u) := Lib.hid (by rw [← HD.out, bd_big hb (by omega), Hq.out, Hr.out]; simp)
      have HJ2 : Hid (j + (dch r :: l).length = 65) := Lib.hid (by have := HJ.out; simp; omega)
      go_wp2
      go_roundw
      case rel => exact ⟨q, j, dch r :: l, by first | rfl | (rw [hq]), by first | rfl | (rw [hw1]) | (rw [hw2]), HJ2, HV2, by omega, by omega, hj3, HD2, Lib.hid (by rw [HW.out, alloc_setCell, HX.out, rowZ_set l (dch r) j (by have := HJ.out; omega)])⟩
      case measure => simp [intOf]; omega
    · have HX := Lib.hid (dch_at v (by omega))
      have HD2 : Hid (dch v :: l = bd 16 u) := Lib.hid (by rw [← HD.out, bd_small (by omega)]; rfl)
      have hdv : decide (16 ≤ (v : Int)) = false := decide_eq_false (by omega)
      obtain ⟨L, HL⟩ : ∃ L, Hid ((dch v :: l).length = L) := ⟨_, Lib.hid rfl⟩
      have hL : j + L = 65 ∧ 1 ≤ L := by have := HJ.out; have := HL.out; simp at this; omega
      have hL1 := hL.2
      have hL := hL.1
      have hal : Tryd.prog.arrayLen 125 = 65 := by kernel_rfl
      have hsl : ∀ W, (Instr.sliceAt 125 (.pointer (some ⟨w.heap.size, 0, none⟩)) (some (.int .i64 (j : Int))) none none).run Tryd.prog W = .ok (.slice (some ⟨w.heap.size, j, none⟩) L L) W := fun W => by
        rw [run_sliceAt_array_l W 125 ⟨w.heap.size, 0, none⟩ (by kernel_rfl) .i64 (j : Int) (by omega) (by rw [hal]; omega)]
        rw [hal]
        go_simp
        constructor <;> omega
      have hcv0 : ∀ X : Int, X = ((dch v).toNat : Int) → (convert 33 9 (.slice (some ⟨w.heap.size, j, none⟩) L L)).run Tryd.prog (wx.setCell ⟨w.heap.size, j, none⟩ (.int .u8 X)) = .ok (.string (mk (bd 16 u))) (wx.setCell ⟨w.heap.size, j, none⟩ (.int .u8 X)) := by
        rintro X rfl
        rw [HW.out, alloc_setCell, rowZ_set l (dch v) j (by have := HJ.out; omega), ← HD2.out]
        have h := run_convert_bytes_back (P := Tryd.prog) (w.alloc (.cells (rowZ (dch v :: l)) 125)) 33 9 5 ⟨w.heap.size, j, none⟩ L (dch v :: l) Tryd.underlying33 Tryd.underlying5 Tryd.underlying9 (fun k hk => by
          rw [add_at, alloc_cell]
          exact rowZ_at (dch v :: l) j k (by rw [HL.out]; exact hL) hk)
        rw [HL.out] at h
        exact h
      have hcv := hcv0 _ HX.out
      have HB := Lib.hid (show ∀ X, Below w.heap.size w (wx.setCell ⟨w.heap.size, j, none⟩ X) from fun X => by
        rw [HW.out, alloc_setCell]
        exact (Below.refl _ w).alloc (Nat.le_refl _) _)
      clear hcv0 hal
      go_wp2
      go_ret2
      exact ⟨rfl, HB.out _⟩
end Go.Proofs.YtckhomeokhhneaaDoor
