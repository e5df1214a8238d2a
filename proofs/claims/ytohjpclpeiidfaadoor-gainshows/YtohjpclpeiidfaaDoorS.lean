/- Contract of how more than three digits are told. -/
import Derived.Test.YtohjpclpeiidfaaDoorR
namespace Go.Proofs.YtohjpclpeiidfaaDoor
open Go.RowKit Go.PlainAid
set_option linter.unusedSimpArgs false
set_option linter.unusedVariables false
namespace Fl

def RA (ds : List UInt8) (P k : Nat) : List UInt8 := (ds.take P).drop k ++ 46 :: ds.drop P
def RB (ds : List UInt8) (P m k : Nat) : List UInt8 := (ds.take P).drop (m + k) ++ 46 :: ds.drop P
theorem ra_step (ds : List UInt8) (P k : Nat) (h : k < P) (hP : P ≤ ds.length) : (ds.take P).drop k ++ 46 :: ds.drop P = ds[k]'(by omega) :: ((ds.take P).drop (k + 1) ++ 46 :: ds.drop P) := by
  rw [List.drop_eq_getElem_cons (l := ds.take P) (i := k) (by rw [List.length_take]; omega)]
  simp
set_option maxHeartbeats 8000000 in
set_option maxRecDepth 100000 in
theorem efg38_big (M D z : Nat) (l ds : List UInt8) (neg : Bool) (w : World) (hd : Dst M l w) (hl0 : l.length = 0) (hDM : D ≠ M) (hn : 3 < ds.length) (hn2 : ds.length ≤ 15) (hz : z ≤ ds.length) (h48 : ∀ j (h : j < ds.length), z ≤ j → ds[j] = 48)
    (hb : ∀ j (h : j < ds.length), j < z → w.cell? ⟨D, j, none⟩ = some (.int .u8 (ds[j].toNat : Int))) :
    Calls Tryd.prog 38 #[.slice (some ⟨M, 0, none⟩) l.length 24, .bool neg, .slice (some ⟨D, 0, none⟩) 24 24, .int .i64 ((ds.length : Int) + -3), .int .i64 z, .int .i64 3, .int .u8 102, .bool false] w (GivesF M (l ++ sgn neg ++ fin ds) w) := by
  obtain ⟨i0, hi0, hz0, hz1, hz2⟩ := info_parts Tryd.info5
  have HD := Lib.hid hd
  have HK := Lib.hid (kp_refl M w)
  obtain ⟨P, hP⟩ : ∃ P, ds.length - 3 = P := ⟨_, rfl⟩
  rw [show (ds.length : Int) + -3 = (P : Int) by omega]
  have d00 : 0 < P := by omega
  have d0 : decide ((0 : Int) < P) = true := decide_eq_true (by omega)
  have d0' : decide (0 < P) = true := decide_eq_true d00
  obtain ⟨F, hF⟩ : ∃ F, l ++ sgn neg ++ fin ds = F := ⟨_, rfl⟩
  have HF : Hid (l ++ sgn neg ++ RA ds P 0 = F) := Lib.hid (by rw [← hF]; unfold fin; rw [if_pos hn, hP]; simp [RA])
  have hPn : P + 3 = ds.length := by omega
  have hFl : F.length ≤ 20 := by
    rw [← HF.out]; unfold RA
    cases neg <;> simp [sgn] <;> omega
  rw [hF]
  have HL0 : Hid (l.length = 0) := Lib.hid hl0
  clear hl0
  have HH := Lib.hid h48
  have HBx := Lib.hid hb
  obtain ⟨m, hm⟩ : ∃ m, min z P = m := ⟨_, rfl⟩
  obtain ⟨bz, hbz⟩ : ∃ bz, P - m = bz := ⟨_, rfl⟩
  obtain ⟨m2, hm2⟩ : ∃ m2, min 3 (z - P) = m2 := ⟨_, rfl⟩
  obtain ⟨tz, htz⟩ : ∃ tz, 3 - m2 = tz := ⟨_, rfl⟩
  have f0 : min (z : Int) P = m := by omega
  have f1 : (P : Int) - m = bz := by omega
  have f2 : max 0 (-(P : Int)) = 0 := by omega
  have g0 : min (3 : Int) 0 = 0 := by omega
  have g1 : wrap64 ((z : Int) - P) = (z : Int) - P := by unfold wrap64; omega
  have f3 : min (3 : Int) (max 0 ((z : Int) - P)) = m2 := by omega
  have f4 : (3 : Int) - m2 = tz := by omega
  have f5 : max 0 (tz : Int) = tz := by omega
  have HM : Hid (m ≤ z ∧ m ≤ P ∧ m + bz = P ∧ (0 < bz → m = z) ∧ m2 ≤ 3 ∧ P + m2 + tz = ds.length ∧ z ≤ P + m2 ∧ (0 < m2 → P + m2 ≤ z)) := Lib.hid (by omega)
  have hm24 : m ≤ 24 := by omega
  clear hF h48 hb hm hbz hm2 htz hP hz d00
  cases neg
  · go_enter Tryd.func38, Tryd.ntmps38
    have HS0 : Hid (l ++ RA ds P 0 = F) := Lib.hid (by rw [← HF.out]; simp [sgn])
    clear HF
    go_wp2_with fail
    go_loopw [0, 191] (RelF M m (RA ds P) F w) (fun _ i _ => m - (intOf i).toNat)
    case atStart => exact ⟨0, l, Nat.zero_le _, rfl, rfl, HD, HK, HS0⟩
    case round =>
      obtain ⟨k, q, hk, rfl, rfl, HDx, HKx, HFx⟩ := hrel
      rename World => wx
      by_cases hlt : k < m
      · have hkn : k < ds.length := by have := HM.out; omega
        have c1 : wx.cell? _ = _ := kp_cell HKx.out hDM (HBx.out k hkn (by have := HM.out; omega))
        have hstep := HFx.out
        simp only [RA] at hstep
        rw [ra_step ds P k (by have := HM.out; omega) (by have := HM.out; omega)] at hstep
        have hroom := room hstep
        have hmore := Lib.hid (more hstep)
        clear hstep
        go_wp2_with (at_builtin; refine wpList_append_fits _ rfl _ _ 36 rfl M 5 i0 1 Tryd.underlying36 hi0 hz1 M q.length 24 (bc q) rfl (World.ownsRow.alloc HDx.out _) ⟨wx.heap.size, 0, none⟩ 1 1 [.int .u8 ((ds[k].toNat : Int))] rfl rfl (new_b wx _) (one_b _) (by omega) ?_)
        intro w9 hown hg
        have HD9 := Lib.hid (Dst.push (b := ds[k]) HDx.out hown)
        have HK9 := Lib.hid (kp_trans HKx.out (kp_of_alloc hg))
        clear hown hg
        obtain ⟨q9, hq9⟩ : ∃ q', q ++ [ds[k]] = q' := ⟨_, rfl⟩
        have hl9 : q.length + 1 = q9.length := by rw [← hq9]; simp
        rw [hq9] at HD9 hmore
        rw [hl9]
        clear hq9
        go_wp2_with fail
        go_roundw
        case rel => exact ⟨k + 1, q9, hlt, by go_num, rfl, HD9, HK9, hmore⟩
        case measure => simp [intOf]; omega
      · obtain rfl : m = k := by omega
        have HB0 : Hid (q ++ RB ds P m 0 = F) := Lib.hid (by have := HFx.out; simp only [RA] at this; simp only [RB, Nat.add_zero]; exact this)
        go_wp2_with fail
        go_loopw [0, 203] (RelF M bz (RB ds P m) F w) (fun _ i _ => bz - (intOf i).toNat)
        case atStart => exact ⟨0, q, Nat.zero_le _, rfl, rfl, HDx, HKx, HB0⟩
        case round =>
          obtain ⟨k, q, hk, rfl, rfl, HDx, HKx, HFx⟩ := hrel
          rename World => wx
          by_cases hlt : k < bz
          · have hstep := HFx.out
            simp only [RB] at hstep
            rw [ra_step ds P (m + k) (by have := HM.out; omega) (by have := HM.out; omega), HH.out (m + k) (by have := HM.out; omega) (by have := HM.out; omega)] at hstep
            have hroom := room hstep
            have hmore := Lib.hid (more hstep)
            clear hstep
            go_wp2_with (at_builtin; refine wpList_append_fits _ rfl _ _ 36 rfl M 5 i0 1 Tryd.underlying36 hi0 hz1 M q.length 24 (bc q) rfl (World.ownsRow.alloc HDx.out _) ⟨wx.heap.size, 0, none⟩ 1 1 [.int .u8 (48)] rfl rfl (new_b wx _) (one_b _) (by omega) ?_)
            intro w9 hown hg
            have HD9 := Lib.hid (Dst.push (b := 48) HDx.out hown)
            have HK9 := Lib.hid (kp_trans HKx.out (kp_of_alloc hg))
            clear hown hg
            obtain ⟨q9, hq9⟩ : ∃ q', q ++ [48] = q' := ⟨_, rfl⟩
            have hl9 : q.length + 1 = q9.length := by rw [← hq9]; simp
            rw [hq9] at HD9 hmore
            rw [hl9]
            clear hq9
            go_wp2_with fail
            go_roundw
            case rel => exact ⟨k + 1, q9, hlt, by go_num, rfl, HD9, HK9, hmore⟩
            case measure => simp [intOf]; omega
          · obtain rfl : bz = k := by omega
            have hr46 : q.length + 1 ≤ F.length := by
              have := HFx.out
              simp only [RB] at this
              exact room (by rw [List.drop_of_length_le (by rw [List.length_take]; have := HM.out; omega)] at this; exact this)
            go_wp2_with (at_builtin; refine wpList_append_fits _ rfl _ _ 36 rfl M 5 i0 1 Tryd.underlying36 hi0 hz1 M q.length 24 (bc q) rfl (World.ownsRow.alloc HDx.out _) ⟨wx.heap.size, 0, none⟩ 1 1 [.int .u8 (46)] rfl rfl (new_b wx _) (one_b _) (by omega) ?_)
            intro w8 hown hg
            have HD8 := Lib.hid (Dst.push (b := 46) HDx.out hown)
            have HK8 := Lib.hid (kp_trans HKx.out (kp_of_alloc hg))
            clear hown hg
            obtain ⟨q8, hq8⟩ : ∃ q', q ++ [46] = q' := ⟨_, rfl⟩
            have hl8 : q.length + 1 = q8.length := by rw [← hq8]; simp
            rw [hq8] at HD8
            rw [hl8]
            have HS8 : Hid (q8 ++ ds.drop P = F) := Lib.hid (by
              have := HFx.out
              simp only [RB] at this
              rw [List.drop_of_length_le (by rw [List.length_take]; have := HM.out; omega)] at this
              rw [← hq8]; exact more this)
            clear hq8 hr46 HFx
            go_wp2_with fail
            go_loopw [0, 240] (RelF M 0 (fun _ => ds.drop P) F w) (fun _ i _ => 0 - (intOf i).toNat)
            case atStart => exact ⟨0, q8, Nat.zero_le _, rfl, rfl, HD8, HK8, HS8⟩
            case round =>
              obtain ⟨k, q, hk, rfl, rfl, HDx, HKx, HFx⟩ := hrel
              rename World => wx
              obtain rfl : 0 = k := by omega
              have HD0 : Hid (q ++ RE ds P 0 = F) := Lib.hid (by have := HFx.out; simp only [RE, Nat.add_zero]; exact this)
              go_wp2_with fail
              go_loopw [0, 247] (RelF M m2 (RE ds P) F w) (fun _ i _ => m2 - (intOf i).toNat)
              case atStart => exact ⟨0, q, Nat.zero_le _, rfl, rfl, HDx, HKx, HD0⟩
              case round =>
                obtain ⟨k, q, hk, rfl, rfl, HDx, HKx, HFx⟩ := hrel
                rename World => wx
                by_cases hlt : k < m2
                · have hkn : P + k < ds.length := by have := HM.out; omega
                  have c1 : wx.cell? _ = _ := kp_cell HKx.out hDM (HBx.out (P + k) hkn (by have := HM.out; omega))
                  have hstep := HFx.out
                  simp only [RE] at hstep
                  rw [drop_step ds (P + k) (by have := HM.out; omega)] at hstep
                  have hroom := room hstep
                  have hmore := Lib.hid (more hstep)
                  clear hstep
                  go_wp2_with (at_builtin; refine wpList_append_fits _ rfl _ _ 36 rfl M 5 i0 1 Tryd.underlying36 hi0 hz1 M q.length 24 (bc q) rfl (World.ownsRow.alloc HDx.out _) ⟨wx.heap.size, 0, none⟩ 1 1 [.int .u8 ((ds[P + k].toNat : Int))] rfl rfl (new_b wx _) (one_b _) (by omega) ?_)
                  intro w9 hown hg
                  have HD9 := Lib.hid (Dst.push (b := ds[P + k]) HDx.out hown)
                  have HK9 := Lib.hid (kp_trans HKx.out (kp_of_alloc hg))
                  clear hown hg
                  obtain ⟨q9, hq9⟩ : ∃ q', q ++ [ds[P + k]] = q' := ⟨_, rfl⟩
                  have hl9 : q.length + 1 = q9.length := by rw [← hq9]; simp
                  rw [hq9] at HD9 hmore
                  rw [hl9]
                  clear hq9
                  go_wp2_with fail
                  go_roundw
                  case rel => exact ⟨k + 1, q9, hlt, by go_num, rfl, HD9, HK9, hmore⟩
                  case measure => simp [intOf]; omega
                · obtain rfl : m2 = k := by omega
                  have HE0 : Hid (q ++ RE ds (P + m2) 0 = F) := Lib.hid (by have := HFx.out; simp only [RE] at this; simp only [RE, Nat.add_zero]; exact this)
                  go_wp2_with fail
                  go_loopw [0, 261] (RelF M tz (RE ds (P + m2)) F w) (fun _ i _ => tz - (intOf i).toNat)
                  case atStart => exact ⟨0, q, Nat.zero_le _, rfl, rfl, HDx, HKx, HE0⟩
                  case round =>
                    obtain ⟨k, q, hk, rfl, rfl, HDx, HKx, HFx⟩ := hrel
                    rename World => wx
                    by_cases hlt : k < tz
                    · have hstep := HFx.out
                      simp only [RE] at hstep
                      rw [drop_step ds (P + m2 + k) (by have := HM.out; omega), HH.out (P + m2 + k) (by have := HM.out; omega) (by have := HM.out; omega)] at hstep
                      have hroom := room hstep
                      have hmore := Lib.hid (more hstep)
                      clear hstep
                      go_wp2_with (at_builtin; refine wpList_append_fits _ rfl _ _ 36 rfl M 5 i0 1 Tryd.underlying36 hi0 hz1 M q.length 24 (bc q) rfl (World.ownsRow.alloc HDx.out _) ⟨wx.heap.size, 0, none⟩ 1 1 [.int .u8 (48)] rfl rfl (new_b wx _) (one_b _) (by omega) ?_)
                      intro w9 hown hg
                      have HD9 := Lib.hid (Dst.push (b := 48) HDx.out hown)
                      have HK9 := Lib.hid (kp_trans HKx.out (kp_of_alloc hg))
                      clear hown hg
                      obtain ⟨q9, hq9⟩ : ∃ q', q ++ [48] = q' := ⟨_, rfl⟩
                      have hl9 : q.length + 1 = q9.length := by rw [← hq9]; simp
                      rw [hq9] at HD9 hmore
                      rw [hl9]
                      clear hq9
                      go_wp2_with fail
                      go_roundw
                      case rel => exact ⟨k + 1, q9, hlt, by go_num, rfl, HD9, HK9, hmore⟩
                      case measure => simp [intOf]; omega
                    · obtain rfl : tz = k := by omega
                      have hq : q = F := by
                        have := HFx.out
                        simp only [RE] at this
                        rw [List.drop_of_length_le (by have := HM.out; omega), List.append_nil] at this
                        exact this
                      subst hq
                      clear HFx
                      go_wp2
                      go_ret
                      exact ⟨rfl, HDx.out, HKx.out⟩
  · go_enter Tryd.func38, Tryd.ntmps38
    go_wp2_with (at_builtin; refine wpList_append_fits _ rfl _ _ 36 rfl M 5 i0 1 Tryd.underlying36 hi0 hz1 M l.length 24 (bc l) rfl (World.ownsRow.alloc HD.out _) ⟨w.heap.size, 0, none⟩ 1 1 [.int .u8 (45)] rfl rfl (new_b w _) (one_b _) (by have := HL0.out; omega) ?_)
    intro w1 hown hg
    have HD1 := Lib.hid (Dst.push (b := 45) HD.out hown)
    have HK1 := Lib.hid (kp_trans HK.out (kp_of_alloc hg))
    clear hown hg
    obtain ⟨q1, hq1⟩ : ∃ q, l ++ [45] = q := ⟨_, rfl⟩
    have hl1 : l.length + 1 = q1.length := by rw [← hq1]; simp
    rw [hq1] at HD1
    rw [hl1]
    have HS0 : Hid (q1 ++ RA ds P 0 = F) := Lib.hid (by rw [← HF.out, ← hq1]; simp [sgn])
    clear HF
    go_wp2_with fail
    go_loopw [0, 191] (RelF M m (RA ds P) F w) (fun _ i _ => m - (intOf i).toNat)
    case atStart => exact ⟨0, q1, Nat.zero_le _, rfl, rfl, HD1, HK1, HS0⟩
    case round =>
      obtain ⟨k, q, hk, rfl, rfl, HDx, HKx, HFx⟩ := hrel
      rename World => wx
      by_cases hlt : k < m
      · have hkn : k < ds.length := by have := HM.out; omega
        have c1 : wx.cell? _ = _ := kp_cell HKx.out hDM (HBx.out k hkn (by have := HM.out; omega))
        have hstep := HFx.out
        simp only [RA] at hstep
        rw [ra_step ds P k (by have := HM.out; omega) (by have := HM.out; omega)] at hstep
        have hroom := room hstep
        have hmore := Lib.hid (more hstep)
        clear hstep
        go_wp2_with (at_builtin; refine wpList_append_fits _ rfl _ _ 36 rfl M 5 i0 1 Tryd.underlying36 hi0 hz1 M q.length 24 (bc q) rfl (World.ownsRow.alloc HDx.out _) ⟨wx.heap.size, 0, none⟩ 1 1 [.int .u8 ((ds[k].toNat : Int))] rfl rfl (new_b wx _) (one_b _) (by omega) ?_)
        intro w9 hown hg
        have HD9 := Lib.hid (Dst.push (b := ds[k]) HDx.out hown)
        have HK9 := Lib.hid (kp_trans HKx.out (kp_of_alloc hg))
        clear hown hg
        obtain ⟨q9, hq9⟩ : ∃ q', q ++ [ds[k]] = q' := ⟨_, rfl⟩
        have hl9 : q.length + 1 = q9.length := by rw [← hq9]; simp
        rw [hq9] at HD9 hmore
        rw [hl9]
        clear hq9
        go_wp2_with fail
        go_roundw
        case rel => exact ⟨k + 1, q9, hlt, by go_num, rfl, HD9, HK9, hmore⟩
        case measure => simp [intOf]; omega
      · obtain rfl : m = k := by omega
        have HB0 : Hid (q ++ RB ds P m 0 = F) := Lib.hid (by have := HFx.out; simp only [RA] at this; simp only [RB, Nat.add_zero]; exact this)
        go_wp2_with fail
        go_loopw [0, 203] (RelF M bz (RB ds P m) F w) (fun _ i _ => bz - (intOf i).toNat)
        case atStart => exact ⟨0, q, Nat.zero_le _, rfl, rfl, HDx, HKx, HB0⟩
        case round =>
          obtain ⟨k, q, hk, rfl, rfl, HDx, HKx, HFx⟩ := hrel
          rename World => wx
          by_cases hlt : k < bz
          · have hstep := HFx.out
            simp only [RB] at hstep
            rw [ra_step ds P (m + k) (by have := HM.out; omega) (by have := HM.out; omega), HH.out (m + k) (by have := HM.out; omega) (by have := HM.out; omega)] at hstep
            have hroom := room hstep
            have hmore := Lib.hid (more hstep)
            clear hstep
            go_wp2_with (at_builtin; refine wpList_append_fits _ rfl _ _ 36 rfl M 5 i0 1 Tryd.underlying36 hi0 hz1 M q.length 24 (bc q) rfl (World.ownsRow.alloc HDx.out _) ⟨wx.heap.size, 0, none⟩ 1 1 [.int .u8 (48)] rfl rfl (new_b wx _) (one_b _) (by omega) ?_)
            intro w9 hown hg
            have HD9 := Lib.hid (Dst.push (b := 48) HDx.out hown)
            have HK9 := Lib.hid (kp_trans HKx.out (kp_of_alloc hg))
            clear hown hg
            obtain ⟨q9, hq9⟩ : ∃ q', q ++ [48] = q' := ⟨_, rfl⟩
            have hl9 : q.length + 1 = q9.length := by rw [← hq9]; simp
            rw [hq9] at HD9 hmore
            rw [hl9]
            clear hq9
            go_wp2_with fail
            go_roundw
            case rel => exact ⟨k + 1, q9, hlt, by go_num, rfl, HD9, HK9, hmore⟩
            case measure => simp [intOf]; omega
          · obtain rfl : bz = k := by omega
            have hr46 : q.length + 1 ≤ F.length := by
              have := HFx.out
              simp only [RB] at this
              exact room (by rw [List.drop_of_length_le (by rw [List.length_take]; have := HM.out; omega)] at this; exact this)
            go_wp2_with (at_builtin; refine wpList_append_fits _ rfl _ _ 36 rfl M 5 i0 1 Tryd.underlying36 hi0 hz1 M q.length 24 (bc q) rfl (World.ownsRow.alloc HDx.out _) ⟨wx.heap.size, 0, none⟩ 1 1 [.int .u8 (46)] rfl rfl (new_b wx _) (one_b _) (by omega) ?_)
            intro w8 hown hg
            have HD8 := Lib.hid (Dst.push (b := 46) HDx.out hown)
            have HK8 := Lib.hid (kp_trans HKx.out (kp_of_alloc hg))
            clear hown hg
            obtain ⟨q8, hq8⟩ : ∃ q', q ++ [46] = q' := ⟨_, rfl⟩
            have hl8 : q.length + 1 = q8.length := by rw [← hq8]; simp
            rw [hq8] at HD8
            rw [hl8]
            have HS8 : Hid (q8 ++ ds.drop P = F) := Lib.hid (by
              have := HFx.out
              simp only [RB] at this
              rw [List.drop_of_length_le (by rw [List.length_take]; have := HM.out; omega)] at this
              rw [← hq8]; exact more this)
            clear hq8 hr46 HFx
            go_wp2_with fail
            go_loopw [0, 240] (RelF M 0 (fun _ => ds.drop P) F w) (fun _ i _ => 0 - (intOf i).toNat)
            case atStart => exact ⟨0, q8, Nat.zero_le _, rfl, rfl, HD8, HK8, HS8⟩
            case round =>
              obtain ⟨k, q, hk, rfl, rfl, HDx, HKx, HFx⟩ := hrel
              rename World => wx
              obtain rfl : 0 = k := by omega
              have HD0 : Hid (q ++ RE ds P 0 = F) := Lib.hid (by have := HFx.out; simp only [RE, Nat.add_zero]; exact this)
              go_wp2_with fail
              go_loopw [0, 247] (RelF M m2 (RE ds P) F w) (fun _ i _ => m2 - (intOf i).toNat)
              case atStart => exact ⟨0, q, Nat.zero_le _, rfl, rfl, HDx, HKx, HD0⟩
              case round =>
                obtain ⟨k, q, hk, rfl, rfl, HDx, HKx, HFx⟩ := hrel
                rename World => wx
                by_cases hlt : k < m2
                · have hkn : P + k < ds.length := by have := HM.out; omega
                  have c1 : wx.cell? _ = _ := kp_cell HKx.out hDM (HBx.out (P + k) hkn (by have := HM.out; omega))
                  have hstep := HFx.out
                  simp only [RE] at hstep
                  rw [drop_step ds (P + k) (by have := HM.out; omega)] at hstep
                  have hroom := room hstep
                  have hmore := Lib.hid (more hstep)
                  clear hstep
                  go_wp2_with (at_builtin; refine wpList_append_fits _ rfl _ _ 36 rfl M 5 i0 1 Tryd.underlying36 hi0 hz1 M q.length 24 (bc q) rfl (World.ownsRow.alloc HDx.out _) ⟨wx.heap.size, 0, none⟩ 1 1 [.int .u8 ((ds[P + k].toNat : Int))] rfl rfl (new_b wx _) (one_b _) (by omega) ?_)
                  intro w9 hown hg
                  have HD9 := Lib.hid (Dst.push (b := ds[P + k]) HDx.out hown)
                  have HK9 := Lib.hid (kp_trans HKx.out (kp_of_alloc hg))
                  clear hown hg
                  obtain ⟨q9, hq9⟩ : ∃ q', q ++ [ds[P + k]] = q' := ⟨_, rfl⟩
                  have hl9 : q.length + 1 = q9.length := by rw [← hq9]; simp
                  rw [hq9] at HD9 hmore
                  rw [hl9]
                  clear hq9
                  go_wp2_with fail
                  go_roundw
                  case rel => exact ⟨k + 1, q9, hlt, by go_num, rfl, HD9, HK9, hmore⟩
                  case measure => simp [intOf]; omega
                · obtain rfl : m2 = k := by omega
                  have HE0 : Hid (q ++ RE ds (P + m2) 0 = F) := Lib.hid (by have := HFx.out; simp only [RE] at this; simp only [RE, Nat.add_zero]; exact this)
                  go_wp2_with fail
                  go_loopw [0, 261] (RelF M tz (RE ds (P + m2)) F w) (fun _ i _ => tz - (intOf i).toNat)
                  case atStart => exact ⟨0, q, Nat.zero_le _, rfl, rfl, HDx, HKx, HE0⟩
                  case round =>
                    obtain ⟨k, q, hk, rfl, rfl, HDx, HKx, HFx⟩ := hrel
                    rename World => wx
                    by_cases hlt : k < tz
                    · have hstep := HFx.out
                      simp only [RE] at hstep
                      rw [drop_step ds (P + m2 + k) (by have := HM.out; omega), HH.out (P + m2 + k) (by have := HM.out; omega) (by have := HM.out; omega)] at hstep
                      have hroom := room hstep
                      have hmore := Lib.hid (more hstep)
                      clear hstep
                      go_wp2_with (at_builtin; refine wpList_append_fits _ rfl _ _ 36 rfl M 5 i0 1 Tryd.underlying36 hi0 hz1 M q.length 24 (bc q) rfl (World.ownsRow.alloc HDx.out _) ⟨wx.heap.size, 0, none⟩ 1 1 [.int .u8 (48)] rfl rfl (new_b wx _) (one_b _) (by omega) ?_)
                      intro w9 hown hg
                      have HD9 := Lib.hid (Dst.push (b := 48) HDx.out hown)
                      have HK9 := Lib.hid (kp_trans HKx.out (kp_of_alloc hg))
                      clear hown hg
                      obtain ⟨q9, hq9⟩ : ∃ q', q ++ [48] = q' := ⟨_, rfl⟩
                      have hl9 : q.length + 1 = q9.length := by rw [← hq9]; simp
                      rw [hq9] at HD9 hmore
                      rw [hl9]
                      clear hq9
                      go_wp2_with fail
                      go_roundw
                      case rel => exact ⟨k + 1, q9, hlt, by go_num, rfl, HD9, HK9, hmore⟩
                      case measure => simp [intOf]; omega
                    · obtain rfl : tz = k := by omega
                      have hq : q = F := by
                        have := HFx.out
                        simp only [RE] at this
                        rw [List.drop_of_length_le (by have := HM.out; omega), List.append_nil] at this
                        exact this
                      subst hq
                      clear HFx
                      go_wp2
                      go_ret
                      exact ⟨rfl, HDx.out, HKx.out⟩
end Fl
end Go.Proofs.YtohjpclpeiidfaaDoor
