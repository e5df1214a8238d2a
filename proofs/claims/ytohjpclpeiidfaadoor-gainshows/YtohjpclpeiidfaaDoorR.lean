/- Contract of how digits are told with three behind the point. -/
import Derived.Test.YtohjpclpeiidfaaDoorO
namespace Go.Proofs.YtohjpclpeiidfaaDoor
open Go.RowKit Go.PlainAid
set_option linter.unusedSimpArgs false
set_option linter.unusedVariables false
namespace Fl

/-- A slice of bytes of the call's own, with room for 24, at a block's head. -/
def Dst (M : Nat) (l : List UInt8) (w : World) : Prop := w.ownsRow M 5 1 (.slice (some ⟨M, 0, none⟩) l.length 24) l.length (bc l)
abbrev Kp (M : Nat) (w w' : World) : Prop := w.grownBy w' (some M)
theorem kp_refl (M : Nat) (w : World) : Kp M w w := ⟨rfl, rfl, rfl, Nat.le_refl _, fun _ _ _ => rfl⟩
theorem kp_trans {M : Nat} {a b c : World} (h : Kp M a b) (h' : Kp M b c) : Kp M a c :=
  ⟨h'.os.trans h.os, h'.tape.trans h.tape, h'.output.trans h.output, Nat.le_trans h.size h'.size, fun k hk hn => (h'.block k (Nat.lt_of_lt_of_le hk h.size) hn).trans (h.block k hk hn)⟩
theorem kp_below {M B : Nat} {a b : World} (h : Kp M a b) (hB : B ≤ M) (hs : B ≤ a.heap.size) : Below B a b :=
  ⟨h.os, h.tape, h.output, h.size, fun k hk => h.block k (by omega) (fun e => by cases e; omega)⟩
theorem kp_of_alloc {M : Nat} {w w' : World} {o : Obj} (h : (w.alloc o).grownBy w' (some M)) : Kp M w w' := by
  refine ⟨h.os, h.tape, h.output, ?_, fun k hk hn => ?_⟩
  · have := h.size; simp at this; omega
  · rw [h.block k (by simp; omega) hn]
    exact (alloc_bel w _).block k hk
theorem kp_cell {M D : Nat} {a b : World} (h : Kp M a b) (hD : D ≠ M) {j : Nat} {v : Value} (hc : a.cell? ⟨D, j, none⟩ = some v) : b.cell? ⟨D, j, none⟩ = some v := by
  have hlt := World.block_lt_of_cell? _ _ hc
  have e := h.block D hlt (fun e => by cases e; exact hD rfl)
  unfold World.cell? at hc ⊢
  rw [e]; exact hc
theorem Dst.push {M : Nat} {l : List UInt8} {b : UInt8} {w w' : World} (h : Dst M l w)
    (hown : w'.ownsRow M 5 1 (.slice (some ⟨M, 0, none⟩) (l.length + 1) 24) (l.length + 1) (bc l ++ [.int .u8 (b.toNat : Int)])) : Dst M (l ++ [b]) w' := by
  unfold Dst
  rw [List.length_append, bc_app]
  exact hown
theorem Dst.lt {M : Nat} {l : List UInt8} {w : World} (h : Dst M l w) : M < w.heap.size := by
  exact (World.ownsRow.lt h M rfl).2
theorem new_b (w : World) (X : Int) : ∀ j u, [Value.int .u8 X][j]? = some u → (w.alloc (.cells #[.int .u8 X] 5)).cell? ((⟨w.heap.size, 0, none⟩ : Addr).add j) = some u := by
  intro j u hj
  match j, hj with
  | 0, hj => simp at hj; subst hj; simp [Addr.add]
theorem one_b (X : Int) : ∀ u ∈ [Value.int .u8 X], u.oneCell' = true := by intro u hu; simp at hu; subst hu; rfl
/-- The digits with a point ahead of the last three. -/
def fin (ds : List UInt8) : List UInt8 := if 3 < ds.length then ds.take (ds.length - 3) ++ [46] ++ ds.drop (ds.length - 3) else [48, 46] ++ List.replicate (3 - ds.length) 48 ++ ds
def sgn (neg : Bool) : List UInt8 := if neg then [45] else []
def GivesF (M : Nat) (F : List UInt8) (w : World) (e : Ending) (w' : World) : Prop := e = .returned (.slice (some ⟨M, 0, none⟩) F.length 24) ∧ Dst M F w' ∧ Kp M w w'

def RelF (M K : Nat) (R : Nat → List UInt8) (F : List UInt8) (w : World) (v i : Value) (wx : World) : Prop := ∃ (k : Nat) (q : List UInt8), k ≤ K ∧ i = .int .i64 k ∧ v = .slice (some ⟨M, 0, none⟩) q.length 24 ∧ Hid (Dst M q wx) ∧ Hid (Kp M w wx) ∧ Hid (q ++ R k = F)
theorem more {q r F : List UInt8} {b : UInt8} (h : q ++ b :: r = F) : (q ++ [b]) ++ r = F := by rw [← h]; simp
theorem room {q r F : List UInt8} {b : UInt8} (h : q ++ b :: r = F) : q.length + 1 ≤ F.length := by rw [← h]; simp
theorem rep_step (n k : Nat) (ds : List UInt8) (h : k < n) : List.replicate (n - k) 48 ++ ds = 48 :: (List.replicate (n - (k + 1)) 48 ++ ds) := by
  rw [show n - k = (n - (k + 1)) + 1 by omega, List.replicate_succ]; rfl
theorem drop_step (ds : List UInt8) (j : Nat) (h : j < ds.length) : ds.drop j = ds[j] :: ds.drop (j + 1) := List.drop_eq_getElem_cons h
def RC (lz : Nat) (ds : List UInt8) (k : Nat) : List UInt8 := List.replicate (lz - k) 48 ++ ds
def RD (ds : List UInt8) (k : Nat) : List UInt8 := ds.drop k
def RE (ds : List UInt8) (z k : Nat) : List UInt8 := ds.drop (z + k)

set_option maxHeartbeats 8000000 in
set_option maxRecDepth 100000 in
theorem efg38_small (M D z : Nat) (l ds : List UInt8) (neg : Bool) (sv : Value) (w : World) (hd : Dst M l w) (hl0 : l.length = 0) (hDM : D ≠ M) (hn : ds.length ≤ 3) (hz : z ≤ ds.length) (h48 : ∀ j (h : j < ds.length), z ≤ j → ds[j] = 48)
    (hs : z = 0 ∨ sv = .slice (some ⟨D, 0, none⟩) 24 24) (hb : ∀ j (h : j < ds.length), j < z → w.cell? ⟨D, j, none⟩ = some (.int .u8 (ds[j].toNat : Int))) :
    Calls Tryd.prog 38 #[.slice (some ⟨M, 0, none⟩) l.length 24, .bool neg, sv, .int .i64 ((ds.length : Int) + -3), .int .i64 z, .int .i64 3, .int .u8 102, .bool false] w (GivesF M (l ++ sgn neg ++ fin ds) w) := by
  obtain ⟨i0, hi0, hz0, hz1, hz2⟩ := info_parts Tryd.info5
  have HD := Lib.hid hd
  have HK := Lib.hid (kp_refl M w)
  obtain ⟨p, hp⟩ : ∃ p, (ds.length : Int) + -3 = p := ⟨_, rfl⟩
  rw [hp]
  have d0 : ¬ (0 : Int) < p := by omega
  have d1 : p ≤ 0 := by omega
  have d2 : -3 ≤ p := by omega
  have HP := Lib.hid hp
  obtain ⟨F, hF⟩ : ∃ F, l ++ sgn neg ++ fin ds = F := ⟨_, rfl⟩
  have HF : Hid (l ++ sgn neg ++ ([48, 46] ++ List.replicate (3 - ds.length) 48 ++ ds) = F) := Lib.hid (by rw [← hF]; unfold fin; rw [if_neg (by omega)])
  have hFl : F.length ≤ 10 := by rw [← HF.out]; cases neg <;> simp [sgn] <;> omega
  rw [hF]
  have HL0 : Hid (l.length = 0) := Lib.hid hl0
  clear hl0
  have HH := Lib.hid h48
  have HBx := Lib.hid hb
  have HS := Lib.hid hs
  clear hp hF h48 hb hs
  obtain ⟨lz, hlz⟩ : ∃ lz, 3 - ds.length = lz := ⟨_, rfl⟩
  obtain ⟨tz, htz⟩ : ∃ tz, ds.length - z = tz := ⟨_, rfl⟩
  have HLZ := Lib.hid hlz
  have f1 : max 0 (-p) = (lz : Int) := by have := HP.out; omega
  have f2 : min 3 (lz : Int) = lz := by omega
  have f3 : p + (lz : Int) = 0 := by have := HP.out; omega
  have f4 : (3 : Int) - lz = ds.length := by omega
  have f5 : max 0 (z : Int) = z := by omega
  have f6 : min (ds.length : Int) z = z := by omega
  have f7 : (ds.length : Int) - z = tz := by omega
  have f8 : max 0 (tz : Int) = tz := by omega
  cases neg
  · go_enter Tryd.func38, Tryd.ntmps38
    go_wp2_with (at_builtin; refine wpList_append_fits _ rfl _ _ 36 rfl M 5 i0 1 Tryd.underlying36 hi0 hz1 M l.length 24 (bc l) rfl (World.ownsRow.alloc HD.out _) ⟨w.heap.size, 0, none⟩ 1 1 [.int .u8 (48)] rfl rfl (new_b w _) (one_b _) (by have := HL0.out; omega) ?_)
    intro w1 hown hg
    have HD1 := Lib.hid (Dst.push (b := 48) HD.out hown)
    have HK1 := Lib.hid (kp_trans HK.out (kp_of_alloc hg))
    clear hown hg
    obtain ⟨q1, hq1⟩ : ∃ q, l ++ [48] = q := ⟨_, rfl⟩
    have hl1 : l.length + 1 = q1.length := by rw [← hq1]; simp
    rw [hq1] at HD1
    rw [hl1]
    go_wp2_with (at_builtin; refine wpList_append_fits _ rfl _ _ 36 rfl M 5 i0 1 Tryd.underlying36 hi0 hz1 M q1.length 24 (bc q1) rfl (World.ownsRow.alloc HD1.out _) ⟨w1.heap.size, 0, none⟩ 1 1 [.int .u8 (46)] rfl rfl (new_b w1 _) (one_b _) (by have := HL0.out; have := hl1; omega) ?_)
    intro w2 hown hg
    have HD2 := Lib.hid (Dst.push (b := 46) HD1.out hown)
    have HK2 := Lib.hid (kp_trans HK1.out (kp_of_alloc hg))
    clear hown hg
    obtain ⟨q2, hq2⟩ : ∃ q, q1 ++ [46] = q := ⟨_, rfl⟩
    have hl2 : q1.length + 1 = q2.length := by rw [← hq2]; simp
    rw [hq2] at HD2
    rw [hl2]
    have HS0 : Hid (q2 ++ RC lz ds 0 = F) := Lib.hid (by rw [← HF.out, ← hq2, ← hq1]; simp [sgn, RC, HLZ.out])
    clear HF
    go_wp2_with fail
    go_loopw [0, 240] (RelF M lz (RC lz ds) F w) (fun _ i _ => lz - (intOf i).toNat)
    case atStart => exact ⟨0, q2, Nat.zero_le _, rfl, rfl, HD2, HK2, HS0⟩
    case round =>
      obtain ⟨k, q, hk, rfl, rfl, HDx, HKx, HFx⟩ := hrel
      rename World => wx
      by_cases hlt : k < lz
      · have hstep := HFx.out
        simp only [RC] at hstep
        rw [rep_step lz k ds hlt] at hstep
        have hroom := room hstep
        have hmore := Lib.hid (more hstep)
        clear hstep
        go_wp2_with (at_builtin; refine wpList_append_fits _ rfl _ _ 36 rfl M 5 i0 1 Tryd.underlying36 hi0 hz1 M q.length 24 (bc q) rfl (World.ownsRow.alloc HDx.out _) ⟨wx.heap.size, 0, none⟩ 1 1 [.int .u8 (48)] rfl rfl (new_b wx _) (one_b _) (by omega) ?_)
        intro w9 hown hg
        have HD9 := Lib.hid (Dst.push (b := 48) HDx.out hown)
        have HK9 := Lib.hid (kp_trans HKx.out (kp_of_alloc hg))
        clear hown hg
        obtain ⟨q9, hq9⟩ : ∃ q', q ++ [48] = q' := ⟨_, rfl⟩
        have hl9 : q.length + 1 = q9.length := by rw [← hq9]; simp
        rw [hq9] at HD9 hmore
        rw [hl9]
        clear hq9
        go_wp2_with fail
        go_roundw
        case rel => exact ⟨k + 1, q9, hlt, by go_num, rfl, HD9, HK9, hmore⟩
        case measure => simp [intOf]; omega
      · obtain rfl : lz = k := by omega
        have HD0 : Hid (q ++ RD ds 0 = F) := Lib.hid (by have := HFx.out; simp only [RC, Nat.sub_self, List.replicate_zero, List.nil_append] at this; simp only [RD, List.drop_zero]; exact this)
        go_wp2_with fail
        go_loopw [0, 247] (RelF M z (RD ds) F w) (fun _ i _ => z - (intOf i).toNat)
        case atStart => exact ⟨0, q, Nat.zero_le _, rfl, rfl, HDx, HKx, HD0⟩
        case round =>
          obtain ⟨k, q, hk, rfl, rfl, HDx, HKx, HFx⟩ := hrel
          rename World => wx
          by_cases hlt : k < z
          · rcases HS.out with h0 | h0
            · omega
            subst h0
            have hkn : k < ds.length := by omega
            have c1 : wx.cell? _ = _ := kp_cell HKx.out hDM (HBx.out k hkn hlt)
            have hstep := HFx.out
            simp only [RD] at hstep
            rw [drop_step ds k (by omega)] at hstep
            have hroom := room hstep
            have hmore := Lib.hid (more hstep)
            clear hstep
            go_wp2_with (at_builtin; refine wpList_append_fits _ rfl _ _ 36 rfl M 5 i0 1 Tryd.underlying36 hi0 hz1 M q.length 24 (bc q) rfl (World.ownsRow.alloc HDx.out _) ⟨wx.heap.size, 0, none⟩ 1 1 [.int .u8 ((ds[k].toNat : Int))] rfl rfl (new_b wx _) (one_b _) (by omega) ?_)
            intro w9 hown hg
            have HD9 := Lib.hid (Dst.push (b := ds[k]) HDx.out hown)
            have HK9 := Lib.hid (kp_trans HKx.out (kp_of_alloc hg))
            clear hown hg
            obtain ⟨q9, hq9⟩ : ∃ q', q ++ [ds[k]] = q' := ⟨_, rfl⟩
            have hl9 : q.length + 1 = q9.length := by rw [← hq9]; simp
            rw [hq9] at HD9 hmore
            rw [hl9]
            clear hq9
            go_wp2_with fail
            go_roundw
            case rel => exact ⟨k + 1, q9, hlt, by go_num, rfl, HD9, HK9, hmore⟩
            case measure => simp [intOf]; omega
          · obtain rfl : z = k := by omega
            have HE0 : Hid (q ++ RE ds z 0 = F) := Lib.hid (by have := HFx.out; simp only [RD] at this; simp only [RE, Nat.add_zero]; exact this)
            go_wp2_with fail
            go_loopw [0, 261] (RelF M tz (RE ds z) F w) (fun _ i _ => tz - (intOf i).toNat)
            case atStart => exact ⟨0, q, Nat.zero_le _, rfl, rfl, HDx, HKx, HE0⟩
            case round =>
              obtain ⟨k, q, hk, rfl, rfl, HDx, HKx, HFx⟩ := hrel
              rename World => wx
              by_cases hlt : k < tz
              · have hstep := HFx.out
                simp only [RE] at hstep
                rw [drop_step ds (z + k) (by omega), HH.out (z + k) (by omega) (by omega)] at hstep
                have hroom := room hstep
                have hmore := Lib.hid (more hstep)
                clear hstep
                go_wp2_with (at_builtin; refine wpList_append_fits _ rfl _ _ 36 rfl M 5 i0 1 Tryd.underlying36 hi0 hz1 M q.length 24 (bc q) rfl (World.ownsRow.alloc HDx.out _) ⟨wx.heap.size, 0, none⟩ 1 1 [.int .u8 (48)] rfl rfl (new_b wx _) (one_b _) (by omega) ?_)
                intro w9 hown hg
                have HD9 := Lib.hid (Dst.push (b := 48) HDx.out hown)
                have HK9 := Lib.hid (kp_trans HKx.out (kp_of_alloc hg))
                clear hown hg
                obtain ⟨q9, hq9⟩ : ∃ q', q ++ [48] = q' := ⟨_, rfl⟩
                have hl9 : q.length + 1 = q9.length := by rw [← hq9]; simp
                rw [hq9] at HD9 hmore
                rw [hl9]
                clear hq9
                go_wp2_with fail
                go_roundw
                case rel => exact ⟨k + 1, q9, hlt, by go_num, rfl, HD9, HK9, hmore⟩
                case measure => simp [intOf]; omega
              · obtain rfl : tz = k := by omega
                have hq : q = F := by
                  have := HFx.out
                  simp only [RE] at this
                  rw [List.drop_of_length_le (by omega), List.append_nil] at this
                  exact this
                subst hq
                clear HFx
                go_wp2
                go_ret
                exact ⟨rfl, HDx.out, HKx.out⟩
  · go_enter Tryd.func38, Tryd.ntmps38
    go_wp2_with (at_builtin; refine wpList_append_fits _ rfl _ _ 36 rfl M 5 i0 1 Tryd.underlying36 hi0 hz1 M l.length 24 (bc l) rfl (World.ownsRow.alloc HD.out _) ⟨w.heap.size, 0, none⟩ 1 1 [.int .u8 (45)] rfl rfl (new_b w _) (one_b _) (by have := HL0.out; omega) ?_)
    intro w1 hown hg
    have HD1 := Lib.hid (Dst.push (b := 45) HD.out hown)
    have HK1 := Lib.hid (kp_trans HK.out (kp_of_alloc hg))
    clear hown hg
    obtain ⟨q1, hq1⟩ : ∃ q, l ++ [45] = q := ⟨_, rfl⟩
    have hl1 : l.length + 1 = q1.length := by rw [← hq1]; simp
    rw [hq1] at HD1
    rw [hl1]
    go_wp2_with (at_builtin; refine wpList_append_fits _ rfl _ _ 36 rfl M 5 i0 1 Tryd.underlying36 hi0 hz1 M q1.length 24 (bc q1) rfl (World.ownsRow.alloc HD1.out _) ⟨w1.heap.size, 0, none⟩ 1 1 [.int .u8 (48)] rfl rfl (new_b w1 _) (one_b _) (by have := HL0.out; have := hl1; omega) ?_)
    intro w2 hown hg
    have HD2 := Lib.hid (Dst.push (b := 48) HD1.out hown)
    have HK2 := Lib.hid (kp_trans HK1.out (kp_of_alloc hg))
    clear hown hg
    obtain ⟨q2, hq2⟩ : ∃ q, q1 ++ [48] = q := ⟨_, rfl⟩
    have hl2 : q1.length + 1 = q2.length := by rw [← hq2]; simp
    rw [hq2] at HD2
    rw [hl2]
    go_wp2_with (at_builtin; refine wpList_append_fits _ rfl _ _ 36 rfl M 5 i0 1 Tryd.underlying36 hi0 hz1 M q2.length 24 (bc q2) rfl (World.ownsRow.alloc HD2.out _) ⟨w2.heap.size, 0, none⟩ 1 1 [.int .u8 (46)] rfl rfl (new_b w2 _) (one_b _) (by have := HL0.out; have := hl1; have := hl2; omega) ?_)
    intro w3 hown hg
    have HD3 := Lib.hid (Dst.push (b := 46) HD2.out hown)
    have HK3 := Lib.hid (kp_trans HK2.out (kp_of_alloc hg))
    clear hown hg
    obtain ⟨q3, hq3⟩ : ∃ q, q2 ++ [46] = q := ⟨_, rfl⟩
    have hl3 : q2.length + 1 = q3.length := by rw [← hq3]; simp
    rw [hq3] at HD3
    rw [hl3]
    have HS0 : Hid (q3 ++ RC lz ds 0 = F) := Lib.hid (by rw [← HF.out, ← hq3, ← hq2, ← hq1]; simp [sgn, RC, HLZ.out])
    clear HF
    go_wp2_with fail
    go_loopw [0, 240] (RelF M lz (RC lz ds) F w) (fun _ i _ => lz - (intOf i).toNat)
    case atStart => exact ⟨0, q3, Nat.zero_le _, rfl, rfl, HD3, HK3, HS0⟩
    case round =>
      obtain ⟨k, q, hk, rfl, rfl, HDx, HKx, HFx⟩ := hrel
      rename World => wx
      by_cases hlt : k < lz
      · have hstep := HFx.out
        simp only [RC] at hstep
        rw [rep_step lz k ds hlt] at hstep
        have hroom := room hstep
        have hmore := Lib.hid (more hstep)
        clear hstep
        go_wp2_with (at_builtin; refine wpList_append_fits _ rfl _ _ 36 rfl M 5 i0 1 Tryd.underlying36 hi0 hz1 M q.length 24 (bc q) rfl (World.ownsRow.alloc HDx.out _) ⟨wx.heap.size, 0, none⟩ 1 1 [.int .u8 (48)] rfl rfl (new_b wx _) (one_b _) (by omega) ?_)
        intro w9 hown hg
        have HD9 := Lib.hid (Dst.push (b := 48) HDx.out hown)
        have HK9 := Lib.hid (kp_trans HKx.out (kp_of_alloc hg))
        clear hown hg
        obtain ⟨q9, hq9⟩ : ∃ q', q ++ [48] = q' := ⟨_, rfl⟩
        have hl9 : q.length + 1 = q9.length := by rw [← hq9]; simp
        rw [hq9] at HD9 hmore
        rw [hl9]
        clear hq9
        go_wp2_with fail
        go_roundw
        case rel => exact ⟨k + 1, q9, hlt, by go_num, rfl, HD9, HK9, hmore⟩
        case measure => simp [intOf]; omega
      · obtain rfl : lz = k := by omega
        have HD0 : Hid (q ++ RD ds 0 = F) := Lib.hid (by have := HFx.out; simp only [RC, Nat.sub_self, List.replicate_zero, List.nil_append] at this; simp only [RD, List.drop_zero]; exact this)
        go_wp2_with fail
        go_loopw [0, 247] (RelF M z (RD ds) F w) (fun _ i _ => z - (intOf i).toNat)
        case atStart => exact ⟨0, q, Nat.zero_le _, rfl, rfl, HDx, HKx, HD0⟩
        case round =>
          obtain ⟨k, q, hk, rfl, rfl, HDx, HKx, HFx⟩ := hrel
          rename World => wx
          by_cases hlt : k < z
          · rcases HS.out with h0 | h0
            · omega
            subst h0
            have hkn : k < ds.length := by omega
            have c1 : wx.cell? _ = _ := kp_cell HKx.out hDM (HBx.out k hkn hlt)
            have hstep := HFx.out
            simp only [RD] at hstep
            rw [drop_step ds k (by omega)] at hstep
            have hroom := room hstep
            have hmore := Lib.hid (more hstep)
            clear hstep
            go_wp2_with (at_builtin; refine wpList_append_fits _ rfl _ _ 36 rfl M 5 i0 1 Tryd.underlying36 hi0 hz1 M q.length 24 (bc q) rfl (World.ownsRow.alloc HDx.out _) ⟨wx.heap.size, 0, none⟩ 1 1 [.int .u8 ((ds[k].toNat : Int))] rfl rfl (new_b wx _) (one_b _) (by omega) ?_)
            intro w9 hown hg
            have HD9 := Lib.hid (Dst.push (b := ds[k]) HDx.out hown)
            have HK9 := Lib.hid (kp_trans HKx.out (kp_of_alloc hg))
            clear hown hg
            obtain ⟨q9, hq9⟩ : ∃ q', q ++ [ds[k]] = q' := ⟨_, rfl⟩
            have hl9 : q.length + 1 = q9.length := by rw [← hq9]; simp
            rw [hq9] at HD9 hmore
            rw [hl9]
            clear hq9
            go_wp2_with fail
            go_roundw
            case rel => exact ⟨k + 1, q9, hlt, by go_num, rfl, HD9, HK9, hmore⟩
            case measure => simp [intOf]; omega
          · obtain rfl : z = k := by omega
            have HE0 : Hid (q ++ RE ds z 0 = F) := Lib.hid (by have := HFx.out; simp only [RD] at this; simp only [RE, Nat.add_zero]; exact this)
            go_wp2_with fail
            go_loopw [0, 261] (RelF M tz (RE ds z) F w) (fun _ i _ => tz - (intOf i).toNat)
            case atStart => exact ⟨0, q, Nat.zero_le _, rfl, rfl, HDx, HKx, HE0⟩
            case round =>
              obtain ⟨k, q, hk, rfl, rfl, HDx, HKx, HFx⟩ := hrel
              rename World => wx
              by_cases hlt : k < tz
              · have hstep := HFx.out
                simp only [RE] at hstep
                rw [drop_step ds (z + k) (by omega), HH.out (z + k) (by omega) (by omega)] at hstep
                have hroom := room hstep
                have hmore := Lib.hid (more hstep)
                clear hstep
                go_wp2_with (at_builtin; refine wpList_append_fits _ rfl _ _ 36 rfl M 5 i0 1 Tryd.underlying36 hi0 hz1 M q.length 24 (bc q) rfl (World.ownsRow.alloc HDx.out _) ⟨wx.heap.size, 0, none⟩ 1 1 [.int .u8 (48)] rfl rfl (new_b wx _) (one_b _) (by omega) ?_)
                intro w9 hown hg
                have HD9 := Lib.hid (Dst.push (b := 48) HDx.out hown)
                have HK9 := Lib.hid (kp_trans HKx.out (kp_of_alloc hg))
                clear hown hg
                obtain ⟨q9, hq9⟩ : ∃ q', q ++ [48] = q' := ⟨_, rfl⟩
                have hl9 : q.length + 1 = q9.length := by rw [← hq9]; simp
                rw [hq9] at HD9 hmore
                rw [hl9]
                clear hq9
                go_wp2_with fail
                go_roundw
                case rel => exact ⟨k + 1, q9, hlt, by go_num, rfl, HD9, HK9, hmore⟩
                case measure => simp [intOf]; omega
              · obtain rfl : tz = k := by omega
                have hq : q = F := by
                  have := HFx.out
                  simp only [RE] at this
                  rw [List.drop_of_length_le (by omega), List.append_nil] at this
                  exact this
                subst hq
                clear HFx
                go_wp2
                go_ret
                exact ⟨rfl, HDx.out, HKx.out⟩
end Fl
end Go.Proofs.YtohjpclpeiidfaaDoor
