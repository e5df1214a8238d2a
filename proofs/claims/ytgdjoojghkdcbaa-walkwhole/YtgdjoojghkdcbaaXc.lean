/- The document's Used, Count, Up. Conditions: few entries, little room taken. -/
import Derived.Test.YtgdjoojghkdcbaaXb
namespace Go.Proofs.Ytgdjoojghkdcbaa
open Go.RowKit Go.PlainAid
set_option linter.unusedSimpArgs false

/-- How much room is taken. -/
def usz : List Nr → Nat
  | [] => 0
  | n :: R => n.data.size + szs n.ents + usz R
def usedR (R : List Nr) : Int := usz (R.drop 1)
def RelUo (Z : List Zn) (T : Int) (n i : Value) : Prop := ∃ (k : Nat) (m : Int), 1 ≤ k ∧ k ≤ Z.length ∧ i = .int .i64 k ∧ n = .int .i64 m ∧ 0 ≤ m ∧ m + usz ((nrs Z).drop k) = T
def RelUi (l : List En) (T : Int) (n j : Value) : Prop := ∃ (q : Nat) (m : Int), q ≤ l.length ∧ j = .int .i64 q ∧ n = .int .i64 m ∧ 0 ≤ m ∧ m + szs (l.drop q) = T

set_option maxHeartbeats 2000000 in
set_option maxRecDepth 100000 in
theorem rused30 (P : Nat → Prop) (v : Value) (room : Int) (Z : List Zn) (w : World) (h : XAt P v Z w) (hz : 0 < Z.length) (hz2 : Z.length ≤ 100000) (hel : ∀ z ∈ Z, z.1.ents.length ≤ 100000) (ht : usedR (nrs Z) ≤ 1000000000000) :
    Calls Try.prog 42 #[xv v room] w fun e w' => e = .returned (.int .i64 (usedR (nrs Z))) ∧ Below w.heap.size w w' := by
  obtain ⟨g, c, rfl⟩ := h.shape hz
  have HB := Lib.hid ((Below.refl w.heap.size w).alloc (Nat.le_refl _) (.cells #[.slice (some ⟨g, 0, none⟩) Z.length c, .int .i64 room] 28))
  have HK := Lib.hid (h.below HB.out)
  have c00 : (w.alloc (.cells #[.slice (some ⟨g, 0, none⟩) Z.length c, .int .i64 room] 28)).cell? ⟨w.heap.size, 0, none⟩ = some (.slice (some ⟨g, 0, none⟩) Z.length c) := cells_at (heap_alloc_new w _) rfl
  have HE := Lib.hid hel
  have HSUM : Hid ((0 : Int) + usz ((nrs Z).drop 1) = usedR (nrs Z)) := by show _ = _; unfold usedR; omega
  generalize usedR (nrs Z) = T at HSUM ht
  clear h hel
  generalize hw' : w.alloc (.cells #[.slice (some ⟨g, 0, none⟩) Z.length c, .int .i64 room] 28) = wa at HB HK c00
  go_enter Try.func42, Try.ntmps42
  go_wp2
  clear hw'
  go_loop [3, 4] (RelUo Z T) (fun _ i => Z.length - (intOf i).toNat)
  case atStart => exact ⟨1, _, Nat.le_refl _, hz, rfl, rfl, by decide, HSUM.out⟩
  case round =>
    obtain ⟨k, m, hk1, hk, rfl, rfl, hm, hs⟩ := hrel
    by_cases hlt : k < Z.length
    · obtain ⟨z, hzz⟩ := get_some hlt
      have c3 := (HK.out.at hzz).c3
      have c4 := (HK.out.at hzz).c4
      have HR := Lib.hid (HK.out.ents z (List.mem_of_getElem? hzz))
      have hzl := HE.out z (List.mem_of_getElem? hzz)
      obtain ⟨ea, ec, hev⟩ := slice_shape HR.out
      rw [nrs_drop hzz] at hs
      obtain ⟨T1, hT1⟩ : ∃ T1 : Int, T1 = T - usz ((nrs Z).drop (k + 1)) := ⟨_, rfl⟩
      have hs2 : m + z.1.data.size + szs (z.1.ents.drop 0) = T1 := by rw [List.drop_zero, hT1]; simp only [usz] at hs; omega
      have HS2 := Lib.hid hs2
      have HT1 := Lib.hid hT1
      have hT1b : T1 ≤ 1000000000000 := by rw [hT1]; omega
      have hmb : m + z.1.data.size ≤ 1000000000000 := by omega
      rw [hev] at c4 HR
      clear hs hs2 hT1 hzz
      generalize z.1.ents = l at HR hzl HS2 c4
      go_wp2
      go_loop [3, 5] (RelUi l T1) (fun _ j => l.length - (intOf j).toNat)
      case atStart => exact ⟨0, m + z.1.data.size, Nat.zero_le _, rfl, rfl, by omega, HS2.out⟩
      case round =>
        obtain ⟨q, m2, hq, rfl, rfl, hm2, hs⟩ := hrel
        by_cases hql : q < l.length
        · obtain ⟨x, hx⟩ := get_some hql
          rcases HR.out.cases with ⟨_, rfl⟩ | ⟨ge, cap, cur, e2, _⟩
          · simp at hql
          cases e2
          have c0 := HR.out.cell0 hx
          rw [drop_get hx] at hs
          simp only [szs] at hs
          have HS := Lib.hid (show m2 + x.1.size + szs (l.drop (q + 1)) = T1 by omega)
          have hm3 : m2 + x.1.size ≤ 1000000000000 := by omega
          clear hs hx
          go_wp2
          go_round
          case rel => exact ⟨q + 1, m2 + x.1.size, hql, by go_num, by go_num, by omega, HS.out⟩
          case measure => simp [intOf]; omega
        · obtain rfl : q = l.length := by omega
          rw [drop_end] at hs
          have HS := Lib.hid (show m2 + usz ((nrs Z).drop (k + 1)) = T by have := HT1.out; simp only [szs] at hs; omega)
          clear hs
          go_wp2
          go_round
          case rel => exact ⟨k + 1, m2, by omega, hlt, by go_num, rfl, hm2, HS.out⟩
          case measure => simp [intOf]; omega
    · obtain rfl : k = Z.length := by omega
      have e : (nrs Z).drop Z.length = [] := by rw [← nrs_len Z]; exact drop_end _
      rw [e] at hs
      have HS := Lib.hid (show m = T by simp only [usz] at hs; omega)
      clear hs e
      go_wp2
      go_ret
      rw [HS.out]
      exact ⟨rfl, HB.out⟩

/-- How many nodes there are. -/
def cnr : List Nr → Nat
  | [] => 0
  | n :: R => (if (n.kind != 0) = true then 1 else 0) + cnr R
def countR (R : List Nr) : Int := cnr (R.drop 1)
def RelCo (wa : World) (Z : List Zn) (T : Int) (n i : Value) (wr : World) : Prop := ∃ (k : Nat) (m : Int), 1 ≤ k ∧ k ≤ Z.length ∧ i = .int .i64 k ∧ n = .int .i64 m ∧ 0 ≤ m ∧ m ≤ k ∧ m + cnr ((nrs Z).drop k) = T ∧ Below wa.heap.size wa wr

set_option maxHeartbeats 2000000 in
set_option maxRecDepth 100000 in
theorem rcount71 (P : Nat → Prop) (v : Value) (room : Int) (Z : List Zn) (w : World) (h : XAt P v Z w) (hz : 0 < Z.length) (hz2 : Z.length ≤ 100000) :
    Calls Try.prog 41 #[xv v room] w fun e w' => e = .returned (.int .i64 (countR (nrs Z))) ∧ Below w.heap.size w w' := by
  obtain ⟨g, c, rfl⟩ := h.shape hz
  have HB := Lib.hid ((Below.refl w.heap.size w).alloc (Nat.le_refl _) (.cells #[.slice (some ⟨g, 0, none⟩) Z.length c, .int .i64 room] 28))
  have HK := Lib.hid (h.below HB.out)
  have c00 : (w.alloc (.cells #[.slice (some ⟨g, 0, none⟩) Z.length c, .int .i64 room] 28)).cell? ⟨w.heap.size, 0, none⟩ = some (.slice (some ⟨g, 0, none⟩) Z.length c) := cells_at (heap_alloc_new w _) rfl
  have c01 : (w.alloc (.cells #[.slice (some ⟨g, 0, none⟩) Z.length c, .int .i64 room] 28)).cell? ⟨w.heap.size, 1, none⟩ = some (.int .i64 room) := cells_at (heap_alloc_new w _) rfl
  have HSUM : Hid ((0 : Int) + cnr ((nrs Z).drop 1) = countR (nrs Z)) := by show _ = _; unfold countR; omega
  generalize countR (nrs Z) = T at HSUM
  clear h
  generalize hw' : w.alloc (.cells #[.slice (some ⟨g, 0, none⟩) Z.length c, .int .i64 room] 28) = wa at HB HK c00 c01
  have C00 := Lib.hid c00
  have C01 := Lib.hid c01
  clear c00 c01
  go_enter Try.func41, Try.ntmps41
  go_wp2
  clear hw'
  go_loopw [3, 4] (RelCo wa Z T) (fun _ i _ => Z.length - (intOf i).toNat)
  case atStart => exact ⟨1, _, Nat.le_refl _, hz, rfl, rfl, by decide, by omega, HSUM.out, Below.refl _ _⟩
  case round =>
    obtain ⟨k, m, hk1, hk, rfl, rfl, hm, hmk, hs, hb⟩ := hrel
    have c00 := low_cell hb C00.out
    have c01 := low_cell hb C01.out
    have HBR := Lib.hid hb
    have HKR := Lib.hid (HK.out.below hb)
    clear hb
    by_cases hlt : k < Z.length
    · obtain ⟨z, hzz⟩ := get_some hlt
      have CH := has17 P _ room Z wr HKR.out hz k
      rw [hasR_at (nrs_get hzz) hk1] at CH
      rw [nrs_drop hzz] at hs
      simp only [cnr] at hs
      clear hzz
      cases hkd : (z.1.kind != 0)
      · rw [hkd] at CH hs
        replace CH := Lib.hid CH
        have HS := Lib.hid (show m + cnr ((nrs Z).drop (k + 1)) = T by simp at hs; omega)
        clear hs
        go_wp2_with fail
        refine CH.out.mono ?_
        rintro e w2 ⟨rfl, hb⟩
        have HB2 := Lib.hid (HBR.out.trans (hb.mono HBR.out.size))
        clear hb c00 c01
        go_wp2
        go_roundw
        case rel => exact ⟨k + 1, m, by omega, hlt, by go_num, rfl, hm, by omega, HS.out, HB2.out⟩
        case measure => simp [intOf]; omega
      · rw [hkd] at CH hs
        replace CH := Lib.hid CH
        have HS := Lib.hid (show m + 1 + cnr ((nrs Z).drop (k + 1)) = T by simp at hs; omega)
        clear hs
        go_wp2_with fail
        refine CH.out.mono ?_
        rintro e w2 ⟨rfl, hb⟩
        have HB2 := Lib.hid (HBR.out.trans (hb.mono HBR.out.size))
        clear hb c00 c01
        go_wp2
        go_roundw
        case rel => exact ⟨k + 1, m + 1, by omega, hlt, by go_num, by go_num, by omega, by omega, HS.out, HB2.out⟩
        case measure => simp [intOf]; omega
    · obtain rfl : k = Z.length := by omega
      have e : (nrs Z).drop Z.length = [] := by rw [← nrs_len Z]; exact drop_end _
      rw [e] at hs
      have HS := Lib.hid (show m = T by simp only [cnr] at hs; omega)
      clear hs e
      go_wp2
      go_ret
      rw [HS.out]
      exact ⟨rfl, HB.out.trans (HBR.out.mono HB.out.size)⟩

/-- The directory that has an entry for a node. -/
def upF (id : Int) : List Nr → Nat → Int
  | [], _ => 1
  | n :: R, i => if 0 < cE id n.ents then i else upF id R (i + 1)
def upR (R : List Nr) (id : Int) : Int := upF id (R.drop 1) 1
def RelPo (Z : List Zn) (id : Int) (T : Int) (i : Value) : Prop := ∃ k : Nat, 1 ≤ k ∧ k ≤ Z.length ∧ i = .int .i64 k ∧ upF id ((nrs Z).drop k) k = T
def RelPi (l : List En) (id : Int) (j : Value) : Prop := ∃ q : Nat, q ≤ l.length ∧ j = .int .i64 q ∧ cE id (l.drop q) = cE id l
theorem cE_hit {id : Int} {l : List En} {q : Nat} {x : En} (hx : l[q]? = some x) (h : x.2 = id) (hs : cE id (l.drop q) = cE id l) : 0 < cE id l := by
  rw [← hs, drop_get hx]; simp only [cE]; rw [if_pos h]; omega

set_option maxHeartbeats 2000000 in
set_option maxRecDepth 100000 in
theorem rup70 (P : Nat → Prop) (v : Value) (room : Int) (Z : List Zn) (w : World) (h : XAt P v Z w) (hz : 0 < Z.length) (hz2 : Z.length ≤ 100000) (hel : ∀ z ∈ Z, z.1.ents.length ≤ 100000) (id : Int) :
    Calls Try.prog 39 #[xv v room, .int .i64 id] w fun e w' => e = .returned (.int .i64 (upR (nrs Z) id)) ∧ Below w.heap.size w w' := by
  obtain ⟨g, c, rfl⟩ := h.shape hz
  have HB := Lib.hid ((Below.refl w.heap.size w).alloc (Nat.le_refl _) (.cells #[.slice (some ⟨g, 0, none⟩) Z.length c, .int .i64 room] 28))
  have HK := Lib.hid (h.below HB.out)
  have c00 : (w.alloc (.cells #[.slice (some ⟨g, 0, none⟩) Z.length c, .int .i64 room] 28)).cell? ⟨w.heap.size, 0, none⟩ = some (.slice (some ⟨g, 0, none⟩) Z.length c) := cells_at (heap_alloc_new w _) rfl
  have HE := Lib.hid hel
  have HSUM : Hid (upF id ((nrs Z).drop 1) 1 = upR (nrs Z) id) := rfl
  generalize upR (nrs Z) id = T at HSUM
  clear h hel
  generalize hw' : w.alloc (.cells #[.slice (some ⟨g, 0, none⟩) Z.length c, .int .i64 room] 28) = wa at HB HK c00
  go_enter Try.func39, Try.ntmps39
  go_wp2
  clear hw'
  go_loop [5] (RelPo Z id T) (fun i => Z.length - (intOf i).toNat)
  case atStart => exact ⟨1, Nat.le_refl _, hz, rfl, HSUM.out⟩
  case round =>
    obtain ⟨k, hk1, hk, rfl, hs⟩ := hrel
    by_cases hlt : k < Z.length
    · obtain ⟨z, hzz⟩ := get_some hlt
      have c4 := (HK.out.at hzz).c4
      have HR := Lib.hid (HK.out.ents z (List.mem_of_getElem? hzz))
      have hzl := HE.out z (List.mem_of_getElem? hzz)
      obtain ⟨ea, ec, hev⟩ := slice_shape HR.out
      rw [nrs_drop hzz] at hs
      simp only [upF] at hs
      have HS := Lib.hid hs
      rw [hev] at c4 HR
      clear hs hzz
      generalize z.1.ents = l at HR hzl HS c4
      go_wp2
      go_loop [6] (RelPi l id) (fun j => l.length - (intOf j).toNat)
      case atStart => exact ⟨0, Nat.zero_le _, rfl, by rw [List.drop_zero]⟩
      case round =>
        obtain ⟨q, hq, rfl, hs⟩ := hrel
        by_cases hql : q < l.length
        · obtain ⟨x, hx⟩ := get_some hql
          rcases HR.out.cases with ⟨_, rfl⟩ | ⟨ge, cap, cur, e2, _⟩
          · simp at hql
          cases e2
          have c1 := HR.out.cell1 hx
          cases hxe : (x.2 == id)
          · have hne : x.2 ≠ id := by simpa using hxe
            rw [drop_get hx] at hs
            simp only [cE] at hs
            rw [if_neg hne] at hs
            have HS2 := Lib.hid (show cE id (l.drop (q + 1)) = cE id l by omega)
            clear hs hx hne
            go_wp2
            go_round
            case rel => exact ⟨q + 1, hql, by go_num, HS2.out⟩
            case measure => simp [intOf]; omega
          · have heq : x.2 = id := by simpa using hxe
            have hpos := cE_hit hx heq hs
            have HT : Hid (T = k) := by show _ = _; rw [← HS.out, if_pos hpos]
            clear hs hx heq hpos
            go_wp2
            go_ret
            rw [HT.out]
            exact ⟨rfl, HB.out⟩
        · obtain rfl : q = l.length := by omega
          rw [drop_end] at hs
          have HS2 : Hid (upF id ((nrs Z).drop (k + 1)) (k + 1) = T) := by show _ = _; rw [← HS.out, if_neg (by rw [← hs]; simp [cE])]
          clear hs
          go_wp2
          go_round
          case rel => exact ⟨k + 1, by omega, hlt, by go_num, HS2.out⟩
          case measure => simp [intOf]; omega
    · obtain rfl : k = Z.length := by omega
      have e : (nrs Z).drop Z.length = [] := by rw [← nrs_len Z]; exact drop_end _
      rw [e] at hs
      have HT : Hid (T = 1) := by show _ = _; rw [← hs]; rfl
      clear hs e
      go_wp2
      go_ret
      rw [HT.out]
      exact ⟨rfl, HB.out⟩
end Go.Proofs.Ytgdjoojghkdcbaa
