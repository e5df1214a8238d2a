/- The document's Links. Conditions: few entries. -/
import Derived.Test.YtgdjoojghkdcbaaXa
namespace Go.Proofs.Ytgdjoojghkdcbaa
open Go.RowKit Go.PlainAid
set_option linter.unusedSimpArgs false

/-- How many entries name a node. -/
def cE (id : Int) : List En → Nat
  | [] => 0
  | e :: l => (if e.2 = id then 1 else 0) + cE id l
def lk (id : Int) : List Nr → Nat
  | [] => 0
  | n :: R => cE id n.ents + lk id R
def linksR (R : List Nr) (id : Int) : Int := (if id = 1 then 1 else 0) + lk id (R.drop 1)

def RelLo (Z : List Zn) (id : Int) (T : Int) (n i : Value) : Prop := ∃ (k : Nat) (m : Int), 1 ≤ k ∧ k ≤ Z.length ∧ i = .int .i64 k ∧ n = .int .i64 m ∧ 0 ≤ m ∧ m + lk id ((nrs Z).drop k) = T
def RelLi (l : List En) (id : Int) (T : Int) (n j : Value) : Prop := ∃ (q : Nat) (m : Int), q ≤ l.length ∧ j = .int .i64 q ∧ n = .int .i64 m ∧ 0 ≤ m ∧ m + cE id (l.drop q) = T
theorem nrs_drop {Z : List Zn} {k : Nat} {z : Zn} (h : Z[k]? = some z) : (nrs Z).drop k = z.1 :: (nrs Z).drop (k + 1) := drop_get (nrs_get h)
theorem nrs_len (Z : List Zn) : (nrs Z).length = Z.length := by simp
theorem drop_end {α : Type} (l : List α) : l.drop l.length = [] := by simp

set_option maxHeartbeats 2000000 in
set_option maxRecDepth 100000 in
theorem links67 (P : Nat → Prop) (v : Value) (room : Int) (Z : List Zn) (w : World) (h : XAt P v Z w) (hz : 0 < Z.length) (hz2 : Z.length ≤ 100000) (hel : ∀ z ∈ Z, z.1.ents.length ≤ 100000) (id : Int) (ht : linksR (nrs Z) id ≤ 1000000000) :
    Calls Try.prog 45 #[xv v room, .int .i64 id] w fun e w' => e = .returned (.int .i64 (linksR (nrs Z) id)) ∧ Below w.heap.size w w' := by
  obtain ⟨g, c, rfl⟩ := h.shape hz
  have HB := Lib.hid ((Below.refl w.heap.size w).alloc (Nat.le_refl _) (.cells #[.slice (some ⟨g, 0, none⟩) Z.length c, .int .i64 room] 28))
  have HK := Lib.hid (h.below HB.out)
  have c00 : (w.alloc (.cells #[.slice (some ⟨g, 0, none⟩) Z.length c, .int .i64 room] 28)).cell? ⟨w.heap.size, 0, none⟩ = some (.slice (some ⟨g, 0, none⟩) Z.length c) := cells_at (heap_alloc_new w _) rfl
  have HE := Lib.hid hel
  have HT : Hid (∃ m : Int, 0 ≤ m ∧ ((id = 1 ∧ m = 1) ∨ (id ≠ 1 ∧ m = 0)) ∧ m + lk id ((nrs Z).drop 1) = linksR (nrs Z) id) := by
    show ∃ m : Int, _
    unfold linksR
    by_cases e : id = 1
    · exact ⟨1, by decide, .inl ⟨e, rfl⟩, by rw [if_pos e]⟩
    · exact ⟨0, by decide, .inr ⟨e, rfl⟩, by rw [if_neg e]⟩
  generalize linksR (nrs Z) id = T at HT ht
  clear h hel
  obtain ⟨m0, hm0, hcase, hsum⟩ := HT.out
  have HSUM := Lib.hid hsum
  clear hsum HT
  have hcase2 : (id == 1) = true ∧ m0 = 1 ∨ (id == 1) = false ∧ m0 = 0 := by
    rcases hcase with ⟨e, e'⟩ | ⟨e, e'⟩
    · exact .inl ⟨by simpa using e, e'⟩
    · exact .inr ⟨by simpa using e, e'⟩
  clear hcase
  generalize hw' : w.alloc (.cells #[.slice (some ⟨g, 0, none⟩) Z.length c, .int .i64 room] 28) = wa at HB HK c00
  rcases hcase2 with ⟨he, rfl⟩ | ⟨he, rfl⟩ <;>
  · go_enter Try.func45, Try.ntmps45
    go_wp2
    clear hw'
    go_loop [5, 6] (RelLo Z id T) (fun _ i => Z.length - (intOf i).toNat)
    case atStart => exact ⟨1, _, Nat.le_refl _, hz, rfl, rfl, hm0, HSUM.out⟩
    case round =>
      obtain ⟨k, m, hk1, hk, rfl, rfl, hm, hs⟩ := hrel
      by_cases hlt : k < Z.length
      · obtain ⟨z, hzz⟩ := get_some hlt
        have c4 := (HK.out.at hzz).c4
        have HR := Lib.hid (HK.out.ents z (List.mem_of_getElem? hzz))
        have hzl := HE.out z (List.mem_of_getElem? hzz)
        obtain ⟨ea, ec, hev⟩ := slice_shape HR.out
        rw [nrs_drop hzz] at hs
        obtain ⟨T1, hT1⟩ : ∃ T1 : Int, T1 = T - lk id ((nrs Z).drop (k + 1)) := ⟨_, rfl⟩
        have hs2 : m + cE id (z.1.ents.drop 0) = T1 := by rw [List.drop_zero, hT1]; simp only [lk] at hs; omega
        have HS2 := Lib.hid hs2
        have HT1 := Lib.hid hT1
        have hT1b : T1 ≤ 1000000000 := by rw [hT1]; omega
        rw [hev] at c4 HR
        clear hs hs2 hT1 hzz
        generalize z.1.ents = l at HR hzl HS2 c4
        go_wp2
        go_loop [5, 7] (RelLi l id T1) (fun _ j => l.length - (intOf j).toNat)
        case atStart => exact ⟨0, m, Nat.zero_le _, rfl, rfl, hm, HS2.out⟩
        case round =>
          obtain ⟨q, m2, hq, rfl, rfl, hm2, hs⟩ := hrel
          by_cases hql : q < l.length
          · obtain ⟨x, hx⟩ := get_some hql
            rcases HR.out.cases with ⟨_, rfl⟩ | ⟨ge, cap, cur, e2, _⟩
            · simp at hql
            cases e2
            have c1 := HR.out.cell1 hx
            rw [drop_get hx] at hs
            simp only [cE] at hs
            cases hxe : (x.2 == id)
            · have hne : x.2 ≠ id := by simpa using hxe
              rw [if_neg hne] at hs
              have HS := Lib.hid (show m2 + cE id (l.drop (q + 1)) = T1 by omega)
              clear hs hx hne
              go_wp2
              go_round
              case rel => exact ⟨q + 1, m2, hql, by go_num, rfl, hm2, HS.out⟩
              case measure => simp [intOf]; omega
            · have heq : x.2 = id := by simpa using hxe
              rw [if_pos heq] at hs
              have HS := Lib.hid (show m2 + 1 + cE id (l.drop (q + 1)) = T1 by omega)
              have hm3 : m2 + 1 ≤ 1000000000 := by omega
              clear hs hx heq
              go_wp2
              go_round
              case rel => exact ⟨q + 1, m2 + 1, hql, by go_num, by go_num, by omega, HS.out⟩
              case measure => simp [intOf]; omega
          · obtain rfl : q = l.length := by omega
            rw [drop_end] at hs
            have HS := Lib.hid (show m2 + lk id ((nrs Z).drop (k + 1)) = T by have := HT1.out; simp only [cE] at hs; omega)
            clear hs
            go_wp2
            go_round
            case rel => exact ⟨k + 1, m2, by omega, hlt, by go_num, rfl, hm2, HS.out⟩
            case measure => simp [intOf]; omega
      · obtain rfl : k = Z.length := by omega
        have e : (nrs Z).drop Z.length = [] := by rw [← nrs_len Z]; exact drop_end _
        rw [e] at hs
        have HS := Lib.hid (show m = T by simp only [lk] at hs; omega)
        clear hs e
        go_wp2
        go_ret
        rw [HS.out]
        exact ⟨rfl, HB.out⟩
end Go.Proofs.Ytgdjoojghkdcbaa
