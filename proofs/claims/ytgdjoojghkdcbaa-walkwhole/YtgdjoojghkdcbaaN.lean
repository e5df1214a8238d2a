/- Contracts of path.Name and of the document's: what is a name. Condition: the text has a length that fits an int. -/
import Derived.Test.YtgdjoojghkdcbaaRows
import Derived.PlainAid
import Derived.WalkKit
import Derived.ProofKit
import Derived.WalkLawsBesides
import Derived.Lib.Hide
import Derived.WalkMore
import Derived.RegionTactic
import Derived.Lib.Strings
import Derived.Lib.Bytealg
import Derived.Lib.IndexLaws
namespace Go.Proofs.Ytgdjoojghkdcbaa
open Go.RowKit Go.PlainAid
set_option linter.unusedSimpArgs false

theorem ext_size (s : ByteArray) (a b : Nat) : (s.extract a b).size = min b s.size - a := ByteArray.size_extract
theorem ext_bt (s : ByteArray) (a b k : Nat) (h : k < min b s.size - a) : bt (s.extract a b) k = bt s (a + k) := by
  unfold bt
  rw [dif_pos (by rw [ext_size]; exact h), dif_pos (by omega), ByteArray.getElem_extract]
theorem ba_ext {s t : ByteArray} (h : s.size = t.size) (g : ∀ k, k < s.size → bt s k = bt t k) : s = t := by
  apply ByteArray.ext_getElem h
  intro i h1 h2
  have := g i h1
  rw [← get_bt s i h1, ← get_bt t i h2] at this
  apply UInt8.toNat_inj.1
  exact Int.ofNat.inj this
theorem ext_ext (s : ByteArray) (n m : Nat) (h : m ≤ n) : (s.extract 0 n).extract 0 m = s.extract 0 m := by
  refine ba_ext (by simp only [ext_size]; omega) fun k hk => ?_
  simp only [ext_size] at hk
  rw [ext_bt _ _ _ _ (by rw [ext_size]; omega), ext_bt _ _ _ _ (by omega), ext_bt _ _ _ _ (by omega), Nat.zero_add]
theorem ext_all (s : ByteArray) : s.extract 0 s.size = s :=
  ba_ext (by simp only [ext_size]; omega) fun k hk => by simp only [ext_size] at hk; rw [ext_bt _ _ _ _ (by omega), Nat.zero_add]

theorem empty_is {s : ByteArray} (h : s.size = 0) : s = ⟨#[]⟩ := ba_ext h fun k hk => by omega
theorem toList_ne {s : ByteArray} (h : s.size ≠ 0) : s.toList.isEmpty = false := by
  rw [ByteArray.toList_eq]
  cases hl : s.data.toList with
  | nil => exact absurd (by have := congrArg List.length hl; simpa using this) h
  | cons a l => rfl
theorem toList_em {s : ByteArray} (h : s.size = 0) : s.toList.isEmpty = true := by rw [empty_is h, ByteArray.toList_eq]; rfl

/-- Does a text have a byte? -/
def hasB (s : ByteArray) (c : Int) : Bool := decide (∃ k, k < s.size ∧ bt s k = c)

theorem data_get (s : ByteArray) (k : Nat) (c : UInt8) : s.data.toList[k]? = some c ↔ k < s.size ∧ bt s k = (c.toNat : Int) := by
  rw [List.getElem?_eq_some_iff]
  constructor
  · rintro ⟨h, e⟩
    have hk : k < s.size := h
    refine ⟨hk, ?_⟩
    rw [← get_bt s k hk]
    rw [← e]; rfl
  · rintro ⟨h, e⟩
    refine ⟨h, ?_⟩
    rw [← get_bt s k h] at e
    apply UInt8.toNat_inj.1
    exact Int.ofNat.inj e

theorem has_index (s : ByteArray) (c : Int) (h0 : 0 ≤ c) (h1 : c ≤ 255) : decide (0 ≤ Lib.indexByte s.data.toList c.toNat.toUInt8) = hasB s c := by
  have hc : ((c.toNat.toUInt8).toNat : Int) = c := by simp; omega
  have hge := Lib.indexByte_ge s.data.toList c.toNat.toUInt8
  by_cases h : Lib.indexByte s.data.toList c.toNat.toUInt8 = -1
  · have hn := Lib.indexByte_none h
    rw [h]
    symm
    apply decide_eq_false
    rintro ⟨k, hk, e⟩
    exact hn k ((data_get s k _).2 ⟨hk, by rw [hc]; exact e⟩)
  · obtain ⟨o, ho⟩ : ∃ o : Nat, Lib.indexByte s.data.toList c.toNat.toUInt8 = o := ⟨(Lib.indexByte s.data.toList c.toNat.toUInt8).toNat, by omega⟩
    obtain ⟨hs, _⟩ := Lib.indexByte_some ho
    obtain ⟨h2, h3⟩ := (data_get s o _).1 hs
    rw [ho, decide_eq_true (by omega)]
    symm
    exact decide_eq_true ⟨o, h2, by rw [h3, hc]⟩

set_option maxHeartbeats 1000000 in
set_option maxRecDepth 100000 in
theorem ib38 (s : ByteArray) (c : Int) (w : World) :
    Calls Try.prog 101 #[.string s, .int .u8 c] w fun e w' => e = .returned (.int .i64 (Lib.indexByte s.data.toList c.toNat.toUInt8)) ∧ w = w' := by
  go_enter Try.func101, Try.ntmps101
  go_wp2
  rw [run_callFunc_extern Try.func103 (by kernel_rfl) (by kernel_rfl) (by kernel_rfl) (e := Extern.BytealgIndexByte.indexByte) (by kernel_rfl), Lib.run_indexByteString]
  simp only [Result.andThen]
  rw [Oper.upon_value]
  go_wp2
  go_ret
  exact ⟨rfl, rfl⟩
theorem ib36 (s : ByteArray) (c : Int) (w : World) :
    Calls Try.prog 93 #[.string s, .int .u8 c] w fun e w' => e = .returned (.int .i64 (Lib.indexByte s.data.toList c.toNat.toUInt8)) ∧ w = w' := by
  go_enter Try.func93, Try.ntmps93
  go_wp2_with (go_at_call 101; refine (ib38 _ _ _).mono ?_; rintro e w' ⟨rfl, rfl⟩)
  go_ret
  exact ⟨rfl, rfl⟩
theorem has32 (s : ByteArray) (c : Int) (w : World) (h0 : 0 ≤ c) (h1 : c ≤ 255) :
    Calls Try.prog 78 #[.string s, .int .u8 c] w fun e w' => e = .returned (.bool (hasB s c)) ∧ w = w' := by
  have HI := Lib.hid (has_index s c h0 h1)
  have c1 := fun w => ib36 s c w
  generalize Lib.indexByte s.data.toList c.toNat.toUInt8 = i at HI c1
  have C := Lib.hid c1
  clear c1
  go_enter Try.func78, Try.ntmps78
  go_wp2_with (go_at_call 93; refine (C.out _).mono ?_; rintro e w' ⟨rfl, rfl⟩)
  go_ret
  rw [← HI.out]
  exact ⟨by simp, rfl⟩

def Rel35 (s : ByteArray) (c : Int) (v : Value) : Prop := ∃ k : Nat, k ≤ s.size ∧ v = .int .i64 k ∧ ∀ j, j < k → bt s j ≠ c
set_option maxHeartbeats 1000000 in
set_option maxRecDepth 100000 in
theorem has35 (s : ByteArray) (c : Int) (w : World) (hs : s.size ≤ maxLen) :
    Calls Try.prog 91 #[.string s, .int .u8 c] w fun e w' => e = .returned (.bool (hasB s c)) ∧ w = w' := by
  unfold maxLen at hs
  have hb := get_bt s
  obtain ⟨r, hr⟩ : ∃ r, hasB s c = r := ⟨_, rfl⟩
  have HR := Lib.hid hr
  rw [hr]
  clear hr
  go_enter Try.func91, Try.ntmps91
  go_wp2
  go_loop [5] (Rel35 s c) (fun v => s.size - (intOf v).toNat)
  case atStart => exact ⟨0, Nat.zero_le _, rfl, fun j h => by omega⟩
  case round =>
    obtain ⟨k, hk, rfl, hn⟩ := hrel
    have HN := Lib.hid hn
    clear hn
    by_cases hlt : k < s.size
    · cases hc : (bt s k == c)
      · have HC := Lib.hid (beq_eq_false_iff_ne.1 hc)
        go_wp2
        go_round
        case rel => exact ⟨k + 1, hlt, by go_num, fun j hj => by
          by_cases e : j = k
          · subst e; exact HC.out
          · exact HN.out j (by omega)⟩
        case measure => simp [intOf]; omega
      · have HK : Hid (r = true) := by rw [← HR.out]; exact decide_eq_true ⟨k, hlt, beq_iff_eq.1 hc⟩
        go_wp2
        go_ret
        rw [HK.out]
        exact ⟨rfl, rfl⟩
    · have HK : Hid (r = false) := by rw [← HR.out]; exact decide_eq_false (by rintro ⟨j, hj, e⟩; exact HN.out j (by omega) e)
      obtain rfl : k = s.size := by omega
      go_wp2
      go_ret
      rw [HK.out]
      exact ⟨rfl, rfl⟩

def nameB (s : ByteArray) : Bool := decide (1 ≤ s.size ∧ s.size ≤ 255) && !hasB s 0 && !hasB s 47 && !(s.toList == [46]) && !(s.toList == [46, 46])

theorem has32_0 (s : ByteArray) (w : World) : Calls Try.prog 78 #[.string s, .int .u8 0] w fun e w' => e = .returned (.bool (hasB s 0)) ∧ w = w' := has32 s 0 w (by decide) (by decide)
theorem has32_47 (s : ByteArray) (w : World) : Calls Try.prog 78 #[.string s, .int .u8 47] w fun e w' => e = .returned (.bool (hasB s 47)) ∧ w = w' := has32 s 47 w (by decide) (by decide)

set_option maxHeartbeats 1000000 in
set_option maxRecDepth 100000 in
theorem name25 (s : ByteArray) (w : World) (hs : s.size ≤ maxLen) : Calls Try.prog 87 #[.string s] w fun e w' => e = .returned (.bool (nameB s)) ∧ w = w' := by
  unfold maxLen at hs
  have c0 := fun w => has32_0 s w
  have c1 := fun w => has32_47 s w
  have HN : Hid (nameB s = (decide (1 ≤ s.size ∧ s.size ≤ 255) && !hasB s 0 && !hasB s 47 && !(s.toList == [46]) && !(s.toList == [46, 46]))) := rfl
  generalize nameB s = r at HN ⊢
  generalize hasB s 0 = b0 at c0 HN
  generalize hasB s 47 = b1 at c1 HN
  have C0 := Lib.hid c0
  have C1 := Lib.hid c1
  clear c0 c1
  by_cases h0 : s.size = 0
  · have he := toList_em h0
    have HK : Hid (r = false) := by rw [HN.out, decide_eq_false (by omega)]; rfl
    clear h0 HN
    go_enter Try.func87, Try.ntmps87
    go_wp2
    go_ret
    rw [HK.out]
    exact ⟨rfl, rfl⟩
  have he := toList_ne h0
  by_cases h1 : 255 < s.size
  · have HK : Hid (r = false) := by rw [HN.out, decide_eq_false (by omega)]; rfl
    clear h0 HN
    go_enter Try.func87, Try.ntmps87
    go_wp2
    go_ret
    rw [HK.out]
    exact ⟨rfl, rfl⟩
  have hk : r = (!b0 && !b1 && !(s.toList == [46]) && !(s.toList == [46, 46])) := by rw [HN.out, decide_eq_true (by omega)]; simp
  have HK := Lib.hid hk
  clear h0 HN hk
  cases hd1 : (s.toList == [46]) <;> cases hd2 : (s.toList == [46, 46]) <;> cases b0 <;> cases b1 <;>
  · have hk : r = _ := HK.out
    rw [hd1, hd2] at hk
    replace hk := Lib.hid hk
    go_enter Try.func87, Try.ntmps87
    go_wp2_with (go_at_call 78; (first | ((with_reducible refine (C0.out _).mono ?_); rintro e w' ⟨rfl, rfl⟩) | ((with_reducible refine (C1.out _).mono ?_); rintro e w' ⟨rfl, rfl⟩)))
    go_ret
    rw [hk.out]
    exact ⟨rfl, rfl⟩

set_option maxHeartbeats 1000000 in
set_option maxRecDepth 100000 in
theorem name28 (s : ByteArray) (w : World) (hs : s.size ≤ maxLen) : Calls Try.prog 74 #[.string s] w fun e w' => e = .returned (.bool (nameB s)) ∧ w = w' := by
  have c0 := fun w => has35 s 0 w hs
  have c1 := fun w => has35 s 47 w hs
  unfold maxLen at hs
  have HN : Hid (nameB s = (decide (1 ≤ s.size ∧ s.size ≤ 255) && !hasB s 0 && !hasB s 47 && !(s.toList == [46]) && !(s.toList == [46, 46]))) := rfl
  generalize nameB s = r at HN ⊢
  generalize hasB s 0 = b0 at c0 HN
  generalize hasB s 47 = b1 at c1 HN
  have C0 := Lib.hid c0
  have C1 := Lib.hid c1
  clear c0 c1
  by_cases h0 : 1 ≤ s.size
  rotate_left
  · have hk : r = false := by rw [HN.out, decide_eq_false (by omega)]; rfl
    have HK := Lib.hid hk
    clear HN hk
    go_enter Try.func74, Try.ntmps74
    go_wp2
    go_ret
    rw [HK.out]
    exact ⟨rfl, rfl⟩
  by_cases h1 : 255 < s.size
  · have hk : r = false := by rw [HN.out, decide_eq_false (by omega)]; rfl
    have HK := Lib.hid hk
    clear HN hk
    go_enter Try.func74, Try.ntmps74
    go_wp2
    go_ret
    rw [HK.out]
    exact ⟨rfl, rfl⟩
  have hk : r = (!b0 && !b1 && !(s.toList == [46]) && !(s.toList == [46, 46])) := by rw [HN.out, decide_eq_true (by omega)]; simp
  have HK := Lib.hid hk
  clear HN hk
  cases hd1 : (s.toList == [46]) <;> cases hd2 : (s.toList == [46, 46]) <;> cases b0 <;> cases b1 <;>
  · have hk : r = _ := HK.out
    rw [hd1, hd2] at hk
    replace hk := Lib.hid hk
    go_enter Try.func74, Try.ntmps74
    go_wp2_with (go_at_call 91; (first | ((with_reducible refine (C0.out _).mono ?_); rintro e w' ⟨rfl, rfl⟩) | ((with_reducible refine (C1.out _).mono ?_); rintro e w' ⟨rfl, rfl⟩)))
    go_ret
    rw [hk.out]
    exact ⟨rfl, rfl⟩


end Go.Proofs.Ytgdjoojghkdcbaa
