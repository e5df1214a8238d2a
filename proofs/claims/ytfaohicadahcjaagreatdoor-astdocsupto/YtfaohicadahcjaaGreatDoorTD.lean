/- The document's lines. Conditions: lengths below a bound. -/
import Derived.Test.YtfaohicadahcjaaGreatDoorTC
namespace Go.Proofs.YtfaohicadahcjaaGreatDoor
open Go.RowKit Go.PlainAid Go.ChangeShapes Go.WideShapes Go.ChangeAt
set_option linter.unusedSimpArgs false
set_option linter.unusedVariables false
/-! Is a text a line of another one? -/
def standL (tag : List UInt8) : List UInt8 → List UInt8 → Bool
  | _, [] => false
  | cur, b :: r => if b = 10 then cur == tag || standL tag [] r else standL tag (cur ++ [b]) r
theorem con_cons (b : UInt8) (l sub : List UInt8) : Lib.contains (b :: l) sub = (sub.isPrefixOf (b :: l) || Lib.contains l sub) := by
  unfold Lib.contains
  rw [Lib.index]
  cases h : sub.isPrefixOf (b :: l) with
  | true => simp
  | false =>
    simp only [Bool.false_eq_true, if_false, Bool.false_or]
    rcases Lib.index_spec l sub with ⟨h1, _⟩ | ⟨i, h1, _⟩
    · rw [h1]; rfl
    · rw [h1]
      have : ((i : Int) == -1) = false := by rw [beq_eq_false_iff_ne]; omega
      simp only [this, Bool.false_eq_true, if_false]
      exact decide_eq_decide.2 (by omega)
theorem con_nil (b : UInt8) (l : List UInt8) : Lib.contains [] (b :: l) = false := rfl
theorem noskip (pat : List UInt8) : ∀ (cur s : List UInt8), (10 : UInt8) ∉ cur → Lib.contains (cur ++ s) (10 :: pat) = Lib.contains s (10 :: pat)
  | [], s, _ => rfl
  | b :: r, s, h => by
    have hb : (10 : UInt8) ≠ b := fun e => h (by simp [e])
    have hr : (10 : UInt8) ∉ r := fun e => h (by simp [e])
    rw [List.cons_append, con_cons, noskip pat r s hr]
    have : List.isPrefixOf (10 :: pat) (b :: (r ++ s)) = false := by
      rw [List.isPrefixOf_cons_cons]
      have : ((10 : UInt8) == b) = false := by simpa using hb
      rw [this]; rfl
    rw [this]; rfl
theorem pre_is : ∀ (a c r : List UInt8), (10 : UInt8) ∉ a → (10 : UInt8) ∉ c → (a ++ [10]).isPrefixOf (c ++ 10 :: r) = (c == a)
  | [], [], r, _, _ => by simp
  | [], x :: c, r, _, hc => by
    have hx : (10 : UInt8) ≠ x := fun e => hc (by simp [e])
    have h1 : ((10 : UInt8) == x) = false := by simpa using hx
    simp [List.isPrefixOf_cons_cons, h1]
  | x :: a, [], r, ha, _ => by
    have hx : x ≠ (10 : UInt8) := fun e => ha (by simp [e])
    have h1 : (x == (10 : UInt8)) = false := by simpa using hx
    simp [List.isPrefixOf_cons_cons, h1]
  | x :: a, y :: c, r, ha, hc => by
    have ih := pre_is a c r (fun e => ha (by simp [e])) (fun e => hc (by simp [e]))
    rw [List.cons_append, List.cons_append, List.isPrefixOf_cons_cons, ih]
    rw [Bool.eq_iff_iff]
    simp only [Bool.and_eq_true, beq_iff_eq, List.cons.injEq]
    constructor
    · rintro ⟨e1, e2⟩; exact ⟨e1.symm, e2⟩
    · rintro ⟨e1, e2⟩; exact ⟨e1.symm, e2⟩
theorem nopre (a : List UInt8) : ∀ c : List UInt8, (10 : UInt8) ∉ c → (a ++ [10]).isPrefixOf c = false := by
  intro c hc
  rw [Bool.eq_false_iff]
  intro h
  have := List.isPrefixOf_iff_prefix.1 h
  exact hc (this.subset (by simp))
theorem stand_is (tag : List UInt8) (ht : (10 : UInt8) ∉ tag) : ∀ (s cur : List UInt8), (10 : UInt8) ∉ cur → Lib.contains (10 :: (cur ++ s)) (10 :: (tag ++ [10])) = standL tag cur s
  | [], cur, hc => by
    rw [con_cons, List.append_nil, List.isPrefixOf_cons_cons, nopre tag cur hc]
    have := noskip (tag ++ [10]) cur [] hc
    rw [List.append_nil] at this
    rw [this, con_nil]
    simp [standL]
  | b :: r, cur, hc => by
    rw [standL]
    by_cases hb : b = 10
    · subst hb
      rw [if_pos rfl, con_cons, List.isPrefixOf_cons_cons, pre_is tag cur r ht hc, noskip _ cur _ hc, ← stand_is tag ht r [] (by simp)]
      simp
    · rw [if_neg hb, ← stand_is tag ht r (cur ++ [b]) (by
        intro e
        rcases List.mem_append.1 e with e | e
        · exact hc e
        · exact hb (List.mem_singleton.1 e).symm)]
      simp
theorem name_no10 (t : List UInt8) (h : nameL t = true) : (10 : UInt8) ∉ t := by
  unfold nameL at h
  rw [Bool.and_eq_true, decide_eq_true_eq] at h
  intro hm
  obtain ⟨i, hi, e⟩ := List.getElem_of_mem hm
  have := nm_at true t i (by omega)
  rw [at0_of hi, e] at this
  cases i <;> simp [nmN, lettN, digN] at this
theorem stand_cut (tag : List UInt8) (s : ByteArray) (f k : Nat) (hf : f ≤ k) (h : k < s.size) : standL tag (((ls s).take k).drop f) ((ls s).drop k) = if at0 (ls s) k = 10 then (((ls s).take k).drop f == tag || standL tag (((ls s).take (k + 1)).drop (k + 1)) ((ls s).drop (k + 1))) else standL tag (((ls s).take (k + 1)).drop f) ((ls s).drop (k + 1)) := by
  have hk : k < (ls s).length := by rw [ls_len]; exact h
  rw [List.drop_eq_getElem_cons hk, standL, at0_of hk]
  have e1 : ((ls s).take (k + 1)).drop (k + 1) = [] := by rw [List.drop_eq_nil_iff, List.length_take]; exact Nat.min_le_left _ _
  have e2 : ((ls s).take (k + 1)).drop f = ((ls s).take k).drop f ++ [(ls s)[k]] := by
    rw [List.take_add_one, List.getElem?_eq_getElem hk, List.drop_append_of_le_length (by rw [List.length_take]; omega)]; rfl
  have e3 : ((ls s)[k] = 10) ↔ ((ls s)[k].toNat = 10) := ⟨fun e => by rw [e]; rfl, fun e => UInt8.toNat_inj.1 e⟩
  rw [e1, e2]
  by_cases hb : (ls s)[k] = 10
  · rw [if_pos hb, if_pos (e3.1 hb)]
  · rw [if_neg hb, if_neg (fun e => hb (e3.2 e))]
theorem stand_end (tag cur : List UInt8) (s : ByteArray) (k : Nat) (h : s.size ≤ k) : standL tag cur ((ls s).drop k) = false := by
  have : (ls s).drop k = [] := List.drop_of_length_le (by rw [ls_len]; exact h)
  rw [this]; simp [standL]
def RelSt (s : ByteArray) (tag : List UInt8) (B : Bool) (f i : Value) : Prop := ∃ a k : Nat, a ≤ k ∧ k ≤ s.size ∧ f = .int .i64 a ∧ i = .int .i64 k ∧ Hid (standL tag (((ls s).take k).drop a) ((ls s).drop k) = B)
set_option maxHeartbeats 4000000 in
set_option maxRecDepth 100000 in
theorem stands90 (s tag : ByteArray) (hs : s.size ≤ 9223372036854775806) (w : World) : Calls Tryz.prog 90 #[.string s, .string tag] w fun e w' => e = .returned (.bool (standL (ls tag) [] (ls s))) ∧ w = w' := by
  have hb := get_bt s
  obtain ⟨B, HB⟩ : ∃ r, Hid (standL (ls tag) [] (ls s) = r) := ⟨_, Lib.hid rfl⟩
  rw [HB.out]
  go_enter Tryz.func90, Tryz.ntmps90
  go_wp2
  go_loop [5, 6] (RelSt s (ls tag) B) (fun _ i => s.size - (intOf i).toNat)
  case atStart => exact ⟨0, 0, Nat.le_refl _, Nat.zero_le _, rfl, rfl, Lib.hid (by rw [List.take_zero, List.drop_zero]; exact HB.out)⟩
  case round =>
    obtain ⟨a, k, ha, hk, rfl, rfl, HR⟩ := hrel
    by_cases hlt : k < s.size
    · have HC := Lib.hid (stand_cut (ls tag) s a k ha hlt)
      have hc := at0_lt (ls s) k
      have hbt := bt_at s k
      have hz : ((at0 (ls s) k : Int) == 10) = decide (at0 (ls s) k = 10) := by rw [eq_int]; exact decide_eq_decide.2 (by omega)
      have HK : Hid (at0 (ls s) k = 10 ↔ decide (at0 (ls s) k = 10) = true) := Lib.hid (by simp)
      have he : ((s.extract a k).toList == tag.toList) = (((ls s).take k).drop a == ls tag) := by rw [toList_data, toList_data, ← ls_ext]
      generalize decide (at0 (ls s) k = 10) = y1 at hz HK
      generalize (((ls s).take k).drop a == ls tag) = y2 at he HC
      cases y1
      · have HE := Lib.hid (show standL (ls tag) (((ls s).take (k + 1)).drop a) ((ls s).drop (k + 1)) = B from by rw [← HR.out, HC.out, if_neg (fun e => by have := HK.out.1 e; cases this)])
        generalize at0 (ls s) k = ch at hbt hz hc
        clear HC HK
        go_wp2
        go_round
        case rel => exact ⟨a, k + 1, Nat.le_succ_of_le ha, hlt, rfl, vi (Int.natCast_succ k).symm, HE⟩
        case measure => exact sz_meas hlt
      · have h1 := HK.out.2 rfl
        rw [if_pos h1] at HC
        generalize at0 (ls s) k = ch at hbt hz hc
        clear HK h1
        cases y2
        · have HE := Lib.hid (show standL (ls tag) (((ls s).take (k + 1)).drop (k + 1)) ((ls s).drop (k + 1)) = B from by rw [← HR.out, HC.out]; rfl)
          clear HC
          go_wp2
          go_round
          case rel => exact ⟨k + 1, k + 1, Nat.le_refl _, hlt, vi (Int.natCast_succ k).symm, vi (Int.natCast_succ k).symm, HE⟩
          case measure => exact sz_meas hlt
        · have HE := Lib.hid (show B = true from by rw [← HR.out, HC.out]; rfl)
          clear HC
          go_wp2
          go_ret
          rw [HE.out]; exact ⟨rfl, rfl⟩
    · have hkq : s.size = k := sz_eq hlt hk
      have HE := Lib.hid (show B = false from by rw [← HR.out]; exact stand_end _ _ s k (Nat.le_of_eq hkq))
      have hnl : decide ((k : Int) < (s.size : Int)) = false := by rw [hkq]; simp
      have hnl2 : decide (k < s.size) = false := by rw [hkq]; simp
      clear hkq
      go_wp2
      go_ret
      rw [HE.out]; exact ⟨rfl, rfl⟩
end Go.Proofs.YtfaohicadahcjaaGreatDoor
