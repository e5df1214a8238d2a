/- ModeTurns, walked: the function returns true for every input whose texts have at most 2^47 - 4096 bytes each. -/
import Derived.Test.YtdoccakkjgcbjaaH
namespace Go.Proofs.Ytdoccakkjgcbjaa
open Go.RowKit Go.PlainAid
set_option linter.unusedSimpArgs false

theorem right9_yes (m : Int) (w : World) (h0 : 0 ≤ m) (h1 : m ≤ 4095) : Calls Try.prog 9 #[.int .i64 m] w fun e w' => e = .returned (.bool true) ∧ w = w' :=
  (right9 m w).mono fun _ _ ⟨he, hw⟩ => ⟨by rw [he, decide_eq_true ⟨h0, h1⟩], hw⟩
theorem right9_no (m : Int) (w : World) (h : ¬ (0 ≤ m ∧ m ≤ 4095)) : Calls Try.prog 9 #[.int .i64 m] w fun e w' => e = .returned (.bool false) ∧ w = w' :=
  (right9 m w).mono fun _ _ ⟨he, hw⟩ => ⟨by rw [he, decide_eq_false h], hw⟩

theorem bel_drewN {w w1 : World} (h : Below w.heap.size w w1) (n : Nat) : Below w.heap.size w (w1.drewN n) := below_drewN h n

set_option maxHeartbeats 2000000 in
set_option maxRecDepth 100000 in
/-- The guards of ModeTurns that say no. -/
theorem turns5_out (a b : ByteArray) (m n : Int) (dir : Bool) (mask : Int) (w : World) (ha : a.size ≤ 140737488351232) (hb : b.size ≤ 140737488351232)
    (h : 200 < a.size + b.size ∨ ¬ (0 ≤ m ∧ m ≤ 4095) ∨ ¬ (0 ≤ n ∧ n ≤ 4095) ∨ ¬ (0 ≤ mask ∧ mask ≤ 4095)) :
    Calls Try.prog 5 #[.string a, .string b, .int .i64 m, .int .i64 n, .bool dir, .int .i64 mask] w fun e w' => e = .returned (.bool true) ∧ Below w.heap.size w w' := by
  by_cases h1 : 200 < a.size + b.size
  · go_enter Try.func5, Try.ntmps5
    go_wp2_with (go_at_call 7; refine (anchor7 _).mono ?_; rintro e w' ⟨rfl, nd, rfl⟩)
    go_ret
    exact ⟨rfl, bel_drewN (Below.refl _ _) _⟩
  · by_cases h2 : 0 ≤ m ∧ m ≤ 4095
    · by_cases h3 : 0 ≤ n ∧ n ≤ 4095
      · have h4 : ¬ (0 ≤ mask ∧ mask ≤ 4095) := by omega
        go_enter Try.func5, Try.ntmps5
        go_wp2_with (first | (go_at_call 7; refine (anchor7 _).mono ?_; rintro e w' ⟨rfl, nd, rfl⟩) | (go_at_call 9; (first | ((with_reducible refine (right9_no mask _ h4).mono ?_); rintro e w' ⟨rfl, rfl⟩) | ((with_reducible refine (right9_yes _ _ h2.1 h2.2).mono ?_); rintro e w' ⟨rfl, rfl⟩) | ((with_reducible refine (right9_yes _ _ h3.1 h3.2).mono ?_); rintro e w' ⟨rfl, rfl⟩))))
        go_ret
        exact ⟨rfl, bel_drewN (Below.refl _ _) _⟩
      · go_enter Try.func5, Try.ntmps5
        go_wp2_with (first | (go_at_call 7; refine (anchor7 _).mono ?_; rintro e w' ⟨rfl, nd, rfl⟩) | (go_at_call 9; (first | ((with_reducible refine (right9_no n _ h3).mono ?_); rintro e w' ⟨rfl, rfl⟩) | ((with_reducible refine (right9_yes _ _ h2.1 h2.2).mono ?_); rintro e w' ⟨rfl, rfl⟩))))
        go_ret
        exact ⟨rfl, bel_drewN (Below.refl _ _) _⟩
    · go_enter Try.func5, Try.ntmps5
      go_wp2_with (first | (go_at_call 7; refine (anchor7 _).mono ?_; rintro e w' ⟨rfl, nd, rfl⟩) | (go_at_call 9; refine (right9_no m _ h2).mono ?_; rintro e w' ⟨rfl, rfl⟩))
      go_ret
      exact ⟨rfl, bel_drewN (Below.refl _ _) _⟩

set_option maxHeartbeats 4000000 in
set_option maxRecDepth 100000 in
theorem turns5_in (a b : ByteArray) (m n : Int) (dir : Bool) (mask : Int) (w : World) (ha : a.size ≤ 140737488351232) (hb : b.size ≤ 140737488351232)
    (h1 : ¬ 200 < a.size + b.size) (h2 : 0 ≤ m ∧ m ≤ 4095) (h3 : 0 ≤ n ∧ n ≤ 4095) (h4 : 0 ≤ mask ∧ mask ≤ 4095) :
    Calls Try.prog 5 #[.string a, .string b, .int .i64 m, .int .i64 n, .bool dir, .int .i64 mask] w fun e w' => e = .returned (.bool true) ∧ Below w.heap.size w w' := by
  have HO := Lib.hid (chgM_digits m n dir mask h2.1 h2.2)
  have hso : (strOfNums (octD m)).size ≤ maxLen := by rw [strOfNums_size]; exact (by decide : 4 ≤ maxLen)
  obtain ⟨x, y, hx⟩ : ∃ x y, chgM (bl a) m dir mask = (x, y) := ⟨_, _, rfl⟩
  have HX := Lib.hid hx
  clear hx
  have hba := get_bt a
  have hbb := get_bt b
  have hal : a.size ≤ maxLen := by unfold maxLen; omega
  have hbl : b.size ≤ maxLen := by unfold maxLen; omega
  have hmm : (m != m) = false := by simp
  go_enter Try.func5, Try.ntmps5
  go_wp2_with (first | (go_at_call 7; refine (anchor7 _).mono ?_; rintro e w' ⟨rfl, nd, rfl⟩) | (go_at_call 9; (first | ((with_reducible refine (right9_yes _ _ h2.1 h2.2).mono ?_); rintro e w' ⟨rfl, rfl⟩) | ((with_reducible refine (right9_yes _ _ h3.1 h3.2).mono ?_); rintro e w' ⟨rfl, rfl⟩) | ((with_reducible refine (right9_yes _ _ h4.1 h4.2).mono ?_); rintro e w' ⟨rfl, rfl⟩))))
  refine (octal10 _ _ h2.1).mono ?_
  rintro e w1 ⟨rfl, hb1⟩
  go_wp2_with fail
  refine (change16_is HO.out _ hso).mono ?_
  rintro e w2 ⟨rfl, n1, rfl⟩
  go_wp2_with fail
  refine (change16_is HX.out _ hal).mono ?_
  rintro e w3 ⟨rfl, n2, rfl⟩
  have hbel : ∀ k, Below w.heap.size w (w1.drewN k) := fun k => below_drewN ((below_drewN (Below.refl _ w) nd).trans hb1) k
  have HB := Lib.hid hbel
  clear hbel hb1
  by_cases ea : a.size = 0
  · have e1 := (empty_iff a).2 ea
    clear ea
    go_wp2_with fail
    go_ret
    exact ⟨rfl, HB.out _⟩
  have ea0 : 0 < a.size := by omega
  have ea1 := empty_false a ea0
  by_cases eb : b.size = 0
  · have e1 := (empty_iff b).2 eb
    clear eb
    go_wp2_with fail
    go_ret
    exact ⟨rfl, HB.out _⟩
  have eb0 : 0 < b.size := by omega
  have eb1 := empty_false b eb0
  by_cases da : 48 ≤ bt a 0 ∧ bt a 0 ≤ 57
  · have d1 : decide (48 ≤ bt a 0) = true := decide_eq_true da.1
    have d2 : decide (bt a 0 ≤ 57) = true := decide_eq_true da.2
    clear da
    go_wp2_with fail
    go_ret
    exact ⟨rfl, HB.out _⟩
  by_cases db : 48 ≤ bt b 0 ∧ bt b 0 ≤ 57
  · have d1 : decide (48 ≤ bt b 0) = true := decide_eq_true db.1
    have d2 : decide (bt b 0 ≤ 57) = true := decide_eq_true db.2
    have d3 : bt a 0 < 48 ∨ 57 < bt a 0 := by omega
    clear db da
    rcases d3 with d3 | d3
    · have d4 : decide (48 ≤ bt a 0) = false := by simp; omega
      go_wp2_with fail
      go_ret
      exact ⟨rfl, HB.out _⟩
    · have d4 : decide (48 ≤ bt a 0) = true := by simp; omega
      have d5 : decide (bt a 0 ≤ 57) = false := by simp; omega
      go_wp2_with fail
      go_ret
      exact ⟨rfl, HB.out _⟩
  have d3 : bt a 0 < 48 ∨ 57 < bt a 0 := by omega
  have d4 : bt b 0 < 48 ∨ 57 < bt b 0 := by omega
  by_cases hy : y = 0
  · subst hy
    have HT := Lib.hid (turns_law a b m x dir mask ea0 eb0 da db HX.out)
    clear da db
    obtain ⟨u, v, hu⟩ : ∃ u v, chgM (bl b) x dir mask = (u, v) := ⟨_, _, rfl⟩
    have HU := Lib.hid hu
    have HV : Hid (chgM (bl (a ++ ⟨#[44]⟩ ++ b)) m dir mask = (u, v)) := HT.out.trans hu
    clear hu HT
    have hcl : (a ++ ⟨#[44]⟩ ++ b).size ≤ maxLen := by rw [ByteArray.size_append, ByteArray.size_append, show (⟨#[44]⟩ : ByteArray).size = 1 from rfl]; unfold maxLen; omega
    have huu : (u == u) = true := by simp
    have hvv : (v == v) = true := by simp
    rcases d3 with d3 | d3 <;> rcases d4 with d4 | d4 <;>
    · (first | (have d5 : decide (48 ≤ bt a 0) = false := by simp; omega) | (have d5 : decide (48 ≤ bt a 0) = true := by simp; omega))
      (first | (have d6 : decide (bt a 0 ≤ 57) = false := by simp; omega) | skip)
      (first | (have d7 : decide (48 ≤ bt b 0) = false := by simp; omega) | (have d7 : decide (48 ≤ bt b 0) = true := by simp; omega))
      (first | (have d8 : decide (bt b 0 ≤ 57) = false := by simp; omega) | skip)
      go_wp2_with fail
      refine (change16_is HU.out _ hbl).mono ?_
      rintro e w4 ⟨rfl, n4, rfl⟩
      go_wp2_with fail
      refine (change16_is HV.out _ hcl).mono ?_
      rintro e w5 ⟨rfl, n5, rfl⟩
      go_wp2_with fail
      go_ret
      exact ⟨rfl, HB.out _⟩
  · have hy1 : (y != 0) = true := by simpa using hy
    clear da db hy
    rcases d3 with d3 | d3 <;> rcases d4 with d4 | d4 <;>
    · (first | (have d5 : decide (48 ≤ bt a 0) = false := by simp; omega) | (have d5 : decide (48 ≤ bt a 0) = true := by simp; omega))
      (first | (have d6 : decide (bt a 0 ≤ 57) = false := by simp; omega) | skip)
      (first | (have d7 : decide (48 ≤ bt b 0) = false := by simp; omega) | (have d7 : decide (48 ≤ bt b 0) = true := by simp; omega))
      (first | (have d8 : decide (bt b 0 ≤ 57) = false := by simp; omega) | skip)
      go_wp2_with fail
      go_ret
      exact ⟨rfl, HB.out _⟩

theorem turns5 (a b : ByteArray) (m n : Int) (dir : Bool) (mask : Int) (ha : a.size ≤ 140737488351232) (hb : b.size ≤ 140737488351232) (w : World) :
    Calls Try.prog 5 #[.string a, .string b, .int .i64 m, .int .i64 n, .bool dir, .int .i64 mask] w fun e w' => e = .returned (.bool true) ∧ Below w.heap.size w w' := by
  by_cases h : 200 < a.size + b.size ∨ ¬ (0 ≤ m ∧ m ≤ 4095) ∨ ¬ (0 ≤ n ∧ n ≤ 4095) ∨ ¬ (0 ≤ mask ∧ mask ≤ 4095)
  · exact turns5_out a b m n dir mask w ha hb h
  · exact turns5_in a b m n dir mask w ha hb (by omega) (by omega) (by omega) (by omega)
end Go.Proofs.Ytdoccakkjgcbjaa
