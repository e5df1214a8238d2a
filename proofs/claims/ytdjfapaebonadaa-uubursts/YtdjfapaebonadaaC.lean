/- Contracts of what may be a path, of octal digits, of strings.Cut at a newline and of CutPrefix. Conditions: lengths that fit an int. -/
import Derived.Test.YtdjfapaebonadaaA
namespace Go.Proofs.Ytdjfapaebonadaa
open Go.RowKit Go.PlainAid
set_option linter.unusedSimpArgs false
set_option linter.unusedVariables false

/-- May this be a path? -/
def rightL (l : List UInt8) : Bool := decide (1 ≤ l.length ∧ l.length ≤ 4095) && !decide (0 ∈ l)
theorem rightL_no {s : ByteArray} (h : ¬ (1 ≤ s.size ∧ s.size ≤ 4095)) : rightL (ls s) = false := by unfold rightL; rw [ls_len, decide_eq_false h]; rfl
theorem rightL_yes {s : ByteArray} (h : 1 ≤ s.size ∧ s.size ≤ 4095) : rightL (ls s) = !decide (0 ∈ ls s) := by unfold rightL; rw [ls_len, decide_eq_true h]; rfl
theorem toList_em {s : ByteArray} (h : s.size = 0) : (s.toList == []) = true := by
  rw [ByteArray.toList_eq]; rw [← ls_len] at h; simpa using List.eq_nil_of_length_eq_zero h
theorem toList_ne {s : ByteArray} (h : 0 < s.size) : (s.toList == []) = false := by
  rw [ByteArray.toList_eq]; rw [← ls_len] at h
  have : ls s ≠ [] := List.length_pos_iff.1 h
  simpa using this
set_option maxHeartbeats 1000000 in
set_option maxRecDepth 100000 in
theorem right19 (s : ByteArray) (w : World) (hs : s.size ≤ maxLen) : Calls Try.prog 19 #[.string s] w fun e w' => e = .returned (.bool (rightL (ls s))) ∧ w = w' := by
  unfold maxLen at hs
  by_cases h0 : s.size = 0
  · have HE := toList_em h0
    rw [rightL_no (by omega)]
    go_enter Try.func19, Try.ntmps19
    go_wp2
    go_ret
    exact ⟨rfl, rfl⟩
  · have HE := toList_ne (s := s) (by omega)
    by_cases h1 : s.size ≤ 4095
    · have C := Lib.hid fun w => has32 s w
      rw [rightL_yes ⟨by omega, h1⟩]
      generalize decide (0 ∈ ls s) = r at C ⊢
      go_enter Try.func19, Try.ntmps19
      go_wp2_with (go_at_call 32; refine (C.out _).mono ?_; rintro e w' ⟨rfl, rfl⟩)
      go_ret
      exact ⟨by simp, rfl⟩
    · rw [rightL_no (by omega)]
      go_enter Try.func19, Try.ntmps19
      go_wp2
      go_ret
      exact ⟨rfl, rfl⟩
set_option maxHeartbeats 1000000 in
set_option maxRecDepth 100000 in
theorem right23 (s : ByteArray) (w : World) (hs : s.size ≤ maxLen) : Calls Try.prog 23 #[.string s] w fun e w' => e = .returned (.bool (rightL (ls s))) ∧ w = w' := by
  have C := Lib.hid fun w => has37 s w hs
  unfold maxLen at hs
  by_cases h0 : 1 ≤ s.size
  · by_cases h1 : s.size ≤ 4095
    · rw [rightL_yes ⟨h0, h1⟩]
      generalize decide (0 ∈ ls s) = r at C ⊢
      go_enter Try.func23, Try.ntmps23
      go_wp2_with (go_at_call 37; refine (C.out _).mono ?_; rintro e w' ⟨rfl, rfl⟩)
      go_ret
      exact ⟨by simp, rfl⟩
    · rw [rightL_no (by omega)]
      go_enter Try.func23, Try.ntmps23
      go_wp2
      go_ret
      exact ⟨rfl, rfl⟩
  · rw [rightL_no (by omega)]
    go_enter Try.func23, Try.ntmps23
    go_wp2
    go_ret
    exact ⟨rfl, rfl⟩

theorem new_back (w : World) (m : List UInt8) (cs : Array Value) (e : cs.toList = bc m) (c : Nat) : (convert 41 9 (.slice (some ⟨w.heap.size, 0, none⟩) m.length c)).run Try.prog (w.alloc (.cells cs 5)) = .ok (.string (mk m)) (w.alloc (.cells cs 5)) := by
  exact run_convert_bytes_back (P := Try.prog) (w.alloc (.cells cs 5)) 41 9 5 ⟨w.heap.size, 0, none⟩ c m Try.underlying41 Try.underlying5 Try.underlying9 (fun j hj => new_cells w m cs e j _ (by simp [bc, List.getElem?_eq_getElem hj]))
def oct4 (m : Nat) : List UInt8 := [od (m / 512), od (m / 64), od (m / 8), od m]
def oct3 (m : Nat) : List UInt8 := [od (m / 64), od (m / 8), od m]
set_option maxHeartbeats 2000000 in
set_option maxRecDepth 100000 in
theorem octal21 (m : Nat) (hm : m ≤ 4095) (w : World) : Calls Try.prog 21 #[.int .i64 m] w fun e w' => e = .returned (.string (mk (oct4 m))) ∧ Below w.heap.size w w' := by
  have C1 := Lib.hid fun w => digit34 (m / 512) (by omega) w
  have C2 := Lib.hid fun w => digit34 (m / 64) (by omega) w
  have C3 := Lib.hid fun w => digit34 (m / 8) (by omega) w
  have C4 := Lib.hid fun w => digit34 m hm w
  have HB := new_back w (oct4 m) #[.int .u8 ((od (m / 512)).toNat : Int), .int .u8 ((od (m / 64)).toNat : Int), .int .u8 ((od (m / 8)).toNat : Int), .int .u8 ((od m).toNat : Int)] rfl 4
  have HW := Lib.hid ((Below.refl w.heap.size w).alloc (Nat.le_refl _) (.cells #[.int .u8 ((od (m / 512)).toNat : Int), .int .u8 ((od (m / 64)).toNat : Int), .int .u8 ((od (m / 8)).toNat : Int), .int .u8 ((od m).toNat : Int)] 5))
  rw [show (oct4 m).length = 4 from rfl] at HB
  generalize mk (oct4 m) = fin at HB ⊢
  generalize od (m / 512) = a1 at C1 HB HW
  generalize od (m / 64) = a2 at C2 HB HW
  generalize od (m / 8) = a3 at C3 HB HW
  generalize od m = a4 at C4 HB HW
  rw [show ((m / 512 : Nat) : Int) = (m : Int) / 512 by omega] at C1
  rw [show ((m / 64 : Nat) : Int) = (m : Int) / 64 by omega] at C2
  rw [show ((m / 8 : Nat) : Int) = (m : Int) / 8 by omega] at C3
  go_enter Try.func21, Try.ntmps21
  go_wp2_with (go_at_call 34; (first
    | ((with_reducible refine (C1.out _).mono ?_); rintro e w' ⟨rfl, rfl⟩)
    | ((with_reducible refine (C2.out _).mono ?_); rintro e w' ⟨rfl, rfl⟩)
    | ((with_reducible refine (C3.out _).mono ?_); rintro e w' ⟨rfl, rfl⟩)
    | ((with_reducible refine (C4.out _).mono ?_); rintro e w' ⟨rfl, rfl⟩)))
  go_ret
  exact ⟨rfl, HW.out⟩
theorem dig_od (n : Nat) : 48 + (n : Int) % 8 = ((od n).toNat : Int) := by rw [od_nat]; omega
set_option maxHeartbeats 2000000 in
set_option maxRecDepth 100000 in
theorem digits25 (m : Nat) (hm : m ≤ 4095) (w : World) : Calls Try.prog 25 #[.int .i64 m] w fun e w' => e = .returned (.string (mk (oct3 m))) ∧ Below w.heap.size w w' := by
  have HB := new_back w (oct3 m) #[.int .u8 ((od (m / 64)).toNat : Int), .int .u8 ((od (m / 8)).toNat : Int), .int .u8 ((od m).toNat : Int)] rfl 3
  have HW := Lib.hid ((Below.refl w.heap.size w).alloc (Nat.le_refl _) (.cells #[.int .u8 ((od (m / 64)).toNat : Int), .int .u8 ((od (m / 8)).toNat : Int), .int .u8 ((od m).toNat : Int)] 5))
  rw [show (oct3 m).length = 3 from rfl] at HB
  generalize mk (oct3 m) = fin at HB ⊢
  simp only [← dig_od, Int.natCast_ediv] at HB HW
  simp only [show ((64 : Nat) : Int) = 64 from rfl, show ((8 : Nat) : Int) = 8 from rfl] at HB HW
  go_enter Try.func25, Try.ntmps25
  go_wp2
  go_ret
  exact ⟨rfl, HW.out⟩

theorem toList_data (s : ByteArray) : s.toList = s.data.toList := ByteArray.toList_eq s
set_option maxHeartbeats 1000000 in
set_option maxRecDepth 100000 in
theorem ix45 (s : ByteArray) (w : World) :
    Calls Try.prog 45 #[.string s, .string ⟨#[10]⟩] w fun e w' => e = .returned (.int .i64 (Lib.indexByte (ls s) 10)) ∧ w = w' := by
  go_enter Try.func45, Try.ntmps45
  go_wp2_with (go_at_call 33; refine (ib33 _ _ _).mono ?_; rintro e w' ⟨rfl, rfl⟩)
  · go_ret
    have he : [10] = s.toList := by simpa using ‹([10] == s.toList) = true›
    rw [toList_data] at he
    show _ = Ending.returned (.int .i64 (Lib.indexByte s.data.toList 10)) ∧ _
    rw [← he]
    exact ⟨rfl, rfl⟩
  · go_ret
    exact ⟨rfl, rfl⟩
set_option maxHeartbeats 1000000 in
set_option maxRecDepth 100000 in
theorem cut38_miss (s : ByteArray) (w : World) (h : ¬ nl (ls s) < s.size) :
    Calls Try.prog 38 #[.string s, .string ⟨#[10]⟩] w fun e w' => e = .returned (.tuple #[.string s, .string ⟨#[]⟩, .bool false]) ∧ w = w' := by
  have H := Lib.hid (index_no (ls s) (by rw [ls_len]; exact h))
  clear h
  go_enter Try.func38, Try.ntmps38
  go_wp2_with (go_at_call 45; refine (ix45 _ _).mono ?_; rintro e w' ⟨rfl, rfl⟩; rw [H.out])
  go_ret3
  exact ⟨rfl, rfl⟩
set_option maxHeartbeats 1000000 in
set_option maxRecDepth 100000 in
theorem cut38_hit (s : ByteArray) (i : Nat) (w : World) (h : nl (ls s) = i) (hi : i < s.size) (hs : s.size ≤ maxLen) :
    Calls Try.prog 38 #[.string s, .string ⟨#[10]⟩] w fun e w' => e = .returned (.tuple #[.string (s.extract 0 i), .string (s.extract (i + 1) s.size), .bool true]) ∧ w.drewN 1 = w' := by
  unfold maxLen at hs
  have H : Hid (Lib.indexByte (ls s) 10 = i) := Lib.hid (by rw [index_nl _ (by rw [ls_len, h]; exact hi), h])
  clear h
  have c1 : (0 : Int) ≤ ↑i := by omega
  have c2 : (↑i : Int) ≤ ↑s.size := by omega
  have c3 : (0 : Int) ≤ ↑i + 1 := by omega
  have c4 : (↑i + 1 : Int) ≤ ↑s.size := by omega
  go_enter Try.func38, Try.ntmps38
  go_wp2_with (go_at_call 45; refine (ix45 _ _).mono ?_; rintro e w' ⟨rfl, rfl⟩; rw [H.out])
  go_region
  go_wp2
  go_ret3
  exact ⟨rfl, rfl⟩
theorem cut26_miss (s : ByteArray) (w : World) (h : ¬ nl (ls s) < s.size) :
    Calls Try.prog 26 #[.string s, .string ⟨#[10]⟩] w fun e w' => e = .returned (.tuple #[.string s, .string ⟨#[]⟩, .bool false]) ∧ w = w' := by
  have H := Lib.hid h
  clear h
  go_enter Try.func26, Try.ntmps26
  go_wp2_with (go_at_call 38; refine (cut38_miss _ _ H.out).mono ?_; rintro e w' ⟨rfl, rfl⟩)
  go_ret3
  exact ⟨rfl, rfl⟩
theorem cut26_hit (s : ByteArray) (i : Nat) (w : World) (h : nl (ls s) = i) (hi : i < s.size) (hs : s.size ≤ maxLen) :
    Calls Try.prog 26 #[.string s, .string ⟨#[10]⟩] w fun e w' => e = .returned (.tuple #[.string (s.extract 0 i), .string (s.extract (i + 1) s.size), .bool true]) ∧ w.drewN 1 = w' := by
  have H := Lib.hid h
  clear h
  go_enter Try.func26, Try.ntmps26
  go_wp2_with (go_at_call 38; refine (cut38_hit _ _ _ H.out hi hs).mono ?_; rintro e w' ⟨rfl, rfl⟩)
  go_ret3
  exact ⟨rfl, rfl⟩
end Go.Proofs.Ytdjfapaebonadaa
