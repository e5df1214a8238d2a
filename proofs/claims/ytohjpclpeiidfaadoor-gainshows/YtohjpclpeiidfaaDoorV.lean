/- Contracts: a number's digits (the document's), FormatFloat, Show. -/
import Derived.Test.YtohjpclpeiidfaaDoorU
import Derived.Great.BuildSlice
import Derived.Laws.IdiomStrings
namespace Go.Proofs.YtohjpclpeiidfaaDoor
open Go.RowKit Go.PlainAid
set_option linter.unusedSimpArgs false
set_option linter.unusedVariables false
namespace Fl

def dd (u : Nat) : ByteArray := mk (Lib.decDigits u)
theorem conv_one (w : World) (X : Int) (c : UInt8) (h : X = (c.toNat : Int)) : (convert 36 9 (.slice (some ⟨w.heap.size, 0, none⟩) 1 1)).run Tryd.prog (w.alloc (.cells #[.int .u8 X] 5)) = .ok (.string (mk [c])) (w.alloc (.cells #[.int .u8 X] 5)) := by
  subst h
  exact run_convert_bytes_back (P := Tryd.prog) _ 36 9 5 ⟨w.heap.size, 0, none⟩ 1 [c] Tryd.underlying36 Tryd.underlying5 Tryd.underlying9 (fun j hj => by
    have : j = 0 := by simpa using hj
    subst this
    rw [Lib.add_plain, World.cell?_alloc_new]
    rfl)
theorem dig_byte (n : Nat) (h : n < 10) : (((48 : Int) + n)) = ((UInt8.ofNat (48 + n)).toNat : Int) := by
  rw [UInt8.toNat_ofNat']; omega
theorem dig_byte' (m : Nat) : ((48 : Int) + (m : Int) % 10) = ((UInt8.ofNat (48 + m % 10)).toNat : Int) := by
  rw [← dig_byte (m % 10) (by omega)]; omega
def Rel12 (u : Nat) (w : World) (n out : Value) (wx : World) : Prop := ∃ (m : Nat) (l : List UInt8), n = .int .u64 m ∧ out = .string (mk l) ∧ m < 18446744073709551616 ∧ Hid (Lib.decDigits m ++ l = Lib.decDigits u) ∧ Hid (Below w.heap.size w wx)
set_option maxHeartbeats 2000000 in
set_option maxRecDepth 100000 in
theorem digits13 (u : Nat) (hu : u < 18446744073709551616) (w : World) : Calls Tryd.prog 13 #[.int .u64 u] w fun e w' => e = .returned (.string (dd u)) ∧ Below w.heap.size w w' := by
  have HL : Hid ((Lib.decDigits u).length ≤ 20) := Lib.hid (by rw [Lib.decDigits_length]; exact nd_lt 19 u (by omega))
  go_enter Tryd.func13, Tryd.ntmps13
  go_wp2
  go_loopw [0, 3] (Rel12 u w) (fun n _ _ => (intOf n).toNat)
  case atStart => exact ⟨u, [], rfl, rfl, hu, Lib.hid (by simp), Lib.hid (Below.refl _ _)⟩
  case round =>
    obtain ⟨m, l, rfl, rfl, hm, HR, HB⟩ := hrel
    rename World => wx
    have hl : (mk l).size ≤ 20 := by rw [mk_size]; have := congrArg List.length HR.out; rw [List.length_append] at this; have := HL.out; omega
    have hm1 : ∀ c : UInt8, ¬ 9223372036854775807 < (mk [c]).size + (mk l).size := fun c => by rw [mk_size]; simp; omega
    by_cases h10 : 10 ≤ m
    · have hcv := conv_one wx (48 + (m : Int) % 10) _ (dig_byte' m)
      have HD : Hid (Lib.decDigits m = Lib.decDigits (m / 10) ++ [UInt8.ofNat (48 + m % 10)]) := Lib.hid (by rw [Lib.decDigits, dif_neg (by omega)])
      have hm2 := hm1 (UInt8.ofNat (48 + m % 10))
      have HA := Lib.hid (mk_app [UInt8.ofNat (48 + m % 10)] l)
      have HBB := Lib.hid (HB.out.alloc HB.out.size (.cells #[.int .u8 (48 + (m : Int) % 10)] 5))
      clear hm1
      generalize UInt8.ofNat (48 + m % 10) = c at hcv HD hm2 HA
      go_wp2
      go_roundw
      case rel => exact ⟨m / 10, [c] ++ l, by go_num, by rw [HA.out], by omega, Lib.hid (by rw [← HR.out, HD.out]; simp), HBB⟩
      case measure => simp [intOf]; omega
    · have hcv := conv_one wx (48 + (m : Int)) _ (dig_byte m (by omega))
      have HD : Hid (Lib.decDigits m = [UInt8.ofNat (48 + m)]) := Lib.hid (Lib.decDigits_one (by omega))
      have hm2 := hm1 (UInt8.ofNat (48 + m))
      have HA := Lib.hid (mk_app [UInt8.ofNat (48 + m)] l)
      have HBB := Lib.hid (HB.out.alloc HB.out.size (.cells #[.int .u8 (48 + (m : Int))] 5))
      clear hm1
      generalize UInt8.ofNat (48 + m) = c at hcv HD hm2 HA
      go_wp2
      go_ret
      refine ⟨?_, HBB.out⟩
      unfold dd
      rw [← HR.out, HD.out, ← HA.out]
      rfl


/-- How a word is told: what the call of ftoa64 adds. -/
def Told (b : Nat) (F : List UInt8) : Prop := F.length ≤ 20 ∧ ∀ (M : Nat) (l : List UInt8) (w : World), Dst M l w → l.length = 0 → Env w → Calls Tryd.prog 29 #[.slice (some ⟨M, 0, none⟩) l.length 24, .float .f64 b, .int .u8 102, .int .i64 3] w (GivesA M (l ++ F) w)
theorem Dst.cell {M : Nat} {l : List UInt8} {w : World} (h : Dst M l w) (j : Nat) (hj : j < l.length) : w.cell? ((⟨M, 0, none⟩ : Addr).add j) = some (.int .u8 (l[j].toNat : Int)) := by
  have := World.ownsRow.cells h (g := M) rfl j (.int .u8 (l[j].toNat : Int)) (by simp [bc, hj])
  exact this
theorem Dst.text {M : Nat} {l : List UInt8} {w : World} (h : Dst M l w) : (convert 36 9 (.slice (some ⟨M, 0, none⟩) l.length 24)).run Tryd.prog w = .ok (.string (mk l)) w :=
  run_convert_bytes_back (P := Tryd.prog) w 36 9 5 ⟨M, 0, none⟩ 24 l Tryd.underlying36 Tryd.underlying5 Tryd.underlying9 (fun j hj => h.cell j hj)

set_option maxHeartbeats 4000000 in
set_option maxRecDepth 100000 in
theorem format18 (b : Nat) (F : List UInt8) (w : World) (hT : Told b F) (he : Env w) :
    Calls Tryd.prog 18 #[.float .f64 b, .int .u8 102, .int .i64 3, .int .i64 64] w fun e w' => e = .returned (.string (mk F)) ∧ Below w.heap.size w w' := by
  obtain ⟨i0, hi0, hz0, hz1, hz2⟩ := info_parts Tryd.info5
  have HT := Lib.hid hT
  have HE := Lib.hid he
  clear hT he
  have hmx : max (7 : Int) 24 = 24 := by omega
  go_enter Tryd.func18, Tryd.ntmps18
  go_wp2_with (at_make; refine wpList_make_own _ rfl _ _ 36 rfl w.heap.size 5 i0 (.int .u8 0) 1 Tryd.underlying36 hi0 hz0 hz1 .i64 .i64 _ 24 rfl rfl rfl ?m1 ?m2 (Nat.le_refl _) ?_)
  case m1 => rw [hz2]; omega
  case m2 => unfold maxLen; omega
  intro w0 hown0 hgrow0
  have HD : Hid (Dst w.heap.size [] w0) := Lib.hid hown0
  have HB0 := Lib.hid ((Below.refl w.heap.size w).grown hgrow0 (Nat.le_refl _) (fun k h => by cases h))
  have C := Lib.hid (HT.out.2 w.heap.size [] w0 HD.out rfl (HE.out.below HB0.out))
  clear hown0 hgrow0
  rw [List.nil_append] at C
  go_wp2_with fail
  refine C.out.mono ?_
  rintro e w1 ⟨rfl, h1, h2⟩
  have ht := h1.text
  have HB := Lib.hid (HB0.out.trans h2)
  clear h1 h2 C HD
  go_wp2
  go_ret
  exact ⟨rfl, HB.out⟩
theorem format12 (b : Nat) (F : List UInt8) (w : World) (hT : Told b F) (he : Env w) :
    Calls Tryd.prog 12 #[.float .f64 b, .int .u8 102, .int .i64 3, .int .i64 64] w fun e w' => e = .returned (.string (mk F)) ∧ Below w.heap.size w w' := by
  have C := Lib.hid (format18 b F w hT he)
  go_enter Tryd.func12, Tryd.ntmps12
  go_wp2_with fail
  refine C.out.mono ?_
  rintro e w1 ⟨rfl, h⟩
  have HB := Lib.hid h
  clear h
  go_wp2
  go_ret
  exact ⟨rfl, HB.out⟩
theorem gt_max (a : Nat) : (FloatKind.f64.format.order a 9218868437227405311 == some .gt) = (!nn a && !sg a && decide (rg a = 9218868437227405312)) := by
  rw [gt_is, nn_M, vl_M]
  cases h : nn a
  · have h4 : rg a ≤ 9218868437227405312 := not_nn h
    unfold vl
    cases hs : sg a
    · simp only [Bool.false_eq_true, if_false, Bool.not_false, Bool.true_and]
      rw [Bool.eq_iff_iff]; simp only [decide_eq_true_eq]; omega
    · simp only [if_true, Bool.not_false, Bool.true_and, Bool.not_true, Bool.false_and, decide_eq_false_iff_not]
      omega
  · simp
theorem isinf11 (a : Nat) (w : World) :
    Calls Tryd.prog 11 #[.float .f64 a, .int .i64 1] w fun e w' => e = .returned (.bool (!nn a && !sg a && decide (rg a = 9218868437227405312))) ∧ w' = w := by
  have h := gt_max a
  generalize (!nn a && !sg a && decide (rg a = 9218868437227405312)) = r at *
  go_enter Tryd.func11, Tryd.ntmps11
  go_wp2
  go_ret; exact ⟨rfl, rfl⟩
theorem isinf11_neg (a : Nat) (w : World) (ha : a < 18446744073709551616) :
    Calls Tryd.prog 11 #[.float .f64 a, .int .i64 (-1)] w fun e w' => e = .returned (.bool (!nn a && sg a && decide (rg a = 9218868437227405312))) ∧ w' = w := by
  have h := gt_max (Op.negFloat .f64 a)
  rw [nn_neg ha, sg_neg ha, rg_neg ha, Bool.not_not] at h
  generalize (!nn a && sg a && decide (rg a = 9218868437227405312)) = r at *
  go_enter Tryd.func11, Tryd.ntmps11
  go_wp2
  go_ret; exact ⟨rfl, rfl⟩
def showM (a : Nat) : Option ByteArray := if nn a then some ⟨#[110, 111, 110, 101]⟩ else if rg a = 9218868437227405312 then (if sg a then some ⟨#[45, 97, 108, 108]⟩ else some ⟨#[97, 108, 108]⟩) else none
set_option maxHeartbeats 2000000 in
set_option maxRecDepth 100000 in
theorem show6 (a : Nat) (t : ByteArray) (w : World) (ha : a < 18446744073709551616) (he : Env w) (h : showM a = some t ∨ (showM a = none ∧ ∃ F, Told a F ∧ t = mk F)) :
    Calls Tryd.prog 6 #[.float .f64 a] w fun e w' => e = .returned (.string t) ∧ Below w.heap.size w w' := by
  have C1 := Lib.hid fun w => isnan25 a w
  have C2 := Lib.hid fun w => isinf11 a w
  have C3 := Lib.hid fun w => isinf11_neg a w ha
  have HB0 := Lib.hid (Below.refl w.heap.size w)
  have HE := Lib.hid he
  unfold showM at h
  clear ha he
  cases hn : nn a
  · rw [hn] at h C1 C2 C3
    simp only [Bool.false_eq_true, if_false, Bool.not_false, Bool.true_and] at h C2 C3
    by_cases hr : rg a = 9218868437227405312
    · rw [decide_eq_true hr, Bool.and_true] at C2 C3
      rw [if_pos hr] at h
      cases hs : sg a
      · rw [hs] at h C2 C3
        have ht : t = ⟨#[97, 108, 108]⟩ := by
          rcases h with h | ⟨h, _⟩
          · simpa using h.symm
          · simp at h
        subst ht
        clear h hr hn
        go_enter Tryd.func6, Tryd.ntmps6
        go_wp2_with (first
          | (go_at_call 10; (with_reducible refine (C1.out _).mono ?_); rintro e w' ⟨rfl, rfl⟩)
          | (go_at_call 11; (first | ((with_reducible refine (C2.out _).mono ?_); rintro e w' ⟨rfl, rfl⟩) | ((with_reducible refine (C3.out _).mono ?_); rintro e w' ⟨rfl, rfl⟩))))
        go_ret; exact ⟨rfl, HB0.out⟩
      · rw [hs] at h C2 C3
        have ht : t = ⟨#[45, 97, 108, 108]⟩ := by
          rcases h with h | ⟨h, _⟩
          · simpa using h.symm
          · simp at h
        subst ht
        clear h hr hn
        go_enter Tryd.func6, Tryd.ntmps6
        go_wp2_with (first
          | (go_at_call 10; (with_reducible refine (C1.out _).mono ?_); rintro e w' ⟨rfl, rfl⟩)
          | (go_at_call 11; (first | ((with_reducible refine (C2.out _).mono ?_); rintro e w' ⟨rfl, rfl⟩) | ((with_reducible refine (C3.out _).mono ?_); rintro e w' ⟨rfl, rfl⟩))))
        go_ret; exact ⟨rfl, HB0.out⟩
    · rw [decide_eq_false hr, Bool.and_false] at C2 C3
      rw [if_neg hr] at h
      obtain ⟨F, hF, rfl⟩ : ∃ F, Told a F ∧ t = mk F := by
        rcases h with h | ⟨_, h⟩
        · simp at h
        · exact h
      have CF := Lib.hid (format12 a F w hF HE.out)
      clear h hr hn hF
      go_enter Tryd.func6, Tryd.ntmps6
      go_wp2_with (first
        | (go_at_call 10; (with_reducible refine (C1.out _).mono ?_); rintro e w' ⟨rfl, rfl⟩)
        | (go_at_call 11; (first | ((with_reducible refine (C2.out _).mono ?_); rintro e w' ⟨rfl, rfl⟩) | ((with_reducible refine (C3.out _).mono ?_); rintro e w' ⟨rfl, rfl⟩))))
      refine CF.out.mono ?_
      rintro e w1 ⟨rfl, hb⟩
      have HB := Lib.hid hb
      clear hb
      go_wp2
      go_ret; exact ⟨rfl, HB.out⟩
  · rw [hn] at h C1
    have ht : t = ⟨#[110, 111, 110, 101]⟩ := by
      rcases h with h | ⟨h, _⟩
      · simpa using h.symm
      · simp at h
    subst ht
    clear h hn
    go_enter Tryd.func6, Tryd.ntmps6
    go_wp2_with (go_at_call 10; (with_reducible refine (C1.out _).mono ?_); rintro e w' ⟨rfl, rfl⟩)
    go_ret; exact ⟨rfl, HB0.out⟩
end Fl
end Go.Proofs.YtohjpclpeiidfaaDoor
