/- Contracts of Cost and Best. Conditions: lengths. -/
import Derived.Test.YtohjpclpeiidfaaT
import Derived.Test.YtohjpclpeiidfaaEo
import Derived.Test.YtohjpclpeiidfaaD
namespace Go.Proofs.Ytohjpclpeiidfaa
open Go.RowKit Go.PlainAid
set_option linter.unusedSimpArgs false
set_option linter.unusedVariables false
namespace Fl

def kInf : Int := 9218868437227405312
def kNan : Int := 9223372036854775808
/-- May Octal tell these bytes? (Ours.) -/
def octOk (l : List UInt8) : Bool := decide (l.length ≤ 256)
/-- The place of what a way costs. -/
def kc (way : Int) (l : List UInt8) : Int :=
  if way = 1 then (if txt l then ks l.length l.length else kInf)
  else if way = 2 then ks (Uu.sizeR l.length) l.length
  else if way = 3 then (if octOk l then ks (Es.esc l).length l.length else kInf)
  else kNan

theorem Shr.of {k : Int} {w : World} {r : Nat} (h : r < 18446744073709551616) (h2 : ky r = k) : Shr k w (.returned (.float .f64 r)) w := ⟨r, rfl, h, h2, .inl rfl⟩

set_option maxHeartbeats 2000000 in
set_option maxRecDepth 100000 in
theorem cost19 (way : Int) (s : ByteArray) (w : World) (hs : s.size ≤ 3000) : Calls Try.prog 19 #[.int .i64 way, .string s] w (Shr (kc way (ls s)) w) := by
  have CI := Lib.hid fun w => inf32 1 w
  have CN := Lib.hid fun w => nan31 w
  have hl := ls_len s
  by_cases h1 : way = 1
  · subst h1
    have CT := Lib.hid fun w => text23 s w (by omega)
    cases ht : txt (ls s)
    · have e : kc 1 (ls s) = kInf := by unfold kc; rw [if_pos rfl, ht]; rfl
      rw [e]
      rw [ht] at CT
      clear e ht
      go_enter Try.func19, Try.ntmps19
      go_wp2_with (first | (go_at_call 23; refine (CT.out _).mono ?_; rintro e w' ⟨rfl, rfl⟩) | (go_at_call 32; refine (CI.out _).mono ?_; rintro e w' ⟨rfl, rfl⟩))
      go_ret
      exact Shr.of (by decide) rfl
    · have e : kc 1 (ls s) = ks s.size s.size := by unfold kc; rw [if_pos rfl, ht, hl]; rfl
      rw [e]
      rw [ht] at CT
      clear e ht
      have CS := Lib.hid fun w => share13' s.size s.size w
      go_enter Try.func19, Try.ntmps19
      go_wp2_with (go_at_call 23; refine (CT.out _).mono ?_; rintro e w' ⟨rfl, rfl⟩)
      refine (CS.out _).mono ?_
      rintro e w1 ⟨r, rfl, a1, a2, a3⟩
      go_wp2
      go_ret
      exact ⟨r, rfl, a1, a2, a3⟩
  · by_cases h2 : way = 2
    · subst h2
      have e : kc 2 (ls s) = ks (Uu.sizeR s.size) s.size := by unfold kc; rw [if_neg (by decide), if_pos rfl, hl]
      rw [e]
      have CE := Lib.hid fun w => Uu.encoded12 s.size hs w
      have hz : Uu.sizeR s.size ≤ 100000 := by unfold Uu.sizeR; split <;> omega
      generalize Uu.sizeR s.size = z at *
      have CS := Lib.hid fun w => share13' z s.size w
      clear e
      go_enter Try.func19, Try.ntmps19
      go_wp2_with (go_at_call 29; refine (CE.out _).mono ?_; rintro e w' ⟨rfl, rfl⟩)
      refine (CS.out _).mono ?_
      rintro e w1 ⟨r, rfl, a1, a2, a3⟩
      go_wp2
      go_ret
      exact ⟨r, rfl, a1, a2, a3⟩
    · by_cases h3 : way = 3
      · subst h3
        have CE := Lib.hid fun w => Es.escaped11 s w (by omega)
        have hz : (Es.esc (ls s)).length ≤ 100000 := by have := (Es.esc_len_le (ls s)).2; omega
        cases ho : octOk (ls s)
        · have e : kc 3 (ls s) = kInf := by unfold kc; rw [if_neg (by decide), if_neg (by decide), if_pos rfl, ho]; rfl
          rw [e]
          unfold octOk at ho
          rw [hl] at ho
          have hz2 : ¬ (s.size : Int) ≤ 256 := by simp only [decide_eq_false_iff_not] at ho; omega
          clear e ho hz CE
          go_enter Try.func19, Try.ntmps19
          go_wp2_with (go_at_call 32; refine (CI.out _).mono ?_; rintro e w' ⟨rfl, rfl⟩)
          go_ret
          exact Shr.of (by decide) rfl
        · have e : kc 3 (ls s) = ks (Es.esc (ls s)).length s.size := by unfold kc; rw [if_neg (by decide), if_neg (by decide), if_pos rfl, ho, hl]; rfl
          rw [e]
          unfold octOk at ho
          rw [hl] at ho
          have hz2 : (s.size : Int) ≤ 256 := by simp only [decide_eq_true_eq] at ho; omega
          generalize (Es.esc (ls s)).length = z at *
          have CS := Lib.hid fun w => share13' z s.size w
          clear e ho
          go_enter Try.func19, Try.ntmps19
          go_wp2_with (go_at_call 30; refine (CE.out _).mono ?_; rintro e w' ⟨rfl, rfl⟩)
          refine (CS.out _).mono ?_
          rintro e w1 ⟨r, rfl, a1, a2, a3⟩
          go_wp2
          go_ret
          exact ⟨r, rfl, a1, a2, a3⟩
      · have e : kc way (ls s) = kNan := by unfold kc; rw [if_neg h1, if_neg h2, if_neg h3]
        rw [e]
        have d1 : (way == 1) = false := by simpa using h1
        have d2 : (way == 2) = false := by simpa using h2
        have d3 : (way == 3) = false := by simpa using h3
        clear e h1 h2 h3
        go_enter Try.func19, Try.ntmps19
        go_wp2_with (go_at_call 31; refine (CN.out _).mono ?_; rintro e w' ⟨rfl, rfl⟩)
        go_ret
        exact Shr.of (by decide) rfl
end Fl
end Go.Proofs.Ytohjpclpeiidfaa
