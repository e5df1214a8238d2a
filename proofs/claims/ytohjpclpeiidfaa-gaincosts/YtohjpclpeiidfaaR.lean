/- Contracts of the document's Bytes, Cost and Best. Conditions: lengths. -/
import Derived.Test.YtohjpclpeiidfaaL
namespace Go.Proofs.Ytohjpclpeiidfaa
open Go.RowKit Go.PlainAid
set_option linter.unusedSimpArgs false
set_option linter.unusedVariables false
namespace Fl

def octD (l : List UInt8) : Bool := decide (l.length ≤ 256)
/-- How many bytes a way takes, as the document says. -/
def byD (way : Int) (l : List UInt8) : Int :=
  if way = 1 then (if txt l then (l.length : Int) else -1)
  else if way = 2 then (Uu.sizeR l.length : Int)
  else if way = 3 then (if octD l then ((Es.esc l).length : Int) else -1)
  else -2
def kcD (way : Int) (l : List UInt8) : Int :=
  if way = 1 then (if txt l then ks l.length l.length else kInf)
  else if way = 2 then ks (Uu.sizeR l.length) l.length
  else if way = 3 then (if octD l then ks (Es.esc l).length l.length else kInf)
  else kNan
theorem sizeR_len (l : List UInt8) : (Uu.restL l).length = Uu.sizeR l.length := Uu.restL_len l

set_option maxHeartbeats 2000000 in
set_option maxRecDepth 100000 in
theorem bytes33 (way : Int) (s : ByteArray) (w : World) (hs : s.size ≤ 3000) : Calls Try.prog 33 #[.int .i64 way, .string s] w fun e w' => e = .returned (.int .i64 (byD way (ls s))) ∧ Below w.heap.size w w' := by
  have hl := ls_len s
  have hb0 := Lib.hid fun w : World => Below.refl w.heap.size w
  by_cases h1 : way = 1
  · subst h1
    have CT := Lib.hid fun w => text24 s w (by omega)
    cases ht : txt (ls s)
    · have e : byD 1 (ls s) = -1 := by unfold byD; rw [if_pos rfl, ht]; rfl
      rw [e]
      rw [ht] at CT
      clear e ht
      go_enter Try.func33, Try.ntmps33
      go_wp2_with (go_at_call 24; refine (CT.out _).mono ?_; rintro e w' ⟨rfl, rfl⟩)
      go_ret
      exact ⟨rfl, hb0.out _⟩
    · have e : byD 1 (ls s) = s.size := by unfold byD; rw [if_pos rfl, ht, hl]; rfl
      rw [e]
      rw [ht] at CT
      clear e ht
      go_enter Try.func33, Try.ntmps33
      go_wp2_with (go_at_call 24; refine (CT.out _).mono ?_; rintro e w' ⟨rfl, rfl⟩)
      go_ret
      exact ⟨rfl, hb0.out _⟩
  · by_cases h2 : way = 2
    · subst h2
      have e : byD 2 (ls s) = ((mk (Uu.restL (ls s))).size : Int) := by unfold byD; rw [if_neg (by decide), if_pos rfl, mk_size, sizeR_len]
      rw [e]
      have C := Lib.hid (Uu.rest13 s w hs)
      have hz : (mk (Uu.restL (ls s))).size ≤ 100000 := by rw [mk_size, sizeR_len, hl]; unfold Uu.sizeR; split <;> omega
      generalize mk (Uu.restL (ls s)) = R at *
      clear e
      go_enter Try.func33, Try.ntmps33
      go_wp2_with fail
      refine C.out.mono ?_
      rintro e w1 ⟨rfl, hb1⟩
      have HB := Lib.hid hb1
      clear hb1
      go_wp2
      go_ret
      exact ⟨rfl, HB.out⟩
    · by_cases h3 : way = 3
      · subst h3
        cases ho : octD (ls s)
        · have e : byD 3 (ls s) = -1 := by unfold byD; rw [if_neg (by decide), if_neg (by decide), if_pos rfl, ho]; rfl
          rw [e]
          unfold octD at ho
          rw [hl] at ho
          have hz2 : ¬ (s.size : Int) ≤ 256 := by simp only [decide_eq_false_iff_not] at ho; omega
          clear e ho
          go_enter Try.func33, Try.ntmps33
          go_wp2
          go_ret
          exact ⟨rfl, hb0.out _⟩
        · have e : byD 3 (ls s) = ((mk (Es.esc (ls s))).size : Int) := by unfold byD; rw [if_neg (by decide), if_neg (by decide), if_pos rfl, ho, mk_size]; rfl
          rw [e]
          unfold octD at ho
          rw [hl] at ho
          have hz2 : (s.size : Int) ≤ 256 := by simp only [decide_eq_true_eq] at ho; omega
          have C : Hid (Calls Try.prog 41 #[.string s] w fun e w' => e = .returned (.string (mk (Es.esc (ls s)))) ∧ Below w.heap.size w w') := Lib.hid (Es.escape10 s w (by omega))
          have hz : (mk (Es.esc (ls s))).size ≤ 100000 := by rw [mk_size]; have := (Es.esc_len_le (ls s)).2; omega
          generalize mk (Es.esc (ls s)) = R at *
          clear e ho
          go_enter Try.func33, Try.ntmps33
          go_wp2_with fail
          refine C.out.mono ?_
          rintro e w1 ⟨rfl, hb1⟩
          have HB := Lib.hid hb1
          clear hb1
          go_wp2
          go_ret
          exact ⟨rfl, HB.out⟩
      · have e : byD way (ls s) = -2 := by unfold byD; rw [if_neg h1, if_neg h2, if_neg h3]
        rw [e]
        have d1 : (way == 1) = false := by simpa using h1
        have d2 : (way == 2) = false := by simpa using h2
        have d3 : (way == 3) = false := by simpa using h3
        clear e h1 h2 h3
        go_enter Try.func33, Try.ntmps33
        go_wp2
        go_ret
        exact ⟨rfl, hb0.out _⟩

theorem q00 : kq 0 0 = kNan := by decide +kernel
theorem q10 : kq 4607182418800017408 0 = kInf := by decide +kernel
def ShrB (k : Int) (w : World) (e : Ending) (w' : World) : Prop := ∃ r, e = .returned (.float .f64 r) ∧ r < 18446744073709551616 ∧ ky r = k ∧ Below w.heap.size w w'
set_option maxHeartbeats 2000000 in
set_option maxRecDepth 100000 in
theorem cost20 (way : Int) (s : ByteArray) (w : World) (hs : s.size ≤ 3000) : Calls Try.prog 20 #[.int .i64 way, .string s] w (ShrB (kcD way (ls s)) w) := by
  have hl := ls_len s
  have C := Lib.hid (bytes33 way s w hs)
  have hc : (byD way (ls s) = -2 ∧ kcD way (ls s) = kNan) ∨ (byD way (ls s) = -1 ∧ kcD way (ls s) = kInf) ∨ ∃ n : Nat, byD way (ls s) = n ∧ kcD way (ls s) = ks n s.size := by
    unfold byD kcD
    by_cases h1 : way = 1
    · rw [if_pos h1, if_pos h1]
      cases txt (ls s)
      · exact .inr (.inl ⟨rfl, rfl⟩)
      · exact .inr (.inr ⟨_, rfl, by rw [hl]; rfl⟩)
    · rw [if_neg h1, if_neg h1]
      by_cases h2 : way = 2
      · rw [if_pos h2, if_pos h2]
        exact .inr (.inr ⟨_, rfl, by rw [hl]⟩)
      · rw [if_neg h2, if_neg h2]
        by_cases h3 : way = 3
        · rw [if_pos h3, if_pos h3]
          cases octD (ls s)
          · exact .inr (.inl ⟨rfl, rfl⟩)
          · exact .inr (.inr ⟨_, rfl, by rw [hl]; rfl⟩)
        · rw [if_neg h3, if_neg h3]
          exact .inl ⟨rfl, rfl⟩
  generalize byD way (ls s) = n at *
  generalize kcD way (ls s) = k at *
  rcases hc with ⟨rfl, rfl⟩ | ⟨rfl, rfl⟩ | ⟨n, rfl, rfl⟩
  · go_enter Try.func20, Try.ntmps20
    go_wp2_with fail
    refine C.out.mono ?_
    rintro e w1 ⟨rfl, hb1⟩
    have HB := Lib.hid hb1
    have HB2 := Lib.hid (hb1.trans ((Dr.bel (quoW_or w1 0 0)).mono hb1.size))
    clear hb1
    go_wp2
    go_ret
    exact ⟨_, rfl, quoB_lt _ _ _, (quoB_ky _ _ _).trans q00, HB2.out⟩
  · go_enter Try.func20, Try.ntmps20
    go_wp2_with fail
    refine C.out.mono ?_
    rintro e w1 ⟨rfl, hb1⟩
    have HB := Lib.hid hb1
    have HB2 := Lib.hid (hb1.trans ((Dr.bel (quoW_or w1 4607182418800017408 0)).mono hb1.size))
    clear hb1
    go_wp2
    go_ret
    exact ⟨_, rfl, quoB_lt _ _ _, (quoB_ky _ _ _).trans q10, HB2.out⟩
  · have d1 : ((n : Int) == -2) = false := by simp
    have d2 : ((n : Int) == -1) = false := by simp
    have CS := Lib.hid fun w => share14' n s.size w
    go_enter Try.func20, Try.ntmps20
    go_wp2_with fail
    refine C.out.mono ?_
    rintro e w1 ⟨rfl, hb1⟩
    have HB := Lib.hid hb1
    clear hb1
    go_wp2_with fail
    refine (CS.out _).mono ?_
    rintro e w2 ⟨r, rfl, a1, a2, a3⟩
    have HB2 := Lib.hid (HB.out.trans (a3.bel.mono HB.out.size))
    clear a3
    go_wp2
    go_ret
    exact ⟨r, rfl, a1, a2, HB2.out⟩
end Fl
end Go.Proofs.Ytohjpclpeiidfaa
