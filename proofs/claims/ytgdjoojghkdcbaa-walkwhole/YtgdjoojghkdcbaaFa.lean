/- walk's wrong, start, partsToGo, behind. Conditions: texts of few bytes. -/
import Derived.Test.YtgdjoojghkdcbaaFp
namespace Go.Proofs.Ytgdjoojghkdcbaa
open Go.RowKit Go.PlainAid Pth
set_option linter.unusedSimpArgs false

set_option maxHeartbeats 1000000 in
set_option maxRecDepth 100000 in
theorem wrong25 (s : ByteArray) (w : World) (hs : s.size ≤ maxLen) : Calls Try.prog 25 #[.string s] w fun e w' => e = .returned (.int .i64 (wrongE s)) ∧ w = w' := by
  have C := right10 s w hs
  unfold maxLen at hs
  by_cases h0 : s.size = 0
  · rw [show wrongE s = 12 by unfold wrongE; rw [if_pos h0]]
    have he := toList_em h0
    clear C h0
    go_enter Try.func25, Try.ntmps25
    go_wp2
    go_ret
    exact ⟨rfl, rfl⟩
  have he := toList_ne h0
  by_cases h1 : 4095 < s.size
  · rw [show wrongE s = 18 by unfold wrongE; rw [if_neg h0, if_pos h1]]
    have h1' : (4095 : Int) < (s.size : Int) := by omega
    clear C
    go_enter Try.func25, Try.ntmps25
    go_wp2
    go_ret
    exact ⟨rfl, rfl⟩
  have h1' : ¬ (4095 : Int) < (s.size : Int) := by omega
  have eP : pathB s = !hasB s 0 := by unfold pathB; rw [decide_eq_true (by omega)]; simp
  rw [eP] at C
  have eW : wrongE s = if hasB s 0 = true then 11 else 0 := by unfold wrongE; rw [if_neg h0, if_neg h1]
  rw [eW]
  clear eW eP
  cases hb : hasB s 0
  · rw [hb] at C
    replace C := Lib.hid C
    rw [if_neg (by simp)]
    go_enter Try.func25, Try.ntmps25
    go_wp2_with (go_at_call 50; refine C.out.mono ?_; rintro e w' ⟨rfl, rfl⟩)
    go_ret
    exact ⟨rfl, rfl⟩
  · rw [hb] at C
    replace C := Lib.hid C
    rw [if_pos rfl]
    go_enter Try.func25, Try.ntmps25
    go_wp2_with (go_at_call 50; refine C.out.mono ?_; rintro e w' ⟨rfl, rfl⟩)
    go_ret
    exact ⟨rfl, rfl⟩

set_option maxHeartbeats 1000000 in
set_option maxRecDepth 100000 in
theorem start26 (a : Int) (s : ByteArray) (w : World) : Calls Try.prog 26 #[.int .i64 a, .string s] w fun e w' => e = .returned (.int .i64 (if absB s = true then 1 else a)) ∧ w = w' := by
  have C := abs14 s w
  cases hb : absB s
  · rw [hb] at C
    replace C := Lib.hid C
    rw [if_neg (by simp)]
    go_enter Try.func26, Try.ntmps26
    go_wp2_with (go_at_call 51; refine C.out.mono ?_; rintro e w' ⟨rfl, rfl⟩)
    go_ret
    exact ⟨rfl, rfl⟩
  · rw [hb] at C
    replace C := Lib.hid C
    rw [if_pos rfl]
    go_enter Try.func26, Try.ntmps26
    go_wp2_with (go_at_call 51; refine C.out.mono ?_; rintro e w' ⟨rfl, rfl⟩)
    go_ret
    exact ⟨rfl, rfl⟩

/-- The call returns a list of just these texts, which can be read. -/
def TellsL (w : World) (l : List ByteArray) (e : Ending) (w' : World) : Prop := ∃ v, e = .returned v ∧ ListAt v l w' ∧ Below w.heap.size w w'

theorem list_len {v : Value} {l : List ByteArray} {w : World} (h : ListAt v l w) : ∃ a c, v = .slice a l.length c := by
  rcases h with ⟨rfl, rfl⟩ | ⟨g, cap, rfl, _⟩
  · exact ⟨_, _, rfl⟩
  · exact ⟨_, _, rfl⟩

set_option maxHeartbeats 1000000 in
set_option maxRecDepth 100000 in
theorem goes27 (s : ByteArray) (w : World) (hs : s.size ≤ 10000) : Calls Try.prog 27 #[.string s] w (TellsL w (goL s)) := by
  have C := Lib.hid (parts16 s w hs)
  by_cases h0 : (partsL s).length = 0
  · rw [show goL s = [⟨#[46]⟩] from if_pos h0]
    go_enter Try.func27, Try.ntmps27
    go_wp2_with fail
    refine C.out.mono ?_
    rintro e w1 ⟨v, rfl, ho, hb⟩
    obtain ⟨a, c, rfl⟩ := list_len ho.list
    rw [h0]
    have HB := Lib.hid (hb.alloc hb.size (.cells #[.string ⟨#[46]⟩] 9))
    clear ho hb
    go_wp2
    go_ret
    refine ⟨_, rfl, .inr ⟨w1.heap.size, 1, rfl, Nat.le_refl _, by simp, fun j x hj => ?_⟩, HB.out⟩
    match j, hj with
    | 0, hj => simp at hj; subst hj; exact cell_of_one (heap_alloc_new w1 _)
  · rw [show goL s = partsL s from if_neg h0]
    have h0' : (((partsL s).length : Int) == 0) = false := by rw [beq_eq_false_iff_ne]; omega
    have hl : (partsL s).length ≤ 10001 := by
      have h1 := pcsF_len s s.size 0
      have h2 := List.length_filter_le (fun x : ByteArray => decide (0 < x.size)) (pcs s)
      unfold partsL
      unfold pcs at h2 ⊢
      omega
    go_enter Try.func27, Try.ntmps27
    go_wp2_with fail
    refine C.out.mono ?_
    rintro e w1 ⟨v, rfl, ho, hb⟩
    obtain ⟨a, c, rfl⟩ := list_len ho.list
    have HB := Lib.hid hb
    have HO := Lib.hid ho.list
    clear ho hb
    go_wp2
    go_ret
    exact ⟨_, rfl, HO.out, HB.out⟩

theorem joinS_size (a b : ByteArray) : (joinS a b).size ≤ a.size + b.size + 1 := by
  unfold joinS
  split
  · omega
  · split
    · rw [app_size]; omega
    · rw [app_size, app_size, show (⟨#[47]⟩ : ByteArray).size = 1 from rfl]; omega

set_option maxHeartbeats 1000000 in
set_option maxRecDepth 100000 in
theorem behind32 (t : ByteArray) (l : List ByteArray) (slash : Bool) (v : Value) (w : World) (ht : t.size ≤ 5000) (hl : totL l ≤ 4900) (hn : l.length ≤ 10001)
    (hv : (l = [] ∧ ∃ a c, v = .slice a 0 c) ∨ ∃ bk o c, v = .slice (some ⟨bk, o, none⟩) l.length c ∧ bk < w.heap.size ∧ l.length ≤ c ∧ ∀ j x, l[j]? = some x → w.cell? ⟨bk, o + j, none⟩ = some (.string x)) :
    Calls Try.prog 32 #[.string t, v, .bool slash] w fun e w' => e = .returned (.string (behS t l slash)) ∧ Below w.heap.size w w' := by
  have hjl := join_le l
  have J1 := Lib.hid (fun w => join22 t (joinL l) w (by omega) (by omega))
  have J2 := Lib.hid (fun w => join22 t ⟨#[]⟩ w (by omega) (by decide))
  have hsz := joinS_size t (joinL l)
  have J3 := Lib.hid (fun w => join22 (joinS t (joinL l)) ⟨#[]⟩ w (by omega) (by decide))
  rcases hv with ⟨rfl, a, c, rfl⟩ | ⟨bk, o, c, rfl, hbk, hlc, hcell⟩
  · have e1 : ¬ 0 < ([] : List ByteArray).length := by simp
    cases slash
    · rw [show behS t [] false = t by unfold behS; rw [if_neg (by simp), if_neg e1]]
      go_enter Try.func32, Try.ntmps32
      go_wp2
      go_ret
      exact ⟨rfl, Below.refl _ _⟩
    · rw [show behS t [] true = joinS t ⟨#[]⟩ by unfold behS; rw [if_pos rfl, if_neg e1]]
      go_enter Try.func32, Try.ntmps32
      go_wp2_with (go_at_call 59; refine (J2.out _).mono ?_; rintro e w' ⟨rfl, rfl⟩)
      go_ret
      exact ⟨rfl, Below.refl _ _⟩
  · by_cases h0 : 0 < l.length
    · have h0' : (0 : Int) < (l.length : Int) := by omega
      have CJ := Try.strings_Join bk o c l ⟨#[47]⟩ w hcell hbk (by omega) hlc (by
        have := join_is l
        have h2 : (⟨(Lib.join (l.map (·.data.toList)) [47]).toArray⟩ : ByteArray).size = (Lib.join (l.map (·.data.toList)) [47]).length := by simp [ByteArray.size]
        rw [this] at h2
        show (Lib.join (l.map (·.data.toList)) [47]).length ≤ _
        omega)
      rw [show (⟨(Lib.join (l.map (·.data.toList)) (⟨#[47]⟩ : ByteArray).data.toList).toArray⟩ : ByteArray) = joinL l from join_is l] at CJ
      generalize hjn : joinL l = jn at CJ J1 J3 hsz
      replace CJ := Lib.hid CJ
      clear hcell
      cases slash
      · rw [show behS t l false = joinS t jn by unfold behS; rw [if_neg (by simp), if_pos h0, hjn]]
        generalize joinS t jn = r at J1 J3
        go_enter Try.func32, Try.ntmps32
        go_wp2_with fail
        refine CJ.out.mono ?_
        rintro e w1 ⟨rfl, hb⟩
        have HB := Lib.hid hb
        clear hb
        go_wp2_with (go_at_call 59; refine (J1.out _).mono ?_; rintro e w' ⟨rfl, rfl⟩)
        go_ret
        exact ⟨rfl, HB.out⟩
      · rw [show behS t l true = joinS (joinS t jn) ⟨#[]⟩ by unfold behS; rw [if_pos rfl, if_pos h0, hjn]]
        generalize joinS t jn = r at J1 J3
        generalize joinS r ⟨#[]⟩ = r2 at J3
        go_enter Try.func32, Try.ntmps32
        go_wp2_with fail
        refine CJ.out.mono ?_
        rintro e w1 ⟨rfl, hb⟩
        have HB := Lib.hid hb
        clear hb
        go_wp2_with (go_at_call 59; (first | ((with_reducible refine (J1.out _).mono ?_); rintro e w' ⟨rfl, rfl⟩) | ((with_reducible refine (J3.out _).mono ?_); rintro e w' ⟨rfl, rfl⟩)))
        go_ret
        exact ⟨rfl, HB.out⟩
    · obtain rfl : l = [] := List.eq_nil_of_length_eq_zero (by omega)
      have e1 : ¬ 0 < ([] : List ByteArray).length := by simp
      cases slash
      · rw [show behS t [] false = t by unfold behS; rw [if_neg (by simp), if_neg e1]]
        go_enter Try.func32, Try.ntmps32
        go_wp2
        go_ret
        exact ⟨rfl, Below.refl _ _⟩
      · rw [show behS t [] true = joinS t ⟨#[]⟩ by unfold behS; rw [if_pos rfl, if_neg e1]]
        go_enter Try.func32, Try.ntmps32
        go_wp2_with (go_at_call 59; refine (J2.out _).mono ?_; rintro e w' ⟨rfl, rfl⟩)
        go_ret
        exact ⟨rfl, Below.refl _ _⟩
end Go.Proofs.Ytgdjoojghkdcbaa
