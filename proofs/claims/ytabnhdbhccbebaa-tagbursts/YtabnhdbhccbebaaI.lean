/- TagFinds, walked; First, ours and the document's, from any number. Conditions: the library's own variable holds some number. -/
import Derived.Test.YtabnhdbhccbebaaH
namespace Go.Proofs.Ytabnhdbhccbebaa
open Go.RowKit Go.PlainAid
set_option linter.unusedSimpArgs false
set_option linter.unusedVariables false

set_option maxHeartbeats 4000000 in
set_option maxRecDepth 100000 in
theorem first9_out (F : Int) (v : Value) (ns : List ByteArray) (w : World) (hF : 11881376 ≤ F) : Calls Try.prog 9 #[.int .i64 F, v] w (Gives9 F.toNat ns w) := by
  have HN := Lib.hid (first_none (f := F.toNat) (P := tk ns) (by omega))
  have hd1 : decide (F < 0) = false := decide_eq_false (by omega)
  have hd2 : decide (F < 11881376) = false := decide_eq_false (by omega)
  clear hF
  go_enter Try.func9, Try.ntmps9
  go_wp2
  go_loopw [5] (fun n wx => n = .int .i64 F ∧ Hid (Below w.heap.size w wx)) (fun n _ => 0)
  case atStart => exact ⟨rfl, Lib.hid (Below.refl _ _)⟩
  case round =>
    obtain ⟨rfl, HB⟩ := hrel
    go_wp2
    go_ret
    exact ⟨none, HN.out, rfl, HB.out⟩
theorem first9 (F : Int) (v : Value) (ns : List ByteArray) (w : World) (hv : Strs w v ns) (hFw : Few ns) : Calls Try.prog 9 #[.int .i64 F, v] w (Gives9 F.toNat ns w) := by
  by_cases h : F < 0
  · have := first9_neg F h v ns w hv hFw
    rw [show F.toNat = 0 by omega]; exact this
  · by_cases h2 : F < 11881376
    · exact first9_pos F F.toNat (by omega) (by omega) v ns w hv hFw
    · exact first9_out F v ns w (by omega)
theorem first8 (F : Int) (v : Value) (ns : List ByteArray) (w : World) (he : Env w) (hv : Strs w v ns) (hFw : Few ns) : Calls Try.prog 8 #[.int .i64 F, v] w (Gives8 F.toNat ns w) := by
  by_cases h2 : F < 11881376
  · exact first8_in F F.toNat (by omega) v ns w (by omega) he hv hFw
  · exact first8_out F v ns w (by omega)
theorem few_of {ns : List ByteArray} (h : smallB ns = true) : Few ns := by
  unfold smallB at h
  rw [Bool.and_eq_true, List.all_eq_true] at h
  exact ⟨of_decide_eq_true h.2, fun s hs => by have := of_decide_eq_true (h.1 s hs); omega⟩
theorem lbeq (a : ByteArray) : (a.toList == a.toList) = true := by simp
set_option maxHeartbeats 8000000 in
set_option maxRecDepth 100000 in
theorem finds3 (F : Int) (v : Value) (ns : List ByteArray) (n : Int) (w : World) (he : Env w) (hv : Strs w v ns) (hl : ns.length ≤ 9223372036854775807) : Calls Try.prog 3 #[.int .i64 F, v, .int .i64 n] w fun e w' => e = .returned (.bool true) ∧ Below w.heap.size w w' := by
  have CA := Lib.hid (anchor6 w)
  have HV := Lib.hid hv
  have HE := Lib.hid he
  have HS := Lib.hid fun w' (h : Strs w' v ns) => small7 v ns w' h hl
  clear hv he hl
  go_enter Try.func3, Try.ntmps3
  go_wp2_with fail
  refine CA.out.mono ?_
  rintro e w1 ⟨rfl, b1⟩
  have HV1 := Lib.hid (HV.out.below b1)
  have HE1 := Lib.hid (HE.out.on b1)
  have HB1 := Lib.hid b1
  clear b1 CA HV HE
  cases hsm : smallB ns
  · rw [hsm] at HS
    clear hsm
    go_wp2_with (go_at_call 7; refine (HS.out _ HV1.out).mono ?_; rintro e w2 ⟨rfl, rfl⟩)
    go_ret
    exact ⟨rfl, HB1.out⟩
  have HF := Lib.hid (few_of hsm)
  rw [hsm] at HS
  clear hsm
  go_wp2_with fail
  refine (HS.out _ HV1.out).mono ?_
  rintro e w2 ⟨rfl, rfl⟩
  have C8 := Lib.hid (first8 F v ns w1 HE1.out HV1.out HF.out)
  clear HS
  go_wp2_with fail
  refine C8.out.mono ?_
  rintro e w2 ⟨o, ho, rfl, b2⟩
  have HV2 := Lib.hid (HV1.out.below b2)
  have HB2 := Lib.hid (HB1.out.trans (b2.mono HB1.out.size))
  have C9 := Lib.hid (first9 F v ns w2 HV2.out HF.out)
  have HO := Lib.hid ho
  clear b2 C8 ho HV1 HE1 HB1
  cases o with
  | none =>
    unfold fiV
    go_wp2_with fail
    refine C9.out.mono ?_
    rintro e w3 ⟨o', ho', rfl, b3⟩
    obtain rfl := first_uni HO.out ho'
    have HB3 := Lib.hid (HB2.out.trans (b3.mono HB2.out.size))
    clear b3 C9 ho' HB2
    unfold fiW
    by_cases h1 : n < 0
    · go_wp2
      go_ret
      exact ⟨rfl, HB3.out⟩
    · by_cases h2 : 11881376 ≤ n
      · go_wp2
        go_ret
        exact ⟨rfl, HB3.out⟩
      · obtain ⟨m, rfl⟩ : ∃ m : Nat, n = m := ⟨n.toNat, by omega⟩
        have hm : m < 11881376 := by omega
        have CH := Lib.hid (halves10 m hm)
        have CB1 := Lib.hid (half11 ⟨#[66, 81]⟩ (by decide) m hm)
        have CB2 := Lib.hid (half11 ⟨#[69, 81]⟩ (by decide) m hm)
        have C12 := Lib.hid (of12 m hm)
        have C13 := Lib.hid (of13 m hm)
        rw [lit2] at CB1 CB2
        generalize mk (66 :: 81 :: sp 5 m) = y1 at CH CB1
        generalize mk (69 :: 81 :: sp 5 m) = y2 at CH CB2
        generalize mk (tagL m) = T at C12 C13
        have e1 := lbeq y1
        have e2 := lbeq y2
        have e3 := lbeq T
        have hd1 : decide ((m : Int) < 0) = false := decide_eq_false (by omega)
        have hd2 : decide ((11881376 : Int) ≤ (m : Int)) = false := decide_eq_false (by omega)
        clear h1 h2 hm
        go_wp2_with fail
        refine (CH.out _).mono ?_
        rintro e w4 ⟨rfl, b4⟩
        have HB4 := Lib.hid (HB3.out.trans (b4.mono HB3.out.size))
        clear b4 CH
        go_wp2_with fail
        refine (CB1.out _).mono ?_
        rintro e w5 ⟨rfl, b5⟩
        have HB5 := Lib.hid (HB4.out.trans (b5.mono HB4.out.size))
        clear b5 CB1
        go_wp2_with fail
        refine (CB2.out _).mono ?_
        rintro e w6 ⟨rfl, b6⟩
        have HB6 := Lib.hid (HB5.out.trans (b6.mono HB5.out.size))
        clear b6 CB2
        go_wp2_with fail
        refine (C12.out _).mono ?_
        rintro e w7 ⟨rfl, b7⟩
        have HB7 := Lib.hid (HB6.out.trans (b7.mono HB6.out.size))
        clear b7 C12
        go_wp2_with fail
        refine (C13.out _).mono ?_
        rintro e w8 ⟨rfl, b8⟩
        have HB8 := Lib.hid (HB7.out.trans (b8.mono HB7.out.size))
        clear b8 C13
        go_wp2
        go_ret
        exact ⟨rfl, HB8.out⟩
  | some k =>
    unfold fiV
    go_wp2_with fail
    refine C9.out.mono ?_
    rintro e w3 ⟨o', ho', rfl, b3⟩
    obtain rfl := first_uni HO.out ho'
    have HB3 := Lib.hid (HB2.out.trans (b3.mono HB2.out.size))
    clear b3 C9 ho' HB2
    unfold fiW
    by_cases h1 : n < 0
    · go_wp2
      go_ret
      exact ⟨rfl, HB3.out⟩
    · by_cases h2 : 11881376 ≤ n
      · go_wp2
        go_ret
        exact ⟨rfl, HB3.out⟩
      · obtain ⟨m, rfl⟩ : ∃ m : Nat, n = m := ⟨n.toNat, by omega⟩
        have hm : m < 11881376 := by omega
        have CH := Lib.hid (halves10 m hm)
        have CB1 := Lib.hid (half11 ⟨#[66, 81]⟩ (by decide) m hm)
        have CB2 := Lib.hid (half11 ⟨#[69, 81]⟩ (by decide) m hm)
        have C12 := Lib.hid (of12 m hm)
        have C13 := Lib.hid (of13 m hm)
        rw [lit2] at CB1 CB2
        generalize mk (66 :: 81 :: sp 5 m) = y1 at CH CB1
        generalize mk (69 :: 81 :: sp 5 m) = y2 at CH CB2
        generalize mk (tagL m) = T at C12 C13
        have e1 := lbeq y1
        have e2 := lbeq y2
        have e3 := lbeq T
        have hd1 : decide ((m : Int) < 0) = false := decide_eq_false (by omega)
        have hd2 : decide ((11881376 : Int) ≤ (m : Int)) = false := decide_eq_false (by omega)
        clear h1 h2 hm
        go_wp2_with fail
        refine (CH.out _).mono ?_
        rintro e w4 ⟨rfl, b4⟩
        have HB4 := Lib.hid (HB3.out.trans (b4.mono HB3.out.size))
        clear b4 CH
        go_wp2_with fail
        refine (CB1.out _).mono ?_
        rintro e w5 ⟨rfl, b5⟩
        have HB5 := Lib.hid (HB4.out.trans (b5.mono HB4.out.size))
        clear b5 CB1
        go_wp2_with fail
        refine (CB2.out _).mono ?_
        rintro e w6 ⟨rfl, b6⟩
        have HB6 := Lib.hid (HB5.out.trans (b6.mono HB5.out.size))
        clear b6 CB2
        go_wp2_with fail
        refine (C12.out _).mono ?_
        rintro e w7 ⟨rfl, b7⟩
        have HB7 := Lib.hid (HB6.out.trans (b7.mono HB6.out.size))
        clear b7 C12
        go_wp2_with fail
        refine (C13.out _).mono ?_
        rintro e w8 ⟨rfl, b8⟩
        have HB8 := Lib.hid (HB7.out.trans (b8.mono HB7.out.size))
        clear b8 C13
        go_wp2
        go_ret
        exact ⟨rfl, HB8.out⟩
end Go.Proofs.Ytabnhdbhccbebaa
