/- TagRises, walked. Conditions: the library's own variable holds some number. -/
import Derived.Test.YtabnhdbhccbebaaJ
namespace Go.Proofs.Ytabnhdbhccbebaa
open Go.RowKit Go.PlainAid
set_option linter.unusedSimpArgs false
set_option linter.unusedVariables false

/-- One is free, not far. -/
theorem first_near {f : Nat} {ns : List ByteArray} {o : Option Nat} (h : FirstIs f (tk ns) o) (hF : (allH ns).length ≤ 60000) (hf : f ≤ 1000000) : ∃ k, o = some k ∧ f ≤ k ∧ k ≤ f + 60000 ∧ tk ns k = false := by
  cases o with
  | none =>
    have := all_taken (f := f) (L := 60001) (ts := ns) fun i hi => h (f + i) (by omega) (by omega)
    omega
  | some k =>
    refine ⟨k, rfl, h.1, ?_, h.2.2.1⟩
    by_cases e : k ≤ f + 60000
    · exact e
    · have := all_taken (f := f) (L := 60001) (ts := ns) fun i hi => h.2.2.2 (f + i) (by omega) (by omega)
      omega
theorem tag_bne {m n : Nat} (hm : m < 11881376) (hn : n < 11881376) (h : m < n) : ((mk (tagL n)).toList == (mk (tagL m)).toList) = false := by
  rw [toList_eq, ls_mk, ls_mk]
  rw [beq_eq_false_iff_ne]
  intro e
  have := tag_inj hn hm e
  omega
def Rel5 (ns : List ByteArray) (w : World) (i : Value) (wx : World) : Prop := ∃ k : Nat, k ≤ ns.length ∧ i = .int .i64 k ∧ Hid (Below w.heap.size w wx)
set_option maxHeartbeats 8000000 in
set_option maxRecDepth 100000 in
theorem rises5 (v : Value) (ns : List ByteArray) (w : World) (he : Env w) (hv : StrsL w v ns) : Calls Try.prog 5 #[v] w fun e w' => e = .returned (.bool true) ∧ Below w.heap.size w w' := by
  have CA := Lib.hid (anchor6 w)
  have HV := Lib.hid hv.1
  have HE := Lib.hid he
  have HS := Lib.hid fun w' (h : Strs w' v ns) => small7 v ns w' h hv.2
  clear hv he
  obtain ⟨va, vc, rfl⟩ := HV.out.shape
  go_enter Try.func5, Try.ntmps5
  go_wp2_with fail
  refine CA.out.mono ?_
  rintro e w1 ⟨rfl, b1⟩
  have HV1 := Lib.hid (HV.out.below b1)
  have HE1 := Lib.hid (HE.out.on b1)
  have HB1 := Lib.hid b1
  clear b1 CA HE
  cases hsm : smallB ns
  · rw [hsm] at HS
    clear hsm
    go_wp2_with (go_at_call 7; refine (HS.out _ HV1.out).mono ?_; rintro e w2 ⟨rfl, rfl⟩)
    go_ret
    exact ⟨rfl, HB1.out⟩
  have HF := Lib.hid (few_of hsm)
  rw [hsm] at HS
  clear hsm
  go_wp2_with fail
  refine (HS.out _ HV1.out).mono ?_
  rintro e w2 ⟨rfl, rfl⟩
  have C8 := Lib.hid (first8 0 _ ns w1 HE1.out HV1.out HF.out)
  clear HS
  go_wp2_with fail
  refine C8.out.mono ?_
  rintro e w2 ⟨o, ho, rfl, b2⟩
  obtain ⟨m, rfl, _, hm, htm⟩ := first_near ho HF.out.heads (by simp)
  have hm6 : m ≤ 60000 := by simpa using hm
  have HTM := Lib.hid htm
  have HV2 := Lib.hid (HV1.out.below b2)
  have HE2 := Lib.hid (HE1.out.on b2)
  have HB2 := Lib.hid (HB1.out.trans (b2.mono HB1.out.size))
  have C8b := Lib.hid (first8 ((m : Int) + 1) _ ns w2 HE2.out HV2.out HF.out)
  clear b2 C8 ho HV1 HE1 HB1 hm htm
  unfold fiV
  go_wp2_with fail
  refine C8b.out.mono ?_
  rintro e w3 ⟨o, ho, rfl, b3⟩
  obtain ⟨n, rfl, hmn, hn, htn⟩ := first_near ho HF.out.heads (by omega)
  have hn6 : n ≤ 200000 := by omega
  have hmn2 : m < n := by omega
  have HTN := Lib.hid htn
  have HV3 := Lib.hid (HV2.out.below b3)
  have HB3 := Lib.hid (HB2.out.trans (b3.mono HB2.out.size))
  clear b3 C8b ho HV2 HE2 HB2 hmn hn htn
  unfold fiV
  have hnl : ns.length ≤ 30 := HF.out.1
  obtain ⟨q, Hn⟩ : ∃ q, Hid (ns.length = q) := ⟨_, Lib.hid rfl⟩
  rw [Hn.out] at hnl ⊢
  go_wp2
  go_loopw [28] (Rel5 ns w) (fun i _ => q - (intOf i).toNat)
  case atStart => exact ⟨0, Nat.zero_le _, rfl, HB3⟩
  case round =>
    obtain ⟨k, hk, rfl, HB⟩ := hrel
    rename World => wx
    have hm13 : m < 11881376 := by omega
    have hn13 : n < 11881376 := by omega
    have HX := Lib.hid (tag_bne hm13 hn13 hmn2)
    have hzm : (mk (tagL m)).size = 22 := by rw [mk_size, tag_len]
    have hzn : (mk (tagL n)).size = 22 := by rw [mk_size, tag_len]
    have hgt : decide ((m : Int) < (n : Int)) = true := decide_eq_true (by omega)
    by_cases hlt : k < q
    · have hlt' : k < ns.length := by rw [Hn.out]; exact hlt
      obtain ⟨b, off, c', e, hc, hcell⟩ := strs_at (HV.out.below HB.out) k hlt'
      rw [Hn.out] at e hc
      cases e
      obtain ⟨x, Hx⟩ : ∃ x, Hid (ns[k] = x) := ⟨_, Lib.hid rfl⟩
      rw [Hx.out] at hcell
      have hmem : x ∈ ns := by rw [← Hx.out]; exact List.getElem_mem hlt'
      have hx : x.size ≤ 2000 := HF.out.2 x hmem
      have C1 := Lib.hid (of13 m hm13)
      have C2 := Lib.hid (of13 n hn13)
      have CI1 := Lib.hid (in14 x (mk (tagL m)) (by omega) (by omega) (by omega))
      have CI2 := Lib.hid (in14 x (mk (tagL n)) (by omega) (by omega) (by omega))
      rw [ls_mk, tag_not (tk_in ns m x hmem HTM.out hm13).1] at CI1
      rw [ls_mk, tag_not (tk_in ns n x hmem HTN.out hn13).1] at CI2
      generalize mk (tagL m) = Tm at C1 CI1
      generalize mk (tagL n) = Tn at C2 CI2
      clear hm13 hn13 hzm hzn hmn2 HX hmem
      go_wp2_with fail
      refine (C1.out _).mono ?_
      rintro e w4 ⟨rfl, b4⟩
      have HB4 := Lib.hid (HB.out.trans (b4.mono HB.out.size))
      clear b4 C1
      go_wp2_with fail
      refine (CI1.out _).mono ?_
      rintro e w4 ⟨rfl, rfl⟩
      go_wp2_with fail
      refine (C2.out _).mono ?_
      rintro e w5 ⟨rfl, b5⟩
      have HB5 := Lib.hid (HB4.out.trans (b5.mono HB4.out.size))
      clear b5 C2
      go_wp2_with fail
      refine (CI2.out _).mono ?_
      rintro e w5 ⟨rfl, rfl⟩
      go_wp2
      go_roundw
      case rel => exact ⟨k + 1, hlt', by go_num, HB5⟩
      case measure => simp [intOf]; omega
    · obtain rfl : k = q := by rw [Hn.out] at hk; omega
      have C1 := Lib.hid (of12 n hn13)
      have C2 := Lib.hid (of12 m hm13)
      generalize mk (tagL m) = Tm at HX C2 
      generalize mk (tagL n) = Tn at HX C1
      have hx := HX.out
      clear hm13 hn13 hzm hzn
      go_wp2_with fail
      refine (C1.out _).mono ?_
      rintro e w4 ⟨rfl, b4⟩
      have HB4 := Lib.hid (HB.out.trans (b4.mono HB.out.size))
      clear b4 C1
      go_wp2_with fail
      refine (C2.out _).mono ?_
      rintro e w5 ⟨rfl, b5⟩
      have HB5 := Lib.hid (HB4.out.trans (b5.mono HB4.out.size))
      clear b5 C2
      go_wp2
      go_ret
      exact ⟨rfl, HB5.out⟩
end Go.Proofs.Ytabnhdbhccbebaa
