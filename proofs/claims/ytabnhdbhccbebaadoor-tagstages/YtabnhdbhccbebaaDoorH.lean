/- TagStages, walked; a list of texts that came in. No condition. -/
import Derived.Test.YtabnhdbhccbebaaDoorG
namespace Go.Proofs.YtabnhdbhccbebaaDoor
open Go.RowKit Go.PlainAid Go.ChangeShapes Go.WideShapes Go.ChangeAt
set_option linter.unusedSimpArgs false
set_option linter.unusedVariables false

def Env (w : World) : Prop := True
def Rel3 (ns : List ByteArray) (i : Value) : Prop := ∃ k : Nat, k ≤ ns.length ∧ i = .int .i64 k
theorem not_is {ns : List ByteArray} {l : List UInt8} (h : isB ns l = false) {x : ByteArray} (hx : x ∈ ns) (T : ByteArray) (hT : ls T = l) : (x.toList == T.toList) = false := by
  rw [toList_eq, hT]
  unfold isB at h
  have := List.any_eq_false.1 h x hx
  simpa using this
set_option maxHeartbeats 8000000 in
set_option maxRecDepth 100000 in
theorem stages3 (v : Value) (ns : List ByteArray) (w : World) (he : Env w) (hv : StrsL w v ns) : Calls Tryd.prog 3 #[v] w fun e w' => e = .returned (.bool true) ∧ Below w.heap.size w w' := by
  have CA := Lib.hid (anchor6 w)
  have HV := Lib.hid hv.1
  have HS := Lib.hid fun w' (h : Strs w' v ns) => small7 v ns w' h hv.2
  clear hv he
  obtain ⟨va, vc, rfl⟩ := HV.out.shape
  go_enter Tryd.func3, Tryd.ntmps3
  go_wp2_with fail
  refine CA.out.mono ?_
  rintro e w1 ⟨rfl, b1⟩
  have HV1 := Lib.hid (HV.out.below b1)
  have HB1 := Lib.hid b1
  clear b1 CA
  cases hsm : smallB ns
  · rw [hsm] at HS
    clear hsm
    go_wp2_with fail
    refine (HS.out _ HV1.out).mono ?_
    rintro e w2 ⟨rfl, rfl⟩
    go_wp2
    go_ret
    exact ⟨rfl, HB1.out⟩
  have HF := Lib.hid (few_of hsm)
  rw [hsm] at HS
  clear hsm
  go_wp2_with fail
  refine (HS.out _ HV1.out).mono ?_
  rintro e w2 ⟨rfl, rfl⟩
  have C6 := Lib.hid (stage6 _ ns w1 HV1.out HF.out)
  clear HS
  go_wp2_with fail
  refine C6.out.mono ?_
  rintro e w2 ⟨k0, hk, hk30, rfl, b2⟩
  have HK := Lib.hid hk
  have HV2 := Lib.hid (HV1.out.below b2)
  have HB2 := Lib.hid (HB1.out.trans (b2.mono HB1.out.size))
  have C7 := Lib.hid (stage7 _ ns w2 HV2.out HF.out)
  have hnl : ns.length ≤ 30 := HF.out.1
  obtain ⟨q, Hn⟩ : ∃ q, Hid (ns.length = q) := ⟨_, Lib.hid rfl⟩
  rw [Hn.out] at hnl C7 ⊢
  obtain ⟨T, HT⟩ : ∃ T, Hid (mk (nmL k0) = T) := ⟨_, Lib.hid rfl⟩
  have HlT : Hid (ls T = nmL k0) := Lib.hid (by rw [← HT.out]; rfl)
  rw [HT.out]
  clear b2 C6 hk HV1 HB1
  go_wp2
  go_loop [15] (Rel3 ns) (fun i => q - (intOf i).toNat)
  case atStart => exact ⟨0, Nat.zero_le _, rfl⟩
  case round =>
    obtain ⟨k, hk, rfl⟩ := hrel
    by_cases hlt : k < q
    · have hlt' : k < ns.length := by rw [Hn.out]; exact hlt
      obtain ⟨b, off, c', e, hc, hcell⟩ := strs_at HV2.out k hlt'
      rw [Hn.out] at e hc
      cases e
      obtain ⟨x, Hx⟩ : ∃ x, Hid (ns[k] = x) := ⟨_, Lib.hid rfl⟩
      rw [Hx.out] at hcell
      have hq := not_is HK.out.1 (x := x) (by rw [← Hx.out]; exact List.getElem_mem hlt') T HlT.out
      go_wp2
      go_round
      case rel => exact ⟨k + 1, hlt', by go_num⟩
      case measure => simp [intOf]; omega
    · obtain rfl : k = q := by rw [Hn.out] at hk; omega
      go_wp2_with fail
      refine C7.out.mono ?_
      rintro e w3 ⟨k1, hk1, _, rfl, b3⟩
      obtain rfl := stage_uni HK.out hk1
      have HB3 := Lib.hid (HB2.out.trans (b3.mono HB2.out.size))
      rw [HT.out]
      have e1 : (T.toList == T.toList) = true := by simp
      clear b3 C7 hk1
      go_wp2
      go_ret
      exact ⟨rfl, HB3.out⟩
theorem env_of (W : World) (h : laidMetH Tryd.prog Rows.tagStagesRow.laid W) : Env W := trivial
end Go.Proofs.YtabnhdbhccbebaaDoor
