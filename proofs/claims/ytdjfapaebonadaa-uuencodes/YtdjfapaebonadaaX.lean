/- UuEncodes and UuDecodes, walked. No condition but those that each says. -/
import Derived.Test.YtdjfapaebonadaaU
import Derived.Test.YtdjfapaebonadaaL
namespace Go.Proofs.Ytdjfapaebonadaa
open Go.RowKit Go.PlainAid
set_option linter.unusedSimpArgs false
set_option linter.unusedVariables false

def sizeR (n : Nat) : Nat := n / 45 * 62 + 6 + if 0 < n % 45 then 2 + (n % 45 + 2) / 3 * 4 else 0
set_option maxHeartbeats 2000000 in
set_option maxRecDepth 100000 in
theorem encoded12 (n : Nat) (h : n ≤ 3000) (w : World) : Calls Try.prog 12 #[.int .i64 n] w fun e w' => e = .returned (.int .i64 (sizeR n : Nat)) ∧ w = w' := by
  have C1 : Hid (∀ w, Calls Try.prog 28 #[.int .i64 45] w fun e w' => e = .returned (.int .i64 62) ∧ w = w') := Lib.hid fun w => size28 45 (by omega) w
  have C2 : Hid (∀ w, Calls Try.prog 28 #[.int .i64 0] w fun e w' => e = .returned (.int .i64 2) ∧ w = w') := Lib.hid fun w => size28 0 (by omega) w
  have C3 := Lib.hid fun w => size28 (n % 45) (by omega) w
  rw [show ((n % 45 : Nat) : Int) = (n : Int) % 45 by omega] at C3
  by_cases hr : 0 < n % 45
  · have hM : 2 + (n % 45 + 2) / 3 * 4 ≤ 100 := by omega
    have HE : Hid (((sizeR n : Nat) : Int) = (n : Int) / 45 * 62 + 2 + 4 + ((2 + (n % 45 + 2) / 3 * 4 : Nat) : Int)) := Lib.hid (by unfold sizeR; rw [if_pos hr]; omega)
    rw [HE.out]
    generalize 2 + (n % 45 + 2) / 3 * 4 = M at C3 hM ⊢
    have hr' : (0 : Int) < (n : Int) % 45 := by omega
    go_enter Try.func12, Try.ntmps12
    go_wp2_with (go_at_call 28; (first
      | ((with_reducible refine (C1.out _).mono ?_); rintro e w' ⟨rfl, rfl⟩)
      | ((with_reducible refine (C2.out _).mono ?_); rintro e w' ⟨rfl, rfl⟩)
      | ((with_reducible refine (C3.out _).mono ?_); rintro e w' ⟨rfl, rfl⟩)))
    go_ret
    exact ⟨rfl, rfl⟩
  · have HE : Hid (((sizeR n : Nat) : Int) = (n : Int) / 45 * 62 + 2 + 4) := Lib.hid (by unfold sizeR; rw [if_neg hr]; omega)
    rw [HE.out]
    have hr' : ¬ ((0 : Int) < (n : Int) % 45) := by omega
    go_enter Try.func12, Try.ntmps12
    go_wp2_with (go_at_call 28; (first
      | ((with_reducible refine (C1.out _).mono ?_); rintro e w' ⟨rfl, rfl⟩)
      | ((with_reducible refine (C2.out _).mono ?_); rintro e w' ⟨rfl, rfl⟩)
      | ((with_reducible refine (C3.out _).mono ?_); rintro e w' ⟨rfl, rfl⟩)))
    go_ret
    exact ⟨rfl, rfl⟩
theorem decodeO_enc (m : Nat) (name s : List UInt8) (hr : rightL name = true) (h10 : 10 ∉ name) : decodeO (encL m name s) = some (m % 512, name, s) := by
  unfold decodeO
  have hlt : nl (encL m name s) < (encL m name s).length := by rw [nl_enc m name s h10, encL_first, List.length_append, firstL_len]; simp
  rw [if_pos hlt, enc_take m name s h10, enc_drop m name s h10, head_first m name hr, dec_restL]
  rfl
set_option maxHeartbeats 8000000 in
set_option maxRecDepth 100000 in
theorem encodes3 (m : Int) (name s : ByteArray) (hn : name.size ≤ 140737488351232) (hs : s.size ≤ 140737488351232) (w : World) : Calls Try.prog 3 #[.int .i64 m, .string name, .string s] w fun e w' => e = .returned (.bool true) ∧ Below w.heap.size w w' := by
  have CA := Lib.hid (anchor8 w)
  by_cases h1 : 3000 < s.size
  · go_enter Try.func3, Try.ntmps3
    go_wp2_with (go_at_call 8; refine CA.out.mono ?_)
    rintro e w1 ⟨rfl, b1⟩
    have B1 := Lib.hid b1
    clear b1 CA
    go_wp2
    go_ret
    exact ⟨rfl, B1.out⟩
  by_cases h2 : 5000 < name.size
  · go_enter Try.func3, Try.ntmps3
    go_wp2_with (go_at_call 8; refine CA.out.mono ?_)
    rintro e w1 ⟨rfl, b1⟩
    have B1 := Lib.hid b1
    clear b1 CA
    go_wp2
    go_ret
    exact ⟨rfl, B1.out⟩
  by_cases hm : 0 ≤ m ∧ m ≤ 4095
  · cases hk : nameOk name
    · have CE := Lib.hid fun w => enc9_form m name s w hm hk (by unfold maxLen; omega)
      have CF := Lib.hid fun w => enc10_form m name s w hm hk (by unfold maxLen; omega)
      clear hk hm
      go_enter Try.func3, Try.ntmps3
      go_wp2_with (go_at_call 8; refine CA.out.mono ?_)
      rintro e w1 ⟨rfl, b1⟩
      have B1 := Lib.hid b1
      clear b1 CA
      go_wp2_with (go_at_call 9; refine (CE.out _).mono ?_)
      rintro e w2 ⟨rfl, b2⟩
      have B2 := Lib.hid (B1.out.trans (b2.mono B1.out.size))
      clear b2 CE
      go_wp2_with (go_at_call 10; refine (CF.out _).mono ?_)
      rintro e w3 ⟨rfl, b3⟩
      have B3 := Lib.hid (B2.out.trans (b3.mono B2.out.size))
      clear b3 CF
      go_wp2
      go_ret
      exact ⟨rfl, B3.out⟩
    · obtain ⟨n, rfl⟩ : ∃ n : Nat, m = n := ⟨m.toNat, by omega⟩
      have hn2 : n ≤ 4095 := by omega
      have CE := Lib.hid fun w => enc9_ok n name s w hn2 hk (by omega)
      have CF := Lib.hid fun w => enc10_ok n name s w hn2 hk (by omega)
      obtain ⟨hkr, hk10⟩ := nameOk_parts hk
      have hl := rightL_len hkr
      have hdec := decodeO_enc n (ls name) (ls s) hkr hk10
      have hlen := encL_len n (ls name) (ls s) (by rw [ls_len]; exact hl.2) (by rw [ls_len]; omega)
      have CD := Lib.hid fun W => decode11 (mk (encL n (ls name) (ls s))) W (by rw [mk_size]; omega)
      rw [ls_mk, hdec] at CD
      replace CD : Hid (∀ W, Calls Try.prog 11 #[.string (mk (encL n (ls name) (ls s)))] W fun e w' => e = .returned (.tuple #[.int .i64 (n % 512 : Nat), .string name, .string s, .int .i64 0]) ∧ Below W.heap.size W w') := by
        have h := CD.out
        unfold G11 v11 at h
        simp only [mk_ls] at h
        exact h
      have CS := Lib.hid fun W => encoded12 s.size (by omega) W
      have CR := Lib.hid fun W => rest13 s W (by omega)
      have hsz : (mk (restL (ls s))).size = sizeR s.size := by rw [mk_size, restL_len, ls_len]; rfl
      clear hdec hk hkr hk10 hl hlen hm
      generalize mk (encL n (ls name) (ls s)) = t at CE CF CD
      generalize mk (restL (ls s)) = R at CR hsz
      rw [← hsz] at CS
      clear hsz
      have ht : (t.toList == t.toList) = true := by simp
      have hnn : (name.toList == name.toList) = true := by simp
      have hss : (s.toList == s.toList) = true := by simp
      go_enter Try.func3, Try.ntmps3
      go_wp2_with (go_at_call 8; refine CA.out.mono ?_)
      rintro e w1 ⟨rfl, b1⟩
      have B1 := Lib.hid b1
      clear b1 CA
      go_wp2_with (go_at_call 9; refine (CE.out _).mono ?_)
      rintro e w2 ⟨rfl, b2⟩
      have B2 := Lib.hid (B1.out.trans (b2.mono B1.out.size))
      clear b2 CE
      go_wp2_with (go_at_call 10; refine (CF.out _).mono ?_)
      rintro e w3 ⟨rfl, b3⟩
      have B3 := Lib.hid (B2.out.trans (b3.mono B2.out.size))
      clear b3 CF
      go_wp2_with (go_at_call 11; refine (CD.out _).mono ?_)
      rintro e w4 ⟨rfl, b4⟩
      have B4 := Lib.hid (B3.out.trans (b4.mono B3.out.size))
      clear b4 CD
      go_wp2_with (first
        | (go_at_call 12; refine (CS.out _).mono ?_; rintro e w' ⟨rfl, rfl⟩)
        | (go_at_call 13; refine (CR.out _).mono ?_))
      rintro e w5 ⟨rfl, b5⟩
      have B5 := Lib.hid (B4.out.trans (b5.mono B4.out.size))
      clear b5 CR
      go_wp2
      go_ret
      refine ⟨?_, B5.out⟩
      simp
  · have CE := Lib.hid fun w => enc9_range m name s w hm
    have CF := Lib.hid fun w => enc10_range m name s w hm
    clear hm
    go_enter Try.func3, Try.ntmps3
    go_wp2_with (go_at_call 8; refine CA.out.mono ?_)
    rintro e w1 ⟨rfl, b1⟩
    have B1 := Lib.hid b1
    clear b1 CA
    go_wp2_with (go_at_call 9; refine (CE.out _).mono ?_)
    rintro e w2 ⟨rfl, b2⟩
    have B2 := Lib.hid (B1.out.trans (b2.mono B1.out.size))
    clear b2 CE
    go_wp2_with (go_at_call 10; refine (CF.out _).mono ?_)
    rintro e w3 ⟨rfl, b3⟩
    have B3 := Lib.hid (B2.out.trans (b3.mono B2.out.size))
    clear b3 CF
    go_wp2
    go_ret
    exact ⟨rfl, B3.out⟩
end Go.Proofs.Ytdjfapaebonadaa
