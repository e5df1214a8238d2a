/- Plain facts on a first line and on all lines; UuHeads and UuPlain, walked. No condition but those that each says. -/
import Derived.Test.YtdjfapaebonadaaK
namespace Go.Proofs.Ytdjfapaebonadaa
open Go.RowKit Go.PlainAid
set_option linter.unusedSimpArgs false
set_option linter.unusedVariables false

theorem nl_at {l : List UInt8} (h : nl l < l.length) : at0 l (nl l) = 10 := by
  rw [at0_of h]; unfold nl; rw [List.getElem_idxOf h]; rfl
theorem nl_before {l : List UInt8} {k : Nat} (h : k < nl l) : at0 l k ≠ 10 := by
  have hl : k < l.length := Nat.lt_of_lt_of_le h (by unfold nl; exact List.idxOf_le_length)
  rw [at0_of hl]
  intro e
  have := List.not_of_lt_findIdx (p := fun x => x == 10) (xs := l) (i := k) (by simpa [nl, List.idxOf] using h)
  simp at this
  exact this (UInt8.toNat_inj.1 e)
def firstL (m : Nat) (name : List UInt8) : List UInt8 := beginL ++ oct3 m ++ [32] ++ name
theorem encL_first (m : Nat) (name s : List UInt8) : encL m name s = firstL m name ++ 10 :: restL s := by unfold encL headL firstL; simp
theorem firstL_len (m : Nat) (name : List UInt8) : (firstL m name).length = 10 + name.length := by simp [firstL, beginL, oct3]; omega
theorem od_ne (n : Nat) : od n ≠ 10 := by intro e; have := congrArg UInt8.toNat e; rw [od_nat] at this; simp at this; omega
theorem nl_enc (m : Nat) (name s : List UInt8) (h : 10 ∉ name) : nl (encL m name s) = 10 + name.length := by
  rw [encL_first, nl_app, firstL_len]
  intro c hc
  simp only [firstL, List.mem_append] at hc
  rcases hc with ((hc | hc) | hc) | hc
  · rintro rfl; revert hc; decide
  · simp only [oct3, List.mem_cons, List.not_mem_nil, or_false] at hc
    rcases hc with rfl | rfl | rfl <;> exact od_ne _
  · rintro rfl; revert hc; decide
  · rintro rfl; exact h hc
theorem enc_take (m : Nat) (name s : List UInt8) (h : 10 ∉ name) : (encL m name s).take (nl (encL m name s)) = firstL m name := by
  rw [nl_enc m name s h, encL_first, ← firstL_len m name, List.take_left]
theorem enc_drop (m : Nat) (name s : List UInt8) (h : 10 ∉ name) : (encL m name s).drop (nl (encL m name s) + 1) = restL s := by
  rw [nl_enc m name s h, encL_first, ← firstL_len m name, show firstL m name ++ 10 :: restL s = (firstL m name ++ [10]) ++ restL s by simp, List.drop_left' (by simp)]
theorem head_first (m : Nat) (name : List UInt8) (h : rightL name = true) : headOf (firstL m name) = some (m % 512, name) := by
  have e : firstL m name = beginL ++ (oct3 m ++ 32 :: name) := by simp [firstL]
  unfold headOf
  rw [e, if_pos (by exact List.take_left' rfl)]
  show headR (oct3 m ++ 32 :: name) = _
  unfold headR
  have hd : (oct3 m ++ 32 :: name).drop 4 = name := rfl
  rw [hd, if_pos ⟨by simp [oct3], rfl, h⟩]
  have h0 : at0 (oct3 m ++ 32 :: name) 0 = 48 + m / 64 % 8 := od_nat _
  have h1 : at0 (oct3 m ++ 32 :: name) 1 = 48 + m / 8 % 8 := od_nat _
  have h2 : at0 (oct3 m ++ 32 :: name) 2 = 48 + m % 8 := od_nat _
  rw [show (3 : Nat) = 3 - 0 from rfl, dg_step _ 0 0 (by omega) (by omega) (by omega), dg_step _ 1 _ (by omega) (by omega) (by omega), dg_step _ 2 _ (by omega) (by omega) (by omega), h0, h1, h2]
  show some (_, name) = _
  congr 2
  omega
theorem nameOk_parts {name : ByteArray} (h : nameOk name = true) : rightL (ls name) = true ∧ 10 ∉ ls name := by
  unfold nameOk at h; simpa using h
theorem encL_len (m : Nat) (name s : List UInt8) (hn : name.length ≤ 4095) (hs : s.length ≤ 3000) : (encL m name s).length ≤ 10000 := by
  rw [encL_first, List.length_append, firstL_len, List.length_cons]; have := restL_small s hs; omega
def Rel7 (N : Nat) (i : Value) : Prop := ∃ k : Nat, k ≤ N ∧ i = .int .i64 k
set_option maxHeartbeats 4000000 in
set_option maxRecDepth 100000 in
theorem heads7 (m : Int) (name s : ByteArray) (hn : name.size ≤ 140737488351232) (hs : s.size ≤ 140737488351232) (w : World) : Calls Try.prog 7 #[.int .i64 m, .string name, .string s] w fun e w' => e = .returned (.bool true) ∧ Below w.heap.size w w' := by
  have CA := Lib.hid (anchor8 w)
  by_cases h1 : 300 < s.size
  · go_enter Try.func7, Try.ntmps7
    go_wp2_with (go_at_call 8; refine CA.out.mono ?_)
    rintro e w1 ⟨rfl, b1⟩
    have B1 := Lib.hid b1
    clear b1 CA
    go_wp2
    go_ret
    exact ⟨rfl, B1.out⟩
  by_cases h2 : 5000 < name.size
  · go_enter Try.func7, Try.ntmps7
    go_wp2_with (go_at_call 8; refine CA.out.mono ?_)
    rintro e w1 ⟨rfl, b1⟩
    have B1 := Lib.hid b1
    clear b1 CA
    go_wp2
    go_ret
    exact ⟨rfl, B1.out⟩
  by_cases hm : 0 ≤ m ∧ m ≤ 4095
  · cases hk : nameOk name
    · have CE := Lib.hid fun w => enc9_form m name s w hm hk (by unfold maxLen; omega)
      obtain ⟨hm2, hm3⟩ := hm
      clear hk
      go_enter Try.func7, Try.ntmps7
      go_wp2_with (go_at_call 8; refine CA.out.mono ?_)
      rintro e w1 ⟨rfl, b1⟩
      have B1 := Lib.hid b1
      clear b1 CA
      go_wp2_with (go_at_call 9; refine (CE.out _).mono ?_)
      rintro e w2 ⟨rfl, b2⟩
      have B2 := Lib.hid (B1.out.trans (b2.mono B1.out.size))
      clear b2 CE
      go_wp2
      go_ret
      exact ⟨rfl, B2.out⟩
    · obtain ⟨n, rfl⟩ : ∃ n : Nat, m = n := ⟨m.toNat, by omega⟩
      have hn2 : n ≤ 4095 := by omega
      have CE := Lib.hid fun w => enc9_ok n name s w hn2 hk (by omega)
      obtain ⟨hkr, hk10⟩ := nameOk_parts hk
      have hl := rightL_len hkr
      have hN := nl_enc n (ls name) (ls s) hk10
      have hT := enc_take n (ls name) (ls s) hk10
      have hlen := encL_len n (ls name) (ls s) (by rw [ls_len]; exact hl.2) (by rw [ls_len]; omega)
      have hlt : nl (encL n (ls name) (ls s)) < (encL n (ls name) (ls s)).length := by rw [hN, encL_first, List.length_append, firstL_len]; simp
      have hat := nl_at hlt
      have hbef := fun k => nl_before (l := encL n (ls name) (ls s)) (k := k)
      have hhd := head_first n (ls name) hkr
      rw [← hT] at hhd
      clear hN hT hk hkr hk10
      generalize encL n (ls name) (ls s) = L at CE hlen hlt hat hbef hhd
      generalize hNe : nl L = N at hlt hat hbef hhd
      clear hNe
      replace hhd : headOf (ls ((mk L).extract 0 N)) = some (n % 512, ls name) := by rw [ls_take, ls_mk]; exact hhd
      have hNs : N < (mk L).size := by rw [mk_size]; exact hlt
      have hLs : (mk L).size ≤ 10000 := by rw [mk_size]; exact hlen
      have hat2 : bt (mk L) N = 10 := by rw [bt_at, ls_mk, hat]; rfl
      have hbef2 : Hid (∀ k, k < N → bt (mk L) k ≠ 10) := Lib.hid fun k hk => by rw [bt_at, ls_mk]; have := hbef k hk; omega
      have CH := Lib.hid fun w => head15 ((mk L).extract 0 N) w (by rw [ext_sz _ _ _ (by omega)]; omega)
      rw [hhd] at CH
      clear hat hbef hhd hlt hlen
      generalize mk L = t at CE hNs hLs hat2 hbef2 CH
      have hb := get_bt t
      go_enter Try.func7, Try.ntmps7
      go_wp2_with (go_at_call 8; refine CA.out.mono ?_)
      rintro e w1 ⟨rfl, b1⟩
      have B1 := Lib.hid b1
      clear b1 CA
      go_wp2_with (go_at_call 9; refine (CE.out _).mono ?_)
      rintro e w2 ⟨rfl, b2⟩
      have B2 := Lib.hid (B1.out.trans (b2.mono B1.out.size))
      clear b2 CE
      go_wp2
      go_loop [9] (Rel7 N) (fun i => N - (intOf i).toNat)
      case atStart => exact ⟨0, by omega, rfl⟩
      case round =>
        obtain ⟨k, hk, rfl⟩ := hrel
        by_cases hlt : k < N
        · have hne : (bt t k != 10) = true := by simpa using hbef2.out k hlt
          go_wp2
          go_round
          case rel => exact ⟨k + 1, hlt, by go_num⟩
          case measure => simp [intOf]; omega
        · obtain rfl : k = N := by omega
          have hne : (bt t k != 10) = false := by rw [hat2]; rfl
          go_wp2_with (go_at_call 15; refine (CH.out _).mono ?_)
          rintro e w3 ⟨rfl, b3⟩
          have B3 := Lib.hid (B2.out.trans (b3.mono B2.out.size))
          clear b3 CH
          unfold v15
          simp only [mk_ls]
          go_wp2
          go_ret
          refine ⟨?_, B3.out⟩
          simp
  · have CE := Lib.hid fun w => enc9_range m name s w hm
    have hmm : m < 0 ∨ 4095 < m := by omega
    clear hm
    rcases hmm with hmm | hmm
    · go_enter Try.func7, Try.ntmps7
      go_wp2_with (go_at_call 8; refine CA.out.mono ?_)
      rintro e w1 ⟨rfl, b1⟩
      have B1 := Lib.hid b1
      clear b1 CA
      go_wp2_with (go_at_call 9; refine (CE.out _).mono ?_)
      rintro e w2 ⟨rfl, b2⟩
      have B2 := Lib.hid (B1.out.trans (b2.mono B1.out.size))
      clear b2 CE
      go_wp2
      go_ret
      exact ⟨rfl, B2.out⟩
    · go_enter Try.func7, Try.ntmps7
      go_wp2_with (go_at_call 8; refine CA.out.mono ?_)
      rintro e w1 ⟨rfl, b1⟩
      have B1 := Lib.hid b1
      clear b1 CA
      go_wp2_with (go_at_call 9; refine (CE.out _).mono ?_)
      rintro e w2 ⟨rfl, b2⟩
      have B2 := Lib.hid (B1.out.trans (b2.mono B1.out.size))
      clear b2 CE
      go_wp2
      go_ret
      exact ⟨rfl, B2.out⟩
end Go.Proofs.Ytdjfapaebonadaa
