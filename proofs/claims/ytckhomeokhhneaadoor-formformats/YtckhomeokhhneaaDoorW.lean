/- FormEscapes: what Escape tells is told again; the walk. Condition: the tables read as they are laid. -/
import Derived.Test.YtckhomeokhhneaaDoorV
namespace Go.Proofs.YtckhomeokhhneaaDoor
open Go.RowKit Go.PlainAid
set_option linter.unusedSimpArgs false
set_option linter.unusedVariables false

theorem oct_byte {x : Nat} (h : x < 8) : oc (UInt8.ofNat (48 + x)).toNat = true ∧ (UInt8.ofNat (48 + x)).toNat - 48 = x := by
  rw [UInt8.toNat_ofNat', Nat.mod_eq_of_lt (by omega)]
  refine ⟨?_, by omega⟩
  unfold oc
  simp
  omega
theorem bsl_oct3 (c : Nat) (hc : c < 256) (r : List UInt8) : bsl (UInt8.ofNat (48 + c / 64) :: UInt8.ofNat (48 + c / 8 % 8) :: UInt8.ofNat (48 + c % 8) :: r) = (UInt8.ofNat c, 3) := by
  have h1 := oct_byte (x := c / 64) (by omega)
  have h2 := oct_byte (x := c / 8 % 8) (by omega)
  have h3 := oct_byte (x := c % 8) (by omega)
  have hl : ¬ letL.idxOf (UInt8.ofNat (48 + c / 64)) < 8 := by
    have : c / 64 = 0 ∨ c / 64 = 1 ∨ c / 64 = 2 ∨ c / 64 = 3 := by omega
    rcases this with e | e | e | e <;> rw [e] <;> decide
  unfold bsl
  simp only
  rw [show ((UInt8.ofNat (48 + c / 64) :: UInt8.ofNat (48 + c / 8 % 8) :: UInt8.ofNat (48 + c % 8) :: r).getD 0 0) = UInt8.ofNat (48 + c / 64) from rfl, if_neg hl]
  have ho : octs 3 (UInt8.ofNat (48 + c / 64) :: UInt8.ofNat (48 + c / 8 % 8) :: UInt8.ofNat (48 + c % 8) :: r) 0 0 = (c, 3) := by
    rw [octs, if_pos h1.1, h1.2, octs, if_pos h2.1, h2.2, octs, if_pos h3.1, h3.2, octs]
    congr 1
    omega
  rw [ho]
  rfl
theorem tell_esc (A : List (List UInt8)) (r2 : List UInt8) : ∀ (l : List UInt8) (u : Nat) (T : List UInt8), tellM A (esc l ++ r2) u T = tellM A r2 u (T ++ l)
  | [], u, T => by rw [esc_nil]; simp
  | b :: r, u, T => by
    rw [esc_cons, List.append_assoc]
    have ih := tell_esc A r2 r u (T ++ [b])
    rw [show T ++ b :: r = T ++ [b] ++ r by simp, ← ih]
    unfold escB
    by_cases hp : plainB b.toNat = true
    · rw [if_pos hp]
      unfold plainB at hp
      simp only [Bool.and_eq_true, bne_iff_ne] at hp
      rw [List.singleton_append, tell_ch]
      · intro e; subst e; exact hp.1.2 rfl
      · intro e; subst e; exact hp.1.1.2 rfl
    · rw [if_neg hp]
      unfold oct3
      simp only [List.cons_append, List.nil_append]
      rw [tell_bs, bsl_oct3 _ b.toNat_lt]
      rw [UInt8.ofNat_toNat]
      rfl
theorem form_esc (l : List UInt8) (h : l.length ≤ 4194304) : formatM [] (esc l) 0 [] = .ok l := by
  have ht : tellM [] (esc l) 0 [] = .ok (0, l) := by
    have := tell_esc [] [] l 0 []
    rw [List.append_nil, List.nil_append] at this
    rw [this, tell_nil]
  rw [fm_done ht (by omega) (by simp)]
set_option maxHeartbeats 4000000 in
set_option maxRecDepth 100000 in
theorem escapes3 (s : ByteArray) (hs : s.size ≤ 140737488351232) (W : World) (he : Env W) : Calls Tryd.prog 3 #[.string s] W fun e W' => e = .returned (.bool true) ∧ Below W.heap.size W W' := by
  have CA := Lib.hid (anchor7 W he)
  have HE := Lib.hid he
  clear he
  by_cases hl : 3000 < s.size
  · have hd : decide (3000 < (s.size : Int)) = true := decide_eq_true (by omega)
    go_enter Tryd.func3, Tryd.ntmps3
    go_wp2_with (go_at_call 7; refine CA.out.mono ?_; rintro e w1 ⟨rfl, b1⟩; have B1 := Lib.hid b1; clear b1)
    go_ret
    exact ⟨rfl, B1.out⟩
  have hd : decide (3000 < (s.size : Int)) = false := decide_eq_false (by omega)
  have hsz : s.size ≤ 1000000 := by omega
  have hel := esc_len_le (ls s)
  rw [ls_len] at hel
  obtain ⟨F, HF⟩ : ∃ F, Hid (mk (esc (ls s)) = F) := ⟨_, Lib.hid rfl⟩
  have hFs : F.size = (esc (ls s)).length := by rw [← HF.out, mk_size]
  have hFz : F.size ≤ 1000000 := by omega
  have C8 : Hid (∀ w, Calls Tryd.prog 8 #[.string s] w fun e w' => e = .returned (.string F) ∧ Below w.heap.size w w') := Lib.hid fun w => by rw [← HF.out]; exact escape8 s w hsz
  have C10 : Hid (∀ w, Calls Tryd.prog 10 #[.string s] w fun e w' => e = .returned (.string F) ∧ Below w.heap.size w w') := Lib.hid fun w => by rw [← HF.out]; exact escape10 s w hsz
  have C11 : Hid (∀ w, Calls Tryd.prog 11 #[.string s] w fun e w' => e = .returned (.int .i64 F.size) ∧ w = w') := Lib.hid fun w => by rw [hFs]; exact escaped11 s w hsz
  have C9 : Hid (∀ w, Env w → Calls Tryd.prog 9 #[.string F, .slice none 0 0] w fun e w' => e = .returned (.tuple #[.string s, .int .i64 0]) ∧ Below w.heap.size w w') := Lib.hid fun w hw => by
    have h := format9 F (.slice none 0 0) [] w hw (.inl ⟨rfl, _, _, rfl⟩) hFz (by simp)
    rw [show List.map ls [] = [] from rfl, show ls F = esc (ls s) by rw [← HF.out, ls_mk], form_esc (ls s) (by rw [ls_len]; omega)] at h
    refine h.mono fun e w' ⟨h1, h2⟩ => ⟨?_, h2⟩
    rw [show e = _ from h1, mk_ls]
  obtain ⟨U, HU⟩ : ∃ U, Hid (mk (une (ls s)) = U) := ⟨_, Lib.hid rfl⟩
  have C12 : Hid (∀ w, Calls Tryd.prog 12 #[.string s] w fun e w' => e = .returned (.string U) ∧ Below w.heap.size w w') := Lib.hid fun w => by rw [← HU.out]; exact unescape12 s w hsz
  have C13 : Hid (∀ w, Calls Tryd.prog 13 #[.string s] w fun e w' => e = .returned (.string U) ∧ Below w.heap.size w w') := Lib.hid fun w => by rw [← HU.out]; exact unescape13 s w hsz
  clear hFs hel HF HU hFz
  go_enter Tryd.func3, Tryd.ntmps3
  go_wp2_with (first
    | (go_at_call 7; refine CA.out.mono ?_; rintro e w1 ⟨rfl, b1⟩; have B1 := Lib.hid b1; clear b1)
    | (go_at_call 8; refine (C8.out _).mono ?_; rintro e w2 ⟨rfl, b2⟩; have B2 := Lib.hid (B1.out.trans (b2.mono B1.out.size)); clear b2)
    | (go_at_call 9; refine (C9.out _ (HE.out.below B2.out)).mono ?_; rintro e w3 ⟨rfl, b3⟩; have B3 := Lib.hid (B2.out.trans (b3.mono B2.out.size)); clear b3)
    | (go_at_call 10; refine (C10.out _).mono ?_; rintro e w4 ⟨rfl, b4⟩; have B4 := Lib.hid (B3.out.trans (b4.mono B3.out.size)); clear b4)
    | (go_at_call 11; refine (C11.out _).mono ?_; rintro e w' ⟨rfl, rfl⟩)
    | (go_at_call 12; refine (C12.out _).mono ?_; rintro e w5 ⟨rfl, b5⟩; have B5 := Lib.hid (B4.out.trans (b5.mono B4.out.size)); clear b5)
    | (go_at_call 13; refine (C13.out _).mono ?_; rintro e w6 ⟨rfl, b6⟩; have B6 := Lib.hid (B5.out.trans (b6.mono B5.out.size)); clear b6))
  go_ret
  exact ⟨rfl, B6.out⟩
end Go.Proofs.YtckhomeokhhneaaDoor
