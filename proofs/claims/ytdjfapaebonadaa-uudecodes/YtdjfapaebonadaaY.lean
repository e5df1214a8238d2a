/- UuDecodes, walked. No condition but those that each says. -/
import Derived.Test.YtdjfapaebonadaaU
import Derived.Test.YtdjfapaebonadaaI
namespace Go.Proofs.Ytdjfapaebonadaa
open Go.RowKit Go.PlainAid
set_option linter.unusedSimpArgs false
set_option linter.unusedVariables false

/-- Our answer and the document's, of the same text. -/
structure Same4 (W : World) (s : ByteArray) (m : Nat) (nm d : ByteArray) (x : Int) (ok : Bool) : Prop where
  our : ∀ W, Calls Try.prog 11 #[.string s] W fun e w' => e = .returned (.tuple #[.int .i64 m, .string nm, .string d, .int .i64 x]) ∧ Below W.heap.size W w'
  doc : ∀ W, Calls Try.prog 14 #[.string s] W fun e w' => e = .returned (.tuple #[.int .i64 m, .string nm, .string d, .bool ok]) ∧ Below W.heap.size W w'
  is : (ok = true ∧ x = 0) ∨ (ok = false ∧ x = 11)
theorem same4 (W : World) (s : ByteArray) (hs : s.size ≤ 3000) : ∃ m nm d x ok, Same4 W s m nm d x ok := by
  have h1 := fun W => decode11 s W (by omega)
  have h2 := fun W => decode14 s W (by omega)
  cases h : decodeO (ls s) with
  | none => rw [h] at h1 h2; exact ⟨0, ⟨#[]⟩, ⟨#[]⟩, 11, false, h1, h2, .inr ⟨rfl, rfl⟩⟩
  | some a => obtain ⟨m, nm, d⟩ := a; rw [h] at h1 h2; exact ⟨m, mk nm, mk d, 0, true, h1, h2, .inl ⟨rfl, rfl⟩⟩
structure Same3 (W : World) (s : ByteArray) (m : Nat) (nm : ByteArray) (x : Int) (ok : Bool) : Prop where
  our : ∀ W, Calls Try.prog 15 #[.string s] W fun e w' => e = .returned (.tuple #[.int .i64 m, .string nm, .int .i64 x]) ∧ Below W.heap.size W w'
  doc : ∀ W, Calls Try.prog 16 #[.string s] W fun e w' => e = .returned (.tuple #[.int .i64 m, .string nm, .bool ok]) ∧ Below W.heap.size W w'
  is : (ok = true ∧ x = 0) ∨ (ok = false ∧ x = 11)
theorem same3 (W : World) (s : ByteArray) (hs : s.size ≤ 5000) : ∃ m nm x ok, Same3 W s m nm x ok := by
  have h1 := fun W => head15 s W (by omega)
  have h2 := fun W => head16 s W (by omega)
  cases h : headOf (ls s) with
  | none => rw [h] at h1 h2; exact ⟨0, ⟨#[]⟩, 11, false, h1, h2, .inr ⟨rfl, rfl⟩⟩
  | some a => obtain ⟨m, nm⟩ := a; rw [h] at h1 h2; exact ⟨m, mk nm, 0, true, h1, h2, .inl ⟨rfl, rfl⟩⟩
set_option maxHeartbeats 8000000 in
set_option maxRecDepth 100000 in
theorem decodes4 (s l : ByteArray) (hs : s.size ≤ 140737488351232) (hl : l.size ≤ 140737488351232) (w : World) : Calls Try.prog 4 #[.string s, .string l] w fun e w' => e = .returned (.bool true) ∧ Below w.heap.size w w' := by
  have CA := Lib.hid (anchor8 w)
  by_cases h1 : 3000 < s.size
  · go_enter Try.func4, Try.ntmps4
    go_wp2_with (go_at_call 8; refine CA.out.mono ?_)
    rintro e w1 ⟨rfl, b1⟩
    have B1 := Lib.hid b1
    clear b1 CA
    go_wp2
    go_ret
    exact ⟨rfl, B1.out⟩
  by_cases h2 : 5000 < l.size
  · go_enter Try.func4, Try.ntmps4
    go_wp2_with (go_at_call 8; refine CA.out.mono ?_)
    rintro e w1 ⟨rfl, b1⟩
    have B1 := Lib.hid b1
    clear b1 CA
    go_wp2
    go_ret
    exact ⟨rfl, B1.out⟩
  obtain ⟨m, nm, d, x, ok, S⟩ := same4 w s (by omega)
  obtain ⟨m2, nm2, x2, ok2, S2⟩ := same3 w l (by omega)
  have C1 := Lib.hid S.our
  have C2 := Lib.hid S.doc
  have C3 := Lib.hid S2.our
  have C4 := Lib.hid S2.doc
  have i1 := S.is
  have i2 := S2.is
  clear S S2
  have e1 : (nm.toList == nm.toList) = true := by simp
  have e2 : (d.toList == d.toList) = true := by simp
  have e3 : (nm2.toList == nm2.toList) = true := by simp
  go_enter Try.func4, Try.ntmps4
  go_wp2_with (go_at_call 8; refine CA.out.mono ?_)
  rintro e w1 ⟨rfl, b1⟩
  have B1 := Lib.hid b1
  clear b1 CA
  go_wp2_with (go_at_call 11; refine (C1.out _).mono ?_)
  rintro e w2 ⟨rfl, b2⟩
  have B2 := Lib.hid (B1.out.trans (b2.mono B1.out.size))
  clear b2 C1
  go_wp2_with (go_at_call 14; refine (C2.out _).mono ?_)
  rintro e w3 ⟨rfl, b3⟩
  have B3 := Lib.hid (B2.out.trans (b3.mono B2.out.size))
  clear b3 C2
  go_wp2_with (go_at_call 15; refine (C3.out _).mono ?_)
  rintro e w4 ⟨rfl, b4⟩
  have B4 := Lib.hid (B3.out.trans (b4.mono B3.out.size))
  clear b4 C3
  go_wp2_with (go_at_call 16; refine (C4.out _).mono ?_)
  rintro e w5 ⟨rfl, b5⟩
  have B5 := Lib.hid (B4.out.trans (b5.mono B4.out.size))
  clear b5 C4
  rcases i1 with ⟨rfl, rfl⟩ | ⟨rfl, rfl⟩ <;> rcases i2 with ⟨rfl, rfl⟩ | ⟨rfl, rfl⟩
  all_goals
    go_wp2
    go_ret
    exact ⟨by simp, B5.out⟩
end Go.Proofs.Ytdjfapaebonadaa
