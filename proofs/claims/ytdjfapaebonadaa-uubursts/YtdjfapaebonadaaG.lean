/- Contracts of the document's Rest, and of both Encodes. Conditions: lengths below a bound. -/
import Derived.Test.YtdjfapaebonadaaF
namespace Go.Proofs.Ytdjfapaebonadaa
open Go.RowKit Go.PlainAid
set_option linter.unusedSimpArgs false
set_option linter.unusedVariables false

theorem ls_app (a b : ByteArray) : ls (a ++ b) = ls a ++ ls b := by rw [app_ls, ls_mk]
theorem ls_part (s : ByteArray) (i n : Nat) : ls (s.extract i (i + n)) = ((ls s).drop i).take n := by rw [ls_ext, List.drop_take, Nat.add_sub_cancel_left]
def Rel13 (w : World) (s : ByteArray) (F : List UInt8) (u x : Value) (wx : World) : Prop := ∃ (t : ByteArray) (i : Nat), u = .string t ∧ x = .int .i64 i ∧ i ≤ s.size + 44 ∧ Hid (ls t ++ restL ((ls s).drop i) = F) ∧ Hid (Below w.heap.size w wx) ∧ 45 * t.size ≤ 62 * i
set_option maxHeartbeats 4000000 in
set_option maxRecDepth 100000 in
theorem rest13 (s : ByteArray) (w : World) (hs : s.size ≤ 3000) :
    Calls Try.prog 13 #[.string s] w fun e w' => e = .returned (.string (mk (restL (ls s)))) ∧ Below w.heap.size w w' := by
  have HF : Hid (restL ((ls s).drop 0) = restL (ls s)) := Lib.hid rfl
  generalize restL (ls s) = F at HF ⊢
  go_enter Try.func13, Try.ntmps13
  go_wp2
  go_loopw [3, 4] (Rel13 w s F) (fun _ x _ => s.size + 44 - (intOf x).toNat)
  case atStart => exact ⟨⟨#[]⟩, 0, rfl, rfl, by omega, Lib.hid (by rw [HF.out]; rfl), Lib.hid (Below.refl _ _), Nat.le_refl _⟩
  case round =>
    clear HF
    obtain ⟨t, i, rfl, rfl, hi, HE, HBw, htl⟩ := hrel
    rename World => wx
    by_cases hlt : i < s.size
    · have hne : (ls s).drop i ≠ [] := by intro e; have := congrArg List.length e; simp at this; have := ls_len s; simp at this; omega
      by_cases h45 : s.size < i + 45
      · have C := Lib.hid (line17 (s.extract i s.size) wx (by rw [ext_sz _ _ _ (Nat.le_refl _)]; omega))
        have HN : Hid (ls (t ++ mk (line (ls (s.extract i s.size)))) ++ restL ((ls s).drop (i + 45)) = F) := Lib.hid (by
          rw [← HE.out, restL_cons hne, ls_app, ls_mk, ls_drop, List.append_assoc, List.drop_drop, List.take_of_length_le (l := (ls s).drop i) (i := 45)]
          rw [List.length_drop, ls_len]; omega)
        have hT : (mk (line (ls (s.extract i s.size)))).size ≤ 62 := by rw [mk_size, line_len, ls_len, ext_sz _ _ _ (Nat.le_refl _)]; omega
        have HL : Hid (45 * (t ++ mk (line (ls (s.extract i s.size)))).size ≤ 62 * (i + 45)) := Lib.hid (by rw [ByteArray.size_append]; omega)
        generalize mk (line (ls (s.extract i s.size))) = T at C HN hT HL
        have hcat : ¬ (9223372036854775807 < t.size + T.size) := by omega
        clear hne
        go_wp2_with (go_at_call 17; refine C.out.mono ?_)
        rintro e w2 ⟨rfl, hb2⟩
        have HB2 := Lib.hid (HBw.out.trans (hb2.mono HBw.out.size))
        clear hb2 C
        go_wp2
        go_roundw
        case rel => exact ⟨t ++ T, i + 45, rfl, by go_num, by omega, HN, HB2, HL.out⟩
        case measure => simp [intOf]; omega
      · have C := Lib.hid (line17 (s.extract i (i + 45)) wx (by rw [ext_sz _ _ _ (by omega)]; omega))
        have HN : Hid (ls (t ++ mk (line (ls (s.extract i (i + 45))))) ++ restL ((ls s).drop (i + 45)) = F) := Lib.hid (by
          rw [← HE.out, restL_cons hne, ls_app, ls_mk, ls_part, List.append_assoc, List.drop_drop])
        have hT : (mk (line (ls (s.extract i (i + 45))))).size ≤ 62 := by rw [mk_size, line_len, ls_len, ext_sz _ _ _ (by omega)]; omega
        have HL : Hid (45 * (t ++ mk (line (ls (s.extract i (i + 45))))).size ≤ 62 * (i + 45)) := Lib.hid (by rw [ByteArray.size_append]; omega)
        generalize mk (line (ls (s.extract i (i + 45)))) = T at C HN hT HL
        have hcat : ¬ (9223372036854775807 < t.size + T.size) := by omega
        clear hne
        go_wp2_with (go_at_call 17; refine C.out.mono ?_)
        rintro e w2 ⟨rfl, hb2⟩
        have HB2 := Lib.hid (HBw.out.trans (hb2.mono HBw.out.size))
        clear hb2 C
        go_wp2
        go_roundw
        case rel => exact ⟨t ++ T, i + 45, rfl, by go_num, by omega, HN, HB2, HL.out⟩
        case measure => simp [intOf]; omega
    · have C := Lib.hid (line17 ⟨#[]⟩ wx (by show 0 ≤ _; omega))
      have HN : Hid (t ++ mk (line (ls ⟨#[]⟩)) ++ ⟨#[101, 110, 100, 10]⟩ = mk F) := Lib.hid (by
        rw [← HE.out, List.drop_eq_nil_of_le (by rw [ls_len]; omega), restL_nil]
        rw [show (⟨#[101, 110, 100, 10]⟩ : ByteArray) = mk endL from rfl, ← mk_ls t, mk_app, mk_app, List.append_assoc, ls_mk])
      have hT : (mk (line (ls ⟨#[]⟩))).size ≤ 62 := by rw [mk_size, line_len]; show 2 + (0 + 2) / 3 * 4 ≤ 62; omega
      have hcat2 : ¬ (9223372036854775807 < (t ++ mk (line (ls ⟨#[]⟩))).size + 4) := by rw [ByteArray.size_append]; omega
      generalize mk (line (ls ⟨#[]⟩)) = T at C HN hT hcat2
      have hcat : ¬ (9223372036854775807 < t.size + T.size) := by omega
      go_wp2_with (go_at_call 17; refine C.out.mono ?_)
      rintro e w2 ⟨rfl, hb2⟩
      have HB2 := Lib.hid (HBw.out.trans (hb2.mono HBw.out.size))
      clear hb2 C
      go_wp2
      go_ret
      rw [← HN.out]
      exact ⟨rfl, HB2.out⟩
end Go.Proofs.Ytdjfapaebonadaa
