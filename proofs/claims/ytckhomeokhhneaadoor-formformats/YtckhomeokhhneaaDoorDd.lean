/- The document's pad. Conditions: lengths below a bound. -/
import Derived.Test.YtckhomeokhhneaaDoorDc
namespace Go.Proofs.YtckhomeokhhneaaDoor
open Go.RowKit Go.PlainAid
set_option linter.unusedSimpArgs false
set_option linter.unusedVariables false

set_option maxHeartbeats 4000000 in
set_option maxRecDepth 100000 in
theorem pad27 (left zero num : Bool) (width : Nat) (q : Int) (ch : Nat) (h s : ByteArray) (w : World) (hh : h.size ≤ 1000) (hs : s.size ≤ 1000000) (hw : width < 1000) : Calls Tryd.prog 27 #[.agg #[.bool left, .bool zero, .int .i64 width, .int .i64 q, .int .u8 ch], .string h, .string s, .bool num] w (GivesT w (padX left zero (decide (q < 0)) num width (ls h) (ls s))) := by
  obtain ⟨X, HX⟩ : ∃ X, Hid (padX left zero (decide (q < 0)) num width (ls h) (ls s) = X) := ⟨_, Lib.hid rfl⟩
  rw [HX.out]
  have HB0 := fun o => Lib.hid ((Below.refl w.heap.size w).alloc (Nat.le_refl _) o)
  have hm1 : IntKind.i64.wrap ((width : Int) - h.size) = (width : Int) - h.size := by rw [IntKind.wrap_i64]; omega
  have n1 : ¬ 9223372036854775807 < h.size + s.size := by omega
  by_cases hle : (width : Int) - h.size - s.size ≤ 0
  · obtain ⟨m, Hm⟩ : ∃ m : Int, Hid ((width : Int) - h.size - s.size = m) := ⟨_, Lib.hid rfl⟩
    have hm2 : IntKind.i64.wrap ((width : Int) - h.size - s.size) = m := by rw [IntKind.wrap_i64, ← Hm.out]; omega
    have hd : decide (m ≤ 0) = true := decide_eq_true (by rw [← Hm.out]; exact hle)
    have HF : Hid (h ++ s = mk X) := Lib.hid (by rw [← HX.out, padX_small _ _ _ _ _ _ _ (by rw [ls_len, ls_len]; omega), app_ls])
    go_enter Tryd.func27, Tryd.ntmps27
    go_wp2
    go_ret
    exact ⟨by rw [← HF.out]; rfl, (HB0 _).out⟩
  obtain ⟨m, Hm⟩ : ∃ m : Nat, Hid ((width : Int) - h.size - s.size = m) := ⟨((width : Int) - h.size - s.size).toNat, Lib.hid (by omega)⟩
  have hm2 : IntKind.i64.wrap ((width : Int) - h.size - s.size) = (m : Int) := by rw [IntKind.wrap_i64, ← Hm.out]; omega
  have hm3 : m ≤ 1000 := by have := Hm.out; omega
  have hd : decide ((m : Int) ≤ 0) = false := decide_eq_false (by have := Hm.out; omega)
  have hd0 : decide (m = 0) = false := decide_eq_false (by have := Hm.out; omega)
  have HMN : Hid (width - (ls h).length - (ls s).length = m) := Lib.hid (by rw [ls_len, ls_len]; have := Hm.out; omega)
  have hmne : ¬ m = 0 := by have := Hm.out; omega
  unfold padX at HX
  rw [HMN.out] at HX
  have C : Hid (∀ (c : UInt8) W, Calls Tryd.prog 30 #[.string (mk [c]), .int .i64 m] W fun e w' => e = .returned (.string (mk (rep c m))) ∧ W = w') := Lib.hid fun c W => fill30 c m W (by omega)
  have C32 : Hid (∀ W, Calls Tryd.prog 30 #[.string ⟨#[32]⟩, .int .i64 m] W fun e w' => e = .returned (.string (mk (rep 32 m))) ∧ W = w') := Lib.hid fun W => C.out 32 W
  have C48 : Hid (∀ W, Calls Tryd.prog 30 #[.string ⟨#[48]⟩, .int .i64 m] W fun e w' => e = .returned (.string (mk (rep 48 m))) ∧ W = w') := Lib.hid fun W => C.out 48 W
  have z : ∀ c, (mk (rep c m)).size = m := fun c => by rw [mk_size, rep_len]
  have hz32 := z 32
  have hz48 := z 48
  have HE32 : Hid (mk (rep 32 m) ++ h ++ s = mk (rep 32 m ++ ls h ++ ls s)) := Lib.hid (by rw [app3, ls_mk])
  have HE48 : Hid (h ++ mk (rep 48 m) ++ s = mk (ls h ++ rep 48 m ++ ls s)) := Lib.hid (by rw [app3, ls_mk])
  have HEl : Hid (h ++ s ++ mk (rep 32 m) = mk (ls h ++ ls s ++ rep 32 m)) := Lib.hid (by rw [app3, ls_mk])
  generalize mk (rep 32 m) = R32 at C32 HE32 HEl hz32
  generalize mk (rep 48 m) = R48 at C48 HE48 hz48
  have y1 : (h ++ s).size = h.size + s.size := ByteArray.size_append
  have y2 : (R32 ++ h).size = R32.size + h.size := ByteArray.size_append
  have y3 : (h ++ R48).size = h.size + R48.size := ByteArray.size_append
  have n2 : ¬ 9223372036854775807 < (h ++ s).size + R32.size := by omega
  have n3 : ¬ 9223372036854775807 < R32.size + h.size := by omega
  have n4 : ¬ 9223372036854775807 < (R32 ++ h).size + s.size := by omega
  have n5 : ¬ 9223372036854775807 < h.size + R48.size := by omega
  have n6 : ¬ 9223372036854775807 < (h ++ R48).size + s.size := by omega
  clear y1 y2 y3 hz32 hz48 z C HMN hle Hm
  cases left
  · have HX2 := Lib.hid (show (if (zero && num && decide (q < 0)) = true then ls h ++ rep 48 m ++ ls s else rep 32 m ++ ls h ++ ls s) = X from HX.out)
    clear HX HEl n2
    cases hc : (zero && num && decide (q < 0))
    · rw [hc] at HX2
      have HF : Hid (R32 ++ h ++ s = mk X) := Lib.hid (by rw [← HX2.out]; exact HE32.out)
      clear HX2 HE32 HE48 C48 n5 n6
      have hor : zero = false ∨ (zero = true ∧ num = false) ∨ (zero = true ∧ num = true ∧ decide (q < 0) = false) := by
        cases zero <;> cases num <;> simp at hc ⊢
        exact hc
      clear hc
      rcases hor with rfl | ⟨rfl, rfl⟩ | ⟨rfl, rfl, hq⟩
      all_goals (
        go_enter Tryd.func27, Tryd.ntmps27
        go_wp2_with (go_at_call 30; refine (C32.out _).mono ?_; rintro e w' ⟨rfl, rfl⟩)
        go_ret
        exact ⟨by rw [← HF.out]; rfl, (HB0 _).out⟩)
    · rw [hc] at HX2
      have HF : Hid (h ++ R48 ++ s = mk X) := Lib.hid (by rw [← HX2.out]; exact HE48.out)
      simp only [Bool.and_eq_true] at hc
      obtain ⟨⟨rfl, rfl⟩, hq⟩ := hc
      clear HX2 HE32 HE48 C32 n3 n4
      go_enter Tryd.func27, Tryd.ntmps27
      go_wp2_with (go_at_call 30; refine (C48.out _).mono ?_; rintro e w' ⟨rfl, rfl⟩)
      go_ret
      exact ⟨by rw [← HF.out]; rfl, (HB0 _).out⟩
  · have HF : Hid (h ++ s ++ R32 = mk X) := Lib.hid (by rw [← HX.out]; exact HEl.out)
    clear HX HE32 HE48 HEl C48 n3 n4 n5 n6
    go_enter Tryd.func27, Tryd.ntmps27
    go_wp2_with (go_at_call 30; refine (C32.out _).mono ?_; rintro e w' ⟨rfl, rfl⟩)
    go_ret
    exact ⟨by rw [← HF.out]; rfl, (HB0 _).out⟩
end Go.Proofs.YtckhomeokhhneaaDoor
