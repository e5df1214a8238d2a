/- Contract of pad. Conditions: lengths below a bound. -/
import Derived.Test.YtckhomeokhhneaaDoorF
namespace Go.Proofs.YtckhomeokhhneaaDoor
open Go.RowKit Go.PlainAid
set_option linter.unusedSimpArgs false
set_option linter.unusedVariables false

theorem rep_len (c : UInt8) (n : Nat) : (rep c n).length = n := by simp [rep]
theorem padL_len (p : Pl) (h s : List UInt8) : (padL p h s).length = max p.width (h.length + s.length) := by
  unfold padL
  split
  · simp only [List.length_append, rep_len]; omega
  · split <;> (simp only [List.length_append, rep_len]; omega)
theorem app3 (a b c : ByteArray) : a ++ b ++ c = mk (ls a ++ ls b ++ ls c) := by rw [app_ls, app_ls2]
def GivesS (w : World) (t : ByteArray) (e : Ending) (w' : World) : Prop := e = .returned (.string t) ∧ Below w.heap.size w w'
set_option maxHeartbeats 2000000 in
set_option maxRecDepth 100000 in
theorem pad32 (p : Pl) (h s : ByteArray) (w : World) (hh : h.size ≤ 1000) (hs : s.size ≤ 1000000) (hw : p.width < 1000) (hc : p.ch < 256) : Calls Tryd.prog 32 #[plV p, .string h, .string s] w (GivesT w (padL p (ls h) (ls s))) := by
  obtain ⟨X, HX⟩ : ∃ X, Hid (padL p (ls h) (ls s) = X) := ⟨_, Lib.hid rfl⟩
  rw [HX.out]
  have HB0 := fun o => Lib.hid ((Below.refl w.heap.size w).alloc (Nat.le_refl _) o)
  have CN := Lib.hid fun W => numeric39 p W hc
  obtain ⟨m, Hm⟩ : ∃ m : Int, Hid ((p.width : Int) - h.size - s.size = m) := ⟨_, Lib.hid rfl⟩
  have CF := Lib.hid fun c W => fillUp36 c m W (by have := Hm.out; omega) (by have := Hm.out; omega)
  have HT : Hid (m.toNat = p.width - (ls h).length - (ls s).length) := Lib.hid (by have := Hm.out; rw [ls_len, ls_len]; omega)
  have hm1 : IntKind.i64.wrap ((p.width : Int) - h.size) = (p.width : Int) - h.size := by rw [IntKind.wrap_i64]; omega
  have hm2 : IntKind.i64.wrap ((p.width : Int) - h.size - s.size) = m := by rw [IntKind.wrap_i64, ← Hm.out]; omega
  have hrz : ∀ c, (mk (rep c m.toNat)).size ≤ 1000 := fun c => by rw [mk_size, rep_len, HT.out]; omega
  have HZ := Lib.hid hrz
  have z1 : (h ++ s).size = h.size + s.size := ByteArray.size_append
  have z2 : ∀ c, (mk (rep c m.toNat) ++ h).size = (mk (rep c m.toNat)).size + h.size := fun c => ByteArray.size_append
  have z3 : ∀ c, (h ++ mk (rep c m.toNat)).size = h.size + (mk (rep c m.toNat)).size := fun c => ByteArray.size_append
  have n1 : ¬ 9223372036854775807 < h.size + s.size := by omega
  have n2 : ∀ c, ¬ 9223372036854775807 < (h ++ s).size + (mk (rep c m.toNat)).size := fun c => by have := HZ.out c; rw [z1]; omega
  have n3 : ∀ c, ¬ 9223372036854775807 < (mk (rep c m.toNat)).size + h.size := fun c => by have := HZ.out c; omega
  have n4 : ∀ c, ¬ 9223372036854775807 < (mk (rep c m.toNat) ++ h).size + s.size := fun c => by have := HZ.out c; rw [z2]; omega
  have n5 : ∀ c, ¬ 9223372036854775807 < h.size + (mk (rep c m.toNat)).size := fun c => by have := HZ.out c; omega
  have n6 : ∀ c, ¬ 9223372036854775807 < (h ++ mk (rep c m.toNat)).size + s.size := fun c => by have := HZ.out c; rw [z3]; omega
  clear z1 z2 z3 hrz
  unfold padL at HX
  rw [← HT.out] at HX
  clear HT
  obtain ⟨a, b, wd, pr, ch⟩ := p
  unfold plV plC at *
  simp only at *
  cases a
  · cases b
    · have HE : Hid (mk (rep 32 m.toNat) ++ h ++ s = mk X) := Lib.hid (by rw [app3, ls_mk, ← HX.out]; first | rfl | (rw [hn]; rfl))
      have C : Hid (∀ W, Calls Tryd.prog 36 #[.int .u8 32, .int .i64 m] W (GivesS W (mk (rep 32 m.toNat)))) := Lib.hid fun W => CF.out 32 W
      have n3' := n3 32
      have n4' := n4 32
      generalize mk (rep 32 m.toNat) = t at C HE n3' n4'
      clear n2 n3 n4 n5 n6 CF HX HZ
      go_enter Tryd.func32, Tryd.ntmps32
      have B0 := HB0
      clear HB0 CN
      go_wp2_with (go_at_call 36; refine (C.out _).mono ?_)
      rintro e w1 ⟨rfl, b1⟩
      have B1 := Lib.hid ((B0 _).out.trans (b1.mono (B0 _).out.size))
      clear b1 C
      go_wp2
      go_ret
      exact ⟨by rw [← HE.out]; rfl, B1.out⟩
    · cases pr with
      | some q =>
        have HE : Hid (mk (rep 32 m.toNat) ++ h ++ s = mk X) := Lib.hid (by rw [app3, ls_mk, ← HX.out]; first | rfl | (rw [hn]; rfl))
        have C : Hid (∀ W, Calls Tryd.prog 36 #[.int .u8 32, .int .i64 m] W (GivesS W (mk (rep 32 m.toNat)))) := Lib.hid fun W => CF.out 32 W
        have n3' := n3 32
        have n4' := n4 32
        generalize mk (rep 32 m.toNat) = t at C HE n3' n4'
        clear n2 n3 n4 n5 n6 CF HX HZ
        go_enter Tryd.func32, Tryd.ntmps32
        have B0 := HB0
        clear HB0 CN
        go_wp2_with (go_at_call 36; refine (C.out _).mono ?_)
        rintro e w1 ⟨rfl, b1⟩
        have B1 := Lib.hid ((B0 _).out.trans (b1.mono (B0 _).out.size))
        clear b1 C
        go_wp2
        go_ret
        exact ⟨by rw [← HE.out]; rfl, B1.out⟩
      | none =>
        cases hn : isNum ch
        · have HE : Hid (mk (rep 32 m.toNat) ++ h ++ s = mk X) := Lib.hid (by rw [app3, ls_mk, ← HX.out]; first | rfl | (rw [hn]; rfl))
          rw [hn] at CN
          have C : Hid (∀ W, Calls Tryd.prog 36 #[.int .u8 32, .int .i64 m] W (GivesS W (mk (rep 32 m.toNat)))) := Lib.hid fun W => CF.out 32 W
          have n3' := n3 32
          have n4' := n4 32
          generalize mk (rep 32 m.toNat) = t at C HE n3' n4'
          clear n2 n3 n4 n5 n6 CF HX HZ
          go_enter Tryd.func32, Tryd.ntmps32
          go_wp2_with (go_at_call 39; refine (CN.out _).mono ?_)
          rintro e w0 ⟨rfl, b0⟩
          have B0 := Lib.hid ((HB0 _).out.trans (b0.mono (HB0 _).out.size))
          clear b0 CN
          go_wp2_with (go_at_call 36; refine (C.out _).mono ?_)
          rintro e w1 ⟨rfl, b1⟩
          have B1 := Lib.hid (B0.out.trans (b1.mono B0.out.size))
          clear b1 C
          go_wp2
          go_ret
          exact ⟨by rw [← HE.out]; rfl, B1.out⟩
        · have HE : Hid (h ++ mk (rep 48 m.toNat) ++ s = mk X) := Lib.hid (by rw [app3, ls_mk, ← HX.out]; first | rfl | (rw [hn]; rfl))
          rw [hn] at CN
          have C : Hid (∀ W, Calls Tryd.prog 36 #[.int .u8 48, .int .i64 m] W (GivesS W (mk (rep 48 m.toNat)))) := Lib.hid fun W => CF.out 48 W
          have n5' := n5 48
          have n6' := n6 48
          generalize mk (rep 48 m.toNat) = t at C HE n5' n6'
          clear n2 n3 n4 n5 n6 CF HX HZ
          go_enter Tryd.func32, Tryd.ntmps32
          go_wp2_with (go_at_call 39; refine (CN.out _).mono ?_)
          rintro e w0 ⟨rfl, b0⟩
          have B0 := Lib.hid ((HB0 _).out.trans (b0.mono (HB0 _).out.size))
          clear b0 CN
          go_wp2_with (go_at_call 36; refine (C.out _).mono ?_)
          rintro e w1 ⟨rfl, b1⟩
          have B1 := Lib.hid (B0.out.trans (b1.mono B0.out.size))
          clear b1 C
          go_wp2
          go_ret
          exact ⟨by rw [← HE.out]; rfl, B1.out⟩
  · have HE : Hid (h ++ s ++ mk (rep 32 m.toNat) = mk X) := Lib.hid (by rw [app3, ls_mk, ← HX.out]; rfl)
    have C : Hid (∀ W, Calls Tryd.prog 36 #[.int .u8 32, .int .i64 m] W (GivesS W (mk (rep 32 m.toNat)))) := Lib.hid fun W => CF.out 32 W
    have n2' := n2 32
    generalize mk (rep 32 m.toNat) = t at C HE n2'
    clear n2 n3 n4 n5 n6 CF HX HZ
    go_enter Tryd.func32, Tryd.ntmps32
    have B0 := HB0
    clear HB0 CN
    go_wp2_with (go_at_call 36; refine (C.out _).mono ?_)
    rintro e w1 ⟨rfl, b1⟩
    have B1 := Lib.hid ((B0 _).out.trans (b1.mono (B0 _).out.size))
    clear b1 C
    go_wp2
    go_ret
    exact ⟨by rw [← HE.out]; rfl, B1.out⟩
end Go.Proofs.YtckhomeokhhneaaDoor
