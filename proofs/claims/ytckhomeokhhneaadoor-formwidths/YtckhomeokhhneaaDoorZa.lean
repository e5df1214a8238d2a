/- FormWidths: the walk. Condition: the tables read as they are laid. -/
import Derived.Test.YtckhomeokhhneaaDoorZ
namespace Go.Proofs.YtckhomeokhhneaaDoor
open Go.RowKit Go.PlainAid
set_option linter.unusedSimpArgs false
set_option linter.unusedVariables false

theorem conv3 (w : World) (X Y Z : Int) (x y z : UInt8) (hx : X = (x.toNat : Int)) (hy : Y = (y.toNat : Int)) (hz : Z = (z.toNat : Int)) : (convert 33 9 (.slice (some ⟨w.heap.size, 0, none⟩) 3 3)).run Tryd.prog (w.alloc (.cells #[.int .u8 X, .int .u8 Y, .int .u8 Z] 5)) = .ok (.string (mk [x, y, z])) (w.alloc (.cells #[.int .u8 X, .int .u8 Y, .int .u8 Z] 5)) := by
  subst hx hy hz
  exact run_convert_bytes_back (P := Tryd.prog) _ 33 9 5 ⟨w.heap.size, 0, none⟩ 3 [x, y, z] Tryd.underlying33 Tryd.underlying5 Tryd.underlying9 (fun j hj => by
    have : j = 0 ∨ j = 1 ∨ j = 2 := by simp at hj; omega
    rcases this with rfl | rfl | rfl
    all_goals (rw [Lib.add_plain, World.cell?_alloc_new]; rfl))
set_option maxHeartbeats 4000000 in
set_option maxRecDepth 100000 in
theorem widths5 (s : ByteArray) (n : Int) (l : Bool) (hs : s.size ≤ 140737488351232) (W : World) (he : Env W) : Calls Tryd.prog 5 #[.string s, .int .i64 n, .bool l] W fun e W' => e = .returned (.bool true) ∧ Below W.heap.size W W' := by
  have CA := Lib.hid (anchor7 W he)
  have HE := Lib.hid he
  clear he
  by_cases hn : 500 < s.size
  · have hd : decide (500 < (s.size : Int)) = true := decide_eq_true (by omega)
    go_enter Tryd.func5, Tryd.ntmps5
    go_wp2_with (go_at_call 7; refine CA.out.mono ?_; rintro e w1 ⟨rfl, b1⟩; have B1 := Lib.hid b1; clear b1)
    go_ret
    exact ⟨rfl, B1.out⟩
  have hd : decide (500 < (s.size : Int)) = false := decide_eq_false (by omega)
  by_cases h0 : n < 0
  · have hd2 : decide (n < 0) = true := decide_eq_true h0
    go_enter Tryd.func5, Tryd.ntmps5
    go_wp2_with (go_at_call 7; refine CA.out.mono ?_; rintro e w1 ⟨rfl, b1⟩; have B1 := Lib.hid b1; clear b1)
    go_ret
    exact ⟨rfl, B1.out⟩
  by_cases h9 : 999 < n
  · have hd2 : decide (n < 0) = false := decide_eq_false h0
    have hd3 : decide (999 < n) = true := decide_eq_true h9
    go_enter Tryd.func5, Tryd.ntmps5
    go_wp2_with (go_at_call 7; refine CA.out.mono ?_; rintro e w1 ⟨rfl, b1⟩; have B1 := Lib.hid b1; clear b1)
    go_ret
    exact ⟨rfl, B1.out⟩
  obtain ⟨m, rfl⟩ : ∃ m : Nat, n = m := ⟨n.toNat, by omega⟩
  have hm : m < 1000 := by omega
  have hd2 : decide ((m : Int) < 0) = false := decide_eq_false h0
  have hd3 : decide (999 < (m : Int)) = false := decide_eq_false h9
  clear h0 h9
  obtain ⟨R, hR1, hR2, hR3⟩ := form_w l m hm (ls s) (by rw [ls_len]; omega)
  rw [ls_len] at hR2 hR3
  obtain ⟨T, HT⟩ : ∃ T, Hid (mk R = T) := ⟨_, Lib.hid rfl⟩
  have hTs : T.size = max m s.size := by rw [← HT.out, mk_size]; exact hR2
  have HTl : Hid (ls T = R) := Lib.hid (by rw [← HT.out, ls_mk])
  have C9 : Hid (∀ (F : ByteArray) (w0 : World), ls F = 37 :: rW l m → Env w0 → Calls Tryd.prog 9 #[.string F, .slice (some ⟨w0.heap.size, 0, none⟩) 1 1] (w0.alloc (.cells #[.string s] 9)) fun e w' => e = .returned (.tuple #[.string T, .int .i64 0]) ∧ Below w0.heap.size w0 w') := Lib.hid fun F w0 hF hw => by
    have hb0 : Below w0.heap.size w0 (w0.alloc (.cells #[.string s] 9)) := (Below.refl _ w0).alloc (Nat.le_refl _) _
    have hst : Strs (w0.alloc (.cells #[.string s] 9)) (.slice (some ⟨w0.heap.size, 0, none⟩) 1 1) [s] := by
      refine .inr ⟨w0.heap.size, 0, 1, rfl, Nat.le_refl _, fun i x hi => ?_⟩
      rw [Nat.zero_add, alloc_cell]
      match i, hi with
      | 0, hi => simp at hi; subst hi; rfl
    have hFs : F.size ≤ 1000000 := by
      rw [← ls_len, hF]; unfold rW dgs; cases l <;> simp
    have h := format9 F _ [s] _ (hw.below hb0) hst hFs (by intro x hx; simp at hx; subst hx; omega)
    rw [show List.map ls [s] = [ls s] from rfl, hF, hR1] at h
    refine h.mono fun e w' ⟨h1, h2⟩ => ⟨?_, hb0.trans (h2.mono hb0.size)⟩
    rw [show e = _ from h1, HT.out]
    try rfl
  have hx1 : ((48 : Int) + (m : Int) / 100) = ((UInt8.ofNat (48 + m / 100)).toNat : Int) := by rw [UInt8.toNat_ofNat']; omega
  have hx2 : ((48 : Int) + (m : Int) / 10 % 10) = ((UInt8.ofNat (48 + m / 10 % 10)).toNat : Int) := by rw [UInt8.toNat_ofNat']; omega
  have hx3 : ((48 : Int) + (m : Int) % 10) = ((UInt8.ofNat (48 + m % 10)).toNat : Int) := by rw [UInt8.toNat_ofNat']; omega
  have CV := Lib.hid fun w => conv3 w _ _ _ _ _ _ hx1 hx2 hx3
  clear hx1 hx2 hx3 hR1
  obtain ⟨D, HD⟩ : ∃ D, Hid (mk [UInt8.ofNat (48 + m / 100), UInt8.ofNat (48 + m / 10 % 10), UInt8.ofNat (48 + m % 10)] = D) := ⟨_, Lib.hid rfl⟩
  rw [HD.out] at CV
  have hDs : D.size = 3 := by rw [← HD.out]; rfl
  have hDl : Hid (ls D ++ [115] = dgs m) := Lib.hid (by rw [← HD.out]; rfl)
  have n1 : ¬ 9223372036854775807 < D.size + (⟨#[115]⟩ : ByteArray).size := by show ¬ _ < D.size + 1; omega
  obtain ⟨E, HE2⟩ : ∃ E, Hid (D ++ (⟨#[115]⟩ : ByteArray) = E) := ⟨_, Lib.hid rfl⟩
  have hEs : E.size = 4 := by rw [← HE2.out, ByteArray.size_append, hDs]; try rfl
  have hEl : Hid (ls E = dgs m) := Lib.hid (by rw [← HE2.out, app_ls2, ← hDl.out])
  have he2 := HE2.out
  have hmx : max (m : Int) (s.size : Int) = (T.size : Int) := by omega
  have hsT : s.size ≤ T.size := by omega
  have HB := Lib.hid fun (w : World) o (B : Below W.heap.size W w) => B.trans (((Below.refl w.heap.size w).alloc (Nat.le_refl _) o).mono B.size)
  cases l
  · have HR : Hid (T.extract (T.size - s.size) T.size = s) := Lib.hid (by
      apply ls_inj
      rw [ls_drop, HTl.out, hTs, ← hR2]
      simpa using hR3)
    clear hTs hR2 hR3
    have n2 : ¬ 9223372036854775807 < (⟨#[37]⟩ : ByteArray).size + E.size := by show ¬ _ < 1 + E.size; omega
    have C9b := Lib.hid fun w0 h => C9.out (⟨#[37]⟩ ++ E) w0 (by rw [app_ls2, hEl.out]; rfl) h
    go_enter Tryd.func5, Tryd.ntmps5
    go_upto_region 8 with (go_at_call 7; refine CA.out.mono ?_; rintro e w1 ⟨rfl, b1⟩; have B1 := Lib.hid b1; clear b1)
    clear CA
    have hcv := CV.out w1
    go_upto_region 9 with fail
    obtain ⟨wz, hwz⟩ : ∃ wz, wz = w1.alloc (.cells #[.int .u8 (48 + (m : Int) / 100), .int .u8 (48 + (m : Int) / 10 % 10), .int .u8 (48 + (m : Int) % 10)] 5) := ⟨_, rfl⟩
    have BZ : Hid (Below W.heap.size W wz) := Lib.hid (by rw [hwz]; exact HB.out w1 _ B1.out)
    have EZ := Lib.hid (HE.out.below BZ.out)
    have C9c := Lib.hid (C9b.out wz EZ.out)
    rw [← hwz]
    clear hwz hcv CV HB B1 C9 C9b EZ HE he2 n1 n2
    go_wp2_with (go_at_call 9; refine C9c.out.mono ?_; rintro e w3 ⟨rfl, b3⟩; have B3 := Lib.hid (BZ.out.trans (b3.mono BZ.out.size)); clear b3)
    go_ret
    exact ⟨by rw [HR.out]; simp, B3.out⟩
  · have HR : Hid (T.extract 0 s.size = s) := Lib.hid (by
      apply ls_inj
      rw [ls_take, HTl.out]
      simpa using hR3)
    clear hTs hR2 hR3
    have n2 : ¬ 9223372036854775807 < (⟨#[37, 45]⟩ : ByteArray).size + E.size := by show ¬ _ < 2 + E.size; omega
    have C9b := Lib.hid fun w0 h => C9.out (⟨#[37, 45]⟩ ++ E) w0 (by rw [app_ls2, hEl.out]; rfl) h
    go_enter Tryd.func5, Tryd.ntmps5
    go_upto_region 8 with (go_at_call 7; refine CA.out.mono ?_; rintro e w1 ⟨rfl, b1⟩; have B1 := Lib.hid b1; clear b1)
    clear CA
    have hcv := CV.out w1
    go_upto_region 9 with fail
    obtain ⟨wz, hwz⟩ : ∃ wz, wz = w1.alloc (.cells #[.int .u8 (48 + (m : Int) / 100), .int .u8 (48 + (m : Int) / 10 % 10), .int .u8 (48 + (m : Int) % 10)] 5) := ⟨_, rfl⟩
    have BZ : Hid (Below W.heap.size W wz) := Lib.hid (by rw [hwz]; exact HB.out w1 _ B1.out)
    have EZ := Lib.hid (HE.out.below BZ.out)
    have C9c := Lib.hid (C9b.out wz EZ.out)
    rw [← hwz]
    clear hwz hcv CV HB B1 C9 C9b EZ HE he2 n1 n2
    go_wp2_with (go_at_call 9; refine C9c.out.mono ?_; rintro e w3 ⟨rfl, b3⟩; have B3 := Lib.hid (BZ.out.trans (b3.mono BZ.out.size)); clear b3)
    go_ret
    exact ⟨by rw [HR.out]; simp, B3.out⟩
end Go.Proofs.YtckhomeokhhneaaDoor
