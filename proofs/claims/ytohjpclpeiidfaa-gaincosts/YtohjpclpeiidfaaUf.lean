/- Contracts of the lines. Conditions: lengths. -/
import Derived.Test.YtohjpclpeiidfaaUp
import Derived.Lib.Strings
import Derived.Lib.Bytealg
import Derived.Lib.IndexLaws
import Derived.Laws.BitsAllLaws
import Derived.Laws.DeepStrings4
namespace Go.Proofs.Ytohjpclpeiidfaa
open Go.RowKit Go.PlainAid
set_option linter.unusedSimpArgs false
set_option linter.unusedVariables false
namespace Uu
theorem lt_pos (n : Nat) (h0 : n ≠ 0) (h : n < 64) : ((lt n).toNat : Int) = 32 + n := by rw [lt_nat n h, if_neg h0]; omega
set_option maxHeartbeats 1000000 in
set_option maxRecDepth 100000 in
theorem letter31 (n : Nat) (h : n < 64) (w : World) : Calls Try.prog 46 #[.int .i64 n] w fun e w' => e = .returned (.int .u8 ((lt n).toNat : Int)) ∧ w = w' := by
  by_cases h0 : n = 0
  · subst h0
    go_enter Try.func46, Try.ntmps46
    go_wp2
    go_ret
    exact ⟨rfl, rfl⟩
  · have HL := Lib.hid (lt_pos n h0 h)
    have hd : ((n : Int) == 0) = false := by simpa using h0
    go_enter Try.func46, Try.ntmps46
    go_wp2
    go_ret
    rw [HL.out]
    exact ⟨rfl, rfl⟩
/-- The number of k bytes from a place on. -/
def wk (l : List UInt8) (i : Nat) : Nat → Nat
  | 0 => 0
  | k + 1 => 256 * wk l i k + at0 l (i + k)
theorem wk_lt (l : List UInt8) (i : Nat) : wk l i 0 < 1 ∧ wk l i 1 < 256 ∧ wk l i 2 < 65536 ∧ wk l i 3 < 16777216 := by
  have h0 := at0_lt l i
  have h1 := at0_lt l (i + 1)
  have h2 := at0_lt l (i + 2)
  refine ⟨?_, ?_, ?_, ?_⟩ <;> simp only [wk, Nat.add_zero] <;> omega
theorem wk_lt2 (l : List UInt8) (i k : Nat) (h : k < 3) : wk l i k < 65536 := by
  obtain ⟨a, b, c, _⟩ := wk_lt l i
  have : k = 0 ∨ k = 1 ∨ k = 2 := by omega
  rcases this with rfl | rfl | rfl <;> omega
theorem wk_val (l : List UInt8) (i : Nat) : wk l i 3 = val3 (l.drop i) := by
  unfold val3
  rw [at0_drop, at0_drop, at0_drop]
  simp only [wk, Nat.add_zero]; omega
theorem wk_in (s : ByteArray) (i k : Nat) : ((wk (ls s) i (k + 1) : Nat) : Int) = 256 * ((wk (ls s) i k : Nat) : Int) + bt s (i + k) := by rw [bt_at]; simp only [wk]; omega
theorem wk_out (s : ByteArray) (i k : Nat) (h : s.size ≤ i + k) : ((wk (ls s) i (k + 1) : Nat) : Int) = 256 * ((wk (ls s) i k : Nat) : Int) := by rw [wk_in, bt_end s h]; omega
def Rel17a (B : Nat) (w : World) (s : ByteArray) (F : List UInt8) (v x : Value) (wx : World) : Prop := ∃ (p : List UInt8) (i : Nat), x = .int .i64 i ∧ i ≤ s.size + 2 ∧ Hid (OB B v p wx) ∧ Hid (p ++ body ((ls s).drop i) = F) ∧ Hid (Below B w wx) ∧ B ≤ wx.heap.size ∧ p.length ≤ 4 * i + 1
def Rel17b (s : ByteArray) (i : Nat) (n k : Value) : Prop := ∃ j : Nat, j ≤ 3 ∧ k = .int .i64 j ∧ n = .int .i64 (wk (ls s) i j : Nat)
set_option maxHeartbeats 4000000 in
set_option maxRecDepth 100000 in
theorem line17 (s : ByteArray) (w : World) (h45 : s.size ≤ 45) :
    Calls Try.prog 44 #[.string s] w fun e w' => e = .returned (.string (mk (line (ls s)))) ∧ Below w.heap.size w w' := by
  have hb := get_bt s
  have C := Lib.hid (letter31 s.size (by omega))
  have HF : Hid ([lt s.size] ++ body (ls s) ++ [10] = line (ls s)) := Lib.hid (by simp [line])
  generalize line (ls s) = fin at HF ⊢
  generalize lt s.size = b at C HF
  obtain ⟨F, HG⟩ : ∃ F, Hid ([b] ++ body ((ls s).drop 0) = F) := ⟨_, Lib.hid rfl⟩
  have HF2 : Hid (F ++ [10] = fin) := Lib.hid (by rw [← HG.out, List.drop_zero]; exact HF.out)
  clear HF
  have HO : Hid (OB w.heap.size (.slice (some ⟨w.heap.size, 0, none⟩) 1 1) [b] (w.alloc (.cells #[.int .u8 (b.toNat : Int)] 5))) := Lib.hid (.inr ⟨w.heap.size, 1, #[.int .u8 (b.toNat : Int)], (0, 0), Nat.le_refl _, rfl, heap_alloc_new _ _, rfl, fun j _ => by omega, Nat.le_refl _, by unfold maxLen; omega, rfl⟩)
  have HB : Hid (Below w.heap.size w (w.alloc (.cells #[.int .u8 (b.toNat : Int)] 5))) := Lib.hid ((Below.refl _ w).alloc (Nat.le_refl _) _)
  have hB : w.heap.size ≤ (w.alloc (.cells #[.int .u8 (b.toNat : Int)] 5)).heap.size := HB.out.size
  go_enter Try.func44, Try.ntmps44
  go_wp2_with (go_at_call 46; refine (C.out _).mono ?_; rintro e w' ⟨rfl, rfl⟩)
  generalize w.alloc (.cells #[.int .u8 (b.toNat : Int)] 5) = w1 at HO HB hB ⊢
  go_loopw [3, 4] (Rel17a w.heap.size w s F) (fun _ x _ => s.size + 2 - (intOf x).toNat)
  case atStart => exact ⟨[b], 0, rfl, by omega, HO, HG, HB, hB, by simp⟩
  case round =>
    clear HO HB hB HG C
    obtain ⟨p, i, rfl, hi, HP, HE, HBw, hBx, hpl⟩ := hrel
    rename World => wx
    obtain ⟨a2, c2, rfl⟩ := HP.out.shape
    by_cases hlt : i < s.size
    · go_wp2
      go_loop [5, 6] (Rel17b s i) (fun _ k => 3 - (intOf k).toNat)
      case atStart => exact ⟨0, by omega, rfl, rfl⟩
      case round =>
        obtain ⟨j, hj, rfl, rfl⟩ := hrel
        by_cases hj3 : j < 3
        · have hw := wk_lt2 (ls s) i j hj3
          have b1 := bt_nonneg s (i + j)
          have b2 := bt_le s (i + j)
          by_cases hin : i + j < s.size
          · have HW := Lib.hid (wk_in s i j)
            go_wp2
            go_round
            case rel => exact ⟨j + 1, by omega, by go_num, by rw [HW.out]⟩
            case measure => simp [intOf]; omega
          · have HW := Lib.hid (wk_out s i j (by omega))
            go_wp2
            go_round
            case rel => exact ⟨j + 1, by omega, by go_num, by rw [HW.out]⟩
            case measure => simp [intOf]; omega
        · obtain rfl : j = 3 := by omega
          have hV := (wk_lt (ls s) i).2.2.2
          have HV := Lib.hid (wk_val (ls s) i)
          generalize wk (ls s) i 3 = V at hV HV ⊢
          have C1 := Lib.hid (letter31 (V / 262144) (by omega))
          have C2 := Lib.hid (letter31 (V / 4096 % 64) (by omega))
          have C3 := Lib.hid (letter31 (V / 64 % 64) (by omega))
          have C4 := Lib.hid (letter31 (V % 64) (by omega))
          rw [show ((V / 262144 : Nat) : Int) = (V : Int) / 262144 by omega] at C1
          rw [show ((V / 4096 % 64 : Nat) : Int) = (V : Int) / 4096 % 64 by omega] at C2
          rw [show ((V / 64 % 64 : Nat) : Int) = (V : Int) / 64 % 64 by omega] at C3
          rw [show ((V % 64 : Nat) : Int) = (V : Int) % 64 by omega] at C4
          have HN : Hid (p ++ [lt (V / 262144), lt (V / 4096 % 64), lt (V / 64 % 64), lt (V % 64)] ++ body ((ls s).drop (i + 3)) = F) := Lib.hid (by
            rw [← HE.out, body_cons (l := (ls s).drop i) (by intro e; have := congrArg List.length e; simp at this; have := ls_len s; simp at this; omega), ← HV.out, List.append_assoc]
            congr 2
            rw [List.drop_drop])
          clear HV
          generalize lt (V / 262144) = b1 at C1 HN
          generalize lt (V / 4096 % 64) = b2 at C2 HN
          generalize lt (V / 64 % 64) = b3 at C3 HN
          generalize lt (V % 64) = b4 at C4 HN
          go_wp2_with (first
            | (go_at_call 46; (first
              | ((with_reducible refine (C1.out _).mono ?_); rintro e w' ⟨rfl, rfl⟩)
              | ((with_reducible refine (C2.out _).mono ?_); rintro e w' ⟨rfl, rfl⟩)
              | ((with_reducible refine (C3.out _).mono ?_); rintro e w' ⟨rfl, rfl⟩)
              | ((with_reducible refine (C4.out _).mono ?_); rintro e w' ⟨rfl, rfl⟩)))
            | (at_builtin; refine wpList_appV rfl _ _ rfl _ w.heap.size p [b1, b2, b3, b4] ⟨wx.heap.size, 0, none⟩ 4 rfl rfl (OB.alloc HP.out _) ?c1 ?c2 ?c3 ?_))
          case c1 => simp; omega
          case c2 => simp; omega
          case c3 => exact new_cells wx [b1, b2, b3, b4] _ rfl
          intro v' w2 hO' hg
          have HO2 := Lib.hid hO'
          have HB2 := Lib.hid ((HBw.out.alloc hBx _).grown hg (by simp; omega) (fun j hj => (HP.out.lt j hj).1))
          have hs2 : w.heap.size ≤ w2.heap.size := HB2.out.size
          have hq : (p ++ [b1, b2, b3, b4]).length ≤ 4 * (i + 3) + 1 := by simp; omega
          generalize p ++ [b1, b2, b3, b4] = q at hO' HO2 HN hq
          obtain ⟨a3, c3, rfl⟩ := hO'.shape
          clear hO' hg
          go_wp2
          go_roundw
          case rel => exact ⟨q, i + 3, by go_num, by omega, HO2, HN, HB2, hs2, hq⟩
          case measure => simp [intOf]; omega
    · have HQ : Hid (p ++ [10] = fin) := Lib.hid (by rw [← HF2.out, ← HE.out, List.drop_eq_nil_of_le (by rw [ls_len]; omega), body_nil, List.append_nil])
      go_wp2_with (at_builtin; refine wpList_appV rfl _ _ rfl _ w.heap.size p [10] ⟨wx.heap.size, 0, none⟩ 1 rfl rfl (OB.alloc HP.out _) ?c1 ?c2 ?c3 ?_)
      case c1 => simp; omega
      case c2 => simp; omega
      case c3 => exact new_cells wx [10] _ rfl
      intro v' w2 hO' hg
      have HB2 := Lib.hid ((HBw.out.alloc hBx _).grown hg (by simp; omega) (fun j hj => (HP.out.lt j hj).1))
      rw [HQ.out] at hO'
      have hbk := hO'.back
      obtain ⟨a3, c3, rfl⟩ := hO'.shape
      clear hO' hg
      go_wp2
      go_ret
      exact ⟨rfl, HB2.out⟩
theorem ls_app (a b : ByteArray) : ls (a ++ b) = ls a ++ ls b := by rw [app_ls, ls_mk]
theorem ls_part (s : ByteArray) (i n : Nat) : ls (s.extract i (i + n)) = ((ls s).drop i).take n := by rw [ls_ext, List.drop_take, Nat.add_sub_cancel_left]
def Rel13 (w : World) (s : ByteArray) (F : List UInt8) (u x : Value) (wx : World) : Prop := ∃ (t : ByteArray) (i : Nat), u = .string t ∧ x = .int .i64 i ∧ i ≤ s.size + 44 ∧ Hid (ls t ++ restL ((ls s).drop i) = F) ∧ Hid (Below w.heap.size w wx) ∧ 45 * t.size ≤ 62 * i
set_option maxHeartbeats 4000000 in
set_option maxRecDepth 100000 in
theorem rest13 (s : ByteArray) (w : World) (hs : s.size ≤ 3000) :
    Calls Try.prog 40 #[.string s] w fun e w' => e = .returned (.string (mk (restL (ls s)))) ∧ Below w.heap.size w w' := by
  have HF : Hid (restL ((ls s).drop 0) = restL (ls s)) := Lib.hid rfl
  generalize restL (ls s) = F at HF ⊢
  go_enter Try.func40, Try.ntmps40
  go_wp2
  go_loopw [3, 4] (Rel13 w s F) (fun _ x _ => s.size + 44 - (intOf x).toNat)
  case atStart => exact ⟨⟨#[]⟩, 0, rfl, rfl, by omega, Lib.hid (by rw [HF.out]; rfl), Lib.hid (Below.refl _ _), Nat.le_refl _⟩
  case round =>
    clear HF
    obtain ⟨t, i, rfl, rfl, hi, HE, HBw, htl⟩ := hrel
    rename World => wx
    by_cases hlt : i < s.size
    · have hne : (ls s).drop i ≠ [] := by intro e; have := congrArg List.length e; simp at this; have := ls_len s; simp at this; omega
      by_cases h45 : s.size < i + 45
      · have C := Lib.hid (line17 (s.extract i s.size) wx (by rw [ext_sz _ _ _ (Nat.le_refl _)]; omega))
        have HN : Hid (ls (t ++ mk (line (ls (s.extract i s.size)))) ++ restL ((ls s).drop (i + 45)) = F) := Lib.hid (by
          rw [← HE.out, restL_cons hne, ls_app, ls_mk, ls_drop, List.append_assoc, List.drop_drop, List.take_of_length_le (l := (ls s).drop i) (i := 45)]
          rw [List.length_drop, ls_len]; omega)
        have hT : (mk (line (ls (s.extract i s.size)))).size ≤ 62 := by rw [mk_size, line_len, ls_len, ext_sz _ _ _ (Nat.le_refl _)]; omega
        have HL : Hid (45 * (t ++ mk (line (ls (s.extract i s.size)))).size ≤ 62 * (i + 45)) := Lib.hid (by rw [ByteArray.size_append]; omega)
        generalize mk (line (ls (s.extract i s.size))) = T at C HN hT HL
        have hcat : ¬ (9223372036854775807 < t.size + T.size) := by omega
        clear hne
        go_wp2_with (go_at_call 44; refine C.out.mono ?_)
        rintro e w2 ⟨rfl, hb2⟩
        have HB2 := Lib.hid (HBw.out.trans (hb2.mono HBw.out.size))
        clear hb2 C
        go_wp2
        go_roundw
        case rel => exact ⟨t ++ T, i + 45, rfl, by go_num, by omega, HN, HB2, HL.out⟩
        case measure => simp [intOf]; omega
      · have C := Lib.hid (line17 (s.extract i (i + 45)) wx (by rw [ext_sz _ _ _ (by omega)]; omega))
        have HN : Hid (ls (t ++ mk (line (ls (s.extract i (i + 45))))) ++ restL ((ls s).drop (i + 45)) = F) := Lib.hid (by
          rw [← HE.out, restL_cons hne, ls_app, ls_mk, ls_part, List.append_assoc, List.drop_drop])
        have hT : (mk (line (ls (s.extract i (i + 45))))).size ≤ 62 := by rw [mk_size, line_len, ls_len, ext_sz _ _ _ (by omega)]; omega
        have HL : Hid (45 * (t ++ mk (line (ls (s.extract i (i + 45))))).size ≤ 62 * (i + 45)) := Lib.hid (by rw [ByteArray.size_append]; omega)
        generalize mk (line (ls (s.extract i (i + 45)))) = T at C HN hT HL
        have hcat : ¬ (9223372036854775807 < t.size + T.size) := by omega
        clear hne
        go_wp2_with (go_at_call 44; refine C.out.mono ?_)
        rintro e w2 ⟨rfl, hb2⟩
        have HB2 := Lib.hid (HBw.out.trans (hb2.mono HBw.out.size))
        clear hb2 C
        go_wp2
        go_roundw
        case rel => exact ⟨t ++ T, i + 45, rfl, by go_num, by omega, HN, HB2, HL.out⟩
        case measure => simp [intOf]; omega
    · have C := Lib.hid (line17 ⟨#[]⟩ wx (by show 0 ≤ _; omega))
      have HN : Hid (t ++ mk (line (ls ⟨#[]⟩)) ++ ⟨#[101, 110, 100, 10]⟩ = mk F) := Lib.hid (by
        rw [← HE.out, List.drop_eq_nil_of_le (by rw [ls_len]; omega), restL_nil]
        rw [show (⟨#[101, 110, 100, 10]⟩ : ByteArray) = mk endL from rfl, ← mk_ls t, mk_app, mk_app, List.append_assoc, ls_mk])
      have hT : (mk (line (ls ⟨#[]⟩))).size ≤ 62 := by rw [mk_size, line_len]; show 2 + (0 + 2) / 3 * 4 ≤ 62; omega
      have hcat2 : ¬ (9223372036854775807 < (t ++ mk (line (ls ⟨#[]⟩))).size + 4) := by rw [ByteArray.size_append]; omega
      generalize mk (line (ls ⟨#[]⟩)) = T at C HN hT hcat2
      have hcat : ¬ (9223372036854775807 < t.size + T.size) := by omega
      go_wp2_with (go_at_call 44; refine C.out.mono ?_)
      rintro e w2 ⟨rfl, hb2⟩
      have HB2 := Lib.hid (HBw.out.trans (hb2.mono HBw.out.size))
      clear hb2 C
      go_wp2
      go_ret
      rw [← HN.out]
      exact ⟨rfl, HB2.out⟩

end Uu
end Go.Proofs.Ytohjpclpeiidfaa
