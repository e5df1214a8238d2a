/- The laws' walks: QuoteReads, QuoteJoins. Conditions: the library's own variable holds some number; lengths as the row says. -/
import Derived.Test.YtgcjokbgjjacdaaDoorF
namespace Go.Proofs.YtgcjokbgjjacdaaDoor
open Go.RowKit Go.PlainAid
set_option linter.unusedSimpArgs false
set_option linter.unusedVariables false

def RdIs (X s : ByteArray) : Prop := ∀ w, Calls Tryd.prog 14 #[.string X] w fun e w' => e = .returned (.tuple #[.string s, .int .i64 0]) ∧ Below w.heap.size w w'
theorem rd_is {X s : ByteArray} (h : readL (ls X) = some (ls s)) (hX : X.size ≤ 1000000) : RdIs X s := fun w =>
  (read14 X w hX).mono fun e w' ⟨h1, h2⟩ => ⟨by rw [h1, h]; show Ending.returned (.tuple #[.string (mk (ls s)), _]) = _; rw [mk_ls]; rfl, h2⟩
set_option maxHeartbeats 4000000 in
set_option maxRecDepth 100000 in
theorem reads4 (s q : ByteArray) (hs : s.size ≤ 140737488351232) (hq : q.size ≤ 140737488351232) (W : World) (he : Env W) : Calls Tryd.prog 4 #[.string s, .string q] W fun e W' => e = .returned (.bool true) ∧ Below W.heap.size W W' := by
  have CA := Lib.hid (anchor6 W he)
  have HE := Lib.hid he
  clear he
  by_cases hn : 1000 < s.size + q.size
  · have hd : decide (1000 < (s.size : Int) + (q.size : Int)) = true := decide_eq_true (by omega)
    go_enter Tryd.func4, Tryd.ntmps4
    go_wp2_with (go_at_call 6; refine CA.out.mono ?_; rintro e w1 ⟨rfl, b1⟩; have B1 := Lib.hid b1; clear b1)
    go_ret
    exact ⟨rfl, B1.out⟩
  have hd : decide (1000 < (s.size : Int) + (q.size : Int)) = false := decide_eq_false (by omega)
  have C9 : Hid (∀ w, Env w → Calls Tryd.prog 9 #[.string s] w fun e w' => e = .returned (.string (wd s)) ∧ Below w.heap.size w w') := Lib.hid fun w h => word9 s w h (by omega)
  obtain ⟨Sg, HSg⟩ : ∃ Sg, Hid (mk (singleL (ls s)) = Sg) := ⟨_, Lib.hid rfl⟩
  have C11 : Hid (∀ w, Env w → Calls Tryd.prog 11 #[.string s] w fun e w' => e = .returned (.string Sg) ∧ Below w.heap.size w w') := Lib.hid fun w h => by rw [← HSg.out]; exact single11 s w h (by omega)
  have hwl := word_len (ls s)
  have hsl := single_len (ls s)
  rw [ls_len] at hwl hsl
  have R1 : Hid (RdIs (wd s) s) := Lib.hid (rd_is (by rw [ls_wd]; exact read_word _) (by unfold wd; rw [mk_size]; omega))
  have R2 : Hid (RdIs Sg s) := Lib.hid (rd_is (by rw [← HSg.out, ls_mk]; exact read_single _) (by rw [← HSg.out, mk_size]; omega))
  have R3 : Hid (∀ w, Calls Tryd.prog 14 #[.string q] w (GivesR w (readL (ls q)))) := Lib.hid fun w => read14 q w (by omega)
  have R4 : Hid (∀ w, Calls Tryd.prog 15 #[.string q] w fun e w' => e = .returned (.tuple #[.string (mk ((readL (ls q)).getD [])), .bool (readL (ls q)).isSome]) ∧ w = w') := Lib.hid fun w => read15 q w (by omega)
  generalize wd s = X at C9 R1
  have q1 := same_s s
  obtain ⟨o, ho⟩ : ∃ o, readL (ls q) = o := ⟨_, rfl⟩
  rw [ho] at R3 R4
  clear hwl hsl ho
  cases o with
  | none =>
    have R3' : Hid (∀ w, Calls Tryd.prog 14 #[.string q] w fun e w' => e = .returned (.tuple #[.string ⟨#[]⟩, .int .i64 11]) ∧ Below w.heap.size w w') := Lib.hid R3.out
    have R4' : Hid (∀ w, Calls Tryd.prog 15 #[.string q] w fun e w' => e = .returned (.tuple #[.string ⟨#[]⟩, .bool false]) ∧ w = w') := Lib.hid R4.out
    clear R3 R4
    go_enter Tryd.func4, Tryd.ntmps4
    go_upto_region 5 with (go_at_call 6; refine CA.out.mono ?_; rintro e w1 ⟨rfl, b1⟩; have B1 := Lib.hid b1; have HE1 := Lib.hid (HE.out.on b1); clear b1)
    go_upto_region 6 with (first
      | (go_at_call 9; refine (C9.out _ HE1.out).mono ?_; rintro e w2 ⟨rfl, b2⟩; have B2 := Lib.hid (B1.out.trans (b2.mono B1.out.size)); have HE2 := Lib.hid (HE1.out.on b2); clear b2)
      | (go_at_call 14; refine (R1.out _).mono ?_; rintro e w3 ⟨rfl, b3⟩; have B3 := Lib.hid (B2.out.trans (b3.mono B2.out.size)); have HE3 := Lib.hid (HE2.out.on b3); clear b3))
    go_upto_region 7 with (first
      | (go_at_call 11; refine (C11.out _ HE3.out).mono ?_; rintro e w4 ⟨rfl, b4⟩; have B4 := Lib.hid (B3.out.trans (b4.mono B3.out.size)); clear b4)
      | (go_at_call 14; refine (R2.out _).mono ?_; rintro e w5 ⟨rfl, b5⟩; have B5 := Lib.hid (B4.out.trans (b5.mono B4.out.size)); clear b5))
    go_wp2_with (first
      | (go_at_call 14; refine (R3'.out _).mono ?_; rintro e w6 ⟨rfl, b6⟩; have B6 := Lib.hid (B5.out.trans (b6.mono B5.out.size)); clear b6)
      | (go_at_call 15; refine (R4'.out _).mono ?_; rintro e w' ⟨rfl, rfl⟩))
    go_ret
    exact ⟨rfl, B6.out⟩
  | some a =>
    have R3' : Hid (∀ w, Calls Tryd.prog 14 #[.string q] w fun e w' => e = .returned (.tuple #[.string (mk a), .int .i64 0]) ∧ Below w.heap.size w w') := Lib.hid R3.out
    have R4' : Hid (∀ w, Calls Tryd.prog 15 #[.string q] w fun e w' => e = .returned (.tuple #[.string (mk a), .bool true]) ∧ w = w') := Lib.hid R4.out
    clear R3 R4
    generalize mk a = Z at R3' R4'
    have q2 := same_s Z
    go_enter Tryd.func4, Tryd.ntmps4
    go_upto_region 5 with (go_at_call 6; refine CA.out.mono ?_; rintro e w1 ⟨rfl, b1⟩; have B1 := Lib.hid b1; have HE1 := Lib.hid (HE.out.on b1); clear b1)
    go_upto_region 6 with (first
      | (go_at_call 9; refine (C9.out _ HE1.out).mono ?_; rintro e w2 ⟨rfl, b2⟩; have B2 := Lib.hid (B1.out.trans (b2.mono B1.out.size)); have HE2 := Lib.hid (HE1.out.on b2); clear b2)
      | (go_at_call 14; refine (R1.out _).mono ?_; rintro e w3 ⟨rfl, b3⟩; have B3 := Lib.hid (B2.out.trans (b3.mono B2.out.size)); have HE3 := Lib.hid (HE2.out.on b3); clear b3))
    go_upto_region 7 with (first
      | (go_at_call 11; refine (C11.out _ HE3.out).mono ?_; rintro e w4 ⟨rfl, b4⟩; have B4 := Lib.hid (B3.out.trans (b4.mono B3.out.size)); clear b4)
      | (go_at_call 14; refine (R2.out _).mono ?_; rintro e w5 ⟨rfl, b5⟩; have B5 := Lib.hid (B4.out.trans (b5.mono B4.out.size)); clear b5))
    go_wp2_with (first
      | (go_at_call 14; refine (R3'.out _).mono ?_; rintro e w6 ⟨rfl, b6⟩; have B6 := Lib.hid (B5.out.trans (b6.mono B5.out.size)); clear b6)
      | (go_at_call 15; refine (R4'.out _).mono ?_; rintro e w' ⟨rfl, rfl⟩))
    go_ret
    exact ⟨rfl, B6.out⟩
set_option maxHeartbeats 4000000 in
set_option maxRecDepth 100000 in
theorem joins5 (a b : ByteArray) (ha : a.size ≤ 140737488351232) (hb : b.size ≤ 140737488351232) (W : World) (he : Env W) : Calls Tryd.prog 5 #[.string a, .string b] W fun e W' => e = .returned (.bool true) ∧ Below W.heap.size W W' := by
  have CA := Lib.hid (anchor6 W he)
  have HE := Lib.hid he
  clear he
  by_cases hn : 1000 < a.size + b.size
  · have hd : decide (1000 < (a.size : Int) + (b.size : Int)) = true := decide_eq_true (by omega)
    go_enter Tryd.func5, Tryd.ntmps5
    go_wp2_with (go_at_call 6; refine CA.out.mono ?_; rintro e w1 ⟨rfl, b1⟩; have B1 := Lib.hid b1; clear b1)
    go_ret
    exact ⟨rfl, B1.out⟩
  have hd : decide (1000 < (a.size : Int) + (b.size : Int)) = false := decide_eq_false (by omega)
  obtain ⟨ab, Hab⟩ : ∃ ab, Hid (a ++ b = ab) := ⟨_, Lib.hid rfl⟩
  have Ca : Hid (∀ w, Env w → Calls Tryd.prog 9 #[.string a] w fun e w' => e = .returned (.string (wd a)) ∧ Below w.heap.size w w') := Lib.hid fun w h => word9 a w h (by omega)
  have Cb : Hid (∀ w, Env w → Calls Tryd.prog 9 #[.string b] w fun e w' => e = .returned (.string (wd b)) ∧ Below w.heap.size w w') := Lib.hid fun w h => word9 b w h (by omega)
  have Da : Hid (∀ w, Env w → Calls Tryd.prog 11 #[.string a] w fun e w' => e = .returned (.string (mk (singleL (ls a)))) ∧ Below w.heap.size w w') := Lib.hid fun w h => single11 a w h (by omega)
  have Db : Hid (∀ w, Env w → Calls Tryd.prog 11 #[.string b] w fun e w' => e = .returned (.string (mk (singleL (ls b)))) ∧ Below w.heap.size w w') := Lib.hid fun w h => single11 b w h (by omega)
  have la := word_len (ls a)
  have lb := word_len (ls b)
  have ka := single_len (ls a)
  have kb := single_len (ls b)
  rw [ls_len] at la lb ka kb
  have za : (wd a).size ≤ 4002 := by unfold wd; rw [mk_size]; omega
  have zb : (wd b).size ≤ 4002 := by unfold wd; rw [mk_size]; omega
  have ya : (mk (singleL (ls a))).size ≤ 4002 := by rw [mk_size]; omega
  have yb : (mk (singleL (ls b))).size ≤ 4002 := by rw [mk_size]; omega
  have R1 : Hid (RdIs (wd a ++ wd b) ab) := Lib.hid (rd_is (by rw [app_ls2, ls_wd, ls_wd, ← Hab.out, app_ls2]; exact read_word2 _ _) (by rw [ByteArray.size_append]; omega))
  have R2 : Hid (RdIs (mk (singleL (ls a)) ++ mk (singleL (ls b))) ab) := Lib.hid (rd_is (by rw [app_ls2, ls_mk, ls_mk, ← Hab.out, app_ls2]; exact read_single2 _ _) (by rw [ByteArray.size_append]; omega))
  generalize wd a = wa at Ca R1 za
  generalize wd b = wb at Cb R1 zb
  generalize mk (singleL (ls a)) = sa at Da R2 ya
  generalize mk (singleL (ls b)) = sb at Db R2 yb
  have n1 : ¬ 9223372036854775807 < wa.size + wb.size := by omega
  have n2 : ¬ 9223372036854775807 < sa.size + sb.size := by omega
  have n3 : ¬ 9223372036854775807 < a.size + b.size := by omega
  obtain ⟨wab, Hw⟩ : ∃ x, Hid (wa ++ wb = x) := ⟨_, Lib.hid rfl⟩
  obtain ⟨sab, Hs⟩ : ∃ x, Hid (sa ++ sb = x) := ⟨_, Lib.hid rfl⟩
  rw [Hw.out] at R1
  rw [Hs.out] at R2
  have hw := Hw.out
  have hs := Hs.out
  have hab := Hab.out
  have q1 := same_s ab
  clear la lb ka kb za zb ya yb
  go_enter Tryd.func5, Tryd.ntmps5
  go_upto_region 5 with (go_at_call 6; refine CA.out.mono ?_; rintro e w1 ⟨rfl, b1⟩; have B1 := Lib.hid b1; have HE1 := Lib.hid (HE.out.on b1); clear b1)
  go_upto_region 6 with (first
    | (go_at_call 9; ((with_reducible refine (Ca.out _ HE1.out).mono ?_); rintro e w2 ⟨rfl, b2⟩; have B2 := Lib.hid (B1.out.trans (b2.mono B1.out.size)); have HE2 := Lib.hid (HE1.out.on b2); clear b2))
    | (go_at_call 9; ((with_reducible refine (Cb.out _ HE2.out).mono ?_); rintro e w2b ⟨rfl, b2⟩; have B2b := Lib.hid (B2.out.trans (b2.mono B2.out.size)); have HE2b := Lib.hid (HE2.out.on b2); clear b2))
    | (go_at_call 14; refine (R1.out _).mono ?_; rintro e w3 ⟨rfl, b3⟩; have B3 := Lib.hid (B2b.out.trans (b3.mono B2b.out.size)); have HE3 := Lib.hid (HE2b.out.on b3); clear b3))
  go_wp2_with (first
    | (go_at_call 11; ((with_reducible refine (Da.out _ HE3.out).mono ?_); rintro e w4 ⟨rfl, b4⟩; have B4 := Lib.hid (B3.out.trans (b4.mono B3.out.size)); have HE4 := Lib.hid (HE3.out.on b4); clear b4))
    | (go_at_call 11; ((with_reducible refine (Db.out _ HE4.out).mono ?_); rintro e w4b ⟨rfl, b4⟩; have B4b := Lib.hid (B4.out.trans (b4.mono B4.out.size)); clear b4))
    | (go_at_call 14; refine (R2.out _).mono ?_; rintro e w5 ⟨rfl, b5⟩; have B5 := Lib.hid (B4b.out.trans (b5.mono B4b.out.size)); clear b5))
  go_ret
  exact ⟨rfl, B5.out⟩
end Go.Proofs.YtgcjokbgjjacdaaDoor
