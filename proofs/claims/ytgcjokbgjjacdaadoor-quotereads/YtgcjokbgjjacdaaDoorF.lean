/- The laws' walks: QuoteWords, QuoteReads, QuoteJoins. Conditions: the library's own variable holds some number; what the row says. -/
import Derived.Test.YtgcjokbgjjacdaaDoorE
import Derived.Deep.DeepCutAuto
namespace Go.Proofs.YtgcjokbgjjacdaaDoor
open Go.RowKit Go.PlainAid
set_option linter.unusedSimpArgs false
set_option linter.unusedVariables false

def Rel3 (W : World) (ns : List ByteArray) (A i : Value) (wx : World) : Prop := ∃ (k : Nat) (F : ByteArray), k ≤ ns.length ∧ i = .int .i64 k ∧ A = .string F ∧ F.size ≤ k * 2003 ∧ Hid (ls F = joinL (((ns.take k).map wd).map ls)) ∧ Hid (Below W.heap.size W wx) ∧ Hid (∀ s ∈ ns.take k, s.size ≤ 500)
theorem same_s (s : ByteArray) : (s.toList == s.toList) = true := by simp
set_option maxHeartbeats 4000000 in
set_option maxRecDepth 100000 in
theorem words3 (v : Value) (ns : List ByteArray) (W : World) (he : Env W) (hv : Strs W v ns) : Calls Tryd.prog 3 #[v] W fun e W' => e = .returned (.bool true) ∧ Below W.heap.size W W' := by
  have CA := Lib.hid (anchor6 W he)
  have HE := Lib.hid he
  have HV := Lib.hid hv
  obtain ⟨va, vc, rfl⟩ := hv.shape
  clear he hv
  by_cases hn : 60 < ns.length
  · have hd : decide (60 < (ns.length : Int)) = true := decide_eq_true (by omega)
    go_enter Tryd.func3, Tryd.ntmps3
    go_wp2_with (go_at_call 6; refine CA.out.mono ?_; rintro e w1 ⟨rfl, b1⟩; have B1 := Lib.hid b1; clear b1)
    go_ret
    exact ⟨rfl, B1.out⟩
  have hd : decide (60 < (ns.length : Int)) = false := decide_eq_false (by omega)
  go_enter Tryd.func3, Tryd.ntmps3
  go_upto_region 5 with (go_at_call 6; refine CA.out.mono ?_; rintro e w1 ⟨rfl, b1⟩; have B1 := Lib.hid b1; clear b1)
  go_wp2
  go_loopw [3, 13] (Rel3 W ns) (fun _ i _ => ns.length - (intOf i).toNat)
  case atStart => exact ⟨0, ⟨#[]⟩, Nat.zero_le _, rfl, rfl, Nat.le_refl _, Lib.hid rfl, B1, Lib.hid (by simp)⟩
  case round =>
    obtain ⟨k, F, hk, rfl, rfl, hF, HF, HB, HS⟩ := hrel
    rename World => wx
    by_cases hlt : k < ns.length
    · obtain ⟨s, hs⟩ : ∃ s, ns[k]? = some s := ⟨ns[k], List.getElem?_eq_getElem hlt⟩
      have htk : ns.take (k + 1) = ns.take k ++ [s] := by rw [List.take_add_one, hs]; rfl
      rcases HV.out with ⟨e, _⟩ | ⟨g, off, cc, e, _, hcell⟩
      · rw [e] at hlt; simp at hlt
      cases e
      have hc : wx.cell? ⟨g, off + k, none⟩ = some (.string s) := cell_kept (hcell k s hs) HB.out
      clear hcell hs
      by_cases h1 : 500 < s.size
      · have hd3 : decide (500 < (s.size : Int)) = true := decide_eq_true (by omega)
        go_wp2
        go_ret
        exact ⟨rfl, HB.out⟩
      have hd3 : decide (500 < (s.size : Int)) = false := decide_eq_false (by omega)
      have HS2 : Hid (∀ x ∈ ns.take (k + 1), x.size ≤ 500) := Lib.hid (by
        rw [htk]
        intro x hx
        simp at hx
        rcases hx with hx | rfl
        · exact HS.out x hx
        · omega)
      have C7 : Hid (∀ w, Calls Tryd.prog 7 #[.string s] w fun e w' => e = .returned (.bool (bareL (ls s))) ∧ w = w') := Lib.hid fun w => bare7 s w (by omega)
      have C8 : Hid (∀ w, Calls Tryd.prog 8 #[.string s] w fun e w' => e = .returned (.bool (bareL (ls s))) ∧ w = w') := Lib.hid fun w => bare8 s w (by omega)
      have C9 : Hid (∀ w, Env w → Calls Tryd.prog 9 #[.string s] w fun e w' => e = .returned (.string (wd s)) ∧ Below w.heap.size w w') := Lib.hid fun w h => word9 s w h (by omega)
      have C10 : Hid (∀ w, Calls Tryd.prog 10 #[.string s] w fun e w' => e = .returned (.string (wd s)) ∧ w = w') := Lib.hid fun w => word10 s w (by omega)
      obtain ⟨Sg, HSg⟩ : ∃ Sg, Hid (mk (singleL (ls s)) = Sg) := ⟨_, Lib.hid rfl⟩
      have C11 : Hid (∀ w, Env w → Calls Tryd.prog 11 #[.string s] w fun e w' => e = .returned (.string Sg) ∧ Below w.heap.size w w') := Lib.hid fun w h => by rw [← HSg.out]; exact single11 s w h (by omega)
      have C12 : Hid (∀ w, Calls Tryd.prog 12 #[.string s] w fun e w' => e = .returned (.string Sg) ∧ w = w') := Lib.hid fun w => by rw [← HSg.out]; exact single12 s w (by omega)
      have hwl := word_len (ls s)
      rw [ls_len] at hwl
      have hws : (wd s).size ≤ 2002 := by unfold wd; rw [mk_size]; omega
      have HE1 := Lib.hid (HE.out.on HB.out)
      obtain ⟨X, HX⟩ : ∃ X, Hid (wd s = X) := ⟨_, Lib.hid rfl⟩
      have HXl : Hid (ls X = wordL (ls s)) := Lib.hid (by rw [← HX.out, ls_wd])
      rw [HX.out] at C9 C10 hws
      generalize bareL (ls s) = bb at C7 C8
      have q1 : (bb != bb) = false := by simp
      have q2 := same_s X
      have q3 := same_s Sg
      by_cases h0 : k = 0
      · have hk0 : decide (0 < k) = false := decide_eq_false (by omega)
        have hF0 : F.size = 0 := by omega
        have n2 : ¬ 9223372036854775807 < F.size + X.size := by omega
        have HF2 : Hid (ls (F ++ X) = joinL (((ns.take (k + 1)).map wd).map ls)) := Lib.hid (by
          rw [htk, app_ls2, ls_em hF0, HXl.out, h0]
          simp [joinL, ls_wd])
        have hF2 : (F ++ X).size ≤ (k + 1) * 2003 := by rw [ByteArray.size_append]; omega
        clear htk hwl hF hF0 h0
        go_wp2_with (first
          | (go_at_call 7; refine (C7.out _).mono ?_; rintro e w' ⟨rfl, rfl⟩)
          | (go_at_call 8; refine (C8.out _).mono ?_; rintro e w' ⟨rfl, rfl⟩)
          | (go_at_call 9; refine (C9.out _ HE1.out).mono ?_; rintro e w2 ⟨rfl, b2⟩; have B2 := Lib.hid (HB.out.trans (b2.mono HB.out.size)); have HE2 := Lib.hid (HE1.out.on b2); clear b2)
          | (go_at_call 10; refine (C10.out _).mono ?_; rintro e w' ⟨rfl, rfl⟩)
          | (go_at_call 11; refine (C11.out _ HE2.out).mono ?_; rintro e w3 ⟨rfl, b3⟩; have B3 := Lib.hid (B2.out.trans (b3.mono B2.out.size)); clear b3)
          | (go_at_call 12; refine (C12.out _).mono ?_; rintro e w' ⟨rfl, rfl⟩))
        go_roundw
        case rel => exact ⟨k + 1, F ++ X, hlt, by go_num, rfl, hF2, HF2, B3, HS2⟩
        case measure => simp [intOf]; omega
      · have hk0 : decide (0 < k) = true := decide_eq_true (by omega)
        have hne : ((ns.take k).map wd).map ls ≠ [] := by
          intro e
          have := congrArg List.length e
          simp only [List.length_map, List.length_take, List.length_nil] at this
          omega
        have n1 : ¬ 9223372036854775807 < F.size + (⟨#[32]⟩ : ByteArray).size := by show ¬ _ < F.size + 1; omega
        have z1 : (F ++ (⟨#[32]⟩ : ByteArray)).size = F.size + 1 := ByteArray.size_append
        obtain ⟨G, HG⟩ : ∃ G, Hid (F ++ (⟨#[32]⟩ : ByteArray) = G) := ⟨_, Lib.hid rfl⟩
        rw [HG.out] at z1
        have hg := HG.out
        have n2 : ¬ 9223372036854775807 < G.size + X.size := by omega
        have HF2 : Hid (ls (G ++ X) = joinL (((ns.take (k + 1)).map wd).map ls)) := Lib.hid (by
          rw [htk, app_ls2, ← HG.out, app_ls2, HXl.out, HF.out]
          simp only [List.map_append, List.map_cons, List.map_nil]
          rw [join_snoc, if_neg hne, ls_wd]
          show _ ++ [32] ++ _ = _
          simp)
        have hF2 : (G ++ X).size ≤ (k + 1) * 2003 := by rw [ByteArray.size_append]; omega
        clear htk hwl hF hne z1
        go_wp2_with (first
          | (go_at_call 7; refine (C7.out _).mono ?_; rintro e w' ⟨rfl, rfl⟩)
          | (go_at_call 8; refine (C8.out _).mono ?_; rintro e w' ⟨rfl, rfl⟩)
          | (go_at_call 9; refine (C9.out _ HE1.out).mono ?_; rintro e w2 ⟨rfl, b2⟩; have B2 := Lib.hid (HB.out.trans (b2.mono HB.out.size)); have HE2 := Lib.hid (HE1.out.on b2); clear b2)
          | (go_at_call 10; refine (C10.out _).mono ?_; rintro e w' ⟨rfl, rfl⟩)
          | (go_at_call 11; refine (C11.out _ HE2.out).mono ?_; rintro e w3 ⟨rfl, b3⟩; have B3 := Lib.hid (B2.out.trans (b3.mono B2.out.size)); clear b3)
          | (go_at_call 12; refine (C12.out _).mono ?_; rintro e w' ⟨rfl, rfl⟩))
        go_roundw
        case rel => exact ⟨k + 1, G ++ X, hlt, by go_num, rfl, hF2, HF2, B3, HS2⟩
        case measure => simp [intOf]; omega
    · obtain rfl : k = ns.length := by omega
      rw [List.take_length] at HF HS
      have hst : Strs wx (.slice va ns.length vc) ns := HV.out.below HB.out
      have h := words13 _ ns wx (HE.out.on HB.out) hst (by omega) HS.out
      have C : Hid (Calls Tryd.prog 13 #[.slice va ns.length vc] wx fun e w' => e = .returned (.string F) ∧ Below wx.heap.size wx w') := Lib.hid (h.mono fun e w' ⟨h1, h2⟩ => ⟨by rw [h1]; unfold wordsOf; rw [← HF.out, mk_ls], h2⟩)
      have q2 := same_s F
      clear h hst
      go_wp2_with (go_at_call 13; refine C.out.mono ?_; rintro e w3 ⟨rfl, b3⟩; have B3 := Lib.hid (HB.out.trans (b3.mono HB.out.size)); clear b3)
      go_ret
      exact ⟨rfl, B3.out⟩
end Go.Proofs.YtgcjokbgjjacdaaDoor
