/- FormTexts: texts in places of their own; the walk. Condition: the tables read as they are laid. -/
import Derived.Test.YtckhomeokhhneaaDoorW
namespace Go.Proofs.YtckhomeokhhneaaDoor
open Go.RowKit Go.PlainAid
set_option linter.unusedSimpArgs false
set_option linter.unusedVariables false

theorem place_s (r : List UInt8) : placeO (115 :: r) = some (⟨false, false, 0, none, 115⟩, 1) := by
  unfold placeO precAt
  rfl
theorem fill_s (a : List UInt8) : fillO ⟨false, false, 0, none, 115⟩ a = some a := by
  unfold fillO
  rw [if_pos rfl]
  unfold padL cutL rep
  simp
/-- The format of so many texts. -/
def fmtL (e : List UInt8) : Nat → List UInt8
  | 0 => []
  | n + 1 => fmtL e n ++ ([37, 115] ++ e)
def fmtR (e : List UInt8) : Nat → List UInt8
  | 0 => []
  | n + 1 => [37, 115] ++ e ++ fmtR e n
theorem fmt_rev (e : List UInt8) : ∀ n, fmtL e n ++ ([37, 115] ++ e) = ([37, 115] ++ e) ++ fmtL e n
  | 0 => by simp [fmtL]
  | n + 1 => by
    show fmtL e n ++ ([37, 115] ++ e) ++ ([37, 115] ++ e) = ([37, 115] ++ e) ++ (fmtL e n ++ ([37, 115] ++ e))
    rw [← List.append_assoc ([37, 115] ++ e) (fmtL e n), ← fmt_rev e n]
theorem fmtR_is (e : List UInt8) : ∀ n, fmtR e n = fmtL e n
  | 0 => rfl
  | n + 1 => by rw [fmtR, fmtL, fmtR_is e n, fmt_rev]
def wantL (b : List UInt8) (l : List (List UInt8)) : List UInt8 := l.flatMap fun s => s ++ b
theorem tell_fmt (A : List (List UInt8)) (b : List UInt8) : ∀ (l : List (List UInt8)) (u : Nat) (T : List UInt8), A.drop u = l → tellM A (fmtR (esc b) l.length) u T = .ok (u + l.length, T ++ wantL b l)
  | [], u, T, h => by show tellM A [] u T = _; rw [tell_nil]; simp [wantL]
  | s :: l, u, T, h => by
    have ha : argAt A u = s := by
      unfold argAt
      have : A[u]? = some s := by rw [← List.head?_drop, h]; rfl
      rw [List.getD_eq_getElem?_getD, this]; rfl
    have hd : A.drop (u + 1) = l := by rw [← List.drop_drop, h]; rfl
    show tellM A ([37, 115] ++ esc b ++ fmtR (esc b) l.length) u T = _
    rw [List.append_assoc, List.cons_append, List.cons_append, List.nil_append]
    rw [tell_yes A _ u T ⟨false, false, 0, none, 115⟩ 1 s (place_s _) (by decide) (by rw [ha]; exact fill_s s)]
    rw [show List.drop 1 (115 :: (esc b ++ fmtR (esc b) l.length)) = esc b ++ fmtR (esc b) l.length from rfl, tell_esc, tell_fmt A b l (u + 1) _ hd]
    congr 2
    · simp; omega
    · simp [wantL]
theorem want_len (b : List UInt8) (M : Nat) : ∀ l : List (List UInt8), (∀ s ∈ l, s.length ≤ M) → (wantL b l).length ≤ l.length * (M + b.length)
  | [], h => by simp [wantL]
  | s :: l, h => by
    have := want_len b M l (fun x hx => h x (by simp [hx]))
    have h1 := h s (by simp)
    show (s ++ b ++ wantL b l).length ≤ _
    rw [List.length_append, List.length_append, List.length_cons, Nat.add_mul]
    omega
theorem form_fmt (b : List UInt8) (A : List (List UInt8)) (hl : (wantL b A).length ≤ 4194304) : formatM A (fmtL (esc b) A.length) 0 [] = .ok (wantL b A) := by
  have ht := tell_fmt A b A 0 [] rfl
  rw [fmtR_is, List.nil_append] at ht
  rw [fm_done ht (by omega) (by omega)]
theorem fmtL_len (e : List UInt8) : ∀ n, (fmtL e n).length = n * (2 + e.length)
  | 0 => by simp [fmtL]
  | n + 1 => by
    rw [fmtL, List.length_append, fmtL_len e n, Nat.add_mul]
    simp; omega
theorem wantL_snoc (b s : List UInt8) (l : List (List UInt8)) : wantL b (l ++ [s]) = wantL b l ++ (s ++ b) := by simp [wantL]
def Rel6 (W : World) (ns : List ByteArray) (e b : List UInt8) (x y i : Value) (wx : World) : Prop := ∃ (k : Nat) (F P : ByteArray), k ≤ ns.length ∧ i = .int .i64 k ∧ x = .string F ∧ y = .string P ∧ Hid (ls F = fmtL e k) ∧ Hid (ls P = wantL b ((ns.take k).map ls)) ∧ F.size ≤ k * 1000 ∧ P.size ≤ k * 1000 ∧ Hid (Below W.heap.size W wx) ∧ Hid (∀ s ∈ ns.take k, s.size ≤ 100)
set_option maxHeartbeats 4000000 in
set_option maxRecDepth 100000 in
theorem texts6 (v : Value) (ns : List ByteArray) (b : ByteArray) (hb : b.size ≤ 140737488351232) (W : World) (he : Env W) (hv : Strs W v ns) : Calls Tryd.prog 6 #[v, .string b] W fun e W' => e = .returned (.bool true) ∧ Below W.heap.size W W' := by
  have CA := Lib.hid (anchor7 W he)
  have HE := Lib.hid he
  have HV := Lib.hid hv
  obtain ⟨va, vc, rfl⟩ := hv.shape
  clear he hv
  by_cases hn : 20 < ns.length
  · have hd : decide (20 < (ns.length : Int)) = true := decide_eq_true (by omega)
    go_enter Tryd.func6, Tryd.ntmps6
    go_wp2_with (go_at_call 7; refine CA.out.mono ?_; rintro e w1 ⟨rfl, b1⟩; have B1 := Lib.hid b1; clear b1)
    go_ret
    exact ⟨rfl, B1.out⟩
  have hd : decide (20 < (ns.length : Int)) = false := decide_eq_false (by omega)
  by_cases hb2 : 20 < b.size
  · have hd2 : decide (20 < (b.size : Int)) = true := decide_eq_true (by omega)
    go_enter Tryd.func6, Tryd.ntmps6
    go_wp2_with (go_at_call 7; refine CA.out.mono ?_; rintro e w1 ⟨rfl, b1⟩; have B1 := Lib.hid b1; clear b1)
    go_ret
    exact ⟨rfl, B1.out⟩
  have hd2 : decide (20 < (b.size : Int)) = false := decide_eq_false (by omega)
  have hel := esc_len_le (ls b)
  rw [ls_len] at hel
  obtain ⟨X, HX⟩ : ∃ X, Hid (mk (esc (ls b)) = X) := ⟨_, Lib.hid rfl⟩
  have hXs : X.size ≤ 80 := by rw [← HX.out, mk_size]; omega
  have HXl : Hid (ls X = esc (ls b)) := Lib.hid (by rw [← HX.out, ls_mk])
  have C10 : Hid (∀ w, Calls Tryd.prog 10 #[.string b] w fun e w' => e = .returned (.string X) ∧ Below w.heap.size w w') := Lib.hid fun w => by rw [← HX.out]; exact escape10 b w (by omega)
  go_enter Tryd.func6, Tryd.ntmps6
  go_upto_region 5 with (go_at_call 7; refine CA.out.mono ?_; rintro e w1 ⟨rfl, b1⟩; have B1 := Lib.hid b1; clear b1)
  go_wp2
  go_loopw [5, 6, 23] (Rel6 W ns (esc (ls b)) (ls b)) (fun _ _ i _ => ns.length - (intOf i).toNat)
  case atStart => exact ⟨0, ⟨#[]⟩, ⟨#[]⟩, Nat.zero_le _, rfl, rfl, rfl, Lib.hid rfl, Lib.hid rfl, Nat.le_refl _, Nat.le_refl _, B1, Lib.hid (by simp)⟩
  case round =>
    obtain ⟨k, F, P, hk, rfl, rfl, rfl, HF, HP, hF, hP, HB, HS⟩ := hrel
    rename World => wx
    by_cases hlt : k < ns.length
    · obtain ⟨s, hs⟩ : ∃ s, ns[k]? = some s := ⟨ns[k], List.getElem?_eq_getElem hlt⟩
      have htk : ns.take (k + 1) = ns.take k ++ [s] := by rw [List.take_add_one, hs]; rfl
      rcases HV.out with ⟨e, _⟩ | ⟨g, off, cc, e, _, hcell⟩
      · rw [e] at hlt; simp at hlt
      cases e
      have hc : wx.cell? ⟨g, off + k, none⟩ = some (.string s) := cell_below (hcell k s hs) HB.out
      clear hcell hs
      by_cases h1 : 100 < s.size
      · have hd3 : decide (100 < (s.size : Int)) = true := decide_eq_true (by omega)
        go_wp2
        go_ret
        exact ⟨rfl, HB.out⟩
      have hd3 : decide (100 < (s.size : Int)) = false := decide_eq_false (by omega)
      have n1 : ¬ 9223372036854775807 < (⟨#[37, 115]⟩ : ByteArray).size + X.size := by show ¬ _ < 2 + X.size; omega
      have z1 : ((⟨#[37, 115]⟩ : ByteArray) ++ X).size = 2 + X.size := ByteArray.size_append
      obtain ⟨Y, HY⟩ : ∃ Y, Hid ((⟨#[37, 115]⟩ : ByteArray) ++ X = Y) := ⟨_, Lib.hid rfl⟩
      rw [HY.out] at z1
      have n2 : ¬ 9223372036854775807 < F.size + Y.size := by omega
      have n3 : ¬ 9223372036854775807 < s.size + b.size := by omega
      have z3 : (s ++ b).size = s.size + b.size := ByteArray.size_append
      obtain ⟨Z, HZ⟩ : ∃ Z, Hid (s ++ b = Z) := ⟨_, Lib.hid rfl⟩
      rw [HZ.out] at z3
      have n4 : ¬ 9223372036854775807 < P.size + Z.size := by omega
      have HF2 : Hid (ls (F ++ Y) = fmtL (esc (ls b)) (k + 1)) := Lib.hid (by rw [app_ls2, HF.out, ← HY.out, app_ls2, HXl.out]; rfl)
      have HP2 : Hid (ls (P ++ Z) = wantL (ls b) ((ns.take (k + 1)).map ls)) := Lib.hid (by rw [app_ls2, HP.out, ← HZ.out, app_ls2, htk, List.map_append, List.map_cons, List.map_nil, wantL_snoc])
      have HS2 : Hid (∀ x ∈ ns.take (k + 1), x.size ≤ 100) := Lib.hid (by
        rw [htk]
        intro x hx
        simp at hx
        rcases hx with hx | rfl
        · exact HS.out x hx
        · omega)
      have hF2 : (F ++ Y).size ≤ (k + 1) * 1000 := by rw [ByteArray.size_append]; omega
      have hP2 : (P ++ Z).size ≤ (k + 1) * 1000 := by rw [ByteArray.size_append]; omega
      have hy := HY.out
      have hz := HZ.out
      clear htk hF hP z1 z3
      go_wp2_with (go_at_call 10; refine (C10.out _).mono ?_; rintro e w2 ⟨rfl, b2⟩; have B2 := Lib.hid (HB.out.trans (b2.mono HB.out.size)); clear b2)
      go_roundw
      case rel => exact ⟨k + 1, F ++ Y, P ++ Z, hlt, by go_num, rfl, rfl, HF2, HP2, hF2, hP2, B2, HS2⟩
      case measure => simp [intOf]; omega
    · obtain rfl : k = ns.length := by omega
      rw [List.take_length] at HP HS
      have hWL : (wantL (ls b) (ns.map ls)).length ≤ 4194304 := by
        have h1 := want_len (ls b) 100 (ns.map ls) (by
          intro x hx
          simp at hx
          obtain ⟨y, hy, rfl⟩ := hx
          rw [ls_len]; exact HS.out y hy)
        rw [List.length_map, ls_len] at h1
        have h2 : ns.length * (100 + b.size) ≤ 20 * 120 := Nat.mul_le_mul (by omega) (by omega)
        omega
      have hFs : F.size ≤ 1000000 := by omega
      have hfm := form_fmt (ls b) (ns.map ls) hWL
      rw [List.length_map] at hfm
      have C9 : Hid (Calls Tryd.prog 9 #[.string F, .slice va ns.length vc] wx fun e w' => e = .returned (.tuple #[.string P, .int .i64 0]) ∧ Below wx.heap.size wx w') := Lib.hid (by
        have hst : Strs wx (.slice va ns.length vc) ns := by
          rcases HV.out with h | ⟨g, off, cc, e, h2, hcell⟩
          · exact .inl h
          · exact .inr ⟨g, off, cc, e, h2, fun i s hi => cell_below (hcell i s hi) HB.out⟩
        have h := format9 F _ ns wx (HE.out.below HB.out) hst hFs (fun s hs => Nat.le_trans (HS.out s hs) (by omega))
        rw [HF.out, hfm, ← HP.out] at h
        refine h.mono fun e w' ⟨h1, h2⟩ => ⟨?_, h2⟩
        rw [show e = _ from h1, mk_ls])
      clear hfm hWL
      go_wp2_with (go_at_call 9; refine C9.out.mono ?_; rintro e w3 ⟨rfl, b3⟩; have B3 := Lib.hid (HB.out.trans (b3.mono HB.out.size)); clear b3)
      go_ret
      exact ⟨rfl, B3.out⟩
end Go.Proofs.YtckhomeokhhneaaDoor
