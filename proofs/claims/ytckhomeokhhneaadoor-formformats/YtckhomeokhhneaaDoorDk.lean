/- FormFormats: the walk. Condition: the tables read as they are laid. -/
import Derived.Test.YtckhomeokhhneaaDoorDj
import Derived.Test.YtckhomeokhhneaaDoorY
namespace Go.Proofs.YtckhomeokhhneaaDoor
open Go.RowKit Go.PlainAid
set_option linter.unusedSimpArgs false
set_option linter.unusedVariables false

theorem FmE.shape {R : Except Nat (List UInt8)} : ∃ (t : ByteArray) (x : Nat), ∀ e, FmE R e → e = .returned (.tuple #[.string t, .int .i64 x]) := by
  cases R with
  | error x => exact ⟨⟨#[]⟩, x, fun e h => h⟩
  | ok T => exact ⟨mk T, 0, fun e h => h⟩
def Rel4 (ns : List ByteArray) (w : World) (i : Value) (wx : World) : Prop := ∃ k : Nat, k ≤ ns.length ∧ i = .int .i64 k ∧ Hid (Below w.heap.size w wx) ∧ Hid (∀ s ∈ ns.take k, s.size ≤ 100)
set_option maxHeartbeats 4000000 in
set_option maxRecDepth 100000 in
theorem formats4 (f : ByteArray) (v : Value) (ns : List ByteArray) (hfs : f.size ≤ 140737488351232) (W : World) (he : Env W) (hv : Strs W v ns) : Calls Tryd.prog 4 #[.string f, v] W fun e W' => e = .returned (.bool true) ∧ Below W.heap.size W W' := by
  have CA := Lib.hid (anchor7 W he)
  have HE := Lib.hid he
  have HV := Lib.hid hv
  obtain ⟨va, vc, rfl⟩ := hv.shape
  clear he hv
  by_cases hf : 100 < f.size
  · have hd : decide (100 < (f.size : Int)) = true := decide_eq_true (by omega)
    go_enter Tryd.func4, Tryd.ntmps4
    go_wp2_with (go_at_call 7; refine CA.out.mono ?_; rintro e w1 ⟨rfl, b1⟩; have B1 := Lib.hid b1; clear b1)
    go_ret
    exact ⟨rfl, B1.out⟩
  have hd : decide (100 < (f.size : Int)) = false := decide_eq_false (by omega)
  by_cases hn : 20 < ns.length
  · have hd2 : decide (20 < (ns.length : Int)) = true := decide_eq_true (by omega)
    go_enter Tryd.func4, Tryd.ntmps4
    go_wp2_with (go_at_call 7; refine CA.out.mono ?_; rintro e w1 ⟨rfl, b1⟩; have B1 := Lib.hid b1; clear b1)
    go_ret
    exact ⟨rfl, B1.out⟩
  have hd2 : decide (20 < (ns.length : Int)) = false := decide_eq_false (by omega)
  go_enter Tryd.func4, Tryd.ntmps4
  go_upto_region 5 with (go_at_call 7; refine CA.out.mono ?_; rintro e w1 ⟨rfl, b1⟩; have B1 := Lib.hid b1; clear b1)
  go_wp2
  go_loopw [23] (Rel4 ns W) (fun i _ => ns.length - (intOf i).toNat)
  case atStart => exact ⟨0, Nat.zero_le _, rfl, B1, Lib.hid (by simp)⟩
  case round =>
    obtain ⟨k, hk, rfl, HB, HS⟩ := hrel
    rename World => wx
    by_cases hlt : k < ns.length
    · obtain ⟨s, hs⟩ : ∃ s, ns[k]? = some s := ⟨ns[k], List.getElem?_eq_getElem hlt⟩
      have htk : ns.take (k + 1) = ns.take k ++ [s] := by rw [List.take_add_one, hs]; rfl
      rcases HV.out with ⟨e, _⟩ | ⟨g, off, cc, e, _, hcell⟩
      · rw [e] at hlt; simp at hlt
      cases e
      have hc : wx.cell? ⟨g, off + k, none⟩ = some (.string s) := cell_below (hcell k s hs) HB.out
      clear hcell hs
      by_cases h1 : 100 < s.size
      · have hd3 : decide (100 < (s.size : Int)) = true := decide_eq_true (by omega)
        clear htk
        go_wp2
        go_ret
        exact ⟨rfl, HB.out⟩
      have hd3 : decide (100 < (s.size : Int)) = false := decide_eq_false (by omega)
      have HS2 : Hid (∀ x ∈ ns.take (k + 1), x.size ≤ 100) := Lib.hid (by
        rw [htk]
        intro x hx
        simp at hx
        rcases hx with hx | rfl
        · exact HS.out x hx
        · omega)
      clear htk
      go_wp2
      go_roundw
      case rel => exact ⟨k + 1, hlt, by go_num, HB, HS2⟩
      case measure => simp [intOf]; omega
    · obtain rfl : k = ns.length := by omega
      rw [List.take_length] at HS
      have hst : Strs wx (.slice va ns.length vc) ns := by
        rcases HV.out with h | ⟨g, off, cc, e, h2, hcell⟩
        · exact .inl h
        · exact .inr ⟨g, off, cc, e, h2, fun i s hi => cell_below (hcell i s hi) HB.out⟩
      have hSS : ∀ s ∈ ns, s.size ≤ 100000 := fun s hs => Nat.le_trans (HS.out s hs) (by omega)
      have C9 := Lib.hid (format9 f _ ns wx (HE.out.below HB.out) hst (by omega) hSS)
      have C14 : Hid (∀ w2, Below wx.heap.size wx w2 → Calls Tryd.prog 14 #[.string f, .slice va ns.length vc] w2 fun e w' => FmE (formatM (ns.map ls) (ls f) 0 []) e ∧ Below w2.heap.size w2 w') := Lib.hid fun w2 hb2 => by
        refine format14 f _ ns w2 ?_ (by omega) (by omega) hSS
        rcases hst with h | ⟨g, off, cc, e, h2, hcell⟩
        · exact .inl h
        · exact .inr ⟨g, off, cc, e, h2, fun i s hi => cell_below (hcell i s hi) hb2⟩
      clear hst hSS
      obtain ⟨t, x, hsh⟩ := FmE.shape (R := formatM (ns.map ls) (ls f) 0 [])
      have HSH := Lib.hid hsh
      clear hsh
      generalize formatM (ns.map ls) (ls f) 0 [] = R at C9 C14 HSH
      go_wp2_with (first
        | (go_at_call 9; refine C9.out.mono ?_; rintro e w2 ⟨hE, b2⟩; obtain rfl := HSH.out _ hE; have B2 := Lib.hid b2; have B3 := Lib.hid (HB.out.trans (b2.mono HB.out.size)); clear b2 hE)
        | (go_at_call 14; refine (C14.out _ B2.out).mono ?_; rintro e w3 ⟨hE, b3⟩; obtain rfl := HSH.out _ hE; have B4 := Lib.hid (B3.out.trans (b3.mono B3.out.size)); clear b3 hE))
      go_ret
      exact ⟨by simp, B4.out⟩
end Go.Proofs.YtckhomeokhhneaaDoor
