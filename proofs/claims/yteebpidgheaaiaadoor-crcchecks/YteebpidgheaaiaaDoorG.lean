/- CrcChecks: the walk. -/
import Derived.Test.YteebpidgheaaiaaDoorD
namespace Go.Proofs.YteebpidgheaaiaaDoor
open Go.RowKit Go.PlainAid Go.Sort
set_option linter.unusedSimpArgs false

/-- v is a slice of just these texts. -/
def Strs (w : World) (v : Value) (ns : List ByteArray) : Prop := (ns = [] ∧ ∃ a c, v = .slice a 0 c) ∨ ∃ b off c, v = .slice (some ⟨b, off, none⟩) ns.length c ∧ ∀ (i : Nat) (s : ByteArray), ns[i]? = some s → w.cell? ⟨b, off + i, none⟩ = some (.string s)
def Rel3 (ns : List ByteArray) (D : Nat) (w : World) (i al : Value) (wx : World) : Prop := ∃ (k x : Nat) (l : List UInt8), k ≤ ns.length ∧ i = .int .i64 k ∧ al = .string (mk l) ∧ l.length ≤ 500 * k ∧ x < 4294967296 ∧ Hid (ckL l 0 = x) ∧ Hid (SumAt D x l.length wx) ∧ Hid (Below w.heap.size w wx)
set_option maxHeartbeats 4000000 in
set_option maxRecDepth 100000 in
theorem checks3_early (a : Option Addr) (n c : Nat) (w : World) (ht : Tab w) (hn : 60 < n) : Calls Tryd.prog 3 #[.slice a n c] w fun e w' => e = .returned (.bool true) ∧ Below w.heap.size w w' := by
  have C := Lib.hid (anchor5 w ht)
  clear ht
  go_enter Tryd.func3, Tryd.ntmps3
  go_wp2_with fail
  refine C.out.mono ?_
  rintro e w1 ⟨rfl, b1⟩
  have B1 := Lib.hid b1
  clear b1 C
  go_wp2
  go_ret
  exact ⟨rfl, B1.out⟩
theorem mk_app2 (l : List UInt8) (s : ByteArray) : mk l ++ s = mk (l ++ ls s) := by
  have := mk_app l (ls s)
  rw [mk_ls] at this
  exact this
theorem line_is (x n : Nat) : lineS x n = dd x ++ (⟨#[32]⟩ : ByteArray) ++ dd n := rfl
set_option maxHeartbeats 4000000 in
set_option maxRecDepth 100000 in
theorem checks3_main (a : Option Addr) (c : Nat) (ns : List ByteArray) (w : World) (ht : Tab w) (hn : ns.length ≤ 60) (hc : ∀ (i : Nat) (s : ByteArray), ns[i]? = some s → ∃ b off, a = some ⟨b, off, none⟩ ∧ w.cell? ⟨b, off + i, none⟩ = some (.string s)) : Calls Tryd.prog 3 #[.slice a ns.length c] w fun e w' => e = .returned (.bool true) ∧ Below w.heap.size w w' := by
  have C := Lib.hid (anchor5 w ht)
  have HT := Lib.hid ht
  have HC := Lib.hid hc
  clear ht hc
  go_enter Tryd.func3, Tryd.ntmps3
  go_wp2_with fail
  refine C.out.mono ?_
  rintro e w1 ⟨rfl, b1⟩
  have B1 := Lib.hid b1
  have HS0 : Hid (SumAt w1.heap.size 0 0 (w1.alloc (.cells #[.int .u32 0, .int .i64 0] 26))) := Lib.hid (heap_alloc_new _ _)
  have HB0 := Lib.hid (B1.out.trans (((Below.refl w1.heap.size w1).alloc (Nat.le_refl _) (.cells #[.int .u32 0, .int .i64 0] 26)).mono B1.out.size))
  have hD : w.heap.size ≤ w1.heap.size := B1.out.size
  clear b1 C B1
  go_wp2
  go_loopw [15, 4] (Rel3 ns w1.heap.size w) (fun i _ _ => ns.length - (intOf i).toNat)
  case atStart => exact ⟨0, 0, [], Nat.zero_le _, rfl, rfl, by simp, by omega, Lib.hid rfl, HS0, HB0⟩
  case round =>
    obtain ⟨k, x, l, hk, rfl, rfl, hl, hx, HX, HS, HB⟩ := hrel
    rename World => wx
    by_cases hlt : k < ns.length
    · obtain ⟨s, hs⟩ : ∃ s, ns[k]? = some s := ⟨ns[k], List.getElem?_eq_getElem hlt⟩
      obtain ⟨b, off, rfl, hcw⟩ := HC.out k s hs
      have hcell : wx.cell? ⟨b, off + k, none⟩ = some (.string s) := by rw [HB.out.cell (p := ⟨b, off + k, none⟩) (World.block_lt_of_cell? w _ hcw)]; exact hcw
      clear hs hcw
      by_cases h5 : 500 < s.size
      · go_wp2
        go_ret
        exact ⟨rfl, HB.out⟩
      · have hsz : (mk l).size ≤ 30000 := by rw [mk_size]; omega
        have hno : ¬ 9223372036854775807 < (mk l).size + s.size := by omega
        have HA := Lib.hid (mk_app2 l s)
        have hmk := run_made s wx
        have hDx := HS.out.lt
        have C0 := add6 w1.heap.size x l.length wx.heap.size (grownCap wx s.size 0 5) (ls s) (made wx s) (HS.out.below (made_below wx s)) hx (by omega) (made_row wx s).cells (by omega) (by rw [ls_len]; omega)
        rw [ls_len] at C0
        have C := Lib.hid C0
        clear C0
        have HS2 : Hid (SumAt w1.heap.size (ckL (ls s) x) (l.length + s.size) ((made wx s).setRow w1.heap.size (sumC (ckL (ls s) x) (l.length + s.size)))) := Lib.hid ((HS.out.below (made_below wx s)).row _ _)
        have HB2 := Lib.hid (below_setRow (HB.out.trans ((made_below wx s).mono HB.out.size)) hD (sumC (ckL (ls s) x) (l.length + s.size)))
        have hlen : (l ++ ls s).length = l.length + s.size := by rw [List.length_append, ls_len]
        have HL := Lib.hid hlen
        have hxx := ckL_lt (ls s) x hx
        clear hDx hlen
        generalize made wx s = wm at hmk C HS2 HB2
        generalize grownCap wx s.size 0 5 = cap at hmk C
        generalize wx.heap.size = g at hmk C
        go_wp2_with fail
        refine C.out.mono ?_
        rintro e w4 ⟨rfl, ew⟩
        have EW := Lib.hid ew
        clear ew C
        go_wp2
        go_roundw
        case rel => exact ⟨k + 1, ckL (ls s) x, l ++ ls s, by omega, by go_num, by rw [HA.out], by rw [HL.out]; omega, hxx, Lib.hid (by rw [ckL_app, HX.out]), by rw [EW.out, HL.out]; exact HS2, by rw [EW.out]; exact HB2⟩
        case measure => simp [intOf]; omega
    · obtain rfl : k = ns.length := by omega
      have hll : l.length ≤ 30000 := by omega
      have hsz : (mk l).size = l.length := mk_size l
      have hmk := run_made (mk l) wx
      have C7 := refOf7 wx.heap.size (grownCap wx (mk l).size 0 5) l (made wx (mk l)) (made_row wx (mk l)).cells (by omega)
      rw [← hsz] at C7
      have C7 := Lib.hid C7
      have HS5 := Lib.hid (HS.out.below (made_below wx (mk l)))
      have HB5 := Lib.hid (HB.out.trans ((made_below wx (mk l)).mono HB.out.size))
      have HT5 := Lib.hid (HT.out.below HB5.out)
      have C8 := value8 w1.heap.size x l.length (made wx (mk l)) HS5.out hx (by omega)
      have hck : 4294967295 - cn l.length x = chk l := by rw [← HX.out]; rfl
      rw [hck] at C8
      have C9 := len9 w1.heap.size x l.length (made wx (mk l)) HS5.out
      rw [← hsz] at C9
      have C10 : Calls Tryd.prog 10 #[.string (mk l)] (made wx (mk l)) fun e w' => e = .returned (.int .u32 (chk l : Nat)) ∧ Below (made wx (mk l)).heap.size (made wx (mk l)) w' := of10 (mk l) (by omega) _
      have C11 : Hid (∀ W, Tab W → Calls Tryd.prog 11 #[.string (mk l)] W fun e w' => e = .returned (.string (dd (chk l) ++ (⟨#[32]⟩ : ByteArray) ++ dd (mk l).size)) ∧ Below W.heap.size W w') := Lib.hid fun W h => line11 (mk l) (by omega) W h
      have hxl := chk_lt l
      have C8 := Lib.hid C8
      have C9 := Lib.hid C9
      have C10 := Lib.hid C10
      have hmz : (mk l).size ≤ 30000 := by omega
      clear hck hsz HS5 HX HS hx hl hk hlt
      generalize made wx (mk l) = w5 at hmk C7 C8 C9 C10 HB5 HT5
      generalize grownCap wx (mk l).size 0 5 = cap at hmk C7
      generalize wx.heap.size = g at hmk C7
      generalize chk l = y at C7 C8 C10 C11 hxl
      generalize mk l = t at hmk C7 C9 C10 C11 hmz
      go_wp2_with fail
      refine C7.out.mono ?_
      rintro e w6 ⟨rfl, rfl⟩
      clear C7 hmk
      go_wp2_with fail
      refine C8.out.mono ?_
      rintro e w6 ⟨rfl, rfl⟩
      clear C8
      go_wp2_with fail
      refine C9.out.mono ?_
      rintro e w6 ⟨rfl, rfl⟩
      clear C9
      go_wp2_with fail
      refine C10.out.mono ?_
      rintro e w6 ⟨rfl, b6⟩
      have HB6 := Lib.hid (HB5.out.trans (b6.mono HB5.out.size))
      have C11' := Lib.hid (C11.out w6 (HT5.out.below b6))
      clear C10 b6 C11
      go_wp2_with fail
      refine C11'.out.mono ?_
      rintro e w7 ⟨rfl, b7⟩
      have HB7 := Lib.hid (HB6.out.trans (b7.mono HB6.out.size))
      have C12 := Lib.hid (digits12 y (by omega) w7)
      have hd1 := dd_size y (by omega)
      have hd2 := dd_size t.size (by omega)
      have hn1 : ¬ 9223372036854775807 < (dd y).size + 1 := by omega
      have hz1 : (dd y ++ (⟨#[32]⟩ : ByteArray)).size ≤ 21 := by rw [app_size]; show (dd y).size + 1 ≤ 21; omega
      have hn2 : ¬ 9223372036854775807 < (dd y ++ (⟨#[32]⟩ : ByteArray)).size + (dd t.size).size := by omega
      clear b7 C11'
      go_wp2_with fail
      refine C12.out.mono ?_
      rintro e w8 ⟨rfl, b8⟩
      have HB8 := Lib.hid (HB7.out.trans (b8.mono HB7.out.size))
      have C13 := Lib.hid (digits12 t.size (by omega) w8)
      clear b8 C12
      go_wp2_with fail
      refine C13.out.mono ?_
      rintro e w9 ⟨rfl, b9⟩
      have HB9 := Lib.hid (HB8.out.trans (b9.mono HB8.out.size))
      clear b9 C13
      generalize dd t.size = d2 at hn2 hd2
      generalize dd y = d1 at hn1 hn2 hz1 hd1
      go_wp2
      go_ret
      exact ⟨rfl, HB9.out⟩
end Go.Proofs.YteebpidgheaaiaaDoor
