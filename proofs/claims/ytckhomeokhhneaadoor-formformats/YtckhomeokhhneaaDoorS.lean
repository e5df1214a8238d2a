/- The anchor. Condition: the tables read as they are laid. -/
import Derived.Test.YtckhomeokhhneaaDoorR
namespace Go.Proofs.YtckhomeokhhneaaDoor
open Go.RowKit Go.PlainAid
set_option linter.unusedSimpArgs false
set_option linter.unusedVariables false

theorem dec_small (n : Nat) (h : n < 10) : Lib.decDigits n = [UInt8.ofNat (48 + n)] := by rw [Lib.decDigits, dif_pos h]
theorem an_f1 : fillO ⟨false, false, 3, none, 100⟩ [55] = some [32, 32, 55] := by
  unfold fillO
  rw [if_neg (by decide), if_neg (by decide), if_neg (by decide), show numO [55] = some 7 from rfl]
  simp only
  have : sgnO 100 7 = ([], [55]) := by
    unfold sgnO
    rw [if_neg (by decide), if_neg (by decide), if_neg (by decide), if_neg (by decide), if_neg (by decide), show (7 : Int).toNat = 7 from rfl, dec_small 7 (by decide)]
    rfl
  rw [this]
  rfl
theorem an_f2 : fillO ⟨true, false, 4, none, 115⟩ [97, 98] = some [97, 98, 32, 32] := rfl
theorem an_f3 : fillO ⟨false, false, 0, none, 111⟩ [56] = some [49, 48] := by
  unfold fillO
  rw [if_neg (by decide), if_neg (by decide), if_neg (by decide), show numO [56] = some 8 from rfl]
  simp only
  have : sgnO 111 8 = ([], [49, 48]) := by
    unfold sgnO
    rw [if_pos rfl, show m64 8 = 8 from rfl, bd_big (b := 8) (n := 8) (by decide) (by decide), show 8 / 8 = 1 from rfl, bd_small (b := 8) (n := 1) (by decide)]
    rfl
  rw [this]
  rfl
theorem an_tell : formatM [[55], [97, 98], [56]] [37, 51, 100, 124, 37, 45, 52, 115, 124, 37, 111] 0 [] = .ok [32, 32, 55, 124, 97, 98, 32, 32, 124, 49, 48] := by
  have h : tellM [[55], [97, 98], [56]] [37, 51, 100, 124, 37, 45, 52, 115, 124, 37, 111] 0 [] = .ok (3, [32, 32, 55, 124, 97, 98, 32, 32, 124, 49, 48]) := by
    rw [tell_yes [[55], [97, 98], [56]] [51, 100, 124, 37, 45, 52, 115, 124, 37, 111] 0 [] ⟨false, false, 3, none, 100⟩ 2 [32, 32, 55] rfl (by decide) an_f1]
    rw [show List.drop 2 ([51, 100, 124, 37, 45, 52, 115, 124, 37, 111] : List UInt8) = [124, 37, 45, 52, 115, 124, 37, 111] from rfl]
    rw [tell_ch _ 124 _ _ _ (by decide) (by decide)]
    rw [tell_yes [[55], [97, 98], [56]] [45, 52, 115, 124, 37, 111] (0 + 1) _ ⟨true, false, 4, none, 115⟩ 3 [97, 98, 32, 32] rfl (by decide) an_f2]
    rw [show List.drop 3 ([45, 52, 115, 124, 37, 111] : List UInt8) = [124, 37, 111] from rfl]
    rw [tell_ch _ 124 _ _ _ (by decide) (by decide)]
    rw [tell_yes [[55], [97, 98], [56]] [111] (0 + 1 + 1) _ ⟨false, false, 0, none, 111⟩ 1 [49, 48] rfl (by decide) an_f3]
    rw [show List.drop 1 ([111] : List UInt8) = [] from rfl, tell_nil]
    rfl
  rw [fm_done h (by decide) (by decide)]
set_option maxHeartbeats 4000000 in
set_option maxRecDepth 100000 in
theorem anchor7 (w : World) (he : Env w) : Calls Tryd.prog 7 #[] w fun e w' => e = .returned (.bool true) ∧ Below w.heap.size w w' := by
  obtain ⟨w0, hw0⟩ : ∃ w0, w0 = w.alloc (.cells #[.string ⟨#[55]⟩, .string ⟨#[97, 98]⟩, .string ⟨#[56]⟩] 9) := ⟨_, rfl⟩
  have hb0 : Below w.heap.size w w0 := by rw [hw0]; exact (Below.refl _ w).alloc (Nat.le_refl _) _
  have hst : Strs w0 (.slice (some ⟨w.heap.size, 0, none⟩) 3 3) [⟨#[55]⟩, ⟨#[97, 98]⟩, ⟨#[56]⟩] := by
    refine .inr ⟨w.heap.size, 0, 3, rfl, Nat.le_refl _, fun i s hi => ?_⟩
    rw [hw0, Nat.zero_add, alloc_cell]
    match i, hi with
    | 0, hi => simp at hi; subst hi; rfl
    | 1, hi => simp at hi; subst hi; rfl
    | 2, hi => simp at hi; subst hi; rfl
  have C := Lib.hid (format9 ⟨#[37, 51, 100, 124, 37, 45, 52, 115, 124, 37, 111]⟩ _ _ w0 (he.below hb0) hst (by decide) (by
    intro s hs
    simp at hs
    rcases hs with rfl | rfl | rfl <;> decide))
  rw [show (List.map ls [⟨#[55]⟩, ⟨#[97, 98]⟩, ⟨#[56]⟩]) = [[55], [97, 98], [56]] from rfl, show ls ⟨#[37, 51, 100, 124, 37, 45, 52, 115, 124, 37, 111]⟩ = [37, 51, 100, 124, 37, 45, 52, 115, 124, 37, 111] from rfl, an_tell, hw0] at C
  unfold FmE at C
  simp only at C
  rw [hw0] at hb0
  have HB := Lib.hid hb0
  clear hw0 hst hb0 he
  have hl : ((mk [32, 32, 55, 124, 97, 98, 32, 32, 124, 49, 48]).toList == [32, 32, 55, 124, 97, 98, 32, 32, 124, 49, 48]) = true := by rw [toList_data]; rfl
  go_enter Tryd.func7, Tryd.ntmps7
  go_wp2_with (go_at_call 9; refine C.out.mono ?_; rintro e w1 ⟨rfl, b1⟩; have B1 := Lib.hid (HB.out.trans (b1.mono HB.out.size)); clear b1)
  go_ret
  exact ⟨rfl, B1.out⟩
end Go.Proofs.YtckhomeokhhneaaDoor
