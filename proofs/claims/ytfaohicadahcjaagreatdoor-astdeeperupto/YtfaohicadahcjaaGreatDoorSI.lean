/- Contracts: words, as the document has them, of parts without others. Conditions: lengths below a bound. -/
import Derived.Test.YtfaohicadahcjaaGreatDoorSH
import Derived.Deep.AppendLies
namespace Go.Proofs.YtfaohicadahcjaaGreatDoor
open Go.RowKit Go.PlainAid Go.ChangeShapes Go.WideShapes Go.ChangeAt
set_option linter.unusedSimpArgs false
set_option linter.unusedVariables false
set_option maxHeartbeats 1000000 in
set_option maxRecDepth 100000 in
theorem word19_nil (a : Option Addr) (c : Nat) (w : World) : Calls Tryz.prog 19 #[.slice a 0 c] w fun e w' => e = .returned (.slice none 0 0) ∧ w = w' := by
  go_enter Tryz.func19, Tryz.ntmps19
  go_wp2
  go_loop [3, 8] (fun o i => o = .slice none 0 0 ∧ i = .int .i64 0) (fun o i => 0)
  case atStart => exact ⟨rfl, rfl⟩
  case round =>
    obtain ⟨rfl, rfl⟩ := hrel
    go_wp2
    go_ret
    exact ⟨rfl, rfl⟩
set_option maxHeartbeats 1000000 in
set_option maxRecDepth 100000 in
theorem nodes10_nil (a : Option Addr) (c : Nat) (w : World) : Calls Tryz.prog 10 #[.slice a 0 c] w fun e w' => e = .returned (.slice none 0 0) ∧ w = w' := by
  go_enter Tryz.func10, Tryz.ntmps10
  go_wp2
  go_loop [3, 8] (fun o i => o = .slice none 0 0 ∧ i = .int .i64 0) (fun o i => 0)
  case atStart => exact ⟨rfl, rfl⟩
  case round =>
    obtain ⟨rfl, rfl⟩ := hrel
    go_wp2
    go_ret
    exact ⟨rfl, rfl⟩
def Rel19 (l : List Pt) (w : World) (o i : Value) (wx : World) : Prop := ∃ k : Nat, k ≤ l.length ∧ i = .int .i64 k ∧ wx.ownsRow w.heap.size 86 6 o k (rowP (l.take k)) ∧ Below w.heap.size w wx
set_option maxHeartbeats 16000000 in
set_option maxRecDepth 100000 in
theorem word19_flat (v : Value) (l : List Pt) (w : World) (h : WdAt 1 w v l) : Calls Tryz.prog 19 #[v] w fun e w' => ∃ v', e = .returned v' ∧ WdAt 1 w' v' l ∧ Below w.heap.size w w' := by
  obtain ⟨i0, hi, hz0, hz1, hz2⟩ := info_of info86'
  have HL := Lib.hid h
  have hlen := at_len _ _ _ _ h
  obtain ⟨a, c, rfl⟩ := wd_shape _ _ _ _ h
  obtain ⟨q, Hq⟩ : ∃ q, Hid (l.length = q) := ⟨_, Lib.hid rfl⟩
  rw [Hq.out] at HL hlen ⊢
  have C1 := Lib.hid fun a c W => word19_nil a c W
  have C2 := Lib.hid fun a c W => nodes10_nil a c W
  clear h
  go_enter Tryz.func19, Tryz.ntmps19
  go_wp2
  go_loopw [3, 8] (Rel19 l w) (fun _ i _ => q - (intOf i).toNat)
  case atStart => exact ⟨0, Nat.zero_le _, rfl, World.ownsRow_nil _ _ _ _, Below.refl _ _⟩
  case round =>
    obtain ⟨k, hk, rfl, HO, HB⟩ := hrel
    rename World => wx
    rw [Hq.out] at hk
    have HO := Lib.hid HO
    have HB := Lib.hid HB
    have hsz := HB.out.size
    by_cases hlt : k < q
    · have hlt' : k < l.length := by rw [Hq.out]; exact hlt
      obtain ⟨m, b1, off, c', wa, wc, ba, bc, em, e, hc, hfit, ⟨hw5, hw6⟩, c0, c1, c2, c3, c4, c5⟩ := wd_at2 HL.out k hlt'
      obtain rfl : m = 0 := by omega
      have hw7 := hw5.1
      have hw8 := hw6.1
      have HT : Hid (l.take (k + 1) = l.take k ++ [l[k]]) := Lib.hid (by rw [List.take_add_one, List.getElem?_eq_getElem hlt']; rfl)
      obtain ⟨p, Hp⟩ : ∃ p, Hid (l[k] = p) := ⟨_, Lib.hid rfl⟩
      rw [Hp.out] at HT c0 c1 c2 c3 c4 c5 hw7 hw8
      rw [hw7] at c4
      rw [hw8] at c5
      simp only [List.length_nil] at c4 c5
      rw [Hq.out] at e hc
      cases e
      replace c0 := cell_low c0 HB.out
      replace c1 := cell_low c1 HB.out
      replace c2 := cell_low c2 HB.out
      replace c3 := cell_low c3 HB.out
      replace c4 := cell_low c4 HB.out
      replace c5 := cell_low c5 HB.out
      have hbo := HB.out.alloc hsz (.cells #[.int .i64 p.kind, .bool p.quoted, .string p.text, .string p.op, .slice wa 0 wc, .slice ba 0 bc] 55)
      have HBo := Lib.hid hbo
      have hbox := heap_alloc_new wx (.cells #[.int .i64 p.kind, .bool p.quoted, .string p.text, .string p.op, .slice wa 0 wc, .slice ba 0 bc] 55)
      have hown := HO.out.alloc (.cells #[.int .i64 p.kind, .bool p.quoted, .string p.text, .string p.op, .slice wa 0 wc, .slice ba 0 bc] 55)
      obtain ⟨oa, oc, rfl⟩ := slice_shape HO.out
      clear hfit hbo hw5 hw6 hw7 hw8 em
      go_upto_region 5 with fail
      generalize wx.alloc (.cells #[.int .i64 p.kind, .bool p.quoted, .string p.text, .string p.op, .slice wa 0 wc, .slice ba 0 bc] 55) = wy at HBo hbox hown ⊢
      have HOy := Lib.hid hown
      have HBX := Lib.hid hbox
      have Hne : Hid (∀ g, (Value.slice oa k oc).ownBlock = some g → g < wx.heap.size) := Lib.hid fun g hg => (World.ownsRow.lt HO.out g hg).2
      have hh : wy.drew.cell? ⟨wx.heap.size, 0, none⟩ = some (.int .i64 p.kind) ∧ wy.drew.cell? ⟨wx.heap.size, 1, none⟩ = some (.bool p.quoted) ∧ wy.drew.cell? ⟨wx.heap.size, 2, none⟩ = some (.string p.text) ∧ wy.drew.cell? ⟨wx.heap.size, 3, none⟩ = some (.string p.op) ∧ wy.drew.cell? ⟨wx.heap.size, 4, none⟩ = some (.slice wa 0 wc) ∧ wy.drew.cell? ⟨wx.heap.size, 5, none⟩ = some (.slice ba 0 bc) :=
        ⟨cells_at hbox (i := 0) rfl, cells_at hbox (i := 1) rfl, cells_at hbox (i := 2) rfl, cells_at hbox (i := 3) rfl, cells_at hbox (i := 4) rfl, cells_at hbox (i := 5) rfl⟩
      have hh2 : ∀ o : Obj, (wy.alloc o).drew.cell? ⟨wx.heap.size, 0, none⟩ = some (.int .i64 p.kind) ∧ (wy.alloc o).drew.cell? ⟨wx.heap.size, 1, none⟩ = some (.bool p.quoted) ∧ (wy.alloc o).drew.cell? ⟨wx.heap.size, 2, none⟩ = some (.string p.text) ∧ (wy.alloc o).drew.cell? ⟨wx.heap.size, 3, none⟩ = some (.string p.op) ∧ (wy.alloc o).drew.cell? ⟨wx.heap.size, 4, none⟩ = some (.slice wa 0 wc) ∧ (wy.alloc o).drew.cell? ⟨wx.heap.size, 5, none⟩ = some (.slice ba 0 bc) := fun o =>
        have hb := ((Below.refl wy.heap.size wy).alloc (Nat.le_refl _) o).drew
        ⟨cell_low (cells_at hbox (i := 0) rfl) hb, cell_low (cells_at hbox (i := 1) rfl) hb, cell_low (cells_at hbox (i := 2) rfl) hb, cell_low (cells_at hbox (i := 3) rfl) hb, cell_low (cells_at hbox (i := 4) rfl) hb, cell_low (cells_at hbox (i := 5) rfl) hb⟩
      clear hown c0 c1 c2 c3 c4 c5 hbox
      go_region_held3 (fun W => W.cell? ⟨wx.heap.size, 0, none⟩ = some (.int .i64 p.kind) ∧ W.cell? ⟨wx.heap.size, 1, none⟩ = some (.bool p.quoted) ∧ W.cell? ⟨wx.heap.size, 2, none⟩ = some (.string p.text) ∧ W.cell? ⟨wx.heap.size, 3, none⟩ = some (.string p.op) ∧ W.cell? ⟨wx.heap.size, 4, none⟩ = some (.slice wa 0 wc) ∧ W.cell? ⟨wx.heap.size, 5, none⟩ = some (.slice ba 0 bc))
        (first | exact hh | exact hh2 _ | exact hh3)
        (first
          | (go_at_call 19; (with_reducible refine (C1.out _ _ _).mono ?_); rintro e w2 ⟨rfl, rfl⟩)
          | (go_at_call 10; (with_reducible refine (C2.out _ _ _).mono ?_); rintro e w2 ⟨rfl, rfl⟩)
          | (refine step_append_lies _ rfl _ _ 37 rfl w.heap.size 86 i0 _ 6 96 Tryz.underlying37 hi hz0 hz1 hz2 rfl (by decide) _ _ _ rfl (World.ownsRow.alloc HOy.out _) ⟨wy.heap.size, 0, none⟩ 1 1 (cellsP p) rfl rfl (by
              intro j u hj
              rw [add_at, Nat.zero_add]
              exact cells_at (heap_alloc_new wy _) (by simpa [cellsP] using hj)) (by intro u hu; simp [cellsP] at hu; rcases hu with rfl | rfl | rfl | rfl | rfl <;> rfl) (by decide) (by unfold maxLen; omega) (by omega) (by have := HBo.out.size; simp; omega) _ rfl ?_; intro g2 cap2 w7 hown' hgrow hat hlt7
             have hz7 : w7.heap[wx.heap.size]? = some (.cells #[.int .i64 p.kind, .bool p.quoted, .string p.text, .string p.op, .slice wa 0 wc, .slice ba 0 bc] 55 (0, 0)) := by
                rw [hgrow.block _ (by have := lt_of_block HBX.out; simp; omega) (fun e => absurd (Hne.out _ e.symm) (by omega))]
                exact (Lib.alloc_old wy _ _ (lt_of_block HBX.out)).trans HBX.out
             have hh3 : w7.cell? ⟨wx.heap.size, 0, none⟩ = some (.int .i64 p.kind) ∧ w7.cell? ⟨wx.heap.size, 1, none⟩ = some (.bool p.quoted) ∧ w7.cell? ⟨wx.heap.size, 2, none⟩ = some (.string p.text) ∧ w7.cell? ⟨wx.heap.size, 3, none⟩ = some (.string p.op) ∧ w7.cell? ⟨wx.heap.size, 4, none⟩ = some (.slice wa 0 wc) ∧ w7.cell? ⟨wx.heap.size, 5, none⟩ = some (.slice ba 0 bc) := ⟨cells_at hz7 (i := 0) rfl, cells_at hz7 (i := 1) rfl, cells_at hz7 (i := 2) rfl, cells_at hz7 (i := 3) rfl, cells_at hz7 (i := 4) rfl, cells_at hz7 (i := 5) rfl⟩
             have HRl : Hid (Rel19 l w (.slice (some ⟨g2, 0, none⟩) (k + 1) cap2) (.int .i64 ((k : Int) + 1)) w7) := Lib.hid ⟨k + 1, hlt', by go_num, by rw [HT.out, rowP_snoc]; exact hown', ((HBo.out.alloc HBo.out.size _).drew).grown hgrow (by have := HBo.out.size; simp; omega) (fun j hj => (World.ownsRow.lt HO.out j hj).1)⟩
             clear hown' hgrow hat hlt7 hz7))
      clear hh hh2 hh3
      go_wp2
      go_round
      case rel => exact HRl.out
      case measure => simp [intOf]; omega
    · have hkq : q = k := by omega
      subst hkq
      have h1 := HO.out
      rw [List.take_of_length_le (by rw [Hq.out]; exact Nat.le_refl _)] at h1
      have HW := Lib.hid (row_atn Hq.out.symm h1 (by rw [Hq.out]; exact hlen) (fun p hp => by
        obtain ⟨i, hi, rfl⟩ := List.getElem_of_mem hp
        obtain ⟨m, b1, off, c', wa, wc, ba, bc, em, _, _, hfit, ⟨hw5, hw6⟩, _⟩ := wd_at2 HL.out i hi
        obtain rfl : m = 0 := by omega
        exact ⟨hfit, hw5.1, hw6.1⟩))
      clear h1
      go_wp2
      go_ret
      exact ⟨_, rfl, HW.out, HB.out⟩
end Go.Proofs.YtfaohicadahcjaaGreatDoor
