/- Contracts: words, as the document has them, of parts without others. Conditions: lengths below a bound. -/
import Derived.Test.YtfaohicadahcjaaGreatDoorMh
import Derived.Deep.AppendLies
import Derived.HandedShaped
import Derived.Test.YtfaohicadahcjaaGreatDoorMf
namespace Go.Proofs.YtfaohicadahcjaaGreatDoor
open Go.RowKit Go.PlainAid Go.ChangeShapes Go.WideShapes Go.ChangeAt
set_option linter.unusedSimpArgs false
set_option linter.unusedVariables false
set_option maxHeartbeats 1000000 in
set_option maxRecDepth 100000 in
theorem word19_nil (a : Option Addr) (c : Nat) (w : World) : Calls Tryz.prog 19 #[.slice a 0 c] w fun e w' => e = .returned (.slice none 0 0) ∧ w = w' := by
  go_enter Tryz.func19, Tryz.ntmps19
  go_wp2
  go_loop [3, 8] (fun o i => o = .slice none 0 0 ∧ i = .int .i64 0) (fun o i => 0)
  case atStart => exact ⟨rfl, rfl⟩
  case round =>
    obtain ⟨rfl, rfl⟩ := hrel
    go_wp2
    go_ret
    exact ⟨rfl, rfl⟩
set_option maxHeartbeats 1000000 in
set_option maxRecDepth 100000 in
theorem nodes10_nil (a : Option Addr) (c : Nat) (w : World) : Calls Tryz.prog 10 #[.slice a 0 c] w fun e w' => e = .returned (.slice none 0 0) ∧ w = w' := by
  go_enter Tryz.func10, Tryz.ntmps10
  go_wp2
  go_loop [3, 8] (fun o i => o = .slice none 0 0 ∧ i = .int .i64 0) (fun o i => 0)
  case atStart => exact ⟨rfl, rfl⟩
  case round =>
    obtain ⟨rfl, rfl⟩ := hrel
    go_wp2
    go_ret
    exact ⟨rfl, rfl⟩
def Rel19 (l : List Pt) (w : World) (o i : Value) (wx : World) : Prop := ∃ k : Nat, k ≤ l.length ∧ i = .int .i64 k ∧ wx.ownsRow w.heap.size 86 6 o k (rowP (l.take k)) ∧ Below w.heap.size w wx
set_option maxHeartbeats 16000000 in
set_option maxRecDepth 100000 in
theorem word19_flat (v : Value) (l : List Pt) (w : World) (h : WdAt 1 w v l) : Calls Tryz.prog 19 #[v] w fun e w' => ∃ v', e = .returned v' ∧ WdAt 1 w' v' l ∧ Below w.heap.size w w' := by
  obtain ⟨i0, hi, hz0, hz1, hz2⟩ := info_of info86'
  have HL := Lib.hid h
  have hlen := at_len _ _ _ _ h
  obtain ⟨a, c, rfl⟩ := wd_shape _ _ _ _ h
  obtain ⟨q, Hq⟩ : ∃ q, Hid (l.length = q) := ⟨_, Lib.hid rfl⟩
  rw [Hq.out] at HL hlen ⊢
  have C1 := Lib.hid fun a c W => word19_nil a c W
  have C2 := Lib.hid fun a c W => nodes10_nil a c W
  clear h
  go_enter Tryz.func19, Tryz.ntmps19
  go_wp2
  go_loopw [3, 8] (Rel19 l w) (fun _ i _ => q - (intOf i).toNat)
  case atStart => exact ⟨0, Nat.zero_le _, rfl, World.ownsRow_nil _ _ _ _, Below.refl _ _⟩
  case round =>
    obtain ⟨k, hk, rfl, HO, HB⟩ := hrel
    rename World => wx
    rw [Hq.out] at hk
    have HO := Lib.hid HO
    have HB := Lib.hid HB
    have hsz := HB.out.size
    by_cases hlt : k < q
    · have hlt' : k < l.length := by rw [Hq.out]; exact hlt
      obtain ⟨m, b1, off, c', wa, wc, ba, bc, em, e, hc, hfit, ⟨hw5, hw6⟩, c0, c1, c2, c3, c4, c5⟩ := wd_at2 HL.out k hlt'
      obtain rfl : m = 0 := by omega
      have hw7 := hw5.1
      have hw8 := hw6.1
      have HT : Hid (l.take (k + 1) = l.take k ++ [l[k]]) := Lib.hid (by rw [List.take_add_one, List.getElem?_eq_getElem hlt']; rfl)
      obtain ⟨p, Hp⟩ : ∃ p, Hid (l[k] = p) := ⟨_, Lib.hid rfl⟩
      rw [Hp.out] at HT c0 c1 c2 c3 c4 c5 hw7 hw8
      rw [hw7] at c4
      rw [hw8] at c5
      simp only [List.length_nil] at c4 c5
      rw [Hq.out] at e hc
      cases e
      replace c0 := cell_low c0 HB.out
      replace c1 := cell_low c1 HB.out
      replace c2 := cell_low c2 HB.out
      replace c3 := cell_low c3 HB.out
      replace c4 := cell_low c4 HB.out
      replace c5 := cell_low c5 HB.out
      have hbo := HB.out.alloc hsz (.cells #[.int .i64 p.kind, .bool p.quoted, .string p.text, .string p.op, .slice wa 0 wc, .slice ba 0 bc] 55)
      have HBo := Lib.hid hbo
      have hbox := heap_alloc_new wx (.cells #[.int .i64 p.kind, .bool p.quoted, .string p.text, .string p.op, .slice wa 0 wc, .slice ba 0 bc] 55)
      have hown := HO.out.alloc (.cells #[.int .i64 p.kind, .bool p.quoted, .string p.text, .string p.op, .slice wa 0 wc, .slice ba 0 bc] 55)
      obtain ⟨oa, oc, rfl⟩ := slice_shape HO.out
      clear hfit hbo hw5 hw6 hw7 hw8 em
      go_upto_region 5 with fail
      generalize wx.alloc (.cells #[.int .i64 p.kind, .bool p.quoted, .string p.text, .string p.op, .slice wa 0 wc, .slice ba 0 bc] 55) = wy at HBo hbox hown ⊢
      have HOy := Lib.hid hown
      have HBX := Lib.hid hbox
      have Hne : Hid (∀ g, (Value.slice oa k oc).ownBlock = some g → g < wx.heap.size) := Lib.hid fun g hg => (World.ownsRow.lt HO.out g hg).2
      have hh : wy.drew.cell? ⟨wx.heap.size, 0, none⟩ = some (.int .i64 p.kind) ∧ wy.drew.cell? ⟨wx.heap.size, 1, none⟩ = some (.bool p.quoted) ∧ wy.drew.cell? ⟨wx.heap.size, 2, none⟩ = some (.string p.text) ∧ wy.drew.cell? ⟨wx.heap.size, 3, none⟩ = some (.string p.op) ∧ wy.drew.cell? ⟨wx.heap.size, 4, none⟩ = some (.slice wa 0 wc) ∧ wy.drew.cell? ⟨wx.heap.size, 5, none⟩ = some (.slice ba 0 bc) :=
        ⟨cells_at hbox (i := 0) rfl, cells_at hbox (i := 1) rfl, cells_at hbox (i := 2) rfl, cells_at hbox (i := 3) rfl, cells_at hbox (i := 4) rfl, cells_at hbox (i := 5) rfl⟩
      have hh2 : ∀ o : Obj, (wy.alloc o).drew.cell? ⟨wx.heap.size, 0, none⟩ = some (.int .i64 p.kind) ∧ (wy.alloc o).drew.cell? ⟨wx.heap.size, 1, none⟩ = some (.bool p.quoted) ∧ (wy.alloc o).drew.cell? ⟨wx.heap.size, 2, none⟩ = some (.string p.text) ∧ (wy.alloc o).drew.cell? ⟨wx.heap.size, 3, none⟩ = some (.string p.op) ∧ (wy.alloc o).drew.cell? ⟨wx.heap.size, 4, none⟩ = some (.slice wa 0 wc) ∧ (wy.alloc o).drew.cell? ⟨wx.heap.size, 5, none⟩ = some (.slice ba 0 bc) := fun o =>
        have hb := ((Below.refl wy.heap.size wy).alloc (Nat.le_refl _) o).drew
        ⟨cell_low (cells_at hbox (i := 0) rfl) hb, cell_low (cells_at hbox (i := 1) rfl) hb, cell_low (cells_at hbox (i := 2) rfl) hb, cell_low (cells_at hbox (i := 3) rfl) hb, cell_low (cells_at hbox (i := 4) rfl) hb, cell_low (cells_at hbox (i := 5) rfl) hb⟩
      clear hown c0 c1 c2 c3 c4 c5 hbox
      go_region_held3 (fun W => W.cell? ⟨wx.heap.size, 0, none⟩ = some (.int .i64 p.kind) ∧ W.cell? ⟨wx.heap.size, 1, none⟩ = some (.bool p.quoted) ∧ W.cell? ⟨wx.heap.size, 2, none⟩ = some (.string p.text) ∧ W.cell? ⟨wx.heap.size, 3, none⟩ = some (.string p.op) ∧ W.cell? ⟨wx.heap.size, 4, none⟩ = some (.slice wa 0 wc) ∧ W.cell? ⟨wx.heap.size, 5, none⟩ = some (.slice ba 0 bc))
        (first | exact hh | exact hh2 _ | exact hh3)
        (first
          | (go_at_call 19; (with_reducible refine (C1.out _ _ _).mono ?_); rintro e w2 ⟨rfl, rfl⟩)
          | (go_at_call 10; (with_reducible refine (C2.out _ _ _).mono ?_); rintro e w2 ⟨rfl, rfl⟩)
          | (refine step_append_lies _ rfl _ _ 37 rfl w.heap.size 86 i0 _ 6 96 Tryz.underlying37 hi hz0 hz1 hz2 rfl (by decide) _ _ _ rfl (World.ownsRow.alloc HOy.out _) ⟨wy.heap.size, 0, none⟩ 1 1 (cellsP p) rfl rfl (by
              intro j u hj
              rw [add_at, Nat.zero_add]
              exact cells_at (heap_alloc_new wy _) (by simpa [cellsP] using hj)) (by intro u hu; simp [cellsP] at hu; rcases hu with rfl | rfl | rfl | rfl | rfl <;> rfl) (by decide) (by unfold maxLen; omega) (by omega) (by have := HBo.out.size; simp; omega) _ rfl ?_; intro g2 cap2 w7 hown' hgrow hat hlt7
             have hz7 : w7.heap[wx.heap.size]? = some (.cells #[.int .i64 p.kind, .bool p.quoted, .string p.text, .string p.op, .slice wa 0 wc, .slice ba 0 bc] 55 (0, 0)) := by
                rw [hgrow.block _ (by have := lt_of_block HBX.out; simp; omega) (fun e => absurd (Hne.out _ e.symm) (by omega))]
                exact (Lib.alloc_old wy _ _ (lt_of_block HBX.out)).trans HBX.out
             have hh3 : w7.cell? ⟨wx.heap.size, 0, none⟩ = some (.int .i64 p.kind) ∧ w7.cell? ⟨wx.heap.size, 1, none⟩ = some (.bool p.quoted) ∧ w7.cell? ⟨wx.heap.size, 2, none⟩ = some (.string p.text) ∧ w7.cell? ⟨wx.heap.size, 3, none⟩ = some (.string p.op) ∧ w7.cell? ⟨wx.heap.size, 4, none⟩ = some (.slice wa 0 wc) ∧ w7.cell? ⟨wx.heap.size, 5, none⟩ = some (.slice ba 0 bc) := ⟨cells_at hz7 (i := 0) rfl, cells_at hz7 (i := 1) rfl, cells_at hz7 (i := 2) rfl, cells_at hz7 (i := 3) rfl, cells_at hz7 (i := 4) rfl, cells_at hz7 (i := 5) rfl⟩
             have HRl : Hid (Rel19 l w (.slice (some ⟨g2, 0, none⟩) (k + 1) cap2) (.int .i64 ((k : Int) + 1)) w7) := Lib.hid ⟨k + 1, hlt', by go_num, by rw [HT.out, rowP_snoc]; exact hown', ((HBo.out.alloc HBo.out.size _).drew).grown hgrow (by have := HBo.out.size; simp; omega) (fun j hj => (World.ownsRow.lt HO.out j hj).1)⟩
             clear hown' hgrow hat hlt7 hz7))
      clear hh hh2 hh3
      go_wp2
      go_round
      case rel => exact HRl.out
      case measure => simp [intOf]; omega
    · have hkq : q = k := by omega
      subst hkq
      have h1 := HO.out
      rw [List.take_of_length_le (by rw [Hq.out]; exact Nat.le_refl _)] at h1
      have HW := Lib.hid (row_atn Hq.out.symm h1 (by rw [Hq.out]; exact hlen) (fun p hp => by
        obtain ⟨i, hi, rfl⟩ := List.getElem_of_mem hp
        obtain ⟨m, b1, off, c', wa, wc, ba, bc, em, _, _, hfit, ⟨hw5, hw6⟩, _⟩ := wd_at2 HL.out i hi
        obtain rfl : m = 0 := by omega
        exact ⟨hfit, hw5.1, hw6.1⟩))
      clear h1
      go_wp2
      go_ret
      exact ⟨_, rfl, HW.out, HB.out⟩
end Go.Proofs.YtfaohicadahcjaaGreatDoor

/- AstTexts, walked. Conditions: lengths below a bound; the library's own variable holds some number. -/
namespace Go.Proofs.YtfaohicadahcjaaGreatDoor
open Go.RowKit Go.PlainAid Go.ChangeShapes Go.WideShapes Go.ChangeAt
set_option linter.unusedSimpArgs false
set_option linter.unusedVariables false
def spS : List UInt8 := [64, 42, 35, 63, 45, 36, 33]
theorem sp_one (s : ByteArray) (h : s.size = 1) : spL (ls s) = hasC spS (at0 (ls s) 0) := by
  have hl : (ls s).length = 1 := by rw [ls_len]; exact h
  obtain ⟨b, hb⟩ := List.length_eq_one_iff.1 hl
  rw [hb]
  show spL [b] = hasC spS b.toNat
  unfold spL hasC spS
  simp
theorem sp_not (s : ByteArray) (h : s.size ≠ 1) : spL (ls s) = false := by
  have hl : (ls s).length ≠ 1 := by rw [ls_len]; exact h
  unfold spL
  rw [List.contains_eq_mem]
  apply decide_eq_false
  intro hm
  simp only [List.mem_cons, List.not_mem_nil, or_false] at hm
  rcases hm with e | e | e | e | e | e | e <;> (rw [e] at hl; exact hl rfl)
set_option maxHeartbeats 1000000 in
set_option maxRecDepth 100000 in
theorem sp28 (s : ByteArray) (w : World) : Calls Tryz.prog 28 #[.string s] w fun e w' => e = .returned (.bool (spL (ls s))) ∧ w = w' := by
  have hb := get_bt s
  have h1 := eqz s.size 1
  have h2 : ((s.size : Int) == 1) = decide (s.size = 1) := by rw [eq_int]; exact decide_eq_decide.2 (by omega)
  by_cases h : s.size = 1
  · have HS := Lib.hid (sp_one s h)
    rw [decide_eq_true h] at h1 h2
    have C := Lib.hid fun W => in51 ⟨#[64, 42, 35, 63, 45, 36, 33]⟩ (by decide) (at0 (ls s) 0) (at0_lt _ _) W
    rw [← bt_at, show ls ⟨#[64, 42, 35, 63, 45, 36, 33]⟩ = spS from rfl] at C
    have hp : 0 < s.size := by omega
    rw [HS.out]
    generalize hasC spS (at0 (ls s) 0) = b0 at C ⊢
    clear h
    cases b0
    all_goals (
      go_enter Tryz.func28, Tryz.ntmps28
      go_wp2_with (go_at_call 51; refine (C.out _).mono ?_; rintro e w' ⟨rfl, rfl⟩)
      go_ret
      exact ⟨rfl, rfl⟩)
  · have HS := Lib.hid (sp_not s h)
    rw [decide_eq_false h] at h1 h2
    rw [HS.out]
    clear h
    go_enter Tryz.func28, Tryz.ntmps28
    go_wp2
    go_ret
    exact ⟨rfl, rfl⟩
theorem plain_flat : ∀ l : List Pt, plainL (l.map flatP) = plainL l
  | [] => rfl
  | p :: r => by
    rw [List.map_cons, plainL, plainL, plain_flat r]
    rfl
set_option maxHeartbeats 16000000 in
set_option maxRecDepth 100000 in
theorem texts5 (n : Nat) (s : ByteArray) (c : Nat) (v : Value) (l : List Pt) (w : World) (hs : s.size ≤ 1048576) (hc : c < 256) (h : WdAt n w v l) (he : Env w) :
    Calls Tryz.prog 5 #[.string s, .int .u8 c, v] w fun e w' => e = .returned (.bool true) ∧ Below w.heap.size w w' := by
  have CA := Lib.hid (anchor8 w he)
  have HL := Lib.hid h
  have hlen := at_len _ _ _ _ h
  have C17 := Lib.hid fun W (hW : WdAt n W v l) => plain17 n v l W hW
  have C20 := Lib.hid fun W (hW : WdAt n W v l) => bytes20 n v l W hW
  have C19 := Lib.hid fun W u (hW : WdAt 1 W u (l.map flatP)) => word19_flat u _ W hW
  have C18 := Lib.hid fun W u (hW : WdAt 1 W u (l.map flatP)) => plain18 1 u _ W hW
  rw [plain_flat] at C18
  obtain ⟨a, cc, rfl⟩ := wd_shape _ _ _ _ h
  obtain ⟨q, Hq⟩ : ∃ q, Hid (l.length = q) := ⟨_, Lib.hid rfl⟩
  rw [Hq.out] at HL hlen C17 C20 ⊢
  have C21 := Lib.hid fun W => bare21 c hc W
  have C22 := Lib.hid fun W => bare22 c hc W
  have C23 := Lib.hid fun W => name23 s (by omega) W
  have C24 := Lib.hid fun W => name24 s (by omega) W
  have C25 := Lib.hid fun W => num25 s (by omega) W
  have C26 := Lib.hid fun W => num26 s (by omega) W
  have C27 := Lib.hid fun W => sp27 s W
  have C28 := Lib.hid fun W => sp28 s W
  have C29 := Lib.hid fun W => res29 s W
  have C30 := Lib.hid fun W => res30 s W
  have C31 := Lib.hid fun W => op31 s W
  have C32 := Lib.hid fun W => op32 s W
  have C33 := Lib.hid fun W => sum33 s (by omega) W
  have C34 := Lib.hid fun W => sum34 s (by omega) W
  generalize bareN c = y1 at C21 C22
  generalize nameL (ls s) = y2 at C23 C24
  generalize numL (ls s) = y3 at C25 C26
  generalize spL (ls s) = y4 at C27 C28
  generalize resL (ls s) = y5 at C29 C30
  generalize opL (ls s) = y6 at C31 C32
  generalize sumL (ls s) = y7 at C33 C34
  have z1 : (y1 != y1) = false := by simp
  have z1' : (y1 == y1) = true := by simp
  have z2 : (y2 == y2) = true := by simp
  have z3 : (y3 == y3) = true := by simp
  have z4 : (y4 == y4) = true := by simp
  have z5 : (y5 == y5) = true := by simp
  have z6 : (y6 == y6) = true := by simp
  have z7 : (y7 == y7) = true := by simp
  obtain ⟨x0, H0⟩ : ∃ b, Hid (decide (500 < s.size) = b) := ⟨_, Lib.hid rfl⟩
  obtain ⟨x1, H1⟩ : ∃ b, Hid (decide (50 < q) = b) := ⟨_, Lib.hid rfl⟩
  have t0 : decide (500 < (s.size : Int)) = x0 := by rw [← H0.out]; exact decide_eq_decide.2 (by omega)
  have t1 : decide (50 < (q : Int)) = x1 := by rw [← H1.out]; exact decide_eq_decide.2 (by omega)
  have t0' := H0.out
  have t1' := H1.out
  clear h he
  go_enter Tryz.func5, Tryz.ntmps5
  go_wp2_with fail
  refine CA.out.mono ?_
  rintro e w1 ⟨rfl, b1⟩
  have HB1 := Lib.hid b1
  have C17 := Lib.hid (C17.out w1 (kept_wd n _ _ _ _ HL.out b1))
  clear b1
  cases x0
  case true =>
    go_wp2
    go_ret
    exact ⟨rfl, HB1.out⟩
  cases x1
  case true =>
    go_wp2
    go_ret
    exact ⟨rfl, HB1.out⟩
  go_wp2_with fail
  refine C17.out.mono ?_
  rintro e w2 ⟨rfl, b2⟩
  have HB2 := Lib.hid (HB1.out.trans (b2.mono HB1.out.size))
  have C20 := Lib.hid (C20.out w2 (kept_wd n _ _ _ _ HL.out HB2.out))
  clear b2
  obtain ⟨T, Q, O, HP⟩ : ∃ T Q O, Hid (plainV (plainL l) = .tuple #[.string T, .bool Q, .bool O]) := by
    rcases plainL l with _ | ⟨t, q⟩
    · exact ⟨_, _, _, Lib.hid rfl⟩
    · exact ⟨_, _, _, Lib.hid rfl⟩
  rw [HP.out] at C18 ⊢
  have u1 : (T.toList == T.toList) = true := by simp
  have u1' : (T.toList != T.toList) = false := by simp
  have u2 : (Q != Q) = false := by simp
  have u2' : (Q == Q) = true := by simp
  have u3 : (O != O) = false := by simp
  have u3' : (O == O) = true := by simp
  go_wp2_with fail
  refine C20.out.mono ?_
  rintro e w3 ⟨v3, rfl, k3, b3⟩
  have HB3 := Lib.hid (HB2.out.trans (b3.mono HB2.out.size))
  have C19 := Lib.hid (C19.out w3 v3 k3)
  clear b3 k3
  go_wp2_with fail
  refine C19.out.mono ?_
  rintro e w4 ⟨v4, rfl, k4, b4⟩
  have HB4 := HB3.out.trans (b4.mono HB3.out.size)
  have C18 := Lib.hid (C18.out w4 v4 k4)
  clear b4 k4
  go_wp2_with fail
  refine C18.out.mono ?_
  rintro e w5 ⟨rfl, rfl⟩
  go_wp2_with (first
    | (go_at_call 21; refine (C21.out _).mono ?_; rintro e w6 ⟨rfl, rfl⟩)
    | (go_at_call 22; refine (C22.out _).mono ?_; rintro e w6 ⟨rfl, rfl⟩)
    | (go_at_call 23; refine (C23.out _).mono ?_; rintro e w6 ⟨rfl, rfl⟩)
    | (go_at_call 24; refine (C24.out _).mono ?_; rintro e w6 ⟨rfl, rfl⟩)
    | (go_at_call 25; refine (C25.out _).mono ?_; rintro e w6 ⟨rfl, rfl⟩)
    | (go_at_call 26; refine (C26.out _).mono ?_; rintro e w6 ⟨rfl, rfl⟩)
    | (go_at_call 27; refine (C27.out _).mono ?_; rintro e w6 ⟨rfl, rfl⟩)
    | (go_at_call 28; refine (C28.out _).mono ?_; rintro e w6 ⟨rfl, rfl⟩)
    | (go_at_call 29; refine (C29.out _).mono ?_; rintro e w6 ⟨rfl, rfl⟩)
    | (go_at_call 30; refine (C30.out _).mono ?_; rintro e w6 ⟨rfl, hb⟩; replace HB4 := HB4.trans (hb.mono HB4.size); clear hb)
    | (go_at_call 31; refine (C31.out _).mono ?_; rintro e w6 ⟨rfl, rfl⟩)
    | (go_at_call 32; refine (C32.out _).mono ?_; rintro e w6 ⟨rfl, hb⟩; replace HB4 := HB4.trans (hb.mono HB4.size); clear hb)
    | (go_at_call 33; refine (C33.out _).mono ?_; rintro e w6 ⟨rfl, rfl⟩)
    | (go_at_call 34; refine (C34.out _).mono ?_; rintro e w6 ⟨rfl, rfl⟩))
  go_ret
  exact ⟨rfl, HB4⟩
end Go.Proofs.YtfaohicadahcjaaGreatDoor

/- What comes in, opened; the library's own variable. No condition. -/
namespace Go.Proofs.YtfaohicadahcjaaGreatDoor
open Go.RowKit Go.PlainAid Go.ChangeShapes Go.WideShapes Go.ChangeAt
set_option linter.unusedSimpArgs false
set_option linter.unusedVariables false
theorem env_of (W : World) (h : W.ShapedOpen Tryz.prog) : Env W :=
  Go.Proofs.cell_of_shapedOpen_int (zero := #[.int .i64 0]) (t := 3) h (of_decide_eq_true (by kernel_rfl)) (by kernel_rfl) rfl (by kernel_rfl) (by kernel_rfl) Tryz.underlying3
set_option maxRecDepth 100000 in
theorem open_wd {H : Type} {enc : TypeId × Value → H} {W : World} {base : Nat} {v : Value} {d : DataW H} {p : List MemPlace} (hv : Value.okWide Tryz.prog W .any base 33 v) (h : DataW.Trod enc Tryz.prog W 0 (fun _ => true) true 33 v d p) (hb : Rows.uptoBulk d ≤ 1048576) : ∃ n l, WdAt n W v l := by
  obtain ⟨a, len, cap, rfl⟩ := okWide_slice Tryz.underlying33 hv
  obtain ⟨fuel, hf⟩ := h
  obtain ⟨l, h1, _⟩ := (open_tree (enc := enc) (w := W) (Rows.uptoBulk d) hb).1 fuel (.slice a len cap) d p hf (Nat.le_refl _)
  exact ⟨_, l, h1⟩
set_option maxRecDepth 100000 in
theorem open_ns {H : Type} {enc : TypeId × Value → H} {W : World} {base : Nat} {v : Value} {d : DataW H} {p : List MemPlace} (hv : Value.okWide Tryz.prog W .any base 22 v) (h : DataW.Trod enc Tryz.prog W 0 (fun _ => true) true 22 v d p) (hb : Rows.uptoBulk d ≤ 1048576) : ∃ n l, NsAt n W v l ∧ (wts n).2 l ≤ 1048576 := by
  obtain ⟨a, len, cap, rfl⟩ := okWide_slice Tryz.underlying22 hv
  obtain ⟨fuel, hf⟩ := h
  obtain ⟨l, h1, h2⟩ := (open_tree (enc := enc) (w := W) (Rows.uptoBulk d) hb).2 fuel (.slice a len cap) d p hf (Nat.le_refl _)
  exact ⟨_, l, h1, by omega⟩
theorem byte_of {a : Int} (h : (Lit.int .u8 a).wf = true) : ∃ c : Nat, a = c ∧ c < 256 := by
  simp [Lit.wf, IntKind.min, IntKind.max, IntKind.bits, IntKind.signed] at h
  exact ⟨a.toNat, by omega, by omega⟩
end Go.Proofs.YtfaohicadahcjaaGreatDoor

/- Plain: what may be at a depth may be at a greater one; so may some of it. No conditions. -/
namespace Go.Proofs.YtfaohicadahcjaaGreatDoor
open Go.RowKit Go.PlainAid Go.ChangeShapes Go.WideShapes Go.ChangeAt
set_option linter.unusedSimpArgs false
set_option linter.unusedVariables false
theorem wordB_mono {f g : Pt → Bool} (h : ∀ p, f p = true → g p = true) : ∀ (l : List Pt) (a : Option Pt), wordB f a l = true → wordB g a l = true
  | [], a, _ => by simp [wordB]
  | p :: r, a, hw => by
    simp only [wordB, Bool.and_eq_true] at hw ⊢
    exact ⟨⟨h p hw.1.1, hw.1.2⟩, wordB_mono h r (some p) hw.2⟩

def MonoW (W V : List Pt → Int → Bool) : Prop := ∀ w a b, a ≤ b → W w a = true → V w b = true
def MonoC (W V : List Nd → Int → Bool) : Prop := ∀ w a b, a ≤ b → W w a = true → V w b = true

theorem paramB_mono {W : List Pt → Int → Bool} (hW : MonoW W W) (p : Pt) (a b : Int) (hab : a ≤ b) (h : paramB W p a = true) : paramB W p b = true := by
  unfold paramB at h ⊢
  split
  · rename_i c; rw [if_pos c] at h; exact h
  · rename_i c; rw [if_neg c] at h
    split
    · rename_i c2; rw [if_pos c2] at h; exact h
    · rename_i c2; rw [if_neg c2] at h
      split
      · rename_i c3; rw [if_pos c3] at h; exact h
      · rename_i c3; rw [if_neg c3] at h
        rw [Bool.and_eq_true] at h ⊢
        exact ⟨h.1, hW _ _ _ (by omega) h.2⟩

theorem partB_mono {W : List Pt → Int → Bool} {C : List Nd → Int → Bool} (hW : MonoW W W) (hC : MonoC C C) (p : Pt) (a b : Int) (hab : a ≤ b) (h : partB W C p a = true) : partB W C p b = true := by
  unfold partB at h ⊢
  split
  · rename_i c; rw [if_pos c] at h; exact h
  · rename_i c; rw [if_neg c] at h
    split
    · rename_i c2; rw [if_pos c2, Bool.and_eq_true] at h
      rw [Bool.and_eq_true]
      exact ⟨h.1, paramB_mono hW p a b hab h.2⟩
    · rename_i c2; rw [if_neg c2] at h
      split
      · rename_i c3; rw [if_pos c3, Bool.and_eq_true] at h
        rw [Bool.and_eq_true]
        exact ⟨h.1, hC _ _ _ (by omega) h.2⟩
      · rename_i c3; rw [if_neg c3] at h
        exact h

theorem redB_mono {W : List Pt → Int → Bool} (hW : MonoW W W) (r : Rd) (a b : Int) (hab : a ≤ b) (h : redB W r a = true) : redB W r b = true := by
  unfold redB at h ⊢
  split at h
  · cases h
  · rename_i c
    have c2 : ¬ ((decide (r.fd < 0) || decide (9 < r.fd) || !W r.word b) = true) := by
      intro hc
      apply c
      simp only [Bool.or_eq_true, Bool.not_eq_true'] at hc ⊢
      rcases hc with hc | hc
      · exact Or.inl hc
      · right
        cases e : W r.word a with
        | false => rfl
        | true => rw [hW _ _ _ hab e] at hc; cases hc
    rw [if_neg c2]
    exact h

theorem all_mono {α : Type} {f g : α → Bool} (h : ∀ x, f x = true → g x = true) (l : List α) (hl : l.all f = true) : l.all g = true := by
  rw [List.all_eq_true] at hl ⊢
  exact fun x hx => h x (hl x hx)

theorem wordsB_mono {W : List Pt → Int → Bool} (hW : MonoW W W) (l : List (List Pt)) (a b : Int) (hab : a ≤ b) (h : wordsB W l a = true) : wordsB W l b = true := by
  unfold wordsB at h ⊢
  refine all_mono (fun x hx => ?_) l h
  rw [Bool.and_eq_true] at hx ⊢
  exact ⟨hx.1, hW _ _ _ hab hx.2⟩

theorem contentB_mono {W : List Pt → Int → Bool} {C : List Nd → Int → Bool} (hW : MonoW W W) (hC : MonoC C C) (x : Nd) (a b : Int) (hab : a ≤ b) (h : contentB W C x a = true) : contentB W C x b = true := by
  unfold contentB at h ⊢
  simp only [Bool.and_eq_true] at h ⊢
  obtain ⟨⟨⟨⟨h1, h2⟩, h3⟩, h4⟩, h5⟩ := h
  refine ⟨⟨⟨⟨all_mono (fun y hy => ?_) _ h1, all_mono (fun y hy => redB_mono hW y a b hab hy) _ h2⟩, all_mono (fun y hy => ?_) _ h3⟩, all_mono (fun y hy => ?_) _ h4⟩, wordsB_mono hW _ a b hab h5⟩
  · rw [Bool.and_eq_true] at hy ⊢; exact ⟨hy.1, hW _ _ _ hab hy.2⟩
  · rw [Bool.and_eq_true] at hy ⊢; exact ⟨hy.1, hC _ _ _ hab hy.2⟩
  · simp only [Bool.and_eq_true] at hy ⊢
    exact ⟨⟨hy.1.1, wordsB_mono hW _ a b hab hy.1.2⟩, hC _ _ _ hab hy.2⟩

theorem rgt_mono : ∀ n, MonoW (rgt n).1 (rgt n).1 ∧ MonoC (rgt n).2 (rgt n).2
  | 0 => ⟨fun _ _ _ _ _ => rfl, fun _ _ _ _ _ => rfl⟩
  | n + 1 => by
    obtain ⟨hW, hC⟩ := rgt_mono n
    refine ⟨fun w a b hab h => ?_, fun l a b hab h => ?_⟩
    · refine wordB_mono (fun p hp => ?_) w none h
      simp only [Bool.and_eq_true, decide_eq_true_eq] at hp ⊢
      exact ⟨by omega, partB_mono hW hC p a b hab hp.2⟩
    · refine all_mono (fun x hx => ?_) l h
      simp only [Bool.and_eq_true, decide_eq_true_eq] at hx ⊢
      exact ⟨⟨by omega, hx.1.2⟩, contentB_mono hW hC x _ _ (by omega) hx.2⟩

/-- Some of the commands. -/
theorem rgt_sub (n : Nat) (l m : List Nd) (hs : ∀ x, x ∈ m → x ∈ l) (a : Int) (h : (rgt n).2 l a = true) : (rgt n).2 m a = true := by
  cases n with
  | zero => rfl
  | succ n =>
    have h2 : l.all (fun x => decide (1 ≤ a) && shapeB x && contentB (rgt n).1 (rgt n).2 x (a - 1)) = true := h
    have g : m.all (fun x => decide (1 ≤ a) && shapeB x && contentB (rgt n).1 (rgt n).2 x (a - 1)) = true := by
      rw [List.all_eq_true] at h2 ⊢
      exact fun x hx => h2 x (hs x hx)
    exact g

theorem rightM_sub (n : Nat) (l m : List Nd) (hs : ∀ x, x ∈ m → x ∈ l) (deep : Int) (h : rightM n l deep = true) : rightM n m deep = true := rgt_sub n l m hs _ h
theorem rightM_mono (n : Nat) (l : List Nd) (a b : Int) (hab : a ≤ b) (h : rightM n l a = true) : rightM n l b = true := by
  unfold rightM at h ⊢
  refine (rgt_mono n).2 l _ _ ?_ h
  split <;> split <;> omega
end Go.Proofs.YtfaohicadahcjaaGreatDoor
