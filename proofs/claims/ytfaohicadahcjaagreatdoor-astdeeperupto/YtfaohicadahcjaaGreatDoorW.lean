/- Contracts: commands that may be; Right. Conditions: lengths below a bound. -/
import Derived.Test.YtfaohicadahcjaaGreatDoorV
import Derived.Test.YtfaohicadahcjaaGreatDoorJ
namespace Go.Proofs.YtfaohicadahcjaaGreatDoor
open Go.RowKit Go.PlainAid Go.ChangeShapes Go.WideShapes Go.ChangeAt
set_option linter.unusedSimpArgs false
set_option linter.unusedVariables false

theorem nd_shape (n : Nat) (x : Nd) (a1 a2 a3 a4 a5 : Option Addr) (c1 c2 c3 c4 c5 : Nat) (w : World) (hf : NdFits x) (h2 : WsAt n w (.slice a2 x.words.length c2) x.words) (h4 : LsAt n w (.slice a4 x.lists.length c4) x.lists) :
    Calls Tryz.prog 60 #[.agg #[.int .i64 x.kind, .string x.name, .slice a1 x.assigns.length c1, .slice a2 x.words.length c2, .slice a3 x.redirs.length c3, .slice a4 x.lists.length c4, .slice a5 x.arms.length c5]] w fun e w' => e = .returned (.bool (shapeB x)) ∧ Below w.heap.size w w' := by
  by_cases k1 : x.kind = 1
  · rw [show shapeB x = ((hasX x != 0) && onlyX x 14 && begB x.words) from by unfold shapeB; rw [if_pos k1], k1]
    exact shape60_1 x.name a1 a2 a3 a4 a5 _ _ _ _ _ c1 c2 c3 c4 c5 w n x.words h2
  by_cases k2 : x.kind = 2
  · rw [show shapeB x = (onlyX x 16 && decide (2 ≤ x.lists.length) && singleM (fun _ k => pipeM k) 0 x.lists) from by unfold shapeB; rw [if_neg k1, if_pos k2], k2]
    exact shape60_2 x.name a1 a2 a3 a4 a5 _ _ _ _ _ c1 c2 c3 c4 c5 w n x.lists h4
  by_cases k3 : x.kind = 3 ∨ x.kind = 4
  · rw [show shapeB x = (onlyX x 16 && decide (x.lists.length = 2) && singleM orM 0 x.lists) from by unfold shapeB; rw [if_neg k1, if_neg k2, if_pos k3]]
    rcases k3 with e | e
    · rw [e]; exact shape60_3 x.name a1 a2 a3 a4 a5 _ _ _ _ _ c1 c2 c3 c4 c5 w n x.lists h4
    · rw [e]; exact shape60_4 x.name a1 a2 a3 a4 a5 _ _ _ _ _ c1 c2 c3 c4 c5 w n x.lists h4
  by_cases k5 : x.kind = 5
  · rw [show shapeB x = (onlyX x 16 && decide (x.lists.length = 1) && singleM (fun _ k => notM k) 0 x.lists) from by unfold shapeB; rw [if_neg k1, if_neg k2, if_neg k3, if_pos k5], k5]
    exact shape60_5 x.name a1 a2 a3 a4 a5 _ _ _ _ _ c1 c2 c3 c4 c5 w n x.lists h4
  by_cases k6 : x.kind = 6
  · rw [show shapeB x = (onlyX x 24 && (decide (x.lists.length = 2) || decide (x.lists.length = 3))) from by unfold shapeB; rw [if_neg k1, if_neg k2, if_neg k3, if_neg k5, if_pos k6], k6]
    exact shape60_6 x.name a1 a2 a3 a4 a5 _ _ _ _ _ c1 c2 c3 c4 c5 w 
  by_cases k7 : x.kind = 7 ∨ x.kind = 8
  · rw [show shapeB x = (onlyX x 24 && decide (x.lists.length = 2)) from by unfold shapeB; rw [if_neg k1, if_neg k2, if_neg k3, if_neg k5, if_neg k6, if_pos k7]]
    rcases k7 with e | e
    · rw [e]; exact shape60_7 x.name a1 a2 a3 a4 a5 _ _ _ _ _ c1 c2 c3 c4 c5 w 
    · rw [e]; exact shape60_8 x.name a1 a2 a3 a4 a5 _ _ _ _ _ c1 c2 c3 c4 c5 w 
  by_cases k12 : x.kind = 12 ∨ x.kind = 13
  · rw [show shapeB x = (onlyX x 24 && decide (x.lists.length = 1)) from by unfold shapeB; rw [if_neg k1, if_neg k2, if_neg k3, if_neg k5, if_neg k6, if_neg k7, if_pos k12]]
    rcases k12 with e | e
    · rw [e]; exact shape60_12 x.name a1 a2 a3 a4 a5 _ _ _ _ _ c1 c2 c3 c4 c5 w 
    · rw [e]; exact shape60_13 x.name a1 a2 a3 a4 a5 _ _ _ _ _ c1 c2 c3 c4 c5 w 
  by_cases k9 : x.kind = 9
  · rw [show shapeB x = (onlyX x 29 && nameL (ls x.name) && decide (x.lists.length = 1)) from by unfold shapeB; rw [if_neg k1, if_neg k2, if_neg k3, if_neg k5, if_neg k6, if_neg k7, if_neg k12, if_pos k9], k9]
    exact shape60_9 x.name a1 a2 a3 a4 a5 _ _ _ _ _ c1 c2 c3 c4 c5 w hf.t
  by_cases k10 : x.kind = 10
  · rw [show shapeB x = (onlyX x 44 && decide (x.words.length = 1)) from by unfold shapeB; rw [if_neg k1, if_neg k2, if_neg k3, if_neg k5, if_neg k6, if_neg k7, if_neg k12, if_neg k9, if_pos k10], k10]
    exact shape60_10 x.name a1 a2 a3 a4 a5 _ _ _ _ _ c1 c2 c3 c4 c5 w 
  by_cases k11 : x.kind = 11
  · rw [show shapeB x = (onlyX x 17 && nameL (ls x.name) && !resL (ls x.name) && decide (x.lists.length = 1) && singleM (fun _ k => funM k) 0 x.lists) from by unfold shapeB; rw [if_neg k1, if_neg k2, if_neg k3, if_neg k5, if_neg k6, if_neg k7, if_neg k12, if_neg k9, if_neg k10, if_pos k11], k11]
    exact shape60_11 x.name a1 a2 a3 a4 a5 _ _ _ _ _ c1 c2 c3 c4 c5 w hf.t n x.lists h4
  rw [show shapeB x = false from by unfold shapeB; rw [if_neg k1, if_neg k2, if_neg k3, if_neg k5, if_neg k6, if_neg k7, if_neg k12, if_neg k9, if_neg k10, if_neg k11]]
  exact shape60_x x.kind x.name a1 a2 a3 a4 a5 _ _ _ _ _ c1 c2 c3 c4 c5 w (by rw [eq_int]; exact decide_eq_false k1) (by rw [eq_int]; exact decide_eq_false k2) (by rw [eq_int]; exact decide_eq_false (fun e => k3 (.inl e))) (by rw [eq_int]; exact decide_eq_false (fun e => k3 (.inr e))) (by rw [eq_int]; exact decide_eq_false k5) (by rw [eq_int]; exact decide_eq_false k6) (by rw [eq_int]; exact decide_eq_false (fun e => k7 (.inl e))) (by rw [eq_int]; exact decide_eq_false (fun e => k7 (.inr e))) (by rw [eq_int]; exact decide_eq_false k9) (by rw [eq_int]; exact decide_eq_false k10) (by rw [eq_int]; exact decide_eq_false k11) (by rw [eq_int]; exact decide_eq_false (fun e => k12 (.inl e))) (by rw [eq_int]; exact decide_eq_false (fun e => k12 (.inr e)))
def nodeF (n : Nat) (left : Int) (x : Nd) : Bool := decide (1 ≤ left) && shapeB x && contentB (rgt n).1 (rgt n).2 x (left - 1)
theorem rgt_c (n : Nat) (l : List Nd) (left : Int) : (rgt (n + 1)).2 l left = l.all (nodeF n left) := rfl
set_option maxHeartbeats 16000000 in
set_option maxRecDepth 100000 in
theorem commands40 (n : Nat) (G : Good n) (v : Value) (l : List Nd) (w : World) (left : Int) (h : NsAt (n + 1) w v l) (he : Env w) (h64 : L64 left) :
    Calls Tryz.prog 40 #[v, .int .i64 left] w fun e w' => e = .returned (.bool ((rgt (n + 1)).2 l left)) ∧ Below w.heap.size w w' := by
  have HL := Lib.hid h
  have hlen := ns_len _ _ _ _ h
  have HE := Lib.hid he
  have HG := Lib.hid G
  obtain ⟨a, c, rfl⟩ := ns_shape _ _ _ _ h
  rw [rgt_c]
  obtain ⟨f, Hf⟩ : ∃ f, Hid (nodeF n left = f) := ⟨_, Lib.hid rfl⟩
  rw [Hf.out]
  obtain ⟨q, Hq⟩ : ∃ q, Hid (l.length = q) := ⟨_, Lib.hid rfl⟩
  rw [Hq.out] at HL hlen ⊢
  have hr1 := h64.1
  have hr2 := h64.2
  clear h he G h64
  go_enter Tryz.func40, Tryz.ntmps40
  go_wp2
  go_loopw [9] (RelA f l w w) (fun i _ => q - (intOf i).toNat)
  case atStart => exact ⟨0, Nat.zero_le _, rfl, Below.refl _ _, Below.refl _ _, Lib.hid (by simp)⟩
  case round =>
    obtain ⟨k, hk, rfl, HB, _, HR⟩ := hrel
    rename World => wx
    rw [Hq.out] at hk
    have HB := Lib.hid HB
    by_cases hlt : k < q
    · have hlt' : k < l.length := by rw [Hq.out]; exact hlt
      obtain ⟨m, b, off, c', a1, a2, a3, a4, a5, c1, c2, c3, c4, c5, em, e, hc, hfit, ⟨i1, i2, i3, i4, i5⟩, p0, p1, p2, p3, p4, p5, p6⟩ := ns_at2 HL.out k hlt'
      obtain rfl : n = m := by omega
      rw [Hq.out] at e hc
      cases e
      have HC := Lib.hid (all_step f l k hlt')
      obtain ⟨x, Hx⟩ : ∃ x, Hid (l[k] = x) := ⟨_, Lib.hid rfl⟩
      rw [Hx.out] at HC hfit i1 i2 i3 i4 i5 p0 p1 p2 p3 p4 p5 p6
      replace p0 := cell_low p0 HB.out
      replace p1 := cell_low p1 HB.out
      replace p2 := cell_low p2 HB.out
      replace p3 := cell_low p3 HB.out
      replace p4 := cell_low p4 HB.out
      replace p5 := cell_low p5 HB.out
      replace p6 := cell_low p6 HB.out
      have Hfx : Hid (f x = (decide (1 ≤ left) && shapeB x && contentB (rgt n).1 (rgt n).2 x (left - 1))) := Lib.hid (by rw [← Hf.out]; rfl)
      have CS := Lib.hid fun (W : World) (hW : Below w.heap.size w W) => nd_shape n x a1 a2 a3 a4 a5 c1 c2 c3 c4 c5 W hfit (kept_ws n _ _ _ _ i2 hW) (kept_ls n _ _ _ _ i4 hW)
      have CC := Lib.hid fun (hl : 1 ≤ left) (W : World) (hW : Below w.heap.size w W) => content61 n HG.out x.kind x.name a1 a2 a3 a4 a5 c1 c2 c3 c4 c5 x.assigns x.words x.redirs x.lists x.arms W (left - 1) (kept_ass n _ _ _ _ i1 hW) (kept_ws n _ _ _ _ i2 hW) (kept_rds n _ _ _ _ i3 hW) (kept_ls n _ _ _ _ i4 hW) (kept_ars n _ _ _ _ i5 hW) (HE.out.on hW) ⟨by omega, by omega⟩
      rw [show Nd.mk x.kind x.name x.assigns x.words x.redirs x.lists x.arms = x from by cases x; rfl] at CC
      clear hfit i1 i2 i3 i4 i5
      generalize x.assigns.length = m1 at p2 CS CC
      generalize x.words.length = m2 at p3 CS CC
      generalize x.redirs.length = m3 at p4 CS CC
      generalize x.lists.length = m4 at p5 CS CC
      generalize x.arms.length = m5 at p6 CS CC
      have HX := Lib.hid (HB.out.alloc HB.out.size (.cells #[.int .i64 x.kind, .string x.name, .slice a1 m1 c1, .slice a2 m2 c2, .slice a3 m3 c3, .slice a4 m4 c4, .slice a5 m5 c5] 51))
      have HH := Lib.hid (heap_alloc_new wx (.cells #[.int .i64 x.kind, .string x.name, .slice a1 m1 c1, .slice a2 m2 c2, .slice a3 m3 c3, .slice a4 m4 c4, .slice a5 m5 c5] 51))
      obtain ⟨bl, Hbl⟩ : ∃ b, Hid (decide (1 ≤ left) = b) := ⟨_, Lib.hid rfl⟩
      have hl1 : decide (left < 1) = !bl := by rw [← Hbl.out, ← decide_not]; exact decide_eq_decide.2 (by omega)
      rw [Hbl.out] at Hfx
      generalize shapeB x = ys at CS Hfx
      cases bl
      · simp only [Bool.not_false] at hl1
        go_wp2
        go_ret
        exact ⟨by rw [HR.out, HC.out, Hfx.out]; rfl, HX.out⟩
      have CC := Lib.hid (CC.out (of_decide_eq_true Hbl.out))
      have hle : 1 ≤ left := of_decide_eq_true Hbl.out
      have hwr : wrap64 (left - 1) = left - 1 := by unfold wrap64; omega
      generalize contentB (rgt n).1 (rgt n).2 x (left - 1) = yc at CC Hfx
      simp only [Bool.not_true] at hl1
      go_wp2_with fail
      generalize wx.alloc (.cells #[.int .i64 x.kind, .string x.name, .slice a1 m1 c1, .slice a2 m2 c2, .slice a3 m3 c3, .slice a4 m4 c4, .slice a5 m5 c5] 51) = w2 at HH HX ⊢
      refine (CS.out _ HX.out).mono ?_
      rintro e w3 ⟨rfl, hb⟩
      have HB3 := Lib.hid (HX.out.trans (hb.mono HX.out.size))
      clear p0 p1 p2 p3 p4 p5 p6
      have p0 : w3.cell? ⟨wx.heap.size, 0, none⟩ = some (.int .i64 x.kind) := cell_low (cells_at HH.out (i := 0) rfl) hb
      have p1 : w3.cell? ⟨wx.heap.size, 1, none⟩ = some (.string x.name) := cell_low (cells_at HH.out (i := 1) rfl) hb
      have p2 : w3.cell? ⟨wx.heap.size, 2, none⟩ = some (.slice a1 m1 c1) := cell_low (cells_at HH.out (i := 2) rfl) hb
      have p3 : w3.cell? ⟨wx.heap.size, 3, none⟩ = some (.slice a2 m2 c2) := cell_low (cells_at HH.out (i := 3) rfl) hb
      have p4 : w3.cell? ⟨wx.heap.size, 4, none⟩ = some (.slice a3 m3 c3) := cell_low (cells_at HH.out (i := 4) rfl) hb
      have p5 : w3.cell? ⟨wx.heap.size, 5, none⟩ = some (.slice a4 m4 c4) := cell_low (cells_at HH.out (i := 5) rfl) hb
      have p6 : w3.cell? ⟨wx.heap.size, 6, none⟩ = some (.slice a5 m5 c5) := cell_low (cells_at HH.out (i := 6) rfl) hb
      clear hb
      cases ys
      · go_wp2
        go_ret
        exact ⟨by rw [HR.out, HC.out, Hfx.out]; rfl, HB3.out⟩
      go_wp2_with fail
      refine (CC.out _ HB3.out).mono ?_
      rintro e w4 ⟨rfl, hb⟩
      have HB4 := Lib.hid (HB3.out.trans (hb.mono HB3.out.size))
      clear hb
      cases yc
      · go_wp2
        go_ret
        exact ⟨by rw [HR.out, HC.out, Hfx.out]; rfl, HB4.out⟩
      · go_wp2
        go_round
        case rel => exact ⟨k + 1, hlt', by go_num, HB4.out, HB4.out, Lib.hid (by rw [HR.out, HC.out, Hfx.out]; rfl)⟩
        case measure => simp [intOf]; omega
    · obtain rfl : k = q := by omega
      have HE2 : Hid (l.all f = true) := Lib.hid (by rw [HR.out, List.drop_of_length_le (by rw [Hq.out]; exact Nat.le_refl _)]; rfl)
      go_wp2
      go_ret
      rw [HE2.out]; exact ⟨rfl, HB.out⟩
set_option maxHeartbeats 2000000 in
set_option maxRecDepth 100000 in
theorem empty86 (a : Option Addr) (c : Nat) (w : World) (left : Int) : Calls Tryz.prog 86 #[.slice a 0 c, .int .i64 left] w fun e w' => e = .returned (.bool true) ∧ Below w.heap.size w w' := by
  go_enter Tryz.func86, Tryz.ntmps86
  go_wp2
  go_loop [9] (fun i => i = .int .i64 0) (fun i => 0)
  case atStart => rfl
  case round =>
    subst hrel
    go_wp2
    go_ret
    exact ⟨rfl, Below.refl _ _⟩
set_option maxHeartbeats 2000000 in
set_option maxRecDepth 100000 in
theorem empty40 (a : Option Addr) (c : Nat) (w : World) (left : Int) : Calls Tryz.prog 40 #[.slice a 0 c, .int .i64 left] w fun e w' => e = .returned (.bool true) ∧ Below w.heap.size w w' := by
  go_enter Tryz.func40, Tryz.ntmps40
  go_wp2
  go_loop [9] (fun i => i = .int .i64 0) (fun i => 0)
  case atStart => rfl
  case round =>
    subst hrel
    go_wp2
    go_ret
    exact ⟨rfl, Below.refl _ _⟩
theorem good : ∀ n, Good n
  | 0 => ⟨fun v l w left h _ _ => by obtain ⟨rfl, a, c, rfl⟩ := h; exact empty86 a c w left, fun v l w left h _ _ => by obtain ⟨rfl, a, c, rfl⟩ := h; exact empty40 a c w left⟩
  | n + 1 => ⟨fun v l w left h he h64 => word86 n (good n) v l w left h he h64, fun v l w left h he h64 => commands40 n (good n) v l w left h he h64⟩
/-- Right: no deeper than so many levels, at most 200. -/
def rightM (n : Nat) (l : List Nd) (deep : Int) : Bool := (rgt n).2 l (if deep ≤ 200 then deep else 200)
set_option maxHeartbeats 2000000 in
set_option maxRecDepth 100000 in
theorem right11 (n : Nat) (v : Value) (l : List Nd) (w : World) (deep : Int) (h : NsAt n w v l) (he : Env w) (h64 : L64 deep) :
    Calls Tryz.prog 11 #[v, .int .i64 deep] w fun e w' => e = .returned (.bool (rightM n l deep)) ∧ Below w.heap.size w w' := by
  have C := Lib.hid fun d hd => (good n).c v l w d h he hd
  have HR : Hid (rightM n l deep = (rgt n).2 l (if deep ≤ 200 then deep else 200)) := Lib.hid rfl
  obtain ⟨a, c, rfl⟩ := ns_shape _ _ _ _ h
  rw [HR.out]
  have h1 := h64.1
  have h2 := h64.2
  clear h he
  by_cases hd : deep ≤ 200
  · rw [if_pos hd]
    have C1 := Lib.hid (C.out deep h64)
    have hdd : decide (deep ≤ 200) = true := decide_eq_true hd
    have hm : min deep 200 = deep := by omega
    go_enter Tryz.func11, Tryz.ntmps11
    go_wp2_with fail
    refine C1.out.mono ?_
    rintro e w2 ⟨rfl, hb⟩
    have HB := Lib.hid hb
    clear hb
    go_wp2
    go_ret
    exact ⟨rfl, HB.out⟩
  · rw [if_neg hd]
    have C1 := Lib.hid (C.out 200 ⟨by omega, by omega⟩)
    have hdd : decide (deep ≤ 200) = false := decide_eq_false hd
    have hm : min deep 200 = 200 := by omega
    go_enter Tryz.func11, Tryz.ntmps11
    go_wp2_with fail
    refine C1.out.mono ?_
    rintro e w2 ⟨rfl, hb⟩
    have HB := Lib.hid hb
    clear hb
    go_wp2
    go_ret
    exact ⟨rfl, HB.out⟩
end Go.Proofs.YtfaohicadahcjaaGreatDoor
