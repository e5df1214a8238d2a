/- Contracts: commands that may be; Right. Conditions: lengths below a bound. -/
import Derived.Test.YtfaohicadahcjaaGreatDoorV
import Derived.Test.YtfaohicadahcjaaGreatDoorJ
import Derived.Lib.IndexBytes
import Derived.Lib.CountLaws
import Derived.Lib.Replace
namespace Go.Proofs.YtfaohicadahcjaaGreatDoor
open Go.RowKit Go.PlainAid Go.ChangeShapes Go.WideShapes Go.ChangeAt
set_option linter.unusedSimpArgs false
set_option linter.unusedVariables false

theorem nd_shape (n : Nat) (x : Nd) (a1 a2 a3 a4 a5 : Option Addr) (c1 c2 c3 c4 c5 : Nat) (w : World) (hf : NdFits x) (h2 : WsAt n w (.slice a2 x.words.length c2) x.words) (h4 : LsAt n w (.slice a4 x.lists.length c4) x.lists) :
    Calls Tryz.prog 60 #[.agg #[.int .i64 x.kind, .string x.name, .slice a1 x.assigns.length c1, .slice a2 x.words.length c2, .slice a3 x.redirs.length c3, .slice a4 x.lists.length c4, .slice a5 x.arms.length c5]] w fun e w' => e = .returned (.bool (shapeB x)) ∧ Below w.heap.size w w' := by
  by_cases k1 : x.kind = 1
  · rw [show shapeB x = ((hasX x != 0) && onlyX x 14 && begB x.words) from by unfold shapeB; rw [if_pos k1], k1]
    exact shape60_1 x.name a1 a2 a3 a4 a5 _ _ _ _ _ c1 c2 c3 c4 c5 w n x.words h2
  by_cases k2 : x.kind = 2
  · rw [show shapeB x = (onlyX x 16 && decide (2 ≤ x.lists.length) && singleM (fun _ k => pipeM k) 0 x.lists) from by unfold shapeB; rw [if_neg k1, if_pos k2], k2]
    exact shape60_2 x.name a1 a2 a3 a4 a5 _ _ _ _ _ c1 c2 c3 c4 c5 w n x.lists h4
  by_cases k3 : x.kind = 3 ∨ x.kind = 4
  · rw [show shapeB x = (onlyX x 16 && decide (x.lists.length = 2) && singleM orM 0 x.lists) from by unfold shapeB; rw [if_neg k1, if_neg k2, if_pos k3]]
    rcases k3 with e | e
    · rw [e]; exact shape60_3 x.name a1 a2 a3 a4 a5 _ _ _ _ _ c1 c2 c3 c4 c5 w n x.lists h4
    · rw [e]; exact shape60_4 x.name a1 a2 a3 a4 a5 _ _ _ _ _ c1 c2 c3 c4 c5 w n x.lists h4
  by_cases k5 : x.kind = 5
  · rw [show shapeB x = (onlyX x 16 && decide (x.lists.length = 1) && singleM (fun _ k => notM k) 0 x.lists) from by unfold shapeB; rw [if_neg k1, if_neg k2, if_neg k3, if_pos k5], k5]
    exact shape60_5 x.name a1 a2 a3 a4 a5 _ _ _ _ _ c1 c2 c3 c4 c5 w n x.lists h4
  by_cases k6 : x.kind = 6
  · rw [show shapeB x = (onlyX x 24 && (decide (x.lists.length = 2) || decide (x.lists.length = 3))) from by unfold shapeB; rw [if_neg k1, if_neg k2, if_neg k3, if_neg k5, if_pos k6], k6]
    exact shape60_6 x.name a1 a2 a3 a4 a5 _ _ _ _ _ c1 c2 c3 c4 c5 w 
  by_cases k7 : x.kind = 7 ∨ x.kind = 8
  · rw [show shapeB x = (onlyX x 24 && decide (x.lists.length = 2)) from by unfold shapeB; rw [if_neg k1, if_neg k2, if_neg k3, if_neg k5, if_neg k6, if_pos k7]]
    rcases k7 with e | e
    · rw [e]; exact shape60_7 x.name a1 a2 a3 a4 a5 _ _ _ _ _ c1 c2 c3 c4 c5 w 
    · rw [e]; exact shape60_8 x.name a1 a2 a3 a4 a5 _ _ _ _ _ c1 c2 c3 c4 c5 w 
  by_cases k12 : x.kind = 12 ∨ x.kind = 13
  · rw [show shapeB x = (onlyX x 24 && decide (x.lists.length = 1)) from by unfold shapeB; rw [if_neg k1, if_neg k2, if_neg k3, if_neg k5, if_neg k6, if_neg k7, if_pos k12]]
    rcases k12 with e | e
    · rw [e]; exact shape60_12 x.name a1 a2 a3 a4 a5 _ _ _ _ _ c1 c2 c3 c4 c5 w 
    · rw [e]; exact shape60_13 x.name a1 a2 a3 a4 a5 _ _ _ _ _ c1 c2 c3 c4 c5 w 
  by_cases k9 : x.kind = 9
  · rw [show shapeB x = (onlyX x 29 && nameL (ls x.name) && decide (x.lists.length = 1)) from by unfold shapeB; rw [if_neg k1, if_neg k2, if_neg k3, if_neg k5, if_neg k6, if_neg k7, if_neg k12, if_pos k9], k9]
    exact shape60_9 x.name a1 a2 a3 a4 a5 _ _ _ _ _ c1 c2 c3 c4 c5 w hf.t
  by_cases k10 : x.kind = 10
  · rw [show shapeB x = (onlyX x 44 && decide (x.words.length = 1)) from by unfold shapeB; rw [if_neg k1, if_neg k2, if_neg k3, if_neg k5, if_neg k6, if_neg k7, if_neg k12, if_neg k9, if_pos k10], k10]
    exact shape60_10 x.name a1 a2 a3 a4 a5 _ _ _ _ _ c1 c2 c3 c4 c5 w 
  by_cases k11 : x.kind = 11
  · rw [show shapeB x = (onlyX x 17 && nameL (ls x.name) && !resL (ls x.name) && decide (x.lists.length = 1) && singleM (fun _ k => funM k) 0 x.lists) from by unfold shapeB; rw [if_neg k1, if_neg k2, if_neg k3, if_neg k5, if_neg k6, if_neg k7, if_neg k12, if_neg k9, if_neg k10, if_pos k11], k11]
    exact shape60_11 x.name a1 a2 a3 a4 a5 _ _ _ _ _ c1 c2 c3 c4 c5 w hf.t n x.lists h4
  rw [show shapeB x = false from by unfold shapeB; rw [if_neg k1, if_neg k2, if_neg k3, if_neg k5, if_neg k6, if_neg k7, if_neg k12, if_neg k9, if_neg k10, if_neg k11]]
  exact shape60_x x.kind x.name a1 a2 a3 a4 a5 _ _ _ _ _ c1 c2 c3 c4 c5 w (by rw [eq_int]; exact decide_eq_false k1) (by rw [eq_int]; exact decide_eq_false k2) (by rw [eq_int]; exact decide_eq_false (fun e => k3 (.inl e))) (by rw [eq_int]; exact decide_eq_false (fun e => k3 (.inr e))) (by rw [eq_int]; exact decide_eq_false k5) (by rw [eq_int]; exact decide_eq_false k6) (by rw [eq_int]; exact decide_eq_false (fun e => k7 (.inl e))) (by rw [eq_int]; exact decide_eq_false (fun e => k7 (.inr e))) (by rw [eq_int]; exact decide_eq_false k9) (by rw [eq_int]; exact decide_eq_false k10) (by rw [eq_int]; exact decide_eq_false k11) (by rw [eq_int]; exact decide_eq_false (fun e => k12 (.inl e))) (by rw [eq_int]; exact decide_eq_false (fun e => k12 (.inr e)))
def nodeF (n : Nat) (left : Int) (x : Nd) : Bool := decide (1 ≤ left) && shapeB x && contentB (rgt n).1 (rgt n).2 x (left - 1)
theorem rgt_c (n : Nat) (l : List Nd) (left : Int) : (rgt (n + 1)).2 l left = l.all (nodeF n left) := rfl
set_option maxHeartbeats 16000000 in
set_option maxRecDepth 100000 in
theorem commands40 (n : Nat) (G : Good n) (v : Value) (l : List Nd) (w : World) (left : Int) (h : NsAt (n + 1) w v l) (he : Env w) (h64 : L64 left) :
    Calls Tryz.prog 40 #[v, .int .i64 left] w fun e w' => e = .returned (.bool ((rgt (n + 1)).2 l left)) ∧ Below w.heap.size w w' := by
  have HL := Lib.hid h
  have hlen := ns_len _ _ _ _ h
  have HE := Lib.hid he
  have HG := Lib.hid G
  obtain ⟨a, c, rfl⟩ := ns_shape _ _ _ _ h
  rw [rgt_c]
  obtain ⟨f, Hf⟩ : ∃ f, Hid (nodeF n left = f) := ⟨_, Lib.hid rfl⟩
  rw [Hf.out]
  obtain ⟨q, Hq⟩ : ∃ q, Hid (l.length = q) := ⟨_, Lib.hid rfl⟩
  rw [Hq.out] at HL hlen ⊢
  have hr1 := h64.1
  have hr2 := h64.2
  clear h he G h64
  go_enter Tryz.func40, Tryz.ntmps40
  go_wp2
  go_loopw [9] (RelA f l w w) (fun i _ => q - (intOf i).toNat)
  case atStart => exact ⟨0, Nat.zero_le _, rfl, Below.refl _ _, Below.refl _ _, Lib.hid (by simp)⟩
  case round =>
    obtain ⟨k, hk, rfl, HB, _, HR⟩ := hrel
    rename World => wx
    rw [Hq.out] at hk
    have HB := Lib.hid HB
    by_cases hlt : k < q
    · have hlt' : k < l.length := by rw [Hq.out]; exact hlt
      obtain ⟨m, b, off, c', a1, a2, a3, a4, a5, c1, c2, c3, c4, c5, em, e, hc, hfit, ⟨i1, i2, i3, i4, i5⟩, p0, p1, p2, p3, p4, p5, p6⟩ := ns_at2 HL.out k hlt'
      obtain rfl : n = m := by omega
      rw [Hq.out] at e hc
      cases e
      have HC := Lib.hid (all_step f l k hlt')
      obtain ⟨x, Hx⟩ : ∃ x, Hid (l[k] = x) := ⟨_, Lib.hid rfl⟩
      rw [Hx.out] at HC hfit i1 i2 i3 i4 i5 p0 p1 p2 p3 p4 p5 p6
      replace p0 := cell_low p0 HB.out
      replace p1 := cell_low p1 HB.out
      replace p2 := cell_low p2 HB.out
      replace p3 := cell_low p3 HB.out
      replace p4 := cell_low p4 HB.out
      replace p5 := cell_low p5 HB.out
      replace p6 := cell_low p6 HB.out
      have Hfx : Hid (f x = (decide (1 ≤ left) && shapeB x && contentB (rgt n).1 (rgt n).2 x (left - 1))) := Lib.hid (by rw [← Hf.out]; rfl)
      have CS := Lib.hid fun (W : World) (hW : Below w.heap.size w W) => nd_shape n x a1 a2 a3 a4 a5 c1 c2 c3 c4 c5 W hfit (kept_ws n _ _ _ _ i2 hW) (kept_ls n _ _ _ _ i4 hW)
      have CC := Lib.hid fun (hl : 1 ≤ left) (W : World) (hW : Below w.heap.size w W) => content61 n HG.out x.kind x.name a1 a2 a3 a4 a5 c1 c2 c3 c4 c5 x.assigns x.words x.redirs x.lists x.arms W (left - 1) (kept_ass n _ _ _ _ i1 hW) (kept_ws n _ _ _ _ i2 hW) (kept_rds n _ _ _ _ i3 hW) (kept_ls n _ _ _ _ i4 hW) (kept_ars n _ _ _ _ i5 hW) (HE.out.on hW) ⟨by omega, by omega⟩
      rw [show Nd.mk x.kind x.name x.assigns x.words x.redirs x.lists x.arms = x from by cases x; rfl] at CC
      clear hfit i1 i2 i3 i4 i5
      generalize x.assigns.length = m1 at p2 CS CC
      generalize x.words.length = m2 at p3 CS CC
      generalize x.redirs.length = m3 at p4 CS CC
      generalize x.lists.length = m4 at p5 CS CC
      generalize x.arms.length = m5 at p6 CS CC
      have HX := Lib.hid (HB.out.alloc HB.out.size (.cells #[.int .i64 x.kind, .string x.name, .slice a1 m1 c1, .slice a2 m2 c2, .slice a3 m3 c3, .slice a4 m4 c4, .slice a5 m5 c5] 51))
      have HH := Lib.hid (heap_alloc_new wx (.cells #[.int .i64 x.kind, .string x.name, .slice a1 m1 c1, .slice a2 m2 c2, .slice a3 m3 c3, .slice a4 m4 c4, .slice a5 m5 c5] 51))
      obtain ⟨bl, Hbl⟩ : ∃ b, Hid (decide (1 ≤ left) = b) := ⟨_, Lib.hid rfl⟩
      have hl1 : decide (left < 1) = !bl := by rw [← Hbl.out, ← decide_not]; exact decide_eq_decide.2 (by omega)
      rw [Hbl.out] at Hfx
      generalize shapeB x = ys at CS Hfx
      cases bl
      · simp only [Bool.not_false] at hl1
        go_wp2
        go_ret
        exact ⟨by rw [HR.out, HC.out, Hfx.out]; rfl, HX.out⟩
      have CC := Lib.hid (CC.out (of_decide_eq_true Hbl.out))
      have hle : 1 ≤ left := of_decide_eq_true Hbl.out
      have hwr : wrap64 (left - 1) = left - 1 := by unfold wrap64; omega
      generalize contentB (rgt n).1 (rgt n).2 x (left - 1) = yc at CC Hfx
      simp only [Bool.not_true] at hl1
      go_wp2_with fail
      generalize wx.alloc (.cells #[.int .i64 x.kind, .string x.name, .slice a1 m1 c1, .slice a2 m2 c2, .slice a3 m3 c3, .slice a4 m4 c4, .slice a5 m5 c5] 51) = w2 at HH HX ⊢
      refine (CS.out _ HX.out).mono ?_
      rintro e w3 ⟨rfl, hb⟩
      have HB3 := Lib.hid (HX.out.trans (hb.mono HX.out.size))
      clear p0 p1 p2 p3 p4 p5 p6
      have p0 : w3.cell? ⟨wx.heap.size, 0, none⟩ = some (.int .i64 x.kind) := cell_low (cells_at HH.out (i := 0) rfl) hb
      have p1 : w3.cell? ⟨wx.heap.size, 1, none⟩ = some (.string x.name) := cell_low (cells_at HH.out (i := 1) rfl) hb
      have p2 : w3.cell? ⟨wx.heap.size, 2, none⟩ = some (.slice a1 m1 c1) := cell_low (cells_at HH.out (i := 2) rfl) hb
      have p3 : w3.cell? ⟨wx.heap.size, 3, none⟩ = some (.slice a2 m2 c2) := cell_low (cells_at HH.out (i := 3) rfl) hb
      have p4 : w3.cell? ⟨wx.heap.size, 4, none⟩ = some (.slice a3 m3 c3) := cell_low (cells_at HH.out (i := 4) rfl) hb
      have p5 : w3.cell? ⟨wx.heap.size, 5, none⟩ = some (.slice a4 m4 c4) := cell_low (cells_at HH.out (i := 5) rfl) hb
      have p6 : w3.cell? ⟨wx.heap.size, 6, none⟩ = some (.slice a5 m5 c5) := cell_low (cells_at HH.out (i := 6) rfl) hb
      clear hb
      cases ys
      · go_wp2
        go_ret
        exact ⟨by rw [HR.out, HC.out, Hfx.out]; rfl, HB3.out⟩
      go_wp2_with fail
      refine (CC.out _ HB3.out).mono ?_
      rintro e w4 ⟨rfl, hb⟩
      have HB4 := Lib.hid (HB3.out.trans (hb.mono HB3.out.size))
      clear hb
      cases yc
      · go_wp2
        go_ret
        exact ⟨by rw [HR.out, HC.out, Hfx.out]; rfl, HB4.out⟩
      · go_wp2
        go_round
        case rel => exact ⟨k + 1, hlt', by go_num, HB4.out, HB4.out, Lib.hid (by rw [HR.out, HC.out, Hfx.out]; rfl)⟩
        case measure => simp [intOf]; omega
    · obtain rfl : k = q := by omega
      have HE2 : Hid (l.all f = true) := Lib.hid (by rw [HR.out, List.drop_of_length_le (by rw [Hq.out]; exact Nat.le_refl _)]; rfl)
      go_wp2
      go_ret
      rw [HE2.out]; exact ⟨rfl, HB.out⟩
set_option maxHeartbeats 2000000 in
set_option maxRecDepth 100000 in
theorem empty86 (a : Option Addr) (c : Nat) (w : World) (left : Int) : Calls Tryz.prog 86 #[.slice a 0 c, .int .i64 left] w fun e w' => e = .returned (.bool true) ∧ Below w.heap.size w w' := by
  go_enter Tryz.func86, Tryz.ntmps86
  go_wp2
  go_loop [9] (fun i => i = .int .i64 0) (fun i => 0)
  case atStart => rfl
  case round =>
    subst hrel
    go_wp2
    go_ret
    exact ⟨rfl, Below.refl _ _⟩
set_option maxHeartbeats 2000000 in
set_option maxRecDepth 100000 in
theorem empty40 (a : Option Addr) (c : Nat) (w : World) (left : Int) : Calls Tryz.prog 40 #[.slice a 0 c, .int .i64 left] w fun e w' => e = .returned (.bool true) ∧ Below w.heap.size w w' := by
  go_enter Tryz.func40, Tryz.ntmps40
  go_wp2
  go_loop [9] (fun i => i = .int .i64 0) (fun i => 0)
  case atStart => rfl
  case round =>
    subst hrel
    go_wp2
    go_ret
    exact ⟨rfl, Below.refl _ _⟩
theorem good : ∀ n, Good n
  | 0 => ⟨fun v l w left h _ _ => by obtain ⟨rfl, a, c, rfl⟩ := h; exact empty86 a c w left, fun v l w left h _ _ => by obtain ⟨rfl, a, c, rfl⟩ := h; exact empty40 a c w left⟩
  | n + 1 => ⟨fun v l w left h he h64 => word86 n (good n) v l w left h he h64, fun v l w left h he h64 => commands40 n (good n) v l w left h he h64⟩
/-- Right: no deeper than so many levels, at most 200. -/
def rightM (n : Nat) (l : List Nd) (deep : Int) : Bool := (rgt n).2 l (if deep ≤ 200 then deep else 200)
set_option maxHeartbeats 2000000 in
set_option maxRecDepth 100000 in
theorem right11 (n : Nat) (v : Value) (l : List Nd) (w : World) (deep : Int) (h : NsAt n w v l) (he : Env w) (h64 : L64 deep) :
    Calls Tryz.prog 11 #[v, .int .i64 deep] w fun e w' => e = .returned (.bool (rightM n l deep)) ∧ Below w.heap.size w w' := by
  have C := Lib.hid fun d hd => (good n).c v l w d h he hd
  have HR : Hid (rightM n l deep = (rgt n).2 l (if deep ≤ 200 then deep else 200)) := Lib.hid rfl
  obtain ⟨a, c, rfl⟩ := ns_shape _ _ _ _ h
  rw [HR.out]
  have h1 := h64.1
  have h2 := h64.2
  clear h he
  by_cases hd : deep ≤ 200
  · rw [if_pos hd]
    have C1 := Lib.hid (C.out deep h64)
    have hdd : decide (deep ≤ 200) = true := decide_eq_true hd
    have hm : min deep 200 = deep := by omega
    go_enter Tryz.func11, Tryz.ntmps11
    go_wp2_with fail
    refine C1.out.mono ?_
    rintro e w2 ⟨rfl, hb⟩
    have HB := Lib.hid hb
    clear hb
    go_wp2
    go_ret
    exact ⟨rfl, HB.out⟩
  · rw [if_neg hd]
    have C1 := Lib.hid (C.out 200 ⟨by omega, by omega⟩)
    have hdd : decide (deep ≤ 200) = false := decide_eq_false hd
    have hm : min deep 200 = 200 := by omega
    go_enter Tryz.func11, Tryz.ntmps11
    go_wp2_with fail
    refine C1.out.mono ?_
    rintro e w2 ⟨rfl, hb⟩
    have HB := Lib.hid hb
    clear hb
    go_wp2
    go_ret
    exact ⟨rfl, HB.out⟩
end Go.Proofs.YtfaohicadahcjaaGreatDoor

/- Contracts: bytes, written. Conditions: lengths below a bound. -/
namespace Go.Proofs.YtfaohicadahcjaaGreatDoor
open Go.RowKit Go.PlainAid Go.ChangeShapes Go.WideShapes Go.ChangeAt
set_option linter.unusedSimpArgs false
set_option linter.unusedVariables false
def sq : List UInt8 → List UInt8
  | [] => []
  | b :: r => if b = 39 then 39 :: 92 :: 39 :: 39 :: sq r else b :: sq r
def singleL (l : List UInt8) : List UInt8 := 39 :: (sq l ++ [39])
theorem sq_app : ∀ a b : List UInt8, sq (a ++ b) = sq a ++ sq b
  | [], b => rfl
  | x :: a, b => by
    rw [List.cons_append, sq, sq, sq_app a b]
    split <;> simp
theorem sq_len : ∀ l : List UInt8, (sq l).length ≤ 4 * l.length
  | [] => by simp [sq]
  | x :: a => by
    have := sq_len a
    rw [sq]
    split <;> simp <;> omega
theorem sq_id : ∀ l : List UInt8, (∀ b ∈ l, b ≠ 39) → sq l = l
  | [], _ => rfl
  | b :: r, h => by rw [sq, if_neg (h b (by simp)), sq_id r (fun x hx => h x (by simp [hx]))]
theorem ix_none {l : List UInt8} (h : Lib.indexByte l 39 = -1) : ∀ b ∈ l, b ≠ 39 := by
  rintro b hb rfl
  obtain ⟨k, hk, e⟩ := List.getElem_of_mem hb
  exact Lib.indexByte_none h k (by rw [List.getElem?_eq_getElem hk, e])
theorem ix_some {l : List UInt8} {i : Nat} (h : Lib.indexByte l 39 = i) : i < l.length ∧ l = l.take i ++ 39 :: l.drop (i + 1) ∧ ∀ b ∈ l.take i, b ≠ 39 := by
  obtain ⟨h1, h2⟩ := Lib.indexByte_some h
  obtain ⟨hi, e⟩ := List.getElem?_eq_some_iff.1 h1
  refine ⟨hi, ?_, ?_⟩
  · conv => lhs; rw [← List.take_append_drop i l]
    rw [List.drop_eq_getElem_cons hi, e]
  · rintro b hb rfl
    obtain ⟨k, hk, e⟩ := List.getElem_of_mem hb
    rw [List.length_take] at hk
    rw [List.getElem_take] at e
    exact h2 k (by omega) (by rw [List.getElem?_eq_getElem (by omega), e])
theorem repl_sq : ∀ (n : Nat) (l : List UInt8), l.length ≤ n → Lib.replaceK [39] [39, 92, 39, 39] (Lib.count l [39]) l = sq l := by
  intro n
  induction n with
  | zero =>
    intro l h
    obtain rfl : l = [] := List.eq_nil_of_length_eq_zero (by omega)
    rfl
  | succ n ih =>
    intro l h
    have hge := Lib.indexByte_ge l 39
    by_cases hm : Lib.indexByte l 39 = -1
    · rw [Lib.count_miss (by rw [Lib.index_one]; exact hm), Lib.replaceK, sq_id l (ix_none hm)]
    · obtain ⟨i, hi⟩ : ∃ i : Nat, Lib.indexByte l 39 = i := ⟨(Lib.indexByte l 39).toNat, by omega⟩
      obtain ⟨h1, h2, h3⟩ := ix_some hi
      have hx : Lib.index l [39] = i := by rw [Lib.index_one]; exact hi
      rw [Lib.count_hit (by simp) hx, Nat.add_comm, Lib.replaceK_hit _ _ _ _ _ hx]
      rw [List.length_singleton, ih (l.drop (i + 1)) (by rw [List.length_drop]; omega)]
      conv => rhs; rw [h2, sq_app, sq_id _ h3, sq, if_pos rfl]
      simp
theorem all_sq (l : List UInt8) : Lib.replaceAll l [39] [39, 92, 39, 39] = sq l := by
  unfold Lib.replaceAll Lib.replace
  rw [if_neg (by decide)]
  unfold Lib.replaceNum
  rw [if_pos (by left; decide), repl_sq _ l (Nat.le_refl _)]
/-- Bytes as they are written. -/
def litW (t : ByteArray) (q : Bool) : List UInt8 := if q then singleL (ls t) else ls t
theorem litW_len (t : ByteArray) (q : Bool) : (litW t q).length ≤ 4 * t.size + 2 := by
  have := sq_len (ls t)
  rw [ls_len] at this
  unfold litW singleL
  cases q
  · simp [ls_len]; omega
  · simp; omega
set_option maxHeartbeats 4000000 in
set_option maxRecDepth 100000 in
theorem bytes74 (B D : Nat) (rest : List Value) (v : Value) (l : List UInt8) (s : ByteArray) (q : Bool) (w : World) (h : IsBld B D 72 rest v l w) (he : Env w) (hs : s.size ≤ 1048576) (hlen : l.length ≤ 140737400000000) (hBw : B ≤ w.heap.size) :
    Calls Tryz.prog 74 #[.pointer (some ⟨D, 0, none⟩), .string s, .bool q] w (Wrote B D rest l (litW s q) w) := by
  have hbl := litW_len s q
  cases q
  · have C := Lib.hid (text_new B D rest v l [s] w h (by simp [flatS, ls_len]; omega) (by simp) hBw)
    rw [show flatS [s] = litW s false from by simp [flatS, litW]] at C
    clear h he
    go_enter Tryz.func74, Tryz.ntmps74
    go_wp2_with fail
    refine C.out.mono ?_
    intro e w2 hw
    have HW := Lib.hid hw
    obtain ⟨rfl, _⟩ := hw
    go_wp2
    go_end0
    exact HW.out
  · obtain ⟨m, hm⟩ := he
    have hcl := Lib.countB_le ⟨#[39]⟩ (by decide) s.size s (Nat.le_refl _)
    have h1 := Tryz.strings_ReplaceAll s ⟨#[39]⟩ ⟨#[39, 92, 39, 39]⟩ m w (by omega) hm (by decide) (by
      show s.size + Lib.countB s ⟨#[39]⟩ * 4 ≤ _
      omega)
    have e1 : Lib.replaceAll s.data.toList (⟨#[39]⟩ : ByteArray).data.toList (⟨#[39, 92, 39, 39]⟩ : ByteArray).data.toList = sq (ls s) := all_sq (ls s)
    rw [e1] at h1
    have hl := sq_len (ls s)
    rw [ls_len] at hl
    obtain ⟨X, HX⟩ : ∃ X, Hid (mk (sq (ls s)) = X) := ⟨_, Lib.hid rfl⟩
    have hXs : X.size ≤ 4 * s.size := by rw [← HX.out, mk_size]; exact hl
    rw [show (⟨(sq (ls s)).toArray⟩ : ByteArray) = X from HX.out] at h1
    have C := Lib.hid h1
    obtain ⟨Z, HZ⟩ : ∃ Z, Hid ((⟨#[39]⟩ : ByteArray) ++ X ++ ⟨#[39]⟩ = Z) := ⟨_, Lib.hid rfl⟩
    have HF : Hid (ls Z = singleL (ls s)) := Lib.hid (by rw [← HZ.out, app_ls2, app_ls2, ← HX.out, ls_mk]; rfl)
    have n1 : ¬ 9223372036854775807 < (⟨#[39]⟩ : ByteArray).size + X.size := by show ¬ _ < 1 + X.size; omega
    have n1' : ¬ 9223372036854775807 < 1 + X.size := by omega
    obtain ⟨Y, HY⟩ : ∃ Y, Hid ((⟨#[39]⟩ : ByteArray) ++ X = Y) := ⟨_, Lib.hid rfl⟩
    have z1 : ((⟨#[39]⟩ : ByteArray) ++ X).size = 1 + X.size := ByteArray.size_append
    rw [HY.out] at z1 HZ
    have n2 : ¬ 9223372036854775807 < Y.size + (⟨#[39]⟩ : ByteArray).size := by show ¬ _ < Y.size + 1; omega
    have n2' : ¬ 9223372036854775807 < Y.size + 1 := by omega
    have hy := HY.out
    have hz := HZ.out
    have HLW : Hid (litW s true = ls Z) := Lib.hid (by rw [HF.out]; rfl)
    have CT := Lib.hid fun (W : World) (hb : Below w.heap.size w W) => text_new B D rest v l [Z] W (h.below hb) (by
      rw [HLW.out] at hbl
      simp only [flatS, List.map_cons, List.map_nil, List.flatten_cons, List.flatten_nil, List.append_nil, List.length_append]
      omega) (by simp) (Nat.le_trans hBw hb.size)
    rw [HLW.out]
    clear h h1 e1 hcl z1 hm
    go_enter Tryz.func74, Tryz.ntmps74
    go_wp2_with fail
    refine C.out.mono ?_
    rintro e w1 ⟨rfl, b1⟩
    have HB := Lib.hid b1
    have HK := Lib.hid (And.intro (Ke.of_below (D := D) b1) (b1.mono hBw))
    have CT1 := Lib.hid (CT.out w1 b1)
    clear b1 CT
    go_wp2_with fail
    refine CT1.out.mono ?_
    intro e w2 hw
    have HW := Lib.hid (show Wrote B D rest l (ls Z) w e w2 from ⟨hw.1, by
      obtain ⟨_, v', a1, a2, a3⟩ := hw
      exact ⟨v', by simpa [flatS] using a1, HK.out.1.trans a2, HK.out.2.trans a3⟩⟩)
    obtain ⟨rfl, _⟩ := hw
    go_wp2
    go_end0
    exact HW.out
end Go.Proofs.YtfaohicadahcjaaGreatDoor

/- Contracts: parts that are bytes, and words, written. Conditions: lengths below a bound. -/
namespace Go.Proofs.YtfaohicadahcjaaGreatDoor
open Go.RowKit Go.PlainAid Go.ChangeShapes Go.WideShapes Go.ChangeAt
set_option linter.unusedSimpArgs false
set_option linter.unusedVariables false
/-- What part does with a part: it writes a text. W0: the world in which the tree is read, all of it below B. -/
def PartOk (n : Nat) (W0 : World) (B D : Nat) (rest : List Value) (p : Pt) (t : List UInt8) : Prop :=
  ∀ (v : Value) (acc : List UInt8) (wa ba : Option Addr) (wc bc : Nat) (w : World), WdAt n W0 (.slice wa p.word.length wc) p.word → NsAt n W0 (.slice ba p.body.length bc) p.body → Below B W0 w → IsBld B D 72 rest v acc w → acc.length + t.length ≤ 140737390000000 → B ≤ w.heap.size →
    Calls Tryz.prog 55 #[.pointer (some ⟨D, 0, none⟩), .agg #[.int .i64 p.kind, .bool p.quoted, .string p.text, .string p.op, .slice wa p.word.length wc, .slice ba p.body.length bc]] w (Wrote B D rest acc t w)
set_option maxHeartbeats 4000000 in
set_option maxRecDepth 100000 in
theorem part55_lit (n : Nat) (W0 : World) (B D : Nat) (rest : List Value) (p : Pt) (hk : p.kind = 1) (ht : p.text.size ≤ 1048576) (he : Env W0) (hWB : W0.heap.size ≤ B) : PartOk n W0 B D rest p (litW p.text p.quoted) := by
  intro v acc wa ba wc bc w _ _ hb h hlen hBw
  generalize p.word.length = nw
  generalize p.body.length = nb
  obtain ⟨t, Ht⟩ : ∃ t, Hid (p.text = t) := ⟨_, Lib.hid rfl⟩
  obtain ⟨q, Hq⟩ : ∃ t, Hid (p.quoted = t) := ⟨_, Lib.hid rfl⟩
  obtain ⟨o, Ho⟩ : ∃ t, Hid (p.op = t) := ⟨_, Lib.hid rfl⟩
  rw [hk, Ht.out, Hq.out, Ho.out]
  rw [Ht.out] at ht
  rw [Ht.out, Hq.out] at hlen
  have hbb := (Below.refl w.heap.size w).alloc (Nat.le_refl _) (.cells #[.int .i64 1, .bool q, .string t, .string o, .slice wa nw wc, .slice ba nb bc] 55)
  have HBB := Lib.hid ((Below.refl B w).alloc hBw (.cells #[.int .i64 1, .bool q, .string t, .string o, .slice wa nw wc, .slice ba nb bc] 55))
  have HKe : Hid (Ke D w (w.alloc (.cells #[.int .i64 1, .bool q, .string t, .string o, .slice wa nw wc, .slice ba nb bc] 55))) := Lib.hid (Ke.of_below hbb)
  have C := Lib.hid (bytes74 B D rest v acc t q _ (h.below hbb) (he.on ((hb.trans HBB.out).mono hWB)) ht (by omega) (Nat.le_trans hBw HBB.out.size))
  clear hb h hlen he hk hbb
  go_enter Tryz.func55, Tryz.ntmps55
  go_wp2_with fail
  refine C.out.mono ?_
  intro e w2 hw
  have HW := Lib.hid (show Wrote B D rest acc (litW t q) w e w2 from ⟨hw.1, by
    obtain ⟨_, v', a1, a2, a3⟩ := hw
    exact ⟨v', a1, HKe.out.trans a2, HBB.out.trans a3⟩⟩)
  obtain ⟨rfl, _⟩ := hw
  go_wp2
  go_end0
  exact HW.out
theorem Wrote.base {B D : Nat} {rest : List Value} {l t : List UInt8} {w w' : World} {e : Ending} (h : Wrote B D rest l t w e w') : Below B w w' := by obtain ⟨_, _, _, _, h⟩ := h; exact h
def Rel105 (f : Pt → List UInt8) (B D : Nat) (rest : List Value) (acc0 : List UInt8) (l : List Pt) (w : World) (i : Value) (wx : World) : Prop := ∃ (k : Nat) (v : Value) (acc : List UInt8), k ≤ l.length ∧ i = .int .i64 k ∧ IsBld B D 72 rest v acc wx ∧ Ke D w wx ∧ Below B w wx ∧ Hid (acc0 ++ (l.map f).flatten = acc ++ ((l.drop k).map f).flatten)
theorem flatf_cut {α : Type} (f : α → List UInt8) (l : List α) (k : Nat) (h : k < l.length) : ((l.drop k).map f).flatten = f l[k] ++ ((l.drop (k + 1)).map f).flatten := by
  rw [List.drop_eq_getElem_cons h]; rfl
set_option maxHeartbeats 8000000 in
set_option maxRecDepth 100000 in
theorem word105 (n : Nat) (f : Pt → List UInt8) (W0 : World) (B D : Nat) (rest : List Value) (v : Value) (acc0 : List UInt8) (wv : Value) (l : List Pt) (w : World) (hf : ∀ p ∈ l, PartOk n W0 B D rest p (f p)) (hl : WdAt (n + 1) W0 wv l) (hWB : W0.heap.size ≤ B) (hb : Below B W0 w) (h : IsBld B D 72 rest v acc0 w) (hlen : (acc0 ++ (l.map f).flatten).length ≤ 140737390000000) (hBw : B ≤ w.heap.size) :
    Calls Tryz.prog 105 #[.pointer (some ⟨D, 0, none⟩), wv] w (Wrote B D rest acc0 ((l.map f).flatten) w) := by
  have HS := Lib.hid (show Rel105 f B D rest acc0 l w (.int .i64 0) w from ⟨0, v, acc0, Nat.zero_le _, rfl, h, Ke.refl _ _, Below.refl _ _, Lib.hid (by simp)⟩)
  have HF := Lib.hid hf
  have HL := Lib.hid hl
  have hll := at_len _ _ _ _ hl
  obtain ⟨a, c, rfl⟩ := wd_shape _ _ _ _ hl
  have HBW := Lib.hid hBw
  have HB0 := Lib.hid hb
  have HLN := Lib.hid hlen
  have HWB := Lib.hid hWB
  obtain ⟨q, Hq⟩ : ∃ q, Hid (l.length = q) := ⟨_, Lib.hid rfl⟩
  rw [Hq.out] at HL hll ⊢
  clear h hf hl hb hlen hBw
  go_enter Tryz.func105, Tryz.ntmps105
  go_wp2
  go_loopw [8] (Rel105 f B D rest acc0 l w) (fun i _ => q - (intOf i).toNat)
  case atStart => exact HS.out
  case round =>
    clear HS
    obtain ⟨k, v, acc, hk, rfl, HD, HK, HB, HR⟩ := hrel
    rename World => wx
    rw [Hq.out] at hk
    have HD := Lib.hid HD
    have HK := Lib.hid HK
    have HB := Lib.hid HB
    by_cases hlt : k < q
    · have hlt' : k < l.length := by rw [Hq.out]; exact hlt
      obtain ⟨m, b1, off, c', wa, wc, ba, bc, em, e, hc, hfit, ⟨hw5, hw6⟩, c0, c1, c2, c3, c4, c5⟩ := wd_at2 HL.out k hlt'
      obtain rfl : n = m := by omega
      rw [Hq.out] at e hc
      cases e
      have HC := Lib.hid (flatf_cut f l k hlt')
      have HP := Lib.hid (HF.out l[k] (List.getElem_mem hlt'))
      obtain ⟨p, Hp⟩ : ∃ p, Hid (l[k] = p) := ⟨_, Lib.hid rfl⟩
      rw [Hp.out] at HC HP c0 c1 c2 c3 c4 c5 hfit hw5 hw6
      have hbx := (HB0.out.trans HB.out).mono hWB
      replace c0 := cell_low c0 hbx
      replace c1 := cell_low c1 hbx
      replace c2 := cell_low c2 hbx
      replace c3 := cell_low c3 hbx
      replace c4 := cell_low c4 hbx
      replace c5 := cell_low c5 hbx
      have hal : acc.length + (f p).length ≤ 140737390000000 := by
        have h1 := HLN.out
        rw [HR.out, HC.out] at h1
        simp only [List.length_append] at h1
        omega
      have hsz : B ≤ wx.heap.size := Nat.le_trans HBW.out HB.out.size
      have CP := Lib.hid fun (o : Obj) => HP.out v acc wa ba wc bc (wx.alloc o) hw5 hw6 ((HB0.out.trans HB.out).trans ((Below.refl B wx).alloc hsz o)) (HD.out.below ((Below.refl wx.heap.size wx).alloc (Nat.le_refl _) o)) hal (by simp; omega)
      have HF2 := Lib.hid fun (o : Obj) (e : Ending) (w' : World) (hh : Wrote B D rest acc (f p) (wx.alloc o) e w') => (show e = .returned (.tuple #[]) ∧ Rel105 f B D rest acc0 l w (.int .i64 ((k : Int) + 1)) w' from ⟨hh.1, by
        obtain ⟨_, v', h1, h2, h3⟩ := hh
        exact ⟨k + 1, v', _, hlt', by go_num, h1, (HK.out.trans (Ke.of_below ((Below.refl wx.heap.size wx).alloc (Nat.le_refl _) o))).trans h2, (HB.out.trans ((Below.refl B wx).alloc hsz o)).trans h3, Lib.hid (by rw [HR.out, HC.out, List.append_assoc])⟩⟩)
      generalize p.word.length = nw at c4 CP
      generalize p.body.length = nb at c5 CP
      clear hfit hw5 hw6 hbx hal
      go_wp2_with fail
      refine (CP.out _).mono ?_
      intro e w3 hw
      obtain ⟨rfl, hr⟩ := HF2.out _ _ _ hw
      clear hw
      go_wp2
      go_round
      case rel => exact hr
      case measure => simp [intOf]; omega
    · obtain rfl : k = q := by omega
      have HE : Hid (acc0 ++ (l.map f).flatten = acc) := Lib.hid (by rw [HR.out, List.drop_of_length_le (by rw [Hq.out]; exact Nat.le_refl _)]; simp)
      go_wp2
      go_end0
      exact ⟨rfl, v, by rw [HE.out]; exact HD.out, HK.out, HB.out⟩
end Go.Proofs.YtfaohicadahcjaaGreatDoor

/- Contracts: redirections, written. Conditions: lengths below a bound. -/
namespace Go.Proofs.YtfaohicadahcjaaGreatDoor
open Go.RowKit Go.PlainAid Go.ChangeShapes Go.WideShapes Go.ChangeAt
set_option linter.unusedSimpArgs false
set_option linter.unusedVariables false
/-- What redir does with a redirection that has no here-document: it writes a text. -/
def RedOk (n : Nat) (W0 : World) (B D : Nat) (rest : List Value) (r : Rd) (t : List UInt8) : Prop :=
  ∀ (v : Value) (acc : List UInt8) (wa : Option Addr) (wc : Nat) (w : World), WdAt n W0 (.slice wa r.word.length wc) r.word → Below B W0 w → IsBld B D 72 rest v acc w → acc.length + t.length ≤ 140737390000000 → B ≤ w.heap.size →
    Calls Tryz.prog 96 #[.pointer (some ⟨D, 0, none⟩), .agg #[.int .i64 r.fd, .string r.op, .string r.tag, .slice wa r.word.length wc]] w (Wrote B D rest acc t w)
def redT (f : Pt → List UInt8) (r : Rd) : List UInt8 := Lib.decDigits r.fd.toNat ++ ls r.op ++ (r.word.map f).flatten
set_option maxHeartbeats 16000000 in
set_option maxRecDepth 100000 in
theorem redir96_plain (n : Nat) (f : Pt → List UInt8) (W0 : World) (B D : Nat) (rest : List Value) (r : Rd) (fd : Nat) (hfd : r.fd = fd) (hfd9 : fd < 100) (hop : (r.op.toList == [60, 60]) = false) (hf : ∀ p ∈ r.word, PartOk n W0 B D rest p (f p)) (hWB : W0.heap.size ≤ B) : RedOk (n + 1) W0 B D rest r (redT f r) := by
  intro v acc wa wc w hw hb h hlen hBw
  obtain ⟨l, Hl⟩ : ∃ l, Hid (r.word = l) := ⟨_, Lib.hid rfl⟩
  obtain ⟨op, Hop⟩ : ∃ l, Hid (r.op = l) := ⟨_, Lib.hid rfl⟩
  obtain ⟨tag, Htag⟩ : ∃ l, Hid (r.tag = l) := ⟨_, Lib.hid rfl⟩
  have HRT : Hid (redT f r = Lib.decDigits fd ++ ls op ++ (l.map f).flatten) := Lib.hid (by unfold redT; rw [Hl.out, Hop.out, hfd]; rfl)
  rw [HRT.out] at hlen ⊢
  rw [Hl.out] at hw hf
  rw [Hop.out] at hop
  rw [hfd, Hl.out, Hop.out, Htag.out]
  clear hfd
  have hop2 : (op.toList != [60, 60]) = true := by rw [bne, hop]; rfl
  have hbb := (Below.refl w.heap.size w).alloc (Nat.le_refl _) (.cells #[.int .i64 fd, .string op, .string tag, .slice wa l.length wc] 44)
  have HBB := Lib.hid ((Below.refl B w).alloc hBw (.cells #[.int .i64 fd, .string op, .string tag, .slice wa l.length wc] 44))
  have HKe : Hid (Ke D w (w.alloc (.cells #[.int .i64 fd, .string op, .string tag, .slice wa l.length wc] 44))) := Lib.hid (Ke.of_below hbb)
  have hh := heap_alloc_new w (.cells #[.int .i64 fd, .string op, .string tag, .slice wa l.length wc] 44)
  have HI := Lib.hid (h.below hbb)
  have HW := Lib.hid fun (W : World) (v1 : Value) (a1 : List UInt8) (hI : IsBld B D 72 rest v1 a1 W) (hB : Below B W0 W) (hs : B ≤ W.heap.size) (hl1 : (a1 ++ (l.map f).flatten).length ≤ 140737390000000) => word105 n f W0 B D rest v1 a1 (.slice wa l.length wc) l W hf hw hWB hB hI hl1 hs
  have HB0 := Lib.hid hb
  have CI := Lib.hid fun W => Tryz.strconv_Itoa_small fd hfd9 W
  obtain ⟨T, HT⟩ : ∃ T, Hid ((⟨(Lib.decDigits fd).toArray⟩ : ByteArray) = T) := ⟨_, Lib.hid rfl⟩
  have HTl : Hid (ls T = Lib.decDigits fd) := Lib.hid (by rw [← HT.out])
  rw [HT.out] at CI
  rw [← HTl.out] at hlen ⊢
  have HLN := Lib.hid hlen
  have HBw := Lib.hid hBw
  generalize hq : l.length = q at *
  clear h hb hw hf hlen hbb hfd9 hq hBw
  go_enter Tryz.func96, Tryz.ntmps96
  go_upto_region 1 with fail
  generalize w.alloc (.cells #[.int .i64 fd, .string op, .string tag, .slice wa q wc] 44) = w1 at HBB HKe hh HI ⊢
  have HH := Lib.hid hh
  have p0 : w1.cell? ⟨w.heap.size, 0, none⟩ = some (.int .i64 fd) := cells_at hh (i := 0) rfl
  have p1 : w1.cell? ⟨w.heap.size, 1, none⟩ = some (.string op) := cells_at hh (i := 1) rfl
  have hd := (Below.refl w1.heap.size w1).drew
  have hs1 : B ≤ w1.heap.size := Nat.le_trans HBw.out HBB.out.size
  have hp0 : w1.drew.cell? ⟨w.heap.size, 0, none⟩ = some (.int .i64 fd) ∧ w1.drew.cell? ⟨w.heap.size, 1, none⟩ = some (.string op) := ⟨p0, p1⟩
  have ha : ∀ o : Obj, Below w1.heap.size w1 (w1.alloc o) := fun o => (Below.refl w1.heap.size w1).alloc (Nat.le_refl _) o
  have hp1 : ∀ o : Obj, (w1.alloc o).cell? ⟨w.heap.size, 0, none⟩ = some (.int .i64 fd) ∧ (w1.alloc o).cell? ⟨w.heap.size, 1, none⟩ = some (.string op) := fun o => ⟨cell_low p0 (ha o), cell_low p1 (ha o)⟩
  have hp2 : ∀ o : Obj, (w1.alloc o).drew.cell? ⟨w.heap.size, 0, none⟩ = some (.int .i64 fd) ∧ (w1.alloc o).drew.cell? ⟨w.heap.size, 1, none⟩ = some (.string op) := hp1
  have hlt : Lits (w1.alloc (.cells #[.string T, .string op] 9)).drew (.slice (some ⟨w1.heap.size, 0, none⟩) 2 2) [T, op] := ⟨_, _, rfl, heap_alloc_new w1 (.cells #[.string T, .string op] 9)⟩
  have CT : Hid (Calls Tryz.prog 75 #[.pointer (some ⟨D, 0, none⟩), .slice (some ⟨w1.heap.size, 0, none⟩) 2 2] (w1.alloc (.cells #[.string T, .string op] 9)).drew (Wrote B D rest acc (flatS [T, op]) (w1.alloc (.cells #[.string T, .string op] 9)).drew)) := Lib.hid (text75 B D rest v acc [T, op] _ _ ((HI.out.below (ha _)).below ((Below.refl _ _).drew)) hlt (by have := HLN.out; simp only [flatS, List.map_cons, List.map_nil, List.flatten_cons, List.flatten_nil, List.append_nil, List.length_append] at this ⊢; omega) (by simp) (Nat.le_trans hs1 (ha _).size))
  obtain ⟨cs, hcs⟩ := HI.out.ty
  have HNe := Lib.hid (ne_ty hh hcs (by decide))
  have HK3 := Lib.hid fun (e : Ending) (w3 : World) (hw : Wrote B D rest acc (flatS [T, op]) (w1.alloc (.cells #[.string T, .string op] 9)).drew e w3) => (show e = .returned (.tuple #[]) ∧ (w3.cell? ⟨w.heap.size, 0, none⟩ = some (.int .i64 fd) ∧ w3.cell? ⟨w.heap.size, 1, none⟩ = some (.string op)) ∧ w3.cell? ⟨w.heap.size, 3, none⟩ = some (.slice wa q wc) ∧ Below B w w3 ∧ Ke D w w3 ∧ ∃ v3, IsBld B D 72 rest v3 (acc ++ flatS [T, op]) w3 from by
    obtain ⟨he, v3, h1, h2, h3⟩ := hw
    have hk0 : Ke D w1 w3 := (Ke.of_below (ha (.cells #[.string T, .string op] 9))).trans ⟨h2.size, h2.keep⟩
    have hz := ke_cell hk0 HH.out HNe.out (by decide)
    exact ⟨he, ⟨cells_at hz (i := 0) rfl, cells_at hz (i := 1) rfl⟩, cells_at hz (i := 3) rfl, HBB.out.trans ((((Below.refl B w1).alloc hs1 (.cells #[.string T, .string op] 9)).drew).trans h3), HKe.out.trans hk0, v3, h1⟩)
  clear hcs hh
  go_region_held3 (fun W => W.cell? ⟨w.heap.size, 0, none⟩ = some (.int .i64 fd) ∧ W.cell? ⟨w.heap.size, 1, none⟩ = some (.string op)) (first | exact hp0 | exact ⟨p0, p1⟩ | exact hp1 _ | exact hp2 _ | exact hp3)
    (first
      | (go_at_call 115; (with_reducible refine (CI.out _).mono ?_); rintro e w2 ⟨rfl, rfl⟩)
      | (go_at_call 75; (with_reducible refine CT.out.mono ?_); intro e w3 hw; obtain ⟨rfl, hp3, hp33, hb3, hk3, v3, h3⟩ := HK3.out e w3 hw; clear hw))
  have hcw := HW.out w3 v3 _ h3 (HB0.out.trans hb3) (Nat.le_trans HBw.out hb3.size) (by have := HLN.out; simp only [flatS, List.map_cons, List.map_nil, List.flatten_cons, List.flatten_nil, List.append_nil, List.length_append] at this ⊢; omega)
  have HCW := Lib.hid hcw
  have HB3 := Lib.hid hb3
  have HK33 := Lib.hid hk3
  clear hcw h3 hb3 hk3 hp0 hp1 hp2
  go_wp2_with fail
  refine HCW.out.mono ?_
  intro e w4 hw
  have HFin := Lib.hid (show Wrote B D rest acc (ls T ++ ls op ++ (l.map f).flatten) w e w4 from ⟨hw.1, by
    obtain ⟨_, v', a1, a2, a3⟩ := hw
    exact ⟨v', by simpa [flatS] using a1, HK33.out.trans a2, HB3.out.trans a3⟩⟩)
  obtain ⟨rfl, _⟩ := hw
  go_wp2
  go_end0
  exact HFin.out

/-! A simple command: its pieces with a blank between each two. -/
def gj (g : List UInt8) : List (List UInt8) → List UInt8
  | [] => []
  | x :: r => g ++ x ++ gj [32] r
/-- All but the writer's block, one more block, and rows of bytes stands. -/
structure Ke2 (D G : Nat) (w w' : World) : Prop where
  size : w.heap.size ≤ w'.heap.size
  keep : ∀ k, k < w.heap.size → k ≠ D → k ≠ G → NoB w k → w'.heap[k]? = w.heap[k]?
theorem Ke2.of {D G : Nat} {w w' : World} (h : Ke D w w') : Ke2 D G w w' := ⟨h.size, fun k a b _ c => h.keep k a b c⟩
theorem Ke2.trans {D G : Nat} {w w1 w' : World} (h : Ke2 D G w w1) (h' : Ke2 D G w1 w') : Ke2 D G w w' := by
  refine ⟨Nat.le_trans h.size h'.size, fun k hk hD hG hv => ?_⟩
  have e := h.keep k hk hD hG hv
  rw [h'.keep k (Nat.lt_of_lt_of_le hk h.size) hD hG (fun c fr => by rw [e]; exact hv c fr), e]
theorem Ke2.new {D G : Nat} {w0 w w' : World} (h0 : Ke D w0 w) (hG : w0.heap.size ≤ G) (h : Ke2 D G w w') : Ke D w0 w' := by
  refine ⟨Nat.le_trans h0.size h.size, fun k hk hD hv => ?_⟩
  have e := h0.keep k hk hD hv
  rw [h.keep k (Nat.lt_of_lt_of_le hk h0.size) hD (by omega) (fun c fr => by rw [e]; exact hv c fr), e]
theorem ke2_cell {D G : Nat} {w w' : World} (h : Ke2 D G w w') {g : Nat} {cs : Array Value} {t : TypeId} {fr : Nat × Nat} (hg : w.heap[g]? = some (.cells cs t fr)) (hD : g ≠ D) (hG : g ≠ G) (ht : t ≠ 5) : w'.heap[g]? = some (.cells cs t fr) := by
  rw [h.keep g (lt_of_block hg) hD hG (fun c fr' e => by rw [hg] at e; cases e; exact ht rfl), hg]
set_option maxHeartbeats 4000000 in
set_option maxRecDepth 100000 in
/-- The gap is written, and is a blank from then on. -/
theorem apart111 (B D X G : Nat) (rest : List Value) (v : Value) (l : List UInt8) (g : ByteArray) (tX : TypeId) (w : World) (h : IsBld B D 72 rest v l w) (hX : w.heap[X]? = some (.cells #[.pointer (some ⟨D, 0, none⟩)] tX (0, 0))) (hG : w.heap[G]? = some (.cells #[.string g] 9 (0, 0))) (htX : tX ≠ 5) (htX2 : tX ≠ 9) (hBG : B ≤ G) (hlen : l.length + g.size ≤ 140737400000000) (hBw : B ≤ w.heap.size) :
    Calls Tryz.prog 111 #[.pointer (some ⟨X, 0, none⟩), .pointer (some ⟨G, 0, none⟩)] w fun e w' => e = .returned (.tuple #[]) ∧ ∃ v', IsBld B D 72 rest v' (l ++ ls g) w' ∧ w'.heap[G]? = some (.cells #[.string ⟨#[32]⟩] 9 (0, 0)) ∧ Ke2 D G w w' ∧ Below B w w' := by
  have x0 : w.cell? ⟨X, 0, none⟩ = some (.pointer (some ⟨D, 0, none⟩)) := cells_at hX (i := 0) rfl
  have g0 : w.cell? ⟨G, 0, none⟩ = some (.string g) := cells_at hG (i := 0) rfl
  have C := Lib.hid (text_new B D rest v l [g] w h (by simp [flatS, ls_len]; omega) (by simp) hBw)
  obtain ⟨cs, hcs⟩ := h.ty
  have HGD := Lib.hid (ne_ty hG hcs (by decide))
  have HG := Lib.hid hG
  have HBG := Lib.hid hBG
  clear h hcs hX hG
  go_enter Tryz.func111, Tryz.ntmps111
  go_wp2_with fail
  refine C.out.mono ?_
  rintro e w2 ⟨rfl, v2, h2, k2, b2⟩
  have hg2 := ke_cell k2 HG.out HGD.out (by decide)
  have z0 : w2.cell? ⟨G, 0, none⟩ = some (.string g) := cells_at hg2 (i := 0) rfl
  have zf : w2.frozen? ⟨G, 0, none⟩ = false := Lib.frozen_of_heap hg2 0
  have H2 := Lib.hid h2
  have HK2 := Lib.hid k2
  have HB2 := Lib.hid b2
  have HG2 := Lib.hid hg2
  clear h2 k2 b2 hg2
  go_wp2
  go_end0
  have hother : ∀ k, k ≠ G → (w2.setCell ⟨G, 0, none⟩ (.string ⟨#[32]⟩)).heap[k]? = w2.heap[k]? := fun k hk => Below.heap_setCell _ _ _ _ (fun e => hk (by simp [e]))
  refine ⟨rfl, v2, ?_, ?_, ?_, ?_⟩
  · have hst : ∀ p, Bld p B D 72 rest v2 (l ++ flatS [g]) w2 → Bld p B D 72 rest v2 (l ++ ls g) (w2.setCell ⟨G, 0, none⟩ (.string ⟨#[32]⟩)) := fun p hp => by
      rw [show flatS [g] = ls g from by simp [flatS]] at hp
      refine hp.stay (by simp [World.setCell]) (hother D (fun e => HGD.out e.symm)) (fun k hk => hother k (fun e => ?_))
      subst e
      rcases hp.own.2 with ⟨e2, _⟩ | ⟨g', cap', cur, e2, _, h4, _⟩
      · rw [e2] at hk; simp [Value.ownBlock] at hk
      · rw [e2] at hk; simp [Value.ownBlock] at hk
        subst hk
        rw [HG2.out] at h4
        cases h4
    exact H2.out.imp (hst _) (hst _)
  · simp [World.setCell, Array.getElem?_modify, HG2.out]
  · exact (Ke2.of HK2.out).trans ⟨by simp [World.setCell], fun k _ _ hk _ => hother k hk⟩
  · exact HB2.out.setCell (p := ⟨G, 0, none⟩) HBG.out _
end Go.Proofs.YtfaohicadahcjaaGreatDoor
