/- AstDeeper, walked. Conditions: weights below a bound; the library's own variable holds some number. -/
import Derived.Test.YtfaohicadahcjaaGreatDoorSP
import Derived.Test.YtfaohicadahcjaaGreatDoorMi
namespace Go.Proofs.YtfaohicadahcjaaGreatDoor
open Go.RowKit Go.PlainAid Go.ChangeShapes Go.WideShapes Go.ChangeAt
set_option linter.unusedSimpArgs false
set_option linter.unusedVariables false
set_option maxHeartbeats 2000000 in
set_option maxRecDepth 100000 in
theorem empty57 (a : Option Addr) (c : Nat) (w : World) (d : Int) : Calls Tryz.prog 57 #[.slice a 0 c, .int .i64 3000, .int .i64 d] w fun e w' => e = .returned (.int .i64 ((0 : Nat) : Int)) ∧ Below w.heap.size w w' := by
  go_enter Tryz.func57, Tryz.ntmps57
  go_wp2
  go_loop [7, 12] (fun x i => x = .int .i64 0 ∧ i = .int .i64 0) (fun x i => 0)
  case atStart => exact ⟨rfl, rfl⟩
  case round =>
    obtain ⟨rfl, rfl⟩ := hrel
    go_wp2
    go_ret
    exact ⟨rfl, Below.refl _ _⟩
set_option maxHeartbeats 2000000 in
set_option maxRecDepth 100000 in
theorem empty38 (a : Option Addr) (c : Nat) (w : World) (d : Int) : Calls Tryz.prog 38 #[.slice a 0 c, .int .i64 3000, .int .i64 d] w fun e w' => e = .returned (.int .i64 ((0 : Nat) : Int)) ∧ Below w.heap.size w w' := by
  go_enter Tryz.func38, Tryz.ntmps38
  go_wp2
  go_loop [7, 24] (fun x i => x = .int .i64 0 ∧ i = .int .i64 0) (fun x i => 0)
  case atStart => exact ⟨rfl, rfl⟩
  case round =>
    obtain ⟨rfl, rfl⟩ := hrel
    go_wp2
    go_ret
    exact ⟨rfl, Below.refl _ _⟩
theorem szok : ∀ n, SzOk n
  | 0 => ⟨fun v l w d h _ _ _ => by obtain ⟨rfl, a, c, rfl⟩ := h; exact empty57 a c w d, fun v l w d h _ _ _ => by obtain ⟨rfl, a, c, rfl⟩ := h; exact empty38 a c w d⟩
  | n + 1 => ⟨fun v l w d h hw h0 h1 => parts57 n (szok n) v l w d h hw h0 h1, fun v l w d h hw h0 h1 => size38 n (szok n) v l w d h hw h0 h1⟩
/-- Are commands few, and short? -/
def smallB (n : Nat) (l : List Nd) : Bool := decide ((szs n).2 l 100 ≤ 3000)
set_option maxHeartbeats 2000000 in
set_option maxRecDepth 100000 in
theorem small9 (n : Nat) (v : Value) (l : List Nd) (w : World) (h : NsAt n w v l) (hwt : (wts n).2 l ≤ 1048576) : Calls Tryz.prog 9 #[v] w fun e w' => e = .returned (.bool (smallB n l)) ∧ Below w.heap.size w w' := by
  have C := Lib.hid ((szok n).c v l w 100 h hwt (by omega) (by omega))
  have HB : Hid (smallB n l = decide ((szs n).2 l 100 ≤ 3000)) := Lib.hid rfl
  obtain ⟨a, c, rfl⟩ := ns_shape _ _ _ _ h
  rw [HB.out]
  generalize (szs n).2 l 100 = x at C ⊢
  obtain ⟨b, Hb⟩ : ∃ b, Hid (decide (x ≤ 3000) = b) := ⟨_, Lib.hid rfl⟩
  have h1 := Hb.out
  have h2 : decide ((x : Int) ≤ 3000) = b := by rw [← Hb.out]; exact decide_eq_decide.2 (by omega)
  rw [Hb.out]
  clear h hwt
  go_enter Tryz.func9, Tryz.ntmps9
  go_wp2_with fail
  refine C.out.mono ?_
  rintro e w2 ⟨rfl, hb⟩
  have HB2 := Lib.hid hb
  clear hb
  go_wp2
  go_ret
  exact ⟨rfl, HB2.out⟩
theorem ns_part {n : Nat} {w : World} {b off c : Nat} {l : List Nd} (h : NsAt n w (.slice (some ⟨b, off, none⟩) l.length c) l) (hl : l ≠ []) (i j : Nat) (hij : i ≤ j) (hj : j ≤ l.length) (c' : Nat) (hc' : j - i ≤ c') :
    NsAt n w (.slice (some ⟨b, off + i * 7, none⟩) (j - i) c') ((l.take j).drop i) := by
  cases n with
  | zero => exact absurd h.1 hl
  | succ n => exact Seg.part h hl i j hij hj c' hc'
def Rel7 (w : World) (q : Nat) (i : Value) (wx : World) : Prop := ∃ k : Nat, k ≤ q ∧ i = .int .i64 k ∧ Below w.heap.size w wx
set_option maxHeartbeats 16000000 in
set_option maxRecDepth 100000 in
theorem deeper7 (n : Nat) (v : Value) (l : List Nd) (w : World) (deep : Int) (h : NsAt n w v l) (hwt : (wts n).2 l ≤ 1048576) (he : Env w) (h64 : L64 deep) :
    Calls Tryz.prog 7 #[v, .int .i64 deep] w fun e w' => e = .returned (.bool true) ∧ Below w.heap.size w w' := by
  have CA := Lib.hid (anchor8 w he)
  have HL := Lib.hid h
  have HE := Lib.hid he
  have hlen := ns_len _ _ _ _ h
  have C9 := Lib.hid fun W (hW : NsAt n W v l) => small9 n v l W hW hwt
  have CR := Lib.hid fun u m W d (hW : NsAt n W u m) (hE : Env W) (hd : L64 d) => right11 n u m W d hW hE hd
  obtain ⟨a, c, rfl⟩ := ns_shape _ _ _ _ h
  have HM := Lib.hid fun (m : List Nd) (hs : ∀ x, x ∈ m → x ∈ l) (b : Int) (hb : deep ≤ b) (ht : rightM n l deep = true) => rightM_mono n m deep b hb (rightM_sub n l m hs deep ht)
  obtain ⟨q, Hq⟩ : ∃ q, Hid (l.length = q) := ⟨_, Lib.hid rfl⟩
  rw [Hq.out] at HL hlen C9 ⊢
  generalize smallB n l = bs at C9
  have hr1 := h64.1
  have hr2 := h64.2
  have H64 := Lib.hid h64
  obtain ⟨b0, Hb0⟩ : ∃ b, Hid (decide (deep < 0) = b) := ⟨_, Lib.hid rfl⟩
  obtain ⟨b1, Hb1⟩ : ∃ b, Hid (decide (150 < deep) = b) := ⟨_, Lib.hid rfl⟩
  have e0 := Hb0.out
  have e1 := Hb1.out
  clear h he hwt h64
  go_enter Tryz.func7, Tryz.ntmps7
  go_wp2_with fail
  refine CA.out.mono ?_
  rintro e w1 ⟨rfl, hb⟩
  have HB1 := Lib.hid hb
  have C9 := Lib.hid (C9.out w1 (kept_ns n _ _ _ _ HL.out hb))
  clear hb
  go_wp2_with fail
  refine C9.out.mono ?_
  rintro e w2 ⟨rfl, hb⟩
  have HB2 := Lib.hid (HB1.out.trans (hb.mono HB1.out.size))
  clear hb
  cases bs
  case false =>
    go_wp2
    go_ret
    exact ⟨rfl, HB2.out⟩
  cases b0
  case true =>
    go_wp2
    go_ret
    exact ⟨rfl, HB2.out⟩
  cases b1
  case true =>
    go_wp2
    go_ret
    exact ⟨rfl, HB2.out⟩
  have CR1 := Lib.hid (CR.out _ l w2 deep (kept_ns n _ _ _ _ HL.out HB2.out) (HE.out.on HB2.out) H64.out)
  obtain ⟨br, Hbr⟩ : ∃ b, Hid (rightM n l deep = b) := ⟨_, Lib.hid rfl⟩
  rw [Hbr.out] at CR1
  go_wp2_with fail
  refine CR1.out.mono ?_
  rintro e w3 ⟨rfl, hb⟩
  have HB3 := Lib.hid (HB2.out.trans (hb.mono HB2.out.size))
  clear hb
  cases br
  case false =>
    go_wp2
    go_ret
    exact ⟨rfl, HB3.out⟩
  have HM := Lib.hid fun m hs b hb => HM.out m hs b hb Hbr.out
  have hd0 : 0 ≤ deep := by have := of_decide_eq_false Hb0.out; omega
  have hd1 : deep ≤ 150 := by have := of_decide_eq_false Hb1.out; omega
  go_wp2
  go_loopw [27] (Rel7 w q) (fun i _ => q - (intOf i).toNat)
  case atStart => exact ⟨0, Nat.zero_le _, rfl, HB3.out⟩
  case round =>
    obtain ⟨k, hk, rfl, HB⟩ := hrel
    rename World => wx
    have HB := Lib.hid HB
    by_cases hlt : k < q
    · have hlt' : k < l.length := by rw [Hq.out]; exact hlt
      have hne : l ≠ [] := by intro e; rw [e] at hlt'; simp at hlt'
      obtain ⟨m, b, off, c', a1, a2, a3, a4, a5, c1, c2, c3, c4, c5, em, e, hc, _⟩ := ns_at2 HL.out k hlt'
      rw [Hq.out] at e hc
      cases e
      have HLx := kept_ns n _ _ _ _ HL.out HB.out
      rw [← Hq.out] at HLx
      have P1 := ns_part HLx hne k (k + 1) (by omega) hlt' (c - k) (by omega)
      have P2 := ns_part HLx hne 0 k (by omega) (by omega) c (by omega)
      rw [show k + 1 - k = 1 by omega] at P1
      rw [show k - 0 = k by omega, show off + 0 * 7 = off by omega] at P2
      have CR1 := Lib.hid (CR.out _ _ wx deep P1 (HE.out.on HB.out) H64.out)
      have CR2 := Lib.hid fun W (hW : Below wx.heap.size wx W) => CR.out _ _ W deep (kept_ns n _ _ _ _ P2 hW) ((HE.out.on HB.out).on hW) H64.out
      rw [HM.out ((l.take (k + 1)).drop k) (fun x hx => List.mem_of_mem_take (List.mem_of_mem_drop hx)) deep (Int.le_refl _)] at CR1
      rw [HM.out ((l.take k).drop 0) (fun x hx => List.mem_of_mem_take (List.mem_of_mem_drop hx)) deep (Int.le_refl _)] at CR2
      clear P1 P2 HLx
      go_wp2_with fail
      refine CR1.out.mono ?_
      rintro e w4 ⟨rfl, hb⟩
      have HB4 := Lib.hid (HB.out.trans (hb.mono HB.out.size))
      have CR2 := Lib.hid (CR2.out w4 hb)
      clear hb
      go_wp2_with fail
      refine CR2.out.mono ?_
      rintro e w5 ⟨rfl, hb⟩
      have HB5 := Lib.hid (HB4.out.trans (hb.mono HB4.out.size))
      clear hb
      go_wp2
      go_round
      case rel => exact ⟨k + 1, hlt, vi (Int.natCast_succ k).symm, HB5.out⟩
      case measure => exact sz_meas hlt
    · obtain rfl : k = q := by omega
      have CR1 := Lib.hid (CR.out _ l wx (deep + 1) (kept_ns n _ _ _ _ HL.out HB.out) (HE.out.on HB.out) ⟨by omega, by omega⟩)
      have CR2 := Lib.hid fun W (hW : Below wx.heap.size wx W) => CR.out _ l W 200 (kept_ns n _ _ _ _ HL.out (HB.out.trans (hW.mono HB.out.size))) ((HE.out.on HB.out).on hW) ⟨by omega, by omega⟩
      rw [HM.out l (fun x hx => hx) (deep + 1) (by omega)] at CR1
      rw [HM.out l (fun x hx => hx) 200 (by omega)] at CR2
      have hw1 : wrap64 (deep + 1) = deep + 1 := by unfold wrap64; omega
      go_wp2_with fail
      refine CR1.out.mono ?_
      rintro e w4 ⟨rfl, hb⟩
      have HB4 := Lib.hid (HB.out.trans (hb.mono HB.out.size))
      have CR2 := Lib.hid (CR2.out w4 hb)
      clear hb
      go_wp2_with fail
      refine CR2.out.mono ?_
      rintro e w5 ⟨rfl, hb⟩
      have HB5 := Lib.hid (HB4.out.trans (hb.mono HB4.out.size))
      clear hb
      go_wp2
      go_ret
      exact ⟨rfl, HB5.out⟩
end Go.Proofs.YtfaohicadahcjaaGreatDoor
