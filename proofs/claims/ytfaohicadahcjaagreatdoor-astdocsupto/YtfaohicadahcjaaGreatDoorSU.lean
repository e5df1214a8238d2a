/- Conversions of words. Conditions: lengths below a bound. -/
import Derived.Test.YtfaohicadahcjaaGreatDoorST
import Derived.Test.YtfaohicadahcjaaGreatDoorSP
namespace Go.Proofs.YtfaohicadahcjaaGreatDoor
open Go.RowKit Go.PlainAid Go.ChangeShapes Go.WideShapes Go.ChangeAt
set_option linter.unusedSimpArgs false
set_option linter.unusedVariables false
/-- A list being made of another one. -/
def RelM {α : Type} (e : TypeId) (k : Nat) (C : World → List Value → α → Prop) (l : List α) (w : World) (o i : Value) (wx : World) : Prop :=
  ∃ (m : Nat) (css : List (List Value)) (Z : Nat → Prop), m ≤ l.length ∧ i = .int .i64 m ∧ Mk w.heap.size e k C wx o (l.take m) css Z ∧ Below w.heap.size w wx
theorem take_snoc {α : Type} (l : List α) (k : Nat) (h : k < l.length) : l.take (k + 1) = l.take k ++ [l[k]] := by rw [List.take_add_one, List.getElem?_eq_getElem h]; rfl
theorem take_len {α : Type} {l : List α} {k : Nat} (h : k ≤ l.length) : (l.take k).length = k := by rw [List.length_take]; omega
theorem info37' : (Tryz.prog.info? 37).map (fun i => (i.zero, i.size, i.bytes)) = some (some (.slice none 0 0), 1, 24) := by kernel_rfl
theorem mul_le {k c b : Nat} (h : k < 1048576) (hb : b ≤ 1000) : (k + 1) * b ≤ 140737488355328 := Nat.le_trans (Nat.mul_le_mul (by omega : k + 1 ≤ 1048576) hb) (by omega)
theorem mlen {k q : Nat} (h : k < q) (hq : q ≤ 1048576) : k + 1 ≤ maxLen := by unfold maxLen; omega
/-- One element more. -/
theorem Mk.one {α : Type} {B : Nat} {e : TypeId} {k : Nat} {C : World → List Value → α → Prop} {w w' : World} {oa : Option Addr} {oc : Nat} {l : List α} {css : List (List Value)} {Z : Nat → Prop} {m : Nat} (hm : m < l.length) (h : Mk B e k C w (.slice oa m oc) (l.take m) css Z) {cs : List Value} {x : α} (hx0 : l[m] = x) {g cap : Nat} {Y : Nat → Prop} (hown : w'.ownsRow B e k (.slice (some ⟨g, 0, none⟩) (m + 1) cap) (m + 1) (css.flatten ++ cs)) (hg : w.grownBy w' (Value.slice oa m oc).ownBlock) {H : Nat} (hH : w.heap.size = H) (hat0 : (Value.slice oa m oc).ownBlock = some g ∨ g = H)
    (hk : cs.length = k) (hY : ∀ b, Y b → B ≤ b ∧ b < w.heap.size ∧ (Value.slice oa m oc).ownBlock ≠ some b) (hx : Firm Y (fun u => C u cs x) w) :
    ∃ css Z, Mk B e k C w' (.slice (some ⟨g, 0, none⟩) (m + 1) cap) (l.take (m + 1)) css Z := by
  have hl : (l.take m).length = m := take_len (Nat.le_of_lt hm)
  have hat : (Value.slice oa m oc).ownBlock = some g ∨ g = w.heap.size := by rw [hH]; exact hat0
  refine ⟨css ++ [cs], fun b => Z b ∨ Y b, ?_⟩
  have := h.push (g := g) (cap := cap) (w' := w') (cs := cs) (x := x) (Y := Y) (by rw [hl]; exact hown) hg hat hk hY hx
  rw [hl] at this
  rw [take_snoc l m hm, hx0]
  exact this
theorem Mk.shape {α : Type} {B : Nat} {e : TypeId} {k : Nat} {C : World → List Value → α → Prop} {w : World} {v : Value} {l : List α} {css : List (List Value)} {Z : Nat → Prop} (h : Mk B e k C w v l css Z) : ∃ a c, v = .slice a l.length c := by
  rcases h.own.2 with ⟨rfl, h0⟩ | ⟨g, cap, cur, rfl, _⟩
  · exact ⟨none, 0, by rw [h0]⟩
  · exact ⟨_, _, rfl⟩
set_option maxHeartbeats 8000000 in
set_option maxRecDepth 100000 in
theorem words58 (n : Nat) (G : Conv n) (v : Value) (l : List (List Pt)) (w : World) (h : WsAt n w v l) : Calls Tryz.prog 58 #[v] w (Out (fun u v' => WsAt n u v' l) w) := by
  obtain ⟨i0, hi, hz0, hz1, hz2⟩ := info_of info37'
  have HL := Lib.hid h
  have hlen := h.len
  obtain ⟨a, c, rfl⟩ := h.shape
  obtain ⟨q, Hq⟩ : ∃ q, Hid (l.length = q) := ⟨_, Lib.hid rfl⟩
  rw [Hq.out] at HL hlen ⊢
  have C1 := Lib.hid fun (u : Value) (x : List Pt) (W : World) (hx : WdAt n W u x) => G.w u x W hx
  clear h G
  go_enter Tryz.func58, Tryz.ntmps58
  go_wp2
  go_loopw [3, 8] (RelM 37 1 (OneC (WdAt n)) l w) (fun _ i _ => q - (intOf i).toNat)
  case atStart => exact ⟨0, [], fun _ => False, Nat.zero_le _, rfl, Mk.nil (Nat.le_refl _), Below.refl _ _⟩
  case round =>
    obtain ⟨k, css, Z, hk, rfl, HM, HB⟩ := hrel
    rename World => wx
    have HM := Lib.hid HM
    have HB := Lib.hid HB
    obtain ⟨oa, oc, e0⟩ := HM.out.shape
    rw [take_len hk] at e0
    subst e0
    rw [Hq.out] at hk
    by_cases hlt : k < q
    · have hlt' : k < l.length := by rw [Hq.out]; exact hlt
      obtain ⟨b, off, c', u, e, hc, hcell, hu⟩ := one_at HL.out k hlt'
      obtain ⟨ua, uc, rfl⟩ := wd_shape _ _ _ _ hu
      rw [Hq.out] at e hc
      cases e
      obtain ⟨x, Hx⟩ : ∃ x, Hid (l[k] = x) := ⟨_, Lib.hid rfl⟩
      rw [Hx.out] at hu hcell
      replace hcell := cell_low hcell HB.out
      have C2 := Lib.hid (C1.out _ x wx (kept_wd n _ _ _ _ hu HB.out))
      generalize x.length = nx at hcell C2
      have hml := mlen hlt hlen
      have hmb := mul_le (c := 0) (b := 24) (Nat.lt_of_lt_of_le hlt hlen) (by decide)
      clear hu
      go_wp2_with fail
      refine C2.out.mono ?_
      rintro e w2 ⟨v2, rfl, hf2, hb2⟩
      obtain ⟨a2, c2, e2⟩ := wd_shape _ _ _ _ hf2.here
      generalize x.length = nx2 at e2
      subst e2
      have HM2 := HM.out.low hb2
      have hb3 := (Below.refl w2.heap.size w2).alloc (Nat.le_refl _) (.cells #[(.slice a2 nx2 c2)] 37)
      have hsz3 : w2.heap.size ≤ (w2.alloc (.cells #[(.slice a2 nx2 c2)] 37)).heap.size := hb3.size
      have HM3 := Lib.hid (HM2.low hb3)
      have hbx3 := hb2.trans (hb3.mono hb2.size)
      have HB3 := Lib.hid (HB.out.trans (hbx3.mono HB.out.size))
      have HF3 := Lib.hid ((hf2.on (On.below hb3 fun b hb => hb.2)).imp (R := fun u => OneC (WdAt n) u [(.slice a2 nx2 c2)] x) fun u hu => ⟨(.slice a2 nx2 c2), rfl, hu⟩)
      have hnew := heap_alloc_new w2 (.cells #[(.slice a2 nx2 c2)] 37)
      have HY : Hid (∀ b, Btw wx.heap.size w2.heap.size b → w.heap.size ≤ b ∧ b < (w2.alloc (.cells #[(.slice a2 nx2 c2)] 37)).heap.size ∧ (Value.slice oa k oc).ownBlock ≠ some b) := Lib.hid fun b hb => ⟨Nat.le_trans HB.out.size hb.1, Nat.lt_of_lt_of_le hb.2 hsz3, fun e => by
        have := (World.ownsRow.lt HM.out.own b e).2
        have := hb.1
        omega⟩
      have hown := HM3.out.own
      rw [take_len (Nat.le_of_lt hlt')] at hown
      clear hf2 hb2 hb3 hsz3 hbx3 HM2
      go_wp2_with (at_builtin; refine wpList_append_lies _ rfl _ _ 59 rfl w.heap.size 37 i0 _ 1 24 Tryz.underlying59 hi hz0 hz1 hz2 rfl (by decide) _ _ _ rfl hown ⟨_, 0, none⟩ 1 1 [(.slice a2 nx2 c2)] rfl rfl ?c1 ?c2 (by decide) ?c3 ?c4 ?c5 _ rfl ?_)
      case c1 =>
        intro j u hj
        rw [add_at, Nat.zero_add]
        exact cells_at hnew (by simpa using hj)
      case c2 => intro u hu; simp at hu; subst hu; rfl
      case c3 => exact hml
      case c4 => exact hmb
      case c5 => exact HB3.out.size
      intro g cap w4 hown4 hgrow hat hlt4
      have HM4 := Lib.hid (HM3.out.one hlt' Hx.out hown4 hgrow (push_size w2 _ _ rfl) hat rfl HY.out HF3.out)
      have HB4 := Lib.hid (HB3.out.grown hgrow HB3.out.size (fun j hj => (World.ownsRow.lt hown j hj).1))
      have HRl : Hid (RelM 37 1 (OneC (WdAt n)) l w (.slice (some ⟨g, 0, none⟩) (k + 1) cap) (.int .i64 ((k : Int) + 1)) w4) := Lib.hid (by
        obtain ⟨css', Z', hm⟩ := HM4.out
        exact ⟨k + 1, css', Z', hlt', vi (Int.natCast_succ k).symm, hm, HB4.out⟩)
      clear hown4 hgrow hat hlt4 hown hnew hml hmb
      go_wp2
      go_round
      case rel => exact HRl.out
      case measure => exact sz_meas hlt
    · have hkq : q = k := sz_eq hlt hk
      subst hkq
      have hm := HM.out
      have HF := Lib.hid (by
        have := hm.fin (by rw [take_len (by rw [Hq.out]; exact Nat.le_refl _)]; exact hlen)
        rw [List.take_of_length_le (by rw [Hq.out]; exact Nat.le_refl _)] at this
        exact this)
      clear hm
      go_wp2
      go_ret
      exact ⟨_, rfl, HF.out, HB.out⟩
end Go.Proofs.YtfaohicadahcjaaGreatDoor
