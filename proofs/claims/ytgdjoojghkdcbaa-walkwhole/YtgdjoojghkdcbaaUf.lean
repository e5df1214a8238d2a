/- Enter. Conditions: as put's; a directory isn't entered into itself. -/
import Derived.Test.YtgdjoojghkdcbaaUe
namespace Go.Proofs.Ytgdjoojghkdcbaa
open Go.RowKit Go.PlainAid
set_option linter.unusedSimpArgs false

theorem DiskAt.setN {L : Lay} {D : Nat} {S : St} {w : World} (h : DiskAt L D S w) {k : Int} {x : Nd} {p : Nat} {dv ev : Value} (hk : S.get k = some x) (hn : NodeAt L.ow k p x dv ev w) (hf : L.f k = some p)
    (i : Nat) (v : Value) (x' : Nd) (hd : x'.data = x.data) (he : x'.ents = x.ents) (hc : ((x.nc dv).fill ev).setIfInBounds i v = (x'.nc dv).fill ev) :
    DiskAt L D (S.put k x') (w.setCell ⟨p, i, none⟩ v) ∧ Fr L w (w.setCell ⟨p, i, none⟩ v) ∧ NodeAt L.ow k p x' dv ev (w.setCell ⟨p, i, none⟩ v) := by
  have hpos := h.pos k x hk
  have hb : ∀ b, b ≠ p → (w.setCell ⟨p, i, none⟩ v).heap[b]? = w.heap[b]? := fun b e => Below.heap_setCell _ _ _ _ e
  have hs : (w.setCell ⟨p, i, none⟩ v).heap.size = w.heap.size := by simp [World.setCell]
  have hN : NodeAt L.ow k p x' dv ev (w.setCell ⟨p, i, none⟩ v) := by
    refine ⟨?_, ?_, ?_, hn.op, hn.od, hn.oe⟩
    · rw [blk_setCell hn.blk, hc]
    · rw [hd]; exact hn.data.keep fun b e _ => hb b (by rintro rfl; exact hn.data.ne hn.blk (by decide) e)
    · rw [he]; exact hn.row.keep fun b e _ => hb b (by rintro rfl; exact hn.row.ne hn.blk (by decide) e)
  refine ⟨⟨(hb D (by rintro rfl; have := hn.op; rw [h.oD] at this; omega)).trans h.blk, h.map.block (hb _ (h.map.ne hn.blk)), ?_, ?_, ?_, h.oD, h.oM, fun b hl => h.fresh b (by omega)⟩, ⟨rfl, rfl, rfl, by omega, fun b hl ho => hb b (by rintro rfl; rw [hn.op] at ho; omega)⟩, hN⟩
  · intro j hj
    by_cases e : j = k
    · subst e; rw [St.put_same] at hj; cases hj
    · rw [St.put_other _ _ e] at hj; exact h.gone j hj
  · intro j y hj
    by_cases e : j = k
    · subst e
      rw [St.put_same] at hj
      cases hj
      exact ⟨p, dv, ev, hf, hN⟩
    · rw [St.put_other _ _ e] at hj
      obtain ⟨q, du, eu, h1, h2⟩ := h.there j y hj
      exact ⟨q, du, eu, h1, h2.keep fun b hl ho => ⟨hb b (by rintro rfl; rw [hn.op] at ho; exact e ho.symm), ho⟩⟩
  · intro j y hj
    by_cases e : j = k
    · subst e; exact hpos
    · rw [St.put_other _ _ e] at hj; exact h.pos j y hj

/-- Enter's error. -/
def entE (S : St) (id : Int) (s : ByteArray) (k : Int) : Int := match S.get id with
  | none => 12
  | some x => if x.kind = 2 then (match S.get k with
    | none => 12
    | some y => if y.kind = 2 ∧ 0 < y.links then 22 else if 32768 ≤ y.links then 24 else pEnt s x.ents s.size (S.room - S.used)) else 14
/-- The disk behind an entry that is made. -/
def entS (S : St) (id : Int) (s : ByteArray) (k : Int) : St := if entE S id s k = 0 then (match S.get id, S.get k with
  | some x, some y => { ((S.put id { x with ents := putL s k x.ents }).put k { y with links := y.links + 1, up := id }) with used := S.used + s.size }
  | _, _ => S) else S

theorem St.put_used (S : St) (k : Int) (x : Nd) (u : Int) : ({ S with used := u } : St).put k x = { (S.put k x) with used := u } := rfl

set_option maxHeartbeats 2000000 in
set_option maxRecDepth 100000 in
theorem enter31 (L : Lay) (D : Nat) (S : St) (w : World) (h : DiskAt L D S w) (h1 : 0 ≤ S.used) (h2 : S.used ≤ S.room) (h3 : S.room ≤ 9223372036854775807) (id k : Int) (hid : In64 id) (hk : In64 k)
    (hgood : ∀ x, S.get id = some x → Rising x.ents ∧ x.ents.length ≤ 999) (hlk : ∀ y, S.get k = some y → 0 ≤ y.links ∧ y.links ≤ 1000000) (hne : dirE (S.get id) = 0 → k ≠ id) (s : ByteArray) (hs : s.size ≤ maxLen) :
    Calls Try.prog 21 #[.pointer (some ⟨D, 0, none⟩), .int .i64 id, .string s, .int .i64 k] w (Acts L D (entS S id s k) (.int .i64 (entE S id s k)) w) := by
  have C := folder60 L D S w h id hid
  cases hx : S.get id with
  | none =>
    have e1 : entE S id s k = 12 := by unfold entE; rw [hx]
    have e2 : entS S id s k = S := if_neg (by rw [e1]; decide)
    rw [e1, e2]
    rw [hx] at C
    have F := Lib.hid (Acts.same (r := .int .i64 12) h (Below.refl _ w))
    replace C := Lib.hid C
    clear h e1 e2
    go_enter Try.func21, Try.ntmps21
    go_wp2_with (go_at_call 43; refine C.out.mono ?_; rintro e w' ⟨rfl, rfl⟩)
    go_ret
    exact F.out
  | some x =>
  obtain ⟨p, dv, ev, hp, hn⟩ := h.there id x hx
  rw [hx, hp] at C
  by_cases hkd : x.kind = 2
  rotate_left
  · have e0 : dirE (some x) = 14 := by simp [dirE, hkd]
    have e1 : entE S id s k = 14 := by unfold entE; rw [hx]; exact if_neg hkd
    have e2 : entS S id s k = S := if_neg (by rw [e1]; decide)
    rw [e1, e2]
    rw [e0] at C
    have F := Lib.hid (Acts.same (r := .int .i64 14) h (Below.refl _ w))
    replace C := Lib.hid C
    clear h e1 e2
    go_enter Try.func21, Try.ntmps21
    go_wp2_with (go_at_call 43; refine C.out.mono ?_; rintro e w' ⟨rfl, rfl⟩)
    go_ret
    exact F.out
  have e0 : dirE (some x) = 0 := by simp [dirE, hkd]
  rw [e0] at C
  replace C : Calls _ _ _ _ (fun e w' => e = .returned (.tuple #[.pointer (some ⟨p, 0, none⟩), .int .i64 0]) ∧ w = w') := C
  replace C := Lib.hid C
  have hne' : k ≠ id := hne (by rw [hx]; exact e0)
  have c3 := h.c3
  cases hy : S.get k with
  | none =>
    have e1 : entE S id s k = 12 := by unfold entE; rw [hx]; simp only; rw [if_pos hkd, hy]
    have e2 : entS S id s k = S := if_neg (by rw [e1]; decide)
    rw [e1, e2]
    have hl := h.look0 hk hy
    have F := Lib.hid (Acts.same (r := .int .i64 12) h (Below.refl _ w))
    clear h e1 e2 hn
    go_enter Try.func21, Try.ntmps21
    go_wp2_with (go_at_call 43; refine C.out.mono ?_; rintro e w' ⟨rfl, rfl⟩)
    go_ret
    exact F.out
  | some y =>
  obtain ⟨q, du, eu, hq, hny⟩ := h.there k y hy
  have hl := h.look1 hk hq
  have d0 := hny.c0
  have d2 := hny.c2
  obtain ⟨hl0, hl1⟩ := hlk y hy
  by_cases t1 : y.kind = 2 ∧ 0 < y.links
  · have e1 : entE S id s k = 22 := by unfold entE; rw [hx]; simp only; rw [if_pos hkd, hy]; simp only; rw [if_pos t1]
    have e2 : entS S id s k = S := if_neg (by rw [e1]; decide)
    rw [e1, e2]
    have F := Lib.hid (Acts.same (r := .int .i64 22) h (Below.refl _ w))
    rw [t1.1] at d0
    have t2 := t1.2
    clear h e1 e2 hn hny t1
    go_enter Try.func21, Try.ntmps21
    go_wp2_with (go_at_call 43; refine C.out.mono ?_; rintro e w' ⟨rfl, rfl⟩)
    go_ret
    exact F.out
  have t3 : (y.kind == 2) = false ∨ (y.kind = 2 ∧ ¬ 0 < y.links) := by
    by_cases e : y.kind = 2
    · exact .inr ⟨e, fun e' => t1 ⟨e, e'⟩⟩
    · exact .inl (by simpa using e)
  by_cases t2 : 32768 ≤ y.links
  · have e1 : entE S id s k = 24 := by unfold entE; rw [hx]; simp only; rw [if_pos hkd, hy]; simp only; rw [if_neg t1, if_pos t2]
    have e2 : entS S id s k = S := if_neg (by rw [e1]; decide)
    rw [e1, e2]
    have F := Lib.hid (Acts.same (r := .int .i64 24) h (Below.refl _ w))
    rcases t3 with t3 | ⟨t3, t4⟩
    · clear h e1 e2 hn hny t1
      go_enter Try.func21, Try.ntmps21
      go_wp2_with (go_at_call 43; refine C.out.mono ?_; rintro e w' ⟨rfl, rfl⟩)
      go_ret
      exact F.out
    · omega
  have e1 : entE S id s k = pEnt s x.ents s.size (S.room - S.used) := by unfold entE; rw [hx]; simp only; rw [if_pos hkd, hy]; simp only; rw [if_neg t1, if_neg t2]
  obtain ⟨g1, g2⟩ := hgood x hx
  have CP := put64 L D S w h h1 h2 h3 id x p hx hp g1 g2 s hs k s.size (by omega)
  by_cases h0 : pEnt s x.ents s.size (S.room - S.used) = 0
  rotate_left
  · have e2 : entS S id s k = S := if_neg (by rw [e1]; exact h0)
    have e3 : pSt S id x s k s.size = S := if_neg h0
    rw [e1, e2]
    rw [e3] at CP
    have h0' : (pEnt s x.ents s.size (S.room - S.used) != 0) = true := by simpa using h0
    generalize pEnt s x.ents s.size (S.room - S.used) = r at CP h0'
    replace CP := Lib.hid CP
    rcases t3 with t3 | ⟨t3, t4⟩ <;>
    · try rw [t3] at d0
      clear h e1 e2 e3 hn hny t1 h0
      go_enter Try.func21, Try.ntmps21
      go_wp2_with (go_at_call 43; refine C.out.mono ?_; rintro e w' ⟨rfl, rfl⟩)
      refine CP.out.mono ?_
      rintro e w1 q1
      have G := Lib.hid q1.acts
      obtain ⟨rfl, _⟩ := q1
      go_wp2
      go_ret
      exact G.out
  have e2 : entS S id s k = { ((S.put id { x with ents := putL s k x.ents }).put k { y with links := y.links + 1, up := id }) with used := S.used + s.size } := by unfold entS; rw [if_pos (by rw [e1]; exact h0), hx, hy]
  have e3 : pSt S id x s k s.size = { (S.put id { x with ents := putL s k x.ents }) with used := S.used + s.size } := if_pos h0
  rw [e1, e2, h0]
  rw [e3, h0] at CP
  replace CP := Lib.hid CP
  rcases t3 with t3 | ⟨t3, t4⟩ <;>
  · try rw [t3] at d0
    clear h e1 e2 e3 hn hny t1 h0
    go_enter Try.func21, Try.ntmps21
    go_wp2_with (go_at_call 43; refine C.out.mono ?_; rintro e w' ⟨rfl, rfl⟩)
    refine CP.out.mono ?_
    rintro e w1 ⟨rfl, L1, K1, E1, F1, G1⟩
    have hy1 : ({ (S.put id { x with ents := putL s k x.ents }) with used := S.used + s.size } : St).get k = some y := (St.put_other S _ hne').trans hy
    obtain ⟨q', du', eu', hq', N1⟩ := K1.there k y hy1
    obtain rfl : q' = q := by rw [G1, hq] at hq'; cases hq'; rfl
    clear d0 d2 c3 hl
    have d2 := N1.c2
    have f2 := N1.fr 2
    obtain ⟨K2, F2, N2⟩ := K1.setN hy1 N1 hq' 2 (.int .i64 (y.links + 1)) { y with links := y.links + 1 } rfl rfl rfl
    have d6 := N2.c6
    have f6 := N2.fr 6
    obtain ⟨K3, F3, N3⟩ := K2.setN (St.put_same _ _ _) N2 hq' 6 (.int .i64 id) { y with links := y.links + 1, up := id } rfl rfl rfl
    rw [St.put_put, St.put_used] at K3
    have G := Lib.hid (show Acts L D { ((S.put id { x with ents := putL s k x.ents }).put k { y with links := y.links + 1, up := id }) with used := S.used + s.size } (.int .i64 0) w (.returned (.int .i64 0)) _ from ⟨rfl, L1, K3, E1, (F1.trans E1 F2).trans E1 F3⟩)
    clear K1 K2 K3 N1 N2 N3 F1 F2 F3 E1 G1 hq' hy1
    go_wp2
    go_ret
    exact G.out
end Go.Proofs.Ytgdjoojghkdcbaa
