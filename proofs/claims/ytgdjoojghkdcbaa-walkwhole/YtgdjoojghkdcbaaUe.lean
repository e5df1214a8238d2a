/- put. Conditions: the directory's entries stand by rising names, at most 999; the room that is taken is within the room. -/
import Derived.Test.YtgdjoojghkdcbaaQ
namespace Go.Proofs.Ytgdjoojghkdcbaa
open Go.RowKit Go.PlainAid
set_option linter.unusedSimpArgs false

theorem St.put_self {S : St} {k : Int} {x : Nd} (h : S.get k = some x) : S.put k x = S := by
  unfold St.put
  have : (fun j => if j = k then some x else S.get j) = S.get := by
    funext j
    by_cases e : j = k
    · rw [if_pos e, e, h]
    · rw [if_neg e]
  rw [this]
theorem St.put_put (S : St) (k : Int) (x y : Nd) : (S.put k x).put k y = S.put k y := by
  unfold St.put
  simp only [St.mk.injEq, true_and]
  funext j
  by_cases e : j = k
  · rw [if_pos e, if_pos e]
  · rw [if_neg e, if_neg e, if_neg e]

/-- A directory's call has changed a node's entries. -/
theorem did_turn {L : Lay} {D : Nat} {S : St} {w w' : World} (h : DiskAt L D S w) {k : Int} {x : Nd} {p : Nat} {dv ev : Value} (hk : S.get k = some x) (hf : L.f k = some p) (hn : NodeAt L.ow k p x dv ev w)
    {l' : List En} {v' : Value} (hd : DirAt p (x.nc dv) 0 v' l' w') (hm : Moves p ev.ownBlock w w') (hne : Near w ev v') :
    ∃ L', DiskAt L' D (S.put k { x with ents := l' }) w' ∧ Ext L L' w ∧ Fr L w w' ∧ L'.f = L.f ∧ L'.M = L.M ∧ NodeAt L'.ow k p { x with ents := l' } dv v' w' := by
  have hb : ∀ b, b < w.heap.size → L.ow b ≠ k → w'.heap[b]? = w.heap[b]? := fun b hl ho => hm.block b hl (fun e => ho (by rw [e]; exact hn.op)) (fun e => ho (hn.oe b e.symm))
  refine h.turn (x' := { x with ents := l' }) hk hf hn hm.os hm.tape hm.output hm.size hb hd.blk ?_ hd.row (fun b e => .inl (hn.od b e)) (fun b e => ?_)
  · refine hn.data.keep fun b e hl => hm.block b hl ?_ ?_
    · rintro rfl
      exact hn.data.ne hn.blk (by decide) e
    · intro e'
      rcases hn.row.cases with ⟨h1, _⟩ | ⟨g, cap, cur, h1, _, hg, _⟩
      · rw [h1] at e'; simp [Value.ownBlock] at e'
      · rw [h1] at e'
        simp [Value.ownBlock] at e'
        subst e'
        exact hn.data.ne hg (by decide) e
  · rcases hne b e with h1 | h1
    · exact .inl (hn.oe b h1)
    · exact .inr h1

def pEnt (s : ByteArray) (l : List En) (more free : Int) : Int := if putE s l = 0 then (if free < more then 20 else 0) else putE s l
def pSt (S : St) (id : Int) (x : Nd) (s : ByteArray) (k more : Int) : St := if pEnt s x.ents more (S.room - S.used) = 0 then { (S.put id { x with ents := putL s k x.ents }) with used := S.used + more } else S

/-- What put leaves: the node's number leads where it led. -/
def Acts2 (L : Lay) (D : Nat) (S' : St) (r : Value) (w : World) (e : Ending) (w' : World) : Prop := e = .returned r ∧ ∃ L', DiskAt L' D S' w' ∧ Ext L L' w ∧ Fr L w w' ∧ L'.f = L.f
theorem Acts2.acts {L : Lay} {D : Nat} {S' : St} {r : Value} {w : World} {e : Ending} {w' : World} (h : Acts2 L D S' r w e w') : Acts L D S' r w e w' := ⟨h.1, let ⟨L', h1, h2, h3, _⟩ := h.2; ⟨L', h1, h2, h3⟩⟩

set_option maxHeartbeats 2000000 in
set_option maxRecDepth 100000 in
theorem put64 (L : Lay) (D : Nat) (S : St) (w : World) (h : DiskAt L D S w) (h1 : 0 ≤ S.used) (h2 : S.used ≤ S.room) (h3 : S.room ≤ 9223372036854775807) (id : Int) (x : Nd) (p : Nat) (hx : S.get id = some x) (hp : L.f id = some p) (hr : Rising x.ents) (hl : x.ents.length ≤ 999) (s : ByteArray) (hs : s.size ≤ maxLen) (k more : Int) (hm0 : 0 ≤ S.used + more) :
    Calls Try.prog 44 #[.pointer (some ⟨D, 0, none⟩), .pointer (some ⟨p, 0, none⟩), .string s, .int .i64 k, .int .i64 more] w (Acts2 L D (pSt S id x s k more) (.int .i64 (pEnt s x.ents more (S.room - S.used))) w) := by
  obtain ⟨p', dv, ev, hp', hn⟩ := h.there id x hx
  rw [hp] at hp'
  cases hp'
  have C := put16 p (x.nc dv) 0 ev x.ents s k w hn.dir hr (by omega) hs (Nat.zero_le _)
  by_cases h0 : putE s x.ents = 0
  rotate_left
  · have e1 : pEnt s x.ents more (S.room - S.used) = putE s x.ents := if_neg h0
    have e2 : pSt S id x s k more = S := if_neg (by rw [e1]; exact h0)
    have e3 : putL s k x.ents = x.ents := put_same h0
    rw [e1, e2]
    rw [e3] at C
    have F : ∀ w' r v', DirAt p (x.nc dv) 0 v' x.ents w' → Moves p ev.ownBlock w w' → Near w ev v' → Acts2 L D S r w (.returned r) w' := by
      intro w' r v' q1 q2 q3
      obtain ⟨L', r1, r2, r3, r4, r5, _⟩ := did_turn h hx hp hn q1 q2 q3
      rw [St.put_self (x := { x with ents := x.ents }) hx] at r1
      exact ⟨rfl, L', r1, r2, r3, r4⟩
    replace F := Lib.hid F
    have h0' : (putE s x.ents != 0) = true := by simpa using h0
    generalize putE s x.ents = r at C h0'
    replace C := Lib.hid C
    clear h hn e1 e2 e3 h0 hx hp
    go_enter Try.func44, Try.ntmps44
    go_wp2_with fail
    refine C.out.mono ?_
    rintro e w1 ⟨v', rfl, q1, q2, q3⟩
    have G := Lib.hid (F.out w1 (.int .i64 r) v' q1 q2 q3)
    clear q1 q2 q3
    go_wp2
    go_ret
    exact G.out
  have hrise := rising_put (s := s) (n := k) hr
  have hlen := put_len s k x.ents
  obtain ⟨_, _, hback⟩ := put_back (n := k) hr h0
  rw [h0] at C
  replace C := Lib.hid C
  have T : ∀ w' v', DirAt p (x.nc dv) 0 v' (putL s k x.ents) w' → Moves p ev.ownBlock w w' → Near w ev v' → _ := fun w' v' q1 q2 q3 => did_turn h hx hp hn q1 q2 q3
  replace T := Lib.hid T
  by_cases h6 : S.room - S.used < more
  · have e1 : pEnt s x.ents more (S.room - S.used) = 20 := by unfold pEnt; rw [if_pos h0, if_pos h6]
    have e2 : pSt S id x s k more = S := by unfold pSt; rw [e1]; rfl
    rw [e1, e2]
    clear hn e1 e2 h0 h
    go_enter Try.func44, Try.ntmps44
    go_wp2_with fail
    refine C.out.mono ?_
    rintro e w1 ⟨v', rfl, q1, q2, q3⟩
    obtain ⟨L1, K1, E1, F1, G1, M1, N1⟩ := T.out w1 v' q1 q2 q3
    clear q1 q2 q3
    have CF : Hid (Calls Try.prog 71 #[.pointer (some ⟨D, 0, none⟩)] w1 fun e w' => e = .returned (.int .i64 (S.room - S.used)) ∧ ∃ n, w' = w1.drewN n) := Lib.hid (free55 L1 D (S.put id { x with ents := putL s k x.ents }) w1 K1 h1 h2 h3)
    have HK := Lib.hid K1
    have HN := Lib.hid N1
    have HE := Lib.hid E1
    have HF := Lib.hid F1
    have HG := Lib.hid G1
    clear K1 E1 F1 G1 N1
    go_wp2_with fail
    refine CF.out.mono ?_
    rintro e w2 ⟨rfl, n, rfl⟩
    have B := below_drawn w1 n
    have K2 := HK.out.below B
    have N2 := HN.out.keep (ow' := L1.ow) (w' := w1.drewN n) (fun b hl ho => ⟨B.block b hl, ho⟩)
    have CD := Lib.hid (drop17 p _ 0 v' (putL s k x.ents) s _ N2.dir hrise (by omega))
    have F2 := Lib.hid (Fr.of_below (L := L1) B)
    have HK2 := Lib.hid K2
    have HN2 := Lib.hid N2
    have HFF := Lib.hid (HF.out.trans HE.out F2.out)
    clear K2 N2 B F2
    generalize w1.drewN n = w2 at CD HK2 HN2 HFF
    rw [hback] at CD
    go_wp2_with fail
    refine CD.out.mono ?_
    rintro e w3 ⟨v3, rfl, q1, q2, q3⟩
    have hp1 : L1.f id = some p := by rw [HG.out]; exact hp
    obtain ⟨L3, K3, E3, F3, G3, M3, N3⟩ := did_turn HK2.out (x := { x with ents := putL s k x.ents }) (St.put_same _ _ _) hp1 HN2.out q1 q2 q3
    have hS : ((S.put id { x with ents := putL s k x.ents }).put id { x with ents := x.ents }) = S := by rw [St.put_put]; exact St.put_self hx
    have E13 : Ext L L3 w := HE.out.trans E3 HFF.out.size
    have F13 : Fr L w w3 := HFF.out.trans HE.out F3
    have G := Lib.hid (show Acts2 L D S (.int .i64 20) w (.returned (.int .i64 20)) w3 from ⟨rfl, L3, by rw [← hS]; exact K3, E13, F13, by rw [G3, HG.out]⟩)
    clear q1 q2 q3 K3 E3 F3 G3 N3 E13 F13
    go_wp2
    go_ret
    exact G.out
  have e1 : pEnt s x.ents more (S.room - S.used) = 0 := by unfold pEnt; rw [if_pos h0, if_neg h6]
  have e2 : pSt S id x s k more = { (S.put id { x with ents := putL s k x.ents }) with used := S.used + more } := by unfold pSt; rw [if_pos e1]
  rw [e1, e2]
  clear hn e1 e2 h0 h
  go_enter Try.func44, Try.ntmps44
  go_wp2_with fail
  refine C.out.mono ?_
  rintro e w1 ⟨v', rfl, q1, q2, q3⟩
  obtain ⟨L1, K1, E1, F1, G1, M1, N1⟩ := T.out w1 v' q1 q2 q3
  clear q1 q2 q3
  have CF : Hid (Calls Try.prog 71 #[.pointer (some ⟨D, 0, none⟩)] w1 fun e w' => e = .returned (.int .i64 (S.room - S.used)) ∧ ∃ n, w' = w1.drewN n) := Lib.hid (free55 L1 D (S.put id { x with ents := putL s k x.ents }) w1 K1 h1 h2 h3)
  have HK := Lib.hid K1
  have HE := Lib.hid E1
  have HF := Lib.hid F1
  have HG := Lib.hid G1
  clear K1 E1 F1 G1 N1
  go_wp2_with fail
  refine CF.out.mono ?_
  rintro e w2 ⟨rfl, n, rfl⟩
  have B := below_drawn w1 n
  have K2 := HK.out.below B
  have F2 := Lib.hid (Fr.of_below (L := L1) B)
  have HFF := Lib.hid (HF.out.trans HE.out F2.out)
  generalize w1.drewN n = w2 at K2 HFF
  have c1 : w2.cell? ⟨D, 1, none⟩ = some (.int .i64 S.used) := K2.c1
  have f1 := K2.fr 1
  obtain ⟨K3, F3⟩ := K2.setUsed (S.used + more)
  have G := Lib.hid (show Acts2 L D { (S.put id { x with ents := putL s k x.ents }) with used := S.used + more } (.int .i64 0) w (.returned (.int .i64 0)) _ from ⟨rfl, L1, K3, HE.out, HFF.out.trans HE.out F3, HG.out⟩)
  clear K2 K3 F3 F2 B
  go_wp2
  go_ret
  exact G.out
end Go.Proofs.Ytgdjoojghkdcbaa
