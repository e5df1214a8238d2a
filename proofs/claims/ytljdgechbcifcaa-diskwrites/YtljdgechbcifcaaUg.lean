/- Write. Conditions: a node's bytes and the text are few; the room that is taken is within the room. -/
import Derived.Test.YtljdgechbcifcaaUf
namespace Go.Proofs.Ytljdgechbcifcaa
open Go.RowKit Go.PlainAid
set_option linter.unusedSimpArgs false

/-- How many bytes there are more. -/
def moreN (d : ByteArray) (at_ : Nat) (s : ByteArray) : Nat := at_ + s.size - d.size
/-- The bytes behind a write. -/
def wrD (d : ByteArray) (at_ : Nat) (s : ByteArray) : ByteArray := over (mk (ls d ++ List.replicate (moreN d at_ s) 0)) at_ s
theorem wrD_size (d : ByteArray) (at_ : Nat) (s : ByteArray) : (wrD d at_ s).size = d.size + moreN d at_ s := by
  unfold wrD
  rw [over_size, mk_size]
  · simp
  · rw [mk_size]; unfold moreN; simp; omega
theorem Byts.full {v : Value} {s : ByteArray} {w : World} (h : Byts v s w) (hs : 0 < s.size) : ∃ g c, v = .slice (some ⟨g, 0, none⟩) s.size c := by
  rcases h with ⟨_, h⟩ | ⟨g, cap, cur, fr, rfl, _⟩
  · omega
  · exact ⟨g, cap, rfl⟩

theorem Byts.cap {g n c : Nat} {s : ByteArray} {w : World} (h : Byts (.slice (some ⟨g, 0, none⟩) n c) s w) : s.size ≤ c := by
  rcases h with ⟨h, _⟩ | ⟨g', cap, cur, fr, h, _, _, _, h5, _⟩
  · cases h
  · simp at h; omega

theorem write_turn {L : Lay} {D : Nat} {S : St} {w w1 w3 : World} (h : DiskAt L D S w) {k : Int} {x : Nd} {p : Nat} {dv ev : Value} (hk : S.get k = some x) (hf : L.f k = some p) (hn : NodeAt L.ow k p x dv ev w)
    {g n c : Nat} {d1 d2 : ByteArray} (h1 : Byts (.slice (some ⟨g, 0, none⟩) n c) d1 w1) (g1 : w.grownBy w1 dv.ownBlock) (n1 : Near w dv (.slice (some ⟨g, 0, none⟩) n c))
    (h3 : Byts (.slice (some ⟨g, 0, none⟩) n c) d2 w3) (g3 : (w1.setCell ⟨p, 4, none⟩ (.slice (some ⟨g, 0, none⟩) n c)).grownBy w3 (some g)) :
    ∃ L', DiskAt L' D (S.put k { x with data := d2 }) w3 ∧ Ext L L' w ∧ Fr L w w3 ∧ L'.f = L.f ∧ L'.M = L.M ∧ NodeAt L'.ow k p { x with data := d2 } (.slice (some ⟨g, 0, none⟩) n c) ev w3 := by
  have hs1 := g1.size
  have hs3 := g3.size
  have hs2 : (w1.setCell ⟨p, 4, none⟩ (.slice (some ⟨g, 0, none⟩) n c)).heap.size = w1.heap.size := by simp [World.setCell]
  have hplt := lt_of_block hn.blk
  have hpd : some p ≠ dv.ownBlock := fun e => hn.data.ne hn.blk (by decide) e.symm
  have hp1 : w1.heap[p]? = some (.cells ((x.nc dv).fill ev) 74 (0, 0)) := (g1.block p hplt hpd).trans hn.blk
  have hgp : g ≠ p := by
    rintro rfl
    exact h1.ne hp1 (by decide) rfl
  have hb : ∀ b, b < w.heap.size → L.ow b ≠ k → w3.heap[b]? = w.heap[b]? := by
    intro b hl ho
    have hbp : b ≠ p := by rintro rfl; exact ho hn.op
    have hbg : b ≠ g := by
      rintro rfl
      rcases n1 b rfl with e | e
      · exact ho (hn.od b e)
      · omega
    rw [g3.block b (by omega) (fun e => hbg (by simpa using e)), Below.heap_setCell _ _ _ _ hbp, g1.block b hl (fun e => ho (hn.od b e.symm))]
  refine h.turn (x' := { x with data := d2 }) hk hf hn (g3.os.trans g1.os) (g3.tape.trans g1.tape) (g3.output.trans g1.output) (by omega) hb ?_ h3 ?_ (fun b e => ?_) (fun b e => .inl (hn.oe b e))
  · rw [g3.block p (by omega) (fun e => hgp (by simpa using e.symm)), blk_setCell hp1]
    rfl
  · refine hn.row.keep fun b e hl => ?_
    have hbp : b ≠ p := by rintro rfl; exact hn.row.ne hn.blk (by decide) e
    rcases hn.row.cases with ⟨h5, _⟩ | ⟨gr, cap, cur, h5, _, hgr, _⟩
    · rw [h5] at e; simp [Value.ownBlock] at e
    rw [h5] at e
    simp [Value.ownBlock] at e
    subst e
    have hd : some gr ≠ dv.ownBlock := fun e => hn.data.ne hgr (by decide) e.symm
    have hbg : gr ≠ g := by
      rintro rfl
      exact h1.ne ((g1.block gr hl hd).trans hgr) (by decide) rfl
    rw [g3.block gr (by omega) (fun e => hbg (by simpa using e)), Below.heap_setCell _ _ _ _ hbp, g1.block gr hl hd]
  · rcases n1 b e with e | e
    · exact .inl (hn.od b e)
    · exact .inr e

/-- Write's error. -/
def wrE (S : St) (id at_ : Int) (s : ByteArray) : Int := match S.get id with
  | none => 12
  | some x => if fileE (some x) ≠ 0 then fileE (some x) else if at_ < 0 then 10 else if s.size = 0 then 0 else if 4194304 - (s.size : Int) < at_ then 18 else if S.room - S.used < moreN x.data at_.toNat s then 20 else 0
def wrS (S : St) (id at_ : Int) (s : ByteArray) : St := if wrE S id at_ s = 0 ∧ s.size ≠ 0 then (match S.get id with
  | some x => { (S.put id { x with data := wrD x.data at_.toNat s }) with used := S.used + moreN x.data at_.toNat s }
  | none => S) else S

set_option maxHeartbeats 2000000 in
set_option maxRecDepth 100000 in
theorem write25 (L : Lay) (D : Nat) (S : St) (w : World) (h : DiskAt L D S w) (h1 : 0 ≤ S.used) (h2 : S.used ≤ S.room) (h3 : S.room ≤ 9223372036854775807) (id at_ : Int) (hid : In64 id) (hat : In64 at_) (hd : ∀ x, S.get id = some x → x.data.size ≤ 4194304) (s : ByteArray) (hs : s.size ≤ maxLen) :
    Calls Try.prog 25 #[.pointer (some ⟨D, 0, none⟩), .int .i64 id, .int .i64 at_, .string s] w (Acts L D (wrS S id at_ s) (.int .i64 (wrE S id at_ s)) w) := by
  have C := file54 L D S w h id hid
  unfold maxLen at hs
  cases hx : S.get id with
  | none =>
    have e1 : wrE S id at_ s = 12 := by unfold wrE; rw [hx]
    have e2 : wrS S id at_ s = S := if_neg (by rw [e1]; omega)
    rw [e1, e2]
    rw [hx] at C
    have F := Lib.hid (Acts.same (r := .int .i64 12) h (Below.refl _ w))
    replace C := Lib.hid C
    clear h e1 e2
    go_enter Try.func25, Try.ntmps25
    go_wp2_with (go_at_call 54; refine C.out.mono ?_; rintro e w' ⟨rfl, rfl⟩)
    go_ret
    exact F.out
  | some x =>
  obtain ⟨p, dv, ev, hp, hn⟩ := h.there id x hx
  rw [hx, hp] at C
  by_cases hkd : fileE (some x) = 0
  rotate_left
  · have e1 : wrE S id at_ s = fileE (some x) := by unfold wrE; rw [hx]; exact if_pos hkd
    have e2 : wrS S id at_ s = S := if_neg (by rw [e1]; exact fun e => hkd e.1)
    rw [e1, e2]
    have F := Lib.hid (fun r => Acts.same (r := r) h (Below.refl _ w))
    have e3 : okPtr (fileE (some x)) (some p) = .pointer none := if_neg hkd
    rw [e3] at C
    have hkd' : (fileE (some x) != 0) = true := by simpa using hkd
    generalize fileE (some x) = r at C hkd'
    replace C := Lib.hid C
    clear h e1 e2 e3 hkd hn
    go_enter Try.func25, Try.ntmps25
    go_wp2_with (go_at_call 54; refine C.out.mono ?_; rintro e w' ⟨rfl, rfl⟩)
    go_ret
    exact F.out _
  have ew : wrE S id at_ s = if at_ < 0 then 10 else if s.size = 0 then 0 else if 4194304 - (s.size : Int) < at_ then 18 else if S.room - S.used < moreN x.data at_.toNat s then 20 else 0 := by
    unfold wrE; rw [hx]; simp only; rw [if_neg (fun e => e hkd)]
  rw [hkd] at C
  replace C : Calls _ _ _ _ (fun e w' => e = .returned (.tuple #[.pointer (some ⟨p, 0, none⟩), .int .i64 0]) ∧ w = w') := C
  replace C := Lib.hid C
  by_cases ha : at_ < 0
  · have e1 : wrE S id at_ s = 10 := by rw [ew, if_pos ha]
    have e2 : wrS S id at_ s = S := if_neg (by rw [e1]; omega)
    rw [e1, e2]
    have F := Lib.hid (fun r => Acts.same (r := r) h (Below.refl _ w))
    clear h e1 e2 hn ew
    go_enter Try.func25, Try.ntmps25
    go_wp2_with (go_at_call 54; refine C.out.mono ?_; rintro e w' ⟨rfl, rfl⟩)
    go_ret
    exact F.out _
  obtain ⟨a, rfl⟩ : ∃ a : Nat, at_ = a := ⟨at_.toNat, by omega⟩
  rw [if_neg ha] at ew
  clear ha
  by_cases hz : s.size = 0
  · have e1 : wrE S id a s = 0 := by rw [ew, if_pos hz]
    have e2 : wrS S id a s = S := if_neg (fun e => e.2 hz)
    rw [e1, e2]
    have F := Lib.hid (fun r => Acts.same (r := r) h (Below.refl _ w))
    have he := toList_em hz
    clear h e1 e2 hn ew
    go_enter Try.func25, Try.ntmps25
    go_wp2_with (go_at_call 54; refine C.out.mono ?_; rintro e w' ⟨rfl, rfl⟩)
    go_ret
    exact F.out _
  rw [if_neg hz] at ew
  have he := toList_ne hz
  by_cases hlong : 4194304 - (s.size : Int) < a
  · have e1 : wrE S id a s = 18 := by rw [ew, if_pos hlong]
    have e2 : wrS S id a s = S := if_neg (by rw [e1]; omega)
    rw [e1, e2]
    have F := Lib.hid (fun r => Acts.same (r := r) h (Below.refl _ w))
    clear h e1 e2 hn ew
    go_enter Try.func25, Try.ntmps25
    go_wp2_with (go_at_call 54; refine C.out.mono ?_; rintro e w' ⟨rfl, rfl⟩)
    go_ret
    exact F.out _
  rw [if_neg hlong] at ew
  have hmax : max (0 : Int) ((a : Int) + s.size - x.data.size) = moreN x.data a s := by unfold moreN; omega
  have hm4 : moreN x.data a s ≤ 4194304 := by unfold moreN; omega
  have hds := hd x hx
  have d4 := hn.c4
  obtain ⟨da, dc, hdv⟩ := hn.data.shape
  rw [hdv] at d4
  have CF := Lib.hid (free55 L D S w h h1 h2 h3)
  simp only [Int.toNat_natCast] at ew
  by_cases hsp : S.room - S.used < moreN x.data a s
  · have e1 : wrE S id a s = 20 := by rw [ew, if_pos hsp]
    have e2 : wrS S id a s = S := if_neg (by rw [e1]; omega)
    rw [e1, e2]
    have F := Lib.hid (fun r n => Acts.same (r := r) h (below_drawn w n))
    generalize moreN x.data a s = m at hmax hsp hm4
    clear h e1 e2 hn ew
    go_enter Try.func25, Try.ntmps25
    go_wp2_with (first | (go_at_call 54; refine C.out.mono ?_; rintro e w' ⟨rfl, rfl⟩) | (go_at_call 55; refine CF.out.mono ?_; rintro e w' ⟨rfl, n, rfl⟩))
    go_ret
    exact F.out _ _
  have e1 : wrE S id a s = 0 := by rw [ew, if_neg hsp]
  have e2 : wrS S id a s = { (S.put id { x with data := wrD x.data a s }) with used := S.used + moreN x.data a s } := by
    unfold wrS; rw [if_pos ⟨e1, hz⟩, hx]; rfl
  rw [e1, e2]
  have HT : Hid (∀ w1 w3 (g n c : Nat) (d1 d2 : ByteArray), DiskAt L D S w1 → NodeAt L.ow id p x dv ev w1 → ∀ w2, Byts (.slice (some ⟨g, 0, none⟩) n c) d1 w2 → w1.grownBy w2 dv.ownBlock → Near w1 dv (.slice (some ⟨g, 0, none⟩) n c) →
    Byts (.slice (some ⟨g, 0, none⟩) n c) d2 w3 → (w2.setCell ⟨p, 4, none⟩ (.slice (some ⟨g, 0, none⟩) n c)).grownBy w3 (some g) → ∃ L', DiskAt L' D (S.put id { x with data := d2 }) w3 ∧ Ext L L' w1 ∧ Fr L w1 w3) :=
    Lib.hid (fun w1 w3 g n c d1 d2 k1 k2 w2 q1 q2 q3 q4 q5 => by obtain ⟨L', r1, r2, r3, _⟩ := write_turn k1 hx hp k2 q1 q2 q3 q4 q5; exact ⟨L', r1, r2, r3⟩)
  have HWD : Hid (wrD x.data a s = over (mk (ls x.data ++ List.replicate (moreN x.data a s) 0)) a s) := rfl
  have hbig : a + s.size ≤ x.data.size + moreN x.data a s := by unfold moreN; omega
  have hspos : 0 < s.size := by omega
  generalize wrD x.data a s = d2 at HWD
  have hcase : (Hid (moreN x.data a s = 0) ∧ ¬ (0 : Int) < (a : Int) + s.size - x.data.size) ∨ ((0 : Int) < (a : Int) + s.size - x.data.size ∧ (a : Int) + s.size - x.data.size = moreN x.data a s) := by
    by_cases e : moreN x.data a s = 0
    · exact .inl ⟨Lib.hid e, by unfold moreN at e; omega⟩
    · exact .inr (by unfold moreN at e ⊢; omega)
  generalize moreN x.data a s = m at hmax hsp hm4 HWD hbig hcase
  have HN := Lib.hid hn
  have H := Lib.hid h
  clear h e1 e2 hn ew
  rcases hcase with ⟨hm0, hca⟩ | ⟨hca, hm0⟩ <;>
  · go_enter Try.func25, Try.ntmps25
    go_wp2_with (go_at_call 54; refine C.out.mono ?_; rintro e w' ⟨rfl, rfl⟩)
    refine CF.out.mono ?_
    rintro e w0 ⟨rfl, n, rfl⟩
    have B0 := below_drawn w n
    have K0 := H.out.below B0
    have N0 := HN.out.keep (ow' := L.ow) (w' := w.drewN n) (fun b hl ho => ⟨B0.block b hl, ho⟩)
    have HB0 := Lib.hid B0
    clear H HN d4 B0
    generalize w.drewN n = w0 at K0 N0 HB0
    have d4 := N0.c4
    have f4 := N0.fr 4
    have hby := N0.data
    have hne4 : ∀ w1, w0.grownBy w1 dv.ownBlock → w1.cell? ⟨p, 4, none⟩ = some dv ∧ w1.frozen? ⟨p, 4, none⟩ = false := by
      intro w1 hg
      have : w1.heap[p]? = some (.cells ((x.nc dv).fill ev) 74 (0, 0)) := (hg.block p (lt_of_block N0.blk) (fun e => N0.data.ne N0.blk (by decide) e.symm)).trans N0.blk
      exact ⟨cells_at this rfl, free_at this⟩
    have HNE := Lib.hid hne4
    have HBY := Lib.hid hby
    have HK0 := Lib.hid K0
    have HN0 := Lib.hid N0
    clear K0 N0 hby hne4
    rw [hdv] at d4
    go_wp2_with (at_builtin; refine wpList_zeros rfl _ _ rfl _ m rfl (by first | rfl | (rw [hm0.out]; rfl)) x.data (by rw [← hdv]; exact HBY.out) (by omega) ?_)
    rw [← hdv]
    intro v' w1 q1 q2 q3
    have hsz : (mk (ls x.data ++ List.replicate m 0)).size = x.data.size + m := by rw [mk_size]; simp
    obtain ⟨g, c, hv'⟩ := q1.full (by omega)
    rw [hsz] at hv'
    subst hv'
    obtain ⟨c4, f4'⟩ := HNE.out w1 q2
    rw [hdv] at c4
    have hset : Byts (.slice (some ⟨g, 0, none⟩) (x.data.size + m) c) (mk (ls x.data ++ List.replicate m 0)) (w1.setCell ⟨p, 4, none⟩ (.slice (some ⟨g, 0, none⟩) (x.data.size + m) c)) := by
      refine q1.keep fun b e _ => Below.heap_setCell _ _ _ _ ?_
      intro e0
      rw [e0] at e
      have hp1 := (q2.block p (lt_of_block HN0.out.blk) (fun e => HN0.out.data.ne HN0.out.blk (by decide) e.symm)).trans HN0.out.blk
      exact q1.ne hp1 (by decide) e
    rw [← hsz] at hset
    have c4b : (w1.setCell ⟨p, 4, none⟩ (.slice (some ⟨g, 0, none⟩) (x.data.size + m) c)).cell? ⟨p, 4, none⟩ = some (.slice (some ⟨g, 0, none⟩) (x.data.size + m) c) := by
      have hp1 := (q2.block p (lt_of_block HN0.out.blk) (fun e => HN0.out.data.ne HN0.out.blk (by decide) e.symm)).trans HN0.out.blk
      exact cells_at (blk_setCell hp1 _) rfl
    have HQ1 := Lib.hid q1
    have HQ2 := Lib.hid q2
    have HQ3 := Lib.hid q3
    have HSET := Lib.hid hset
    have hcle : x.data.size + m ≤ c := by rw [← hsz]; exact q1.cap
    have hale : a ≤ x.data.size + m := by omega
    clear q1 q2 q3 d4 f4 hset
    go_wp2_with (with_reducible refine wpList_copyS rfl (.tmp 59) (.tmp 60) rfl g a _ _ c _ s rfl rfl (by rw [← hsz] at *; exact HSET.out) (by omega) (by omega) ?_)
    intro w3 r1 r2
    obtain ⟨L', K3, E3, F3⟩ := HT.out w0 w3 g _ c _ _ HK0.out HN0.out w1 HQ1.out HQ2.out HQ3.out r1 r2
    rw [← HWD.out] at K3
    have k1 : w3.cell? ⟨D, 1, none⟩ = some (.int .i64 S.used) := K3.c1
    have kf := K3.fr 1
    obtain ⟨K4, F4⟩ := K3.setUsed (S.used + m)
    have F0 : Fr L w w0 := .of_below HB0.out
    have E03 : Ext L L' w := (Ext.refl L w).trans E3 F0.size
    have F04 : Fr L w w3 := F0.trans (.refl L w) F3
    have G := Lib.hid (show Acts L D { (S.put id { x with data := d2 }) with used := S.used + m } (.int .i64 0) w (.returned (.int .i64 0)) _ from ⟨rfl, L', K4, E03, F04.trans E03 F4⟩)
    clear K3 E3 F3 K4 F4 F0 E03 F04 r1 r2
    try (have hm1 : S.used + (m : Int) = S.used := (by rw [hm0.out]; simp); rw [hm1] at G ⊢)
    go_wp2
    go_ret
    exact G.out
end Go.Proofs.Ytljdgechbcifcaa
