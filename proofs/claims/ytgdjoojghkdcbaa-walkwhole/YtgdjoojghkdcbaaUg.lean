/- Write. Conditions: a node's bytes and the text are few; the room that is taken is within the room. -/
import Derived.Test.YtgdjoojghkdcbaaUf
namespace Go.Proofs.Ytgdjoojghkdcbaa
open Go.RowKit Go.PlainAid
set_option linter.unusedSimpArgs false

/-- How many bytes there are more. -/
def moreN (d : ByteArray) (at_ : Nat) (s : ByteArray) : Nat := at_ + s.size - d.size
/-- The bytes behind a write. -/
def wrD (d : ByteArray) (at_ : Nat) (s : ByteArray) : ByteArray := over (mk (ls d ++ List.replicate (moreN d at_ s) 0)) at_ s
theorem wrD_size (d : ByteArray) (at_ : Nat) (s : ByteArray) : (wrD d at_ s).size = d.size + moreN d at_ s := by
  unfold wrD
  rw [over_size, mk_size]
  · simp
  · rw [mk_size]; unfold moreN; simp; omega
theorem Byts.full {v : Value} {s : ByteArray} {w : World} (h : Byts v s w) (hs : 0 < s.size) : ∃ g c, v = .slice (some ⟨g, 0, none⟩) s.size c := by
  rcases h with ⟨_, h⟩ | ⟨g, cap, cur, fr, rfl, _⟩
  · omega
  · exact ⟨g, cap, rfl⟩

theorem Byts.cap {g n c : Nat} {s : ByteArray} {w : World} (h : Byts (.slice (some ⟨g, 0, none⟩) n c) s w) : s.size ≤ c := by
  rcases h with ⟨h, _⟩ | ⟨g', cap, cur, fr, h, _, _, _, h5, _⟩
  · cases h
  · simp at h; omega

theorem write_turn {L : Lay} {D : Nat} {S : St} {w w1 w3 : World} (h : DiskAt L D S w) {k : Int} {x : Nd} {p : Nat} {dv ev : Value} (hk : S.get k = some x) (hf : L.f k = some p) (hn : NodeAt L.ow k p x dv ev w)
    {g n c : Nat} {d1 d2 : ByteArray} (h1 : Byts (.slice (some ⟨g, 0, none⟩) n c) d1 w1) (g1 : w.grownBy w1 dv.ownBlock) (n1 : Near w dv (.slice (some ⟨g, 0, none⟩) n c))
    (h3 : Byts (.slice (some ⟨g, 0, none⟩) n c) d2 w3) (g3 : (w1.setCell ⟨p, 4, none⟩ (.slice (some ⟨g, 0, none⟩) n c)).grownBy w3 (some g)) :
    ∃ L', DiskAt L' D (S.put k { x with data := d2 }) w3 ∧ Ext L L' w ∧ Fr L w w3 ∧ L'.f = L.f ∧ L'.M = L.M ∧ NodeAt L'.ow k p { x with data := d2 } (.slice (some ⟨g, 0, none⟩) n c) ev w3 := by
  have hs1 := g1.size
  have hs3 := g3.size
  have hs2 : (w1.setCell ⟨p, 4, none⟩ (.slice (some ⟨g, 0, none⟩) n c)).heap.size = w1.heap.size := by simp [World.setCell]
  have hplt := lt_of_block hn.blk
  have hpd : some p ≠ dv.ownBlock := fun e => hn.data.ne hn.blk (by decide) e.symm
  have hp1 : w1.heap[p]? = some (.cells ((x.nc dv).fill ev) 91 (0, 0)) := (g1.block p hplt hpd).trans hn.blk
  have hgp : g ≠ p := by
    rintro rfl
    exact h1.ne hp1 (by decide) rfl
  have hb : ∀ b, b < w.heap.size → L.ow b ≠ k → w3.heap[b]? = w.heap[b]? := by
    intro b hl ho
    have hbp : b ≠ p := by rintro rfl; exact ho hn.op
    have hbg : b ≠ g := by
      rintro rfl
      rcases n1 b rfl with e | e
      · exact ho (hn.od b e)
      · omega
    rw [g3.block b (by omega) (fun e => hbg (by simpa using e)), Below.heap_setCell _ _ _ _ hbp, g1.block b hl (fun e => ho (hn.od b e.symm))]
  refine h.turn (x' := { x with data := d2 }) hk hf hn (g3.os.trans g1.os) (g3.tape.trans g1.tape) (g3.output.trans g1.output) (by omega) hb ?_ h3 ?_ (fun b e => ?_) (fun b e => .inl (hn.oe b e))
  · rw [g3.block p (by omega) (fun e => hgp (by simpa using e.symm)), blk_setCell hp1]
    rfl
  · refine hn.row.keep fun b e hl => ?_
    have hbp : b ≠ p := by rintro rfl; exact hn.row.ne hn.blk (by decide) e
    rcases hn.row.cases with ⟨h5, _⟩ | ⟨gr, cap, cur, h5, _, hgr, _⟩
    · rw [h5] at e; simp [Value.ownBlock] at e
    rw [h5] at e
    simp [Value.ownBlock] at e
    subst e
    have hd : some gr ≠ dv.ownBlock := fun e => hn.data.ne hgr (by decide) e.symm
    have hbg : gr ≠ g := by
      rintro rfl
      exact h1.ne ((g1.block gr hl hd).trans hgr) (by decide) rfl
    rw [g3.block gr (by omega) (fun e => hbg (by simpa using e)), Below.heap_setCell _ _ _ _ hbp, g1.block gr hl hd]
  · rcases n1 b e with e | e
    · exact .inl (hn.od b e)
    · exact .inr e

/-- Write's error. -/
def wrE (S : St) (id at_ : Int) (s : ByteArray) : Int := match S.get id with
  | none => 12
  | some x => if fileE (some x) ≠ 0 then fileE (some x) else if at_ < 0 then 10 else if s.size = 0 then 0 else if 4194304 - (s.size : Int) < at_ then 18 else if S.room - S.used < moreN x.data at_.toNat s then 20 else 0
def wrS (S : St) (id at_ : Int) (s : ByteArray) : St := if wrE S id at_ s = 0 ∧ s.size ≠ 0 then (match S.get id with
  | some x => { (S.put id { x with data := wrD x.data at_.toNat s }) with used := S.used + moreN x.data at_.toNat s }
  | none => S) else S

end Go.Proofs.Ytgdjoojghkdcbaa
