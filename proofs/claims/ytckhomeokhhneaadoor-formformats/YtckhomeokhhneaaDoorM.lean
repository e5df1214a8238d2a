/- The format at work (Tl), put. Conditions: lengths below a bound. -/
import Derived.Test.YtckhomeokhhneaaDoorL
namespace Go.Proofs.YtckhomeokhhneaaDoor
open Go.RowKit Go.PlainAid
set_option linter.unusedSimpArgs false
set_option linter.unusedVariables false

/-- v is a slice of just these texts. -/
def Strs (w : World) (v : Value) (ns : List ByteArray) : Prop := (ns = [] ∧ ∃ a c, v = .slice a 0 c) ∨ ∃ b off c, v = .slice (some ⟨b, off, none⟩) ns.length c ∧ ns.length ≤ c ∧ ∀ (i : Nat) (s : ByteArray), ns[i]? = some s → w.cell? ⟨b, off + i, none⟩ = some (.string s)
theorem Strs.shape {w : World} {v : Value} {ns : List ByteArray} (h : Strs w v ns) : ∃ a c, v = .slice a ns.length c := by
  rcases h with ⟨rfl, a, c, rfl⟩ | ⟨b, off, c, rfl, _, _⟩
  · exact ⟨a, c, rfl⟩
  · exact ⟨_, _, rfl⟩
/-- What is left of texts when the first one is taken. -/
theorem Strs.tail {w : World} {b off c : Nat} {x : ByteArray} {r : List ByteArray} (hc : r.length + 1 ≤ c) (h : ∀ (i : Nat) (s : ByteArray), (x :: r)[i]? = some s → w.cell? ⟨b, off + i, none⟩ = some (.string s)) : Strs w (.slice (some ⟨b, off + 1, none⟩) r.length (c - 1)) r := by
  refine .inr ⟨b, off + 1, c - 1, rfl, by omega, fun i s hi => ?_⟩
  have := h (i + 1) s (by simpa using hi)
  rw [show off + 1 + i = off + (i + 1) by omega]
  exact this
theorem Strs.tail1 {w : World} {a : Option Addr} {c : Nat} {r : List ByteArray} (hc : r.length + 1 ≤ 1) : Strs w (.slice a r.length c) r := by
  obtain rfl : r = [] := List.eq_nil_of_length_eq_zero (by omega)
  exact .inl ⟨rfl, _, _, rfl⟩
def tlC (av : Value) (tk : Bool) (tv : Value) (n : Nat) : Array Value := #[av, .bool tk, tv, .int .i64 n]
/-- A format at work: the texts that are left, whether one was taken, what was told. -/
structure Tl (W : World) (g : Nat) (S : List ByteArray) (tk : Bool) (T : List UInt8) (av tv : Value) (T' : List UInt8) (w : World) : Prop where
  hg : W.heap.size ≤ g
  cells : w.heap[g]? = some (.cells (tlC av tk tv T.length) 39 (0, 0))
  args : Strs W av S
  told : OB W.heap.size tv T' w
  short : T'.length ≤ 4194304
  same : T.length ≤ 4194304 → T' = T
  bel : Below W.heap.size W w
  big : T.length ≤ 1000000000000
theorem Tl.ne {W w : World} {g : Nat} {S : List ByteArray} {tk : Bool} {T T' : List UInt8} {av tv : Value} (h : Tl W g S tk T av tv T' w) : tv.ownBlock ≠ some g := by
  intro e
  rcases h.told with ⟨rfl, _⟩ | ⟨k, cap, cur, fr, _, rfl, h2, _⟩
  · simp [Value.ownBlock] at e
  · simp [Value.ownBlock] at e
    subst e
    rw [h.cells] at h2
    injection h2 with h2
    injection h2 with _ h3 _
    exact absurd h3 (by decide)
theorem Tl.size {W w : World} {g : Nat} {S : List ByteArray} {tk : Bool} {T T' : List UInt8} {av tv : Value} (h : Tl W g S tk T av tv T' w) : W.heap.size ≤ w.heap.size := h.bel.size
theorem Tl.below {W w w' : World} {g : Nat} {S : List ByteArray} {tk : Bool} {T T' : List UInt8} {av tv : Value} (h : Tl W g S tk T av tv T' w) (hb : Below w.heap.size w w') : Tl W g S tk T av tv T' w' :=
  ⟨h.hg, (hb.block g (lt_of_block h.cells)).trans h.cells, h.args, h.told.below hb, h.short, h.same, h.bel.trans (hb.mono h.size), h.big⟩
theorem Tl.env {W w : World} {g : Nat} {S : List ByteArray} {tk : Bool} {T T' : List UInt8} {av tv : Value} (h : Tl W g S tk T av tv T' w) (he : Env W) : Env w := he.below h.bel
/-- Another world in which all but a block's cells stand. -/
theorem Tl.set {W w : World} {g : Nat} {S S2 : List ByteArray} {tk tk2 : Bool} {T T' T2 : List UInt8} {av tv av2 : Value} (h : Tl W g S tk T av tv T' w) (ha : Strs W av2 S2) (c : Array Value) (hc : c = tlC av2 tk2 tv T2.length) (hs : T2.length ≤ 4194304 → T' = T2) (hb : T2.length ≤ 1000000000000) : Tl W g S2 tk2 T2 av2 tv T' (w.setRow g c) := by
  subst hc
  refine ⟨h.hg, setRow_heap _ _ _ _ _ _ h.cells, ha, h.told.keep fun k e hl => setRow_other w g k _ (fun e2 => h.ne (by rw [← e2]; exact e)), h.short, hs, ?_, hb⟩
  refine h.bel.grown (grown_setRow g _) h.size (fun k e => ?_)
  have : g = k := by simpa using e
  rw [← this]; exact h.hg
theorem cell_of {w : World} {g : Nat} {c : Array Value} {t : TypeId} {fr : Nat × Nat} (h : w.heap[g]? = some (.cells c t fr)) (j : Nat) : w.cell? ⟨g, j, none⟩ = c[j]? := by simp [World.cell?, h]
theorem frozen_of {w : World} {g : Nat} {c : Array Value} {t : TypeId} (h : w.heap[g]? = some (.cells c t (0, 0))) (j : Nat) : w.frozen? ⟨g, j, none⟩ = false := by simp [World.frozen?, h]
def GivesTl (W : World) (g : Nat) (S : List ByteArray) (tk : Bool) (T : List UInt8) (av : Value) (w' : World) : Prop := ∃ tv T', Tl W g S tk T av tv T' w'
set_option maxHeartbeats 2000000 in
set_option maxRecDepth 100000 in
theorem put21 (W : World) (g : Nat) (S : List ByteArray) (tk : Bool) (T T' : List UInt8) (av tv : Value) (s : ByteArray) (w : World) (h : Tl W g S tk T av tv T' w) (hs : s.size ≤ 1000000) (hT : T.length + s.size ≤ 1000000000000) :
    Calls Tryd.prog 21 #[.pointer (some ⟨g, 0, none⟩), .string s] w fun e w' => e = .returned (.tuple #[]) ∧ GivesTl W g S tk (T ++ ls s) av w' := by
  have H := Lib.hid h
  have hne := Lib.hid h.ne
  have c2 : w.cell? ⟨g, 2, none⟩ = some tv := by rw [cell_of h.cells]; rfl
  have c3 : w.cell? ⟨g, 3, none⟩ = some (.int .i64 T.length) := by rw [cell_of h.cells]; rfl
  have f2 := frozen_of h.cells 2
  have f3 := frozen_of h.cells 3
  obtain ⟨n, Hn⟩ : ∃ n, Hid (T.length + s.size = n) := ⟨_, Lib.hid rfl⟩
  have hn : (T ++ ls s).length = n := by rw [List.length_append, ls_len]; exact Hn.out
  have hw1 : IntKind.i64.wrap ((T.length : Int) + s.size) = (n : Int) := by rw [IntKind.wrap_i64]; have := Hn.out; omega
  have e3 : w.setCell ⟨g, 3, none⟩ (.int .i64 n) = w.setRow g (tlC av tk tv n) := by rw [setCell_eq_setRow _ _ _ _ _ _ _ h.cells]; rfl
  have hnb : n ≤ 1000000000000 := by have := Hn.out; omega
  obtain ⟨a0, c0, rfl⟩ := h.told.shape
  by_cases hb : n ≤ 4194304
  · have hsame : T' = T := h.same (by have := Hn.out; omega)
    subst hsame
    obtain ⟨w1, hw⟩ : ∃ w1, w1 = w.setRow g (tlC av tk (.slice a0 T'.length c0) n) := ⟨_, rfl⟩
    have HW := Lib.hid hw
    have hg1 : w1.heap[g]? = some (.cells (tlC av tk (.slice a0 T'.length c0) n) 39 (0, 0)) := by rw [hw]; exact setRow_heap _ _ _ _ _ _ h.cells
    have HO1 : Hid (OB W.heap.size (.slice a0 T'.length c0) T' w1) := Lib.hid (by
      rw [hw]
      exact h.told.keep fun k e hl => setRow_other w g k _ (fun e2 => hne.out (by rw [← e2]; exact e)))
    have HB1 : Hid (Below W.heap.size W w1) := Lib.hid (by
      rw [hw]
      refine h.bel.grown (grown_setRow g _) h.size (fun k e => ?_)
      have : g = k := by simpa using e
      rw [← this]; exact h.hg)
    have d2 : w1.cell? ⟨g, 2, none⟩ = some (.slice a0 T'.length c0) := by rw [cell_of hg1]; rfl
    have d3 : w1.cell? ⟨g, 3, none⟩ = some (.int .i64 n) := by rw [cell_of hg1]; rfl
    have HG1 := Lib.hid hg1
    rw [← hw] at e3
    clear hw hg1 h
    go_enter Tryd.func21, Tryd.ntmps21
    go_upto_region 1 with fail
    clear e3 c2 c3 f2 f3
    have HS1 : Hid (W.heap.size ≤ w1.heap.size) := Lib.hid HB1.out.size
    go_wp2_with (at_builtin; refine wpList_appS rfl _ _ rfl _ W.heap.size T' s rfl rfl HO1.out ?c1 ?c2 ?_)
    case c1 => exact HS1.out
    case c2 => have := Hn.out; omega
    intro v' w2 hO' hgr
    have hg2 : w2.heap[g]? = some (.cells (tlC av tk (.slice a0 T'.length c0) n) 39 (0, 0)) := by
      rw [← HG1.out]
      exact hgr.block g (lt_of_block HG1.out) (fun e => hne.out e.symm)
    have HB2 := Lib.hid (HB1.out.grown hgr HS1.out (fun j hj => (HO1.out.lt j hj).1))
    obtain ⟨q, Hq⟩ : ∃ q, Hid (T' ++ ls s = q) := ⟨_, Lib.hid rfl⟩
    rw [Hq.out] at hO'
    have hqn : q.length = n := by rw [← Hq.out]; exact hn
    have HO2 := Lib.hid hO'
    have HG2 := Lib.hid hg2
    obtain ⟨a3, c3, rfl⟩ := hO'.shape
    have k2 : w2.cell? ⟨g, 2, none⟩ = some (.slice a0 T'.length c0) := by rw [cell_of hg2]; rfl
    have kf := frozen_of hg2 2
    clear hO' hgr hg2 d2 d3
    have HQN := Lib.hid hqn
    clear hqn
    go_wp2
    go_end0
    rw [Hq.out]
    refine ⟨rfl, _, q, ⟨H.out.hg, ?_, H.out.args, HO2.out.keep fun k e hl => ?_, by rw [HQN.out]; exact hb, fun _ => rfl, HB2.out.setCell H.out.hg _, by rw [HQN.out]; exact hnb⟩⟩
    · rw [setCell_eq_setRow _ _ _ _ _ _ _ HG2.out, setRow_heap _ _ _ _ _ _ HG2.out, HQN.out]; rfl
    · rw [setCell_eq_setRow _ _ _ _ _ _ _ HG2.out]
      refine setRow_other _ g k _ (fun e2 => ?_)
      subst e2
      rcases HO2.out with ⟨e3, _⟩ | ⟨k2, cap, cur, fr, _, e3, h2, _⟩
      · rw [e3] at e; simp [Value.ownBlock] at e
      · rw [e3] at e
        simp [Value.ownBlock] at e
        subst e
        rw [HG2.out] at h2
        injection h2 with h2
        injection h2 with _ h3 _
        exact absurd h3 (by decide)
  · obtain ⟨w1, hw⟩ : ∃ w1, w1 = w.setRow g (tlC av tk (.slice a0 T'.length c0) n) := ⟨_, rfl⟩
    have hg1 : w1.heap[g]? = some (.cells (tlC av tk (.slice a0 T'.length c0) n) 39 (0, 0)) := by rw [hw]; exact setRow_heap _ _ _ _ _ _ h.cells
    have d3 : w1.cell? ⟨g, 3, none⟩ = some (.int .i64 n) := by rw [cell_of hg1]; rfl
    have HW := Lib.hid hw
    rw [← hw] at e3
    clear hw hg1 h
    go_enter Tryd.func21, Tryd.ntmps21
    go_upto_region 1 with fail
    clear e3 c2 c3 f2 f3
    have hbn : decide ((n : Int) ≤ 4194304) = false := decide_eq_false (by omega)
    go_wp2
    go_end0
    refine ⟨rfl, .slice a0 T'.length c0, T', ?_⟩
    rw [HW.out]
    exact H.out.set (S2 := S) (tk2 := tk) (T2 := T ++ ls s) (av2 := av) H.out.args _ (by rw [hn]) (fun h2 => absurd h2 (by rw [hn]; exact hb)) (by rw [hn]; exact hnb)
end Go.Proofs.YtckhomeokhhneaaDoor
