/- Contracts: the anchor. Condition: the library's own variable holds some number. -/
import Derived.Test.YtfaohicadahcjaaGreatDoorSC
namespace Go.Proofs.YtfaohicadahcjaaGreatDoor
open Go.RowKit Go.PlainAid Go.ChangeShapes Go.WideShapes Go.ChangeAt
set_option linter.unusedSimpArgs false
set_option linter.unusedVariables false
theorem seg_one {α : Type} {k : Nat} {C : World → List Value → α → Prop} {w : World} {b : Nat} {cs : Array Value} {T : TypeId} {fr : Nat × Nat} {x : α} (h : w.heap[b]? = some (.cells cs T fr)) (hC : C w cs.toList x) : Seg k C w (.slice (some ⟨b, 0, none⟩) 1 1) [x] := by
  refine ⟨by simp, .inr ⟨b, 0, 1, rfl, by simp, fun i y hi => ?_⟩⟩
  match i, hi with
  | 0, hi =>
    simp at hi
    subst hi
    refine ⟨cs.toList, fun j u hj => ?_, hC⟩
    simp only [Nat.zero_mul, Nat.add_zero, Nat.zero_add]
    exact cells_at h (by simpa using hj)
theorem seg_two {α : Type} {C : World → List Value → α → Prop} {w : World} {b : Nat} {u1 u2 : Value} {T : TypeId} {fr : Nat × Nat} {x y : α} (h : w.heap[b]? = some (.cells #[u1, u2] T fr)) (h1 : C w [u1] x) (h2 : C w [u2] y) : Seg 1 C w (.slice (some ⟨b, 0, none⟩) 2 2) [x, y] := by
  refine ⟨by simp, .inr ⟨b, 0, 2, rfl, by simp, fun i z hi => ?_⟩⟩
  match i, hi with
  | 0, hi =>
    simp at hi; subst hi
    refine ⟨[u1], fun j u hj => ?_, h1⟩
    match j, hj with
    | 0, hj => simp at hj; subst hj; exact cells_at h (i := 0) rfl
  | 1, hi =>
    simp at hi; subst hi
    refine ⟨[u2], fun j u hj => ?_, h2⟩
    match j, hj with
    | 0, hj => simp at hj; subst hj; exact cells_at h (i := 1) rfl
def pA : Pt := .mk 1 false ⟨#[101, 99, 104, 111]⟩ ⟨#[]⟩ [] []
def pB : Pt := .mk 1 true ⟨#[97, 32, 98]⟩ ⟨#[]⟩ [] []
def pX : Pt := .mk 1 false ⟨#[120]⟩ ⟨#[]⟩ [] []
def rA : Rd := .mk 1 ⟨#[62]⟩ ⟨#[]⟩ [pX]
def nA : Nd := .mk 1 ⟨#[]⟩ [] [[pA], [pB]] [rA] [] []
theorem pt_lit {w : World} {b : Nat} {T : TypeId} {fr : Nat × Nat} (q : Bool) (t : ByteArray) (ht : t.size ≤ 1048576) (h : w.heap[b]? = some (.cells #[.int .i64 1, .bool q, .string t, .string ⟨#[]⟩, .slice none 0 0, .slice none 0 0] T fr)) : WdAt 1 w (.slice (some ⟨b, 0, none⟩) 1 1) [.mk 1 q t ⟨#[]⟩ [] []] :=
  seg_one h ⟨_, _, rfl, ⟨rfl, ht, Nat.zero_le _⟩, ⟨rfl, _, _, rfl⟩, ⟨rfl, _, _, rfl⟩⟩
/-- The document's example, its words and redirections. -/
structure AncAt (a : Nat) (w : World) : Prop where
  h0 : w.heap[a]? = some (.cells #[.int .i64 1, .bool false, .string ⟨#[101, 99, 104, 111]⟩, .string ⟨#[]⟩, .slice none 0 0, .slice none 0 0] 55 (0, 0))
  h1 : w.heap[a + 1]? = some (.cells #[.int .i64 1, .bool true, .string ⟨#[97, 32, 98]⟩, .string ⟨#[]⟩, .slice none 0 0, .slice none 0 0] 55 (0, 0))
  h2 : w.heap[a + 2]? = some (.cells #[.slice (some ⟨a, 0, none⟩) 1 1, .slice (some ⟨a + 1, 0, none⟩) 1 1] 33 (0, 0))
  h3 : w.heap[a + 3]? = some (.cells #[.int .i64 1, .bool false, .string ⟨#[120]⟩, .string ⟨#[]⟩, .slice none 0 0, .slice none 0 0] 55 (0, 0))
  h4 : w.heap[a + 4]? = some (.cells #[.int .i64 1, .string ⟨#[62]⟩, .string ⟨#[]⟩, .slice (some ⟨a + 3, 0, none⟩) 1 1] 44 (0, 0))
theorem AncAt.low {a : Nat} {w w' : World} (h : AncAt a w) (hb : Below w.heap.size w w') : AncAt a w' := by
  have f : ∀ k o, w.heap[k]? = some o → w'.heap[k]? = some o := fun k o e => by
    have hk : k < w.heap.size := by
      rcases Nat.lt_or_ge k w.heap.size with h1 | h1
      · exact h1
      · rw [Array.getElem?_eq_none h1] at e; cases e
    rw [hb.block k hk, e]
  exact ⟨f _ _ h.h0, f _ _ h.h1, f _ _ h.h2, f _ _ h.h3, f _ _ h.h4⟩
abbrev ancCells (a : Nat) : Array Value := #[.int .i64 1, .string ⟨#[]⟩, .slice none 0 0, .slice (some ⟨a + 2, 0, none⟩) 2 2, .slice (some ⟨a + 4, 0, none⟩) 1 1, .slice none 0 0, .slice none 0 0]
theorem AncAt.ws {a : Nat} {w : World} (h : AncAt a w) : WsAt 1 w (.slice (some ⟨a + 2, 0, none⟩) 2 2) [[pA], [pB]] :=
  seg_two h.h2 ⟨_, rfl, pt_lit false _ (by decide) h.h0⟩ ⟨_, rfl, pt_lit true _ (by decide) h.h1⟩
theorem AncAt.rs {a : Nat} {w : World} (h : AncAt a w) : RdsAt 1 w (.slice (some ⟨a + 4, 0, none⟩) 1 1) [rA] :=
  seg_one h.h4 ⟨_, rfl, ⟨rfl, by decide, by decide, by decide⟩, pt_lit false _ (by decide) h.h3⟩
theorem AncAt.ns {a : Nat} {w : World} (h : AncAt a w) {b : Nat} (hb : w.heap[b]? = some (.cells (ancCells a) 51 (0, 0))) : NsAt 2 w (.slice (some ⟨b, 0, none⟩) 1 1) [nA] :=
  seg_one hb ⟨_, _, _, _, _, rfl, ⟨rfl, by decide⟩, Seg.nil, h.ws, h.rs, Seg.nil, Seg.nil⟩
theorem right_anc : rightM 2 [nA] 2 = true := by decide +kernel
def litF (p : Pt) : List UInt8 := litW p.text p.quoted
def simF (x : Nd) : List UInt8 := simT litF [] x.words x.redirs
theorem text_anc : (([nA].map (lnT simF)).flatten) = [101, 99, 104, 111, 32, 39, 97, 32, 98, 39, 32, 49, 62, 120, 10] := by decide +kernel
theorem nd_anc (w : World) (he : Env w) : NdOk 1 w w.heap.size w.heap.size nA (simF nA) := by
  intro v acc a1 a2 a3 a4 a5 c1 c2 c3 c4 c5 w' h1 h2 h3 h4 h5 hb h hlen hBw
  have hf : ∀ l ∈ nA.words, ∀ p ∈ l, PartOk 0 w w.heap.size w.heap.size [nilS] p (litF p) := by
    intro l hl p hp
    have : p.kind = 1 ∧ p.text.size ≤ 1048576 := by
      simp only [nA, Nd.words, List.mem_cons, List.not_mem_nil, or_false] at hl
      rcases hl with rfl | rfl
      · simp at hp; subst hp; exact ⟨rfl, by decide⟩
      · simp at hp; subst hp; exact ⟨rfl, by decide⟩
    exact part55_lit 0 w _ _ _ p this.1 this.2 he (Nat.le_refl _)
  have hr : ∀ r ∈ nA.redirs, RedOk 1 w w.heap.size w.heap.size [nilS] r (redT litF r) := by
    intro r hr
    simp only [nA, Nd.redirs, List.mem_cons, List.not_mem_nil, or_false] at hr
    subst hr
    refine redir96_plain 0 litF w _ _ _ rA 1 rfl (by decide) (by rw [toList_data]; rfl) ?_ (Nat.le_refl _)
    intro p hp
    simp only [rA, Rd.word, List.mem_cons, List.not_mem_nil, or_false] at hp
    subst hp
    exact part55_lit 0 w _ _ _ pX rfl (by decide) he (Nat.le_refl _)
  exact command67_simple 0 litF w _ _ v acc nA.name a1 a2 a3 a4 a5 _ _ c1 c2 c3 c4 c5 nA.words nA.redirs w' h2 h3 hf hr (Nat.le_refl _) hb h (by simpa [simF] using hlen) hBw
theorem show_anc (a b : Nat) (w : World) (h : AncAt a w) (hb : w.heap[b]? = some (.cells (ancCells a) 51 (0, 0))) (he : Env w) :
    Calls Tryz.prog 13 #[.slice (some ⟨b, 0, none⟩) 1 1] w fun e w' => e = .returned (.string ⟨#[101, 99, 104, 111, 32, 39, 97, 32, 98, 39, 32, 49, 62, 120, 10]⟩) ∧ Below w.heap.size w w' := by
  have := show13_nil 1 simF (.slice (some ⟨b, 0, none⟩) 1 1) [nA] w (fun x hx => by simp at hx; subst hx; exact nd_anc w he) (h.ns hb) (by rw [text_anc]; decide)
  rw [text_anc] at this
  exact this
theorem push_new (w : World) (o : Obj) (n : Nat) (h : w.heap.size = n) : (w.alloc o).heap[n]? = some o := by subst h; exact heap_alloc_new w o
theorem push_size (w : World) (o : Obj) (n : Nat) (h : w.heap.size = n) : (w.alloc o).heap.size = n + 1 := by simp [h]
theorem push_old (w : World) (o p : Obj) (n k : Nat) (h : w.heap.size = n) (hk : k < n) (hp : w.heap[k]? = some p) : (w.alloc o).heap[k]? = some p := by rw [Lib.alloc_old w o k (by omega)]; exact hp
theorem allocs6 (w : World) (o0 o1 o2 o3 o4 o5 : Obj) (n : Nat) (h : w.heap.size = n) : ((((((w.alloc o0).alloc o1).alloc o2).alloc o3).alloc o4).alloc o5).heap[n]? = some o0 ∧ ((((((w.alloc o0).alloc o1).alloc o2).alloc o3).alloc o4).alloc o5).heap[n + 1]? = some o1 ∧ ((((((w.alloc o0).alloc o1).alloc o2).alloc o3).alloc o4).alloc o5).heap[n + 2]? = some o2 ∧ ((((((w.alloc o0).alloc o1).alloc o2).alloc o3).alloc o4).alloc o5).heap[n + 3]? = some o3 ∧ ((((((w.alloc o0).alloc o1).alloc o2).alloc o3).alloc o4).alloc o5).heap[n + 4]? = some o4 ∧ ((((((w.alloc o0).alloc o1).alloc o2).alloc o3).alloc o4).alloc o5).heap[n + 5]? = some o5 := by
  have s0 := push_size w o0 n h
  have s1 := push_size (w.alloc o0) o1 (n + 1) s0
  have s2 := push_size _ o2 (n + 2) s1
  have s3 := push_size _ o3 (n + 3) s2
  have s4 := push_size _ o4 (n + 4) s3
  refine ⟨?_, ?_, ?_, ?_, ?_, ?_⟩
  · exact push_old _ _ _ _ _ s4 (by omega) (push_old _ _ _ _ _ s3 (by omega) (push_old _ _ _ _ _ s2 (by omega) (push_old _ _ _ _ _ s1 (by omega) (push_old _ _ _ _ _ s0 (by omega) (push_new _ _ _ h)))))
  · exact push_old _ _ _ _ _ s4 (by omega) (push_old _ _ _ _ _ s3 (by omega) (push_old _ _ _ _ _ s2 (by omega) (push_old _ _ _ _ _ s1 (by omega) (push_new _ _ _ s0))))
  · exact push_old _ _ _ _ _ s4 (by omega) (push_old _ _ _ _ _ s3 (by omega) (push_old _ _ _ _ _ s2 (by omega) (push_new _ _ _ s1)))
  · exact push_old _ _ _ _ _ s4 (by omega) (push_old _ _ _ _ _ s3 (by omega) (push_new _ _ _ s2))
  · exact push_old _ _ _ _ _ s4 (by omega) (push_new _ _ _ s3)
  · exact push_new _ _ _ s4
set_option maxHeartbeats 4000000 in
set_option maxRecDepth 100000 in
theorem anchor8 (w : World) (he : Env w) : Calls Tryz.prog 8 #[] w fun e w' => e = .returned (.bool true) ∧ Below w.heap.size w w' := by
  have HE := Lib.hid he
  clear he
  obtain ⟨wz, Hz⟩ : ∃ x, Hid ((((((w.alloc (.cells #[.int .i64 1, .bool false, .string ⟨#[101, 99, 104, 111]⟩, .string ⟨#[]⟩, .slice none 0 0, .slice none 0 0] 55)).alloc (.cells #[.int .i64 1, .bool true, .string ⟨#[97, 32, 98]⟩, .string ⟨#[]⟩, .slice none 0 0, .slice none 0 0] 55)).alloc (.cells #[.slice (some ⟨w.heap.size, 0, none⟩) 1 1, .slice (some ⟨w.heap.size + 1, 0, none⟩) 1 1] 33)).alloc (.cells #[.int .i64 1, .bool false, .string ⟨#[120]⟩, .string ⟨#[]⟩, .slice none 0 0, .slice none 0 0] 55)).alloc (.cells #[.int .i64 1, .string ⟨#[62]⟩, .string ⟨#[]⟩, .slice (some ⟨w.heap.size + 3, 0, none⟩) 1 1] 44)).alloc (.cells (ancCells w.heap.size) 51) = x) := ⟨_, Lib.hid rfl⟩
  have HA : Hid (AncAt w.heap.size wz) := Lib.hid (by
    rw [← Hz.out]
    obtain ⟨e0, e1, e2, e3, e4, e5⟩ := allocs6 w _ _ _ _ _ _ w.heap.size rfl
    exact ⟨e0, e1, e2, e3, e4⟩)
  have HN : Hid (wz.heap[w.heap.size + 5]? = some (.cells (ancCells w.heap.size) 51 (0, 0))) := Lib.hid (by
    rw [← Hz.out]
    exact (allocs6 w _ _ _ _ _ _ w.heap.size rfl).2.2.2.2.2)
  have HB : Hid (Below w.heap.size w wz) := Lib.hid (by
    rw [← Hz.out]
    exact ((((((Below.refl w.heap.size w).alloc (Nat.le_refl _) _).alloc (by simp) _).alloc (by simp; omega) _).alloc (by simp; omega) _).alloc (by simp; omega) _).alloc (by simp; omega) _)
  go_enter Tryz.func8, Tryz.ntmps8
  go_upto_region 2 with fail
  simp only [Nat.add_assoc, Nat.reduceAdd]
  rw [Hz.out]
  have n0 : wz.cell? ⟨w.heap.size + 5, 0, none⟩ = some (.int .i64 1) := cells_at HN.out (i := 0) rfl
  have n1 : wz.cell? ⟨w.heap.size + 5, 1, none⟩ = some (.string ⟨#[]⟩) := cells_at HN.out (i := 1) rfl
  have n2 : wz.cell? ⟨w.heap.size + 5, 2, none⟩ = some (.slice none 0 0) := cells_at HN.out (i := 2) rfl
  have n3 : wz.cell? ⟨w.heap.size + 5, 3, none⟩ = some (.slice (some ⟨w.heap.size + 2, 0, none⟩) 2 2) := cells_at HN.out (i := 3) rfl
  have n4 : wz.cell? ⟨w.heap.size + 5, 4, none⟩ = some (.slice (some ⟨w.heap.size + 4, 0, none⟩) 1 1) := cells_at HN.out (i := 4) rfl
  have n5 : wz.cell? ⟨w.heap.size + 5, 5, none⟩ = some (.slice none 0 0) := cells_at HN.out (i := 5) rfl
  have n6 : wz.cell? ⟨w.heap.size + 5, 6, none⟩ = some (.slice none 0 0) := cells_at HN.out (i := 6) rfl
  have hb1 := (Below.refl wz.heap.size wz).alloc (Nat.le_refl _) (.cells (ancCells w.heap.size) 51)
  have hn1 := heap_alloc_new wz (.cells (ancCells w.heap.size) 51)
  have HB1 := Lib.hid hb1
  have CR := Lib.hid (right11 2 _ [nA] _ 2 ((HA.out.low hb1).ns hn1) ((HE.out.on HB.out).on hb1) ⟨by decide, by decide⟩)
  rw [right_anc] at CR
  clear hb1 hn1
  go_wp2_with fail
  refine CR.out.mono ?_
  rintro e w2 ⟨rfl, b2⟩
  have b02 := HB1.out.trans (b2.mono HB1.out.size)
  have HB2 := Lib.hid (HB.out.trans (b02.mono HB.out.size))
  have HA2 := Lib.hid (HA.out.low b02)
  replace n0 := cell_low n0 b02
  replace n1 := cell_low n1 b02
  replace n2 := cell_low n2 b02
  replace n3 := cell_low n3 b02
  replace n4 := cell_low n4 b02
  replace n5 := cell_low n5 b02
  replace n6 := cell_low n6 b02
  have hb3 := (Below.refl w2.heap.size w2).alloc (Nat.le_refl _) (.cells (ancCells w.heap.size) 51)
  have CS := Lib.hid (show_anc w.heap.size w2.heap.size _ (HA2.out.low hb3) (heap_alloc_new w2 (.cells (ancCells w.heap.size) 51)) ((HE.out.on HB2.out).on hb3))
  have HB3 := Lib.hid (HB2.out.trans (hb3.mono HB2.out.size))
  clear b2 b02 hb3
  go_wp2_with fail
  refine CS.out.mono ?_
  rintro e w3 ⟨rfl, b3⟩
  have HB4 := Lib.hid (HB3.out.trans (b3.mono HB3.out.size))
  clear b3
  go_wp2
  go_ret
  exact ⟨rfl, HB4.out⟩
end Go.Proofs.YtfaohicadahcjaaGreatDoor
