/- Contracts: redirections, written. Conditions: lengths below a bound. -/
import Derived.Test.YtfaohicadahcjaaGreatDoorY
namespace Go.Proofs.YtfaohicadahcjaaGreatDoor
open Go.RowKit Go.PlainAid Go.ChangeShapes Go.WideShapes Go.ChangeAt
set_option linter.unusedSimpArgs false
set_option linter.unusedVariables false
/-- What redir does with a redirection that has no here-document: it writes a text. -/
def RedOk (n : Nat) (W0 : World) (B D : Nat) (rest : List Value) (r : Rd) (t : List UInt8) : Prop :=
  ∀ (v : Value) (acc : List UInt8) (wa : Option Addr) (wc : Nat) (w : World), WdAt n W0 (.slice wa r.word.length wc) r.word → Below B W0 w → IsBld B D 72 rest v acc w → acc.length + t.length ≤ 140737390000000 → B ≤ w.heap.size →
    Calls Tryz.prog 96 #[.pointer (some ⟨D, 0, none⟩), .agg #[.int .i64 r.fd, .string r.op, .string r.tag, .slice wa r.word.length wc]] w (Wrote B D rest acc t w)
def redT (f : Pt → List UInt8) (r : Rd) : List UInt8 := Lib.decDigits r.fd.toNat ++ ls r.op ++ (r.word.map f).flatten
set_option maxHeartbeats 16000000 in
set_option maxRecDepth 100000 in
theorem redir96_plain (n : Nat) (f : Pt → List UInt8) (W0 : World) (B D : Nat) (rest : List Value) (r : Rd) (fd : Nat) (hfd : r.fd = fd) (hfd9 : fd < 100) (hop : (r.op.toList == [60, 60]) = false) (hf : ∀ p ∈ r.word, PartOk n W0 B D rest p (f p)) (hWB : W0.heap.size ≤ B) : RedOk (n + 1) W0 B D rest r (redT f r) := by
  intro v acc wa wc w hw hb h hlen hBw
  obtain ⟨l, Hl⟩ : ∃ l, Hid (r.word = l) := ⟨_, Lib.hid rfl⟩
  obtain ⟨op, Hop⟩ : ∃ l, Hid (r.op = l) := ⟨_, Lib.hid rfl⟩
  obtain ⟨tag, Htag⟩ : ∃ l, Hid (r.tag = l) := ⟨_, Lib.hid rfl⟩
  have HRT : Hid (redT f r = Lib.decDigits fd ++ ls op ++ (l.map f).flatten) := Lib.hid (by unfold redT; rw [Hl.out, Hop.out, hfd]; rfl)
  rw [HRT.out] at hlen ⊢
  rw [Hl.out] at hw hf
  rw [Hop.out] at hop
  rw [hfd, Hl.out, Hop.out, Htag.out]
  clear hfd
  have hop2 : (op.toList != [60, 60]) = true := by rw [bne, hop]; rfl
  have hbb := (Below.refl w.heap.size w).alloc (Nat.le_refl _) (.cells #[.int .i64 fd, .string op, .string tag, .slice wa l.length wc] 44)
  have HBB := Lib.hid ((Below.refl B w).alloc hBw (.cells #[.int .i64 fd, .string op, .string tag, .slice wa l.length wc] 44))
  have HKe : Hid (Ke D w (w.alloc (.cells #[.int .i64 fd, .string op, .string tag, .slice wa l.length wc] 44))) := Lib.hid (Ke.of_below hbb)
  have hh := heap_alloc_new w (.cells #[.int .i64 fd, .string op, .string tag, .slice wa l.length wc] 44)
  have HI := Lib.hid (h.below hbb)
  have HW := Lib.hid fun (W : World) (v1 : Value) (a1 : List UInt8) (hI : IsBld B D 72 rest v1 a1 W) (hB : Below B W0 W) (hs : B ≤ W.heap.size) (hl1 : (a1 ++ (l.map f).flatten).length ≤ 140737390000000) => word105 n f W0 B D rest v1 a1 (.slice wa l.length wc) l W hf hw hWB hB hI hl1 hs
  have HB0 := Lib.hid hb
  have CI := Lib.hid fun W => Tryz.strconv_Itoa_small fd hfd9 W
  obtain ⟨T, HT⟩ : ∃ T, Hid ((⟨(Lib.decDigits fd).toArray⟩ : ByteArray) = T) := ⟨_, Lib.hid rfl⟩
  have HTl : Hid (ls T = Lib.decDigits fd) := Lib.hid (by rw [← HT.out])
  rw [HT.out] at CI
  rw [← HTl.out] at hlen ⊢
  have HLN := Lib.hid hlen
  have HBw := Lib.hid hBw
  generalize hq : l.length = q at *
  clear h hb hw hf hlen hbb hfd9 hq hBw
  go_enter Tryz.func96, Tryz.ntmps96
  go_upto_region 1 with fail
  generalize w.alloc (.cells #[.int .i64 fd, .string op, .string tag, .slice wa q wc] 44) = w1 at HBB HKe hh HI ⊢
  have HH := Lib.hid hh
  have p0 : w1.cell? ⟨w.heap.size, 0, none⟩ = some (.int .i64 fd) := cells_at hh (i := 0) rfl
  have p1 : w1.cell? ⟨w.heap.size, 1, none⟩ = some (.string op) := cells_at hh (i := 1) rfl
  have hd := (Below.refl w1.heap.size w1).drew
  have hs1 : B ≤ w1.heap.size := Nat.le_trans HBw.out HBB.out.size
  have hp0 : w1.drew.cell? ⟨w.heap.size, 0, none⟩ = some (.int .i64 fd) ∧ w1.drew.cell? ⟨w.heap.size, 1, none⟩ = some (.string op) := ⟨p0, p1⟩
  have ha : ∀ o : Obj, Below w1.heap.size w1 (w1.alloc o) := fun o => (Below.refl w1.heap.size w1).alloc (Nat.le_refl _) o
  have hp1 : ∀ o : Obj, (w1.alloc o).cell? ⟨w.heap.size, 0, none⟩ = some (.int .i64 fd) ∧ (w1.alloc o).cell? ⟨w.heap.size, 1, none⟩ = some (.string op) := fun o => ⟨cell_low p0 (ha o), cell_low p1 (ha o)⟩
  have hp2 : ∀ o : Obj, (w1.alloc o).drew.cell? ⟨w.heap.size, 0, none⟩ = some (.int .i64 fd) ∧ (w1.alloc o).drew.cell? ⟨w.heap.size, 1, none⟩ = some (.string op) := hp1
  have hlt : Lits (w1.alloc (.cells #[.string T, .string op] 9)).drew (.slice (some ⟨w1.heap.size, 0, none⟩) 2 2) [T, op] := ⟨_, _, rfl, heap_alloc_new w1 (.cells #[.string T, .string op] 9)⟩
  have CT : Hid (Calls Tryz.prog 75 #[.pointer (some ⟨D, 0, none⟩), .slice (some ⟨w1.heap.size, 0, none⟩) 2 2] (w1.alloc (.cells #[.string T, .string op] 9)).drew (Wrote B D rest acc (flatS [T, op]) (w1.alloc (.cells #[.string T, .string op] 9)).drew)) := Lib.hid (text75 B D rest v acc [T, op] _ _ ((HI.out.below (ha _)).below ((Below.refl _ _).drew)) hlt (by have := HLN.out; simp only [flatS, List.map_cons, List.map_nil, List.flatten_cons, List.flatten_nil, List.append_nil, List.length_append] at this ⊢; omega) (by simp) (Nat.le_trans hs1 (ha _).size))
  obtain ⟨cs, hcs⟩ := HI.out.ty
  have HNe := Lib.hid (ne_ty hh hcs (by decide))
  have HK3 := Lib.hid fun (e : Ending) (w3 : World) (hw : Wrote B D rest acc (flatS [T, op]) (w1.alloc (.cells #[.string T, .string op] 9)).drew e w3) => (show e = .returned (.tuple #[]) ∧ (w3.cell? ⟨w.heap.size, 0, none⟩ = some (.int .i64 fd) ∧ w3.cell? ⟨w.heap.size, 1, none⟩ = some (.string op)) ∧ w3.cell? ⟨w.heap.size, 3, none⟩ = some (.slice wa q wc) ∧ Below B w w3 ∧ Ke D w w3 ∧ ∃ v3, IsBld B D 72 rest v3 (acc ++ flatS [T, op]) w3 from by
    obtain ⟨he, v3, h1, h2, h3⟩ := hw
    have hk0 : Ke D w1 w3 := (Ke.of_below (ha (.cells #[.string T, .string op] 9))).trans ⟨h2.size, h2.keep⟩
    have hz := ke_cell hk0 HH.out HNe.out (by decide)
    exact ⟨he, ⟨cells_at hz (i := 0) rfl, cells_at hz (i := 1) rfl⟩, cells_at hz (i := 3) rfl, HBB.out.trans ((((Below.refl B w1).alloc hs1 (.cells #[.string T, .string op] 9)).drew).trans h3), HKe.out.trans hk0, v3, h1⟩)
  clear hcs hh
  go_region_held3 (fun W => W.cell? ⟨w.heap.size, 0, none⟩ = some (.int .i64 fd) ∧ W.cell? ⟨w.heap.size, 1, none⟩ = some (.string op)) (first | exact hp0 | exact ⟨p0, p1⟩ | exact hp1 _ | exact hp2 _ | exact hp3)
    (first
      | (go_at_call 115; (with_reducible refine (CI.out _).mono ?_); rintro e w2 ⟨rfl, rfl⟩)
      | (go_at_call 75; (with_reducible refine CT.out.mono ?_); intro e w3 hw; obtain ⟨rfl, hp3, hp33, hb3, hk3, v3, h3⟩ := HK3.out e w3 hw; clear hw))
  have hcw := HW.out w3 v3 _ h3 (HB0.out.trans hb3) (Nat.le_trans HBw.out hb3.size) (by have := HLN.out; simp only [flatS, List.map_cons, List.map_nil, List.flatten_cons, List.flatten_nil, List.append_nil, List.length_append] at this ⊢; omega)
  have HCW := Lib.hid hcw
  have HB3 := Lib.hid hb3
  have HK33 := Lib.hid hk3
  clear hcw h3 hb3 hk3 hp0 hp1 hp2
  go_wp2_with fail
  refine HCW.out.mono ?_
  intro e w4 hw
  have HFin := Lib.hid (show Wrote B D rest acc (ls T ++ ls op ++ (l.map f).flatten) w e w4 from ⟨hw.1, by
    obtain ⟨_, v', a1, a2, a3⟩ := hw
    exact ⟨v', by simpa [flatS] using a1, HK33.out.trans a2, HB3.out.trans a3⟩⟩)
  obtain ⟨rfl, _⟩ := hw
  go_wp2
  go_end0
  exact HFin.out

/-! A simple command: its pieces with a blank between each two. -/
def gj (g : List UInt8) : List (List UInt8) → List UInt8
  | [] => []
  | x :: r => g ++ x ++ gj [32] r
/-- All but the writer's block, one more block, and rows of bytes stands. -/
structure Ke2 (D G : Nat) (w w' : World) : Prop where
  size : w.heap.size ≤ w'.heap.size
  keep : ∀ k, k < w.heap.size → k ≠ D → k ≠ G → NoB w k → w'.heap[k]? = w.heap[k]?
theorem Ke2.of {D G : Nat} {w w' : World} (h : Ke D w w') : Ke2 D G w w' := ⟨h.size, fun k a b _ c => h.keep k a b c⟩
theorem Ke2.trans {D G : Nat} {w w1 w' : World} (h : Ke2 D G w w1) (h' : Ke2 D G w1 w') : Ke2 D G w w' := by
  refine ⟨Nat.le_trans h.size h'.size, fun k hk hD hG hv => ?_⟩
  have e := h.keep k hk hD hG hv
  rw [h'.keep k (Nat.lt_of_lt_of_le hk h.size) hD hG (fun c fr => by rw [e]; exact hv c fr), e]
theorem Ke2.new {D G : Nat} {w0 w w' : World} (h0 : Ke D w0 w) (hG : w0.heap.size ≤ G) (h : Ke2 D G w w') : Ke D w0 w' := by
  refine ⟨Nat.le_trans h0.size h.size, fun k hk hD hv => ?_⟩
  have e := h0.keep k hk hD hv
  rw [h.keep k (Nat.lt_of_lt_of_le hk h0.size) hD (by omega) (fun c fr => by rw [e]; exact hv c fr), e]
theorem ke2_cell {D G : Nat} {w w' : World} (h : Ke2 D G w w') {g : Nat} {cs : Array Value} {t : TypeId} {fr : Nat × Nat} (hg : w.heap[g]? = some (.cells cs t fr)) (hD : g ≠ D) (hG : g ≠ G) (ht : t ≠ 5) : w'.heap[g]? = some (.cells cs t fr) := by
  rw [h.keep g (lt_of_block hg) hD hG (fun c fr' e => by rw [hg] at e; cases e; exact ht rfl), hg]
set_option maxHeartbeats 4000000 in
set_option maxRecDepth 100000 in
/-- The gap is written, and is a blank from then on. -/
theorem apart111 (B D X G : Nat) (rest : List Value) (v : Value) (l : List UInt8) (g : ByteArray) (tX : TypeId) (w : World) (h : IsBld B D 72 rest v l w) (hX : w.heap[X]? = some (.cells #[.pointer (some ⟨D, 0, none⟩)] tX (0, 0))) (hG : w.heap[G]? = some (.cells #[.string g] 9 (0, 0))) (htX : tX ≠ 5) (htX2 : tX ≠ 9) (hBG : B ≤ G) (hlen : l.length + g.size ≤ 140737400000000) (hBw : B ≤ w.heap.size) :
    Calls Tryz.prog 111 #[.pointer (some ⟨X, 0, none⟩), .pointer (some ⟨G, 0, none⟩)] w fun e w' => e = .returned (.tuple #[]) ∧ ∃ v', IsBld B D 72 rest v' (l ++ ls g) w' ∧ w'.heap[G]? = some (.cells #[.string ⟨#[32]⟩] 9 (0, 0)) ∧ Ke2 D G w w' ∧ Below B w w' := by
  have x0 : w.cell? ⟨X, 0, none⟩ = some (.pointer (some ⟨D, 0, none⟩)) := cells_at hX (i := 0) rfl
  have g0 : w.cell? ⟨G, 0, none⟩ = some (.string g) := cells_at hG (i := 0) rfl
  have C := Lib.hid (text_new B D rest v l [g] w h (by simp [flatS, ls_len]; omega) (by simp) hBw)
  obtain ⟨cs, hcs⟩ := h.ty
  have HGD := Lib.hid (ne_ty hG hcs (by decide))
  have HG := Lib.hid hG
  have HBG := Lib.hid hBG
  clear h hcs hX hG
  go_enter Tryz.func111, Tryz.ntmps111
  go_wp2_with fail
  refine C.out.mono ?_
  rintro e w2 ⟨rfl, v2, h2, k2, b2⟩
  have hg2 := ke_cell k2 HG.out HGD.out (by decide)
  have z0 : w2.cell? ⟨G, 0, none⟩ = some (.string g) := cells_at hg2 (i := 0) rfl
  have zf : w2.frozen? ⟨G, 0, none⟩ = false := Lib.frozen_of_heap hg2 0
  have H2 := Lib.hid h2
  have HK2 := Lib.hid k2
  have HB2 := Lib.hid b2
  have HG2 := Lib.hid hg2
  clear h2 k2 b2 hg2
  go_wp2
  go_end0
  have hother : ∀ k, k ≠ G → (w2.setCell ⟨G, 0, none⟩ (.string ⟨#[32]⟩)).heap[k]? = w2.heap[k]? := fun k hk => Below.heap_setCell _ _ _ _ (fun e => hk (by simp [e]))
  refine ⟨rfl, v2, ?_, ?_, ?_, ?_⟩
  · have hst : ∀ p, Bld p B D 72 rest v2 (l ++ flatS [g]) w2 → Bld p B D 72 rest v2 (l ++ ls g) (w2.setCell ⟨G, 0, none⟩ (.string ⟨#[32]⟩)) := fun p hp => by
      rw [show flatS [g] = ls g from by simp [flatS]] at hp
      refine hp.stay (by simp [World.setCell]) (hother D (fun e => HGD.out e.symm)) (fun k hk => hother k (fun e => ?_))
      subst e
      rcases hp.own.2 with ⟨e2, _⟩ | ⟨g', cap', cur, e2, _, h4, _⟩
      · rw [e2] at hk; simp [Value.ownBlock] at hk
      · rw [e2] at hk; simp [Value.ownBlock] at hk
        subst hk
        rw [HG2.out] at h4
        cases h4
    exact H2.out.imp (hst _) (hst _)
  · simp [World.setCell, Array.getElem?_modify, HG2.out]
  · exact (Ke2.of HK2.out).trans ⟨by simp [World.setCell], fun k _ _ hk _ => hother k hk⟩
  · exact HB2.out.setCell (p := ⟨G, 0, none⟩) HBG.out _
end Go.Proofs.YtfaohicadahcjaaGreatDoor
