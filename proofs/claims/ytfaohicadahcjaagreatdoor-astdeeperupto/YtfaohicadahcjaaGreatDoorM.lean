/- Contracts: parts of a here-document. Conditions: lengths below a bound. -/
import Derived.Test.YtfaohicadahcjaaGreatDoorL
namespace Go.Proofs.YtfaohicadahcjaaGreatDoor
open Go.RowKit Go.PlainAid Go.ChangeShapes Go.WideShapes Go.ChangeAt
set_option linter.unusedSimpArgs false
set_option linter.unusedVariables false
theorem em_lit {s : ByteArray} (h : emB s = true) : s = ⟨#[]⟩ := ls_inj (by unfold emB at h; simpa using h)
theorem Wrote.trans {B D : Nat} {rest : List Value} {l t u : List UInt8} {w w1 w' : World} {v : Value} {e : Ending} (k : Ke D w w1) (b : Below B w w1) (h2 : Wrote B D rest (l ++ t) u w1 e w') : Wrote B D rest l (t ++ u) w e w' := by
  obtain ⟨he, v', h, k2, b2⟩ := h2
  exact ⟨he, v', by rw [← List.append_assoc]; exact h, k.trans k2, b.trans b2⟩
theorem lits_new (w : World) (ns : List ByteArray) : Lits (w.alloc (.cells (ns.map Value.string).toArray 9)) (.slice (some ⟨w.heap.size, 0, none⟩) ns.length ns.length) ns := ⟨_, _, rfl, heap_alloc_new w _⟩
/-- text at a list of texts that was just made. -/
theorem text_new (B D : Nat) (rest : List Value) (v : Value) (l : List UInt8) (ns : List ByteArray) (w : World) (h : IsBld B D 72 rest v l w) (hlen : (l ++ flatS ns).length ≤ 140737488351232) (hn : ns.length ≤ 100) (hBw : B ≤ w.heap.size) :
    Calls Tryz.prog 75 #[.pointer (some ⟨D, 0, none⟩), .slice (some ⟨w.heap.size, 0, none⟩) ns.length ns.length] (w.alloc (.cells (ns.map Value.string).toArray 9)) (Wrote B D rest l (flatS ns) w) := by
  have hb := (Below.refl w.heap.size w).alloc (Nat.le_refl _) (.cells (ns.map Value.string).toArray 9)
  refine (text75 B D rest v l ns _ _ (h.below hb) (lits_new w ns) hlen hn (by simp; omega)).mono ?_
  rintro e w' ⟨he, v', h1, h2, h3⟩
  exact ⟨he, v', h1, (Ke.of_below hb).trans h2, ((Below.refl B w).alloc hBw _).trans h3⟩
set_option maxHeartbeats 2000000 in
set_option maxRecDepth 100000 in
theorem param76_doc (B D : Nat) (rest : List Value) (v : Value) (l : List UInt8) (k : Int) (q : Bool) (t : ByteArray) (wa ba : Option Addr) (wc nb bc : Nat) (w : World) (h : IsBld B D 72 rest v l w) (hlen : l.length + t.size ≤ 140737488351000) (hBw : B ≤ w.heap.size) :
    Calls Tryz.prog 76 #[.pointer (some ⟨D, 0, none⟩), .agg #[.int .i64 k, .bool q, .string t, .string ⟨#[]⟩, .slice wa 0 wc, .slice ba nb bc]] w (Wrote B D rest l ([36, 123] ++ ls t ++ [125]) w) := by
  have hbb := (Below.refl w.heap.size w).alloc (Nat.le_refl _) (.cells #[.int .i64 k, .bool q, .string t, .string ⟨#[]⟩, .slice wa 0 wc, .slice ba nb bc] 55)
  have hh := heap_alloc_new w (.cells #[.int .i64 k, .bool q, .string t, .string ⟨#[]⟩, .slice wa 0 wc, .slice ba nb bc] 55)
  have HH := Lib.hid hh
  have h1 := h.below hbb
  have hBB := Lib.hid ((Below.refl B w).alloc hBw (.cells #[.int .i64 k, .bool q, .string t, .string ⟨#[]⟩, .slice wa 0 wc, .slice ba nb bc] 55))
  have HKe : Hid (Ke D w (w.alloc (.cells #[.int .i64 k, .bool q, .string t, .string ⟨#[]⟩, .slice wa 0 wc, .slice ba nb bc] 55))) := Lib.hid (Ke.of_below hbb)
  have e : ((⟨#[]⟩ : ByteArray).toList == [108, 101, 110]) = false := by rw [toList_data]; rfl
  have C1 := Lib.hid (text_new B D rest v l [⟨#[36, 123]⟩, t, ⟨#[]⟩] _ h1 (by simp [flatS, ls_len]; omega) (by simp) (Nat.le_trans hBw hBB.out.size))
  obtain ⟨cs, hcs⟩ := h1.ty
  have HNe := Lib.hid (ne_ty hh hcs (by decide))
  have HLn := Lib.hid hlen
  have HBw := Lib.hid hBw
  clear h h1 hbb hcs hlen hBw
  go_enter Tryz.func76, Tryz.ntmps76
  go_upto_region 1 with fail
  generalize w.alloc (.cells #[.int .i64 k, .bool q, .string t, .string ⟨#[]⟩, .slice wa 0 wc, .slice ba nb bc] 55) = w1 at hBB HKe HH hh C1 HNe ⊢
  have p2 : w1.cell? ⟨w.heap.size, 2, none⟩ = some (.string t) := cells_at hh (i := 2) rfl
  have p3 : w1.cell? ⟨w.heap.size, 3, none⟩ = some (.string ⟨#[]⟩) := cells_at hh (i := 3) rfl
  clear hh
  go_wp2_with fail
  refine C1.out.mono ?_
  rintro e w2 ⟨rfl, v2, h2, k2, b2⟩
  have hh := ke_cell k2 HH.out HNe.out (by decide)
  have p4 : w2.cell? ⟨w.heap.size, 4, none⟩ = some (.slice wa 0 wc) := cells_at hh (i := 4) rfl
  have HB2 := Lib.hid (hBB.out.trans b2)
  have HK2 := Lib.hid (HKe.out.trans k2)
  have C2 := Lib.hid (text_new B D rest v2 _ [⟨#[125]⟩] w2 h2 (by have := HLn.out; simp [flatS, ls_len]; omega) (by simp) (Nat.le_trans HBw.out HB2.out.size))
  have C3 := Lib.hid fun W => word105_nil D wa wc W
  clear h2 k2 b2 hh p2 p3
  go_wp2_with (go_at_call 105; refine (C3.out _).mono ?_; rintro e w' ⟨rfl, rfl⟩)
  refine C2.out.mono ?_
  intro e w3 hw
  have HW := Lib.hid (show Wrote B D rest l ([36, 123] ++ ls t ++ [125]) w e w3 from by
    have := Wrote.trans (v := .nilFunc) HK2.out HB2.out hw
    simpa [flatS, ls] using this)
  obtain ⟨rfl, _⟩ := hw
  go_wp2
  go_end0
  exact HW.out
set_option maxHeartbeats 4000000 in
set_option maxRecDepth 100000 in
theorem part55_doc (B D : Nat) (rest : List Value) (v : Value) (l : List UInt8) (p : Pt) (wa ba : Option Addr) (nw wc nb bc : Nat) (w : World) (h : IsBld B D 72 rest v l w) (hk : p.kind = 2 ∨ p.kind = 4) (ho : p.op = ⟨#[]⟩) (hw : p.kind = 2 → nw = 0) (hlen : l.length + p.text.size ≤ 140737488350000) (hBw : B ≤ w.heap.size) :
    Calls Tryz.prog 55 #[.pointer (some ⟨D, 0, none⟩), .agg #[.int .i64 p.kind, .bool false, .string p.text, .string p.op, .slice wa nw wc, .slice ba nb bc]] w (Wrote B D rest l (docP p) w) := by
  obtain ⟨k, t, o, HX⟩ : ∃ k t o, Hid (p.kind = k ∧ p.text = t ∧ p.op = o) := ⟨_, _, _, Lib.hid ⟨rfl, rfl, rfl⟩⟩
  rw [HX.out.1] at hk hw ⊢
  rw [HX.out.2.1] at hlen ⊢
  rw [HX.out.2.2] at ho ⊢
  subst ho
  have hbb := (Below.refl w.heap.size w).alloc (Nat.le_refl _) (.cells #[.int .i64 k, .bool false, .string t, .string ⟨#[]⟩, .slice wa nw wc, .slice ba nb bc] 55)
  have hh := heap_alloc_new w (.cells #[.int .i64 k, .bool false, .string t, .string ⟨#[]⟩, .slice wa nw wc, .slice ba nb bc] 55)
  have h1 := h.below hbb
  have hBB := Lib.hid ((Below.refl B w).alloc hBw (.cells #[.int .i64 k, .bool false, .string t, .string ⟨#[]⟩, .slice wa nw wc, .slice ba nb bc] 55))
  have HKe : Hid (Ke D w (w.alloc (.cells #[.int .i64 k, .bool false, .string t, .string ⟨#[]⟩, .slice wa nw wc, .slice ba nb bc] 55))) := Lib.hid (Ke.of_below hbb)
  rcases hk with rfl | rfl
  · obtain rfl := hw rfl
    have HP : Hid (docP p = [36, 123] ++ ls t ++ [125]) := Lib.hid (by unfold docP; rw [HX.out.1, HX.out.2.1]; rfl)
    have C1 := Lib.hid (param76_doc B D rest v l 2 false t wa ba wc nb bc _ h1 (by omega) (Nat.le_trans hBw hBB.out.size))
    rw [HP.out]
    clear h h1 hbb hlen hBw hw
    go_enter Tryz.func55, Tryz.ntmps55
    go_upto_region 1 with fail
    generalize w.alloc (.cells #[.int .i64 2, .bool false, .string t, .string ⟨#[]⟩, .slice wa 0 wc, .slice ba nb bc] 55) = w1 at hBB HKe hh C1 ⊢
    have p0 : w1.cell? ⟨w.heap.size, 0, none⟩ = some (.int .i64 2) := cells_at hh (i := 0) rfl
    have p1 : w1.cell? ⟨w.heap.size, 1, none⟩ = some (.bool false) := cells_at hh (i := 1) rfl
    have p2 : w1.cell? ⟨w.heap.size, 2, none⟩ = some (.string t) := cells_at hh (i := 2) rfl
    have p3 : w1.cell? ⟨w.heap.size, 3, none⟩ = some (.string ⟨#[]⟩) := cells_at hh (i := 3) rfl
    have p4 : w1.cell? ⟨w.heap.size, 4, none⟩ = some (.slice wa 0 wc) := cells_at hh (i := 4) rfl
    have p5 : w1.cell? ⟨w.heap.size, 5, none⟩ = some (.slice ba nb bc) := cells_at hh (i := 5) rfl
    clear hh
    go_wp2_with fail
    refine C1.out.mono ?_
    rintro e w2 ⟨rfl, v2, h2, k2, b2⟩
    have HW := Lib.hid (show Wrote B D rest l ([36, 123] ++ ls t ++ [125]) w (.returned (.tuple #[])) w2 from ⟨rfl, v2, h2, HKe.out.trans k2, hBB.out.trans b2⟩)
    clear h2 k2 b2
    go_wp2
    go_end0
    exact HW.out
  · have HP : Hid (docP p = [36, 40, 40] ++ ls t ++ [41, 41]) := Lib.hid (by unfold docP; rw [HX.out.1, HX.out.2.1]; rfl)
    have C1 := Lib.hid (text_new B D rest v l [⟨#[36, 40, 40]⟩, t, ⟨#[41, 41]⟩] _ h1 (by simp [flatS, ls_len]; omega) (by simp) (Nat.le_trans hBw hBB.out.size))
    rw [HP.out]
    clear h h1 hbb hlen hBw hw
    go_enter Tryz.func55, Tryz.ntmps55
    go_upto_region 1 with fail
    generalize w.alloc (.cells #[.int .i64 4, .bool false, .string t, .string ⟨#[]⟩, .slice wa nw wc, .slice ba nb bc] 55) = w1 at hBB HKe hh C1 ⊢
    have p0 : w1.cell? ⟨w.heap.size, 0, none⟩ = some (.int .i64 4) := cells_at hh (i := 0) rfl
    have p1 : w1.cell? ⟨w.heap.size, 1, none⟩ = some (.bool false) := cells_at hh (i := 1) rfl
    have p2 : w1.cell? ⟨w.heap.size, 2, none⟩ = some (.string t) := cells_at hh (i := 2) rfl
    clear hh
    go_wp2_with fail
    refine C1.out.mono ?_
    rintro e w2 ⟨rfl, v2, h2, k2, b2⟩
    have HW := Lib.hid (show Wrote B D rest l ([36, 40, 40] ++ ls t ++ [41, 41]) w (.returned (.tuple #[])) w2 from ⟨rfl, v2, by simpa [flatS, ls] using h2, HKe.out.trans k2, hBB.out.trans b2⟩)
    clear h2 k2 b2
    go_wp2
    go_end0
    exact HW.out
end Go.Proofs.YtfaohicadahcjaaGreatDoor
