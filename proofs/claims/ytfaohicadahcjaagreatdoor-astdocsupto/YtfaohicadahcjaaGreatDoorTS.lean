/- One redirection, as it comes in and as AstDocs hands it on. No condition. -/
import Derived.Test.YtfaohicadahcjaaGreatDoorTE
import Derived.Test.YtfaohicadahcjaaGreatDoorMi
import Derived.Test.YtfaohicadahcjaaGreatDoorMf
namespace Go.Proofs.YtfaohicadahcjaaGreatDoor
open Go.RowKit Go.PlainAid Go.ChangeShapes Go.WideShapes Go.ChangeAt
set_option linter.unusedSimpArgs false
set_option linter.unusedVariables false
open heft in
set_option maxRecDepth 100000 in
theorem op_rd2 {H : Type} {enc : TypeId × Value → H} {w : World} {m : Nat} (hm : m ≤ 1048576) (hW : OpW enc w m) (fuel : Nat) (cs : List Value) (d : DataW H) (p : List MemPlace) (h : Rdz enc w fuel 44 cs d p) (hb : Rows.uptoBulk d ≤ m) (hl : cs.length = 4) : ∃ y : Rd, RdC (WdAt m) w cs y ∧ wtR (wts m).1 y + 1 ≤ Rows.uptoBulk d := by
  obtain ⟨f0, f1, f2, f3, hu, ⟨o0, o1, o2, o3⟩, t0, t1, t2, t3⟩ := fields44
  obtain ⟨xs, n, _, hx, _, hxl, hf⟩ := DataW.trod_struct hu h
  match xs, hxl, cs, hl with
  | [y0, y1, y2, y3], _, [v0, v1, v2, v3], _ =>
    have g0 := hf 0 f0 rfl
    have g1 := hf 1 f1 rfl
    have g2 := hf 2 f2 rfl
    have g3 := hf 3 f3 rfl
    rw [o0, t0, cells3] at g0
    rw [o1, t1, cells9] at g1
    rw [o2, t2, cells9] at g2
    rw [o3, t3, cells33] at g3
    cases hx
    simp only [List.map_cons, List.map_nil, Rows.uptoBulk, Rows.uptoBulkAll] at hb ⊢
    obtain ⟨k, rfl, hk⟩ := rd_int (enc := enc) (w := w) (d := y0.1) (p := y0.2) g0
    obtain ⟨s, rfl, hs⟩ := rd_str (enc := enc) (w := w) (d := y1.1) (p := y1.2) g1
    obtain ⟨o, rfl, ho⟩ := rd_str (enc := enc) (w := w) (d := y2.1) (p := y2.2) g2
    obtain ⟨wl, hwl, hwn, hww⟩ := hW n v3 y3.1 y3.2 g3 (by omega)
    exact ⟨.mk k s o wl, ⟨v3, rfl, ⟨hk, by show s.size ≤ _; omega, by show o.size ≤ _; omega, by show wordN wl ≤ _; omega⟩, hwl⟩, by show 1 + o.size + (wts m).1 wl + 1 ≤ _; omega⟩
set_option maxRecDepth 100000 in
theorem open_rd {H : Type} {enc : TypeId × Value → H} {W : World} {base : Nat} {v : Value} {d : DataW H} {p : List MemPlace} (hv : Value.okWide Tryz.prog W .any base 44 v) (h : DataW.Trod enc Tryz.prog W 0 (fun _ => true) true 44 v d p) (hb : Rows.uptoBulk d ≤ 1048576) :
    ∃ n fd op tag a c l, v = .agg #[.int .i64 fd, .string op, .string tag, .slice a l.length c] ∧ RdFits (.mk fd op tag l) ∧ WdAt n W (.slice a l.length c) l ∧ wtR (wts n).1 (.mk fd op tag l) + 1 ≤ 1048576 := by
  obtain ⟨cs, rfl, hc⟩ := okWide_struct Tryz.underlying44 hv
  obtain ⟨fuel, hf⟩ := h
  have hc4 : cs.toList.length = 4 := by rw [Array.length_toList, hc]; exact cells44
  obtain ⟨y, ⟨wv, h1, h2, h3⟩, h4⟩ := op_rd2 (enc := enc) (w := W) hb (open_tree (enc := enc) (w := W) (Rows.uptoBulk d) hb).1 fuel cs.toList d p hf (Nat.le_refl _) hc4
  obtain ⟨a, c, rfl⟩ := wd_shape _ _ _ _ h3
  cases y with
  | mk fd op tag l => exact ⟨_, fd, op, tag, a, c, l, by rw [show cs = #[.int .i64 fd, .string op, .string tag, .slice a l.length c] from by apply Array.toList_inj.1; exact h1], h2, h3, by omega⟩
/-! One redirection, as the law hands it on. -/
abbrev oneN (fd : Int) (op tag : ByteArray) (l : List Pt) : Nd := .mk 1 ⟨#[]⟩ [] [] [.mk fd op tag l] [] []
theorem ns_one_rd {n : Nat} {w : World} {b1 b2 : Nat} {fd : Int} {op tag : ByteArray} {wv : Value} {l : List Pt} (hf : RdFits (.mk fd op tag l)) (h : WdAt n w wv l) (e1 : w.heap[b1]? = some (.cells #[.int .i64 fd, .string op, .string tag, wv] 44 (0, 0)))
    (e2 : w.heap[b2]? = some (.cells #[.int .i64 1, .string ⟨#[]⟩, .slice none 0 0, .slice none 0 0, .slice (some ⟨b1, 0, none⟩) 1 1, .slice none 0 0, .slice none 0 0] 51 (0, 0))) : NsAt (n + 1) w (.slice (some ⟨b2, 0, none⟩) 1 1) [oneN fd op tag l] := by
  have hrd : RdsAt n w (.slice (some ⟨b1, 0, none⟩) 1 1) [.mk fd op tag l] := by
    refine ⟨by simp, .inr ⟨b1, 0, 1, rfl, by simp, fun i x hi => ?_⟩⟩
    cases i with
    | succ i => simp at hi
    | zero =>
      simp at hi
      subst hi
      refine ⟨[.int .i64 fd, .string op, .string tag, wv], fun j u hj => ?_, wv, rfl, hf, h⟩
      rw [Nat.zero_mul, Nat.zero_add]
      exact cells_at e1 (by simpa using hj)
  refine ⟨by simp, .inr ⟨b2, 0, 1, rfl, by simp, fun i x hi => ?_⟩⟩
  cases i with
  | succ i => simp at hi
  | zero =>
    simp at hi
    subst hi
    refine ⟨[.int .i64 1, .string ⟨#[]⟩, .slice none 0 0, .slice none 0 0, .slice (some ⟨b1, 0, none⟩) 1 1, .slice none 0 0, .slice none 0 0], fun j u hj => ?_, _, _, _, _, _, rfl, ⟨rfl, Nat.zero_le _⟩, Seg.nil, Seg.nil, hrd, Seg.nil, Seg.nil⟩
    rw [Nat.zero_mul, Nat.zero_add]
    exact cells_at e2 (by simpa using hj)
theorem wts_one (n : Nat) (fd : Int) (op tag : ByteArray) (l : List Pt) : (wts (n + 1)).2 [oneN fd op tag l] = wtR (wts n).1 (.mk fd op tag l) + 1 := by
  show ([oneN fd op tag l].map (wtX (wts n).1 (wts n).2)).sum = _
  simp only [List.map_cons, List.map_nil, List.sum_cons, List.sum_nil]
  unfold wtX
  simp only [oneN, Nd.name, Nd.assigns, Nd.words, Nd.redirs, Nd.lists, Nd.arms, List.map_cons, List.map_nil, List.sum_cons, List.sum_nil]
  have : (ByteArray.mk #[]).size = 0 := rfl
  omega
theorem rgt_rd (n : Nat) (fd : Int) (op tag : ByteArray) (l : List Pt) (h : (rgt (n + 1)).2 [oneN fd op tag l] 200 = true) (hop : (ls op == [60, 60]) = true) (hz : n = 0 → l = []) : DocFit l ∧ (l.map (docX (litB l))).flatten = docL l := by
  have hop : ls op = [60, 60] := by simpa using hop
  rw [rgt_c, List.all_cons, Bool.and_eq_true] at h
  have h1 := h.1
  unfold nodeF contentB at h1
  simp only [Bool.and_eq_true] at h1
  have h2 : redB (rgt n).1 (.mk fd op tag l) 199 = true := List.all_eq_true.1 h1.2.1.1.1.2 _ (List.mem_singleton.2 rfl)
  change (if decide (fd < 0) || decide (9 < fd) || !(rgt n).1 l 199 then false else if redLs.contains (ls op) then emB tag && !z0 l else if ls op == [60, 60] then nameL (ls tag) && docB tag l else false) = true at h2
  have hw : (rgt n).1 l 199 = true := by
    cases hw : (rgt n).1 l 199 with
    | true => rfl
    | false => rw [hw] at h2; simp at h2
  have hd : docB tag l = true := by
    rw [hop, show redLs.contains [60, 60] = false from by decide] at h2
    split at h2
    · cases h2
    · simp only [Bool.false_eq_true, if_false, beq_self_eq_true, if_true, Bool.and_eq_true] at h2
      exact h2.2
  unfold docB at hd
  have hF := fit_of (parts_ok n l 199 hw hz) (Bool.and_eq_true _ _ ▸ hd).1
  exact ⟨hF, docX_is l fun p hp => (hF p hp).1⟩
end Go.Proofs.YtfaohicadahcjaaGreatDoor
