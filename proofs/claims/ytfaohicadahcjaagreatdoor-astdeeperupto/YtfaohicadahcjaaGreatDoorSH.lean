/- Contracts: the document's Plain; parts without what is in them. Conditions: lengths below a bound. -/
import Derived.Test.YtfaohicadahcjaaGreatDoorSD
namespace Go.Proofs.YtfaohicadahcjaaGreatDoor
open Go.RowKit Go.PlainAid Go.ChangeShapes Go.WideShapes Go.ChangeAt
set_option linter.unusedSimpArgs false
set_option linter.unusedVariables false
def Rel18 (l : List Pt) (s q i : Value) : Prop := ∃ (k : Nat) (acc : ByteArray) (b : Bool), k ≤ l.length ∧ i = .int .i64 k ∧ q = .bool b ∧ s = .string acc ∧ acc.size ≤ k * 1048576 ∧ Hid (plainL l = plusL (ls acc) b (plainL (l.drop k)))
set_option maxHeartbeats 4000000 in
set_option maxRecDepth 100000 in
theorem plain18 (n : Nat) (v : Value) (l : List Pt) (w : World) (h : WdAt n w v l) : Calls Tryz.prog 18 #[v] w fun e w' => e = .returned (plainV (plainL l)) ∧ w = w' := by
  have HL := Lib.hid h
  have hlen := at_len _ _ _ _ h
  obtain ⟨a, c, rfl⟩ := wd_shape _ _ _ _ h
  obtain ⟨q, Hq⟩ : ∃ q, Hid (l.length = q) := ⟨_, Lib.hid rfl⟩
  rw [Hq.out] at HL hlen ⊢
  clear h
  go_enter Tryz.func18, Tryz.ntmps18
  go_wp2
  go_loop [5, 6, 7] (Rel18 l) (fun _ _ i => q - (intOf i).toNat)
  case atStart => exact ⟨0, ⟨#[]⟩, false, Nat.zero_le _, rfl, rfl, rfl, Nat.zero_le _, Lib.hid (by rw [List.drop_zero]; exact (plus_nil _).symm)⟩
  case round =>
    obtain ⟨k, acc, b, hk, rfl, rfl, rfl, hacc, HR⟩ := hrel
    rw [Hq.out] at hk
    by_cases hlt : k < q
    · have hlt' : k < l.length := by rw [Hq.out]; exact hlt
      obtain ⟨m, b1, off, c', wa, wc, ba, bc, _, e, hc, hfit, _, c0, c1, c2, c3, c4, c5⟩ := wd_at2 HL.out k hlt'
      have HC := Lib.hid (plain_cut l k hlt' (ls acc) b)
      obtain ⟨p, Hp⟩ : ∃ p, Hid (l[k] = p) := ⟨_, Lib.hid rfl⟩
      rw [Hp.out] at HC c0 c1 c2 hfit
      rw [Hq.out] at e hc
      cases e
      have htx := hfit.t
      have hk1 := ne_int p.kind 1
      have hk2 := eq_int p.kind 1
      have HK : Hid (p.kind = 1 ↔ decide (p.kind = 1) = true) := Lib.hid (by simp)
      generalize decide (p.kind = 1) = b0 at hk1 hk2 HK
      clear hfit c3 c4 c5
      cases b0
      · have HE : Hid (plainL l = none) := Lib.hid (by rw [HR.out, HC.out, if_neg (fun e => by have := HK.out.1 e; cases this)])
        simp only [Bool.not_false] at hk1
        go_wp2
        go_ret3
        rw [HE.out]; exact ⟨rfl, rfl⟩
      · have HE : Hid (plainL l = plusL (ls (acc ++ p.text)) (b || p.quoted) (plainL (l.drop (k + 1)))) := Lib.hid (by rw [HR.out, HC.out, if_pos (HK.out.2 rfl), app_ls2])
        have hsz : (acc ++ p.text).size ≤ (k + 1) * 1048576 := by rw [ByteArray.size_append]; omega
        have HSz := Lib.hid hsz
        have hn : ¬ 9223372036854775807 < acc.size + p.text.size := by omega
        simp only [Bool.not_true] at hk1
        obtain ⟨qp, Hqp⟩ : ∃ q, Hid (p.quoted = q) := ⟨_, Lib.hid rfl⟩
        obtain ⟨F, HF⟩ : ∃ F, Hid (acc ++ p.text = F) := ⟨_, Lib.hid rfl⟩
        rw [Hqp.out] at c1 HE
        rw [HF.out] at HE HSz
        have hF := HF.out
        clear HK HC hsz hacc
        cases b <;> cases qp
        all_goals (
          go_wp2
          go_round
          case rel => exact ⟨k + 1, F, _, hlt', by go_num, rfl, rfl, HSz.out, HE⟩
          case measure => simp [intOf]; omega)
    · have hkq : q = k := by omega
      subst hkq
      have HE : Hid (plainL l = some (ls acc, b)) := Lib.hid (by rw [HR.out, List.drop_of_length_le (by rw [Hq.out]; exact Nat.le_refl _)]; simp [plainL, plusL])
      go_wp2
      go_ret3
      rw [HE.out, show plainV (some (ls acc, b)) = .tuple #[.string acc, .bool b, .bool true] from by show Value.tuple #[.string (mk (ls acc)), .bool b, .bool true] = _; rw [mk_ls]]; exact ⟨rfl, rfl⟩
/-! Rows of parts that the call makes. -/
def cellsP (p : Pt) : List Value := [.int .i64 p.kind, .bool p.quoted, .string p.text, .string p.op, .slice none 0 0, .slice none 0 0]
def rowP (l : List Pt) : List Value := (l.map cellsP).flatten
theorem rowP_len (l : List Pt) : (rowP l).length = l.length * 6 := by
  induction l with
  | nil => rfl
  | cons p r ih =>
    have : rowP (p :: r) = cellsP p ++ rowP r := rfl
    rw [this, List.length_append, ih]
    simp [cellsP]; omega
theorem rowP_get : ∀ (l : List Pt) (i j : Nat) (p : Pt) (u : Value), l[i]? = some p → (cellsP p)[j]? = some u → (rowP l)[i * 6 + j]? = some u
  | [], i, j, p, u, h, _ => by simp at h
  | x :: r, 0, j, p, u, h, hj => by
    simp at h
    subst h
    have hjl := (List.getElem?_eq_some_iff.1 hj).1
    show (cellsP x ++ rowP r)[0 * 6 + j]? = some u
    rw [Nat.zero_mul, Nat.zero_add, List.getElem?_append_left hjl]
    exact hj
  | x :: r, i + 1, j, p, u, h, hj => by
    have h' : r[i]? = some p := by simpa using h
    show (cellsP x ++ rowP r)[(i + 1) * 6 + j]? = some u
    rw [List.getElem?_append_right (by simp [cellsP]; omega)]
    have := rowP_get r i j p u h' hj
    rw [← this]
    congr 1
    simp [cellsP]; omega
theorem rowP_snoc (l : List Pt) (p : Pt) : rowP (l ++ [p]) = rowP l ++ cellsP p := by simp [rowP]
/-- A part without what is in it. -/
def flatP (p : Pt) : Pt := .mk p.kind p.quoted p.text ⟨#[]⟩ [] []
theorem row_at {B : Nat} {e : TypeId} {w : World} {v : Value} {l : List Pt} (h : w.ownsRow B e 6 v l.length (rowP l)) (hl : l.length ≤ 1048576) (hf : ∀ p ∈ l, PtFits p ∧ p.word = [] ∧ p.body = []) : WdAt 1 w v l := by
  refine ⟨hl, ?_⟩
  rcases h.2 with ⟨rfl, h0⟩ | ⟨g, cap, cur, rfl, hB, hg, hle, _⟩
  · exact .inl ⟨List.eq_nil_of_length_eq_zero h0, _, _, rfl⟩
  · refine .inr ⟨g, 0, cap, rfl, hle, fun i p hi => ⟨cellsP p, fun j u hj => ?_, ?_⟩⟩
    · have := World.ownsRow.cells h (g := g) rfl (i * 6 + j) u (rowP_get l i j p u hi hj)
      rw [add_at] at this
      rw [Nat.zero_add] at this ⊢
      exact this
    · obtain ⟨h1, h2, h3⟩ := hf p (List.mem_of_getElem? hi)
      exact ⟨_, _, rfl, h1, by rw [h2]; exact ⟨rfl, _, _, rfl⟩, by rw [h3]; exact ⟨rfl, _, _, rfl⟩⟩
theorem row_atn {B n : Nat} {e : TypeId} {w : World} {v : Value} {l : List Pt} (hn : n = l.length) (h : w.ownsRow B e 6 v n (rowP l)) (hl : l.length ≤ 1048576) (hf : ∀ p ∈ l, PtFits p ∧ p.word = [] ∧ p.body = []) : WdAt 1 w v l := by subst hn; exact row_at h hl hf
theorem info55' : (Tryz.prog.info? 55).map (fun i => (i.zero, i.size, i.bytes)) = some (some (.agg #[.int .i64 0, .bool false, .string ⟨#[]⟩, .string ⟨#[]⟩, .slice none 0 0, .slice none 0 0]), 6, 96) := by kernel_rfl
theorem info86' : (Tryz.prog.info? 86).map (fun i => (i.zero, i.size, i.bytes)) = some (some (.agg #[.int .i64 0, .bool false, .string ⟨#[]⟩, .string ⟨#[]⟩, .slice none 0 0, .slice none 0 0]), 6, 96) := by kernel_rfl
theorem info_of {t : TypeId} {z : Value} {s b : Nat} (h : (Tryz.prog.info? t).map (fun i => (i.zero, i.size, i.bytes)) = some (some z, s, b)) : ∃ i, Tryz.prog.info? t = some i ∧ i.zero = some z ∧ i.size = s ∧ i.bytes = b := by
  obtain ⟨i, hi, h⟩ := Option.map_eq_some_iff.1 h
  simp only [Prod.mk.injEq] at h
  exact ⟨i, hi, h.1, h.2.1, h.2.2⟩
def Rel20 (l : List Pt) (w : World) (o i : Value) (wx : World) : Prop := ∃ k : Nat, k ≤ l.length ∧ i = .int .i64 k ∧ wx.ownsRow w.heap.size 55 6 o k (rowP ((l.map flatP).take k)) ∧ Below w.heap.size w wx
set_option maxHeartbeats 4000000 in
set_option maxRecDepth 100000 in
theorem bytes20 (n : Nat) (v : Value) (l : List Pt) (w : World) (h : WdAt n w v l) : Calls Tryz.prog 20 #[v] w fun e w' => ∃ v', e = .returned v' ∧ WdAt 1 w' v' (l.map flatP) ∧ Below w.heap.size w w' := by
  obtain ⟨i0, hi, hz0, hz1, hz2⟩ := info_of info55'
  have HL := Lib.hid h
  have hlen := at_len _ _ _ _ h
  obtain ⟨a, c, rfl⟩ := wd_shape _ _ _ _ h
  obtain ⟨q, Hq⟩ : ∃ q, Hid (l.length = q) := ⟨_, Lib.hid rfl⟩
  rw [Hq.out] at HL hlen ⊢
  clear h
  go_enter Tryz.func20, Tryz.ntmps20
  go_wp2
  go_loopw [3, 8] (Rel20 l w) (fun _ i _ => q - (intOf i).toNat)
  case atStart => exact ⟨0, Nat.zero_le _, rfl, World.ownsRow_nil _ _ _ _, Below.refl _ _⟩
  case round =>
    obtain ⟨k, hk, rfl, HO, HB⟩ := hrel
    rename World => wx
    rw [Hq.out] at hk
    have HO := Lib.hid HO
    have HB := Lib.hid HB
    have hsz := HB.out.size
    by_cases hlt : k < q
    · have hlt' : k < l.length := by rw [Hq.out]; exact hlt
      obtain ⟨m, b1, off, c', wa, wc, ba, bc, _, e, hc, hfit, _, c0, c1, c2, c3, c4, c5⟩ := wd_at2 HL.out k hlt'
      have HT : Hid ((l.map flatP).take (k + 1) = (l.map flatP).take k ++ [flatP l[k]]) := Lib.hid (by rw [List.take_add_one, List.getElem?_map, List.getElem?_eq_getElem hlt']; rfl)
      obtain ⟨p, Hp⟩ : ∃ p, Hid (l[k] = p) := ⟨_, Lib.hid rfl⟩
      rw [Hp.out] at HT c0 c1 c2 c3 c4 c5
      rw [Hq.out] at e hc
      cases e
      replace c0 := cell_low c0 HB.out
      replace c1 := cell_low c1 HB.out
      replace c2 := cell_low c2 HB.out
      replace c3 := cell_low c3 HB.out
      replace c4 := cell_low c4 HB.out
      replace c5 := cell_low c5 HB.out
      generalize p.word.length = nw at c4
      generalize p.body.length = nb at c5
      have hbo := HB.out.alloc hsz (.cells #[.int .i64 p.kind, .bool p.quoted, .string p.text, .string p.op, .slice wa nw wc, .slice ba nb bc] 55)
      have HB1 := Lib.hid (hbo.alloc hbo.size (.cells #[.int .i64 p.kind, .bool p.quoted, .string p.text, .string ⟨#[]⟩, .slice none 0 0, .slice none 0 0] 55))
      have hnew := heap_alloc_new (wx.alloc (.cells #[.int .i64 p.kind, .bool p.quoted, .string p.text, .string p.op, .slice wa nw wc, .slice ba nb bc] 55)) (.cells #[.int .i64 p.kind, .bool p.quoted, .string p.text, .string ⟨#[]⟩, .slice none 0 0, .slice none 0 0] 55)
      have hown := (HO.out.alloc (.cells #[.int .i64 p.kind, .bool p.quoted, .string p.text, .string p.op, .slice wa nw wc, .slice ba nb bc] 55)).alloc (.cells #[.int .i64 p.kind, .bool p.quoted, .string p.text, .string ⟨#[]⟩, .slice none 0 0, .slice none 0 0] 55)
      obtain ⟨oa, oc, rfl⟩ := slice_shape HO.out
      clear hfit hbo
      go_wp2_with (at_builtin; refine wpList_append_own _ rfl _ _ 33 rfl w.heap.size 55 i0 _ 6 96 Tryz.underlying33 hi hz0 hz1 hz2 rfl (by decide) _ _ _ rfl hown ⟨_, 0, none⟩ 1 1 (cellsP (flatP p)) rfl rfl ?c1 ?c2 ?c3 ?c4 ?c5 ?_)
      case c1 =>
        intro j u hj
        rw [add_at, Nat.zero_add]
        exact cells_at (by simpa using hnew) (by simpa [cellsP, flatP, Pt.kind, Pt.quoted, Pt.text, Pt.op] using hj)
      case c2 => intro u hu; simp [cellsP] at hu; rcases hu with rfl | rfl | rfl | rfl | rfl <;> rfl
      case c3 => unfold maxLen; omega
      case c4 => omega
      case c5 => simp; omega
      intro v' w2 hown' hgrow _
      have HB2 := Lib.hid (HB1.out.grown hgrow (by simp; omega) (fun j hj => (World.ownsRow.lt HO.out j hj).1))
      have HRl : Hid (Rel20 l w v' (.int .i64 ((k : Int) + 1)) w2) := Lib.hid ⟨k + 1, hlt', by go_num, by rw [HT.out, rowP_snoc]; exact hown', HB2.out⟩
      clear hown' hgrow hown hnew c0 c1 c2 c3 c4 c5
      go_wp2
      go_round
      case rel => exact HRl.out
      case measure => simp [intOf]; omega
    · have hkq : q = k := by omega
      subst hkq
      have h1 := HO.out
      rw [List.take_of_length_le (by rw [List.length_map, Hq.out]; exact Nat.le_refl _)] at h1
      have HW := Lib.hid (row_atn (by rw [List.length_map, Hq.out]) h1 (by rw [List.length_map, Hq.out]; exact hlen) (fun p hp => by
        obtain ⟨p0, hp0, rfl⟩ := List.mem_map.1 hp
        obtain ⟨i, hi, rfl⟩ := List.getElem_of_mem hp0
        obtain ⟨m, b1, off, c', wa, wc, ba, bc, _, _, _, hfit, _⟩ := wd_at2 HL.out i hi
        exact ⟨⟨hfit.k, hfit.t, Nat.zero_le _⟩, rfl, rfl⟩))
      clear h1
      go_wp2
      go_ret
      exact ⟨_, rfl, HW.out, HB.out⟩
end Go.Proofs.YtfaohicadahcjaaGreatDoor
