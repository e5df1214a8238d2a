/- Contract of Best. Conditions: lengths. -/
import Derived.Test.YtohjpclpeiidfaaDoorG
namespace Go.Proofs.YtohjpclpeiidfaaDoor
open Go.RowKit Go.PlainAid
set_option linter.unusedSimpArgs false
set_option linter.unusedVariables false
namespace Fl

/-- Is the number at a place finite? -/
def finK (k : Int) : Bool := decide (k ≠ kInf) && decide (k ≠ kNan) && decide (k ≠ -kInf - 1)
theorem finite_ky (a : Nat) : (!decide (rg a = 9218868437227405312) && !nn a) = finK (ky a) := by
  have ha := rg_lt a
  have na : nn a = false → rg a ≤ 9218868437227405312 := not_nn
  have nb : nn a = true → 9218868437227405312 < rg a := by intro h; simpa [nn] using h
  unfold finK ky kInf kNan
  rw [Bool.eq_iff_iff]
  cases h1 : nn a <;> cases h3 : sg a <;> simp only [h1, Bool.false_eq_true, if_true, if_false, Bool.not_true, Bool.not_false, Bool.and_true, Bool.and_false, reduceCtorEq, forall_const, Bool.not_eq_true', Bool.and_eq_true, decide_eq_true_eq, decide_eq_false_iff_not, false_iff] at na nb ⊢ <;> omega

/-- What Best answers, by the places of what each way costs. -/
def BestR (K : Nat → Int) (ws : List Int) (z : Nat) (x y : Int) : Prop :=
  (ws = [] ∧ x = 0 ∧ y = 12) ∨ ∃ j : Nat, j < ws.length ∧ FM K ws.length j ∧ ((0 < z ∧ finK (K j) = false ∧ x = 0 ∧ y = 43) ∨ (¬ (0 < z ∧ finK (K j) = false) ∧ x = ws.getD j 0 ∧ y = 0))
def GivesB (K : Nat → Int) (ws : List Int) (z : Nat) (w : World) (e : Ending) (w' : World) : Prop := ∃ x y : Int, e = .returned (.tuple #[.int .i64 x, .int .i64 y]) ∧ BestR K ws z x y ∧ Below w.heap.size w w'
def kw (ws : List Int) (l : List UInt8) (i : Nat) : Int := kc (ws.getD i 0) l

theorem Tryd.info22 : (Tryd.prog.info? 22).map (fun i => (i.zero, i.size, i.bytes)) = some (some (.float .f64 0), 1, 8) := by kernel_rfl
theorem new_f (w : World) (x : Nat) : ∀ j u, [Value.float .f64 x][j]? = some u → (w.alloc (.cells #[.float .f64 x] 22)).cell? ((⟨w.heap.size, 0, none⟩ : Addr).add j) = some u := by
  intro j u hj
  match j, hj with
  | 0, hj => simp at hj; subst hj; simp [Addr.add]
/-- Costs: a list in memory of the call's own, at the ways' places. -/
def OF (B : Nat) (v : Value) (cs : List Nat) (w : World) : Prop := w.ownsRow B 22 1 v cs.length (fl cs)
theorem OF.below {B : Nat} {v : Value} {l : List Nat} {w w' : World} (h : OF B v l w) (hb : Below w.heap.size w w') : OF B v l w' := by
  refine ⟨h.1, ?_⟩
  rcases h.2 with h2 | ⟨g, cap, cur, rfl, h2, h3, h4⟩
  · exact .inl h2
  · exact .inr ⟨g, cap, cur, rfl, h2, (hb.block _ (lt_of_block h3)).trans h3, h4⟩
theorem of_push {w wr w1 : World} {acc : List Nat} {v v' : Value} {x : Nat} {o : Obj} (h0 : OF w.heap.size v acc wr) (hb : Below w.heap.size w wr)
    (hown : w1.ownsRow w.heap.size 22 1 v' (acc.length + 1) (fl acc ++ [.float .f64 x])) (hg : (wr.alloc o).grownBy w1 v.ownBlock) :
    OF w.heap.size v' (acc ++ [x]) w1 ∧ Below w.heap.size w w1 := by
  refine ⟨?_, (hb.alloc hb.size o).grown hg (by simp; have := hb.size; omega) (fun j hj => (World.ownsRow.lt h0 j hj).1)⟩
  unfold OF
  rw [List.length_append]
  have e : fl acc ++ [.float .f64 x] = fl (acc ++ [x]) := by simp [fl]
  rw [← e]
  exact hown
theorem slice_shape {w : World} {base : Nat} {e : TypeId} {size : Nat} {v : Value} {n : Nat} {xs : List Value} (h : w.ownsRow base e size v n xs) : ∃ a c, v = .slice a n c := by
  rcases h.2 with ⟨rfl, h0⟩ | ⟨g, cap, cur, rfl, _⟩
  · subst h0; exact ⟨_, _, rfl⟩
  · exact ⟨_, _, rfl⟩
/-- The costs so far are at their places. -/
def At (K : Nat → Int) (cs : List Nat) : Prop := All cs ∧ ∀ i, i < cs.length → kyAt cs i = K i
theorem At.nil (K : Nat → Int) : At K [] := ⟨fun x h => by simp at h, fun i h => by simp at h⟩
theorem At.push {K : Nat → Int} {cs : List Nat} {x : Nat} (h : At K cs) (hx : x < 18446744073709551616) (hk : ky x = K cs.length) : At K (cs ++ [x]) := by
  refine ⟨fun y hy => ?_, fun i hi => ?_⟩
  · rcases List.mem_append.1 hy with hy | hy
    · exact h.1 y hy
    · simp at hy; rw [hy]; exact hx
  · unfold kyAt
    rw [List.length_append, List.length_singleton] at hi
    by_cases c : i < cs.length
    · rw [← h.2 i c]; unfold kyAt
      rw [List.getD_eq_getElem?_getD, List.getD_eq_getElem?_getD, List.getElem?_append_left c]
    · obtain rfl : i = cs.length := by omega
      rw [List.getD_eq_getElem?_getD, List.getElem?_append_right (Nat.le_refl _), Nat.sub_self]
      exact hk
theorem FM.congr {K K' : Nat → Int} {n : Nat} {m : Int} (h : FM K n m) (he : ∀ i, i < n → K i = K' i) : FM K' n m := by
  rcases h with h | ⟨j, h1, h2, h3, h4⟩
  · exact .inl h
  · refine .inr ⟨j, h1, h2, fun i hi => ?_, fun i hi => ?_⟩
    · rw [← he j h1, ← he i hi]; exact h3 i hi
    · rw [← he j h1, ← he i (by omega)]; exact h4 i hi
def Rel21 (w : World) (ws : List Int) (l : List UInt8) (v i : Value) (wx : World) : Prop := ∃ cs : List Nat, cs.length ≤ ws.length ∧ i = .int .i64 cs.length ∧ Hid (OF w.heap.size v cs wx) ∧ Hid (At (kw ws l) cs) ∧ Hid (Below w.heap.size w wx)
theorem Dr.bel {w w' : World} (h : Dr w w') : Below w.heap.size w w' := h.below _

set_option maxHeartbeats 4000000 in
set_option maxRecDepth 100000 in
theorem best21 (s : ByteArray) (v : Value) (ws : List Int) (w : World) (hs : s.size ≤ 3000) (hv : Sl w v (il ws)) (hn : ws.length ≤ 100) :
    Calls Tryd.prog 8 #[.string s, v] w (GivesB (kw ws (ls s)) ws s.size w) := by
  obtain ⟨av, cv, rfl⟩ := hv.shape
  rw [il_len] at *
  by_cases h0 : ws.length = 0
  · have e : ws = [] := List.length_eq_zero_iff.1 h0
    subst e
    clear hv hn h0
    go_enter Tryd.func8, Tryd.ntmps8
    go_wp2
    go_ret2
    exact ⟨0, 12, rfl, .inl ⟨rfl, rfl, rfl⟩, Below.refl _ _⟩
  · obtain ⟨g, off, cc, e, hcc, hcell⟩ : ∃ g off cc, (Value.slice av ws.length cv) = .slice (some ⟨g, off, none⟩) ws.length cc ∧ ws.length ≤ cc ∧ ∀ (i : Nat) (x : Value), (il ws)[i]? = some x → w.cell? ⟨g, off + i, none⟩ = some x := by
      rcases hv with ⟨e, _⟩ | ⟨g, off, cc, e, h1, h2⟩
      · have := congrArg List.length e
        rw [il_len] at this
        exact absurd this h0
      · rw [il_len] at e h1; exact ⟨g, off, cc, e, h1, h2⟩
    cases e
    have HC := Lib.hid hcell
    have d0 : ((ws.length : Int) == 0) = false := by simpa using h0
    obtain ⟨i0, hi0, hz0, hz1, hz2⟩ := info_parts Tryd.info22
    have HN := Lib.hid hn
    have H0 := Lib.hid h0
    clear hcell hv h0
    go_enter Tryd.func8, Tryd.ntmps8
    go_wp2_with (at_make; refine wpList_make_own _ rfl _ _ 38 rfl w.heap.size 22 i0 (.float .f64 0) 1 Tryd.underlying38 hi0 hz0 hz1 .i64 .i64 _ ws.length rfl rfl rfl ?m1 ?m2 (Nat.le_refl _) ?_)
    case m1 => rw [hz2]; omega
    case m2 => unfold maxLen; omega
    intro w0 hown0 hgrow0
    have HO0 : Hid (OF w.heap.size (.slice (some ⟨w.heap.size, 0, none⟩) 0 ws.length) [] w0) := Lib.hid hown0
    have HB0 := Lib.hid ((Below.refl w.heap.size w).grown hgrow0 (Nat.le_refl _) (fun k h => by cases h))
    clear hown0 hgrow0
    go_wp2
    go_loopw [6, 18] (Rel21 w ws (ls s)) (fun _ i _ => ws.length - (intOf i).toNat)
    case atStart => exact ⟨[], Nat.zero_le _, rfl, HO0, Lib.hid (At.nil _), HB0⟩
    case round =>
      obtain ⟨cs, hk, rfl, HO, HA, HB⟩ := hrel
      rename World => wx
      by_cases hlt : cs.length < ws.length
      · have hc : wx.cell? _ = _ := cell_kept (HC.out cs.length _ (il_at hlt)) HB.out
        have C := Lib.hid (cost19 ws[cs.length] s wx hs)
        have hkw : kw ws (ls s) cs.length = kc ws[cs.length] (ls s) := by unfold kw; rw [List.getD_eq_getElem?_getD, List.getElem?_eq_getElem hlt]; rfl
        have HK := Lib.hid hkw
        rw [← HK.out] at C
        obtain ⟨a1, c1, rfl⟩ := slice_shape HO.out
        clear hkw
        go_wp2_with fail
        refine C.out.mono ?_
        rintro e w1 ⟨r, rfl, hr1, hr2, hr3⟩
        have HO1 := Lib.hid (HO.out.below hr3.bel)
        have HB1 := Lib.hid (HB.out.trans (hr3.bel.mono HB.out.size))
        have hb1 : w.heap.size ≤ w1.heap.size := HB1.out.size
        have HA1 := Lib.hid (HA.out.push hr1 hr2)
        clear hr3 C HO hr1 hr2 HA
        go_wp2_with (at_builtin; refine wpList_append_own _ rfl _ _ 38 rfl w.heap.size 22 i0 (.float .f64 0) 1 8 Tryd.underlying38 hi0 hz0 hz1 hz2 rfl (by decide) _ _ _ rfl (World.ownsRow.alloc HO1.out _) ⟨w1.heap.size, 0, none⟩ 1 1 [.float .f64 r] rfl rfl ?c1 ?c2 ?c3 ?c4 ?c5 ?_)
        case c1 => exact new_f w1 _
        case c2 => intro u hu; simp at hu; subst hu; rfl
        case c3 => have := HN.out; unfold maxLen; omega
        case c4 => have := HN.out; omega
        case c5 => simp; omega
        · intro v' w2 hown' hgrow _
          have P := Lib.hid (of_push HO1.out HB1.out hown' hgrow)
          clear hown' hgrow
          go_wp2
          go_roundw
          case rel => exact ⟨cs ++ [r], by simp; omega, by simp [List.length_append], Lib.hid P.out.1, HA1, Lib.hid P.out.2⟩
          case measure => simp [intOf]; omega
      · obtain hkk : cs.length = ws.length := by omega
        have C := Lib.hid fun v hv => least10 cs v wx hv HA.out.1 (by omega)
        have HS := Lib.hid (Sl.own HO.out)
        obtain ⟨a1, c1, rfl⟩ := slice_shape HO.out
        have C1 := Lib.hid (C.out _ HS.out)
        clear C HO
        have HK : Hid (cs.length = ws.length) := Lib.hid hkk
        rw [hkk] at C1 HS ⊢
        clear hk hlt hkk
        go_wp2_with fail
        refine C1.out.mono ?_
        rintro e w1 ⟨m, rfl, hm, hb⟩
        have hB := HB.out.trans (hb.mono HB.out.size)
        obtain ⟨j, hj, rfl⟩ : ∃ j : Nat, j < ws.length ∧ m = j := by
          rcases hm with ⟨h, _⟩ | ⟨j, h1, h2, _⟩
          · exact absurd h H0.out
          · exact ⟨j, h1, h2⟩
        have hjc : j < cs.length := by rw [HK.out]; exact hj
        have hky : kyAt cs j = kw ws (ls s) j := HA.out.2 j hjc
        have HM := Lib.hid (hm.congr fun i hi => HA.out.2 i (by rw [HK.out]; exact hi))
        have c1' : w1.cell? _ = _ := cell_kept (HC.out j _ (il_at hj)) hB
        have hsl := HS.out.below hb
        rcases hsl with ⟨e, _⟩ | ⟨g2, off2, cc2, e, hcc2, hcell2⟩
        · have := congrArg List.length e
          rw [fl_len] at this
          change cs.length = 0 at this
          omega
        rw [fl_len, HK.out] at e
        cases e
        have c2' := hcell2 j _ (fl_at hjc)
        have hfin : (!decide (rg cs[j] = 9218868437227405312) && !nn cs[j]) = finK (kw ws (ls s) j) := by rw [finite_ky, ← kyAt_is hjc, hky]
        have C := Lib.hid fun W => finite34 cs[j] W (HA.out.1.at j hjc)
        rw [hfin] at C
        have hgd : ws.getD j 0 = ws[j] := by rw [List.getD_eq_getElem?_getD, List.getElem?_eq_getElem hj]; rfl
        have HE : Hid (∀ x y, ((0 < s.size ∧ finK (kw ws (ls s) j) = false ∧ x = 0 ∧ y = 43) ∨ (¬ (0 < s.size ∧ finK (kw ws (ls s) j) = false) ∧ x = ws[j] ∧ y = 0)) → BestR (kw ws (ls s)) ws s.size x y) :=
          Lib.hid fun x y h => .inr ⟨j, hj, HM.out, by rw [hgd]; exact h⟩
        have HBF := Lib.hid hB
        generalize finK (kw ws (ls s) j) = f at C HE
        clear hm hky HM hcell2 hfin hgd hB hb
        by_cases hz : s.size = 0
        · have f1 := toList_em hz
          go_wp2
          go_ret2
          exact ⟨ws[j], 0, rfl, HE.out _ _ (.inr ⟨fun h => by omega, rfl, rfl⟩), HBF.out⟩
        · have f1 := toList_ne (show 0 < s.size by omega)
          cases f
          · go_wp2_with (go_at_call 16; refine (C.out _).mono ?_; rintro e w' ⟨rfl, rfl⟩)
            go_ret2
            exact ⟨0, 43, rfl, HE.out _ _ (.inl ⟨by omega, (by first | rfl | trivial), rfl, rfl⟩), HBF.out⟩
          · go_wp2_with (go_at_call 16; refine (C.out _).mono ?_; rintro e w' ⟨rfl, rfl⟩)
            go_ret2
            exact ⟨ws[j], 0, rfl, HE.out _ _ (.inr ⟨(by simp), rfl, rfl⟩), HBF.out⟩
end Fl
end Go.Proofs.YtohjpclpeiidfaaDoor
