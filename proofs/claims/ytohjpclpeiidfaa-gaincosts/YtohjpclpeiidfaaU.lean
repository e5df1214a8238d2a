/- GainCosts, walked, where both sides agree on what Octal may tell. -/
import Derived.Test.YtohjpclpeiidfaaS
import Derived.Test.YtohjpclpeiidfaaN
import Derived.Laws.AppendOwnNone
namespace Go.Proofs.Ytohjpclpeiidfaa
open Go.RowKit Go.PlainAid Go.ChangeShapes Go.WideShapes Go.ChangeAt
set_option linter.unusedSimpArgs false
set_option linter.unusedVariables false
namespace Fl

theorem kc_is (hoc : ∀ l, octOk l = octD l) (way : Int) (l : List UInt8) : kc way l = kcD way l := by unfold kc kcD; rw [hoc]
theorem kcD_nonneg (way : Int) (l : List UInt8) (h : l.length ≤ 3000) : 0 ≤ kcD way l := by
  have h2 := Es.esc_len_le l
  unfold kcD
  split
  · split
    · exact ks_nonneg (by omega) (by omega)
    · decide
  · split
    · refine ks_nonneg ?_ (by omega)
      unfold Uu.sizeR; split <;> omega
    · split
      · split
        · exact ks_nonneg (by omega) (by omega)
        · decide
      · decide
theorem fin_hi {k : Int} (h : 0 ≤ k) : finK k = !hiK k := by
  unfold finK hiK kInf kNan
  rw [Bool.eq_iff_iff]
  simp only [Bool.and_eq_true, decide_eq_true_eq, Bool.not_eq_true', Bool.or_eq_false_iff, decide_eq_false_iff_not]
  omega
theorem best_same {K K' : Nat → Int} {ws : List Int} {z : Nat} {x y x' y' : Int} (hK : ∀ i, i < ws.length → K i = K' i) (h0 : ∀ i, i < ws.length → 0 ≤ K i) (h : BestR K ws z x y) (h' : BestD K' ws z x' y') : x = x' ∧ y = y' := by
  rcases h with ⟨e, rfl, rfl⟩ | ⟨j, hj, hF, hr⟩
  · rcases h' with ⟨_, rfl, rfl⟩ | ⟨j, hj, _⟩
    · exact ⟨rfl, rfl⟩
    · rw [e] at hj; simp at hj
  · rcases h' with ⟨e, _⟩ | ⟨j', hj', hF', hr'⟩
    · rw [e] at hj; simp at hj
    · have hjj : (j : Int) = j' := (hF.congr hK).unique hF'
      have hjj : j = j' := by omega
      subst hjj
      have e : finK (K j) = !hiK (K' j) := by rw [fin_hi (h0 j hj), hK j hj]
      rw [e] at hr
      rcases hr with ⟨a1, a2, rfl, rfl⟩ | ⟨a1, rfl, rfl⟩ <;> rcases hr' with ⟨b1, b2, rfl, rfl⟩ | ⟨b1, rfl, rfl⟩
      · exact ⟨rfl, rfl⟩
      · exact absurd ⟨a1, by simpa using a2⟩ b1
      · exact absurd ⟨b1, by rw [b2]; rfl⟩ a1
      · exact ⟨rfl, rfl⟩

/-- What came in as a slice of numbers. -/
def SlA (w : World) (v : Value) (xs : List Value) : Prop := (v = .slice none 0 0 ∧ xs = []) ∨ ∃ a c, v = .slice (some a) xs.length c ∧ xs.length ≤ c ∧ ∀ (i : Nat) (x : Value), xs[i]? = some x → w.cell? (a.add i) = some x
theorem SlA.sl {w : World} {v : Value} {xs : List Value} (h : SlA w v xs) : Sl w v xs := by
  rcases h with ⟨rfl, rfl⟩ | ⟨a, c, rfl, h1, h2⟩
  · exact .inl ⟨rfl, _, _, rfl⟩
  · by_cases h0 : xs = []
    · subst h0; exact .inl ⟨rfl, _, _, rfl⟩
    · obtain ⟨b, off, spot⟩ := a
      obtain ⟨x, hx⟩ : ∃ x, xs[0]? = some x := ⟨xs[0]'(List.length_pos_iff.2 h0), List.getElem?_eq_getElem _⟩
      have hspot : spot = none := by simpa [Addr.add] using World.cell?_spot (h2 0 x hx)
      subst hspot
      refine .inr ⟨b, off, c, rfl, h1, fun i x hi => ?_⟩
      have := h2 i x hi
      rw [add_at] at this
      exact this
theorem SlA.below {w w' : World} {v : Value} {xs : List Value} (h : SlA w v xs) (hb : Below w.heap.size w w') : SlA w' v xs := by
  rcases h with h | ⟨a, c, h1, h2, h3⟩
  · exact .inl h
  · exact .inr ⟨a, c, h1, h2, fun i x hi => cell_kept (h3 i x hi) hb⟩
set_option maxRecDepth 100000 in
theorem open_ila {H : Type} {enc : TypeId × Value → H} {W : World} {base : Nat} {v : Value} {d : DataW H} {p : List MemPlace} (hv : Value.okWide Try.prog W .any base 34 v) (h : DataW.Trod enc Try.prog W 0 (fun _ => true) true 34 v d p) :
    ∃ l, SlA W v (il l) := by
  obtain ⟨a, len, cap, rfl⟩ := okWide_slice Try.underlying34 hv
  obtain ⟨fuel, hf⟩ := h
  rcases Deep.open_slice1 Try.underlying34 (by kernel_rfl) hf with ⟨hcs, _⟩ | ⟨x, l, c, m, n, V, D, Pl, hcs, _, hl, _, hm, _, hc⟩
  · simp [Value.cells] at hcs
    obtain ⟨rfl, rfl, rfl⟩ := hcs
    exact ⟨[], .inl ⟨rfl, rfl⟩⟩
  · simp [Value.cells] at hcs
    obtain ⟨rfl, rfl, rfl⟩ := hcs
    have hm : m = cap := by simpa using hm
    have hx : ∀ i, ∃ b, i < len → V i = .int .i64 b := by
      intro i
      by_cases hi : i < len
      · obtain ⟨b, h1, _, h2⟩ := DataW.trod_int Try.underlying3 (hc i (by omega)).2
        exact ⟨b, fun _ => by simpa using h1⟩
      · exact ⟨0, fun h => absurd h hi⟩
    let F := fun i => Classical.choose (hx i)
    have hF : ∀ i, i < len → V i = .int .i64 (F i) := fun i => Classical.choose_spec (hx i)
    refine ⟨(List.range len).map F, .inr ⟨x, cap, by simp [il], by simpa [il] using hl, ?_⟩⟩
    intro i y hi
    have hi2 : i < len := by have := (List.getElem?_eq_some_iff.1 hi).1; simpa [il] using this
    have e : (il ((List.range len).map F))[i]? = some (V i) := by rw [hF i hi2]; simp [il, hi2]
    rw [e] at hi
    cases hi
    exact (hc i (by omega)).1

theorem Try.info3 : (Try.prog.info? 3).map (fun i => (i.zero, i.size, i.bytes)) = some (some (.int .i64 0), 1, 8) := by kernel_rfl
theorem own_three (w : World) : (w.alloc (.cells #[.int .i64 1, .int .i64 2, .int .i64 3] 3)).ownsRow w.heap.size 3 1 (.slice (some ⟨w.heap.size, 0, none⟩) 3 3) 3 (il [1, 2, 3]) :=
  ⟨rfl, .inr ⟨w.heap.size, 3, #[.int .i64 1, .int .i64 2, .int .i64 3], rfl, Nat.le_refl _, heap_alloc_new _ _, Nat.le_refl _, by unfold maxLen; omega, rfl, rfl⟩⟩
theorem il_app (a b : List Int) : il a ++ il b = il (a ++ b) := by simp [il]
theorem il_one (l : List Int) : ∀ u ∈ il l, u.oneCell' = true := by
  intro u h
  simp only [il, List.mem_map] at h
  obtain ⟨b, _, rfl⟩ := h
  rfl
def Rel5 (n : Nat) (w : World) (i : Value) (wx : World) : Prop := ∃ k : Nat, k ≤ n ∧ i = .int .i64 k ∧ Hid (Below w.heap.size w wx)

/-- The law from its loop on: what it asks of the world. -/
structure Ctx (s : ByteArray) (ws : List Int) : Prop where
  small : s.size ≤ 2000
  few : ws.length ≤ 20
  oct : ∀ l, octOk l = octD l
theorem Ctx.cost {s : ByteArray} {ws : List Int} (h : Ctx s ws) (way : Int) (w : World) : Calls Try.prog 19 #[.int .i64 way, .string s] w (ShrB (kcD way (ls s)) w) :=
  (cost19 way s w (by have := h.small; omega)).mono (by rintro e w' ⟨r, rfl, h1, h2, h3⟩; exact ⟨r, rfl, h1, by rw [h2, kc_is h.oct], h3.bel⟩)
theorem Ctx.costD {s : ByteArray} {ws : List Int} (h : Ctx s ws) (way : Int) (w : World) : Calls Try.prog 20 #[.int .i64 way, .string s] w (ShrB (kcD way (ls s)) w) := cost20 way s w (by have := h.small; omega)

set_option maxHeartbeats 8000000 in
set_option maxRecDepth 100000 in
theorem costs5 (s : ByteArray) (v : Value) (ws : List Int) (hs : s.size ≤ 140737488351232) (W : World) (hoc : ∀ l, octOk l = octD l) (hv : SlA W v (il ws)) :
    Calls Try.prog 5 #[.string s, v] W fun e W' => e = .returned (.bool true) ∧ Below W.heap.size W W' := by
  have C := Lib.hid (anchor7 W)
  obtain ⟨av, cv, rfl⟩ := hv.sl.shape
  rw [il_len] at *
  have HV := Lib.hid hv
  clear hv
  by_cases hbig : 2000 < s.size ∨ 20 < ws.length
  · have hd : (2000 : Int) < s.size ∨ (¬ (2000 : Int) < s.size ∧ (20 : Int) < ws.length) := by omega
    rcases hd with d1 | ⟨d1, d2⟩
    all_goals
      go_enter Try.func5, Try.ntmps5
      go_wp2_with fail
      refine C.out.mono ?_
      rintro e w1 ⟨rfl, hb1⟩
      have HB := Lib.hid hb1
      clear hb1
      go_wp2_with fail
      go_ret
      exact ⟨rfl, HB.out⟩
  · have HC : Hid (Ctx s ws) := Lib.hid ⟨by omega, by omega, hoc⟩
    have d1 : ¬ (2000 : Int) < s.size := by omega
    have d2 : ¬ (20 : Int) < ws.length := by omega
    have hn : ws.length ≤ 20 := by omega
    obtain ⟨i0, hi0, hz0, hz1, hz2⟩ := info_parts Try.info3
    clear hbig hoc
    go_enter Try.func5, Try.ntmps5
    go_wp2_with fail
    refine C.out.mono ?_
    rintro e w1 ⟨rfl, hb1⟩
    have HB1 := Lib.hid hb1
    have HV1 := Lib.hid (HV.out.below hb1)
    clear hb1
    have HO := Lib.hid (own_three w1)
    have HBa := Lib.hid (alloc_bel w1 (.cells #[.int .i64 1, .int .i64 2, .int .i64 3] 3))
    rcases HV1.out with ⟨e, hnil⟩ | ⟨ad, cc, e, hcc, hcell⟩
    · have hn0 : ws = [] := by
        have := congrArg List.length hnil
        rw [il_len] at this
        exact List.length_eq_zero_iff.1 this
      subst hn0
      cases e
      go_wp2_with (at_builtin; refine wpList_append_own_none rfl _ _ 34 rfl w1.heap.size 3 i0 1 Try.underlying34 hi0 _ 3 _ rfl HO.out rfl ?_)
      obtain ⟨ws, hws⟩ : ∃ q : List Int, q = [] := ⟨_, rfl⟩
      rw [← hws] at HV HV1 HC
      have HS3 : Hid (Sl (w1.alloc (.cells #[.int .i64 1, .int .i64 2, .int .i64 3] 3)) (.slice (some ⟨w1.heap.size, 0, none⟩) 3 3) (il [1, 2, 3])) := Lib.hid (sl_three 1 2 3 w1)
      have HB3 := Lib.hid (HB1.out.trans (HBa.out.mono HB1.out.size))
      have hn : ws.length ≤ 20 := by rw [hws]; simp
      have hw0 : ws.length = 0 := by rw [hws]; rfl
      clear HO HBa HV1
      generalize w1.alloc (.cells #[.int .i64 1, .int .i64 2, .int .i64 3] 3) = w2 at *
      obtain ⟨xs, hxs⟩ : ∃ xs : List Int, xs = [1, 2, 3] := ⟨_, rfl⟩
      have hx3 : xs.length = 3 := by rw [hxs]; rfl
      rw [← hxs] at HS3
      have hx3' : ((xs.length : Nat) : Int) = 3 := by omega
      clear hxs
      go_loopw [25] (Rel5 3 w2) (fun i _ => 3 - (intOf i).toNat)
      case atStart => exact ⟨0, Nat.zero_le _, rfl, Lib.hid (Below.refl _ _)⟩
      case round =>
        obtain ⟨k, hk, rfl, HB⟩ := hrel
        rename World => wx
        by_cases hlt : k < 3
        · rcases HS3.out with ⟨e, _⟩ | ⟨g, off, cc, e, hcc, hcell⟩
          · have := congrArg List.length e
            rw [il_len] at this
            change xs.length = 0 at this
            omega
          rw [il_len, hx3] at e
          cases e
          have hltx : xs.length > k := by omega
          have c1 : wx.cell? _ = _ := cell_kept (hcell k _ (il_at hltx)) HB.out
          rw [Nat.zero_add] at c1
          have C1 := Lib.hid fun w => HC.out.cost (xs[k]'hltx) w
          have C2 := Lib.hid fun w => HC.out.costD (xs[k]'hltx) w
          clear hcell
          go_wp2_with fail
          refine (C1.out _).mono ?_
          rintro e w3 ⟨r1, rfl, hr1, hk1, hd1⟩
          have HB4 := Lib.hid (HB.out.trans (hd1.mono HB.out.size))
          clear hd1
          go_wp2_with fail
          refine (C2.out _).mono ?_
          rintro e w4 ⟨r2, rfl, hr2, hk2, hd2⟩
          have HB5 := Lib.hid (HB4.out.trans (hd2.mono HB4.out.size))
          have SA := Lib.hid fun w => same12 r1 r2 w hr1 hr2
          rw [hk1, hk2, decide_eq_true rfl] at SA
          clear hd2 hk1 hk2 hr1 hr2 C1 C2 HB4
          go_wp2_with (go_at_call 12; (with_reducible refine (SA.out _).mono ?_); rintro e w' ⟨rfl, rfl⟩)
          go_roundw
          case rel => exact ⟨k + 1, hlt, by go_num, HB5⟩
          case measure => simp [intOf]; omega
        · obtain rfl : k = 3 := by omega
          have hB := HB3.out.trans (HB.out.mono HB3.out.size)
          have HVx := Lib.hid (HV.out.below hB).sl
          rw [hw0] at HVx
          have HBx := Lib.hid hB
          clear hB
          have CB := Lib.hid fun w hv => best21 s (.slice none 0 0) ws w (by have := HC.out.small; omega) hv (by omega)
          have CD := Lib.hid fun w hv => best22 s (.slice none 0 0) ws w (by have := HC.out.small; omega) hv (by omega)
          have T1 := Lib.hid fun w => text23 s w (by have := HC.out.small; omega)
          have T2 := Lib.hid fun w => text24 s w (by have := HC.out.small; omega)
          have hls : (ls s).length ≤ 3000 := by rw [ls_len]; have := HC.out.small; omega
          have HS := Lib.hid fun (x y x' y' : Int) (h : BestR (kw ws (ls s)) ws s.size x y) (h' : BestD (kwD ws (ls s)) ws s.size x' y') =>
            best_same (fun i _ => (kc_is HC.out.oct _ _ : kw ws (ls s) i = kwD ws (ls s) i)) (fun i _ => by show 0 ≤ kc _ _; rw [kc_is HC.out.oct]; exact kcD_nonneg _ _ hls) h h'
          generalize txt (ls s) = tt at *
          clear hls HS3 HB3
          go_wp2_with fail
          refine (CB.out _ HVx.out).mono ?_
          rintro e w3 ⟨x, y, rfl, hr, hd⟩
          have HB4 := Lib.hid (HBx.out.trans (hd.mono HBx.out.size))
          have HV4 := Lib.hid (HVx.out.below hd)
          have HR := Lib.hid hr
          clear hd hr
          go_wp2_with fail
          refine (CD.out _ HV4.out).mono ?_
          rintro e w4 ⟨x', y', rfl, hr, hd⟩
          have HB5 := Lib.hid (HB4.out.trans (hd.mono HB4.out.size))
          obtain ⟨rfl, rfl⟩ := HS.out _ _ _ _ HR.out hr
          clear hd hr
          go_wp2_with (first
            | (go_at_call 23; (with_reducible refine (T1.out _).mono ?_); rintro e w' ⟨rfl, rfl⟩)
            | (go_at_call 24; (with_reducible refine (T2.out _).mono ?_); rintro e w' ⟨rfl, rfl⟩))
          all_goals (go_ret; exact ⟨by simp, HB5.out⟩)
    · rw [il_len] at e hcc
      cases e
      go_wp2_with (at_builtin; refine wpList_append_own _ rfl _ _ 34 rfl w1.heap.size 3 i0 (.int .i64 0) 1 8 Try.underlying34 hi0 hz0 hz1 hz2 rfl (by decide) _ 3 _ rfl HO.out ad ws.length cv (il ws) rfl ?c0 ?c1 ?c2 ?c3 ?c4 ?c5 ?_)
      case c0 => rw [il_len, Nat.mul_one]
      case c1 => exact fun j u hu => cell_kept (hcell j u hu) HBa.out
      case c2 => exact il_one ws
      case c3 => unfold maxLen; omega
      case c4 => omega
      case c5 => exact HBa.out.size
      intro v' w2 hown' hgrow _
      rw [il_app] at hown'
      have HS3' := Lib.hid (Sl.own hown')
      have HB3 := Lib.hid (HB1.out.trans ((HBa.out.grown hgrow (by have := HBa.out.size; omega) (fun j hj => (World.ownsRow.lt HO.out j hj).1)).mono HB1.out.size))
      obtain ⟨a3, c3, rfl⟩ := slice_shape hown'
      obtain ⟨xs, hxs⟩ : ∃ xs : List Int, xs = [1, 2, 3] ++ ws := ⟨_, rfl⟩
      have hx3 : 3 + ws.length = xs.length := by rw [hxs, List.length_append]; rfl
      rw [← hxs, hx3] at HS3'
      have HS3 := HS3'
      rw [hx3]
      clear hown' hgrow hxs hcell HO HBa HV1 HS3'
      go_wp2_with fail
      go_loopw [25] (Rel5 xs.length w2) (fun i _ => xs.length - (intOf i).toNat)
      case atStart => exact ⟨0, Nat.zero_le _, rfl, Lib.hid (Below.refl _ _)⟩
      case round =>
        obtain ⟨k, hk, rfl, HB⟩ := hrel
        rename World => wx
        by_cases hlt : k < xs.length
        · rcases HS3.out with ⟨e, _⟩ | ⟨g, off, cc, e, hcc, hcell⟩
          · have := congrArg List.length e
            rw [il_len] at this
            change xs.length = 0 at this
            omega
          rw [il_len] at e
          cases e
          have c1 : wx.cell? _ = _ := cell_kept (hcell k _ (il_at hlt)) HB.out
          have C1 := Lib.hid fun w => HC.out.cost xs[k] w
          have C2 := Lib.hid fun w => HC.out.costD xs[k] w
          clear hcell
          go_wp2_with fail
          refine (C1.out _).mono ?_
          rintro e w3 ⟨r1, rfl, hr1, hk1, hd1⟩
          have HB4 := Lib.hid (HB.out.trans (hd1.mono HB.out.size))
          clear hd1
          go_wp2_with fail
          refine (C2.out _).mono ?_
          rintro e w4 ⟨r2, rfl, hr2, hk2, hd2⟩
          have HB5 := Lib.hid (HB4.out.trans (hd2.mono HB4.out.size))
          have SA := Lib.hid fun w => same12 r1 r2 w hr1 hr2
          rw [hk1, hk2, decide_eq_true rfl] at SA
          clear hd2 hk1 hk2 hr1 hr2 C1 C2 HB4
          go_wp2_with (go_at_call 12; (with_reducible refine (SA.out _).mono ?_); rintro e w' ⟨rfl, rfl⟩)
          go_roundw
          case rel => exact ⟨k + 1, hlt, by go_num, HB5⟩
          case measure => simp [intOf]; omega
        · obtain rfl : k = xs.length := by omega
          have hB := HB3.out.trans (HB.out.mono HB3.out.size)
          have HVx := Lib.hid (HV.out.below hB).sl
          have HBx := Lib.hid hB
          clear hB
          have CB := Lib.hid fun w hv => best21 s (.slice (some ad) ws.length cv) ws w (by have := HC.out.small; omega) hv (by omega)
          have CD := Lib.hid fun w hv => best22 s (.slice (some ad) ws.length cv) ws w (by have := HC.out.small; omega) hv (by omega)
          have T1 := Lib.hid fun w => text23 s w (by have := HC.out.small; omega)
          have T2 := Lib.hid fun w => text24 s w (by have := HC.out.small; omega)
          have hls : (ls s).length ≤ 3000 := by rw [ls_len]; have := HC.out.small; omega
          have HS := Lib.hid fun (x y x' y' : Int) (h : BestR (kw ws (ls s)) ws s.size x y) (h' : BestD (kwD ws (ls s)) ws s.size x' y') =>
            best_same (fun i _ => (kc_is HC.out.oct _ _ : kw ws (ls s) i = kwD ws (ls s) i)) (fun i _ => by show 0 ≤ kc _ _; rw [kc_is HC.out.oct]; exact kcD_nonneg _ _ hls) h h'
          generalize txt (ls s) = tt at *
          clear hls HS3 HB3
          go_wp2_with fail
          refine (CB.out _ HVx.out).mono ?_
          rintro e w3 ⟨x, y, rfl, hr, hd⟩
          have HB4 := Lib.hid (HBx.out.trans (hd.mono HBx.out.size))
          have HV4 := Lib.hid (HVx.out.below hd)
          have HR := Lib.hid hr
          clear hd hr
          go_wp2_with fail
          refine (CD.out _ HV4.out).mono ?_
          rintro e w4 ⟨x', y', rfl, hr, hd⟩
          have HB5 := Lib.hid (HB4.out.trans (hd.mono HB4.out.size))
          obtain ⟨rfl, rfl⟩ := HS.out _ _ _ _ HR.out hr
          clear hd hr
          go_wp2_with (first
            | (go_at_call 23; (with_reducible refine (T1.out _).mono ?_); rintro e w' ⟨rfl, rfl⟩)
            | (go_at_call 24; (with_reducible refine (T2.out _).mono ?_); rintro e w' ⟨rfl, rfl⟩))
          all_goals (go_ret; exact ⟨by simp, HB5.out⟩)
end Fl
end Go.Proofs.Ytohjpclpeiidfaa
