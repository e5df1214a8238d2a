/- Contracts: Stage, ours. Conditions: few texts, of lengths below a bound. -/
import Derived.Test.YtabnhdbhccbebaaDoorE
import Derived.WalkMore
import Derived.Carry
namespace Go.Proofs.YtabnhdbhccbebaaDoor
open Go.RowKit Go.PlainAid Go.Maps
set_option linter.unusedSimpArgs false
set_option linter.unusedVariables false

def Few (ns : List ByteArray) : Prop := ns.length ≤ 30 ∧ ∀ s ∈ ns, s.size ≤ 500
theorem nm_zero : (⟨#[46, 115, 101, 97, 98, 97, 103]⟩ : ByteArray) = mk (nmL 0) := rfl
theorem nm_next (j : Nat) : (⟨#[46, 115, 101, 97, 98, 97, 103, 45]⟩ : ByteArray) ++ mk (Lib.decDigits (j + 1)) = mk (nmL (j + 1)) := by
  rw [app_ls, ls_mk]; rfl
theorem itoa_next (j : Nat) (h : j < 90) (w : World) : Calls Tryd.prog 9 #[.int .i64 ((j : Int) + 1)] w fun e w' => e = .returned (.string (mk (Lib.decDigits (j + 1)))) ∧ w = w' := itoa9 (j + 1) (by omega) w
theorem few_of {ns : List ByteArray} (h : smallB ns = true) : Few ns := by
  unfold smallB at h
  rw [Bool.and_eq_true, List.all_eq_true] at h
  exact ⟨of_decide_eq_true h.2, fun s hs => of_decide_eq_true (h.1 s hs)⟩
def Rel6 (ns : List ByteArray) (M : Nat) (w : World) (i : Value) (wx : World) : Prop := ∃ (k : Nat) (f : List UInt8 → Nat), k ≤ ns.length ∧ i = .int .i64 k ∧ Hid (CM M f k wx) ∧ Hid (∀ l, f l = howB (ns.take k) l) ∧ Hid (Below w.heap.size w wx)
def Jump6 (ns : List ByteArray) (M k0 n : Nat) (f : List UInt8 → Nat) (v : Value) (w : World) (a' : Act) (w' : World) : Prop := ∃ j : Nat, j ≤ k0 ∧ Hid (∀ i, i < j → isB ns (nmL i) = true) ∧ Hid (CM M f n w') ∧ Hid (Below w.heap.size w w') ∧
  ∃ (u1 u2 u4 u5 u8 u9 u10 u11 u12 u13 u14 u15 u16 u17 u18 u19 u20 u21 u22 u23 u24 u25 u26 u27 u28 u29 : Value), a' = { tmps := #[v, u1, u2, .map (some M), u4, u5, .string (mk (nmL j)), .int .i64 j, u8, u9, u10, u11, u12, u13, u14, u15, u16, u17, u18, u19, u20, u21, u22, u23, u24, u25, u26, u27, u28, u29], defers := [] }
def Gives6 (ns : List ByteArray) (w : World) (e : Ending) (w' : World) : Prop := ∃ k, StageIs ns k ∧ k ≤ 30 ∧ e = .returned (.string (mk (nmL k))) ∧ Below w.heap.size w w'
set_option maxHeartbeats 8000000 in
set_option maxRecDepth 100000 in
theorem stage6 (v : Value) (ns : List ByteArray) (w : World) (hv : Strs w v ns) (hF : Few ns) : Calls Tryd.prog 6 #[v] w (Gives6 ns w) := by
  obtain ⟨a, c, rfl⟩ := hv.shape
  have HV := Lib.hid hv
  have HF := Lib.hid hF
  clear hv hF
  have hn : ns.length ≤ 30 := HF.out.1
  obtain ⟨n, Hn⟩ : ∃ n, Hid (ns.length = n) := ⟨_, Lib.hid rfl⟩
  rw [Hn.out] at hn ⊢
  have HM := Lib.hid (CM.made w)
  have HB0 := Lib.hid ((Below.refl w.heap.size w).alloc (Nat.le_refl _) (.map #[] 0))
  have hmm := @run_makeMap Tryd.prog
  go_enter Tryd.func6, Tryd.ntmps6
  obtain ⟨k0, hk0, hf0⟩ := stage_some HF.out.1
  rw [Hn.out] at hk0
  have HK0 := Lib.hid hf0
  clear hf0
  go_wp2
  refine wp_scope_jumps 0 (fun a' w' => ∃ f, Hid (∀ l, f l = howB ns l) ∧ Jump6 ns w.heap.size k0 n f (.slice a n c) w a' w') (fun a' _ => k0 - (intOf (a'.tmps.getD 7 undef)).toNat) rfl ?_ ?_
  · go_wp2
    go_loopw [11] (Rel6 ns w.heap.size w) (fun i _ => n - (intOf i).toNat)
    case atStart => exact ⟨0, fun _ => 0, Nat.zero_le _, rfl, HM, Lib.hid (fun l => rfl), HB0⟩
    case round =>
      clear hmm HM HB0
      obtain ⟨k, f, hk, rfl, HM, Hf, HB⟩ := hrel
      rename World => wx
      by_cases hlt : k < n
      · have hlt' : k < ns.length := by rw [Hn.out]; exact hlt
        obtain ⟨b, off, c', e, hc, hcell⟩ := strs_at (HV.out.below HB.out) k hlt'
        rw [Hn.out] at e hc
        cases e
        obtain ⟨x, Hx⟩ : ∃ x, Hid (ns[k] = x) := ⟨_, Lib.hid rfl⟩
        rw [Hx.out] at hcell
        have hx : x.size ≤ 500 := HF.out.2 x (by rw [← Hx.out]; exact List.getElem_mem hlt')
        have hlk := HM.out.look x (by omega)
        have hfx : f (ls x) ≤ 30 := by rw [Hf.out]; have := how_le (ns.take k) (ls x); rw [List.length_take] at this; omega
        obtain ⟨w2, hst, hM2, hg⟩ := HM.out.store x (by omega) (by omega) (f (ls x) + 1) (by omega)
        rw [show ((f (ls x) + 1 : Nat) : Int) = (f (ls x) : Int) + 1 from rfl] at hst
        have HM2 := Lib.hid hM2
        have Hf2 : Hid (∀ l, (fun l => if l = ls x then f (ls x) + 1 else f l) l = howB (ns.take (k + 1)) l) := Lib.hid fun l => by
          rw [List.take_succ_eq_append_getElem hlt', Hx.out, how_snoc]
          simp only
          by_cases e : l = ls x
          · subst e; rw [if_pos rfl, if_pos rfl, Hf.out]
          · rw [if_neg e, if_neg e, Hf.out]
        have HB2 := Lib.hid (HB.out.grown hg HB.out.size (fun j hj => by cases hj; exact Nat.le_refl _))
        obtain ⟨fx, Hfx⟩ : ∃ q, Hid (f (ls x) = q) := ⟨_, Lib.hid rfl⟩
        rw [Hfx.out] at hlk hst hfx
        clear hM2 hg
        go_wp2
        go_roundw
        case rel => exact ⟨k + 1, _, hlt', by go_num, HM2, Hf2, HB2⟩
        case measure => simp [intOf]; omega
      · obtain rfl : k = n := by rw [Hn.out] at hk; omega
        go_wp2
        go_step3
        have Hf : Hid (∀ l, f l = howB ns l) := Lib.hid fun l => by have := Hf.out l; rw [← Hn.out, List.take_length] at this; exact this
        have HI : Hid (∀ i, i < 0 → isB ns (nmL i) = true) := Lib.hid fun i hi => absurd hi (Nat.not_lt_zero _)
        have hlk := HM.out.look ⟨#[46, 115, 101, 97, 98, 97, 103]⟩ (by decide)
        rw [show ls ⟨#[46, 115, 101, 97, 98, 97, 103]⟩ = nmL 0 from rfl] at hlk
        cases hb : isB ns (nmL 0)
        · have h0 : f (nmL 0) = 0 := by
            have := how_pos ns (nmL 0)
            rw [hb, ← Hf.out, decide_eq_false_iff_not] at this
            omega
          rw [h0] at hlk
          have HN : Hid (StageIs ns 0) := Lib.hid ⟨hb, HI.out⟩
          have hj30 : 0 ≤ 30 := by omega
          clear h0 hb
          go_wp2
          simp only [Exit.jump]
          go_ret
          exact ⟨0, HN.out, hj30, rfl, HB.out⟩
        · have h0 : 0 < f (nmL 0) := by
            have := how_pos ns (nmL 0)
            rw [hb, ← Hf.out] at this
            exact of_decide_eq_true this
          have hq30 : f (nmL 0) ≤ 30 := by rw [Hf.out]; exact Nat.le_trans (how_le ns _) HF.out.1
          have hjk : 0 + 1 ≤ k0 := by
            rcases Nat.lt_or_ge 0 k0 with h | h
            · exact h
            · have e : k0 = 0 := by omega
              have := HK0.out
              rw [e, hb] at this; cases this
          have HI2 : Hid (∀ i, i < 0 + 1 → isB ns (nmL i) = true) := Lib.hid fun i hi => by
            by_cases e : i = 0
            · subst e; exact hb
            · exact HI.out i (by omega)
          obtain ⟨q, Hq⟩ : ∃ q, Hid (f (nmL 0) = q) := ⟨_, Lib.hid rfl⟩
          rw [Hq.out] at hlk h0 hq30
          have CI := Lib.hid (itoa_next 0 (by omega))
          have HE := Lib.hid (nm_next 0)
          have hz : (mk (Lib.decDigits (0 + 1))).size ≤ 2 := by rw [mk_size]; exact dec_len (by omega)
          obtain ⟨T, HT⟩ : ∃ T, Hid (mk (Lib.decDigits (0 + 1)) = T) := ⟨_, Lib.hid rfl⟩
          rw [HT.out] at CI HE hz
          have n1 : ¬ 9223372036854775807 < (⟨#[46, 115, 101, 97, 98, 97, 103, 45]⟩ : ByteArray).size + T.size := by show ¬ _ < 8 + T.size; omega
          clear hb
          go_wp2_with fail
          refine (CI.out _).mono ?_
          rintro e w3 ⟨rfl, rfl⟩
          go_wp2
          go_step3
          exact ⟨rfl, f, Hf, 1, hjk, HI2, HM, HB, _, _, _, _, _, _, _, _, _, _, _, _, _, _, _, _, _, _, _, _, _, _, _, _, _, _, by rw [← HE.out]; rfl⟩
  · rintro a' w' ⟨f, Hf, j, hj, HI, HM, HB, u1, u2, u4, u5, u8, u9, u10, u11, u12, u13, u14, u15, u16, u17, u18, u19, u20, u21, u22, u23, u24, u25, u26, u27, u28, u29, rfl⟩
    clear hmm HB0
    have hsz : (mk (nmL j)).size ≤ 1000000 := by rw [mk_size]; have := nm_len (k := j) (by omega); omega
    have hlk := HM.out.look (mk (nmL j)) hsz
    rw [ls_mk] at hlk
    obtain ⟨X, HX⟩ : ∃ X, Hid (mk (nmL j) = X) := ⟨_, Lib.hid rfl⟩
    rw [HX.out] at hlk hsz ⊢
    cases hb : isB ns (nmL j)
    · have h0 : f (nmL j) = 0 := by
        have := how_pos ns (nmL j)
        rw [hb, ← Hf.out, decide_eq_false_iff_not] at this
        omega
      rw [h0] at hlk
      have HN : Hid (StageIs ns j) := Lib.hid ⟨hb, HI.out⟩
      have hj30 : j ≤ 30 := by omega
      clear h0 hb
      go_wp2
      simp only [Exit.jump]
      go_ret
      exact ⟨j, HN.out, hj30, by rw [HX.out]; rfl, HB.out⟩
    · have h0 : 0 < f (nmL j) := by
        have := how_pos ns (nmL j)
        rw [hb, ← Hf.out] at this
        exact of_decide_eq_true this
      have hq30 : f (nmL j) ≤ 30 := by rw [Hf.out]; exact Nat.le_trans (how_le ns _) HF.out.1
      have hjk : j + 1 ≤ k0 := by
        rcases Nat.lt_or_ge j k0 with h | h
        · exact h
        · have e : k0 = j := by omega
          have := HK0.out
          rw [e, hb] at this; cases this
      have HI2 : Hid (∀ i, i < j + 1 → isB ns (nmL i) = true) := Lib.hid fun i hi => by
        by_cases e : i = j
        · subst e; exact hb
        · exact HI.out i (by omega)
      obtain ⟨q, Hq⟩ : ∃ q, Hid (f (nmL j) = q) := ⟨_, Lib.hid rfl⟩
      rw [Hq.out] at hlk h0 hq30
      have CI := Lib.hid (itoa_next j (by omega))
      have HE := Lib.hid (nm_next j)
      have hz : (mk (Lib.decDigits (j + 1))).size ≤ 2 := by rw [mk_size]; exact dec_len (by omega)
      obtain ⟨T, HT⟩ : ∃ T, Hid (mk (Lib.decDigits (j + 1)) = T) := ⟨_, Lib.hid rfl⟩
      rw [HT.out] at CI HE hz
      have n1 : ¬ 9223372036854775807 < (⟨#[46, 115, 101, 97, 98, 97, 103, 45]⟩ : ByteArray).size + T.size := by show ¬ _ < 8 + T.size; omega
      clear hb
      go_wp2_with fail
      refine (CI.out _).mono ?_
      rintro e w3 ⟨rfl, rfl⟩
      go_wp2
      go_step3
      exact ⟨rfl, ⟨f, Hf, j + 1, hjk, HI2, HM, HB, _, _, _, _, _, _, _, _, _, _, _, _, _, _, _, _, _, _, _, _, _, _, _, _, _, _, by rw [← HE.out]; rfl⟩, by simp [intOf]; omega⟩
end Go.Proofs.YtabnhdbhccbebaaDoor
