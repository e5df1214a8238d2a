/- The document's free: nodes that nobody names or holds go, and those that only they named. Conditions: few nodes, few entries. -/
import Derived.Test.YtgdjoojghkdcbaaPl
import Derived.StillTailTactics
namespace Go.Proofs.Ytgdjoojghkdcbaa
open Go.RowKit Go.PlainAid
set_option linter.unusedSimpArgs false

def FreeX (P : Nat → Prop) (room : Int) (R : List Nr) (id : Nat) (w : World) (e : Ending) (w' : World) : Prop :=
  ∃ v' Z', e = .returned (xv v' room) ∧ XAt P v' Z' w' ∧ Below w.heap.size w w' ∧ Steps R (nrs Z') ∧ ∀ j, Lone (nrs Z') j → Lone R j ∧ j ≠ id

theorem nrs_set (Z : List Zn) (k : Nat) (n : Nr) (ev : Value) : nrs (Z.set k (n, ev)) = (nrs Z).set k n := by simp [nrs]

/-- The loop over those that a node named. -/
def RelFr (P : Nat → Prop) (w : World) (room : Int) (R1 : List Nr) (l : List En) (i : Value) (wr : World) : Prop :=
  ∃ (k : Nat) (v : Value) (Z : List Zn), k ≤ l.length ∧ i = .int .i64 k ∧ Frm P w v (.slice none 0 0) (.int .i64 0) room Z wr ∧ Steps R1 (nrs Z) ∧ ∀ j, Lone (nrs Z) j → Lone R1 j ∧ ∀ e ∈ l.take k, (j : Int) ≠ e.2

set_option maxHeartbeats 800000 in
set_option maxRecDepth 100000 in
theorem rfree48 (P : Nat → Prop) (room : Int) : ∀ (N : Nat) (v : Value) (Z : List Zn) (w : World), XAt P v Z w → InvR (nrs Z) → cnr ((nrs Z).drop 1) < N → (∀ b, w.heap.size ≤ b → P b) → ∀ id : Nat, 1 ≤ id → id < Z.length →
    Calls Try.prog 49 #[xv v room, .int .i64 id] w (FreeX P room (nrs Z) id w) := by
  intro N
  induction N with
  | zero => intro v Z w _ _ hN; exact absurd hN (Nat.not_lt_zero _)
  | succ N ih =>
  intro v Z w h hinv hN hP id hid1 hidl
  have hlen : Z.length ≤ 1000 := by have := hinv.len; rwa [nrs_len] at this
  obtain ⟨g, c, rfl⟩ := h.shape (by omega)
  obtain ⟨⟨n, ev⟩, hzn⟩ := get_some hidl
  have hn := nrs_get hzn
  have F0 := Frm.start h room
  have hmem := List.mem_of_getElem? hzn
  have HRW := Lib.hid (h.ents _ hmem)
  have CL := Lib.hid (links67 P _ room Z _ F0.x (by omega) (by omega) (fun z hz => by have := hinv.few z.1 (List.mem_map.2 ⟨z, hz, rfl⟩); omega) id (by have := hinv.links id; omega))
  have c0 := F0.c00
  have c1 := F0.c01
  have HF0 := Lib.hid F0
  have HP := Lib.hid hP
  have HI := Lib.hid hinv
  have hlink := links_nonneg (nrs Z) id
  obtain ⟨T, hT⟩ : ∃ T, linksR (nrs Z) id = T := ⟨_, rfl⟩
  rw [hT] at CL hlink
  have HT := Lib.hid hT
  have HN := Lib.hid hn
  have HZN := Lib.hid hzn
  generalize hw' : (w.alloc (.cells #[.slice (some ⟨g, 0, none⟩) Z.length c, .int .i64 room] 28)).alloc (.cells #[.slice none 0 0, .int .i64 0] 28) = wa at HF0 c0 c1 CL
  clear h F0 hinv hP hT hn hzn
  by_cases hstay : 0 < T ∨ 0 < n.holds
  · have HST : Hid (∀ j, Lone (nrs Z) j → Lone (nrs Z) j ∧ j ≠ id) := Lib.hid (fun j hj => ⟨hj, fun e => by
      subst e
      obtain ⟨m, g1, _, _, g4, g5⟩ := hj
      rw [HN.out] at g1
      cases g1
      rw [HT.out] at g4
      rcases hstay with h1 | h1
      · omega
      · exact g5 h1⟩)
    have hcase : (0 < T) ∨ (¬ 0 < T ∧ 0 < n.holds) := by
      by_cases e : 0 < T
      · exact .inl e
      · exact .inr ⟨e, hstay.resolve_left e⟩
    clear hstay
    rcases hcase with hcase | ⟨hcase, hcase2⟩ <;>
    · go_enter Try.func49, Try.ntmps49
      go_wp2_with fail
      refine CL.out.mono ?_
      rintro e w1 ⟨rfl, hb⟩
      have F1 := HF0.out.below hb
      clear c0 c1 hb
      have c0 := F1.c00
      have c1 := F1.c01
      have q0 := F1.c10
      have q1 := F1.c11
      have p0 := F1.f1 0
      have p1 := F1.f1 1
      have d2 := (F1.x.at HZN.out).c2
      have HE := Lib.hid (F1.fin F1.x)
      clear F1
      go_wp2
      exact bodyPost_ret_by (results_x rfl _ _ _ _ _ rfl HE.out.2.2) rfl ⟨_, _, rfl, HE.out.1, HE.out.2.1, .refl _, HST.out⟩
  have hT0 : T = 0 := by omega
  have hh0 : ¬ 0 < n.holds := fun e => hstay (.inr e)
  subst hT0
  clear hstay hlink
  -- what is left of the nodes
  obtain ⟨R1, hR1⟩ : ∃ R1, R1 = (nrs Z).set id Nr.zero := ⟨_, rfl⟩
  have hinv1 : InvR R1 := by rw [hR1]; exact HI.out.zero hid1
  have hS1 : Steps (nrs Z) R1 := by
    cases hk : (n.kind != 0)
    · rw [hR1, (set_dead HI.out HN.out hk).1]; exact .refl _
    · rw [hR1]; exact .step id ⟨n, HN.out, hid1, hk, HT.out, hh0⟩ (.refl _)
  have hlone : ∀ j, Lone R1 j → (Lone (nrs Z) j ∧ j ≠ id) ∨ ∃ e ∈ n.ents, (j : Int) = e.2 := by
    intro j hj
    rw [hR1] at hj
    obtain ⟨h1, h2 | h2⟩ := Lone.back hid1 HN.out hj
    · exact .inl ⟨h2, h1⟩
    · obtain ⟨e, he, e2⟩ := cE_pos h2
      exact .inr ⟨e, he, e2.symm⟩
  have hrec : n.ents ≠ [] → cnr (R1.drop 1) < N := by
    intro hne
    cases hk : (n.kind != 0)
    · have e := (set_dead HI.out HN.out hk).2
      simp only at e
      rw [e] at hne; exact absurd rfl hne
    · have := cnr_zero ⟨n, HN.out, hid1, hk, HT.out, hh0⟩
      rw [hR1]; omega
  have hrng : ∀ e ∈ n.ents, 1 ≤ e.2 ∧ e.2 < Z.length := fun e he => by
    have := HI.out.rng n (List.mem_of_getElem? HN.out) e he
    rwa [nrs_len] at this
  have hlr : R1.length = Z.length := by rw [hR1]; simp
  have hl9 := HI.out.few n (List.mem_of_getElem? HN.out)
  have HR1 := Lib.hid hR1
  have HINV1 := Lib.hid hinv1
  have HS1 := Lib.hid hS1
  have HLONE := Lib.hid hlone
  have HREC := Lib.hid hrec
  have HRNG := Lib.hid hrng
  have HIH := Lib.hid ih
  clear hR1 hinv1 hS1 hlone hrec hrng ih
  go_enter Try.func49, Try.ntmps49
  go_wp2_with fail
  refine CL.out.mono ?_
  rintro e w1 ⟨rfl, hb⟩
  have F1 := HF0.out.below hb
  have CP := rput47 P _ room Z w1 F1.x (by omega) (fun b hb2 => HP.out b (by have := F1.bel.size; omega)) id hidl Nr.zero (.slice none 0 0) (row_nil _ _ _) (fun b e => by simp [Value.ownBlock] at e)
  have HROW := Lib.hid (F1.x.ents _ hmem)
  clear c0 c1 hb CL
  have c0 := F1.c00
  have c1 := F1.c01
  have d2 := (F1.x.at HZN.out).c2
  have d4 := (F1.x.at HZN.out).c4
  obtain ⟨ea, ec, hev⟩ := slice_shape HROW.out
  simp only at hev
  subst hev
  have HF1 := Lib.hid F1
  replace CP := Lib.hid CP
  clear F1
  go_wp2_with fail
  refine CP.out.mono ?_
  rintro e w2 ⟨v2, rfl, X2, B2⟩
  have F2 := HF1.out.below B2
  have FB := F2.box X2
  obtain ⟨g2, c2, hv2⟩ := X2.shape (by rw [List.length_set]; omega)
  rw [List.length_set] at hv2
  subst hv2
  clear c0 c1 d2 d4
  have c0 := F2.c00
  have c1 := F2.c01
  have f0 := F2.f0 0
  have f1 := F2.f0 1
  have HROW2 := Lib.hid (HROW.out.below B2)
  have R0 : Hid (RelFr P w room R1 n.ents (.int .i64 0) _) := Lib.hid ⟨0, _, _, Nat.zero_le _, rfl, FB, by rw [nrs_set, ← HR1.out]; exact .refl _, fun j hj => ⟨by rw [nrs_set, ← HR1.out] at hj; exact hj, fun e he => by simp at he⟩⟩
  clear F2 FB X2 B2 CP HF1 HROW HROW2
  go_wp2
  clear c0 c1 f0 f1
  go_loopw [6] (RelFr P w room R1 n.ents) (fun i _ => n.ents.length - (intOf i).toNat)
  case atStart => exact R0.out
  case round =>
    clear R0
    obtain ⟨k, v, Zk, hk, rfl, F, hS, hL⟩ := hrel
    have hzl : Zk.length = Z.length := by rw [← nrs_len, hS.length]; exact hlr
    obtain ⟨gk, ck, hvk⟩ := F.x.shape (by omega)
    rw [hzl] at hvk
    subst hvk
    have HF := Lib.hid F
    have HS := Lib.hid hS
    have HL := Lib.hid hL
    have c0 := F.c00
    have c1 := F.c01
    clear F hS hL
    by_cases hlt : k < n.ents.length
    · obtain ⟨x, hx⟩ := get_some hlt
      have hxm := List.mem_of_getElem? hx
      obtain ⟨hx1, hx2⟩ := HRNG.out x hxm
      obtain ⟨j, hj⟩ : ∃ j : Nat, x.2 = j := ⟨x.2.toNat, by omega⟩
      have hrw := HRW.out.below HF.out.bel
      rcases hrw.cases with ⟨_, e2⟩ | ⟨ge, cap, cur, e2, _⟩
      · rw [e2] at hlt; simp at hlt
      cases e2
      have cx := hrw.cell1 hx
      rw [hj] at cx
      have HX := Lib.hid hx
      have HJ := Lib.hid hj
      have hinvk := InvR.steps HS.out HINV1.out
      have hck : cnr ((nrs Zk).drop 1) < N := Nat.lt_of_le_of_lt (cnr_steps HS.out) (HREC.out (fun e => by rw [e] at hlt; simp at hlt))
      have F5 := HF.out.below ((Below.refl _ wr).drew)
      have C5 := Lib.hid (HIH.out _ Zk wr.drew F5.x hinvk hck (fun b hb => HP.out b (by have := F5.bel.size; omega)) j (by omega) (by omega))
      have HF5 := Lib.hid F5
      have c05 := F5.c00
      clear hrw hx hxm hx1 hx2 hj hinvk hck F5
      go_wp2
      go_still_tail 6, (by kernel_rfl)
      change wpList _ _ _ _ _ wr.drew
      generalize wr.drew = w5 at C5 HF5 c05 ⊢
      go_wp2_with fail
      refine C5.out.mono ?_
      rintro e w6 ⟨v6, Z6, rfl, X6, B6, S6, L6⟩
      have F6 := HF5.out.below B6
      have hz6 : Z6.length = Z.length := by rw [← nrs_len, S6.length, nrs_len]; exact hzl
      obtain ⟨g6, c6, hv6⟩ := X6.shape (by omega)
      rw [hz6] at hv6
      subst hv6
      have FB := Lib.hid (F6.box X6)
      have HS6 := Lib.hid (HS.out.trans S6)
      have HL6 : Hid (∀ i, Lone (nrs Z6) i → Lone R1 i ∧ ∀ e ∈ n.ents.take (k + 1), (i : Int) ≠ e.2) := Lib.hid (fun i hi => by
        obtain ⟨h1, h2⟩ := L6 i hi
        obtain ⟨h3, h4⟩ := HL.out i h1
        refine ⟨h3, fun e he => ?_⟩
        rw [take_succ HX.out, List.mem_append] at he
        rcases he with he | he
        · exact h4 e he
        · simp at he
          subst he
          rw [HJ.out]
          exact fun e => h2 (by omega))
      clear c0 c1 c05 cx
      have c0 := F6.c00
      have c1 := F6.c01
      have f0 := F6.f0 0
      have f1 := F6.f0 1
      clear F6 X6 B6 S6 L6 C5 HF5
      go_wp2
      go_roundw
      case rel => exact ⟨k + 1, _, _, hlt, by go_num, FB.out, HS6.out, HL6.out⟩
      case measure => simp [intOf]; omega
    · obtain rfl : k = n.ents.length := by omega
      have q0 := HF.out.c10
      have q1 := HF.out.c11
      have p0 := HF.out.f1 0
      have p1 := HF.out.f1 1
      have HE := Lib.hid (HF.out.fin HF.out.x)
      have HEND : Hid (∀ i, Lone (nrs Zk) i → Lone (nrs Z) i ∧ i ≠ id) := Lib.hid (fun i hi => by
        obtain ⟨h1, h2⟩ := HL.out i hi
        rw [List.take_length] at h2
        rcases HLONE.out i h1 with h3 | ⟨e, he, h3⟩
        · exact h3
        · exact absurd h3 (h2 e he))
      have HST := Lib.hid (HS1.out.trans HS.out)
      go_wp2
      exact bodyPost_ret_by (results_x rfl _ _ _ _ _ rfl HE.out.2.2) rfl ⟨_, _, rfl, HE.out.1, HE.out.2.1, HST.out, HEND.out⟩
end Go.Proofs.Ytgdjoojghkdcbaa
