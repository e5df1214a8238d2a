/- Dots and slashes ahead of a path lead to the same: plain. Conditions: the root is the law's. -/
import Derived.Test.YtgdjoojghkdcbaaMu
import Derived.Deep.DeepCutAuto
import Derived.StillTailTactics
import Derived.Deep.RegionHeld3
import Derived.WalkKit
import Derived.ProofKit
import Derived.OpenShut
import Derived.ShutString
import Derived.ChangeOld
import Derived.Below
import Derived.SizedLaws
namespace Go.Proofs.Ytgdjoojghkdcbaa
open Go.RowKit Go.PlainAid Pth
set_option linter.unusedSimpArgs false

theorem app_bt_l (a b : ByteArray) (k : Nat) (h : k < a.size) : bt (a ++ b) k = bt a k := by
  have h2 : k < (a ++ b).size := by rw [app_size]; omega
  unfold bt
  rw [dif_pos h2, dif_pos h, ByteArray.getElem_append_left h]
theorem app_bt_r (a b : ByteArray) (k : Nat) (h : a.size ≤ k) : bt (a ++ b) k = bt b (k - a.size) := by
  unfold bt
  by_cases h2 : k - a.size < b.size
  · rw [dif_pos (by rw [app_size]; omega), dif_pos h2, ByteArray.getElem_append_right h]
  · rw [dif_neg (by rw [app_size]; omega), dif_neg h2]
theorem app_ext_r (p s : ByteArray) (a b : Nat) : (p ++ s).extract (p.size + a) (p.size + b) = s.extract a b := by
  apply Pth.ba_ext
  · rw [Pth.ext_size, Pth.ext_size, app_size]; omega
  · intro k hk
    rw [Pth.ext_size, app_size] at hk
    rw [Pth.ext_bt _ _ _ _ (by rw [app_size]; omega), Pth.ext_bt _ _ _ _ (by omega), app_bt_r _ _ _ (by omega)]
    congr 1
    omega
theorem pcs_shift (p s : ByteArray) : ∀ n b, n ≤ s.size → pcsF (p ++ s) n (p.size + b) = pcsF s n b
  | 0, b, _ => by
    simp only [pcsF]
    rw [app_size, app_ext_r]
  | n + 1, b, h => by
    have e : (p ++ s).size - (n + 1) = p.size + (s.size - (n + 1)) := by rw [app_size]; omega
    have e2 : (p ++ s).size - n = p.size + (s.size - n) := by rw [app_size]; omega
    have hb : bt (p ++ s) ((p ++ s).size - (n + 1)) = bt s (s.size - (n + 1)) := by rw [e, app_bt_r _ _ _ (by omega)]; congr 1; omega
    simp only [pcsF]
    rw [hb, e, e2, app_ext_r, pcs_shift p s n (s.size - n) (by omega), pcs_shift p s n b (by omega)]
/-- A piece without slashes, and a slash, ahead. -/
theorem pcs_ahead (a s : ByteArray) (h : ∀ k, k < a.size → bt a k ≠ 47) : pcs (a ++ ⟨#[47]⟩ ++ s) = a :: pcs s := by
  have hz : (a ++ (⟨#[47]⟩ : ByteArray)).size = a.size + 1 := by rw [app_size]; rfl
  have hsz : (a ++ ⟨#[47]⟩ ++ s).size = a.size + 1 + s.size := by rw [app_size, hz]
  have hm : bt (a ++ ⟨#[47]⟩ ++ s) a.size = 47 := by rw [app_bt_l _ _ _ (by omega), app_bt_r _ _ _ (Nat.le_refl _), Nat.sub_self]; rfl
  have key : ∀ j, j ≤ a.size → pcsF (a ++ ⟨#[47]⟩ ++ s) (s.size + 1 + j) 0 = a :: pcs s := by
    intro j
    induction j with
    | zero =>
      intro _
      show pcsF _ (s.size + 1) 0 = _
      have e1 : (a ++ ⟨#[47]⟩ ++ s).size - (s.size + 1) = a.size := by rw [hsz]; omega
      have e2 : (a ++ ⟨#[47]⟩ ++ s).size - s.size = (a ++ (⟨#[47]⟩ : ByteArray)).size + 0 := by rw [hsz, hz]; omega
      have e3 : (a ++ ⟨#[47]⟩ ++ s).extract 0 a.size = a := by
        apply Pth.ba_ext
        · rw [Pth.ext_size, hsz]; omega
        · intro k hk
          rw [Pth.ext_size, hsz] at hk
          rw [Pth.ext_bt _ _ _ _ (by rw [hsz]; omega), Nat.zero_add, app_bt_l _ _ _ (by omega), app_bt_l _ _ _ (by omega)]
      simp only [pcsF]
      rw [e1, hm, if_pos (by decide), e2, pcs_shift _ s s.size 0 (Nat.le_refl _), e3]
      rfl
    | succ j ih =>
      intro hj
      show pcsF _ (s.size + 1 + j + 1) 0 = _
      have e1 : (a ++ ⟨#[47]⟩ ++ s).size - (s.size + 1 + j + 1) = a.size - (j + 1) := by rw [hsz]; omega
      simp only [pcsF]
      rw [e1, app_bt_l _ _ _ (by omega), app_bt_l _ _ _ (by omega), if_neg (by simpa using h (a.size - (j + 1)) (by omega))]
      exact ih (by omega)
  unfold pcs
  rw [hsz, show a.size + 1 + s.size = s.size + 1 + a.size by omega]
  exact key a.size (Nat.le_refl _)
theorem parts_ahead (a s : ByteArray) (h : ∀ k, k < a.size → bt a k ≠ 47) : partsL (a ++ ⟨#[47]⟩ ++ s) = if 0 < a.size then a :: partsL s else partsL s := by
  unfold partsL
  rw [pcs_ahead a s h, List.filter_cons]
  by_cases e : 0 < a.size
  · simp [e]
  · simp [e]
theorem d1 : (⟨#[46, 47]⟩ : ByteArray) = ⟨#[46]⟩ ++ ⟨#[47]⟩ := rfl
theorem parts_dot (s : ByteArray) : partsL (⟨#[46, 47]⟩ ++ s) = ⟨#[46]⟩ :: partsL s := by
  rw [d1, parts_ahead _ _ (by decide)]; rfl
theorem parts_sl (s : ByteArray) : partsL (⟨#[47]⟩ ++ s) = partsL s := by
  have := parts_ahead ⟨#[]⟩ s (by intro k hk; exact absurd hk (Nat.not_lt_zero k))
  rw [show (⟨#[]⟩ : ByteArray) ++ ⟨#[47]⟩ = ⟨#[47]⟩ from rfl] at this
  rw [this]; rfl
theorem parts_sl2 (s : ByteArray) : partsL (⟨#[47, 47]⟩ ++ s) = partsL s := by
  rw [show (⟨#[47, 47]⟩ : ByteArray) = ⟨#[47]⟩ ++ ⟨#[47]⟩ from rfl, app_assoc, parts_sl, parts_sl]
theorem parts_dd (s : ByteArray) : partsL (⟨#[46, 46, 47, 46, 47, 47]⟩ ++ s) = ⟨#[46, 46]⟩ :: ⟨#[46]⟩ :: partsL s := by
  rw [show (⟨#[46, 46, 47, 46, 47, 47]⟩ : ByteArray) = (⟨#[46, 46]⟩ ++ ⟨#[47]⟩) ++ (⟨#[46, 47]⟩ ++ ⟨#[47]⟩) from rfl, app_assoc, parts_ahead _ _ (by decide), app_assoc, parts_dot, parts_sl]
  rfl
theorem parts_some {s : ByteArray} (h0 : 0 < s.size) (h : bt s 0 ≠ 47) : (partsL s).length ≠ 0 := by
  have key : ∀ n b, n < s.size → b = 0 → (∃ x ∈ pcsF s n b, 0 < x.size) := by
    intro n
    induction n with
    | zero => intro b hn hb; subst hb; exact ⟨s.extract 0 s.size, by simp [pcsF], by rw [Pth.ext_size]; omega⟩
    | succ n ih =>
      intro b hn hb
      subst hb
      simp only [pcsF]
      split
      · exact ⟨_, List.mem_cons_self, by rw [Pth.ext_size]; omega⟩
      · exact ih 0 (by omega) rfl
  intro e
  have hnil : partsL s = [] := List.length_eq_zero_iff.1 e
  unfold partsL at hnil
  rw [List.filter_eq_nil_iff] at hnil
  obtain ⟨n, hn⟩ : ∃ n, s.size = n + 1 := ⟨s.size - 1, by omega⟩
  obtain ⟨x, hx, hx2⟩ := key n 0 (by omega) rfl
  refine hnil x ?_ (by simpa using hx2)
  unfold pcs
  rw [hn]
  simp only [pcsF]
  rw [if_neg]
  · exact hx
  · rw [show s.size - (n + 1) = 0 by omega]; simpa using h
theorem has_app (a s : ByteArray) (c : Int) (ha : hasB a c = false) : hasB (a ++ s) c = hasB s c := by
  unfold hasB at ha ⊢
  have ha' := of_decide_eq_false ha
  apply decide_eq_decide.2
  constructor
  · rintro ⟨k, hk, hb⟩
    rw [app_size] at hk
    by_cases e : k < a.size
    · rw [app_bt_l _ _ _ e] at hb; exact absurd ⟨k, e, hb⟩ ha'
    · rw [app_bt_r _ _ _ (by omega)] at hb; exact ⟨k - a.size, by omega, hb⟩
  · rintro ⟨k, hk, hb⟩
    exact ⟨a.size + k, by rw [app_size]; omega, by rw [app_bt_r _ _ _ (by omega), show a.size + k - a.size = k by omega]; exact hb⟩
theorem wrong_app {a s : ByteArray} (ha : hasB a 0 = false) (h0 : 0 < s.size) (h : a.size + s.size ≤ 4095) : wrongE (a ++ s) = wrongE s := by
  unfold wrongE
  rw [app_size, has_app a s 0 ha, if_neg (show ¬ a.size + s.size = 0 by omega), if_neg (show ¬ 4095 < a.size + s.size by omega), if_neg (show ¬ s.size = 0 by omega), if_neg (show ¬ 4095 < s.size by omega)]
theorem sls_app {a s : ByteArray} (h0 : 0 < s.size) : slsB (a ++ s) = slsB s := by
  unfold slsB
  rw [app_size, app_bt_r _ _ _ (by omega), decide_eq_true (by omega), decide_eq_true h0, show a.size + s.size - 1 - a.size = s.size - 1 by omega]

section
variable {V : Int → Option Vw} {x : Vw} (hv : V 1 = some x) (hk : x.kind = 2) (hm : ¬ x.mode / 64 % 2 = 0) (hu : x.up = 1)
include hk hm in
theorem root_open : closE (some x) = 0 := by simp [closE, hk, hm]
include hv hk hm hu
theorem loop_dot (k : Nat → Int → ByteArray → Pla × Int) (follow slash : Bool) (links : Nat) (y : ByteArray) (l : List ByteArray) (p q : Pla) (s : ByteArray) (hs : s = ⟨#[46]⟩ ∨ s = ⟨#[46, 46]⟩) : loopM V k follow slash links 1 (s :: y :: l) p = loopM V k follow slash links 1 (y :: l) q := by
  have hc := root_open hk hm
  have hst : stepM V 1 s = (⟨1, 0, ⟨#[]⟩⟩, 0) := by
    rcases hs with rfl | rfl
    · exact step_dot hv hc
    · rw [step_up hv hc, hu]
  have hkd : kindV (V 1) = 2 := by rw [hv]; exact hk
  conv => lhs; unfold loopM
  rw [hst]
  simp only [ne_eq, not_true, if_false]
  rw [hkd, if_neg (by rintro ⟨_, e⟩; exact absurd e (by decide))]
  rfl
/-- Dots and slashes ahead lead to the same. -/
theorem way_dots (follow : Bool) (f : Nat) {s a : ByteArray} (h0 : 0 < s.size) (h1 : s.size ≤ 500) (h47 : bt s 0 ≠ 47) (ha : hasB a 0 = false) (has : a.size ≤ 100) (hp : ∃ pre, (∀ z ∈ pre, z = ⟨#[46]⟩ ∨ z = (⟨#[46, 46]⟩ : ByteArray)) ∧ partsL (a ++ s) = pre ++ partsL s) : wayM V follow (f + 1) 0 1 (a ++ s) = wayM V follow (f + 1) 0 1 s := by
  obtain ⟨pre, hpre, hpp⟩ := hp
  have hne := parts_some h0 h47
  simp only [wayM]
  rw [wrong_app ha h0 (by omega), sls_app h0]
  have g1 : goL s = partsL s := if_neg hne
  have g2 : goL (a ++ s) = pre ++ partsL s := by rw [← hpp]; exact if_neg (by rw [hpp, List.length_append]; omega)
  have e1 : (if absB (a ++ s) = true then (1 : Int) else 1) = 1 := by split <;> rfl
  have e2 : (if absB s = true then (1 : Int) else 1) = 1 := by split <;> rfl
  rw [g1, g2, e1, e2]
  split
  · rfl
  · cases hps : partsL s with
    | nil => rw [hps] at hne; exact absurd rfl hne
    | cons y l =>
      clear hpp g2
      induction pre with
      | nil => rfl
      | cons z pre ih =>
        have hz := hpre z (by simp)
        have ih' := ih (fun z' h' => hpre z' (List.mem_cons_of_mem _ h'))
        rw [← ih']
        cases pre with
        | nil => exact loop_dot hv hk hm hu _ _ _ _ _ _ _ _ _ hz
        | cons z2 pre => exact loop_dot hv hk hm hu _ _ _ _ _ _ _ _ _ hz
end
end Go.Proofs.Ytgdjoojghkdcbaa

/- WalkDots, walked. Conditions: none beyond the law's own tests. -/
namespace Go.Proofs.Ytgdjoojghkdcbaa
open Go.RowKit Go.PlainAid
set_option linter.unusedSimpArgs false

theorem Hd.rootV {k : Nat} {S : St} {R : List Nr} {ds : List Nat} (h : Hd k S R ds) : ∃ n x, R[1]? = some n ∧ 0 ≤ n.mode ∧ n.mode ≤ 4095 ∧ vwS S 1 = some x ∧ x.kind = 2 ∧ x.mode = n.mode ∧ x.up = 1 := by
  obtain ⟨n, hn, hk⟩ := h.sim.root
  obtain ⟨u, hu, hup⟩ := h.sim.node 1 n (by decide) hn (by omega)
  have hl := h.named 1 n (by decide) hn (by omega)
  have h1 : Ytgdjoojghkdcbaa.upR R 1 = 1 := by
    unfold Ytgdjoojghkdcbaa.upR
    rcases upF_rng 1 (R.drop 1) 1 with e | ⟨q, m, e1, e2, _⟩
    · exact e
    · have := lk_mem (id := 1) (List.mem_of_getElem? e1)
      have hl' : linksR R 1 = 1 := hl
      unfold linksR at hl'
      rw [if_pos rfl] at hl'
      omega
  have hu' : S.get 1 = some ⟨n.kind, n.mode, linksR R 1, n.holds, n.data, n.ents, u⟩ := hu
  refine ⟨n, _, hn, (h.sim.mode n (List.mem_of_getElem? hn)).1, (h.sim.mode n (List.mem_of_getElem? hn)).2, vw_dir hu' hk, rfl, rfl, ?_⟩
  show u = 1
  rw [hup hk (by rw [hl]; decide)]
  exact h1

theorem mode_bit {m : Int} (h0 : 0 ≤ m) (h1 : m ≤ 4095) : ((wrap64 (m.tdiv 64)).tmod 2 == 0) = decide (m / 64 % 2 = 0) := by
  rw [Int.tdiv_eq_ediv_of_nonneg h0, show wrap64 (m / 64) = m / 64 by unfold wrap64; omega, Int.tmod_eq_emod_of_nonneg (by omega)]
  by_cases e : m / 64 % 2 = 0
  · rw [e]; rfl
  · rw [decide_eq_false e]; simpa using e
/-- The four ways of the law. -/
theorem four_ways {S : St} {x : Vw} (hv : vwS S 1 = some x) (hk : x.kind = 2) (hm : ¬ x.mode / 64 % 2 = 0) (hu : x.up = 1) (follow : Bool) {s : ByteArray} (h0 : 1 ≤ s.size) (h1 : s.size ≤ 500) (h47 : bt s 0 ≠ 47) :
    wayM (vwS S) follow 41 0 1 (⟨#[46, 47]⟩ ++ s) = wayM (vwS S) follow 41 0 1 s ∧ wayM (vwS S) follow 41 0 1 (⟨#[46, 46, 47, 46, 47, 47]⟩ ++ s) = wayM (vwS S) follow 41 0 1 s ∧ wayM (vwS S) follow 41 0 1 (⟨#[47, 47]⟩ ++ s) = wayM (vwS S) follow 41 0 1 s := by
  refine ⟨?_, ?_, ?_⟩
  · exact way_dots hv hk hm hu follow 40 h0 h1 h47 (by decide) (by decide) ⟨[⟨#[46]⟩], by intro z hz; simp at hz; exact .inl hz, by rw [parts_dot]; rfl⟩
  · exact way_dots hv hk hm hu follow 40 h0 h1 h47 (by decide) (by decide) ⟨[⟨#[46, 46]⟩, ⟨#[46]⟩], by intro z hz; simp at hz; exact hz.symm, by rw [parts_dd]; rfl⟩
  · exact way_dots hv hk hm hu follow 40 h0 h1 h47 (by decide) (by decide) ⟨[], by intro z hz; simp at hz, by rw [parts_sl2]; rfl⟩

set_option maxHeartbeats 2000000 in
set_option maxRecDepth 100000 in
theorem dots5_early (v0 : Value) (os : List Opn) (s : ByteArray) (follow : Bool) (w : World) (h : OpsAt w v0 os) (hlen : os.length ≤ maxLen) (hs : s.size ≤ maxLen) (hbad : smB os = false ∨ (smB os = true ∧ (s.size < 1 ∨ 500 < s.size ∨ (1 ≤ s.size ∧ bt s 0 = 47)))) :
    Calls Try.prog 5 #[v0, .string s, .bool follow] w fun e w' => e = .returned (.bool true) ∧ Below w.heap.size w w' := by
  have A := Lib.hid (anchor7 w)
  have H := Lib.hid h
  have HL := Lib.hid hlen
  obtain ⟨a0, c0, rfl⟩ := ops_shape h
  clear h hlen
  unfold maxLen at hs
  go_enter Try.func5, Try.ntmps5
  go_wp2_with fail
  refine A.out.mono ?_
  rintro e w1 ⟨rfl, b1⟩
  have HB1 := Lib.hid b1
  have H1 : Hid (OpsAt w1 (.slice a0 os.length c0) os) := by
    refine Lib.hid ⟨H.out.1, ?_⟩
    rcases H.out.2 with h | ⟨b, off, c, e, hc⟩
    · exact .inl h
    · exact .inr ⟨b, off, c, e, fun i o hi => (hc i o hi).low b1⟩
  have CS := small8 _ os w1 H1.out HL.out
  clear A b1
  rcases hbad with hbad | ⟨hsm, hbad⟩
  · rw [hbad] at CS
    have HC := Lib.hid CS
    clear CS
    go_wp2_with fail
    refine HC.out.mono ?_
    rintro e w2 ⟨rfl, b2⟩
    have HB2 := Lib.hid (HB1.out.trans (b2.mono HB1.out.size))
    clear b2
    go_wp2
    go_ret
    exact ⟨rfl, HB2.out⟩
  · rw [hsm] at CS
    have HC := Lib.hid CS
    clear CS hsm
    go_wp2_with fail
    refine HC.out.mono ?_
    rintro e w2 ⟨rfl, b2⟩
    have HB2 := Lib.hid (HB1.out.trans (b2.mono HB1.out.size))
    clear b2
    have hb := get_bt s
    rcases hbad with hbad | hbad | ⟨h1, h2⟩
    · have q1 : decide (s.size < 1) = true := decide_eq_true hbad
      go_wp2
      go_ret
      exact ⟨rfl, HB2.out⟩
    · have q1 : decide (s.size < 1) = false := decide_eq_false (by omega)
      have q2 : decide (500 < s.size) = true := decide_eq_true hbad
      go_wp2
      go_ret
      exact ⟨rfl, HB2.out⟩
    · have q1 : decide (s.size < 1) = false := decide_eq_false (by omega)
      have hlt : 0 < s.size := by omega
      have q3 : (bt s 0 == 47) = true := by simpa using h2
      by_cases h5 : 500 < s.size
      · have q2 : decide (500 < s.size) = true := decide_eq_true h5
        go_wp2
        go_ret
        exact ⟨rfl, HB2.out⟩
      · have q2 : decide (500 < s.size) = false := decide_eq_false h5
        go_wp2
        go_ret
        exact ⟨rfl, HB2.out⟩

set_option maxHeartbeats 4000000 in
set_option maxRecDepth 100000 in
theorem dots5_main (v0 : Value) (os : List Opn) (s : ByteArray) (follow : Bool) (w : World) (h : OpsAt w v0 os) (hlen : os.length ≤ maxLen) (hsm : smB os = true) (h1 : 1 ≤ s.size) (h5 : s.size ≤ 500) (h47 : bt s 0 ≠ 47) :
    Calls Try.prog 5 #[v0, .string s, .bool follow] w fun e w' => e = .returned (.bool true) ∧ Below w.heap.size w w' := by
  have A := Lib.hid (anchor7 w)
  have H := Lib.hid h
  have HL := Lib.hid hlen
  obtain ⟨a0, c0, rfl⟩ := ops_shape h
  clear h hlen
  go_enter Try.func5, Try.ntmps5
  go_wp2_with fail
  refine A.out.mono ?_
  rintro e w1 ⟨rfl, b1⟩
  have HB1 := Lib.hid b1
  have ops_low : ∀ w', Below w.heap.size w w' → OpsAt w' (.slice a0 os.length c0) os := by
    intro w' b1
    refine ⟨H.out.1, ?_⟩
    rcases H.out.2 with h | ⟨b, off, c, e, hc⟩
    · exact .inl h
    · exact .inr ⟨b, off, c, e, fun i o hi => (hc i o hi).low b1⟩
  have CS := small8 _ os w1 (ops_low w1 b1) HL.out
  have HOL := Lib.hid ops_low
  have HSM := Lib.hid hsm
  rw [hsm] at CS
  have HC := Lib.hid CS
  clear A b1 ops_low CS hsm
  go_wp2_with fail
  refine HC.out.mono ?_
  rintro e w2 ⟨rfl, b2⟩
  have B2 := HB1.out.trans (b2.mono HB1.out.size)
  have CB := Lib.hid (built9 _ os w2 (HOL.out w2 B2) (by have := (smB_ok HSM.out).1; omega) (smB_ok HSM.out).2)
  have HB2 := Lib.hid B2
  clear b2 B2 HC HB1
  have hb := get_bt s
  have q1 : decide ((s.size : Int) < 1) = false := decide_eq_false (by omega)
  have q2 : decide (500 < (s.size : Int)) = false := decide_eq_false (by omega)
  have hlt : 0 < s.size := by omega
  have q3 : (bt s 0 == 47) = false := by simpa using h47
  have H1 := Lib.hid h1
  have H5 := Lib.hid h5
  have H47 := Lib.hid h47
  clear h1 h47
  go_wp2_with fail
  refine CB.out.mono ?_
  rintro e w3 ⟨D, L, S, R, ds, v, Z, rfl, K, B, Hh, hZ, X, b3, O⟩
  obtain ⟨g, c, rfl⟩ := X.shape (by have := Hh.sim.two; rw [← hZ] at this; simp at this; omega)
  obtain ⟨n, x, hn, m1, m2, hx, xk, xm, xu⟩ := Hh.rootV
  rw [← hZ] at hn
  obtain ⟨ev, hev⟩ := zn_get hn
  have A3 := (Below.refl w3.heap.size w3).alloc (Nat.le_refl _) (.cells #[.slice (some ⟨g, 0, none⟩) Z.length c, .int .i64 1048576] 28)
  have cm := ((X.below A3).at hev).c1
  have hz1 : 1 < Z.length := by have := Hh.sim.two; rw [← hZ] at this; simp at this; omega
  have hz2 : (1 : Int) < Z.length := by omega
  have B3 := HB2.out.trans (b3.mono HB2.out.size)
  have HB3 := Lib.hid (B3.trans (A3.mono B3.size))
  have HK := Lib.hid (K.below A3)
  have HG := Lib.hid Hh.good
  have HX := Lib.hid (And.intro hx (And.intro xk (And.intro xm xu)))
  have HM := Lib.hid (And.intro m1 m2)
  clear hev hn hx xk xm xu CB K B Hh hZ X b3 O B3 A3 HB2 m1 m2
  have hmb := mode_bit HM.out.1 HM.out.2
  by_cases hm0 : n.mode / 64 % 2 = 0
  · rw [decide_eq_true hm0] at hmb
    clear hm0
    go_wp2
    go_ret
    exact ⟨rfl, HB3.out⟩
  rw [decide_eq_false hm0] at hmb
  obtain ⟨f1, f2, f3⟩ := four_ways HX.out.1 HX.out.2.1 (by rw [HX.out.2.2.1]; exact hm0) HX.out.2.2.2 follow H1.out H5.out H47.out
  have C1 := find10 L D S _ HK.out HG.out 1 (in64 (by decide)) s (by have := H5.out; omega) follow
  have CA : ∀ w', Below (w3.alloc (.cells #[.slice (some ⟨g, 0, none⟩) Z.length c, .int .i64 1048576] 28)).heap.size (w3.alloc (.cells #[.slice (some ⟨g, 0, none⟩) Z.length c, .int .i64 1048576] 28)) w' → Calls Try.prog 10 #[.pointer (some ⟨D, 0, none⟩), .int .i64 1, .string (⟨#[46, 47]⟩ ++ s), .bool follow] w' (GivesP w' (wayM (vwS S) follow 41 0 1 s)) ∧ Calls Try.prog 10 #[.pointer (some ⟨D, 0, none⟩), .int .i64 1, .string (⟨#[46, 46, 47, 46, 47, 47]⟩ ++ s), .bool follow] w' (GivesP w' (wayM (vwS S) follow 41 0 1 s)) ∧ Calls Try.prog 10 #[.pointer (some ⟨D, 0, none⟩), .int .i64 1, .string (⟨#[47, 47]⟩ ++ s), .bool follow] w' (GivesP w' (wayM (vwS S) follow 41 0 1 s)) := by
    intro w' hb'
    have e2 : (⟨#[46, 47]⟩ : ByteArray).size = 2 := rfl
    have e6 : (⟨#[46, 46, 47, 46, 47, 47]⟩ : ByteArray).size = 6 := rfl
    have e3 : (⟨#[47, 47]⟩ : ByteArray).size = 2 := rfl
    have h5 := H5.out
    refine ⟨?_, ?_, ?_⟩
    · rw [← f1]; exact find10 L D S _ (HK.out.below hb') HG.out 1 (in64 (by decide)) _ (by rw [app_size, e2]; omega) follow
    · rw [← f2]; exact find10 L D S _ (HK.out.below hb') HG.out 1 (in64 (by decide)) _ (by rw [app_size, e6]; omega) follow
    · rw [← f3]; exact find10 L D S _ (HK.out.below hb') HG.out 1 (in64 (by decide)) _ (by rw [app_size, e3]; omega) follow
  clear f1 f2 f3 hm0
  generalize wayM (vwS S) follow 41 0 1 s = T at C1 CA
  obtain ⟨⟨pn, pd, pm⟩, pe⟩ := T
  have HC1 := Lib.hid C1
  have HCA := Lib.hid CA
  have HB0 := Lib.hid (Below.refl (w3.alloc (.cells #[.slice (some ⟨g, 0, none⟩) Z.length c, .int .i64 1048576] 28)).heap.size (w3.alloc (.cells #[.slice (some ⟨g, 0, none⟩) Z.length c, .int .i64 1048576] 28)))
  clear C1 CA
  go_wp2_with fail
  refine HC1.out.mono ?_
  rintro e w4 ⟨rfl, b4⟩
  have B5 := b4.alloc b4.size (.cells #[.int .i64 pn, .int .i64 pd, .string pm] 32)
  have N5 := heap_alloc_new w4 (.cells #[.int .i64 pn, .int .i64 pd, .string pm] 32)
  have HC2 := Lib.hid (HCA.out _ B5).1
  have HB5 := Lib.hid B5
  have HN5 := Lib.hid N5
  clear HC1 b4 B5 N5
  go_wp2_with fail
  refine HC2.out.mono ?_
  rintro e w6 ⟨rfl, b6⟩
  have B6 := HB5.out.trans (b6.mono HB5.out.size)
  have N6 := (b6.block _ (lt_of_block HN5.out)).trans HN5.out
  have B7 := B6.alloc B6.size (.cells #[.int .i64 pn, .int .i64 pd, .string pm] 32)
  have A7 := (Below.refl w6.heap.size w6).alloc (Nat.le_refl _) (.cells #[.int .i64 pn, .int .i64 pd, .string pm] 32)
  have N7 := (A7.block _ (lt_of_block N6)).trans N6
  have M7 := heap_alloc_new w6 (.cells #[.int .i64 pn, .int .i64 pd, .string pm] 32)
  have HC3 := Lib.hid (HCA.out _ B7).2.1
  have HB7 := Lib.hid B7
  have HN7 := Lib.hid N7
  have HM7 := Lib.hid M7
  clear HC2 b6 B6 N6 B7 A7 N7 M7 HB5 HN5
  go_wp2_with fail
  refine HC3.out.mono ?_
  rintro e w8 ⟨rfl, b8⟩
  have B8 := HB7.out.trans (b8.mono HB7.out.size)
  have N8 := (b8.block _ (lt_of_block HN7.out)).trans HN7.out
  have M8 := (b8.block _ (lt_of_block HM7.out)).trans HM7.out
  have B9 := B8.alloc B8.size (.cells #[.int .i64 pn, .int .i64 pd, .string pm] 32)
  have A9 := (Below.refl w8.heap.size w8).alloc (Nat.le_refl _) (.cells #[.int .i64 pn, .int .i64 pd, .string pm] 32)
  have N9 := (A9.block _ (lt_of_block N8)).trans N8
  have M9 := (A9.block _ (lt_of_block M8)).trans M8
  have P9 := heap_alloc_new w8 (.cells #[.int .i64 pn, .int .i64 pd, .string pm] 32)
  have HC4 := Lib.hid (HCA.out _ B9).2.2
  have HB9 := Lib.hid B9
  have HN9 := Lib.hid N9
  have HM9 := Lib.hid M9
  have HP9 := Lib.hid P9
  clear HC3 b8 B8 N8 M8 B9 A9 N9 M9 P9 HB7 HN7 HM7
  go_wp2_with fail
  refine HC4.out.mono ?_
  rintro e w10 ⟨rfl, b10⟩
  have B10 := HB9.out.trans (b10.mono HB9.out.size)
  have N10 := (b10.block _ (lt_of_block HN9.out)).trans HN9.out
  have M10 := (b10.block _ (lt_of_block HM9.out)).trans HM9.out
  have P10 := (b10.block _ (lt_of_block HP9.out)).trans HP9.out
  have A11 := (Below.refl w10.heap.size w10).alloc (Nat.le_refl _) (.cells #[.int .i64 pn, .int .i64 pd, .string pm] 32)
  have N11 := (A11.block _ (lt_of_block N10)).trans N10
  have M11 := (A11.block _ (lt_of_block M10)).trans M10
  have P11 := (A11.block _ (lt_of_block P10)).trans P10
  have B11 := B10.alloc B10.size (.cells #[.int .i64 pn, .int .i64 pd, .string pm] 32)
  have HBF := Lib.hid (HB3.out.trans (B11.mono HB3.out.size))
  have x0 := cells_at N11 (i := 0) rfl
  have x1 := cells_at N11 (i := 1) rfl
  have x2 := cells_at N11 (i := 2) rfl
  have y0 := cells_at M11 (i := 0) rfl
  have y1 := cells_at M11 (i := 1) rfl
  have y2 := cells_at M11 (i := 2) rfl
  have z0 := cells_at P11 (i := 0) rfl
  have z1 := cells_at P11 (i := 1) rfl
  have z2 := cells_at P11 (i := 2) rfl
  clear HC4 b10 B10 N10 M10 P10 A11 N11 M11 P11 B11 HB9 HN9 HM9 HP9 HB3 HCA HB0 HK HG HX HM hmb q1 q2 q3 hb cm
  go_wp2
  go_ret
  exact ⟨rfl, HBF.out⟩

set_option maxRecDepth 100000 in
theorem open_opsL {H : Type} {enc : TypeId × Value → H} {W : World} {base : Nat} {v : Value} {d : DataW H} {p : List MemPlace} (hv : Value.okWide Try.prog W .any base 22 v) (h : DataW.Trod enc Try.prog W 0 (fun _ => true) true 22 v d p) :
    ∃ os, OpsAt W v os ∧ os.length ≤ maxLen := by
  obtain ⟨os, ho⟩ := open_ops hv h
  exact ⟨os, ho, ops_len h ho⟩
theorem dots_in (v0 : Value) (os : List Opn) (s : ByteArray) (follow : Bool) (hs : s.size ≤ 140737488351232) (w : World) (h : OpsAt w v0 os ∧ os.length ≤ maxLen) :
    Calls Try.prog 5 #[v0, .string s, .bool follow] w fun e w' => e = .returned (.bool true) ∧ Below w.heap.size w w' := by
  have hs' : s.size ≤ maxLen := by unfold maxLen; omega
  cases hsm : smB os with
  | false => exact dots5_early v0 os s follow w h.1 h.2 hs' (.inl hsm)
  | true =>
    by_cases h1 : s.size < 1
    · exact dots5_early v0 os s follow w h.1 h.2 hs' (.inr ⟨hsm, .inl h1⟩)
    by_cases h5 : 500 < s.size
    · exact dots5_early v0 os s follow w h.1 h.2 hs' (.inr ⟨hsm, .inr (.inl h5)⟩)
    by_cases h47 : bt s 0 = 47
    · exact dots5_early v0 os s follow w h.1 h.2 hs' (.inr ⟨hsm, .inr (.inr ⟨by omega, h47⟩)⟩)
    · exact dots5_main v0 os s follow w h.1 h.2 hsm (by omega) (by omega) h47
end Go.Proofs.Ytgdjoojghkdcbaa

/- The document's look, into, part, walked. Conditions: the disk is one that the law builds. -/
namespace Go.Proofs.Ytgdjoojghkdcbaa
open Go.RowKit Go.PlainAid Pth
set_option linter.unusedSimpArgs false

theorem wrong_is {s : ByteArray} (h0 : s.size ≠ 0) (h1 : ¬ 4095 < s.size) : wrongE s = if hasB s 0 = true then 11 else 0 := by unfold wrongE; rw [if_neg h0, if_neg h1]
def RelLk (s : ByteArray) (w : World) (i : Value) (wr : World) : Prop := ∃ k : Nat, k ≤ s.size ∧ i = .int .i64 k ∧ (∀ j, j < k → bt s j ≠ 0) ∧ wr = w

set_option maxHeartbeats 2000000 in
set_option maxRecDepth 100000 in
theorem look60 (s : ByteArray) (w : World) (hs : s.size ≤ maxLen) : Calls Try.prog 60 #[.string s] w fun e w' => e = .returned (.int .i64 (wrongE s)) ∧ w = w' := by
  unfold maxLen at hs
  by_cases h0 : s.size = 0
  · have e1 : wrongE s = 12 := by unfold wrongE; rw [if_pos h0]
    rw [e1]
    have he := toList_em h0
    clear e1
    go_enter Try.func60, Try.ntmps60
    go_wp2
    go_ret
    exact ⟨rfl, rfl⟩
  have he := toList_ne h0
  by_cases h1 : 4095 < s.size
  · have e1 : wrongE s = 18 := by unfold wrongE; rw [if_neg h0, if_pos h1]
    rw [e1]
    have q1 : decide (4095 < (s.size : Int)) = true := decide_eq_true (by omega)
    clear e1
    go_enter Try.func60, Try.ntmps60
    go_wp2
    go_ret
    exact ⟨rfl, rfl⟩
  have q1 : decide (4095 < (s.size : Int)) = false := decide_eq_false (by omega)
  rw [wrong_is h0 h1]
  obtain ⟨T, hT⟩ : ∃ T : Int, T = (if hasB s 0 = true then 11 else 0) := ⟨_, rfl⟩
  rw [← hT]
  have HT := Lib.hid hT
  clear hT
  have hb := get_bt s
  have R0 : Hid (RelLk s w (.int .i64 0) w) := Lib.hid ⟨0, Nat.zero_le _, rfl, fun j hj => absurd hj (Nat.not_lt_zero j), rfl⟩
  go_enter Try.func60, Try.ntmps60
  go_wp2
  go_loopw [3] (RelLk s w) (fun i _ => s.size - (intOf i).toNat)
  case atStart => exact R0.out
  case round =>
    clear R0
    obtain ⟨k, hk, rfl, hno, rfl⟩ := hrel
    have HN := Lib.hid hno
    clear hno
    by_cases hlt : k < s.size
    · by_cases hz : bt s k = 0
      · have HF : Hid (T = 11) := Lib.hid (HT.out.trans (if_pos (by unfold hasB; exact decide_eq_true ⟨k, hlt, hz⟩)))
        have q2 : (bt s k == 0) = true := by simpa using hz
        clear hz
        go_wp2
        go_ret
        exact ⟨by rw [HF.out]; rfl, rfl⟩
      · have q2 : (bt s k == 0) = false := by simpa using hz
        have HN2 : Hid (∀ j, j < k + 1 → bt s j ≠ 0) := Lib.hid (fun j hj => by
          by_cases e : j = k
          · subst e; exact hz
          · exact HN.out j (by omega))
        clear hz
        go_wp2
        go_roundw
        case rel => exact ⟨k + 1, hlt, by go_num, HN2.out, rfl⟩
        case measure => simp [intOf]; omega
    · obtain rfl : k = s.size := by omega
      have HF : Hid (T = 0) := Lib.hid (HT.out.trans (if_neg (by
        unfold hasB
        simp only [decide_eq_true_eq]
        rintro ⟨j, hj, e⟩
        exact HN.out j hj e)))
      go_wp2
      go_ret
      exact ⟨by rw [HF.out]; rfl, rfl⟩

section
variable {k : Nat} {S : St} {R : List Nr} {ds : List Nat}
theorem Hd.vw (H : Hd k S R ds) (id : Int) : (hasR R id = false ∧ vwS S id = none) ∨ ∃ (i : Nat) (n : Nr), id = i ∧ 1 ≤ i ∧ R[i]? = some n ∧ n.kind ≠ 0 ∧ hasR R id = true ∧ vwS S id = some ⟨n.kind, n.mode, if n.kind = 2 then ⟨#[]⟩ else n.data, if n.kind = 2 then Ytgdjoojghkdcbaa.upR R id else 0, fun s => if n.kind = 2 then getN s n.ents else 0⟩ := by
  have hh := H.sim.has id
  cases hx : S.get id with
  | none =>
    rw [hx] at hh
    exact .inl ⟨hh, by simp [vwS, hx]⟩
  | some x =>
    rw [hx] at hh
    obtain ⟨i, n, u, rfl, h1, h2, h3, rfl, h5⟩ := H.at hx
    refine .inr ⟨i, n, rfl, h1, h2, h3, hh, ?_⟩
    simp only [vwS, hx, Option.map_some]
    by_cases e : n.kind = 2
    · rw [h5 e]
    · simp [e]
/-- What is named above, and what has entries, is a directory. -/
theorem Hd.upDir (H : Hd k S R ds) (id : Int) : ∃ n, R[(Ytgdjoojghkdcbaa.upR R id).toNat]? = some n ∧ n.kind = 2 := by
  unfold Ytgdjoojghkdcbaa.upR
  rcases upF_rng id (R.drop 1) 1 with e | ⟨q, n, e1, e2, e3⟩
  · rw [e]; exact H.sim.root
  · rw [e3]
    rw [List.getElem?_drop] at e1
    refine ⟨n, by rw [Int.toNat_natCast]; exact e1, ?_⟩
    by_cases hk : n.kind = 2
    · exact hk
    · rw [H.only n (List.mem_of_getElem? e1) hk] at e2; cases e2
theorem Hd.vwUp (H : Hd k S R ds) (id : Int) : kindV (vwS S (Ytgdjoojghkdcbaa.upR R id)) = 2 ∧ hasR R (Ytgdjoojghkdcbaa.upR R id) = true := by
  have hr := H.upR id
  obtain ⟨n, hn, hk⟩ := H.upDir id
  obtain ⟨i, hi⟩ : ∃ i : Nat, Ytgdjoojghkdcbaa.upR R id = i := ⟨(Ytgdjoojghkdcbaa.upR R id).toNat, by omega⟩
  rw [hi] at hn hr ⊢
  rw [Int.toNat_natCast] at hn
  have hh : hasR R (i : Int) = true := by rw [hasR_at hn (by omega)]; simp; omega
  rcases H.vw (i : Int) with ⟨e, _⟩ | ⟨j, m, e1, _, e3, _, _, e6⟩
  · rw [hh] at e; cases e
  · obtain rfl : i = j := by omega
    rw [hn] at e3
    cases e3
    rw [e6]
    exact ⟨hk, hh⟩
end

set_option maxHeartbeats 2000000 in
set_option maxRecDepth 100000 in
theorem into62 {k : Nat} {S : St} {ds : List Nat} (P : Nat → Prop) (v : Value) (room : Int) (Z : List Zn) (w : World) (X : XAt P v Z w) (H : Hd k S (nrs Z) ds) (id : Int) :
    Calls Try.prog 62 #[xv v room, .int .i64 id] w fun e w' => e = .returned (.int .i64 (closE (vwS S id))) ∧ Below w.heap.size w w' := by
  have hz2 := H.sim.two
  rw [nrs_len] at hz2
  have B0 := Bx.start X room
  have C := rfolder32 P v room Z _ B0.x (by omega) id
  have HX := Lib.hid B0
  obtain ⟨g, c, rfl⟩ := X.shape (by omega)
  rcases H.vw id with ⟨h1, h2⟩ | ⟨i, n, rfl, i1, hn, hk0, hh, hv⟩
  · rw [h2]
    rw [show dirRE (nrs Z) id = 12 by unfold dirRE; rw [if_neg (by rw [h1]; decide)]] at C
    have HC := Lib.hid C
    have q0 := B0.c00
    have q1 := B0.c01
    clear C B0 X h1 h2 H
    go_enter Try.func62, Try.ntmps62
    go_wp2_with fail
    refine HC.out.mono ?_
    rintro e w1 ⟨rfl, b1⟩
    have HB := Lib.hid (HX.out.below b1).bel
    clear b1
    go_wp2
    go_ret
    exact ⟨rfl, HB.out⟩
  · rw [hv]
    by_cases hk : n.kind = 2
    · rw [dirRE_ok hn i1 hk] at C
      obtain ⟨ev, hev⟩ := zn_get hn
      have hil := (List.getElem?_eq_some_iff.1 hev).1
      have hm := H.sim.mode n (List.mem_of_getElem? hn)
      have hmb := mode_bit hm.1 hm.2
      have HC := Lib.hid C
      have q0 := B0.c00
      have q1 := B0.c01
      have Hev := Lib.hid hev
      have hil' : (i : Int) < Z.length := by omega
      have hi0 : (0 : Int) ≤ (i : Int) := by omega
      have e1 : closE (some ⟨n.kind, n.mode, if n.kind = 2 then ⟨#[]⟩ else n.data, if n.kind = 2 then upR (nrs Z) (i : Int) else 0, fun s => if n.kind = 2 then getN s n.ents else 0⟩) = if n.mode / 64 % 2 = 0 then 19 else 0 := by simp [closE, hk]
      rw [e1]
      clear e1 C B0 X hv H hn hev hm hh hk hk0
      by_cases hb : n.mode / 64 % 2 = 0
      · rw [if_pos hb]
        rw [decide_eq_true hb] at hmb
        clear hb
        go_enter Try.func62, Try.ntmps62
        go_wp2_with fail
        refine HC.out.mono ?_
        rintro e w1 ⟨rfl, b1⟩
        have X1 := HX.out.below b1
        have c1 := (X1.x.at Hev.out).c1
        have q0 := X1.c00
        have HB := Lib.hid X1.bel
        clear b1 X1
        go_wp2
        go_ret
        exact ⟨rfl, HB.out⟩
      · rw [if_neg hb]
        rw [decide_eq_false hb] at hmb
        clear hb
        go_enter Try.func62, Try.ntmps62
        go_wp2_with fail
        refine HC.out.mono ?_
        rintro e w1 ⟨rfl, b1⟩
        have X1 := HX.out.below b1
        have c1 := (X1.x.at Hev.out).c1
        have q0 := X1.c00
        have HB := Lib.hid X1.bel
        clear b1 X1
        go_wp2
        go_ret
        exact ⟨rfl, HB.out⟩
    · have e0 : dirRE (nrs Z) (i : Int) = 14 := by unfold dirRE; rw [if_pos hh, Int.toNat_natCast, hn]; simp [hk]
      rw [e0] at C
      have e1 : closE (some ⟨n.kind, n.mode, if n.kind = 2 then ⟨#[]⟩ else n.data, if n.kind = 2 then upR (nrs Z) (i : Int) else 0, fun s => if n.kind = 2 then getN s n.ents else 0⟩) = 14 := by simp [closE, hk]
      rw [e1]
      have HC := Lib.hid C
      have q0 := B0.c00
      have q1 := B0.c01
      clear C B0 X hv H e0 e1 hn hh hk hk0
      go_enter Try.func62, Try.ntmps62
      go_wp2_with fail
      refine HC.out.mono ?_
      rintro e w1 ⟨rfl, b1⟩
      have HB := Lib.hid (HX.out.below b1).bel
      clear b1
      go_wp2
      go_ret
      exact ⟨rfl, HB.out⟩
end Go.Proofs.Ytgdjoojghkdcbaa

/- The document's part and joined, walked. Conditions: the disk is one that the law builds; texts are short. -/
namespace Go.Proofs.Ytgdjoojghkdcbaa
open Go.RowKit Go.PlainAid Pth
set_option linter.unusedSimpArgs false

theorem Try.info36 : (Try.prog.info? 36).map (fun i => (i.zero, i.size, i.bytes)) = some (some (.agg #[.int .i64 0, .int .i64 0, .string ⟨#[]⟩]), 3, 32) := by kernel_rfl
theorem Try.agg36 (w : World) : (isAgg 36).run Try.prog w = .ok true w := by kernel_rfl

/-- A document's call that tells a place: its disk's box, its result's place. -/
structure Pf (P : Nat → Prop) (w : World) (v : Value) (room : Int) (Z : List Zn) (u0 u1 u2 : Value) (wr : World) : Prop where
  bel : Below w.heap.size w wr
  b0 : wr.heap[w.heap.size]? = some (.cells #[v, .int .i64 room] 28 (0, 0))
  b1 : wr.heap[w.heap.size + 1]? = some (.cells #[u0, u1, u2] 36 (0, 0))
  x : XAt P v Z wr
section
variable {P : Nat → Prop} {w wr : World} {v u0 u1 u2 : Value} {room : Int} {Z : List Zn}
theorem Pf.start (h : XAt P v Z w) (room : Int) : Pf P w v room Z (.int .i64 0) (.int .i64 0) (.string ⟨#[]⟩) ((w.alloc (.cells #[v, .int .i64 room] 28)).alloc (.cells #[.int .i64 0, .int .i64 0, .string ⟨#[]⟩] 36)) := by
  have a0 := (Below.refl w.heap.size w).alloc (Nat.le_refl _) (.cells #[v, .int .i64 room] 28)
  have hs : (w.alloc (.cells #[v, .int .i64 room] 28)).heap.size = w.heap.size + 1 := by simp
  have a1 := (Below.refl (w.alloc (.cells #[v, .int .i64 room] 28)).heap.size (w.alloc (.cells #[v, .int .i64 room] 28))).alloc (Nat.le_refl _) (.cells #[.int .i64 0, .int .i64 0, .string ⟨#[]⟩] 36)
  have n0 := heap_alloc_new w (.cells #[v, .int .i64 room] 28)
  have n1 := heap_alloc_new (w.alloc (.cells #[v, .int .i64 room] 28)) (.cells #[.int .i64 0, .int .i64 0, .string ⟨#[]⟩] 36)
  rw [hs] at n1
  exact ⟨a0.trans (a1.mono a0.size), (a1.block _ (by omega)).trans n0, n1, (h.below a0).below a1⟩
theorem Pf.below {w' : World} (h : Pf P w v room Z u0 u1 u2 wr) (hb : Below wr.heap.size wr w') : Pf P w v room Z u0 u1 u2 w' :=
  ⟨h.bel.trans (hb.mono h.bel.size), (hb.block _ (lt_of_block h.b0)).trans h.b0, (hb.block _ (lt_of_block h.b1)).trans h.b1, h.x.below hb⟩
theorem Pf.c00 (h : Pf P w v room Z u0 u1 u2 wr) : wr.cell? ⟨w.heap.size, 0, none⟩ = some v := cells_at h.b0 rfl
theorem Pf.c01 (h : Pf P w v room Z u0 u1 u2 wr) : wr.cell? ⟨w.heap.size, 1, none⟩ = some (.int .i64 room) := cells_at h.b0 rfl
theorem Pf.c10 (h : Pf P w v room Z u0 u1 u2 wr) : wr.cell? ⟨w.heap.size + 1, 0, none⟩ = some u0 := cells_at h.b1 rfl
theorem Pf.c11 (h : Pf P w v room Z u0 u1 u2 wr) : wr.cell? ⟨w.heap.size + 1, 1, none⟩ = some u1 := cells_at h.b1 rfl
theorem Pf.c12 (h : Pf P w v room Z u0 u1 u2 wr) : wr.cell? ⟨w.heap.size + 1, 2, none⟩ = some u2 := cells_at h.b1 rfl
theorem Pf.fr (h : Pf P w v room Z u0 u1 u2 wr) (i : Nat) : wr.frozen? ⟨w.heap.size + 1, i, none⟩ = false := free_at h.b1
theorem Pf.fin (h : Pf P w v room Z u0 u1 u2 wr) (a0 a1 a2 : Value) : Below w.heap.size w (lay3 wr (w.heap.size + 1) a0 a1 a2) ∧ (lay3 wr (w.heap.size + 1) a0 a1 a2).heap[w.heap.size + 1]? = some (.cells #[a0, a1, a2] 36 (0, 0)) :=
  ⟨((h.bel.setCell (p := ⟨w.heap.size + 1, 0, none⟩) (Nat.le_succ _) a0).setCell (p := ⟨w.heap.size + 1, 1, none⟩) (Nat.le_succ _) a1).setCell (p := ⟨w.heap.size + 1, 2, none⟩) (Nat.le_succ _) a2,
    blk_setCell (i := 2) (blk_setCell (i := 1) (blk_setCell (i := 0) h.b1 a0) a1) a2⟩
end

set_option maxHeartbeats 2000000 in
set_option maxRecDepth 100000 in
theorem part63 {k : Nat} {S : St} {ds : List Nat} (P : Nat → Prop) (v : Value) (room : Int) (Z : List Zn) (w : World) (X : XAt P v Z w) (H : Hd k S (nrs Z) ds) (id : Int) (hc : closE (vwS S id) = 0) (s : ByteArray) (hs : s.size ≤ maxLen) :
    Calls Try.prog 63 #[xv v room, .int .i64 id, .string s] w (GivesP w (stepM (vwS S) id s)) := by
  unfold maxLen at hs
  have hz2 := H.sim.two
  rw [nrs_len] at hz2
  have hzl := H.sim.inv.len
  rw [nrs_len] at hzl
  have hfew : ∀ z ∈ Z, z.1.ents.length ≤ 999 := fun z hz => H.sim.inv.few z.1 (List.mem_map_of_mem hz)
  obtain ⟨g, c, rfl⟩ := X.shape (by omega)
  have HF := Lib.hid (Pf.start X room)
  rcases H.vw id with ⟨h1, h2⟩ | ⟨i, n, rfl, i1, hn, hk0, hh, hv⟩
  · rw [h2] at hc; cases hc
  have hk : n.kind = 2 := by
    by_cases e : n.kind = 2
    · exact e
    · rw [hv] at hc; simp [closE, e] at hc
  have es : stepM (vwS S) (i : Int) s = (if (s.toList == [46]) = true then (⟨i, 0, ⟨#[]⟩⟩, 0) else if (s.toList == [46, 46]) = true then (⟨upR (nrs Z) i, 0, ⟨#[]⟩⟩, 0) else if 255 < s.size then (.zero, 18) else (⟨getN s n.ents, i, s⟩, 0)) := by
    unfold stepM
    rw [hv] at hc ⊢
    dsimp only
    rw [if_pos hc]
    simp only [hk, if_true]
  rw [es]
  have CU := Lib.hid (fun w' (x' : XAt P (.slice (some ⟨g, 0, none⟩) Z.length c) Z w') => rup70 P _ room Z w' x' (by omega) (by omega) (fun z hz => by have := hfew z hz; omega) i)
  have CL := Lib.hid (fun w' (x' : XAt P (.slice (some ⟨g, 0, none⟩) Z.length c) Z w') => rlook16 P _ room Z w' x' (by omega) (fun z hz => ⟨H.sim.rise z.1 (List.mem_map_of_mem hz), hfew z hz⟩) i s)
  have eN : Hid (lookRN (nrs Z) (i : Int) s = getN s n.ents) := Lib.hid (by unfold lookRN; rw [if_pos (dirRE_ok hn i1 hk), Int.toNat_natCast, hn])
  clear es hv hc H hfew hn hh X hk hk0 i1
  cases e1 : (s.toList == [46])
  rotate_left
  · rw [if_pos rfl]
    go_enter Try.func63, Try.ntmps63
    go_upto_region 1 with fail
    generalize ((w.alloc (.cells #[.slice (some ⟨g, 0, none⟩) Z.length c, .int .i64 room] 28)).alloc (.cells #[.int .i64 0, .int .i64 0, .string ⟨#[]⟩] 36)) = wz at HF ⊢
    have p0 := HF.out.c10
    have p1 := HF.out.c11
    have p2 := HF.out.c12
    have f0 := HF.out.fr 0
    have f1 := HF.out.fr 1
    have f2 := HF.out.fr 2
    have q0 := HF.out.c00
    have q1 := HF.out.c01
    have HE := Lib.hid (HF.out.fin (.int .i64 i) (.int .i64 0) (.string ⟨#[]⟩))
    go_wp2
    exact bodyPost_ret_by (results_c1 Try.info36 Try.agg36 rfl _ _ _ _ rfl HE.out.2 rfl) rfl ⟨rfl, HE.out.1⟩
  rw [if_neg (by simp)]
  cases e2 : (s.toList == [46, 46])
  rotate_left
  · rw [if_pos rfl]
    generalize upR (nrs Z) i = up at CU ⊢
    go_enter Try.func63, Try.ntmps63
    go_upto_region 1 with fail
    generalize ((w.alloc (.cells #[.slice (some ⟨g, 0, none⟩) Z.length c, .int .i64 room] 28)).alloc (.cells #[.int .i64 0, .int .i64 0, .string ⟨#[]⟩] 36)) = wz at HF ⊢
    have p0 := HF.out.c10
    have p1 := HF.out.c11
    have p2 := HF.out.c12
    have f0 := HF.out.fr 0
    have f1 := HF.out.fr 1
    have f2 := HF.out.fr 2
    have q0 := HF.out.c00
    have q1 := HF.out.c01
    have C := Lib.hid (CU.out wz HF.out.x)
    go_wp2_with fail
    refine C.out.mono ?_
    rintro e w1 ⟨rfl, b1⟩
    have F1 := HF.out.below b1
    have HE := Lib.hid (F1.fin (.int .i64 up) (.int .i64 0) (.string ⟨#[]⟩))
    have p0 := F1.c10
    have p1 := F1.c11
    have p2 := F1.c12
    have f0 := F1.fr 0
    have f1 := F1.fr 1
    have f2 := F1.fr 2
    clear F1 b1 C HF
    go_wp2
    exact bodyPost_ret_by (results_c1 Try.info36 Try.agg36 rfl _ _ _ _ rfl HE.out.2 rfl) rfl ⟨rfl, HE.out.1⟩
  rw [if_neg (by simp)]
  by_cases e3 : 255 < s.size
  · rw [if_pos e3]
    have q3 : decide (255 < (s.size : Int)) = true := decide_eq_true (by omega)
    go_enter Try.func63, Try.ntmps63
    go_upto_region 1 with fail
    generalize ((w.alloc (.cells #[.slice (some ⟨g, 0, none⟩) Z.length c, .int .i64 room] 28)).alloc (.cells #[.int .i64 0, .int .i64 0, .string ⟨#[]⟩] 36)) = wz at HF ⊢
    have p0 := HF.out.c10
    have p1 := HF.out.c11
    have p2 := HF.out.c12
    have f0 := HF.out.fr 0
    have f1 := HF.out.fr 1
    have f2 := HF.out.fr 2
    have q0 := HF.out.c00
    have q1 := HF.out.c01
    have HE := Lib.hid (HF.out.fin (.int .i64 0) (.int .i64 0) (.string ⟨#[]⟩))
    go_wp2
    exact bodyPost_ret_by (results_c1 Try.info36 Try.agg36 rfl _ _ _ _ rfl HE.out.2 rfl) rfl ⟨rfl, HE.out.1⟩
  rw [if_neg e3]
  have q3 : decide (255 < (s.size : Int)) = false := decide_eq_false (by omega)
  have C := CL.out
  rw [eN.out] at C
  generalize lookRE (nrs Z) (i : Int) s = ee at C
  generalize getN s n.ents = gn at C ⊢
  clear CL CU eN
  have HCC := Lib.hid C
  clear C
  go_enter Try.func63, Try.ntmps63
  go_upto_region 1 with fail
  generalize ((w.alloc (.cells #[.slice (some ⟨g, 0, none⟩) Z.length c, .int .i64 room] 28)).alloc (.cells #[.int .i64 0, .int .i64 0, .string ⟨#[]⟩] 36)) = wz at HF ⊢
  have p0 := HF.out.c10
  have p1 := HF.out.c11
  have p2 := HF.out.c12
  have f0 := HF.out.fr 0
  have f1 := HF.out.fr 1
  have f2 := HF.out.fr 2
  have q0 := HF.out.c00
  have q1 := HF.out.c01
  have HC := Lib.hid (HCC.out wz HF.out.x)
  go_wp2_with fail
  refine HC.out.mono ?_
  rintro e w1 ⟨rfl, b1⟩
  have F1 := HF.out.below b1
  have HE := Lib.hid (F1.fin (.int .i64 gn) (.int .i64 i) (.string s))
  have p0 := F1.c10
  have p1 := F1.c11
  have p2 := F1.c12
  have f0 := F1.fr 0
  have f1 := F1.fr 1
  have f2 := F1.fr 2
  clear F1 b1 HC HF
  go_wp2
  exact bodyPost_ret_by (results_c1 Try.info36 Try.agg36 rfl _ _ _ _ rfl HE.out.2 rfl) rfl ⟨rfl, HE.out.1⟩

/-- A target and what is left, joined one by one. -/
def jdS (t : ByteArray) (l : List ByteArray) (slash : Bool) : ByteArray := if slash = true ∧ slsB (l.foldl joinS t) = false then l.foldl joinS t ++ ⟨#[47]⟩ else l.foldl joinS t
theorem join_ends {t y : ByteArray} (hy : Bare y) : 0 < (joinS t y).size ∧ slsB (joinS t y) = false := by
  have hy0 := hy.1
  have hl : bt y (y.size - 1) ≠ 47 := hy.2 _ (by omega)
  have hs : slsB y = false := by unfold slsB; rw [decide_eq_true hy0, Bool.true_and]; simpa using hl
  unfold joinS
  split
  · exact ⟨hy0, hs⟩
  · split
    · exact ⟨by rw [app_size]; omega, by rw [sls_app hy0]; exact hs⟩
    · exact ⟨by rw [app_size]; omega, by rw [sls_app hy0]; exact hs⟩
theorem join_bare {t z : ByteArray} (h0 : 0 < t.size) (h : slsB t = false) : joinS t z = t ++ ⟨#[47]⟩ ++ z := by
  unfold joinS
  rw [if_neg (by omega), if_neg]
  unfold slsB at h
  rw [decide_eq_true h0, Bool.true_and] at h
  rw [h]; decide
theorem fold_tail : ∀ (r : List ByteArray) (u : ByteArray), 0 < u.size → slsB u = false → (∀ x ∈ r, Bare x) → r.foldl joinS u = u ++ tailJ r
  | [], u, _, _, _ => by simp [tailJ, app_nil]
  | z :: r, u, h0, h1, hb => by
    have hz := hb z (by simp)
    have e := join_ends (t := u) hz
    rw [List.foldl_cons, fold_tail r (joinS u z) e.1 e.2 (fun x hx => hb x (List.mem_cons_of_mem _ hx)), join_bare h0 h1, tailJ]
    simp only [app_assoc]
theorem fold_is {t : ByteArray} {l : List ByteArray} (hb : ∀ x ∈ l, Bare x) (hl : 0 < l.length) : l.foldl joinS t = joinS t (joinL l) := by
  cases l with
  | nil => cases hl
  | cons y r =>
    have hy := hb y (by simp)
    have e := join_ends (t := t) hy
    rw [List.foldl_cons, fold_tail r _ e.1 e.2 (fun x hx => hb x (List.mem_cons_of_mem _ hx)), joinL]
    have hn : (y ++ tailJ r).size ≠ 0 := by rw [app_size]; have := hy.1; omega
    unfold joinS
    split
    · rfl
    · split
      · simp only [app_assoc]
      · simp only [app_assoc]
theorem jd_is {t : ByteArray} {l : List ByteArray} (slash : Bool) (ht : 0 < t.size) (hb : ∀ x ∈ l, Bare x) : jdS t l slash = behS t l slash := by
  have e : l.foldl joinS t = if 0 < l.length then joinS t (joinL l) else t := by
    by_cases hl : 0 < l.length
    · rw [if_pos hl]; exact fold_is hb hl
    · rw [if_neg hl]; cases l with | nil => rfl | cons _ _ => simp at hl
  have hp : 0 < (l.foldl joinS t).size := by
    cases l with
    | nil => exact ht
    | cons y r =>
      rw [List.foldl_cons, fold_tail r _ (join_ends (hb y (by simp))).1 (join_ends (hb y (by simp))).2 (fun x hx => hb x (List.mem_cons_of_mem _ hx)), app_size]
      have := (join_ends (t := t) (hb y (by simp))).1
      omega
  unfold jdS behS
  rw [← e]
  generalize l.foldl joinS t = u at hp
  cases slash with
  | false => simp
  | true =>
    simp only [true_and, if_true]
    unfold joinS slsB
    rw [decide_eq_true hp, Bool.true_and, if_neg (show ¬ u.size = 0 by omega), app_nil, app_nil]
    cases h : (bt u (u.size - 1) == 47) <;> simp

def RelJ (t : ByteArray) (l : List ByteArray) (w : World) (sv i : Value) (wr : World) : Prop := ∃ (k : Nat) (u : ByteArray), k ≤ l.length ∧ i = .int .i64 k ∧ sv = .string u ∧ (l.drop k).foldl joinS u = l.foldl joinS t ∧ u.size + totL (l.drop k) ≤ t.size + totL l ∧ 0 < u.size ∧ wr = w

theorem joinS_pos {t y : ByteArray} (h : 0 < t.size) : 0 < (joinS t y).size := by
  unfold joinS
  split
  · omega
  · split <;> (simp only [app_size]; omega)
set_option maxHeartbeats 2000000 in
set_option maxRecDepth 100000 in
theorem joined64 (t : ByteArray) (l : List ByteArray) (slash : Bool) (v : Value) (w : World) (ht0 : 0 < t.size) (ht : t.size ≤ 5000) (hl : totL l ≤ 4900) (hn : l.length ≤ 10001)
    (hv : (l = [] ∧ ∃ a c, v = .slice a 0 c) ∨ ∃ bk o c, v = .slice (some ⟨bk, o, none⟩) l.length c ∧ bk < w.heap.size ∧ l.length ≤ c ∧ ∀ j x, l[j]? = some x → w.cell? ⟨bk, o + j, none⟩ = some (.string x)) :
    Calls Try.prog 64 #[.string t, v, .bool slash] w fun e w' => e = .returned (.string (jdS t l slash)) ∧ w = w' := by
  obtain ⟨a, c, hve⟩ : ∃ a c, v = .slice a l.length c := by
    rcases hv with ⟨rfl, a, c, rfl⟩ | ⟨bk, o, c, rfl, _⟩
    · exact ⟨a, c, rfl⟩
    · exact ⟨_, c, rfl⟩
  have HV := Lib.hid hv
  subst hve
  clear hv
  have R0 : Hid (RelJ t l w (.string t) (.int .i64 0) w) := Lib.hid ⟨0, t, Nat.zero_le _, rfl, rfl, rfl, by rw [List.drop_zero]; omega, ht0, rfl⟩
  obtain ⟨T, hT⟩ : ∃ T, T = jdS t l slash := ⟨_, rfl⟩
  rw [← hT]
  have HT := Lib.hid hT
  have Hl := Lib.hid hl
  have Ht := Lib.hid ht
  clear hT ht0 hl ht
  go_enter Try.func64, Try.ntmps64
  go_wp2
  go_loopw [7, 8] (RelJ t l w) (fun _ i _ => l.length - (intOf i).toNat)
  case atStart => exact R0.out
  case round =>
    clear R0
    obtain ⟨k, u, hk, rfl, rfl, hf, hsz, hu, rfl⟩ := hrel
    have HF := Lib.hid hf
    have HS := Lib.hid hsz
    clear hf hsz
    by_cases hlt : k < l.length
    · obtain ⟨x, hx, _, hdr⟩ := drop_cons hlt
      rcases HV.out with ⟨rfl, _⟩ | ⟨bk, o, c', e0, hbk, hc, hcell⟩
      · simp at hlt
      cases e0
      have hcx := hcell k x hx
      have hxs : x.size + 1 + totL (l.drop (k + 1)) = totL (l.drop k) := by rw [hdr]; rfl
      have hS := HS.out
      have hL := Hl.out
      have hTt := Ht.out
      have CJ := Lib.hid (join23 u x wr (by omega) (by omega))
      have hju := joinS_size u x
      have HF2 : Hid ((l.drop (k + 1)).foldl joinS (joinS u x) = l.foldl joinS t) := Lib.hid (by rw [← HF.out, hdr]; rfl)
      have HS2 : Hid ((joinS u x).size + totL (l.drop (k + 1)) ≤ t.size + totL l) := Lib.hid (by omega)
      have HP := Lib.hid (joinS_pos (y := x) hu)
      clear hcell hdr hx hxs hS hL hTt hju HF HS hu hbk hc
      generalize joinS u x = u2 at CJ HF2 HS2 HP
      go_wp2_with (go_at_call 84; refine CJ.out.mono ?_; rintro e w' ⟨rfl, rfl⟩)
      go_roundw
      case rel => exact ⟨k + 1, u2, hlt, by go_num, rfl, HF2.out, HS2.out, HP.out, rfl⟩
      case measure => simp [intOf]; omega
    · obtain rfl : k = l.length := by omega
      have hu2 : u = l.foldl joinS t := by have := HF.out; rwa [List.drop_length] at this
      have hT' : T = if slash = true ∧ slsB u = false then u ++ ⟨#[47]⟩ else u := by rw [HT.out, hu2]; rfl
      have hus : u.size ≤ 9900 := by have := HS.out; have h1 := Hl.out; have h2 := Ht.out; omega
      have hb := get_bt u
      have hsl : slsB u = (bt u (u.size - 1) == 47) := by unfold slsB; rw [decide_eq_true hu, Bool.true_and]
      have hlt1 : u.size - 1 < u.size := by omega
      clear HF HS hu2
      cases slash with
      | false =>
        have hT2 : T = u := by rw [hT']; simp
        have HT2 := Lib.hid hT2
        clear hT' hT2 hsl
        go_wp2
        go_ret
        exact ⟨by rw [HT2.out]; rfl, rfl⟩
      | true =>
        cases h47 : (bt u (u.size - 1) == 47) with
        | false =>
          have hT2 : T = u ++ ⟨#[47]⟩ := by rw [hT', hsl, h47]; simp
          have HT2 := Lib.hid hT2
          clear hT' hT2 hsl
          go_wp2
          go_ret
          exact ⟨by rw [HT2.out]; rfl, rfl⟩
        | true =>
          have hT2 : T = u := by rw [hT', hsl, h47]; simp
          have HT2 := Lib.hid hT2
          clear hT' hT2 hsl
          go_wp2
          go_ret
          exact ⟨by rw [HT2.out]; rfl, rfl⟩
end Go.Proofs.Ytgdjoojghkdcbaa

/- The document's way, walked. Conditions: the disk is one that the law builds; texts are short. -/
namespace Go.Proofs.Ytgdjoojghkdcbaa
open Go.RowKit Go.PlainAid Pth
set_option linter.unusedSimpArgs false

section
variable {k : Nat} {S : St} {R : List Nr} {ds : List Nat}
theorem getN_live (H : Hd k S R ds) {n : Nr} (hn : n ∈ R) (s : ByteArray) : getN s n.ents = 0 ∨ hasR R (getN s n.ents) = true := by
  unfold getN
  split
  · rename_i h
    obtain ⟨m, hm⟩ := hasN_some h
    rw [hm]
    exact .inr (H.live n hn _ (List.mem_of_getElem? hm))
  · exact .inl rfl
theorem step_facts (H : Hd k S R ds) {a : Int} (hc : closE (vwS S a) = 0) {x : ByteArray} (hx : 0 < x.size) (he : (stepM (vwS S) a x).2 = 0) :
    ((stepM (vwS S) a x).1.node = 0 ∨ hasR R (stepM (vwS S) a x).1.node = true) ∧ (kindV (vwS S (stepM (vwS S) a x).1.node) = 3 → (stepM (vwS S) a x).1.name.size ≠ 0) := by
  rcases H.vw a with ⟨h1, h2⟩ | ⟨i, n, rfl, i1, hn, hk0, hh, hv⟩
  · rw [h2] at hc; cases hc
  have hk : n.kind = 2 := by
    by_cases e : n.kind = 2
    · exact e
    · rw [hv] at hc; simp [closE, e] at hc
  have es : stepM (vwS S) (i : Int) x = (if (x.toList == [46]) = true then (⟨i, 0, ⟨#[]⟩⟩, 0) else if (x.toList == [46, 46]) = true then (⟨Ytgdjoojghkdcbaa.upR R i, 0, ⟨#[]⟩⟩, 0) else if 255 < x.size then (.zero, 18) else (⟨getN x n.ents, i, x⟩, 0)) := by
    unfold stepM
    rw [hv] at hc ⊢
    dsimp only
    rw [if_pos hc]
    simp only [hk, if_true]
  rw [es] at he ⊢
  split at he
  · rename_i e
    rw [if_pos e]
    exact ⟨.inr hh, fun h3 => by rw [hv] at h3; simp [kindV, hk] at h3⟩
  · rename_i e
    rw [if_neg e]
    split at he
    · rename_i e2
      rw [if_pos e2]
      have hu := H.vwUp (i : Int)
      exact ⟨.inr hu.2, fun h3 => by simp only at h3; rw [hu.1] at h3; cases h3⟩
    · rename_i e2
      rw [if_neg e2]
      split at he
      · cases he
      · rename_i e3
        rw [if_neg e3]
        exact ⟨getN_live H (List.mem_of_getElem? hn) x, fun _ => by show x.size ≠ 0; omega⟩
/-- The cells of a node that a way has come to. -/
theorem cells_vw (H : Hd k S R ds) {Z : List Zn} (hZ : nrs Z = R) {id : Int} (hh : hasR R id = true) : ∃ (i : Nat) (z : Zn), id = i ∧ 1 ≤ i ∧ i < Z.length ∧ Z[i]? = some z ∧ kindV (vwS S id) = z.1.kind ∧ (z.1.kind = 3 → dataV (vwS S id) = z.1.data) := by
  rcases H.vw id with ⟨h1, _⟩ | ⟨i, n, rfl, i1, hn, hk0, _, hv⟩
  · rw [hh] at h1; cases h1
  obtain ⟨ev, hev⟩ := zn_get (Z := Z) (by rw [hZ]; exact hn)
  refine ⟨i, (n, ev), rfl, i1, (List.getElem?_eq_some_iff.1 hev).1, hev, by rw [hv]; rfl, fun h3 => ?_⟩
  rw [hv]
  show (if n.kind = 2 then _ else _) = _
  rw [if_neg (by simp only at h3; omega)]
theorem vw_zero (H : Hd k S R ds) : vwS S 0 = none := by simp [vwS, H.get0]
end

/-- A way under way: the frame, and the place so far. -/
structure Wy (P : Nat → Prop) (w : World) (v : Value) (room : Int) (Z : List Zn) (pb : Nat) (p : Pla) (g : Nat) (l : List ByteArray) (wr : World) : Prop where
  f : Pf P w v room Z (.int .i64 0) (.int .i64 0) (.string ⟨#[]⟩) wr
  bk : wr.heap[pb]? = some (.cells p.cells 36 (0, 0))
  gt : w.heap.size + 1 < pb
  lst : ∀ j x, l[j]? = some x → wr.cell? ⟨g, j, none⟩ = some (.string x)
  lg : g < wr.heap.size
  ng : g ≠ pb
  ng1 : g ≠ w.heap.size + 1
section
variable {P : Nat → Prop} {w wr : World} {v : Value} {room : Int} {Z : List Zn} {pb : Nat} {p : Pla} {g : Nat} {l : List ByteArray}
theorem Wy.below {w' : World} (h : Wy P w v room Z pb p g l wr) (hb : Below wr.heap.size wr w') : Wy P w v room Z pb p g l w' :=
  ⟨h.f.below hb, (hb.block _ (lt_of_block h.bk)).trans h.bk, h.gt, fun j x hx => low_cell hb (h.lst j x hx), by have := h.lg; have := hb.size; omega, h.ng, h.ng1⟩
theorem Wy.p0 (h : Wy P w v room Z pb p g l wr) : wr.cell? ⟨pb, 0, none⟩ = some (.int .i64 p.node) := cells_at h.bk rfl
theorem Wy.p1 (h : Wy P w v room Z pb p g l wr) : wr.cell? ⟨pb, 1, none⟩ = some (.int .i64 p.dir) := cells_at h.bk rfl
theorem Wy.p2 (h : Wy P w v room Z pb p g l wr) : wr.cell? ⟨pb, 2, none⟩ = some (.string p.name) := cells_at h.bk rfl
theorem Wy.fp (h : Wy P w v room Z pb p g l wr) (i : Nat) : wr.frozen? ⟨pb, i, none⟩ = false := free_at h.bk
theorem lay3_other {b c : Nat} (h : c ≠ b) (u0 u1 u2 : Value) : (lay3 wr b u0 u1 u2).heap[c]? = wr.heap[c]? := by
  rw [Below.heap_setCell _ _ _ _ h, Below.heap_setCell _ _ _ _ h, Below.heap_setCell _ _ _ _ h]
theorem XAt.lay3 (h : XAt P v Z wr) {b : Nat} {a0 a1 a2 : Value} (hb : wr.heap[b]? = some (.cells #[a0, a1, a2] 36 (0, 0))) (u0 u1 u2 : Value) : XAt P v Z (lay3 wr b u0 u1 u2) :=
  ((h.put31 hb (by decide) (by decide) 0 u0).put31 (blk_setCell (i := 0) hb u0) (by decide) (by decide) 1 u1).put31 (blk_setCell (i := 1) (blk_setCell (i := 0) hb u0) u1) (by decide) (by decide) 2 u2
/-- The place is another one. -/
theorem Wy.go (h : Wy P w v room Z pb p g l wr) (q : Pla) : Wy P w v room Z pb q g l (lay3 wr pb (.int .i64 q.node) (.int .i64 q.dir) (.string q.name)) := by
  have hgt := h.gt
  refine ⟨⟨?_, (lay3_other (by omega) _ _ _).trans h.f.b0, (lay3_other (by omega) _ _ _).trans h.f.b1, h.f.x.lay3 h.bk _ _ _⟩, blk_setCell (i := 2) (blk_setCell (i := 1) (blk_setCell (i := 0) h.bk _) _) _, h.gt, fun j x hx => ?_, ?_, h.ng, h.ng1⟩
  · exact ((h.f.bel.setCell (p := ⟨pb, 0, none⟩) (by show w.heap.size ≤ pb; omega) _).setCell (p := ⟨pb, 1, none⟩) (by show w.heap.size ≤ pb; omega) _).setCell (p := ⟨pb, 2, none⟩) (by show w.heap.size ≤ pb; omega) _
  · exact (World.cell?_of_block (lay3_other h.ng _ _ _)).trans (h.lst j x hx)
  · have := h.lg; simp; omega
end
theorem Wy.other {P : Nat → Prop} {w wr : World} {v : Value} {room : Int} {Z : List Zn} {pb : Nat} {p : Pla} {g : Nat} {l : List ByteArray} (h : Wy P w v room Z pb p g l wr) {b : Nat} {a0 a1 a2 : Value} (hb : wr.heap[b]? = some (.cells #[a0, a1, a2] 36 (0, 0))) (hlt : pb < b) (hg : g ≠ b) (u0 u1 u2 : Value) : Wy P w v room Z pb p g l (lay3 wr b u0 u1 u2) := by
  have hgt := h.gt
  refine ⟨⟨?_, (lay3_other (by omega) _ _ _).trans h.f.b0, (lay3_other (by omega) _ _ _).trans h.f.b1, h.f.x.lay3 hb _ _ _⟩, (lay3_other (by omega) _ _ _).trans h.bk, h.gt, fun j x hx => ?_, ?_, h.ng, h.ng1⟩
  · exact ((h.f.bel.setCell (p := ⟨b, 0, none⟩) (by show w.heap.size ≤ b; omega) _).setCell (p := ⟨b, 1, none⟩) (by show w.heap.size ≤ b; omega) _).setCell (p := ⟨b, 2, none⟩) (by show w.heap.size ≤ b; omega) _
  · exact (World.cell?_of_block (lay3_other hg _ _ _)).trans (h.lst j x hx)
  · have := h.lg; simp; omega
theorem Wy.finc {P : Nat → Prop} {w wr : World} {room : Int} {Z : List Zn} {pb gz nz cz : Nat} {p : Pla} {g : Nat} {l : List ByteArray} (h : Wy P w (.slice (some ⟨gz, 0, none⟩) nz cz) room Z pb p g l wr) {j : Nat} {z : Zn} (hz : Z[j]? = some z) (t0 t1 t2 : Value) :
    (lay3 wr (w.heap.size + 1) t0 t1 t2).cell? ⟨w.heap.size, 0, none⟩ = some (.slice (some ⟨gz, 0, none⟩) nz cz) ∧ (lay3 wr (w.heap.size + 1) t0 t1 t2).cell? ⟨w.heap.size, 1, none⟩ = some (.int .i64 room) ∧ (lay3 wr (w.heap.size + 1) t0 t1 t2).cell? ⟨pb, 0, none⟩ = some (.int .i64 p.node) ∧ (lay3 wr (w.heap.size + 1) t0 t1 t2).cell? ⟨gz, j * 5 + 3, none⟩ = some (.string z.1.data) := by
  have hgt := h.gt
  refine ⟨(World.cell?_of_block (lay3_other (by show w.heap.size ≠ _; omega) _ _ _)).trans h.f.c00, (World.cell?_of_block (lay3_other (by show w.heap.size ≠ _; omega) _ _ _)).trans h.f.c01, (World.cell?_of_block (lay3_other (by show pb ≠ _; omega) _ _ _)).trans h.p0, ?_⟩
  exact ((h.f.x.lay3 h.f.b1 t0 t1 t2).at hz).c3
/-- Behind a part: where it is told, and the way as it was. -/
def RelQ (P : Nat → Prop) (w : World) (v : Value) (room : Int) (Z : List Zn) (pb : Nat) (p : Pla) (g : Nat) (l : List ByteArray) (qn qd : Int) (qm : ByteArray) (qe : Int) (u20 u21 : Value) (wx : World) : Prop :=
  ∃ qb, u20 = .pointer (some ⟨qb, 0, none⟩) ∧ u21 = .int .i64 qe ∧ wx.heap[qb]? = some (.cells #[.int .i64 qn, .int .i64 qd, .string qm] 36 (0, 0)) ∧ pb < qb ∧ Wy P w v room Z pb p g l wx
theorem relQ_a {P : Nat → Prop} {w w4 : World} {v : Value} {room : Int} {Z : List Zn} {pb : Nat} {p : Pla} {g : Nat} {l : List ByteArray} (h : Wy P w v room Z pb p g l w4) (qn qd : Int) (qm : ByteArray) (qe : Int) :
    RelQ P w v room Z pb p g l qn qd qm qe (.pointer (some ⟨w4.heap.size, 0, none⟩)) (.int .i64 qe) (w4.alloc (.cells #[.int .i64 qn, .int .i64 qd, .string qm] 36)) :=
  ⟨_, rfl, rfl, heap_alloc_new w4 _, lt_of_block h.bk, h.below ((Below.refl w4.heap.size w4).alloc (Nat.le_refl _) _)⟩
theorem relQ_b {P : Nat → Prop} {w w4 : World} {v : Value} {room : Int} {Z : List Zn} {pb b : Nat} {p : Pla} {g : Nat} {l : List ByteArray} {a0 a1 a2 : Value} (h : Wy P w v room Z pb p g l w4) (hb : w4.heap[b]? = some (.cells #[a0, a1, a2] 36 (0, 0))) (hlt : pb < b) (hg : g ≠ b) (qn qd : Int) (qm : ByteArray) (qe : Int) :
    RelQ P w v room Z pb p g l qn qd qm qe (.pointer (some ⟨b, 0, none⟩)) (.int .i64 qe) (lay3 w4 b (.int .i64 qn) (.int .i64 qd) (.string qm)) :=
  ⟨_, rfl, rfl, blk_setCell (i := 2) (blk_setCell (i := 1) (blk_setCell (i := 0) hb _) _) _, hlt, h.other hb hlt hg _ _ _⟩
def RelWy (P : Nat → Prop) (V : Int → Option Vw) (R : List Nr) (follow slash : Bool) (f links : Nat) (w : World) (v : Value) (room : Int) (Z : List Zn) (pb g : Nat) (l : List ByteArray) (T : Pla × Int) (lv iv : Value) (wr : World) : Prop :=
  ∃ (i n : Nat) (p : Pla), i ≤ l.length ∧ iv = .int .i64 i ∧ lv = .int .i64 n ∧ links ≤ n ∧ n ≤ 40 ∧ Wy P w v room Z pb p g l wr ∧ (i = 0 ∨ p.node = 0 ∨ hasR R p.node = true) ∧ loopM V (wayM V follow f) follow slash n p.node (l.drop i) p = T
end Go.Proofs.Ytgdjoojghkdcbaa

/- The document's way, walked. Conditions: the disk is one that the law builds; texts are short. -/
namespace Go.Proofs.Ytgdjoojghkdcbaa
open Go.RowKit Go.PlainAid Pth
set_option linter.unusedSimpArgs false

theorem abs_is {s : ByteArray} (h : 0 < s.size) : absB s = (bt s 0 == 47) := by unfold absB; rw [decide_eq_true h, Bool.true_and]
theorem sls_is {s : ByteArray} (h : 0 < s.size) : slsB s = (bt s (s.size - 1) == 47) := by unfold slsB; rw [decide_eq_true h, Bool.true_and]
theorem wrong_size {s : ByteArray} (h : wrongE s = 0) : 0 < s.size ∧ s.size ≤ 4095 := by
  unfold wrongE at h
  split at h
  · cases h
  split at h
  · cases h
  omega

theorem dot_way (V : Int → Option Vw) (k : Nat → Int → ByteArray → Pla × Int) (follow slash : Bool) (links : Nat) (a : Int) (p : Pla) : loopM V k follow slash links a [⟨#[46]⟩] p = if closE (V a) = 0 then (⟨a, 0, ⟨#[]⟩⟩, 0) else (.zero, closE (V a)) := by
  by_cases hc : closE (V a) = 0
  · rw [if_pos hc]
    cases hv : V a with
    | none => rw [hv] at hc; cases hc
    | some x =>
      rw [hv] at hc
      have hk : x.kind = 2 := by
        by_cases e : x.kind = 2
        · exact e
        · simp [closE, e] at hc
      have hkv : kindV (V a) = 2 := by rw [hv]; exact hk
      simp only [loopM, step_dot hv hc, hkv]
      simp
  · rw [if_neg hc]
    have : stepM V a ⟨#[46]⟩ = (.zero, closE (V a)) := by
      unfold stepM
      cases hv : V a with
      | none => rfl
      | some x => rw [hv] at hc; dsimp only; rw [if_neg hc]
    simp only [loopM, this, ne_eq, hc, not_false_eq_true, if_true]

theorem step_closed {V : Int → Option Vw} {a : Int} (hc : closE (V a) ≠ 0) (x : ByteArray) : stepM V a x = (.zero, closE (V a)) := by
  unfold stepM
  cases hv : V a with
  | none => rfl
  | some y => rw [hv] at hc; dsimp only; rw [if_neg hc]
def gsB (l : List ByteArray) (i : Nat) (slash follow : Bool) : Bool := (decide (i + 1 < l.length) || slash) || follow
theorem loop_cons (V : Int → Option Vw) (k : Nat → Int → ByteArray → Pla × Int) (follow slash : Bool) (n : Nat) (a : Int) (l : List ByteArray) (i : Nat) (x : ByteArray) (p q : Pla) (hdr : l.drop i = x :: l.drop (i + 1)) (hq : stepM V a x = (q, 0)) :
    loopM V k follow slash n a (l.drop i) p = if gsB l i slash follow = true ∧ kindV (V q.node) = 3 then (if 40 < n + 1 then (.zero, 17) else if (dataV (V q.node)).size ≠ 0 then k (n + 1) a (behS (dataV (V q.node)) (l.drop (i + 1)) slash) else loopM V k follow slash (n + 1) q.node (l.drop (i + 1)) q) else loopM V k follow slash n q.node (l.drop (i + 1)) q := by
  rw [hdr]
  conv => lhs; unfold loopM
  rw [hq]
  simp only [ne_eq, not_true, if_false]
  have e : ((0 < (l.drop (i + 1)).length ∨ slash = true) ∨ follow = true) ↔ gsB l i slash follow = true := by
    unfold gsB
    simp only [Bool.or_eq_true, decide_eq_true_eq, List.length_drop]
    constructor
    · rintro ((h | h) | h)
      · exact .inl (.inl (by omega))
      · exact .inl (.inr h)
      · exact .inr h
    · rintro ((h | h) | h)
      · exact .inl (.inl (by omega))
      · exact .inl (.inr h)
      · exact .inr h
  simp only [e]

set_option maxHeartbeats 8000000 in
set_option maxRecDepth 100000 in
theorem way33 {kk : Nat} {S : St} {ds : List Nat} (P : Nat → Prop) (v : Value) (room : Int) (Z : List Zn) (H : Hd kk S (nrs Z) ds) (follow : Bool) : ∀ (f links : Nat) (a : Int) (s : ByteArray) (w : World), links ≤ 40 → 41 ≤ links + f → XAt P v Z w → s.size ≤ 10000 →
    Calls Try.prog 33 #[xv v room, .int .i64 a, .string s, .bool follow, .int .i64 links] w (GivesP w (wayM (vwS S) follow f links a s)) := by
  intro f
  induction f with
  | zero => intro links a s w h1 h2; omega
  | succ f ih =>
  intro links a s w hl40 hfu X hs
  have HIH := Lib.hid ih
  have HH := Lib.hid H
  have hz2 := H.sim.two
  rw [nrs_len] at hz2
  have hz2' := Lib.hid hz2
  obtain ⟨g, c, rfl⟩ := X.shape (by omega)
  have HF := Lib.hid (Pf.start X room)
  obtain ⟨T, hT⟩ : ∃ T, wayM (vwS S) follow (f + 1) links a s = T := ⟨_, rfl⟩
  rw [hT]
  unfold wayM at hT
  clear ih X H hz2
  by_cases hw : wrongE s = 0
  rotate_left
  · rw [if_pos hw] at hT
    subst hT
    have hw' : (wrongE s != 0) = true := by simpa using hw
    have C := Lib.hid (fun w' => look60 s w' (by unfold maxLen; omega))
    generalize wrongE s = r at C hw' ⊢
    clear hw
    go_enter Try.func33, Try.ntmps33
    go_upto_region 1 with fail
    generalize ((w.alloc (.cells #[.slice (some ⟨g, 0, none⟩) Z.length c, .int .i64 room] 28)).alloc (.cells #[.int .i64 0, .int .i64 0, .string ⟨#[]⟩] 36)) = wz at HF ⊢
    have C1 := Lib.hid (C.out wz)
    have p0 := HF.out.c10
    have p1 := HF.out.c11
    have p2 := HF.out.c12
    have f0 := HF.out.fr 0
    have f1 := HF.out.fr 1
    have f2 := HF.out.fr 2
    have HE := Lib.hid (HF.out.fin (.int .i64 0) (.int .i64 0) (.string ⟨#[]⟩))
    go_wp2_with (go_at_call 60; refine C1.out.mono ?_; rintro e w' ⟨rfl, rfl⟩)
    exact bodyPost_ret_by (results_c1 Try.info36 Try.agg36 rfl _ _ _ _ rfl HE.out.2 rfl) rfl ⟨rfl, HE.out.1⟩
  rw [if_neg (by simp [hw])] at hT
  obtain ⟨hs0, hs1⟩ := wrong_size hw
  have CW := fun w' => look60 s w' (by unfold maxLen; omega)
  rw [hw] at CW
  have HCW := Lib.hid CW
  have ha := abs_is hs0
  have hsl := (sls_is hs0).symm
  have hb := get_bt s
  have hlt1 : s.size - 1 < s.size := by omega
  have CP := Lib.hid (fun w' => parts17 s w' (by omega))
  have hbare := parts_bare s
  have htot := tot_parts s
  have hlen : (partsL s).length ≤ s.size + 1 := Nat.le_trans (List.length_filter_le _ _) (pcsF_len s _ _)
  have hgo : goL s = if (partsL s).length = 0 then [⟨#[46]⟩] else partsL s := rfl
  rw [hgo] at hT
  generalize partsL s = l at CP hbare htot hlen hT
  
  clear hgo hw CW
  obtain ⟨a1, ha1⟩ : ∃ a1 : Int, a1 = if absB s = true then 1 else a := ⟨_, rfl⟩
  rw [← ha1] at hT
  generalize slsB s = slash at hsl hT
  have HT := Lib.hid hT
  have Ha1 := Lib.hid ha1
  have Hbare := Lib.hid hbare
  have Htot := Lib.hid htot
  have Hlen := Lib.hid hlen
  clear hT ha1 hbare htot hlen
  go_enter Try.func33, Try.ntmps33
  go_upto_region 1 with fail
  generalize ((w.alloc (.cells #[.slice (some ⟨g, 0, none⟩) Z.length c, .int .i64 room] 28)).alloc (.cells #[.int .i64 0, .int .i64 0, .string ⟨#[]⟩] 36)) = wz at HF ⊢
  have C1 := Lib.hid (HCW.out wz)
  go_upto_if 31 with (go_at_call 60; refine C1.out.mono ?_; rintro e w' ⟨rfl, rfl⟩)
  go_cut [1] (fun u1 wx => u1 = .int .i64 a1 ∧ wx = wz)
  case first =>
    cases h47 : (bt s 0 == 47) with
    | true =>
      have hA : a1 = 1 := by rw [Ha1.out, ha, h47]; rfl
      have HA := Lib.hid hA
      clear hA
      go_wp2
      go_meet
      case rel => exact ⟨by rw [HA.out], rfl⟩
    | false =>
      have hA : a1 = a := by rw [Ha1.out, ha, h47]; rfl
      have HA := Lib.hid hA
      clear hA
      go_wp2
      go_meet
      case rel => exact ⟨by rw [HA.out], rfl⟩
  case rest =>
    obtain ⟨rfl, rfl⟩ := hcut
    clear C1 HCW ha Ha1
    have C1 := Lib.hid (CP.out wc)
    go_wp2_with fail
    refine C1.out.mono ?_
    rintro e w1 ⟨vl, rfl, hown, b1⟩
    have F1 := HF.out.below b1
    have HF1 := Lib.hid F1
    have p0 := F1.c10
    have p1 := F1.c11
    have p2 := F1.c12
    have f0 := F1.fr 0
    have f1 := F1.fr 1
    have f2 := F1.fr 2
    have q0 := F1.c00
    have q1 := F1.c01
    by_cases hl0 : l.length = 0
    · obtain ⟨al, cl, rfl⟩ := list_len hown.list
      have hT := HT.out
      rw [if_pos hl0, dot_way] at hT
      have CI := into62 P _ room Z w1 F1.x HH.out a1
      clear HT hown b1 F1 C1 CP HF
      by_cases hc : closE (vwS S a1) = 0
      · rw [if_pos hc] at hT
        rw [hc] at CI
        subst hT
        have HC := Lib.hid CI
        clear CI hc
        go_wp2_with fail
        refine HC.out.mono ?_
        rintro e w2 ⟨rfl, b2⟩
        have F2 := HF1.out.below b2
        have p0 := F2.c10
        have p1 := F2.c11
        have p2 := F2.c12
        have f0 := F2.fr 0
        have f1 := F2.fr 1
        have f2 := F2.fr 2
        have HE := Lib.hid (F2.fin (.int .i64 a1) (.int .i64 0) (.string ⟨#[]⟩))
        clear F2 b2
        go_wp2
        exact bodyPost_ret_by (results_c1 Try.info36 Try.agg36 rfl _ _ _ _ rfl HE.out.2 rfl) rfl ⟨rfl, HE.out.1⟩
      · rw [if_neg hc] at hT
        subst hT
        have hc' : (closE (vwS S a1) != 0) = true := by simpa using hc
        have HC := Lib.hid CI
        clear CI hc
        go_wp2_with fail
        refine HC.out.mono ?_
        rintro e w2 ⟨rfl, b2⟩
        have F2 := HF1.out.below b2
        have p0 := F2.c10
        have p1 := F2.c11
        have p2 := F2.c12
        have f0 := F2.fr 0
        have f1 := F2.fr 1
        have f2 := F2.fr 2
        have HE := Lib.hid (F2.fin (.int .i64 0) (.int .i64 0) (.string ⟨#[]⟩))
        clear F2 b2
        go_wp2
        exact bodyPost_ret_by (results_c1 Try.info36 Try.agg36 rfl _ _ _ _ rfl HE.out.2 rfl) rfl ⟨rfl, HE.out.1⟩
    have hne : l ≠ [] := by rintro rfl; exact hl0 rfl
    obtain ⟨gl, cap, rfl, hcap, hgl, hcell⟩ := hown.list.some hne
    have hgb := (World.ownsRow.lt hown gl rfl).1
    have hT := HT.out
    rw [if_neg hl0] at hT
    have hlw := lt_of_block HF.out.b1
    have A2 := (Below.refl w1.heap.size w1).alloc (Nat.le_refl _) (.cells #[.int .i64 a1, .int .i64 0, .string ⟨#[]⟩] 36)
    have R0 : Hid (RelWy P (vwS S) (nrs Z) follow slash f links w (.slice (some ⟨g, 0, none⟩) Z.length c) room Z w1.heap.size gl l T (.int .i64 links) (.int .i64 0) (w1.alloc (.cells #[.int .i64 a1, .int .i64 0, .string ⟨#[]⟩] 36))) := by
      refine Lib.hid ⟨0, links, ⟨a1, 0, ⟨#[]⟩⟩, Nat.zero_le _, rfl, rfl, Nat.le_refl _, hl40, ⟨F1.below A2, heap_alloc_new w1 _, by have := b1.size; omega, fun j x hx => low_cell A2 (hcell j x hx), by simp; omega, by omega, by omega⟩, .inl rfl, ?_⟩
      rw [List.drop_zero, ← hT]
      cases l with
      | nil => exact absurd rfl hne
      | cons y r => rfl
    have Hcap := Lib.hid hcap
    clear hT hown hcell hgb hgl hlw A2 F1 b1 C1 CP HF HT hcap hne
    have hl0' : (l.length == 0) = false := by simpa using hl0
    have hl0'' : ((l.length : Int) == 0) = false := by rw [beq_eq_false_iff_ne]; omega
    go_wp2
    go_loopw [4, 17] (RelWy P (vwS S) (nrs Z) follow slash f links w (.slice (some ⟨g, 0, none⟩) Z.length c) room Z w1.heap.size gl l T) (fun _ i _ => l.length - (intOf i).toNat)
    case atStart => exact R0.out
    case round =>
      clear R0
      obtain ⟨i, n, p, hi, rfl, rfl, hn1, hn2, hWy, hnode, hTT⟩ := hrel
      have hlenb : l.length ≤ 4097 := by have := Hlen.out; omega
      have HW := Lib.hid hWy
      have HN := Lib.hid hnode
      have HTT := Lib.hid hTT
      clear hWy hnode hTT
      have q0 := HW.out.f.c00
      have q1 := HW.out.f.c01
      have p0 := HW.out.f.c10
      have p1 := HW.out.f.c11
      have p2 := HW.out.f.c12
      have f0 := HW.out.f.fr 0
      have f1 := HW.out.f.fr 1
      have f2 := HW.out.f.fr 2
      have y0 := HW.out.p0
      have y1 := HW.out.p1
      have y2 := HW.out.p2
      by_cases hlt : i < l.length
      rotate_left
      · obtain rfl : i = l.length := by omega
        have hT := HTT.out
        rw [List.drop_length] at hT
        simp only [loopM] at hT
        have hnd : p.node = 0 ∨ hasR (nrs Z) p.node = true := by
          rcases HN.out with h | h
          · exact absurd h hl0
          · exact h
        cases slash with
        | false =>
          rw [if_neg (by simp)] at hT
          subst hT
          have HE := Lib.hid (HW.out.f.fin (.int .i64 p.node) (.int .i64 p.dir) (.string p.name))
          clear HTT hnd HN
          go_wp2
          exact bodyPost_ret_by (results_c1 Try.info36 Try.agg36 rfl _ _ _ _ rfl HE.out.2 rfl) rfl ⟨rfl, HE.out.1⟩
        | true =>
          by_cases hp0 : p.node = 0
          · rw [if_neg (by simp [hp0])] at hT
            subst hT
            have hp0' : (p.node != 0) = false := by simpa using hp0
            have HE := Lib.hid (HW.out.f.fin (.int .i64 p.node) (.int .i64 p.dir) (.string p.name))
            clear HTT hnd HN hp0
            go_wp2
            exact bodyPost_ret_by (results_c1 Try.info36 Try.agg36 rfl _ _ _ _ rfl HE.out.2 rfl) rfl ⟨rfl, HE.out.1⟩
          · have hh := hnd.resolve_left hp0
            obtain ⟨j, z, hj, j1, jl, hz, hkz, _⟩ := cells_vw HH.out rfl hh
            have ck := (HW.out.f.x.at hz).c0
            have hp0' : (p.node != 0) = true := by simpa using hp0
            have hj0 : (0 : Int) ≤ p.node := by omega
            have hj1 : p.node < (Z.length : Int) := by omega
            have hjn : p.node.toNat = j := by omega
            rw [hkz] at hT
            clear hnd HN hh hz hkz HTT hj
            by_cases hk2 : z.1.kind = 2
            · rw [if_neg (by simp [hk2])] at hT
              subst hT
              have hk2' : (z.1.kind != 2) = false := by simpa using hk2
              have HE := Lib.hid (HW.out.f.fin (.int .i64 p.node) (.int .i64 p.dir) (.string p.name))
              clear hk2 hp0
              go_wp2
              exact bodyPost_ret_by (results_c1 Try.info36 Try.agg36 rfl _ _ _ _ rfl HE.out.2 rfl) rfl ⟨rfl, HE.out.1⟩
            · rw [if_pos ⟨⟨rfl, hp0⟩, hk2⟩] at hT
              subst hT
              have hk2' : (z.1.kind != 2) = true := by simpa using hk2
              have HE := Lib.hid (HW.out.f.fin (.int .i64 0) (.int .i64 0) (.string ⟨#[]⟩))
              clear hk2 hp0
              go_wp2
              exact bodyPost_ret_by (results_c1 Try.info36 Try.agg36 rfl _ _ _ _ rfl HE.out.2 rfl) rfl ⟨rfl, HE.out.1⟩
      obtain ⟨x, hx, hxm, hdr⟩ := drop_cons hlt
      have hxb := Hbare.out x hxm
      have hcx := HW.out.lst i x hx
      have hxs : x.size ≤ 4096 := by have h1 := tot_drop i l; rw [hdr] at h1; have h2 := Htot.out; simp only [totL] at h1; omega
      have HDR := Lib.hid hdr
      have HXB := Lib.hid hxb
      clear hx hxm hdr hxb
      by_cases hc : closE (vwS S p.node) = 0
      rotate_left
      · have hT := HTT.out
        rw [HDR.out] at hT
        simp only [loopM, step_closed hc, ne_eq, hc, not_false_eq_true, if_true] at hT
        have HE := Lib.hid (HW.out.f.fin (.int .i64 0) (.int .i64 0) (.string ⟨#[]⟩))
        by_cases hd : 0 < i ∧ p.node = 0
        · have e12 : closE (vwS S p.node) = 12 := by rw [hd.2, vw_zero HH.out]; rfl
          rw [e12] at hT
          subst hT
          have g1 : decide (0 < i) = true := decide_eq_true (by omega)
          have g2 : (p.node == 0) = true := by simpa using hd.2
          clear hc e12 hd HTT HN
          go_wp2
          exact bodyPost_ret_by (results_c1 Try.info36 Try.agg36 rfl _ _ _ _ rfl HE.out.2 rfl) rfl ⟨rfl, HE.out.1⟩
        · have CI := into62 P _ room Z wr HW.out.f.x HH.out p.node
          have hc' : (closE (vwS S p.node) != 0) = true := by simpa using hc
          subst hT
          have HC := Lib.hid CI
          clear CI HTT HN
          by_cases hi0 : 0 < i
          · have g1 : decide (0 < i) = true := decide_eq_true (by omega)
            have g2 : (p.node == 0) = false := by simpa using fun e => hd ⟨hi0, e⟩
            clear hd hc HE
            go_wp2_with fail
            refine HC.out.mono ?_
            rintro e w2 ⟨rfl, b2⟩
            have F2 := HW.out.f.below b2
            have p0 := F2.c10
            have p1 := F2.c11
            have p2 := F2.c12
            have f0 := F2.fr 0
            have f1 := F2.fr 1
            have f2 := F2.fr 2
            have HE := Lib.hid (F2.fin (.int .i64 0) (.int .i64 0) (.string ⟨#[]⟩))
            clear F2 b2
            go_wp2
            exact bodyPost_ret_by (results_c1 Try.info36 Try.agg36 rfl _ _ _ _ rfl HE.out.2 rfl) rfl ⟨rfl, HE.out.1⟩
          · have g1 : decide (0 < i) = false := decide_eq_false (by omega)
            clear hd hc HE
            go_wp2_with fail
            refine HC.out.mono ?_
            rintro e w2 ⟨rfl, b2⟩
            have F2 := HW.out.f.below b2
            have p0 := F2.c10
            have p1 := F2.c11
            have p2 := F2.c12
            have f0 := F2.fr 0
            have f1 := F2.fr 1
            have f2 := F2.fr 2
            have HE := Lib.hid (F2.fin (.int .i64 0) (.int .i64 0) (.string ⟨#[]⟩))
            clear F2 b2
            go_wp2
            exact bodyPost_ret_by (results_c1 Try.info36 Try.agg36 rfl _ _ _ _ rfl HE.out.2 rfl) rfl ⟨rfl, HE.out.1⟩
      have hpn : p.node ≠ 0 := by intro e; rw [e, vw_zero HH.out] at hc; cases hc
      have g2 : (p.node == 0) = false := by simpa using hpn
      have CI := into62 P _ room Z wr HW.out.f.x HH.out p.node
      rw [hc] at CI
      have HC := Lib.hid CI
      have Hc := Lib.hid hc
      clear CI hc hpn HN
      obtain ⟨⟨q, qe⟩, hq⟩ : ∃ t : Pla × Int, stepM (vwS S) p.node x = t := ⟨_, rfl⟩
      have Hq := Lib.hid hq
      clear hq
      go_upto_region 17 with fail
      go_cut [66] (fun u66 wx => u66 = .bool false ∧ wx = wr)
      case first =>
        by_cases hi0 : 0 < i
        · have g1 : decide (0 < i) = true := decide_eq_true (by omega)
          go_wp2
          go_meet
          case rel => exact ⟨rfl, rfl⟩
        · have g1 : decide (0 < i) = false := decide_eq_false (by omega)
          go_wp2
          go_meet
          case rel => exact ⟨rfl, rfl⟩
      case rest =>
        obtain ⟨rfl, rfl⟩ := hcut
        go_wp2_with fail
        refine HC.out.mono ?_
        rintro e w2 ⟨rfl, b2⟩
        have W2 := HW.out.below b2
        have HW2 := Lib.hid W2
        have W3 := W2.below ((Below.refl _ w2).drew)
        have C3 := part63 P _ room Z w2.drew W3.f.x HH.out p.node Hc.out x (by unfold maxLen; omega)
        rw [Hq.out] at C3
        have HW3 := Lib.hid W3
        have HC3 := Lib.hid C3
        have z0 := W2.f.c00
        have z1 := W2.f.c01
        have zx : w2.cell? ⟨gl, i, none⟩ = some (.string x) := low_cell b2 hcx
        clear W2 W3 C3 b2 HW HC p0 p1 p2 f0 f1 f2 y0 y1 y2 q0 q1 hcx
        obtain ⟨qn, qd, qm⟩ := q
        have a0 : w2.drew.cell? ⟨w.heap.size, 0, none⟩ = some (.slice (some ⟨g, 0, none⟩) Z.length c) := z0
        have a1 : w2.drew.cell? ⟨w.heap.size, 1, none⟩ = some (.int .i64 room) := z1
        have ax : w2.drew.cell? ⟨gl, i, none⟩ = some (.string x) := zx
        have HCB := Lib.hid (fun w' (b' : Below w2.heap.size w2 w') => (part63 P _ room Z w' (HW2.out.below b').f.x HH.out p.node Hc.out x (by unfold maxLen; omega)))
        rw [Hq.out] at HCB
        have hsd : w2.drew.heap.size = w2.heap.size := rfl
        have BD := ((Below.refl w2.heap.size w2).drew)
        have BA := BD.alloc (Nat.le_refl _) (.cells #[.int .i64 0, .int .i64 0, .string ⟨#[]⟩] 36)
        have HCA := Lib.hid (HCB.out w2.drew BD)
        have HCC := Lib.hid (HCB.out (w2.drew.alloc (.cells #[.int .i64 0, .int .i64 0, .string ⟨#[]⟩] 36)) BA)
        have NA : Hid ((w2.drew.alloc (.cells #[.int .i64 0, .int .i64 0, .string ⟨#[]⟩] 36)).heap[w2.heap.size]? = some (.cells #[.int .i64 0, .int .i64 0, .string ⟨#[]⟩] 36 (0, 0))) := Lib.hid (heap_alloc_new w2.drew (.cells #[.int .i64 0, .int .i64 0, .string ⟨#[]⟩] 36))
        have HBA := Lib.hid BA
        have WA := HW2.out.below BA
        have ea0 : (w2.drew.alloc (.cells #[.int .i64 0, .int .i64 0, .string ⟨#[]⟩] 36)).cell? ⟨w.heap.size, 0, none⟩ = some (.slice (some ⟨g, 0, none⟩) Z.length c) := WA.f.c00
        have ea1 : (w2.drew.alloc (.cells #[.int .i64 0, .int .i64 0, .string ⟨#[]⟩] 36)).cell? ⟨w.heap.size, 1, none⟩ = some (.int .i64 room) := WA.f.c01
        have eax : (w2.drew.alloc (.cells #[.int .i64 0, .int .i64 0, .string ⟨#[]⟩] 36)).cell? ⟨gl, i, none⟩ = some (.string x) := low_cell BA zx
        have hg2 : gl < w2.heap.size := HW2.out.lg
        have hb2 : w.heap.size < w2.heap.size := lt_of_block HW2.out.f.b0
        have hg3 : ¬ gl = w2.heap.size := by omega
        have hpb2 : w1.heap.size < w2.heap.size := lt_of_block HW2.out.bk
        have hb3 : ¬ w.heap.size = w2.heap.size := by omega
        clear WA HC3 HW3 HCB BD BA hsd
        go_upto_region 23 with fail
        go_cut [20, 21] (RelQ P w (.slice (some ⟨g, 0, none⟩) Z.length c) room Z w1.heap.size p gl l qn qd qm qe)
        case first =>
          go_region_with (first
            | (go_at_call 63; refine HCA.out.mono ?_; rintro e w4 ⟨rfl, b4⟩; have W4 := HW2.out.below (((Below.refl w2.heap.size w2).drew).trans (b4.mono (Nat.le_refl _))); have b0' := W4.f.c00; have b1' := W4.f.c01; have bx' := low_cell b4 ax; have HR := Lib.hid (relQ_a W4 qn qd qm qe); clear W4)
            | (go_at_call 63; refine HCC.out.mono ?_; rintro e w4 ⟨rfl, b4⟩; have W4 := HW2.out.below (HBA.out.trans (b4.mono HBA.out.size)); have b0' := W4.f.c00; have b1' := W4.f.c01; have N4 := (b4.block _ (lt_of_block NA.out)).trans NA.out; have n0 := cells_at N4 (i := 0) rfl; have n1 := cells_at N4 (i := 1) rfl; have n2 := cells_at N4 (i := 2) rfl; have m0 := free_at N4 (i := 0); have m1 := free_at N4 (i := 1); have m2 := free_at N4 (i := 2); have HR := Lib.hid (relQ_b W4 N4 hpb2 hg3 qn qd qm qe); clear W4 N4))
          all_goals (go_wp2_with fail; go_meet; exact HR.out)
        case rest =>
          clear HCA HCC NA HBA ea0 ea1 eax a0 a1 ax z0 z1 zx hg2 hb2 hg3 hb3 hpb2 HW2
          obtain ⟨qb, rfl, rfl, NQ, hqb, W5⟩ := hcut
          have HW5 := Lib.hid W5
          have HNQ := Lib.hid NQ
          have p0 := W5.f.c10
          have p1 := W5.f.c11
          have p2 := W5.f.c12
          have f0 := W5.f.fr 0
          have f1 := W5.f.fr 1
          have f2 := W5.f.fr 2
          have y0 := W5.p0
          have y1 := W5.p1
          have y2 := W5.p2
          have fy0 := W5.fp 0
          have fy1 := W5.fp 1
          have fy2 := W5.fp 2
          have r0 := cells_at NQ (i := 0) rfl
          have r1 := cells_at NQ (i := 1) rfl
          have r2 := cells_at NQ (i := 2) rfl
          clear W5 NQ
          by_cases hqe : qe = 0
          rotate_left
          · have hT := HTT.out
            rw [HDR.out] at hT
            simp only [loopM, Hq.out, ne_eq, hqe, not_false_eq_true, if_true] at hT
            subst hT
            have hqe' : (qe != 0) = true := by simpa using hqe
            have HE := Lib.hid (HW5.out.f.fin (.int .i64 0) (.int .i64 0) (.string ⟨#[]⟩))
            clear hqe HTT
            go_wp2
            exact bodyPost_ret_by (results_c1 Try.info36 Try.agg36 rfl _ _ _ _ rfl HE.out.2 rfl) rfl ⟨rfl, HE.out.1⟩
          subst hqe
          have hT := HTT.out
          rw [loop_cons _ _ _ _ _ _ _ _ _ _ _ HDR.out Hq.out] at hT
          obtain ⟨gs, hgsE⟩ : ∃ gs : Bool, gsB l i slash follow = gs := ⟨_, rfl⟩
          rw [hgsE] at hT
          have HgsE := Lib.hid hgsE
          clear hgsE
          have hSF := step_facts HH.out Hc.out HXB.out.1 (by rw [Hq.out])
          rw [Hq.out] at hSF
          have HSF : Hid ((qn = 0 ∨ hasR (nrs Z) qn = true) ∧ (kindV (vwS S qn) = 3 → qm.size ≠ 0)) := Lib.hid hSF
          have HT2 := Lib.hid hT
          have HW6 := Lib.hid (HW5.out.go ⟨qn, qd, qm⟩)
          clear hT hSF HTT
          go_upto_region 26 with fail
          go_cut [] (fun wx => Wy P w (.slice (some ⟨g, 0, none⟩) Z.length c) room Z w1.heap.size ⟨qn, qd, qm⟩ gl l wx)
          case first =>
            go_wp2
            go_meet
            case rel => exact HW6.out
          case rest =>
            clear HW6 HW5 HNQ y0 y1 y2 fy0 fy1 fy2 r0 r1 r2 p0 p1 p2 f0 f1 f2
            have HW7 := Lib.hid hcut
            have y0 := hcut.p0
            have y2 := hcut.p2
            have q0 := hcut.f.c00
            have q1 := hcut.f.c01
            have p0 := hcut.f.c10
            have p1 := hcut.f.c11
            have p2 := hcut.f.c12
            have f0 := hcut.f.fr 0
            have f1 := hcut.f.fr 1
            have f2 := hcut.f.fr 2
            clear hcut
            have HG : Hid ((decide ((i : Int) < (l.length : Int) - 1) || slash || follow) = gs) := Lib.hid (by rw [← HgsE.out]; unfold gsB; congr 2; apply decide_eq_decide.2; omega)
            have hw64 : wrap64 ((l.length : Int) - 1) = (l.length : Int) - 1 := by unfold wrap64; have := Hlen.out; omega
            go_upto_region 27 with fail
            go_cut [22] (fun u22 wx => u22 = .bool gs ∧ wx = wc)
            case first =>
              have hG := HG.out
              by_cases hq1 : (i : Int) < (l.length : Int) - 1
              · have d1 : decide ((i : Int) < (l.length : Int) - 1) = true := decide_eq_true hq1
                rw [d1] at hG
                have HG2 := Lib.hid hG
                clear hG HG
                go_wp2
                go_meet
                case rel => exact ⟨by rw [← HG2.out]; simp, rfl⟩
              · have d1 : decide ((i : Int) < (l.length : Int) - 1) = false := decide_eq_false hq1
                rw [d1] at hG
                have HG2 := Lib.hid hG
                clear hG HG
                cases slash <;> cases follow <;> (go_wp2; go_meet; exact ⟨by rw [← HG2.out]; rfl, rfl⟩)
            case rest =>
              obtain ⟨rfl, rfl⟩ := hcut
              clear HG hw64
              have HK0 : Hid (qn = 0 → kindV (vwS S qn) = 0) := Lib.hid (fun e => by rw [e, vw_zero HH.out]; rfl)
              go_upto_region 28 with fail
              go_cut [123] (fun u123 wx => u123 = .bool (gs && decide (kindV (vwS S qn) = 3)) ∧ wx = wc)
              case first =>
                by_cases hq1 : qm.size = 0
                · have e1 := toList_em hq1
                  have HD : Hid (decide (kindV (vwS S qn) = 3) = false) := Lib.hid (decide_eq_false fun e => HSF.out.2 e hq1)
                  clear hq1
                  go_wp2
                  go_meet
                  case rel => exact ⟨by rw [HD.out, Bool.and_false], rfl⟩
                have e1 := toList_ne hq1
                clear hq1
                by_cases hq2 : qn = 0
                · have HD : Hid (decide (kindV (vwS S qn) = 3) = false) := Lib.hid (decide_eq_false (by rw [HK0.out hq2]; decide))
                  have e2 : (qn != 0) = false := by simpa using hq2
                  clear hq2
                  go_wp2
                  go_meet
                  case rel => exact ⟨by rw [HD.out, Bool.and_false], rfl⟩
                have e2 : (qn != 0) = true := by simpa using hq2
                cases gs with
                | false =>
                  clear hq2
                  go_wp2
                  go_meet
                  case rel => exact ⟨rfl, rfl⟩
                | true =>
                  obtain ⟨j, z, hj, j1, jl, hz, hkz, _⟩ := cells_vw HH.out rfl (HSF.out.1.resolve_left hq2)
                  have ck := (HW7.out.f.x.at hz).c0
                  have hj0 : (0 : Int) ≤ qn := by omega
                  have hj1 : qn < (Z.length : Int) := by omega
                  have hjn : qn.toNat = j := by omega
                  have HD : Hid (decide (kindV (vwS S qn) = 3) = (z.1.kind == 3)) := Lib.hid (by rw [hkz]; by_cases e : z.1.kind = 3 <;> simp [e])
                  clear hq2 hj hz hkz
                  go_wp2
                  go_meet
                  case rel => exact ⟨by rw [HD.out, Bool.true_and], rfl⟩
              case rest =>
                obtain ⟨rfl, rfl⟩ := hcut
                have hT := HT2.out
                cases hC : (gs && decide (kindV (vwS S qn) = 3)) with
                | false =>
                  rw [if_neg (by rintro ⟨h1, h2⟩; dsimp only at h2; rw [h1, decide_eq_true h2] at hC; cases hC)] at hT
                  have HT3 := Lib.hid hT
                  clear hT HT2 hC
                  go_wp2
                  go_roundw
                  case rel => exact ⟨i + 1, n, ⟨qn, qd, qm⟩, hlt, by go_num, rfl, hn1, hn2, HW7.out, .inr HSF.out.1, HT3.out⟩
                  case measure => simp [intOf]; omega
                | true =>
                  obtain ⟨hC1, hC2⟩ : gs = true ∧ kindV (vwS S qn) = 3 := by simpa using hC
                  rw [if_pos ⟨hC1, hC2⟩] at hT
                  have hqn : qn ≠ 0 := fun e => by rw [HK0.out e] at hC2; cases hC2
                  obtain ⟨j, z, hj, j1, jl, hz, hkz, hdz⟩ := cells_vw HH.out rfl (HSF.out.1.resolve_left hqn)
                  have hdz' := hdz (by rw [← hkz]; exact hC2)
                  dsimp only at hT
                  rw [hdz'] at hT
                  have cd := (HW7.out.f.x.at hz).c3
                  have hds : z.1.data.size ≤ 5000 := HH.out.data z.1 (List.mem_map_of_mem (List.mem_of_getElem? hz))
                  have hj0 : (0 : Int) ≤ qn := by omega
                  have hj1 : qn < (Z.length : Int) := by omega
                  have hjn : qn.toNat = j := by omega
                  have Hz := Lib.hid hz
                  clear hC hC1 hC2 hqn hj hz hkz hdz hdz' HT2 HK0
                  by_cases h40 : n = 40
                  · rw [if_pos (by omega)] at hT
                    subst hT
                    have e4 : ((n : Int) == 40) = true := by rw [beq_iff_eq]; omega
                    have HE := Lib.hid (HW7.out.f.fin (.int .i64 0) (.int .i64 0) (.string ⟨#[]⟩))
                    clear h40
                    go_wp2
                    exact bodyPost_ret_by (results_c1 Try.info36 Try.agg36 rfl _ _ _ _ rfl HE.out.2 rfl) rfl ⟨rfl, HE.out.1⟩
                  rw [if_neg (by omega)] at hT
                  have e4 : ((n : Int) == 40) = false := by rw [beq_eq_false_iff_ne]; omega
                  by_cases hd0 : z.1.data.size = 0
                  · rw [if_neg (by simp [hd0])] at hT
                    have HT3 := Lib.hid hT
                    have e5 := toList_em hd0
                    clear hT hd0
                    go_wp2
                    go_roundw
                    case rel => exact ⟨i + 1, n + 1, ⟨qn, qd, qm⟩, hlt, by go_num, by go_num, by omega, by omega, HW7.out, .inr HSF.out.1, HT3.out⟩
                    case measure => simp [intOf]; omega
                  rw [if_pos hd0] at hT
                  have e5 := toList_ne hd0
                  have hjd : jdS z.1.data (l.drop (i + 1)) slash = behS z.1.data (l.drop (i + 1)) slash := jd_is slash (by omega) (fun y hy => Hbare.out y (List.mem_of_mem_drop hy))
                  rw [← hjd] at hT
                  have hjs : (jdS z.1.data (l.drop (i + 1)) slash).size ≤ 10000 := by rw [hjd]; have h1 := behS_size z.1.data (l.drop (i + 1)) slash; have h2 := tot_drop (i + 1) l; have h3 := Htot.out; omega
                  have htd : totL (l.drop (i + 1)) ≤ 4900 := by have h2 := tot_drop (i + 1) l; have h3 := Htot.out; omega
                  clear hjd
                  have HCJ : Hid (∀ (w' : World) (vv : Value), Below wc.heap.size wc w' → (l.drop (i + 1) = [] ∧ (∃ a c, vv = .slice a 0 c)) ∨ (∃ cc, vv = .slice (some ⟨gl, i + 1, none⟩) (l.drop (i + 1)).length cc ∧ (l.drop (i + 1)).length ≤ cc) → Calls Try.prog 64 #[.string z.1.data, vv, .bool slash] w' fun e w'' => e = .returned (.string (jdS z.1.data (l.drop (i + 1)) slash)) ∧ w'' = w') := Lib.hid (fun w' vv hb' hvv => by
                    refine (joined64 z.1.data (l.drop (i + 1)) slash vv w' (by omega) hds htd (by rw [List.length_drop]; omega) ?_).mono fun e w'' h => ⟨h.1, h.2.symm⟩
                    rcases hvv with h | ⟨cc, rfl, hcc⟩
                    · exact .inl h
                    · refine .inr ⟨gl, i + 1, cc, rfl, by have := HW7.out.lg; have := hb'.size; omega, hcc, fun j y hy => ?_⟩
                      rw [List.getElem?_drop] at hy
                      exact low_cell hb' (HW7.out.lst (i + 1 + j) y hy))
                  have HT3 := Lib.hid hT
                  have HJS := Lib.hid hjs
                  have hcap := Hcap.out
                  clear hT hjs htd hds hd0
                  generalize jdS z.1.data (l.drop (i + 1)) slash = jd at HCJ HT3 HJS
                  have BD := ((Below.refl wc.heap.size wc).drew)
                  have W8 := HW7.out.below BD
                  have HC33 := Lib.hid (HIH.out (n + 1) p.node jd wc.drew (by omega) (by omega) W8.f.x HJS.out)
                  rw [HT3.out] at HC33
                  have a0 : wc.drew.cell? ⟨w.heap.size, 0, none⟩ = some (.slice (some ⟨g, 0, none⟩) Z.length c) := q0
                  have a1 : wc.drew.cell? ⟨w.heap.size, 1, none⟩ = some (.int .i64 room) := q1
                  have a2 : wc.drew.cell? ⟨w1.heap.size, 0, none⟩ = some (.int .i64 qn) := y0
                  have a3 : wc.drew.cell? ⟨g, j * 5 + 3, none⟩ = some (.string z.1.data) := cd
                  have HCK := Lib.hid (fun vv hvv => HCJ.out wc.drew vv BD hvv)
                  have HW8 := Lib.hid W8
                  have HCD := Lib.hid cd
                  clear W8 BD HCJ
                  obtain ⟨⟨tn, td, tm⟩, te⟩ := T
                  by_cases hlast : i + 1 < l.length
                  · have hcap2 : i + 1 < cap := by omega
                    have hwr : IntKind.i64.wrap ((i : Int) + 1) = (i : Int) + 1 := by rw [IntKind.wrap_i64]; omega
                    have hwn : IntKind.i64.wrap ((n : Int) + 1) = (n : Int) + 1 := by rw [IntKind.wrap_i64]; omega
                    have k1' : (0 : Int) ≤ (i : Int) + 1 := by omega
                    have k2' : (i : Int) + 1 ≤ (l.length : Int) := by omega
                    have k3' : (l.length : Int) ≤ (cap : Int) := by omega
                    have k8' : i + 1 ≤ l.length := by omega
                    have k4' : ¬ cap - (i + 1) = 0 := by omega
                    have k5' : ¬ cap = i + 1 := by omega
                    have k6' : (i : Int) + 1 < (cap : Int) := by omega
                    have k7' : ¬ cap ≤ i + 1 := by omega
                    have CJ := Lib.hid (HCK.out (.slice (some ⟨gl, i + 1, none⟩) (l.length - (i + 1)) (cap - (i + 1))) (.inr ⟨cap - (i + 1), by rw [List.length_drop], by rw [List.length_drop]; omega⟩))
                    go_upto_region 32 with fail
                    go_region_held3 (fun wx => wx.cell? ⟨w.heap.size, 0, none⟩ = some (.slice (some ⟨g, 0, none⟩) Z.length c) ∧ wx.cell? ⟨w.heap.size, 1, none⟩ = some (.int .i64 room) ∧ wx.cell? ⟨w1.heap.size, 0, none⟩ = some (.int .i64 qn) ∧ wx.cell? ⟨g, j * 5 + 3, none⟩ = some (.string z.1.data)) (first | exact ⟨a0, a1, a2, a3⟩ | exact ⟨b0', b1', b2', b3'⟩ | exact HFC.out)
                      (first
                        | (go_at_call 64; refine CJ.out.mono ?_; rintro e w5 ⟨rfl, rfl⟩)
                        | (go_at_call 33; refine HC33.out.mono ?_; rintro e w6 ⟨rfl, b6⟩; have W9 := HW8.out.below b6; have b0' := W9.f.c00; have b1' := W9.f.c01; have b2' := W9.p0; have b3' := low_cell b6 a3; have k0 := W9.f.c10; have k1 := W9.f.c11; have k2 := W9.f.c12; have l0 := W9.f.fr 0; have l1 := W9.f.fr 1; have l2 := W9.f.fr 2; have HE := Lib.hid (W9.f.fin (.int .i64 tn) (.int .i64 td) (.string tm)); have HFC := Lib.hid (W9.finc Hz.out (.int .i64 tn) (.int .i64 td) (.string tm)); clear W9 b6))
                    clear a0 a1 a2 a3 b0' b1' b2' b3'
                    go_wp2
                    exact bodyPost_ret_by (results_c1 Try.info36 Try.agg36 rfl _ _ _ _ rfl HE.out.2 rfl) rfl ⟨rfl, HE.out.1⟩
                  · have hle : l.length = i + 1 := by omega
                    have hnil : l.drop (i + 1) = [] := by rw [← hle]; exact List.drop_length
                    have hwr : IntKind.i64.wrap ((i : Int) + 1) = (i : Int) + 1 := by rw [IntKind.wrap_i64]; omega
                    have hwn : IntKind.i64.wrap ((n : Int) + 1) = (n : Int) + 1 := by rw [IntKind.wrap_i64]; omega
                    have k1' : (0 : Int) ≤ (i : Int) + 1 := by omega
                    have k2' : (i : Int) + 1 ≤ (l.length : Int) := by omega
                    have k3' : (l.length : Int) ≤ (cap : Int) := by omega
                    have k8' : i + 1 ≤ l.length := by omega
                    by_cases hcc : i + 1 < cap
                    · have CJ := Lib.hid (HCK.out (.slice (some ⟨gl, i + 1, none⟩) 0 (cap - (i + 1))) (.inl ⟨hnil, _, _, rfl⟩))
                      clear hnil
                      have k4' : ¬ cap - (i + 1) = 0 := by omega
                      have k5' : ¬ cap = i + 1 := by omega
                      have k6' : (i : Int) + 1 < (cap : Int) := by omega
                      have k7' : ¬ cap ≤ i + 1 := by omega
                      go_upto_region 32 with fail
                      go_region_held3 (fun wx => wx.cell? ⟨w.heap.size, 0, none⟩ = some (.slice (some ⟨g, 0, none⟩) Z.length c) ∧ wx.cell? ⟨w.heap.size, 1, none⟩ = some (.int .i64 room) ∧ wx.cell? ⟨w1.heap.size, 0, none⟩ = some (.int .i64 qn) ∧ wx.cell? ⟨g, j * 5 + 3, none⟩ = some (.string z.1.data)) (first | exact ⟨a0, a1, a2, a3⟩ | exact ⟨b0', b1', b2', b3'⟩ | exact HFC.out)
                        (first
                          | (go_at_call 64; refine CJ.out.mono ?_; rintro e w5 ⟨rfl, rfl⟩)
                          | (go_at_call 33; refine HC33.out.mono ?_; rintro e w6 ⟨rfl, b6⟩; have W9 := HW8.out.below b6; have b0' := W9.f.c00; have b1' := W9.f.c01; have b2' := W9.p0; have b3' := low_cell b6 a3; have k0 := W9.f.c10; have k1 := W9.f.c11; have k2 := W9.f.c12; have l0 := W9.f.fr 0; have l1 := W9.f.fr 1; have l2 := W9.f.fr 2; have HE := Lib.hid (W9.f.fin (.int .i64 tn) (.int .i64 td) (.string tm)); have HFC := Lib.hid (W9.finc Hz.out (.int .i64 tn) (.int .i64 td) (.string tm)); clear W9 b6))
                      clear a0 a1 a2 a3 b0' b1' b2' b3'
                      go_wp2
                      exact bodyPost_ret_by (results_c1 Try.info36 Try.agg36 rfl _ _ _ _ rfl HE.out.2 rfl) rfl ⟨rfl, HE.out.1⟩
                    · have hce : cap = i + 1 := by omega
                      have CJ := Lib.hid (HCK.out (.slice (some ⟨gl, 0, none⟩) 0 0) (.inl ⟨hnil, _, _, rfl⟩))
                      have CJ2 := Lib.hid (HCK.out (.slice (some ⟨gl, i + 1, none⟩) 0 0) (.inl ⟨hnil, _, _, rfl⟩))
                      clear hnil
                      go_upto_region 32 with fail
                      go_region_held3 (fun wx => wx.cell? ⟨w.heap.size, 0, none⟩ = some (.slice (some ⟨g, 0, none⟩) Z.length c) ∧ wx.cell? ⟨w.heap.size, 1, none⟩ = some (.int .i64 room) ∧ wx.cell? ⟨w1.heap.size, 0, none⟩ = some (.int .i64 qn) ∧ wx.cell? ⟨g, j * 5 + 3, none⟩ = some (.string z.1.data)) (first | exact ⟨a0, a1, a2, a3⟩ | exact ⟨b0', b1', b2', b3'⟩ | exact HFC.out)
                        (first
                          | (go_at_call 64; refine CJ.out.mono ?_; rintro e w5 ⟨rfl, rfl⟩)
                          | (go_at_call 64; refine CJ2.out.mono ?_; rintro e w5 ⟨rfl, rfl⟩)
                          | (go_at_call 33; refine HC33.out.mono ?_; rintro e w6 ⟨rfl, b6⟩; have W9 := HW8.out.below b6; have b0' := W9.f.c00; have b1' := W9.f.c01; have b2' := W9.p0; have b3' := low_cell b6 a3; have k0 := W9.f.c10; have k1 := W9.f.c11; have k2 := W9.f.c12; have l0 := W9.f.fr 0; have l1 := W9.f.fr 1; have l2 := W9.f.fr 2; have HE := Lib.hid (W9.f.fin (.int .i64 tn) (.int .i64 td) (.string tm)); have HFC := Lib.hid (W9.finc Hz.out (.int .i64 tn) (.int .i64 td) (.string tm)); clear W9 b6))
                      clear a0 a1 a2 a3 b0' b1' b2' b3'
                      go_wp2
                      exact bodyPost_ret_by (results_c1 Try.info36 Try.agg36 rfl _ _ _ _ rfl HE.out.2 rfl) rfl ⟨rfl, HE.out.1⟩
end Go.Proofs.Ytgdjoojghkdcbaa

/- WalkFinds, walked. Conditions: none beyond the law's own tests. -/
namespace Go.Proofs.Ytgdjoojghkdcbaa
open Go.RowKit Go.PlainAid Pth
set_option linter.unusedSimpArgs false

set_option maxHeartbeats 2000000 in
set_option maxRecDepth 100000 in
theorem find11 {kk : Nat} {S : St} {ds : List Nat} (P : Nat → Prop) (v : Value) (room : Int) (Z : List Zn) (H : Hd kk S (nrs Z) ds) (follow : Bool) (a : Int) (s : ByteArray) (w : World) (X : XAt P v Z w) (hs : s.size ≤ 10000) :
    Calls Try.prog 11 #[xv v room, .int .i64 a, .string s, .bool follow] w (GivesP w (wayM (vwS S) follow 41 0 a s)) := by
  have hz2 := H.sim.two
  rw [nrs_len] at hz2
  obtain ⟨g, c, rfl⟩ := X.shape (by omega)
  have HF := Lib.hid (Pf.start X room)
  have HC := Lib.hid (fun w' (x' : XAt P (.slice (some ⟨g, 0, none⟩) Z.length c) Z w') => way33 P _ room Z H follow 41 0 a s w' (by decide) (by decide) x' hs)
  obtain ⟨⟨⟨tn, td, tm⟩, te⟩, hT⟩ : ∃ T, wayM (vwS S) follow 41 0 a s = T := ⟨_, rfl⟩
  rw [hT] at HC ⊢
  clear hT H X hz2
  go_enter Try.func11, Try.ntmps11
  go_upto_region 1 with fail
  generalize ((w.alloc (.cells #[.slice (some ⟨g, 0, none⟩) Z.length c, .int .i64 room] 28)).alloc (.cells #[.int .i64 0, .int .i64 0, .string ⟨#[]⟩] 36)) = wz at HF ⊢
  have C := Lib.hid (HC.out wz HF.out.x)
  have q0 := HF.out.c00
  have q1 := HF.out.c01
  go_wp2_with fail
  refine C.out.mono ?_
  rintro e w1 ⟨rfl, b1⟩
  have F1 := HF.out.below b1
  have p0 := F1.c10
  have p1 := F1.c11
  have p2 := F1.c12
  have f0 := F1.fr 0
  have f1 := F1.fr 1
  have f2 := F1.fr 2
  have HE := Lib.hid (F1.fin (.int .i64 tn) (.int .i64 td) (.string tm))
  clear F1 b1
  go_wp2
  exact bodyPost_ret_by (results_c1 Try.info36 Try.agg36 rfl _ _ _ _ rfl HE.out.2 rfl) rfl ⟨rfl, HE.out.1⟩

/-- What must be there. -/
def thereM (T : Pla × Int) : Pla × Int := if T.2 = 0 then (if T.1.node = 0 then (.zero, 12) else T) else (.zero, T.2)
theorem loop_err (V : Int → Option Vw) (k : Nat → Int → ByteArray → Pla × Int) (hk : ∀ n a s, (k n a s).2 ≠ 0 → (k n a s).1 = .zero) (follow slash : Bool) : ∀ (l : List ByteArray) (links : Nat) (a : Int) (p : Pla), (loopM V k follow slash links a l p).2 ≠ 0 → (loopM V k follow slash links a l p).1 = .zero
  | [], links, a, p => by
    unfold loopM
    split
    · intro _; rfl
    · intro h; exact absurd rfl h
  | x :: l, links, a, p => by
    unfold loopM
    split
    · intro _; rfl
    · split
      · split
        · intro _; rfl
        · split
          · exact hk _ _ _
          · exact loop_err V k hk follow slash l _ _ _
      · exact loop_err V k hk follow slash l _ _ _
theorem way_err (V : Int → Option Vw) (follow : Bool) : ∀ (f n : Nat) (a : Int) (s : ByteArray), (wayM V follow f n a s).2 ≠ 0 → (wayM V follow f n a s).1 = .zero
  | 0, _, _, _ => fun _ => rfl
  | f + 1, n, a, s => by
    unfold wayM
    split
    · intro _; rfl
    · exact loop_err V _ (fun n a s => way_err V follow f n a s) follow _ _ _ _ _

set_option maxHeartbeats 2000000 in
set_option maxRecDepth 100000 in
theorem there13 {kk : Nat} {S : St} {ds : List Nat} (P : Nat → Prop) (v : Value) (room : Int) (Z : List Zn) (H : Hd kk S (nrs Z) ds) (follow : Bool) (a : Int) (s : ByteArray) (w : World) (X : XAt P v Z w) (hs : s.size ≤ 10000) :
    Calls Try.prog 13 #[xv v room, .int .i64 a, .string s, .bool follow] w (GivesP w (thereM (wayM (vwS S) follow 41 0 a s))) := by
  have hz2 := H.sim.two
  rw [nrs_len] at hz2
  obtain ⟨g, c, rfl⟩ := X.shape (by omega)
  have HF := Lib.hid (Pf.start X room)
  have HC := Lib.hid (fun w' (x' : XAt P (.slice (some ⟨g, 0, none⟩) Z.length c) Z w') => find11 P _ room Z H follow a s w' x' hs)
  have hz := way_err (vwS S) follow 41 0 a s
  obtain ⟨⟨⟨tn, td, tm⟩, te⟩, hT⟩ : ∃ T, wayM (vwS S) follow 41 0 a s = T := ⟨_, rfl⟩
  rw [hT] at HC hz ⊢
  clear hT H X hz2
  obtain ⟨⟨⟨un, ud, um⟩, ue⟩, hU⟩ : ∃ U, thereM (⟨tn, td, tm⟩, te) = U := ⟨_, rfl⟩
  rw [hU]
  unfold thereM at hU
  have HU := Lib.hid hU
  have Hz := Lib.hid hz
  clear hU hz
  go_enter Try.func13, Try.ntmps13
  go_upto_region 1 with fail
  generalize ((w.alloc (.cells #[.slice (some ⟨g, 0, none⟩) Z.length c, .int .i64 room] 28)).alloc (.cells #[.int .i64 0, .int .i64 0, .string ⟨#[]⟩] 36)) = wz at HF ⊢
  have C := Lib.hid (HC.out wz HF.out.x)
  have q0 := HF.out.c00
  have q1 := HF.out.c01
  go_wp2_with fail
  refine C.out.mono ?_
  rintro e w1 ⟨rfl, b1⟩
  have F1 := (HF.out.below b1).below ((Below.refl w1.heap.size w1).alloc (Nat.le_refl _) (.cells #[.int .i64 tn, .int .i64 td, .string tm] 36))
  have p0 := F1.c10
  have p1 := F1.c11
  have p2 := F1.c12
  have f0 := F1.fr 0
  have f1 := F1.fr 1
  have f2 := F1.fr 2
  have hU := HU.out
  have hz := Hz.out
  by_cases he : te = 0
  · rw [if_pos he] at hU
    by_cases hn : tn = 0
    · rw [if_pos hn] at hU
      cases hU
      have e1 : (te == 0) = true := by simpa using he
      have e2 : (tn == 0) = true := by simpa using hn
      have HE := Lib.hid (F1.fin (.int .i64 0) (.int .i64 0) (.string ⟨#[]⟩))
      clear F1 b1 he hn hz
      go_wp2
      exact bodyPost_ret_by (results_c1 Try.info36 Try.agg36 rfl _ _ _ _ rfl HE.out.2 rfl) rfl ⟨rfl, HE.out.1⟩
    · rw [if_neg hn] at hU
      cases hU
      have e1 : (te == 0) = true := by simpa using he
      have e2 : (tn == 0) = false := by simpa using hn
      have HE := Lib.hid (F1.fin (.int .i64 tn) (.int .i64 td) (.string tm))
      clear F1 b1 he hn hz
      go_wp2
      exact bodyPost_ret_by (results_c1 Try.info36 Try.agg36 rfl _ _ _ _ rfl HE.out.2 rfl) rfl ⟨rfl, HE.out.1⟩
  · rw [if_neg he] at hU
    have hpz := hz he
    cases hpz
    cases hU
    have e1 : (te == 0) = false := by simpa using he
    have HE := Lib.hid (F1.fin (.int .i64 0) (.int .i64 0) (.string ⟨#[]⟩))
    clear F1 b1 he hz
    go_wp2
    exact bodyPost_ret_by (results_c1 Try.info36 Try.agg36 rfl _ _ _ _ rfl HE.out.2 rfl) rfl ⟨rfl, HE.out.1⟩

set_option maxHeartbeats 2000000 in
set_option maxRecDepth 100000 in
theorem there12 (L : Lay) (D : Nat) (S : St) (w : World) (h : DiskAt L D S w) (hG : Good S) (a : Int) (ha : In64 a) (s : ByteArray) (hs : s.size ≤ 10000) (follow : Bool) :
    Calls Try.prog 12 #[.pointer (some ⟨D, 0, none⟩), .int .i64 a, .string s, .bool follow] w (GivesP w (thereM (wayM (vwS S) follow 41 0 a s))) := by
  have HR := Lib.hid (Cel.start 32 w (.int .i64 0) (.int .i64 0) (.string ⟨#[]⟩))
  have HC := Lib.hid (fun w' (k' : DiskAt L D S w') => find10 L D S w' k' hG a ha s hs follow)
  have HK := Lib.hid h
  obtain ⟨⟨⟨tn, td, tm⟩, te⟩, hT⟩ : ∃ T, wayM (vwS S) follow 41 0 a s = T := ⟨_, rfl⟩
  rw [hT] at HC ⊢
  clear hT h hG
  obtain ⟨⟨⟨un, ud, um⟩, ue⟩, hU⟩ : ∃ U, thereM (⟨tn, td, tm⟩, te) = U := ⟨_, rfl⟩
  rw [hU]
  unfold thereM at hU
  have HU := Lib.hid hU
  clear hU
  go_enter Try.func12, Try.ntmps12
  go_upto_region 1 with fail
  have HK2 := Lib.hid (HK.out.below HR.out.bel)
  generalize (w.alloc (.cells #[.int .i64 0, .int .i64 0, .string ⟨#[]⟩] 32)) = wz at HR HK2 ⊢
  have C := Lib.hid (HC.out wz HK2.out)
  go_wp2_with fail
  refine C.out.mono ?_
  rintro e w1 ⟨rfl, b1⟩
  have R1 := (HR.out.below b1).below ((Below.refl w1.heap.size w1).alloc (Nat.le_refl _) (.cells #[.int .i64 tn, .int .i64 td, .string tm] 32))
  have p0 := R1.c0
  have p1 := R1.c1
  have p2 := R1.c2
  have f0 := R1.fr 0
  have f1 := R1.fr 1
  have f2 := R1.fr 2
  have hU := HU.out
  by_cases he : te = 0
  · rw [if_pos he] at hU
    have e1 : (te != 0) = false := by simpa using he
    by_cases hn : tn = 0
    · rw [if_pos hn] at hU
      cases hU
      have e2 : (tn == 0) = true := by simpa using hn
      have HE := Lib.hid (R1.fin (.int .i64 0) (.int .i64 0) (.string ⟨#[]⟩))
      clear R1 b1 he hn
      go_wp2
      exact bodyPost_ret_by (results_c1 Try.info32 Try.agg32 rfl _ _ _ _ rfl HE.out.blk rfl) rfl ⟨rfl, HE.out.bel⟩
    · rw [if_neg hn] at hU
      subst he
      cases hU
      have e2 : (tn == 0) = false := by simpa using hn
      have HE := Lib.hid (R1.fin (.int .i64 tn) (.int .i64 td) (.string tm))
      clear R1 b1 hn
      go_wp2
      exact bodyPost_ret_by (results_c1 Try.info32 Try.agg32 rfl _ _ _ _ rfl HE.out.blk rfl) rfl ⟨rfl, HE.out.bel⟩
  · rw [if_neg he] at hU
    cases hU
    have e1 : (te != 0) = true := by simpa using he
    have HE := Lib.hid (R1.fin (.int .i64 0) (.int .i64 0) (.string ⟨#[]⟩))
    clear R1 b1 he
    go_wp2
    exact bodyPost_ret_by (results_c1 Try.info32 Try.agg32 rfl _ _ _ _ rfl HE.out.blk rfl) rfl ⟨rfl, HE.out.bel⟩
end Go.Proofs.Ytgdjoojghkdcbaa

/- WalkFinds, walked. Conditions: none beyond the law's own tests. -/
namespace Go.Proofs.Ytgdjoojghkdcbaa
open Go.RowKit Go.PlainAid Pth
set_option linter.unusedSimpArgs false

theorem OpsAt.low {w w' : World} {v : Value} {os : List Opn} (h : OpsAt w v os) (b1 : Below w.heap.size w w') : OpsAt w' v os := by
  refine ⟨h.1, ?_⟩
  rcases h.2 with h | ⟨b, off, c, e, hc⟩
  · exact .inl h
  · exact .inr ⟨b, off, c, e, fun i o hi => (hc i o hi).low b1⟩

set_option maxHeartbeats 2000000 in
set_option maxRecDepth 100000 in
theorem finds3_early (v0 : Value) (os : List Opn) (a : Int) (s : ByteArray) (follow : Bool) (w : World) (h : OpsAt w v0 os) (hlen : os.length ≤ maxLen) (hbad : smB os = false ∨ (smB os = true ∧ 5000 < s.size)) :
    Calls Try.prog 3 #[v0, .int .i64 a, .string s, .bool follow] w fun e w' => e = .returned (.bool true) ∧ Below w.heap.size w w' := by
  have A := Lib.hid (anchor7 w)
  have H := Lib.hid h
  have HL := Lib.hid hlen
  obtain ⟨a0, c0, rfl⟩ := ops_shape h
  clear h hlen
  go_enter Try.func3, Try.ntmps3
  go_wp2_with fail
  refine A.out.mono ?_
  rintro e w1 ⟨rfl, b1⟩
  have HB1 := Lib.hid b1
  have CS := small8 _ os w1 (H.out.low b1) HL.out
  clear A b1
  rcases hbad with hbad | ⟨hsm, hbad⟩
  · rw [hbad] at CS
    have HC := Lib.hid CS
    clear CS
    go_wp2_with fail
    refine HC.out.mono ?_
    rintro e w2 ⟨rfl, b2⟩
    have HB2 := Lib.hid (HB1.out.trans (b2.mono HB1.out.size))
    clear b2
    go_wp2
    go_ret
    exact ⟨rfl, HB2.out⟩
  · rw [hsm] at CS
    have HC := Lib.hid CS
    have q1 : decide (5000 < (s.size : Int)) = true := decide_eq_true (by omega)
    clear CS hsm
    go_wp2_with fail
    refine HC.out.mono ?_
    rintro e w2 ⟨rfl, b2⟩
    have HB2 := Lib.hid (HB1.out.trans (b2.mono HB1.out.size))
    clear b2
    go_wp2
    go_ret
    exact ⟨rfl, HB2.out⟩

set_option maxHeartbeats 4000000 in
set_option maxRecDepth 100000 in
theorem finds3_main (v0 : Value) (os : List Opn) (a : Int) (ha : In64 a) (s : ByteArray) (follow : Bool) (w : World) (h : OpsAt w v0 os) (hlen : os.length ≤ maxLen) (hsm : smB os = true) (h5 : s.size ≤ 5000) :
    Calls Try.prog 3 #[v0, .int .i64 a, .string s, .bool follow] w fun e w' => e = .returned (.bool true) ∧ Below w.heap.size w w' := by
  have A := Lib.hid (anchor7 w)
  have H := Lib.hid h
  have HL := Lib.hid hlen
  have Ha := Lib.hid ha
  obtain ⟨a0, c0, rfl⟩ := ops_shape h
  clear h hlen ha
  go_enter Try.func3, Try.ntmps3
  go_wp2_with fail
  refine A.out.mono ?_
  rintro e w1 ⟨rfl, b1⟩
  have HB1 := Lib.hid b1
  have CS := small8 _ os w1 (H.out.low b1) HL.out
  have HSM := Lib.hid hsm
  rw [hsm] at CS
  have HC := Lib.hid CS
  clear A b1 CS hsm
  have q1 : decide (5000 < (s.size : Int)) = false := decide_eq_false (by omega)
  go_wp2_with fail
  refine HC.out.mono ?_
  rintro e w2 ⟨rfl, b2⟩
  have B2 := HB1.out.trans (b2.mono HB1.out.size)
  have CB := Lib.hid (built9 _ os w2 (H.out.low B2) (by have := (smB_ok HSM.out).1; omega) (smB_ok HSM.out).2)
  have HB2 := Lib.hid B2
  clear b2 B2 HC HB1
  go_wp2_with fail
  refine CB.out.mono ?_
  rintro e w3 ⟨D, L, S, R, ds, v, Z, rfl, K, B, Hh, hZ, X, b3, O⟩
  subst hZ
  obtain ⟨g, c, rfl⟩ := X.shape (by have := Hh.sim.two; simp at this; omega)
  have A3 := (Below.refl w3.heap.size w3).alloc (Nat.le_refl _) (.cells #[.slice (some ⟨g, 0, none⟩) Z.length c, .int .i64 1048576] 28)
  have B3 := HB2.out.trans (b3.mono HB2.out.size)
  have HB3 := Lib.hid (B3.trans (A3.mono B3.size))
  have HK := Lib.hid (K.below A3)
  have HX := Lib.hid (X.below A3)
  have HN3 := Lib.hid (heap_alloc_new w3 (.cells #[.slice (some ⟨g, 0, none⟩) Z.length c, .int .i64 1048576] 28))
  have HG := Lib.hid Hh.good
  have HH := Lib.hid Hh
  clear CB K B Hh X b3 O B3 A3 HB2
  have CA : ∀ w', Below (w3.alloc (.cells #[.slice (some ⟨g, 0, none⟩) Z.length c, .int .i64 1048576] 28)).heap.size (w3.alloc (.cells #[.slice (some ⟨g, 0, none⟩) Z.length c, .int .i64 1048576] 28)) w' → Calls Try.prog 10 #[.pointer (some ⟨D, 0, none⟩), .int .i64 a, .string s, .bool follow] w' (GivesP w' (wayM (vwS S) follow 41 0 a s)) ∧ Calls Try.prog 11 #[xv (.slice (some ⟨g, 0, none⟩) Z.length c) 1048576, .int .i64 a, .string s, .bool follow] w' (GivesP w' (wayM (vwS S) follow 41 0 a s)) ∧ Calls Try.prog 12 #[.pointer (some ⟨D, 0, none⟩), .int .i64 a, .string s, .bool follow] w' (GivesP w' (thereM (wayM (vwS S) follow 41 0 a s))) ∧ Calls Try.prog 13 #[xv (.slice (some ⟨g, 0, none⟩) Z.length c) 1048576, .int .i64 a, .string s, .bool follow] w' (GivesP w' (thereM (wayM (vwS S) follow 41 0 a s))) := by
    intro w' hb'
    exact ⟨find10 L D S _ (HK.out.below hb') HG.out a Ha.out s (by omega) follow, find11 _ _ 1048576 Z HH.out follow a s w' (HX.out.below hb') (by omega), there12 L D S _ (HK.out.below hb') HG.out a Ha.out s (by omega) follow, there13 _ _ 1048576 Z HH.out follow a s w' (HX.out.below hb') (by omega)⟩
  generalize wayM (vwS S) follow 41 0 a s = T at CA
  generalize thereM T = U at CA
  obtain ⟨⟨pn, pd, pm⟩, pe⟩ := T
  obtain ⟨⟨un, ud, um⟩, ue⟩ := U
  have HCA := Lib.hid CA
  have HC1 := Lib.hid (HCA.out _ (Below.refl _ _)).1
  clear CA
  go_wp2_with fail
  refine HC1.out.mono ?_
  rintro e w4 ⟨rfl, b4⟩
  have B5 := b4.alloc b4.size (.cells #[.int .i64 pn, .int .i64 pd, .string pm] 32)
  have N5 := heap_alloc_new w4 (.cells #[.int .i64 pn, .int .i64 pd, .string pm] 32)
  have M5 := (B5.block _ (lt_of_block HN3.out)).trans HN3.out
  have HC2 := Lib.hid (HCA.out _ B5).2.1
  have HB5 := Lib.hid B5
  have HN5 := Lib.hid N5
  have HM5 := Lib.hid M5
  have x0 := cells_at M5 (i := 0) rfl
  have x1 := cells_at M5 (i := 1) rfl
  clear HC1 b4 B5 N5 M5
  go_wp2_with fail
  refine HC2.out.mono ?_
  rintro e w6 ⟨rfl, b6⟩
  have B6 := HB5.out.trans (b6.mono HB5.out.size)
  have N6 := (b6.block _ (lt_of_block HN5.out)).trans HN5.out
  have B7 := B6.alloc B6.size (.cells #[.int .i64 pn, .int .i64 pd, .string pm] 36)
  have A7 := (Below.refl w6.heap.size w6).alloc (Nat.le_refl _) (.cells #[.int .i64 pn, .int .i64 pd, .string pm] 36)
  have N7 := (A7.block _ (lt_of_block N6)).trans N6
  have M7 := heap_alloc_new w6 (.cells #[.int .i64 pn, .int .i64 pd, .string pm] 36)
  have HC3 := Lib.hid (HCA.out _ B7).2.2.1
  have HB7 := Lib.hid B7
  have HN7 := Lib.hid N7
  have HM7 := Lib.hid M7
  clear HC2 b6 B6 N6 B7 A7 N7 M7 HB5 HN5 x0 x1
  go_wp2_with fail
  refine HC3.out.mono ?_
  rintro e w8 ⟨rfl, b8⟩
  have B8 := HB7.out.trans (b8.mono HB7.out.size)
  have N8 := (b8.block _ (lt_of_block HN7.out)).trans HN7.out
  have M8 := (b8.block _ (lt_of_block HM7.out)).trans HM7.out
  have B9 := B8.alloc B8.size (.cells #[.int .i64 un, .int .i64 ud, .string um] 32)
  have A9 := (Below.refl w8.heap.size w8).alloc (Nat.le_refl _) (.cells #[.int .i64 un, .int .i64 ud, .string um] 32)
  have N9 := (A9.block _ (lt_of_block N8)).trans N8
  have M9 := (A9.block _ (lt_of_block M8)).trans M8
  have P9 := heap_alloc_new w8 (.cells #[.int .i64 un, .int .i64 ud, .string um] 32)
  have Q9 := (B9.block _ (lt_of_block HN3.out)).trans HN3.out
  have x0 := cells_at Q9 (i := 0) rfl
  have x1 := cells_at Q9 (i := 1) rfl
  have HC4 := Lib.hid (HCA.out _ B9).2.2.2
  have HB9 := Lib.hid B9
  have HN9 := Lib.hid N9
  have HM9 := Lib.hid M9
  have HP9 := Lib.hid P9
  clear HC3 b8 B8 N8 M8 B9 A9 N9 M9 P9 Q9 HB7 HN7 HM7
  go_wp2_with fail
  refine HC4.out.mono ?_
  rintro e w10 ⟨rfl, b10⟩
  have B10 := HB9.out.trans (b10.mono HB9.out.size)
  have N10 := (b10.block _ (lt_of_block HN9.out)).trans HN9.out
  have M10 := (b10.block _ (lt_of_block HM9.out)).trans HM9.out
  have P10 := (b10.block _ (lt_of_block HP9.out)).trans HP9.out
  have A11 := (Below.refl w10.heap.size w10).alloc (Nat.le_refl _) (.cells #[.int .i64 un, .int .i64 ud, .string um] 36)
  have N11 := (A11.block _ (lt_of_block N10)).trans N10
  have M11 := (A11.block _ (lt_of_block M10)).trans M10
  have P11 := (A11.block _ (lt_of_block P10)).trans P10
  have B11 := B10.alloc B10.size (.cells #[.int .i64 un, .int .i64 ud, .string um] 36)
  have HBF := Lib.hid (HB3.out.trans (B11.mono HB3.out.size))
  clear x0 x1
  have x0 := cells_at N11 (i := 0) rfl
  have x1 := cells_at N11 (i := 1) rfl
  have x2 := cells_at N11 (i := 2) rfl
  have y0 := cells_at M11 (i := 0) rfl
  have y1 := cells_at M11 (i := 1) rfl
  have y2 := cells_at M11 (i := 2) rfl
  have z0 := cells_at P11 (i := 0) rfl
  have z1 := cells_at P11 (i := 1) rfl
  have z2 := cells_at P11 (i := 2) rfl
  clear HC4 b10 B10 N10 M10 P10 A11 N11 M11 P11 B11 HB9 HN9 HM9 HP9 HB3 HCA HK HG HX q1 HH
  go_wp2
  go_ret
  exact ⟨rfl, HBF.out⟩
theorem finds_in (v0 : Value) (os : List Opn) (a : Int) (s : ByteArray) (follow : Bool) (_ : s.size ≤ 140737488351232) (ha : In64 a) (w : World) (h : OpsAt w v0 os ∧ os.length ≤ maxLen) :
    Calls Try.prog 3 #[v0, .int .i64 a, .string s, .bool follow] w fun e w' => e = .returned (.bool true) ∧ Below w.heap.size w w' := by
  cases hsm : smB os with
  | false => exact finds3_early v0 os a s follow w h.1 h.2 (.inl hsm)
  | true =>
    by_cases h5 : 5000 < s.size
    · exact finds3_early v0 os a s follow w h.1 h.2 (.inr ⟨hsm, h5⟩)
    · exact finds3_main v0 os a ha s follow w h.1 h.2 hsm (by omega)
end Go.Proofs.Ytgdjoojghkdcbaa

/- WalkFinds: for every input the law's function returns true, and each argument reads behind the call as it read before. Conditions: none but the row's own. -/
namespace Go.Proofs.Ytgdjoojghkdcbaa.walkFinds
open Go.ChangeShapes Go.WideShapes Go.ChangeAt Go.RowKit
open Go.ChangeMaps (open_string shut_string)
set_option linter.unusedVariables false

theorem own : ownKnob Try.prog.godebug = none := by kernel_rfl
theorem laidOut : laidOutB Try.prog = true := by kernel_rfl

set_option maxRecDepth 100000 in
theorem lifted (os : Os) (started : os.Started) (H : Type) (enc : TypeId × Value → H) :
    ReturnsInHanded {} Try.checked os 3 .any (Rows.walkFindsSpec.pre6 enc Try.prog Try.f3 Rows.walkFindsRow.domain false) (Rows.walkFindsSpec.post enc Try.prog Try.f3 false true false false) := by
  refine returnsInHanded_of_change_sized (C := Try.checked) own started (by kernel_rfl) Try.func3
    (ChangeSpec.witness6 (enc := enc) (C := Try.checked) false ⟨#[], #[.slice none 0 0, .int .i64 0, .string ByteArray.empty, .bool false], []⟩ 8 (by kernel_rfl) (by kernel_rfl) (by kernel_rfl) (by kernel_rfl)) ?_
  intro W base args ds gs before hval0 hW _ hsz0 _
  have hsz : (DataW.weightsEach Try.prog (Try.f3.params.toList ++ Rows.walkFindsSpec.plain.varTypes Try.prog) (ds ++ gs)).all (· ≤ reachBytes) = true := hsz0
  clear hsz0
  have hval : ∀ (j : Nat) t v, Try.f3.params[j]? = some t → args[j]? = some v → Value.okWide Try.prog W .any base t v := hval0
  have hW' := hW
  obtain ⟨p, q, hA0, hV, rfl, hfz, hnd⟩ := hW
  have hA : DataW.TrodAll enc Try.prog W 0 (fun _ => true) true Try.f3.params.toList args.toList ds p := hA0
  rw [Try.params3] at hA hval hsz
  obtain ⟨v0, vs0, d0, ds0, p0, q0, hargs, rfl, rfl, h0, r0⟩ := trodAll_cons hA
  obtain ⟨v1, vs1, d1, ds1, p1, q1, rfl, rfl, rfl, h1, r1⟩ := trodAll_cons r0
  obtain ⟨v2, vs2, d2, ds2, p2, q2, rfl, rfl, rfl, h2, r2⟩ := trodAll_cons r1
  obtain ⟨v3, vs3, d3, ds3, p3, q3, rfl, rfl, rfl, h3, r3⟩ := trodAll_cons r2
  obtain ⟨rfl, rfl, rfl⟩ := trodAll_nil r3
  obtain rfl : args = #[v0, v1, v2, v3] := by cases args; simp_all
  obtain ⟨rfl, rfl⟩ := trodVars_none hV
  have k0 := h0
  have lt0 : ∀ x ∈ p0, x.block < W.heap.size := by obtain ⟨m, hm⟩ := k0; exact DataW.trod_lt m _ _ _ hm
  obtain ⟨a0, w0⟩ := open_opsL (hval 0 22 v0 rfl rfl) h0
  obtain ⟨a1, rfl, rfl, rfl, w1⟩ := open_int Try.underlying3 (hval 1 3 v1 rfl rfl) h1
  obtain ⟨a2, rfl, rfl, rfl, w2⟩ := open_string Try.underlying9 (hval 2 9 v2 rfl rfl) h2
  obtain ⟨a3, rfl, rfl, rfl⟩ := open_bool Try.underlying4 (hval 3 4 v3 rfl rfl) h3
  clear hA0 hval0
  have hs2 : a2.size ≤ 140737488351232 := by
    have := sized_string hsz (j := 2) (t := 9) rfl rfl
    simpa [reachBytes] using this
  simp only [List.append_nil] at hW'
  refine (finds_in v0 a0 a1 a2 a3 hs2 w1 W w0).mono fun e W' ⟨he, bel⟩ => ?_
  subst he
  exact ⟨_, rfl, _, _, _, [], _, [], hW', trodAll_mk1 (shut_bool Try.underlying4 _), (trodAll_cons_mk (Below.trod laidOut (by kernel_rfl) (of_decide_eq_true (by kernel_rfl)) k0 bel lt0) (trodAll_cons_mk (shut_int Try.underlying3 w1) (trodAll_cons_mk (shut_string Try.underlying9 w2) (trodAll_cons_mk (shut_bool Try.underlying4 _) trodAll_mk0)))), rfl, bel.frame _, fun h => by cases h⟩

theorem over : Rows.walkFindsRow.holds Try.pinned (OpenSpec.ofChange Rows.walkFindsSpec) :=
  OpenClaim.holds_of_wide 3 Try.f3 rfl rfl rfl rfl rfl rfl rfl ⟨rfl, rfl, rfl, rfl, rfl⟩ rfl rfl rfl rfl rfl (by kernel_rfl) Try.func3 (by kernel_rfl)
    (of_decide_eq_true (by kernel_rfl)) (by unfold Func.isWrapper; first | (rw [if_pos (by decide +kernel)]; kernel_rfl) | (rw [if_neg (by decide +kernel)]; exact ⟨rfl, rfl⟩))
    (fun os started H enc _ => lifted os started H enc)

end Go.Proofs.Ytgdjoojghkdcbaa.walkFinds

namespace Go.Proofs.Ytgdjoojghkdcbaa
theorem walkFinds_holds : Rows.WalkFindsSaid := walkFinds.over
#print axioms walkFinds_holds
end Go.Proofs.Ytgdjoojghkdcbaa
