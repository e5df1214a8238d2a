/- Dots and slashes ahead of a path lead to the same: plain. Conditions: the root is the law's. -/
import Derived.Test.YtgdjoojghkdcbaaMu
import Derived.WalkKit
import Derived.ProofKit
import Derived.OpenShut
import Derived.ShutString
import Derived.ChangeOld
import Derived.Below
import Derived.SizedLaws
namespace Go.Proofs.Ytgdjoojghkdcbaa
open Go.RowKit Go.PlainAid Pth
set_option linter.unusedSimpArgs false

theorem app_bt_l (a b : ByteArray) (k : Nat) (h : k < a.size) : bt (a ++ b) k = bt a k := by
  have h2 : k < (a ++ b).size := by rw [app_size]; omega
  unfold bt
  rw [dif_pos h2, dif_pos h, ByteArray.getElem_append_left h]
theorem app_bt_r (a b : ByteArray) (k : Nat) (h : a.size ≤ k) : bt (a ++ b) k = bt b (k - a.size) := by
  unfold bt
  by_cases h2 : k - a.size < b.size
  · rw [dif_pos (by rw [app_size]; omega), dif_pos h2, ByteArray.getElem_append_right h]
  · rw [dif_neg (by rw [app_size]; omega), dif_neg h2]
theorem app_ext_r (p s : ByteArray) (a b : Nat) : (p ++ s).extract (p.size + a) (p.size + b) = s.extract a b := by
  apply Pth.ba_ext
  · rw [Pth.ext_size, Pth.ext_size, app_size]; omega
  · intro k hk
    rw [Pth.ext_size, app_size] at hk
    rw [Pth.ext_bt _ _ _ _ (by rw [app_size]; omega), Pth.ext_bt _ _ _ _ (by omega), app_bt_r _ _ _ (by omega)]
    congr 1
    omega
theorem pcs_shift (p s : ByteArray) : ∀ n b, n ≤ s.size → pcsF (p ++ s) n (p.size + b) = pcsF s n b
  | 0, b, _ => by
    simp only [pcsF]
    rw [app_size, app_ext_r]
  | n + 1, b, h => by
    have e : (p ++ s).size - (n + 1) = p.size + (s.size - (n + 1)) := by rw [app_size]; omega
    have e2 : (p ++ s).size - n = p.size + (s.size - n) := by rw [app_size]; omega
    have hb : bt (p ++ s) ((p ++ s).size - (n + 1)) = bt s (s.size - (n + 1)) := by rw [e, app_bt_r _ _ _ (by omega)]; congr 1; omega
    simp only [pcsF]
    rw [hb, e, e2, app_ext_r, pcs_shift p s n (s.size - n) (by omega), pcs_shift p s n b (by omega)]
/-- A piece without slashes, and a slash, ahead. -/
theorem pcs_ahead (a s : ByteArray) (h : ∀ k, k < a.size → bt a k ≠ 47) : pcs (a ++ ⟨#[47]⟩ ++ s) = a :: pcs s := by
  have hz : (a ++ (⟨#[47]⟩ : ByteArray)).size = a.size + 1 := by rw [app_size]; rfl
  have hsz : (a ++ ⟨#[47]⟩ ++ s).size = a.size + 1 + s.size := by rw [app_size, hz]
  have hm : bt (a ++ ⟨#[47]⟩ ++ s) a.size = 47 := by rw [app_bt_l _ _ _ (by omega), app_bt_r _ _ _ (Nat.le_refl _), Nat.sub_self]; rfl
  have key : ∀ j, j ≤ a.size → pcsF (a ++ ⟨#[47]⟩ ++ s) (s.size + 1 + j) 0 = a :: pcs s := by
    intro j
    induction j with
    | zero =>
      intro _
      show pcsF _ (s.size + 1) 0 = _
      have e1 : (a ++ ⟨#[47]⟩ ++ s).size - (s.size + 1) = a.size := by rw [hsz]; omega
      have e2 : (a ++ ⟨#[47]⟩ ++ s).size - s.size = (a ++ (⟨#[47]⟩ : ByteArray)).size + 0 := by rw [hsz, hz]; omega
      have e3 : (a ++ ⟨#[47]⟩ ++ s).extract 0 a.size = a := by
        apply Pth.ba_ext
        · rw [Pth.ext_size, hsz]; omega
        · intro k hk
          rw [Pth.ext_size, hsz] at hk
          rw [Pth.ext_bt _ _ _ _ (by rw [hsz]; omega), Nat.zero_add, app_bt_l _ _ _ (by omega), app_bt_l _ _ _ (by omega)]
      simp only [pcsF]
      rw [e1, hm, if_pos (by decide), e2, pcs_shift _ s s.size 0 (Nat.le_refl _), e3]
      rfl
    | succ j ih =>
      intro hj
      show pcsF _ (s.size + 1 + j + 1) 0 = _
      have e1 : (a ++ ⟨#[47]⟩ ++ s).size - (s.size + 1 + j + 1) = a.size - (j + 1) := by rw [hsz]; omega
      simp only [pcsF]
      rw [e1, app_bt_l _ _ _ (by omega), app_bt_l _ _ _ (by omega), if_neg (by simpa using h (a.size - (j + 1)) (by omega))]
      exact ih (by omega)
  unfold pcs
  rw [hsz, show a.size + 1 + s.size = s.size + 1 + a.size by omega]
  exact key a.size (Nat.le_refl _)
theorem parts_ahead (a s : ByteArray) (h : ∀ k, k < a.size → bt a k ≠ 47) : partsL (a ++ ⟨#[47]⟩ ++ s) = if 0 < a.size then a :: partsL s else partsL s := by
  unfold partsL
  rw [pcs_ahead a s h, List.filter_cons]
  by_cases e : 0 < a.size
  · simp [e]
  · simp [e]
theorem d1 : (⟨#[46, 47]⟩ : ByteArray) = ⟨#[46]⟩ ++ ⟨#[47]⟩ := rfl
theorem parts_dot (s : ByteArray) : partsL (⟨#[46, 47]⟩ ++ s) = ⟨#[46]⟩ :: partsL s := by
  rw [d1, parts_ahead _ _ (by decide)]; rfl
theorem parts_sl (s : ByteArray) : partsL (⟨#[47]⟩ ++ s) = partsL s := by
  have := parts_ahead ⟨#[]⟩ s (by intro k hk; exact absurd hk (Nat.not_lt_zero k))
  rw [show (⟨#[]⟩ : ByteArray) ++ ⟨#[47]⟩ = ⟨#[47]⟩ from rfl] at this
  rw [this]; rfl
theorem parts_sl2 (s : ByteArray) : partsL (⟨#[47, 47]⟩ ++ s) = partsL s := by
  rw [show (⟨#[47, 47]⟩ : ByteArray) = ⟨#[47]⟩ ++ ⟨#[47]⟩ from rfl, app_assoc, parts_sl, parts_sl]
theorem parts_dd (s : ByteArray) : partsL (⟨#[46, 46, 47, 46, 47, 47]⟩ ++ s) = ⟨#[46, 46]⟩ :: ⟨#[46]⟩ :: partsL s := by
  rw [show (⟨#[46, 46, 47, 46, 47, 47]⟩ : ByteArray) = (⟨#[46, 46]⟩ ++ ⟨#[47]⟩) ++ (⟨#[46, 47]⟩ ++ ⟨#[47]⟩) from rfl, app_assoc, parts_ahead _ _ (by decide), app_assoc, parts_dot, parts_sl]
  rfl
theorem parts_some {s : ByteArray} (h0 : 0 < s.size) (h : bt s 0 ≠ 47) : (partsL s).length ≠ 0 := by
  have key : ∀ n b, n < s.size → b = 0 → (∃ x ∈ pcsF s n b, 0 < x.size) := by
    intro n
    induction n with
    | zero => intro b hn hb; subst hb; exact ⟨s.extract 0 s.size, by simp [pcsF], by rw [Pth.ext_size]; omega⟩
    | succ n ih =>
      intro b hn hb
      subst hb
      simp only [pcsF]
      split
      · exact ⟨_, List.mem_cons_self, by rw [Pth.ext_size]; omega⟩
      · exact ih 0 (by omega) rfl
  intro e
  have hnil : partsL s = [] := List.length_eq_zero_iff.1 e
  unfold partsL at hnil
  rw [List.filter_eq_nil_iff] at hnil
  obtain ⟨n, hn⟩ : ∃ n, s.size = n + 1 := ⟨s.size - 1, by omega⟩
  obtain ⟨x, hx, hx2⟩ := key n 0 (by omega) rfl
  refine hnil x ?_ (by simpa using hx2)
  unfold pcs
  rw [hn]
  simp only [pcsF]
  rw [if_neg]
  · exact hx
  · rw [show s.size - (n + 1) = 0 by omega]; simpa using h
theorem has_app (a s : ByteArray) (c : Int) (ha : hasB a c = false) : hasB (a ++ s) c = hasB s c := by
  unfold hasB at ha ⊢
  have ha' := of_decide_eq_false ha
  apply decide_eq_decide.2
  constructor
  · rintro ⟨k, hk, hb⟩
    rw [app_size] at hk
    by_cases e : k < a.size
    · rw [app_bt_l _ _ _ e] at hb; exact absurd ⟨k, e, hb⟩ ha'
    · rw [app_bt_r _ _ _ (by omega)] at hb; exact ⟨k - a.size, by omega, hb⟩
  · rintro ⟨k, hk, hb⟩
    exact ⟨a.size + k, by rw [app_size]; omega, by rw [app_bt_r _ _ _ (by omega), show a.size + k - a.size = k by omega]; exact hb⟩
theorem wrong_app {a s : ByteArray} (ha : hasB a 0 = false) (h0 : 0 < s.size) (h : a.size + s.size ≤ 4095) : wrongE (a ++ s) = wrongE s := by
  unfold wrongE
  rw [app_size, has_app a s 0 ha, if_neg (show ¬ a.size + s.size = 0 by omega), if_neg (show ¬ 4095 < a.size + s.size by omega), if_neg (show ¬ s.size = 0 by omega), if_neg (show ¬ 4095 < s.size by omega)]
theorem sls_app {a s : ByteArray} (h0 : 0 < s.size) : slsB (a ++ s) = slsB s := by
  unfold slsB
  rw [app_size, app_bt_r _ _ _ (by omega), decide_eq_true (by omega), decide_eq_true h0, show a.size + s.size - 1 - a.size = s.size - 1 by omega]

section
variable {V : Int → Option Vw} {x : Vw} (hv : V 1 = some x) (hk : x.kind = 2) (hm : ¬ x.mode / 64 % 2 = 0) (hu : x.up = 1)
include hk hm in
theorem root_open : closE (some x) = 0 := by simp [closE, hk, hm]
include hv hk hm hu
theorem loop_dot (k : Nat → Int → ByteArray → Pla × Int) (follow slash : Bool) (links : Nat) (y : ByteArray) (l : List ByteArray) (p q : Pla) (s : ByteArray) (hs : s = ⟨#[46]⟩ ∨ s = ⟨#[46, 46]⟩) : loopM V k follow slash links 1 (s :: y :: l) p = loopM V k follow slash links 1 (y :: l) q := by
  have hc := root_open hk hm
  have hst : stepM V 1 s = (⟨1, 0, ⟨#[]⟩⟩, 0) := by
    rcases hs with rfl | rfl
    · exact step_dot hv hc
    · rw [step_up hv hc, hu]
  have hkd : kindV (V 1) = 2 := by rw [hv]; exact hk
  conv => lhs; unfold loopM
  rw [hst]
  simp only [ne_eq, not_true, if_false]
  rw [hkd, if_neg (by rintro ⟨_, e⟩; exact absurd e (by decide))]
  rfl
/-- Dots and slashes ahead lead to the same. -/
theorem way_dots (follow : Bool) (f : Nat) {s a : ByteArray} (h0 : 0 < s.size) (h1 : s.size ≤ 500) (h47 : bt s 0 ≠ 47) (ha : hasB a 0 = false) (has : a.size ≤ 100) (hp : ∃ pre, (∀ z ∈ pre, z = ⟨#[46]⟩ ∨ z = (⟨#[46, 46]⟩ : ByteArray)) ∧ partsL (a ++ s) = pre ++ partsL s) : wayM V follow (f + 1) 0 1 (a ++ s) = wayM V follow (f + 1) 0 1 s := by
  obtain ⟨pre, hpre, hpp⟩ := hp
  have hne := parts_some h0 h47
  simp only [wayM]
  rw [wrong_app ha h0 (by omega), sls_app h0]
  have g1 : goL s = partsL s := if_neg hne
  have g2 : goL (a ++ s) = pre ++ partsL s := by rw [← hpp]; exact if_neg (by rw [hpp, List.length_append]; omega)
  have e1 : (if absB (a ++ s) = true then (1 : Int) else 1) = 1 := by split <;> rfl
  have e2 : (if absB s = true then (1 : Int) else 1) = 1 := by split <;> rfl
  rw [g1, g2, e1, e2]
  split
  · rfl
  · cases hps : partsL s with
    | nil => rw [hps] at hne; exact absurd rfl hne
    | cons y l =>
      clear hpp g2
      induction pre with
      | nil => rfl
      | cons z pre ih =>
        have hz := hpre z (by simp)
        have ih' := ih (fun z' h' => hpre z' (List.mem_cons_of_mem _ h'))
        rw [← ih']
        cases pre with
        | nil => exact loop_dot hv hk hm hu _ _ _ _ _ _ _ _ _ hz
        | cons z2 pre => exact loop_dot hv hk hm hu _ _ _ _ _ _ _ _ _ hz
end
end Go.Proofs.Ytgdjoojghkdcbaa

/- WalkDots, walked. Conditions: none beyond the law's own tests. -/
namespace Go.Proofs.Ytgdjoojghkdcbaa
open Go.RowKit Go.PlainAid
set_option linter.unusedSimpArgs false

theorem Hd.rootV {k : Nat} {S : St} {R : List Nr} {ds : List Nat} (h : Hd k S R ds) : ∃ n x, R[1]? = some n ∧ 0 ≤ n.mode ∧ n.mode ≤ 4095 ∧ vwS S 1 = some x ∧ x.kind = 2 ∧ x.mode = n.mode ∧ x.up = 1 := by
  obtain ⟨n, hn, hk⟩ := h.sim.root
  obtain ⟨u, hu, hup⟩ := h.sim.node 1 n (by decide) hn (by omega)
  have hl := h.named 1 n (by decide) hn (by omega)
  have h1 : Ytgdjoojghkdcbaa.upR R 1 = 1 := by
    unfold Ytgdjoojghkdcbaa.upR
    rcases upF_rng 1 (R.drop 1) 1 with e | ⟨q, m, e1, e2, _⟩
    · exact e
    · have := lk_mem (id := 1) (List.mem_of_getElem? e1)
      have hl' : linksR R 1 = 1 := hl
      unfold linksR at hl'
      rw [if_pos rfl] at hl'
      omega
  have hu' : S.get 1 = some ⟨n.kind, n.mode, linksR R 1, n.holds, n.data, n.ents, u⟩ := hu
  refine ⟨n, _, hn, (h.sim.mode n (List.mem_of_getElem? hn)).1, (h.sim.mode n (List.mem_of_getElem? hn)).2, vw_dir hu' hk, rfl, rfl, ?_⟩
  show u = 1
  rw [hup hk (by rw [hl]; decide)]
  exact h1

theorem mode_bit {m : Int} (h0 : 0 ≤ m) (h1 : m ≤ 4095) : ((wrap64 (m.tdiv 64)).tmod 2 == 0) = decide (m / 64 % 2 = 0) := by
  rw [Int.tdiv_eq_ediv_of_nonneg h0, show wrap64 (m / 64) = m / 64 by unfold wrap64; omega, Int.tmod_eq_emod_of_nonneg (by omega)]
  by_cases e : m / 64 % 2 = 0
  · rw [e]; rfl
  · rw [decide_eq_false e]; simpa using e
/-- The four ways of the law. -/
theorem four_ways {S : St} {x : Vw} (hv : vwS S 1 = some x) (hk : x.kind = 2) (hm : ¬ x.mode / 64 % 2 = 0) (hu : x.up = 1) (follow : Bool) {s : ByteArray} (h0 : 1 ≤ s.size) (h1 : s.size ≤ 500) (h47 : bt s 0 ≠ 47) :
    wayM (vwS S) follow 41 0 1 (⟨#[46, 47]⟩ ++ s) = wayM (vwS S) follow 41 0 1 s ∧ wayM (vwS S) follow 41 0 1 (⟨#[46, 46, 47, 46, 47, 47]⟩ ++ s) = wayM (vwS S) follow 41 0 1 s ∧ wayM (vwS S) follow 41 0 1 (⟨#[47, 47]⟩ ++ s) = wayM (vwS S) follow 41 0 1 s := by
  refine ⟨?_, ?_, ?_⟩
  · exact way_dots hv hk hm hu follow 40 h0 h1 h47 (by decide) (by decide) ⟨[⟨#[46]⟩], by intro z hz; simp at hz; exact .inl hz, by rw [parts_dot]; rfl⟩
  · exact way_dots hv hk hm hu follow 40 h0 h1 h47 (by decide) (by decide) ⟨[⟨#[46, 46]⟩, ⟨#[46]⟩], by intro z hz; simp at hz; exact hz.symm, by rw [parts_dd]; rfl⟩
  · exact way_dots hv hk hm hu follow 40 h0 h1 h47 (by decide) (by decide) ⟨[], by intro z hz; simp at hz, by rw [parts_sl2]; rfl⟩

set_option maxHeartbeats 2000000 in
set_option maxRecDepth 100000 in
theorem dots5_early (v0 : Value) (os : List Opn) (s : ByteArray) (follow : Bool) (w : World) (h : OpsAt w v0 os) (hlen : os.length ≤ maxLen) (hs : s.size ≤ maxLen) (hbad : smB os = false ∨ (smB os = true ∧ (s.size < 1 ∨ 500 < s.size ∨ (1 ≤ s.size ∧ bt s 0 = 47)))) :
    Calls Try.prog 5 #[v0, .string s, .bool follow] w fun e w' => e = .returned (.bool true) ∧ Below w.heap.size w w' := by
  have A := Lib.hid (anchor7 w)
  have H := Lib.hid h
  have HL := Lib.hid hlen
  obtain ⟨a0, c0, rfl⟩ := ops_shape h
  clear h hlen
  unfold maxLen at hs
  go_enter Try.func5, Try.ntmps5
  go_wp2_with fail
  refine A.out.mono ?_
  rintro e w1 ⟨rfl, b1⟩
  have HB1 := Lib.hid b1
  have H1 : Hid (OpsAt w1 (.slice a0 os.length c0) os) := by
    refine Lib.hid ⟨H.out.1, ?_⟩
    rcases H.out.2 with h | ⟨b, off, c, e, hc⟩
    · exact .inl h
    · exact .inr ⟨b, off, c, e, fun i o hi => (hc i o hi).low b1⟩
  have CS := small8 _ os w1 H1.out HL.out
  clear A b1
  rcases hbad with hbad | ⟨hsm, hbad⟩
  · rw [hbad] at CS
    have HC := Lib.hid CS
    clear CS
    go_wp2_with fail
    refine HC.out.mono ?_
    rintro e w2 ⟨rfl, b2⟩
    have HB2 := Lib.hid (HB1.out.trans (b2.mono HB1.out.size))
    clear b2
    go_wp2
    go_ret
    exact ⟨rfl, HB2.out⟩
  · rw [hsm] at CS
    have HC := Lib.hid CS
    clear CS hsm
    go_wp2_with fail
    refine HC.out.mono ?_
    rintro e w2 ⟨rfl, b2⟩
    have HB2 := Lib.hid (HB1.out.trans (b2.mono HB1.out.size))
    clear b2
    have hb := get_bt s
    rcases hbad with hbad | hbad | ⟨h1, h2⟩
    · have q1 : decide (s.size < 1) = true := decide_eq_true hbad
      go_wp2
      go_ret
      exact ⟨rfl, HB2.out⟩
    · have q1 : decide (s.size < 1) = false := decide_eq_false (by omega)
      have q2 : decide (500 < s.size) = true := decide_eq_true hbad
      go_wp2
      go_ret
      exact ⟨rfl, HB2.out⟩
    · have q1 : decide (s.size < 1) = false := decide_eq_false (by omega)
      have hlt : 0 < s.size := by omega
      have q3 : (bt s 0 == 47) = true := by simpa using h2
      by_cases h5 : 500 < s.size
      · have q2 : decide (500 < s.size) = true := decide_eq_true h5
        go_wp2
        go_ret
        exact ⟨rfl, HB2.out⟩
      · have q2 : decide (500 < s.size) = false := decide_eq_false h5
        go_wp2
        go_ret
        exact ⟨rfl, HB2.out⟩

set_option maxHeartbeats 4000000 in
set_option maxRecDepth 100000 in
theorem dots5_main (v0 : Value) (os : List Opn) (s : ByteArray) (follow : Bool) (w : World) (h : OpsAt w v0 os) (hlen : os.length ≤ maxLen) (hsm : smB os = true) (h1 : 1 ≤ s.size) (h5 : s.size ≤ 500) (h47 : bt s 0 ≠ 47) :
    Calls Try.prog 5 #[v0, .string s, .bool follow] w fun e w' => e = .returned (.bool true) ∧ Below w.heap.size w w' := by
  have A := Lib.hid (anchor7 w)
  have H := Lib.hid h
  have HL := Lib.hid hlen
  obtain ⟨a0, c0, rfl⟩ := ops_shape h
  clear h hlen
  go_enter Try.func5, Try.ntmps5
  go_wp2_with fail
  refine A.out.mono ?_
  rintro e w1 ⟨rfl, b1⟩
  have HB1 := Lib.hid b1
  have ops_low : ∀ w', Below w.heap.size w w' → OpsAt w' (.slice a0 os.length c0) os := by
    intro w' b1
    refine ⟨H.out.1, ?_⟩
    rcases H.out.2 with h | ⟨b, off, c, e, hc⟩
    · exact .inl h
    · exact .inr ⟨b, off, c, e, fun i o hi => (hc i o hi).low b1⟩
  have CS := small8 _ os w1 (ops_low w1 b1) HL.out
  have HOL := Lib.hid ops_low
  have HSM := Lib.hid hsm
  rw [hsm] at CS
  have HC := Lib.hid CS
  clear A b1 ops_low CS hsm
  go_wp2_with fail
  refine HC.out.mono ?_
  rintro e w2 ⟨rfl, b2⟩
  have B2 := HB1.out.trans (b2.mono HB1.out.size)
  have CB := Lib.hid (built9 _ os w2 (HOL.out w2 B2) (by have := (smB_ok HSM.out).1; omega) (smB_ok HSM.out).2)
  have HB2 := Lib.hid B2
  clear b2 B2 HC HB1
  have hb := get_bt s
  have q1 : decide ((s.size : Int) < 1) = false := decide_eq_false (by omega)
  have q2 : decide (500 < (s.size : Int)) = false := decide_eq_false (by omega)
  have hlt : 0 < s.size := by omega
  have q3 : (bt s 0 == 47) = false := by simpa using h47
  have H1 := Lib.hid h1
  have H5 := Lib.hid h5
  have H47 := Lib.hid h47
  clear h1 h47
  go_wp2_with fail
  refine CB.out.mono ?_
  rintro e w3 ⟨D, L, S, R, ds, v, Z, rfl, K, B, Hh, hZ, X, b3, O⟩
  obtain ⟨g, c, rfl⟩ := X.shape (by have := Hh.sim.two; rw [← hZ] at this; simp at this; omega)
  obtain ⟨n, x, hn, m1, m2, hx, xk, xm, xu⟩ := Hh.rootV
  rw [← hZ] at hn
  obtain ⟨ev, hev⟩ := zn_get hn
  have A3 := (Below.refl w3.heap.size w3).alloc (Nat.le_refl _) (.cells #[.slice (some ⟨g, 0, none⟩) Z.length c, .int .i64 1048576] 28)
  have cm := ((X.below A3).at hev).c1
  have hz1 : 1 < Z.length := by have := Hh.sim.two; rw [← hZ] at this; simp at this; omega
  have hz2 : (1 : Int) < Z.length := by omega
  have B3 := HB2.out.trans (b3.mono HB2.out.size)
  have HB3 := Lib.hid (B3.trans (A3.mono B3.size))
  have HK := Lib.hid (K.below A3)
  have HG := Lib.hid Hh.good
  have HX := Lib.hid (And.intro hx (And.intro xk (And.intro xm xu)))
  have HM := Lib.hid (And.intro m1 m2)
  clear hev hn hx xk xm xu CB K B Hh hZ X b3 O B3 A3 HB2 m1 m2
  have hmb := mode_bit HM.out.1 HM.out.2
  by_cases hm0 : n.mode / 64 % 2 = 0
  · rw [decide_eq_true hm0] at hmb
    clear hm0
    go_wp2
    go_ret
    exact ⟨rfl, HB3.out⟩
  rw [decide_eq_false hm0] at hmb
  obtain ⟨f1, f2, f3⟩ := four_ways HX.out.1 HX.out.2.1 (by rw [HX.out.2.2.1]; exact hm0) HX.out.2.2.2 follow H1.out H5.out H47.out
  have C1 := find10 L D S _ HK.out HG.out 1 (in64 (by decide)) s (by have := H5.out; omega) follow
  have CA : ∀ w', Below (w3.alloc (.cells #[.slice (some ⟨g, 0, none⟩) Z.length c, .int .i64 1048576] 28)).heap.size (w3.alloc (.cells #[.slice (some ⟨g, 0, none⟩) Z.length c, .int .i64 1048576] 28)) w' → Calls Try.prog 10 #[.pointer (some ⟨D, 0, none⟩), .int .i64 1, .string (⟨#[46, 47]⟩ ++ s), .bool follow] w' (GivesP w' (wayM (vwS S) follow 41 0 1 s)) ∧ Calls Try.prog 10 #[.pointer (some ⟨D, 0, none⟩), .int .i64 1, .string (⟨#[46, 46, 47, 46, 47, 47]⟩ ++ s), .bool follow] w' (GivesP w' (wayM (vwS S) follow 41 0 1 s)) ∧ Calls Try.prog 10 #[.pointer (some ⟨D, 0, none⟩), .int .i64 1, .string (⟨#[47, 47]⟩ ++ s), .bool follow] w' (GivesP w' (wayM (vwS S) follow 41 0 1 s)) := by
    intro w' hb'
    have e2 : (⟨#[46, 47]⟩ : ByteArray).size = 2 := rfl
    have e6 : (⟨#[46, 46, 47, 46, 47, 47]⟩ : ByteArray).size = 6 := rfl
    have e3 : (⟨#[47, 47]⟩ : ByteArray).size = 2 := rfl
    have h5 := H5.out
    refine ⟨?_, ?_, ?_⟩
    · rw [← f1]; exact find10 L D S _ (HK.out.below hb') HG.out 1 (in64 (by decide)) _ (by rw [app_size, e2]; omega) follow
    · rw [← f2]; exact find10 L D S _ (HK.out.below hb') HG.out 1 (in64 (by decide)) _ (by rw [app_size, e6]; omega) follow
    · rw [← f3]; exact find10 L D S _ (HK.out.below hb') HG.out 1 (in64 (by decide)) _ (by rw [app_size, e3]; omega) follow
  clear f1 f2 f3 hm0
  generalize wayM (vwS S) follow 41 0 1 s = T at C1 CA
  obtain ⟨⟨pn, pd, pm⟩, pe⟩ := T
  have HC1 := Lib.hid C1
  have HCA := Lib.hid CA
  have HB0 := Lib.hid (Below.refl (w3.alloc (.cells #[.slice (some ⟨g, 0, none⟩) Z.length c, .int .i64 1048576] 28)).heap.size (w3.alloc (.cells #[.slice (some ⟨g, 0, none⟩) Z.length c, .int .i64 1048576] 28)))
  clear C1 CA
  go_wp2_with fail
  refine HC1.out.mono ?_
  rintro e w4 ⟨rfl, b4⟩
  have B5 := b4.alloc b4.size (.cells #[.int .i64 pn, .int .i64 pd, .string pm] 32)
  have N5 := heap_alloc_new w4 (.cells #[.int .i64 pn, .int .i64 pd, .string pm] 32)
  have HC2 := Lib.hid (HCA.out _ B5).1
  have HB5 := Lib.hid B5
  have HN5 := Lib.hid N5
  clear HC1 b4 B5 N5
  go_wp2_with fail
  refine HC2.out.mono ?_
  rintro e w6 ⟨rfl, b6⟩
  have B6 := HB5.out.trans (b6.mono HB5.out.size)
  have N6 := (b6.block _ (lt_of_block HN5.out)).trans HN5.out
  have B7 := B6.alloc B6.size (.cells #[.int .i64 pn, .int .i64 pd, .string pm] 32)
  have A7 := (Below.refl w6.heap.size w6).alloc (Nat.le_refl _) (.cells #[.int .i64 pn, .int .i64 pd, .string pm] 32)
  have N7 := (A7.block _ (lt_of_block N6)).trans N6
  have M7 := heap_alloc_new w6 (.cells #[.int .i64 pn, .int .i64 pd, .string pm] 32)
  have HC3 := Lib.hid (HCA.out _ B7).2.1
  have HB7 := Lib.hid B7
  have HN7 := Lib.hid N7
  have HM7 := Lib.hid M7
  clear HC2 b6 B6 N6 B7 A7 N7 M7 HB5 HN5
  go_wp2_with fail
  refine HC3.out.mono ?_
  rintro e w8 ⟨rfl, b8⟩
  have B8 := HB7.out.trans (b8.mono HB7.out.size)
  have N8 := (b8.block _ (lt_of_block HN7.out)).trans HN7.out
  have M8 := (b8.block _ (lt_of_block HM7.out)).trans HM7.out
  have B9 := B8.alloc B8.size (.cells #[.int .i64 pn, .int .i64 pd, .string pm] 32)
  have A9 := (Below.refl w8.heap.size w8).alloc (Nat.le_refl _) (.cells #[.int .i64 pn, .int .i64 pd, .string pm] 32)
  have N9 := (A9.block _ (lt_of_block N8)).trans N8
  have M9 := (A9.block _ (lt_of_block M8)).trans M8
  have P9 := heap_alloc_new w8 (.cells #[.int .i64 pn, .int .i64 pd, .string pm] 32)
  have HC4 := Lib.hid (HCA.out _ B9).2.2
  have HB9 := Lib.hid B9
  have HN9 := Lib.hid N9
  have HM9 := Lib.hid M9
  have HP9 := Lib.hid P9
  clear HC3 b8 B8 N8 M8 B9 A9 N9 M9 P9 HB7 HN7 HM7
  go_wp2_with fail
  refine HC4.out.mono ?_
  rintro e w10 ⟨rfl, b10⟩
  have B10 := HB9.out.trans (b10.mono HB9.out.size)
  have N10 := (b10.block _ (lt_of_block HN9.out)).trans HN9.out
  have M10 := (b10.block _ (lt_of_block HM9.out)).trans HM9.out
  have P10 := (b10.block _ (lt_of_block HP9.out)).trans HP9.out
  have A11 := (Below.refl w10.heap.size w10).alloc (Nat.le_refl _) (.cells #[.int .i64 pn, .int .i64 pd, .string pm] 32)
  have N11 := (A11.block _ (lt_of_block N10)).trans N10
  have M11 := (A11.block _ (lt_of_block M10)).trans M10
  have P11 := (A11.block _ (lt_of_block P10)).trans P10
  have B11 := B10.alloc B10.size (.cells #[.int .i64 pn, .int .i64 pd, .string pm] 32)
  have HBF := Lib.hid (HB3.out.trans (B11.mono HB3.out.size))
  have x0 := cells_at N11 (i := 0) rfl
  have x1 := cells_at N11 (i := 1) rfl
  have x2 := cells_at N11 (i := 2) rfl
  have y0 := cells_at M11 (i := 0) rfl
  have y1 := cells_at M11 (i := 1) rfl
  have y2 := cells_at M11 (i := 2) rfl
  have z0 := cells_at P11 (i := 0) rfl
  have z1 := cells_at P11 (i := 1) rfl
  have z2 := cells_at P11 (i := 2) rfl
  clear HC4 b10 B10 N10 M10 P10 A11 N11 M11 P11 B11 HB9 HN9 HM9 HP9 HB3 HCA HB0 HK HG HX HM hmb q1 q2 q3 hb cm
  go_wp2
  go_ret
  exact ⟨rfl, HBF.out⟩

set_option maxRecDepth 100000 in
theorem open_opsL {H : Type} {enc : TypeId × Value → H} {W : World} {base : Nat} {v : Value} {d : DataW H} {p : List MemPlace} (hv : Value.okWide Try.prog W .any base 22 v) (h : DataW.Trod enc Try.prog W 0 (fun _ => true) true 22 v d p) :
    ∃ os, OpsAt W v os ∧ os.length ≤ maxLen := by
  obtain ⟨os, ho⟩ := open_ops hv h
  exact ⟨os, ho, ops_len h ho⟩
theorem dots_in (v0 : Value) (os : List Opn) (s : ByteArray) (follow : Bool) (hs : s.size ≤ 140737488351232) (w : World) (h : OpsAt w v0 os ∧ os.length ≤ maxLen) :
    Calls Try.prog 5 #[v0, .string s, .bool follow] w fun e w' => e = .returned (.bool true) ∧ Below w.heap.size w w' := by
  have hs' : s.size ≤ maxLen := by unfold maxLen; omega
  cases hsm : smB os with
  | false => exact dots5_early v0 os s follow w h.1 h.2 hs' (.inl hsm)
  | true =>
    by_cases h1 : s.size < 1
    · exact dots5_early v0 os s follow w h.1 h.2 hs' (.inr ⟨hsm, .inl h1⟩)
    by_cases h5 : 500 < s.size
    · exact dots5_early v0 os s follow w h.1 h.2 hs' (.inr ⟨hsm, .inr (.inl h5)⟩)
    by_cases h47 : bt s 0 = 47
    · exact dots5_early v0 os s follow w h.1 h.2 hs' (.inr ⟨hsm, .inr (.inr ⟨by omega, h47⟩)⟩)
    · exact dots5_main v0 os s follow w h.1 h.2 hsm (by omega) (by omega) h47
end Go.Proofs.Ytgdjoojghkdcbaa

/- WalkDots: for every input the law's function returns true, and each argument reads behind the call as it read before. Conditions: none but the row's own. -/
namespace Go.Proofs.Ytgdjoojghkdcbaa.walkDots
open Go.ChangeShapes Go.WideShapes Go.ChangeAt Go.RowKit
open Go.ChangeMaps (open_string shut_string)
set_option linter.unusedVariables false

theorem own : ownKnob Try.prog.godebug = none := by kernel_rfl
theorem laidOut : laidOutB Try.prog = true := by kernel_rfl

set_option maxRecDepth 100000 in
theorem lifted (os : Os) (started : os.Started) (H : Type) (enc : TypeId × Value → H) :
    ReturnsInHanded {} Try.checked os 5 .any (Rows.walkDotsSpec.pre6 enc Try.prog Try.f5 Rows.walkDotsRow.domain false) (Rows.walkDotsSpec.post enc Try.prog Try.f5 false true false false) := by
  refine returnsInHanded_of_change_sized (C := Try.checked) own started (by kernel_rfl) Try.func5
    (ChangeSpec.witness6 (enc := enc) (C := Try.checked) false ⟨#[], #[.slice none 0 0, .string ByteArray.empty, .bool false], []⟩ 8 (by kernel_rfl) (by kernel_rfl) (by kernel_rfl) (by kernel_rfl)) ?_
  intro W base args ds gs before hval0 hW _ hsz0 _
  have hsz : (DataW.weightsEach Try.prog (Try.f5.params.toList ++ Rows.walkDotsSpec.plain.varTypes Try.prog) (ds ++ gs)).all (· ≤ reachBytes) = true := hsz0
  clear hsz0
  have hval : ∀ (j : Nat) t v, Try.f5.params[j]? = some t → args[j]? = some v → Value.okWide Try.prog W .any base t v := hval0
  have hW' := hW
  obtain ⟨p, q, hA0, hV, rfl, hfz, hnd⟩ := hW
  have hA : DataW.TrodAll enc Try.prog W 0 (fun _ => true) true Try.f5.params.toList args.toList ds p := hA0
  rw [Try.params5] at hA hval hsz
  obtain ⟨v0, vs0, d0, ds0, p0, q0, hargs, rfl, rfl, h0, r0⟩ := trodAll_cons hA
  obtain ⟨v1, vs1, d1, ds1, p1, q1, rfl, rfl, rfl, h1, r1⟩ := trodAll_cons r0
  obtain ⟨v2, vs2, d2, ds2, p2, q2, rfl, rfl, rfl, h2, r2⟩ := trodAll_cons r1
  obtain ⟨rfl, rfl, rfl⟩ := trodAll_nil r2
  obtain rfl : args = #[v0, v1, v2] := by cases args; simp_all
  obtain ⟨rfl, rfl⟩ := trodVars_none hV
  have k0 := h0
  have lt0 : ∀ x ∈ p0, x.block < W.heap.size := by obtain ⟨m, hm⟩ := k0; exact DataW.trod_lt m _ _ _ hm
  obtain ⟨a0, w0⟩ := open_opsL (hval 0 22 v0 rfl rfl) h0
  obtain ⟨a1, rfl, rfl, rfl, w1⟩ := open_string Try.underlying9 (hval 1 9 v1 rfl rfl) h1
  obtain ⟨a2, rfl, rfl, rfl⟩ := open_bool Try.underlying4 (hval 2 4 v2 rfl rfl) h2
  clear hA0 hval0
  have hs1 : a1.size ≤ 140737488351232 := by
    have := sized_string hsz (j := 1) (t := 9) rfl rfl
    simpa [reachBytes] using this
  simp only [List.append_nil] at hW'
  refine (dots_in v0 a0 a1 a2 hs1 W w0).mono fun e W' ⟨he, bel⟩ => ?_
  subst he
  exact ⟨_, rfl, _, _, _, [], _, [], hW', trodAll_mk1 (shut_bool Try.underlying4 _), (trodAll_cons_mk (Below.trod laidOut (by kernel_rfl) (of_decide_eq_true (by kernel_rfl)) k0 bel lt0) (trodAll_cons_mk (shut_string Try.underlying9 w1) (trodAll_cons_mk (shut_bool Try.underlying4 _) trodAll_mk0))), rfl, bel.frame _, fun h => by cases h⟩

theorem over : Rows.walkDotsRow.holds Try.pinned (OpenSpec.ofChange Rows.walkDotsSpec) :=
  OpenClaim.holds_of_wide 5 Try.f5 rfl rfl rfl rfl rfl rfl rfl ⟨rfl, rfl, rfl, rfl, rfl⟩ rfl rfl rfl rfl rfl (by kernel_rfl) Try.func5 (by kernel_rfl)
    (of_decide_eq_true (by kernel_rfl)) (by unfold Func.isWrapper; first | (rw [if_pos (by decide +kernel)]; kernel_rfl) | (rw [if_neg (by decide +kernel)]; exact ⟨rfl, rfl⟩))
    (fun os started H enc _ => lifted os started H enc)

end Go.Proofs.Ytgdjoojghkdcbaa.walkDots

namespace Go.Proofs.Ytgdjoojghkdcbaa
theorem walkDots_holds : Rows.WalkDotsSaid := walkDots.over
#print axioms walkDots_holds
end Go.Proofs.Ytgdjoojghkdcbaa
