/- Dots and slashes ahead of a path lead to the same: plain. Conditions: the root is the law's. -/
import Derived.Test.YtgdjoojghkdcbaaMu
import Derived.Laws.IdiomCopy
import Derived.Deep.RegionHeld3
import Derived.Deep.AppendLies
import Derived.Test.YtgdjoojghkdcbaaFa
import Derived.Test.YtgdjoojghkdcbaaFb
import Derived.WalkKit
import Derived.ProofKit
import Derived.OpenShut
import Derived.ShutString
import Derived.ChangeOld
import Derived.Below
import Derived.SizedLaws
namespace Go.Proofs.Ytgdjoojghkdcbaa
open Go.RowKit Go.PlainAid Pth
set_option linter.unusedSimpArgs false

theorem app_bt_l (a b : ByteArray) (k : Nat) (h : k < a.size) : bt (a ++ b) k = bt a k := by
  have h2 : k < (a ++ b).size := by rw [app_size]; omega
  unfold bt
  rw [dif_pos h2, dif_pos h, ByteArray.getElem_append_left h]
theorem app_bt_r (a b : ByteArray) (k : Nat) (h : a.size ≤ k) : bt (a ++ b) k = bt b (k - a.size) := by
  unfold bt
  by_cases h2 : k - a.size < b.size
  · rw [dif_pos (by rw [app_size]; omega), dif_pos h2, ByteArray.getElem_append_right h]
  · rw [dif_neg (by rw [app_size]; omega), dif_neg h2]
theorem app_ext_r (p s : ByteArray) (a b : Nat) : (p ++ s).extract (p.size + a) (p.size + b) = s.extract a b := by
  apply Pth.ba_ext
  · rw [Pth.ext_size, Pth.ext_size, app_size]; omega
  · intro k hk
    rw [Pth.ext_size, app_size] at hk
    rw [Pth.ext_bt _ _ _ _ (by rw [app_size]; omega), Pth.ext_bt _ _ _ _ (by omega), app_bt_r _ _ _ (by omega)]
    congr 1
    omega
theorem pcs_shift (p s : ByteArray) : ∀ n b, n ≤ s.size → pcsF (p ++ s) n (p.size + b) = pcsF s n b
  | 0, b, _ => by
    simp only [pcsF]
    rw [app_size, app_ext_r]
  | n + 1, b, h => by
    have e : (p ++ s).size - (n + 1) = p.size + (s.size - (n + 1)) := by rw [app_size]; omega
    have e2 : (p ++ s).size - n = p.size + (s.size - n) := by rw [app_size]; omega
    have hb : bt (p ++ s) ((p ++ s).size - (n + 1)) = bt s (s.size - (n + 1)) := by rw [e, app_bt_r _ _ _ (by omega)]; congr 1; omega
    simp only [pcsF]
    rw [hb, e, e2, app_ext_r, pcs_shift p s n (s.size - n) (by omega), pcs_shift p s n b (by omega)]
/-- A piece without slashes, and a slash, ahead. -/
theorem pcs_ahead (a s : ByteArray) (h : ∀ k, k < a.size → bt a k ≠ 47) : pcs (a ++ ⟨#[47]⟩ ++ s) = a :: pcs s := by
  have hz : (a ++ (⟨#[47]⟩ : ByteArray)).size = a.size + 1 := by rw [app_size]; rfl
  have hsz : (a ++ ⟨#[47]⟩ ++ s).size = a.size + 1 + s.size := by rw [app_size, hz]
  have hm : bt (a ++ ⟨#[47]⟩ ++ s) a.size = 47 := by rw [app_bt_l _ _ _ (by omega), app_bt_r _ _ _ (Nat.le_refl _), Nat.sub_self]; rfl
  have key : ∀ j, j ≤ a.size → pcsF (a ++ ⟨#[47]⟩ ++ s) (s.size + 1 + j) 0 = a :: pcs s := by
    intro j
    induction j with
    | zero =>
      intro _
      show pcsF _ (s.size + 1) 0 = _
      have e1 : (a ++ ⟨#[47]⟩ ++ s).size - (s.size + 1) = a.size := by rw [hsz]; omega
      have e2 : (a ++ ⟨#[47]⟩ ++ s).size - s.size = (a ++ (⟨#[47]⟩ : ByteArray)).size + 0 := by rw [hsz, hz]; omega
      have e3 : (a ++ ⟨#[47]⟩ ++ s).extract 0 a.size = a := by
        apply Pth.ba_ext
        · rw [Pth.ext_size, hsz]; omega
        · intro k hk
          rw [Pth.ext_size, hsz] at hk
          rw [Pth.ext_bt _ _ _ _ (by rw [hsz]; omega), Nat.zero_add, app_bt_l _ _ _ (by omega), app_bt_l _ _ _ (by omega)]
      simp only [pcsF]
      rw [e1, hm, if_pos (by decide), e2, pcs_shift _ s s.size 0 (Nat.le_refl _), e3]
      rfl
    | succ j ih =>
      intro hj
      show pcsF _ (s.size + 1 + j + 1) 0 = _
      have e1 : (a ++ ⟨#[47]⟩ ++ s).size - (s.size + 1 + j + 1) = a.size - (j + 1) := by rw [hsz]; omega
      simp only [pcsF]
      rw [e1, app_bt_l _ _ _ (by omega), app_bt_l _ _ _ (by omega), if_neg (by simpa using h (a.size - (j + 1)) (by omega))]
      exact ih (by omega)
  unfold pcs
  rw [hsz, show a.size + 1 + s.size = s.size + 1 + a.size by omega]
  exact key a.size (Nat.le_refl _)
theorem parts_ahead (a s : ByteArray) (h : ∀ k, k < a.size → bt a k ≠ 47) : partsL (a ++ ⟨#[47]⟩ ++ s) = if 0 < a.size then a :: partsL s else partsL s := by
  unfold partsL
  rw [pcs_ahead a s h, List.filter_cons]
  by_cases e : 0 < a.size
  · simp [e]
  · simp [e]
theorem d1 : (⟨#[46, 47]⟩ : ByteArray) = ⟨#[46]⟩ ++ ⟨#[47]⟩ := rfl
theorem parts_dot (s : ByteArray) : partsL (⟨#[46, 47]⟩ ++ s) = ⟨#[46]⟩ :: partsL s := by
  rw [d1, parts_ahead _ _ (by decide)]; rfl
theorem parts_sl (s : ByteArray) : partsL (⟨#[47]⟩ ++ s) = partsL s := by
  have := parts_ahead ⟨#[]⟩ s (by intro k hk; exact absurd hk (Nat.not_lt_zero k))
  rw [show (⟨#[]⟩ : ByteArray) ++ ⟨#[47]⟩ = ⟨#[47]⟩ from rfl] at this
  rw [this]; rfl
theorem parts_sl2 (s : ByteArray) : partsL (⟨#[47, 47]⟩ ++ s) = partsL s := by
  rw [show (⟨#[47, 47]⟩ : ByteArray) = ⟨#[47]⟩ ++ ⟨#[47]⟩ from rfl, app_assoc, parts_sl, parts_sl]
theorem parts_dd (s : ByteArray) : partsL (⟨#[46, 46, 47, 46, 47, 47]⟩ ++ s) = ⟨#[46, 46]⟩ :: ⟨#[46]⟩ :: partsL s := by
  rw [show (⟨#[46, 46, 47, 46, 47, 47]⟩ : ByteArray) = (⟨#[46, 46]⟩ ++ ⟨#[47]⟩) ++ (⟨#[46, 47]⟩ ++ ⟨#[47]⟩) from rfl, app_assoc, parts_ahead _ _ (by decide), app_assoc, parts_dot, parts_sl]
  rfl
theorem parts_some {s : ByteArray} (h0 : 0 < s.size) (h : bt s 0 ≠ 47) : (partsL s).length ≠ 0 := by
  have key : ∀ n b, n < s.size → b = 0 → (∃ x ∈ pcsF s n b, 0 < x.size) := by
    intro n
    induction n with
    | zero => intro b hn hb; subst hb; exact ⟨s.extract 0 s.size, by simp [pcsF], by rw [Pth.ext_size]; omega⟩
    | succ n ih =>
      intro b hn hb
      subst hb
      simp only [pcsF]
      split
      · exact ⟨_, List.mem_cons_self, by rw [Pth.ext_size]; omega⟩
      · exact ih 0 (by omega) rfl
  intro e
  have hnil : partsL s = [] := List.length_eq_zero_iff.1 e
  unfold partsL at hnil
  rw [List.filter_eq_nil_iff] at hnil
  obtain ⟨n, hn⟩ : ∃ n, s.size = n + 1 := ⟨s.size - 1, by omega⟩
  obtain ⟨x, hx, hx2⟩ := key n 0 (by omega) rfl
  refine hnil x ?_ (by simpa using hx2)
  unfold pcs
  rw [hn]
  simp only [pcsF]
  rw [if_neg]
  · exact hx
  · rw [show s.size - (n + 1) = 0 by omega]; simpa using h
theorem has_app (a s : ByteArray) (c : Int) (ha : hasB a c = false) : hasB (a ++ s) c = hasB s c := by
  unfold hasB at ha ⊢
  have ha' := of_decide_eq_false ha
  apply decide_eq_decide.2
  constructor
  · rintro ⟨k, hk, hb⟩
    rw [app_size] at hk
    by_cases e : k < a.size
    · rw [app_bt_l _ _ _ e] at hb; exact absurd ⟨k, e, hb⟩ ha'
    · rw [app_bt_r _ _ _ (by omega)] at hb; exact ⟨k - a.size, by omega, hb⟩
  · rintro ⟨k, hk, hb⟩
    exact ⟨a.size + k, by rw [app_size]; omega, by rw [app_bt_r _ _ _ (by omega), show a.size + k - a.size = k by omega]; exact hb⟩
theorem wrong_app {a s : ByteArray} (ha : hasB a 0 = false) (h0 : 0 < s.size) (h : a.size + s.size ≤ 4095) : wrongE (a ++ s) = wrongE s := by
  unfold wrongE
  rw [app_size, has_app a s 0 ha, if_neg (show ¬ a.size + s.size = 0 by omega), if_neg (show ¬ 4095 < a.size + s.size by omega), if_neg (show ¬ s.size = 0 by omega), if_neg (show ¬ 4095 < s.size by omega)]
theorem sls_app {a s : ByteArray} (h0 : 0 < s.size) : slsB (a ++ s) = slsB s := by
  unfold slsB
  rw [app_size, app_bt_r _ _ _ (by omega), decide_eq_true (by omega), decide_eq_true h0, show a.size + s.size - 1 - a.size = s.size - 1 by omega]

section
variable {V : Int → Option Vw} {x : Vw} (hv : V 1 = some x) (hk : x.kind = 2) (hm : ¬ x.mode / 64 % 2 = 0) (hu : x.up = 1)
include hk hm in
theorem root_open : closE (some x) = 0 := by simp [closE, hk, hm]
include hv hk hm hu
theorem loop_dot (k : Nat → Int → ByteArray → Pla × Int) (follow slash : Bool) (links : Nat) (y : ByteArray) (l : List ByteArray) (p q : Pla) (s : ByteArray) (hs : s = ⟨#[46]⟩ ∨ s = ⟨#[46, 46]⟩) : loopM V k follow slash links 1 (s :: y :: l) p = loopM V k follow slash links 1 (y :: l) q := by
  have hc := root_open hk hm
  have hst : stepM V 1 s = (⟨1, 0, ⟨#[]⟩⟩, 0) := by
    rcases hs with rfl | rfl
    · exact step_dot hv hc
    · rw [step_up hv hc, hu]
  have hkd : kindV (V 1) = 2 := by rw [hv]; exact hk
  conv => lhs; unfold loopM
  rw [hst]
  simp only [ne_eq, not_true, if_false]
  rw [hkd, if_neg (by rintro ⟨_, e⟩; exact absurd e (by decide))]
  rfl
/-- Dots and slashes ahead lead to the same. -/
theorem way_dots (follow : Bool) (f : Nat) {s a : ByteArray} (h0 : 0 < s.size) (h1 : s.size ≤ 500) (h47 : bt s 0 ≠ 47) (ha : hasB a 0 = false) (has : a.size ≤ 100) (hp : ∃ pre, (∀ z ∈ pre, z = ⟨#[46]⟩ ∨ z = (⟨#[46, 46]⟩ : ByteArray)) ∧ partsL (a ++ s) = pre ++ partsL s) : wayM V follow (f + 1) 0 1 (a ++ s) = wayM V follow (f + 1) 0 1 s := by
  obtain ⟨pre, hpre, hpp⟩ := hp
  have hne := parts_some h0 h47
  simp only [wayM]
  rw [wrong_app ha h0 (by omega), sls_app h0]
  have g1 : goL s = partsL s := if_neg hne
  have g2 : goL (a ++ s) = pre ++ partsL s := by rw [← hpp]; exact if_neg (by rw [hpp, List.length_append]; omega)
  have e1 : (if absB (a ++ s) = true then (1 : Int) else 1) = 1 := by split <;> rfl
  have e2 : (if absB s = true then (1 : Int) else 1) = 1 := by split <;> rfl
  rw [g1, g2, e1, e2]
  split
  · rfl
  · cases hps : partsL s with
    | nil => rw [hps] at hne; exact absurd rfl hne
    | cons y l =>
      clear hpp g2
      induction pre with
      | nil => rfl
      | cons z pre ih =>
        have hz := hpre z (by simp)
        have ih' := ih (fun z' h' => hpre z' (List.mem_cons_of_mem _ h'))
        rw [← ih']
        cases pre with
        | nil => exact loop_dot hv hk hm hu _ _ _ _ _ _ _ _ _ hz
        | cons z2 pre => exact loop_dot hv hk hm hu _ _ _ _ _ _ _ _ _ hz
end
end Go.Proofs.Ytgdjoojghkdcbaa

/- WalkDots, walked. Conditions: none beyond the law's own tests. -/
namespace Go.Proofs.Ytgdjoojghkdcbaa
open Go.RowKit Go.PlainAid
set_option linter.unusedSimpArgs false

theorem Hd.rootV {k : Nat} {S : St} {R : List Nr} {ds : List Nat} (h : Hd k S R ds) : ∃ n x, R[1]? = some n ∧ 0 ≤ n.mode ∧ n.mode ≤ 4095 ∧ vwS S 1 = some x ∧ x.kind = 2 ∧ x.mode = n.mode ∧ x.up = 1 := by
  obtain ⟨n, hn, hk⟩ := h.sim.root
  obtain ⟨u, hu, hup⟩ := h.sim.node 1 n (by decide) hn (by omega)
  have hl := h.named 1 n (by decide) hn (by omega)
  have h1 : Ytgdjoojghkdcbaa.upR R 1 = 1 := by
    unfold Ytgdjoojghkdcbaa.upR
    rcases upF_rng 1 (R.drop 1) 1 with e | ⟨q, m, e1, e2, _⟩
    · exact e
    · have := lk_mem (id := 1) (List.mem_of_getElem? e1)
      have hl' : linksR R 1 = 1 := hl
      unfold linksR at hl'
      rw [if_pos rfl] at hl'
      omega
  have hu' : S.get 1 = some ⟨n.kind, n.mode, linksR R 1, n.holds, n.data, n.ents, u⟩ := hu
  refine ⟨n, _, hn, (h.sim.mode n (List.mem_of_getElem? hn)).1, (h.sim.mode n (List.mem_of_getElem? hn)).2, vw_dir hu' hk, rfl, rfl, ?_⟩
  show u = 1
  rw [hup hk (by rw [hl]; decide)]
  exact h1

theorem mode_bit {m : Int} (h0 : 0 ≤ m) (h1 : m ≤ 4095) : ((wrap64 (m.tdiv 64)).tmod 2 == 0) = decide (m / 64 % 2 = 0) := by
  rw [Int.tdiv_eq_ediv_of_nonneg h0, show wrap64 (m / 64) = m / 64 by unfold wrap64; omega, Int.tmod_eq_emod_of_nonneg (by omega)]
  by_cases e : m / 64 % 2 = 0
  · rw [e]; rfl
  · rw [decide_eq_false e]; simpa using e
/-- The four ways of the law. -/
theorem four_ways {S : St} {x : Vw} (hv : vwS S 1 = some x) (hk : x.kind = 2) (hm : ¬ x.mode / 64 % 2 = 0) (hu : x.up = 1) (follow : Bool) {s : ByteArray} (h0 : 1 ≤ s.size) (h1 : s.size ≤ 500) (h47 : bt s 0 ≠ 47) :
    wayM (vwS S) follow 41 0 1 (⟨#[46, 47]⟩ ++ s) = wayM (vwS S) follow 41 0 1 s ∧ wayM (vwS S) follow 41 0 1 (⟨#[46, 46, 47, 46, 47, 47]⟩ ++ s) = wayM (vwS S) follow 41 0 1 s ∧ wayM (vwS S) follow 41 0 1 (⟨#[47, 47]⟩ ++ s) = wayM (vwS S) follow 41 0 1 s := by
  refine ⟨?_, ?_, ?_⟩
  · exact way_dots hv hk hm hu follow 40 h0 h1 h47 (by decide) (by decide) ⟨[⟨#[46]⟩], by intro z hz; simp at hz; exact .inl hz, by rw [parts_dot]; rfl⟩
  · exact way_dots hv hk hm hu follow 40 h0 h1 h47 (by decide) (by decide) ⟨[⟨#[46, 46]⟩, ⟨#[46]⟩], by intro z hz; simp at hz; exact hz.symm, by rw [parts_dd]; rfl⟩
  · exact way_dots hv hk hm hu follow 40 h0 h1 h47 (by decide) (by decide) ⟨[], by intro z hz; simp at hz, by rw [parts_sl2]; rfl⟩

set_option maxHeartbeats 2000000 in
set_option maxRecDepth 100000 in
theorem dots5_early (v0 : Value) (os : List Opn) (s : ByteArray) (follow : Bool) (w : World) (h : OpsAt w v0 os) (hlen : os.length ≤ maxLen) (hs : s.size ≤ maxLen) (hbad : smB os = false ∨ (smB os = true ∧ (s.size < 1 ∨ 500 < s.size ∨ (1 ≤ s.size ∧ bt s 0 = 47)))) :
    Calls Try.prog 5 #[v0, .string s, .bool follow] w fun e w' => e = .returned (.bool true) ∧ Below w.heap.size w w' := by
  have A := Lib.hid (anchor7 w)
  have H := Lib.hid h
  have HL := Lib.hid hlen
  obtain ⟨a0, c0, rfl⟩ := ops_shape h
  clear h hlen
  unfold maxLen at hs
  go_enter Try.func5, Try.ntmps5
  go_wp2_with fail
  refine A.out.mono ?_
  rintro e w1 ⟨rfl, b1⟩
  have HB1 := Lib.hid b1
  have H1 : Hid (OpsAt w1 (.slice a0 os.length c0) os) := by
    refine Lib.hid ⟨H.out.1, ?_⟩
    rcases H.out.2 with h | ⟨b, off, c, e, hc⟩
    · exact .inl h
    · exact .inr ⟨b, off, c, e, fun i o hi => (hc i o hi).low b1⟩
  have CS := small8 _ os w1 H1.out HL.out
  clear A b1
  rcases hbad with hbad | ⟨hsm, hbad⟩
  · rw [hbad] at CS
    have HC := Lib.hid CS
    clear CS
    go_wp2_with fail
    refine HC.out.mono ?_
    rintro e w2 ⟨rfl, b2⟩
    have HB2 := Lib.hid (HB1.out.trans (b2.mono HB1.out.size))
    clear b2
    go_wp2
    go_ret
    exact ⟨rfl, HB2.out⟩
  · rw [hsm] at CS
    have HC := Lib.hid CS
    clear CS hsm
    go_wp2_with fail
    refine HC.out.mono ?_
    rintro e w2 ⟨rfl, b2⟩
    have HB2 := Lib.hid (HB1.out.trans (b2.mono HB1.out.size))
    clear b2
    have hb := get_bt s
    rcases hbad with hbad | hbad | ⟨h1, h2⟩
    · have q1 : decide (s.size < 1) = true := decide_eq_true hbad
      go_wp2
      go_ret
      exact ⟨rfl, HB2.out⟩
    · have q1 : decide (s.size < 1) = false := decide_eq_false (by omega)
      have q2 : decide (500 < s.size) = true := decide_eq_true hbad
      go_wp2
      go_ret
      exact ⟨rfl, HB2.out⟩
    · have q1 : decide (s.size < 1) = false := decide_eq_false (by omega)
      have hlt : 0 < s.size := by omega
      have q3 : (bt s 0 == 47) = true := by simpa using h2
      by_cases h5 : 500 < s.size
      · have q2 : decide (500 < s.size) = true := decide_eq_true h5
        go_wp2
        go_ret
        exact ⟨rfl, HB2.out⟩
      · have q2 : decide (500 < s.size) = false := decide_eq_false h5
        go_wp2
        go_ret
        exact ⟨rfl, HB2.out⟩

set_option maxHeartbeats 4000000 in
set_option maxRecDepth 100000 in
theorem dots5_main (v0 : Value) (os : List Opn) (s : ByteArray) (follow : Bool) (w : World) (h : OpsAt w v0 os) (hlen : os.length ≤ maxLen) (hsm : smB os = true) (h1 : 1 ≤ s.size) (h5 : s.size ≤ 500) (h47 : bt s 0 ≠ 47) :
    Calls Try.prog 5 #[v0, .string s, .bool follow] w fun e w' => e = .returned (.bool true) ∧ Below w.heap.size w w' := by
  have A := Lib.hid (anchor7 w)
  have H := Lib.hid h
  have HL := Lib.hid hlen
  obtain ⟨a0, c0, rfl⟩ := ops_shape h
  clear h hlen
  go_enter Try.func5, Try.ntmps5
  go_wp2_with fail
  refine A.out.mono ?_
  rintro e w1 ⟨rfl, b1⟩
  have HB1 := Lib.hid b1
  have ops_low : ∀ w', Below w.heap.size w w' → OpsAt w' (.slice a0 os.length c0) os := by
    intro w' b1
    refine ⟨H.out.1, ?_⟩
    rcases H.out.2 with h | ⟨b, off, c, e, hc⟩
    · exact .inl h
    · exact .inr ⟨b, off, c, e, fun i o hi => (hc i o hi).low b1⟩
  have CS := small8 _ os w1 (ops_low w1 b1) HL.out
  have HOL := Lib.hid ops_low
  have HSM := Lib.hid hsm
  rw [hsm] at CS
  have HC := Lib.hid CS
  clear A b1 ops_low CS hsm
  go_wp2_with fail
  refine HC.out.mono ?_
  rintro e w2 ⟨rfl, b2⟩
  have B2 := HB1.out.trans (b2.mono HB1.out.size)
  have CB := Lib.hid (built9 _ os w2 (HOL.out w2 B2) (by have := (smB_ok HSM.out).1; omega) (smB_ok HSM.out).2)
  have HB2 := Lib.hid B2
  clear b2 B2 HC HB1
  have hb := get_bt s
  have q1 : decide ((s.size : Int) < 1) = false := decide_eq_false (by omega)
  have q2 : decide (500 < (s.size : Int)) = false := decide_eq_false (by omega)
  have hlt : 0 < s.size := by omega
  have q3 : (bt s 0 == 47) = false := by simpa using h47
  have H1 := Lib.hid h1
  have H5 := Lib.hid h5
  have H47 := Lib.hid h47
  clear h1 h47
  go_wp2_with fail
  refine CB.out.mono ?_
  rintro e w3 ⟨D, L, S, R, ds, v, Z, rfl, K, B, Hh, hZ, X, b3, O⟩
  obtain ⟨g, c, rfl⟩ := X.shape (by have := Hh.sim.two; rw [← hZ] at this; simp at this; omega)
  obtain ⟨n, x, hn, m1, m2, hx, xk, xm, xu⟩ := Hh.rootV
  rw [← hZ] at hn
  obtain ⟨ev, hev⟩ := zn_get hn
  have A3 := (Below.refl w3.heap.size w3).alloc (Nat.le_refl _) (.cells #[.slice (some ⟨g, 0, none⟩) Z.length c, .int .i64 1048576] 28)
  have cm := ((X.below A3).at hev).c1
  have hz1 : 1 < Z.length := by have := Hh.sim.two; rw [← hZ] at this; simp at this; omega
  have hz2 : (1 : Int) < Z.length := by omega
  have B3 := HB2.out.trans (b3.mono HB2.out.size)
  have HB3 := Lib.hid (B3.trans (A3.mono B3.size))
  have HK := Lib.hid (K.below A3)
  have HG := Lib.hid Hh.good
  have HX := Lib.hid (And.intro hx (And.intro xk (And.intro xm xu)))
  have HM := Lib.hid (And.intro m1 m2)
  clear hev hn hx xk xm xu CB K B Hh hZ X b3 O B3 A3 HB2 m1 m2
  have hmb := mode_bit HM.out.1 HM.out.2
  by_cases hm0 : n.mode / 64 % 2 = 0
  · rw [decide_eq_true hm0] at hmb
    clear hm0
    go_wp2
    go_ret
    exact ⟨rfl, HB3.out⟩
  rw [decide_eq_false hm0] at hmb
  obtain ⟨f1, f2, f3⟩ := four_ways HX.out.1 HX.out.2.1 (by rw [HX.out.2.2.1]; exact hm0) HX.out.2.2.2 follow H1.out H5.out H47.out
  have C1 := find10 L D S _ HK.out HG.out 1 (in64 (by decide)) s (by have := H5.out; omega) follow
  have CA : ∀ w', Below (w3.alloc (.cells #[.slice (some ⟨g, 0, none⟩) Z.length c, .int .i64 1048576] 28)).heap.size (w3.alloc (.cells #[.slice (some ⟨g, 0, none⟩) Z.length c, .int .i64 1048576] 28)) w' → Calls Try.prog 10 #[.pointer (some ⟨D, 0, none⟩), .int .i64 1, .string (⟨#[46, 47]⟩ ++ s), .bool follow] w' (GivesP w' (wayM (vwS S) follow 41 0 1 s)) ∧ Calls Try.prog 10 #[.pointer (some ⟨D, 0, none⟩), .int .i64 1, .string (⟨#[46, 46, 47, 46, 47, 47]⟩ ++ s), .bool follow] w' (GivesP w' (wayM (vwS S) follow 41 0 1 s)) ∧ Calls Try.prog 10 #[.pointer (some ⟨D, 0, none⟩), .int .i64 1, .string (⟨#[47, 47]⟩ ++ s), .bool follow] w' (GivesP w' (wayM (vwS S) follow 41 0 1 s)) := by
    intro w' hb'
    have e2 : (⟨#[46, 47]⟩ : ByteArray).size = 2 := rfl
    have e6 : (⟨#[46, 46, 47, 46, 47, 47]⟩ : ByteArray).size = 6 := rfl
    have e3 : (⟨#[47, 47]⟩ : ByteArray).size = 2 := rfl
    have h5 := H5.out
    refine ⟨?_, ?_, ?_⟩
    · rw [← f1]; exact find10 L D S _ (HK.out.below hb') HG.out 1 (in64 (by decide)) _ (by rw [app_size, e2]; omega) follow
    · rw [← f2]; exact find10 L D S _ (HK.out.below hb') HG.out 1 (in64 (by decide)) _ (by rw [app_size, e6]; omega) follow
    · rw [← f3]; exact find10 L D S _ (HK.out.below hb') HG.out 1 (in64 (by decide)) _ (by rw [app_size, e3]; omega) follow
  clear f1 f2 f3 hm0
  generalize wayM (vwS S) follow 41 0 1 s = T at C1 CA
  obtain ⟨⟨pn, pd, pm⟩, pe⟩ := T
  have HC1 := Lib.hid C1
  have HCA := Lib.hid CA
  have HB0 := Lib.hid (Below.refl (w3.alloc (.cells #[.slice (some ⟨g, 0, none⟩) Z.length c, .int .i64 1048576] 28)).heap.size (w3.alloc (.cells #[.slice (some ⟨g, 0, none⟩) Z.length c, .int .i64 1048576] 28)))
  clear C1 CA
  go_wp2_with fail
  refine HC1.out.mono ?_
  rintro e w4 ⟨rfl, b4⟩
  have B5 := b4.alloc b4.size (.cells #[.int .i64 pn, .int .i64 pd, .string pm] 32)
  have N5 := heap_alloc_new w4 (.cells #[.int .i64 pn, .int .i64 pd, .string pm] 32)
  have HC2 := Lib.hid (HCA.out _ B5).1
  have HB5 := Lib.hid B5
  have HN5 := Lib.hid N5
  clear HC1 b4 B5 N5
  go_wp2_with fail
  refine HC2.out.mono ?_
  rintro e w6 ⟨rfl, b6⟩
  have B6 := HB5.out.trans (b6.mono HB5.out.size)
  have N6 := (b6.block _ (lt_of_block HN5.out)).trans HN5.out
  have B7 := B6.alloc B6.size (.cells #[.int .i64 pn, .int .i64 pd, .string pm] 32)
  have A7 := (Below.refl w6.heap.size w6).alloc (Nat.le_refl _) (.cells #[.int .i64 pn, .int .i64 pd, .string pm] 32)
  have N7 := (A7.block _ (lt_of_block N6)).trans N6
  have M7 := heap_alloc_new w6 (.cells #[.int .i64 pn, .int .i64 pd, .string pm] 32)
  have HC3 := Lib.hid (HCA.out _ B7).2.1
  have HB7 := Lib.hid B7
  have HN7 := Lib.hid N7
  have HM7 := Lib.hid M7
  clear HC2 b6 B6 N6 B7 A7 N7 M7 HB5 HN5
  go_wp2_with fail
  refine HC3.out.mono ?_
  rintro e w8 ⟨rfl, b8⟩
  have B8 := HB7.out.trans (b8.mono HB7.out.size)
  have N8 := (b8.block _ (lt_of_block HN7.out)).trans HN7.out
  have M8 := (b8.block _ (lt_of_block HM7.out)).trans HM7.out
  have B9 := B8.alloc B8.size (.cells #[.int .i64 pn, .int .i64 pd, .string pm] 32)
  have A9 := (Below.refl w8.heap.size w8).alloc (Nat.le_refl _) (.cells #[.int .i64 pn, .int .i64 pd, .string pm] 32)
  have N9 := (A9.block _ (lt_of_block N8)).trans N8
  have M9 := (A9.block _ (lt_of_block M8)).trans M8
  have P9 := heap_alloc_new w8 (.cells #[.int .i64 pn, .int .i64 pd, .string pm] 32)
  have HC4 := Lib.hid (HCA.out _ B9).2.2
  have HB9 := Lib.hid B9
  have HN9 := Lib.hid N9
  have HM9 := Lib.hid M9
  have HP9 := Lib.hid P9
  clear HC3 b8 B8 N8 M8 B9 A9 N9 M9 P9 HB7 HN7 HM7
  go_wp2_with fail
  refine HC4.out.mono ?_
  rintro e w10 ⟨rfl, b10⟩
  have B10 := HB9.out.trans (b10.mono HB9.out.size)
  have N10 := (b10.block _ (lt_of_block HN9.out)).trans HN9.out
  have M10 := (b10.block _ (lt_of_block HM9.out)).trans HM9.out
  have P10 := (b10.block _ (lt_of_block HP9.out)).trans HP9.out
  have A11 := (Below.refl w10.heap.size w10).alloc (Nat.le_refl _) (.cells #[.int .i64 pn, .int .i64 pd, .string pm] 32)
  have N11 := (A11.block _ (lt_of_block N10)).trans N10
  have M11 := (A11.block _ (lt_of_block M10)).trans M10
  have P11 := (A11.block _ (lt_of_block P10)).trans P10
  have B11 := B10.alloc B10.size (.cells #[.int .i64 pn, .int .i64 pd, .string pm] 32)
  have HBF := Lib.hid (HB3.out.trans (B11.mono HB3.out.size))
  have x0 := cells_at N11 (i := 0) rfl
  have x1 := cells_at N11 (i := 1) rfl
  have x2 := cells_at N11 (i := 2) rfl
  have y0 := cells_at M11 (i := 0) rfl
  have y1 := cells_at M11 (i := 1) rfl
  have y2 := cells_at M11 (i := 2) rfl
  have z0 := cells_at P11 (i := 0) rfl
  have z1 := cells_at P11 (i := 1) rfl
  have z2 := cells_at P11 (i := 2) rfl
  clear HC4 b10 B10 N10 M10 P10 A11 N11 M11 P11 B11 HB9 HN9 HM9 HP9 HB3 HCA HB0 HK HG HX HM hmb q1 q2 q3 hb cm
  go_wp2
  go_ret
  exact ⟨rfl, HBF.out⟩

set_option maxRecDepth 100000 in
theorem open_opsL {H : Type} {enc : TypeId × Value → H} {W : World} {base : Nat} {v : Value} {d : DataW H} {p : List MemPlace} (hv : Value.okWide Try.prog W .any base 22 v) (h : DataW.Trod enc Try.prog W 0 (fun _ => true) true 22 v d p) :
    ∃ os, OpsAt W v os ∧ os.length ≤ maxLen := by
  obtain ⟨os, ho⟩ := open_ops hv h
  exact ⟨os, ho, ops_len h ho⟩
theorem dots_in (v0 : Value) (os : List Opn) (s : ByteArray) (follow : Bool) (hs : s.size ≤ 140737488351232) (w : World) (h : OpsAt w v0 os ∧ os.length ≤ maxLen) :
    Calls Try.prog 5 #[v0, .string s, .bool follow] w fun e w' => e = .returned (.bool true) ∧ Below w.heap.size w w' := by
  have hs' : s.size ≤ maxLen := by unfold maxLen; omega
  cases hsm : smB os with
  | false => exact dots5_early v0 os s follow w h.1 h.2 hs' (.inl hsm)
  | true =>
    by_cases h1 : s.size < 1
    · exact dots5_early v0 os s follow w h.1 h.2 hs' (.inr ⟨hsm, .inl h1⟩)
    by_cases h5 : 500 < s.size
    · exact dots5_early v0 os s follow w h.1 h.2 hs' (.inr ⟨hsm, .inr (.inl h5)⟩)
    by_cases h47 : bt s 0 = 47
    · exact dots5_early v0 os s follow w h.1 h.2 hs' (.inr ⟨hsm, .inr (.inr ⟨by omega, h47⟩)⟩)
    · exact dots5_main v0 os s follow w h.1 h.2 hsm (by omega) (by omega) h47
end Go.Proofs.Ytgdjoojghkdcbaa

/- The document's look, into, part, walked. Conditions: the disk is one that the law builds. -/
namespace Go.Proofs.Ytgdjoojghkdcbaa
open Go.RowKit Go.PlainAid Pth
set_option linter.unusedSimpArgs false

theorem wrong_is {s : ByteArray} (h0 : s.size ≠ 0) (h1 : ¬ 4095 < s.size) : wrongE s = if hasB s 0 = true then 11 else 0 := by unfold wrongE; rw [if_neg h0, if_neg h1]
def RelLk (s : ByteArray) (w : World) (i : Value) (wr : World) : Prop := ∃ k : Nat, k ≤ s.size ∧ i = .int .i64 k ∧ (∀ j, j < k → bt s j ≠ 0) ∧ wr = w

set_option maxHeartbeats 2000000 in
set_option maxRecDepth 100000 in
theorem look60 (s : ByteArray) (w : World) (hs : s.size ≤ maxLen) : Calls Try.prog 60 #[.string s] w fun e w' => e = .returned (.int .i64 (wrongE s)) ∧ w = w' := by
  unfold maxLen at hs
  by_cases h0 : s.size = 0
  · have e1 : wrongE s = 12 := by unfold wrongE; rw [if_pos h0]
    rw [e1]
    have he := toList_em h0
    clear e1
    go_enter Try.func60, Try.ntmps60
    go_wp2
    go_ret
    exact ⟨rfl, rfl⟩
  have he := toList_ne h0
  by_cases h1 : 4095 < s.size
  · have e1 : wrongE s = 18 := by unfold wrongE; rw [if_neg h0, if_pos h1]
    rw [e1]
    have q1 : decide (4095 < (s.size : Int)) = true := decide_eq_true (by omega)
    clear e1
    go_enter Try.func60, Try.ntmps60
    go_wp2
    go_ret
    exact ⟨rfl, rfl⟩
  have q1 : decide (4095 < (s.size : Int)) = false := decide_eq_false (by omega)
  rw [wrong_is h0 h1]
  obtain ⟨T, hT⟩ : ∃ T : Int, T = (if hasB s 0 = true then 11 else 0) := ⟨_, rfl⟩
  rw [← hT]
  have HT := Lib.hid hT
  clear hT
  have hb := get_bt s
  have R0 : Hid (RelLk s w (.int .i64 0) w) := Lib.hid ⟨0, Nat.zero_le _, rfl, fun j hj => absurd hj (Nat.not_lt_zero j), rfl⟩
  go_enter Try.func60, Try.ntmps60
  go_wp2
  go_loopw [3] (RelLk s w) (fun i _ => s.size - (intOf i).toNat)
  case atStart => exact R0.out
  case round =>
    clear R0
    obtain ⟨k, hk, rfl, hno, rfl⟩ := hrel
    have HN := Lib.hid hno
    clear hno
    by_cases hlt : k < s.size
    · by_cases hz : bt s k = 0
      · have HF : Hid (T = 11) := Lib.hid (HT.out.trans (if_pos (by unfold hasB; exact decide_eq_true ⟨k, hlt, hz⟩)))
        have q2 : (bt s k == 0) = true := by simpa using hz
        clear hz
        go_wp2
        go_ret
        exact ⟨by rw [HF.out]; rfl, rfl⟩
      · have q2 : (bt s k == 0) = false := by simpa using hz
        have HN2 : Hid (∀ j, j < k + 1 → bt s j ≠ 0) := Lib.hid (fun j hj => by
          by_cases e : j = k
          · subst e; exact hz
          · exact HN.out j (by omega))
        clear hz
        go_wp2
        go_roundw
        case rel => exact ⟨k + 1, hlt, by go_num, HN2.out, rfl⟩
        case measure => simp [intOf]; omega
    · obtain rfl : k = s.size := by omega
      have HF : Hid (T = 0) := Lib.hid (HT.out.trans (if_neg (by
        unfold hasB
        simp only [decide_eq_true_eq]
        rintro ⟨j, hj, e⟩
        exact HN.out j hj e)))
      go_wp2
      go_ret
      exact ⟨by rw [HF.out]; rfl, rfl⟩

section
variable {k : Nat} {S : St} {R : List Nr} {ds : List Nat}
theorem Hd.vw (H : Hd k S R ds) (id : Int) : (hasR R id = false ∧ vwS S id = none) ∨ ∃ (i : Nat) (n : Nr), id = i ∧ 1 ≤ i ∧ R[i]? = some n ∧ n.kind ≠ 0 ∧ hasR R id = true ∧ vwS S id = some ⟨n.kind, n.mode, if n.kind = 2 then ⟨#[]⟩ else n.data, if n.kind = 2 then Ytgdjoojghkdcbaa.upR R id else 0, fun s => if n.kind = 2 then getN s n.ents else 0⟩ := by
  have hh := H.sim.has id
  cases hx : S.get id with
  | none =>
    rw [hx] at hh
    exact .inl ⟨hh, by simp [vwS, hx]⟩
  | some x =>
    rw [hx] at hh
    obtain ⟨i, n, u, rfl, h1, h2, h3, rfl, h5⟩ := H.at hx
    refine .inr ⟨i, n, rfl, h1, h2, h3, hh, ?_⟩
    simp only [vwS, hx, Option.map_some]
    by_cases e : n.kind = 2
    · rw [h5 e]
    · simp [e]
/-- What is named above, and what has entries, is a directory. -/
theorem Hd.upDir (H : Hd k S R ds) (id : Int) : ∃ n, R[(Ytgdjoojghkdcbaa.upR R id).toNat]? = some n ∧ n.kind = 2 := by
  unfold Ytgdjoojghkdcbaa.upR
  rcases upF_rng id (R.drop 1) 1 with e | ⟨q, n, e1, e2, e3⟩
  · rw [e]; exact H.sim.root
  · rw [e3]
    rw [List.getElem?_drop] at e1
    refine ⟨n, by rw [Int.toNat_natCast]; exact e1, ?_⟩
    by_cases hk : n.kind = 2
    · exact hk
    · rw [H.only n (List.mem_of_getElem? e1) hk] at e2; cases e2
theorem Hd.vwUp (H : Hd k S R ds) (id : Int) : kindV (vwS S (Ytgdjoojghkdcbaa.upR R id)) = 2 ∧ hasR R (Ytgdjoojghkdcbaa.upR R id) = true := by
  have hr := H.upR id
  obtain ⟨n, hn, hk⟩ := H.upDir id
  obtain ⟨i, hi⟩ : ∃ i : Nat, Ytgdjoojghkdcbaa.upR R id = i := ⟨(Ytgdjoojghkdcbaa.upR R id).toNat, by omega⟩
  rw [hi] at hn hr ⊢
  rw [Int.toNat_natCast] at hn
  have hh : hasR R (i : Int) = true := by rw [hasR_at hn (by omega)]; simp; omega
  rcases H.vw (i : Int) with ⟨e, _⟩ | ⟨j, m, e1, _, e3, _, _, e6⟩
  · rw [hh] at e; cases e
  · obtain rfl : i = j := by omega
    rw [hn] at e3
    cases e3
    rw [e6]
    exact ⟨hk, hh⟩
end

set_option maxHeartbeats 2000000 in
set_option maxRecDepth 100000 in
theorem into62 {k : Nat} {S : St} {ds : List Nat} (P : Nat → Prop) (v : Value) (room : Int) (Z : List Zn) (w : World) (X : XAt P v Z w) (H : Hd k S (nrs Z) ds) (id : Int) :
    Calls Try.prog 62 #[xv v room, .int .i64 id] w fun e w' => e = .returned (.int .i64 (closE (vwS S id))) ∧ Below w.heap.size w w' := by
  have hz2 := H.sim.two
  rw [nrs_len] at hz2
  have B0 := Bx.start X room
  have C := rfolder32 P v room Z _ B0.x (by omega) id
  have HX := Lib.hid B0
  obtain ⟨g, c, rfl⟩ := X.shape (by omega)
  rcases H.vw id with ⟨h1, h2⟩ | ⟨i, n, rfl, i1, hn, hk0, hh, hv⟩
  · rw [h2]
    rw [show dirRE (nrs Z) id = 12 by unfold dirRE; rw [if_neg (by rw [h1]; decide)]] at C
    have HC := Lib.hid C
    have q0 := B0.c00
    have q1 := B0.c01
    clear C B0 X h1 h2 H
    go_enter Try.func62, Try.ntmps62
    go_wp2_with fail
    refine HC.out.mono ?_
    rintro e w1 ⟨rfl, b1⟩
    have HB := Lib.hid (HX.out.below b1).bel
    clear b1
    go_wp2
    go_ret
    exact ⟨rfl, HB.out⟩
  · rw [hv]
    by_cases hk : n.kind = 2
    · rw [dirRE_ok hn i1 hk] at C
      obtain ⟨ev, hev⟩ := zn_get hn
      have hil := (List.getElem?_eq_some_iff.1 hev).1
      have hm := H.sim.mode n (List.mem_of_getElem? hn)
      have hmb := mode_bit hm.1 hm.2
      have HC := Lib.hid C
      have q0 := B0.c00
      have q1 := B0.c01
      have Hev := Lib.hid hev
      have hil' : (i : Int) < Z.length := by omega
      have hi0 : (0 : Int) ≤ (i : Int) := by omega
      have e1 : closE (some ⟨n.kind, n.mode, if n.kind = 2 then ⟨#[]⟩ else n.data, if n.kind = 2 then upR (nrs Z) (i : Int) else 0, fun s => if n.kind = 2 then getN s n.ents else 0⟩) = if n.mode / 64 % 2 = 0 then 19 else 0 := by simp [closE, hk]
      rw [e1]
      clear e1 C B0 X hv H hn hev hm hh hk hk0
      by_cases hb : n.mode / 64 % 2 = 0
      · rw [if_pos hb]
        rw [decide_eq_true hb] at hmb
        clear hb
        go_enter Try.func62, Try.ntmps62
        go_wp2_with fail
        refine HC.out.mono ?_
        rintro e w1 ⟨rfl, b1⟩
        have X1 := HX.out.below b1
        have c1 := (X1.x.at Hev.out).c1
        have q0 := X1.c00
        have HB := Lib.hid X1.bel
        clear b1 X1
        go_wp2
        go_ret
        exact ⟨rfl, HB.out⟩
      · rw [if_neg hb]
        rw [decide_eq_false hb] at hmb
        clear hb
        go_enter Try.func62, Try.ntmps62
        go_wp2_with fail
        refine HC.out.mono ?_
        rintro e w1 ⟨rfl, b1⟩
        have X1 := HX.out.below b1
        have c1 := (X1.x.at Hev.out).c1
        have q0 := X1.c00
        have HB := Lib.hid X1.bel
        clear b1 X1
        go_wp2
        go_ret
        exact ⟨rfl, HB.out⟩
    · have e0 : dirRE (nrs Z) (i : Int) = 14 := by unfold dirRE; rw [if_pos hh, Int.toNat_natCast, hn]; simp [hk]
      rw [e0] at C
      have e1 : closE (some ⟨n.kind, n.mode, if n.kind = 2 then ⟨#[]⟩ else n.data, if n.kind = 2 then upR (nrs Z) (i : Int) else 0, fun s => if n.kind = 2 then getN s n.ents else 0⟩) = 14 := by simp [closE, hk]
      rw [e1]
      have HC := Lib.hid C
      have q0 := B0.c00
      have q1 := B0.c01
      clear C B0 X hv H e0 e1 hn hh hk hk0
      go_enter Try.func62, Try.ntmps62
      go_wp2_with fail
      refine HC.out.mono ?_
      rintro e w1 ⟨rfl, b1⟩
      have HB := Lib.hid (HX.out.below b1).bel
      clear b1
      go_wp2
      go_ret
      exact ⟨rfl, HB.out⟩
end Go.Proofs.Ytgdjoojghkdcbaa

/- A directory's path from the root: plain. Conditions: the disk is one that the law builds. -/
namespace Go.Proofs.Ytgdjoojghkdcbaa
open Go.RowKit Go.PlainAid Pth
set_option linter.unusedSimpArgs false

/-- The name by which entries name a node. -/
def nmE (id : Int) : List En → ByteArray
  | [] => ⟨#[]⟩
  | e :: l => if e.2 = id then e.1 else nmE id l
theorem nmE_mem {id : Int} : ∀ {l : List En}, 0 < cE id l → (nmE id l, id) ∈ l
  | [], h => by simp [cE] at h
  | e :: l, h => by
    unfold nmE
    by_cases he : e.2 = id
    · rw [if_pos he]; subst he; exact List.mem_cons_self ..
    · rw [if_neg he]
      refine List.mem_cons_of_mem _ (nmE_mem ?_)
      simp only [cE, if_neg he] at h
      omega
def enR (R : List Nr) (id : Int) : List En := match R[id.toNat]? with
  | some n => n.ents
  | none => []
theorem enR_at {R : List Nr} {i : Nat} {n : Nr} (h : R[i]? = some n) : enR R i = n.ents := by unfold enR; rw [Int.toNat_natCast, h]
/-- The names from a directory upwards. -/
def nmsL (R : List Nr) : Nat → Int → List ByteArray
  | 0, _ => []
  | f + 1, id => if id = 1 then [] else nmE id (enR R (upR R id)) :: nmsL R f (upR R id)
/-- A directory, and those above it. -/
def upsL (R : List Nr) : Nat → Int → List Int
  | 0, id => [id]
  | f + 1, id => if id = 1 then [id] else id :: upsL R f (upR R id)

theorem upF_pos {id : Int} : ∀ {R : List Nr} {i : Nat}, 0 < lk id R → ∃ (k : Nat) (n : Nr), R[k]? = some n ∧ 0 < cE id n.ents ∧ upF id R i = ((i + k : Nat) : Int)
  | [], _, h => by simp [lk] at h
  | m :: R, i, h => by
    by_cases hm : 0 < cE id m.ents
    · exact ⟨0, m, rfl, hm, by simp [upF, hm]⟩
    · obtain ⟨k, n, h1, h2, h3⟩ := upF_pos (id := id) (R := R) (i := i + 1) (by simp only [lk] at h; omega)
      refine ⟨k + 1, n, by simpa using h1, h2, ?_⟩
      rw [upF, if_neg hm, h3]
      congr 1
      omega
section
variable {k : Nat} {S : St} {R : List Nr} {ds : List Nat}
/-- The directory above one. -/
theorem Hd.upOf (H : Hd k S R ds) {i : Nat} {n : Nr} (hi : 2 ≤ i) (hn : R[i]? = some n) (hk : n.kind ≠ 0) : ∃ (j : Nat) (m : Nr), Ytgdjoojghkdcbaa.upR R i = j ∧ 1 ≤ j ∧ j < i ∧ R[j]? = some m ∧ m.kind = 2 ∧ (nmE i m.ents, (i : Int)) ∈ m.ents ∧ nameB (nmE i m.ents) = true := by
  have hl := H.named i n (by omega) hn hk
  unfold linksR at hl
  rw [if_neg (by omega)] at hl
  obtain ⟨q, m, h1, h2, h3⟩ := upF_pos (id := (i : Int)) (R := R.drop 1) (i := 1) (by omega)
  rw [List.getElem?_drop] at h1
  have hm := List.mem_of_getElem? h1
  have hkm : m.kind = 2 := by
    by_cases e : m.kind = 2
    · exact e
    · rw [H.only m hm e] at h2; simp [cE] at h2
  have he := nmE_mem h2
  have hd := H.down (1 + q) m h1 _ he
  exact ⟨1 + q, m, h3, by omega, by simp only at hd; omega, h1, hkm, he, H.names m hm _ he⟩
end

section
theorem cnr_mono (l : List Nr) (a c : Nat) : cnr (l.take a) ≤ cnr (l.take (a + c)) := by
  rw [List.take_add, cnr_app]; omega
theorem cnr_succ {l : List Nr} {a : Nat} {n : Nr} (h : l[a]? = some n) (hk : n.kind ≠ 0) : cnr (l.take (a + 1)) = cnr (l.take a) + 1 := by
  have h1 : l.take (a + 1) = l.take a ++ [n] := by rw [List.take_add_one, h]; rfl
  rw [h1, cnr_app]
  have h2 : (n.kind != 0) = true := by simpa using hk
  simp [cnr, h2]
theorem cnr_all (l : List Nr) (a : Nat) : cnr (l.take a) ≤ cnr l := by
  have := cnr_app (l.drop a) (l.take a)
  rw [List.take_append_drop] at this
  omega
variable {k : Nat} {S : St} {R : List Nr} {ds : List Nat}
/-- How many nodes there are up to one. -/
def cB (R : List Nr) (j : Nat) : Nat := cnr ((R.drop 1).take j)
theorem cB_lt {i j : Nat} {n : Nr} (h : j < i) (hn : R[i]? = some n) (hk : n.kind ≠ 0) : cB R j + 1 ≤ cB R i := by
  obtain ⟨a, rfl⟩ : ∃ a, i = j + a + 1 := ⟨i - j - 1, by omega⟩
  have h1 : (R.drop 1)[j + a]? = some n := by rw [List.getElem?_drop, show 1 + (j + a) = j + a + 1 by omega]; exact hn
  have h2 := cnr_succ h1 hk
  have h3 := cnr_mono (R.drop 1) j a
  unfold cB
  omega
theorem cB_le (j : Nat) : (cB R j : Int) ≤ countR R := by
  have := cnr_all (R.drop 1) j
  unfold cB countR
  omega
theorem Hd.cB_two (H : Hd k S R ds) {i : Nat} {n : Nr} (hi : 2 ≤ i) (hn : R[i]? = some n) (hk : n.kind ≠ 0) : 2 ≤ cB R i := by
  obtain ⟨r, hr, hk2⟩ := H.sim.root
  have h1 := cB_lt (R := R) (i := 1) (j := 0) (by omega) hr (by omega)
  have h2 := cB_lt (R := R) (i := i) (j := 1) (by omega) hn hk
  omega
end

/-- Texts, joined. -/
theorem tailJ_cons (y : ByteArray) (r : List ByteArray) : tailJ (y :: r) = ⟨#[47]⟩ ++ joinL (y :: r) := by
  show ⟨#[47]⟩ ++ y ++ tailJ r = ⟨#[47]⟩ ++ (y ++ tailJ r)
  rw [app_assoc]
theorem joinL_two (x y : ByteArray) (r : List ByteArray) : joinL (x :: y :: r) = x ++ (⟨#[47]⟩ ++ joinL (y :: r)) := by
  show x ++ tailJ (y :: r) = _
  rw [tailJ_cons]
theorem joinL_one (x : ByteArray) : joinL [x] = x := app_nil x
theorem bare_of {x : ByteArray} (h : nameB x = true) : Bare x ∧ x.size ≤ 255 ∧ (x.toList == [46]) = false ∧ (x.toList == [46, 46]) = false := by
  unfold nameB at h
  simp only [Bool.and_eq_true, Bool.not_eq_true', decide_eq_true_eq] at h
  obtain ⟨⟨⟨⟨h1, h2⟩, h3⟩, h4⟩, h5⟩ := h
  refine ⟨⟨by omega, fun k hk e => ?_⟩, h1.2, h4, h5⟩
  unfold hasB at h3
  simp only [decide_eq_false_iff_not] at h3
  exact h3 ⟨k, hk, e⟩
theorem pcs_one {x : ByteArray} (h : ∀ k, k < x.size → bt x k ≠ 47) : ∀ n, n ≤ x.size → pcsF x n 0 = [x]
  | 0, _ => by
    rw [pcsF]
    congr 1
    apply Pth.ba_ext
    · rw [Pth.ext_size]; omega
    · intro k hk
      rw [Pth.ext_size] at hk
      rw [Pth.ext_bt _ _ _ _ (by omega), Nat.zero_add]
  | n + 1, hn => by
    rw [pcsF, if_neg, pcs_one h n (by omega)]
    have := h (x.size - (n + 1)) (by omega)
    simpa using this
theorem parts_one {x : ByteArray} (h : Bare x) : partsL x = [x] := by
  unfold partsL pcs
  rw [pcs_one h.2 x.size (Nat.le_refl _)]
  have := h.1
  simp [this]
theorem parts_join : ∀ (l : List ByteArray), l ≠ [] → (∀ x ∈ l, Bare x) → partsL (joinL l) = l
  | [], h, _ => absurd rfl h
  | [x], _, hb => by rw [joinL_one]; exact parts_one (hb x (by simp))
  | x :: y :: r, _, hb => by
    have hx := hb x (by simp)
    rw [joinL_two, ← app_assoc, parts_ahead x _ hx.2, if_pos hx.1, parts_join (y :: r) (by simp) (fun z hz => hb z (List.mem_cons_of_mem _ hz))]
theorem join_last : ∀ (l : List ByteArray), l ≠ [] → (∀ x ∈ l, Bare x) → 0 < (joinL l).size ∧ bt (joinL l) ((joinL l).size - 1) ≠ 47
  | [], h, _ => absurd rfl h
  | [x], _, hb => by
    have hx := hb x (by simp)
    rw [joinL_one]
    exact ⟨hx.1, hx.2 _ (by have := hx.1; omega)⟩
  | x :: y :: r, _, hb => by
    obtain ⟨h1, h2⟩ := join_last (y :: r) (by simp) (fun z hz => hb z (List.mem_cons_of_mem _ hz))
    rw [joinL_two, ← app_assoc]
    have hs : (x ++ (⟨#[47]⟩ : ByteArray)).size = x.size + 1 := by rw [app_size]; rfl
    rw [app_size, app_bt_r _ _ _ (by omega)]
    refine ⟨by omega, ?_⟩
    rw [show (x ++ (⟨#[47]⟩ : ByteArray)).size + (joinL (y :: r)).size - 1 - (x ++ (⟨#[47]⟩ : ByteArray)).size = (joinL (y :: r)).size - 1 by omega]
    exact h2

section
variable {k : Nat} {S : St} {R : List Nr} {ds : List Nat}
theorem Hd.nms_bare (H : Hd k S R ds) : ∀ (f i : Nat) (n : Nr), i ≤ f → 1 ≤ i → R[i]? = some n → n.kind = 2 → ∀ x ∈ nmsL R f i, nameB x = true
  | 0, i, n, h, h1, _, _ => by omega
  | f + 1, i, n, h, h1, hn, hk => by
    intro x hx
    rw [nmsL] at hx
    by_cases e : (i : Int) = 1
    · rw [if_pos e] at hx; cases hx
    · rw [if_neg e] at hx
      obtain ⟨j, m, u1, u2, u3, u4, u5, u6, u7⟩ := H.upOf (i := i) (by omega) hn (by omega)
      rw [u1] at hx
      rcases List.mem_cons.1 hx with rfl | hx
      · rw [enR_at u4]; exact u7
      · exact H.nms_bare f j m (by omega) u2 u4 u5 x hx
theorem Hd.nms_len (H : Hd k S R ds) : ∀ (f i : Nat), (nmsL R f i).length ≤ f
  | 0, i => Nat.zero_le _
  | f + 1, i => by
    rw [nmsL]
    split
    · simp
    · obtain ⟨j, hj⟩ : ∃ j : Nat, Ytgdjoojghkdcbaa.upR R i = j := ⟨(Ytgdjoojghkdcbaa.upR R i).toNat, by have := H.upR i; omega⟩
      rw [hj, List.length_cons]
      have := H.nms_len f j
      omega
/-- A directory's path from the root. -/
def wholeS (R : List Nr) (i : Nat) : ByteArray := ⟨#[47]⟩ ++ joinL (nmsL R i i).reverse
end
end Go.Proofs.Ytgdjoojghkdcbaa

/- disk.List, walk's nameIn and wayUp, walked. Conditions: the disk is one that the law builds. -/
namespace Go.Proofs.Ytgdjoojghkdcbaa
open Go.RowKit Go.PlainAid Pth
set_option linter.unusedSimpArgs false

set_option maxHeartbeats 1000000 in
set_option maxRecDepth 100000 in
theorem list66 (L : Lay) (D : Nat) (S : St) (w : World) (h : DiskAt L D S w) (k : Int) (hk : In64 k) (x : Nd) (hx : S.get k = some x) (hkd : x.kind = 2) (hlen : x.ents.length ≤ 999) :
    Calls Try.prog 66 #[.pointer (some ⟨D, 0, none⟩), .int .i64 k] w fun e w' => ∃ v, e = .returned (.tuple #[v, .int .i64 0]) ∧ Row 119 w.heap.size v x.ents w' ∧ Below w.heap.size w w' := by
  have C := folder60 L D S w h k hk
  obtain ⟨p, dv, ev, hp, hn⟩ := h.there k x hx
  rw [hx, hp] at C
  have e0 : dirE (some x) = 0 := by simp [dirE, hkd]
  rw [e0] at C
  replace C : Calls _ _ _ _ (fun e w' => e = .returned (.tuple #[.pointer (some ⟨p, 0, none⟩), .int .i64 0]) ∧ w = w') := C
  replace C := Lib.hid C
  have CL := Lib.hid (list13 p (x.nc dv) 0 ev x.ents w hn.dir (by omega))
  clear h hn e0
  go_enter Try.func66, Try.ntmps66
  go_wp2_with (go_at_call 43; refine C.out.mono ?_; rintro e w' ⟨rfl, rfl⟩)
  refine CL.out.mono ?_
  rintro e w1 ⟨v, rfl, hr, hb⟩
  have HR := Lib.hid hr
  have HB := Lib.hid hb
  obtain ⟨a, l, c, rfl⟩ := slice_shape hr
  clear hr hb
  go_wp2
  go_ret2
  exact ⟨_, rfl, HR.out, HB.out⟩

def RelNm (id : Int) (l : List En) (T : ByteArray) (w1 : World) (i : Value) (wr : World) : Prop := ∃ k : Nat, k ≤ l.length ∧ i = .int .i64 k ∧ nmE id (l.drop k) = T ∧ Below w1.heap.size w1 wr

set_option maxHeartbeats 1000000 in
set_option maxRecDepth 100000 in
theorem nameIn35 (L : Lay) (D : Nat) (S : St) (w : World) (h : DiskAt L D S w) (j : Int) (hj : In64 j) (x : Nd) (hx : S.get j = some x) (hkd : x.kind = 2) (hlen : x.ents.length ≤ 999) (id : Int) :
    Calls Try.prog 35 #[.pointer (some ⟨D, 0, none⟩), .int .i64 j, .int .i64 id] w fun e w' => e = .returned (.string (nmE id x.ents)) ∧ Below w.heap.size w w' := by
  have C := Lib.hid (list66 L D S w h j hj x hx hkd hlen)
  obtain ⟨T, hT⟩ : ∃ T, nmE id x.ents = T := ⟨_, rfl⟩
  rw [hT]
  have HT := Lib.hid hT
  clear hT h hx
  generalize x.ents = l at C HT hlen
  go_enter Try.func35, Try.ntmps35
  go_wp2_with fail
  refine C.out.mono ?_
  rintro e w1 ⟨v, rfl, hr, hb⟩
  have HR := Lib.hid hr
  have HB := Lib.hid hb
  rcases hr.cases with ⟨rfl, rfl⟩ | ⟨gv, cap, cur, rfl, _⟩
  · clear hr hb C
    go_wp2
    go_loopw [19] (RelNm id [] T w1) (fun _ _ => 0)
    case atStart => exact ⟨0, Nat.le_refl _, rfl, HT.out, Below.refl _ _⟩
    case round =>
      obtain ⟨k, hk, rfl, hr, hb2⟩ := hrel
      have HB2 := Lib.hid (bel_trans HB.out hb2)
      have HF := Lib.hid hr
      clear hb2 hr
      simp at hk
      subst hk
      go_wp2
      go_ret
      exact ⟨by rw [← HF.out]; rfl, HB2.out⟩
  · clear hr hb C
    go_wp2
    go_loopw [19] (RelNm id l T w1) (fun i _ => l.length - (intOf i).toNat)
    case atStart => exact ⟨0, Nat.zero_le _, rfl, HT.out, Below.refl _ _⟩
    case round =>
      obtain ⟨k, hk, rfl, hr, hb2⟩ := hrel
      have HB2 := Lib.hid hb2
      have HF := Lib.hid hr
      clear hb2 hr
      by_cases hlt : k < l.length
      · obtain ⟨y, hy⟩ := get_some hlt
        have e0 := (HR.out.below HB2.out).cell0 hy
        have e1 := (HR.out.below HB2.out).cell1 hy
        have hd : l.drop k = y :: l.drop (k + 1) := drop_get hy
        cases hq : (y.2 == id)
        · have HN : Hid (nmE id (l.drop (k + 1)) = T) := Lib.hid (by rw [← HF.out, hd, nmE, if_neg (by simpa using hq)])
          clear hy hd
          go_wp2
          go_roundw
          case rel => exact ⟨k + 1, hlt, by go_num, HN.out, HB2.out.alloc HB2.out.size _⟩
          case measure => simp [intOf]; omega
        · have HN : Hid (y.1 = T) := Lib.hid (by rw [← HF.out, hd, nmE, if_pos (by simpa using hq)])
          clear hy hd
          go_wp2
          go_ret
          exact ⟨by rw [← HN.out]; rfl, bel_trans HB.out (HB2.out.alloc HB2.out.size _)⟩
      · obtain rfl : k = l.length := by omega
        have HN : Hid ((⟨#[]⟩ : ByteArray) = T) := Lib.hid (by rw [← HF.out, List.drop_length]; rfl)
        go_wp2
        go_ret
        exact ⟨by rw [← HN.out]; rfl, bel_trans HB.out HB2.out⟩

/-- A list of numbers as values. -/
def intsV (l : List Int) : List Value := l.map (Value.int .i64)
theorem intsV_snoc (l : List Int) (x : Int) : intsV l ++ [.int .i64 x] = intsV (l ++ [x]) := by simp [intsV]
def OwnsI (B : Nat) (v : Value) (l : List Int) (w : World) : Prop := w.ownsRow B 3 1 v l.length (intsV l)
theorem Try.info3 : (Try.prog.info? 3).map (fun i => (i.zero, i.size, i.bytes)) = some (some (.int .i64 0), 1, 8) := by kernel_rfl
theorem new_i1 (w : World) (x : Int) : ∀ j u, [Value.int .i64 x][j]? = some u → (w.alloc (.cells #[.int .i64 x] 3)).cell? ((⟨w.heap.size, 0, none⟩ : Addr).add j) = some u := by
  intro j u hj
  match j, hj with
  | 0, hj => simp at hj; subst hj; simp [Addr.add]
theorem own_int {w : World} (x : Int) : OwnsI w.heap.size (.slice (some ⟨w.heap.size, 0, none⟩) 1 1) [x] (w.alloc (.cells #[.int .i64 x] 3)) :=
  ⟨rfl, .inr ⟨w.heap.size, 1, #[.int .i64 x], rfl, Nat.le_refl _, heap_alloc_new w _, Nat.le_refl _, by unfold maxLen; omega, rfl, rfl⟩⟩
theorem own_pushI {w wr w1 : World} {acc : List Int} {v v' : Value} {x : Int} {o : Obj} (h0 : OwnsI w.heap.size v acc wr) (hb : Below w.heap.size w wr)
    (hown : w1.ownsRow w.heap.size 3 1 v' (acc.length + 1) (intsV acc ++ [.int .i64 x])) (hg : (wr.alloc o).grownBy w1 v.ownBlock) :
    OwnsI w.heap.size v' (acc ++ [x]) w1 ∧ Below w.heap.size w w1 := by
  refine ⟨?_, (hb.alloc hb.size o).grown hg (by simp; have := hb.size; omega) (fun j hj => (World.ownsRow.lt h0 j hj).1)⟩
  unfold OwnsI
  rw [List.length_append, ← intsV_snoc]
  exact hown
theorem OwnsI.shape {B : Nat} {v : Value} {l : List Int} {w : World} (h : OwnsI B v l w) (hl : 0 < l.length) : ∃ g cap, v = .slice (some ⟨g, 0, none⟩) l.length cap ∧ B ≤ g ∧ g < w.heap.size ∧ l.length ≤ cap ∧ ∀ j x, l[j]? = some x → w.cell? ⟨g, j, none⟩ = some (.int .i64 x) := by
  have hc := fun g hg => World.ownsRow.cells h (g := g) hg
  rcases h.2 with ⟨_, h0⟩ | ⟨g, cap, cur, rfl, hB, hg, hle, _, _, _⟩
  · omega
  · refine ⟨g, cap, rfl, hB, lt_of_block hg, hle, fun j x hx => ?_⟩
    have := hc g rfl j (.int .i64 x) (by simp [intsV, hx])
    rw [show (⟨g, j, none⟩ : Addr) = (⟨g, 0, none⟩ : Addr).add j by unfold Addr.add; split <;> simp_all]
    exact this

section
variable {k : Nat} {S : St} {R : List Nr} {ds : List Nat}
/-- What the program's disk tells of a directory. -/
theorem Hd.dirAt (H : Hd k S R ds) {i : Nat} {n : Nr} (h1 : 1 ≤ i) (hn : R[i]? = some n) (hk : n.kind = 2) : S.get i = some ⟨n.kind, n.mode, linksR R i, n.holds, n.data, n.ents, Ytgdjoojghkdcbaa.upR R i⟩ := by
  obtain ⟨u, hu, hup⟩ := H.sim.node i n h1 hn (by omega)
  rw [hu, hup hk (by rw [H.named i n h1 hn (by omega)]; decide)]
theorem Hd.upTells (H : Hd k S R ds) {i : Nat} {n : Nr} (h1 : 1 ≤ i) (hn : R[i]? = some n) (hk : n.kind = 2) : upN (S.get i) = Ytgdjoojghkdcbaa.upR R i ∧ upE (S.get i) = 0 := by
  rw [H.dirAt h1 hn hk]
  have := H.upR i
  refine ⟨by simp [upN, hk], ?_⟩
  simp only [upE, hk, if_true]
  exact if_neg (by omega)
/-- No directory: the errors are one. -/
theorem Hd.upWrong (H : Hd k S R ds) (id : Int) (h : dirRE R id ≠ 0) : upE (S.get id) = dirRE R id ∧ upN (S.get id) = 0 := by
  have hh := H.sim.has id
  cases hx : S.get id with
  | none =>
    rw [hx] at hh
    refine ⟨?_, rfl⟩
    unfold dirRE
    rw [if_neg (by rw [hh]; decide)]
    rfl
  | some x =>
    obtain ⟨i, n, u, rfl, h1, h2, h3, rfl, h5⟩ := H.at hx
    rw [hx] at hh
    unfold dirRE at h ⊢
    rw [if_pos (by rw [hh]; rfl), Int.toNat_natCast, h2] at h ⊢
    by_cases e : n.kind = 2
    · simp [e] at h
    · simp [upE, upN, e]
end

def RelWu (R : List Nr) (T : List Int) (w : World) (id way : Value) (wr : World) : Prop :=
  ∃ (j f : Nat) (n : Nr) (acc : List Int), id = .int .i64 j ∧ 1 ≤ j ∧ j ≤ f ∧ R[j]? = some n ∧ n.kind = 2 ∧ acc ++ upsL R f j = T ∧ ((acc.length + cB R j : Nat) : Int) ≤ countR R ∧ OwnsI w.heap.size way (acc ++ [(j : Int)]) wr ∧ Below w.heap.size w wr
def GivesI (w : World) (l : List Int) (e : Ending) (w' : World) : Prop := ∃ v, e = .returned (.tuple #[v, .int .i64 0]) ∧ OwnsI w.heap.size v l w' ∧ Below w.heap.size w w'

theorem ups_one (R : List Nr) {f : Nat} (h : 1 ≤ f) : upsL R f 1 = [1] := by
  obtain ⟨g, rfl⟩ : ∃ g, f = g + 1 := ⟨f - 1, by omega⟩
  rw [upsL, if_pos rfl]
theorem ups_more (R : List Nr) {f j j' : Nat} (h : 2 ≤ j) (hf : j ≤ f) (hu : upR R j = j') (hlt : j' < j) : ∃ g, j' ≤ g ∧ upsL R f j = (j : Int) :: upsL R g j' := by
  obtain ⟨g, rfl⟩ : ∃ g, f = g + 1 := ⟨f - 1, by omega⟩
  exact ⟨g, by omega, by rw [upsL, if_neg (by omega), hu]⟩

set_option maxHeartbeats 2000000 in
set_option maxRecDepth 100000 in
theorem wayUp34 {k : Nat} {R : List Nr} {ds : List Nat} (L : Lay) (D : Nat) (S : St) (w : World) (h : DiskAt L D S w) (H : Hd k S R ds) (hk : k ≤ 100) {i : Nat} {n : Nr} (h1 : 1 ≤ i) (hn : R[i]? = some n) (hkd : n.kind = 2) :
    Calls Try.prog 34 #[.pointer (some ⟨D, 0, none⟩), .int .i64 i] w (GivesI w (upsL R i i)) := by
  obtain ⟨i0, hi0, hz0, hz1, hz2⟩ := info_parts Try.info3
  obtain ⟨T, hT⟩ : ∃ T, upsL R i i = T := ⟨_, rfl⟩
  rw [hT]
  have R0 : Hid (RelWu R T w (.int .i64 i) (.slice (some ⟨w.heap.size, 0, none⟩) 1 1) (w.alloc (.cells #[.int .i64 i] 3))) :=
    Lib.hid ⟨i, i, n, [], rfl, h1, Nat.le_refl _, hn, hkd, hT, by simpa using cB_le i, own_int _, (Below.refl w.heap.size w).alloc (Nat.le_refl _) _⟩
  have HD := Lib.hid h
  have HH := Lib.hid H
  clear h H hT hn hkd h1
  go_enter Try.func34, Try.ntmps34
  go_wp2
  go_loopw [1, 6] (RelWu R T w) (fun id _ _ => (intOf id).toNat)
  case atStart => exact R0.out
  case round =>
    clear R0
    obtain ⟨j, f, m, acc, rfl, j1, jf, hm, hkm, hT, hcnt, hown, hbel⟩ := hrel
    have hsz := HH.out.size
    have hjl := (List.getElem?_eq_some_iff.1 hm).1
    obtain ⟨al, hal⟩ : ∃ al, acc ++ [(j : Int)] = al := ⟨_, rfl⟩
    rw [hal] at hown
    have hall : al.length = acc.length + 1 := by rw [← hal]; simp
    have HO := Lib.hid hown
    have HB := Lib.hid hbel
    obtain ⟨g, cap, rfl, _, _, hcap, _⟩ := hown.shape (by omega)
    by_cases e1 : j = 1
    · subst e1
      rw [show ((1 : Nat) : Int) = 1 from rfl, ups_one R jf] at hT
      have HF : Hid (al = T) := Lib.hid (by rw [← hal, ← hT]; rfl)
      clear hm hkm hT hcnt hown hbel hal hall
      go_wp2
      go_ret2
      exact ⟨_, rfl, by rw [← HF.out]; exact HO.out, HB.out⟩
    · obtain ⟨j', m', u1, u2, u3, u4, u5, _, _⟩ := HH.out.upOf (i := j) (by omega) hm (by omega)
      obtain ⟨g', hg', hups⟩ := ups_more R (by omega) jf u1 u3
      rw [hups] at hT
      have hc1 := cB_lt u3 hm (by omega)
      have hc2 := HH.out.cB_two (by omega) hm (by omega)
      have hcn := HH.out.sim.cnt
      have CU := up55 L D S wr (HD.out.below HB.out) j (in64 (by omega))
      obtain ⟨t1, t2⟩ := HH.out.upTells j1 hm hkm
      rw [t1, t2, u1] at CU
      have CC := count23 L D S wr (HD.out.below HB.out)
      have hl1 : al.length ≤ 1001 := by have := count_small HH.out.sim.inv; omega
      have hne : ((al.length : Int) == (S.cnt : Int)) = false := by
        have : (al.length : Int) ≠ (S.cnt : Int) := by omega
        simpa using this
      have hj1 : ((j : Int) != 1) = true := by
        have : (j : Int) ≠ 1 := by omega
        simpa using this
      have HR : Hid (∀ way wr', OwnsI w.heap.size way (al ++ [(j' : Int)]) wr' → Below w.heap.size w wr' → RelWu R T w (.int .i64 j') way wr') :=
        Lib.hid fun way wr' a b => ⟨j', g', m', al, rfl, u2, hg', u4, u5, by rw [← hT, ← hal]; simp, by omega, a, b⟩
      have CU' := Lib.hid CU
      have CC' := Lib.hid CC
      clear hm hkm hT hcnt hown hbel CU CC u1 u4 u5 hups hc1 hc2 hcn t1 t2 jf hg' hal hall
      generalize (S.cnt : Int) = cn at CC' hne
      go_wp2_with (first | (go_at_call 55; refine CU'.out.mono ?_; rintro e w' ⟨rfl, rfl⟩) | (go_at_call 65; refine CC'.out.mono ?_; rintro e w' ⟨rfl, rfl⟩) | (at_builtin; refine wpList_append_own _ rfl _ _ 57 rfl w.heap.size 3 i0 (.int .i64 0) 1 8 Try.underlying57 hi0 hz0 hz1 hz2 rfl (by decide) _ _ _ rfl (World.ownsRow.alloc HO.out _) ⟨wr.heap.size, 0, none⟩ 1 1 [.int .i64 j'] rfl rfl ?c1 ?c2 ?c3 ?c4 ?c5 ?_))
      case c1 => exact new_i1 wr _
      case c2 => intro u hu; simp at hu; subst hu; rfl
      case c3 => unfold maxLen; omega
      case c4 => omega
      case c5 => simp; omega
      · intro v' w1 hown' hgrow _
        have P := Lib.hid (own_pushI HO.out HB.out hown' hgrow)
        clear hown' hgrow
        go_wp2
        go_roundw
        case rel => exact HR.out _ _ P.out.1 P.out.2
        case measure => simp [intOf]; omega

set_option maxHeartbeats 2000000 in
set_option maxRecDepth 100000 in
theorem wayUp34_wrong {k : Nat} {R : List Nr} {ds : List Nat} (L : Lay) (D : Nat) (S : St) (w : World) (h : DiskAt L D S w) (H : Hd k S R ds) (id : Int) (hid : In64 id) (hr : dirRE R id ≠ 0) :
    Calls Try.prog 34 #[.pointer (some ⟨D, 0, none⟩), .int .i64 id] w fun e w' => e = .returned (.tuple #[.slice none 0 0, .int .i64 (dirRE R id)]) ∧ Below w.heap.size w w' := by
  have B0 := (Below.refl w.heap.size w).alloc (Nat.le_refl _) (.cells #[.int .i64 id] 3)
  have CU := up55 L D S _ (h.below B0) id hid
  obtain ⟨t1, t2⟩ := H.upWrong id hr
  rw [t1, t2] at CU
  have h1 : (id != 1) = true := by
    have : id ≠ 1 := by
      rintro rfl
      obtain ⟨n, hn, hk⟩ := H.sim.root
      exact hr (dirRE_ok (i := 1) hn (by omega) hk)
    simpa using this
  have h2 : (dirRE R id != 0) = true := by simpa using hr
  generalize dirRE R id = r at CU h2 ⊢
  have CU' := Lib.hid CU
  have HB := Lib.hid B0
  clear CU B0 h H t1 t2 hr
  go_enter Try.func34, Try.ntmps34
  go_wp2
  go_loopw [1, 6] (fun a b wr => a = .int .i64 id ∧ wr = w.alloc (.cells #[.int .i64 id] 3)) (fun _ _ _ => 0)
  case atStart => exact ⟨rfl, rfl⟩
  case round =>
    obtain ⟨rfl, rfl⟩ := hrel
    go_wp2_with (go_at_call 55; refine CU'.out.mono ?_; rintro e w' ⟨rfl, rfl⟩)
    go_ret2
    exact ⟨rfl, HB.out⟩
end Go.Proofs.Ytgdjoojghkdcbaa

/- slices.Reverse of texts; plain facts on a directory's way up. Conditions: the disk is one that the law builds. -/
namespace Go.Proofs.Ytgdjoojghkdcbaa
open Go.RowKit Go.PlainAid Pth
set_option linter.unusedSimpArgs false

theorem below_sets {B : Nat} {a : World} (b : Nat) (hb : B ≤ b) : ∀ (vs : List Value) (o : Nat) {w : World}, Below B a w → Below B a (w.setCells b o vs)
  | [], _, _, h => h
  | v :: r, o, _, h => below_sets b hb r (o + 1) (h.setCell (p := ⟨b, o, none⟩) hb v)
theorem cell_drewN (w : World) (q : Nat) (a : Addr) : (w.drewN q).cell? a = w.cell? a := rfl
theorem size_drewN (w : World) (q : Nat) : (w.drewN q).heap.size = w.heap.size := rfl
theorem size_sets (b : Nat) : ∀ (vs : List Value) (o : Nat) (w : World), (w.setCells b o vs).heap.size = w.heap.size
  | [], _, _ => rfl
  | v :: r, o, w => by rw [World.setCells, size_sets b r (o + 1)]; simp [World.setCell]

theorem ownsRow_below {w w' : World} {base : Nat} {e : TypeId} {size : Nat} {v : Value} {n : Nat} {xs : List Value} (h : w.ownsRow base e size v n xs) (hb : Below w.heap.size w w') : w'.ownsRow base e size v n xs := by
  refine ⟨h.1, ?_⟩
  rcases h.2 with h2 | ⟨g, cap, cur, rfl, h2, h3, h4⟩
  · exact .inl h2
  · exact .inr ⟨g, cap, cur, rfl, h2, (hb.block _ (lt_of_block h3)).trans h3, h4⟩
/-- slices.Reverse of texts in memory of one's own. -/
theorem rev36 (B : Nat) (v : Value) (l : List ByteArray) (w : World) (h : OwnsL B v l w) (hl : l.length ≤ 1000) :
    Calls Try.prog 36 #[v] w fun e w' => e = .returned (.tuple #[]) ∧ (l = [] → ∃ a c, v = .slice a 0 c) ∧ (l ≠ [] → ∃ g cap, v = .slice (some ⟨g, 0, none⟩) l.length cap ∧ l.length ≤ cap ∧ g < w'.heap.size ∧ ∀ j x, l.reverse[j]? = some x → w'.cell? ⟨g, 0 + j, none⟩ = some (.string x)) ∧ Below B w w' := by
  by_cases h0 : l = []
  · subst h0
    obtain ⟨a, c, rfl⟩ : ∃ a c, v = .slice a 0 c := by
      rcases h.2 with ⟨rfl, _⟩ | ⟨g, cap, cur, rfl, _⟩
      · exact ⟨_, _, rfl⟩
      · exact ⟨_, _, rfl⟩
    refine (Try.slices_Reverse_string_empty a c w).mono ?_
    rintro e w' ⟨rfl, rfl⟩
    exact ⟨rfl, fun _ => ⟨_, _, rfl⟩, fun h => absurd rfl h, Below.refl _ _⟩
  · have hc := fun g hg => World.ownsRow.cells h (g := g) hg
    rcases h.2 with ⟨_, h1⟩ | ⟨g, cap, cur, rfl, hB, hg, hle, _, _, _⟩
    · exact absurd (List.length_eq_zero_iff.1 h1) h0
    have hcell : ∀ (j : Nat) x, l[j]? = some x → w.cell? ⟨g, 0 + j, none⟩ = some (.string x) := by
      intro j x hx
      have := hc g rfl j (.string x) (by simp [strs, hx])
      rw [Nat.zero_add, show (⟨g, j, none⟩ : Addr) = (⟨g, 0, none⟩ : Addr).add j by unfold Addr.add; split <;> simp_all]
      exact this
    refine (Try.slices_Reverse_string_cells g 0 l.length cap (fun i => l.getD i ⟨#[]⟩) w (by omega) ?_ (fun j hj => free_at hg)).mono ?_
    · intro i hi
      have := hcell i l[i] (List.getElem?_eq_getElem hi)
      rw [this]
      simp [List.getD, hi]
    · rintro e w' ⟨rfl, q, rfl⟩
      refine ⟨rfl, fun h => absurd h h0, fun _ => ⟨g, cap, rfl, hle, by rw [size_sets, size_drewN]; exact lt_of_block hg, ?_⟩, below_sets g hB _ 0 (below_drewN (Below.refl _ _) q)⟩
      intro j x hx
      have hlen : ((Lib.strsOf (fun i => l.getD i ⟨#[]⟩) l.length).reverse.map encStr).length = l.length := by simp [Lib.strsOf_length]
      have hj : j < l.length := by have := (List.getElem?_eq_some_iff.1 hx).1; simpa using this
      have hin := World.cell?_setCells_in g ((Lib.strsOf (fun i => l.getD i ⟨#[]⟩) l.length).reverse.map encStr) 0 (w.drewN q) (fun t ht => by
        rw [hlen] at ht
        rw [cell_drewN, hcell t l[t] (List.getElem?_eq_getElem ht)]
        rfl) j (by rw [hlen]; exact hj)
      rw [hin]
      congr 1
      have hx' : x = l[l.length - 1 - j] := by
        rw [List.getElem?_reverse hj, List.getElem?_eq_getElem (by omega)] at hx
        simpa using hx.symm
      subst hx'
      have hjj : l.length - 1 - j < l.length := by omega
      simp [Lib.strsOf, List.getD, hjj, encStr]

section
variable {k : Nat} {S : St} {R : List Nr} {ds : List Nat}
theorem nms_one (R : List Nr) {f : Nat} (h : 1 ≤ f) : nmsL R f 1 = [] := by
  obtain ⟨g, rfl⟩ : ∃ g, f = g + 1 := ⟨f - 1, by omega⟩
  rw [nmsL, if_pos rfl]
theorem ups_head (R : List Nr) (f : Nat) (j : Int) : ∃ r, upsL R f j = j :: r := by
  cases f with
  | zero => exact ⟨[], rfl⟩
  | succ f =>
    rw [upsL]
    split
    · exact ⟨_, rfl⟩
    · exact ⟨_, rfl⟩
theorem both_more (R : List Nr) {f j j' : Nat} {m : Nr} (h : 2 ≤ j) (hf : j ≤ f) (hu : upR R j = j') (hlt : j' < j) (hm : R[j']? = some m) : ∃ g, j' ≤ g ∧ upsL R f j = (j : Int) :: upsL R g j' ∧ nmsL R f j = nmE j m.ents :: nmsL R g j' := by
  obtain ⟨g, rfl⟩ : ∃ g, f = g + 1 := ⟨f - 1, by omega⟩
  exact ⟨g, by omega, by rw [upsL, if_neg (by omega), hu], by rw [nmsL, if_neg (by omega), hu, enR_at hm]⟩
theorem Hd.ups_len (H : Hd k S R ds) : ∀ (f i : Nat), (upsL R f i).length ≤ f + 1
  | 0, i => Nat.le_refl _
  | f + 1, i => by
    rw [upsL]
    split
    · simp
    · obtain ⟨j, hj⟩ : ∃ j : Nat, Ytgdjoojghkdcbaa.upR R i = j := ⟨(Ytgdjoojghkdcbaa.upR R i).toNat, by have := H.upR i; omega⟩
      rw [hj, List.length_cons]
      have := H.ups_len f j
      omega
end
theorem tot_names : ∀ l : List ByteArray, (∀ x ∈ l, x.size ≤ 255) → totL l ≤ 256 * l.length
  | [], _ => Nat.le_refl _
  | x :: r, h => by
    have := tot_names r (fun y hy => h y (List.mem_cons_of_mem _ hy))
    have := h x (by simp)
    simp only [totL, List.length_cons]
    omega

end Go.Proofs.Ytgdjoojghkdcbaa

/- walk.Whole, walked. Conditions: the disk is one that the law builds. -/
namespace Go.Proofs.Ytgdjoojghkdcbaa
open Go.RowKit Go.PlainAid Pth
set_option linter.unusedSimpArgs false

/-- The names' loop: what is left of the way, and of the names. -/
def RelNs (R : List Nr) (U : List Int) (T : List ByteArray) (w1 : World) (names i : Value) (wr : World) : Prop :=
  ∃ (t j f : Nat) (n : Nr) (acc : List ByteArray), i = .int .i64 t ∧ acc.length = t ∧ 1 ≤ j ∧ j ≤ f ∧ R[j]? = some n ∧ n.kind = 2 ∧ U.drop t = upsL R f j ∧ acc ++ nmsL R f j = T ∧ OwnsL w1.heap.size names acc wr ∧ Below w1.heap.size w1 wr

set_option maxHeartbeats 4000000 in
set_option maxRecDepth 100000 in
theorem whole14 {k : Nat} {R : List Nr} {ds : List Nat} (L : Lay) (D : Nat) (S : St) (w : World) (h : DiskAt L D S w) (H : Hd k S R ds) (hk : k ≤ 100) {i : Nat} {n : Nr} (h1 : 1 ≤ i) (hn : R[i]? = some n) (hkd : n.kind = 2) :
    Calls Try.prog 14 #[.pointer (some ⟨D, 0, none⟩), .int .i64 i] w fun e w' => e = .returned (.tuple #[.string (wholeS R i), .int .i64 0]) ∧ Below w.heap.size w w' := by
  obtain ⟨i0, hi0, hz0, hz1, hz2⟩ := info_parts Try.info9
  have CW := Lib.hid (wayUp34 L D S w h H hk h1 hn hkd)
  have hil := (List.getElem?_eq_some_iff.1 hn).1
  have hsz := H.size
  have hUl := H.ups_len i i
  obtain ⟨r0, hU0⟩ := ups_head R i i
  obtain ⟨U, hU⟩ : ∃ U, upsL R i i = U := ⟨_, rfl⟩
  obtain ⟨T, hT⟩ : ∃ T, nmsL R i i = T := ⟨_, rfl⟩
  have hTl : T.length ≤ i := by rw [← hT]; exact H.nms_len i i
  have hT5 : ∀ x ∈ T, x.size ≤ 255 := fun x hx => (bare_of (H.nms_bare i i n (Nat.le_refl _) h1 hn hkd x (by rw [hT]; exact hx))).2.1
  have htot := tot_names T.reverse (fun x hx => hT5 x (List.mem_reverse.1 hx))
  rw [List.length_reverse] at htot
  have hjl := join_le T.reverse
  have hres : wholeS R i = ⟨#[47]⟩ ++ joinL T.reverse := by unfold wholeS; rw [hT]
  rw [hres]
  have R0 : ∀ w1, Hid (RelNs R U T w1 (.slice none 0 0) (.int .i64 0) w1) := fun w1 =>
    Lib.hid ⟨0, i, i, n, [], rfl, rfl, h1, Nat.le_refl _, hn, hkd, by rw [List.drop_zero]; exact hU.symm, by rw [List.nil_append]; exact hT, own_nil w1, Below.refl _ _⟩
  rw [hU] at CW hUl hU0
  have hUne : 0 < U.length := by rw [hU0]; simp
  have HD := Lib.hid h
  have HH := Lib.hid H
  clear h H hU hT hn hkd h1 hres hU0
  obtain ⟨q, hq⟩ : ∃ q : Nat, U.length = q := ⟨_, rfl⟩
  obtain ⟨p, hp⟩ : ∃ p : Nat, q = p + 1 := ⟨q - 1, by omega⟩
  have hw1 : wrap64 ((q : Int) - 1) = (p : Int) := by unfold wrap64; omega
  have hw2 : IntKind.i64.wrap ((q : Int) - 1) = (p : Int) := by rw [IntKind.wrap_i64]; omega
  have hpq : p < q := by omega
  have HP := Lib.hid hp
  clear hp
  go_enter Try.func14, Try.ntmps14
  go_wp2_with fail
  refine CW.out.mono ?_
  rintro e w1 ⟨v, rfl, hown, hb1⟩
  obtain ⟨g, cap, rfl, hBg, hgl, hcap, hcell⟩ := hown.shape hUne
  have HB1 := Lib.hid hb1
  have HCL := Lib.hid hcell
  rw [hq] at hcap ⊢
  clear CW hown hb1 hcell
  go_wp2
  go_loopw [8, 22] (RelNs R U T w1) (fun _ i _ => p - (intOf i).toNat)
  case atStart => exact (R0 w1).out
  case round =>
    clear R0
    obtain ⟨t, j, f, m, acc, rfl, hal, j1, jf, hm, hkm, hUd, hTd, hown, hbel⟩ := hrel
    have htl : (U.drop t).length = U.length - t := List.length_drop
    have hp := HP.out
    obtain ⟨na, nc, rfl⟩ := slice_shape hown
    have HO := Lib.hid hown
    have HB := Lib.hid hbel
    by_cases hlt : t < p
    · have j2 : 2 ≤ j := by
        by_cases e : j = 1
        · subst e
          rw [hUd, show ((1 : Nat) : Int) = 1 from rfl, ups_one R jf] at htl
          simp at htl
          omega
        · omega
      obtain ⟨j', m', u1, u2, u3, u4, u5, u6, u7⟩ := HH.out.upOf (i := j) j2 hm (by omega)
      obtain ⟨g', hg', hups, hnms⟩ := both_more R j2 jf u1 u3 u4
      obtain ⟨r', hr'⟩ := ups_head R g' j'
      rw [hups, hr'] at hUd
      have hx0 : U[t]? = some (j : Int) := by
        have : (U.drop t)[0]? = some (j : Int) := by rw [hUd]; rfl
        rw [List.getElem?_drop] at this
        simpa using this
      have hx1 : U[t + 1]? = some (j' : Int) := by
        have : (U.drop t)[1]? = some (j' : Int) := by rw [hUd]; rfl
        rw [List.getElem?_drop] at this
        exact this
      have hUd' : U.drop (t + 1) = upsL R g' j' := by
        have : U.drop (t + 1) = (U.drop t).drop 1 := by rw [List.drop_drop]
        rw [this, hUd, hr']
        rfl
      rw [hnms] at hTd
      obtain ⟨x, hx⟩ : ∃ x, nmE (j : Int) m'.ents = x := ⟨_, rfl⟩
      rw [hx] at hTd
      have hj'l := (List.getElem?_eq_some_iff.1 u4).1
      have hfew := HH.out.sim.inv.few m' (List.mem_of_getElem? u4)
      have B5 := HB.out.drew
      have hdir := HH.out.dirAt u2 u4 u5
      have CN := nameIn35 L D S wr.drew (HD.out.below (bel_trans HB1.out B5)) j' (in64 (by omega)) _ hdir u5 hfew j
      dsimp only at CN
      rw [hx] at CN
      obtain ⟨t1, ht1⟩ : ∃ t1 : Nat, t1 = t + 1 := ⟨_, rfl⟩
      have HT1 := Lib.hid ht1
      have HR : Hid (∀ names wr', OwnsL w1.heap.size names (acc ++ [x]) wr' → Below w1.heap.size w1 wr' → RelNs R U T w1 names (.int .i64 (t1 : Int)) wr') :=
        Lib.hid fun names wr' a b => ⟨t1, j', g', m', acc ++ [x], rfl, by simp; omega, u2, hg', u4, u5, by rw [ht1]; exact hUd', by rw [← hTd]; simp, a, b⟩
      have c0 : wr.cell? ⟨g, t, none⟩ = some (.int .i64 j) := by rw [HB.out.cell hgl]; exact HCL.out t _ hx0
      have c1 : wr.cell? ⟨g, t + 1, none⟩ = some (.int .i64 j') := by rw [HB.out.cell hgl]; exact HCL.out (t + 1) _ hx1
      have HN := Lib.hid CN
      have HB5 := Lib.hid B5
      have HO5 : Hid (OwnsL w1.heap.size (.slice na acc.length nc) acc wr.drew) := HO
      have hwt : IntKind.i64.wrap ((t : Int) + 1) = (t1 : Int) := by rw [IntKind.wrap_i64]; omega
      rw [← ht1] at c1
      have HG : Hid (∀ wx, Below w1.heap.size w1 wx → wx.cell? ⟨g, t, none⟩ = some (.int .i64 j) ∧ wx.cell? ⟨g, t1, none⟩ = some (.int .i64 j')) := Lib.hid fun wx hb => ⟨by rw [hb.cell hgl]; exact HCL.out t _ hx0, by rw [hb.cell hgl, ht1]; exact HCL.out (t + 1) _ hx1⟩
      have hlt1 : (t : Int) < (p : Int) := by omega
      have hlq : (t : Int) < (q : Int) := by omega
      have hlq1 : (t1 : Int) < (q : Int) := by omega
      have hlqn : t1 < q := by omega
      have hltn : t < q := by omega
      have hwt0 : (0 : Int) ≤ (t : Int) := by omega
      have hacc : acc.length ≤ 1000 := by omega
      clear hal ht1 hp hUd hTd hown hbel u1 u4 u5 u6 u7 hm hkm hups hnms hr' hx hfew B5 hdir CN hx0 hx1 hUd' jf hg' htl
      go_wp2
      go_region_held3 (fun wx => wx.cell? ⟨g, t, none⟩ = some (.int .i64 j) ∧ wx.cell? ⟨g, t1, none⟩ = some (.int .i64 j')) (first | exact HG.out _ HB5.out | exact HG.out _ HB6.out | exact HG.out _ (HB6.out.alloc HB6.out.size _) | exact HG.out _ PP.out.2)
        (first
          | (go_at_call 35; refine HN.out.mono ?_; rintro e w6 ⟨rfl, b6⟩; have HB6 := Lib.hid (bel_trans HB5.out b6); have HO6 : Hid (OwnsL w1.heap.size (.slice na acc.length nc) acc w6) := Lib.hid (ownsRow_below HO5.out b6); have hs6 : w1.heap.size ≤ w6.heap.size := HB6.out.size; clear b6)
          | (refine step_append_lies _ rfl _ _ 70 rfl w1.heap.size 9 i0 (.string ⟨#[]⟩) 1 16 Try.underlying70 hi0 hz0 hz1 hz2 rfl (by decide) _ _ _ rfl (World.ownsRow.alloc HO6.out _) ⟨w6.heap.size, 0, none⟩ 1 1 [.string x] rfl rfl (new_one w6 _) (by intro u hu; simp at hu; subst hu; rfl) (by decide) (by unfold maxLen; omega) (by omega) (by simp; omega) _ rfl ?_; intro g2 cap2 w7 hown' hgrow hat hlt7; have PP := Lib.hid (own_push HO6.out HB6.out hown' hgrow); clear hown' hgrow hat hlt7))
      go_wp2
      go_roundw
      case rel => exact HR.out _ _ PP.out.1 PP.out.2
      case measure =>
        have := HT1.out
        have : t < p := Int.ofNat_lt.1 hlt1
        simp [intOf]
        omega
    · have ht : (U.drop t).length ≤ 1 := by omega
      have hacc : acc = T := by
        by_cases e : j = 1
        · subst e
          rw [show ((1 : Nat) : Int) = 1 from rfl, nms_one R jf, List.append_nil] at hTd
          exact hTd
        · obtain ⟨j', m', u1, u2, u3, u4, _⟩ := HH.out.upOf (i := j) (by omega) hm (by omega)
          obtain ⟨g', hg', hups, _⟩ := both_more R (by omega) jf u1 u3 u4
          obtain ⟨r', hr'⟩ := ups_head R g' j'
          rw [hUd, hups, hr'] at ht
          simp at ht
      subst hacc
      have htp : ¬ (t : Int) < (p : Int) := by omega
      have CR := Lib.hid (rev36 w1.heap.size (.slice na acc.length nc) acc wr HO.out (by omega))
      clear hal hp hUd hTd hown hbel hm hkm ht htl jf
      go_wp2_with fail
      refine CR.out.mono ?_
      rintro e w2 ⟨rfl, hr1, hr2, hb2⟩
      have HB2 := Lib.hid (HB.out.trans hb2)
      have HBA := Lib.hid (bel_trans HB1.out HB2.out)
      by_cases hem : acc = []
      · have CJ : Hid (Calls Try.prog 37 #[.slice na acc.length nc, .string ⟨#[47]⟩] w2 fun e w' => e = .returned (.string ⟨#[]⟩) ∧ w' = w2) := Lib.hid (by
          rw [show acc.length = 0 by rw [hem]; rfl]
          exact Try.strings_Join_none na nc ⟨#[47]⟩ w2)
        have e1 : Hid (joinL acc.reverse = ⟨#[]⟩) := Lib.hid (by rw [hem]; rfl)
        clear hr1 hr2 hb2 CR hem
        go_wp2_with fail
        refine CJ.out.mono ?_
        rintro e w' ⟨rfl, rfl⟩
        go_wp2
        go_ret2
        exact ⟨by rw [e1.out]; rfl, HBA.out⟩
      · obtain ⟨g2, cap2, hs, hc2, hg2, hcells⟩ := hr2 hem
        cases hs
        have CJ := Try.strings_Join g2 0 nc acc.reverse ⟨#[47]⟩ w2 hcells hg2 (by rw [List.length_reverse]; omega) (by rw [List.length_reverse]; exact hc2) (by
          have e1 := congrArg ByteArray.size (join_is acc.reverse)
          have e2 : (⟨(Lib.join (acc.reverse.map (·.data.toList)) [47]).toArray⟩ : ByteArray).size = (Lib.join (acc.reverse.map (·.data.toList)) [47]).length := by simp [ByteArray.size]
          rw [e2] at e1
          show (Lib.join (acc.reverse.map (·.data.toList)) [47]).length ≤ _
          omega)
        rw [List.length_reverse] at CJ
        have e1 : (⟨(Lib.join (acc.reverse.map (·.data.toList)) (⟨#[47]⟩ : ByteArray).data.toList).toArray⟩ : ByteArray) = joinL acc.reverse := join_is acc.reverse
        rw [e1] at CJ
        obtain ⟨J, hJ⟩ : ∃ J, joinL acc.reverse = J := ⟨_, rfl⟩
        rw [hJ] at CJ
        have hJs : J.size ≤ 30000 := by rw [← hJ]; omega
        have hJn : ¬ 9223372036854775807 < 1 + J.size := by omega
        have HJ := Lib.hid hJ
        clear hJ
        have CJ' := Lib.hid CJ
        clear hr1 hr2 hb2 CR CJ hcells e1 hjl hem
        go_wp2_with fail
        refine CJ'.out.mono ?_
        rintro e w3 ⟨rfl, b3⟩
        have HB3 := Lib.hid (bel_trans HBA.out b3)
        clear b3
        go_wp2
        go_ret2
        exact ⟨by rw [HJ.out]; rfl, HB3.out⟩

set_option maxHeartbeats 2000000 in
set_option maxRecDepth 100000 in
theorem whole14_wrong {k : Nat} {R : List Nr} {ds : List Nat} (L : Lay) (D : Nat) (S : St) (w : World) (h : DiskAt L D S w) (H : Hd k S R ds) (id : Int) (hid : In64 id) (hr : dirRE R id ≠ 0) :
    Calls Try.prog 14 #[.pointer (some ⟨D, 0, none⟩), .int .i64 id] w fun e w' => e = .returned (.tuple #[.string ⟨#[]⟩, .int .i64 (dirRE R id)]) ∧ Below w.heap.size w w' := by
  have C := wayUp34_wrong L D S w h H id hid hr
  have h2 : (dirRE R id != 0) = true := by simpa using hr
  generalize dirRE R id = r at C h2 ⊢
  have C' := Lib.hid C
  clear C h H hr
  go_enter Try.func14, Try.ntmps14
  go_wp2_with fail
  refine C'.out.mono ?_
  rintro e w1 ⟨rfl, b1⟩
  have HB := Lib.hid b1
  clear b1
  go_wp2
  go_ret2
  exact ⟨rfl, HB.out⟩
end Go.Proofs.Ytgdjoojghkdcbaa

/- The document's Whole, walked; walk.Find of a text that is no path. Conditions: the disk is one that the law builds. -/
namespace Go.Proofs.Ytgdjoojghkdcbaa
open Go.RowKit Go.PlainAid Pth
set_option linter.unusedSimpArgs false

theorem join_some {x : ByteArray} {l : List ByteArray} (h : 0 < x.size) : (joinL (x :: l)).size ≠ 0 := by
  show (x ++ tailJ l).size ≠ 0
  rw [app_size]
  omega
/-- The outer loop. -/
def RelWh (P : Nat → Prop) (v : Value) (room : Int) (Z : List Zn) (i : Nat) (T : List ByteArray) (w : World) (id s c : Value) (wr : World) : Prop :=
  ∃ (t j f : Nat) (n : Nr) (acc : List ByteArray), id = .int .i64 j ∧ s = .string (joinL acc) ∧ c = .int .i64 t ∧ 1 ≤ j ∧ j ≤ f ∧ t + j ≤ i ∧ (nrs Z)[j]? = some n ∧ n.kind = 2 ∧ (nmsL (nrs Z) f j).reverse ++ acc = T ∧ (∀ x ∈ acc, 0 < x.size) ∧ (joinL acc).size ≤ 256 * t ∧ Bx P w v room Z wr
/-- The inner loop. -/
def RelWi (l : List En) (id : Int) (x : ByteArray) (acc : List ByteArray) (w6 : World) (s found q : Value) (wr : World) : Prop :=
  ∃ t : Nat, t ≤ l.length ∧ q = .int .i64 t ∧ wr = w6 ∧ ((found = .bool false ∧ s = .string (joinL acc) ∧ nmE id (l.drop t) = x ∧ 0 < cE id (l.drop t)) ∨ (found = .bool true ∧ s = .string (joinL (x :: acc))))

set_option maxHeartbeats 4000000 in
set_option maxRecDepth 100000 in
theorem whole16 {k : Nat} {S : St} {ds : List Nat} (P : Nat → Prop) (v : Value) (room : Int) (Z : List Zn) (w : World) (X : XAt P v Z w) (H : Hd k S (nrs Z) ds) (hk : k ≤ 100) {i : Nat} {n : Nr} (h1 : 1 ≤ i) (hn : (nrs Z)[i]? = some n) (hkd : n.kind = 2) :
    Calls Try.prog 16 #[xv v room, .int .i64 i] w fun e w' => e = .returned (.tuple #[.string (wholeS (nrs Z) i), .bool true]) ∧ Below w.heap.size w w' := by
  have hz2 := H.sim.two
  rw [nrs_len] at hz2
  have hsz := H.size
  rw [nrs_len] at hsz
  have hil := (List.getElem?_eq_some_iff.1 hn).1
  rw [nrs_len] at hil
  have B0 := Bx.start X room
  obtain ⟨T, hT⟩ : ∃ T, (nmsL (nrs Z) i i).reverse = T := ⟨_, rfl⟩
  have hres : wholeS (nrs Z) i = ⟨#[47]⟩ ++ joinL T := by unfold wholeS; rw [hT]
  rw [hres]
  have R0 := Lib.hid (show RelWh P v room Z i T w (.int .i64 i) (.string ⟨#[]⟩) (.int .i64 0) _ from ⟨0, i, i, n, [], rfl, rfl, rfl, h1, Nat.le_refl _, by omega, hn, hkd, by rw [List.append_nil]; exact hT, (fun x hx => nomatch hx), Nat.le_refl _, B0⟩)
  have HH := Lib.hid H
  have q0 := B0.c00
  have q1 := B0.c01
  obtain ⟨g, c, rfl⟩ := X.shape (by omega)
  clear B0 hT hres hn hkd h1 H X
  go_enter Try.func16, Try.ntmps16
  go_wp2
  go_loopw [1, 6, 7] (RelWh P (.slice (some ⟨g, 0, none⟩) Z.length c) room Z i T w) (fun id _ _ _ => (intOf id).toNat)
  case atStart => exact R0.out
  case round =>
    clear R0 q0 q1
    obtain ⟨t, j, f, m, acc, rfl, rfl, rfl, j1, jf, htj, hm, hkm, hT, hacc, hjs, hB⟩ := hrel
    have q0 := hB.c00
    have q1 := hB.c01
    have HB := Lib.hid hB
    have htl : decide ((t : Int) ≤ (Z.length : Int)) = true := decide_eq_true (by omega)
    by_cases e : j = 1
    · subst e
      rw [show ((1 : Nat) : Int) = 1 from rfl, nms_one _ jf] at hT
      have HT : Hid (acc = T) := Lib.hid (by simpa using hT)
      have hs1 : ¬ 9223372036854775807 < 1 + (joinL acc).size := by omega
      clear hT hB hm hkm hacc jf hjs
      go_wp2
      go_ret2
      exact ⟨by rw [← HT.out]; rfl, HB.out.bel⟩
    · obtain ⟨j', m', u1, u2, u3, u4, u5, u6, u7⟩ := HH.out.upOf (i := j) (by omega) hm (by omega)
      obtain ⟨g', hg', _, hnms⟩ := both_more (nrs Z) (by omega) jf u1 u3 u4
      rw [hnms] at hT
      have hne1 : ((j : Int) == 1) = false := by
        have : (j : Int) ≠ 1 := by omega
        simpa using this
      have hj'l := (List.getElem?_eq_some_iff.1 u4).1
      rw [nrs_len] at hj'l
      have hfew : ∀ z ∈ Z, z.1.ents.length ≤ 100000 := fun z hz => by
        have := HH.out.sim.inv.few z.1 (by simp only [nrs]; exact List.mem_map_of_mem hz)
        omega
      have hlm := HH.out.sim.inv.few m' (List.mem_of_getElem? u4)
      have CU := rup70 P _ room Z _ hB.x (by omega) (by omega) hfew j
      rw [u1] at CU
      obtain ⟨ev, hev⟩ := zn_get u4
      obtain ⟨x, hx⟩ : ∃ x, nmE (j : Int) m'.ents = x := ⟨_, rfl⟩
      rw [hx] at hT u6 u7
      have hx0 : 0 < x.size := (bare_of u7).1.1
      have hcE : 0 < cE (j : Int) m'.ents := by
        by_cases e0 : 0 < cE (j : Int) m'.ents
        · exact e0
        · exfalso
          have : ∀ (l : List En), (x, (j : Int)) ∈ l → 0 < cE (j : Int) l := by
            intro l
            induction l with
            | nil => intro h; cases h
            | cons a l ih =>
              intro h
              simp only [cE]
              rcases List.mem_cons.1 h with rfl | h
              · simp; omega
              · have := ih h; omega
          exact e0 (this _ u6)
      have hx5 := (bare_of u7).2.1
      have hjx : (joinL (x :: acc)).size ≤ 256 * (t + 1) := by
        show (x ++ tailJ acc).size ≤ _
        rw [app_size]
        cases acc with
        | nil => show x.size + 0 ≤ _; omega
        | cons a r =>
          rw [tailJ_cons, app_size, show (⟨#[47]⟩ : ByteArray).size = 1 from rfl]
          omega
      have hs1 : ¬ 9223372036854775807 < 1 + (joinL acc).size := by omega
      have hs2 : ¬ 9223372036854775807 < x.size + (joinL acc).size := by omega
      have hs3 : ¬ 9223372036854775807 < x.size + (1 + (joinL acc).size) := by omega
      have HR : Hid (∀ wr', Bx P w (.slice (some ⟨g, 0, none⟩) Z.length c) room Z wr' → RelWh P (.slice (some ⟨g, 0, none⟩) Z.length c) room Z i T w (.int .i64 j') (.string (joinL (x :: acc))) (.int .i64 ((t : Int) + 1)) wr') :=
        Lib.hid fun wr' b => ⟨t + 1, j', g', m', x :: acc, rfl, rfl, by simp, u2, hg', by omega, u4, u5, by rw [← hT]; simp, fun y hy => by
          rcases List.mem_cons.1 hy with rfl | hy
          · exact hx0
          · exact hacc y hy, hjx, b⟩
      have HJ1 : Hid (acc = [] → x ++ joinL acc = joinL (x :: acc)) := Lib.hid fun h => by subst h; rfl
      have HJ2 : Hid (acc ≠ [] → x ++ (⟨#[47]⟩ ++ joinL acc) = joinL (x :: acc)) := Lib.hid fun h => by
        cases acc with
        | nil => exact absurd rfl h
        | cons a r => rw [joinL_two]
      have HA : Hid (acc ≠ [] → (joinL acc).size ≠ 0) := Lib.hid fun h => by
        cases acc with
        | nil => exact absurd rfl h
        | cons a r => exact join_some (hacc a (by simp))
      have HC := Lib.hid CU
      have Hev := Lib.hid hev
      clear hjs hjx hx5 CU hT hB hm hkm hacc jf u1 u4 u5 u6 u7 hnms hg' hfew hev
      go_wp2_with fail
      refine HC.out.mono ?_
      rintro e6 w6 ⟨rfl, b6⟩
      have B6 := HB.out.below b6
      have HB6 := Lib.hid B6
      have c00 := B6.c00
      have c01 := B6.c01
      have c4 := (B6.x.at Hev.out).c4
      have HRW : Hid (Row 85 0 ev m'.ents w6) := Lib.hid (B6.x.ents _ (List.mem_of_getElem? Hev.out))
      clear HC b6 B6 q0 q1 Hev
      generalize m'.ents = l at HRW hx hcE hlm
      rcases HRW.out.cases with ⟨_, hl0⟩ | ⟨ge, cape, cur, hev2, _⟩
      · rw [hl0] at hcE; simp [cE] at hcE
      subst hev2
      have HX := Lib.hid hx
      have HCE := Lib.hid hcE
      clear hx hcE
      go_wp2
      go_loopw [6, 9, 10] (RelWi l j x acc w6) (fun _ _ q _ => l.length - (intOf q).toNat)
      case atStart => exact ⟨0, Nat.zero_le _, rfl, rfl, .inl ⟨rfl, rfl, by rw [List.drop_zero]; exact HX.out, by rw [List.drop_zero]; exact HCE.out⟩⟩
      case round =>
        clear HX HCE
        obtain ⟨q, hq, rfl, rfl, hcase⟩ := hrel
        by_cases hql : q < l.length
        · obtain ⟨y, hy⟩ := get_some hql
          have d1 := HRW.out.cell1 hy
          have d0 := HRW.out.cell0 hy
          have hd := drop_get hy
          rcases hcase with ⟨rfl, rfl, hnx, hce⟩ | ⟨rfl, rfl⟩
          · rw [hd] at hnx hce
            cases hq2 : (y.2 == (j : Int))
            · have hq3 : y.2 ≠ (j : Int) := by simpa using hq2
              rw [nmE, if_neg hq3] at hnx
              simp only [cE, if_neg hq3] at hce
              have H1 := Lib.hid hnx
              have H2 := Lib.hid (show 0 < cE (j : Int) (l.drop (q + 1)) by omega)
              clear hnx hce hq3 hd hy
              go_wp2
              go_roundw
              case rel => exact ⟨q + 1, hql, by go_num, rfl, .inl ⟨rfl, rfl, H1.out, H2.out⟩⟩
              case measure => simp [intOf]; omega
            · have hq3 : y.2 = (j : Int) := by simpa using hq2
              rw [nmE, if_pos hq3] at hnx
              rw [hnx] at d0
              clear hnx hce hq3 hd hy
              by_cases ha : acc = []
              · have HJ := Lib.hid (HJ1.out ha)
                have he := toList_em (s := joinL acc) (by rw [ha]; rfl)
                clear ha
                go_wp2
                go_roundw
                case rel => exact ⟨q + 1, hql, by go_num, rfl, .inr ⟨rfl, by rw [← HJ.out]⟩⟩
                case measure => simp [intOf]; omega
              · have HJ := Lib.hid (HJ2.out ha)
                have he := toList_ne (HA.out ha)
                clear ha
                go_wp2
                go_roundw
                case rel => exact ⟨q + 1, hql, by go_num, rfl, .inr ⟨rfl, by rw [← HJ.out]⟩⟩
                case measure => simp [intOf]; omega
          · cases hq2 : (y.2 == (j : Int))
            · clear hd hy
              go_wp2
              go_roundw
              case rel => exact ⟨q + 1, hql, by go_num, rfl, .inr ⟨rfl, rfl⟩⟩
              case measure => simp [intOf]; omega
            · clear hd hy
              go_wp2
              go_roundw
              case rel => exact ⟨q + 1, hql, by go_num, rfl, .inr ⟨rfl, rfl⟩⟩
              case measure => simp [intOf]; omega
        · obtain rfl : q = l.length := by omega
          rcases hcase with ⟨_, _, _, hce⟩ | ⟨rfl, rfl⟩
          · rw [List.drop_length] at hce; simp [cE] at hce
          · go_wp2
            go_roundw
            case rel =>
              exact HR.out _ HB6.out
            case measure => simp [intOf]; omega

/-- A text that is no path leads nowhere. -/
theorem find10_wrong (D : Nat) (w : World) (a : Int) (s : ByteArray) (hs : s.size ≤ maxLen) (follow : Bool) (hw : wrongE s ≠ 0) :
    Calls Try.prog 10 #[.pointer (some ⟨D, 0, none⟩), .int .i64 a, .string s, .bool follow] w (GivesP w (.zero, wrongE s)) := by
  have R0 := Lib.hid (Cel.start 32 w (.int .i64 0) (.int .i64 0) (.string ⟨#[]⟩))
  go_enter Try.func10, Try.ntmps10
  go_wp2
  refine wp_scope_jumps 0 (fun _ _ => False) (fun _ _ => 0) rfl ?_ ?_
  · skip
    generalize w.alloc (.cells #[.int .i64 0, .int .i64 0, .string ⟨#[]⟩] 32) = w0 at R0 ⊢
    have CW := Lib.hid (wrong25 s w0 hs)
    have hw' : (wrongE s != 0) = true := by simpa using hw
    clear hw
    generalize wrongE s = r at CW hw' ⊢
    have q0 := R0.out.c0
    have q1 := R0.out.c1
    have q2 := R0.out.c2
    have p0 := R0.out.fr 0
    have p1 := R0.out.fr 1
    have p2 := R0.out.fr 2
    have HE := Lib.hid (R0.out.fin (.int .i64 0) (.int .i64 0) (.string ⟨#[]⟩))
    go_wp2
    go_step3
    go_wp2_with (go_at_call 25; refine CW.out.mono ?_; rintro e w' ⟨rfl, rfl⟩)
    simp only [Exit.jump]
    exact bodyPost_ret_by (results_c1 Try.info32 Try.agg32 rfl _ _ _ _ rfl HE.out.blk rfl) rfl ⟨rfl, HE.out.bel⟩
  · intro a' w' h
    exact absurd h id
end Go.Proofs.Ytgdjoojghkdcbaa

/- A directory's path leads to it: plain. Conditions: the disk is one that the law builds. -/
namespace Go.Proofs.Ytgdjoojghkdcbaa
open Go.RowKit Go.PlainAid Pth
set_option linter.unusedSimpArgs false
section
variable {k : Nat} {S : St} {R : List Nr} {ds : List Nat}
/-- The way down. -/
theorem Hd.downTo (H : Hd k S R ds) (kk : Nat → Int → ByteArray → Pla × Int) (lk : Nat) : ∀ (f i : Nat) (n : Nr), i ≤ f → 1 ≤ i → R[i]? = some n → n.kind = 2 → ∀ (rest : List ByteArray) (p0 : Pla),
    (loopM (vwS S) kk true false lk 1 ((nmsL R f i).reverse ++ rest) p0).2 ≠ 0 ∨ ∃ p : Pla, (i ≠ 1 → p.node = (i : Int)) ∧ loopM (vwS S) kk true false lk 1 ((nmsL R f i).reverse ++ rest) p0 = loopM (vwS S) kk true false lk i rest p
  | 0, i, n, h, h1, _, _ => by omega
  | f + 1, i, n, h, h1, hn, hk => by
    intro rest p0
    rw [nmsL]
    by_cases e : (i : Int) = 1
    · obtain rfl : i = 1 := by omega
      rw [if_pos e]
      exact .inr ⟨p0, fun h => absurd rfl h, rfl⟩
    · rw [if_neg e]
      obtain ⟨j, m, u1, u2, u3, u4, u5, u6, u7⟩ := H.upOf (i := i) (by omega) hn (by omega)
      rw [u1, enR_at u4, List.reverse_cons, List.append_assoc, List.singleton_append]
      generalize nmE (i : Int) m.ents = x at u6 u7
      rcases H.downTo kk lk f j m (by omega) u2 u4 u5 (x :: rest) p0 with h | ⟨p, _, h⟩
      · exact .inl h
      · rw [h]
        obtain ⟨b1, b2, b3, b4⟩ := bare_of u7
        have hvj : vwS S (j : Int) = some ⟨m.kind, m.mode, if m.kind = 2 then ⟨#[]⟩ else m.data, if m.kind = 2 then Ytgdjoojghkdcbaa.upR R (j : Int) else 0, fun s => if m.kind = 2 then getN s m.ents else 0⟩ := by
          rcases H.vw (j : Int) with ⟨e1, _⟩ | ⟨j', m', e1, _, e3, _, _, e6⟩
          · rw [hasR_at u4 u2, u5] at e1; cases e1
          · obtain rfl : j = j' := by omega
            rw [u4] at e3; cases e3; exact e6
        have hki : kindV (vwS S (i : Int)) = 2 := by
          rcases H.vw (i : Int) with ⟨e1, _⟩ | ⟨j', m', e1, _, e3, _, _, e6⟩
          · rw [hasR_at hn h1, hk] at e1; cases e1
          · obtain rfl : i = j' := by omega
            rw [hn] at e3; cases e3; rw [e6]; exact hk
        by_cases hc : closE (vwS S (j : Int)) = 0
        · have hst : stepM (vwS S) (j : Int) x = (⟨i, j, x⟩, 0) := by
            unfold stepM
            rw [hvj] at hc ⊢
            dsimp only
            rw [if_pos hc, if_neg (by rw [b3]; decide), if_neg (by rw [b4]; decide), if_neg (by omega), if_pos u5, getN_mem (H.sim.rise m (List.mem_of_getElem? u4)) u6]
          refine .inr ⟨⟨i, j, x⟩, fun _ => rfl, ?_⟩
          rw [loopM, hst]
          dsimp only
          rw [if_neg (by decide), if_neg (by rw [hki]; simp)]
        · left
          have hst : stepM (vwS S) (j : Int) x = (.zero, closE (vwS S (j : Int))) := by
            unfold stepM
            rw [hvj] at hc ⊢
            dsimp only
            rw [if_neg hc]
          rw [loopM, hst]
          dsimp only
          rw [if_pos hc]
          exact hc
theorem Hd.leads (H : Hd k S R ds) {i : Nat} {n : Nr} (h1 : 1 ≤ i) (hn : R[i]? = some n) (hk : n.kind = 2) : (wayM (vwS S) true 41 0 1 (wholeS R i)).2 ≠ 0 ∨ (wayM (vwS S) true 41 0 1 (wholeS R i)).1.node = i := by
  by_cases hw : wrongE (wholeS R i) = 0
  rotate_left
  · left
    rw [show wayM (vwS S) true 41 0 1 (wholeS R i) = (.zero, wrongE (wholeS R i)) by unfold wayM; exact if_pos hw]
    exact hw
  have he : wayM (vwS S) true 41 0 1 (wholeS R i) = loopM (vwS S) (wayM (vwS S) true 40) true (slsB (wholeS R i)) 0 1 (goL (wholeS R i)) .zero := by
    rw [wayM, if_neg (by simp [hw])]
    congr 1
  rw [he]
  by_cases e : i = 1
  · subst e
    have e1 : wholeS R 1 = ⟨#[47]⟩ := by
      unfold wholeS
      rw [show nmsL R 1 (1 : Nat) = [] by rw [nmsL]; rfl]
      rfl
    rw [e1, show goL ⟨#[47]⟩ = [⟨#[46]⟩] by decide, show slsB ⟨#[47]⟩ = true by decide]
    obtain ⟨r, x, _, _, _, hv, hk1, _, _⟩ := H.rootV
    by_cases hc : closE (vwS S 1) = 0
    · right
      have hst : stepM (vwS S) 1 ⟨#[46]⟩ = (⟨1, 0, ⟨#[]⟩⟩, 0) := by
        unfold stepM
        rw [hv] at hc ⊢
        dsimp only
        rw [if_pos hc, if_pos (by rw [ByteArray.toList_eq]; decide)]
      rw [loopM, hst]
      dsimp only
      rw [if_neg (by decide), if_neg (by rw [hv]; simp [kindV, hk1]), loopM]
      rw [if_neg (by dsimp only; rw [hv]; simp [kindV, hk1])]
      rfl
    · left
      have hst : stepM (vwS S) 1 ⟨#[46]⟩ = (.zero, closE (vwS S 1)) := by
        unfold stepM
        rw [hv] at hc ⊢
        dsimp only
        rw [if_neg hc]
      rw [loopM, hst]
      dsimp only
      rw [if_pos hc]
      exact hc
  · have hne : (nmsL R i i).reverse ≠ [] := by
      obtain ⟨f, rfl⟩ : ∃ f, i = f + 1 := ⟨i - 1, by omega⟩
      rw [nmsL, if_neg (by omega)]
      simp
    have hb : ∀ x ∈ (nmsL R i i).reverse, Bare x := fun x hx => (bare_of (H.nms_bare i i n (Nat.le_refl _) h1 hn hk x (List.mem_reverse.1 hx))).1
    have hd := H.downTo (wayM (vwS S) true 40) 0 i i n (Nat.le_refl _) h1 hn hk [] .zero
    rw [List.append_nil] at hd
    have hgo : goL (wholeS R i) = (nmsL R i i).reverse := by
      have : partsL (wholeS R i) = (nmsL R i i).reverse := by
        unfold wholeS
        rw [parts_sl, parts_join _ hne hb]
      unfold goL
      rw [this, if_neg (fun h0 => hne (List.length_eq_zero_iff.1 h0))]
    have hsl : slsB (wholeS R i) = false := by
      obtain ⟨q1, q2⟩ := join_last _ hne hb
      unfold slsB wholeS
      have hs : (⟨#[47]⟩ : ByteArray).size = 1 := rfl
      rw [app_size, hs, app_bt_r _ _ _ (by rw [hs]; omega), hs, show 1 + (joinL (nmsL R i i).reverse).size - 1 - 1 = (joinL (nmsL R i i).reverse).size - 1 by omega]
      simp only [Bool.and_eq_false_iff]
      right
      simpa using q2
    rw [hgo, hsl]
    rcases hd with h | ⟨p, hp, h⟩
    · exact .inl h
    · right
      rw [h, loopM, if_neg (by simp)]
      exact hp e
end
end Go.Proofs.Ytgdjoojghkdcbaa

/- WalkWhole, walked. Conditions: none beyond the law's own tests. -/
namespace Go.Proofs.Ytgdjoojghkdcbaa
open Go.RowKit Go.PlainAid Pth
set_option linter.unusedSimpArgs false

theorem OpsAt.keeps {w w' : World} {v : Value} {os : List Opn} (h : OpsAt w v os) (b1 : Below w.heap.size w w') : OpsAt w' v os := by
  refine ⟨h.1, ?_⟩
  rcases h.2 with h | ⟨b, off, c, e, hc⟩
  · exact .inl h
  · exact .inr ⟨b, off, c, e, fun i o hi => (hc i o hi).low b1⟩

set_option maxHeartbeats 2000000 in
set_option maxRecDepth 100000 in
theorem whole4_early (v0 : Value) (os : List Opn) (id : Int) (w : World) (h : OpsAt w v0 os) (hlen : os.length ≤ maxLen) (hbad : smB os = false) :
    Calls Try.prog 4 #[v0, .int .i64 id] w fun e w' => e = .returned (.bool true) ∧ Below w.heap.size w w' := by
  have A := Lib.hid (anchor7 w)
  have H := Lib.hid h
  have HL := Lib.hid hlen
  obtain ⟨a0, c0, rfl⟩ := ops_shape h
  clear h hlen
  go_enter Try.func4, Try.ntmps4
  go_wp2_with fail
  refine A.out.mono ?_
  rintro e w1 ⟨rfl, b1⟩
  have HB1 := Lib.hid b1
  have CS := small8 _ os w1 (H.out.keeps b1) HL.out
  clear A b1
  rw [hbad] at CS
  have HC := Lib.hid CS
  clear CS
  go_wp2_with fail
  refine HC.out.mono ?_
  rintro e w2 ⟨rfl, b2⟩
  have HB2 := Lib.hid (HB1.out.trans (b2.mono HB1.out.size))
  clear b2
  go_wp2
  go_ret
  exact ⟨rfl, HB2.out⟩

/-- What the law asks behind built. -/
structure Asks (D : Nat) (v : Value) (id : Int) (w : World) (r : Int) (s : ByteArray) (p : Pla) (f : Int) : Prop where
  c14 : ∀ w', Below w.heap.size w w' → Calls Try.prog 14 #[.pointer (some ⟨D, 0, none⟩), .int .i64 id] w' fun e w'' => e = .returned (.tuple #[.string s, .int .i64 r]) ∧ Below w'.heap.size w' w''
  c15 : ∀ w', Below w.heap.size w w' → Calls Try.prog 15 #[xv v 1048576, .int .i64 id] w' fun e w'' => e = .returned (.int .i64 r) ∧ Below w'.heap.size w' w''
  c16 : r = 0 → ∀ w', Below w.heap.size w w' → Calls Try.prog 16 #[xv v 1048576, .int .i64 id] w' fun e w'' => e = .returned (.tuple #[.string s, .bool true]) ∧ Below w'.heap.size w' w''
  c10 : r = 0 → ∀ w', Below w.heap.size w w' → Calls Try.prog 10 #[.pointer (some ⟨D, 0, none⟩), .int .i64 1, .string s, .bool true] w' (GivesP w' (p, f))
  none : r ≠ 0 → s = ⟨#[]⟩
  leads : r = 0 → f ≠ 0 ∨ p.node = id
theorem asks_of {k : Nat} {S : St} {ds : List Nat} {L : Lay} {D : Nat} {P : Nat → Prop} {v : Value} {Z : List Zn} {w : World} (K : DiskAt L D S w) (X : XAt P v Z w) (H : Hd k S (nrs Z) ds) (hk : k ≤ 100) (id : Int) (hid : In64 id) :
    ∃ r s p f, Asks D v id w r s p f := by
  have hz2 := H.sim.two
  rw [nrs_len] at hz2
  have F := fun w' (hb : Below w.heap.size w w') => rfolder32 P v 1048576 Z w' (X.below hb) (by omega) id
  by_cases hr : dirRE (nrs Z) id = 0
  · obtain ⟨i, n, rfl, h1, hil, hn, hkd⟩ := dirRE_get hr
    rw [hr] at F
    have hle := H.leads h1 hn hkd
    have hsz := H.size
    have htl := H.nms_len i i
    have htot := tot_names (nmsL (nrs Z) i i).reverse (fun x hx => (bare_of (H.nms_bare i i n (Nat.le_refl _) h1 hn hkd x (List.mem_reverse.1 hx))).2.1)
    rw [List.length_reverse] at htot
    have hjl := join_le (nmsL (nrs Z) i i).reverse
    have hss : (wholeS (nrs Z) i).size ≤ 30000 := by
      unfold wholeS
      rw [app_size, show (⟨#[47]⟩ : ByteArray).size = 1 from rfl]
      omega
    refine ⟨0, wholeS (nrs Z) i, (wayM (vwS S) true 41 0 1 (wholeS (nrs Z) i)).1, (wayM (vwS S) true 41 0 1 (wholeS (nrs Z) i)).2, ?_, F, ?_, ?_, fun h => absurd rfl h, fun _ => hle⟩
    · exact fun w' hb => whole14 L D S w' (K.below hb) H hk h1 hn hkd
    · exact fun _ w' hb => whole16 P v 1048576 Z w' (X.below hb) H hk h1 hn hkd
    · intro _ w' hb
      by_cases hw : wrongE (wholeS (nrs Z) i) = 0
      · refine find10 L D S w' (K.below hb) H.good 1 (in64 (by decide)) _ ?_ true
        unfold wrongE at hw
        split at hw
        · cases hw
        · split at hw
          · cases hw
          · omega
      · have := find10_wrong D w' 1 (wholeS (nrs Z) i) (by unfold maxLen; omega) true hw
        rw [show wayM (vwS S) true 41 0 1 (wholeS (nrs Z) i) = (.zero, wrongE (wholeS (nrs Z) i)) by unfold wayM; exact if_pos hw]
        exact this
  · exact ⟨dirRE (nrs Z) id, ⟨#[]⟩, .zero, 0, fun w' hb => whole14_wrong L D S w' (K.below hb) H id hid hr, F, fun h => absurd h hr, fun h => absurd h hr, fun _ => rfl, fun h => absurd h hr⟩

set_option maxHeartbeats 4000000 in
set_option maxRecDepth 100000 in
theorem whole4_main (v0 : Value) (os : List Opn) (id : Int) (ha : In64 id) (w : World) (h : OpsAt w v0 os) (hlen : os.length ≤ maxLen) (hsm : smB os = true) :
    Calls Try.prog 4 #[v0, .int .i64 id] w fun e w' => e = .returned (.bool true) ∧ Below w.heap.size w w' := by
  have A := Lib.hid (anchor7 w)
  have H := Lib.hid h
  have HL := Lib.hid hlen
  have Ha := Lib.hid ha
  obtain ⟨a0, c0, rfl⟩ := ops_shape h
  clear h hlen ha
  go_enter Try.func4, Try.ntmps4
  go_wp2_with fail
  refine A.out.mono ?_
  rintro e w1 ⟨rfl, b1⟩
  have HB1 := Lib.hid b1
  have CS := small8 _ os w1 (H.out.keeps b1) HL.out
  have HSM := Lib.hid hsm
  rw [hsm] at CS
  have HC := Lib.hid CS
  clear A b1 CS hsm
  go_wp2_with fail
  refine HC.out.mono ?_
  rintro e w2 ⟨rfl, b2⟩
  have B2 := HB1.out.trans (b2.mono HB1.out.size)
  have CB := Lib.hid (built9 _ os w2 (H.out.keeps B2) (by have := (smB_ok HSM.out).1; omega) (smB_ok HSM.out).2)
  have HB2 := Lib.hid B2
  clear b2 B2 HC HB1
  go_wp2_with fail
  refine CB.out.mono ?_
  rintro e w3 ⟨D, L, S, R, ds, v, Z, rfl, K, B, Hh, hZ, X, b3, O⟩
  subst hZ
  obtain ⟨g, c, rfl⟩ := X.shape (by have := Hh.sim.two; simp at this; omega)
  have A3 := (Below.refl w3.heap.size w3).alloc (Nat.le_refl _) (.cells #[.slice (some ⟨g, 0, none⟩) Z.length c, .int .i64 1048576] 28)
  have B3 := HB2.out.trans (b3.mono HB2.out.size)
  have HB3 := Lib.hid (B3.trans (A3.mono B3.size))
  have HN3 := Lib.hid (heap_alloc_new w3 (.cells #[.slice (some ⟨g, 0, none⟩) Z.length c, .int .i64 1048576] 28))
  obtain ⟨r, s, ⟨pn, pd, pm⟩, f, AS⟩ := asks_of (K.below A3) (X.below A3) Hh (by have := (smB_ok HSM.out).1; omega) id Ha.out
  have HA := Lib.hid AS
  have HC1 := Lib.hid (AS.c14 _ (Below.refl _ _))
  clear CB K B Hh X b3 O B3 A3 HB2 AS
  go_wp2_with fail
  refine HC1.out.mono ?_
  rintro e w5 ⟨rfl, b5⟩
  have M5 := (b5.block _ (lt_of_block HN3.out)).trans HN3.out
  have HC2 := Lib.hid (HA.out.c15 _ b5)
  have HB5 := Lib.hid b5
  have x0 := cells_at M5 (i := 0) rfl
  have x1 := cells_at M5 (i := 1) rfl
  clear HC1 b5 M5
  by_cases hr : r = 0
  · subst hr
    have HLE := Lib.hid (HA.out.leads rfl)
    go_wp2_with fail
    refine HC2.out.mono ?_
    rintro e w6 ⟨rfl, b6⟩
    have B6 := HB5.out.trans (b6.mono HB5.out.size)
    have M6 := (B6.block _ (lt_of_block HN3.out)).trans HN3.out
    clear x0 x1
    have x0 := cells_at M6 (i := 0) rfl
    have x1 := cells_at M6 (i := 1) rfl
    have HC3 := Lib.hid (HA.out.c16 rfl _ B6)
    have HB6 := Lib.hid B6
    clear HC2 b6 B6 M6 HB5
    go_wp2_with fail
    refine HC3.out.mono ?_
    rintro e w7 ⟨rfl, b7⟩
    have B7 := HB6.out.trans (b7.mono HB6.out.size)
    have HC4 := Lib.hid (HA.out.c10 rfl _ B7)
    have HB7 := Lib.hid B7
    clear HC3 b7 B7 HB6 x0 x1
    go_wp2_with fail
    refine HC4.out.mono ?_
    rintro e w8 ⟨rfl, b8⟩
    have B8 := HB7.out.trans (b8.mono HB7.out.size)
    have B9 := B8.alloc B8.size (.cells #[.int .i64 pn, .int .i64 pd, .string pm] 32)
    have N9 := heap_alloc_new w8 (.cells #[.int .i64 pn, .int .i64 pd, .string pm] 32)
    have HBF := Lib.hid (HB3.out.trans (B9.mono HB3.out.size))
    have y0 := cells_at N9 (i := 0) rfl
    clear HC4 b8 B8 B9 N9 HB7 HA HN3
    by_cases hf : f = 0
    · obtain hpn : pn = id := by
        rcases HLE.out with h | h
        · exact absurd hf h
        · exact h
      subst hpn
      subst hf
      clear HLE
      go_wp2
      go_ret
      exact ⟨rfl, HBF.out⟩
    · have hf' : (f != 0) = true := by simpa using hf
      clear HLE hf
      go_wp2
      go_ret
      exact ⟨rfl, HBF.out⟩
  · have hs := HA.out.none hr
    subst hs
    have hr' : (r != 0) = true := by simpa using hr
    clear hr
    go_wp2_with fail
    refine HC2.out.mono ?_
    rintro e w6 ⟨rfl, b6⟩
    have B6 := HB5.out.trans (b6.mono HB5.out.size)
    have M6 := (B6.block _ (lt_of_block HN3.out)).trans HN3.out
    clear x0 x1
    have x0 := cells_at M6 (i := 0) rfl
    have x1 := cells_at M6 (i := 1) rfl
    have HC3 := Lib.hid (HA.out.c15 _ B6)
    have HB6 := Lib.hid B6
    clear HC2 b6 B6 M6 HB5
    go_wp2_with fail
    refine HC3.out.mono ?_
    rintro e w7 ⟨rfl, b7⟩
    have B7 := HB6.out.trans (b7.mono HB6.out.size)
    have HBF := Lib.hid (HB3.out.trans (B7.mono HB3.out.size))
    clear HC3 b7 B7 HB6 HA HN3 x0 x1
    go_wp2
    go_ret
    exact ⟨rfl, HBF.out⟩
theorem whole_in (v0 : Value) (os : List Opn) (a : Int) (ha : In64 a) (w : World) (h : OpsAt w v0 os ∧ os.length ≤ maxLen) :
    Calls Try.prog 4 #[v0, .int .i64 a] w fun e w' => e = .returned (.bool true) ∧ Below w.heap.size w w' := by
  cases hsm : smB os with
  | false => exact whole4_early v0 os a w h.1 h.2 hsm
  | true => exact whole4_main v0 os a ha w h.1 h.2 hsm
end Go.Proofs.Ytgdjoojghkdcbaa

/- WalkWhole: for every input the law's function returns true, and each argument reads behind the call as it read before. Conditions: none but the row's own. -/
namespace Go.Proofs.Ytgdjoojghkdcbaa.walkWhole
open Go.ChangeShapes Go.WideShapes Go.ChangeAt Go.RowKit
open Go.ChangeMaps (open_string shut_string)
set_option linter.unusedVariables false

theorem own : ownKnob Try.prog.godebug = none := by kernel_rfl
theorem laidOut : laidOutB Try.prog = true := by kernel_rfl

set_option maxRecDepth 100000 in
theorem lifted (os : Os) (started : os.Started) (H : Type) (enc : TypeId × Value → H) :
    ReturnsInHanded {} Try.checked os 4 .any (Rows.walkWholeSpec.pre6 enc Try.prog Try.f4 Rows.walkWholeRow.domain false) (Rows.walkWholeSpec.post enc Try.prog Try.f4 false true false false) := by
  refine returnsInHanded_of_change_sized (C := Try.checked) own started (by kernel_rfl) Try.func4
    (ChangeSpec.witness6 (enc := enc) (C := Try.checked) false ⟨#[], #[.slice none 0 0, .int .i64 0], []⟩ 8 (by kernel_rfl) (by kernel_rfl) (by kernel_rfl) (by kernel_rfl)) ?_
  intro W base args ds gs before hval0 hW _ hsz0 _
  have hsz : (DataW.weightsEach Try.prog (Try.f4.params.toList ++ Rows.walkWholeSpec.plain.varTypes Try.prog) (ds ++ gs)).all (· ≤ reachBytes) = true := hsz0
  clear hsz0
  have hval : ∀ (j : Nat) t v, Try.f4.params[j]? = some t → args[j]? = some v → Value.okWide Try.prog W .any base t v := hval0
  have hW' := hW
  obtain ⟨p, q, hA0, hV, rfl, hfz, hnd⟩ := hW
  have hA : DataW.TrodAll enc Try.prog W 0 (fun _ => true) true Try.f4.params.toList args.toList ds p := hA0
  rw [Try.params4] at hA hval hsz
  obtain ⟨v0, vs0, d0, ds0, p0, q0, hargs, rfl, rfl, h0, r0⟩ := trodAll_cons hA
  obtain ⟨v1, vs1, d1, ds1, p1, q1, rfl, rfl, rfl, h1, r1⟩ := trodAll_cons r0
  obtain ⟨rfl, rfl, rfl⟩ := trodAll_nil r1
  obtain rfl : args = #[v0, v1] := by cases args; simp_all
  obtain ⟨rfl, rfl⟩ := trodVars_none hV
  have k0 := h0
  have lt0 : ∀ x ∈ p0, x.block < W.heap.size := by obtain ⟨m, hm⟩ := k0; exact DataW.trod_lt m _ _ _ hm
  obtain ⟨a0, w0⟩ := open_opsL (hval 0 22 v0 rfl rfl) h0
  obtain ⟨a1, rfl, rfl, rfl, w1⟩ := open_int Try.underlying3 (hval 1 3 v1 rfl rfl) h1
  clear hA0 hval0
  simp only [List.append_nil] at hW'
  refine (whole_in v0 a0 a1 w1 W w0).mono fun e W' ⟨he, bel⟩ => ?_
  subst he
  exact ⟨_, rfl, _, _, _, [], _, [], hW', trodAll_mk1 (shut_bool Try.underlying4 _), (trodAll_cons_mk (Below.trod laidOut (by kernel_rfl) (of_decide_eq_true (by kernel_rfl)) k0 bel lt0) (trodAll_cons_mk (shut_int Try.underlying3 w1) trodAll_mk0)), rfl, bel.frame _, fun h => by cases h⟩

theorem over : Rows.walkWholeRow.holds Try.pinned (OpenSpec.ofChange Rows.walkWholeSpec) :=
  OpenClaim.holds_of_wide 4 Try.f4 rfl rfl rfl rfl rfl rfl rfl ⟨rfl, rfl, rfl, rfl, rfl⟩ rfl rfl rfl rfl rfl (by kernel_rfl) Try.func4 (by kernel_rfl)
    (of_decide_eq_true (by kernel_rfl)) (by unfold Func.isWrapper; first | (rw [if_pos (by decide +kernel)]; kernel_rfl) | (rw [if_neg (by decide +kernel)]; exact ⟨rfl, rfl⟩))
    (fun os started H enc _ => lifted os started H enc)

end Go.Proofs.Ytgdjoojghkdcbaa.walkWhole

namespace Go.Proofs.Ytgdjoojghkdcbaa
theorem walkWhole_holds : Rows.WalkWholeSaid := walkWhole.over
#print axioms walkWhole_holds
end Go.Proofs.Ytgdjoojghkdcbaa
