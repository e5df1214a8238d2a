/- Contracts: which kinds may stand in which, lists of one command each. No condition. -/
import Derived.Test.YtfaohicadahcjaaGreatDoorF
namespace Go.Proofs.YtfaohicadahcjaaGreatDoor
open Go.RowKit Go.PlainAid Go.ChangeShapes Go.WideShapes Go.ChangeAt
set_option linter.unusedSimpArgs false
set_option linter.unusedVariables false

/-- One-cell slices: words, lists. -/
theorem one_at {α : Type} {Q : RdP α} {w : World} {v : Value} {l : List (List α)} (h : Seg 1 (OneC Q) w v l) (i : Nat) (hi : i < l.length) :
    ∃ b off c u, v = .slice (some ⟨b, off, none⟩) l.length c ∧ l.length ≤ c ∧ w.cell? ⟨b, off + i, none⟩ = some u ∧ Q w u l[i] := by
  obtain ⟨b, off, c, cs, hv, hc, hx, u, rfl, hq⟩ := Seg.at h i hi
  have := hx 0 _ rfl
  simp only [Nat.mul_one, Nat.add_zero] at this
  exact ⟨b, off, c, u, hv, hc, this, hq⟩
/-- A command of a list, its cells. -/
theorem ns_at {n : Nat} {w : World} {v : Value} {l : List Nd} (h : NsAt n w v l) (i : Nat) (hi : i < l.length) :
    ∃ m b off c av wv rv lv mv, n = m + 1 ∧ v = .slice (some ⟨b, off, none⟩) l.length c ∧ l.length ≤ c ∧ NdFits l[i] ∧
      (AssAt m w av l[i].assigns ∧ WsAt m w wv l[i].words ∧ RdsAt m w rv l[i].redirs ∧ LsAt m w lv l[i].lists ∧ ArsAt m w mv l[i].arms) ∧
      w.cell? ⟨b, off + i * 7, none⟩ = some (.int .i64 l[i].kind) ∧ w.cell? ⟨b, off + i * 7 + 1, none⟩ = some (.string l[i].name) ∧ w.cell? ⟨b, off + i * 7 + 2, none⟩ = some av ∧
      w.cell? ⟨b, off + i * 7 + 3, none⟩ = some wv ∧ w.cell? ⟨b, off + i * 7 + 4, none⟩ = some rv ∧ w.cell? ⟨b, off + i * 7 + 5, none⟩ = some lv ∧ w.cell? ⟨b, off + i * 7 + 6, none⟩ = some mv := by
  cases n with
  | zero => obtain ⟨rfl, _⟩ := h; simp at hi
  | succ m =>
    obtain ⟨b, off, c, cs, hv, hc, hx, av, wv, rv, lv, mv, rfl, hf, h1, h2, h3, h4, h5⟩ := Seg.at h i hi
    exact ⟨m, b, off, c, av, wv, rv, lv, mv, rfl, hv, hc, hf, ⟨h1, h2, h3, h4, h5⟩, hx 0 _ rfl, hx 1 _ rfl, hx 2 _ rfl, hx 3 _ rfl, hx 4 _ rfl, hx 5 _ rfl, hx 6 _ rfl⟩
def pipeM (k : Int) : Bool := !decide (k = 2) && !decide (k = 3) && !decide (k = 4) && !decide (k = 5)
def orM (p k : Int) : Bool := decide (p = 0) || (!decide (k = 3) && !decide (k = 4))
def notM (k : Int) : Bool := !decide (k = 3) && !decide (k = 4) && !decide (k = 5)
def funM (k : Int) : Bool := decide (6 ≤ k) && !decide (k = 11)
set_option maxHeartbeats 1000000 in
set_option maxRecDepth 100000 in
theorem may82 (p k : Int) (w : World) : Calls Tryz.prog 82 #[.int .i64 p, .int .i64 k] w fun e w' => e = .returned (.bool (pipeM k)) ∧ w = w' := by
  have h0 := ne_int k 2
  have g0 := eq_int k 2
  have h1 := ne_int k 3
  have g1 := eq_int k 3
  have h2 := ne_int k 4
  have g2 := eq_int k 4
  have h3 := ne_int k 5
  have g3 := eq_int k 5
  unfold pipeM
  generalize decide (k = 2) = b0 at h0 g0 ⊢
  generalize decide (k = 3) = b1 at h1 g1 ⊢
  generalize decide (k = 4) = b2 at h2 g2 ⊢
  generalize decide (k = 5) = b3 at h3 g3 ⊢
  cases b0 <;> cases b1 <;> cases b2 <;> cases b3
  all_goals (
    try simp only [Bool.not_true, Bool.not_false] at *
    go_enter Tryz.func82, Tryz.ntmps82
    go_wp2
    go_ret
    exact ⟨rfl, rfl⟩)
set_option maxHeartbeats 1000000 in
set_option maxRecDepth 100000 in
theorem may83 (p k : Int) (w : World) : Calls Tryz.prog 83 #[.int .i64 p, .int .i64 k] w fun e w' => e = .returned (.bool (orM p k)) ∧ w = w' := by
  have h0 := eq_int p 0
  have h1 := ne_int k 3
  have g1 := eq_int k 3
  have h2 := ne_int k 4
  have g2 := eq_int k 4
  unfold orM
  generalize decide (p = 0) = b0 at h0 ⊢
  generalize decide (k = 3) = b1 at h1 g1 ⊢
  generalize decide (k = 4) = b2 at h2 g2 ⊢
  cases b0 <;> cases b1 <;> cases b2
  all_goals (
    try simp only [Bool.not_true, Bool.not_false] at *
    go_enter Tryz.func83, Tryz.ntmps83
    go_wp2
    go_ret
    exact ⟨rfl, rfl⟩)
set_option maxHeartbeats 1000000 in
set_option maxRecDepth 100000 in
theorem may84 (p k : Int) (w : World) : Calls Tryz.prog 84 #[.int .i64 p, .int .i64 k] w fun e w' => e = .returned (.bool (notM k)) ∧ w = w' := by
  have h0 := ne_int k 3
  have g0 := eq_int k 3
  have h1 := ne_int k 4
  have g1 := eq_int k 4
  have h2 := ne_int k 5
  have g2 := eq_int k 5
  unfold notM
  generalize decide (k = 3) = b0 at h0 g0 ⊢
  generalize decide (k = 4) = b1 at h1 g1 ⊢
  generalize decide (k = 5) = b2 at h2 g2 ⊢
  cases b0 <;> cases b1 <;> cases b2
  all_goals (
    try simp only [Bool.not_true, Bool.not_false] at *
    go_enter Tryz.func84, Tryz.ntmps84
    go_wp2
    go_ret
    exact ⟨rfl, rfl⟩)
set_option maxHeartbeats 1000000 in
set_option maxRecDepth 100000 in
theorem may85 (p k : Int) (w : World) : Calls Tryz.prog 85 #[.int .i64 p, .int .i64 k] w fun e w' => e = .returned (.bool (funM k)) ∧ w = w' := by
  have h1 := ne_int k 11
  have g1 := eq_int k 11
  unfold funM
  generalize d0 : decide (6 ≤ k) = b0 at ⊢
  generalize decide (k = 11) = b1 at h1 g1 ⊢
  cases b0 <;> cases b1
  all_goals (
    try simp only [Bool.not_true, Bool.not_false] at *
    go_enter Tryz.func85, Tryz.ntmps85
    go_wp2
    go_ret
    exact ⟨rfl, rfl⟩)

/-- Is each list one command, of a kind that may be at its place? -/
def singleM (f : Int → Int → Bool) : Nat → List (List Nd) → Bool
  | _, [] => true
  | i, c :: r => (match c with | [x] => f i x.kind | _ => false) && singleM f (i + 1) r
def Rel81 (f : Int → Int → Bool) (l : List (List Nd)) (i : Value) : Prop := ∃ k : Nat, k ≤ l.length ∧ i = .int .i64 k ∧ Hid (singleM f 0 l = singleM f k (l.drop k))
theorem single_cut (f : Int → Int → Bool) (l : List (List Nd)) (k : Nat) (h : k < l.length) : singleM f k (l.drop k) = ((match l[k] with | [x] => f k x.kind | _ => false) && singleM f (k + 1) (l.drop (k + 1))) := by
  rw [List.drop_eq_getElem_cons h]
  generalize l[k] = x
  rcases x with _ | ⟨y, _ | ⟨z, r⟩⟩ <;> rfl
set_option maxHeartbeats 4000000 in
set_option maxRecDepth 100000 in
theorem single81 (g : FuncId) (f : Int → Int → Bool) (hf : ∀ (p k : Int) (w : World), Calls Tryz.prog g #[.int .i64 p, .int .i64 k] w fun e w' => e = .returned (.bool (f p k)) ∧ w = w') (n : Nat) (v : Value) (l : List (List Nd)) (w : World) (h : LsAt n w v l)
    (en : ∀ args w, (callFunc g args).run Tryz.prog w = .ok (.enter g args) w) :
    Calls Tryz.prog 81 #[v, .func (.func g) #[] #[]] w fun e w' => e = .returned (.bool (singleM f 0 l)) ∧ w = w' := by
  have C := Lib.hid hf
  have HL := Lib.hid h
  have hlen := h.len
  obtain ⟨a, c, rfl⟩ := h.shape
  clear h hf
  obtain ⟨q, Hq⟩ : ∃ q, Hid (l.length = q) := ⟨_, Lib.hid rfl⟩
  rw [Hq.out] at HL hlen ⊢
  go_enter Tryz.func81, Tryz.ntmps81
  go_wp2
  go_loop [9] (Rel81 f l) (fun i => q - (intOf i).toNat)
  case atStart => exact ⟨0, Nat.zero_le _, rfl, Lib.hid (by simp)⟩
  case round =>
    obtain ⟨k, hk, rfl, HR⟩ := hrel
    rw [Hq.out] at hk
    by_cases hlt : k < q
    · have hlt' : k < l.length := by rw [Hq.out]; exact hlt
      obtain ⟨b, off, c', u, e, hc, hcell, hu⟩ := one_at HL.out k hlt'
      rw [Hq.out] at e hc
      cases e
      have HC := Lib.hid (single_cut f l k hlt')
      obtain ⟨x, Hx⟩ : ∃ x, Hid (l[k] = x) := ⟨_, Lib.hid rfl⟩
      rw [Hx.out] at HC hu
      rcases x with _ | ⟨y, r⟩
      · obtain ⟨a, c, rfl⟩ := ns_shape _ _ _ _ hu
        have HE : Hid (singleM f 0 l = false) := Lib.hid (by rw [HR.out, HC.out]; rfl)
        clear hu
        go_wp2
        go_ret
        rw [HE.out]; exact ⟨rfl, rfl⟩
      rcases r with _ | ⟨z, r⟩
      · obtain ⟨m, b2, off2, c2, av, wv, rv, lv, mv, _, rfl, hc2, _, _, c0, _⟩ := ns_at hu 0 (by simp)
        have HD : Hid (singleM f 0 l = (f k y.kind && singleM f (k + 1) (l.drop (k + 1)))) := Lib.hid (by rw [HR.out, HC.out])
        simp only [List.getElem_cons_zero, Nat.zero_mul, Nat.add_zero, List.length_cons, List.length_nil, Nat.zero_add] at c0 hc2 ⊢
        have CA := Lib.hid (C.out k y.kind w)
        clear hu HC HR
        generalize f k y.kind = b0 at CA HD
        cases b0
        · go_wp2_with (go_at_fn g; refine CA.out.mono ?_; rintro e w' ⟨rfl, rfl⟩)
          go_ret
          rw [HD.out]; exact ⟨rfl, rfl⟩
        · go_wp2_with (go_at_fn g; refine CA.out.mono ?_; rintro e w' ⟨rfl, rfl⟩)
          go_round
          case rel => exact ⟨k + 1, hlt', by go_num, Lib.hid (by rw [HD.out]; rfl)⟩
          case measure => simp [intOf]; omega
      · obtain ⟨a, c, rfl⟩ := ns_shape _ _ _ _ hu
        have hl2 := ns_len _ _ _ _ hu
        have HE : Hid (singleM f 0 l = false) := Lib.hid (by rw [HR.out, HC.out]; rfl)
        simp only [List.length_cons] at hl2 hcell
        have hne : ((r.length + 1 + 1 : Nat) != 1) = true := by simp
        have hne2 : (((r.length + 1 + 1 : Nat) : Int) != 1) = true := by rw [ne_int]; simp; omega
        obtain ⟨t, Ht⟩ : ∃ t, Hid (r.length + 1 + 1 = t) := ⟨_, Lib.hid rfl⟩
        rw [Ht.out] at hne hne2 hl2 hcell
        clear hu
        go_wp2
        go_ret
        rw [HE.out]; exact ⟨rfl, rfl⟩
    · obtain rfl : k = q := by omega
      have HE : Hid (singleM f 0 l = true) := Lib.hid (by rw [HR.out, List.drop_of_length_le (by rw [Hq.out]; exact Nat.le_refl _)]; rfl)
      go_wp2
      go_ret
      rw [HE.out]; exact ⟨rfl, rfl⟩
end Go.Proofs.YtfaohicadahcjaaGreatDoor
