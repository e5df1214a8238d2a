/- Built disks: what a walk asks of them; nodes that all go into the root. Conditions: few nodes, each short. -/
import Derived.Test.YtgdjoojghkdcbaaMs
import Derived.Test.YtgdjoojghkdcbaaVd
import Derived.Test.YtgdjoojghkdcbaaFp
import Derived.Test.YtgdjoojghkdcbaaFb
namespace Go.Proofs.Ytgdjoojghkdcbaa
open Go.RowKit Go.PlainAid
set_option linter.unusedSimpArgs false

section
variable {k : Nat} {S : St} {R : List Nr} {ds : List Nat}
theorem Hd.at (h : Hd k S R ds) {j : Int} {x : Nd} (hx : S.get j = some x) : ∃ (i : Nat) (n : Nr) (u : Int), j = i ∧ 1 ≤ i ∧ R[i]? = some n ∧ n.kind ≠ 0 ∧ x = ⟨n.kind, n.mode, linksR R i, n.holds, n.data, n.ents, u⟩ ∧ (n.kind = 2 → u = upR R i) := by
  obtain ⟨i, n, rfl, h1, h2, h3⟩ := h.sim.back j x hx
  obtain ⟨u, hu, hup⟩ := h.sim.node i n h1 h2 h3
  rw [hx] at hu
  cases hu
  exact ⟨i, n, u, rfl, h1, h2, h3, rfl, fun e => hup e (by rw [h.named i n h1 h2 h3]; decide)⟩
theorem Hd.upR (h : Hd k S R ds) (id : Int) : 1 ≤ upR R id ∧ upR R id < R.length := by
  have h2 := h.sim.two
  unfold Ytgdjoojghkdcbaa.upR
  rcases upF_rng id (R.drop 1) 1 with e | ⟨q, n, e1, _, e3⟩
  · rw [e]; omega
  · rw [e3]
    have := (List.getElem?_eq_some_iff.1 e1).1
    rw [List.length_drop] at this
    omega
theorem Hd.good (h : Hd k S R ds) : Good S := by
  have hl := h.sim.inv.len
  refine ⟨?_, ?_, ?_, ?_, ?_⟩
  · intro j x hx
    obtain ⟨i, n, u, rfl, h1, h2, h3, rfl, h5⟩ := h.at hx
    exact h.sim.mode n (List.mem_of_getElem? h2)
  · intro j x hx
    obtain ⟨i, n, u, rfl, h1, h2, h3, rfl, h5⟩ := h.at hx
    exact ⟨h.sim.rise n (List.mem_of_getElem? h2), h.sim.inv.few n (List.mem_of_getElem? h2)⟩
  · intro j x hx hk
    obtain ⟨i, n, u, rfl, h1, h2, h3, rfl, h5⟩ := h.at hx
    have e := h5 hk
    have := h.upR i
    show u ≠ 0 ∧ In64 u
    rw [e]
    exact ⟨by omega, in64 (by omega)⟩
  · intro j x hx e he
    obtain ⟨i, n, u, rfl, h1, h2, h3, rfl, h5⟩ := h.at hx
    have := h.sim.inv.rng n (List.mem_of_getElem? h2) e he
    exact in64 (by omega)
  · intro j x hx
    obtain ⟨i, n, u, rfl, h1, h2, h3, rfl, h5⟩ := h.at hx
    exact h.data n (List.mem_of_getElem? h2)
end

theorem put_mem {s : ByteArray} {k : Int} {l : List En} (h : putE s l = 0) : (s, k) ∈ putL s k l := by rw [putL_is h]; simp
theorem put_keeps {s : ByteArray} {k : Int} {l : List En} {x : En} (hx : x ∈ l) : x ∈ putL s k l := by
  unfold putL
  split
  · rw [← List.take_append_drop (pos s l) l] at hx
    rcases List.mem_append.1 hx with h | h
    · exact List.mem_append_left _ h
    · exact List.mem_append_right _ (List.mem_cons_of_mem _ h)
  · exact hx
theorem getN_mem {s : ByteArray} {n : Int} {l : List En} (hr : Rising l) (h : (s, n) ∈ l) : getN s l = n := by
  obtain ⟨j, hj⟩ := List.getElem?_of_mem h
  obtain ⟨e1, e2⟩ := find_hit hr hj rfl
  unfold getN
  rw [if_pos e2, e1, hj]
  rfl
theorem hasN_mem {s : ByteArray} {l : List En} (h : hasN s l = true) : ∃ n, (s, n) ∈ l := by
  obtain ⟨n, hn⟩ := hasN_some h
  exact ⟨n, List.mem_of_getElem? hn⟩

/-- Nodes that all go into the root. -/
structure Flat (l : List Opn) : Prop where
  at0 : ∀ o ∈ l, o.at' = 0
  kind : ∀ o ∈ l, 1 ≤ o.k ∧ o.k ≤ 3 ∧ (o.k = 2 → o.t.size = 0)
  mode : ∀ o ∈ l, 0 ≤ o.m ∧ o.m ≤ 4095
  size : ∀ o ∈ l, o.t.size ≤ 5000
  name : ∀ o ∈ l, nameB o.s = true
  diff : l.Pairwise fun a b => a.s ≠ b.s
structure FlatAt (l : List Opn) (S : St) (R : List Nr) (ds : List Nat) : Prop where
  len : R.length = l.length + 2
  d0 : ds[0]? = some 1
  root : ∃ ents, S.get 1 = some ⟨2, 493, 1, 0, ⟨#[]⟩, ents, 1⟩ ∧ (∀ (j : Nat) (o : Opn), l[j]? = some o → (o.s, ((j + 2 : Nat) : Int)) ∈ ents) ∧ (∀ e ∈ ents, ∃ o ∈ l, o.s = e.1) ∧ Rising ents
  node : ∀ (j : Nat) (o : Opn), l[j]? = some o → S.get ((j + 2 : Nat) : Int) = some ⟨o.k, o.m, 1, 0, o.t, [], 1⟩
theorem Flat.init {l : List Opn} {o : Opn} (h : Flat (l ++ [o])) : Flat l :=
  ⟨fun x hx => h.at0 x (List.mem_append_left _ hx), fun x hx => h.kind x (List.mem_append_left _ hx), fun x hx => h.mode x (List.mem_append_left _ hx), fun x hx => h.size x (List.mem_append_left _ hx), fun x hx => h.name x (List.mem_append_left _ hx), (List.pairwise_append.1 h.diff).1⟩
theorem flat_make {k : Nat} {S : St} {R : List Nr} {ds : List Nat} (hk : k ≤ 99) (hh : Hd k S R ds) {l : List Opn} {o : Opn} (F : Flat (l ++ [o])) : makeE S o.k o.m o.t = 0 := by
  have hm : o ∈ l ++ [o] := by simp
  have h1 := F.kind o hm
  have h2 := F.mode o hm
  have h3 := F.size o hm
  have h4 := hh.used
  have h5 := hh.sim.used
  have h6 := hh.room
  have h7 := hh.sim.cnt
  have h8 := count_small hh.sim.inv
  unfold makeE
  rw [if_neg (by rintro (e | e | e) <;> first | omega | exact e.2 (h1.2.2 e.1)), if_neg (by unfold rightB; rw [decide_eq_true h2]; simp), if_neg (by omega), if_neg (by omega), if_neg (by omega)]
theorem at_zero {ds : List Nat} (h : ds[0]? = some 1) : atB ds 0 = 1 := by
  unfold atB
  have : ((0 : Int) % 18446744073709551616).toNat % ds.length = 0 := by simp
  rw [this, List.getD_eq_getElem?_getD, h]
  rfl
theorem flat_enter {k : Nat} {S : St} {R : List Nr} {ds : List Nat} (hk : k ≤ 99) (hh : Hd k S R ds) {l : List Opn} {o : Opn} (F : Flat (l ++ [o])) {ents : List En} (hr : S.get 1 = some ⟨2, 493, 1, 0, ⟨#[]⟩, ents, 1⟩) (hb : ∀ e ∈ ents, ∃ o ∈ l, o.s = e.1) :
    (S.make o.k o.m o.t).get 1 = some ⟨2, 493, 1, 0, ⟨#[]⟩, ents, 1⟩ ∧ (S.make o.k o.m o.t).get R.length = some ⟨o.k, o.m, 0, 1, o.t, [], 0⟩ ∧ putE o.s ents = 0 ∧ entE (S.make o.k o.m o.t) 1 o.s R.length = 0 := by
  have hm : o ∈ l ++ [o] := by simp
  have hl := hh.sim.len
  have h2 := hh.sim.two
  have h3 := F.size o hm
  have h4 := hh.used
  have h5 := hh.sim.used
  have h6 := hh.room
  have hn := F.name o hm
  have h255 := nameB_le hn
  have e1 : (S.make o.k o.m o.t).get 1 = some ⟨2, 493, 1, 0, ⟨#[]⟩, ents, 1⟩ := by
    show (if _ then _ else _) = _
    rw [if_neg (by omega)]
    exact hr
  have e2 : (S.make o.k o.m o.t).get R.length = some ⟨o.k, o.m, 0, 1, o.t, [], 0⟩ := by
    show (if _ then _ else _) = _
    rw [if_pos (by omega)]
  have e3 : putE o.s ents = 0 := by
    unfold putE
    rw [if_neg (by omega), if_neg (by rw [hn]; simp), if_neg]
    intro h
    obtain ⟨n, hn'⟩ := hasN_mem h
    obtain ⟨x, hx, hxs⟩ := hb _ hn'
    exact (List.pairwise_append.1 F.diff).2.2 x hx o (by simp) hxs
  refine ⟨e1, e2, e3, ?_⟩
  unfold entE
  rw [e1, e2]
  simp only [if_true]
  rw [if_neg (by rintro ⟨_, h⟩; exact absurd h (by decide)), if_neg (by decide)]
  unfold pEnt
  rw [if_pos e3, if_neg]
  show ¬ S.room - (S.used + o.t.size) < o.s.size
  omega
theorem flat_of {l : List Opn} {S : St} {R : List Nr} {ds : List Nat} (B : Blt l S R ds) (F : Flat l) : FlatAt l S R ds := by
  induction B with
  | nil => exact ⟨rfl, rfl, ⟨[], rfl, fun j o h => by simp at h, fun e h => by simp at h, List.Pairwise.nil⟩, fun j o h => by simp at h⟩
  | bad o h hk hh hE ih => exact absurd (flat_make hk hh F) hE
  | fail o h hk hh h0 hE hR ih =>
    have A := ih F.init
    obtain ⟨ents, hr, _, hb, _⟩ := A.root
    rw [F.at0 o (by simp), at_zero A.d0] at hE
    exact absurd (flat_enter hk hh F hr hb).2.2.2 hE
  | @ok l S R R' ds o x h k hk hh h0 hE hx hR ih =>
    have A := ih F.init
    obtain ⟨ents, hr, hmem, hb, hris⟩ := A.root
    rw [F.at0 o (by simp), at_zero A.d0] at hE hx ⊢
    change entE (S.make o.k o.m o.t) 1 o.s R.length = 0 at hE
    change (entS (S.make o.k o.m o.t) 1 o.s R.length).get R.length = some x at hx
    change FlatAt _ ((entS (S.make o.k o.m o.t) 1 o.s R.length).put R.length { x with holds := 0 }) _ _
    obtain ⟨e1, e2, e3, e4⟩ := flat_enter hk hh F hr hb
    have h2 := hh.sim.two
    have hl := hh.sim.len
    have hlen := A.len
    have eS : entS (S.make o.k o.m o.t) 1 o.s R.length = { ((((S.make o.k o.m o.t).put 1 ⟨2, 493, 1, 0, ⟨#[]⟩, putL o.s R.length ents, 1⟩)).put R.length ⟨o.k, o.m, 0 + 1, 1, o.t, [], 1⟩) with used := (S.make o.k o.m o.t).used + o.s.size } := by
      unfold entS
      rw [if_pos hE]
      rw [e1, e2]
    have hget : ∀ j : Int, (entS (S.make o.k o.m o.t) 1 o.s R.length).get j = ((((S.make o.k o.m o.t).put 1 ⟨2, 493, 1, 0, ⟨#[]⟩, putL o.s R.length ents, 1⟩)).put R.length ⟨o.k, o.m, 0 + 1, 1, o.t, [], 1⟩).get j := fun j => by rw [eS]
    have hx' : x = ⟨o.k, o.m, 1, 1, o.t, [], 1⟩ := by
      have h1 := hget R.length
      rw [St.put_same] at h1
      have h3 : (entS (S.make o.k o.m o.t) 1 o.s R.length).get R.length = some x := hx
      rw [h1] at h3
      cases h3
      rfl
    subst hx'
    refine ⟨by rw [hR, List.length_append, List.length_singleton]; omega, ?_, ⟨putL o.s R.length ents, ?_, ?_, ?_, rising_put hris⟩, ?_⟩
    · split
      · rw [List.getElem?_append_left (by have := hh.dpos; omega)]; exact A.d0
      · exact A.d0
    · have : (1 : Int) ≠ (R.length : Int) := by omega
      show (St.put (entS (S.make o.k o.m o.t) 1 o.s R.length) _ _).get 1 = _
      rw [St.put_other _ _ this, hget, St.put_other _ _ this, St.put_same]
    · intro j p hp
      by_cases e : j < l.length
      · rw [List.getElem?_append_left e] at hp
        exact put_keeps (hmem j p hp)
      · have hlt := (List.getElem?_eq_some_iff.1 hp).1
        simp at hlt
        obtain rfl : j = l.length := by omega
        rw [List.getElem?_append_right (Nat.le_refl _), Nat.sub_self] at hp
        simp at hp
        subst hp
        rw [← hlen]
        exact put_mem e3
    · intro e he
      rcases mem_put he with h1 | rfl
      · obtain ⟨p, hp, hps⟩ := hb e h1
        exact ⟨p, List.mem_append_left _ hp, hps⟩
      · exact ⟨o, by simp, rfl⟩
    · intro j p hp
      show (St.put (entS (S.make o.k o.m o.t) 1 o.s R.length) _ _).get _ = _
      by_cases e : j < l.length
      · rw [List.getElem?_append_left e] at hp
        have n1 : ((j + 2 : Nat) : Int) ≠ (R.length : Int) := by omega
        have n2 : ((j + 2 : Nat) : Int) ≠ 1 := by omega
        rw [St.put_other _ _ n1, hget, St.put_other _ _ n1, St.put_other _ _ n2]
        show (if _ then _ else _) = _
        rw [if_neg (by omega)]
        exact A.node j p hp
      · have hlt := (List.getElem?_eq_some_iff.1 hp).1
        simp at hlt
        obtain rfl : j = l.length := by omega
        rw [List.getElem?_append_right (Nat.le_refl _), Nat.sub_self] at hp
        simp at hp
        subst hp
        rw [← hlen, St.put_same]
end Go.Proofs.Ytgdjoojghkdcbaa

/- The document's example, plain. No condition. -/
namespace Go.Proofs.Ytgdjoojghkdcbaa
open Go.RowKit Go.PlainAid Pth
set_option linter.unusedSimpArgs false

theorem vw_dir {S : St} {k : Int} {x : Nd} (h : S.get k = some x) (hk : x.kind = 2) : vwS S k = some ⟨2, x.mode, ⟨#[]⟩, x.up, fun s => getN s x.ents⟩ := by simp [vwS, h, hk]
theorem vw_not {S : St} {k : Int} {x : Nd} (h : S.get k = some x) (hk : x.kind ≠ 2) : vwS S k = some ⟨x.kind, x.mode, x.data, 0, fun _ => 0⟩ := by simp [vwS, h, hk]
theorem step_name {V : Int → Option Vw} {a : Int} {x : Vw} (hv : V a = some x) (hc : closE (some x) = 0) {s : ByteArray} (h1 : (s.toList == [46]) = false) (h2 : (s.toList == [46, 46]) = false) (h3 : s.size ≤ 255) : stepM V a s = (⟨x.look s, a, s⟩, 0) := by
  unfold stepM
  rw [hv]
  simp only [hc, if_true, h1, h2, Bool.false_eq_true, if_false]
  rw [if_neg (by omega)]
theorem step_up {V : Int → Option Vw} {a : Int} {x : Vw} (hv : V a = some x) (hc : closE (some x) = 0) : stepM V a ⟨#[46, 46]⟩ = (⟨x.up, 0, ⟨#[]⟩⟩, 0) := by
  unfold stepM
  rw [hv]
  simp [hc, ByteArray.toList_eq]
theorem step_dot {V : Int → Option Vw} {a : Int} {x : Vw} (hv : V a = some x) (hc : closE (some x) = 0) : stepM V a ⟨#[46]⟩ = (⟨a, 0, ⟨#[]⟩⟩, 0) := by
  unfold stepM
  rw [hv]
  simp [hc, ByteArray.toList_eq]

theorem tl1 (c : UInt8) : (⟨#[c]⟩ : ByteArray).toList = [c] := by rw [ByteArray.toList_eq]
theorem bt1 (c : UInt8) : bt ⟨#[c]⟩ 0 = (c.toNat : Int) := ((data_get ⟨#[c]⟩ 0 c).1 rfl).2
theorem has1 {c : UInt8} {x : Int} (h : (c.toNat : Int) ≠ x) : hasB ⟨#[c]⟩ x = false := by
  unfold hasB
  apply decide_eq_false
  rintro ⟨k, hk, hb⟩
  have : k < 1 := hk
  obtain rfl : k = 0 := by omega
  rw [bt1] at hb
  exact h hb
theorem name1 {c : UInt8} (h0 : (c.toNat : Int) ≠ 0) (h47 : (c.toNat : Int) ≠ 47) (h46 : (c.toNat : Int) ≠ 46) : nameB ⟨#[c]⟩ = true := by
  have e : (c == 46) = false := by
    simp only [beq_eq_false_iff_ne, ne_eq]
    rintro rfl
    exact h46 rfl
  unfold nameB
  rw [has1 h0, has1 h47, tl1, show (⟨#[c]⟩ : ByteArray).size = 1 from rfl]
  simp [e]
abbrev anD : Opn := ⟨0, ⟨#[100]⟩, 2, 493, ⟨#[]⟩⟩
abbrev anL : Opn := ⟨0, ⟨#[108]⟩, 3, 0, ⟨#[100, 47, 46, 46]⟩⟩
theorem an_flat : Flat [anD, anL] := by
  refine ⟨?_, ?_, ?_, ?_, ?_, ?_⟩
  · intro o ho; simp at ho; rcases ho with rfl | rfl <;> rfl
  · intro o ho; simp at ho; rcases ho with rfl | rfl <;> decide
  · intro o ho; simp at ho; rcases ho with rfl | rfl <;> decide
  · intro o ho; simp at ho; rcases ho with rfl | rfl <;> decide
  · intro o ho; simp at ho; rcases ho with rfl | rfl <;> exact name1 (by decide) (by decide) (by decide)
  · decide
theorem c1 : goL ⟨#[108, 47, 120]⟩ = [⟨#[108]⟩, ⟨#[120]⟩] := by decide
theorem c2 : goL ⟨#[100, 47, 46, 46, 47, 120]⟩ = [⟨#[100]⟩, ⟨#[46, 46]⟩, ⟨#[120]⟩] := by decide
theorem c3 : behS ⟨#[100, 47, 46, 46]⟩ [⟨#[120]⟩] false = ⟨#[100, 47, 46, 46, 47, 120]⟩ := by decide
theorem c4 : wrongE ⟨#[108, 47, 120]⟩ = 0 := by decide
theorem c5 : wrongE ⟨#[100, 47, 46, 46, 47, 120]⟩ = 0 := by decide
theorem c6 : slsB ⟨#[108, 47, 120]⟩ = false ∧ absB ⟨#[108, 47, 120]⟩ = false := by decide
theorem c7 : slsB ⟨#[100, 47, 46, 46, 47, 120]⟩ = false ∧ absB ⟨#[100, 47, 46, 46, 47, 120]⟩ = false := by decide

theorem an_way {S : St} {R : List Nr} {ds : List Nat} (A : FlatAt [anD, anL] S R ds) (h0 : S.get 0 = none) : wayM (vwS S) true 41 0 1 ⟨#[108, 47, 120]⟩ = (⟨0, 1, ⟨#[120]⟩⟩, 0) := by
  obtain ⟨ents, hr, hmem, hb, hris⟩ := A.root
  have g2 : getN ⟨#[100]⟩ ents = 2 := getN_mem hris (hmem 0 anD rfl)
  have g3 : getN ⟨#[108]⟩ ents = 3 := getN_mem hris (hmem 1 anL rfl)
  have gx : getN ⟨#[120]⟩ ents = 0 := by
    unfold getN
    rw [if_neg]
    intro h
    obtain ⟨n, hn⟩ := hasN_mem h
    obtain ⟨o, ho, hs⟩ := hb _ hn
    simp at ho
    rcases ho with rfl | rfl
    · exact absurd hs (by show (⟨#[100]⟩ : ByteArray) ≠ ⟨#[120]⟩; decide)
    · exact absurd hs (by show (⟨#[108]⟩ : ByteArray) ≠ ⟨#[120]⟩; decide)
  have n2 : S.get 2 = some ⟨2, 493, 1, 0, ⟨#[]⟩, [], 1⟩ := A.node 0 anD rfl
  have n3 : S.get 3 = some ⟨3, 0, 1, 0, ⟨#[100, 47, 46, 46]⟩, [], 1⟩ := A.node 1 anL rfl
  have v1 := vw_dir hr rfl
  have v2 := vw_dir n2 rfl
  have v3 := vw_not n3 (by decide)
  have hc1 : closE (vwS S 1) = 0 := by rw [v1]; rfl
  have hc2 : closE (vwS S 2) = 0 := by rw [v2]; rfl
  have s1 := step_name v1 (by rw [← v1]; exact hc1) (s := ⟨#[108]⟩) (by rw [tl1]; rfl) (by rw [tl1]; rfl) (by decide)
  have s2 := step_name v1 (by rw [← v1]; exact hc1) (s := ⟨#[100]⟩) (by rw [tl1]; rfl) (by rw [tl1]; rfl) (by decide)
  have s3 := step_up v2 (by rw [← v2]; exact hc2)
  have s4 := step_name v1 (by rw [← v1]; exact hc1) (s := ⟨#[120]⟩) (by rw [tl1]; rfl) (by rw [tl1]; rfl) (by decide)
  simp only [g3] at s1
  simp only [g2] at s2
  simp only [gx] at s4
  have k0 : vwS S 0 = none := by simp [vwS, h0]
  have kk0 : kindV (vwS S 0) = 0 := by rw [k0]; rfl
  have kk1 : kindV (vwS S 1) = 2 := by rw [v1]; rfl
  have kk2 : kindV (vwS S 2) = 2 := by rw [v2]; rfl
  have kk3 : kindV (vwS S 3) = 3 := by rw [v3]; rfl
  have d3 : dataV (vwS S 3) = ⟨#[100, 47, 46, 46]⟩ := by rw [v3]; rfl
  have z3 : (⟨#[100, 47, 46, 46]⟩ : ByteArray).size = 4 := rfl
  simp [wayM, loopM, c1, c2, c3, c4, c5, c6, c7, s1, s2, s3, s4, kk0, kk1, kk2, kk3, d3, z3]
end Go.Proofs.Ytgdjoojghkdcbaa

/- The law's small and anchor, walked. No condition. -/
namespace Go.Proofs.Ytgdjoojghkdcbaa
open Go.RowKit Go.PlainAid
set_option linter.unusedSimpArgs false

def okB (o : Opn) : Bool := decide (o.s.size ≤ 300) && decide (o.t.size ≤ 5000)
def smB (os : List Opn) : Bool := os.all okB && decide (os.length ≤ 40)
def RelSm (os : List Opn) (w : World) (i : Value) (wr : World) : Prop := ∃ k : Nat, k ≤ os.length ∧ i = .int .i64 k ∧ (os.drop k).all okB = os.all okB ∧ Below w.heap.size w wr

theorem ops_len {H : Type} {enc : TypeId × Value → H} {W : World} {v : Value} {d : DataW H} {p : List MemPlace} (h : DataW.Trod enc Try.prog W 0 (fun _ => true) true 22 v d p) {os : List Opn} (ho : OpsAt W v os) : os.length ≤ maxLen := by
  obtain ⟨a, c, rfl⟩ := ops_shape ho
  obtain ⟨fuel, hf⟩ := h
  rcases Deep.open_slice Try.underlying22 hf with ⟨hcs, _⟩ | ⟨x, l, c', m, n, D, Pl, hcs, _, hl, hm, _⟩
  · simp [Value.cells] at hcs
    rw [hcs.2.1]; exact Nat.zero_le _
  · simp [Value.cells] at hcs
    obtain ⟨rfl, rfl, rfl⟩ := hcs
    exact Nat.le_trans hl hm

set_option maxHeartbeats 2000000 in
set_option maxRecDepth 100000 in
theorem small8 (v0 : Value) (os : List Opn) (w : World) (h : OpsAt w v0 os) (hlen : os.length ≤ maxLen) : Calls Try.prog 8 #[v0] w fun e w' => e = .returned (.bool (smB os)) ∧ Below w.heap.size w w' := by
  have H := Lib.hid h
  obtain ⟨a0, c0, rfl⟩ := ops_shape h
  clear h
  unfold maxLen at hlen
  have R0 : Hid (RelSm os w (.int .i64 0) w) := Lib.hid ⟨0, Nat.zero_le _, rfl, rfl, Below.refl _ _⟩
  go_enter Try.func8, Try.ntmps8
  go_wp2
  go_loopw [7] (RelSm os w) (fun i _ => os.length - (intOf i).toNat)
  case atStart => exact R0.out
  case round =>
    clear R0
    obtain ⟨k, hk, rfl, hall, hb⟩ := hrel
    have HB := Lib.hid hb
    have HA := Lib.hid hall
    clear hb hall
    by_cases hlt : k < os.length
    · obtain ⟨o, ho⟩ := get_some hlt
      obtain ⟨hfit, hshape⟩ := H.out
      rcases hshape with ⟨rfl, _⟩ | ⟨b, off, c, e0, hcell⟩
      · simp at hlt
      cases e0
      have hdr : os.drop k = o :: os.drop (k + 1) := drop_get ho
      have P0 := (hcell k o ho).low HB.out
      have p0 := P0.c0
      have p1 := P0.c1
      have p2 := P0.c2
      have p3 := P0.c3
      have p4 := P0.c4
      have HD := Lib.hid hdr
      have HB1 := Lib.hid (HB.out.alloc HB.out.size (.cells #[.int .i64 o.at', .string o.s, .int .i64 o.k, .int .i64 o.m, .string o.t] 52))
      clear P0 hcell hfit ho hdr HB
      by_cases h1 : 300 < o.s.size
      · have q1 : decide (300 < o.s.size) = true := decide_eq_true h1
        have HF : Hid (smB os = false) := Lib.hid (by unfold smB; rw [← HA.out, HD.out, List.all_cons]; unfold okB; rw [decide_eq_false (by omega)]; simp)
        go_wp2
        go_ret
        exact ⟨by rw [HF.out]; rfl, HB1.out⟩
      by_cases h2 : 5000 < o.t.size
      · have q1 : decide (300 < o.s.size) = false := decide_eq_false h1
        have q2 : decide (5000 < o.t.size) = true := decide_eq_true h2
        have HF : Hid (smB os = false) := Lib.hid (by unfold smB; rw [← HA.out, HD.out, List.all_cons]; unfold okB; rw [decide_eq_false (p := o.t.size ≤ 5000) (by omega)]; simp)
        go_wp2
        go_ret
        exact ⟨by rw [HF.out]; rfl, HB1.out⟩
      have HA2 : Hid ((os.drop (k + 1)).all okB = os.all okB) := Lib.hid (by rw [← HA.out, HD.out, List.all_cons]; rw [show okB o = true by unfold okB; rw [decide_eq_true (by omega), decide_eq_true (by omega)]; rfl, Bool.true_and])
      have q1 : decide (300 < o.s.size) = false := decide_eq_false h1
      have q2 : decide (5000 < o.t.size) = false := decide_eq_false h2
      go_wp2
      go_roundw
      case rel => exact ⟨k + 1, hlt, by go_num, HA2.out, HB1.out⟩
      case measure => simp [intOf]; omega
    · obtain rfl : k = os.length := by omega
      have HF : Hid (smB os = decide (os.length ≤ 40)) := Lib.hid (by unfold smB; rw [← HA.out, List.drop_length]; simp)
      go_wp2
      go_ret
      refine ⟨?_, HB.out⟩
      rw [HF.out]
      congr 2
      simp
      omega
theorem smB_ok {os : List Opn} (h : smB os = true) : os.length ≤ 40 ∧ ∀ o ∈ os, o.s.size ≤ 300 ∧ o.t.size ≤ 5000 := by
  unfold smB at h
  simp [okB] at h
  exact ⟨h.2, fun o ho => h.1 o ho⟩
end Go.Proofs.Ytgdjoojghkdcbaa

/- The law's anchor, walked. No condition. -/
namespace Go.Proofs.Ytgdjoojghkdcbaa
open Go.RowKit Go.PlainAid
set_option linter.unusedSimpArgs false

abbrev anBlk : Obj := .cells #[.int .i64 0, .string ⟨#[100]⟩, .int .i64 2, .int .i64 493, .string ⟨#[]⟩, .int .i64 0, .string ⟨#[108]⟩, .int .i64 3, .int .i64 0, .string ⟨#[100, 47, 46, 46]⟩] 52
theorem an_ops (w : World) : OpsAt (w.alloc anBlk) (.slice (some ⟨w.heap.size, 0, none⟩) 2 2) [anD, anL] := by
  have h := heap_alloc_new w anBlk
  refine ⟨?_, .inr ⟨w.heap.size, 0, 2, rfl, ?_⟩⟩
  · intro o ho
    simp at ho
    rcases ho with rfl | rfl
    · exact ⟨in64 (by decide), by decide, in64 (by decide), in64 (by decide), by decide⟩
    · exact ⟨in64 (by decide), by decide, in64 (by decide), in64 (by decide), by decide⟩
  · intro i o hi
    match i, hi with
    | 0, hi => simp at hi; subst hi; exact ⟨cells_at h rfl, cells_at h rfl, cells_at h rfl, cells_at h rfl, cells_at h rfl⟩
    | 1, hi => simp at hi; subst hi; exact ⟨cells_at h rfl, cells_at h rfl, cells_at h rfl, cells_at h rfl, cells_at h rfl⟩
    | i + 2, hi => simp at hi
theorem Hd.get0 {k : Nat} {S : St} {R : List Nr} {ds : List Nat} (h : Hd k S R ds) : S.get 0 = none := by
  cases hx : S.get 0 with
  | none => rfl
  | some x => obtain ⟨i, n, e, e1, _⟩ := h.sim.back 0 x hx; omega

set_option maxHeartbeats 2000000 in
set_option maxRecDepth 100000 in
theorem anchor7 (w : World) : Calls Try.prog 7 #[] w fun e w' => e = .returned (.bool true) ∧ Below w.heap.size w w' := by
  have B0 := (Below.refl w.heap.size w).alloc (Nat.le_refl _) anBlk
  have C := Lib.hid (built9 _ [anD, anL] _ (an_ops w) (by decide) (by intro o ho; simp at ho; rcases ho with rfl | rfl <;> decide))
  have HB0 := Lib.hid B0
  clear B0
  go_enter Try.func7, Try.ntmps7
  go_wp2_with fail
  refine C.out.mono ?_
  rintro e w1 ⟨D, L, S, R, ds, v, Z, rfl, K, B, H, hZ, X, b1, O⟩
  obtain ⟨g, c, rfl⟩ := X.shape (by have := H.sim.two; rw [← hZ] at this; simp at this; omega)
  have B1 := HB0.out.trans (b1.mono HB0.out.size)
  have A2 := (Below.refl w1.heap.size w1).alloc (Nat.le_refl _) (.cells #[.slice (some ⟨g, 0, none⟩) Z.length c, .int .i64 1048576] 28)
  have CF := find10 L D S _ (K.below A2) H.good 1 (in64 (by decide)) ⟨#[108, 47, 120]⟩ (by decide) true
  rw [an_way (flat_of B an_flat) H.get0] at CF
  have HCF := Lib.hid CF
  have HB2 := Lib.hid (B1.trans (A2.mono B1.size))
  clear C CF K B H hZ X b1 O B1 A2 HB0
  go_wp2_with fail
  refine HCF.out.mono ?_
  rintro e w2 ⟨rfl, b2⟩
  have HB3 := Lib.hid (HB2.out.trans (b2.mono HB2.out.size))
  clear b2 HB2 HCF
  have HB4 := Lib.hid (HB3.out.alloc HB3.out.size (.cells #[.int .i64 0, .int .i64 1, .string ⟨#[120]⟩] 32))
  go_wp2
  go_ret
  exact ⟨rfl, HB4.out⟩
end Go.Proofs.Ytgdjoojghkdcbaa
