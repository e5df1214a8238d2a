/- One disk, by the program and by the document, call by call: plain. No condition. -/
import Derived.Test.YtgdjoojghkdcbaaXp
import Derived.Test.YtgdjoojghkdcbaaVb
import Derived.Test.YtgdjoojghkdcbaaOp
import Derived.Deep.DeepCutAuto
namespace Go.Proofs.Ytgdjoojghkdcbaa
open Go.RowKit Go.PlainAid

theorem lk_app (id : Int) (b : List Nr) : ∀ a, lk id (a ++ b) = lk id a + lk id b
  | [] => by simp [lk]
  | n :: a => by simp only [List.cons_append, lk, lk_app id b a]; omega
theorem usz_app (b : List Nr) : ∀ a, usz (a ++ b) = usz a + usz b
  | [] => by simp [usz]
  | n :: a => by simp only [List.cons_append, usz, usz_app b a]; omega
theorem cnr_app (b : List Nr) : ∀ a, cnr (a ++ b) = cnr a + cnr b
  | [] => by simp [cnr]
  | n :: a => by simp only [List.cons_append, cnr, cnr_app b a]; omega
theorem cE_app (id : Int) (b : List En) : ∀ a, cE id (a ++ b) = cE id a + cE id b
  | [] => by simp [cE]
  | n :: a => by simp only [List.cons_append, cE, cE_app id b a]; omega
theorem drop_app1 {R : List Nr} (h : 1 ≤ R.length) (n : Nr) : (R ++ [n]).drop 1 = R.drop 1 ++ [n] := List.drop_append_of_le_length h
theorem upF_app (id : Int) (n : Nr) (h : cE id n.ents = 0) : ∀ (R : List Nr) (i : Nat), upF id (R ++ [n]) i = upF id R i
  | [], i => by simp [upF, h]
  | m :: R, i => by simp only [List.cons_append, upF, upF_app id n h R (i + 1)]
theorem upF_congr (id : Int) : ∀ (A B : List Nr) (i : Nat), A.length = B.length → (∀ (j : Nat) (a b : Nr), A[j]? = some a → B[j]? = some b → cE id a.ents = cE id b.ents) → upF id A i = upF id B i
  | [], [], i, _, _ => rfl
  | [], b :: B, i, h, _ => by simp at h
  | a :: A, [], i, h, _ => by simp at h
  | a :: A, b :: B, i, h, hc => by
    have h0 := hc 0 a b rfl rfl
    have ih := upF_congr id A B (i + 1) (by simpa using h) (fun j x y h1 h2 => hc (j + 1) x y (by simpa using h1) (by simpa using h2))
    simp only [upF, h0, ih]
theorem upF_first (id : Int) : ∀ (R : List Nr) (i k : Nat) (n : Nr), R[k]? = some n → 0 < cE id n.ents → (∀ (j : Nat) (m : Nr), j ≠ k → R[j]? = some m → cE id m.ents = 0) → upF id R i = ((i + k : Nat) : Int)
  | [], i, k, n, h, _, _ => by simp at h
  | m :: R, i, 0, n, h, hp, _ => by
    simp at h; subst h
    simp only [upF, if_pos hp, Nat.add_zero]
  | m :: R, i, k + 1, n, h, hp, hz => by
    have h0 := hz 0 m (by omega) rfl
    have ih := upF_first id R (i + 1) k n (by simpa using h) hp (fun j x hj hx => hz (j + 1) x (by omega) (by simpa using hx))
    simp only [upF, h0, Nat.lt_irrefl, if_false, ih]
    omega
theorem upF_rng (id : Int) : ∀ (R : List Nr) (i : Nat), upF id R i = 1 ∨ ∃ (k : Nat) (n : Nr), R[k]? = some n ∧ 0 < cE id n.ents ∧ upF id R i = ((i + k : Nat) : Int)
  | [], i => .inl rfl
  | m :: R, i => by
    by_cases h : 0 < cE id m.ents
    · exact .inr ⟨0, m, rfl, h, by simp only [upF, if_pos h, Nat.add_zero]⟩
    · rcases upF_rng id R (i + 1) with e | ⟨k, n, h1, h2, h3⟩
      · exact .inl (by simp only [upF, if_neg h, e])
      · exact .inr ⟨k + 1, n, by simpa using h1, h2, by simp only [upF, if_neg h, h3]; omega⟩

theorem putL_is {s : ByteArray} {k : Int} {l : List En} (h : putE s l = 0) : putL s k l = l.take (pos s l) ++ (s, k) :: l.drop (pos s l) := if_pos h
theorem cE_put {s : ByteArray} {k : Int} {l : List En} (h : putE s l = 0) (id : Int) : cE id (putL s k l) = cE id l + (if k = id then 1 else 0) := by
  have e : cE id l = cE id (l.take (pos s l)) + cE id (l.drop (pos s l)) := by rw [← cE_app, List.take_append_drop]
  rw [putL_is h, cE_app, e]
  simp only [cE]
  omega
theorem szs_put {s : ByteArray} {k : Int} {l : List En} (h : putE s l = 0) : szs (putL s k l) = szs l + s.size := by
  have e : szs l = szs (l.take (pos s l)) + szs (l.drop (pos s l)) := by rw [← szs_app, List.take_append_drop]
  rw [putL_is h, szs_app, e]
  simp only [szs]
  omega
theorem mem_put {s : ByteArray} {k : Int} {l : List En} {x : En} (hx : x ∈ putL s k l) : x ∈ l ∨ x = (s, k) := by
  unfold putL at hx
  split at hx
  · rcases List.mem_append.1 hx with h | h
    · exact .inl (List.mem_of_mem_take h)
    · rcases List.mem_cons.1 h with h | h
      · exact .inr h
      · exact .inl (List.mem_of_mem_drop h)
  · exact .inl hx
theorem cE_none {id : Int} : ∀ {l : List En}, (∀ e ∈ l, e.2 ≠ id) → cE id l = 0
  | [], _ => rfl
  | e :: l, h => by
    have := cE_none (fun x hx => h x (List.mem_cons_of_mem _ hx))
    simp only [cE, if_neg (h e List.mem_cons_self), this]
theorem lk_none {id : Int} : ∀ {R : List Nr}, (∀ n ∈ R, cE id n.ents = 0) → lk id R = 0
  | [], _ => rfl
  | n :: R, h => by
    have := lk_none (fun x hx => h x (List.mem_cons_of_mem _ hx))
    simp only [lk, h n List.mem_cons_self, this]
theorem links_zero {R : List Nr} {id : Int} (h : linksR R id = 0) : id ≠ 1 ∧ ∀ (i : Nat) (n : Nr), 1 ≤ i → R[i]? = some n → cE id n.ents = 0 := by
  unfold linksR at h
  refine ⟨fun e => by rw [if_pos e] at h; omega, fun i n h1 hn => ?_⟩
  have := links_ge h1 hn id
  unfold linksR at this
  split at h <;> omega
theorem links_one (R : List Nr) : 1 ≤ linksR R 1 := by unfold linksR; rw [if_pos rfl]; omega

/-- S and R are one disk. -/
structure Sim (S : St) (R : List Nr) : Prop where
  inv : InvR R
  len : S.last + 1 = R.length
  used : S.used = usedR R
  cnt : (S.cnt : Int) = countR R
  root : ∃ n, R[1]? = some n ∧ n.kind = 2
  node : ∀ (i : Nat) (n : Nr), 1 ≤ i → R[i]? = some n → n.kind ≠ 0 → ∃ u, S.get i = some ⟨n.kind, n.mode, linksR R i, n.holds, n.data, n.ents, u⟩ ∧ (n.kind = 2 → 0 < linksR R i → u = upR R i)
  back : ∀ k x, S.get k = some x → ∃ (i : Nat) (n : Nr), k = i ∧ 1 ≤ i ∧ R[i]? = some n ∧ n.kind ≠ 0
  rise : ∀ n ∈ R, Rising n.ents
  mode : ∀ n ∈ R, 0 ≤ n.mode ∧ n.mode ≤ 4095
section
variable {S : St} {R : List Nr}
theorem Sim.two (h : Sim S R) : 2 ≤ R.length := by obtain ⟨n, hn, _⟩ := h.root; have := (List.getElem?_eq_some_iff.1 hn).1; omega
theorem Sim.has (h : Sim S R) (k : Int) : hasR R k = (S.get k).isSome := by
  cases hx : S.get k with
  | some x =>
    obtain ⟨i, n, rfl, h1, h2, h3⟩ := h.back k x hx
    rw [hasR_at h2 h1]
    simpa using h3
  | none =>
    cases hh : hasR R k with
    | false => rfl
    | true =>
      obtain ⟨i, n, rfl, h1, _, h2, h3⟩ := hasR_get hh
      obtain ⟨u, hu, _⟩ := h.node i n h1 h2 (by simpa using h3)
      rw [hx] at hu; cases hu
theorem Sim.makeEq (h : Sim S R) (kind m : Int) (s : ByteArray) : makeE S kind m s = makeRE R S.room kind m s := by
  have h1 := h.used
  have h2 := h.cnt
  unfold makeE makeRE
  rw [h1]
  have e1 : (65536 ≤ S.cnt) ↔ (65536 ≤ countR R) := by omega
  have e2 : (S.room - usedR R < (s.size : Int)) ↔ (S.room < usedR R + s.size) := by omega
  simp only [e1, e2]

theorem Sim.make (h : Sim S R) (kind m : Int) (s : ByteArray) (hk : kind ≠ 0) (hm : 0 ≤ m ∧ m ≤ 4095) (hlen : R.length < 1000) : Sim (S.make kind m s) (R ++ [⟨kind, m, 1, s, []⟩]) := by
  have h2 := h.two
  have hd := drop_app1 (R := R) (by omega) ⟨kind, m, 1, s, []⟩
  have hl : ∀ id, linksR (R ++ [⟨kind, m, 1, s, []⟩]) id = linksR R id := fun id => by unfold linksR; rw [hd, lk_app]; simp [lk, cE]
  have hu : ∀ id, upR (R ++ [⟨kind, m, 1, s, []⟩]) id = upR R id := fun id => by unfold upR; rw [hd]; exact upF_app id _ rfl _ _
  have hnew : linksR R R.length = 0 := by
    unfold linksR
    rw [if_neg (by omega), lk_none (fun n hn => cE_none (fun e he => by have := h.inv.rng n (List.mem_of_mem_drop hn) e he; omega))]
    rfl
  have hget : ∀ (i : Nat) (n : Nr), (R ++ [(⟨kind, m, 1, s, []⟩ : Nr)])[i]? = some n → R[i]? = some n ∨ (i = R.length ∧ n = ⟨kind, m, 1, s, []⟩) := by
    intro i n hi
    by_cases e : i < R.length
    · rw [List.getElem?_append_left e] at hi; exact .inl hi
    · have hlt := (List.getElem?_eq_some_iff.1 hi).1
      simp at hlt
      obtain rfl : i = R.length := by omega
      rw [List.getElem?_append_right (Nat.le_refl _), Nat.sub_self] at hi
      simp at hi
      exact .inr ⟨rfl, hi.symm⟩
  have hmem : ∀ n ∈ R ++ [(⟨kind, m, 1, s, []⟩ : Nr)], n ∈ R ∨ n = ⟨kind, m, 1, s, []⟩ := fun n hn => by simpa using hn
  have hL : S.last + 1 = R.length := h.len
  refine ⟨⟨?_, ?_, ?_, ?_, ?_⟩, ?_, ?_, ?_, ?_, ?_, ?_, ?_, ?_⟩
  · rw [List.getElem?_append_left (by omega)]; exact h.inv.head
  · intro n hn hk0
    rcases hmem n hn with h1 | rfl
    · exact h.inv.dead n h1 hk0
    · exact absurd hk0 hk
  · intro n hn e he
    rw [List.length_append]
    rcases hmem n hn with h1 | rfl
    · have := h.inv.rng n h1 e he; simp only [List.length_singleton]; omega
    · simp at he
  · rw [List.length_append, List.length_singleton]; omega
  · intro n hn
    rcases hmem n hn with h1 | rfl
    · exact h.inv.few n h1
    · exact Nat.zero_le _
  · show S.last + 1 + 1 = _
    rw [List.length_append, List.length_singleton, hL]; omega
  · show S.used + s.size = _
    unfold usedR
    rw [hd, usz_app, h.used]
    unfold usedR
    simp [usz, szs]
  · show ((S.cnt + 1 : Nat) : Int) = _
    unfold countR
    rw [hd, cnr_app]
    have := h.cnt
    unfold countR at this
    simp only [cnr, show ((kind != 0) = true) from by simpa using hk, if_true]
    omega
  · obtain ⟨n, hn, hk2⟩ := h.root
    exact ⟨n, by rw [List.getElem?_append_left (by omega)]; exact hn, hk2⟩
  · intro i n h1 hn hk0
    rw [hl, hu]
    rcases hget i n hn with h3 | ⟨rfl, rfl⟩
    · obtain ⟨u, hu1, hu2⟩ := h.node i n h1 h3 hk0
      have hlt := (List.getElem?_eq_some_iff.1 h3).1
      exact ⟨u, by show (if (i : Int) = S.last + 1 then _ else _) = _; rw [if_neg (by omega)]; exact hu1, hu2⟩
    · exact ⟨0, by show (if ((R.length : Nat) : Int) = S.last + 1 then _ else _) = _; rw [if_pos hL.symm, hnew], fun _ h0 => by rw [hnew] at h0; omega⟩
  · intro k x hx
    change (if k = S.last + 1 then _ else _) = _ at hx
    by_cases e : k = S.last + 1
    · refine ⟨R.length, ⟨kind, m, 1, s, []⟩, by omega, by omega, ?_, hk⟩
      rw [List.getElem?_append_right (Nat.le_refl _), Nat.sub_self]; rfl
    · rw [if_neg e] at hx
      obtain ⟨i, n, e1, e2, e3, e4⟩ := h.back k x hx
      have hlt := (List.getElem?_eq_some_iff.1 e3).1
      exact ⟨i, n, e1, e2, by rw [List.getElem?_append_left hlt]; exact e3, e4⟩
  · intro n hn
    rcases hmem n hn with h1 | rfl
    · exact h.rise n h1
    · exact List.Pairwise.nil
  · intro n hn
    rcases hmem n hn with h1 | rfl
    · exact h.mode n h1
    · exact hm

/-- A node has turned, and names what it named. -/
theorem links_turn {i : Nat} {n m : Nr} (h1 : 1 ≤ i) (hn : R[i]? = some n) (he : ∀ id, cE id m.ents = cE id n.ents) (id : Int) : linksR (R.set i m) id = linksR R id ∧ upR (R.set i m) id = upR R id := by
  constructor
  · have := links_set h1 hn m id
    rw [he] at this
    omega
  · unfold upR
    apply upF_congr
    · simp
    · intro j a b ha hb
      rw [List.getElem?_drop] at ha hb
      rcases set_get ha with ⟨e1, rfl⟩ | ⟨_, e2⟩
      · rw [e1, hn] at hb
        cases hb
        exact he id
      · rw [e2] at hb; cases hb; rfl
theorem set_mem {i : Nat} {m x : Nr} (h : x ∈ R.set i m) : x ∈ R ∨ x = m := by
  obtain ⟨j, hj⟩ := List.getElem?_of_mem h
  rcases set_get hj with ⟨_, rfl⟩ | ⟨_, e⟩
  · exact .inr rfl
  · exact .inl (List.mem_of_getElem? e)
theorem set_self {i : Nat} {n : Nr} (hn : R[i]? = some n) (m : Nr) : (R.set i m)[i]? = some m := by
  rw [List.getElem?_set_self (List.getElem?_eq_some_iff.1 hn).1]

theorem usz_turn {i : Nat} {n : Nr} (h1 : 1 ≤ i) (hn : R[i]? = some n) (m : Nr) : usedR (R.set i m) + (n.data.size + szs n.ents : Nat) = usedR R + (m.data.size + szs m.ents : Nat) := by
  obtain ⟨i, rfl⟩ : ∃ j, i = j + 1 := ⟨i - 1, by omega⟩
  have := usz_set m (R.drop 1) i n (drop_get1 hn)
  unfold usedR
  rw [drop_set1]
  omega
theorem cnr_turn {i : Nat} {n : Nr} (h1 : 1 ≤ i) (hn : R[i]? = some n) (m : Nr) : countR (R.set i m) + (if (n.kind != 0) = true then 1 else 0 : Nat) = countR R + (if (m.kind != 0) = true then 1 else 0 : Nat) := by
  obtain ⟨i, rfl⟩ : ∃ j, i = j + 1 := ⟨i - 1, by omega⟩
  have := cnr_set m (R.drop 1) i n (drop_get1 hn)
  unfold countR
  rw [drop_set1]
  omega

theorem Sim.holds (h : Sim S R) {i : Nat} {n : Nr} (h1 : 1 ≤ i) (hn : R[i]? = some n) (hk : n.kind ≠ 0) {x : Nd} (hx : S.get i = some x) (b : Int) : Sim (S.put i { x with holds := b }) (R.set i { n with holds := b }) := by
  have hT := fun id => links_turn (m := { n with holds := b }) h1 hn (fun _ => rfl) id
  have hmem : n ∈ R := List.mem_of_getElem? hn
  obtain ⟨u, hu, hup⟩ := h.node i n h1 hn hk
  rw [hx] at hu
  cases hu
  refine ⟨⟨?_, ?_, ?_, ?_, ?_⟩, ?_, ?_, ?_, ?_, ?_, ?_, ?_, ?_⟩
  · exact get_set _ (by omega) h.inv.head
  · intro y hy hk0
    rcases set_mem hy with h2 | rfl
    · exact h.inv.dead y h2 hk0
    · exact absurd hk0 hk
  · intro y hy e he
    rw [List.length_set]
    rcases set_mem hy with h2 | rfl
    · exact h.inv.rng y h2 e he
    · exact h.inv.rng n hmem e he
  · rw [List.length_set]; exact h.inv.len
  · intro y hy
    rcases set_mem hy with h2 | rfl
    · exact h.inv.few y h2
    · exact h.inv.few n hmem
  · rw [List.length_set]; exact h.len
  · have := usz_turn h1 hn { n with holds := b }
    have h3 := h.used
    show S.used = _
    dsimp only at this
    omega
  · have := cnr_turn h1 hn { n with holds := b }
    have h3 := h.cnt
    show (S.cnt : Int) = _
    dsimp only at this
    omega
  · obtain ⟨r, hr, hr2⟩ := h.root
    by_cases e : (1 : Nat) = i
    · rw [← e] at hn ⊢
      rw [hr] at hn; cases hn
      exact ⟨_, set_self hr _, hr2⟩
    · exact ⟨r, get_set _ e hr, hr2⟩
  · intro j y hj hy hky
    rw [(hT j).1, (hT j).2]
    rcases set_get hy with ⟨rfl, rfl⟩ | ⟨e1, e2⟩
    · exact ⟨u, St.put_same _ _ _, hup⟩
    · obtain ⟨u', hu1, hu2⟩ := h.node j y hj e2 hky
      exact ⟨u', by rw [St.put_other _ _ (by omega)]; exact hu1, hu2⟩
  · intro k y hy
    by_cases e : k = i
    · exact ⟨i, _, e, h1, set_self hn _, hk⟩
    · rw [St.put_other _ _ e] at hy
      obtain ⟨j, m, e1, e2, e3, e4⟩ := h.back k y hy
      exact ⟨j, m, e1, e2, get_set _ (by omega) e3, e4⟩
  · intro y hy
    rcases set_mem hy with h2 | rfl
    · exact h.rise y h2
    · exact h.rise n hmem
  · intro y hy
    rcases set_mem hy with h2 | rfl
    · exact h.mode y h2
    · exact h.mode n hmem

theorem Sim.less (h : Sim S R) {i : Nat} {n : Nr} (h1 : 1 ≤ i) (hn : R[i]? = some n) (hk : n.kind ≠ 0) (he : n.ents = []) (hl : linksR R i = 0) {x : Nd} (hx : S.get i = some x) {c : Nat} (hc : S.cnt = c + 1) : Sim (S.less i x c) (R.set i Nr.zero) := by
  have hT := fun id => links_turn (m := Nr.zero) h1 hn (fun _ => by rw [he]; rfl) id
  have hi1 : i ≠ 1 := fun e => by have := links_one R; rw [e] at hl; simp at hl; omega
  obtain ⟨u, hu, hup⟩ := h.node i n h1 hn hk
  rw [hx] at hu
  cases hu
  refine ⟨h.inv.zero h1, ?_, ?_, ?_, ?_, ?_, ?_, ?_, ?_⟩
  · rw [List.length_set]; exact h.len
  · have := usz_turn h1 hn Nr.zero
    have h3 := h.used
    show S.used - (n.data.size : Int) = _
    rw [he] at this
    have z : Nr.zero.data.size = 0 := rfl
    simp only [szs, show Nr.zero.ents = [] from rfl, z] at this
    omega
  · have := cnr_turn h1 hn Nr.zero
    have h3 := h.cnt
    show (c : Int) = _
    rw [if_pos (by simpa using hk), if_neg (by simp [Nr.zero])] at this
    omega
  · obtain ⟨r, hr, hr2⟩ := h.root
    exact ⟨r, get_set _ (by omega) hr, hr2⟩
  · intro j y hj hy hky
    rw [(hT j).1, (hT j).2]
    rcases set_get hy with ⟨rfl, rfl⟩ | ⟨e1, e2⟩
    · exact absurd rfl hky
    · obtain ⟨u', hu1, hu2⟩ := h.node j y hj e2 hky
      exact ⟨u', by show (if (j : Int) = i then _ else _) = _; rw [if_neg (by omega)]; exact hu1, hu2⟩
  · intro k y hy
    change (if k = (i : Int) then _ else _) = _ at hy
    by_cases e : k = i
    · rw [if_pos e] at hy; cases hy
    · rw [if_neg e] at hy
      obtain ⟨j, m, e1, e2, e3, e4⟩ := h.back k y hy
      exact ⟨j, m, e1, e2, get_set _ (by omega) e3, e4⟩
  · intro y hy
    rcases set_mem hy with h2 | rfl
    · exact h.rise y h2
    · exact List.Pairwise.nil
  · intro y hy
    rcases set_mem hy with h2 | rfl
    · exact h.mode y h2
    · exact ⟨Int.le_refl _, by decide⟩

theorem Sim.entEq (h : Sim S R) {i j : Nat} {n m : Nr} (h1 : 1 ≤ i) (hn : R[i]? = some n) (hk : n.kind = 2) (j1 : 1 ≤ j) (hm : R[j]? = some m) (hkm : m.kind ≠ 0) (s : ByteArray) : entE S i s j = enRE R S.room n m j s := by
  obtain ⟨u, hu, _⟩ := h.node i n h1 hn (by omega)
  obtain ⟨v, hv, _⟩ := h.node j m j1 hm hkm
  have h3 := h.used
  unfold entE enRE
  rw [hu, hv, h3]
  simp only [hk, if_true]
  unfold pEnt
  by_cases e1 : m.kind = 2 ∧ 0 < linksR R j
  · rw [if_pos e1, if_pos e1]
  rw [if_neg e1, if_neg e1]
  by_cases e2 : 32768 ≤ linksR R j
  · rw [if_pos e2, if_pos e2]
  rw [if_neg e2, if_neg e2]
  by_cases e3 : putE s n.ents = 0
  · rw [if_pos e3, if_neg (show ¬ putE s n.ents ≠ 0 from fun q => q e3)]
    have e4 : (S.room - usedR R < (s.size : Int)) ↔ (S.room < usedR R + s.size) := by omega
    simp only [e4]
  · rw [if_neg e3, if_pos e3]
theorem enRE_zero {n m : Nr} {k room : Int} {s : ByteArray} (h : enRE R room n m k s = 0) : ¬ (m.kind = 2 ∧ 0 < linksR R k) ∧ ¬ 32768 ≤ linksR R k ∧ putE s n.ents = 0 ∧ ¬ room < usedR R + s.size := by
  unfold enRE at h
  split at h
  · cases h
  rename_i e1
  split at h
  · cases h
  rename_i e2
  split at h
  · rename_i e3; exact absurd h e3
  rename_i e3
  split at h
  · cases h
  rename_i e4
  exact ⟨e1, e2, Decidable.not_not.1 e3, e4⟩

theorem Sim.enter (h : Sim S R) {i j : Nat} {n m : Nr} (h1 : 1 ≤ i) (hn : R[i]? = some n) (hk : n.kind = 2) (j1 : 1 ≤ j) (hm : R[j]? = some m) (hkm : m.kind ≠ 0) (s : ByteArray) (hij : i ≠ j) (hfew : n.ents.length ≤ 998)
    (h0 : entE S i s j = 0) : Sim (entS S i s j) (R.set i { n with ents := putL s j n.ents }) := by
  have h00 := h0
  rw [h.entEq h1 hn hk j1 hm hkm s] at h00
  obtain ⟨z1, _, z3, _⟩ := enRE_zero h00
  obtain ⟨u, hu, hup⟩ := h.node i n h1 hn (by omega)
  obtain ⟨v, hv, hvp⟩ := h.node j m j1 hm hkm
  have hmemn : n ∈ R := List.mem_of_getElem? hn
  have hjl := (List.getElem?_eq_some_iff.1 hm).1
  have eS : entS S i s j = { ((S.put i ⟨n.kind, n.mode, linksR R i, n.holds, n.data, putL s j n.ents, u⟩).put j ⟨m.kind, m.mode, linksR R j + 1, m.holds, m.data, m.ents, i⟩) with used := S.used + s.size } := by
    unfold entS; rw [if_pos h0, hu, hv]
  rw [eS]
  have hc : ∀ id, cE id (putL s j n.ents) = cE id n.ents + (if (j : Int) = id then 1 else 0) := cE_put z3
  have hL : ∀ id, linksR (R.set i { n with ents := putL s j n.ents }) id = linksR R id + (if (j : Int) = id then 1 else 0 : Nat) := fun id => by
    have := links_set h1 hn { n with ents := putL s j n.ents } id
    simp only [hc] at this
    split at this <;> simp_all <;> omega
  have hU : ∀ id, id ≠ (j : Int) → upR (R.set i { n with ents := putL s j n.ents }) id = upR R id := fun id hid => by
    unfold upR
    apply upF_congr
    · simp
    · intro q a b ha hb
      rw [List.getElem?_drop] at ha hb
      rcases set_get ha with ⟨e1, rfl⟩ | ⟨_, e2⟩
      · rw [e1, hn] at hb
        cases hb
        show cE id (putL s j n.ents) = _
        rw [hc, if_neg (fun e => hid e.symm)]
        rfl
      · rw [e2] at hb; cases hb; rfl
  refine ⟨⟨?_, ?_, ?_, ?_, ?_⟩, ?_, ?_, ?_, ?_, ?_, ?_, ?_, ?_⟩
  · exact get_set _ (by omega) h.inv.head
  · intro y hy hk0
    rcases set_mem hy with h2 | rfl
    · exact h.inv.dead y h2 hk0
    · exact absurd hk0 (by show n.kind ≠ 0; omega)
  · intro y hy e he
    rw [List.length_set]
    rcases set_mem hy with h2 | rfl
    · exact h.inv.rng y h2 e he
    · rcases mem_put he with h3 | rfl
      · exact h.inv.rng n hmemn e h3
      · show 1 ≤ (j : Int) ∧ (j : Int) < _
        omega
  · rw [List.length_set]; exact h.inv.len
  · intro y hy
    rcases set_mem hy with h2 | rfl
    · exact h.inv.few y h2
    · have := put_len s j n.ents
      show (putL s j n.ents).length ≤ _
      omega
  · rw [List.length_set]; exact h.len
  · have := usz_turn h1 hn { n with ents := putL s j n.ents }
    have h3 := h.used
    have h4 := szs_put (k := (j : Int)) z3
    show S.used + s.size = _
    dsimp only at this
    omega
  · have := cnr_turn h1 hn { n with ents := putL s j n.ents }
    have h3 := h.cnt
    show (S.cnt : Int) = _
    dsimp only at this
    omega
  · obtain ⟨r, hr, hr2⟩ := h.root
    by_cases e : (1 : Nat) = i
    · rw [← e] at hn ⊢
      rw [hr] at hn; cases hn
      exact ⟨_, set_self hr _, hr2⟩
    · exact ⟨r, get_set _ e hr, hr2⟩
  · intro q y hq hy hky
    show ∃ w, (St.put (St.put S _ _) _ _).get _ = _ ∧ _
    rw [hL q]
    by_cases ej : q = j
    · subst ej
      rcases set_get hy with ⟨e1, _⟩ | ⟨e1, e2⟩
      · exact absurd e1.symm hij
      rw [hm] at e2
      cases e2
      refine ⟨i, by rw [St.put_same, if_pos rfl]; rfl, fun hk2 _ => ?_⟩
      have hz : linksR R q = 0 := by
        have := links_nonneg R q
        have : ¬ 0 < linksR R q := fun h0 => z1 ⟨hk2, h0⟩
        omega
      have hzz := (links_zero hz).2
      obtain ⟨i', rfl⟩ : ∃ i', i = i' + 1 := ⟨i - 1, by omega⟩
      unfold upR
      rw [drop_set1, upF_first (q : Int) _ 1 i' { n with ents := putL s q n.ents } (by rw [List.getElem?_set_self]; rw [List.length_drop]; have := (List.getElem?_eq_some_iff.1 hn).1; omega) (by show 0 < cE _ (putL s q n.ents); rw [hc, if_pos rfl]; omega) ?_]
      · omega
      · intro t x ht hx
        rcases set_get hx with ⟨e1, _⟩ | ⟨_, e2⟩
        · exact absurd e1 ht
        · rw [List.getElem?_drop] at e2
          exact hzz (1 + t) x (by omega) e2
    · rw [if_neg (by omega), hU q (by omega)]
      rcases set_get hy with ⟨rfl, rfl⟩ | ⟨e1, e2⟩
      · exact ⟨u, by rw [St.put_other _ _ (by omega), St.put_same]; simp, fun a b => hup a (by simpa using b)⟩
      · obtain ⟨u', hu1, hu2⟩ := h.node q y hq e2 hky
        exact ⟨u', by rw [St.put_other _ _ (by omega), St.put_other _ _ (by omega)]; simpa using hu1, fun a b => hu2 a (by simpa using b)⟩
  · intro k y hy
    change (St.put (St.put S _ _) _ _).get _ = _ at hy
    by_cases ei : k = i
    · exact ⟨i, _, ei, h1, set_self hn _, by show n.kind ≠ 0; omega⟩
    by_cases ej : k = j
    · exact ⟨j, m, ej, j1, get_set _ (fun e => hij e.symm) hm, hkm⟩
    · rw [St.put_other _ _ ej, St.put_other _ _ ei] at hy
      obtain ⟨q, x, e1, e2, e3, e4⟩ := h.back k y hy
      exact ⟨q, x, e1, e2, get_set _ (by omega) e3, e4⟩
  · intro y hy
    rcases set_mem hy with h2 | rfl
    · exact h.rise y h2
    · exact rising_put (h.rise n hmemn)
  · intro y hy
    rcases set_mem hy with h2 | rfl
    · exact h.mode y h2
    · exact h.mode n hmemn

/-- Nothing is lone: nothing goes. -/
theorem steps_still {A B : List Nr} (h : Steps A B) (hd : Done A) : B = A := by
  cases h with
  | refl _ => rfl
  | step j hj _ => exact absurd hj (hd j)
/-- One alone is lone, and names none: it goes. -/
theorem freed_one {A B : List Nr} {i : Nat} {n : Nr} (hn : A[i]? = some n) (h1 : 1 ≤ i) (he : n.ents = []) (hl : Lone A i) (ho : ∀ j, Lone A j → j = i) (h : FreedR A i B) : B = A.set i Nr.zero := by
  refine steps_one h.1 (fun j hj => (h.2 j hj).2 (ho j (h.2 j hj).1)) (.step i hl (.refl _)) (fun j hj => ?_)
  obtain ⟨e1, e2 | e2⟩ := hj.back h1 hn
  · exact e1 (ho j e2)
  · rw [he] at e2; cases e2
end
end Go.Proofs.Ytgdjoojghkdcbaa

/- The disks that the law builds, node by node: plain. Conditions: so many nodes, each short. -/
namespace Go.Proofs.Ytgdjoojghkdcbaa
open Go.RowKit Go.PlainAid

abbrev nw (kind m : Int) (s : ByteArray) : Nr := ⟨kind, m, 1, s, []⟩
abbrev nu (kind m : Int) (s : ByteArray) : Nr := ⟨kind, m, 0, s, []⟩
section
variable {R : List Nr}
theorem links_push (h : 1 ≤ R.length) (kind m : Int) (s : ByteArray) (id : Int) : linksR (R ++ [nw kind m s]) id = linksR R id := by
  unfold linksR; rw [drop_app1 h, lk_app]; simp [lk, cE]
theorem links_new (h : InvR R) (h2 : 2 ≤ R.length) : linksR R R.length = 0 := by
  unfold linksR
  rw [if_neg (by omega), lk_none (fun n hn => cE_none (fun e he => by have := h.rng n (List.mem_of_mem_drop hn) e he; omega))]
  rfl
theorem push_get (n : Nr) : (R ++ [n])[R.length]? = some n := by
  rw [List.getElem?_append_right (Nat.le_refl _), Nat.sub_self]; rfl
theorem push_old {n m : Nr} {i : Nat} (h : R[i]? = some m) : (R ++ [n])[i]? = some m := by
  rw [List.getElem?_append_left (List.getElem?_eq_some_iff.1 h).1]; exact h
theorem push_back {n m : Nr} {i : Nat} (h : (R ++ [n])[i]? = some m) : R[i]? = some m ∨ (i = R.length ∧ m = n) := by
  by_cases e : i < R.length
  · rw [List.getElem?_append_left e] at h; exact .inl h
  · have hlt := (List.getElem?_eq_some_iff.1 h).1
    simp at hlt
    obtain rfl : i = R.length := by omega
    rw [push_get] at h
    cases h
    exact .inr ⟨rfl, rfl⟩
theorem push_mem {n m : Nr} (h : m ∈ R ++ [n]) : m ∈ R ∨ m = n := by simpa using h
end

/-- The disk behind k nodes; ds are its directories that were entered. -/
structure Hd (k : Nat) (S : St) (R : List Nr) (ds : List Nat) : Prop where
  sim : Sim S R
  room : S.room = 1048576
  size : R.length ≤ k + 2
  used : usedR R ≤ k * 5400
  few : ∀ n ∈ R, n.ents.length ≤ k
  data : ∀ n ∈ R, n.data.size ≤ 5000
  holds : ∀ n ∈ R, n.holds = 0
  named : ∀ (i : Nat) (n : Nr), 1 ≤ i → R[i]? = some n → n.kind ≠ 0 → linksR R i = 1
  dirs : ∀ d ∈ ds, 1 ≤ d ∧ ∃ n, R[d]? = some n ∧ n.kind = 2
  dlen : ds.length ≤ k + 1
  dpos : 1 ≤ ds.length
  down : ∀ (i : Nat) (n : Nr), R[i]? = some n → ∀ e ∈ n.ents, (i : Int) < e.2
  names : ∀ n ∈ R, ∀ e ∈ n.ents, nameB e.1 = true
  live : ∀ n ∈ R, ∀ e ∈ n.ents, hasR R e.2 = true
  only : ∀ n ∈ R, n.kind ≠ 2 → n.ents = []

abbrev rootR : List Nr := [Nr.zero, ⟨2, 493, 0, ⟨#[]⟩, []⟩]
theorem nrs_root : nrs rootZ = rootR := rfl
theorem root_mem {n : Nr} (h : n ∈ rootR) : n = Nr.zero ∨ n = ⟨2, 493, 0, ⟨#[]⟩, []⟩ := by simpa [rootR] using h
theorem hd_new : Hd 0 (St.new 1048576) rootR [1] := by
  have h1 : ∀ id, linksR rootR id = if id = 1 then 1 else 0 := fun id => by unfold linksR; simp [lk, cE, rootR]
  have hall : ∀ n ∈ rootR, n.ents = [] ∧ n.holds = 0 ∧ n.data.size = 0 ∧ 0 ≤ n.mode ∧ n.mode ≤ 4095 := by
    intro n hn
    rcases root_mem hn with rfl | rfl
    · exact ⟨rfl, rfl, rfl, by decide, by decide⟩
    · exact ⟨rfl, rfl, rfl, by decide, by decide⟩
  have hat : ∀ (i : Nat) (n : Nr), 1 ≤ i → rootR[i]? = some n → i = 1 ∧ n = ⟨2, 493, 0, ⟨#[]⟩, []⟩ := by
    intro i n hi hn
    match i, hi with
    | 1, _ => simp [rootR] at hn; exact ⟨rfl, hn.symm⟩
    | i + 2, _ => simp [rootR] at hn
  refine ⟨⟨⟨rfl, ?_, ?_, by decide, ?_⟩, rfl, rfl, rfl, ⟨_, rfl, rfl⟩, ?_, ?_, ?_, ?_⟩, rfl, by decide, by decide, ?_, ?_, ?_, ?_, ?_, by decide, by decide, ?_, ?_, ?_, ?_⟩
  · intro n hn hk
    rcases root_mem hn with rfl | rfl
    · rfl
    · cases hk
  · intro n hn e he; rw [(hall n hn).1] at he; cases he
  · intro n hn; rw [(hall n hn).1]; exact Nat.zero_le _
  · intro i n hi hn _
    obtain ⟨rfl, rfl⟩ := hat i n hi hn
    exact ⟨1, rfl, fun _ _ => rfl⟩
  · intro k x hx
    change (if k = 1 then _ else _) = _ at hx
    by_cases e : k = 1
    · exact ⟨1, _, e, by decide, rfl, by decide⟩
    · rw [if_neg e] at hx; cases hx
  · intro n hn; rw [(hall n hn).1]; exact List.Pairwise.nil
  · intro n hn; exact (hall n hn).2.2.2
  · intro n hn; rw [(hall n hn).1]; exact Nat.zero_le _
  · intro n hn; rw [(hall n hn).2.2.1]; exact Nat.zero_le _
  · intro n hn; exact (hall n hn).2.1
  · intro i n hi hn _
    obtain ⟨rfl, rfl⟩ := hat i n hi hn
    exact h1 1
  · intro d hd; simp at hd; subst hd; exact ⟨by decide, _, rfl, rfl⟩
  · intro i n hn e he; rw [(hall n (List.mem_of_getElem? hn)).1] at he; cases he
  · intro n hn e he; rw [(hall n hn).1] at he; cases he
  · intro n hn e he; rw [(hall n hn).1] at he; cases he
  · intro n hn _; exact (hall n hn).1

section
variable {k : Nat} {S : St} {R : List Nr} {ds : List Nat}
theorem Hd.next (h : Hd k S R ds) : Hd (k + 1) S R ds :=
  ⟨h.sim, h.room, by have := h.size; omega, by have := h.used; omega, fun n hn => by have := h.few n hn; omega, h.data, h.holds, h.named, h.dirs, by have := h.dlen; omega, h.dpos, h.down, h.names, h.live, h.only⟩

theorem Hd.fail (h : Hd k S R ds) (hk : k ≤ 100) (kind m : Int) (s : ByteArray) (hki : kind ≠ 0) (hm : 0 ≤ m ∧ m ≤ 4095) {R' : List Nr}
    (hf : FreedR ((R ++ [nw kind m s]).set R.length (nu kind m s)) R.length R') : Hd (k + 1) ((S.make kind m s).less R.length ⟨kind, m, 0, 1, s, [], 0⟩ S.cnt) R' ds := by
  have h2 := h.sim.two
  have hsz := h.size
  have M := h.sim.make kind m s hki hm (by omega)
  have hj := push_get (R := R) (nw kind m s)
  have hl0 : linksR (R ++ [nw kind m s]) R.length = 0 := by rw [links_push (by omega), links_new h.sim.inv h2]
  have hA := fun id => (links_turn (R := R ++ [nw kind m s]) (i := R.length) (m := (nu kind m s)) (by omega) hj (fun _ => rfl) id).1
  have hAj : ((R ++ [nw kind m s]).set R.length (nu kind m s))[R.length]? = some (nu kind m s) := set_self hj _
  obtain rfl : R' = (R ++ [nw kind m s]).set R.length Nr.zero := by
    rw [freed_one hAj (by omega) rfl ⟨_, hAj, by omega, by simpa using hki, by rw [hA, hl0], by show ¬ (0 : Int) < 0; decide⟩ ?_ hf, List.set_set]
    intro t ht
    obtain ⟨n, hn, t1, tk, tl, _⟩ := ht
    rcases set_get hn with ⟨e, _⟩ | ⟨e1, e2⟩
    · exact e
    · rcases push_back e2 with e3 | ⟨e3, _⟩
      · rw [hA, links_push (by omega), h.named t n t1 e3 (by simpa using tk)] at tl
        cases tl
      · exact absurd e3 e1
  have hT := fun id => (links_turn (R := R ++ [nw kind m s]) (i := R.length) (m := Nr.zero) (by omega) hj (fun _ => rfl) id).1
  have hget : (S.make kind m s).get (R.length : Int) = some ⟨kind, m, 0, 1, s, [], 0⟩ := by
    show (if _ then _ else _) = _
    rw [if_pos h.sim.len.symm]
  have L := M.less (i := R.length) (by omega) hj hki rfl hl0 hget (c := S.cnt) rfl
  have hmem : ∀ n ∈ (R ++ [nw kind m s]).set R.length Nr.zero, n ∈ R ∨ n = Nr.zero := by
    intro n hn
    obtain ⟨t, ht⟩ := List.getElem?_of_mem hn
    rcases set_get ht with ⟨_, e⟩ | ⟨e1, e2⟩
    · exact .inr e
    · rcases push_back e2 with e3 | ⟨e3, _⟩
      · exact .inl (List.mem_of_getElem? e3)
      · exact absurd e3 e1
  have hback : ∀ (i : Nat) (n : Nr), ((R ++ [nw kind m s]).set R.length Nr.zero)[i]? = some n → R[i]? = some n ∨ n = Nr.zero := by
    intro i n hn
    rcases set_get hn with ⟨_, e⟩ | ⟨e1, e2⟩
    · exact .inr e
    · rcases push_back e2 with e3 | ⟨e3, _⟩
      · exact .inl e3
      · exact absurd e3 e1
  have hold : ∀ (i : Nat) (n : Nr), R[i]? = some n → ((R ++ [nw kind m s]).set R.length Nr.zero)[i]? = some n := fun i n hn => get_set _ (by have := (List.getElem?_eq_some_iff.1 hn).1; omega) (push_old hn)
  refine ⟨L, h.room, ?_, ?_, ?_, ?_, ?_, ?_, ?_, ?_, h.dpos, ?_, ?_, ?_, ?_⟩
  · simp; omega
  · have h3 := L.used
    have h4 := h.sim.used
    have h5 := h.used
    rw [← h3]
    show S.used + s.size - s.size ≤ _
    omega
  · intro n hn
    rcases hmem n hn with e | rfl
    · have := h.few n e; omega
    · exact Nat.zero_le _
  · intro n hn
    rcases hmem n hn with e | rfl
    · exact h.data n e
    · exact Nat.zero_le _
  · intro n hn
    rcases hmem n hn with e | rfl
    · exact h.holds n e
    · rfl
  · intro i n hi hn hkn
    rcases hback i n hn with e | rfl
    · rw [hT, links_push (by omega)]; exact h.named i n hi e hkn
    · exact absurd rfl hkn
  · intro d hd
    obtain ⟨d1, n, dn, dk⟩ := h.dirs d hd
    exact ⟨d1, n, hold d n dn, dk⟩
  · have := h.dlen; omega
  · intro i n hn e he
    rcases hback i n hn with e1 | rfl
    · exact h.down i n e1 e he
    · cases he
  · intro n hn e he
    rcases hmem n hn with e1 | rfl
    · exact h.names n e1 e he
    · cases he
  · intro n hn e he
    rcases hmem n hn with e1 | rfl
    · have := h.live n e1 e he
      obtain ⟨i, x, ei, i1, _, ix, ik⟩ := hasR_get this
      rw [ei, hasR_at (hold i x ix) i1]
      exact ik
    · cases he
  · intro n hn hkn
    rcases hmem n hn with e1 | rfl
    · exact h.only n e1 hkn
    · rfl

theorem Hd.ok (h : Hd k S R ds) (hk : k ≤ 100) (kind m : Int) (s t : ByteArray) (hki : kind ≠ 0) (hm : 0 ≤ m ∧ m ≤ 4095) (hs : s.size ≤ 5000) {i : Nat} {n : Nr} (hi1 : 1 ≤ i) (hi : R[i]? = some n) (hk2 : n.kind = 2)
    (he : entE (S.make kind m s) i t R.length = 0) {x : Nd} (hx : (entS (S.make kind m s) i t R.length).get R.length = some x) {R' : List Nr}
    (hf : FreedR (((R ++ [nw kind m s]).set i { n with ents := putL t R.length n.ents }).set R.length (nu kind m s)) R.length R') :
    Hd (k + 1) ((entS (S.make kind m s) i t R.length).put R.length { x with holds := 0 }) R' (if kind = 2 then ds ++ [R.length] else ds) := by
  have h2 := h.sim.two
  have hsz := h.size
  have hil := (List.getElem?_eq_some_iff.1 hi).1
  have M := h.sim.make kind m s hki hm (by omega)
  have hj := push_get (R := R) (nw kind m s)
  have hi' : (R ++ [nw kind m s])[i]? = some n := push_old hi
  have hfew := h.few n (List.mem_of_getElem? hi)
  have E := M.enter hi1 hi' hk2 (by omega) hj hki t (by omega) (by omega) he
  have h00 := he
  rw [M.entEq hi1 hi' hk2 (by omega) hj hki t] at h00
  obtain ⟨z1, _, z3, z4⟩ := enRE_zero h00
  have hj2 : ((R ++ [nw kind m s]).set i { n with ents := putL t R.length n.ents })[R.length]? = some (nw kind m s) := get_set _ (by omega) hj
  have H := E.holds (i := R.length) (by omega) hj2 hki hx 0
  generalize hR3 : ((R ++ [nw kind m s]).set i { n with ents := putL t R.length n.ents }).set R.length (nu kind m s) = R3 at hf H
  have hL3 : ∀ id, linksR R3 id = linksR R id + (if (R.length : Int) = id then 1 else 0 : Nat) := fun id => by
    rw [← hR3, (links_turn (m := nu kind m s) (by omega) hj2 (fun _ => rfl) id).1]
    have h1 := links_set hi1 hi' { n with ents := putL t R.length n.ents } id
    have h3 := cE_put (k := (R.length : Int)) z3 id
    have h4 := links_push (R := R) (by omega) kind m s id
    dsimp only at h1
    rw [h3] at h1
    split at h1 <;> simp_all <;> omega
  have hback : ∀ (q : Nat) (y : Nr), R3[q]? = some y → (q = R.length ∧ y = (nu kind m s)) ∨ (q = i ∧ y = { n with ents := putL t R.length n.ents }) ∨ (q ≠ R.length ∧ q ≠ i ∧ R[q]? = some y) := by
    intro q y hy
    rw [← hR3] at hy
    rcases set_get hy with e | ⟨e1, e2⟩
    · exact .inl e
    · rcases set_get e2 with e3 | ⟨e3, e4⟩
      · exact .inr (.inl e3)
      · rcases push_back e4 with e5 | ⟨e5, _⟩
        · exact .inr (.inr ⟨e1, e3, e5⟩)
        · exact absurd e5 e1
  have hmem : ∀ y ∈ R3, y = (nu kind m s) ∨ y = { n with ents := putL t R.length n.ents } ∨ y ∈ R := by
    intro y hy
    obtain ⟨q, hq⟩ := List.getElem?_of_mem hy
    rcases hback q y hq with e | e | e
    · exact .inl e.2
    · exact .inr (.inl e.2)
    · exact .inr (.inr (List.mem_of_getElem? e.2.2))
  have hnr : n ∈ R := List.mem_of_getElem? hi
  have g3 : R3[R.length]? = some (nu kind m s) := by rw [← hR3]; exact set_self hj2 _
  have gi : R3[i]? = some { n with ents := putL t R.length n.ents } := by rw [← hR3]; exact get_set _ (by omega) (set_self hi' _)
  have go : ∀ (q : Nat) (y : Nr), R[q]? = some y → ∃ z, R3[q]? = some z ∧ z.kind = y.kind := by
    intro q y hq
    by_cases e : q = i
    · subst e; rw [hi] at hq; cases hq; exact ⟨_, gi, rfl⟩
    · refine ⟨y, ?_, rfl⟩
      rw [← hR3]
      exact get_set _ (by have := (List.getElem?_eq_some_iff.1 hq).1; omega) (get_set _ e (push_old hq))
  have hlen3 : R3.length = R.length + 1 := by rw [← hR3]; simp
  have hnamed : ∀ (q : Nat) (y : Nr), 1 ≤ q → R3[q]? = some y → y.kind ≠ 0 → linksR R3 q = 1 := by
    intro q y hq hy hyk
    rw [hL3]
    rcases hback q y hy with ⟨rfl, _⟩ | ⟨rfl, _⟩ | ⟨e1, e2, e3⟩
    · rw [if_pos rfl, links_new h.sim.inv h2]; rfl
    · rw [if_neg (by omega), h.named q n hq hi (by omega)]; rfl
    · rw [if_neg (by omega), h.named q y hq e3 hyk]; rfl
  obtain rfl : R' = R3 := steps_still hf.1 fun q hq => by
    obtain ⟨y, hy, q1, qk, ql, _⟩ := hq
    rw [hnamed q y q1 hy (by simpa using qk)] at ql
    cases ql
  have hkl : ∀ q : Int, hasR R q = true → hasR R' q = true := by
    intro q hq
    obtain ⟨j, y, ej, j1, _, jy, jk⟩ := hasR_get hq
    obtain ⟨z, hz, hzk⟩ := go j y jy
    rw [ej, hasR_at hz j1, hzk]
    exact jk
  refine ⟨H, ?_, ?_, ?_, ?_, ?_, ?_, hnamed, ?_, ?_, ?_, ?_, ?_, ?_, ?_⟩
  · show (entS (S.make kind m s) i t R.length).room = _
    unfold entS
    rw [if_pos he]
    split
    · exact h.room
    · exact h.room
  · omega
  · have h3 := H.used
    have h5 := h.used
    have h4 := h.sim.used
    have h6 := putE_zero z3
    have h7 := nameB_le h6.1
    obtain ⟨ux, hux, _⟩ := M.node i n hi1 hi' (by omega)
    obtain ⟨uj, huj, _⟩ := M.node R.length (nw kind m s) (by omega) hj hki
    rw [← h3]
    show (entS (S.make kind m s) i t R.length).used ≤ _
    unfold entS
    rw [if_pos he, hux, huj]
    show S.used + s.size + t.size ≤ _
    omega
  · intro y hy
    rcases hmem y hy with rfl | rfl | e
    · exact Nat.zero_le _
    · have := put_len t (R.length : Int) n.ents
      show (putL t R.length n.ents).length ≤ _
      omega
    · have := h.few y e; omega
  · intro y hy
    rcases hmem y hy with rfl | rfl | e
    · exact hs
    · exact h.data n hnr
    · exact h.data y e
  · intro y hy
    rcases hmem y hy with rfl | rfl | e
    · rfl
    · exact h.holds n hnr
    · exact h.holds y e
  · intro d hd
    have hd' : d ∈ ds ∨ (kind = 2 ∧ d = R.length) := by
      by_cases e : kind = 2
      · rw [if_pos e] at hd; rcases List.mem_append.1 hd with h1 | h1
        · exact .inl h1
        · exact .inr ⟨e, by simpa using h1⟩
      · rw [if_neg e] at hd; exact .inl hd
    rcases hd' with e | ⟨e, rfl⟩
    · obtain ⟨d1, y, dy, dk⟩ := h.dirs d e
      obtain ⟨z, hz, hzk⟩ := go d y dy
      exact ⟨d1, z, hz, hzk.trans dk⟩
    · exact ⟨by omega, _, g3, e⟩
  · have := h.dlen
    split
    · simp; omega
    · omega
  · have := h.dpos
    split
    · simp
    · exact this
  · intro q y hy e hy2
    rcases hback q y hy with ⟨rfl, rfl⟩ | ⟨rfl, rfl⟩ | ⟨e1, e2, e3⟩
    · cases hy2
    · rcases mem_put hy2 with e1 | rfl
      · exact h.down q n hi e e1
      · show (q : Int) < R.length; omega
    · exact h.down q y e3 e hy2
  · intro y hy e he2
    rcases hmem y hy with rfl | rfl | e1
    · cases he2
    · rcases mem_put he2 with e1 | rfl
      · exact h.names n hnr e e1
      · exact (putE_zero z3).1
    · exact h.names y e1 e he2
  · intro y hy e he2
    rcases hmem y hy with rfl | rfl | e1
    · cases he2
    · rcases mem_put he2 with e1 | rfl
      · exact hkl _ (h.live n hnr e e1)
      · rw [hasR_at g3 (by omega)]; simpa using hki
    · exact hkl _ (h.live y e1 e he2)
  · intro y hy hyk
    rcases hmem y hy with rfl | rfl | e1
    · rfl
    · exact absurd hk2 hyk
    · exact h.only y e1 hyk
end
end Go.Proofs.Ytgdjoojghkdcbaa

/- The law's built, walked. Conditions: few nodes, each short. -/
namespace Go.Proofs.Ytgdjoojghkdcbaa
open Go.RowKit Go.PlainAid
set_option linter.unusedSimpArgs false

/-- The directory that a node goes into. -/
def atB (ds : List Nat) (a : Int) : Nat := ds.getD ((a % 18446744073709551616).toNat % ds.length) 1
/-- What the law builds, node by node. -/
inductive Blt : List Opn → St → List Nr → List Nat → Prop
  | nil : Blt [] (St.new 1048576) rootR [1]
  | bad {l : List Opn} {S : St} {R : List Nr} {ds : List Nat} (o : Opn) (h : Blt l S R ds) {k : Nat} (hk : k ≤ 99) (hh : Hd k S R ds) (hE : makeE S o.k o.m o.t ≠ 0) : Blt (l ++ [o]) S R ds
  | fail {l : List Opn} {S : St} {R R' : List Nr} {ds : List Nat} (o : Opn) (h : Blt l S R ds) {k : Nat} (hk : k ≤ 99) (hh : Hd k S R ds) (h0 : makeE S o.k o.m o.t = 0) (hE : entE (S.make o.k o.m o.t) (atB ds o.at') o.s R.length ≠ 0) (hR : R'.length = R.length + 1) : Blt (l ++ [o]) ((S.make o.k o.m o.t).less R.length ⟨o.k, o.m, 0, 1, o.t, [], 0⟩ S.cnt) R' ds
  | ok {l : List Opn} {S : St} {R R' : List Nr} {ds : List Nat} (o : Opn) (x : Nd) (h : Blt l S R ds) {k : Nat} (hk : k ≤ 99) (hh : Hd k S R ds) (h0 : makeE S o.k o.m o.t = 0) (hE : entE (S.make o.k o.m o.t) (atB ds o.at') o.s R.length = 0)
      (hx : (entS (S.make o.k o.m o.t) (atB ds o.at') o.s R.length).get R.length = some x) (hR : R'.length = R.length + 1) : Blt (l ++ [o]) ((entS (S.make o.k o.m o.t) (atB ds o.at') o.s R.length).put R.length { x with holds := 0 }) R' (if o.k = 2 then ds ++ [R.length] else ds)

/-- What lies beside the program's disk: the result's place, the box of the document's disk, that disk, the directories. -/
structure Side (L : Lay) (w : World) (b5 : Nat) (v dv : Value) (Z : List Zn) (ds : List Nat) (wr : World) : Prop where
  bel : Below w.heap.size w wr
  low : ∀ b, b < w.heap.size → L.ow b = -1
  r3 : wr.heap[w.heap.size]? = some (.cells #[.slice none 0 0, .int .i64 0] 28 (0, 0))
  o3 : L.ow w.heap.size = -1
  hb : wr.heap[b5]? = some (.cells #[v, .int .i64 1048576] 28 (0, 0))
  o5 : L.ow b5 = -1
  gt : w.heap.size < b5
  x : XAt (fun b => L.ow b = -1) v Z wr
  dir : wr.ownsRow w.heap.size 3 1 dv ds.length (ds.map fun (d : Nat) => .int .i64 d)
  od : ∀ b, dv.ownBlock = some b → L.ow b = -1
theorem row_keep {w w' : World} {base : Nat} {e : TypeId} {z : Nat} {v : Value} {n : Nat} {xs : List Value} (h : w.ownsRow base e z v n xs) (hb : ∀ b, b < w.heap.size → v.ownBlock = some b → w'.heap[b]? = w.heap[b]?) : w'.ownsRow base e z v n xs := by
  refine ⟨h.1, ?_⟩
  rcases h.2 with h2 | ⟨g, cap, cur, rfl, h2, h3, h4⟩
  · exact .inl h2
  · exact .inr ⟨g, cap, cur, rfl, h2, (hb g (lt_of_block h3) rfl).trans h3, h4⟩
section
variable {L L' : Lay} {w wr wr' : World} {b5 : Nat} {v dv : Value} {Z : List Zn} {ds : List Nat}
theorem Side.keep (h : Side L w b5 v dv Z ds wr) (bel : Below w.heap.size w wr') (hb : ∀ b, b < wr.heap.size → L.ow b = -1 → wr'.heap[b]? = wr.heap[b]? ∧ L'.ow b = -1) : Side L' w b5 v dv Z ds wr' := by
  have h3 := hb _ (lt_of_block h.r3) h.o3
  have h5 := hb _ (lt_of_block h.hb) h.o5
  exact ⟨bel, fun b hl => (hb b (Nat.lt_of_lt_of_le hl h.bel.size) (h.low b hl)).2, h3.1.trans h.r3, h3.2, h5.1.trans h.hb, h5.2, h.gt, h.x.keep hb,
    row_keep h.dir fun b hl e => (hb b hl (h.od b e)).1, fun b e => (hb b (World.ownsRow.lt h.dir b e).2 (h.od b e)).2⟩
theorem Side.fr (h : Side L w b5 v dv Z ds wr) (f : Fr L wr wr') (e : Ext L L' wr) : Side L' w b5 v dv Z ds wr' :=
  h.keep (f.low h.bel h.bel.size h.low) fun b hl ho => ⟨f.block b hl ho, (e b hl).trans ho⟩
theorem Side.below (h : Side L w b5 v dv Z ds wr) (hb : Below wr.heap.size wr wr') : Side L w b5 v dv Z ds wr' :=
  h.keep (h.bel.trans (hb.mono h.bel.size)) fun b hl ho => ⟨hb.block b hl, ho⟩
theorem Side.c0 (h : Side L w b5 v dv Z ds wr) : wr.cell? ⟨b5, 0, none⟩ = some v := cells_at h.hb rfl
theorem Side.c1 (h : Side L w b5 v dv Z ds wr) : wr.cell? ⟨b5, 1, none⟩ = some (.int .i64 1048576) := cells_at h.hb rfl
theorem Side.f5 (h : Side L w b5 v dv Z ds wr) (i : Nat) : wr.frozen? ⟨b5, i, none⟩ = false := free_at h.hb
theorem Side.r0 (h : Side L w b5 v dv Z ds wr) : wr.cell? ⟨w.heap.size, 0, none⟩ = some (.slice none 0 0) := cells_at h.r3 rfl
theorem Side.r1 (h : Side L w b5 v dv Z ds wr) : wr.cell? ⟨w.heap.size, 1, none⟩ = some (.int .i64 0) := cells_at h.r3 rfl
theorem Side.fr3 (h : Side L w b5 v dv Z ds wr) (i : Nat) : wr.frozen? ⟨w.heap.size, i, none⟩ = false := free_at h.r3

abbrev lay2 (w : World) (b : Nat) (u0 u1 : Value) : World := (w.setCell ⟨b, 0, none⟩ u0).setCell ⟨b, 1, none⟩ u1
theorem lay2_size (w : World) (b : Nat) (u0 u1 : Value) : (lay2 w b u0 u1).heap.size = w.heap.size := by simp
theorem lay2_other {w : World} {b c : Nat} (h : c ≠ b) (u0 u1 : Value) : (lay2 w b u0 u1).heap[c]? = w.heap[c]? := by
  rw [Below.heap_setCell _ _ _ _ h, Below.heap_setCell _ _ _ _ h]
theorem lay2_same {w : World} {b : Nat} {t : TypeId} {a0 a1 : Value} (h : w.heap[b]? = some (.cells #[a0, a1] t (0, 0))) (u0 u1 : Value) : (lay2 w b u0 u1).heap[b]? = some (.cells #[u0, u1] t (0, 0)) :=
  blk_setCell (i := 1) (blk_setCell (i := 0) h u0) u1
theorem lay2_below {w wr : World} {b : Nat} (h : Below w.heap.size w wr) (hb : w.heap.size ≤ b) (u0 u1 : Value) : Below w.heap.size w (lay2 wr b u0 u1) :=
  (h.setCell (p := ⟨b, 0, none⟩) hb u0).setCell (p := ⟨b, 1, none⟩) hb u1
theorem DiskAt.stand {D : Nat} {S : St} (h : DiskAt L D S wr) (size : wr.heap.size ≤ wr'.heap.size) (hb : ∀ b, b < wr.heap.size → L.ow b ≠ -1 → wr'.heap[b]? = wr.heap[b]?) : DiskAt L D S wr' :=
  ⟨(hb D (lt_of_block h.blk) (by rw [h.oD]; decide)).trans h.blk, h.map.block (hb _ h.map.lt (by rw [h.oM]; decide)), h.gone,
    fun k x e => by obtain ⟨p, dv, ev, h1, h2⟩ := h.there k x e; exact ⟨p, dv, ev, h1, h2.keep fun b hl ho => ⟨hb b hl (by rw [ho]; have := h.pos k x e; omega), ho⟩⟩, h.pos, h.oD, h.oM, fun b hl => h.fresh b (by omega)⟩
theorem DiskAt.lay2 {D : Nat} {S : St} (h : DiskAt L D S wr) {b : Nat} (ho : L.ow b = -1) (u0 u1 : Value) : DiskAt L D S (lay2 wr b u0 u1) :=
  h.stand (by rw [lay2_size]; exact Nat.le_refl _) fun c _ hc => lay2_other (by rintro rfl; exact hc ho) _ _
/-- A box of the type of disks is written. -/
theorem XAt.lay2 {P : Nat → Prop} (h : XAt P v Z wr) {b : Nat} {a0 a1 : Value} (hb : wr.heap[b]? = some (.cells #[a0, a1] 28 (0, 0))) (u0 u1 : Value) : XAt P v Z (lay2 wr b u0 u1) :=
  (h.put31 hb (by decide) (by decide) 0 u0).put31 (blk_setCell (i := 0) hb u0) (by decide) (by decide) 1 u1
theorem row_lay2 {base : Nat} {z : Nat} {n : Nat} {xs : List Value} (h : wr.ownsRow base 3 z v n xs) {b : Nat} {a0 a1 : Value} (hb : wr.heap[b]? = some (.cells #[a0, a1] 28 (0, 0))) (u0 u1 : Value) : (lay2 wr b u0 u1).ownsRow base 3 z v n xs := by
  refine row_keep h fun c hl e => lay2_other ?_ _ _
  rintro rfl
  rcases h.2 with ⟨rfl, _⟩ | ⟨g, cap, cur, rfl, _, h3, _⟩
  · cases e
  · simp [Value.ownBlock] at e
    subst e
    rw [hb] at h3
    cases h3
/-- The document's disk is another one. -/
theorem Side.box (h : Side L w b5 v dv Z ds wr) {v' : Value} {Z' : List Zn} (h' : XAt (fun b => L.ow b = -1) v' Z' wr) : Side L w b5 v' dv Z' ds (lay2 wr b5 v' (.int .i64 1048576)) :=
  ⟨lay2_below h.bel (by have := h.gt; omega) _ _, h.low, (lay2_other (by have := h.gt; omega) _ _).trans h.r3, h.o3, lay2_same h.hb _ _, h.o5, h.gt, h'.lay2 h.hb _ _, row_lay2 h.dir h.hb _ _, h.od⟩
/-- Another box is written. -/
theorem Side.other (h : Side L w b5 v dv Z ds wr) {b : Nat} (hne : b ≠ b5) (hgt : w.heap.size < b) {a0 a1 : Value} (hb : wr.heap[b]? = some (.cells #[a0, a1] 28 (0, 0))) (u0 u1 : Value) : Side L w b5 v dv Z ds (lay2 wr b u0 u1) :=
  ⟨lay2_below h.bel (by omega) _ _, h.low, (lay2_other (by omega) _ _).trans h.r3, h.o3, (lay2_other (fun e => hne e.symm) _ _).trans h.hb, h.o5, h.gt, h.x.lay2 hb _ _, row_lay2 h.dir hb _ _, h.od⟩
end
/-- What built returns. -/
def Built (os : List Opn) (w : World) (e : Ending) (w' : World) : Prop := ∃ D L S R ds v Z, e = .returned (.tuple #[.pointer (some ⟨D, 0, none⟩), xv v 1048576, .bool true]) ∧ DiskAt L D S w' ∧ Blt os S R ds ∧ Hd os.length S R ds ∧ nrs Z = R ∧ XAt (fun b => L.ow b = -1) v Z w' ∧ Below w.heap.size w w' ∧ ∀ b, b < w.heap.size → L.ow b = -1
def RelBu (os : List Opn) (w : World) (b5 D : Nat) (dv i : Value) (wr : World) : Prop := ∃ (k : Nat) (S : St) (R : List Nr) (ds : List Nat) (v : Value) (Z : List Zn) (L : Lay), k ≤ os.length ∧ i = .int .i64 k ∧ Blt (os.take k) S R ds ∧ Hd k S R ds ∧ nrs Z = R ∧ DiskAt L D S wr ∧ Side L w b5 v dv Z ds wr
end Go.Proofs.Ytgdjoojghkdcbaa

/- The document's Make and Enter, whole; what a built disk keeps. Conditions: few nodes, each short. -/
namespace Go.Proofs.Ytgdjoojghkdcbaa
open Go.RowKit Go.PlainAid
set_option linter.unusedSimpArgs false

theorem rmake_bad (P : Nat → Prop) (v : Value) (room : Int) (Z : List Zn) (w : World) (h : XAt P v Z w) (hz : 0 < Z.length) (hinv : InvR (nrs Z)) (kind m : Int) (s : ByteArray) (hu0 : usedR (nrs Z) ≤ 1000000000000) (hE : makeRE (nrs Z) room kind m s ≠ 0) :
    Calls Try.prog 20 #[xv v room, .int .i64 kind, .int .i64 m, .string s] w (GivesM P room Z 0 (makeRE (nrs Z) room kind m s) w) := by
  unfold makeRE at hE ⊢
  by_cases e1 : kind < 1 ∨ 3 < kind ∨ (kind = 2 ∧ s.size ≠ 0)
  · rw [if_pos e1]
    refine rmake34_43 P v room Z w h hz kind m s ?_
    rcases e1 with e | e | ⟨e, e'⟩
    · exact .inl e
    · exact .inr (.inl ⟨by omega, e⟩)
    · exact .inr (.inr ⟨e, toList_ne e'⟩)
  rw [if_neg e1] at hE ⊢
  have k1 : ¬ kind < 1 := fun e => e1 (.inl e)
  have k2 : ¬ 3 < kind := fun e => e1 (.inr (.inl e))
  have q3 : (kind == 2) = false ∨ (kind = 2 ∧ s.toList.isEmpty = true) := by
    by_cases e : kind = 2
    · exact .inr ⟨e, toList_em (Decidable.byContradiction fun e' => e1 (.inr (.inr ⟨e, e'⟩)))⟩
    · exact .inl (by simpa using e)
  by_cases e2 : rightB m = false
  · rw [if_pos e2]
    refine rmake34_10 P v room Z w h hz kind m s k1 k2 q3 ?_
    unfold rightB at e2
    have := of_decide_eq_false e2
    omega
  rw [if_neg e2] at hE ⊢
  have m1 : 0 ≤ m ∧ m ≤ 4095 := by
    unfold rightB at e2
    simpa using e2
  by_cases e3 : 4194304 < s.size
  · rw [if_pos e3]
    exact rmake34_18 P v room Z w h hz kind m s k1 k2 q3 (by omega) (by omega) e3
  rw [if_neg e3] at hE ⊢
  have hc := count_small hinv
  rw [if_neg (by omega)] at hE ⊢
  by_cases e4 : room < usedR (nrs Z) + s.size
  · rw [if_pos e4]
    exact rmake34_20 P v room Z w h hz hinv kind m s k1 k2 q3 (by omega) (by omega) (by omega) (by omega) hu0 e4
  · rw [if_neg e4] at hE
    exact absurd rfl hE
theorem makeRE_zero {R : List Nr} {room kind m : Int} {s : ByteArray} (h : makeRE R room kind m s = 0) : ¬ kind < 1 ∧ ¬ 3 < kind ∧ (kind = 2 → s.size = 0) ∧ 0 ≤ m ∧ m ≤ 4095 ∧ s.size ≤ 4194304 ∧ ¬ 65536 ≤ countR R ∧ ¬ room < usedR R + s.size := by
  unfold makeRE at h
  split at h
  · cases h
  rename_i e1
  split at h
  · cases h
  rename_i e2
  split at h
  · cases h
  split at h
  · cases h
  split at h
  · cases h
  have m1 : 0 ≤ m ∧ m ≤ 4095 := by
    unfold rightB at e2
    simpa using e2
  refine ⟨fun e => e1 (.inl e), fun e => e1 (.inr (.inl e)), fun e => Decidable.byContradiction fun e' => e1 (.inr (.inr ⟨e, e'⟩)), m1.1, m1.2, by omega, by omega, by omega⟩
theorem rmake_good (P : Nat → Prop) (v : Value) (room : Int) (Z : List Zn) (w : World) (h : XAt P v Z w) (hz : 0 < Z.length) (hinv : InvR (nrs Z)) (hP : ∀ b, w.heap.size ≤ b → P b) (kind m : Int) (s : ByteArray) (hu0 : usedR (nrs Z) ≤ 1000000000000) (hE : makeRE (nrs Z) room kind m s = 0) :
    Calls Try.prog 20 #[xv v room, .int .i64 kind, .int .i64 m, .string s] w (GivesM P room (Z ++ [newZ kind m s]) Z.length 0 w) := by
  obtain ⟨z1, z2, z3, z4, z5, z6, z7, z8⟩ := makeRE_zero hE
  refine rmake34_ok P v room Z w h hz hinv hP kind m s z1 z2 ?_ (by omega) (by omega) z6 z7 hu0 z8
  by_cases e : kind = 2
  · exact .inr ⟨by simp [e], toList_em (z3 e)⟩
  · exact .inl (by simpa using e)
theorem renter_bad (P : Nat → Prop) (v : Value) (room : Int) (Z : List Zn) (w : World) (h : XAt P v Z w) (hinv : InvR (nrs Z)) (hP : ∀ b, w.heap.size ≤ b → P b) (i j : Nat) (zi zj : Zn) (hi : Z[i]? = some zi) (hj : Z[j]? = some zj) (hi1 : 1 ≤ i) (hj1 : 1 ≤ j) (hki : zi.1.kind = 2) (hkj : (zj.1.kind != 0) = true) (hrise : Rising zi.1.ents) (s : ByteArray) (hs : s.size ≤ 100000)
    (hu0 : usedR (nrs Z) ≤ 1000000000000) (hE : enRE (nrs Z) room zi.1 zj.1 j s ≠ 0) :
    Calls Try.prog 22 #[xv v room, .int .i64 i, .string s, .int .i64 j] w (GivesE P room Z (enRE (nrs Z) room zi.1 zj.1 j s) w) := by
  unfold enRE at hE ⊢
  by_cases e1 : zj.1.kind = 2 ∧ 0 < linksR (nrs Z) j
  · rw [if_pos e1]
    exact renter41_links P v room Z w h hinv i j zi zj hi hj hi1 hj1 hki hkj s 22 (.inl ⟨e1.1, e1.2, rfl⟩)
  rw [if_neg e1] at hE ⊢
  by_cases e2 : 32768 ≤ linksR (nrs Z) j
  · rw [if_pos e2]
    exact renter41_links P v room Z w h hinv i j zi zj hi hj hi1 hj1 hki hkj s 24 (.inr ⟨e1, e2, rfl⟩)
  rw [if_neg e2] at hE ⊢
  by_cases e3 : putE s zi.1.ents ≠ 0
  · rw [if_pos e3]
    exact renter41_main P v room Z w h hinv hP i j zi zj hi hj hi1 hj1 hki hkj hrise s hs e1 e2 e3
  rw [if_neg e3] at hE ⊢
  by_cases e4 : room < usedR (nrs Z) + s.size
  · rw [if_pos e4]
    exact renter41_20 P v room Z w h hinv hP i j zi zj hi hj hi1 hj1 hki hkj hrise s hs e1 e2 (Decidable.not_not.1 e3) hu0 e4
  · rw [if_neg e4] at hE
    exact absurd rfl hE
theorem renter_good (P : Nat → Prop) (v : Value) (room : Int) (Z : List Zn) (w : World) (h : XAt P v Z w) (hinv : InvR (nrs Z)) (hP : ∀ b, w.heap.size ≤ b → P b) (i j : Nat) (zi zj : Zn) (hi : Z[i]? = some zi) (hj : Z[j]? = some zj) (hi1 : 1 ≤ i) (hj1 : 1 ≤ j) (hki : zi.1.kind = 2) (hkj : (zj.1.kind != 0) = true) (hrise : Rising zi.1.ents) (s : ByteArray) (hs : s.size ≤ 100000)
    (hu0 : usedR (nrs Z) ≤ 1000000000000) (hE : enRE (nrs Z) room zi.1 zj.1 j s = 0) :
    Calls Try.prog 22 #[xv v room, .int .i64 i, .string s, .int .i64 j] w (GivesR P room (fun R => R = (nrs Z).set i { zi.1 with ents := putL s j zi.1.ents }) 0 w) := by
  obtain ⟨z1, z2, z3, z4⟩ := enRE_zero hE
  exact renter41_ok P v room Z w h hinv hP i j zi zj hi hj hi1 hj1 hki hkj hrise s hs z1 z2 z3 hu0 z4

/-- What the calls ask. -/
structure Ask (S : St) (R : List Nr) : Prop where
  u0 : 0 ≤ S.used
  u1 : S.used ≤ S.room
  rm : S.room ≤ 9223372036854775807
  l0 : 0 ≤ S.last
  l1 : S.last ≤ 1000000
  g : S.get (S.last + 1) = none
  c : S.cnt ≤ 1000000
  ur : usedR R ≤ 1000000000000
theorem Hd.ask {k : Nat} {S : St} {R : List Nr} {ds : List Nat} (h : Hd k S R ds) (hk : k ≤ 100) : Ask S R := by
  have h1 := h.used
  have h2 := h.sim.used
  have h3 := h.room
  have h4 := h.sim.len
  have h5 := h.size
  have h6 := h.sim.two
  have h7 := h.sim.cnt
  have h8 := count_small h.sim.inv
  have h9 : 0 ≤ usedR R := by unfold usedR; omega
  refine ⟨by omega, by omega, by omega, by omega, by omega, ?_, by omega, by omega⟩
  cases hx : S.get (S.last + 1) with
  | none => rfl
  | some x =>
    obtain ⟨i, n, e1, e2, e3, _⟩ := h.sim.back _ x hx
    have := (List.getElem?_eq_some_iff.1 e3).1
    omega
theorem nrs_push (Z : List Zn) (kind m : Int) (s : ByteArray) : nrs (Z ++ [newZ kind m s]) = nrs Z ++ [nw kind m s] := by simp [nrs, newZ]
theorem results_x3 {fn : Func} {p q r : Tmp} (h : fn.results = #[.tmp q, .cell p 28, .tmp r]) (tmps : Array Value) (w : World) (b : Nat) (v u : Value) (hp : tmps.getD p undef = .pointer (some ⟨b, 0, none⟩)) (hb : w.heap[b]? = some (.cells #[v, u] 28 (0, 0))) :
    (results fn tmps).run Try.prog w = .ok (.tuple #[tmps.getD q undef, .agg #[v, u], tmps.getD r undef]) w := by
  have hp' : tmps[p]?.getD undef = .pointer (some ⟨b, 0, none⟩) := by simpa using hp
  simp only [results, h]
  simp [Sem.run_bind, Result.andThen, hp', asAddr, load31 w b v u hb]
end Go.Proofs.Ytgdjoojghkdcbaa

/- One node of the law's built: the calls' contracts at that place. Conditions: few nodes, each short. -/
namespace Go.Proofs.Ytgdjoojghkdcbaa
open Go.RowKit Go.PlainAid
set_option linter.unusedSimpArgs false

theorem row_shape {w : World} {base : Nat} {e : TypeId} {z : Nat} {v : Value} {n : Nat} {xs : List Value} (h : w.ownsRow base e z v n xs) (hn : 1 ≤ n) : ∃ g c, v = .slice (some ⟨g, 0, none⟩) n c := by
  rcases h.2 with ⟨_, h2⟩ | ⟨g, cap, cur, rfl, _⟩
  · omega
  · exact ⟨g, cap, rfl⟩
theorem row_at {w : World} {base : Nat} {v : Value} {ds : List Nat} {g n c : Nat} (h : w.ownsRow base 3 1 v ds.length (ds.map fun (d : Nat) => .int .i64 d)) (hv : v = .slice (some ⟨g, 0, none⟩) n c) {q d : Nat} (hd : ds[q]? = some d) : w.cell? ⟨g, q, none⟩ = some (.int .i64 d) := by
  have := World.ownsRow.cells h (g := g) (by rw [hv]; rfl) q (.int .i64 d) (by rw [List.getElem?_map, hd]; rfl)
  rwa [add_at, Nat.zero_add] at this
theorem at_index {ds : List Nat} (h : 1 ≤ ds.length) (h2 : ds.length ≤ 1000) (a : Int) : ∃ Q d : Nat, d = atB ds a ∧ (Q : Int) < ds.length ∧ ¬ ds.length = 0 ∧ ¬ (ds.length : Int) = 0 ∧ IntKind.u64.wrap (ds.length : Int) = ds.length ∧ (IntKind.u64.wrap a).tmod (ds.length : Int) = (Q : Int) ∧ wrap64 (Q : Int) = Q ∧ ds[Q]? = some d := by
  have hlt : (a % 18446744073709551616).toNat % ds.length < ds.length := Nat.mod_lt _ (by omega)
  refine ⟨(a % 18446744073709551616).toNat % ds.length, _, rfl, by omega, by omega, by omega, ?_, ?_, ?_, ?_⟩
  · rw [IntKind.wrap_u64]; omega
  · rw [IntKind.wrap_u64, Int.tmod_eq_emod_of_nonneg (by omega), Int.natCast_emod, Int.toNat_of_nonneg (by omega)]
  · unfold wrap64
    omega
  · unfold atB
    rw [List.getD_eq_getElem?_getD, List.getElem?_eq_getElem hlt]
    rfl

structure Ctx (k : Nat) (S : St) (R : List Nr) (ds : List Nat) (Z : List Zn) (o : Opn) (d : Nat) (n : Nr) : Prop where
  hh : Hd k S R ds
  hk : k ≤ 99
  hz : nrs Z = R
  he : makeE S o.k o.m o.t = 0
  hr : makeRE R 1048576 o.k o.m o.t = 0
  hd : d = atB ds o.at'
  d1 : 1 ≤ d
  dn : R[d]? = some n
  dk : n.kind = 2
  sm : o.s.size ≤ 300 ∧ o.t.size ≤ 5000
  fit : o.Fits
theorem ctx_of {k : Nat} {S : St} {R : List Nr} {ds : List Nat} {Z : List Zn} {o : Opn} (hh : Hd k S R ds) (hk : k ≤ 99) (hz : nrs Z = R) (he : makeE S o.k o.m o.t = 0) (sm : o.s.size ≤ 300 ∧ o.t.size ≤ 5000) (fit : o.Fits) {q d : Nat} (hd : d = atB ds o.at') (hq : ds[q]? = some d) : ∃ n, Ctx k S R ds Z o d n := by
  obtain ⟨d1, n, dn, dk⟩ := hh.dirs d (List.mem_of_getElem? hq)
  exact ⟨n, hh, hk, hz, he, by rw [← hh.room, ← hh.sim.makeEq]; exact he, hd, d1, dn, dk, sm, fit⟩
section
variable {k : Nat} {S : St} {R : List Nr} {ds : List Nat} {Z : List Zn} {o : Opn} {d : Nat} {n : Nr}
theorem Ctx.len (C : Ctx k S R ds Z o d n) : R.length = Z.length := by rw [← C.hz]; simp
theorem Ctx.nums (C : Ctx k S R ds Z o d n) : 2 ≤ Z.length ∧ Z.length ≤ 102 ∧ d < Z.length ∧ o.k ≠ 0 ∧ 0 ≤ o.m ∧ o.m ≤ 4095 := by
  have h1 := C.hh.sim.two
  have h2 := C.hh.size
  have h3 := (List.getElem?_eq_some_iff.1 C.dn).1
  obtain ⟨z1, z2, z3, z4, z5, _⟩ := makeRE_zero C.hr
  have h4 := C.len
  have h5 := C.hk
  refine ⟨by omega, by omega, by omega, by omega, z4, z5⟩
theorem Ctx.made (C : Ctx k S R ds Z o d n) : Sim (S.make o.k o.m o.t) (R ++ [nw o.k o.m o.t]) := by
  obtain ⟨h1, h2, h3, h4, h5, h6⟩ := C.nums
  exact C.hh.sim.make o.k o.m o.t h4 ⟨h5, h6⟩ (by have := C.len; omega)
theorem Ctx.new (C : Ctx k S R ds Z o d n) : (R ++ [nw o.k o.m o.t])[Z.length]? = some (nw o.k o.m o.t) := by rw [← C.len]; exact push_get _
theorem Ctx.old (C : Ctx k S R ds Z o d n) : (R ++ [nw o.k o.m o.t])[d]? = some n := push_old C.dn
theorem Ctx.zero0 (C : Ctx k S R ds Z o d n) : linksR (R ++ [nw o.k o.m o.t]) Z.length = 0 := by
  have := C.hh.sim.two
  rw [links_push (by omega), ← C.len]; exact links_new C.hh.sim.inv this
theorem Ctx.got (C : Ctx k S R ds Z o d n) : (S.make o.k o.m o.t).get Z.length = some ⟨o.k, o.m, 0, 1, o.t, [], 0⟩ := by
  show (if _ then _ else _) = _
  rw [if_pos]
  have := C.hh.sim.len
  rw [this, C.len]
theorem Ctx.used (C : Ctx k S R ds Z o d n) : 0 ≤ S.used + o.t.size ∧ S.used + o.t.size ≤ 1048576 ∧ usedR (R ++ [nw o.k o.m o.t]) ≤ 1000000000000 := by
  have h0 : S.used + o.t.size = usedR (R ++ [nw o.k o.m o.t]) := C.made.used
  have h1 := (C.hh.ask (by have := C.hk; omega)).u0
  have h2 := C.hh.used
  have h3 := C.hh.sim.used
  have h4 := C.sm
  have h5 := C.hk
  omega
theorem Ctx.enE (C : Ctx k S R ds Z o d n) : entE (S.make o.k o.m o.t) d o.s Z.length = enRE (R ++ [nw o.k o.m o.t]) 1048576 n (nw o.k o.m o.t) Z.length o.s := by
  obtain ⟨h1, h2, h3, h4, h5, h6⟩ := C.nums
  have h := C.made.entEq C.d1 C.old C.dk (by omega) C.new h4 o.s
  rw [show (S.make o.k o.m o.t).room = 1048576 from C.hh.room] at h
  exact h

theorem Ctx.enter (C : Ctx k S R ds Z o d n) {L : Lay} {D : Nat} {w : World} (K : DiskAt L D (S.make o.k o.m o.t) w) :
    Calls Try.prog 21 #[.pointer (some ⟨D, 0, none⟩), .int .i64 d, .string o.s, .int .i64 Z.length] w (Acts L D (entS (S.make o.k o.m o.t) d o.s Z.length) (.int .i64 (entE (S.make o.k o.m o.t) d o.s Z.length)) w) := by
  obtain ⟨h1, h2, h3, h4, h5, h6⟩ := C.nums
  obtain ⟨u1, u2, u3⟩ := C.used
  have hr := C.hh.room
  refine enter31 L D (S.make o.k o.m o.t) w K u1 (by show S.used + o.t.size ≤ S.room; omega) (by show S.room ≤ _; omega) d Z.length (in64 (by omega)) (in64 (by omega)) ?_ ?_ (by intro _; omega) o.s C.fit.s
  · intro x hx
    obtain ⟨u, hu, _⟩ := C.made.node d n C.d1 C.old (by rw [C.dk]; decide)
    rw [hu] at hx; cases hx
    exact ⟨C.made.rise n (List.mem_of_getElem? C.old), C.made.inv.few n (List.mem_of_getElem? C.old)⟩
  · intro y hy
    rw [C.got] at hy; cases hy
    exact ⟨Int.le_refl _, by show (0 : Int) ≤ _; decide⟩
theorem Ctx.push (C : Ctx k S R ds Z o d n) : nrs (Z ++ [newZ o.k o.m o.t]) = R ++ [nw o.k o.m o.t] := by rw [nrs_push, C.hz]
theorem Ctx.zj (_ : Ctx k S R ds Z o d n) : (Z ++ [newZ o.k o.m o.t])[Z.length]? = some (newZ o.k o.m o.t) := by rw [List.getElem?_append_right (Nat.le_refl _), Nat.sub_self]; rfl

theorem Ctx.renter_bad (C : Ctx k S R ds Z o d n) {P : Nat → Prop} {v : Value} {w : World} (X : XAt P v (Z ++ [newZ o.k o.m o.t]) w) (hP : ∀ b, w.heap.size ≤ b → P b) (hE : entE (S.make o.k o.m o.t) d o.s Z.length ≠ 0) :
    Calls Try.prog 22 #[xv v 1048576, .int .i64 d, .string o.s, .int .i64 Z.length] w (GivesE P 1048576 (Z ++ [newZ o.k o.m o.t]) (entE (S.make o.k o.m o.t) d o.s Z.length) w) := by
  obtain ⟨h1, h2, h3, h4, h5, h6⟩ := C.nums
  obtain ⟨ev, hev⟩ := zn_get (Z := Z ++ [newZ o.k o.m o.t]) (by rw [C.push]; exact C.old)
  have := C.sm
  have h := Ytgdjoojghkdcbaa.renter_bad P v 1048576 (Z ++ [newZ o.k o.m o.t]) w X (by rw [C.push]; exact C.made.inv) hP d Z.length _ _ hev C.zj C.d1 (by omega) C.dk (by simpa using h4) (C.made.rise n (List.mem_of_getElem? C.old)) o.s (by omega) (by rw [C.push]; exact C.used.2.2) (by rw [C.push]; rw [C.enE] at hE; exact hE)
  rw [C.push] at h
  rw [C.enE]
  exact h
theorem Ctx.renter_ok (C : Ctx k S R ds Z o d n) {P : Nat → Prop} {v : Value} {w : World} (X : XAt P v (Z ++ [newZ o.k o.m o.t]) w) (hP : ∀ b, w.heap.size ≤ b → P b) (hE : entE (S.make o.k o.m o.t) d o.s Z.length = 0) :
    Calls Try.prog 22 #[xv v 1048576, .int .i64 d, .string o.s, .int .i64 Z.length] w (GivesR P 1048576 (fun R' => R' = (R ++ [nw o.k o.m o.t]).set d { n with ents := putL o.s Z.length n.ents }) 0 w) := by
  obtain ⟨h1, h2, h3, h4, h5, h6⟩ := C.nums
  obtain ⟨ev, hev⟩ := zn_get (Z := Z ++ [newZ o.k o.m o.t]) (by rw [C.push]; exact C.old)
  have := C.sm
  have h := renter_good P v 1048576 (Z ++ [newZ o.k o.m o.t]) w X (by rw [C.push]; exact C.made.inv) hP d Z.length _ _ hev C.zj C.d1 (by omega) C.dk (by simpa using h4) (C.made.rise n (List.mem_of_getElem? C.old)) o.s (by omega) (by rw [C.push]; exact C.used.2.2) (by rw [C.push]; rw [C.enE] at hE; exact hE)
  rw [C.push] at h
  exact h
theorem Ctx.release_bad (C : Ctx k S R ds Z o d n) {L : Lay} {D : Nat} {w : World} (K : DiskAt L D (S.make o.k o.m o.t) w) :
    Calls Try.prog 23 #[.pointer (some ⟨D, 0, none⟩), .int .i64 Z.length] w (Acts L D ((S.make o.k o.m o.t).less R.length ⟨o.k, o.m, 0, 1, o.t, [], 0⟩ S.cnt) (.int .i64 0) w) := by
  obtain ⟨h1, h2, h3, h4, h5, h6⟩ := C.nums
  have u := C.used
  have hs := (C.hh.ask (by have := C.hk; omega)).u0
  rw [C.len]
  exact release18_leaf L D (S.make o.k o.m o.t) w K Z.length (in64 (by omega)) _ C.got rfl rfl rfl S.cnt rfl (by show 0 ≤ S.used + o.t.size - o.t.size; omega) (by show S.used + o.t.size ≤ _; omega)
theorem Ctx.entered (C : Ctx k S R ds Z o d n) (hE : entE (S.make o.k o.m o.t) d o.s Z.length = 0) : Sim (entS (S.make o.k o.m o.t) d o.s Z.length) ((R ++ [nw o.k o.m o.t]).set d { n with ents := putL o.s Z.length n.ents }) := by
  obtain ⟨h1, h2, h3, h4, h5, h6⟩ := C.nums
  have := C.hh.few n (List.mem_of_getElem? C.dn)
  exact C.made.enter C.d1 C.old C.dk (by omega) C.new h4 o.s (by omega) (by have := C.hk; omega) hE
theorem Ctx.release_ok (C : Ctx k S R ds Z o d n) (hE : entE (S.make o.k o.m o.t) d o.s Z.length = 0) :
    ∃ x, (entS (S.make o.k o.m o.t) d o.s R.length).get R.length = some x ∧ ∀ {L : Lay} {D : Nat} {w : World}, DiskAt L D (entS (S.make o.k o.m o.t) d o.s Z.length) w →
    Calls Try.prog 23 #[.pointer (some ⟨D, 0, none⟩), .int .i64 Z.length] w (Acts L D ((entS (S.make o.k o.m o.t) d o.s R.length).put R.length { x with holds := 0 }) (.int .i64 0) w) := by
  obtain ⟨h1, h2, h3, h4, h5, h6⟩ := C.nums
  obtain ⟨ud, hud, _⟩ := C.made.node d n C.d1 C.old (by rw [C.dk]; decide)
  have hx : (entS (S.make o.k o.m o.t) d o.s Z.length).get Z.length = some ⟨o.k, o.m, 1, 1, o.t, [], d⟩ := by
    unfold entS
    rw [if_pos hE, hud, C.got]
    exact St.put_same _ _ _
  rw [C.len]
  refine ⟨_, hx, fun {L} {D} {w} K => ?_⟩
  exact release18_stay L D _ w K Z.length (in64 (by omega)) _ hx (by show (0 : Int) < 1; decide) (by show (0 : Int) < 1; decide) (by show (1 : Int) ≤ _; decide)
theorem Ctx.rhold_bad (C : Ctx k S R ds Z o d n) {P : Nat → Prop} {v : Value} {w : World} (X : XAt P v (Z ++ [newZ o.k o.m o.t]) w) (hP : ∀ b, w.heap.size ≤ b → P b) :
    Calls Try.prog 24 #[xv v 1048576, .int .i64 Z.length, .int .i64 (-1)] w (GivesR P 1048576 (FreedR ((R ++ [nw o.k o.m o.t]).set R.length (nu o.k o.m o.t)) R.length) 0 w) := by
  obtain ⟨h1, h2, h3, h4, h5, h6⟩ := C.nums
  have hi : InvR ((R ++ [nw o.k o.m o.t]).set Z.length (nu o.k o.m o.t)) := (C.made.holds (by omega) C.new h4 C.got 0).inv
  have h := rhold19_ok P v 1048576 (Z ++ [newZ o.k o.m o.t]) w X hP Z.length (nw o.k o.m o.t) (.slice none 0 0) C.zj (by omega) (by simpa using h4) (-1) (.inr ⟨rfl, by show (1 : Int) ≠ 0; decide⟩) ⟨by show (0 : Int) ≤ 1; decide, by show (1 : Int) ≤ _; decide⟩ (by rw [C.push]; exact hi)
  rw [C.push] at h
  rw [C.len]
  exact h
theorem Ctx.rhold_ok (C : Ctx k S R ds Z o d n) (hE : entE (S.make o.k o.m o.t) d o.s Z.length = 0) {P : Nat → Prop} {v : Value} {w : World} {Z2 : List Zn} (hZ2 : nrs Z2 = (R ++ [nw o.k o.m o.t]).set d { n with ents := putL o.s Z.length n.ents }) (X : XAt P v Z2 w) (hP : ∀ b, w.heap.size ≤ b → P b) :
    Calls Try.prog 24 #[xv v 1048576, .int .i64 Z.length, .int .i64 (-1)] w (GivesR P 1048576 (FreedR (((R ++ [nw o.k o.m o.t]).set d { n with ents := putL o.s R.length n.ents }).set R.length (nu o.k o.m o.t)) R.length) 0 w) := by
  obtain ⟨h1, h2, h3, h4, h5, h6⟩ := C.nums
  have hj2 : ((R ++ [nw o.k o.m o.t]).set d { n with ents := putL o.s Z.length n.ents })[Z.length]? = some (nw o.k o.m o.t) := get_set _ (by omega) C.new
  obtain ⟨u, hu, _⟩ := (C.entered hE).node Z.length _ (by omega) hj2 h4
  have hi : InvR (((R ++ [nw o.k o.m o.t]).set d { n with ents := putL o.s Z.length n.ents }).set Z.length (nu o.k o.m o.t)) := ((C.entered hE).holds (by omega) hj2 h4 hu 0).inv
  obtain ⟨ev, hev⟩ := zn_get (Z := Z2) (by rw [hZ2]; exact hj2)
  have h := rhold19_ok P v 1048576 Z2 w X hP Z.length (nw o.k o.m o.t) ev hev (by omega) (by simpa using h4) (-1) (.inr ⟨rfl, by show (1 : Int) ≠ 0; decide⟩) ⟨by show (0 : Int) ≤ 1; decide, by show (1 : Int) ≤ _; decide⟩ (by rw [hZ2]; exact hi)
  rw [hZ2] at h
  rw [C.len]
  exact h
theorem Ctx.next_bad (C : Ctx k S R ds Z o d n) {l : List Opn} (B : Blt l S R ds) (hE : entE (S.make o.k o.m o.t) d o.s Z.length ≠ 0) {R' : List Nr} (hf : FreedR ((R ++ [nw o.k o.m o.t]).set R.length (nu o.k o.m o.t)) R.length R') :
    Blt (l ++ [o]) ((S.make o.k o.m o.t).less R.length ⟨o.k, o.m, 0, 1, o.t, [], 0⟩ S.cnt) R' ds ∧ Hd (k + 1) ((S.make o.k o.m o.t).less R.length ⟨o.k, o.m, 0, 1, o.t, [], 0⟩ S.cnt) R' ds := by
  obtain ⟨h1, h2, h3, h4, h5, h6⟩ := C.nums
  have H := C.hh.fail (by have := C.hk; omega) o.k o.m o.t h4 ⟨h5, h6⟩ hf
  have hl : R'.length = R.length + 1 := by rw [hf.1.length]; simp
  exact ⟨Blt.fail o B C.hk C.hh C.he (by rw [← C.hd, C.len]; exact hE) hl, H⟩
theorem Ctx.next_ok (C : Ctx k S R ds Z o d n) {l : List Opn} (B : Blt l S R ds) (hE : entE (S.make o.k o.m o.t) d o.s Z.length = 0) {x : Nd} (hx : (entS (S.make o.k o.m o.t) d o.s R.length).get R.length = some x) {R' : List Nr}
    (hf : FreedR (((R ++ [nw o.k o.m o.t]).set d { n with ents := putL o.s R.length n.ents }).set R.length (nu o.k o.m o.t)) R.length R') :
    Blt (l ++ [o]) ((entS (S.make o.k o.m o.t) d o.s R.length).put R.length { x with holds := 0 }) R' (if o.k = 2 then ds ++ [Z.length] else ds) ∧ Hd (k + 1) ((entS (S.make o.k o.m o.t) d o.s R.length).put R.length { x with holds := 0 }) R' (if o.k = 2 then ds ++ [Z.length] else ds) := by
  obtain ⟨h1, h2, h3, h4, h5, h6⟩ := C.nums
  have hE' : entE (S.make o.k o.m o.t) d o.s R.length = 0 := by rw [C.len]; exact hE
  have H := C.hh.ok (by have := C.hk; omega) o.k o.m o.t o.s h4 ⟨h5, h6⟩ C.sm.2 C.d1 C.dn C.dk hE' hx hf
  have hl : R'.length = R.length + 1 := by rw [hf.1.length]; simp
  rw [← C.len]
  have B' := Blt.ok (R' := R') o x B C.hk C.hh C.he (by rw [← C.hd]; exact hE') (by rw [← C.hd]; exact hx) hl
  rw [← C.hd] at B'
  exact ⟨B', H⟩
theorem GivesR.mono {P : Nat → Prop} {room : Int} {K K' : List Nr → Prop} {err : Int} {w : World} {e : Ending} {w' : World} (h : GivesR P room K err w e w') (hK : ∀ R, K R → K' R) : GivesR P room K' err w e w' := by
  obtain ⟨Z, h1, h2⟩ := h
  exact ⟨Z, hK _ h1, h2⟩
/-- All that follows a node that was made, whether its name may be or not. -/
theorem Ctx.uni (C : Ctx k S R ds Z o d n) {l : List Opn} (B : Blt l S R ds) : ∃ (r : Int) (S8 S10 : St) (R9 : List Nr),
    (∀ (L : Lay) (D : Nat) (w : World), DiskAt L D (S.make o.k o.m o.t) w → Calls Try.prog 21 #[.pointer (some ⟨D, 0, none⟩), .int .i64 d, .string o.s, .int .i64 Z.length] w (Acts L D S8 (.int .i64 r) w)) ∧
    (∀ (P : Nat → Prop) (v : Value) (w : World), XAt P v (Z ++ [newZ o.k o.m o.t]) w → (∀ b, w.heap.size ≤ b → P b) → Calls Try.prog 22 #[xv v 1048576, .int .i64 d, .string o.s, .int .i64 Z.length] w (GivesR P 1048576 (fun R' => R' = R9) r w)) ∧
    (∀ (L : Lay) (D : Nat) (w : World), DiskAt L D S8 w → Calls Try.prog 23 #[.pointer (some ⟨D, 0, none⟩), .int .i64 Z.length] w (Acts L D S10 (.int .i64 0) w)) ∧
    (∀ (P : Nat → Prop) (v : Value) (w : World) (Z9 : List Zn), nrs Z9 = R9 → XAt P v Z9 w → (∀ b, w.heap.size ≤ b → P b) → Calls Try.prog 24 #[xv v 1048576, .int .i64 Z.length, .int .i64 (-1)] w (GivesR P 1048576 (fun R' => Blt (l ++ [o]) S10 R' (if r = 0 ∧ o.k = 2 then ds ++ [Z.length] else ds) ∧ Hd (k + 1) S10 R' (if r = 0 ∧ o.k = 2 then ds ++ [Z.length] else ds)) 0 w)) ∧ 2 ≤ R9.length := by
  have hn := C.nums
  have hl := C.len
  by_cases hE : entE (S.make o.k o.m o.t) d o.s Z.length = 0
  · obtain ⟨x, hx, hrel⟩ := C.release_ok hE
    refine ⟨0, entS (S.make o.k o.m o.t) d o.s Z.length, _, _, fun _ _ _ K => ?_, fun _ _ _ X hP => C.renter_ok X hP hE, fun _ _ _ K => hrel K, fun _ _ _ _ hZ X hP => ?_, by simp; omega⟩
    · have := C.enter K
      rw [hE] at this
      exact this
    · refine (C.rhold_ok hE hZ X hP).mono fun e w' h => h.mono fun R' hf => ?_
      have := C.next_ok B hE hx hf
      have e1 : (if (0 : Int) = 0 ∧ o.k = 2 then ds ++ [Z.length] else ds) = if o.k = 2 then ds ++ [Z.length] else ds := by simp
      rw [e1]
      exact this
  · refine ⟨entE (S.make o.k o.m o.t) d o.s Z.length, S.make o.k o.m o.t, _, R ++ [nw o.k o.m o.t], fun _ _ _ K => ?_, fun _ _ _ X hP => ?_, fun _ _ _ K => C.release_bad K, fun P v w Z9 hZ X hP => ?_, by simp; omega⟩
    · have := C.enter K
      rw [show entS (S.make o.k o.m o.t) d o.s Z.length = S.make o.k o.m o.t from if_neg hE] at this
      exact this
    · exact (C.renter_bad X hP hE).mono fun e w' h => ⟨_, C.push, h⟩
    · have hi : InvR ((R ++ [nw o.k o.m o.t]).set Z.length (nu o.k o.m o.t)) := (C.made.holds (by omega) C.new hn.2.2.2.1 C.got 0).inv
      obtain ⟨ev, hev⟩ := zn_get (Z := Z9) (by rw [hZ]; exact C.new)
      have h := rhold19_ok P v 1048576 Z9 w X hP Z.length (nw o.k o.m o.t) ev hev (by omega) (by simpa using hn.2.2.2.1) (-1) (.inr ⟨rfl, by show (1 : Int) ≠ 0; decide⟩) ⟨by show (0 : Int) ≤ 1; decide, by show (1 : Int) ≤ _; decide⟩ (by rw [hZ]; exact hi)
      rw [hZ] at h
      refine h.mono fun e w' h => h.mono fun R' hf => ?_
      rw [if_neg (fun q => hE q.1)]
      exact C.next_bad B hE (by rw [hl]; exact hf)
end
theorem XAt.apart {P : Nat → Prop} {v : Value} {Z : List Zn} {w : World} {g : Nat} {cu : Array Value} {fr : Nat × Nat} (h : XAt P v Z w) (hb : w.heap[g]? = some (.cells cu 3 fr)) : XAt (fun b => P b ∧ b ≠ g) v Z w := by
  refine ⟨h.row, h.ents, fun b e => ⟨h.pv b e, ?_⟩, fun z hz b e => ⟨h.pe z hz b e, ?_⟩⟩
  · rintro rfl
    rcases h.row.2 with ⟨rfl, _⟩ | ⟨g', cap, cur, rfl, _, h5, _⟩
    · cases e
    · simp [Value.ownBlock] at e
      subst e
      rw [hb] at h5
      cases h5
  · rintro rfl
    exact (h.ents z hz).ne hb (by decide) e
/-- A directory more. -/
theorem Side.push {L : Lay} {D : Nat} {S : St} {w wr w' : World} {b5 : Nat} {v dv v' : Value} {Z : List Zn} {ds : List Nat} {j : Nat} {ob : Obj} (h : Side L w b5 v dv Z ds wr) (K : DiskAt L D S wr) (hpos : 1 ≤ ds.length)
    (hown : w'.ownsRow w.heap.size 3 1 v' (ds.length + 1) ((ds.map fun (d : Nat) => Value.int .i64 d) ++ [.int .i64 j])) (hg : (wr.alloc ob).grownBy w' dv.ownBlock) (hn : Near (wr.alloc ob) dv v') :
    Side L w b5 v v' Z (ds ++ [j]) w' ∧ DiskAt L D S w' := by
  have hsz : (wr.alloc ob).heap.size = wr.heap.size + 1 := by simp
  have hgs := hg.size
  obtain ⟨g, cap, cur, rfl, hge, hgb, _⟩ : ∃ g cap cur, dv = .slice (some ⟨g, 0, none⟩) ds.length cap ∧ w.heap.size ≤ g ∧ wr.heap[g]? = some (.cells cur 3 (0, 0)) ∧ True := by
    rcases h.dir.2 with ⟨_, h2⟩ | ⟨g, cap, cur, e, e1, e2, _⟩
    · omega
    · exact ⟨g, cap, cur, e, e1, e2, trivial⟩
  have hst : ∀ b, b < wr.heap.size → b ≠ g → w'.heap[b]? = wr.heap[b]? := fun b hl hne => by
    rw [hg.block b (by omega) (by simp [Value.ownBlock]; exact hne)]
    exact ((Below.refl wr.heap.size wr).alloc (Nat.le_refl _) ob).block b hl
  have hlow : ∀ b, v'.ownBlock = some b → L.ow b = -1 := fun b e => by
    rcases hn b e with e1 | e1
    · exact h.od b e1
    · exact K.fresh b (by omega)
  have hA := (Below.refl wr.heap.size wr).alloc (Nat.le_refl _) ob
  have b3 := h.r3
  have b5' := h.hb
  have n3 : w.heap.size ≠ g := by rintro e; rw [← e, b3] at hgb; cases hgb
  have n5 : b5 ≠ g := by rintro e; rw [← e, b5'] at hgb; cases hgb
  refine ⟨⟨⟨hg.os.trans (hA.os.trans h.bel.os), hg.tape.trans (hA.tape.trans h.bel.tape), hg.output.trans (hA.output.trans h.bel.output), by have := h.bel.size; omega, fun b hb => (hst b (by have := h.bel.size; omega) (by omega)).trans (h.bel.block b hb)⟩, h.low, (hst _ (lt_of_block b3) n3).trans b3, h.o3, (hst _ (lt_of_block b5') n5).trans b5', h.o5, h.gt, ?_, ?_, hlow⟩, ?_⟩
  · exact (h.x.apart hgb).keep fun b hl hp => ⟨hst b hl hp.2, hp.1⟩
  · rw [List.length_append, List.length_singleton, List.map_append]
    exact hown
  · exact K.stand (by omega) fun b hl ho => hst b hl (fun e => ho (by rw [e]; exact h.od g rfl))
theorem Try.info3' : (Try.prog.info? 3).map (fun i => (i.zero, i.size, i.bytes)) = some (some (.int .i64 0), 1, 8) := by kernel_rfl
theorem new_int (w : World) (x : Int) : ∀ j u, [Value.int .i64 x][j]? = some u → (w.alloc (.cells #[.int .i64 x] 3)).cell? ((⟨w.heap.size, 0, none⟩ : Addr).add j) = some u := by
  intro j u hj
  match j, hj with
  | 0, hj => simp at hj; subst hj; exact cells_at (heap_alloc_new w _) rfl
end Go.Proofs.Ytgdjoojghkdcbaa

/- The law's built, walked. Conditions: few nodes, each short. -/
namespace Go.Proofs.Ytgdjoojghkdcbaa
open Go.RowKit Go.PlainAid
set_option linter.unusedSimpArgs false

set_option maxHeartbeats 4000000 in
set_option maxRecDepth 100000 in
theorem built9 (v0 : Value) (os : List Opn) (w : World) (h : OpsAt w v0 os) (h40 : os.length ≤ 100) (hsm : ∀ o ∈ os, o.s.size ≤ 300 ∧ o.t.size ≤ 5000) : Calls Try.prog 9 #[v0] w (Built os w) := by
  have H := Lib.hid h
  have HS := Lib.hid hsm
  obtain ⟨a0, c0, rfl⟩ := ops_shape h
  clear h hsm
  have B0 := (Below.refl w.heap.size w).alloc (Nat.le_refl _) (.cells #[.slice none 0 0, .int .i64 0] 28)
  have R0 := heap_alloc_new w (.cells #[.slice none 0 0, .int .i64 0] 28)
  have CX := Lib.hid (rnew10 (fun _ => True) 1048576 (w.alloc (.cells #[.slice none 0 0, .int .i64 0] 28)) (fun _ _ => trivial))
  have HB0 := Lib.hid B0
  have HR0 := Lib.hid R0
  clear B0 R0
  go_enter Try.func9, Try.ntmps9
  go_wp2_with fail
  refine CX.out.mono ?_
  rintro e w1 ⟨v, rfl, X1, b1⟩
  clear CX
  obtain ⟨g, c, rfl⟩ := X1.shape (by decide)
  have hsz1 : w.heap.size < w1.heap.size := by have := b1.size; simp at this; omega
  have R1 : w1.heap[w.heap.size]? = some (.cells #[.slice none 0 0, .int .i64 0] 28 (0, 0)) := (b1.block _ (by simp)).trans HR0.out
  have B1 := HB0.out.trans (b1.mono HB0.out.size)
  have B2 := (Below.refl w1.heap.size w1).alloc (Nat.le_refl _) (.cells #[.slice (some ⟨g, 0, none⟩) rootZ.length c, .int .i64 1048576] 28)
  have R2 := (B2.block _ hsz1).trans R1
  have X2 := X1.below B2
  have N2 := heap_alloc_new w1 (.cells #[.slice (some ⟨g, 0, none⟩) rootZ.length c, .int .i64 1048576] 28)
  have B12 := B1.trans (B2.mono B1.size)
  have CN := Lib.hid (new8 1048576 (w1.alloc (.cells #[.slice (some ⟨g, 0, none⟩) rootZ.length c, .int .i64 1048576] 28)) (by decide))
  have HX2 := Lib.hid X2
  have HR2 := Lib.hid R2
  have HN2 := Lib.hid N2
  have HB2 := Lib.hid B12
  clear X1 R1 B1 B2 R2 X2 N2 B12 b1 HR0 HB0
  go_wp2_with fail
  refine CN.out.mono ?_
  rintro e w3 ⟨D, L, rfl, K3, b3, O3⟩
  clear CN
  have hsz2 : (w1.alloc (.cells #[.slice (some ⟨g, 0, none⟩) rootZ.length c, .int .i64 1048576] 28)).heap.size = w1.heap.size + 1 := by simp
  have B4 := (Below.refl w3.heap.size w3).alloc (Nat.le_refl _) (.cells #[.int .i64 1] 3)
  have B34 := b3.trans (B4.mono b3.size)
  have RB : Hid (RelBu os w w1.heap.size D (.slice (some ⟨w3.heap.size, 0, none⟩) 1 1) (.int .i64 0) (w3.alloc (.cells #[.int .i64 1] 3))) := by
    refine Lib.hid ⟨0, St.new 1048576, rootR, [1], .slice (some ⟨g, 0, none⟩) rootZ.length c, rootZ, L, Nat.zero_le _, rfl, Blt.nil, hd_new, nrs_root, K3.below B4, ?_⟩
    refine ⟨HB2.out.trans (B34.mono HB2.out.size), fun b hb => O3 b (by omega), (B34.block _ (by omega)).trans HR2.out, O3 _ (by omega), (B34.block _ (by omega)).trans HN2.out, O3 _ (by omega), hsz1, ?_, ?_, ?_⟩
    · exact HX2.out.keep fun b hl _ => ⟨B34.block b hl, O3 b hl⟩
    · exact ⟨rfl, .inr ⟨w3.heap.size, 1, #[.int .i64 1], rfl, by have := b3.size; omega, heap_alloc_new w3 _, Nat.le_refl _, by decide, rfl, rfl⟩⟩
    · intro b e
      simp [Value.ownBlock] at e
      subst e
      exact K3.fresh _ (Nat.le_refl _)
  clear K3 b3 O3 B4 B34 HX2 HR2 HN2 HB2 hsz2 hsz1
  generalize w1.heap.size = b5 at RB
  go_wp2
  go_loopw [8, 32] (RelBu os w b5 D) (fun _ i _ => os.length - (intOf i).toNat)
  case atStart => exact RB.out
  case round =>
    clear RB
    obtain ⟨k, S, R, ds, v, Z, L, hk, rfl, hblt, hhd, hR, K, hside⟩ := hrel
    have HBl := Lib.hid hblt
    have HH := Lib.hid hhd
    have HK := Lib.hid K
    have HSd := Lib.hid hside
    have HZ := Lib.hid hR
    clear hblt hhd hR K hside
    have Hdp := Lib.hid HH.out.dpos
    have HDL := Lib.hid (show ds.length ≤ 1000 by have := HH.out.dlen; omega)
    by_cases hlt : k < os.length
    rotate_left
    · obtain rfl : k = os.length := by omega
      obtain ⟨g, c, rfl⟩ := HSd.out.x.shape (by have := HH.out.sim.two; rw [← HZ.out] at this; simp at this; omega)
      have p0 := HSd.out.c0
      have p1 := HSd.out.c1
      have r0 := HSd.out.r0
      have r1 := HSd.out.r1
      have f0 := HSd.out.fr3 0
      have f1 := HSd.out.fr3 1
      have X9 := HSd.out.x.lay2 HSd.out.r3 (.slice (some ⟨g, 0, none⟩) Z.length c) (.int .i64 1048576)
      have K9 := HK.out.lay2 HSd.out.o3 (.slice (some ⟨g, 0, none⟩) Z.length c) (.int .i64 1048576)
      have B9 := lay2_below HSd.out.bel (Nat.le_refl _) (.slice (some ⟨g, 0, none⟩) Z.length c) (.int .i64 1048576)
      have R9 := lay2_same HSd.out.r3 (.slice (some ⟨g, 0, none⟩) Z.length c) (.int .i64 1048576)
      have D9 : Below (lay2 wr w.heap.size (.slice (some ⟨g, 0, none⟩) Z.length c) (.int .i64 1048576)).heap.size (lay2 wr w.heap.size (.slice (some ⟨g, 0, none⟩) Z.length c) (.int .i64 1048576)) (lay2 wr w.heap.size (.slice (some ⟨g, 0, none⟩) Z.length c) (.int .i64 1048576)).drew := below_drawn _ 1
      have HF : Hid (∃ (_ : (lay2 wr w.heap.size (.slice (some ⟨g, 0, none⟩) Z.length c) (.int .i64 1048576)).drew.heap[w.heap.size]? = some (.cells #[.slice (some ⟨g, 0, none⟩) Z.length c, .int .i64 1048576] 28 (0, 0))), Built os w (.returned (.tuple #[.pointer (some ⟨D, 0, none⟩), xv (.slice (some ⟨g, 0, none⟩) Z.length c) 1048576, .bool true])) (lay2 wr w.heap.size (.slice (some ⟨g, 0, none⟩) Z.length c) (.int .i64 1048576)).drew) :=
        Lib.hid ⟨(D9.block _ (lt_of_block R9)).trans R9, D, L, S, R, ds, _, Z, rfl, K9.below D9, by have := HBl.out; rwa [List.take_length] at this, HH.out, HZ.out, X9.below D9, B9.trans (D9.mono B9.size), HSd.out.low⟩
      clear X9 K9 B9 R9 D9 HBl HH HZ HK HSd
      go_wp2
      go_region
      go_wp2
      obtain ⟨h1, h2⟩ := HF.out
      exact bodyPost_ret_by (results_x3 (p := 3) (q := 2) (r := 4) rfl _ _ _ _ _ rfl h1) rfl h2
    have HK39 := Lib.hid (show k ≤ 99 by omega)
    obtain ⟨o, ho⟩ := get_some hlt
    obtain ⟨hfit, hshape⟩ := H.out
    rcases hshape with ⟨rfl, _⟩ | ⟨b, off, c, e0, hcell⟩
    · simp at hlt
    cases e0
    have HX := Lib.hid (hfit o (List.mem_of_getElem? ho))
    have P0 := (hcell k o ho).low HSd.out.bel
    have hsm := HS.out o (List.mem_of_getElem? ho)
    have HT := Lib.hid (show os.take (k + 1) = os.take k ++ [o] from by rw [List.take_add_one, ho]; rfl)
    have p0 := P0.c0
    have p1 := P0.c1
    have p2 := P0.c2
    have p3 := P0.c3
    have p4 := P0.c4
    clear P0 hcell hfit ho
    have B1 := (Below.refl wr.heap.size wr).alloc (Nat.le_refl _) (.cells #[.int .i64 o.at', .string o.s, .int .i64 o.k, .int .i64 o.m, .string o.t] 52)
    have N1 := heap_alloc_new wr (.cells #[.int .i64 o.at', .string o.s, .int .i64 o.k, .int .i64 o.m, .string o.t] 52)
    have A := HH.out.ask (by omega)
    have CM := make24 L D S _ (HK.out.below B1) A.u0 A.u1 A.rm o.k o.m o.t HX.out.t A.l0 A.l1 A.g A.c
    have HK1 := Lib.hid (HK.out.below B1)
    have HS1 := Lib.hid (HSd.out.below B1)
    have HN1 := Lib.hid N1
    have HA := Lib.hid A
    have hfr := Lib.hid (HK.out.fresh wr.heap.size (Nat.le_refl _))
    have hz1 := Lib.hid (show wr.heap.size < (wr.alloc (.cells #[.int .i64 o.at', .string o.s, .int .i64 o.k, .int .i64 o.m, .string o.t] 52)).heap.size by simp)
    clear B1 N1 A HK HSd
    by_cases hE : makeE S o.k o.m o.t = 0
    rotate_left
    · rw [show makeS S o.k o.m o.t = S from if_neg hE, show makeR S o.k o.m o.t = .tuple #[.int .i64 0, .int .i64 (makeE S o.k o.m o.t)] from by unfold makeR; rw [if_neg hE]] at CM
      have hEr := HH.out.sim.makeEq o.k o.m o.t
      have HBn := Lib.hid (Blt.bad o HBl.out HK39.out HH.out hE)
      rw [← HZ.out, HH.out.room] at hEr
      rw [hEr] at CM hE
      generalize hrr : makeRE (nrs Z) 1048576 o.k o.m o.t = r at *
      have hr0 : (r != 0) = true := by simpa using hE
      have HC := Lib.hid CM
      have HE := Lib.hid hE
      have HRR := Lib.hid hrr
      clear CM hE hEr hrr
      go_wp2_with fail
      refine HC.out.mono ?_
      rintro e w4 ⟨rfl, L4, K4, E4, F4⟩
      have S4 := HS1.out.fr F4 E4
      have N4 := (F4.block wr.heap.size hz1.out hfr.out).trans HN1.out
      have CX := rmake_bad (fun b => L4.ow b = -1) v 1048576 Z w4 S4.x (by have := HH.out.sim.two; rw [← HZ.out] at this; simp at this; omega) (by rw [HZ.out]; exact HH.out.sim.inv) o.k o.m o.t (by rw [HZ.out]; exact HA.out.ur) (by rw [HRR.out]; exact HE.out)
      rw [HRR.out] at CX
      have HCX := Lib.hid CX
      have HK4 := Lib.hid K4
      have HS4 := Lib.hid S4
      have q0 := S4.c0
      have q1 := S4.c1
      have s0 := cells_at N4 (i := 0) rfl
      have s1 := cells_at N4 (i := 1) rfl
      have s2 := cells_at N4 (i := 2) rfl
      have s3 := cells_at N4 (i := 3) rfl
      have s4 := cells_at N4 (i := 4) rfl
      clear p0 p1 p2 p3 p4 CX S4 K4 E4 F4 N4 HC HS1 HK1 HN1 hz1 hfr
      go_wp2_with fail
      refine HCX.out.mono ?_
      rintro e w5 ⟨v5, rfl, X5, B5⟩
      obtain ⟨g5, c5, rfl⟩ := X5.shape (by have := HH.out.sim.two; rw [← HZ.out] at this; simp at this; omega)
      have B6 := (Below.refl w5.heap.size w5).alloc (Nat.le_refl _) (.cells #[.slice (some ⟨g5, 0, none⟩) Z.length c5, .int .i64 1048576] 28)
      have B56 := B5.trans (B6.mono B5.size)
      have S6 := HS4.out.below B56
      have X6 := X5.below B6
      have K6 := HK4.out.below B56
      have q0 := S6.c0
      have q1 := S6.c1
      have f0 := S6.f5 0
      have f1 := S6.f5 1
      have HS7 := Lib.hid (S6.box X6)
      have HK7 := Lib.hid (K6.lay2 S6.o5 (.slice (some ⟨g5, 0, none⟩) Z.length c5) (.int .i64 1048576))
      clear S6 X6 K6 B6 B56 X5 B5 HS4 HK4 HCX
      go_wp2
      go_roundw
      case rel => exact ⟨k + 1, S, R, ds, _, Z, L4, hlt, by go_num, by rw [HT.out]; exact HBn.out, HH.out.next, HZ.out, HK7.out, HS7.out⟩
      case measure => simp [intOf]; omega
    obtain ⟨gd, cd, rfl⟩ := row_shape HS1.out.dir HH.out.dpos
    have hL : S.last + 1 = (Z.length : Int) := by have := HH.out.sim.len; rw [← HZ.out] at this; simpa using this
    rw [show makeS S o.k o.m o.t = S.make o.k o.m o.t from if_pos hE, show makeR S o.k o.m o.t = .tuple #[.int .i64 (Z.length : Int), .int .i64 0] from by unfold makeR; rw [if_pos hE, hE, hL]] at CM
    have hEr := HH.out.sim.makeEq o.k o.m o.t
    rw [← HZ.out, HH.out.room, hE] at hEr
    have HE := Lib.hid hE
    have HEr := Lib.hid hEr.symm
    have HC := Lib.hid CM
    have HL := Lib.hid hL
    have hz2 := Lib.hid (show 2 ≤ Z.length by have := HH.out.sim.two; rw [← HZ.out] at this; simpa using this)
    have hz3 := Lib.hid (show Z.length ≤ 102 by have := HH.out.size; rw [← HZ.out] at this; simp at this; omega)
    clear CM hE hEr hL
    go_wp2_with fail
    refine HC.out.mono ?_
    rintro e w4 ⟨rfl, L4, K4, E4, F4⟩
    have S4 := HS1.out.fr F4 E4
    have N4 := (F4.block wr.heap.size hz1.out hfr.out).trans HN1.out
    have CX := rmake_good (fun b => L4.ow b = -1) v 1048576 Z w4 S4.x (by have := hz2.out; omega) (by rw [HZ.out]; exact HH.out.sim.inv) K4.fresh o.k o.m o.t (by rw [HZ.out]; exact HA.out.ur) HEr.out
    have HCX := Lib.hid CX
    have HK4 := Lib.hid K4
    have HS4 := Lib.hid S4
    have HN4 := Lib.hid N4
    have ho4 := Lib.hid ((E4 _ hz1.out).trans hfr.out)
    have q0 := S4.c0
    have q1 := S4.c1
    have s0 := cells_at N4 (i := 0) rfl
    have s1 := cells_at N4 (i := 1) rfl
    have s2 := cells_at N4 (i := 2) rfl
    have s3 := cells_at N4 (i := 3) rfl
    have s4 := cells_at N4 (i := 4) rfl
    clear p0 p1 p2 p3 p4 CX S4 K4 E4 F4 N4 HC HS1 HK1 HN1 hz1 hfr
    go_wp2_with fail
    refine HCX.out.mono ?_
    rintro e w5 ⟨v5, rfl, X5, B5⟩
    obtain ⟨g5, c5, hv5⟩ := X5.shape (by simp)
    rw [List.length_append, List.length_singleton] at hv5
    subst hv5
    have B6 := (Below.refl w5.heap.size w5).alloc (Nat.le_refl _) (.cells #[.slice (some ⟨g5, 0, none⟩) (Z.length + 1) c5, .int .i64 1048576] 28)
    have N6 := heap_alloc_new w5 (.cells #[.slice (some ⟨g5, 0, none⟩) (Z.length + 1) c5, .int .i64 1048576] 28)
    have B56 := B5.trans (B6.mono B5.size)
    have S6 := HS4.out.below B56
    have X6 := X5.below B6
    have K6 := HK4.out.below B56
    have hw4 : w4.heap.size ≤ w5.heap.size := B5.size
    have hzw := lt_of_block HN4.out
    have hb5w := lt_of_block HS4.out.hb
    have hww := lt_of_block HS4.out.r3
    have M6 := (B56.block _ hzw).trans HN4.out
    have q0 := S6.c0
    have q1 := S6.c1
    have f0 := S6.f5 0
    have f1 := S6.f5 1
    have S7 := S6.box X6
    have K7 := K6.lay2 S6.o5 (.slice (some ⟨g5, 0, none⟩) (Z.length + 1) c5) (.int .i64 1048576)
    have hnb : wr.heap.size ≠ b5 := by rintro e; rw [← e] at S6; have := S6.hb; rw [M6] at this; cases this
    have N7 := (lay2_other (w := w5.alloc (.cells #[.slice (some ⟨g5, 0, none⟩) (Z.length + 1) c5, .int .i64 1048576] 28)) (show w5.heap.size ≠ b5 by omega) (.slice (some ⟨g5, 0, none⟩) (Z.length + 1) c5) (.int .i64 1048576)).trans N6
    have M7 := (lay2_other (w := w5.alloc (.cells #[.slice (some ⟨g5, 0, none⟩) (Z.length + 1) c5, .int .i64 1048576] 28)) hnb (.slice (some ⟨g5, 0, none⟩) (Z.length + 1) c5) (.int .i64 1048576)).trans M6
    have ho13 := Lib.hid (HK4.out.fresh w5.heap.size hw4)
    have HS7 := Lib.hid S7
    have HK7 := Lib.hid K7
    have HN7 := Lib.hid N7
    have HM7 := Lib.hid M7
    clear S6 X6 K6 B6 B56 X5 B5 HS4 HK4 HCX S7 K7 N7 M7 N6 M6 HN4 s0 s1 s2 s3 s4
    have Hb13 := Lib.hid (show w5.heap.size ≠ b5 by omega)
    have H13 := Lib.hid (show w.heap.size < w5.heap.size by omega)
    have H1013 := Lib.hid (show wr.heap.size ≠ w5.heap.size by omega)
    have Hb10 := Lib.hid hnb
    clear hnb hw4 hzw hb5w hww
    go_upto_region 13 with fail
    go_cut [] (fun wx => Side L4 w b5 (.slice (some ⟨g5, 0, none⟩) (Z.length + 1) c5) (.slice (some ⟨gd, 0, none⟩) ds.length cd) (Z ++ [newZ o.k o.m o.t]) ds wx ∧ DiskAt L4 D (S.make o.k o.m o.t) wx ∧ wx.heap[w5.heap.size]? = some (.cells #[.slice (some ⟨g5, 0, none⟩) (Z.length + 1) c5, .int .i64 1048576] 28 (0, 0)) ∧ wx.heap[wr.heap.size]? = some (.cells #[.int .i64 o.at', .string o.s, .int .i64 o.k, .int .i64 o.m, .string o.t] 52 (0, 0)))
    case first =>
      go_wp2
      go_meet
      case rel => exact ⟨HS7.out, HK7.out, HN7.out, HM7.out⟩
    case rest =>
      obtain ⟨S7, K7, N7, M7⟩ := hcut
      obtain ⟨Q, d, hatB, hds2, hds0, hds1, e1, e2, e3, hd⟩ := at_index HH.out.dpos HDL.out o.at'
      have hcd := row_at S7.dir rfl hd
      obtain ⟨n, hC⟩ := ctx_of HH.out HK39.out HZ.out HE.out hsm HX.out hatB hd
      obtain ⟨r, S8, S10, R9, U1, U2, U3, U4, U5⟩ := hC.uni HBl.out
      have HU1 := Lib.hid (U1 _ _ _ K7)
      have HU2 := Lib.hid U2
      have HU3 := Lib.hid U3
      have HU4 := Lib.hid U4
      have HU5 := Lib.hid U5
      have HS7 := Lib.hid S7
      have HN7 := Lib.hid N7
      have HM7 := Lib.hid M7
      have hl7 := Lib.hid (lt_of_block N7)
      have hl8 := Lib.hid (lt_of_block M7)
      have s0 := cells_at M7 (i := 0) rfl
      have s1 := cells_at M7 (i := 1) rfl
      clear S7 K7 N7 M7 hatB hd hC U1 U2 U3 U4 U5 HX HH HBl HE HA HZ HEr HDL HK39 HL
      go_upto_region 16 with fail
      go_cut [12] (fun u12 wx => ∃ L8, u12 = .int .i64 r ∧ Side L8 w b5 (.slice (some ⟨g5, 0, none⟩) (Z.length + 1) c5) (.slice (some ⟨gd, 0, none⟩) ds.length cd) (Z ++ [newZ o.k o.m o.t]) ds wx ∧ DiskAt L8 D S8 wx ∧ wx.heap[w5.heap.size]? = some (.cells #[.slice (some ⟨g5, 0, none⟩) (Z.length + 1) c5, .int .i64 1048576] 28 (0, 0)) ∧ wx.heap[wr.heap.size]? = some (.cells #[.int .i64 o.at', .string o.s, .int .i64 o.k, .int .i64 o.m, .string o.t] 52 (0, 0)) ∧ L8.ow w5.heap.size = -1 ∧ L8.ow wr.heap.size = -1)
      case first =>
        go_wp2_with fail
        refine HU1.out.mono ?_
        rintro e w8 ⟨rfl, L8, K8, E8, F8⟩
        have HF := Lib.hid (And.intro (HS7.out.fr F8 E8) (And.intro K8 (And.intro ((F8.block _ hl7.out ho13.out).trans HN7.out) (And.intro ((F8.block _ hl8.out ho4.out).trans HM7.out) (And.intro ((E8 _ hl7.out).trans ho13.out) ((E8 _ hl8.out).trans ho4.out))))))
        clear K8 E8 F8
        go_wp2
        go_meet
        case rel => exact ⟨L8, rfl, HF.out⟩
      case rest =>
        clear HU1 HS7 HN7 HM7 hl7 hl8 ho13 ho4 s0 s1 q0 q1 f0 f1
        obtain ⟨L8, rfl, S8', K8, N8, M8, o13, o10⟩ := hcut
        have CX := Lib.hid (HU2.out (fun b => L8.ow b = -1) _ _ S8'.x K8.fresh)
        have HS8 := Lib.hid S8'
        have HK8 := Lib.hid K8
        have HN8 := Lib.hid N8
        have HM8 := Lib.hid M8
        have Ho13 := Lib.hid o13
        have Ho10 := Lib.hid o10
        have q0 := S8'.c0
        have q1 := S8'.c1
        have s0 := cells_at M8 (i := 0) rfl
        have s1 := cells_at M8 (i := 1) rfl
        clear S8' K8 N8 M8 o13 o10 HU2
        go_upto_region 17 with fail
        go_cut [15] (fun u15 wx => ∃ g9 c9 Z9, nrs Z9 = R9 ∧ u15 = .int .i64 r ∧ XAt (fun b => L8.ow b = -1) (.slice (some ⟨g9, 0, none⟩) Z9.length c9) Z9 wx ∧ Side L8 w b5 (.slice (some ⟨g5, 0, none⟩) (Z.length + 1) c5) (.slice (some ⟨gd, 0, none⟩) ds.length cd) (Z ++ [newZ o.k o.m o.t]) ds wx ∧ DiskAt L8 D S8 wx ∧ wx.heap[w5.heap.size]? = some (.cells #[.slice (some ⟨g9, 0, none⟩) Z9.length c9, .int .i64 1048576] 28 (0, 0)) ∧ wx.heap[wr.heap.size]? = some (.cells #[.int .i64 o.at', .string o.s, .int .i64 o.k, .int .i64 o.m, .string o.t] 52 (0, 0)))
        case first =>
          go_wp2_with fail
          refine CX.out.mono ?_
          rintro e w9 ⟨Z9, hZ9, v9, rfl, X9, B9⟩
          obtain ⟨g9, c9, rfl⟩ := X9.shape (by have := HU5.out; rw [← hZ9] at this; simp at this; omega)
          have N9 := (B9.block _ (lt_of_block HN8.out)).trans HN8.out
          have M9 := (B9.block _ (lt_of_block HM8.out)).trans HM8.out
          have S9 := HS8.out.below B9
          have K9 := HK8.out.below B9
          have t0 := cells_at N9 (i := 0) rfl
          have t1 := cells_at N9 (i := 1) rfl
          have f0 := free_at N9 (i := 0)
          have f1 := free_at N9 (i := 1)
          have HF := Lib.hid (And.intro (X9.lay2 N9 (.slice (some ⟨g9, 0, none⟩) Z9.length c9) (.int .i64 1048576)) (And.intro (S9.other Hb13.out H13.out N9 (.slice (some ⟨g9, 0, none⟩) Z9.length c9) (.int .i64 1048576)) (And.intro (K9.lay2 Ho13.out (.slice (some ⟨g9, 0, none⟩) Z9.length c9) (.int .i64 1048576)) (And.intro (lay2_same N9 (.slice (some ⟨g9, 0, none⟩) Z9.length c9) (.int .i64 1048576)) ((lay2_other H1013.out (.slice (some ⟨g9, 0, none⟩) Z9.length c9) (.int .i64 1048576)).trans M9)))))
          have HZ9 := Lib.hid hZ9
          clear B9 X9 N9 M9 S9 K9 hZ9
          go_wp2
          go_meet
          case rel => exact ⟨g9, c9, Z9, HZ9.out, rfl, HF.out⟩
        case rest =>
          clear CX HS8 HK8 HN8 HM8 Ho13 s0 s1 q0 q1
          obtain ⟨g9, c9, Z9, hZ9, rfl, X9, S9, K9, N9, M9⟩ := hcut
          have t0 := cells_at N9 (i := 0) rfl
          have t1 := cells_at N9 (i := 1) rfl
          have q0 := S9.c0
          have q1 := S9.c1
          have f0 := S9.f5 0
          have f1 := S9.f5 1
          have HF := Lib.hid (And.intro (S9.box X9) (And.intro (K9.lay2 S9.o5 (.slice (some ⟨g9, 0, none⟩) Z9.length c9) (.int .i64 1048576)) ((lay2_other Hb10.out (.slice (some ⟨g9, 0, none⟩) Z9.length c9) (.int .i64 1048576)).trans M9)))
          have HZ9 := Lib.hid hZ9
          clear hZ9 X9 S9 K9 N9 M9
          go_upto_region 20 with fail
          go_cut [] (fun wx => Side L8 w b5 (.slice (some ⟨g9, 0, none⟩) Z9.length c9) (.slice (some ⟨gd, 0, none⟩) ds.length cd) Z9 ds wx ∧ DiskAt L8 D S8 wx ∧ wx.heap[wr.heap.size]? = some (.cells #[.int .i64 o.at', .string o.s, .int .i64 o.k, .int .i64 o.m, .string o.t] 52 (0, 0)))
          case first =>
            go_wp2
            go_meet
            case rel => exact HF.out
          case rest =>
            clear HF t0 t1 q0 q1 f0 f1
            obtain ⟨S9, K9, M9⟩ := hcut
            have CR := Lib.hid (HU3.out _ _ _ K9)
            have HS9 := Lib.hid S9
            have HM9 := Lib.hid M9
            clear S9 K9 M9 HU3
            go_upto_region 21 with fail
            go_cut [] (fun wx => ∃ L10, Side L10 w b5 (.slice (some ⟨g9, 0, none⟩) Z9.length c9) (.slice (some ⟨gd, 0, none⟩) ds.length cd) Z9 ds wx ∧ DiskAt L10 D S10 wx ∧ wx.heap[wr.heap.size]? = some (.cells #[.int .i64 o.at', .string o.s, .int .i64 o.k, .int .i64 o.m, .string o.t] 52 (0, 0)))
            case first =>
              go_wp2_with fail
              refine CR.out.mono ?_
              rintro e w10 ⟨rfl, L10, K10, E10, F10⟩
              have HF := Lib.hid (And.intro (HS9.out.fr F10 E10) (And.intro K10 ((F10.block _ (lt_of_block HM9.out) Ho10.out).trans HM9.out)))
              clear K10 E10 F10
              go_wp2
              go_meet
              case rel => exact ⟨L10, HF.out⟩
            case rest =>
              clear CR HS9 HM9 Ho10
              obtain ⟨L10, S10', K10, M10⟩ := hcut
              have CX := Lib.hid (HU4.out (fun b => L10.ow b = -1) _ _ Z9 HZ9.out S10'.x K10.fresh)
              have HS10 := Lib.hid S10'
              have HK10 := Lib.hid K10
              have HM10 := Lib.hid M10
              have q0 := S10'.c0
              have q1 := S10'.c1
              clear S10' K10 M10 HU4 HZ9
              go_upto_region 22 with fail
              go_cut [] (fun wx => ∃ v11 Z11, (Blt (os.take k ++ [o]) S10 (nrs Z11) (if r = 0 ∧ o.k = 2 then ds ++ [Z.length] else ds) ∧ Hd (k + 1) S10 (nrs Z11) (if r = 0 ∧ o.k = 2 then ds ++ [Z.length] else ds)) ∧ Side L10 w b5 v11 (.slice (some ⟨gd, 0, none⟩) ds.length cd) Z11 ds wx ∧ DiskAt L10 D S10 wx ∧ wx.heap[wr.heap.size]? = some (.cells #[.int .i64 o.at', .string o.s, .int .i64 o.k, .int .i64 o.m, .string o.t] 52 (0, 0)))
              case first =>
                go_wp2_with fail
                refine CX.out.mono ?_
                rintro e w11 ⟨Z11, hZ11, v11, rfl, X11, B11⟩
                obtain ⟨g11, c11, rfl⟩ := X11.shape (by have := hZ11.2.sim.two; simp at this; omega)
                have S11 := HS10.out.below B11
                have K11 := HK10.out.below B11
                have M11 := (B11.block _ (lt_of_block HM10.out)).trans HM10.out
                have q0 := S11.c0
                have q1 := S11.c1
                have f0 := S11.f5 0
                have f1 := S11.f5 1
                have HF := Lib.hid (And.intro hZ11 (And.intro (S11.box X11) (And.intro (K11.lay2 S11.o5 (.slice (some ⟨g11, 0, none⟩) Z11.length c11) (.int .i64 1048576)) ((lay2_other Hb10.out (.slice (some ⟨g11, 0, none⟩) Z11.length c11) (.int .i64 1048576)).trans M11))))
                clear B11 X11 S11 K11 M11 hZ11
                go_wp2
                go_meet
                case rel => exact ⟨_, Z11, HF.out⟩
              case rest =>
                clear CX HS10 HK10 HM10 q0 q1
                obtain ⟨v11, Z11, hZ11, S11, K11, M11⟩ := hcut
                have s2 := cells_at M11 (i := 2) rfl
                have HS11 := Lib.hid S11
                have HK11 := Lib.hid K11
                have HB11 := Lib.hid hZ11
                clear S11 K11 M11 hZ11
                by_cases hfin : r = 0 ∧ o.k = 2
                rotate_left
                · have hg : (r == 0) = false ∨ ((r == 0) = true ∧ (o.k == 2) = false) := by
                    by_cases e : r = 0
                    · exact .inr ⟨by simpa using e, by simpa using fun e' => hfin ⟨e, e'⟩⟩
                    · exact .inl (by simpa using e)
                  have HB12 : Hid (Blt (os.take k ++ [o]) S10 (nrs Z11) ds ∧ Hd (k + 1) S10 (nrs Z11) ds) := Lib.hid (by have := HB11.out; rw [if_neg hfin] at this; exact this)
                  clear HB11 hfin
                  rcases hg with hg | ⟨hg, hg'⟩
                  · go_wp2
                    go_roundw
                    case rel =>
                      exact ⟨k + 1, S10, nrs Z11, ds, v11, Z11, L10, hlt, by go_num, by rw [HT.out]; exact HB12.out.1, HB12.out.2, rfl, HK11.out, HS11.out⟩
                    case measure => simp [intOf]; omega
                  · go_wp2
                    go_roundw
                    case rel =>
                      exact ⟨k + 1, S10, nrs Z11, ds, v11, Z11, L10, hlt, by go_num, by rw [HT.out]; exact HB12.out.1, HB12.out.2, rfl, HK11.out, HS11.out⟩
                    case measure => simp [intOf]; omega
                have hg : (r == 0) = true := by simpa using hfin.1
                have hg' : (o.k == 2) = true := by simpa using hfin.2
                have HB12 : Hid (Blt (os.take k ++ [o]) S10 (nrs Z11) (ds ++ [Z.length]) ∧ Hd (k + 1) S10 (nrs Z11) (ds ++ [Z.length])) := Lib.hid (by have := HB11.out; rw [if_pos hfin] at this; exact this)
                have hdl : ds.length ≤ 100 := by have := HB12.out.2.dlen; rw [List.length_append, List.length_singleton] at this; omega
                clear HB11 hfin
                obtain ⟨i0, hi0, hz0, hz1, hz2'⟩ := info_parts Try.info3'
                go_wp2_with (at_builtin; refine wpList_append_near _ rfl _ _ 57 rfl w.heap.size 3 i0 (.int .i64 0) 1 8 Try.underlying57 hi0 hz0 hz1 hz2' rfl (by decide) _ _ _ rfl (World.ownsRow.alloc HS11.out.dir _) ⟨wc.heap.size, 0, none⟩ 1 1 [.int .i64 Z.length] rfl rfl ?c1 ?c2 ?c3 ?c4 ?c5 ?_)
                case c1 => exact new_int wc _
                case c2 => intro u hu; simp at hu; subst hu; rfl
                case c3 => unfold maxLen; omega
                case c4 => omega
                case c5 => have := HS11.out.bel.size; simp; omega
                · intro v' w13 hown' hgrow hnear
                  obtain ⟨gq, cq, rfl⟩ := row_shape hown' (by omega)
                  have HP := Lib.hid (HS11.out.push HK11.out Hdp.out hown' hgrow hnear)
                  clear hown' hgrow hnear
                  go_wp2
                  go_roundw
                  case rel =>
                    exact ⟨k + 1, S10, nrs Z11, ds ++ [Z.length], v11, Z11, L10, hlt, by go_num, by rw [HT.out]; exact HB12.out.1, HB12.out.2, rfl, HP.out.2, HP.out.1⟩
                  case measure => simp [intOf]; omega
end Go.Proofs.Ytgdjoojghkdcbaa
