/- A list of calls that came in, opened; DirPlays, walked at any. No condition. -/
import Derived.Test.YtpkffkdojgpmhaaZ
import Derived.Deep.Slices
import Derived.Deep.Strs
namespace Go.Proofs.Ytpkffkdojgpmhaa
open Go.RowKit Go.PlainAid Go.ChangeShapes Go.WideShapes Go.ChangeAt

theorem Try.fields29 : ∃ f0 f1 f2 : Field, Try.prog.underlying 29 = some (.struct #[f0, f1, f2]) ∧ f0.offset = 0 ∧ f1.offset = 1 ∧ f2.offset = 2 ∧ f0.type = 3 ∧ f1.type = 9 ∧ f2.type = 3 := ⟨_, _, _, Try.underlying29, rfl, rfl, rfl, rfl, rfl, rfl⟩
theorem Try.cells29 : Try.prog.cellsOf 29 = 3 := by kernel_rfl
theorem Try.cells3 : Try.prog.cellsOf 3 = 1 := by kernel_rfl
theorem Try.cells9 : Try.prog.cellsOf 9 = 1 := by kernel_rfl

theorem choose_list {α : Type} {Q : Nat → α → Prop} : ∀ n : Nat, (∀ i, i < n → ∃ o, Q i o) → ∃ os : List α, os.length = n ∧ ∀ (i : Nat) (o : α), os[i]? = some o → Q i o
  | 0, _ => ⟨[], rfl, fun i o h => by simp at h⟩
  | n + 1, h => by
    obtain ⟨os, h1, h2⟩ := choose_list n (fun i hi => h i (by omega))
    obtain ⟨o, ho⟩ := h n (by omega)
    refine ⟨os ++ [o], by simp [h1], fun i o' hi => ?_⟩
    by_cases e : i < n
    · rw [List.getElem?_append_left (by omega)] at hi
      exact h2 i o' hi
    · have : i < (os ++ [o]).length := (List.getElem?_eq_some_iff.1 hi).1
      simp [h1] at this
      obtain rfl : i = n := by omega
      rw [List.getElem?_append_right (by omega), h1, Nat.sub_self] at hi
      simp at hi
      subst hi
      exact ho

theorem open_ops {H : Type} {enc : TypeId × Value → H} {W : World} {base : Nat} {v : Value} {d : DataW H} {p : List MemPlace} (hv : Value.okWide Try.prog W .any base 22 v) (h : DataW.Trod enc Try.prog W 0 (fun _ => true) true 22 v d p) :
    ∃ os, OpsAt W v os := by
  obtain ⟨a, len, cap, rfl⟩ := okWide_slice Try.underlying22 hv
  obtain ⟨fuel, hf⟩ := h
  obtain ⟨f0, f1, f2, hu, o0, o1, o2, t0, t1, t2⟩ := Try.fields29
  rcases Deep.open_slice Try.underlying22 hf with ⟨hcs, _⟩ | ⟨x, l, c, m, n, D, Pl, hcs, _, hl, _, hmm, _, hx⟩
  · simp [Value.cells] at hcs
    obtain ⟨rfl, rfl, rfl⟩ := hcs
    exact ⟨[], .inl ⟨rfl, _, _, rfl⟩⟩
  · simp [Value.cells] at hcs
    obtain ⟨rfl, rfl, rfl⟩ := hcs
    have hlm : len ≤ m := by rw [hmm]; split <;> omega
    by_cases h0 : len = 0
    · subst h0
      exact ⟨[], .inl ⟨rfl, _, _, rfl⟩⟩
    have each : ∀ i, i < len → ∃ o : Opn, W.cell? (x.add (i * 3)) = some (.int .i64 o.1) ∧ W.cell? (x.add (i * 3 + 1)) = some (.string o.2.1) ∧ W.cell? (x.add (i * 3 + 2)) = some (.int .i64 o.2.2) := by
      intro i hi
      obtain ⟨cs', h1, h2⟩ := hx i (by omega)
      rw [Try.cells29] at h1
      obtain ⟨_, hlen, hcell⟩ := World.cells?_some h1
      obtain ⟨y0, y1, y2, k, _, _, g0, g1, g2⟩ := Deep.trod_struct3 hu h2
      match cs', hlen with
      | [v0, v1, v2], _ =>
        rw [o0, t0, Try.cells3] at g0
        rw [o1, t1, Try.cells9] at g1
        rw [o2, t2, Try.cells3] at g2
        obtain ⟨z0, q0, _, _⟩ := DataW.trod_int Try.underlying3 g0
        obtain ⟨z1, q1, _, _⟩ := DataW.trod_string Try.underlying9 g1
        obtain ⟨z2, q2, _, _⟩ := DataW.trod_int Try.underlying3 g2
        simp at q0 q1 q2
        subst q0 q1 q2
        have e0 := hcell 0 (by omega)
        have e1 := hcell 1 (by omega)
        have e2 := hcell 2 (by omega)
        rw [Deep.add_add] at e0 e1 e2
        exact ⟨(z0, z1, z2), by simpa using e0, by simpa using e1, by simpa using e2⟩
    obtain ⟨os, hol, hos⟩ := choose_list len each
    obtain ⟨b, off, spot⟩ := x
    have hspot : spot = none := by
      obtain ⟨o, e, _⟩ := each 0 (by omega)
      simpa [Addr.add] using World.cell?_spot e
    subst hspot
    refine ⟨os, .inr ⟨b, off, cap, by rw [hol], fun i o hi => ?_⟩⟩
    have := hos i o hi
    simpa [add_at, Nat.add_assoc] using this

theorem play3_in (v0 : Value) (os : List Opn) (name head : ByteArray) (_ : name.size ≤ 140737488351232) (_ : head.size ≤ 140737488351232) (w : World) (h : OpsAt w v0 os) :
    Calls Try.prog 3 #[v0, .string name, .string head] w fun e w' => e = .returned (.bool true) ∧ Below w.heap.size w w' := by
  by_cases h1 : 100 < os.length ∨ 500 < name.size ∨ 500 < head.size
  · exact play3_early v0 os name head w h h1
  · exact play3_main v0 os name head w h (by omega) (by omega) (by omega)
end Go.Proofs.Ytpkffkdojgpmhaa
