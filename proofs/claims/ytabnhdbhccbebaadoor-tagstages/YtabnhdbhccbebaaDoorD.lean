/- Plain facts on staging names: the names by number, the first that isn't there. No condition. -/
import Derived.Test.YtabnhdbhccbebaaDoorC
import Derived.Lib.ItoaNum
namespace Go.Proofs.YtabnhdbhccbebaaDoor
open Go.RowKit Go.PlainAid
set_option linter.unusedSimpArgs false
set_option linter.unusedVariables false

/-- The staging names, by number. -/
def nmL (k : Nat) : List UInt8 := if k = 0 then [46, 115, 101, 97, 98, 97, 103] else [46, 115, 101, 97, 98, 97, 103, 45] ++ Lib.decDigits k
theorem dec_one {n : Nat} (h : n < 10) : Lib.decDigits n = [UInt8.ofNat (48 + n)] := by unfold Lib.decDigits; rw [dif_pos h]
theorem dec_two {n : Nat} (h1 : 10 ≤ n) (h2 : n < 100) : Lib.decDigits n = [UInt8.ofNat (48 + n / 10), UInt8.ofNat (48 + n % 10)] := by
  unfold Lib.decDigits; rw [dif_neg (by omega), dec_one (by omega)]; rfl
theorem dec_len {n : Nat} (h : n < 100) : (Lib.decDigits n).length ≤ 2 := by
  by_cases h1 : n < 10
  · rw [dec_one h1]; simp
  · rw [dec_two (by omega) h]; simp
theorem nm_len {k : Nat} (h : k < 100) : (nmL k).length ≤ 10 := by
  unfold nmL
  split
  · simp
  · rw [List.length_append]; have := dec_len h; simp; omega
theorem ofNat_inj {a b : Nat} (ha : a < 256) (hb : b < 256) (h : UInt8.ofNat a = UInt8.ofNat b) : a = b := by
  have := congrArg UInt8.toNat h
  rwa [UInt8.toNat_ofNat', UInt8.toNat_ofNat', Nat.mod_eq_of_lt ha, Nat.mod_eq_of_lt hb] at this
theorem dec_inj {a b : Nat} (ha : a < 100) (hb : b < 100) (h : Lib.decDigits a = Lib.decDigits b) : a = b := by
  by_cases h1 : a < 10
  · by_cases h2 : b < 10
    · rw [dec_one h1, dec_one h2] at h
      have := ofNat_inj (by omega) (by omega) (List.cons.inj h).1
      omega
    · rw [dec_one h1, dec_two (by omega) hb] at h
      cases (List.cons.inj h).2
  · by_cases h2 : b < 10
    · rw [dec_two (by omega) ha, dec_one h2] at h
      cases (List.cons.inj h).2
    · rw [dec_two (by omega) ha, dec_two (by omega) hb] at h
      have h3 := ofNat_inj (by omega) (by omega) (List.cons.inj h).1
      have h4 := ofNat_inj (by omega) (by omega) (List.cons.inj (List.cons.inj h).2).1
      omega
theorem nm_inj {a b : Nat} (ha : a < 100) (hb : b < 100) (h : nmL a = nmL b) : a = b := by
  unfold nmL at h
  by_cases h1 : a = 0
  · by_cases h2 : b = 0
    · omega
    · rw [if_pos h1, if_neg h2] at h
      have := congrArg List.length h
      simp only [List.length_append, List.length_cons, List.length_nil] at this
      omega
  · by_cases h2 : b = 0
    · rw [if_neg h1, if_pos h2] at h
      have := congrArg List.length h
      simp only [List.length_append, List.length_cons, List.length_nil] at this
      omega
    · rw [if_neg h1, if_neg h2] at h
      exact dec_inj ha hb (List.append_cancel_left h)

theorem nodup_le : ∀ (l m : List (List UInt8)), l.Nodup → (∀ x ∈ l, x ∈ m) → l.length ≤ m.length
  | [], _, _, _ => Nat.zero_le _
  | a :: l, m, hn, hs => by
    have ha : a ∈ m := hs a (by simp)
    have hn' := List.nodup_cons.1 hn
    have := nodup_le l (m.erase a) hn'.2 fun x hx => (List.mem_erase_of_ne (by rintro rfl; exact hn'.1 hx)).2 (hs x (by simp [hx]))
    rw [List.length_erase_of_mem ha] at this
    have hp : 0 < m.length := List.length_pos_of_mem ha
    simp; omega
/-- Is a text one of some? -/
def isB (ns : List ByteArray) (l : List UInt8) : Bool := ns.any fun x => ls x == l
/-- How often. -/
def howB (ns : List ByteArray) (l : List UInt8) : Nat := ns.countP fun x => ls x == l
theorem how_pos (ns : List ByteArray) (l : List UInt8) : decide (0 < howB ns l) = isB ns l := by
  unfold howB isB
  rw [Bool.eq_iff_iff, decide_eq_true_iff, List.countP_pos_iff, List.any_eq_true]
theorem how_snoc (ns : List ByteArray) (x : ByteArray) (l : List UInt8) : howB (ns ++ [x]) l = if l = ls x then howB ns l + 1 else howB ns l := by
  unfold howB
  rw [List.countP_append]
  by_cases h : l = ls x
  · subst h; simp
  · rw [if_neg h]; simp [Ne.symm h]
theorem how_le (ns : List ByteArray) (l : List UInt8) : howB ns l ≤ ns.length := List.countP_le_length
/-- The first name that isn't there. -/
def StageIs (ns : List ByteArray) (k : Nat) : Prop := isB ns (nmL k) = false ∧ ∀ j, j < k → isB ns (nmL j) = true
theorem stage_uni {ns : List ByteArray} {a b : Nat} (ha : StageIs ns a) (hb : StageIs ns b) : a = b := by
  rcases Nat.lt_trichotomy a b with h | h | h
  · have := hb.2 a h; rw [ha.1] at this; cases this
  · exact h
  · have := ha.2 b h; rw [hb.1] at this; cases this
theorem stage_le {ns : List ByteArray} {k : Nat} (hn : ns.length ≤ 30) (h : ∀ j, j < k → isB ns (nmL j) = true) : k ≤ ns.length := by
  by_cases hk : k ≤ ns.length
  · exact hk
  exfalso
  have hnd : ((List.range (ns.length + 1)).map nmL).Nodup := by
    rw [List.Nodup, List.pairwise_map]
    refine List.Pairwise.imp_of_mem ?_ List.nodup_range
    intro a b ha hb hne e
    have ha' := List.mem_range.1 ha
    have hb' := List.mem_range.1 hb
    exact hne (nm_inj (by omega) (by omega) e)
  have := nodup_le _ (ns.map ls) hnd fun x hx => by
    obtain ⟨j, hj, rfl⟩ := List.mem_map.1 hx
    have hj' := List.mem_range.1 hj
    have := h j (by omega)
    unfold isB at this
    obtain ⟨y, hy, e⟩ := List.any_eq_true.1 this
    exact List.mem_map.2 ⟨y, hy, by simpa using e⟩
  simp at this
  omega
theorem stage_some {ns : List ByteArray} (hn : ns.length ≤ 30) : ∃ k, k ≤ ns.length ∧ isB ns (nmL k) = false := by
  apply Classical.byContradiction
  intro hc
  have := stage_le (k := ns.length + 1) hn fun j hj => by
    cases e : isB ns (nmL j)
    · exact absurd ⟨j, by omega, e⟩ hc
    · rfl
  omega
end Go.Proofs.YtabnhdbhccbebaaDoor
