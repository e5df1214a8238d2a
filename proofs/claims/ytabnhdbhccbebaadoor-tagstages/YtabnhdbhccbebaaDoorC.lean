/- Contracts: In, the document's; small; read. Conditions: lengths below a bound. -/
import Derived.Test.YtabnhdbhccbebaaDoorB
namespace Go.Proofs.YtabnhdbhccbebaaDoor
open Go.RowKit Go.PlainAid
set_option linter.unusedSimpArgs false
set_option linter.unusedVariables false

theorem toList_eq (a b : ByteArray) : (a.toList == b.toList) = (ls a == ls b) := by rw [ByteArray.toList_eq, ByteArray.toList_eq]
/-- Few texts, and short ones. -/
def smallB (ns : List ByteArray) : Bool := ns.all (fun s => decide (s.size ≤ 500)) && decide (ns.length ≤ 30)
theorem strs_at {w : World} {v : Value} {ns : List ByteArray} (h : Strs w v ns) (k : Nat) (hk : k < ns.length) : ∃ b off c, v = .slice (some ⟨b, off, none⟩) ns.length c ∧ ns.length ≤ c ∧ w.cell? ⟨b, off + k, none⟩ = some (.string ns[k]) := by
  rcases h with ⟨rfl, _⟩ | ⟨b, off, c, h1, h2, h3⟩
  · simp at hk
  · exact ⟨b, off, c, h1, h2, h3 k _ (List.getElem?_eq_getElem hk)⟩
def Rel7 (ns : List ByteArray) (i : Value) : Prop := ∃ k : Nat, k ≤ ns.length ∧ i = .int .i64 k ∧ Hid (∀ j (h : j < ns.length), j < k → ns[j].size ≤ 500)
set_option maxHeartbeats 4000000 in
set_option maxRecDepth 100000 in
theorem small7 (v : Value) (ns : List ByteArray) (w : World) (hv : Strs w v ns) (hn : ns.length ≤ 9223372036854775807) : Calls Tryd.prog 5 #[v] w fun e w' => e = .returned (.bool (smallB ns)) ∧ w = w' := by
  obtain ⟨a, c, rfl⟩ := hv.shape
  have HV := Lib.hid hv
  clear hv
  obtain ⟨n, Hn⟩ : ∃ n, Hid (ns.length = n) := ⟨_, Lib.hid rfl⟩
  rw [Hn.out] at hn ⊢
  go_enter Tryd.func5, Tryd.ntmps5
  go_wp2
  go_loop [7] (Rel7 ns) (fun i => n - (intOf i).toNat)
  case atStart => exact ⟨0, Nat.zero_le _, rfl, Lib.hid fun j h h0 => by omega⟩
  case round =>
    obtain ⟨k, hk, rfl, HX⟩ := hrel
    by_cases hlt : k < n
    · have hlt' : k < ns.length := by rw [Hn.out]; exact hlt
      obtain ⟨b, off, c', e, hc, hcell⟩ := strs_at HV.out k hlt'
      rw [Hn.out] at e hc
      cases e
      obtain ⟨x, Hx⟩ : ∃ x, Hid (ns[k] = x) := ⟨_, Lib.hid rfl⟩
      rw [Hx.out] at hcell
      by_cases h5 : x.size ≤ 500
      · have HX2 : Hid (∀ j (h : j < ns.length), j < k + 1 → ns[j].size ≤ 500) := Lib.hid fun j h h0 => by
          by_cases e : j = k
          · subst e; rw [Hx.out]; exact h5
          · exact HX.out j h (by omega)
        go_wp2
        go_round
        case rel => exact ⟨k + 1, hlt', by go_num, HX2⟩
        case measure => simp [intOf]; omega
      · have hR : Hid (smallB ns = false) := Lib.hid (by
          unfold smallB
          rw [Bool.and_eq_false_iff]; left
          rw [List.all_eq_false]
          exact ⟨x, by rw [← Hx.out]; exact List.getElem_mem hlt', by simpa using h5⟩)
        go_wp2
        go_ret
        exact ⟨by rw [hR.out]; rfl, rfl⟩
    · have hR : Hid (smallB ns = decide (n ≤ 30)) := Lib.hid (by
        unfold smallB
        rw [Hn.out]
        rw [show (ns.all fun s => decide (s.size ≤ 500)) = true from ?_, Bool.true_and]
        rw [List.all_eq_true]
        intro x hx
        obtain ⟨j, hj, e⟩ := List.getElem_of_mem hx
        have := HX.out j hj (by have := Hn.out; omega)
        rw [e] at this
        exact decide_eq_true this)
      go_wp2
      go_ret
      exact ⟨by rw [hR.out]; simp; omega, rfl⟩
end Go.Proofs.YtabnhdbhccbebaaDoor
