/- Contracts: In, the document's; small; read. Conditions: lengths below a bound. -/
import Derived.Test.YtabnhdbhccbebaaB
namespace Go.Proofs.Ytabnhdbhccbebaa
open Go.RowKit Go.PlainAid
set_option linter.unusedSimpArgs false
set_option linter.unusedVariables false

theorem toList_eq (a b : ByteArray) : (a.toList == b.toList) = (ls a == ls b) := by rw [ByteArray.toList_eq, ByteArray.toList_eq]
def Rel14 (s t : ByteArray) (i : Value) : Prop := ∃ k : Nat, k ≤ s.size ∧ i = .int .i64 k ∧ Hid (hasB (ls t) ((ls s).drop k) = hasB (ls t) (ls s))
theorem in_at (s t : ByteArray) (k : Nat) (h1 : 1 ≤ t.size) (h : k + t.size ≤ s.size) : hasB (ls t) ((ls s).drop k) = (((s.extract k (k + t.size)).toList == t.toList) || hasB (ls t) ((ls s).drop (k + 1))) := by
  rw [hasB_at k (by rw [ls_len]; omega), toList_eq, ls_part]
  have := Lib.occAt_iff_take (ls s) (ls t) k (by rw [ls_len, ls_len]; exact h)
  unfold Lib.occAt at this
  rw [this, ls_len]
set_option maxHeartbeats 4000000 in
set_option maxRecDepth 100000 in
theorem in14 (s t : ByteArray) (hs : s.size ≤ 1000000) (h1 : 1 ≤ t.size) (h2 : t.size ≤ 100) (w : World) : Calls Try.prog 14 #[.string s, .string t] w fun e w' => e = .returned (.bool (hasB (ls t) (ls s))) ∧ w = w' := by
  obtain ⟨R, HR⟩ : ∃ R, Hid (hasB (ls t) (ls s) = R) := ⟨_, Lib.hid rfl⟩
  rw [HR.out]
  go_enter Try.func14, Try.ntmps14
  go_wp2
  go_loop [5] (Rel14 s t) (fun i => s.size - (intOf i).toNat)
  case atStart => exact ⟨0, Nat.zero_le _, rfl, Lib.hid (by rw [List.drop_zero])⟩
  case round =>
    obtain ⟨k, hk, rfl, HX⟩ := hrel
    by_cases hlt : k + t.size ≤ s.size
    · have HA := Lib.hid (in_at s t k h1 hlt)
      obtain ⟨p, Hp⟩ : ∃ p, Hid (s.extract k (k + t.size) = p) := ⟨_, Lib.hid rfl⟩
      have hp := Hp.out
      rw [hp] at HA
      have c1 : (0 : Int) ≤ (k : Int) := by omega
      have c2 : (k : Int) ≤ (k : Int) + (t.size : Int) := by omega
      have c3 : (k : Int) + (t.size : Int) ≤ (s.size : Int) := by omega
      cases hq : (p.toList == t.toList)
      · have HX2 : Hid (hasB (ls t) ((ls s).drop (k + 1)) = hasB (ls t) (ls s)) := Lib.hid (by rw [← HX.out, HA.out, hq, Bool.false_or])
        go_wp2
        go_round
        case rel => exact ⟨k + 1, by omega, by go_num, HX2⟩
        case measure => simp [intOf]; omega
      · have hR : Hid (R = true) := Lib.hid (by rw [← HR.out, ← HX.out, HA.out, hq, Bool.true_or])
        go_wp2
        go_ret
        exact ⟨by rw [hR.out]; rfl, rfl⟩
    · have hR : Hid (R = false) := Lib.hid (by rw [← HR.out, ← HX.out]; exact hasB_short _ _ (by rw [List.length_drop, ls_len, ls_len]; omega))
      go_wp2
      go_ret
      exact ⟨by rw [hR.out]; rfl, rfl⟩
/-- Few texts, and short ones. -/
def smallB (ns : List ByteArray) : Bool := ns.all (fun s => decide (s.size ≤ 500)) && decide (ns.length ≤ 30)
theorem strs_at {w : World} {v : Value} {ns : List ByteArray} (h : Strs w v ns) (k : Nat) (hk : k < ns.length) : ∃ b off c, v = .slice (some ⟨b, off, none⟩) ns.length c ∧ ns.length ≤ c ∧ w.cell? ⟨b, off + k, none⟩ = some (.string ns[k]) := by
  rcases h with ⟨rfl, _⟩ | ⟨b, off, c, h1, h2, h3⟩
  · simp at hk
  · exact ⟨b, off, c, h1, h2, h3 k _ (List.getElem?_eq_getElem hk)⟩
def Rel7 (ns : List ByteArray) (i : Value) : Prop := ∃ k : Nat, k ≤ ns.length ∧ i = .int .i64 k ∧ Hid (∀ j (h : j < ns.length), j < k → ns[j].size ≤ 500)
set_option maxHeartbeats 4000000 in
set_option maxRecDepth 100000 in
theorem small7 (v : Value) (ns : List ByteArray) (w : World) (hv : Strs w v ns) (hn : ns.length ≤ 9223372036854775807) : Calls Try.prog 7 #[v] w fun e w' => e = .returned (.bool (smallB ns)) ∧ w = w' := by
  obtain ⟨a, c, rfl⟩ := hv.shape
  have HV := Lib.hid hv
  clear hv
  obtain ⟨n, Hn⟩ : ∃ n, Hid (ns.length = n) := ⟨_, Lib.hid rfl⟩
  rw [Hn.out] at hn ⊢
  go_enter Try.func7, Try.ntmps7
  go_wp2
  go_loop [7] (Rel7 ns) (fun i => n - (intOf i).toNat)
  case atStart => exact ⟨0, Nat.zero_le _, rfl, Lib.hid fun j h h0 => by omega⟩
  case round =>
    obtain ⟨k, hk, rfl, HX⟩ := hrel
    by_cases hlt : k < n
    · have hlt' : k < ns.length := by rw [Hn.out]; exact hlt
      obtain ⟨b, off, c', e, hc, hcell⟩ := strs_at HV.out k hlt'
      rw [Hn.out] at e hc
      cases e
      obtain ⟨x, Hx⟩ : ∃ x, Hid (ns[k] = x) := ⟨_, Lib.hid rfl⟩
      rw [Hx.out] at hcell
      by_cases h5 : x.size ≤ 500
      · have HX2 : Hid (∀ j (h : j < ns.length), j < k + 1 → ns[j].size ≤ 500) := Lib.hid fun j h h0 => by
          by_cases e : j = k
          · subst e; rw [Hx.out]; exact h5
          · exact HX.out j h (by omega)
        go_wp2
        go_round
        case rel => exact ⟨k + 1, hlt', by go_num, HX2⟩
        case measure => simp [intOf]; omega
      · have hR : Hid (smallB ns = false) := Lib.hid (by
          unfold smallB
          rw [Bool.and_eq_false_iff]; left
          rw [List.all_eq_false]
          exact ⟨x, by rw [← Hx.out]; exact List.getElem_mem hlt', by simpa using h5⟩)
        go_wp2
        go_ret
        exact ⟨by rw [hR.out]; rfl, rfl⟩
    · have hR : Hid (smallB ns = decide (n ≤ 30)) := Lib.hid (by
        unfold smallB
        rw [Hn.out]
        rw [show (ns.all fun s => decide (s.size ≤ 500)) = true from ?_, Bool.true_and]
        rw [List.all_eq_true]
        intro x hx
        obtain ⟨j, hj, e⟩ := List.getElem_of_mem hx
        have := HX.out j hj (by have := Hn.out; omega)
        rw [e] at this
        exact decide_eq_true this)
      go_wp2
      go_ret
      exact ⟨by rw [hR.out]; simp; omega, rfl⟩
/-- Letters read, by places. -/
def Rel24 (s : ByteArray) (n i : Value) : Prop := ∃ k acc : Nat, k ≤ 5 ∧ i = .int .i64 k ∧ n = .int .i64 acc ∧ acc < 26 ^ k ∧ Hid (rdf (5 - k) acc ((ls s).drop k) = rd (ls s))
theorem rdf_cut (s : ByteArray) (k acc : Nat) (h : k < s.size) (hk : k < 5) : rdf (5 - k) acc ((ls s).drop k) = if isL (at0 (ls s) k) then rdf (5 - (k + 1)) (acc * 26 + (at0 (ls s) k - 65)) ((ls s).drop (k + 1)) else none := by
  rw [ls_cut s k h, show 5 - k = (5 - (k + 1)) + 1 by omega, rdf]
  rw [UInt8.toNat_ofNat', Nat.mod_eq_of_lt (at0_lt _ _)]
/-- What read returns. -/
def rdV : Option Nat → Value
  | some n => .tuple #[.int .i64 n, .bool true]
  | none => .tuple #[.int .i64 0, .bool false]
set_option maxHeartbeats 4000000 in
set_option maxRecDepth 100000 in
theorem read24 (s : ByteArray) (hs : s.size ≤ 1000000) (w : World) : Calls Try.prog 24 #[.string s] w fun e w' => e = .returned (rdV (rd (ls s))) ∧ w = w' := by
  by_cases h5 : s.size < 5
  · have e : rd (ls s) = none := rdf_short 5 0 _ (by rw [ls_len]; exact h5)
    rw [e]
    clear e
    go_enter Try.func24, Try.ntmps24
    go_wp2
    go_ret2
    exact ⟨rfl, rfl⟩
  have hb := get_bt s
  have HA := Lib.hid (bt_at s)
  obtain ⟨R, HR⟩ : ∃ R, Hid (rd (ls s) = R) := ⟨_, Lib.hid rfl⟩
  rw [HR.out]
  go_enter Try.func24, Try.ntmps24
  go_wp2
  go_loop [4, 9] (Rel24 s) (fun _ i => 5 - (intOf i).toNat)
  case atStart => exact ⟨0, 0, by omega, rfl, rfl, by decide, Lib.hid (by rw [List.drop_zero]; rfl)⟩
  case round =>
    obtain ⟨k, acc, hk, rfl, rfl, hacc, HX⟩ := hrel
    by_cases hlt : k < 5
    · have hks : k < s.size := by omega
      have HC := Lib.hid (rdf_cut s k acc hks hlt)
      have hat := at0_lt (ls s) k
      have hbk := HA.out k
      have b1 := bt_nonneg s k
      have b2 := bt_le s k
      obtain ⟨x, Hx⟩ : ∃ x, Hid (at0 (ls s) k = x) := ⟨_, Lib.hid rfl⟩
      rw [Hx.out] at HC hat hbk
      have ha2 : acc < 11881376 := Nat.lt_of_lt_of_le hacc (by
        have : 26 ^ k ≤ 26 ^ 5 := Nat.pow_le_pow_right (by omega) (by omega)
        exact this)
      have HN : Hid (65 ≤ x → x ≤ 90 → acc * 26 + (x - 65) < 26 ^ (k + 1)) := Lib.hid fun h1 h2 => by
        rw [Nat.pow_succ]; omega
      clear hacc
      by_cases hx1 : x < 65
      · have hR : Hid (R = none) := Lib.hid (by rw [← HR.out, ← HX.out, HC.out, if_neg]; unfold isL; rw [decide_eq_false (by omega)]; simp)
        have hd1 : decide (bt s k < 65) = true := decide_eq_true (by omega)
        go_wp2
        go_ret2
        exact ⟨by rw [hR.out]; rfl, rfl⟩
      · by_cases hx2 : 90 < x
        · have hR : Hid (R = none) := Lib.hid (by rw [← HR.out, ← HX.out, HC.out, if_neg]; unfold isL; rw [decide_eq_false (by omega)]; simp)
          have hd1 : decide (bt s k < 65) = false := decide_eq_false (by omega)
          have hd2 : decide (90 < bt s k) = true := decide_eq_true (by omega)
          go_wp2
          go_ret2
          exact ⟨by rw [hR.out]; rfl, rfl⟩
        · have HX2 : Hid (rdf (5 - (k + 1)) (acc * 26 + (x - 65)) ((ls s).drop (k + 1)) = rd (ls s)) := Lib.hid (by
            rw [← HX.out, HC.out, if_pos]; unfold isL; exact decide_eq_true (by omega))
          have hd1 : decide (bt s k < 65) = false := decide_eq_false (by omega)
          have hd2 : decide (90 < bt s k) = false := decide_eq_false (by omega)
          have c1 : 65 ≤ bt s k := by omega
          have c2 : bt s k ≤ 90 := by omega
          have HV : Hid ((acc : Int) * 26 + ((x : Int) - 65) = ((acc * 26 + (x - 65) : Nat) : Int)) := Lib.hid (by omega)
          go_wp2
          go_round
          case rel => exact ⟨k + 1, acc * 26 + (x - 65), by omega, by go_num, congrArg _ HV.out, HN.out (by omega) (by omega), HX2⟩
          case measure => simp [intOf]; omega
    · obtain rfl : k = 5 := by omega
      have hR : Hid (R = some acc) := Lib.hid (by rw [← HR.out, ← HX.out]; rfl)
      go_wp2
      go_ret2
      exact ⟨by rw [hR.out]; rfl, rfl⟩
end Go.Proofs.Ytabnhdbhccbebaa
