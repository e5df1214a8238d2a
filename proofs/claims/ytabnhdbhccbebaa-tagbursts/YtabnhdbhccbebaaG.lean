/- Contract: First. Conditions: few texts, of lengths below a bound; the library's own variable holds some number. -/
import Derived.Test.YtabnhdbhccbebaaF
import Derived.WalkMore
namespace Go.Proofs.Ytabnhdbhccbebaa
open Go.RowKit Go.PlainAid
set_option linter.unusedSimpArgs false
set_option linter.unusedVariables false

def fiV : Option Nat → Value
  | some k => .tuple #[.int .i64 k, .int .i64 0]
  | none => .tuple #[.int .i64 0, .int .i64 42]
def Gives8 (f : Nat) (ns : List ByteArray) (w : World) (e : Ending) (w' : World) : Prop := ∃ o, FirstIs f (tk ns) o ∧ e = .returned (fiV o) ∧ Below w.heap.size w w'
def Jump8 (f g L : Nat) (v : Value) (t : List Bool) (w : World) (a' : Act) (w' : World) : Prop := ∃ i : Nat, i ≤ L ∧ Hid (∀ j, j < i → t[j]? = some true) ∧ Hid (TB g t w') ∧ Hid (Below w.heap.size w w') ∧
  ∃ (u2 u3 u8 u9 u10 u11 u12 u13 u14 u15 u16 u17 u18 u19 u20 u21 u22 u23 u24 u25 u26 u27 u28 : Value), a' = { tmps := #[.int .i64 f, v, u2, u3, .int .i64 0, .int .i64 0, .slice (some ⟨g, 0, none⟩) L L, .int .i64 i, u8, u9, u10, u11, u12, u13, u14, u15, u16, u17, u18, u19, u20, u21, u22, u23, u24, u25, u26, u27, u28], defers := [] }
theorem first_none {f : Nat} {P : Nat → Bool} (h : 11881376 ≤ f) : FirstIs f P none := fun j h1 h2 => by omega
theorem taken_at {f L i : Nat} {ns : List ByteArray} (hi : i < L) : (marks f (List.replicate L false) (allH ns))[i]? = some (tk ns (f + i)) := by
  rw [marks_get f _ _ i (by simpa using hi)]
  simp [tk]
theorem first_free {f L i : Nat} {ns : List ByteArray} {t : List Bool} (ht : marks f (List.replicate L false) (allH ns) = t) (hL : L ≤ 11881376 - f) (hi : i < L) (h : ∀ j, j < i → t[j]? = some true) (hf : t[i]? = some false) : FirstIs f (tk ns) (some (f + i)) := by
  subst ht
  refine ⟨by omega, by omega, ?_, ?_⟩
  · rw [taken_at hi] at hf; exact Option.some.inj hf
  · intro j h1 h2
    have := h (j - f) (by omega)
    rw [taken_at (by omega), show f + (j - f) = j by omega] at this
    exact Option.some.inj this
theorem first_all {f L : Nat} {ns : List ByteArray} {t : List Bool} (ht : marks f (List.replicate L false) (allH ns) = t) (hL : L = min ((allH ns).length + 1) (11881376 - f)) (h : ∀ j, j < L → t[j]? = some true) : FirstIs f (tk ns) none := by
  subst ht
  have ha : ∀ i, i < L → tk ns (f + i) = true := fun i hi => by
    have := h i hi
    rw [taken_at hi] at this
    exact Option.some.inj this
  have := all_taken ha
  intro j h1 h2
  have := ha (j - f) (by omega)
  rw [show f + (j - f) = j by omega] at this
  exact this
set_option maxHeartbeats 4000000 in
set_option maxRecDepth 100000 in
theorem first8_out (F : Int) (v : Value) (ns : List ByteArray) (w : World) (hF : 11881376 ≤ F) : Calls Try.prog 8 #[.int .i64 F, v] w (Gives8 F.toNat ns w) := by
  have CR := Lib.hid (right15 F)
  rw [decide_eq_false (p := F < 11881376) (by omega), Bool.and_false] at CR
  have HN := Lib.hid (first_none (f := F.toNat) (P := tk ns) (by omega))
  have hm : max F 0 = F := by omega
  go_enter Try.func8, Try.ntmps8
  go_wp2
  refine wp_scope_jumps 0 (fun _ _ => False) (fun _ _ => 0) rfl ?_ ?_
  · go_wp2_with fail
    refine (CR.out _).mono ?_
    rintro e w1 ⟨rfl, rfl⟩
    go_wp2
    simp only [Exit.jump]
    go_ret2
    exact ⟨none, HN.out, rfl, Below.refl _ _⟩
  · rintro a' w' h; exact h.elim
set_option maxHeartbeats 4000000 in
set_option maxRecDepth 100000 in
theorem first8_in (F : Int) (f : Nat) (hFf : max F 0 = (f : Int)) (v : Value) (ns : List ByteArray) (w : World) (hf : f < 11881376) (he : Env w) (hv : Strs w v ns) (hFw : Few ns) : Calls Try.prog 8 #[.int .i64 F, v] w (Gives8 f ns w) := by
  have CR := Lib.hid (right15 f)
  rw [decide_eq_true (p := (0 : Int) ≤ (f : Int)) (by omega), decide_eq_true (p := (f : Int) < 11881376) (by omega), Bool.and_self] at CR
  have CT := Lib.hid (taken16 f hf v ns w he hv hFw)
  have hH := hFw.heads
  have hL : ∃ L, Hid (L = min ((allH ns).length + 1) (11881376 - f)) := ⟨_, Lib.hid rfl⟩
  obtain ⟨L, HL⟩ := hL
  have hL1 : 1 ≤ L := by rw [HL.out]; omega
  have hL2 : L ≤ 60001 := by rw [HL.out]; omega
  have HL3 : Hid (L ≤ 11881376 - f) := Lib.hid (by rw [HL.out]; omega)
  obtain ⟨t, Ht⟩ : ∃ t, Hid (marks f (List.replicate L false) (allH ns) = t) := ⟨_, Lib.hid rfl⟩
  have Htl : Hid (t.length = L) := Lib.hid (by rw [← Ht.out, marks_len]; simp)
  have HCT : Hid (Calls Try.prog 16 #[.int .i64 f, v] w fun e w' => ∃ g, w.heap.size ≤ g ∧ e = .returned (.slice (some ⟨g, 0, none⟩) L L) ∧ TB g t w' ∧ Below w.heap.size w w') := Lib.hid (CT.out.mono fun e w' h => by
    obtain ⟨g, L', h1, h2, h3, h4, h5⟩ := h
    rw [← HL.out] at h2
    subst h2
    exact ⟨g, h1, h3, by rw [← Ht.out]; exact h4, h5⟩)
  clear he hv hFw CT hH
  go_enter Try.func8, Try.ntmps8
  go_wp2
  refine wp_scope_jumps 0 (fun a' w' => ∃ g, Jump8 f g L v t w a' w') (fun a' _ => L - (intOf (a'.tmps.getD 7 undef)).toNat) rfl ?_ ?_
  · go_wp2_with fail
    refine (CR.out _).mono ?_
    rintro e w1 ⟨rfl, rfl⟩
    go_wp2_with fail
    refine HCT.out.mono ?_
    rintro e w1 ⟨g, hg, rfl, hT, b1⟩
    have HT := Lib.hid hT
    have HB := Lib.hid b1
    clear hT b1 HCT CR
    go_wp2
    go_step3
    obtain ⟨b, hb⟩ : ∃ b, t[0]? = some b := ⟨_, List.getElem?_eq_getElem (by rw [Htl.out]; omega)⟩
    have hcell := HT.out.cell _ _ hb
    rw [Nat.add_zero] at hcell
    have HBb := Lib.hid hb
    clear hb
    cases b
    · have HN := Lib.hid (first_free Ht.out HL3.out (by omega) (fun j h => by omega) HBb.out)
      go_wp2
      simp only [Exit.jump]
      go_ret2
      exact ⟨some (f + 0), HN.out, by go_num, HB.out⟩
    · go_wp2
      go_step3
      exact ⟨rfl, g, 1, by omega, Lib.hid (fun j h => by obtain rfl : j = 0 := by omega
                                                         exact HBb.out), HT, HB, _, _, _, _, _, _, _, _, _, _, _, _, _, _, _, _, _, _, _, _, _, _, _, rfl⟩
  · rintro a' w' ⟨g, i, hi, HI, HT, HB, u2, u3, u8, u9, u10, u11, u12, u13, u14, u15, u16, u17, u18, u19, u20, u21, u22, u23, u24, u25, u26, u27, u28, rfl⟩
    clear HCT CR
    by_cases hlt : i < L
    · obtain ⟨b, hb⟩ : ∃ b, t[i]? = some b := ⟨_, List.getElem?_eq_getElem (by rw [Htl.out]; omega)⟩
      have hcell := HT.out.cell _ _ hb
      rw [Nat.zero_add] at hcell
      have HBb := Lib.hid hb
      clear hb
      cases b
      · have HN := Lib.hid (first_free Ht.out HL3.out hlt HI.out HBb.out)
        go_wp2
        simp only [Exit.jump]
        go_ret2
        exact ⟨some (f + i), HN.out, by go_num, HB.out⟩
      · go_wp2
        go_step3
        exact ⟨rfl, ⟨g, i + 1, by omega, Lib.hid (fun j h => by
          by_cases e : j = i
          · subst e; exact HBb.out
          · exact HI.out j (by omega)), HT, HB, _, _, _, _, _, _, _, _, _, _, _, _, _, _, _, _, _, _, _, _, _, _, _, rfl⟩, by simp [intOf]; omega⟩
    · obtain rfl : i = L := by omega
      have HN := Lib.hid (first_all Ht.out HL.out HI.out)
      go_wp2
      simp only [Exit.jump]
      go_ret2
      exact ⟨none, HN.out, rfl, HB.out⟩
end Go.Proofs.Ytabnhdbhccbebaa
