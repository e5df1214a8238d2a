/- Contracts: takenFrom, First. Conditions: few texts, of lengths below a bound; the library's own variable holds some number. -/
import Derived.Test.YtabnhdbhccbebaaE
namespace Go.Proofs.Ytabnhdbhccbebaa
open Go.RowKit Go.PlainAid
set_option linter.unusedSimpArgs false
set_option linter.unusedVariables false

theorem allH_take {ns : List ByteArray} {k : Nat} {x : ByteArray} (hk : k < ns.length) (hx : ns[k] = x) : allH (ns.take (k + 1)) = allH (ns.take k) ++ heads (ls x) := by
  rw [List.take_succ_eq_append_getElem hk, allH_app, hx]
  simp [allH]
theorem allH_le (ns : List ByteArray) (h : ∀ s ∈ ns, s.size ≤ 2000) : (allH ns).length ≤ 2000 * ns.length := by
  induction ns with
  | nil => simp [allH]
  | cons s ns ih =>
    rw [allH_cons, List.length_append]
    have h1 := heads_le (ls s)
    have h2 := h s (by simp)
    have h3 := ih (fun x hx => h x (by simp [hx]))
    rw [ls_len] at h1
    simp; omega
def Few (ns : List ByteArray) : Prop := ns.length ≤ 30 ∧ ∀ s ∈ ns, s.size ≤ 2000
theorem Few.take {ns : List ByteArray} (h : Few ns) (k : Nat) : Few (ns.take k) := ⟨by rw [List.length_take]; have := h.1; omega, fun s hs => h.2 s (List.mem_of_mem_take hs)⟩
theorem Few.heads {ns : List ByteArray} (h : Few ns) : (allH ns).length ≤ 60000 := by have := allH_le ns h.2; have := h.1; omega
def Rel16a (ns : List ByteArray) (h i : Value) : Prop := ∃ k H : Nat, k ≤ ns.length ∧ i = .int .i64 k ∧ h = .int .i64 H ∧ Hid ((allH (ns.take k)).length = H) ∧ H ≤ 60000
def Rel16b (g f L : Nat) (ns : List ByteArray) (w : World) (i : Value) (wx : World) : Prop := ∃ k : Nat, k ≤ ns.length ∧ i = .int .i64 k ∧ Hid (TB g (marks f (List.replicate L false) (allH (ns.take k))) wx) ∧ Hid (Below w.heap.size w wx)
def Gives16 (f : Nat) (ns : List ByteArray) (w : World) (e : Ending) (w' : World) : Prop := ∃ g L, w.heap.size ≤ g ∧ L = min ((allH ns).length + 1) (11881376 - f) ∧ e = .returned (.slice (some ⟨g, 0, none⟩) L L) ∧ TB g (marks f (List.replicate L false) (allH ns)) w' ∧ Below w.heap.size w w'
set_option maxHeartbeats 4000000 in
set_option maxRecDepth 100000 in
theorem taken16 (f : Nat) (hf : f < 11881376) (v : Value) (ns : List ByteArray) (w : World) (he : Env w) (hv : Strs w v ns) (hF : Few ns) : Calls Try.prog 16 #[.int .i64 f, v] w (Gives16 f ns w) := by
  obtain ⟨a, c, rfl⟩ := hv.shape
  have HV := Lib.hid hv
  have HE := Lib.hid he
  have HF := Lib.hid hF
  clear hv he hF
  have hn : ns.length ≤ 30 := HF.out.1
  obtain ⟨n, Hn⟩ : ∃ n, Hid (ns.length = n) := ⟨_, Lib.hid rfl⟩
  rw [Hn.out] at hn ⊢
  go_enter Try.func16, Try.ntmps16
  go_wp2
  go_loop [5, 13] (Rel16a ns) (fun _ i => n - (intOf i).toNat)
  case atStart => exact ⟨0, 0, Nat.zero_le _, rfl, rfl, Lib.hid rfl, by omega⟩
  case round =>
    obtain ⟨k, H, hk, rfl, rfl, HH, hH⟩ := hrel
    by_cases hlt : k < n
    · have hlt' : k < ns.length := by rw [Hn.out]; exact hlt
      obtain ⟨b, off, c', e, hc, hcell⟩ := strs_at HV.out k hlt'
      rw [Hn.out] at e hc
      cases e
      obtain ⟨x, Hx⟩ : ∃ x, Hid (ns[k] = x) := ⟨_, Lib.hid rfl⟩
      rw [Hx.out] at hcell
      have hx : x.size ≤ 2000 := HF.out.2 x (by rw [← Hx.out]; exact List.getElem_mem hlt')
      have C1 := Lib.hid (count18 x 66 81 w HE.out (by omega))
      have C2 := Lib.hid (count18 x 69 81 w HE.out (by omega))
      have HH2 : Hid ((allH (ns.take (k + 1))).length = H + ((occ 66 81 (ls x)).length + (occ 69 81 (ls x)).length)) := Lib.hid (by
        rw [allH_take hlt' Hx.out, List.length_append, HH.out]; unfold heads; rw [List.length_append])
      have hH2 : H + ((occ 66 81 (ls x)).length + (occ 69 81 (ls x)).length) ≤ 60000 := by
        rw [← HH2.out]; exact (HF.out.take _).heads
      generalize (occ 66 81 (ls x)).length = p at C1 HH2 hH2
      generalize (occ 69 81 (ls x)).length = q at C2 HH2 hH2
      go_wp2_with fail
      refine C1.out.mono ?_
      rintro e w' ⟨rfl, rfl⟩
      go_wp2_with fail
      refine C2.out.mono ?_
      rintro e w' ⟨rfl, rfl⟩
      go_wp2
      go_round
      case rel => exact ⟨k + 1, _, hlt', by go_num, by go_num, HH2, hH2⟩
      case measure => simp [intOf]; omega
    · obtain rfl : k = n := by rw [Hn.out] at hk; omega
      have hL : Hid ((allH ns).length = H) := Lib.hid (by rw [← HH.out, ← Hn.out, List.take_length])
      obtain ⟨L, HL⟩ : ∃ L, Hid (min (H + 1) (11881376 - f) = L) := ⟨_, Lib.hid rfl⟩
      have hLf : L ≤ 60001 := by rw [← HL.out]; omega
      have hLI : min ((H : Int) + 1) (11881376 - (f : Int)) = (L : Int) := by rw [← HL.out]; omega
      obtain ⟨w1, hmk, hT, hB⟩ := run_makeB L (by omega) w
      obtain ⟨g, Hg⟩ : ∃ g, Hid (w.heap.size = g) := ⟨_, Lib.hid rfl⟩
      rw [Hg.out] at hmk hT
      have HT := Lib.hid hT
      have HB := Lib.hid hB
      have hg0 : 0 < g := by rw [← Hg.out]; exact HE.out.pos
      have HL2 : Hid (L = min ((allH ns).length + 1) (11881376 - f)) := Lib.hid (by rw [hL.out, HL.out])
      clear hT hB HH HL
      go_wp2
      try rw [hLI, hmk]
      try simp only [Result.andThen]
      try rw [Oper.upon_value]
      go_wp2
      go_loopw [33] (Rel16b g f L ns w) (fun i _ => k - (intOf i).toNat)
      case atStart => exact ⟨0, Nat.zero_le _, rfl, HT, HB⟩
      case round =>
        clear hmk hLI hL HT HB hk
        obtain ⟨j, hj, rfl, HT, HB⟩ := hrel
        rename World => wx
        by_cases hlt2 : j < k
        · have hlt' : j < ns.length := by rw [Hn.out]; exact hlt2
          obtain ⟨b, off, c', e, hc, hcell⟩ := strs_at (HV.out.below HB.out) j hlt'
          rw [Hn.out] at e hc
          cases e
          obtain ⟨x, Hx⟩ : ∃ x, Hid (ns[j] = x) := ⟨_, Lib.hid rfl⟩
          rw [Hx.out] at hcell
          have hx : x.size ≤ 2000 := HF.out.2 x (by rw [← Hx.out]; exact List.getElem_mem hlt')
          obtain ⟨t, Ht⟩ : ∃ t, Hid (marks f (List.replicate L false) (allH (ns.take j)) = t) := ⟨_, Lib.hid rfl⟩
          have HT2 : Hid (marks f (marks f t (occ 66 81 (ls x))) (occ 69 81 (ls x)) = marks f (List.replicate L false) (allH (ns.take (j + 1)))) := Lib.hid (by
            rw [allH_take hlt' Hx.out, marks_app, Ht.out, ← marks_app]; rfl)
          have htl : t.length = L := by rw [← Ht.out, marks_len]; simp
          rw [Ht.out] at HT
          have htl2 : (marks f t (occ 66 81 (ls x))).length = L := by rw [marks_len]; exact htl
          have HEx := Lib.hid (HE.out.on HB.out)
          have C1 := Lib.hid (take19 g f L 66 81 x t wx HEx.out hg0 HT.out htl (by omega) hf (by omega))
          obtain ⟨u, Hu⟩ : ∃ u, Hid (marks f t (occ 66 81 (ls x)) = u) := ⟨_, Lib.hid rfl⟩
          rw [Hu.out] at C1 HT2 htl2
          have hlow : w.heap.size ≤ g := by rw [Hg.out]; exact Nat.le_refl _
          clear Ht Hu htl
          go_wp2_with fail
          refine C1.out.mono ?_
          rintro e w2 ⟨rfl, hT2, b2⟩
          have HU := Lib.hid hT2
          have HB2 := Lib.hid (HB.out.trans (b2.mono hlow))
          have HE2 := Lib.hid (HEx.out.at0 b2 hg0)
          have C2 := Lib.hid (take19 g f L 69 81 x u w2 HE2.out hg0 HU.out htl2 (by omega) hf (by omega))
          obtain ⟨y, Hy⟩ : ∃ y, Hid (marks f u (occ 69 81 (ls x)) = y) := ⟨_, Lib.hid rfl⟩
          rw [Hy.out] at C2 HT2
          clear hT2 b2 C1 HT HB HEx
          go_wp2_with fail
          refine C2.out.mono ?_
          rintro e w3 ⟨rfl, hT3, b3⟩
          have HU3 := Lib.hid hT3
          have HB3 := Lib.hid (HB2.out.trans (b3.mono hlow))
          clear hT3 b3 C2 HU HB2 HE2 hcell
          go_wp2
          go_roundw
          case rel => exact ⟨j + 1, hlt', by go_num, Lib.hid (by rw [← HT2.out]; exact HU3.out), HB3⟩
          case measure => simp [intOf]; omega
        · obtain rfl : j = k := by rw [Hn.out] at hj; omega
          go_wp2
          go_ret
          exact ⟨g, L, by rw [Hg.out]; exact Nat.le_refl _, HL2.out, rfl, by have := HT.out; rw [← Hn.out, List.take_length] at this; exact this, HB.out⟩
end Go.Proofs.Ytabnhdbhccbebaa
