/- Contracts: the writer's text and escaped. Conditions: lengths below a bound. -/
import Derived.Test.YtfaohicadahcjaaGreatDoorK
import Derived.Deep.RegionHeld3
namespace Go.Proofs.YtfaohicadahcjaaGreatDoor
open Go.RowKit Go.PlainAid Go.ChangeShapes Go.WideShapes Go.ChangeAt
set_option linter.unusedSimpArgs false
set_option linter.unusedVariables false
theorem ke_cell {D : Nat} {w w' : World} (h : Ke D w w') {g : Nat} {cs : Array Value} {t : TypeId} {fr : Nat × Nat} (hg : w.heap[g]? = some (.cells cs t fr)) (hD : g ≠ D) (ht : t ≠ 5) : w'.heap[g]? = some (.cells cs t fr) := by
  rw [h.keep g (lt_of_block hg) hD (fun c fr' e => by rw [hg] at e; cases e; exact ht rfl), hg]
theorem IsBld.ty {B D : Nat} {T : TypeId} {rest : List Value} {v : Value} {l : List UInt8} {w : World} (h : IsBld B D T rest v l w) : ∃ cs, w.heap[D]? = some (.cells cs T (0, 0)) := h.elim (fun h => ⟨_, h.blk⟩) (fun h => ⟨_, h.blk⟩)
theorem ne_ty {w : World} {g D : Nat} {cs cs' : Array Value} {t t' : TypeId} {fr fr' : Nat × Nat} (h : w.heap[g]? = some (.cells cs t fr)) (h' : w.heap[D]? = some (.cells cs' t' fr')) (ht : t ≠ t') : g ≠ D := by
  rintro rfl; rw [h] at h'; cases h'; exact ht rfl
/-- A list of texts that a call was given, in a block of its own. -/
def Lits (w : World) (v : Value) (ns : List ByteArray) : Prop := ∃ g fr, v = .slice (some ⟨g, 0, none⟩) ns.length ns.length ∧ w.heap[g]? = some (.cells (ns.map Value.string).toArray 9 fr)
theorem Lits.keep {w w' : World} {v : Value} {ns : List ByteArray} {D : Nat} (h : Lits w v ns) (hk : Ke D w w') {cs : Array Value} (hD : w.heap[D]? = some (.cells cs 72 (0, 0))) : Lits w' v ns := by
  obtain ⟨g, fr, e, hg⟩ := h
  exact ⟨g, fr, e, ke_cell hk hg (ne_ty hg hD (by decide)) (by decide)⟩
/-- What a method of the writer does: it writes a text. -/
def Wrote (B D : Nat) (rest : List Value) (l t : List UInt8) (w : World) (e : Ending) (w' : World) : Prop :=
  e = .returned (.tuple #[]) ∧ ∃ v', IsBld B D 72 rest v' (l ++ t) w' ∧ Ke D w w' ∧ Below B w w'
def flatS (ns : List ByteArray) : List UInt8 := (ns.map ls).flatten
theorem flat_cut (ns : List ByteArray) (k : Nat) (h : k < ns.length) : flatS (ns.drop k) = ls ns[k] ++ flatS (ns.drop (k + 1)) := by
  unfold flatS; rw [List.drop_eq_getElem_cons h]; rfl
def Rel75 (B D : Nat) (rest : List Value) (l : List UInt8) (ns : List ByteArray) (sv : Value) (w : World) (i : Value) (wx : World) : Prop := ∃ (k : Nat) (v : Value) (acc : List UInt8), k ≤ ns.length ∧ i = .int .i64 k ∧ IsBld B D 72 rest v acc wx ∧ Lits wx sv ns ∧ Ke D w wx ∧ Below B w wx ∧ Hid (l ++ flatS ns = acc ++ flatS (ns.drop k))
set_option maxHeartbeats 4000000 in
set_option maxRecDepth 100000 in
theorem text75 (B D : Nat) (rest : List Value) (v : Value) (l : List UInt8) (ns : List ByteArray) (sv : Value) (w : World) (h : IsBld B D 72 rest v l w) (hs : Lits w sv ns) (hlen : (l ++ flatS ns).length ≤ 140737488351232) (hn : ns.length ≤ 100) (hBw : B ≤ w.heap.size) :
    Calls Tryz.prog 75 #[.pointer (some ⟨D, 0, none⟩), sv] w (Wrote B D rest l (flatS ns) w) := by
  have HS := Lib.hid (show Rel75 B D rest l ns sv w (.int .i64 0) w from ⟨0, v, l, Nat.zero_le _, rfl, h, hs, Ke.refl _ _, Below.refl _ _, Lib.hid (by simp)⟩)
  have HBw := Lib.hid hBw
  obtain ⟨g, fr, rfl, _⟩ := hs
  obtain ⟨q, Hq⟩ : ∃ q, Hid (ns.length = q) := ⟨_, Lib.hid rfl⟩
  have HL := Lib.hid hlen
  rw [Hq.out] at hn HS ⊢
  clear h hlen hBw
  go_enter Tryz.func75, Tryz.ntmps75
  go_wp2
  go_loopw [8] (Rel75 B D rest l ns (.slice (some ⟨g, 0, none⟩) q q) w) (fun i _ => q - (intOf i).toNat)
  case atStart => exact HS.out
  case round =>
    clear HS
    obtain ⟨k, v, acc, hk, rfl, HD, HT, HK, HB, HR⟩ := hrel
    rename World => wx
    rw [Hq.out] at hk
    have HD := Lib.hid HD
    have HT := Lib.hid HT
    have HK := Lib.hid HK
    have HB := Lib.hid HB
    by_cases hlt : k < q
    · have hlt' : k < ns.length := by rw [Hq.out]; exact hlt
      obtain ⟨g', fr', e, hg⟩ := HT.out
      rw [Hq.out] at e
      cases e
      obtain ⟨x, Hx⟩ : ∃ x, Hid (ns[k] = x) := ⟨_, Lib.hid rfl⟩
      have hc : wx.cell? ⟨g, k, none⟩ = some (.string x) := cells_at hg (by rw [List.getElem?_toArray, List.getElem?_map, List.getElem?_eq_getElem hlt', ← Hx.out]; rfl)
      have HC := Lib.hid (flat_cut ns k hlt')
      rw [Hx.out] at HC
      have hal : acc.length + x.size ≤ 140737488351232 := by
        have h1 := HL.out
        rw [HR.out, HC.out] at h1
        simp only [List.length_append, ls_len] at h1
        omega
      have CW := Lib.hid (wstr45 B D 72 rest v acc x wx HD.out hal (Nat.le_trans HBw.out HB.out.size))
      clear hg hal
      go_wp2_with fail
      refine CW.out.mono ?_
      rintro e w3 ⟨rfl, v', h3, k3, b3⟩
      obtain ⟨cs, hcs⟩ := HD.out.ty
      have H := Lib.hid (show Rel75 B D rest l ns (.slice (some ⟨g, 0, none⟩) q q) w (.int .i64 ((k : Int) + 1)) w3 from ⟨k + 1, v', _, hlt', by go_num, h3, HT.out.keep k3 hcs, HK.out.trans k3, HB.out.trans b3, Lib.hid (by rw [HR.out, HC.out, List.append_assoc])⟩)
      clear h3 k3 b3 hcs
      go_wp2
      go_round
      case rel => exact H.out
      case measure => simp [intOf]; omega
    · obtain rfl : k = q := by omega
      have HE : Hid (l ++ flatS ns = acc) := Lib.hid (by rw [HR.out, List.drop_of_length_le (by rw [Hq.out]; exact Nat.le_refl _)]; simp [flatS])
      go_wp2
      go_end0
      exact ⟨rfl, v, by rw [HE.out]; exact HD.out, HK.out, HB.out⟩
theorem esc_cut (s : ByteArray) (k : Nat) (h : k < s.size) (b : Bool) (hb : hasC [92, 36, 96] (at0 (ls s) k) = b) : escL ((ls s).drop k) = (if b = true then [92] else []) ++ (UInt8.ofNat (at0 (ls s) k) :: escL ((ls s).drop (k + 1))) := by
  rw [ls_cut s k h, escL]
  have : b = decide (UInt8.ofNat (at0 (ls s) k) = 92 ∨ UInt8.ofNat (at0 (ls s) k) = 36 ∨ UInt8.ofNat (at0 (ls s) k) = 96) := by
    rw [← hb]; unfold hasC
    rw [Bool.eq_iff_iff]; simp
  by_cases e : UInt8.ofNat (at0 (ls s) k) = 92 ∨ UInt8.ofNat (at0 (ls s) k) = 36 ∨ UInt8.ofNat (at0 (ls s) k) = 96
  · rw [if_pos e, this, decide_eq_true e]; rfl
  · rw [if_neg e, this, decide_eq_false e]; rfl
def Rel54 (B D : Nat) (rest : List Value) (l : List UInt8) (s : ByteArray) (w : World) (i : Value) (wx : World) : Prop := ∃ (k : Nat) (v : Value) (acc : List UInt8), k ≤ s.size ∧ i = .int .i64 k ∧ IsBld B D 72 rest v acc wx ∧ Ke D w wx ∧ Below B w wx ∧ acc.length ≤ l.length + k * 2 ∧ Hid (l ++ escL (ls s) = acc ++ escL ((ls s).drop k))
set_option maxHeartbeats 8000000 in
set_option maxRecDepth 100000 in
theorem escaped54 (B D : Nat) (rest : List Value) (v : Value) (l : List UInt8) (s : ByteArray) (w : World) (h : IsBld B D 72 rest v l w) (hlen : l.length + s.size * 2 ≤ 140737488351000) (hBw : B ≤ w.heap.size) :
    Calls Tryz.prog 54 #[.pointer (some ⟨D, 0, none⟩), .string s] w (Wrote B D rest l (escL (ls s)) w) := by
  have HS := Lib.hid (show Rel54 B D rest l s w (.int .i64 0) w from ⟨0, v, l, Nat.zero_le _, rfl, h, Ke.refl _ _, Below.refl _ _, by omega, Lib.hid (by simp)⟩)
  have HBw := Lib.hid hBw
  have hss : s.size ≤ 140737488351000 := by omega
  have HL := Lib.hid hlen
  have hb := get_bt s
  clear h hlen hBw
  go_enter Tryz.func54, Tryz.ntmps54
  go_wp2
  go_loopw [7] (Rel54 B D rest l s w) (fun i _ => s.size - (intOf i).toNat)
  case atStart => exact HS.out
  case round =>
    clear HS
    obtain ⟨k, v, acc, hk, rfl, HD, HK, HB, hac, HR⟩ := hrel
    rename World => wx
    have HD := Lib.hid HD
    have HK := Lib.hid HK
    have HB := Lib.hid HB
    have HA := Lib.hid hac
    clear hac
    by_cases hlt : k < s.size
    · have C48 := Lib.hid fun W => ib48 ⟨#[92, 36, 96]⟩ (at0 (ls s) k) W
      rw [← bt_at, show ls ⟨#[92, 36, 96]⟩ = [92, 36, 96] from rfl] at C48
      have HC := Lib.hid fun b hb => esc_cut s k hlt b hb
      obtain ⟨b0, H0⟩ : ∃ b, Hid (hasC [92, 36, 96] (at0 (ls s) k) = b) := ⟨_, Lib.hid rfl⟩
      rw [H0.out] at C48
      have HC := Lib.hid (HC.out b0 H0.out)
      have hbu : (bt s k : Int) = ((UInt8.ofNat (at0 (ls s) k)).toNat : Int) := by rw [ofNat_toNat, bt_at]
      have HU := Lib.hid hbu
      clear hbu
      obtain ⟨u, Hu⟩ : ∃ u, Hid (UInt8.ofNat (at0 (ls s) k) = u) := ⟨_, Lib.hid rfl⟩
      rw [Hu.out] at HC HU
      have CB := Lib.hid fun (v1 : Value) (a1 : List UInt8) (c : UInt8) (W : World) (hW : IsBld B D 72 rest v1 a1 W) (hl : a1.length + 1 ≤ 140737488351232) (hB : B ≤ W.heap.size) => wbyte73 B D 72 rest v1 a1 c W hW hl hB
      cases b0
      · have HZ := Lib.hid (CB.out v acc u wx.drew (HD.out.below ((Below.refl _ wx).drew)) (by have := HL.out; have := HA.out; omega) (Nat.le_trans HBw.out HB.out.size))
        rw [← HU.out] at HZ
        have HF := Lib.hid fun (e : Ending) (w' : World) (hh : e = .returned .nilIface ∧ ∃ v', IsBld B D 72 rest v' (acc ++ [u]) w' ∧ Ke D wx.drew w' ∧ Below B wx.drew w') => (show e = .returned .nilIface ∧ Rel54 B D rest l s w (.int .i64 ((k : Int) + 1)) w' from ⟨hh.1, by
          obtain ⟨_, v', h1, h2, h3⟩ := hh
          exact ⟨k + 1, v', _, hlt, by go_num, h1, HK.out.trans ⟨h2.size, h2.keep⟩, HB.out.trans (((Below.refl _ wx).drew).trans h3), by have := HA.out; simp only [List.length_append, List.length_cons, List.length_nil]; omega, Lib.hid (by rw [HR.out, HC.out]; simp)⟩⟩)
        go_wp2_with (go_at_call 48; refine (C48.out _).mono ?_; rintro e w' ⟨⟨x, rfl, hx1, hx2⟩, rfl⟩)
        go_region_held3 (fun wy => True) (first | trivial) (first | (go_at_call 73; refine HZ.out.mono ?_; intro e w' hh; obtain ⟨rfl, hr⟩ := HF.out e w' hh))
        go_wp2
        go_round
        case rel => exact hr
        case measure => simp [intOf]; omega
      · have HZ1 : Hid (Calls Tryz.prog 73 #[.pointer (some ⟨D, 0, none⟩), .int .u8 92] wx fun e w' => e = .returned .nilIface ∧ ∃ v', IsBld B D 72 rest v' (acc ++ [92]) w' ∧ Ke D wx w' ∧ Below B wx w') := Lib.hid (CB.out v acc 92 wx HD.out (by have := HL.out; have := HA.out; omega) (Nat.le_trans HBw.out HB.out.size))
        go_wp2_with (go_at_call 48; refine (C48.out _).mono ?_; rintro e w' ⟨⟨x, rfl, hx1, hx2⟩, rfl⟩)
        refine HZ1.out.mono ?_
        rintro e w3 ⟨rfl, v3, h3, k3, b3⟩
        have HB3 := Lib.hid (HB.out.trans b3)
        have HK3 := Lib.hid (HK.out.trans k3)
        have HZ := Lib.hid (CB.out v3 (acc ++ [92]) u w3.drew (h3.below ((Below.refl _ w3).drew)) (by have := HL.out; have := HA.out; simp only [List.length_append, List.length_cons, List.length_nil]; omega) (Nat.le_trans HBw.out HB3.out.size))
        rw [← HU.out] at HZ
        have HF := Lib.hid fun (e : Ending) (w' : World) (hh : e = .returned .nilIface ∧ ∃ v', IsBld B D 72 rest v' (acc ++ [92] ++ [u]) w' ∧ Ke D w3.drew w' ∧ Below B w3.drew w') => (show e = .returned .nilIface ∧ Rel54 B D rest l s w (.int .i64 ((k : Int) + 1)) w' from ⟨hh.1, by
          obtain ⟨_, v', h1, h2, h3⟩ := hh
          exact ⟨k + 1, v', _, hlt, by go_num, h1, HK3.out.trans ⟨h2.size, h2.keep⟩, HB3.out.trans (((Below.refl _ w3).drew).trans h3), by have := HA.out; simp only [List.length_append, List.length_cons, List.length_nil]; omega, Lib.hid (by rw [HR.out, HC.out]; simp)⟩⟩)
        clear h3 k3 b3
        go_wp2_with fail
        go_region_held3 (fun wy => True) (first | trivial) (first | (go_at_call 73; refine HZ.out.mono ?_; intro e w' hh; obtain ⟨rfl, hr⟩ := HF.out e w' hh))
        go_wp2
        go_round
        case rel => exact hr
        case measure => simp [intOf]; omega
    · obtain rfl : k = s.size := by omega
      have HE : Hid (l ++ escL (ls s) = acc) := Lib.hid (by rw [HR.out, drop_end]; simp [escL])
      go_wp2
      go_end0
      exact ⟨rfl, v, by rw [HE.out]; exact HD.out, HK.out, HB.out⟩
set_option maxHeartbeats 1000000 in
set_option maxRecDepth 100000 in
theorem word105_nil (D : Nat) (a : Option Addr) (c : Nat) (w : World) : Calls Tryz.prog 105 #[.pointer (some ⟨D, 0, none⟩), .slice a 0 c] w fun e w' => e = .returned (.tuple #[]) ∧ w = w' := by
  go_enter Tryz.func105, Tryz.ntmps105
  go_wp2
  go_loop [8] (fun i => i = .int .i64 0) (fun i => 0)
  case atStart => rfl
  case round =>
    subst hrel
    go_wp2
    go_end0
    exact ⟨rfl, rfl⟩
end Go.Proofs.YtfaohicadahcjaaGreatDoor
