/- Structs in blocks of their own; the contract of readPlace. Conditions: lengths below a bound. -/
import Derived.Test.YtckhomeokhhneaaDoorH
import Derived.OneCell
import Derived.Laws.Tables
import Derived.Deep.DeepCutAuto
namespace Go.Proofs.YtckhomeokhhneaaDoor
open Go.RowKit Go.PlainAid
set_option linter.unusedSimpArgs false
set_option linter.unusedVariables false

theorem alloc_setRow (w : World) (c d : Array Value) (t : TypeId) : (w.alloc (.cells c t)).setRow w.heap.size d = w.alloc (.cells d t) := by
  unfold World.setRow World.alloc
  congr 1
  apply Array.ext (by simp)
  intro i h1 h2
  simp only [Array.getElem_modify, Array.getElem_push]
  by_cases hi : i < w.heap.size
  · have : ¬ w.heap.size = i := by omega
    simp [this, hi]
  · have : w.heap.size = i := by simp at h1; omega
    subst this
    simp
theorem alloc_setCell (w : World) (c : Array Value) (t : TypeId) (j : Nat) (v : Value) : (w.alloc (.cells c t)).setCell ⟨w.heap.size, j, none⟩ v = w.alloc (.cells (c.setIfInBounds j v) t) := by
  rw [setCell_eq_setRow _ _ _ _ _ _ _ (heap_alloc_new w (.cells c t)), alloc_setRow]
theorem alloc_cell (w : World) (c : Array Value) (t : TypeId) (j : Nat) : (w.alloc (.cells c t)).cell? ⟨w.heap.size, j, none⟩ = c[j]? := by
  simp [World.cell?, heap_alloc_new w (.cells c t), -Array.getElem?_eq_getElem, -getElem?_pos]
theorem alloc_frozen (w : World) (c : Array Value) (t : TypeId) (j : Nat) : (w.alloc (.cells c t)).frozen? ⟨w.heap.size, j, none⟩ = false := by
  simp [World.frozen?, heap_alloc_new w (.cells c t), -Array.getElem?_eq_getElem, -getElem?_pos]
theorem Tryd.info53 : (Tryd.prog.info? 53).map (fun i => (i.zero, i.size, i.bytes)) = some (some (.agg #[.bool false, .bool false, .bool false, .int .i64 0, .int .i64 0, .int .u8 0]), 6, 32) := by kernel_rfl
theorem load53 (w : World) (b : Nat) (c : Array Value) (hc : c.size = 6) (hb : w.heap[b]? = some (.cells c 53 (0, 0))) : (loadVar 53 ⟨b, 0, none⟩).run Tryd.prog w = .ok (.agg c) w := by
  obtain ⟨i0, hi0, hz0, hz1, hz2⟩ := info_parts Tryd.info53
  have hl := run_loadCells_list (P := Tryd.prog) w ⟨b, 0, none⟩ c.toList (fun j x hj => by
    rw [add_at, Nat.zero_add]
    simp only [World.cell?, hb]
    simpa using hj)
  have hl6 : c.toList.length = 6 := by simpa using hc
  rw [hl6] at hl
  have hag : (isAgg 53).run Tryd.prog w = .ok true w := by kernel_rfl
  simp only [loadVar, Sem.run_bind, hag, Result.andThen_ok, if_pos, sizeOf, typeInfo, hi0, hz1, Sem.run_pure, hl]
  simp [hi0, hz1, hl]
theorem results_p {fn : Func} {p q r : Tmp} (h : fn.results = #[.cell p 53, .tmp q, .tmp r]) (tmps : Array Value) (w : World) (b : Nat) (c : Array Value) (hc : c.size = 6) (hp : tmps.getD p undef = .pointer (some ⟨b, 0, none⟩)) (hb : w.heap[b]? = some (.cells c 53 (0, 0))) :
    (results fn tmps).run Tryd.prog w = .ok (.tuple #[.agg c, tmps.getD q undef, tmps.getD r undef]) w := by
  have hp' : tmps[p]?.getD undef = .pointer (some ⟨b, 0, none⟩) := by simpa using hp
  simp only [results, h]
  simp [Sem.run_bind, Result.andThen, hp', asAddr, load53 w b c hc hb]

theorem flags_cut (s : ByteArray) (k n : Nat) (a b : Bool) (h : k < s.size) : flags ((ls s).drop k) n a b = if at0 (ls s) k = 45 then flags ((ls s).drop (k + 1)) (n + 1) true b else if at0 (ls s) k = 48 then flags ((ls s).drop (k + 1)) (n + 1) a true else (n, a, b) := by
  rw [ls_cut s k h, flags, at0_byte]
theorem flags_end (s : ByteArray) (k n : Nat) (a b : Bool) (h : s.size ≤ k) : flags ((ls s).drop k) n a b = (n, a, b) := by
  rw [List.drop_eq_nil_of_le (by rw [ls_len]; exact h)]; rfl
def flC (a b : Bool) : Array Value := #[.bool a, .bool b, .bool false, .int .i64 0, .int .i64 0, .int .u8 0]
def Rel22 (s : ByteArray) (w : World) (F : Nat × Bool × Bool) (n : Value) (wx : World) : Prop := ∃ (k : Nat) (a b : Bool), 1 ≤ k ∧ k ≤ s.size ∧ n = .int .i64 k ∧ Hid (wx = w.alloc (.cells (flC a b) 53)) ∧ Hid (flags ((ls s).drop k) (k - 1) a b = F)
/-- A place, by places of the text. -/
def placeK (l : List UInt8) (k : Nat) (a b : Bool) : Option (Pl × Nat) :=
  let D := dig 3 (l.drop k) 0 0
  if at0 l (k + D.2) = 46 then
    let E := dig 3 (l.drop (k + D.2 + 1)) 0 0
    if isLet (at0 l (k + D.2 + 1 + E.2)) then some (⟨a, b, D.1, some E.1, at0 l (k + D.2 + 1 + E.2)⟩, k + D.2 + 1 + E.2) else none
  else if isLet (at0 l (k + D.2)) then some (⟨a, b, D.1, none, at0 l (k + D.2)⟩, k + D.2) else none
theorem placeO_at (l : List UInt8) (k : Nat) (a b : Bool) (hk : 1 ≤ k) (h : flags (l.drop 1) 0 false false = (k - 1, a, b)) : placeO (l.drop 1) = placeK l k a b := by
  unfold placeO precAt placeK
  simp only
  rw [h]
  simp only [List.drop_drop, at0_drop]
  rw [show 1 + (k - 1) = k by omega]
  generalize dig 3 (l.drop k) 0 0 = D
  obtain ⟨d1, d2⟩ := D
  simp only
  rw [show 1 + (k - 1 + d2) = k + d2 by omega, show 1 + (k - 1 + d2 + 1) = k + d2 + 1 by omega]
  generalize dig 3 (l.drop (k + d2 + 1)) 0 0 = E
  obtain ⟨e1, e2⟩ := E
  by_cases hd : at0 l (k + d2) = 46
  · rw [if_pos hd, if_pos hd]
    simp only
    rw [show 1 + (k - 1 + d2 + 1 + e2) = k + d2 + 1 + e2 by omega, show k - 1 + d2 + 1 + e2 + 1 = k + d2 + 1 + e2 by omega]
  · rw [if_neg hd, if_neg hd]
    simp only
    rw [show 1 + (k - 1 + d2) = k + d2 by omega, show k - 1 + d2 + 1 = k + d2 by omega]
theorem ib_pl (c : Nat) (hc : c < 256) (w : World) : Calls Tryd.prog 24 #[.string ⟨#[37, 115, 98, 99, 100, 105, 111, 117, 120, 88]⟩, .int .u8 c] w fun e w' => (∃ k : Int, e = .returned (.int .i64 k) ∧ decide (k < 0) = !isLet c) ∧ w = w' :=
  (Tryd.strings_IndexByte ⟨#[37, 115, 98, 99, 100, 105, 111, 117, 120, 88]⟩ c w).mono fun e w' ⟨h1, h2⟩ => by
    refine ⟨⟨_, h1, ?_⟩, h2.symm⟩
    rw [show (⟨#[37, 115, 98, 99, 100, 105, 111, 117, 120, 88]⟩ : ByteArray).data.toList = plL from rfl, indexAny]
    unfold isLet
    rw [show (c : Int).toNat.toUInt8 = UInt8.ofNat c from rfl]
    by_cases h : UInt8.ofNat c ∈ plL
    · rw [if_pos (List.idxOf_lt_length_iff.2 h), decide_eq_true h]
      exact decide_eq_false (by omega)
    · rw [if_neg (fun h2 => h (List.idxOf_lt_length_iff.1 h2)), decide_eq_false h]
      rfl
def prC (a b : Bool) (d : Nat) (pr : Option Nat) : Array Value := #[.bool a, .bool b, .bool pr.isSome, .int .i64 d, .int .i64 (pr.getD 0 : Nat), .int .u8 0]
/-- What readPlace answers. -/
def plR (x : Option (Pl × Nat)) : Value := match x with
  | none => .tuple #[.agg (flC false false), .int .i64 0, .bool false]
  | some (p, n) => .tuple #[plV p, .int .i64 ((1 + n : Nat) : Int), .bool true]
set_option maxHeartbeats 4000000 in
set_option maxRecDepth 100000 in
theorem readPlace22 (s : ByteArray) (w : World) (h1 : 1 ≤ s.size) (hs : s.size ≤ 1000000) : Calls Tryd.prog 22 #[.string s] w fun e w' => e = .returned (plR (placeO ((ls s).drop 1))) ∧ Below w.heap.size w w' := by
  have hb := get_bt s
  obtain ⟨F, HF⟩ : ∃ F, Hid (flags ((ls s).drop 1) 0 false false = F) := ⟨_, Lib.hid rfl⟩
  obtain ⟨X, HX⟩ : ∃ X, Hid (placeO ((ls s).drop 1) = X) := ⟨_, Lib.hid rfl⟩
  rw [HX.out]
  go_enter Tryd.func22, Tryd.ntmps22
  go_wp2
  go_loopw [3] (Rel22 s w F) (fun n _ => s.size - (intOf n).toNat)
  case atStart => exact ⟨1, false, false, Nat.le_refl _, h1, rfl, Lib.hid rfl, HF⟩
  case round =>
    obtain ⟨k, a, b, hk1, hks, rfl, HW, HM⟩ := hrel
    rename World => wx
    by_cases hlt : k < s.size
    · have hc := at0_lt (ls s) k
      have HA := Lib.hid (bt_at s k)
      have HC := Lib.hid (flags_cut s k (k - 1) a b hlt)
      rw [HM.out] at HC
      have c0 : wx.cell? ⟨w.heap.size, 0, none⟩ = some (.bool a) := by rw [HW.out, alloc_cell]; rfl
      have c1 : wx.cell? ⟨w.heap.size, 1, none⟩ = some (.bool b) := by rw [HW.out, alloc_cell]; rfl
      have f0 : wx.frozen? ⟨w.heap.size, 0, none⟩ = false := by rw [HW.out, alloc_frozen]
      have f1 : wx.frozen? ⟨w.heap.size, 1, none⟩ = false := by rw [HW.out, alloc_frozen]
      by_cases d1 : at0 (ls s) k = 45
      · have e1 : (bt s k == 45) = true := by rw [HA.out, d1]; rfl
        have e2 : (bt s k == 48) = false := by rw [HA.out, d1]; rfl
        have HN : Hid (flags ((ls s).drop (k + 1)) (k + 1 - 1) true b = F) := Lib.hid (by rw [HC.out, if_pos d1, show k - 1 + 1 = k + 1 - 1 by omega])
        clear HC d1
        cases a <;> cases b <;> (
          go_wp2
          go_roundw
          case rel => exact ⟨k + 1, true, _, by omega, hlt, by go_num, Lib.hid (by rw [HW.out, alloc_setCell, alloc_setCell]; rfl), HN⟩
          case measure => simp [intOf]; omega)
      · have e1 : (bt s k == 45) = false := by rw [HA.out]; simp; omega
        by_cases d2 : at0 (ls s) k = 48
        · have e2 : (bt s k == 48) = true := by rw [HA.out, d2]; rfl
          have HN : Hid (flags ((ls s).drop (k + 1)) (k + 1 - 1) a true = F) := Lib.hid (by rw [HC.out, if_neg d1, if_pos d2, show k - 1 + 1 = k + 1 - 1 by omega])
          clear HC d1 d2
          cases a <;> cases b <;> (
            go_wp2
            go_roundw
            case rel => exact ⟨k + 1, _, true, by omega, hlt, by go_num, Lib.hid (by rw [HW.out, alloc_setCell, alloc_setCell]; rfl), HN⟩
            case measure => simp [intOf]; omega)
        · have e2 : (bt s k == 48) = false := by rw [HA.out]; simp; omega
          have HFF : Hid (F = (k - 1, a, b)) := Lib.hid (by rw [HC.out, if_neg d1, if_neg d2])
          have HXX : Hid (X = placeK (ls s) k a b) := Lib.hid (by rw [← HX.out, placeO_at _ _ _ _ hk1 (HF.out.trans HFF.out)])
          have C := Lib.hid fun W => readDigits31 s k W hs hks
          obtain ⟨D, HD⟩ : ∃ D, Hid (dig 3 ((ls s).drop k) 0 0 = D) := ⟨_, Lib.hid rfl⟩
          have hD := (dig_le 3 ((ls s).drop k) 0 0).1
          rw [List.length_drop, ls_len, HD.out] at hD
          rw [HD.out] at C
          unfold placeK at HXX
          rw [HD.out] at HXX
          simp only at HXX
          obtain ⟨m, Hm⟩ : ∃ m, Hid (k + D.2 = m) := ⟨_, Lib.hid rfl⟩
          unfold dgV at C
          rw [Hm.out] at C HXX
          have hms : m ≤ s.size := by have := Hm.out; omega
          clear hD HFF HM
          have f := fun j => (show wx.frozen? ⟨w.heap.size, j, none⟩ = false by rw [HW.out, alloc_frozen])
          have c2 : wx.cell? ⟨w.heap.size, 2, none⟩ = some (.bool false) := by rw [HW.out, alloc_cell]; rfl
          have c3 : wx.cell? ⟨w.heap.size, 3, none⟩ = some (.int .i64 0) := by rw [HW.out, alloc_cell]; rfl
          have c4 : wx.cell? ⟨w.heap.size, 4, none⟩ = some (.int .i64 0) := by rw [HW.out, alloc_cell]; rfl
          have c0 : wx.cell? ⟨w.heap.size, 0, none⟩ = some (.bool a) := by rw [HW.out, alloc_cell]; rfl
          have c1 : wx.cell? ⟨w.heap.size, 1, none⟩ = some (.bool b) := by rw [HW.out, alloc_cell]; rfl
          have c5 : wx.cell? ⟨w.heap.size, 5, none⟩ = some (.int .u8 0) := by rw [HW.out, alloc_cell]; rfl
          by_cases hm : m < s.size
          · have HA2 := Lib.hid (bt_at s m)
            by_cases d3 : at0 (ls s) m = 46
            · have e3 : (bt s m == 46) = true := by rw [HA2.out, d3]; rfl
              rw [if_pos d3] at HXX
              obtain ⟨m1, Hm1⟩ : ∃ m1, Hid (m + 1 = m1) := ⟨_, Lib.hid rfl⟩
              have hm' : m1 ≤ s.size := by have := Hm1.out; omega
              rw [Hm1.out] at HXX
              have C2 := Lib.hid fun W => readDigits31 s m1 W hs hm'
              obtain ⟨E, HE⟩ : ∃ E, Hid (dig 3 ((ls s).drop m1) 0 0 = E) := ⟨_, Lib.hid rfl⟩
              have hE := (dig_le 3 ((ls s).drop m1) 0 0).1
              rw [List.length_drop, ls_len, HE.out] at hE
              rw [HE.out] at C2 HXX
              unfold dgV at C2
              obtain ⟨q, Hq⟩ : ∃ q, Hid (m1 + E.2 = q) := ⟨_, Lib.hid rfl⟩
              rw [Hq.out] at C2 HXX
              have hqs : q ≤ s.size := by have := Hq.out; omega
              clear hE
              have hm1 : IntKind.i64.wrap ((m : Int) + 1) = (m1 : Int) := by rw [IntKind.wrap_i64]; have := Hm1.out; omega
              clear d3
              by_cases hq : q < s.size
              · have HA3 := Lib.hid (bt_at s q)
                have CI := Lib.hid fun W => ib_pl (at0 (ls s) q) (at0_lt _ _) W
                rw [← HA3.out] at CI
                have hqn : ((q : Int) == (s.size : Int)) = false := by simp; omega
                cases hl : isLet (at0 (ls s) q)
                · rw [hl] at CI HXX
                  simp only [Bool.not_false, if_false, Bool.false_eq_true] at CI HXX
                  go_wp2_with (first | (go_at_call 31; (with_reducible refine (C.out _).mono ?_); rintro e w' ⟨rfl, rfl⟩) | (go_at_call 31; (with_reducible refine (C2.out _).mono ?_); rintro e w' ⟨rfl, rfl⟩) | (go_at_call 24; refine (CI.out _).mono ?_; rintro e w' ⟨⟨i, rfl, hi⟩, rfl⟩))
                  refine bodyPost_ret_by (results_p rfl _ _ w.heap.size (flC false false) rfl rfl ?_) rfl ⟨?_, ?_⟩
                  · simp only [HW.out, alloc_setCell, flC, prC, plC, List.setIfInBounds_toArray, List.set_cons_succ, List.set_cons_zero]
                    exact heap_alloc_new _ _
                  · rw [HXX.out]; rfl
                  · simp only [HW.out, alloc_setCell, flC, prC, plC, List.setIfInBounds_toArray, List.set_cons_succ, List.set_cons_zero]
                    exact (Below.refl _ w).alloc (Nat.le_refl _) _
                · rw [hl] at CI HXX
                  simp only [Bool.not_true, if_true] at CI HXX
                  have hq1 : IntKind.i64.wrap ((q : Int) + 1) = ((1 + q : Nat) : Int) := by rw [IntKind.wrap_i64]; omega
                  go_wp2_with (first | (go_at_call 31; (with_reducible refine (C.out _).mono ?_); rintro e w' ⟨rfl, rfl⟩) | (go_at_call 31; (with_reducible refine (C2.out _).mono ?_); rintro e w' ⟨rfl, rfl⟩) | (go_at_call 24; refine (CI.out _).mono ?_; rintro e w' ⟨⟨i, rfl, hi⟩, rfl⟩))
                  refine bodyPost_ret_by (results_p rfl _ _ w.heap.size (plC ⟨a, b, D.1, some E.1, at0 (ls s) q⟩) rfl rfl ?_) rfl ⟨?_, ?_⟩
                  · simp only [HW.out, alloc_setCell, flC, prC, plC, List.setIfInBounds_toArray, List.set_cons_succ, List.set_cons_zero, HA3.out]
                    exact heap_alloc_new _ _
                  · rw [HXX.out]; rfl
                  · simp only [HW.out, alloc_setCell, flC, prC, plC, List.setIfInBounds_toArray, List.set_cons_succ, List.set_cons_zero]
                    exact (Below.refl _ w).alloc (Nat.le_refl _) _
              · have HL : Hid (isLet (at0 (ls s) q) = false) := Lib.hid (by rw [at0_end (by rw [ls_len]; omega)]; rfl)
                obtain rfl : q = s.size := by omega
                rw [HL.out] at HXX
                simp only [if_false, Bool.false_eq_true] at HXX
                go_wp2_with (first | (go_at_call 31; (with_reducible refine (C.out _).mono ?_); rintro e w' ⟨rfl, rfl⟩) | (go_at_call 31; (with_reducible refine (C2.out _).mono ?_); rintro e w' ⟨rfl, rfl⟩))
                refine bodyPost_ret_by (results_p rfl _ _ w.heap.size (flC false false) rfl rfl ?_) rfl ⟨?_, ?_⟩
                · simp only [HW.out, alloc_setCell, flC, prC, plC, List.setIfInBounds_toArray, List.set_cons_succ, List.set_cons_zero]
                  exact heap_alloc_new _ _
                · rw [HXX.out]; rfl
                · simp only [HW.out, alloc_setCell, flC, prC, plC, List.setIfInBounds_toArray, List.set_cons_succ, List.set_cons_zero]
                  exact (Below.refl _ w).alloc (Nat.le_refl _) _
            · have e3 : (bt s m == 46) = false := by rw [HA2.out]; simp; omega
              rw [if_neg d3] at HXX
              clear d3
              by_cases hq : m < s.size
              · have HA3 := Lib.hid (bt_at s m)
                have CI := Lib.hid fun W => ib_pl (at0 (ls s) m) (at0_lt _ _) W
                rw [← HA3.out] at CI
                have hqn : ((m : Int) == (s.size : Int)) = false := by simp; omega
                cases hl : isLet (at0 (ls s) m)
                · rw [hl] at CI HXX
                  simp only [Bool.not_false, if_false, Bool.false_eq_true] at CI HXX
                  go_wp2_with (first | (go_at_call 31; (with_reducible refine (C.out _).mono ?_); rintro e w' ⟨rfl, rfl⟩) | (go_at_call 24; refine (CI.out _).mono ?_; rintro e w' ⟨⟨i, rfl, hi⟩, rfl⟩))
                  refine bodyPost_ret_by (results_p rfl _ _ w.heap.size (flC false false) rfl rfl ?_) rfl ⟨?_, ?_⟩
                  · simp only [HW.out, alloc_setCell, flC, prC, plC, List.setIfInBounds_toArray, List.set_cons_succ, List.set_cons_zero]
                    exact heap_alloc_new _ _
                  · rw [HXX.out]; rfl
                  · simp only [HW.out, alloc_setCell, flC, prC, plC, List.setIfInBounds_toArray, List.set_cons_succ, List.set_cons_zero]
                    exact (Below.refl _ w).alloc (Nat.le_refl _) _
                · rw [hl] at CI HXX
                  simp only [Bool.not_true, if_true] at CI HXX
                  have hq1 : IntKind.i64.wrap ((m : Int) + 1) = ((1 + m : Nat) : Int) := by rw [IntKind.wrap_i64]; omega
                  go_wp2_with (first | (go_at_call 31; (with_reducible refine (C.out _).mono ?_); rintro e w' ⟨rfl, rfl⟩) | (go_at_call 24; refine (CI.out _).mono ?_; rintro e w' ⟨⟨i, rfl, hi⟩, rfl⟩))
                  refine bodyPost_ret_by (results_p rfl _ _ w.heap.size (plC ⟨a, b, D.1, none, at0 (ls s) m⟩) rfl rfl ?_) rfl ⟨?_, ?_⟩
                  · simp only [HW.out, alloc_setCell, flC, prC, plC, List.setIfInBounds_toArray, List.set_cons_succ, List.set_cons_zero, HA3.out]
                    exact heap_alloc_new _ _
                  · rw [HXX.out]; rfl
                  · simp only [HW.out, alloc_setCell, flC, prC, plC, List.setIfInBounds_toArray, List.set_cons_succ, List.set_cons_zero]
                    exact (Below.refl _ w).alloc (Nat.le_refl _) _
              · exact absurd hm hq
          · have HE0 : at0 (ls s) m = 0 := at0_end (by rw [ls_len]; omega)
            rw [if_neg (by rw [HE0]; decide), HE0] at HXX
            clear HE0
            have HX0 : Hid (X = none) := Lib.hid HXX.out
            obtain rfl : m = s.size := by omega
            go_wp2_with (go_at_call 31; (with_reducible refine (C.out _).mono ?_); rintro e w' ⟨rfl, rfl⟩)
            refine bodyPost_ret_by (results_p rfl _ _ w.heap.size (flC false false) rfl rfl ?_) rfl ⟨?_, ?_⟩
            · simp only [HW.out, alloc_setCell, flC, prC, plC, List.setIfInBounds_toArray, List.set_cons_succ, List.set_cons_zero]
              exact heap_alloc_new _ _
            · rw [HX0.out]; rfl
            · simp only [HW.out, alloc_setCell, flC, prC, plC, List.setIfInBounds_toArray, List.set_cons_succ, List.set_cons_zero]
              exact (Below.refl _ w).alloc (Nat.le_refl _) _
    · have HFF : Hid (F = (k - 1, a, b)) := Lib.hid (by rw [← HM.out, flags_end _ _ _ _ _ (by omega)])
      obtain rfl : k = s.size := by omega
      have HXX : Hid (X = none) := Lib.hid (by
        rw [← HX.out, placeO_at _ _ _ _ hk1 (HF.out.trans HFF.out)]
        unfold placeK
        rw [dig_end _ _ _ _ _ (Nat.le_refl _)]
        simp only [Nat.add_zero]
        rw [at0_end (by rw [ls_len]; exact Nat.le_refl _)]
        rfl)
      have C := Lib.hid fun W => readDigits31 s s.size W hs (Nat.le_refl _)
      rw [dig_end _ _ _ _ _ (Nat.le_refl _)] at C
      unfold dgV at C
      simp only [Nat.add_zero] at C
      have f := fun j => (show wx.frozen? ⟨w.heap.size, j, none⟩ = false by rw [HW.out, alloc_frozen])
      have c0 : wx.cell? ⟨w.heap.size, 0, none⟩ = some (.bool a) := by rw [HW.out, alloc_cell]; rfl
      have c1 : wx.cell? ⟨w.heap.size, 1, none⟩ = some (.bool b) := by rw [HW.out, alloc_cell]; rfl
      have c2 : wx.cell? ⟨w.heap.size, 2, none⟩ = some (.bool false) := by rw [HW.out, alloc_cell]; rfl
      have c3 : wx.cell? ⟨w.heap.size, 3, none⟩ = some (.int .i64 0) := by rw [HW.out, alloc_cell]; rfl
      have c4 : wx.cell? ⟨w.heap.size, 4, none⟩ = some (.int .i64 0) := by rw [HW.out, alloc_cell]; rfl
      have c5 : wx.cell? ⟨w.heap.size, 5, none⟩ = some (.int .u8 0) := by rw [HW.out, alloc_cell]; rfl
      go_wp2_with (go_at_call 31; refine (C.out _).mono ?_; rintro e w' ⟨rfl, rfl⟩)
      refine bodyPost_ret_by (results_p rfl _ _ w.heap.size #[.bool false, .bool false, .bool false, .int .i64 0, .int .i64 0, .int .u8 0] rfl rfl ?_) rfl ⟨?_, ?_⟩
      · simp only [HW.out, alloc_setCell, flC, prC, plC, List.setIfInBounds_toArray, List.set_cons_succ, List.set_cons_zero]
        exact heap_alloc_new _ _
      · rw [HXX.out]; rfl
      · simp only [HW.out, alloc_setCell, flC, prC, plC, List.setIfInBounds_toArray, List.set_cons_succ, List.set_cons_zero]
        exact (Below.refl _ w).alloc (Nat.le_refl _) _
end Go.Proofs.YtckhomeokhhneaaDoor
