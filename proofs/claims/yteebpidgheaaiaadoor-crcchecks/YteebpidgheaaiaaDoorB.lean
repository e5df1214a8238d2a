/- Contracts of a check that goes on: Add, Len, Value; the document's check of bytes. Conditions: fewer bytes than 2^40. -/
import Derived.Test.YteebpidgheaaiaaDoorA
import Derived.OneCell
import Derived.Laws.Tables
import Derived.Laws.CopyRow
import Derived.Laws.CopyOwn
import Derived.Below
namespace Go.Proofs.YteebpidgheaaiaaDoor
open Go.RowKit Go.PlainAid
set_option linter.unusedSimpArgs false

def sumC (c n : Nat) : Array Value := #[.int .u32 c, .int .i64 n]
/-- A check that goes on: its number, and how many bytes there were. -/
def SumAt (D c n : Nat) (w : World) : Prop := w.heap[D]? = some (.cells (sumC c n) 26 (0, 0))
theorem SumAt.c0 {D c n : Nat} {w : World} (h : SumAt D c n w) : w.cell? ⟨D, 0, none⟩ = some (.int .u32 c) := by simp [World.cell?, show w.heap[D]? = _ from h, sumC]
theorem SumAt.c1 {D c n : Nat} {w : World} (h : SumAt D c n w) : w.cell? ⟨D, 1, none⟩ = some (.int .i64 n) := by simp [World.cell?, show w.heap[D]? = _ from h, sumC]
theorem SumAt.fr {D c n : Nat} {w : World} (h : SumAt D c n w) (j : Nat) : w.frozen? ⟨D, j, none⟩ = false := by simp [World.frozen?, show w.heap[D]? = _ from h]
theorem SumAt.set0 {D c n : Nat} {w : World} (h : SumAt D c n w) (c' : Nat) : w.setCell ⟨D, 0, none⟩ (.int .u32 c') = w.setRow D (sumC c' n) := by
  rw [setCell_eq_setRow w D 0 _ _ _ _ h]; rfl
theorem SumAt.set1 {D c n : Nat} {w : World} (h : SumAt D c n w) (n' : Nat) : w.setCell ⟨D, 1, none⟩ (.int .i64 n') = w.setRow D (sumC c n') := by
  rw [setCell_eq_setRow w D 1 _ _ _ _ h]; rfl
theorem SumAt.row {D c n : Nat} {w : World} (h : SumAt D c n w) (c' n' : Nat) : SumAt D c' n' (w.setRow D (sumC c' n')) := setRow_heap _ _ _ _ _ _ h
/-- A slice's bytes. -/
def CellsAt (g : Nat) (l : List UInt8) (w : World) : Prop := ∀ k (h : k < l.length), w.cell? ⟨g, k, none⟩ = some (.int .u8 (l[k].toNat : Int))
theorem drop_at (l : List UInt8) (k : Nat) (h : k < l.length) : l.drop k = l[k] :: l.drop (k + 1) := List.drop_eq_getElem_cons h

set_option maxHeartbeats 1000000 in
set_option maxRecDepth 100000 in
theorem len9 (D c n : Nat) (w : World) (h : SumAt D c n w) : Calls Tryd.prog 9 #[.pointer (some ⟨D, 0, none⟩)] w fun e w' => e = .returned (.int .i64 n) ∧ w = w' := by
  have c1 := h.c1
  clear h
  go_enter Tryd.func9, Tryd.ntmps9
  go_wp2
  go_ret
  exact ⟨rfl, rfl⟩

theorem not32 (x : Nat) (hx : x < 4294967296) : bits .xor .u32 IntKind.u32.max (x : Int) = ((4294967295 - x : Nat) : Int) := by
  have h : bits .xor .u32 IntKind.u32.max (x : Int) = ((4294967295 ^^^ x : Nat) : Int) := u32_xor_nat 4294967295 x (by omega) hx
  rw [h]
  congr 1
  obtain ⟨v, rfl⟩ := toV x hx
  have e : (BitVec.allOnes 32 ^^^ v) = ~~~ v := BitVec.allOnes_xor
  have e2 := congrArg BitVec.toNat e
  rw [BitVec.toNat_xor, BitVec.toNat_not, BitVec.toNat_allOnes] at e2
  exact e2
def Rel8 (fin : Nat) (c i : Value) : Prop := ∃ n x : Nat, n ≤ 1099511627776 ∧ i = .int .i64 n ∧ c = .int .u32 x ∧ x < 4294967296 ∧ cn n x = fin
set_option maxHeartbeats 1000000 in
set_option maxRecDepth 100000 in
theorem value8 (D c n : Nat) (w : World) (h : SumAt D c n w) (hc : c < 4294967296) (hn : n ≤ 1099511627776) : Calls Tryd.prog 8 #[.pointer (some ⟨D, 0, none⟩)] w fun e w' => e = .returned (.int .u32 (4294967295 - cn n c : Nat)) ∧ w = w' := by
  have c0 := h.c0
  have c1 := h.c1
  clear h
  have hl := cn_lt n c hc
  obtain ⟨fin, HB⟩ : ∃ fin, Hid (cn n c = fin) := ⟨_, Lib.hid rfl⟩
  rw [HB.out] at hl ⊢
  go_enter Tryd.func8, Tryd.ntmps8
  go_wp2
  go_loop [3, 4] (Rel8 fin) (fun _ i => (intOf i).toNat)
  case atStart => exact ⟨n, c, hn, rfl, rfl, hc, HB.out⟩
  case round =>
    obtain ⟨n, x, hn, rfl, rfl, hx, hr⟩ := hrel
    have HR := Lib.hid hr
    clear hr
    by_cases h0 : 0 < n
    · have HN := Lib.hid (cn_pos n x h0)
      have hb8 := by8_lt x (n % 256)
      go_wp2_with (go_at_call 13; (refine (step13 x (n % 256) hx (by omega) _).mono ?_; rintro e w' ⟨rfl, rfl⟩))
      go_round
      case rel => exact ⟨n / 256, by8 x (n % 256), by omega, by go_num, rfl, hb8, by rw [← HR.out, HN.out]⟩
      case measure => simp [intOf]; omega
    · obtain rfl : n = 0 := by omega
      have HF : Hid (x = fin) := Lib.hid ((cn_zero x).symm.trans HR.out)
      have HT := Lib.hid (not32 x hx)
      go_wp2
      go_ret
      rw [HT.out, HF.out]
      exact ⟨rfl, rfl⟩
theorem cell_row {D g k : Nat} {w : World} (cs : Array Value) (h : g ≠ D) : (w.setRow D cs).cell? ⟨g, k, none⟩ = w.cell? ⟨g, k, none⟩ := cell_setRow_other _ _ _ _ h
def Rel6 (D n fin : Nat) (l : List UInt8) (w : World) (i : Value) (wx : World) : Prop := ∃ k x : Nat, k ≤ l.length ∧ i = .int .i64 k ∧ x < 4294967296 ∧ wx = w.setRow D (sumC x n) ∧ ckL (l.drop k) x = fin
set_option maxHeartbeats 1000000 in
set_option maxRecDepth 100000 in
theorem add6 (D c n g cap : Nat) (l : List UInt8) (w : World) (h : SumAt D c n w) (hc : c < 4294967296) (hg : g ≠ D) (hl : CellsAt g l w) (hn : n ≤ 1099511627776) (hn2 : l.length ≤ 1099511627776) : Calls Tryd.prog 6 #[.pointer (some ⟨D, 0, none⟩), .slice (some ⟨g, 0, none⟩) l.length cap] w fun e w' => e = .returned (.tuple #[]) ∧ w' = w.setRow D (sumC (ckL l c) (n + l.length)) := by
  have HB : Hid (ckL (l.drop 0) c = ckL l c) := Lib.hid rfl
  generalize ckL l c = fin at HB ⊢
  have HL := Lib.hid hl
  have HW : Hid (SumAt D c n w) := Lib.hid h
  clear hl h
  go_enter Tryd.func6, Tryd.ntmps6
  go_wp2
  go_loopw [8] (Rel6 D n fin l w) (fun i _ => l.length - (intOf i).toNat)
  case atStart => exact ⟨0, c, Nat.zero_le _, rfl, hc, (setRow_self _ _ _ _ _ HW.out).symm, HB.out⟩
  case round =>
    obtain ⟨k, x, hk, rfl, hx, ew, hr⟩ := hrel
    rename World => wx
    have HS : Hid (SumAt D x n wx) := Lib.hid (by rw [ew]; exact HW.out.row x n)
    have HE := Lib.hid ew
    have HR := Lib.hid hr
    clear hr ew
    by_cases hlt : k < l.length
    · have hc0 := HS.out.c0
      have hf0 := HS.out.fr 0
      have hcg : wx.cell? ⟨g, k, none⟩ = some (.int .u8 (l[k].toNat : Int)) := by rw [HE.out, cell_row _ hg]; exact HL.out k hlt
      have HD := Lib.hid (drop_at l k hlt)
      have hb := l[k].toNat_lt
      generalize l[k] = b at hcg HD hb
      have hb8 := by8_lt x b.toNat
      go_wp2_with (go_at_call 13; (refine (step13 x b.toNat hx hb _).mono ?_; rintro e w' ⟨rfl, rfl⟩))
      go_roundw
      case rel => exact ⟨k + 1, by8 x b.toNat, by omega, by go_num, hb8, by rw [HS.out.set0, HE.out, setRow_setRow], by rw [← HR.out, HD.out]; rfl⟩
      case measure => simp [intOf]; omega
    · obtain rfl : k = l.length := by omega
      have hc1 := HS.out.c1
      have hf1 := HS.out.fr 1
      have HF : Hid (x = fin) := Lib.hid (by rw [← HR.out, List.drop_length]; rfl)
      go_wp2
      go_end0
      refine ⟨rfl, ?_⟩
      rw [← HF.out, ← setRow_setRow w D (sumC x n), ← HE.out, ← HS.out.set1]
      congr 1
set_option maxHeartbeats 1000000 in
set_option maxRecDepth 100000 in
theorem refOf7 (g cap : Nat) (l : List UInt8) (w : World) (hl : CellsAt g l w) (hn2 : l.length ≤ 1099511627776) : Calls Tryd.prog 7 #[.slice (some ⟨g, 0, none⟩) l.length cap] w fun e w' => e = .returned (.int .u32 (chk l : Nat)) ∧ w = w' := by
  have HB : Hid (chk l = 4294967295 - cn l.length (ckL (l.drop 0) 0)) := Lib.hid rfl
  have hlt2 := cn_lt l.length _ (ckL_lt l 0 (by omega))
  obtain ⟨fin, HF⟩ : ∃ fin, Hid (ckL (l.drop 0) 0 = fin) := ⟨_, Lib.hid rfl⟩
  have hff : fin < 4294967296 := by rw [← HF.out]; exact ckL_lt _ _ (by omega)
  obtain ⟨gin, HG⟩ : ∃ gin, Hid (cn l.length fin = gin) := ⟨_, Lib.hid rfl⟩
  have hgg : gin < 4294967296 := by rw [← HG.out]; exact cn_lt _ _ hff
  have HL := Lib.hid hl
  rw [HB.out, HF.out, HG.out]
  clear hl hlt2
  go_enter Tryd.func7, Tryd.ntmps7
  go_wp2
  go_loop [3, 4] (fun c i => ∃ k x : Nat, k ≤ l.length ∧ i = .int .i64 k ∧ c = .int .u32 x ∧ x < 4294967296 ∧ Hid (ckL (l.drop k) x = fin)) (fun _ i => l.length - (intOf i).toNat)
  case atStart => exact ⟨0, 0, Nat.zero_le _, rfl, rfl, by omega, HF⟩
  case round =>
    obtain ⟨k, x, hk, rfl, rfl, hx, HR⟩ := hrel
    by_cases hlt : k < l.length
    · have hcg := HL.out k hlt
      have HD := Lib.hid (drop_at l k hlt)
      have hb := l[k].toNat_lt
      generalize l[k] = b at hcg HD hb
      have hb8 := by8_lt x b.toNat
      go_wp2_with (go_at_call 14; (refine (byteIn14 x b.toNat hx hb _).mono ?_; rintro e w' ⟨rfl, rfl⟩))
      go_round
      case rel => exact ⟨k + 1, by8 x b.toNat, by omega, by go_num, rfl, hb8, Lib.hid (by rw [← HR.out, HD.out]; rfl)⟩
      case measure => simp [intOf]; omega
    · obtain rfl : k = l.length := by omega
      have HX : Hid (x = fin) := Lib.hid (by rw [← HR.out, List.drop_length]; rfl)
      go_wp2
      go_loop [3, 5] (Rel8 gin) (fun _ i => (intOf i).toNat)
      case atStart => exact ⟨l.length, x, hn2, rfl, rfl, hx, by rw [HX.out]; exact HG.out⟩
      case round =>
        obtain ⟨n, y, hn, rfl, rfl, hy, hr⟩ := hrel
        have HR := Lib.hid hr
        clear hr
        by_cases h0 : 0 < n
        · have HN := Lib.hid (cn_pos n y h0)
          have hb8 := by8_lt y (n % 256)
          go_wp2_with (go_at_call 14; (refine (byteIn14 y (n % 256) hy (by omega) _).mono ?_; rintro e w' ⟨rfl, rfl⟩))
          go_round
          case rel => exact ⟨n / 256, by8 y (n % 256), by omega, by go_num, rfl, hb8, by rw [← HR.out, HN.out]⟩
          case measure => simp [intOf]; omega
        · obtain rfl : n = 0 := by omega
          obtain rfl : y = gin := (cn_zero y).symm.trans HR.out
          go_wp2
          go_ret
          exact ⟨by rw [show ((4294967295 - y : Nat) : Int) = 4294967295 - (y : Int) by omega]; rfl, rfl⟩
end Go.Proofs.YteebpidgheaaiaaDoor
