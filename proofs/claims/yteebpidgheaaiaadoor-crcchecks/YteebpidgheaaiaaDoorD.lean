/- CrcBursts: a text of which bits within 32 are turned has another check. Conditions: the table of powers of ten reads as it is laid. -/
import Derived.Test.YteebpidgheaaiaaDoorC
import Derived.Deep.RegionHeld3
namespace Go.Proofs.YteebpidgheaaiaaDoor
open Go.RowKit Go.PlainAid Go.Sort
set_option linter.unusedSimpArgs false

theorem dd_max : dd 4294967295 = mk [52, 50, 57, 52, 57, 54, 55, 50, 57, 53] := by unfold dd; congr 1; simp [Lib.decDigits]
theorem dd_zero : dd 0 = mk [48] := by unfold dd; congr 1; simp [Lib.decDigits]
theorem line_none : lineS (chk (ls ⟨#[]⟩)) (ByteArray.size ⟨#[]⟩) = ⟨#[52, 50, 57, 52, 57, 54, 55, 50, 57, 53, 32, 48]⟩ := by
  have h : chk (ls ⟨#[]⟩) = 4294967295 := by show 4294967295 - cn 0 0 = _; rw [cn_zero]
  rw [h, show ByteArray.size ⟨#[]⟩ = 0 from rfl]
  unfold lineS
  rw [dd_max, dd_zero, mk_app, mk_app]
  rfl
set_option maxHeartbeats 1000000 in
set_option maxRecDepth 100000 in
theorem anchor5 (w : World) (ht : Tab w) : Calls Tryd.prog 5 #[] w fun e w' => e = .returned (.bool true) ∧ Below w.heap.size w w' := by
  have C := Lib.hid (line11 ⟨#[]⟩ (by show 0 ≤ _; omega) w ht)
  rw [line_none] at C
  clear ht
  go_enter Tryd.func5, Tryd.ntmps5
  go_wp2_with fail
  refine C.out.mono ?_
  rintro e w1 ⟨rfl, b1⟩
  have B1 := Lib.hid b1
  clear b1 C
  go_wp2
  go_ret
  exact ⟨rfl, B1.out⟩

/-- A row of bytes that may be written. -/
def BRow (g : Nat) (l : List UInt8) (w : World) : Prop := ∃ cur fr, w.heap[g]? = some (.cells cur 5 fr) ∧ l.length ≤ cur.size ∧ (∀ j, j < l.length → ¬ (fr.1 ≤ j ∧ j < fr.2)) ∧ ∀ k (h : k < l.length), cur[k]? = some (.int .u8 (l[k].toNat : Int))
theorem BRow.cells {g : Nat} {l : List UInt8} {w : World} (h : BRow g l w) : CellsAt g l w := by
  obtain ⟨cur, fr, h1, h2, h3, h4⟩ := h
  intro k hk
  simp only [World.cell?, h1]
  simpa using h4 k hk
theorem BRow.fr {g : Nat} {l : List UInt8} {w : World} (h : BRow g l w) (j : Nat) (hj : j < l.length) : w.frozen? ⟨g, j, none⟩ = false := by
  obtain ⟨cur, fr, h1, h2, h3, h4⟩ := h
  simp only [World.frozen?, h1]
  have := h3 j hj
  by_cases h : fr.1 ≤ j
  · rw [decide_eq_false (p := j < fr.2) (fun h2 => this ⟨h, h2⟩), Bool.and_false]
  · rw [decide_eq_false h, Bool.false_and]
theorem BRow.set {g : Nat} {l : List UInt8} {w : World} (h : BRow g l w) (j : Nat) (b : UInt8) (X : Int) (hX : X = (b.toNat : Int)) : BRow g (l.set j b) (w.setCell ⟨g, j, none⟩ (.int .u8 X)) := by
  obtain ⟨cur, fr, h1, h2, h3, h4⟩ := h
  subst hX
  rw [setCell_eq_setRow w g j cur 5 fr _ h1]
  refine ⟨_, fr, setRow_heap _ _ _ _ _ _ h1, by simpa using h2, by simpa using h3, ?_⟩
  intro k hk
  have hk' : k < l.length := by simpa using hk
  have := h4 k hk'
  rw [Array.getElem?_setIfInBounds]
  by_cases e : j = k
  · subst e
    rw [if_pos rfl, if_pos (by omega), List.getElem_set_self]
  · rw [if_neg e, this, List.getElem_set_ne e]
theorem BRow.below {g : Nat} {l : List UInt8} {w w' : World} (h : BRow g l w) (hb : Below w.heap.size w w') : BRow g l w' := by
  obtain ⟨cur, fr, h1, h2⟩ := h
  exact ⟨cur, fr, (hb.block g (lt_of_block h1)).trans h1, h2⟩
theorem BRow.back {g : Nat} {l : List UInt8} {w : World} (h : BRow g l w) (cap : Nat) : (convert 28 9 (.slice (some ⟨g, 0, none⟩) l.length cap)).run Tryd.prog w = .ok (.string (mk l)) w :=
  run_convert_bytes_back (P := Tryd.prog) w 28 9 5 ⟨g, 0, none⟩ cap l Tryd.underlying28 Tryd.underlying5 Tryd.underlying9 (fun j hj => by rw [Lib.add_plain, Nat.zero_add]; exact h.cells j hj)
/-- What '[]byte(s)' leaves. -/
def made (w : World) (s : ByteArray) : World := w.drew.alloc (.cells (bytesRow s (grownCap w s.size 0 5)) 5 ((bytesRow s (grownCap w s.size 0 5)).size, (bytesRow s (grownCap w s.size 0 5)).size + 1))
theorem run_made (s : ByteArray) (w : World) : (convert 9 28 (.string s)).run Tryd.prog w = .ok (.slice (some ⟨w.heap.size, 0, none⟩) s.size (grownCap w s.size 0 5)) (made w s) :=
  run_bytes_of_string w 9 28 5 s Tryd.underlying9 Tryd.underlying28 Tryd.underlying5
theorem made_below (w : World) (s : ByteArray) : Below w.heap.size w (made w s) := ((Below.refl _ w).drew).alloc (Nat.le_refl _) _
theorem made_row (w : World) (s : ByteArray) : BRow w.heap.size (ls s) (made w s) := by
  have hc := grownCap_ge w s.size 0 5
  have hsz : (bytesRow s (grownCap w s.size 0 5)).size = grownCap w s.size 0 5 := by
    unfold bytesRow
    have : s.data.size = s.size := rfl
    simp [this]; omega
  refine ⟨bytesRow s (grownCap w s.size 0 5), _, heap_alloc_new _ _, by rw [ls_len, hsz]; exact hc, ?_, ?_⟩
  · intro j hj; rw [ls_len] at hj; simp only; rw [hsz]; omega
  · intro k hk
    have hk' : k < s.data.size := by simpa [ls] using hk
    unfold bytesRow
    rw [Array.getElem?_append_left (by simpa using hk')]
    simp [hk', ls]
    exact ⟨_, Array.getElem?_eq_getElem hk', rfl⟩

theorem t4 (f k : Nat) (hf : f < 4294967296) : (bits .and .u32 ((f : Int) / 2 ^ k) 1 == 1) = f.testBit k := by
  have e : ((f : Int) / 2 ^ k) = ((f / 2 ^ k : Nat) : Int) := by simp
  have hy : f / 2 ^ k < 4294967296 := Nat.lt_of_le_of_lt (Nat.div_le_self _ _) hf
  rw [e, Nat.testBit_eq_decide_div_mod_eq]
  generalize f / 2 ^ k = y at hy
  have hz : bits .and .u32 (y : Int) 1 = ((y % 2 : Nat) : Int) := by rw [← Nat.and_one_is_mod]; exact u32_and_nat y 1 hy (by omega)
  rw [hz]
  have h2 : y % 2 = 0 ∨ y % 2 = 1 := by omega
  rcases h2 with h2 | h2 <;> simp [h2]
theorem bo_bit (b k : Nat) : bo b k = b.testBit (7 - k) := by unfold bo; rw [Nat.testBit_eq_decide_div_mod_eq]
/-- One bit turned. -/
def fl (l : List UInt8) (q : Nat) : List UInt8 := l.set (q / 8) (UInt8.ofNat ((l.getD (q / 8) 0).toNat ^^^ (128 / 2 ^ (q % 8))))
theorem fl_len (l : List UInt8) (q : Nat) : (fl l q).length = l.length := by simp [fl]
theorem p128 (r : Nat) (h : r < 8) : 128 / 2 ^ r = 2 ^ (7 - r) := (show ∀ r < 8, 128 / 2 ^ r = 2 ^ (7 - r) by decide) r h
theorem xor_lt256 (a r : Nat) (ha : a < 256) (h : r < 8) : a ^^^ (128 / 2 ^ r) < 256 := Nat.xor_lt_two_pow (n := 8) ha ((show ∀ r < 8, 128 / 2 ^ r < 2 ^ 8 by decide) r h)
theorem fl_bit (l : List UInt8) (q p : Nat) (hq : q < 8 * l.length) : bA (fl l q) p = (bA l p ^^ decide (p = q)) := by
  unfold bA fl
  have hb := (l.getD (q / 8) 0).toNat_lt
  by_cases h : p / 8 = q / 8
  · have e : (l.set (q / 8) (UInt8.ofNat ((l.getD (q / 8) 0).toNat ^^^ (128 / 2 ^ (q % 8))))).getD (p / 8) 0 = UInt8.ofNat ((l.getD (q / 8) 0).toNat ^^^ (128 / 2 ^ (q % 8))) := by
      rw [h, List.getD_eq_getElem?_getD, List.getElem?_set_self (by omega)]; rfl
    rw [e, h, UInt8.toNat_ofNat', Nat.mod_eq_of_lt (xor_lt256 _ _ hb (by omega)), bo_bit, bo_bit, Nat.testBit_xor, p128 _ (by omega), Nat.testBit_two_pow]
    congr 1
    rw [decide_eq_decide]
    omega
  · have e : (l.set (q / 8) (UInt8.ofNat ((l.getD (q / 8) 0).toNat ^^^ (128 / 2 ^ (q % 8))))).getD (p / 8) 0 = l.getD (p / 8) 0 := by
      rw [List.getD_eq_getElem?_getD, List.getElem?_set_ne (by omega), ← List.getD_eq_getElem?_getD]
    rw [e, decide_eq_false (p := p = q) (by intro e; subst e; exact h rfl), Bool.xor_false]
/-- So many bits looked at. -/
def Turned (l m : List UInt8) (a f k : Nat) : Prop := m.length = l.length ∧ ∀ p, bA m p = (bA l p ^^ (decide (a ≤ p ∧ p < a + k) && f.testBit (p - a)))
theorem turned_zero (l : List UInt8) (a f : Nat) : Turned l l a f 0 := ⟨rfl, fun p => by rw [decide_eq_false (p := a ≤ p ∧ p < a + 0) (by omega)]; simp⟩
theorem turned_no {l m : List UInt8} {a f k : Nat} (h : Turned l m a f k) (hk : f.testBit k = false) : Turned l m a f (k + 1) := ⟨h.1, fun p => by
  rw [h.2 p]
  congr 1
  by_cases e : p = a + k
  · subst e; rw [show a + k - a = k by omega, hk]; simp
  · congr 1; rw [decide_eq_decide]; omega⟩
theorem turned_yes {l m : List UInt8} {a f k : Nat} (h : Turned l m a f k) (hk : f.testBit k = true) (hq : a + k < 8 * l.length) : Turned l (fl m (a + k)) a f (k + 1) := ⟨(fl_len _ _).trans h.1, fun p => by
  rw [fl_bit m _ p (by rw [h.1]; exact hq), h.2 p]
  by_cases e : p = a + k
  · subst e
    rw [show a + k - a = k by omega, hk, decide_eq_false (p := a ≤ a + k ∧ a + k < a + k) (by omega), decide_eq_true (p := a ≤ a + k ∧ a + k < a + (k + 1)) (by omega)]
    simp
  · rw [decide_eq_false e, Bool.xor_false]
    congr 2
    rw [decide_eq_decide]; omega⟩
theorem turned_ne {l m : List UInt8} {a f : Nat} (h : Turned l m a f 32) (hf : f < 4294967296) (hf0 : 0 < f) (ha : a + 32 ≤ 8 * l.length) : chk l ≠ chk m := by
  obtain ⟨i, hi⟩ : ∃ i, f.testBit i = true := Nat.exists_testBit_of_ne_zero (by omega)
  have hi32 : i < 32 := by
    rcases Nat.lt_or_ge i 32 with h1 | h1
    · exact h1
    · rw [Nat.testBit_lt_two_pow (Nat.lt_of_lt_of_le hf (Nat.pow_le_pow_right (n := 2) (i := 32) (by omega) h1))] at hi
      cases hi
  refine chk_ne l m h.1.symm a ha (fun p _ ho => ?_) i hi32 ?_
  · rw [h.2 p, decide_eq_false (p := a ≤ p ∧ p < a + 32) (by omega)]; simp
  · rw [h.2 (a + i), decide_eq_true (p := a ≤ a + i ∧ a + i < a + 32) (by omega), show a + i - a = i by omega, hi]
    cases bA l (a + i) <;> simp
end Go.Proofs.YteebpidgheaaiaaDoor
