/- Bits of texts, turned within 32: no tag comes to stand there whose halves both didn't. No condition. -/
import Derived.Test.YtabnhdbhccbebaaJ
import Derived.Laws.BitsAllLaws
namespace Go.Proofs.Ytabnhdbhccbebaa
open Go.RowKit Go.PlainAid
set_option linter.unusedSimpArgs false
set_option linter.unusedVariables false

/-- A bit of a text, the highest of each byte first. -/
def bA (l : List UInt8) (p : Nat) : Bool := (at0 l (p / 8)).testBit (7 - p % 8)
/-- One bit turned. -/
def fl (l : List UInt8) (q : Nat) : List UInt8 := l.set (q / 8) (UInt8.ofNat (at0 l (q / 8) ^^^ (128 / 2 ^ (q % 8))))
theorem fl_len (l : List UInt8) (q : Nat) : (fl l q).length = l.length := by simp [fl]
theorem p128 (r : Nat) (h : r < 8) : 128 / 2 ^ r = 2 ^ (7 - r) := (show ∀ r < 8, 128 / 2 ^ r = 2 ^ (7 - r) by decide) r h
theorem xor_lt256 (a r : Nat) (ha : a < 256) (h : r < 8) : a ^^^ (128 / 2 ^ r) < 256 := Nat.xor_lt_two_pow (n := 8) ha ((show ∀ r < 8, 128 / 2 ^ r < 2 ^ 8 by decide) r h)
theorem at0_set_self {l : List UInt8} {k : Nat} {b : UInt8} (h : k < l.length) : at0 (l.set k b) k = b.toNat := by
  unfold at0; rw [List.getD_eq_getElem?_getD, List.getElem?_set_self h]; rfl
theorem at0_set_ne {l : List UInt8} {k j : Nat} {b : UInt8} (h : k ≠ j) : at0 (l.set k b) j = at0 l j := by
  unfold at0; rw [List.getD_eq_getElem?_getD, List.getElem?_set_ne h, ← List.getD_eq_getElem?_getD]
theorem fl_bit (l : List UInt8) (q p : Nat) (hq : q < 8 * l.length) : bA (fl l q) p = (bA l p ^^ decide (p = q)) := by
  unfold bA fl
  have hb := at0_lt l (q / 8)
  by_cases h : p / 8 = q / 8
  · rw [h, at0_set_self (by omega), UInt8.toNat_ofNat', Nat.mod_eq_of_lt (xor_lt256 _ _ hb (by omega)), Nat.testBit_xor, p128 _ (by omega), Nat.testBit_two_pow]
    congr 1
    rw [decide_eq_decide]
    omega
  · rw [at0_set_ne (by omega), decide_eq_false (p := p = q) (by intro e; subst e; exact h rfl), Bool.xor_false]
/-- So many bits looked at. -/
def Turned (l m : List UInt8) (a f k : Nat) : Prop := m.length = l.length ∧ ∀ p, bA m p = (bA l p ^^ (decide (a ≤ p ∧ p < a + k) && f.testBit (p - a)))
theorem turned_zero (l : List UInt8) (a f : Nat) : Turned l l a f 0 := ⟨rfl, fun p => by rw [decide_eq_false (p := a ≤ p ∧ p < a + 0) (by omega)]; simp⟩
theorem turned_no {l m : List UInt8} {a f k : Nat} (h : Turned l m a f k) (hk : f.testBit k = false) : Turned l m a f (k + 1) := ⟨h.1, fun p => by
  rw [h.2 p]
  congr 1
  by_cases e : p = a + k
  · subst e; rw [show a + k - a = k by omega, hk]; simp
  · congr 1; rw [decide_eq_decide]; omega⟩
theorem turned_yes {l m : List UInt8} {a f k : Nat} (h : Turned l m a f k) (hk : f.testBit k = true) (hq : a + k < 8 * l.length) : Turned l (fl m (a + k)) a f (k + 1) := ⟨(fl_len _ _).trans h.1, fun p => by
  rw [fl_bit m _ p (by rw [h.1]; exact hq), h.2 p]
  by_cases e : p = a + k
  · subst e
    rw [show a + k - a = k by omega, hk, decide_eq_false (p := a ≤ a + k ∧ a + k < a + k) (by omega), decide_eq_true (p := a ≤ a + k ∧ a + k < a + (k + 1)) (by omega)]
    simp
  · rw [decide_eq_false e, Bool.xor_false]
    congr 2
    rw [decide_eq_decide]; omega⟩
theorem turned_in {l m : List UInt8} {a f p : Nat} (h : Turned l m a f 32) (hne : bA m p ≠ bA l p) : a ≤ p ∧ p < a + 32 := by
  by_cases hp : a ≤ p ∧ p < a + 32
  · exact hp
  · rw [h.2 p, decide_eq_false hp] at hne; simp at hne
theorem byte_ext {a b : Nat} (ha : a < 256) (hb : b < 256) (h : ∀ r, r < 8 → a.testBit (7 - r) = b.testBit (7 - r)) : a = b := by
  apply Nat.eq_of_testBit_eq
  intro i
  by_cases hi : i < 8
  · have := h (7 - i) (by omega)
    rw [show 7 - (7 - i) = i by omega] at this
    exact this
  · rw [Nat.testBit_lt_two_pow (Nat.lt_of_lt_of_le ha (Nat.pow_le_pow_right (n := 2) (i := 8) (by omega) (by omega))), Nat.testBit_lt_two_pow (Nat.lt_of_lt_of_le hb (Nat.pow_le_pow_right (n := 2) (i := 8) (by omega) (by omega)))]
theorem turned_byte {l m : List UInt8} {a f k : Nat} (h : Turned l m a f 32) (hk : 8 * k + 8 ≤ a ∨ a + 32 ≤ 8 * k) : at0 m k = at0 l k := by
  apply byte_ext (at0_lt _ _) (at0_lt _ _)
  intro r hr
  have := h.2 (8 * k + r)
  unfold bA at this
  rw [show (8 * k + r) / 8 = k by omega, show (8 * k + r) % 8 = r by omega, decide_eq_false (by omega)] at this
  simpa using this
theorem t4 (f k : Nat) (hf : f < 4294967296) : (bits .and .u32 ((f : Int) / 2 ^ k) 1 == 1) = f.testBit k := by
  have e : ((f : Int) / 2 ^ k) = ((f / 2 ^ k : Nat) : Int) := by simp
  have hy : f / 2 ^ k < 4294967296 := Nat.lt_of_le_of_lt (Nat.div_le_self _ _) hf
  rw [e, Nat.testBit_eq_decide_div_mod_eq]
  generalize f / 2 ^ k = y at hy
  have hz : bits .and .u32 (y : Int) 1 = ((y % 2 : Nat) : Int) := by rw [← Nat.and_one_is_mod]; exact u32_and_nat y 1 hy (by omega)
  rw [hz]
  have h2 : y % 2 = 0 ∨ y % 2 = 1 := by omega
  rcases h2 with h2 | h2 <;> simp [h2]
theorem x4 (b r : Nat) (hb : b < 256) (h : r < 8) : bits .xor .u8 (b : Int) (128 / 2 ^ r) = ((UInt8.ofNat (b ^^^ (128 / 2 ^ r))).toNat : Int) := by
  rw [UInt8.toNat_ofNat', Nat.mod_eq_of_lt (xor_lt256 _ _ hb h), ← u8_xor_nat _ _ hb ((show ∀ r < 8, 128 / 2 ^ r < 256 by decide) r h)]
  congr 1
theorem set4 {g cap B q r n : Nat} {m : List UInt8} {w : World} (h : OB B (.slice (some ⟨g, 0, none⟩) n cap) m w) (hn : n = m.length) (hr : r = q % 8) : OB B (.slice (some ⟨g, 0, none⟩) n cap) (fl m q) (w.setCell ⟨g, q / 8, none⟩ (.int .u8 (bits .xor .u8 (at0 m (q / 8) : Int) (128 / 2 ^ r)))) := by
  subst hr hn
  unfold fl
  exact h.set _ _ _ (x4 _ _ (at0_lt _ _) (by omega))
theorem part_has {l h : List UInt8} {q : Nat} (hh : h ≠ []) (hq : q + h.length ≤ l.length) (e : ∀ j, j < h.length → at0 l (q + j) = at0 h j) : hasB h l = true := by
  refine (hasB_of hh l).2 ⟨q, hq, ?_⟩
  have hlen : ((l.drop q).take h.length).length = h.length := by simp; omega
  apply list_at0 hlen
  intro k hk
  rw [hlen] at hk
  rw [at0_take _ _ _ hk, at0_drop, e k hk]
theorem at0_app_l {a b : List UInt8} {k : Nat} (h : k < a.length) : at0 (a ++ b) k = at0 a k := by
  unfold at0; rw [List.getD_eq_getElem?_getD, List.getD_eq_getElem?_getD, List.getElem?_append_left h]
theorem at0_app_r {a b : List UInt8} {k : Nat} : at0 (a ++ b) (a.length + k) = at0 b k := by
  unfold at0; rw [List.getD_eq_getElem?_getD, List.getD_eq_getElem?_getD, List.getElem?_append_right (by omega), Nat.add_sub_cancel_left]
/-- Bits turned within 32 make no tag stand there. -/
theorem turned_tag {l m : List UInt8} {a f n : Nat} (h : Turned l m a f 32) (h1 : hasB (66 :: 81 :: sp 5 n) l = false) (h2 : hasB (69 :: 81 :: sp 5 n) l = false) : hasB (tagL n) m = false := by
  cases e : hasB (tagL n) m
  · rfl
  exfalso
  obtain ⟨p, hp, ht⟩ := (hasB_of (by intro e; have := tag_len n; rw [e] at this; cases this) m).1 e
  rw [tag_len] at hp ht
  have hm : m.length = l.length := h.1
  have hat : ∀ j, j < 22 → at0 m (p + j) = at0 (tagL n) j := fun j hj => by
    rw [← ht, at0_take _ _ _ hj, at0_drop]
  have hl1 : (66 :: 81 :: sp 5 n : List UInt8).length = 7 := by simp [sp_len]
  have hl2 : (69 :: 81 :: sp 5 n : List UInt8).length = 7 := by simp [sp_len]
  by_cases hc : a + 32 ≤ 8 * (p + 15)
  · have : hasB (69 :: 81 :: sp 5 n) l = true := part_has (q := p + 15) (by simp) (by rw [hl2]; omega) fun j hj => by
      rw [hl2] at hj
      rw [← turned_byte h (.inr (by omega)), Nat.add_assoc, hat (15 + j) (by omega)]
      unfold tagL
      have := at0_app_r (a := (66 :: 81 :: sp 5 n) ++ [95, 83, 69, 65, 66, 65, 71, 95]) (b := 69 :: 81 :: sp 5 n) (k := j)
      rw [List.length_append, hl1] at this
      exact this
    rw [h2] at this; cases this
  · have : hasB (66 :: 81 :: sp 5 n) l = true := part_has (q := p) (by simp) (by rw [hl1]; omega) fun j hj => by
      rw [hl1] at hj
      rw [← turned_byte h (.inl (by omega)), hat j (by omega)]
      unfold tagL
      rw [at0_app_l (by rw [List.length_append, hl1]; simp; omega), at0_app_l (by rw [hl1]; exact hj)]
    rw [h1] at this; cases this
end Go.Proofs.Ytabnhdbhccbebaa
