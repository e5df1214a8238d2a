/- Plain facts on bits of lines: bits turned within 32 of a line's letters turn bits within 32 of its bytes. -/
import Derived.Test.YtdjfapaebonadaaS
import Derived.Test.YtdjfapaebonadaaL
namespace Go.Proofs.Ytdjfapaebonadaa
open Go.RowKit Go.PlainAid
set_option linter.unusedSimpArgs false
set_option linter.unusedVariables false

/-- A bit of a text, the highest of each byte first. -/
def bA (l : List UInt8) (p : Nat) : Bool := (at0 l (p / 8)).testBit (7 - p % 8)
/-- One bit turned. -/
def fl (l : List UInt8) (q : Nat) : List UInt8 := l.set (q / 8) (UInt8.ofNat (at0 l (q / 8) ^^^ (128 / 2 ^ (q % 8))))
theorem fl_len (l : List UInt8) (q : Nat) : (fl l q).length = l.length := by simp [fl]
theorem p128 (r : Nat) (h : r < 8) : 128 / 2 ^ r = 2 ^ (7 - r) := (show ∀ r < 8, 128 / 2 ^ r = 2 ^ (7 - r) by decide) r h
theorem xor_lt256 (a r : Nat) (ha : a < 256) (h : r < 8) : a ^^^ (128 / 2 ^ r) < 256 := Nat.xor_lt_two_pow (n := 8) ha ((show ∀ r < 8, 128 / 2 ^ r < 2 ^ 8 by decide) r h)
theorem at0_set_self {l : List UInt8} {k : Nat} {b : UInt8} (h : k < l.length) : at0 (l.set k b) k = b.toNat := by
  unfold at0; rw [List.getD_eq_getElem?_getD, List.getElem?_set_self h]; rfl
theorem at0_set_ne {l : List UInt8} {k j : Nat} {b : UInt8} (h : k ≠ j) : at0 (l.set k b) j = at0 l j := by
  unfold at0; rw [List.getD_eq_getElem?_getD, List.getElem?_set_ne h, ← List.getD_eq_getElem?_getD]
theorem fl_bit (l : List UInt8) (q p : Nat) (hq : q < 8 * l.length) : bA (fl l q) p = (bA l p ^^ decide (p = q)) := by
  unfold bA fl
  have hb := at0_lt l (q / 8)
  by_cases h : p / 8 = q / 8
  · rw [h, at0_set_self (by omega), UInt8.toNat_ofNat', Nat.mod_eq_of_lt (xor_lt256 _ _ hb (by omega)), Nat.testBit_xor, p128 _ (by omega), Nat.testBit_two_pow]
    congr 1
    rw [decide_eq_decide]
    omega
  · rw [at0_set_ne (by omega), decide_eq_false (p := p = q) (by intro e; subst e; exact h rfl), Bool.xor_false]
/-- So many bits looked at. -/
def Turned (l m : List UInt8) (a f k : Nat) : Prop := m.length = l.length ∧ ∀ p, bA m p = (bA l p ^^ (decide (a ≤ p ∧ p < a + k) && f.testBit (p - a)))
theorem turned_zero (l : List UInt8) (a f : Nat) : Turned l l a f 0 := ⟨rfl, fun p => by rw [decide_eq_false (p := a ≤ p ∧ p < a + 0) (by omega)]; simp⟩
theorem turned_no {l m : List UInt8} {a f k : Nat} (h : Turned l m a f k) (hk : f.testBit k = false) : Turned l m a f (k + 1) := ⟨h.1, fun p => by
  rw [h.2 p]
  congr 1
  by_cases e : p = a + k
  · subst e; rw [show a + k - a = k by omega, hk]; simp
  · congr 1; rw [decide_eq_decide]; omega⟩
theorem turned_yes {l m : List UInt8} {a f k : Nat} (h : Turned l m a f k) (hk : f.testBit k = true) (hq : a + k < 8 * l.length) : Turned l (fl m (a + k)) a f (k + 1) := ⟨(fl_len _ _).trans h.1, fun p => by
  rw [fl_bit m _ p (by rw [h.1]; exact hq), h.2 p]
  by_cases e : p = a + k
  · subst e
    rw [show a + k - a = k by omega, hk, decide_eq_false (p := a ≤ a + k ∧ a + k < a + k) (by omega), decide_eq_true (p := a ≤ a + k ∧ a + k < a + (k + 1)) (by omega)]
    simp
  · rw [decide_eq_false e, Bool.xor_false]
    congr 2
    rw [decide_eq_decide]; omega⟩
theorem turned_in {l m : List UInt8} {a f p : Nat} (h : Turned l m a f 32) (hne : bA m p ≠ bA l p) : a ≤ p ∧ p < a + 32 := by
  by_cases hp : a ≤ p ∧ p < a + 32
  · exact hp
  · rw [h.2 p, decide_eq_false hp] at hne; simp at hne
theorem byte_ext {a b : Nat} (ha : a < 256) (hb : b < 256) (h : ∀ r, r < 8 → a.testBit (7 - r) = b.testBit (7 - r)) : a = b := by
  apply Nat.eq_of_testBit_eq
  intro i
  by_cases hi : i < 8
  · have := h (7 - i) (by omega)
    rw [show 7 - (7 - i) = i by omega] at this
    exact this
  · rw [Nat.testBit_lt_two_pow (Nat.lt_of_lt_of_le ha (Nat.pow_le_pow_right (n := 2) (i := 8) (by omega) (by omega))), Nat.testBit_lt_two_pow (Nat.lt_of_lt_of_le hb (Nat.pow_le_pow_right (n := 2) (i := 8) (by omega) (by omega)))]
theorem turned_byte {l m : List UInt8} {a f k : Nat} (h : Turned l m a f 32) (hk : 8 * k + 8 ≤ a ∨ a + 32 ≤ 8 * k) : at0 m k = at0 l k := by
  apply byte_ext (at0_lt _ _) (at0_lt _ _)
  intro r hr
  have := h.2 (8 * k + r)
  unfold bA at this
  rw [show (8 * k + r) / 8 = k by omega, show (8 * k + r) % 8 = r by omega, decide_eq_false (by omega)] at this
  simpa using this
theorem list_at0 {l m : List UInt8} (hl : l.length = m.length) (h : ∀ k, k < l.length → at0 l k = at0 m k) : l = m := by
  apply List.ext_getElem hl
  intro i h1 h2
  have := h i h1
  rw [at0_of h1, at0_of h2] at this
  exact UInt8.toNat_inj.1 this
/-- A line of which letters were turned is a line of other letters. -/
theorem turned_line {l m : List UInt8} {a f : Nat} (hl : l.length ≤ 45) (h : Turned (line l) m a f 32) (ha : 8 ≤ a) (ha2 : a + 32 ≤ 8 * ((line l).length - 1)) : ∃ r, m = lt l.length :: (r ++ [10]) ∧ r.length = (body l).length := by
  have hll := line_len l
  have hbl := body_len l
  refine ⟨(m.drop 1).take (body l).length, ?_, ?_⟩
  · apply list_at0
    · simp; have := h.1; omega
    · intro k hk
      have hml := h.1
      by_cases h0 : k = 0
      · subst h0
        rw [turned_byte h (by omega)]
        rfl
      · obtain ⟨j, rfl⟩ : ∃ j, k = j + 1 := ⟨k - 1, by omega⟩
        have e : at0 (lt l.length :: ((m.drop 1).take (body l).length ++ [10])) (j + 1) = at0 ((m.drop 1).take (body l).length ++ [10]) j := rfl
        rw [e]
        by_cases hj : j < (body l).length
        · unfold at0
          rw [List.getD_eq_getElem?_getD, List.getD_eq_getElem?_getD, List.getElem?_append_left (by simp; omega), List.getElem?_take, if_pos hj, List.getElem?_drop, Nat.add_comm 1 j]
        · have hj2 : j = (body l).length := by omega
          rw [turned_byte h (by omega)]
          have hlen : ((m.drop 1).take (body l).length).length = (body l).length := by simp; omega
          have e1 : at0 ((m.drop 1).take (body l).length ++ [10]) j = 10 := by
            unfold at0
            rw [List.getD_eq_getElem?_getD, List.getElem?_append_right (by omega), hlen, hj2, Nat.sub_self]; rfl
          have e2 : at0 (line l) (j + 1) = 10 := by
            show at0 (body l ++ [10]) j = 10
            unfold at0
            rw [List.getD_eq_getElem?_getD, List.getElem?_append_right (by omega), hj2, Nat.sub_self]; rfl
          rw [e1, e2]
  · simp; have := h.1; omega

theorem tb_part (v k t n : Nat) (h : t < n) : (v / 2 ^ k % 2 ^ n).testBit t = v.testBit (k + t) := by
  rw [Nat.testBit_mod_two_pow, decide_eq_true h, Bool.true_and, Nat.testBit_div_two_pow, Nat.add_comm]
theorem six_bit (c x t : Nat) (hc : c < 256) (h : sixN c = some x) (ht : t < 6) : x.testBit t = (c.testBit t ^^ decide (t = 5)) := by
  unfold sixN at h
  split at h
  · rename_i hr
    cases h
    exact (show ∀ c < 97, 32 ≤ c → ∀ t < 6, ((c - 32) % 64).testBit t = (c.testBit t ^^ decide (t = 5)) by decide) c (by omega) hr.1 t ht
  · cases h
theorem r4_parts {r : List UInt8} {v : Nat} (h : r4 r = some v) : ∃ a b c d, sixN (at0 r 0) = some a ∧ sixN (at0 r 1) = some b ∧ sixN (at0 r 2) = some c ∧ sixN (at0 r 3) = some d ∧ v = 262144 * a + 4096 * b + 64 * c + d := by
  match r, h with
  | w :: x :: y :: z :: r, h =>
    simp only [r4] at h
    cases ha : sixO w with
    | none => simp [ha] at h
    | some a =>
      cases hb : sixO x with
      | none => simp [ha, hb] at h
      | some b =>
        cases hc : sixO y with
        | none => simp [ha, hb, hc] at h
        | some c =>
          cases hd : sixO z with
          | none => simp [ha, hb, hc, hd] at h
          | some d =>
            simp [ha, hb, hc, hd] at h
            exact ⟨a, b, c, d, ha, hb, hc, hd, h.symm⟩
theorem r4_bit {r : List UInt8} {v q : Nat} (h : r4 r = some v) (hq : q < 24) : v.testBit (23 - q) = ((at0 r (q / 6)).testBit (5 - q % 6) ^^ decide (q % 6 = 0)) := by
  obtain ⟨a, b, c, d, ha, hb, hc, hd, rfl⟩ := r4_parts h
  have la := sixN_lt ha; have lb := sixN_lt hb; have lc := sixN_lt hc; have ld := sixN_lt hd
  have e5 : decide (5 - q % 6 = 5) = decide (q % 6 = 0) := by rw [decide_eq_decide]; omega
  have h4 : q / 6 = 0 ∨ q / 6 = 1 ∨ q / 6 = 2 ∨ q / 6 = 3 := by omega
  rcases h4 with e | e | e | e <;> rw [e]
  · rw [← e5, ← six_bit _ a _ (at0_lt _ _) ha (by omega)]
    rw [show 23 - q = 18 + (5 - q % 6) by omega, ← tb_part _ 18 _ 6 (by omega)]
    congr 1; omega
  · rw [← e5, ← six_bit _ b _ (at0_lt _ _) hb (by omega)]
    rw [show 23 - q = 12 + (5 - q % 6) by omega, ← tb_part _ 12 _ 6 (by omega)]
    congr 1; omega
  · rw [← e5, ← six_bit _ c _ (at0_lt _ _) hc (by omega)]
    rw [show 23 - q = 6 + (5 - q % 6) by omega, ← tb_part _ 6 _ 6 (by omega)]
    congr 1; omega
  · rw [← e5, ← six_bit _ d _ (at0_lt _ _) hd (by omega)]
    rw [show 23 - q = 0 + (5 - q % 6) by omega, ← tb_part _ 0 _ 6 (by omega)]
    congr 1; omega
theorem three_bit (v q : Nat) (hq : q < 24) : bA (three v) q = v.testBit (23 - q) := by
  unfold bA
  have h4 : q / 8 = 0 ∨ q / 8 = 1 ∨ q / 8 = 2 := by omega
  have e0 : at0 (three v) 0 = v / 2 ^ 16 % 2 ^ 8 := by show (UInt8.ofNat (v / 65536)).toNat = _; rw [UInt8.toNat_ofNat']
  have e1 : at0 (three v) 1 = v / 2 ^ 8 % 2 ^ 8 := by show (UInt8.ofNat (v / 256)).toNat = _; rw [UInt8.toNat_ofNat']
  have e2 : at0 (three v) 2 = v / 2 ^ 0 % 2 ^ 8 := by show (UInt8.ofNat v).toNat = _; rw [UInt8.toNat_ofNat', Nat.pow_zero, Nat.div_one]
  rcases h4 with e | e | e <;> rw [e]
  · rw [e0, tb_part _ _ _ _ (by omega)]; congr 1; omega
  · rw [e1, tb_part _ _ _ _ (by omega)]; congr 1; omega
  · rw [e2, tb_part _ _ _ _ (by omega)]; congr 1; omega
theorem bA_app (a b : List UInt8) (p : Nat) (h : 8 * a.length ≤ p) : bA (a ++ b) p = bA b (p - 8 * a.length) := by
  unfold bA at0
  rw [List.getD_eq_getElem?_getD, List.getElem?_append_right (by omega), List.getD_eq_getElem?_getD, show p / 8 - a.length = (p - 8 * a.length) / 8 by omega, show (p - 8 * a.length) % 8 = p % 8 by omega]
theorem bA_left (a b : List UInt8) (p : Nat) (h : p < 8 * a.length) : bA (a ++ b) p = bA a p := by
  unfold bA at0
  rw [List.getD_eq_getElem?_getD, List.getElem?_append_left (by omega), List.getD_eq_getElem?_getD]
theorem bA_take (a : List UInt8) (n p : Nat) (h : p < 8 * n) : bA (a.take n) p = bA a p := by
  unfold bA; rw [at0_take _ _ _ (by omega)]
/-- The bits of bytes are the letters' bits. -/
theorem gr_bit (n : Nat) (r d : List UInt8) (h : gr n r = some d) (i : Nat) (hi : i < 8 * n) : bA d i = ((at0 r (i / 6)).testBit (5 - i % 6) ^^ decide (i % 6 = 0)) := by
  by_cases h0 : n = 0
  · omega
  · cases h4 : r4 r with
    | none => rw [gr_none (by omega) h4] at h; cases h
    | some v =>
      rw [gr_some (by omega) h4] at h
      cases hg : gr (n - 3) (r.drop 4) with
      | none => rw [hg] at h; cases h
      | some d' =>
        rw [hg] at h
        simp only [Option.map_some, Option.some.injEq] at h
        subst h
        have hl : ((three v).take n).length = min n 3 := by simp [three_len]
        by_cases h24 : i < 24
        · rw [bA_left _ _ _ (by rw [hl]; omega), bA_take _ _ _ hi, three_bit v i h24, r4_bit h4 h24]
        · have ih := gr_bit (n - 3) (r.drop 4) d' hg (i - 24) (by omega)
          rw [bA_app _ _ _ (by rw [hl]; omega), hl, show i - 8 * min n 3 = i - 24 by omega, ih, at0_drop, show 4 + (i - 24) / 6 = i / 6 by omega, show (i - 24) % 6 = i % 6 by omega]
termination_by n
/-- Where bytes differ, their letters differ. -/
theorem diff_in {l m r d : List UInt8} {a f i : Nat} (hl : l.length ≤ 45) (h : Turned (line l) m a f 32) (hm : m = lt l.length :: (r ++ [10])) (hr : r.length = (body l).length) (hg : gr l.length r = some d) (hi : i < 8 * l.length) (hne : bA d i ≠ bA l i) : a ≤ i + 2 * (i / 6) + 10 ∧ i + 2 * (i / 6) + 10 < a + 32 := by
  have hb := gr_body l []
  rw [List.append_nil] at hb
  rw [gr_bit _ _ _ hg i hi, gr_bit _ _ _ hb i hi] at hne
  have hbl := body_len l
  apply turned_in h
  intro e
  apply hne
  congr 1
  unfold bA at e
  rw [show (i + 2 * (i / 6) + 10) / 8 = i / 6 + 1 by omega, show 7 - (i + 2 * (i / 6) + 10) % 8 = 5 - i % 6 by omega, hm] at e
  have e1 : at0 (lt l.length :: (r ++ [10])) (i / 6 + 1) = at0 r (i / 6) := by
    show at0 (r ++ [10]) (i / 6) = _
    unfold at0; rw [List.getD_eq_getElem?_getD, List.getElem?_append_left (by omega), List.getD_eq_getElem?_getD]
  have e2 : at0 (line l) (i / 6 + 1) = at0 (body l) (i / 6) := by
    show at0 (body l ++ [10]) (i / 6) = _
    unfold at0; rw [List.getD_eq_getElem?_getD, List.getElem?_append_left (by omega), List.getD_eq_getElem?_getD]
  rw [e1, e2] at e
  exact e
def beginS : List UInt8 := [98, 101, 103, 105, 110, 32, 54, 52, 52, 32, 120, 10]
theorem begin_first : beginS = firstL 420 [120] ++ [10] := rfl
theorem decode_turned {l m r : List UInt8} (hl : l.length ≤ 45) (hl6 : 6 ≤ l.length) (hm : m = lt l.length :: (r ++ [10])) (hr : r.length = (body l).length) :
    decodeO (beginS ++ m ++ (line [] ++ endL)) = none ∨ ∃ d, gr l.length r = some d ∧ decodeO (beginS ++ m ++ (line [] ++ endL)) = some (420, [120], d) := by
  have e0 : beginS ++ m ++ (line [] ++ endL) = firstL 420 [120] ++ 10 :: (m ++ restL []) := by rw [begin_first, restL_nil]; simp
  have hn0 : nl (firstL 420 [120] ++ 10 :: (m ++ restL [])) = (firstL 420 [120]).length := nl_app _ _ (by decide)
  have hlt0 : nl (firstL 420 [120] ++ 10 :: (m ++ restL [])) < (firstL 420 [120] ++ 10 :: (m ++ restL [])).length := by rw [hn0, List.length_append]; simp
  have hD : decodeO (beginS ++ m ++ (line [] ++ endL)) = (dec (m ++ restL []) []).map fun d => (420, [120], d) := by
    rw [e0]
    unfold decodeO
    rw [if_pos hlt0, hn0, List.take_left, head_first 420 [120] (by decide), show firstL 420 [120] ++ 10 :: (m ++ restL []) = (firstL 420 [120] ++ [10]) ++ (m ++ restL []) by simp, List.drop_left' (by simp)]
  rw [hD]
  have hX : m ++ restL [] = lt l.length :: (r ++ 10 :: restL []) := by rw [hm]; simp
  have hlt10 : lt l.length ≠ 10 := ne10 (lt_ge _ (by omega))
  by_cases h10 : 10 ∈ r
  · left
    have hk : nl r < r.length := List.idxOf_lt_length_iff.2 h10
    have hn1 : nl (m ++ restL []) = 1 + nl r := by
      rw [hX]
      unfold nl
      rw [List.idxOf_cons]
      have hxb : (lt l.length == 10) = false := by simpa using hlt10
      rw [hxb]
      simp only [cond_false]
      rw [List.idxOf_append, if_pos h10]; omega
    have hbad : bytesOf ((m ++ restL []).take (nl (m ++ restL []))) = none := by
      rw [hn1, hX, Nat.add_comm 1, List.take_succ_cons]
      simp only [bytesOf, sixO_lt _ (show l.length < 64 by omega)]
      rw [if_neg]
      rintro ⟨_, h⟩
      rw [List.length_take, List.length_append] at h
      have := body_len l
      omega
    rw [dec_bad (by rw [hn1, hX]; simp; omega) hbad]
    rfl
  · have hn1 : nl (m ++ restL []) = 1 + r.length := by
      rw [hX, show lt l.length :: (r ++ 10 :: restL []) = (lt l.length :: r) ++ 10 :: restL [] by simp, nl_app]
      · simp; omega
      · intro c hc
        rcases List.mem_cons.1 hc with rfl | hc
        · exact hlt10
        · rintro rfl; exact h10 hc
    have hby : bytesOf ((m ++ restL []).take (nl (m ++ restL []))) = gr l.length r := by
      rw [hn1, hX, Nat.add_comm 1, List.take_succ_cons, List.take_left]
      simp only [bytesOf, sixO_lt _ (show l.length < 64 by omega)]
      rw [if_pos ⟨hl, by rw [hr, body_len]⟩]
    have hlt1 : nl (m ++ restL []) < (m ++ restL []).length := by rw [hn1, hX]; simp; omega
    cases hg : gr l.length r with
    | none => left; rw [dec_bad hlt1 (by rw [hby, hg])]; rfl
    | some d =>
      right
      have hdl := gr_len _ _ _ hg
      refine ⟨d, rfl, ?_⟩
      rw [dec_next hlt1 (by rw [hby, hg]) (by rintro rfl; simp at hdl; omega), hn1, hX, show lt l.length :: (r ++ 10 :: restL []) = (lt l.length :: r ++ [10]) ++ restL [] by simp, List.drop_left' (by simp; omega), dec_restL]
      simp
end Go.Proofs.Ytdjfapaebonadaa
