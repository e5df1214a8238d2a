/- The plain law behind ModeChanges: the program's Change and the document's are one, over lists. Conditions: modes below 4096. -/
import Derived.Test.YtdoccakkjgcbjaaK
import Derived.Test.YtdoccakkjgcbjaaQ
namespace Go.Proofs.Ytdoccakkjgcbjaa
open Go.RowKit Go.PlainAid

/-- A number below 4096 as an int. -/
theorem or_I {a b : Nat} (ha : a < 4096) (hb : b < 4096) : bits .or .i64 (a : Int) (b : Int) = ((a ||| b : Nat) : Int) := or_nat a b ha hb
theorem and_I {a b : Nat} (hb : b < 4096) : bits .and .i64 (a : Int) (b : Int) = ((a &&& b : Nat) : Int) := and_nat a b hb
theorem or_lt {a b : Nat} (ha : a < 4096) (hb : b < 4096) : a ||| b < 4096 := Nat.or_lt_two_pow (n := 12) ha hb
theorem and_lt {a b : Nat} (hb : b < 4096) : a &&& b < 4096 := Nat.and_lt_two_pow (n := 12) a hb

theorem lit_bit (c : Nat) (i : Nat) : c.testBit i = decide (c / 2 ^ i % 2 = 1) := bit_div c i

/-- Which of u, g, o are meant, as a number: its nine bits are those of who. -/
def WhoIs (W : Nat) (who : List Int) : Prop := W < 512 ∧ ∀ i, i < 9 → W.testBit i = inM who (ogu i)

theorem inM_append (a b : List Int) (c : Int) : inM (a ++ b) c = (inM a c || inM b c) := by unfold inM; rw [List.any_append]
theorem inM_one (c d : Int) : inM [c] d = (c == d) := by simp [inM]

theorem nine {P : Nat → Prop} (h0 : P 0) (h1 : P 1) (h2 : P 2) (h3 : P 3) (h4 : P 4) (h5 : P 5) (h6 : P 6) (h7 : P 7) (h8 : P 8) : ∀ i, i < 9 → P i := by
  intro i hi
  rcases (by omega : i = 0 ∨ i = 1 ∨ i = 2 ∨ i = 3 ∨ i = 4 ∨ i = 5 ∨ i = 6 ∨ i = 7 ∨ i = 8) with rfl | rfl | rfl | rfl | rfl | rfl | rfl | rfl | rfl <;> assumption
theorem twelve {P : Nat → Prop} (h0 : P 0) (h1 : P 1) (h2 : P 2) (h3 : P 3) (h4 : P 4) (h5 : P 5) (h6 : P 6) (h7 : P 7) (h8 : P 8) (h9 : P 9) (h10 : P 10) (h11 : P 11) : ∀ i, i < 12 → P i := by
  intro i hi
  rcases (by omega : i = 0 ∨ i = 1 ∨ i = 2 ∨ i = 3 ∨ i = 4 ∨ i = 5 ∨ i = 6 ∨ i = 7 ∨ i = 8 ∨ i = 9 ∨ i = 10 ∨ i = 11) with rfl | rfl | rfl | rfl | rfl | rfl | rfl | rfl | rfl | rfl | rfl | rfl <;> assumption

theorem who_step {W : Nat} {who add : List Int} {k : Nat} (h : WhoIs W who) (hk : k < 512) (ha : ∀ i, i < 9 → k.testBit i = inM add (ogu i)) : WhoIs (W ||| k) (who ++ add) := by
  refine ⟨Nat.or_lt_two_pow (n := 9) h.1 hk, fun i hi => ?_⟩
  rw [Nat.testBit_or, h.2 i hi, ha i hi, inM_append]

theorem u_bits : ∀ i, i < 9 → (448 : Nat).testBit i = inM [117] (ogu i) := nine (by decide) (by decide) (by decide) (by decide) (by decide) (by decide) (by decide) (by decide) (by decide)
theorem g_bits : ∀ i, i < 9 → (56 : Nat).testBit i = inM [103] (ogu i) := nine (by decide) (by decide) (by decide) (by decide) (by decide) (by decide) (by decide) (by decide) (by decide)
theorem o_bits : ∀ i, i < 9 → (7 : Nat).testBit i = inM [111] (ogu i) := nine (by decide) (by decide) (by decide) (by decide) (by decide) (by decide) (by decide) (by decide) (by decide)
theorem a_bits : ∀ i, i < 9 → (511 : Nat).testBit i = inM ([97] ++ [117, 103, 111]) (ogu i) := nine (by decide) (by decide) (by decide) (by decide) (by decide) (by decide) (by decide) (by decide) (by decide)
theorem ugo_bits : ∀ i, i < 9 → (511 : Nat).testBit i = inM [117, 103, 111] (ogu i) := nine (by decide) (by decide) (by decide) (by decide) (by decide) (by decide) (by decide) (by decide) (by decide)

theorem isU_cases {c : Int} : isU c = true ↔ c = 117 ∨ c = 103 ∨ c = 111 ∨ c = 97 := by
  unfold isU inM
  simp only [List.any_cons, List.any_nil, Bool.or_false, Bool.or_eq_true, beq_iff_eq]
  omega

/-- Who is read alike. -/
theorem who_same : ∀ (l : List Int) (W : Nat) (acc : List Int), WhoIs W acc →
    ∃ W' : Nat, rwho l (W : Int) = ((W' : Int), (rwhoL l acc).2) ∧ WhoIs W' (rwhoL l acc).1 ∧ ((rwhoL l acc).2.length = l.length → (rwhoL l acc).1 = acc ∧ (rwhoL l acc).2 = l) ∧ acc.length ≤ (rwhoL l acc).1.length ∧ ((rwhoL l acc).2.length < l.length → (rwhoL l acc).1 ≠ [])
  | [], W, acc, h => ⟨W, rfl, h, fun _ => ⟨rfl, rfl⟩, Nat.le_refl _, fun h => absurd h (Nat.lt_irrefl _)⟩
  | c :: r, W, acc, h => by
    have hW : W < 4096 := by have := h.1; omega
    by_cases hu : isU c = true
    · have key : ∀ (k : Nat) (add : List Int), k < 512 → (∀ i, i < 9 → k.testBit i = inM add (ogu i)) → 1 ≤ add.length → rwho (c :: r) (W : Int) = rwho r (bits .or .i64 (W : Int) (k : Int)) → rwhoL (c :: r) acc = rwhoL r (acc ++ add) →
        ∃ W' : Nat, rwho (c :: r) (W : Int) = ((W' : Int), (rwhoL (c :: r) acc).2) ∧ WhoIs W' (rwhoL (c :: r) acc).1 ∧ ((rwhoL (c :: r) acc).2.length = (c :: r).length → (rwhoL (c :: r) acc).1 = acc ∧ (rwhoL (c :: r) acc).2 = c :: r) ∧ acc.length ≤ (rwhoL (c :: r) acc).1.length ∧ ((rwhoL (c :: r) acc).2.length < (c :: r).length → (rwhoL (c :: r) acc).1 ≠ []) := by
        intro k add hk ha hadd e1 e2
        rw [or_I hW (by omega)] at e1
        obtain ⟨W', h1, h2, h3, h4, h5⟩ := who_same r (W ||| k) (acc ++ add) (who_step h hk ha)
        have hle : (rwhoL r (acc ++ add)).2.length ≤ r.length := by
          have := rwho_suffix r ((W ||| k : Nat) : Int)
          rw [h1] at this
          exact this.length_le
        have hlen : acc.length + add.length ≤ (rwhoL r (acc ++ add)).1.length := by rw [← List.length_append]; exact h4
        refine ⟨W', by rw [e1, e2, h1], by rw [e2]; exact h2, ?_, by rw [e2]; omega, ?_⟩
        · intro e
          rw [e2, List.length_cons] at e
          omega
        · intro _ e
          rw [e2] at e
          rw [e, List.length_nil] at hlen
          omega
      rcases isU_cases.1 hu with rfl | rfl | rfl | rfl
      · exact key 448 [117] (by omega) u_bits (by decide) rfl rfl
      · exact key 56 [103] (by omega) g_bits (by decide) rfl rfl
      · exact key 7 [111] (by omega) o_bits (by decide) rfl rfl
      · exact key 511 ([97] ++ [117, 103, 111]) (by omega) a_bits (by decide) rfl (by rw [← List.append_assoc]; rfl)
    · have e2 : rwhoL (c :: r) acc = (acc, c :: r) := by rw [rwhoL, if_neg hu]
      have e1 : rwho (c :: r) (W : Int) = ((W : Int), c :: r) := by
        have hn : ¬ (c = 117 ∨ c = 103 ∨ c = 111 ∨ c = 97) := fun e => hu (isU_cases.2 e)
        simp only [not_or] at hn
        simp only [rwho, beq_iff_eq, hn.1, hn.2.1, hn.2.2.1, hn.2.2.2, if_false]
      rw [e2]
      exact ⟨W, e1, h, fun _ => ⟨rfl, rfl⟩, Nat.le_refl _, fun h => absurd h (Nat.lt_irrefl _)⟩

/-- The bits of letters, of those who are meant. -/
def BitsAre (b : Nat) (A who : List Int) (any : Bool) : Prop := b < 4096 ∧ ∀ i, i < 12 → b.testBit i = meantM A who i any

theorem meantM_append (a b who : List Int) (i : Nat) (any : Bool) : meantM (a ++ b) who i any = (meantM a who i any || meantM b who i any) := by
  unfold meantM
  simp only [inM_append]
  repeat' split
  all_goals first | rfl | skip
  · cases inM a 115 <;> cases inM b 115 <;> cases inM who 103 <;> rfl
  · cases inM a 115 <;> cases inM b 115 <;> cases inM who 117 <;> rfl
  · cases inM a 120 <;> cases inM b 120 <;> cases inM a 88 <;> cases inM b 88 <;> cases any <;> rfl

theorem high_bit {W : Nat} (h : W < 512) (i : Nat) (hi : 9 ≤ i) : W.testBit i = false := by
  apply Nat.testBit_lt_two_pow
  exact Nat.lt_of_lt_of_le h (Nat.pow_le_pow_right (n := 2) (by omega) hi)

/-- Whether a group of bits has one. -/
theorem any_of_three {W k i j l : Nat} (hk : ∀ n, k.testBit n = (decide (n = i) || decide (n = j) || decide (n = l))) : (W &&& k != 0) = (W.testBit i || W.testBit j || W.testBit l) := by
  by_cases h : (W.testBit i || W.testBit j || W.testBit l) = true
  · rw [h]
    refine bne_iff_ne.2 fun e => ?_
    have hz : ∀ n, (W.testBit n && k.testBit n) = false := fun n => by rw [← Nat.testBit_and, e, Nat.zero_testBit]
    have a := hz i; have b := hz j; have c := hz l
    rw [hk] at a b c
    simp at a b c
    simp [a, b, c] at h
  · have h' : (W.testBit i || W.testBit j || W.testBit l) = false := by simpa using h
    rw [h']
    have : W &&& k = 0 := by
      apply Nat.eq_of_testBit_eq
      intro n
      rw [Nat.testBit_and, Nat.zero_testBit, hk]
      simp only [Bool.or_eq_false_iff] at h'
      by_cases e1 : n = i
      · subst e1; simp [h'.1.1]
      · by_cases e2 : n = j
        · subst e2; simp [h'.1.2]
        · by_cases e3 : n = l
          · subst e3; simp [h'.2]
          · simp [e1, e2, e3]
    rw [this]; rfl

theorem lit3 (k i j l : Nat) (hk : k < 512) (h : ∀ n, n < 9 → k.testBit n = (decide (n = i) || decide (n = j) || decide (n = l))) (hi : i < 9) (hj : j < 9) (hl : l < 9) : ∀ n, k.testBit n = (decide (n = i) || decide (n = j) || decide (n = l)) := by
  intro n
  by_cases hn : n < 9
  · exact h n hn
  · rw [high_bit hk n (by omega)]
    have : ¬ n = i := by omega
    have : ¬ n = j := by omega
    have : ¬ n = l := by omega
    simp [*]
theorem u448 (W : Nat) : (W &&& 448 != 0) = (W.testBit 6 || W.testBit 7 || W.testBit 8) := any_of_three (lit3 448 6 7 8 (by omega) (nine (by decide) (by decide) (by decide) (by decide) (by decide) (by decide) (by decide) (by decide) (by decide)) (by omega) (by omega) (by omega))
theorem g56 (W : Nat) : (W &&& 56 != 0) = (W.testBit 3 || W.testBit 4 || W.testBit 5) := any_of_three (lit3 56 3 4 5 (by omega) (nine (by decide) (by decide) (by decide) (by decide) (by decide) (by decide) (by decide) (by decide) (by decide)) (by omega) (by omega) (by omega))
theorem x73 (W : Nat) : (W &&& 73 != 0) = (W.testBit 0 || W.testBit 3 || W.testBit 6) := any_of_three (lit3 73 0 3 6 (by omega) (nine (by decide) (by decide) (by decide) (by decide) (by decide) (by decide) (by decide) (by decide) (by decide)) (by omega) (by omega) (by omega))

theorem bne_I (n : Nat) : (((n : Int)) != 0) = (n != 0) := by
  by_cases h : n = 0
  · subst h; rfl
  · rw [bne_iff_ne.2 h]; exact bne_iff_ne.2 (by omega)

/-- setBits, as a number. -/
def setN (who : List Int) : Nat := (if inM who 117 = true then 2048 else 0) ||| (if inM who 103 = true then 1024 else 0)
theorem setN_lt (who : List Int) : setN who < 4096 := by
  unfold setN; apply or_lt <;> split <;> omega
theorem setM_I {W : Nat} {who : List Int} (h : WhoIs W who) : setM (W : Int) = (setN who : Nat) := by
  have hu : (W &&& 448 != 0) = inM who 117 := by
    rw [u448, h.2 6 (by omega), h.2 7 (by omega), h.2 8 (by omega)]; simp [ogu]
  have hg : (W &&& 56 != 0) = inM who 103 := by
    rw [g56, h.2 3 (by omega), h.2 4 (by omega), h.2 5 (by omega)]; simp [ogu]
  unfold setM setN
  rw [show bits .and .i64 (W : Int) 448 = ((W &&& 448 : Nat) : Int) from and_I (b := 448) (by omega), show bits .and .i64 (W : Int) 56 = ((W &&& 56 : Nat) : Int) from and_I (b := 56) (by omega), bne_I, bne_I, hu, hg]
  cases inM who 117 <;> cases inM who 103 <;> decide +kernel
theorem setN_bit (who : List Int) (i : Nat) (hi : i < 12) : (setN who).testBit i = ((decide (i = 11) && inM who 117) || (decide (i = 10) && inM who 103)) := by
  unfold setN
  cases inM who 117 <;> cases inM who 103
  all_goals revert i
  · exact twelve (by decide) (by decide) (by decide) (by decide) (by decide) (by decide) (by decide) (by decide) (by decide) (by decide) (by decide) (by decide)
  · exact twelve (by decide) (by decide) (by decide) (by decide) (by decide) (by decide) (by decide) (by decide) (by decide) (by decide) (by decide) (by decide)
  · exact twelve (by decide) (by decide) (by decide) (by decide) (by decide) (by decide) (by decide) (by decide) (by decide) (by decide) (by decide) (by decide)
  · exact twelve (by decide) (by decide) (by decide) (by decide) (by decide) (by decide) (by decide) (by decide) (by decide) (by decide) (by decide) (by decide)

theorem plain_letter {W k : Nat} {who : List Int} {c : Int} {any : Bool} (h : WhoIs W who) (hc : ∀ i, i < 9 → meantM [c] who i any = (k.testBit i && inM who (ogu i))) (hc2 : meantM [c] who 9 any = false ∧ meantM [c] who 10 any = false ∧ meantM [c] who 11 any = false) :
    ∀ i, i < 12 → (k &&& W).testBit i = meantM [c] who i any := by
  intro i hi
  rw [Nat.testBit_and]
  by_cases h9 : i < 9
  · rw [hc i h9, h.2 i h9]
  · rw [high_bit h.1 i (by omega), Bool.and_false]
    rcases (by omega : i = 9 ∨ i = 10 ∨ i = 11) with rfl | rfl | rfl
    · exact hc2.1.symm
    · exact hc2.2.1.symm
    · exact hc2.2.2.symm
theorem m_r (who : List Int) (any : Bool) : ∀ i, i < 9 → meantM [114] who i any = ((292 : Nat).testBit i && inM who (ogu i)) := by
  apply nine <;> (simp only [meantM, ogu]; simp only [Nat.reduceLT, if_true, if_false]; generalize inM who 117 = u; generalize inM who 103 = g; generalize inM who 111 = o; cases u <;> cases g <;> cases o <;> cases any <;> decide)
theorem m_w (who : List Int) (any : Bool) : ∀ i, i < 9 → meantM [119] who i any = ((146 : Nat).testBit i && inM who (ogu i)) := by
  apply nine <;> (simp only [meantM, ogu]; simp only [Nat.reduceLT, if_true, if_false]; generalize inM who 117 = u; generalize inM who 103 = g; generalize inM who 111 = o; cases u <;> cases g <;> cases o <;> cases any <;> decide)
theorem m_x (who : List Int) (any : Bool) : ∀ i, i < 9 → meantM [120] who i any = ((73 : Nat).testBit i && inM who (ogu i)) := by
  apply nine <;> (simp only [meantM, ogu]; simp only [Nat.reduceLT, if_true, if_false]; generalize inM who 117 = u; generalize inM who 103 = g; generalize inM who 111 = o; cases u <;> cases g <;> cases o <;> cases any <;> decide)
theorem m_X (who : List Int) : ∀ i, i < 9 → meantM [88] who i true = ((73 : Nat).testBit i && inM who (ogu i)) := by
  apply nine <;> (simp only [meantM, ogu]; simp only [Nat.reduceLT, if_true, if_false]; generalize inM who 117 = u; generalize inM who 103 = g; generalize inM who 111 = o; cases u <;> cases g <;> cases o <;> decide)
theorem m_Xf (who : List Int) : ∀ i, i < 12 → meantM [88] who i false = false := by
  apply twelve <;> (simp only [meantM, ogu]; simp only [Nat.reduceLT, if_true, if_false]; generalize inM who 117 = u; generalize inM who 103 = g; generalize inM who 111 = o; cases u <;> cases g <;> cases o <;> decide)
theorem m_s (who : List Int) (any : Bool) : ∀ i, i < 12 → (setN who).testBit i = meantM [115] who i any := by
  intro i hi
  rw [setN_bit who i hi]
  revert i
  apply twelve <;> (simp only [meantM, ogu]; simp only [Nat.reduceLT, if_true, if_false]; generalize inM who 117 = u; generalize inM who 103 = g; generalize inM who 111 = o; cases u <;> cases g <;> cases o <;> cases any <;> decide)
theorem m_t (who : List Int) (any : Bool) : ∀ i, i < 12 → (512 : Nat).testBit i = meantM [116] who i any := by
  apply twelve <;> (simp only [meantM, ogu]; simp only [Nat.reduceLT, if_true, if_false]; generalize inM who 117 = u; generalize inM who 103 = g; generalize inM who 111 = o; cases u <;> cases g <;> cases o <;> cases any <;> decide)

theorem bits_step {b k : Nat} {A who : List Int} {c : Int} {any : Bool} (h : BitsAre b A who any) (hk : k < 4096) (hc : ∀ i, i < 12 → k.testBit i = meantM [c] who i any) : BitsAre (b ||| k) (A ++ [c]) who any :=
  ⟨or_lt h.1 hk, fun i hi => by rw [Nat.testBit_or, h.2 i hi, hc i hi, meantM_append]⟩

theorem isL_cases {c : Int} : isL c = true ↔ c = 114 ∨ c = 119 ∨ c = 120 ∨ c = 88 ∨ c = 115 ∨ c = 116 := by
  unfold isL inM
  simp only [List.any_cons, List.any_nil, Bool.or_false, Bool.or_eq_true, beq_iff_eq]
  omega
theorem isS_cases {c : Int} : isS c = true ↔ c = 43 ∨ c = 45 ∨ c = 61 := by
  unfold isS inM
  simp only [List.any_cons, List.any_nil, Bool.or_false, Bool.or_eq_true, beq_iff_eq]
  omega

/-- What stands behind the letters lets the reading go on. -/
def Goes (l : List Int) : Prop := ∀ c ∈ l.head?, isS c = true

theorem letters_same {W : Nat} {who : List Int} (any : Bool) (h : WhoIs W who) : ∀ (l : List Int) (b : Nat) (A : List Int), BitsAre b A who any →
    (∃ b' : Nat, rbits (W : Int) any l (b : Int) = some ((b' : Int), l.dropWhile isL) ∧ BitsAre b' (A ++ l.takeWhile isL) who any ∧ Goes (l.dropWhile isL)) ∨ (rbits (W : Int) any l (b : Int) = none ∧ ¬ Goes (l.dropWhile isL))
  | [], b, A, hb => .inl ⟨b, rfl, by simpa using hb, fun c hc => by simp at hc⟩
  | c :: r, b, A, hb => by
    have hW : W < 4096 := by have := h.1; omega
    by_cases hl : isL c = true
    · have e1 : (c :: r).dropWhile isL = r.dropWhile isL := List.dropWhile_cons_of_pos hl
      have e2 : A ++ (c :: r).takeWhile isL = (A ++ [c]) ++ r.takeWhile isL := by rw [List.takeWhile_cons_of_pos hl, List.append_assoc]; rfl
      have key : ∀ k : Nat, k < 4096 → (∀ i, i < 12 → k.testBit i = meantM [c] who i any) → rbits (W : Int) any (c :: r) (b : Int) = rbits (W : Int) any r (bits .or .i64 (b : Int) (k : Int)) →
          (∃ b' : Nat, rbits (W : Int) any (c :: r) (b : Int) = some ((b' : Int), (c :: r).dropWhile isL) ∧ BitsAre b' (A ++ (c :: r).takeWhile isL) who any ∧ Goes ((c :: r).dropWhile isL)) ∨ (rbits (W : Int) any (c :: r) (b : Int) = none ∧ ¬ Goes ((c :: r).dropWhile isL)) := by
        intro k hk hc e
        rw [e, e1, e2, or_I hb.1 hk]
        exact letters_same any h r (b ||| k) (A ++ [c]) (bits_step hb hk hc)
      rcases isL_cases.1 hl with rfl | rfl | rfl | rfl | rfl | rfl
      · exact key (292 &&& W) (and_lt hW) (plain_letter h (m_r who any) ⟨rfl, rfl, rfl⟩) (by rw [← and_I (a := 292) hW]; rfl)
      · exact key (146 &&& W) (and_lt hW) (plain_letter h (m_w who any) ⟨rfl, rfl, rfl⟩) (by rw [← and_I (a := 146) hW]; rfl)
      · exact key (73 &&& W) (and_lt hW) (plain_letter h (m_x who any) ⟨rfl, rfl, rfl⟩) (by rw [← and_I (a := 73) hW]; rfl)
      · cases any
        · have hb2 : BitsAre b (A ++ [88]) who false := ⟨hb.1, fun i hi => by rw [meantM_append, m_Xf who i hi, Bool.or_false]; exact hb.2 i hi⟩
          rw [show rbits (W : Int) false (88 :: r) (b : Int) = rbits (W : Int) false r (b : Int) from rfl, e1, e2]
          exact letters_same false h r b (A ++ [88]) hb2
        · exact key (73 &&& W) (and_lt hW) (plain_letter h (m_X who) ⟨rfl, rfl, rfl⟩) (by rw [← and_I (a := 73) hW]; rfl)
      · exact key (setN who) (setN_lt who) (m_s who any) (by rw [← setM_I h]; rfl)
      · exact key 512 (by omega) (m_t who any) rfl
    · have hn : ¬ (c = 114 ∨ c = 119 ∨ c = 120 ∨ c = 88 ∨ c = 115 ∨ c = 116) := fun e => hl (isL_cases.2 e)
      simp only [not_or] at hn
      have e1 : (c :: r).dropWhile isL = c :: r := List.dropWhile_cons_of_neg hl
      have e2 : (c :: r).takeWhile isL = [] := List.takeWhile_cons_of_neg hl
      rw [e1, e2, List.append_nil]
      by_cases hs : isS c = true
      · refine .inl ⟨b, ?_, hb, fun d hd => by simp only [List.head?_cons, Option.mem_some_iff] at hd; rw [← hd]; exact hs⟩
        rcases isS_cases.1 hs with rfl | rfl | rfl <;> rfl
      · refine .inr ⟨?_, fun hg => hs (hg c (by simp))⟩
        have hm : ¬ (c = 43 ∨ c = 45 ∨ c = 61) := fun e => hs (isS_cases.2 e)
        simp only [not_or] at hm
        simp only [rbits, beq_iff_eq, hn.1, hn.2.1, hn.2.2.1, hn.2.2.2.1, hn.2.2.2.2.1, hn.2.2.2.2.2, hm.1, hm.2.1, hm.2.2, if_false]
end Go.Proofs.Ytdoccakkjgcbjaa
