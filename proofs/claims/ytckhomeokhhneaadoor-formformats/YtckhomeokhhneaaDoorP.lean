/- Plain mirrors of formats: bytes behind backslashes, places, numbers, what is told. No condition. -/
import Derived.Test.YtckhomeokhhneaaDoorLb
import Derived.Test.YtckhomeokhhneaaDoorShelf
namespace Go.Proofs.YtckhomeokhhneaaDoor
open Go.RowKit Go.PlainAid
set_option linter.unusedVariables false
set_option linter.unusedSimpArgs false

/-- Bytes that stand for themselves. -/
def plainB (c : Nat) : Bool := decide (32 ≤ c) && decide (c ≤ 126) && (c != 37) && (c != 92) && (c != 39)
def oct3 (c : Nat) : List UInt8 := [92, UInt8.ofNat (48 + c / 64), UInt8.ofNat (48 + c / 8 % 8), UInt8.ofNat (48 + c % 8)]
def escB (b : UInt8) : List UInt8 := if plainB b.toNat then [b] else oct3 b.toNat
def esc (l : List UInt8) : List UInt8 := l.flatMap escB
theorem esc_nil : esc [] = [] := rfl
theorem esc_cons (b : UInt8) (l : List UInt8) : esc (b :: l) = escB b ++ esc l := rfl

/-- A letter behind a backslash. -/
def letL : List UInt8 := [92, 97, 98, 102, 110, 114, 116, 118]
def letR : List UInt8 := [92, 7, 8, 12, 10, 13, 9, 11]
def oc (c : Nat) : Bool := decide (48 ≤ c) && decide (c ≤ 55)
/-- Octal digits, at most so many: the number, and how many. -/
def octs : Nat → List UInt8 → Nat → Nat → Nat × Nat
  | 0, _, v, n => (v, n)
  | _ + 1, [], v, n => (v, n)
  | k + 1, c :: r, v, n => if oc c.toNat then octs k r (8 * v + (c.toNat - 48)) (n + 1) else (v, n)
/-- What a backslash with these bytes behind it stands for, and how many of them tell it. -/
def bsl (r : List UInt8) : UInt8 × Nat :=
  let i := letL.idxOf (r.getD 0 0)
  if i < 8 then (letR.getD i 0, 1) else
  let o := octs 3 r 0 0
  if o.2 = 0 then (92, 0) else (UInt8.ofNat o.1, o.2)
theorem octs_le : ∀ k r v n, (octs k r v n).2 ≤ n + r.length ∧ (octs k r v n).2 ≤ n + k ∧ n ≤ (octs k r v n).2
  | 0, r, v, n => by simp [octs]
  | k + 1, [], v, n => by simp [octs]
  | k + 1, c :: r, v, n => by
    rw [octs]
    split
    · have := octs_le k r (8 * v + (c.toNat - 48)) (n + 1); simp; omega
    · simp
theorem bsl_le (r : List UInt8) : (bsl r).2 ≤ r.length ∧ (bsl r).2 ≤ 3 := by
  unfold bsl
  simp only
  split
  · rename_i h
    cases r with
    | nil => revert h; decide
    | cons c r => simp
  · have := octs_le 3 r 0 0
    split
    · simp
    · simp; omega
/-- A text with its backslashes. -/
def une (l : List UInt8) : List UInt8 := match l with
  | [] => []
  | b :: r => if b = 92 then (bsl r).1 :: une (r.drop (bsl r).2) else b :: une r
termination_by l.length
decreasing_by all_goals (simp; try omega)
theorem une_nil : une [] = [] := by rw [une]
theorem une_bs (r : List UInt8) : une (92 :: r) = (bsl r).1 :: une (r.drop (bsl r).2) := by rw [une]; simp
theorem une_ch (b : UInt8) (r : List UInt8) (h : b ≠ 92) : une (b :: r) = b :: une r := by rw [une]; simp [h]
theorem une_len (l : List UInt8) : (une l).length ≤ l.length := by
  generalize hn : l.length = n
  induction n using Nat.strongRecOn generalizing l with
  | ind n ih =>
    cases l with
    | nil => rw [une_nil]; simp
    | cons b r =>
      have hl : r.length + 1 = n := by simpa using hn
      by_cases h : b = 92
      · subst h
        rw [une_bs]
        have h2 := ih (r.drop (bsl r).2).length (by simp; omega) _ rfl
        simp at h2 ⊢
        omega
      · rw [une_ch b r h]
        have h2 := ih r.length (by omega) _ rfl
        simp; omega

/-- A place: its flags, width, precision, letter. -/
structure Pl where
  left : Bool
  zero : Bool
  width : Nat
  prec : Option Nat
  ch : Nat
def flags : List UInt8 → Nat → Bool → Bool → Nat × Bool × Bool
  | [], n, a, b => (n, a, b)
  | c :: r, n, a, b => if c.toNat = 45 then flags r (n + 1) true b else if c.toNat = 48 then flags r (n + 1) a true else (n, a, b)
def dig : Nat → List UInt8 → Nat → Nat → Nat × Nat
  | 0, _, v, n => (v, n)
  | _ + 1, [], v, n => (v, n)
  | k + 1, c :: r, v, n => if 48 ≤ c.toNat ∧ c.toNat ≤ 57 then dig k r (10 * v + (c.toNat - 48)) (n + 1) else (v, n)
theorem dig_le : ∀ k r v n, (dig k r v n).2 ≤ n + r.length ∧ (dig k r v n).2 ≤ n + k ∧ n ≤ (dig k r v n).2
  | 0, r, v, n => by simp [dig]
  | k + 1, [], v, n => by simp [dig]
  | k + 1, c :: r, v, n => by
    rw [dig]
    split
    · have := dig_le k r (10 * v + (c.toNat - 48)) (n + 1); simp; omega
    · simp
theorem dig_val : ∀ k r v n, (dig k r v n).1 < 10 ^ k * (v + 1)
  | 0, r, v, n => by simp [dig]
  | k + 1, [], v, n => by simp only [dig]; exact Nat.lt_of_lt_of_le (Nat.lt_succ_self v) (Nat.le_mul_of_pos_left _ (Nat.pow_pos (by omega)))
  | k + 1, c :: r, v, n => by
    rw [dig]
    split
    · rename_i h
      refine Nat.lt_of_lt_of_le (dig_val k r _ _) ?_
      rw [Nat.pow_succ, Nat.mul_assoc]
      exact Nat.mul_le_mul_left _ (by omega)
    · exact Nat.lt_of_lt_of_le (Nat.lt_succ_self v) (Nat.le_mul_of_pos_left _ (Nat.pow_pos (by omega)))
theorem flags_le : ∀ r n a b, (flags r n a b).1 ≤ n + r.length ∧ n ≤ (flags r n a b).1
  | [], n, a, b => by simp [flags]
  | c :: r, n, a, b => by
    rw [flags]
    split
    · have := flags_le r (n + 1) true b; simp; omega
    · split
      · have := flags_le r (n + 1) a true; simp; omega
      · simp
def plL : List UInt8 := [37, 115, 98, 99, 100, 105, 111, 117, 120, 88]
def isLet (c : Nat) : Bool := decide (UInt8.ofNat c ∈ plL)
/-- Where the precision's end is, and that. -/
def precAt (r : List UInt8) (m : Nat) : Option Nat × Nat := if at0 r m = 46 then (some (dig 3 (r.drop (m + 1)) 0 0).1, m + 1 + (dig 3 (r.drop (m + 1)) 0 0).2) else (none, m)
def wEnd (r : List UInt8) : Nat := (flags r 0 false false).1 + (dig 3 (r.drop (flags r 0 false false).1) 0 0).2
/-- The place behind a %, and how many bytes that has. -/
def placeO (r : List UInt8) : Option (Pl × Nat) :=
  let f := flags r 0 false false
  let w := dig 3 (r.drop f.1) 0 0
  let p := precAt r (f.1 + w.2)
  if isLet (at0 r p.2) then some (⟨f.2.1, f.2.2, w.1, p.1, at0 r p.2⟩, p.2 + 1) else none
theorem isLet_pos {r : List UInt8} {k : Nat} (h : isLet (at0 r k) = true) : k < r.length := by
  rcases Nat.lt_or_ge k r.length with h2 | h2
  · exact h2
  · rw [at0_end h2] at h; exact absurd h (by decide)
theorem placeO_le {r : List UInt8} {p : Pl} {n : Nat} (h : placeO r = some (p, n)) : n ≤ r.length ∧ 1 ≤ n ∧ p.width < 1000 ∧ (∀ q, p.prec = some q → q < 1000) ∧ isLet p.ch = true ∧ p.ch < 256 := by
  unfold placeO at h
  simp only at h
  split at h
  · rename_i hl
    have h1 := isLet_pos hl
    injection h with h
    injection h with h2 h3
    subst h2 h3
    refine ⟨by omega, by omega, dig_val 3 _ 0 0, ?_, hl, at0_lt _ _⟩
    intro q hq
    simp only [precAt] at hq
    split at hq
    · injection hq with hq
      rw [← hq]; exact dig_val 3 _ 0 0
    · cases hq
  · cases h

/-- An argument's number. -/
def numO (a : List UInt8) : Option Int :=
  if a = [] then some 0 else
  if a.length = 2 ∧ (at0 a 0 = 39 ∨ at0 a 0 = 34) then some (at0 a 1 : Int) else
  match Lib.parseIntB 64 a with
  | .ok v => some v
  | _ => none
def dch (n : Nat) : UInt8 := UInt8.ofNat (if n < 10 then 48 + n else 87 + n)
/-- A number's digits in a base. -/
def bd (b n : Nat) : List UInt8 := if h : n < b ∨ b < 2 then [dch n] else bd b (n / b) ++ [dch (n % b)]
termination_by n
decreasing_by exact Nat.div_lt_self (by omega) (by omega)
def up (l : List UInt8) : List UInt8 := l.map fun c => if 97 ≤ c.toNat then UInt8.ofNat (c.toNat - 32) else c
def m64 (v : Int) : Nat := (v % 18446744073709551616).toNat
/-- What is ahead of a number's digits, and these. -/
def sgnO (c : Nat) (v : Int) : List UInt8 × List UInt8 :=
  if c = 111 then ([], bd 8 (m64 v)) else
  if c = 117 then ([], Lib.decDigits (m64 v)) else
  if c = 120 then ([], bd 16 (m64 v)) else
  if c = 88 then ([], up (bd 16 (m64 v))) else
  if v < 0 then ([45], Lib.decDigits (-v).toNat) else ([], Lib.decDigits v.toNat)
def rep (c : UInt8) (n : Nat) : List UInt8 := List.replicate n c
def isNum (c : Nat) : Bool := decide (UInt8.ofNat c ∈ ([100, 105, 111, 117, 120, 88] : List UInt8))
/-- As wide as a place wants it. -/
def padL (p : Pl) (h s : List UInt8) : List UInt8 :=
  if p.left then h ++ s ++ rep 32 (p.width - h.length - s.length) else
  if p.zero && p.prec.isNone && isNum p.ch then h ++ rep 48 (p.width - h.length - s.length) ++ s else
  rep 32 (p.width - h.length - s.length) ++ h ++ s
def cutL (p : Pl) (s : List UInt8) : List UInt8 := match p.prec with
  | none => s
  | some q => s.take q
/-- An argument in a place. -/
def fillO (p : Pl) (a : List UInt8) : Option (List UInt8) :=
  if p.ch = 115 then some (padL p [] (cutL p a)) else
  if p.ch = 98 then some (padL p [] (cutL p (une a))) else
  if p.ch = 99 then some (padL p [] (a.take 1)) else
  match numO a with
  | none => none
  | some v => some (padL p (sgnO p.ch v).1 (rep 48 (p.prec.getD 0 - (sgnO p.ch v).2.length) ++ (sgnO p.ch v).2))
def argAt (A : List (List UInt8)) (u : Nat) : List UInt8 := A.getD u []
/-- A format, once: the error, or how many arguments were taken, and what was told. -/
def tellM (A : List (List UInt8)) (f : List UInt8) (u : Nat) (T : List UInt8) : Except Nat (Nat × List UInt8) := match f with
  | [] => .ok (u, T)
  | c :: r =>
    if c = 92 then tellM A (r.drop (bsl r).2) u (T ++ [(bsl r).1]) else
    if c = 37 then
      match hp : placeO r with
      | none => .error 11
      | some (p, n) =>
        if p.ch = 37 then tellM A (r.drop n) u (T ++ [37]) else
        match fillO p (argAt A u) with
        | none => .error 33
        | some s => tellM A (r.drop n) (u + 1) (T ++ s)
    else tellM A r u (T ++ [c])
termination_by f.length
decreasing_by all_goals (simp; try omega)
theorem tell_nil (A : List (List UInt8)) (u : Nat) (T : List UInt8) : tellM A [] u T = .ok (u, T) := by rw [tellM]
theorem tell_bs (A : List (List UInt8)) (r : List UInt8) (u : Nat) (T : List UInt8) : tellM A (92 :: r) u T = tellM A (r.drop (bsl r).2) u (T ++ [(bsl r).1]) := by rw [tellM]; simp
theorem tell_ch (A : List (List UInt8)) (c : UInt8) (r : List UInt8) (u : Nat) (T : List UInt8) (h1 : c ≠ 92) (h2 : c ≠ 37) : tellM A (c :: r) u T = tellM A r u (T ++ [c]) := by rw [tellM]; simp [h1, h2]
theorem tell_bad (A : List (List UInt8)) (r : List UInt8) (u : Nat) (T : List UInt8) (h : placeO r = none) : tellM A (37 :: r) u T = .error 11 := by
  rw [tellM, if_neg (by decide), if_pos rfl]
  split
  · rfl
  · rename_i e; rw [h] at e; cases e
theorem tell_pc (A : List (List UInt8)) (r : List UInt8) (u : Nat) (T : List UInt8) (p : Pl) (n : Nat) (h : placeO r = some (p, n)) (hp : p.ch = 37) : tellM A (37 :: r) u T = tellM A (r.drop n) u (T ++ [37]) := by
  rw [tellM, if_neg (by decide), if_pos rfl]
  split
  · rename_i e; rw [h] at e; cases e
  · rename_i p2 n2 e
    rw [h] at e
    injection e with e
    injection e with e1 e2
    subst e1 e2
    rw [if_pos hp]
theorem tell_no (A : List (List UInt8)) (r : List UInt8) (u : Nat) (T : List UInt8) (p : Pl) (n : Nat) (h : placeO r = some (p, n)) (hp : p.ch ≠ 37) (hf : fillO p (argAt A u) = none) : tellM A (37 :: r) u T = .error 33 := by
  rw [tellM, if_neg (by decide), if_pos rfl]
  split
  · rename_i e; rw [h] at e; cases e
  · rename_i p2 n2 e
    rw [h] at e
    injection e with e
    injection e with e1 e2
    subst e1 e2
    rw [if_neg hp]
    simp only [hf]
theorem tell_yes (A : List (List UInt8)) (r : List UInt8) (u : Nat) (T : List UInt8) (p : Pl) (n : Nat) (s : List UInt8) (h : placeO r = some (p, n)) (hp : p.ch ≠ 37) (hf : fillO p (argAt A u) = some s) : tellM A (37 :: r) u T = tellM A (r.drop n) (u + 1) (T ++ s) := by
  rw [tellM, if_neg (by decide), if_pos rfl]
  split
  · rename_i e; rw [h] at e; cases e
  · rename_i p2 n2 e
    rw [h] at e
    injection e with e
    injection e with e1 e2
    subst e1 e2
    rw [if_neg hp]
    simp only [hf]
/-- A format with arguments. -/
def formatM (A : List (List UInt8)) (f : List UInt8) (u : Nat) (T : List UInt8) : Except Nat (List UInt8) := match tellM A f u T with
  | .error e => .error e
  | .ok (u2, T2) =>
    if 4194304 < T2.length then .error 18 else
    if u < u2 ∧ u2 < A.length then formatM A f u2 T2 else .ok T2
termination_by A.length - u
decreasing_by omega
/-- How many places take one. -/
def cnt (f : List UInt8) : Nat := match f with
  | [] => 0
  | c :: r =>
    if c = 92 then cnt (r.drop (bsl r).2) else
    if c = 37 then
      match hp : placeO r with
      | none => 0
      | some (p, n) => (if p.ch = 37 then 0 else 1) + cnt (r.drop n)
    else cnt r
termination_by f.length
decreasing_by all_goals (simp; try omega)
theorem tell_cnt (A : List (List UInt8)) (f : List UInt8) : ∀ u T u2 T2, tellM A f u T = .ok (u2, T2) → u2 = u + cnt f := by
  generalize hn : f.length = n
  induction n using Nat.strongRecOn generalizing f with
  | ind n ih =>
    intro u T u2 T2 h
    cases f with
    | nil => rw [tell_nil] at h; rw [cnt]; injection h with h; injection h with h1 _; omega
    | cons c r =>
      have hl : r.length + 1 = n := by simpa using hn
      rw [cnt]
      by_cases h92 : c = 92
      · subst h92
        rw [tell_bs] at h
        rw [if_pos rfl]
        exact ih _ (by simp; omega) _ rfl _ _ _ _ h
      · rw [if_neg h92]
        by_cases h37 : c = 37
        · subst h37
          rw [if_pos rfl]
          cases hp : placeO r with
          | none => rw [tell_bad _ _ _ _ hp] at h; cases h
          | some pn =>
            obtain ⟨p, k⟩ := pn
            have hk := placeO_le hp
            simp only
            by_cases hc : p.ch = 37
            · rw [tell_pc _ _ _ _ p k hp hc] at h
              rw [if_pos hc, Nat.zero_add]
              exact ih _ (by simp; omega) _ rfl _ _ _ _ h
            · rw [if_neg hc]
              cases hf : fillO p (argAt A u) with
              | none => rw [tell_no _ _ _ _ p k hp hc hf] at h; cases h
              | some s =>
                rw [tell_yes _ _ _ _ p k s hp hc hf] at h
                have := ih _ (by simp; omega) _ rfl _ _ _ _ h
                omega
        · rw [if_neg h37]
          rw [tell_ch _ _ _ _ _ h92 h37] at h
          exact ih _ (by omega) _ rfl _ _ _ _ h
end Go.Proofs.YtckhomeokhhneaaDoor
