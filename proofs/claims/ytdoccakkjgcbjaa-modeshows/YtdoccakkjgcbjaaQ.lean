/- Plain mirrors of the document's own answers for modes (Has, Put, meant, gone, act, clause, Change), over lists of numbers and natural numbers. Conditions: modes below 4096 where said. -/
import Derived.Test.YtdoccakkjgcbjaaP
import Derived.Test.YtdoccakkjgcbjaaG
namespace Go.Proofs.Ytdoccakkjgcbjaa
open Go.RowKit Go.PlainAid

def hasI : Nat → Int → Bool
  | 0, m => m % 2 == 1
  | n + 1, m => hasI n (m / 2)
theorem hasI_nat : ∀ (n m : Nat), hasI n (m : Int) = m.testBit n
  | 0, m => by
    rw [hasI, Nat.testBit_zero]
    by_cases h : m % 2 = 1
    · rw [decide_eq_true h]; exact beq_iff_eq.2 (by omega)
    · rw [decide_eq_false h]; exact beq_eq_false_iff_ne.2 (by omega)
  | n + 1, m => by
    rw [hasI, Nat.testBit_succ, ← hasI_nat n (m / 2)]
    congr 1

def putN (m b : Nat) (yes : Bool) : Nat := if m.testBit b = yes then m else if yes = true then m + 2 ^ b else m - 2 ^ b

theorem bit_div (m i : Nat) : m.testBit i = decide (m / 2 ^ i % 2 = 1) := by
  rw [Nat.testBit_eq_decide_div_mod_eq]

theorem putN_lt (m b : Nat) (yes : Bool) (hm : m < 4096) (hb : b < 12) : putN m b yes < 4096 := by
  unfold putN
  split
  · exact hm
  · rename_i h
    split
    · rename_i hy
      subst hy
      have h1 : m.testBit b = false := by simpa using h
      rw [bit_div] at h1
      have h2 := of_decide_eq_false h1
      rcases (by omega : b = 0 ∨ b = 1 ∨ b = 2 ∨ b = 3 ∨ b = 4 ∨ b = 5 ∨ b = 6 ∨ b = 7 ∨ b = 8 ∨ b = 9 ∨ b = 10 ∨ b = 11) with rfl | rfl | rfl | rfl | rfl | rfl | rfl | rfl | rfl | rfl | rfl | rfl <;> omega
    · exact Nat.lt_of_le_of_lt (Nat.sub_le _ _) hm

theorem div_set (m b j : Nat) (hb : b < 12) (hj : j < 12) (h : m / 2 ^ b % 2 = 0) : (m + 2 ^ b) / 2 ^ j % 2 = if j = b then 1 else m / 2 ^ j % 2 := by
  rcases (by omega : b = 0 ∨ b = 1 ∨ b = 2 ∨ b = 3 ∨ b = 4 ∨ b = 5 ∨ b = 6 ∨ b = 7 ∨ b = 8 ∨ b = 9 ∨ b = 10 ∨ b = 11) with rfl | rfl | rfl | rfl | rfl | rfl | rfl | rfl | rfl | rfl | rfl | rfl <;>
  rcases (by omega : j = 0 ∨ j = 1 ∨ j = 2 ∨ j = 3 ∨ j = 4 ∨ j = 5 ∨ j = 6 ∨ j = 7 ∨ j = 8 ∨ j = 9 ∨ j = 10 ∨ j = 11) with rfl | rfl | rfl | rfl | rfl | rfl | rfl | rfl | rfl | rfl | rfl | rfl <;>
  (first | omega | (simp at *; done) | (simp at *; omega))
theorem div_clear (m b j : Nat) (hb : b < 12) (hj : j < 12) (h : m / 2 ^ b % 2 = 1) : (m - 2 ^ b) / 2 ^ j % 2 = if j = b then 0 else m / 2 ^ j % 2 := by
  rcases (by omega : b = 0 ∨ b = 1 ∨ b = 2 ∨ b = 3 ∨ b = 4 ∨ b = 5 ∨ b = 6 ∨ b = 7 ∨ b = 8 ∨ b = 9 ∨ b = 10 ∨ b = 11) with rfl | rfl | rfl | rfl | rfl | rfl | rfl | rfl | rfl | rfl | rfl | rfl <;>
  rcases (by omega : j = 0 ∨ j = 1 ∨ j = 2 ∨ j = 3 ∨ j = 4 ∨ j = 5 ∨ j = 6 ∨ j = 7 ∨ j = 8 ∨ j = 9 ∨ j = 10 ∨ j = 11) with rfl | rfl | rfl | rfl | rfl | rfl | rfl | rfl | rfl | rfl | rfl | rfl <;>
  (first | omega | (simp at *; done) | (simp at *; omega))

theorem putN_bit (m b j : Nat) (yes : Bool) (hb : b < 12) (hj : j < 12) : (putN m b yes).testBit j = if j = b then yes else m.testBit j := by
  unfold putN
  split
  · rename_i h
    by_cases e : j = b
    · rw [if_pos e, e, h]
    · rw [if_neg e]
  · rename_i h
    split
    · rename_i hy
      subst hy
      have h1 : m.testBit b = false := by simpa using h
      rw [bit_div] at h1 ⊢
      have h2 := of_decide_eq_false h1
      rw [div_set m b j hb hj (by omega), bit_div]
      by_cases e : j = b
      · simp [e]
      · simp [e]
    · rename_i hy
      have hf : yes = false := by simpa using hy
      subst hf
      have h1 : m.testBit b = true := by simpa using h
      rw [bit_div] at h1 ⊢
      have h2 := of_decide_eq_true h1
      rw [div_clear m b j hb hj h2, bit_div]
      by_cases e : j = b
      · simp [e]
      · simp [e]

def inM (l : List Int) (c : Int) : Bool := l.any fun d => d == c
def ogu (bit : Nat) : Int := if bit < 3 then 111 else if bit < 6 then 103 else 117
def meantM (ls who : List Int) (bit : Nat) (any : Bool) : Bool :=
  if bit = 9 then inM ls 116 else if bit = 10 then inM ls 115 && inM who 103 else if bit = 11 then inM ls 115 && inM who 117 else
  if inM who (ogu bit) = false then false else if bit % 3 = 0 then inM ls 120 || (inM ls 88 && any) else inM ls (if bit % 3 = 1 then 119 else 114)
def goneM (who : List Int) (bit : Nat) : Bool :=
  if bit < 9 then inM who (ogu bit) else (decide (bit = 10) && inM who 103) || (decide (bit = 11) && inM who 117)

def stepR (sign : Int) (ls who : List Int) (any named : Bool) (mask out bit : Nat) : Nat :=
  if (!named && decide (bit < 9) && mask.testBit bit) = true then out else
  if sign = 43 ∧ meantM ls who bit any = true then putN out bit true else
  if sign = 45 ∧ meantM ls who bit any = true then putN out bit false else
  if sign = 61 ∧ (meantM ls who bit any = true ∨ goneM who bit = true) then putN out bit (meantM ls who bit any) else out
def afterR (sign : Int) (ls who : List Int) (any named : Bool) (mask m : Nat) : Nat → Nat
  | 0 => m
  | k + 1 => stepR sign ls who any named mask (afterR sign ls who any named mask m k) k
def anyR (m : Nat) (dir : Bool) : Bool := dir || m.testBit 0 || m.testBit 3 || m.testBit 6
def actRef (m : Nat) (sign : Int) (ls who : List Int) (dir : Bool) (mask : Nat) (named : Bool) : Nat := afterR sign ls who (anyR m dir) named mask m 12

theorem stepR_lt (sign : Int) (ls who : List Int) (any named : Bool) (mask out bit : Nat) (h : out < 4096) (hb : bit < 12) : stepR sign ls who any named mask out bit < 4096 := by
  unfold stepR
  repeat' split
  all_goals first | exact h | exact putN_lt _ _ _ h hb
theorem afterR_lt (sign : Int) (ls who : List Int) (any named : Bool) (mask m : Nat) (h : m < 4096) : ∀ k, k ≤ 12 → afterR sign ls who any named mask m k < 4096
  | 0, _ => h
  | k + 1, hk => stepR_lt _ _ _ _ _ _ _ _ (afterR_lt sign ls who any named mask m h k (by omega)) (by omega)

/-- What a step leaves at a bit. -/
def bitR (sign : Int) (is gone skip old : Bool) : Bool :=
  if skip = true then old else if sign = 43 then (old || is) else if sign = 45 then (old && !is) else if sign = 61 then (if (is || gone) = true then is else old) else old
theorem stepR_bit (sign : Int) (ls who : List Int) (any named : Bool) (mask out bit j : Nat) (hb : bit < 12) (hj : j < 12) :
    (stepR sign ls who any named mask out bit).testBit j = if j = bit then bitR sign (meantM ls who bit any) (goneM who bit) (!named && decide (bit < 9) && mask.testBit bit) (out.testBit bit) else out.testBit j := by
  unfold stepR bitR
  generalize (!named && decide (bit < 9) && mask.testBit bit) = skip
  generalize meantM ls who bit any = is
  generalize goneM who bit = gone
  cases skip
  · by_cases s1 : sign = 43
    · subst s1
      cases is
      · by_cases e : j = bit <;> simp [e]
      · by_cases e : j = bit <;> simp [e, putN_bit, hb, hj]
    · by_cases s2 : sign = 45
      · subst s2
        cases is
        · by_cases e : j = bit <;> simp [e]
        · by_cases e : j = bit <;> simp [e, putN_bit, hb, hj]
      · by_cases s3 : sign = 61
        · subst s3
          cases is
          · cases gone
            · by_cases e : j = bit <;> simp [e]
            · by_cases e : j = bit <;> simp [e, putN_bit, hb, hj]
          · by_cases e : j = bit <;> simp [e, putN_bit, hb, hj]
        · by_cases e : j = bit <;> simp [s1, s2, s3, e]
  · by_cases e : j = bit <;> simp [e]
theorem afterR_bit (sign : Int) (ls who : List Int) (any named : Bool) (mask m j : Nat) (hj : j < 12) : ∀ k, k ≤ 12 →
    (afterR sign ls who any named mask m k).testBit j = if j < k then bitR sign (meantM ls who j any) (goneM who j) (!named && decide (j < 9) && mask.testBit j) (m.testBit j) else m.testBit j
  | 0, _ => by simp [afterR]
  | k + 1, hk => by
    rw [afterR, stepR_bit _ _ _ _ _ _ _ _ _ (by omega) hj]
    have ih := afterR_bit sign ls who any named mask m j hj k (by omega)
    by_cases e : j = k
    · subst e
      rw [if_pos rfl, ih, if_neg (by omega), if_pos (by omega)]
    · rw [if_neg e, ih]
      by_cases l : j < k
      · rw [if_pos l, if_pos (by omega)]
      · rw [if_neg l, if_neg (by omega)]

def isU (c : Int) : Bool := inM [117, 103, 111, 97] c
def isL (c : Int) : Bool := inM [114, 119, 120, 88, 115, 116] c
def isS (c : Int) : Bool := inM [43, 45, 61] c

def rwhoL : List Int → List Int → List Int × List Int
  | [], acc => (acc, [])
  | c :: r, acc => if isU c = true then (if c = 97 then rwhoL r (acc ++ [c] ++ [117, 103, 111]) else rwhoL r (acc ++ [c])) else (acc, c :: r)

def cgoR (who : List Int) (named dir : Bool) (mask : Nat) : Nat → List Int → Nat → Option Nat
  | 0, _, m => some m
  | _ + 1, [], m => some m
  | n + 1, sg :: r, m => if isS sg = true then cgoR who named dir mask n (r.dropWhile isL) (actRef m sg (r.takeWhile isL) who dir mask named) else none

theorem dropWhile_length (l : List Int) : (l.dropWhile isL).length ≤ l.length := (List.dropWhile_suffix isL).length_le

theorem cgoR_fuel (who : List Int) (named dir : Bool) (mask : Nat) : ∀ (n : Nat) (l : List Int) (m : Nat), l.length ≤ n → cgoR who named dir mask n l m = cgoR who named dir mask l.length l m := by
  intro n
  induction n using Nat.strongRecOn with
  | _ n ih =>
    intro l m h
    match n, l, h with
    | 0, [], _ => rfl
    | n + 1, [], _ => rfl
    | n + 1, sg :: r, h =>
      simp only [List.length_cons, cgoR]
      split
      · have hl := dropWhile_length r
        have h' : r.length ≤ n := by simpa using h
        rw [ih n (by omega) _ _ (by omega), ih r.length (by omega) _ _ hl]
      · rfl
theorem cgoR_step (who : List Int) (named dir : Bool) (mask n : Nat) (sg : Int) (r : List Int) (m : Nat) (h : (sg :: r).length ≤ n) :
    cgoR who named dir mask n (sg :: r) m = if isS sg = true then cgoR who named dir mask n (r.dropWhile isL) (actRef m sg (r.takeWhile isL) who dir mask named) else none := by
  rw [cgoR_fuel who named dir mask n _ m h]
  simp only [List.length_cons, cgoR]
  split
  · have hl := dropWhile_length r
    simp only [List.length_cons] at h
    rw [cgoR_fuel _ _ _ _ n _ _ (by omega), cgoR_fuel _ _ _ _ r.length _ _ hl]
  · rfl
theorem cgoR_nil (who : List Int) (named dir : Bool) (mask n : Nat) (m : Nat) : cgoR who named dir mask n [] m = some m := by cases n <;> rfl

def clauseR (l : List Int) (m : Nat) (dir : Bool) (mask : Nat) : Option Nat :=
  if (rwhoL l []).2 = [] then none else
  if (rwhoL l []).1 = [] then cgoR [117, 103, 111] false dir mask l.length (rwhoL l []).2 m else cgoR (rwhoL l []).1 true dir mask l.length (rwhoL l []).2 m

def chgR (dir : Bool) (mask : Nat) : List Int → List Int → Nat → Option Nat
  | [], cur, m => clauseR cur m dir mask
  | c :: r, cur, m => if (c == 44) = true then (clauseR cur m dir mask).bind fun m' => chgR dir mask r [] m' else chgR dir mask r (cur ++ [c]) m

theorem actRef_lt (m : Nat) (sign : Int) (ls who : List Int) (dir : Bool) (mask : Nat) (named : Bool) (h : m < 4096) : actRef m sign ls who dir mask named < 4096 := afterR_lt _ _ _ _ _ _ _ h 12 (by omega)
theorem cgoR_lt (who : List Int) (named dir : Bool) (mask : Nat) : ∀ (n : Nat) (l : List Int) (m m' : Nat), m < 4096 → cgoR who named dir mask n l m = some m' → m' < 4096
  | 0, _, m, m', h, e => by simp [cgoR] at e; omega
  | n + 1, [], m, m', h, e => by simp [cgoR] at e; omega
  | n + 1, sg :: r, m, m', h, e => by
    simp only [cgoR] at e
    split at e
    · exact cgoR_lt who named dir mask n _ _ m' (actRef_lt _ _ _ _ _ _ _ h) e
    · cases e
theorem clauseR_lt {l : List Int} {m m' : Nat} {dir : Bool} {mask : Nat} (h : m < 4096) (e : clauseR l m dir mask = some m') : m' < 4096 := by
  unfold clauseR at e
  split at e
  · cases e
  · split at e
    · exact cgoR_lt _ _ _ _ _ _ _ _ h e
    · exact cgoR_lt _ _ _ _ _ _ _ _ h e
end Go.Proofs.Ytdoccakkjgcbjaa
