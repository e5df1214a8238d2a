/- Plain facts on the check: one bit, many bits, bytes; no burst within 32 bits leaves it as it was. -/
import Derived.WalkKit
import Derived.PlainAid
import Derived.Lib.ItoaNum
namespace Go.Proofs.YteebpidgheaaiaaDoor
open Go.RowKit Go.PlainAid

/-- One bit taken in. -/
def st (c : Nat) (b : Bool) : Nat := if decide (2147483648 ≤ c) != b then (c % 2147483648 * 2) ^^^ 79764919 else c % 2147483648 * 2
def stV (c : BitVec 32) (b : Bool) : BitVec 32 := (c <<< 1) ^^^ (if c.msb != b then 79764919#32 else 0#32)
theorem st_lt (c : Nat) (b : Bool) : st c b < 4294967296 := by
  unfold st
  split
  · exact Nat.xor_lt_two_pow (n := 32) (by omega) (by omega)
  · omega
theorem st_V (c : BitVec 32) (b : Bool) : st c.toNat b = (stV c b).toNat := by
  unfold st stV
  have h1 : (c <<< 1).toNat = c.toNat % 2147483648 * 2 := by
    rw [BitVec.toNat_shiftLeft, Nat.shiftLeft_eq]; omega
  have h2 : c.msb = decide (2147483648 ≤ c.toNat) := BitVec.msb_eq_decide c
  rw [← h2]
  by_cases h : (c.msb != b) = true
  · rw [if_pos h, if_pos h, BitVec.toNat_xor, h1]; rfl
  · rw [if_neg h, if_neg h, BitVec.toNat_xor, h1]; simp
/-- Bits taken in, from a place on. -/
def run (f : Nat → Bool) : Nat → Nat → Nat → Nat
  | 0, _, c => c
  | n + 1, p, c => run f n (p + 1) (st c (f p))
def runV (f : Nat → Bool) : Nat → Nat → BitVec 32 → BitVec 32
  | 0, _, c => c
  | n + 1, p, c => runV f n (p + 1) (stV c (f p))
theorem run_V (f : Nat → Bool) : ∀ n p c, run f n p (BitVec.toNat c) = (runV f n p c).toNat
  | 0, _, _ => rfl
  | n + 1, p, c => by unfold run runV; rw [st_V, run_V f n]
theorem run_lt (f : Nat → Bool) : ∀ n p c, c < 4294967296 → run f n p c < 4294967296
  | 0, _, _, h => h
  | n + 1, p, c, _ => by unfold run; exact run_lt f n _ _ (st_lt _ _)
theorem run_add (f : Nat → Bool) : ∀ m n p c, run f (m + n) p c = run f n (p + m) (run f m p c)
  | 0, n, p, c => by rw [Nat.zero_add]; rfl
  | m + 1, n, p, c => by
    rw [show m + 1 + n = (m + n) + 1 by omega]
    show run f (m + n) (p + 1) (st c (f p)) = _
    rw [run_add f m n, show p + 1 + m = p + (m + 1) by omega]
    rfl
theorem run_congr {f g : Nat → Bool} : ∀ n p c, (∀ q, p ≤ q → q < p + n → f q = g q) → run f n p c = run g n p c
  | 0, _, _, _ => rfl
  | n + 1, p, c, h => by
    show run f n (p + 1) (st c (f p)) = run g n (p + 1) (st c (g p))
    rw [h p (Nat.le_refl _) (by omega)]
    exact run_congr n _ _ fun q h1 h2 => h q (by omega) (by omega)
theorem run_shift {f g : Nat → Bool} (a b : Nat) : ∀ n p c, (∀ q, q < n → f (a + p + q) = g (b + p + q)) → run f n (a + p) c = run g n (b + p) c
  | 0, _, _, _ => rfl
  | n + 1, p, c, h => by
    show run f n (a + p + 1) (st c (f (a + p))) = run g n (b + p + 1) (st c (g (b + p)))
    have h0 : f (a + p) = g (b + p) := h 0 (by omega)
    rw [h0]
    exact run_shift a b n (p + 1) _ fun q hq => by
      have := h (q + 1) (by omega)
      rw [show a + p + (q + 1) = a + (p + 1) + q by omega, show b + p + (q + 1) = b + (p + 1) + q by omega] at this
      exact this
theorem st_bit (c : BitVec 32) (b : Bool) (i : Nat) (hi : i < 32) : (stV c b).getLsbD i = ((decide (0 < i) && c.getLsbD (i - 1)) ^^ ((c.getLsbD 31 != b) && (79764919#32).getLsbD i)) := by
  unfold stV
  have hm : c.msb = c.getLsbD 31 := BitVec.msb_eq_getLsbD_last c
  rw [BitVec.getLsbD_xor, BitVec.getLsbD_shiftLeft, hm]
  congr 1
  · by_cases h : i < 1
    · simp [h]; omega
    · simp [h, hi]; intro _; omega
  · cases (c.getLsbD 31 != b) <;> simp
theorem back (f g : Nat → Bool) : ∀ j, j ≤ 32 → ∀ p c d, runV f j p c = runV g j p d → ∀ i, i < 32 → (c.getLsbD i ^^ d.getLsbD i) = (decide (32 - j ≤ i) && (f (p + 31 - i) ^^ g (p + 31 - i)))
  | 0, _, p, c, d, h, i, hi => by
    have h : c = d := h
    subst h
    rw [decide_eq_false (by omega)]
    simp
  | j + 1, hj, p, c, d, h, i, hi => by
    have ih := back f g j (by omega) (p + 1) (stV c (f p)) (stV d (g p)) h
    have h0 := ih 0 (by omega)
    rw [st_bit _ _ 0 (by omega), st_bit _ _ 0 (by omega), decide_eq_false (p := 32 - j ≤ 0) (by omega), show (79764919#32).getLsbD 0 = true from rfl] at h0
    by_cases h31 : i = 31
    · subst h31
      rw [decide_eq_true (by omega), show p + 31 - 31 = p by omega]
      revert h0
      cases c.getLsbD 31 <;> cases d.getLsbD 31 <;> cases f p <;> cases g p <;> simp
    · have h1 := ih (i + 1) (by omega)
      rw [st_bit _ _ (i + 1) (by omega), st_bit _ _ (i + 1) (by omega), decide_eq_true (p := 0 < i + 1) (by omega), Nat.add_sub_cancel, show p + 1 + 31 - (i + 1) = p + 31 - i by omega] at h1
      have e : decide (32 - j ≤ i + 1) = decide (32 - (j + 1) ≤ i) := by rw [decide_eq_decide]; omega
      rw [e] at h1
      rw [← h1]
      revert h0
      cases c.getLsbD 31 <;> cases d.getLsbD 31 <;> cases f p <;> cases g p <;> simp <;> (cases c.getLsbD i <;> cases d.getLsbD i <;> cases (79764919#32).getLsbD (i + 1) <;> simp)
theorem inj1 (b : Bool) (c d : BitVec 32) (h : stV c b = stV d b) : c = d := by
  have := back (fun _ => b) (fun _ => b) 1 (by omega) 0 c d h
  apply BitVec.eq_of_getLsbD_eq
  intro i hi
  have h2 := this i hi
  revert h2
  cases c.getLsbD i <;> cases d.getLsbD i <;> simp
theorem injV (f : Nat → Bool) : ∀ n p c d, runV f n p c = runV f n p d → c = d
  | 0, _, _, _, h => h
  | n + 1, p, c, d, h => inj1 (f p) c d (injV f n (p + 1) _ _ h)
theorem toV (c : Nat) (h : c < 4294967296) : ∃ v : BitVec 32, c = v.toNat := ⟨BitVec.ofNat 32 c, by rw [BitVec.toNat_ofNat]; omega⟩
theorem inj (f : Nat → Bool) (n p c d : Nat) (hc : c < 4294967296) (hd : d < 4294967296) (h : run f n p c = run f n p d) : c = d := by
  obtain ⟨c, rfl⟩ := toV c hc
  obtain ⟨d, rfl⟩ := toV d hd
  rw [run_V, run_V] at h
  rw [injV f n p c d (BitVec.eq_of_toNat_eq h)]
theorem window (f g : Nat → Bool) (p c : Nat) (hc : c < 4294967296) (h : run f 32 p c = run g 32 p c) (i : Nat) (hi : i < 32) : f (p + i) = g (p + i) := by
  obtain ⟨c, rfl⟩ := toV c hc
  rw [run_V, run_V] at h
  have := back f g 32 (by omega) p c c (BitVec.eq_of_toNat_eq h) (31 - i) (by omega)
  rw [decide_eq_true (by omega), show p + 31 - (31 - i) = p + i by omega] at this
  revert this
  cases f (p + i) <;> cases g (p + i) <;> simp
theorem burst (f g : Nat → Bool) (n a c : Nat) (hc : c < 4294967296) (ha : a + 32 ≤ n) (hout : ∀ p, p < n → (p < a ∨ a + 32 ≤ p) → f p = g p) (i : Nat) (hi : i < 32) (hin : f (a + i) ≠ g (a + i)) : run f n 0 c ≠ run g n 0 c := by
  intro h
  obtain ⟨m, rfl⟩ : ∃ m, n = a + (32 + m) := ⟨n - a - 32, by omega⟩
  rw [run_add f, run_add f, run_add g, run_add g] at h
  have e1 : run f a 0 c = run g a 0 c := run_congr _ _ _ fun q _ h2 => hout q (by omega) (by omega)
  have l1 := run_lt g a 0 c hc
  rw [e1] at h
  have e2 : ∀ x, run f m (0 + a + 32) x = run g m (0 + a + 32) x := fun x => run_congr _ _ _ fun q h1 h2 => hout q (by omega) (by omega)
  rw [e2] at h
  have h3 := inj g m _ _ _ (run_lt _ _ _ _ l1) (run_lt _ _ _ _ l1) h
  have h4 := window f g (0 + a) _ l1 h3 i hi
  rw [Nat.zero_add] at h4
  exact hin h4

/-- A byte's bit, the highest one first. -/
def bo (b k : Nat) : Bool := decide (b / 2 ^ (7 - k) % 2 = 1)
/-- A byte taken in. -/
def by8 (c b : Nat) : Nat := run (bo b) 8 0 c
theorem by8_lt (c b : Nat) : by8 c b < 4294967296 := by unfold by8 run; exact run_lt _ _ _ _ (st_lt _ _)
def ckL : List UInt8 → Nat → Nat
  | [], c => c
  | b :: l, c => ckL l (by8 c b.toNat)
theorem ckL_lt : ∀ l c, c < 4294967296 → ckL l c < 4294967296
  | [], _, h => h
  | _ :: l, _, _ => ckL_lt l _ (by8_lt _ _)
theorem ckL_app : ∀ a b c, ckL (a ++ b) c = ckL b (ckL a c)
  | [], _, _ => rfl
  | _ :: a, b, _ => ckL_app a b _
/-- A number's bytes taken in, the lowest one first. -/
def cn (n c : Nat) : Nat := if h : n = 0 then c else cn (n / 256) (by8 c (n % 256))
termination_by n
decreasing_by omega
theorem cn_zero (c : Nat) : cn 0 c = c := by rw [cn, dif_pos rfl]
theorem cn_pos (n c : Nat) (h : 0 < n) : cn n c = cn (n / 256) (by8 c (n % 256)) := by rw [cn, dif_neg (by omega)]
theorem cn_lt (n c : Nat) (hc : c < 4294967296) : cn n c < 4294967296 := by
  induction n using Nat.strongRecOn generalizing c with
  | _ n ih =>
    by_cases h : n = 0
    · subst h; rw [cn_zero]; exact hc
    · rw [cn_pos n c (by omega)]; exact ih _ (by omega) _ (by8_lt _ _)
theorem cn_inj (n c d : Nat) (hc : c < 4294967296) (hd : d < 4294967296) (h : cn n c = cn n d) : c = d := by
  induction n using Nat.strongRecOn generalizing c d with
  | _ n ih =>
    by_cases h0 : n = 0
    · subst h0; rw [cn_zero, cn_zero] at h; exact h
    · rw [cn_pos n c (by omega), cn_pos n d (by omega)] at h
      exact inj _ _ _ _ _ hc hd (ih _ (by omega) _ _ (by8_lt _ _) (by8_lt _ _) h)
/-- The check of bytes. -/
def chk (l : List UInt8) : Nat := 4294967295 - cn l.length (ckL l 0)
theorem chk_lt (l : List UInt8) : chk l < 4294967296 := by unfold chk; omega
/-- The bit of bytes at a place. -/
def bA (l : List UInt8) (p : Nat) : Bool := bo (l.getD (p / 8) 0).toNat (p % 8)
theorem bA_cons (b : UInt8) (l : List UInt8) (p : Nat) : bA (b :: l) (8 + p) = bA l p := by
  unfold bA
  rw [show (8 + p) / 8 = p / 8 + 1 by omega, show (8 + p) % 8 = p % 8 by omega]
  simp
theorem ckL_run : ∀ (l : List UInt8) c, ckL l c = run (bA l) (8 * l.length) 0 c
  | [], _ => rfl
  | b :: l, c => by
    show ckL l (by8 c b.toNat) = _
    rw [show 8 * (b :: l).length = 8 + 8 * l.length by simp; omega, run_add, ckL_run l]
    have e : run (bA (b :: l)) 8 0 c = by8 c b.toNat := run_congr _ _ _ fun q _ h => by
      unfold bA
      rw [show q / 8 = 0 by omega, show q % 8 = q by omega]
      simp
    rw [e]
    have := run_shift (f := bA l) (g := bA (b :: l)) 0 8 (8 * l.length) 0 (by8 c b.toNat) (fun q _ => by
      rw [show 8 + 0 + q = 8 + q by omega, bA_cons, show 0 + 0 + q = q by omega])
    exact this
theorem chk_ne (l m : List UInt8) (hl : l.length = m.length) (a : Nat) (ha : a + 32 ≤ 8 * l.length) (hout : ∀ p, p < 8 * l.length → (p < a ∨ a + 32 ≤ p) → bA l p = bA m p) (i : Nat) (hi : i < 32) (hin : bA l (a + i) ≠ bA m (a + i)) : chk l ≠ chk m := by
  intro h
  unfold chk at h
  have h1 := cn_lt l.length _ (ckL_lt l 0 (by omega))
  have h2 := cn_lt m.length _ (ckL_lt m 0 (by omega))
  have h3 : cn l.length (ckL l 0) = cn m.length (ckL m 0) := by omega
  rw [← hl] at h3
  have h4 := cn_inj _ _ _ (ckL_lt l 0 (by omega)) (ckL_lt m 0 (by omega)) h3
  rw [ckL_run, ckL_run, ← hl] at h4
  exact burst _ _ _ a 0 (by omega) ha hout i hi hin h4
end Go.Proofs.YteebpidgheaaiaaDoor
