/- Plain mirrors of the path functions over a text's bytes. No condition. -/
import Derived.WalkKit
import Derived.PlainAid
namespace Go.Proofs.YthpdmnhopbbnfaaDoor
open Go.RowKit Go.PlainAid

theorem ext_size (s : ByteArray) (a b : Nat) : (s.extract a b).size = min b s.size - a := ByteArray.size_extract
theorem ext_bt (s : ByteArray) (a b k : Nat) (h : k < min b s.size - a) : bt (s.extract a b) k = bt s (a + k) := by
  unfold bt
  rw [dif_pos (by rw [ext_size]; exact h), dif_pos (by omega), ByteArray.getElem_extract]
theorem ba_ext {s t : ByteArray} (h : s.size = t.size) (g : ∀ k, k < s.size → bt s k = bt t k) : s = t := by
  apply ByteArray.ext_getElem h
  intro i h1 h2
  have := g i h1
  rw [← get_bt s i h1, ← get_bt t i h2] at this
  apply UInt8.toNat_inj.1
  exact Int.ofNat.inj this
theorem ext_ext (s : ByteArray) (n m : Nat) (h : m ≤ n) : (s.extract 0 n).extract 0 m = s.extract 0 m := by
  refine ba_ext (by simp only [ext_size]; omega) fun k hk => ?_
  simp only [ext_size] at hk
  rw [ext_bt _ _ _ _ (by rw [ext_size]; omega), ext_bt _ _ _ _ (by omega), ext_bt _ _ _ _ (by omega), Nat.zero_add]
theorem ext_all (s : ByteArray) : s.extract 0 s.size = s :=
  ba_ext (by simp only [ext_size]; omega) fun k hk => by simp only [ext_size] at hk; rw [ext_bt _ _ _ _ (by omega), Nat.zero_add]

/-- Without its last slashes, how many bytes. -/
def trimN (s : ByteArray) : Nat → Nat
  | 0 => 0
  | n + 1 => if (bt s n == 47) = true then trimN s n else n + 1
/-- The same, but one byte stays. -/
def bareN (s : ByteArray) : Nat → Nat
  | 0 => 0
  | 1 => 1
  | n + 2 => if (bt s (n + 1) == 47) = true then bareN s (n + 1) else n + 2
/-- The last slash among the first n bytes. -/
def lastN (s : ByteArray) : Nat → Int
  | 0 => -1
  | n + 1 => if (bt s n == 47) = true then (n : Int) else lastN s n

theorem trimN_le (s : ByteArray) : ∀ n, trimN s n ≤ n
  | 0 => Nat.le_refl _
  | n + 1 => by rw [trimN]; split; exact Nat.le_succ_of_le (trimN_le s n); exact Nat.le_refl _
theorem bareN_le (s : ByteArray) : ∀ n, bareN s n ≤ n
  | 0 => Nat.le_refl _
  | 1 => Nat.le_refl _
  | n + 2 => by rw [bareN]; split; exact Nat.le_succ_of_le (bareN_le s (n + 1)); exact Nat.le_refl _
theorem lastN_lt (s : ByteArray) : ∀ n, -1 ≤ lastN s n ∧ lastN s n < n
  | 0 => by simp [lastN]
  | n + 1 => by
    have := lastN_lt s n
    rw [lastN]; split <;> omega
theorem trim_bare (s : ByteArray) : ∀ n, trimN s n = bareN s n ∨ (trimN s n = 0 ∧ bareN s n = 1 ∧ bt s 0 = 47)
  | 0 => .inl rfl
  | 1 => by
    by_cases h : (bt s 0 == 47) = true
    · exact .inr ⟨by simp [trimN, h], rfl, by simpa using h⟩
    · exact .inl (by simp [trimN, bareN, h])
  | n + 2 => by
    by_cases h : (bt s (n + 1) == 47) = true
    · rw [trimN, bareN, if_pos h, if_pos h]; exact trim_bare s (n + 1)
    · rw [trimN, bareN, if_neg h, if_neg h]; exact .inl rfl
theorem bareN_pos (s : ByteArray) : ∀ n, 0 < n → 0 < bareN s n
  | 1, _ => by simp [bareN]
  | n + 2, _ => by rw [bareN]; split; exact bareN_pos s (n + 1) (by omega); omega

def bareS (s : ByteArray) : ByteArray := s.extract 0 (bareN s s.size)
theorem bareS_size (s : ByteArray) : (bareS s).size = bareN s s.size := by
  have := bareN_le s s.size
  unfold bareS; rw [ext_size]; omega
theorem bareS_le (s : ByteArray) : (bareS s).size ≤ s.size := by rw [bareS_size]; exact bareN_le s _

/-- One slash. -/
theorem slash_is (s : ByteArray) (h1 : 0 < s.size) (h : bt s 0 = 47) : s.extract 0 1 = ⟨#[47]⟩ := by
  refine ba_ext (by rw [ext_size]; show min 1 s.size - 0 = 1; omega) fun k hk => ?_
  rw [ext_size] at hk
  rw [ext_bt _ _ _ _ (by omega)]
  obtain rfl : k = 0 := by omega
  rw [Nat.zero_add, h]; rfl

def baseS (s : ByteArray) : ByteArray :=
  if bareS s = ⟨#[47]⟩ then bareS s else (bareS s).extract (lastN (bareS s) (bareS s).size + 1).toNat (bareS s).size
def dirS (s : ByteArray) : ByteArray :=
  if lastN (bareS s) (bareS s).size < 0 then ⟨#[46]⟩ else bareS ((bareS s).extract 0 (lastN (bareS s) (bareS s).size + 1).toNat)

theorem bareS_slash : bareS ⟨#[47]⟩ = ⟨#[47]⟩ := by
  unfold bareS; rw [show bareN ⟨#[47]⟩ (ByteArray.size ⟨#[47]⟩) = 1 from rfl, slash_is _ (by decide) rfl]
theorem dirS_slash {s : ByteArray} (h : bareS s = ⟨#[47]⟩) : dirS s = ⟨#[47]⟩ := by
  unfold dirS
  rw [h, show lastN ⟨#[47]⟩ (ByteArray.size ⟨#[47]⟩) = 0 from rfl, if_neg (by decide), show (0 + 1 : Int).toNat = 1 from rfl, slash_is _ (by decide) rfl, bareS_slash]
end Go.Proofs.YthpdmnhopbbnfaaDoor
