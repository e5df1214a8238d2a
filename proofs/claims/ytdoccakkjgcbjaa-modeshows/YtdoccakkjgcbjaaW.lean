/- The plain law behind ModeChanges, whole: the program's Change and the document's answer alike, over lists. Conditions: modes below 4096. -/
import Derived.Test.YtdoccakkjgcbjaaV
import Derived.Test.YtdoccakkjgcbjaaU
namespace Go.Proofs.Ytdoccakkjgcbjaa
open Go.RowKit Go.PlainAid

theorem eq_of_bits {a b : Nat} (ha : a < 4096) (hb : b < 4096) (h : ∀ i, i < 12 → a.testBit i = b.testBit i) : a = b := by
  apply Nat.eq_of_testBit_eq
  intro i
  by_cases hi : i < 12
  · exact h i hi
  · have hp : 4096 ≤ 2 ^ i := Nat.pow_le_pow_right (n := 2) (by omega) (show 12 ≤ i by omega)
    rw [Nat.testBit_lt_two_pow (Nat.lt_of_lt_of_le ha hp), Nat.testBit_lt_two_pow (Nat.lt_of_lt_of_le hb hp)]

theorem andNot_I {a b : Nat} (ha : a < 4096) : bits .andNot .i64 (a : Int) (b : Int) = ((ldiff a b : Nat) : Int) := andNot_nat a b ha

/-- The bits that a clause leaves alone. -/
def KeptIs (kept mask : Nat) (named : Bool) : Prop := kept < 4096 ∧ ∀ i, i < 12 → kept.testBit i = (!named && decide (i < 9) && mask.testBit i)

theorem gone_bit {W : Nat} {who : List Int} (h : WhoIs W who) : ∀ i, i < 12 → (W ||| setN who).testBit i = goneM who i := by
  intro i hi
  rw [Nat.testBit_or, setN_bit who i hi]
  unfold goneM
  by_cases h9 : i < 9
  · have e1 : ¬ i = 11 := by omega
    have e2 : ¬ i = 10 := by omega
    rw [if_pos h9, h.2 i h9]
    simp [e1, e2]
  · rw [if_neg h9, high_bit h.1 i (by omega), Bool.false_or, Bool.or_comm]

theorem act_same {W kept mask b m : Nat} {who A : List Int} {named any : Bool} {sg : Int} (hs : Sign sg) (h : WhoIs W who) (hk : KeptIs kept mask named) (hb : BitsAre b A who any) (hm : m < 4096) :
    actM sg (m : Int) (b : Int) (W : Int) (kept : Int) = some ((afterR sg A who any named mask m 12 : Nat) : Int) := by
  have hlt := afterR_lt sg A who any named mask m hm 12 (by omega)
  have hW : W < 4096 := by have := h.1; omega
  rcases hs with rfl | rfl | rfl
  · show some (bits .or .i64 (m : Int) (bits .andNot .i64 (b : Int) (kept : Int))) = _
    rw [andNot_I hb.1, or_I hm (ldiff_lt b kept hb.1)]
    congr 2
    refine eq_of_bits (or_lt hm (ldiff_lt b kept hb.1)) hlt fun i hi => ?_
    rw [Nat.testBit_or, ldiff_bit, hb.2 i hi, hk.2 i hi, afterR_bit _ _ _ _ _ _ _ i hi 12 (by omega), if_pos hi, bitR]
    generalize (!named && decide (i < 9) && mask.testBit i) = sk
    generalize meantM A who i any = is
    generalize m.testBit i = old
    cases sk <;> cases is <;> cases old <;> rfl
  · show some (bits .andNot .i64 (m : Int) (bits .andNot .i64 (b : Int) (kept : Int))) = _
    rw [andNot_I hb.1, andNot_I hm]
    congr 2
    refine eq_of_bits (ldiff_lt m _ hm) hlt fun i hi => ?_
    rw [ldiff_bit, ldiff_bit, hb.2 i hi, hk.2 i hi, afterR_bit _ _ _ _ _ _ _ i hi 12 (by omega), if_pos hi, bitR]
    generalize (!named && decide (i < 9) && mask.testBit i) = sk
    generalize meantM A who i any = is
    generalize m.testBit i = old
    cases sk <;> cases is <;> cases old <;> rfl
  · show some (bits .or .i64 (bits .andNot .i64 (m : Int) (bits .andNot .i64 (bits .or .i64 (W : Int) (setM (W : Int))) (kept : Int))) (bits .andNot .i64 (b : Int) (kept : Int))) = _
    rw [setM_I h, or_I hW (setN_lt who), andNot_I (or_lt hW (setN_lt who)), andNot_I hm, andNot_I hb.1, or_I (ldiff_lt m _ hm) (ldiff_lt b kept hb.1)]
    congr 2
    refine eq_of_bits (or_lt (ldiff_lt m _ hm) (ldiff_lt b kept hb.1)) hlt fun i hi => ?_
    rw [Nat.testBit_or, ldiff_bit, ldiff_bit, ldiff_bit, gone_bit h i hi, hb.2 i hi, hk.2 i hi, afterR_bit _ _ _ _ _ _ _ i hi 12 (by omega), if_pos hi, bitR]
    generalize (!named && decide (i < 9) && mask.testBit i) = sk
    generalize meantM A who i any = is
    generalize goneM who i = go
    generalize m.testBit i = old
    cases sk <;> cases is <;> cases old <;> cases go <;> rfl

theorem any_same (m : Nat) (dir : Bool) : (dir || (bits .and .i64 (m : Int) 73 != 0)) = anyR m dir := by
  rw [show bits .and .i64 (m : Int) 73 = ((m &&& 73 : Nat) : Int) from and_I (b := 73) (by omega), bne_I, x73]
  unfold anyR
  simp [Bool.or_assoc]

theorem none_bits (who : List Int) (any : Bool) : BitsAre 0 [] who any := by
  refine ⟨by omega, fun i hi => ?_⟩
  rw [Nat.zero_testBit]
  revert i
  apply twelve <;> (simp only [meantM, ogu]; simp only [Nat.reduceLT, if_true, if_false]; generalize inM who 117 = u; generalize inM who 103 = g; generalize inM who 111 = o; cases u <;> cases g <;> cases o <;> cases any <;> decide)

theorem act_bad {sg m b who kept : Int} (h : ¬ isS sg = true) : actM sg m b who kept = none := by
  have hm : ¬ (sg = 43 ∨ sg = 45 ∨ sg = 61) := fun e => h (isS_cases.2 e)
  simp only [not_or] at hm
  simp only [actM, beq_iff_eq, hm.1, hm.2.1, hm.2.2, if_false]

theorem cgoR_bad (who : List Int) (named dir : Bool) (mask n : Nat) (l : List Int) (m : Nat) (h : ¬ Goes l) (hn : 0 < n) : cgoR who named dir mask n l m = none := by
  cases l with
  | nil => exact absurd (fun c hc => by simp at hc) h
  | cons c r =>
    have hc : ¬ isS c = true := fun e => h (fun d hd => by simp only [List.head?_cons, Option.mem_some_iff] at hd; rw [← hd]; exact e)
    cases n with
    | zero => omega
    | succ n => rw [cgoR, if_neg hc]

theorem cgo_same {W kept mask : Nat} {who : List Int} {named dir : Bool} (h : WhoIs W who) (hk : KeptIs kept mask named) : ∀ (n : Nat) (l : List Int) (m : Nat), l.length ≤ n → m < 4096 →
    cgo (W : Int) (kept : Int) dir n l (m : Int) = (cgoR who named dir mask n l m).map fun x => (x : Int) := by
  intro n
  induction n with
  | zero => intro l m hl hm; rfl
  | succ n ih =>
    intro l m hl hm
    match l, hl with
    | [], _ => rfl
    | sg :: r, hl =>
      simp only [cgo]
      rw [any_same]
      have hlr : r.length ≤ n := by simpa using hl
      rcases letters_same (anyR m dir) h r 0 [] (none_bits who _) with ⟨b', hb, hba, hgo⟩ | ⟨hb, hgo⟩
      · rw [show ((0 : Nat) : Int) = 0 from rfl] at hb
        rw [hb, Option.bind_some]
        simp only [List.nil_append] at hba
        by_cases hs : isS sg = true
        · have hsg : Sign sg := by have := isS_cases.1 hs; exact this
          rw [act_same hsg h hk hba hm, Option.bind_some, cgoR, if_pos hs]
          exact ih _ _ (Nat.le_trans (dropWhile_length r) hlr) (actRef_lt _ _ _ _ _ _ _ hm)
        · rw [act_bad hs, cgoR, if_neg hs]; rfl
      · rw [show ((0 : Nat) : Int) = 0 from rfl] at hb
        rw [hb, Option.bind_none, cgoR]
        by_cases hs : isS sg = true
        · rw [if_pos hs]
          have hn : 0 < n := by
            cases r with
            | nil => exact absurd (fun c hc => by simp at hc) hgo
            | cons _ _ => simp at hlr; omega
          rw [cgoR_bad _ _ _ _ _ _ _ hgo hn]; rfl
        · rw [if_neg hs]; rfl

theorem kept_named (mask : Nat) : KeptIs 0 mask true := ⟨by omega, fun i _ => by simp⟩
theorem kept_mask (mask : Nat) : KeptIs (mask &&& 511) mask false := by
  refine ⟨and_lt (by omega), fun i hi => ?_⟩
  rw [Nat.testBit_and]
  by_cases h9 : i < 9
  · rw [show (511 : Nat).testBit i = true from nine (P := fun i => (511 : Nat).testBit i = true) (by decide) (by decide) (by decide) (by decide) (by decide) (by decide) (by decide) (by decide) (by decide) i h9]
    simp [h9]
  · rw [high_bit (W := 511) (by omega) i (by omega)]
    simp [h9]

theorem clause_same (l : List Int) (m mask : Nat) (dir : Bool) (hm : m < 4096) : clauseM l (m : Int) dir (mask : Int) = (clauseR l m dir mask).map fun x => (x : Int) := by
  obtain ⟨W, h1, h2, h3, h4, h5⟩ := who_same l 0 [] ⟨by omega, fun i hi => by rw [Nat.zero_testBit]; simp [inM]⟩
  rw [show ((0 : Nat) : Int) = 0 from rfl] at h1
  have hle : (rwhoL l []).2.length ≤ l.length := by
    have := rwho_suffix l 0
    rw [h1] at this
    exact this.length_le
  unfold clauseM clauseR
  rw [h1]
  simp only
  by_cases hr : (rwhoL l []).2 = []
  · rw [if_pos hr, if_pos hr, if_pos hr]
    split <;> rfl
  · rw [if_neg hr, if_neg hr, if_neg hr]
    by_cases hl : (rwhoL l []).2.length = l.length
    · obtain ⟨e1, e2⟩ := h3 hl
      rw [if_pos hl, if_pos e1, e2]
      rw [show bits .and .i64 (mask : Int) 511 = ((mask &&& 511 : Nat) : Int) from and_I (b := 511) (by omega)]
      exact cgo_same (W := 511) ⟨by omega, ugo_bits⟩ (kept_mask mask) l.length l m (Nat.le_refl _) hm
    · rw [if_neg hl, if_neg (h5 (by omega))]
      exact cgo_same h2 (kept_named mask) l.length _ m hle hm

theorem chg_same (dir : Bool) (mask : Nat) : ∀ (l cur : List Int) (m : Nat), m < 4096 → chgL dir (mask : Int) l cur (m : Int) = (chgR dir mask l cur m).map fun x => (x : Int)
  | [], cur, m, hm => clause_same cur m mask dir hm
  | c :: r, cur, m, hm => by
    rw [chgL, chgR]
    split
    · rw [clause_same cur m mask dir hm]
      rcases hq : clauseR cur m dir mask with _ | m'
      · rfl
      · exact chg_same dir mask r [] m' (clauseR_lt hm hq)
    · exact chg_same dir mask r _ m hm

theorem chgM_same (l : List Int) (m mask : Nat) (dir : Bool) (hm : m < 4096) : chgM l (m : Int) dir (mask : Int) = chgRef l m dir mask := by
  cases l with
  | nil =>
    show formM (clauseM [] (m : Int) dir (mask : Int)) = (0, 11)
    rw [clause_same [] m mask dir hm]; rfl
  | cons c r =>
    rw [chgM, chgRef]
    split
    · rfl
    · rw [chg_same dir mask _ [] m hm]
      cases chgR dir mask (c :: r) [] m <;> rfl
end Go.Proofs.Ytdoccakkjgcbjaa
