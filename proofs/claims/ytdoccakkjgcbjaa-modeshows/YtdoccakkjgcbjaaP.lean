/- Plain mirrors of the Go functions of package mode and of the document's answers, over lists of numbers. No condition. -/
import Derived.WalkKit
import Derived.PlainAid
import Derived.Lib.Strings
import Derived.Lib.Bytealg
import Derived.Lib.IndexLaws
namespace Go.Proofs.Ytdoccakkjgcbjaa
open Go.RowKit Go.PlainAid

/-- A string's bytes as numbers. -/
def bl (s : ByteArray) : List Int := s.data.toList.map fun c => (c.toNat : Int)
theorem bl_length (s : ByteArray) : (bl s).length = s.size := by unfold bl; rw [List.length_map]; rfl
theorem bl_get (s : ByteArray) (k : Nat) (h : k < s.size) : (bl s)[k]'(by rw [bl_length]; exact h) = bt s k := by
  simp only [bl, List.getElem_map, bt, dif_pos h]; rfl
theorem bl_drop (s : ByteArray) (k : Nat) (h : k < s.size) : (bl s).drop k = bt s k :: (bl s).drop (k + 1) := by
  rw [← bl_get s k h, List.drop_eq_getElem_cons]
theorem bl_drop_end (s : ByteArray) (k : Nat) (h : s.size ≤ k) : (bl s).drop k = [] := by
  apply List.drop_eq_nil_of_le; rw [bl_length]; exact h

/-- setBits -/
def setM (who : Int) : Int :=
  if (bits .and .i64 who 448 != 0) = true then (if (bits .and .i64 who 56 != 0) = true then bits .or .i64 (bits .or .i64 0 2048) 1024 else bits .or .i64 0 2048)
  else (if (bits .and .i64 who 56 != 0) = true then bits .or .i64 0 1024 else 0)

/-- readWho: who, and what is left. -/
def rwho : List Int → Int → Int × List Int
  | [], who => (who, [])
  | c :: r, who => if (c == 117) = true then rwho r (bits .or .i64 who 448) else if (c == 103) = true then rwho r (bits .or .i64 who 56) else
      if (c == 111) = true then rwho r (bits .or .i64 who 7) else if (c == 97) = true then rwho r (bits .or .i64 who 511) else (who, c :: r)

/-- readBits: the bits, and what is left; none: no letter. -/
def rbits (who : Int) (may : Bool) : List Int → Int → Option (Int × List Int)
  | [], b => some (b, [])
  | c :: r, b => if (c == 114) = true then rbits who may r (bits .or .i64 b (bits .and .i64 292 who)) else
      if (c == 119) = true then rbits who may r (bits .or .i64 b (bits .and .i64 146 who)) else
      if (c == 120) = true then rbits who may r (bits .or .i64 b (bits .and .i64 73 who)) else
      if (c == 88) = true then (if may = true then rbits who may r (bits .or .i64 b (bits .and .i64 73 who)) else rbits who may r b) else
      if (c == 115) = true then rbits who may r (bits .or .i64 b (setM who)) else
      if (c == 116) = true then rbits who may r (bits .or .i64 b 512) else
      if (c == 43) = true then some (b, c :: r) else if (c == 45) = true then some (b, c :: r) else if (c == 61) = true then some (b, c :: r) else none

/-- act -/
def actM (sign m b who kept : Int) : Option Int :=
  if (sign == 43) = true then some (bits .or .i64 m (bits .andNot .i64 b kept)) else
  if (sign == 45) = true then some (bits .andNot .i64 m (bits .andNot .i64 b kept)) else
  if (sign == 61) = true then some (bits .or .i64 (bits .andNot .i64 m (bits .andNot .i64 (bits .or .i64 who (setM who)) kept)) (bits .andNot .i64 b kept)) else none

theorem rwho_suffix : ∀ (l : List Int) (who : Int), (rwho l who).2 <:+ l := by
  intro l
  induction l with
  | nil => intro who; simp [rwho]
  | cons c r ih =>
    intro who
    simp only [rwho]
    split; · exact (ih _).trans (List.suffix_cons _ _)
    split; · exact (ih _).trans (List.suffix_cons _ _)
    split; · exact (ih _).trans (List.suffix_cons _ _)
    split; · exact (ih _).trans (List.suffix_cons _ _)
    exact List.suffix_refl _

theorem rbits_suffix (who : Int) (may : Bool) : ∀ (l : List Int) (b b' : Int) (l' : List Int), rbits who may l b = some (b', l') → l' <:+ l := by
  intro l
  induction l with
  | nil => intro b b' l' h; simp [rbits] at h; simp [h]
  | cons c r ih =>
    intro b b' l' h
    simp only [rbits] at h
    split at h; · exact (ih _ _ _ h).trans (List.suffix_cons _ _)
    split at h; · exact (ih _ _ _ h).trans (List.suffix_cons _ _)
    split at h; · exact (ih _ _ _ h).trans (List.suffix_cons _ _)
    split at h
    · split at h <;> exact (ih _ _ _ h).trans (List.suffix_cons _ _)
    split at h; · exact (ih _ _ _ h).trans (List.suffix_cons _ _)
    split at h; · exact (ih _ _ _ h).trans (List.suffix_cons _ _)
    split at h; · simp at h; simp [h]
    split at h; · simp at h; simp [h]
    split at h; · simp at h; simp [h]
    cases h

theorem suffix_drop {l L : List Int} (h : l <:+ L) : L.drop (L.length - l.length) = l := by
  obtain ⟨p, rfl⟩ := h
  simp

/-- doClause's loop, with as much fuel as there are bytes. -/
def cgo (who kept : Int) (dir : Bool) : Nat → List Int → Int → Option Int
  | 0, _, m => some m
  | _ + 1, [], m => some m
  | n + 1, sg :: r, m => (rbits who (dir || (bits .and .i64 m 73 != 0)) r 0).bind fun x => (actM sg m x.1 who kept).bind fun m' => cgo who kept dir n x.2 m'

theorem cgo_fuel (who kept : Int) (dir : Bool) : ∀ (n : Nat) (l : List Int) (m : Int), l.length ≤ n → cgo who kept dir n l m = cgo who kept dir l.length l m := by
  intro n
  induction n using Nat.strongRecOn with
  | _ n ih =>
    intro l m h
    match n, l, h with
    | 0, [], _ => rfl
    | n + 1, [], _ => rfl
    | n + 1, sg :: r, h =>
      simp only [List.length_cons, cgo]
      rcases hb : rbits who (dir || (bits .and .i64 m 73 != 0)) r 0 with _ | ⟨b, r'⟩
      · rfl
      · simp only [Option.bind_some]
        rcases ha : actM sg m b who kept with _ | m'
        · rfl
        · simp only [Option.bind_some]
          have hl : r'.length ≤ r.length := (rbits_suffix _ _ _ _ _ _ hb).length_le
          have h' : r.length ≤ n := by simpa using h
          rw [ih n (by omega) r' m' (by omega), ih r.length (by omega) r' m' hl]

def clauseM (l : List Int) (m : Int) (dir : Bool) (mask : Int) : Option Int :=
  if (rwho l 0).2.length = l.length then (if (rwho l 0).2 = [] then none else cgo 511 (bits .and .i64 mask 511) dir l.length (rwho l 0).2 m)
  else (if (rwho l 0).2 = [] then none else cgo (rwho l 0).1 0 dir l.length (rwho l 0).2 m)

/-- Change's clauses, one by one. -/
def chgL (dir : Bool) (mask : Int) : List Int → List Int → Int → Option Int
  | [], cur, m => clauseM cur m dir mask
  | c :: r, cur, m => if (c == 44) = true then (clauseM cur m dir mask).bind fun m' => chgL dir mask r [] m' else chgL dir mask r (cur ++ [c]) m

theorem chgL_miss (dir : Bool) (mask : Int) : ∀ (l cur : List Int) (m : Int), (∀ c ∈ l, (c == 44) = false) → chgL dir mask l cur m = clauseM (cur ++ l) m dir mask
  | [], cur, m, _ => by simp [chgL]
  | c :: r, cur, m, h => by
    have h1 : (c == 44) = false := h c (by simp)
    rw [chgL, h1, if_neg (by simp), chgL_miss dir mask r _ m (fun c hc => h c (by simp [hc])), List.append_assoc]; rfl
theorem chgL_hit (dir : Bool) (mask : Int) (q : List Int) : ∀ (p cur : List Int) (m : Int), (∀ c ∈ p, (c == 44) = false) →
    chgL dir mask (p ++ 44 :: q) cur m = (clauseM (cur ++ p) m dir mask).bind fun m' => chgL dir mask q [] m'
  | [], cur, m, _ => by simp [chgL]
  | c :: r, cur, m, h => by
    have h1 : (c == 44) = false := h c (by simp)
    rw [List.cons_append, chgL, h1, if_neg (by simp), chgL_hit dir mask q r _ m (fun c hc => h c (by simp [hc])), List.append_assoc]; rfl

/-- readOctal: the number, the error. -/
def octM : List Int → Int → Int × Int
  | [], m => (m, 0)
  | c :: r, m => if c < 48 ∨ 55 < c then (0, 11) else if 4095 < m * 8 + (c - 48) then (0, 10) else octM r (m * 8 + (c - 48))

def formM : Option Int → Int × Int
  | some m => (m, 0)
  | none => (0, 11)

/-- Change -/
def chgM (l : List Int) (m : Int) (dir : Bool) (mask : Int) : Int × Int :=
  match l with
  | [] => formM (chgL dir mask l [] m)
  | c :: _ => if 48 ≤ c ∧ c ≤ 57 then octM l 0 else formM (chgL dir mask l [] m)

theorem bl_extract (s : ByteArray) (a b : Nat) : bl (s.extract a b) = ((bl s).drop a).take (b - a) := by
  unfold bl; rw [Lib.extract_data, List.map_take, List.map_drop]
theorem bl_mem {s : ByteArray} {c : Int} (h : c ∈ bl s) : 0 ≤ c ∧ c ≤ 255 := by
  unfold bl at h
  obtain ⟨x, _, rfl⟩ := List.mem_map.1 h
  have := x.toNat_lt
  omega
theorem ib_miss {s : ByteArray} (h : Lib.indexByte s.data.toList 44 = -1) : ∀ c ∈ bl s, (c == 44) = false := by
  intro c hc
  unfold bl at hc
  obtain ⟨x, hx, rfl⟩ := List.mem_map.1 hc
  obtain ⟨k, hk⟩ := List.mem_iff_getElem?.1 hx
  have := Lib.indexByte_none h k
  rw [hk] at this
  simp only [ne_eq, Option.some.injEq] at this
  refine beq_eq_false_iff_ne.2 fun e => this ?_
  apply UInt8.toNat_inj.1
  simpa using Int.ofNat_inj.1 e
theorem ib_hit {s : ByteArray} {i : Nat} (h : Lib.indexByte s.data.toList 44 = i) : i < s.size ∧ (∀ c ∈ (bl s).take i, (c == 44) = false) ∧ bl s = (bl s).take i ++ 44 :: (bl s).drop (i + 1) := by
  obtain ⟨h1, h2⟩ := Lib.indexByte_some h
  have hi : i < s.data.toList.length := by
    rcases Nat.lt_or_ge i s.data.toList.length with h' | h'
    · exact h'
    · rw [List.getElem?_eq_none h'] at h1; cases h1
  have hi2 : i < s.size := by simpa using hi
  refine ⟨hi2, ?_, ?_⟩
  · intro c hc
    unfold bl at hc
    rw [← List.map_take] at hc
    obtain ⟨x, hx, rfl⟩ := List.mem_map.1 hc
    obtain ⟨k, hk⟩ := List.mem_iff_getElem?.1 hx
    have hki : k < i := by
      rcases Nat.lt_or_ge k i with h' | h'
      · exact h'
      · rw [List.getElem?_take] at hk; rw [if_neg (by omega)] at hk; cases hk
    rw [List.getElem?_take, if_pos hki] at hk
    have := h2 k hki
    rw [hk] at this
    simp only [ne_eq, Option.some.injEq] at this
    refine beq_eq_false_iff_ne.2 fun e => this ?_
    apply UInt8.toNat_inj.1
    simpa using Int.ofNat_inj.1 e
  · have hg : (bl s)[i]'(by rw [bl_length]; exact hi2) = 44 := by
      unfold bl
      rw [List.getElem_map]
      rw [List.getElem?_eq_getElem hi] at h1
      rw [Option.some.inj h1]
      rfl
    rw [← hg, ← List.drop_eq_getElem_cons, List.take_append_drop]
end Go.Proofs.Ytdoccakkjgcbjaa
