/- Two directories of a call's own; which entries there are when names are put with one node; lists by rising names with the same entries are one. No condition. -/
import Derived.Test.YtpkffkdojgpmhaaV
namespace Go.Proofs.Ytpkffkdojgpmhaa
open Go.RowKit Go.PlainAid
set_option linter.unusedSimpArgs false

/-- Just these names, each with the node 7. -/
def Sevens (l : List En) (S : ByteArray → Prop) : Prop := ∀ x : En, x ∈ l ↔ x.2 = 7 ∧ nameB x.1 = true ∧ S x.1
theorem sevens_nil : Sevens [] (fun _ => False) := fun x => by simp
theorem Sevens.put {l : List En} {S : ByteArray → Prop} (h : Sevens l S) (s : ByteArray) : Sevens (putL s 7 l) (fun y => S y ∨ y = s) := by
  intro x
  by_cases e : putE s l = 0
  · have h1 := (putE_zero e).1
    have e2 : putL s 7 l = l.take (pos s l) ++ (s, 7) :: l.drop (pos s l) := by unfold putL; rw [e]; rfl
    have e3 : x ∈ putL s 7 l ↔ x ∈ l ∨ x = (s, 7) := by
      have e4 : x ∈ l ↔ x ∈ l.take (pos s l) ∨ x ∈ l.drop (pos s l) := by rw [← List.mem_append, List.take_append_drop]
      rw [e2, List.mem_append, List.mem_cons, e4]
      constructor
      · rintro (a | a | a)
        · exact .inl (.inl a)
        · exact .inr a
        · exact .inl (.inr a)
      · rintro ((a | a) | a)
        · exact .inl a
        · exact .inr (.inr a)
        · exact .inr (.inl a)
    rw [e3, h x]
    constructor
    · rintro (⟨a, b, c⟩ | rfl)
      · exact ⟨a, b, .inl c⟩
      · exact ⟨rfl, h1, .inr rfl⟩
    · rintro ⟨a, b, c | c⟩
      · exact .inl ⟨a, b, c⟩
      · exact .inr (by rw [← c, ← a])
  · rw [put_same e, h x]
    constructor
    · rintro ⟨a, b, c⟩
      exact ⟨a, b, .inl c⟩
    · rintro ⟨a, b, c | c⟩
      · exact ⟨a, b, c⟩
      · rw [c] at b
        have h1 := nameB_le b
        have h2 : hasN s l = true := by
          cases h3 : hasN s l
          · exact absurd (by unfold putE; rw [if_neg (by omega), b, h3]; rfl) e
          · rfl
        obtain ⟨m, hm⟩ := hasN_some h2
        obtain ⟨_, _, h5⟩ := (h (s, m)).1 (List.mem_of_getElem? hm)
        exact ⟨a, by rw [c]; exact b, by rw [c]; exact h5⟩
theorem rising_ext : ∀ a b : List En, Rising a → Rising b → (∀ x, x ∈ a ↔ x ∈ b) → a = b
  | [], [], _, _, _ => rfl
  | [], y :: b, _, _, h => by have := (h y).2 (by simp); simp at this
  | x :: a, [], _, _, h => by have := (h x).1 (by simp); simp at this
  | x :: a, y :: b, ha, hb, h => by
    have ha' := List.pairwise_cons.1 ha
    have hb' := List.pairwise_cons.1 hb
    have e : x = y := by
      rcases List.mem_cons.1 ((h x).1 (by simp)) with e | h1
      · exact e
      · rcases List.mem_cons.1 ((h y).2 (by simp)) with e | h2
        · exact e.symm
        · have := bl_asymm (hb'.1 x h1)
          rw [ha'.1 y h2] at this; cases this
    subst e
    rw [rising_ext a b ha'.2 hb'.2 ?_]
    intro z
    constructor
    · intro hz
      rcases List.mem_cons.1 ((h z).1 (by simp [hz])) with e | h1
      · subst e; have := ha'.1 z hz; rw [bl_irrefl] at this; cases this
      · exact h1
    · intro hz
      rcases List.mem_cons.1 ((h z).2 (by simp [hz])) with e | h1
      · subst e; have := hb'.1 z hz; rw [bl_irrefl] at this; cases this
      · exact h1

structure Pair (Da Db : Nat) (va vb : Value) (la lb : List En) (w wr : World) : Prop where
  a : Mine Da va la w wr
  b : Mine Db vb lb w wr
  ne : Da ≠ Db
  apart : ∀ k, va.ownBlock = some k → vb.ownBlock ≠ some k
theorem Pair.swap {Da Db : Nat} {va vb : Value} {la lb : List En} {w wr : World} (h : Pair Da Db va vb la lb w wr) : Pair Db Da vb va lb la w wr := ⟨h.b, h.a, h.ne.symm, fun k h1 h2 => h.apart k h2 h1⟩
theorem Pair.did {Da Db : Nat} {va va' vb : Value} {la la' lb : List En} {w wr w' : World} (h : Pair Da Db va vb la lb w wr) (hd : DirAt Da w.heap.size va' la' w') (hm : Moves Da va.ownBlock wr w') (hn : Near wr va va') : Pair Da Db va' vb la' lb w w' := by
  have hb : DirAt Db w.heap.size vb lb w' := by
    refine ⟨?_, hm.row h.b.dir.row (h.b.dir.row.ne h.a.dir.blk (by decide)) (fun k h1 h2 => h.apart k h2 h1)⟩
    rw [hm.block Db (lt_of_block h.b.dir.blk) h.ne.symm (fun e => h.a.dir.row.ne h.b.dir.blk (by decide) e.symm)]
    exact h.b.dir.blk
  have hA := h.a.did hd hm
  refine ⟨hA, ⟨hb, h.b.hD, hA.low⟩, h.ne, ?_⟩
  intro k h1 h2
  rcases hn k h1 with h3 | h3
  · exact h.apart k h3 h2
  · have := (h.b.dir.row.lt h2).2; omega
theorem Pair.below {Da Db : Nat} {va vb : Value} {la lb : List En} {w wr w' : World} (h : Pair Da Db va vb la lb w wr) (hb : Below wr.heap.size wr w') : Pair Da Db va vb la lb w w' := ⟨h.a.below hb, h.b.below hb, h.ne, h.apart⟩
theorem pair_new {w w1 : World} (hb : Below w.heap.size w w1) : Pair w1.heap.size (w1.heap.size + 1) (.slice none 0 0) (.slice none 0 0) [] [] w ((w1.alloc (.cells #[.slice none 0 0] 26)).alloc (.cells #[.slice none 0 0] 26)) := by
  have h1 : Below w1.heap.size w1 ((w1.alloc (.cells #[.slice none 0 0] 26)).alloc (.cells #[.slice none 0 0] 26)) := ((Below.refl _ w1).alloc (Nat.le_refl _) _).alloc (by simp) _
  have h2 := hb.trans (h1.mono hb.size)
  have := hb.size
  exact ⟨⟨⟨heap_alloc2_old _ _ _, row_nil _ _ _⟩, by omega, h2⟩, ⟨⟨heap_alloc2_new _ _ _, row_nil _ _ _⟩, by omega, h2⟩, by omega, fun k h => by simp [Value.ownBlock] at h⟩
theorem putA {Da Db k : Nat} {va vb : Value} {la lb : List En} {w wr : World} (h : Pair Da Db va vb la lb w wr) (hg : Good la k) (hk : k ≤ 999) (s : ByteArray) (n : Int) (hs : s.size ≤ maxLen) :
    Calls Try.prog 16 #[.pointer (some ⟨Da, 0, none⟩), .string s, .int .i64 n] wr fun e w' => e = .returned (.int .i64 (putE s la)) ∧ ∃ va', Pair Da Db va' vb (putL s n la) lb w w' := by
  have := hg.len
  exact (put16 Da w.heap.size va la s n wr h.a.dir hg.rise (by omega) hs h.a.low.size).mono fun e w' ⟨v', e1, d1, d2, d3⟩ => ⟨e1, v', h.did d1 d2 d3⟩
theorem putB {Da Db k : Nat} {va vb : Value} {la lb : List En} {w wr : World} (h : Pair Da Db va vb la lb w wr) (hg : Good lb k) (hk : k ≤ 999) (s : ByteArray) (n : Int) (hs : s.size ≤ maxLen) :
    Calls Try.prog 16 #[.pointer (some ⟨Db, 0, none⟩), .string s, .int .i64 n] wr fun e w' => e = .returned (.int .i64 (putE s lb)) ∧ ∃ vb', Pair Da Db va vb' la (putL s n lb) w w' :=
  (putA h.swap hg hk s n hs).mono fun _ _ ⟨e1, v', p⟩ => ⟨e1, v', p.swap⟩
theorem listA {Da Db k : Nat} {va vb : Value} {l : List En} {w wr : World} (h : Pair Da Db va vb l l w wr) (hg : Good l k) (hk : k ≤ 999) :
    Calls Try.prog 13 #[.pointer (some ⟨Da, 0, none⟩)] wr fun e w' => ∃ x, e = .returned x ∧ Row 47 w.heap.size x l w' ∧ Mine Db vb l w w' := by
  have := hg.len
  exact (list13 Da w.heap.size va l wr h.a.dir (by omega)).mono fun e w' ⟨x, e1, r1, r2⟩ => ⟨x, e1, r1.mono h.a.low.size, h.b.below r2⟩
theorem listB {D k : Nat} {v x : Value} {l : List En} {w wr : World} (h : Mine D v l w wr) (hx : Row 47 w.heap.size x l wr) (hg : Good l k) (hk : k ≤ 999) :
    Calls Try.prog 13 #[.pointer (some ⟨D, 0, none⟩)] wr fun e w' => ∃ y, e = .returned y ∧ Twice x y l w w' := by
  have := hg.len
  exact (list13 D w.heap.size v l wr h.dir (by omega)).mono fun e w' ⟨y, e1, r1, r2⟩ => ⟨y, e1, hx.below r2, r1.mono h.low.size, h.low.trans (r2.mono h.low.size)⟩

/-- Names from any place on, round about, are the names. -/
theorem turn_all {ns : List ByteArray} {r : Nat} (hr : r < ns.length) (y : ByteArray) : y ∈ ns ↔ ∃ j, j < ns.length ∧ ns[(j + r) % ns.length]? = some y := by
  constructor
  · intro h
    obtain ⟨i, hi, e⟩ := List.getElem_of_mem h
    by_cases hir : r ≤ i
    · exact ⟨i - r, by omega, by rw [show i - r + r = i by omega, Nat.mod_eq_of_lt hi, List.getElem?_eq_getElem hi, e]⟩
    · exact ⟨i + ns.length - r, by omega, by rw [show i + ns.length - r + r = i + ns.length by omega, Nat.add_mod_right, Nat.mod_eq_of_lt hi, List.getElem?_eq_getElem hi, e]⟩
  · rintro ⟨j, _, h⟩
    exact List.mem_of_getElem? h
theorem Sevens.congr {l : List En} {S T : ByteArray → Prop} (h : Sevens l S) (e : ∀ y, S y ↔ T y) : Sevens l T := fun x => by rw [h x, e x.1]
def SA (ns : List ByteArray) (k : Nat) (y : ByteArray) : Prop := y ∈ ns.take k
def SB (ns : List ByteArray) (r k : Nat) (y : ByteArray) : Prop := ∃ j, j < k ∧ ns[(j + r) % ns.length]? = some y
theorem SA_succ {ns : List ByteArray} {k : Nat} {s : ByteArray} (h : ns[k]? = some s) (y : ByteArray) : SA ns k y ∨ y = s ↔ SA ns (k + 1) y := by
  unfold SA; rw [take_succ h]; simp
theorem SB_succ {ns : List ByteArray} {r k : Nat} {s : ByteArray} (h : ns[(k + r) % ns.length]? = some s) (y : ByteArray) : SB ns r k y ∨ y = s ↔ SB ns r (k + 1) y := by
  unfold SB
  constructor
  · rintro (⟨j, hj, e⟩ | rfl)
    · exact ⟨j, by omega, e⟩
    · exact ⟨k, by omega, h⟩
  · rintro ⟨j, hj, e⟩
    by_cases hjk : j = k
    · subst hjk; rw [h] at e; cases e; exact .inr rfl
    · exact .inl ⟨j, by omega, e⟩
theorem both_same {ns : List ByteArray} {r ka kb : Nat} {la lb : List En} (hr : r < ns.length) (ha : Good la ka) (hb : Good lb kb) (h1 : Sevens la (SA ns ns.length)) (h2 : Sevens lb (SB ns r ns.length)) : la = lb := by
  refine rising_ext la lb ha.rise hb.rise fun x => ?_
  rw [h1 x, h2 x]
  unfold SA SB
  rw [List.take_length, turn_all hr]
end Go.Proofs.Ytpkffkdojgpmhaa
