/- Lists of numbers: what came in, what the call owns; the place of the least one. -/
import Derived.Test.YtohjpclpeiidfaaB
import Derived.Laws.EntriesVeiled
import Derived.Deep.Slices
import Derived.OpenShut
namespace Go.Proofs.Ytohjpclpeiidfaa
open Go.RowKit Go.PlainAid Go.ChangeShapes Go.WideShapes Go.ChangeAt
set_option linter.unusedSimpArgs false
set_option linter.unusedVariables false

/-- v is a slice of just these one-cell values. -/
def Sl (w : World) (v : Value) (xs : List Value) : Prop := (xs = [] ∧ ∃ a c, v = .slice a 0 c) ∨ ∃ b off c, v = .slice (some ⟨b, off, none⟩) xs.length c ∧ xs.length ≤ c ∧ ∀ (i : Nat) (x : Value), xs[i]? = some x → w.cell? ⟨b, off + i, none⟩ = some x
theorem Sl.shape {w : World} {v : Value} {xs : List Value} (h : Sl w v xs) : ∃ a c, v = .slice a xs.length c := by
  rcases h with ⟨rfl, a, c, rfl⟩ | ⟨b, off, c, rfl, _, _⟩
  · exact ⟨a, c, rfl⟩
  · exact ⟨_, _, rfl⟩
theorem cell_kept {w w' : World} {p : Addr} {v : Value} (h : w.cell? p = some v) (hb : Below w.heap.size w w') : w'.cell? p = some v := by
  rw [hb.cell (World.block_lt_of_cell? _ _ h)]; exact h
theorem Sl.below {w w' : World} {v : Value} {xs : List Value} (h : Sl w v xs) (hb : Below w.heap.size w w') : Sl w' v xs := by
  rcases h with h | ⟨b, off, c, h1, h2, h3⟩
  · exact .inl h
  · exact .inr ⟨b, off, c, h1, h2, fun i s hi => cell_kept (h3 i s hi) hb⟩
theorem Sl.own {B : Nat} {e : TypeId} {n : Nat} {v : Value} {xs : List Value} {w : World} (h : w.ownsRow B e 1 v n xs) : Sl w v xs := by
  have hc := fun g hg => World.ownsRow.cells h (g := g) hg
  have hlen := h.1
  rcases h.2 with ⟨rfl, h0⟩ | ⟨g, cap, cur, rfl, _, hg, hle, h4, _, h5⟩
  · subst h0
    exact .inl ⟨List.length_eq_zero_iff.1 (by simpa using hlen), _, _, rfl⟩
  · have e1 : xs.length = n := by simpa using hlen
    refine .inr ⟨g, 0, cap, by rw [e1], by omega, fun j x hx => ?_⟩
    have := hc g rfl j x hx
    rw [Nat.zero_add, show (⟨g, j, none⟩ : Addr) = (⟨g, 0, none⟩ : Addr).add j by unfold Addr.add; split <;> simp_all]
    exact this

namespace Fl
def fl (l : List Nat) : List Value := l.map (Value.float .f64)
def il (l : List Int) : List Value := l.map (Value.int .i64)
theorem fl_len (l : List Nat) : (fl l).length = l.length := List.length_map _
theorem il_len (l : List Int) : (il l).length = l.length := List.length_map _
theorem fl_at {l : List Nat} {i : Nat} (h : i < l.length) : (fl l)[i]? = some (.float .f64 l[i]) := by simp [fl, h]
theorem il_at {l : List Int} {i : Nat} (h : i < l.length) : (il l)[i]? = some (.int .i64 l[i]) := by simp [il, h]
def All (l : List Nat) : Prop := ∀ x ∈ l, x < 18446744073709551616
theorem All.at {l : List Nat} (h : All l) (i : Nat) (hi : i < l.length) : l[i] < 18446744073709551616 := h _ (List.getElem_mem hi)

/-- m is the first place of a least one among the first n; -1: there is none. -/
def FM (K : Nat → Int) (n : Nat) (m : Int) : Prop := (n = 0 ∧ m = -1) ∨ ∃ j : Nat, j < n ∧ m = j ∧ (∀ i, i < n → K j ≤ K i) ∧ (∀ i, i < j → K j < K i)
theorem FM.unique {K : Nat → Int} {n : Nat} {a b : Int} (h : FM K n a) (h' : FM K n b) : a = b := by
  rcases h with ⟨rfl, rfl⟩ | ⟨j, h1, rfl, h2, h3⟩
  · rcases h' with ⟨_, rfl⟩ | ⟨j, h1, _⟩
    · rfl
    · omega
  · rcases h' with ⟨h, _⟩ | ⟨j', h1', rfl, h2', h3'⟩
    · omega
    · rcases Nat.lt_trichotomy j j' with h | h | h
      · have := h3' j h; have := h2 j' h1'; omega
      · rw [h]
      · have := h3 j' h; have := h2' j h1; omega
theorem FM.first {K : Nat → Int} : FM K 0 (-1) := .inl ⟨rfl, rfl⟩
theorem FM.take {K : Nat → Int} {n : Nat} {m : Int} (h : FM K n m) (hl : m < 0 ∨ K n < K m.toNat) : FM K (n + 1) n := by
  refine .inr ⟨n, by omega, rfl, ?_, ?_⟩
  · intro i hi
    rcases h with ⟨rfl, rfl⟩ | ⟨j, h1, rfl, h2, h3⟩
    · have : i = 0 := by omega
      subst this; omega
    · by_cases e : i = n
      · subst e; omega
      · have := h2 i (by omega)
        rcases hl with hl | hl
        · omega
        · simp at hl; omega
  · intro i hi
    rcases h with ⟨rfl, rfl⟩ | ⟨j, h1, rfl, h2, h3⟩
    · omega
    · have := h2 i (by omega)
      rcases hl with hl | hl
      · omega
      · simp at hl; omega
theorem FM.keep {K : Nat → Int} {n : Nat} {m : Int} (h : FM K n m) (h0 : ¬ m < 0) (hl : ¬ K n < K m.toNat) : FM K (n + 1) m := by
  rcases h with ⟨rfl, rfl⟩ | ⟨j, h1, rfl, h2, h3⟩
  · omega
  · refine .inr ⟨j, by omega, rfl, fun i hi => ?_, h3⟩
    by_cases e : i = n
    · subst e; simp at hl; omega
    · exact h2 i (by omega)
theorem FM.range {K : Nat → Int} {n : Nat} {m : Int} (h : FM K n m) : -1 ≤ m ∧ m < n := by
  rcases h with ⟨rfl, rfl⟩ | ⟨j, h1, rfl, h2, h3⟩ <;> omega

def kyAt (l : List Nat) (i : Nat) : Int := ky (l.getD i 0)
theorem kyAt_is {l : List Nat} {i : Nat} (h : i < l.length) : kyAt l i = ky l[i] := by unfold kyAt; rw [List.getD_eq_getElem?_getD, List.getElem?_eq_getElem h]; rfl
theorem less_at {l : List Nat} {i j : Nat} (hi : i < l.length) (hj : j < l.length) : less l[i] l[j] = decide (kyAt l i < kyAt l j) := by
  rw [kyAt_is hi, kyAt_is hj]; rfl

def Lst (K : Nat → Int) (n : Nat) (w : World) (e : Ending) (w' : World) : Prop := ∃ m, e = .returned (.int .i64 m) ∧ FM K n m ∧ Below w.heap.size w w'
def Rel10 (l : List Nat) (w : World) (m i : Value) (wx : World) : Prop := ∃ (k : Nat) (x : Int), k ≤ l.length ∧ i = .int .i64 k ∧ m = .int .i64 x ∧ FM (kyAt l) k x ∧ wx = w

set_option maxRecDepth 100000 in
theorem least10 (l : List Nat) (v : Value) (w : World) (hv : Sl w v (fl l)) (ha : All l) (hl : l.length ≤ 1000) :
    Calls Try.prog 10 #[v] w (Lst (kyAt l) l.length w) := by
  obtain ⟨av, cv, rfl⟩ := hv.shape
  rw [fl_len] at *
  have HV := Lib.hid hv
  have HA := Lib.hid ha
  clear hv ha
  go_enter Try.func10, Try.ntmps10
  go_wp2
  go_loopw [3, 8] (Rel10 l w) (fun _ i _ => l.length - (intOf i).toNat)
  case atStart => exact ⟨0, -1, Nat.zero_le _, rfl, rfl, FM.first, rfl⟩
  case round =>
    obtain ⟨k, x, hk, rfl, rfl, hF, rfl⟩ := hrel
    by_cases hlt : k < l.length
    · have hr := hF.range
      rcases HV.out with ⟨e, _⟩ | ⟨g, off, cc, e, hcc, hcell⟩
      · have := congrArg List.length e
        rw [fl_len] at this
        change l.length = 0 at this
        omega
      rw [fl_len] at e
      cases e
      have c1 := hcell k _ (fl_at hlt)
      have L := Lib.hid fun h2 w => less8 l[k] (l[x.toNat]'h2) w (HA.out.at k hlt) (HA.out.at _ h2)
      by_cases h0 : x < 0
      · have T := Lib.hid (hF.take (.inl h0))
        clear hcell L HA hF
        go_wp2
        go_roundw
        case rel => exact ⟨k + 1, k, hlt, by go_num, rfl, T.out, rfl⟩
        case measure => simp [intOf]; omega
      · obtain ⟨j, rfl⟩ : ∃ j : Nat, x = j := ⟨x.toNat, by omega⟩
        have hj : j < l.length := by omega
        have c2 := hcell j _ (fl_at hj)
        have L2 := Lib.hid (fun w => less8 l[k] l[j] w (HA.out.at k hlt) (HA.out.at j hj))
        have e1 := less_at hlt hj
        by_cases h1 : kyAt l k < kyAt l j
        · have T := Lib.hid (hF.take (.inr h1))
          have e2 : less l[k] l[j] = true := by rw [e1]; exact decide_eq_true h1
          rw [e2] at L2
          clear hcell L HA hF e1 h1 e2
          go_wp2_with (go_at_call 8; refine (L2.out _).mono ?_; rintro _ _ ⟨rfl, rfl⟩)
          go_roundw
          case rel => exact ⟨k + 1, k, hlt, by go_num, rfl, T.out, rfl⟩
          case measure => simp [intOf]; omega
        · have T := Lib.hid (hF.keep h0 h1)
          have e2 : less l[k] l[j] = false := by rw [e1]; exact decide_eq_false h1
          rw [e2] at L2
          clear hcell L HA hF e1 h1 e2
          go_wp2_with (go_at_call 8; refine (L2.out _).mono ?_; rintro _ _ ⟨rfl, rfl⟩)
          go_roundw
          case rel => exact ⟨k + 1, j, hlt, by go_num, rfl, T.out, rfl⟩
          case measure => simp [intOf]; omega
    · obtain rfl : k = l.length := by omega
      have T := Lib.hid hF
      clear hF
      go_wp2
      go_ret
      exact ⟨x, rfl, T.out, Below.refl _ _⟩
end Fl
end Go.Proofs.Ytohjpclpeiidfaa
