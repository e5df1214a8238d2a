/- A node's bytes in memory: made of a text, made a text again, lengthened by noughts, written over. Conditions: lengths that a slice may have. -/
import Derived.Test.YtgdjoojghkdcbaaMp
import Derived.Laws.IdiomStrings
namespace Go.Proofs.Ytgdjoojghkdcbaa
open Go.RowKit Go.PlainAid

abbrev ls (s : ByteArray) : List UInt8 := s.data.toList
def mk (l : List UInt8) : ByteArray := ⟨l.toArray⟩
theorem ls_mk (l : List UInt8) : ls (mk l) = l := rfl
theorem mk_ls (s : ByteArray) : mk (ls s) = s := by unfold mk ls; simp
theorem ls_len (s : ByteArray) : (ls s).length = s.size := by simp [ls]
theorem mk_size (l : List UInt8) : (mk l).size = l.length := by rw [← ls_len, ls_mk]
theorem ls_inj {s t : ByteArray} (h : ls s = ls t) : s = t := by rw [← mk_ls s, h, mk_ls]

/-- The cells of bytes. -/
def bc (l : List UInt8) : List Value := l.map fun b => Value.int .u8 b.toNat
theorem bc_len (l : List UInt8) : (bc l).length = l.length := by simp [bc]
theorem bc_app (a b : List UInt8) : bc (a ++ b) = bc a ++ bc b := by simp [bc]
theorem bc_take (l : List UInt8) (n : Nat) : bc (l.take n) = (bc l).take n := by simp [bc, List.map_take]
theorem bc_drop (l : List UInt8) (n : Nat) : bc (l.drop n) = (bc l).drop n := by simp [bc, List.map_drop]
theorem bc_rep (n : Nat) : bc (List.replicate n 0) = List.replicate n (.int .u8 0) := by simp [bc]
theorem bc_one : ∀ l, ∀ u ∈ bc l, u.oneCell' = true := by
  intro l u h
  simp only [bc, List.mem_map] at h
  obtain ⟨b, _, rfl⟩ := h
  rfl

def Unmarked (fr : Nat × Nat) (n : Nat) : Prop := ∀ j, j < n → ¬ (fr.1 ≤ j ∧ j < fr.2)
/-- v is a slice of just these bytes. -/
def Byts (v : Value) (s : ByteArray) (w : World) : Prop :=
  (v = .slice none 0 0 ∧ s.size = 0) ∨ ∃ g cap cur fr, v = .slice (some ⟨g, 0, none⟩) s.size cap ∧ w.heap[g]? = some (.cells cur 5 fr) ∧ cur.size = cap ∧ Unmarked fr cap ∧ s.size ≤ cap ∧ cap ≤ maxLen ∧ cur.toList.take s.size = bc (ls s)
theorem Byts.shape {v : Value} {s : ByteArray} {w : World} (h : Byts v s w) : ∃ a c, v = .slice a s.size c := by
  rcases h with ⟨rfl, h⟩ | ⟨g, cap, cur, fr, rfl, _⟩
  · exact ⟨_, _, by rw [h]⟩
  · exact ⟨_, _, rfl⟩
theorem Byts.keep {v : Value} {s : ByteArray} {w w' : World} (h : Byts v s w) (hg : ∀ k, v.ownBlock = some k → k < w.heap.size → w'.heap[k]? = w.heap[k]?) : Byts v s w' := by
  rcases h with h | ⟨g, cap, cur, fr, rfl, h2, h3⟩
  · exact .inl h
  · exact .inr ⟨g, cap, cur, fr, rfl, (hg g rfl (lt_of_block h2)).trans h2, h3⟩
theorem Byts.below {v : Value} {s : ByteArray} {w w' : World} (h : Byts v s w) (hb : Below w.heap.size w w') : Byts v s w' := h.keep fun k _ hk => hb.block k hk
theorem Byts.lt {v : Value} {s : ByteArray} {w : World} (h : Byts v s w) {k : Nat} (hk : v.ownBlock = some k) : k < w.heap.size := by
  rcases h with ⟨rfl, _⟩ | ⟨g, cap, cur, fr, rfl, h2, _⟩
  · simp [Value.ownBlock] at hk
  · simp [Value.ownBlock] at hk; subst hk; exact lt_of_block h2
theorem Byts.ne {b : Nat} {v : Value} {s : ByteArray} {w : World} {u : Array Value} {t : TypeId} {fr : Nat × Nat} (h : Byts v s w) (hb : w.heap[b]? = some (.cells u t fr)) (ht : t ≠ 5) : v.ownBlock ≠ some b := by
  intro he
  rcases h with ⟨rfl, _⟩ | ⟨g, cap, cur, fr, rfl, hg, _⟩
  · simp [Value.ownBlock] at he
  · simp [Value.ownBlock] at he
    subst he
    rw [hg] at hb
    simp at hb
    exact ht hb.2.1.symm
theorem byts_nil (w : World) (s : ByteArray) (h : s.size = 0) : Byts (.slice none 0 0) s w := .inl ⟨rfl, h⟩
theorem Byts.same {v : Value} {s t : ByteArray} {w : World} (h : Byts v s w) (e : s = t) : Byts v t w := e ▸ h

/-- What '[]byte(s)' leaves. -/
def made (w : World) (s : ByteArray) : World := w.drew.alloc (.cells (bytesRow s (grownCap w s.size 0 5)) 5 ((bytesRow s (grownCap w s.size 0 5)).size, (bytesRow s (grownCap w s.size 0 5)).size + 1))
theorem run_made (s : ByteArray) (w : World) : (convert 9 50 (.string s)).run Try.prog w = .ok (.slice (some ⟨w.heap.size, 0, none⟩) s.size (grownCap w s.size 0 5)) (made w s) :=
  run_bytes_of_string w 9 50 5 s Try.underlying9 Try.underlying50 Try.underlying5
theorem made_below (w : World) (s : ByteArray) : Below w.heap.size w (made w s) := ((Below.refl _ w).drew).alloc (Nat.le_refl _) _
theorem made_byts (w : World) (s : ByteArray) (hs : s.size ≤ maxLen) : Byts (.slice (some ⟨w.heap.size, 0, none⟩) s.size (grownCap w s.size 0 5)) s (made w s) := by
  have hc := grownCap_ge w s.size 0 5
  have hm := grownCap_le_maxLen w s.size 0 5 hs
  have hsz : (bytesRow s (grownCap w s.size 0 5)).size = grownCap w s.size 0 5 := by
    unfold bytesRow
    have : s.data.size = s.size := rfl
    simp [this]; omega
  refine .inr ⟨_, _, bytesRow s (grownCap w s.size 0 5), _, rfl, heap_alloc_new _ _, hsz, ?_, hc, hm, ?_⟩
  · intro j hj; rw [hsz]; omega
  · unfold bytesRow bc
    have : s.data.size = s.size := rfl
    rw [Array.toList_append, List.take_append_of_le_length (by simp [this]), Array.toList_map, List.take_of_length_le (by simp [this])]

/-- 'string(v)'. -/
theorem Byts.back {v : Value} {s : ByteArray} {w : World} (h : Byts v s w) : (convert 50 9 v).run Try.prog w = .ok (.string s) w := by
  rcases h with ⟨rfl, h⟩ | ⟨g, cap, cur, fr, rfl, hg, hc, _, hle, _, ht⟩
  · rw [run_convert_bytes_string w 50 9 5 none 0 0 Try.underlying50 Try.underlying5 Try.underlying9, empty_is h]
    rfl
  · have hl : (ls s).length = s.size := ls_len s
    have := run_convert_bytes_back (P := Try.prog) w 50 9 5 ⟨g, 0, none⟩ cap (ls s) Try.underlying50 Try.underlying5 Try.underlying9 (fun j hj => by
      rw [add_at, Nat.zero_add]
      have e : (bc (ls s))[j]? = some (.int .u8 ((ls s)[j].toNat : Int)) := by simp [bc, List.getElem?_eq_getElem hj]
      rw [← ht, List.getElem?_take] at e
      rw [if_pos (by omega)] at e
      simp only [World.cell?, hg]
      simpa using e)
    rw [hl] at this
    rw [this, show (⟨(ls s).toArray⟩ : ByteArray) = s from mk_ls s]

theorem run_store_mark (P : Program) (g o : Nat) (t : TypeId) (fz : Nat × Nat) : ∀ (vs : List Value) (i : Nat) (cur : Array Value) (w : World), w.heap[g]? = some (.cells cur t fz) → Unmarked fz cur.size → o + i + vs.length ≤ cur.size → (∀ v ∈ vs, v.oneCell' = true) →
    (storeCells ⟨g, o, none⟩ vs i).run P w = .ok () (w.setRow g (splice cur.toList (o + i) vs).toArray)
  | [], i, cur, w, hg, _, _, _ => by
    simp only [storeCells, splice, List.nil_append, List.length_nil, Nat.add_zero, List.take_append_drop, Array.toArray_toList]
    rw [setRow_self w g cur t fz hg]
    rfl
  | v :: rest, i, cur, w, hg, hfz, hl, h1 => by
    have hi : o + i < cur.size := by simp at hl; omega
    have hadd : (⟨g, o, none⟩ : Addr).add i = ⟨g, o + i, none⟩ := add_at g o i
    have hcell : w.cell? ⟨g, o + i, none⟩ = some cur[o + i] := by simp [World.cell?, hg, hi]
    have hfro : w.frozen? ⟨g, o + i, none⟩ = false := by
      have := hfz (o + i) hi
      simp only [World.frozen?, hg]
      by_cases h : fz.1 ≤ o + i
      · rw [decide_eq_false (p := o + i < fz.2) (fun h2 => this ⟨h, h2⟩), Bool.and_false]
      · rw [decide_eq_false h, Bool.false_and]
    have hst : (store ((⟨g, o, none⟩ : Addr).add i) v).run P w = .ok () (w.setRow g (cur.setIfInBounds (o + i) v)) := by
      rw [hadd, run_store P w _ v _ (h1 v (by simp)), hcell]
      simp [hfro, setCell_eq_setRow w g (o + i) cur t fz v hg]
    have ih := run_store_mark P g o t fz rest (i + 1) (cur.setIfInBounds (o + i) v) (w.setRow g (cur.setIfInBounds (o + i) v)) (setRow_heap w g cur _ t _ hg) (by rw [Array.size_setIfInBounds]; exact hfz) (by simp at hl ⊢; omega) (fun x hx => h1 x (by simp [hx]))
    simp only [storeCells, Sem.run_bind, hst, Result.andThen_ok, ih, setRow_setRow]
    congr 3
    have e := list_seg_step cur.toList (o + i) v rest (by simp at hl ⊢; omega)
    unfold splice
    simpa [Array.toList_setIfInBounds, Nat.add_assoc] using e
end Go.Proofs.Ytgdjoojghkdcbaa
