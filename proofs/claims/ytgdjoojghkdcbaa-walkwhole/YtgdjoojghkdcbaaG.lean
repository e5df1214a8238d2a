/- The contract of Size. Conditions: at most 1000 entries, with names of at most 500 bytes. -/
import Derived.Test.YtgdjoojghkdcbaaF
namespace Go.Proofs.Ytgdjoojghkdcbaa
open Go.RowKit Go.PlainAid
set_option linter.unusedSimpArgs false

/-- How many bytes the names have together. -/
def szs : List En → Nat
  | [] => 0
  | x :: l => x.1.size + szs l
theorem szs_app (b : List En) : ∀ a, szs (a ++ b) = szs a + szs b
  | [] => by simp [szs]
  | x :: a => by simp [szs, szs_app b a]; omega
theorem szs_le : ∀ l : List En, (∀ x ∈ l, x.1.size ≤ 500) → szs l ≤ 500 * l.length
  | [], _ => by simp [szs]
  | x :: l, h => by
    have := szs_le l (fun y hy => h y (by simp [hy]))
    have := h x (by simp)
    simp [szs]; omega
theorem take_succ {α : Type} {l : List α} {k : Nat} {x : α} (h : l[k]? = some x) : l.take (k + 1) = l.take k ++ [x] := by
  rw [List.take_add_one, h]; rfl
theorem get_some {α : Type} {l : List α} {k : Nat} (h : k < l.length) : ∃ x, l[k]? = some x := ⟨l[k], List.getElem?_eq_getElem h⟩

def RelSz (w : World) (l : List En) (s i : Value) (wr : World) : Prop := ∃ k, k ≤ l.length ∧ i = .int .i64 k ∧ s = .int .i64 (szs (l.take k)) ∧ Below w.heap.size w wr

set_option maxHeartbeats 2000000 in
set_option maxRecDepth 100000 in
theorem size11 (D : Nat) (nc : NC) (B : Nat) (v : Value) (l : List En) (w : World) (h : DirAt D nc B v l w) (hl : l.length ≤ 1000) (hn : ∀ x ∈ l, x.1.size ≤ 500) : Calls Try.prog 76 #[.pointer (some ⟨D, 5, none⟩)] w fun e w' => e = .returned (.int .i64 (szs l)) ∧ Below w.heap.size w w' := by
  have c0 := h.cell
  have HN := Lib.hid hn
  have H := Lib.hid h
  rcases h.row.cases with ⟨rfl, rfl⟩ | ⟨gv, cap, cur, rfl, _⟩
  · clear h hn
    go_enter Try.func76, Try.ntmps76
    go_wp2
    go_loopw [3, 11] (RelSz w []) (fun _ _ _ => 0)
    case atStart => exact ⟨0, Nat.le_refl _, rfl, rfl, Below.refl _ _⟩
    case round =>
      obtain ⟨k, hk, rfl, rfl, hb⟩ := hrel
      have HB := Lib.hid hb
      clear hb
      simp at hk
      subst hk
      go_wp2
      go_ret
      exact ⟨rfl, HB.out⟩
  · clear h hn
    go_enter Try.func76, Try.ntmps76
    go_wp2
    go_loopw [3, 11] (RelSz w l) (fun _ i _ => l.length - (intOf i).toNat)
    case atStart => exact ⟨0, Nat.zero_le _, rfl, rfl, Below.refl _ _⟩
    case round =>
      obtain ⟨k, hk, rfl, rfl, hb⟩ := hrel
      have HB := Lib.hid hb
      clear hb
      by_cases hlt : k < l.length
      · obtain ⟨x, hx⟩ := get_some hlt
        have e0 := (H.out.row.below HB.out).cell0 hx
        have e1 := (H.out.row.below HB.out).cell1 hx
        have hsz := szs_le (l.take k) (fun y hy => HN.out y (List.mem_of_mem_take hy))
        have hsz2 : szs (l.take k) ≤ 500000 := by have := List.length_take_le k l; omega
        have hx5 := HN.out x (List.mem_of_getElem? hx)
        have ES : Hid (szs (l.take (k + 1)) = szs (l.take k) + x.1.size) := by show _ = _; rw [take_succ hx, szs_app]; simp [szs]
        clear hx hsz
        generalize szs (l.take k) = n at hsz2 ES
        go_wp2
        go_roundw
        case rel => exact ⟨k + 1, hlt, by go_num, by rw [ES.out]; go_num, HB.out.alloc HB.out.size _⟩
        case measure => simp [intOf]; omega
      · obtain rfl : k = l.length := by omega
        go_wp2
        go_ret
        rw [List.take_length]
        exact ⟨rfl, HB.out⟩
end Go.Proofs.Ytgdjoojghkdcbaa
