/- The small calls of a disk: Used, Count, free, Right, bytesOf, file, folder, Data. Conditions: a number that is handed in is an int. -/
import Derived.Test.YtgdjoojghkdcbaaSt
namespace Go.Proofs.Ytgdjoojghkdcbaa
open Go.RowKit Go.PlainAid
set_option linter.unusedSimpArgs false

theorem cells_at {w : World} {b i : Nat} {cur : Array Value} {t : TypeId} {v : Value} (h : w.heap[b]? = some (.cells cur t (0, 0))) (hv : cur[i]? = some v) : w.cell? ⟨b, i, none⟩ = some v := by simp [World.cell?, h, hv]
theorem free_at {w : World} {b i : Nat} {cur : Array Value} {t : TypeId} (h : w.heap[b]? = some (.cells cur t (0, 0))) : w.frozen? ⟨b, i, none⟩ = false := by simp [World.frozen?, h]

section
variable {L : Lay} {D : Nat} {S : St} {w : World}
theorem DiskAt.c0 (h : DiskAt L D S w) : w.cell? ⟨D, 0, none⟩ = some (.int .i64 S.room) := cells_at h.blk rfl
theorem DiskAt.c1 (h : DiskAt L D S w) : w.cell? ⟨D, 1, none⟩ = some (.int .i64 S.used) := cells_at h.blk rfl
theorem DiskAt.c2 (h : DiskAt L D S w) : w.cell? ⟨D, 2, none⟩ = some (.int .i64 S.last) := cells_at h.blk rfl
theorem DiskAt.c3 (h : DiskAt L D S w) : w.cell? ⟨D, 3, none⟩ = some (.map (some L.M)) := cells_at h.blk rfl
theorem DiskAt.fr (h : DiskAt L D S w) (i : Nat) : w.frozen? ⟨D, i, none⟩ = false := free_at h.blk
theorem DiskAt.look0 (h : DiskAt L D S w) {k : Int} (hk : In64 k) (e : S.get k = none) : (Instr.lookup 92 (.map (some L.M)) (.int .i64 k) true).run Try.prog w = .ok (.tuple #[.pointer none, .bool false]) w := by
  have := h.map.look hk
  rw [h.gone k e] at this
  exact this
theorem DiskAt.look1 (h : DiskAt L D S w) {k : Int} (hk : In64 k) {p : Nat} (e : L.f k = some p) : (Instr.lookup 92 (.map (some L.M)) (.int .i64 k) true).run Try.prog w = .ok (.tuple #[.pointer (some ⟨p, 0, none⟩), .bool true]) w := by
  have := h.map.look hk
  rw [e] at this
  exact this
theorem DiskAt.look2 (h : DiskAt L D S w) {k : Int} (hk : In64 k) {p : Nat} (e : L.f k = some p) : (Instr.lookup 92 (.map (some L.M)) (.int .i64 k) false).run Try.prog w = .ok (.pointer (some ⟨p, 0, none⟩)) w := by
  have := h.map.look1 hk
  rw [e] at this
  exact this
end
section
variable {ow : Nat → Int} {k : Int} {p : Nat} {x : Nd} {dv ev : Value} {w : World}
theorem NodeAt.c0 (h : NodeAt ow k p x dv ev w) : w.cell? ⟨p, 0, none⟩ = some (.int .i64 x.kind) := cells_at h.blk rfl
theorem NodeAt.c1 (h : NodeAt ow k p x dv ev w) : w.cell? ⟨p, 1, none⟩ = some (.int .i64 x.mode) := cells_at h.blk rfl
theorem NodeAt.c2 (h : NodeAt ow k p x dv ev w) : w.cell? ⟨p, 2, none⟩ = some (.int .i64 x.links) := cells_at h.blk rfl
theorem NodeAt.c3 (h : NodeAt ow k p x dv ev w) : w.cell? ⟨p, 3, none⟩ = some (.int .i64 x.holds) := cells_at h.blk rfl
theorem NodeAt.c4 (h : NodeAt ow k p x dv ev w) : w.cell? ⟨p, 4, none⟩ = some dv := cells_at h.blk rfl
theorem NodeAt.c5 (h : NodeAt ow k p x dv ev w) : w.cell? ⟨p, 5, none⟩ = some ev := cells_at h.blk rfl
theorem NodeAt.c6 (h : NodeAt ow k p x dv ev w) : w.cell? ⟨p, 6, none⟩ = some (.int .i64 x.up) := cells_at h.blk rfl
theorem NodeAt.fr (h : NodeAt ow k p x dv ev w) (i : Nat) : w.frozen? ⟨p, i, none⟩ = false := free_at h.blk
end

theorem count23 (L : Lay) (D : Nat) (S : St) (w : World) (h : DiskAt L D S w) : Calls Try.prog 65 #[.pointer (some ⟨D, 0, none⟩)] w fun e w' => e = .returned (.int .i64 S.cnt) ∧ w = w' := by
  have c3 := h.c3
  have hl := fun ty => h.map.len ty
  clear h
  go_enter Try.func65, Try.ntmps65
  go_wp2
  go_ret
  exact ⟨rfl, rfl⟩
theorem free55 (L : Lay) (D : Nat) (S : St) (w : World) (h : DiskAt L D S w) (h1 : 0 ≤ S.used) (h2 : S.used ≤ S.room) (h3 : S.room ≤ 9223372036854775807) : Calls Try.prog 71 #[.pointer (some ⟨D, 0, none⟩)] w fun e w' => e = .returned (.int .i64 (S.room - S.used)) ∧ ∃ n, w' = w.drewN n := by
  have c0 := h.c0
  have c1 := h.c1
  clear h
  go_enter Try.func71, Try.ntmps71
  go_wp2
  go_region
  go_wp2
  go_ret
  exact ⟨rfl, 1, rfl⟩

def rightB (m : Int) : Bool := decide (0 ≤ m ∧ m ≤ 4095)
theorem right72 (m : Int) (w : World) : Calls Try.prog 70 #[.int .i64 m] w fun e w' => e = .returned (.bool (rightB m)) ∧ w = w' := by
  have HR : Hid (rightB m = decide (0 ≤ m ∧ m ≤ 4095)) := rfl
  generalize rightB m = r at HR ⊢
  by_cases h1 : 0 ≤ m
  · by_cases h2 : m ≤ 4095
    · have hr : r = true := by rw [HR.out]; exact decide_eq_true ⟨h1, h2⟩
      subst hr
      go_enter Try.func70, Try.ntmps70
      go_wp2
      go_ret
      exact ⟨rfl, rfl⟩
    · have hr : r = false := by rw [HR.out]; exact decide_eq_false (fun h => h2 h.2)
      subst hr
      go_enter Try.func70, Try.ntmps70
      go_wp2
      go_ret
      exact ⟨rfl, rfl⟩
  · have hr : r = false := by rw [HR.out]; exact decide_eq_false (fun h => h1 h.1)
    subst hr
    go_enter Try.func70, Try.ntmps70
    go_wp2
    go_ret
    exact ⟨rfl, rfl⟩

def byteE : Option Nd → Int
  | none => 12
  | some x => if x.kind = 2 then 15 else 0
def fileE : Option Nd → Int
  | none => 12
  | some x => if x.kind = 2 then 15 else if x.kind = 3 then 43 else 0
def dirE : Option Nd → Int
  | none => 12
  | some x => if x.kind = 2 then 0 else 14
def okPtr (e : Int) (p : Option Nat) : Value := if e = 0 then ptr p else .pointer none

theorem bytesOf42 (L : Lay) (D : Nat) (S : St) (w : World) (h : DiskAt L D S w) (k : Int) (hk : In64 k) :
    Calls Try.prog 58 #[.pointer (some ⟨D, 0, none⟩), .int .i64 k] w fun e w' => e = .returned (.tuple #[okPtr (byteE (S.get k)) (L.f k), .int .i64 (byteE (S.get k))]) ∧ w = w' := by
  have c3 := h.c3
  cases hg : S.get k with
  | none =>
    have hl := h.look0 hk hg
    clear h
    go_enter Try.func58, Try.ntmps58
    go_wp2
    go_ret2
    exact ⟨rfl, rfl⟩
  | some x =>
    obtain ⟨p, dv, ev, hp, hn⟩ := h.there k x hg
    have hl := h.look1 hk hp
    have d0 := hn.c0
    by_cases h2 : x.kind = 2
    · have e1 : byteE (some x) = 15 := by simp [byteE, h2]
      rw [e1]
      rw [h2] at d0
      clear h hn e1
      go_enter Try.func58, Try.ntmps58
      go_wp2
      go_ret2
      exact ⟨rfl, rfl⟩
    · have e1 : byteE (some x) = 0 := by simp [byteE, h2]
      rw [e1, hp]
      have h3 : (x.kind == 2) = false := by simpa using h2
      clear h hn e1
      go_enter Try.func58, Try.ntmps58
      go_wp2
      go_ret2
      exact ⟨rfl, rfl⟩
end Go.Proofs.Ytgdjoojghkdcbaa
