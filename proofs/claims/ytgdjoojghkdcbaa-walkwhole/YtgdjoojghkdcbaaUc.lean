/- New. No condition. -/
import Derived.Test.YtgdjoojghkdcbaaUb
namespace Go.Proofs.Ytgdjoojghkdcbaa
open Go.RowKit Go.PlainAid
set_option linter.unusedSimpArgs false
set_option maxHeartbeats 1000000 in
set_option maxRecDepth 100000 in
theorem new8_bad (r : Int) (w : World) (h : r < 0) : Calls Try.prog 18 #[.int .i64 r] w fun e w' => e = .returned (.tuple #[.pointer none, .int .i64 10]) ∧ w = w' := by
  go_enter Try.func18, Try.ntmps18
  go_wp2
  go_ret2
  exact ⟨rfl, rfl⟩

/-- A disk with an empty root. -/
def St.new (r : Int) : St := ⟨r, 0, 1, 1, fun k => if k = 1 then some ⟨2, 493, 1, 0, ⟨#[]⟩, [], 1⟩ else none⟩
def rootO : Obj := .cells #[.int .i64 2, .int .i64 493, .int .i64 1, .int .i64 0, .slice none 0 0, .slice none 0 0, .int .i64 1] 91

theorem new_at (r : Int) (w w2 : World) (hM : MapAt (w.heap.size + 1) (fset (fun _ => none) 1 (some w.heap.size)) 1 w2) (hg : ((w.alloc rootO).alloc (.map #[] 0)).grownBy w2 (some (w.heap.size + 1))) :
    ∃ L, DiskAt L w2.heap.size (St.new r) (w2.alloc (.cells #[.int .i64 r, .int .i64 0, .int .i64 1, .map (some (w.heap.size + 1))] 94)) ∧ Below w.heap.size w (w2.alloc (.cells #[.int .i64 r, .int .i64 0, .int .i64 1, .map (some (w.heap.size + 1))] 94)) ∧ ∀ b, b < w.heap.size → L.ow b = -1 := by
  have hs : w.heap.size + 2 ≤ w2.heap.size := by have := hg.size; simp at this; omega
  have hroot : w2.heap[w.heap.size]? = some rootO := (hg.block w.heap.size (by simp; omega) (by simp)).trans (heap_alloc2_old w _ _)
  have hb : Below w.heap.size w w2 := (((Below.refl _ w).alloc (Nat.le_refl _) rootO).alloc (by simp) (.map #[] 0)).grown hg (by simp; omega) (fun k hk => by cases hk; omega)
  have hb2 := (Below.refl w2.heap.size w2).alloc (Nat.le_refl _) (.cells #[.int .i64 r, .int .i64 0, .int .i64 1, .map (some (w.heap.size + 1))] 94)
  have hd := Below.heap_alloc w2 (.cells #[.int .i64 r, .int .i64 0, .int .i64 1, .map (some (w.heap.size + 1))] 94)
  have hsz : (w2.alloc (.cells #[.int .i64 r, .int .i64 0, .int .i64 1, .map (some (w.heap.size + 1))] 94)).heap.size = w2.heap.size + 1 := by simp
  refine ⟨⟨fun b => if b = w.heap.size then 1 else if b = w.heap.size + 1 then 0 else if b = w2.heap.size then 0 else -1, w.heap.size + 1, fset (fun _ => none) 1 (some w.heap.size)⟩, ⟨?_, ?_, ?_, ?_, ?_, ?_, ?_, ?_⟩, ?_, ?_⟩
  · exact heap_alloc_new w2 _
  · exact hM.block (hd _ (by omega))
  · intro k hk
    unfold St.new at hk
    simp only at hk
    by_cases e : k = 1
    · rw [if_pos e] at hk; cases hk
    · exact if_neg e
  · intro k x hk
    unfold St.new at hk
    simp only at hk
    by_cases e : k = 1
    · rw [if_pos e] at hk
      cases hk
      subst e
      refine ⟨w.heap.size, .slice none 0 0, .slice none 0 0, rfl, ⟨(hd _ (by omega)).trans hroot, byts_nil _ _ rfl, row_nil _ _ _, if_pos rfl, fun b e => ?_, fun b e => ?_⟩⟩
      · simp [Value.ownBlock] at e
      · simp [Value.ownBlock] at e
    · rw [if_neg e] at hk; cases hk
  · intro k x hk
    unfold St.new at hk
    simp only at hk
    by_cases e : k = 1
    · omega
    · rw [if_neg e] at hk; cases hk
  · show (if w2.heap.size = w.heap.size then (1 : Int) else if w2.heap.size = w.heap.size + 1 then 0 else if w2.heap.size = w2.heap.size then 0 else -1) = 0
    rw [if_neg (by omega), if_neg (by omega), if_pos rfl]
  · show (if w.heap.size + 1 = w.heap.size then (1 : Int) else if w.heap.size + 1 = w.heap.size + 1 then 0 else if w.heap.size + 1 = w2.heap.size then 0 else -1) = 0
    rw [if_neg (by omega), if_pos rfl]
  · intro b hl
    rw [hsz] at hl
    show (if b = w.heap.size then (1 : Int) else if b = w.heap.size + 1 then 0 else if b = w2.heap.size then 0 else -1) = -1
    rw [if_neg (by omega), if_neg (by omega), if_neg (by omega)]
  · exact hb.trans (hb2.mono (by omega))
  · intro b hl
    show (if b = w.heap.size then (1 : Int) else if b = w.heap.size + 1 then 0 else if b = w2.heap.size then 0 else -1) = -1
    rw [if_neg (by omega), if_neg (by omega), if_neg (by omega)]

/-- What New leaves. -/
def Newly (r : Int) (w : World) (e : Ending) (w' : World) : Prop := ∃ D L, e = .returned (.tuple #[.pointer (some ⟨D, 0, none⟩), .int .i64 0]) ∧ DiskAt L D (St.new r) w' ∧ Below w.heap.size w w' ∧ ∀ b, b < w.heap.size → L.ow b = -1

set_option maxHeartbeats 1000000 in
set_option maxRecDepth 100000 in
theorem new8 (r : Int) (w : World) (h : ¬ r < 0) : Calls Try.prog 18 #[.int .i64 r] w (Newly r w) := by
  have hmm := @run_makeMap Try.prog
  have M0 := MapAt.made (w.alloc rootO)
  rw [show (w.alloc rootO).heap.size = w.heap.size + 1 by simp] at M0
  obtain ⟨w2, hr, hM, hg⟩ := M0.store (k := 1) (in64 (by omega)) (by unfold maxLen; omega) rfl w.heap.size
  obtain ⟨L, h1, h2, h3⟩ := new_at r w w2 hM hg
  have F := Lib.hid (show Newly r w (.returned (.tuple #[.pointer (some ⟨w2.heap.size, 0, none⟩), .int .i64 0])) _ from ⟨_, _, rfl, h1, h2, h3⟩)
  unfold rootO at hr
  clear h1 h2 h3 hM hg M0
  go_enter Try.func18, Try.ntmps18
  go_wp2
  go_ret2
  exact F.out
end Go.Proofs.Ytgdjoojghkdcbaa
