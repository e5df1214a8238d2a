/- The document's New. No condition. -/
import Derived.Test.YtgdjoojghkdcbaaXm
namespace Go.Proofs.Ytgdjoojghkdcbaa
open Go.RowKit Go.PlainAid
set_option linter.unusedSimpArgs false

def rootZ : List Zn := [(Nr.zero, .slice none 0 0), (⟨2, 493, 0, ⟨#[]⟩, []⟩, .slice none 0 0)]
set_option maxHeartbeats 1000000 in
set_option maxRecDepth 100000 in
theorem rnew10 (P : Nat → Prop) (room : Int) (w : World) (hP : ∀ b, w.heap.size ≤ b → P b) : Calls Try.prog 17 #[.int .i64 room] w (GivesX P room rootZ w) := by
  have HP := Lib.hid hP
  clear hP
  go_enter Try.func17, Try.ntmps17
  go_wp2
  have hb : Below w.heap.size w ((w.alloc (.cells #[.slice (some ⟨w.heap.size + 1, 0, none⟩) 2 2, .int .i64 room] 28)).alloc (.cells #[.int .i64 0, .int .i64 0, .int .i64 0, .string ⟨#[]⟩, .slice none 0 0, .int .i64 2, .int .i64 493, .int .i64 0, .string ⟨#[]⟩, .slice none 0 0] 48)) := ((Below.refl _ w).alloc (Nat.le_refl _) _).alloc (by simp) _
  refine bodyPost_ret_by (results_x rfl _ _ _ _ _ rfl (heap_alloc2_old w _ _)) rfl ⟨_, rfl, ⟨⟨rfl, .inr ⟨w.heap.size + 1, 2, _, rfl, Nat.zero_le _, heap_alloc2_new w _ _, by decide, by unfold maxLen; omega, rfl, rfl⟩⟩, ?_, ?_, ?_⟩, hb⟩
  · intro z hz
    simp only [rootZ, List.mem_cons, List.mem_nil_iff, or_false] at hz
    rcases hz with rfl | rfl <;> exact row_nil _ _ _
  · intro b e
    simp [Value.ownBlock] at e
    exact HP.out b (by omega)
  · intro z hz b e
    simp only [rootZ, List.mem_cons, List.mem_nil_iff, or_false] at hz
    rcases hz with rfl | rfl <;> simp [Value.ownBlock] at e

end Go.Proofs.Ytgdjoojghkdcbaa
