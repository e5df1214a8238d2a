/- What comes in, opened; the library's own variable. No condition. -/
import Derived.Test.YtfaohicadahcjaaGreatDoorSG
import Derived.Test.YtfaohicadahcjaaGreatDoorSJ
import Derived.HandedShaped
namespace Go.Proofs.YtfaohicadahcjaaGreatDoor
open Go.RowKit Go.PlainAid Go.ChangeShapes Go.WideShapes Go.ChangeAt
set_option linter.unusedSimpArgs false
set_option linter.unusedVariables false
theorem env_of (W : World) (h : W.ShapedOpen Tryz.prog) : Env W :=
  Go.Proofs.cell_of_shapedOpen_int (zero := #[.int .i64 0]) (t := 3) h (of_decide_eq_true (by kernel_rfl)) (by kernel_rfl) rfl (by kernel_rfl) (by kernel_rfl) Tryz.underlying3
set_option maxRecDepth 100000 in
theorem open_wd {H : Type} {enc : TypeId × Value → H} {W : World} {base : Nat} {v : Value} {d : DataW H} {p : List MemPlace} (hv : Value.okWide Tryz.prog W .any base 33 v) (h : DataW.Trod enc Tryz.prog W 0 (fun _ => true) true 33 v d p) (hb : Rows.uptoBulk d ≤ 1048576) : ∃ n l, WdAt n W v l := by
  obtain ⟨a, len, cap, rfl⟩ := okWide_slice Tryz.underlying33 hv
  obtain ⟨fuel, hf⟩ := h
  obtain ⟨l, h1, _⟩ := (open_tree (enc := enc) (w := W) (Rows.uptoBulk d) hb).1 fuel (.slice a len cap) d p hf (Nat.le_refl _)
  exact ⟨_, l, h1⟩
set_option maxRecDepth 100000 in
theorem open_ns {H : Type} {enc : TypeId × Value → H} {W : World} {base : Nat} {v : Value} {d : DataW H} {p : List MemPlace} (hv : Value.okWide Tryz.prog W .any base 22 v) (h : DataW.Trod enc Tryz.prog W 0 (fun _ => true) true 22 v d p) (hb : Rows.uptoBulk d ≤ 1048576) : ∃ n l, NsAt n W v l ∧ (wts n).2 l ≤ 1048576 := by
  obtain ⟨a, len, cap, rfl⟩ := okWide_slice Tryz.underlying22 hv
  obtain ⟨fuel, hf⟩ := h
  obtain ⟨l, h1, h2⟩ := (open_tree (enc := enc) (w := W) (Rows.uptoBulk d) hb).2 fuel (.slice a len cap) d p hf (Nat.le_refl _)
  exact ⟨_, l, h1, by omega⟩
theorem byte_of {a : Int} (h : (Lit.int .u8 a).wf = true) : ∃ c : Nat, a = c ∧ c < 256 := by
  simp [Lit.wf, IntKind.min, IntKind.max, IntKind.bits, IntKind.signed] at h
  exact ⟨a.toNat, by omega, by omega⟩
end Go.Proofs.YtfaohicadahcjaaGreatDoor
