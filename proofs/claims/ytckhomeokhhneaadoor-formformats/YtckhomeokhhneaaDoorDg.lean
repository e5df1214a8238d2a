/- The document's put, whole. Conditions: lengths below a bound. -/
import Derived.Test.YtckhomeokhhneaaDoorDf
namespace Go.Proofs.YtckhomeokhhneaaDoor
open Go.RowKit Go.PlainAid
set_option linter.unusedSimpArgs false
set_option linter.unusedVariables false

set_option maxHeartbeats 4000000 in
set_option maxRecDepth 100000 in
theorem put_c (a b : Bool) (wd : Nat) (q : Int) (s : ByteArray) (w : World) (hs : s.size ≤ 1000000) (hw : wd < 1000) (hq : -1 ≤ q ∧ q < 1000) :
    Calls Tryd.prog 20 #[.agg #[.bool a, .bool b, .int .i64 wd, .int .i64 q, .int .u8 99], .string s] w fun e w' => e = .returned (.tuple #[.string (mk (padX a b false false wd [] (ls (cutD 1 s)))), .bool true]) ∧ Below w.heap.size w w' := by
  obtain ⟨X, HX⟩ : ∃ X, Hid (padX a b false false wd [] (ls (cutD 1 s)) = X) := ⟨_, Lib.hid rfl⟩
  rw [HX.out]
  have HB0 := Lib.hid ((Below.refl w.heap.size w).alloc (Nat.le_refl _) (.cells (dC a b wd q 99) 45))
  have HD0 : Hid (Bd w.heap.size a b wd q 99 (w.alloc (.cells (dC a b wd q 99) 45))) := Lib.hid (heap_alloc_new _ _)
  have HBs := fun o => Lib.hid ((Below.refl w.heap.size w).alloc (Nat.le_refl _) o)
  have CP : Hid (∀ (t : ByteArray) W, t = cutD 1 s → Calls Tryd.prog 27 #[.agg #[.bool a, .bool b, .int .i64 wd, .int .i64 1, .int .u8 99], .string ⟨#[]⟩, .string t, .bool false] W (GivesT W X)) := Lib.hid fun t W ht => by
    subst ht
    rw [← HX.out, padX_num a b false (decide (1 < 0))]
    refine pad27 a b false wd 1 99 ⟨#[]⟩ _ W (by decide) ?_ hw
    unfold cutD
    split
    · rename_i h; rw [ext_sz _ _ _ (by omega)]; omega
    · exact hs
  by_cases h1 : 1 < s.size
  · have CP1 := Lib.hid fun W => CP.out (s.extract 0 1) W (by unfold cutD; rw [if_pos ⟨by omega, by omega⟩]; rfl)
    have hd2 : decide ((1 : Int) < s.size) = true := decide_eq_true (by omega)
    have hd3 : decide (1 < s.size) = true := decide_eq_true h1
    clear CP HX
    go_enter Tryd.func20, Tryd.ntmps20
    go_wp2_with (go_at_call 27; refine (CP1.out _).mono ?_; rintro e w3 ⟨rfl, b3⟩; have B3 := Lib.hid ((HBs _).out.trans (b3.mono (HBs _).out.size)); clear b3)
    go_ret2
    exact ⟨rfl, B3.out⟩
  · have CP1 := Lib.hid fun W => CP.out s W (by unfold cutD; rw [if_neg (by omega)])
    have hd2 : decide ((1 : Int) < s.size) = false := decide_eq_false (by omega)
    have hd3 : decide (1 < s.size) = false := decide_eq_false h1
    clear CP HX
    go_enter Tryd.func20, Tryd.ntmps20
    go_wp2_with (go_at_call 27; refine (CP1.out _).mono ?_; rintro e w3 ⟨rfl, b3⟩; have B3 := Lib.hid ((HBs _).out.trans (b3.mono (HBs _).out.size)); clear b3)
    go_ret2
    exact ⟨rfl, B3.out⟩
end Go.Proofs.YtckhomeokhhneaaDoor
