/- The document's put, whole. Conditions: lengths below a bound. -/
import Derived.Test.YtckhomeokhhneaaDoorDe
namespace Go.Proofs.YtckhomeokhhneaaDoor
open Go.RowKit Go.PlainAid
set_option linter.unusedSimpArgs false
set_option linter.unusedVariables false

theorem padX_num (l z q q' : Bool) (n : Nat) (h s : List UInt8) : padX l z q false n h s = padX l z q' false n h s := by
  unfold padX
  rw [show (z && false && q) = (z && false && q') by cases z <;> rfl]
def cutD (q : Int) (s : ByteArray) : ByteArray := if 0 ≤ q ∧ q < s.size then s.extract 0 q.toNat else s
theorem cutD_is (p : Pl) (s : ByteArray) : ls (cutD (dgI p.prec) s) = cutL p (ls s) := by
  unfold cutD cutL
  cases hp : p.prec with
  | none => rw [if_neg (by show ¬ (0 ≤ (-1 : Int) ∧ _); omega)]
  | some v =>
    have e : dgI (some v) = (v : Int) := rfl
    rw [e]
    simp only
    by_cases h : v < s.size
    · rw [if_pos ⟨by omega, by omega⟩, Int.toNat_natCast, ls_take]
    · rw [if_neg (by omega)]
      exact (List.take_of_length_le (by rw [ls_len]; omega)).symm

set_option maxHeartbeats 4000000 in
set_option maxRecDepth 100000 in
theorem put_s (a b : Bool) (wd : Nat) (q : Int) (s : ByteArray) (w : World) (hs : s.size ≤ 1000000) (hw : wd < 1000) (hq : -1 ≤ q ∧ q < 1000) :
    Calls Tryd.prog 20 #[.agg #[.bool a, .bool b, .int .i64 wd, .int .i64 q, .int .u8 115], .string s] w fun e w' => e = .returned (.tuple #[.string (mk (padX a b false false wd [] (ls (cutD q s)))), .bool true]) ∧ Below w.heap.size w w' := by
  obtain ⟨X, HX⟩ : ∃ X, Hid (padX a b false false wd [] (ls (cutD q s)) = X) := ⟨_, Lib.hid rfl⟩
  rw [HX.out]
  have HB0 := Lib.hid ((Below.refl w.heap.size w).alloc (Nat.le_refl _) (.cells (dC a b wd q 115) 45))
  have HD0 : Hid (Bd w.heap.size a b wd q 115 (w.alloc (.cells (dC a b wd q 115) 45))) := Lib.hid (heap_alloc_new _ _)
  have CP : Hid (∀ (t : ByteArray) W, t = cutD q s → Calls Tryd.prog 27 #[.agg #[.bool a, .bool b, .int .i64 wd, .int .i64 q, .int .u8 115], .string ⟨#[]⟩, .string t, .bool false] W (GivesT W X)) := Lib.hid fun t W ht => by
    subst ht
    rw [← HX.out, padX_num a b false (decide (q < 0))]
    refine pad27 a b false wd q 115 ⟨#[]⟩ _ W (by decide) ?_ hw
    unfold cutD
    split
    · rename_i h; rw [ext_sz _ _ _ (by omega)]; omega
    · exact hs
  by_cases h0 : 0 ≤ q ∧ q < (s).size
  · obtain ⟨m, hm⟩ : ∃ m : Nat, q = m := ⟨(q).toNat, by omega⟩
    have CP1 := Lib.hid fun W => CP.out ((s).extract 0 m) W (by unfold cutD; rw [if_pos h0, hm, Int.toNat_natCast])
    have hmU : m ≤ (s).size := by omega
    subst hm
    have hd1 : decide (0 ≤ (m : Int)) = true := decide_eq_true (by omega)
    have hd2 : decide ((m : Int) < (s).size) = true := decide_eq_true (by omega)
    have hd3 : decide (m < (s).size) = true := decide_eq_true (by omega)
    clear CP h0 HX
    go_enter Tryd.func20, Tryd.ntmps20
    go_wp2_with (go_at_call 27; refine (CP1.out _).mono ?_; rintro e w3 ⟨rfl, b3⟩; have B3 := Lib.hid (HB0.out.trans (b3.mono HB0.out.size)); clear b3)
    go_ret2
    exact ⟨rfl, B3.out⟩
  · have CP1 := Lib.hid fun W => CP.out (s) W (by unfold cutD; rw [if_neg h0])
    by_cases h1 : 0 ≤ q
    · have hd1 : decide (0 ≤ q) = true := decide_eq_true h1
      have hd2 : decide (q < (s).size) = false := decide_eq_false (by omega)
      clear CP h0 HX
      go_enter Tryd.func20, Tryd.ntmps20
      go_wp2_with (go_at_call 27; refine (CP1.out _).mono ?_; rintro e w3 ⟨rfl, b3⟩; have B3 := Lib.hid (HB0.out.trans (b3.mono HB0.out.size)); clear b3)
      go_ret2
      exact ⟨rfl, B3.out⟩
    · have hd1 : decide (0 ≤ q) = false := decide_eq_false h1
      clear CP h0 HX
      go_enter Tryd.func20, Tryd.ntmps20
      go_wp2_with (go_at_call 27; refine (CP1.out _).mono ?_; rintro e w3 ⟨rfl, b3⟩; have B3 := Lib.hid (HB0.out.trans (b3.mono HB0.out.size)); clear b3)
      go_ret2
      exact ⟨rfl, B3.out⟩

set_option maxHeartbeats 4000000 in
set_option maxRecDepth 100000 in
theorem put_b (a b : Bool) (wd : Nat) (q : Int) (s : ByteArray) (w : World) (hs : s.size ≤ 1000000) (hw : wd < 1000) (hq : -1 ≤ q ∧ q < 1000) :
    Calls Tryd.prog 20 #[.agg #[.bool a, .bool b, .int .i64 wd, .int .i64 q, .int .u8 98], .string s] w fun e w' => e = .returned (.tuple #[.string (mk (padX a b false false wd [] (ls (cutD q (mk (une (ls s))))))), .bool true]) ∧ Below w.heap.size w w' := by
  obtain ⟨X, HX⟩ : ∃ X, Hid (padX a b false false wd [] (ls (cutD q (mk (une (ls s))))) = X) := ⟨_, Lib.hid rfl⟩
  rw [HX.out]
  have HB0 := Lib.hid ((Below.refl w.heap.size w).alloc (Nat.le_refl _) (.cells (dC a b wd q 98) 45))
  have HD0 : Hid (Bd w.heap.size a b wd q 98 (w.alloc (.cells (dC a b wd q 98) 45))) := Lib.hid (heap_alloc_new _ _)
  obtain ⟨U, HU⟩ : ∃ U, Hid (mk (une (ls s)) = U) := ⟨_, Lib.hid rfl⟩
  rw [HU.out] at HX
  have hUs : U.size ≤ 1000000 := by rw [← HU.out, mk_size]; have := une_len (ls s); rw [ls_len] at this; omega
  have CU : Hid (∀ W, Calls Tryd.prog 13 #[.string s] W fun e w' => e = .returned (.string U) ∧ Below W.heap.size W w') := Lib.hid fun W => by rw [← HU.out]; exact unescape13 s W hs
  have CP : Hid (∀ (t : ByteArray) W, t = cutD q U → Calls Tryd.prog 27 #[.agg #[.bool a, .bool b, .int .i64 wd, .int .i64 q, .int .u8 98], .string ⟨#[]⟩, .string t, .bool false] W (GivesT W X)) := Lib.hid fun t W ht => by
    subst ht
    rw [← HX.out, padX_num a b false (decide (q < 0))]
    refine pad27 a b false wd q 98 ⟨#[]⟩ _ W (by decide) ?_ hw
    unfold cutD
    split
    · rename_i h; rw [ext_sz _ _ _ (by omega)]; omega
    · exact hUs
  by_cases h0 : 0 ≤ q ∧ q < U.size
  · obtain ⟨m, hm⟩ : ∃ m : Nat, q = m := ⟨(q).toNat, by omega⟩
    have CP1 := Lib.hid fun W => CP.out (U.extract 0 m) W (by unfold cutD; rw [if_pos h0, hm, Int.toNat_natCast])
    have hmU : m ≤ U.size := by omega
    subst hm
    have hd1 : decide (0 ≤ (m : Int)) = true := decide_eq_true (by omega)
    have hd2 : decide ((m : Int) < U.size) = true := decide_eq_true (by omega)
    have hd3 : decide (m < U.size) = true := decide_eq_true (by omega)
    clear CP h0 HX
    go_enter Tryd.func20, Tryd.ntmps20
    go_upto_region 4 with (go_at_call 13; refine (CU.out _).mono ?_; rintro e w1 ⟨rfl, b1⟩; have B1 := Lib.hid (HB0.out.trans (b1.mono HB0.out.size)); have D1 := Lib.hid (HD0.out.below b1); clear b1)
    obtain ⟨k0, k1, k2, k3, k4⟩ := D1.out.five
    clear D1 HD0
    go_wp2_with (go_at_call 27; refine (CP1.out _).mono ?_; rintro e w3 ⟨rfl, b3⟩; have B3 := Lib.hid (B1.out.trans (b3.mono B1.out.size)); clear b3)
    go_ret2
    exact ⟨rfl, B3.out⟩
  · have CP1 := Lib.hid fun W => CP.out U W (by unfold cutD; rw [if_neg h0])
    by_cases h1 : 0 ≤ q
    · have hd1 : decide (0 ≤ q) = true := decide_eq_true h1
      have hd2 : decide (q < U.size) = false := decide_eq_false (by omega)
      clear CP h0 HX
      go_enter Tryd.func20, Tryd.ntmps20
      go_upto_region 4 with (go_at_call 13; refine (CU.out _).mono ?_; rintro e w1 ⟨rfl, b1⟩; have B1 := Lib.hid (HB0.out.trans (b1.mono HB0.out.size)); have D1 := Lib.hid (HD0.out.below b1); clear b1)
      obtain ⟨k0, k1, k2, k3, k4⟩ := D1.out.five
      clear D1 HD0
      go_wp2_with (go_at_call 27; refine (CP1.out _).mono ?_; rintro e w3 ⟨rfl, b3⟩; have B3 := Lib.hid (B1.out.trans (b3.mono B1.out.size)); clear b3)
      go_ret2
      exact ⟨rfl, B3.out⟩
    · have hd1 : decide (0 ≤ q) = false := decide_eq_false h1
      clear CP h0 HX
      go_enter Tryd.func20, Tryd.ntmps20
      go_upto_region 4 with (go_at_call 13; refine (CU.out _).mono ?_; rintro e w1 ⟨rfl, b1⟩; have B1 := Lib.hid (HB0.out.trans (b1.mono HB0.out.size)); have D1 := Lib.hid (HD0.out.below b1); clear b1)
      obtain ⟨k0, k1, k2, k3, k4⟩ := D1.out.five
      clear D1 HD0
      go_wp2_with (go_at_call 27; refine (CP1.out _).mono ?_; rintro e w3 ⟨rfl, b3⟩; have B3 := Lib.hid (B1.out.trans (b3.mono B1.out.size)); clear b3)
      go_ret2
      exact ⟨rfl, B3.out⟩
end Go.Proofs.YtckhomeokhhneaaDoor
