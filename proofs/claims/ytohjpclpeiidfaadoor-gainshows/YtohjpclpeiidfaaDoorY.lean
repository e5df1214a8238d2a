/- The law's own text of thousandths. -/
import Derived.Test.YtohjpclpeiidfaaDoorX
import Derived.Deep.RegionHeld3
import Derived.Deep.RegionWith
namespace Go.Proofs.YtohjpclpeiidfaaDoor
open Go.RowKit Go.PlainAid
set_option linter.unusedSimpArgs false
set_option linter.unusedVariables false
namespace Fl

theorem dd_big (u : Nat) (h : 10 ≤ u) : Lib.decDigits u = Lib.decDigits (u / 10) ++ [UInt8.ofNat (48 + u % 10)] := by rw [Lib.decDigits, dif_neg (by omega)]
theorem dd_one (u : Nat) (h : u < 10) : Lib.decDigits u = [UInt8.ofNat (48 + u)] := Lib.decDigits_one h
def wt (u : Nat) : List UInt8 := Lib.decDigits (u / 1000) ++ [46] ++ [UInt8.ofNat (48 + u / 100 % 10), UInt8.ofNat (48 + u / 10 % 10), UInt8.ofNat (48 + u % 10)]
theorem fin_is (u : Nat) : fin (Lib.decDigits u) = wt u := by
  unfold wt
  by_cases h1 : u < 10
  · rw [dd_one u h1, dd_one (u / 1000) (by omega), show u / 1000 = 0 by omega, show u / 100 % 10 = 0 by omega, show u / 10 % 10 = 0 by omega, show u % 10 = u by omega]
    rfl
  · by_cases h2 : u < 100
    · rw [dd_big u (by omega), dd_one (u / 10) (by omega), dd_one (u / 1000) (by omega), show u / 1000 = 0 by omega, show u / 100 % 10 = 0 by omega, show u / 10 % 10 = u / 10 by omega]
      rfl
    · by_cases h3 : u < 1000
      · rw [dd_big u (by omega), dd_big (u / 10) (by omega), dd_one (u / 10 / 10) (by omega), dd_one (u / 1000) (by omega), show u / 1000 = 0 by omega, show u / 10 / 10 = u / 100 by omega, show u / 100 % 10 = u / 100 by omega]
        rfl
      · rw [dd_big u (by omega), dd_big (u / 10) (by omega), dd_big (u / 10 / 10) (by omega), show u / 10 / 10 / 10 = u / 1000 by omega, show u / 10 / 10 = u / 100 by omega]
        have hl : 1 ≤ (Lib.decDigits (u / 1000)).length := by rw [Lib.decDigits_length]; exact Lib.nDigits_pos _
        generalize Lib.decDigits (u / 1000) = p at *
        unfold fin
        rw [if_pos (by simp; omega)]
        have e : (p ++ [UInt8.ofNat (48 + u / 100 % 10)] ++ [UInt8.ofNat (48 + u / 10 % 10)] ++ [UInt8.ofNat (48 + u % 10)]).length - 3 = p.length := by simp
        rw [e]
        simp
theorem cell_three (W : World) (x y z : Int) (j : Nat) (hj : j < 3) : (W.alloc (.cells #[.int .u8 x, .int .u8 y, .int .u8 z] 5)).cell? ((⟨W.heap.size, 0, none⟩ : Addr).add j) = some (#[Value.int .u8 x, .int .u8 y, .int .u8 z].getD j (.bool false)) := by
  rw [Lib.add_plain, World.cell?_alloc_new]
  match j, hj with
  | 0, _ => rfl
  | 1, _ => rfl
  | 2, _ => rfl
theorem conv_at (W : World) (B : Nat) (x y z : Int) (a b c : UInt8) (hx : x = (a.toNat : Int)) (hy : y = (b.toNat : Int)) (hz : z = (c.toNat : Int))
    (h : ∀ j, j < 3 → W.cell? ((⟨B, 0, none⟩ : Addr).add j) = some (#[Value.int .u8 x, .int .u8 y, .int .u8 z].getD j (.bool false))) :
    (convert 36 9 (.slice (some ⟨B, 0, none⟩) 3 3)).run Tryd.prog W = .ok (.string (mk [a, b, c])) W := by
  refine run_convert_bytes_back (P := Tryd.prog) W 36 9 5 ⟨B, 0, none⟩ 3 [a, b, c] Tryd.underlying36 Tryd.underlying5 Tryd.underlying9 (fun j hj => ?_)
  have hj3 : j < 3 := hj
  rw [h j hj3]
  match j, hj3 with
  | 0, _ => rw [hx]; rfl
  | 1, _ => rw [hy]; rfl
  | 2, _ => rw [hz]; rfl
theorem bel1 {w w9 : World} {o : Obj} (h : Below w.drew.heap.size w.drew w9) : Below w.heap.size w (w9.alloc o) := ((bel_drew w 1).trans h).alloc (by simpa using h.size) o
theorem bel2 {w w9 : World} {o : Obj} (h : Below (w.alloc o).drew.heap.size (w.alloc o).drew w9) : Below w.heap.size w w9 := ((alloc_bel w o).drew).trans (h.mono (by simp))
theorem app3 (p t : List UInt8) : mk p ++ mk [46] ++ mk t = mk (p ++ [46] ++ t) := by rw [mk_app, mk_app]

set_option maxHeartbeats 16000000 in
set_option maxRecDepth 100000 in
theorem whole7 (u : Nat) (hu : u ≤ 1000000000000) (neg : Bool) (w : World) : Calls Tryd.prog 7 #[.int .i64 u, .bool neg] w fun e w' => e = .returned (.string (mk (sgn neg ++ wt u))) ∧ Below w.heap.size w w' := by
  have CD := Lib.hid fun w => digits13 (u / 1000) (by omega) w
  rw [show ((u / 1000 : Nat) : Int) = (u : Int) / 1000 by omega] at CD
  obtain ⟨T, hT⟩ : ∃ T, mk [UInt8.ofNat (48 + u / 100 % 10), UInt8.ofNat (48 + u / 10 % 10), UInt8.ofNat (48 + u % 10)] = T := ⟨_, rfl⟩
  have e1 : (48 : Int) + (u : Int) / 100 % 10 = ((UInt8.ofNat (48 + u / 100 % 10)).toNat : Int) := by rw [UInt8.toNat_ofNat']; omega
  have e2 : (48 : Int) + (u : Int) / 10 % 10 = ((UInt8.ofNat (48 + u / 10 % 10)).toNat : Int) := by rw [UInt8.toNat_ofNat']; omega
  have e3 : (48 : Int) + (u : Int) % 10 = ((UInt8.ofNat (48 + u % 10)).toNat : Int) := by rw [UInt8.toNat_ofNat']; omega
  have CV : ∀ W : World, (convert 36 9 (.slice (some ⟨W.heap.size, 0, none⟩) 3 3)).run Tryd.prog (W.alloc (.cells #[.int .u8 (48 + (u : Int) / 100 % 10), .int .u8 (48 + (u : Int) / 10 % 10), .int .u8 (48 + (u : Int) % 10)] 5)) = .ok (.string T) (W.alloc (.cells #[.int .u8 (48 + (u : Int) / 100 % 10), .int .u8 (48 + (u : Int) / 10 % 10), .int .u8 (48 + (u : Int) % 10)] 5)) := fun W => by
    rw [← hT]; exact conv_at _ _ _ _ _ _ _ _ e1 e2 e3 (fun j hj => cell_three W _ _ _ j hj)
  have CK : Hid (∀ (W w9 : World), Below (W.alloc (.cells #[.int .u8 (48 + (u : Int) / 100 % 10), .int .u8 (48 + (u : Int) / 10 % 10), .int .u8 (48 + (u : Int) % 10)] 5)).drew.heap.size (W.alloc (.cells #[.int .u8 (48 + (u : Int) / 100 % 10), .int .u8 (48 + (u : Int) / 10 % 10), .int .u8 (48 + (u : Int) % 10)] 5)).drew w9 →
      (convert 36 9 (.slice (some ⟨W.heap.size, 0, none⟩) 3 3)).run Tryd.prog w9 = .ok (.string T) w9) := Lib.hid fun W w9 hb => by
    rw [← hT]; exact conv_at _ _ _ _ _ _ _ _ e1 e2 e3 (fun j hj => cell_kept (w := (W.alloc (.cells #[.int .u8 (48 + (u : Int) / 100 % 10), .int .u8 (48 + (u : Int) / 10 % 10), .int .u8 (48 + (u : Int) % 10)] 5)).drew) (cell_three W _ _ _ j hj) hb)
  have k0 : (convert 36 9 (.slice (some ⟨w.heap.size, 0, none⟩) 3 3)).run Tryd.prog (w.alloc (.cells #[.int .u8 (48 + (u : Int) / 100 % 10), .int .u8 (48 + (u : Int) / 10 % 10), .int .u8 (48 + (u : Int) % 10)] 5)).drew = .ok (.string T) (w.alloc (.cells #[.int .u8 (48 + (u : Int) / 100 % 10), .int .u8 (48 + (u : Int) / 10 % 10), .int .u8 (48 + (u : Int) % 10)] 5)).drew := CK.out w _ (Below.refl _ _)
  have HT := Lib.hid hT
  have hds : (dd (u / 1000)).size ≤ 20 := by unfold dd; rw [mk_size, Lib.decDigits_length]; exact nd_lt 19 _ (by omega)
  have hTs : T.size = 3 := by rw [← hT, mk_size]; rfl
  have HW : Hid (dd (u / 1000) ++ ⟨#[46]⟩ ++ T = mk (wt u)) := Lib.hid (by rw [← hT]; exact app3 _ _)
  generalize dd (u / 1000) = Dt at *
  clear hT e1 e2 e3
  have W : ∀ x : Int, 0 ≤ x → x ≤ 1000000000048 → IntKind.i64.wrap x = x := fun x h1 h2 => by rw [IntKind.wrap_i64]; omega
  have a1 := W ((u : Int) / 1000) (by omega) (by omega)
  have a1' : IntKind.u64.wrap ((u : Int) / 1000) = (u : Int) / 1000 := by
    rw [show IntKind.u64.wrap ((u : Int) / 1000) = ((u : Int) / 1000) % 18446744073709551616 by simp [IntKind.wrap, IntKind.bits, IntKind.signed], Int.emod_eq_of_lt (by omega) (by omega)]
  have a2 := W ((u : Int) / 100) (by omega) (by omega)
  have a3 := W ((u : Int) / 100 % 10) (by omega) (by omega)
  have a4 := W (48 + (u : Int) / 100 % 10) (by omega) (by omega)
  have a5 : IntKind.u8.wrap (48 + (u : Int) / 100 % 10) = 48 + (u : Int) / 100 % 10 := by rw [IntKind.wrap_u8']; omega
  have b2 := W ((u : Int) / 10) (by omega) (by omega)
  have b3 := W ((u : Int) / 10 % 10) (by omega) (by omega)
  have b4 := W (48 + (u : Int) / 10 % 10) (by omega) (by omega)
  have b5 : IntKind.u8.wrap (48 + (u : Int) / 10 % 10) = 48 + (u : Int) / 10 % 10 := by rw [IntKind.wrap_u8']; omega
  have c3 := W ((u : Int) % 10) (by omega) (by omega)
  have c4 := W (48 + (u : Int) % 10) (by omega) (by omega)
  have c5 : IntKind.u8.wrap (48 + (u : Int) % 10) = 48 + (u : Int) % 10 := by rw [IntKind.wrap_u8']; omega
  have r1 : ((u : Int) / 100).tmod 10 = (u : Int) / 100 % 10 := Int.tmod_eq_emod_of_nonneg (by omega)
  have r2 : ((u : Int) / 10).tmod 10 = (u : Int) / 10 % 10 := Int.tmod_eq_emod_of_nonneg (by omega)
  have r3 : (u : Int).tmod 10 = (u : Int) % 10 := Int.tmod_eq_emod_of_nonneg (by omega)
  have HCV := Lib.hid CV
  clear W CV
  go_enter Tryd.func7, Tryd.ntmps7
  go_wp2_with fail
  go_region_with (first
    | (go_at_call 13; refine (CD.out _).mono ?_; rintro e9 w9 ⟨rfl, hb9⟩; have hk9 := CK.out w w9 hb9)
    | (go_at_call 13; refine (CD.out _).mono ?_; rintro e9 w9 ⟨rfl, hb9⟩; have hk9 := HCV.out w9))
  all_goals
    first
    | (cases neg
       · go_wp2_with fail
         go_ret
         refine ⟨?_, by first | exact bel1 hb9 | exact bel2 hb9 | exact (bel1 hb9).drew | exact (bel2 hb9).drew⟩
         refine congrArg (fun x => Ending.returned (Value.string x)) ?_
         exact HW.out
       · go_wp2_with fail
         go_ret
         refine ⟨?_, by first | exact bel1 hb9 | exact bel2 hb9 | exact (bel1 hb9).drew | exact (bel2 hb9).drew⟩
         refine congrArg (fun x => Ending.returned (Value.string x)) ?_
         show (⟨#[45]⟩ : ByteArray) ++ (Dt ++ ⟨#[46]⟩ ++ T) = _
         rw [HW.out]
         exact mk_app [45] _)
    | skip
  trace_state
end Fl
end Go.Proofs.YtohjpclpeiidfaaDoor
