/- Contract of ftoa64, at eighths and at nought. -/
import Derived.Test.YtohjpclpeiidfaaDoorS
import Derived.Test.YtohjpclpeiidfaaDoorNg
import Derived.Deep.RegionHeld3
namespace Go.Proofs.YtohjpclpeiidfaaDoor
open Go.RowKit Go.PlainAid
set_option linter.unusedSimpArgs false
set_option linter.unusedVariables false
namespace Fl

@[go_sem] theorem bits35 (a : Nat) (w : World) : (callFunc 35 #[.float .f64 a]).run Tryd.prog w = .ok (.value (.int .u64 a)) w := by
  rw [run_callFunc_extern (e := Extern.MathFloatBits.float64bits) Tryd.func35 (by kernel_rfl) (by kernel_rfl) (by kernel_rfl) (by kernel_rfl)]
  rfl
theorem Dst.below {M : Nat} {l : List UInt8} {w w' : World} (h : Dst M l w) (hb : Below w.heap.size w w') : Dst M l w' := by
  refine ⟨h.1, ?_⟩
  rcases h.2 with h2 | ⟨g, cap, cur, e, h2, h3, h4⟩
  · exact .inl h2
  · exact .inr ⟨g, cap, cur, e, h2, (hb.block _ (lt_of_block h3)).trans h3, h4⟩
def GivesA (M : Nat) (F : List UInt8) (w : World) (e : Ending) (w' : World) : Prop := e = .returned (.slice (some ⟨M, 0, none⟩) F.length 24) ∧ Dst M F w' ∧ Below M w w'

set_option maxHeartbeats 8000000 in
set_option maxRecDepth 100000 in
theorem ftoa29_zero (M : Nat) (l : List UInt8) (neg : Bool) (w : World) (hd : Dst M l w) (hl0 : l.length = 0) :
    Calls Tryd.prog 29 #[.slice (some ⟨M, 0, none⟩) l.length 24, .float .f64 (if neg then 9223372036854775808 else 0), .int .u8 102, .int .i64 3] w (GivesA M (l ++ sgn neg ++ [48, 46, 48, 48, 48]) w) := by
  have hM : M < w.heap.size := hd.lt
  have C : Hid (∀ w, Dst M l w → Calls Tryd.prog 38 #[.slice (some ⟨M, 0, none⟩) l.length 24, .bool neg, .slice none 0 0, .int .i64 0, .int .i64 0, .int .i64 3, .int .u8 102, .bool false] w (GivesF M (l ++ sgn neg ++ [48, 46, 48, 48, 48]) w)) :=
    Lib.hid fun w hd => efg38_small M (M + 1) 0 l [48, 48, 48] neg (.slice none 0 0) w hd hl0 (by omega) (by decide) (by decide) (by intro j h _; match j, h with | 0, _ => rfl | 1, _ => rfl | 2, _ => rfl) (.inl rfl) (by intro j h h2; omega)
  have HD := Lib.hid hd
  have HM := Lib.hid hM
  obtain ⟨F, hF⟩ : ∃ F, l ++ sgn neg ++ [48, 46, 48, 48, 48] = F := ⟨_, rfl⟩
  rw [hF] at C ⊢
  clear hd hl0 hM hF
  have e1 : bits .and .i64 0 2047 = 0 := by decide +kernel
  have e2 : bits .and .i64 2048 2047 = 0 := by decide +kernel
  have e3 : bits .and .u64 0 4503599627370495 = 0 := by decide +kernel
  have e4 : bits .and .u64 9223372036854775808 4503599627370495 = 0 := by decide +kernel
  cases neg
  all_goals
    go_enter Tryd.func29, Tryd.ntmps29
    go_wp2_with fail
    go_region
    go_wp2_with fail
    refine (C.out _ (World.ownsRow.drew HD.out)).mono ?_
    rintro e w1 ⟨rfl, h1, h2⟩
    have H1 := Lib.hid h1
    have H2 : Hid (Below M w w1) := Lib.hid ((Below.refl M w).drew.trans (kp_below h2 (Nat.le_refl M) (by simpa using Nat.le_of_lt HM.out)))
    clear h1 h2
    go_wp2
    go_ret
    exact ⟨rfl, H1.out, H2.out⟩

theorem nd_lt : ∀ (k u : Nat), u < 10 ^ (k + 1) → Lib.nDigits u ≤ k + 1
  | 0, u, h => by rw [Lib.nDigits_small (by simpa using h)]; omega
  | k + 1, u, h => by
    by_cases h1 : u < 10
    · rw [Lib.nDigits_small h1]; omega
    · rw [Lib.nDigits_big h1]
      have := nd_lt k (u / 10) (by rw [Nat.div_lt_iff_lt_mul (by omega), ← Nat.pow_succ]; exact h)
      omega
theorem nd_small (u : Nat) (h : u < 1000000000000000) : Lib.nDigits u ≤ 15 := nd_lt 14 u h
structure Num (n L N : Nat) (neg : Bool) (b c E m0 : Nat) (x e : Int) : Prop where
  pos : 0 < n
  few : n ≤ 1073741824
  mant : m0 + 4503599627370496 = dg n
  c1 : (b : Int) / 4503599627370496 = c
  c2 : bits .and .i64 (c : Int) 2047 = E
  c3 : bits .and .u64 (b : Int) 4503599627370495 = m0
  c4 : bits .or .u64 (m0 : Int) 4503599627370496 = (dg n : Nat)
  c5 : (E : Int) + -1023 = x
  c6 : x - 11 - 52 = e
  c7 : -3 ≤ x ∧ x ≤ 27
  c8 : c < 4096 ∧ 0 < E ∧ E < 2047
  N1 : 0 ≤ x → 1 + l10 (1 + x) + 3 = N
  N2 : x < 0 → 4 - l10 (-x) = N
  N3 : 4 ≤ N ∧ N ≤ 18
  fixed : ∀ w, Env w → Calls Tryd.prog 44 #[.int .u64 ((dg n : Int) * 2048), .int .i64 e, .int .i64 N, .int .i64 3, .int .u8 102] w fun e w' => e = .returned (.tuple #[.int .u64 (125 * n : Nat), .int .i64 (-3)]) ∧ Below w.heap.size w w'
  d1 : dg n < 9007199254740992
  neg : (if neg then (b : Int) / 9223372036854775808 = 1 else (b : Int) / 9223372036854775808 = 0)

set_option maxHeartbeats 8000000 in
set_option maxRecDepth 100000 in
theorem ftoa29_num (M : Nat) (l : List UInt8) (n L N : Nat) (neg : Bool) (b c E m0 : Nat) (x e : Int) (w : World) (hd : Dst M l w) (hl0 : l.length = 0) (he : Env w) (h : Num n L N neg b c E m0 x e) (hlen : Lib.bitLen (dg n) = 53) :
    Calls Tryd.prog 29 #[.slice (some ⟨M, 0, none⟩) l.length 24, .float .f64 b, .int .u8 102, .int .i64 3] w (GivesA M (l ++ sgn neg ++ fin (Lib.decDigits (125 * n))) w) := by
  have hM : M < w.heap.size := hd.lt
  have HD := Lib.hid hd
  have HM := Lib.hid hM
  have HE := Lib.hid he
  have HL0 := Lib.hid hl0
  have HNum := Lib.hid h
  have k0 := h.neg
  have k1 := h.c1
  have k2 := h.c2
  have k3 := h.c3
  have k4 := h.c4
  have k5 := h.c5
  have k6 := h.c6
  have k7 := h.c7
  have k8 := h.c8
  have k9 := h.N3
  have ko := he.opt
  have hu1 : 0 < 125 * n := by have := h.pos; omega
  have hu2 : 125 * n ≤ 134217728000 := by have := h.few; omega
  have cf := h.fixed
  obtain ⟨F, hF⟩ : ∃ F, l ++ sgn neg ++ fin (Lib.decDigits (125 * n)) = F := ⟨_, rfl⟩
  rw [hF]
  generalize 125 * n = u at *
  have HF := Lib.hid hF
  have CF := Lib.hid cf
  have dne : ((u : Int) != 0) = true := by simp; omega
  clear hF cf
  have hm2 : dg n < 9007199254740992 := h.d1
  have hm1 : 4503599627370496 ≤ dg n := by have := h.mant; omega
  have CLen : Hid (∀ w, Calls Tryd.prog 39 #[.int .u64 (dg n)] w fun e w' => e = .returned (.int .i64 53) ∧ w' = w) := Lib.hid fun w => by
    have := Tryd.bits_Len64 (dg n : Int) w (by omega) (by omega)
    rw [Int.toNat_natCast, hlen] at this
    exact this
  clear hd hl0 hM he hlen
  by_cases hx : 0 ≤ x
  · have kN := h.N1 hx
    have CL : Hid (∀ w, Calls Tryd.prog 43 #[.int .i64 (1 + x)] w fun e' w' => e' = .returned (.int .i64 (l10 (1 + x))) ∧ w = w') := Lib.hid fun w => log43 _ (by omega) (by omega) w
    generalize l10 (1 + x) = q at *
    clear h
    have HIF : Hid ((neg = false ∧ (b : Int) / 9223372036854775808 = 0) ∨ (neg = true ∧ (b : Int) / 9223372036854775808 = 1)) := Lib.hid (by cases neg <;> simp_all)
    clear k0
    have CE : Hid (∀ (w3 : World) (z : Nat), Dst M l w3 → z ≤ Lib.nDigits u → (∀ j (h : j < (Lib.decDigits u).length), z ≤ j → (Lib.decDigits u)[j] = 48) → Buf w.heap.size (Lib.decDigits u) w3 →
        Calls Tryd.prog 38 #[.slice (some ⟨M, 0, none⟩) l.length 24, .bool neg, .slice (some ⟨w.heap.size, 0, none⟩) 24 24, .int .i64 ((Lib.nDigits u : Int) + -3), .int .i64 z, .int .i64 3, .int .u8 102, .bool false] w3 (GivesF M F w3)) := Lib.hid (by
      intro w3 z g1 g2 g3 g4
      have e := Lib.decDigits_length u
      have hnd := (nd_le u hu1 (by omega)).2
      have hnd12 : Lib.nDigits u ≤ 15 := nd_small u (by omega)
      rw [← HF.out]
      rw [← e] at g2 hnd12 ⊢
      by_cases h3 : 3 < (Lib.decDigits u).length
      · exact efg38_big M w.heap.size z l (Lib.decDigits u) neg w3 g1 HL0.out (by have := HM.out; omega) h3 hnd12 g2 g3 (fun j h _ => g4 j h)
      · exact efg38_small M w.heap.size z l (Lib.decDigits u) neg _ w3 g1 HL0.out (by have := HM.out; omega) (by omega) g2 g3 (.inr rfl) (fun j h _ => g4 j h))
    rcases HIF.out with ⟨rfl, k0⟩ | ⟨rfl, k0⟩
    all_goals
      clear HIF
      go_enter Tryd.func29, Tryd.ntmps29
      go_wp2_with fail
      go_region
      go_wp2_with (first
        | (go_at_call 43; (with_reducible refine (CL.out _).mono ?_); rintro e w' ⟨rfl, rfl⟩)
        | (go_at_call 39; (with_reducible refine (CLen.out _).mono ?_); rintro e w' ⟨rfl, rfl⟩))
      have hA := (alloc_bel w (.cells Lib.zeros24 66)).drew
      have hz : ((w.alloc (.cells Lib.zeros24 66)).drew).heap[w.heap.size]? = some (.cells Lib.zeros24 66 (0, 0)) := heap_alloc_new w (.cells Lib.zeros24 66)
      have hsz : w.heap.size < (w.alloc (.cells Lib.zeros24 66)).drew.heap.size := lt_of_block hz
      obtain ⟨w1, hw1⟩ : ∃ w1, (w.alloc (.cells Lib.zeros24 66)).drew = w1 := ⟨_, rfl⟩
      rw [hw1] at hA hz hsz
      unfold Lib.zeros24 at hw1
      rw [hw1]
      clear hw1
      have HA := Lib.hid hA
      clear hA
      refine (CF.out w1 (HE.out.below HA.out)).mono ?_
      rintro e2 w2 ⟨rfl, hb⟩
      have HB2 := Lib.hid (HA.out.trans (hb.mono (Nat.le_of_lt hsz)))
      have HZ2 := Lib.hid ((hb.block _ hsz).trans hz)
      clear hb hz hsz
      have CN := Lib.hid fun w (he : Env w) => Tryd.internal_strconv_numDigits u hu1 (by omega) w he.tab
      have CS := Lib.hid fun w' (hD : w'.heap[w.heap.size]? = some (.cells Lib.zeros24 66 (0, 0))) => set41 u w.heap.size 66 w' hu1 (by omega) hD
      have HE2 := Lib.hid (HE.out.below HB2.out)
      have HEd := Lib.hid fun k => HE2.out.below (bel_drew w2 k)
      have HB2d : Hid (Below w.heap.size w w2.drew) := Lib.hid (HB2.out.trans ((bel_drew w2 1).mono HB2.out.size))
      go_wp2_with fail
      go_region_held3 (fun _ => True) (exact trivial) (first
        | (go_at_call 42; refine (CN.out _ (by first | exact HE2.out | exact HEd.out _ | exact HEd.out 1)).mono ?_; rintro e9 w9 ⟨rfl, rfl⟩)
        | (go_at_call 41; refine (CS.out w2.drew HZ2.out).mono ?_; rintro e9 w9 ⟨z, hz, rfl, h48, hbf, hbl⟩))
      have HB3 := Lib.hid (HB2d.out.trans hbl)
      have CE3 := Lib.hid (CE.out _ z (HD.out.below HB3.out) hz h48 hbf)
      clear hz h48 hbf hbl CE
      go_wp2_with fail
      refine CE3.out.mono ?_
      rintro e4 w4 ⟨rfl, g1, g2⟩
      have H1 := Lib.hid g1
      have H2 : Hid (Below M w w4) := Lib.hid ((HB3.out.mono (Nat.le_of_lt HM.out)).trans (kp_below g2 (Nat.le_refl M) (Nat.le_trans (Nat.le_of_lt HM.out) HB3.out.size)))
      clear g1 g2
      go_wp2
      go_ret
      exact ⟨rfl, H1.out, H2.out⟩
  · have kN := h.N2 (by omega)
    have CL : Hid (∀ w, Calls Tryd.prog 43 #[.int .i64 (-x)] w fun e' w' => e' = .returned (.int .i64 (l10 (-x))) ∧ w = w') := Lib.hid fun w => log43 _ (by omega) (by omega) w
    generalize l10 (-x) = q at *
    clear h
    have HIF : Hid ((neg = false ∧ (b : Int) / 9223372036854775808 = 0) ∨ (neg = true ∧ (b : Int) / 9223372036854775808 = 1)) := Lib.hid (by cases neg <;> simp_all)
    clear k0
    have CE : Hid (∀ (w3 : World) (z : Nat), Dst M l w3 → z ≤ Lib.nDigits u → (∀ j (h : j < (Lib.decDigits u).length), z ≤ j → (Lib.decDigits u)[j] = 48) → Buf w.heap.size (Lib.decDigits u) w3 →
        Calls Tryd.prog 38 #[.slice (some ⟨M, 0, none⟩) l.length 24, .bool neg, .slice (some ⟨w.heap.size, 0, none⟩) 24 24, .int .i64 ((Lib.nDigits u : Int) + -3), .int .i64 z, .int .i64 3, .int .u8 102, .bool false] w3 (GivesF M F w3)) := Lib.hid (by
      intro w3 z g1 g2 g3 g4
      have e := Lib.decDigits_length u
      have hnd := (nd_le u hu1 (by omega)).2
      have hnd12 : Lib.nDigits u ≤ 15 := nd_small u (by omega)
      rw [← HF.out]
      rw [← e] at g2 hnd12 ⊢
      by_cases h3 : 3 < (Lib.decDigits u).length
      · exact efg38_big M w.heap.size z l (Lib.decDigits u) neg w3 g1 HL0.out (by have := HM.out; omega) h3 hnd12 g2 g3 (fun j h _ => g4 j h)
      · exact efg38_small M w.heap.size z l (Lib.decDigits u) neg _ w3 g1 HL0.out (by have := HM.out; omega) (by omega) g2 g3 (.inr rfl) (fun j h _ => g4 j h))
    rcases HIF.out with ⟨rfl, k0⟩ | ⟨rfl, k0⟩
    all_goals
      clear HIF
      go_enter Tryd.func29, Tryd.ntmps29
      go_wp2_with fail
      go_region
      go_wp2_with (first
        | (go_at_call 43; (with_reducible refine (CL.out _).mono ?_); rintro e w' ⟨rfl, rfl⟩)
        | (go_at_call 39; (with_reducible refine (CLen.out _).mono ?_); rintro e w' ⟨rfl, rfl⟩))
      have hA := (alloc_bel w (.cells Lib.zeros24 66)).drew
      have hz : ((w.alloc (.cells Lib.zeros24 66)).drew).heap[w.heap.size]? = some (.cells Lib.zeros24 66 (0, 0)) := heap_alloc_new w (.cells Lib.zeros24 66)
      have hsz : w.heap.size < (w.alloc (.cells Lib.zeros24 66)).drew.heap.size := lt_of_block hz
      obtain ⟨w1, hw1⟩ : ∃ w1, (w.alloc (.cells Lib.zeros24 66)).drew = w1 := ⟨_, rfl⟩
      rw [hw1] at hA hz hsz
      unfold Lib.zeros24 at hw1
      rw [hw1]
      clear hw1
      have HA := Lib.hid hA
      clear hA
      refine (CF.out w1 (HE.out.below HA.out)).mono ?_
      rintro e2 w2 ⟨rfl, hb⟩
      have HB2 := Lib.hid (HA.out.trans (hb.mono (Nat.le_of_lt hsz)))
      have HZ2 := Lib.hid ((hb.block _ hsz).trans hz)
      clear hb hz hsz
      have CN := Lib.hid fun w (he : Env w) => Tryd.internal_strconv_numDigits u hu1 (by omega) w he.tab
      have CS := Lib.hid fun w' (hD : w'.heap[w.heap.size]? = some (.cells Lib.zeros24 66 (0, 0))) => set41 u w.heap.size 66 w' hu1 (by omega) hD
      have HE2 := Lib.hid (HE.out.below HB2.out)
      have HEd := Lib.hid fun k => HE2.out.below (bel_drew w2 k)
      have HB2d : Hid (Below w.heap.size w w2.drew) := Lib.hid (HB2.out.trans ((bel_drew w2 1).mono HB2.out.size))
      go_wp2_with fail
      go_region_held3 (fun _ => True) (exact trivial) (first
        | (go_at_call 42; refine (CN.out _ (by first | exact HE2.out | exact HEd.out _ | exact HEd.out 1)).mono ?_; rintro e9 w9 ⟨rfl, rfl⟩)
        | (go_at_call 41; refine (CS.out w2.drew HZ2.out).mono ?_; rintro e9 w9 ⟨z, hz, rfl, h48, hbf, hbl⟩))
      have HB3 := Lib.hid (HB2d.out.trans hbl)
      have CE3 := Lib.hid (CE.out _ z (HD.out.below HB3.out) hz h48 hbf)
      clear hz h48 hbf hbl CE
      go_wp2_with fail
      refine CE3.out.mono ?_
      rintro e4 w4 ⟨rfl, g1, g2⟩
      have H1 := Lib.hid g1
      have H2 : Hid (Below M w w4) := Lib.hid ((HB3.out.mono (Nat.le_of_lt HM.out)).trans (kp_below g2 (Nat.le_refl M) (Nat.le_trans (Nat.le_of_lt HM.out) HB3.out.size)))
      clear g1 g2
      go_wp2
      go_ret
      exact ⟨rfl, H1.out, H2.out⟩
end Fl
end Go.Proofs.YtohjpclpeiidfaaDoor
