/- TagBursts, walked. Conditions: the library's own variable holds some number. -/
import Derived.Test.YtabnhdbhccbebaaL
import Derived.Test.YtabnhdbhccbebaaK
namespace Go.Proofs.Ytabnhdbhccbebaa
open Go.RowKit Go.PlainAid
set_option linter.unusedSimpArgs false
set_option linter.unusedVariables false

def Rel4 (l : List UInt8) (g cap n a f : Nat) (w : World) (i : Value) (wx : World) : Prop := ∃ (k : Nat) (m : List UInt8), k ≤ 32 ∧ i = .int .i64 k ∧ Hid (Turned l m a f k) ∧ Hid (OB w.heap.size (.slice (some ⟨g, 0, none⟩) n cap) m wx) ∧ Hid (Below w.heap.size w wx)
theorem one_strs (w : World) (s : ByteArray) : Strs (w.alloc (.cells #[.string s] 9)) (.slice (some ⟨w.heap.size, 0, none⟩) 1 1) [s] := by
  refine .inr ⟨w.heap.size, 0, 1, rfl, Nat.le_refl _, ?_⟩
  intro i x hi
  match i, hi with
  | 0, hi =>
    simp at hi
    subst hi
    rw [alloc_cell]; rfl
theorem few_one (s : ByteArray) (h : s.size ≤ 2000) : Few [s] := ⟨by simp, fun x hx => by
  obtain rfl := List.mem_singleton.1 hx
  exact h⟩
set_option maxHeartbeats 8000000 in
set_option maxRecDepth 100000 in
theorem bursts4 (s : ByteArray) (at_ fs : Int) (hs : s.size ≤ 140737488351232) (ha0 : -9223372036854775808 ≤ at_) (ha1 : at_ ≤ 9223372036854775807) (hf0 : 0 ≤ fs) (hf1 : fs ≤ 4294967295) (w : World) (he : Env w) : Calls Try.prog 4 #[.string s, .int .i64 at_, .int .u32 fs] w fun e w' => e = .returned (.bool true) ∧ Below w.heap.size w w' := by
  have C := Lib.hid (anchor6 w)
  have HE := Lib.hid he
  clear he
  have hpos := HE.out.pos
  by_cases h1 : 2000 < s.size
  · go_enter Try.func4, Try.ntmps4
    go_wp2_with fail
    refine C.out.mono ?_
    rintro e w1 ⟨rfl, b1⟩
    have B1 := Lib.hid b1
    clear b1 C
    go_wp2
    go_ret
    exact ⟨rfl, B1.out⟩
  by_cases h2 : at_ < 0
  · go_enter Try.func4, Try.ntmps4
    go_wp2_with fail
    refine C.out.mono ?_
    rintro e w1 ⟨rfl, b1⟩
    have B1 := Lib.hid b1
    clear b1 C
    go_wp2
    go_ret
    exact ⟨rfl, B1.out⟩
  by_cases h3 : 8 * (s.size : Int) - 32 < at_
  · go_enter Try.func4, Try.ntmps4
    go_wp2_with fail
    refine C.out.mono ?_
    rintro e w1 ⟨rfl, b1⟩
    have B1 := Lib.hid b1
    clear b1 C
    go_wp2
    go_ret
    exact ⟨rfl, B1.out⟩
  obtain ⟨a, rfl⟩ : ∃ a : Nat, at_ = a := ⟨at_.toNat, by omega⟩
  obtain ⟨f, rfl⟩ : ∃ f : Nat, fs = f := ⟨fs.toNat, by omega⟩
  have han : a + 32 ≤ 8 * s.size := by omega
  have hf : f < 4294967296 := by omega
  have hs2 : s.size ≤ 2000 := by omega
  have hl0 := Lib.hid (ls_len s)
  have hd1 : decide ((2000 : Int) < (s.size : Int)) = false := decide_eq_false (by omega)
  have hd2 : decide ((a : Int) < 0) = false := decide_eq_false (by omega)
  have hd3 : decide (8 * (s.size : Int) - 32 < (a : Int)) = false := decide_eq_false h3
  clear ha0 ha1 hf0 hf1 h1 h2 h3
  go_enter Try.func4, Try.ntmps4
  go_wp2_with fail
  refine C.out.mono ?_
  rintro e w1 ⟨rfl, b1⟩
  have B1 := Lib.hid b1
  have HE1 := Lib.hid (HE.out.on b1)
  have b1a := (Below.refl w1.heap.size w1).alloc (Nat.le_refl _) (.cells #[.string s] 9)
  have HE2 := Lib.hid (HE1.out.on b1a)
  have B2 := Lib.hid (B1.out.trans (b1a.mono B1.out.size))
  have C8 := Lib.hid (first8 0 _ [s] _ HE2.out (one_strs w1 s) (few_one s hs2))
  clear b1 C b1a HE
  go_wp2_with fail
  refine C8.out.mono ?_
  rintro e w2 ⟨o, ho, rfl, b2⟩
  obtain ⟨n, rfl, _, hn, htn⟩ := first_near ho (few_one s hs2).heads (by simp)
  have hn6 : n ≤ 60000 := by simpa using hn
  have hn13 : n < 11881376 := by omega
  have HIN := Lib.hid (tk_in [s] n s (by simp) htn hn13)
  have HB2 := Lib.hid (B2.out.trans (b2.mono B2.out.size))
  have CO := Lib.hid (of12 n hn13)
  have CI1 := Lib.hid (in14 s (mk (tagL n)) (by omega) (by rw [mk_size, tag_len]; omega) (by rw [mk_size, tag_len]; omega))
  rw [ls_mk, tag_not HIN.out.1] at CI1
  have hTs : (mk (tagL n)).size = 22 := by rw [mk_size, tag_len]
  have HCT : Hid (∀ m : List UInt8, Turned (ls s) m a f 32 → ∀ W, Calls Try.prog 14 #[.string (mk m), .string (mk (tagL n))] W fun e w' => e = .returned (.bool false) ∧ W = w') := Lib.hid fun m hm W => by
    have hml : (mk m).size ≤ 1000000 := by rw [mk_size, hm.1, ls_len]; omega
    have := in14 (mk m) (mk (tagL n)) hml (by omega) (by omega) W
    rw [ls_mk, ls_mk, turned_tag hm HIN.out.1 HIN.out.2] at this
    exact this
  generalize mk (tagL n) = T at CO CI1 HCT
  have hmk := run_made s w2
  have hOB := made_ob w2 s (by unfold maxLen; omega)
  have HB0 := Lib.hid (HB2.out.trans ((made_below w2 s).mono HB2.out.size))
  generalize made w2 s = w3 at hmk hOB HB0
  generalize grownCap w2 s.size 0 5 = cap at hmk hOB
  have hOB2 := hOB.mono HB2.out.size
  have hgB : w.heap.size ≤ w2.heap.size := HB2.out.size
  generalize w2.heap.size = g at hmk hOB2 hgB
  have HO0 := Lib.hid hOB2
  clear hOB hOB2 hn htn ho b2 C8 HE1 HE2 B1 B2 hTs HB2
  unfold fiV
  go_wp2
  clear hmk
  go_loopw [36] (Rel4 (ls s) g cap s.size a f w) (fun i _ => 32 - (intOf i).toNat)
  case atStart => exact ⟨0, ls s, by omega, rfl, Lib.hid (turned_zero _ _ _), HO0, HB0⟩
  case round =>
    clear HO0 HB0
    obtain ⟨k, m, hk, rfl, HT, HR, HB⟩ := hrel
    rename World => wx
    by_cases hlt : k < 32
    · cases ht : f.testBit k
      · have hd := (t4 f k hf).trans ht
        have HT2 := Lib.hid (turned_no HT.out ht)
        clear ht
        go_wp2
        go_roundw
        case rel => exact ⟨k + 1, m, by omega, by go_num, HT2, HR, HB⟩
        case measure => simp [intOf]; omega
      · have hd := (t4 f k hf).trans ht
        have hml : m.length = s.size := by rw [HT.out.1]; exact hl0.out
        have HT2 := Lib.hid (turned_yes HT.out ht (by rw [hl0.out]; omega))
        have hq : (a + k) / 8 < s.size := by omega
        have hR2 : OB w.heap.size (.slice (some ⟨g, 0, none⟩) m.length cap) m wx := by rw [hml]; exact HR.out
        have hc := hR2.cell0 ((a + k) / 8) (by omega)
        have hfr := hR2.fr ((a + k) / 8) (by omega)
        have HS := Lib.hid (set4 (q := a + k) (r := (a + k) % 8) HR.out hml.symm rfl)
        have HB3 := Lib.hid (HB.out.setCell (p := ⟨g, (a + k) / 8, none⟩) hgB (.int .u8 (bits .xor .u8 (at0 m ((a + k) / 8) : Int) (128 / 2 ^ ((a + k) % 8)))))
        have hat := at0_lt m ((a + k) / 8)
        generalize at0 m ((a + k) / 8) = b0 at hc HS HB3 hat
        clear ht hml hR2
        go_wp2
        go_roundw
        case rel => exact ⟨k + 1, fl m (a + k), by omega, by go_num, HT2, HS, HB3⟩
        case measure => simp [intOf]; omega
    · obtain rfl : k = 32 := by omega
      have hml : m.length = s.size := by rw [HT.out.1]; exact hl0.out
      have CIT := Lib.hid (HCT.out m HT.out)
      have HV : Hid (∀ W, OB w.heap.size (.slice (some ⟨g, 0, none⟩) s.size cap) m W → (convert 35 9 (.slice (some ⟨g, 0, none⟩) s.size cap)).run Try.prog W = .ok (.string (mk m)) W) := Lib.hid fun W h => h.back
      have HVx := Lib.hid (HV.out wx HR.out)
      have HRd := Lib.hid (HR.out.below ((Below.refl _ wx).drew))
      have HBd := Lib.hid HB.out.drew
      have HVd := Lib.hid (HV.out wx.drew HRd.out)
      clear hml HT HCT hlt
      generalize mk m = MS at CIT HV HVx HVd
      go_wp2
      go_region_held3 (fun W => (convert 35 9 (.slice (some ⟨g, 0, none⟩) s.size cap)).run Try.prog W = .ok (.string MS) W) (first | exact HVd.out | exact HVx.out | exact HV2.out | exact HV3.out)
        (first
          | (go_at_call 14; ((with_reducible refine (CIT.out _).mono ?_); rintro e w3 ⟨rfl, rfl⟩))
          | (go_at_call 14; ((with_reducible refine (CI1.out _).mono ?_); rintro e w3 ⟨rfl, rfl⟩))
          | (go_at_call 12; ((with_reducible refine (CO.out _).mono ?_); rintro e w3 ⟨rfl, b3⟩; have HB3 := Lib.hid (HBd.out.trans (b3.mono HBd.out.size)); have HR3 := Lib.hid (HRd.out.below b3); have HV2 := Lib.hid (HV.out _ HR3.out); clear b3 HBd HRd))
          | (go_at_call 12; ((with_reducible refine (CO.out _).mono ?_); rintro e w4 ⟨rfl, b4⟩; have HB4 := Lib.hid (HB3.out.trans (b4.mono HB3.out.size)); have HV3 := Lib.hid (HV.out _ (HR3.out.below b4)); clear b4)))
      go_wp2
      go_ret
      exact ⟨rfl, HB4.out⟩
theorem wf_u32 {n : Int} (h : (Lit.int .u32 n).wf = true) : 0 ≤ n ∧ n ≤ 4294967295 := by
  simp [Lit.wf, IntKind.min, IntKind.max, IntKind.bits, IntKind.signed] at h
  omega
theorem bursts4w (s : ByteArray) (at_ fs : Int) (hs : s.size ≤ 140737488351232) (h1 : (Lit.int .i64 at_).wf = true) (h2 : (Lit.int .u32 fs).wf = true) (w : World) (he : Env w) : Calls Try.prog 4 #[.string s, .int .i64 at_, .int .u32 fs] w fun e w' => e = .returned (.bool true) ∧ Below w.heap.size w w' :=
  bursts4 s at_ fs hs (wf_i64 h1).1 (wf_i64 h1).2 (wf_u32 h2).1 (wf_u32 h2).2 w he
end Go.Proofs.Ytabnhdbhccbebaa
