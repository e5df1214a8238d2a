/- CrcBursts: the walk. -/
import Derived.Test.YteebpidgheaaiaaDoorD
namespace Go.Proofs.YteebpidgheaaiaaDoor
open Go.RowKit Go.PlainAid Go.Sort
set_option linter.unusedSimpArgs false

theorem x4 (b : UInt8) (r : Nat) (h : r < 8) : bits .xor .u8 (b.toNat : Int) (128 / 2 ^ r) = ((UInt8.ofNat (b.toNat ^^^ (128 / 2 ^ r))).toNat : Int) := by
  have hb := b.toNat_lt
  rw [UInt8.toNat_ofNat', Nat.mod_eq_of_lt (xor_lt256 _ _ hb h), ← u8_xor_nat _ _ hb ((show ∀ r < 8, 128 / 2 ^ r < 256 by decide) r h)]
  congr 1
theorem set4 {g q r : Nat} {m : List UInt8} {w : World} (h : BRow g m w) (hq : q / 8 < m.length) (hr : r = q % 8) : BRow g (fl m q) (w.setCell ⟨g, q / 8, none⟩ (.int .u8 (bits .xor .u8 (m[q / 8].toNat : Int) (128 / 2 ^ r)))) := by
  subst hr
  unfold fl
  have e : m.getD (q / 8) 0 = m[q / 8] := by rw [List.getD_eq_getElem?_getD, List.getElem?_eq_getElem hq]; rfl
  rw [e]
  exact h.set _ _ _ (x4 _ _ (by omega))
def Rel4 (s : ByteArray) (g a f : Nat) (w : World) (i : Value) (wx : World) : Prop := ∃ (k : Nat) (m : List UInt8), k ≤ 32 ∧ i = .int .i64 k ∧ Hid (Turned (ls s) m a f k) ∧ Hid (BRow g m wx) ∧ Hid (Below w.heap.size w wx)
set_option maxHeartbeats 4000000 in
set_option maxRecDepth 100000 in
theorem bursts4 (s : ByteArray) (at_ fs : Int) (w : World) (ht : Tab w) (ha0 : -9223372036854775808 ≤ at_) (ha1 : at_ ≤ 9223372036854775807) (hf0 : 0 ≤ fs) (hf1 : fs ≤ 4294967295) : Calls Tryd.prog 4 #[.string s, .int .i64 at_, .int .u32 fs] w fun e w' => e = .returned (.bool true) ∧ Below w.heap.size w w' := by
  have C := Lib.hid (anchor5 w ht)
  clear ht
  go_enter Tryd.func4, Tryd.ntmps4
  go_wp2_with fail
  refine C.out.mono ?_
  rintro e w1 ⟨rfl, b1⟩
  have B1 := Lib.hid b1
  clear b1 C
  by_cases h1 : 3000 < s.size
  · go_wp2
    go_ret
    exact ⟨rfl, B1.out⟩
  by_cases h2 : fs = 0
  · subst h2
    go_wp2
    go_ret
    exact ⟨rfl, B1.out⟩
  have hd2 : (fs == 0) = false := by simpa using h2
  by_cases h3 : at_ < 0
  · go_wp2
    go_ret
    exact ⟨rfl, B1.out⟩
  by_cases h4 : 8 * (s.size : Int) - 32 < at_
  · go_wp2
    go_ret
    exact ⟨rfl, B1.out⟩
  obtain ⟨a, rfl⟩ : ∃ a : Nat, at_ = a := ⟨at_.toNat, by omega⟩
  obtain ⟨f, rfl⟩ : ∃ f : Nat, fs = f := ⟨fs.toNat, by omega⟩
  have hmk := run_made s w1
  have HR0 := Lib.hid (made_row w1 s)
  have HB0 := Lib.hid (B1.out.trans ((made_below w1 s).mono B1.out.size))
  have hab : a + 32 ≤ 8 * s.size := by omega
  have hs3 : s.size ≤ 3000 := by omega
  have hf : f < 4294967296 := by omega
  have hfp : 0 < f := by omega
  generalize made w1 s = w2 at hmk HR0 HB0
  generalize grownCap w1 s.size 0 5 = cap at hmk
  have hgB : w.heap.size ≤ w1.heap.size := B1.out.size
  generalize w1.heap.size = g at hmk HR0 hgB
  go_wp2
  go_loopw [32] (Rel4 s g a f w) (fun i _ => 32 - (intOf i).toNat)
  case atStart => exact ⟨0, ls s, by omega, rfl, Lib.hid (turned_zero _ _ _), HR0, HB0⟩
  case round =>
    obtain ⟨k, m, hk, rfl, HT, HR, HB⟩ := hrel
    rename World => wx
    by_cases hlt : k < 32
    · cases ht : f.testBit k
      · have hd := (t4 f k hf).trans ht
        have HT2 := Lib.hid (turned_no HT.out ht)
        clear ht h4 h3 ha0 ha1 hf0 hf1 h2 hd2 h1 hmk
        go_wp2
        go_roundw
        case rel => exact ⟨k + 1, m, by omega, by go_num, HT2, HR, HB⟩
        case measure => simp [intOf]; omega
      · have hd := (t4 f k hf).trans ht
        have HT2 := Lib.hid (turned_yes HT.out ht (by rw [ls_len]; omega))
        have hq : (a + k) / 8 < m.length := by rw [HT.out.1, ls_len]; omega
        have hq2 : (a + k) / 8 < s.size := by omega
        have hc := HR.out.cells ((a + k) / 8) hq
        have hfr := HR.out.fr ((a + k) / 8) hq
        clear ht h4 h3 ha0 ha1 hf0 hf1 h2 hd2 h1 hmk
        have HS := Lib.hid (set4 (r := (a + k) % 8) HR.out hq rfl)
        have HB2 := Lib.hid (HB.out.setCell (p := ⟨g, (a + k) / 8, none⟩) hgB (.int .u8 (bits .xor .u8 (m[(a + k) / 8].toNat : Int) (128 / 2 ^ ((a + k) % 8)))))
        go_wp2
        go_roundw
        case rel => exact ⟨k + 1, fl m (a + k), by omega, by go_num, HT2, HS, HB2⟩
        case measure => simp [intOf]; omega
    · obtain rfl : k = 32 := by omega
      have hne := turned_ne HT.out hf hfp (by rw [ls_len]; exact hab)
      have hml : m.length = s.size := by rw [HT.out.1, ls_len]
      have CS : Hid (∀ W, Calls Tryd.prog 10 #[.string s] W fun e w' => e = .returned (.int .u32 (chk (ls s) : Nat)) ∧ Below W.heap.size W w') := Lib.hid fun W => of10 s (by omega) W
      have CM : Hid (∀ W, Calls Tryd.prog 10 #[.string (mk m)] W fun e w' => e = .returned (.int .u32 (chk m : Nat)) ∧ Below W.heap.size W w') := Lib.hid fun W => of10 (mk m) (by rw [mk_size, hml]; omega) W
      have HV : Hid (∀ W, BRow g m W → (convert 28 9 (.slice (some ⟨g, 0, none⟩) s.size cap)).run Tryd.prog W = .ok (.string (mk m)) W) := Lib.hid fun W h => by rw [← hml]; exact h.back cap
      generalize chk (ls s) = x at hne CS
      generalize chk m = y at hne CM
      have hxy : ((x : Int) != (y : Int)) = true := by simpa using (by omega : ¬ (x : Int) = (y : Int))
      have HVx := Lib.hid (HV.out wx HR.out)
      have HRd := Lib.hid (HR.out.below ((Below.refl _ wx).drew))
      have HBd := Lib.hid HB.out.drew
      have HVd := Lib.hid (HV.out wx.drew HRd.out)
      clear hne h4 h3 ha0 ha1 hf0 hf1 h2 hd2 h1 hmk HT hml HR0 HB0 hlt hk hf hfp hab hs3
      go_wp2
      go_region_held3 (fun W => (convert 28 9 (.slice (some ⟨g, 0, none⟩) s.size cap)).run Tryd.prog W = .ok (.string (mk m)) W) (first | exact HVd.out | exact HVx.out | exact HV2.out | exact HV3.out)
        (first
          | (go_at_call 10; ((with_reducible refine (CS.out _).mono ?_); rintro e w3 ⟨rfl, b3⟩; have HB3 := Lib.hid (HBd.out.trans (b3.mono HBd.out.size)); have HR3 := Lib.hid (HRd.out.below b3); have HV2 := Lib.hid (HV.out _ HR3.out); clear b3))
          | (go_at_call 10; ((with_reducible refine (CM.out _).mono ?_); rintro e w4 ⟨rfl, b4⟩; have HB4 := Lib.hid (HB3.out.trans (b4.mono HB3.out.size)); have HV3 := Lib.hid (HV.out _ (HR3.out.below b4)); clear b4)))
      go_wp2
      go_ret
      exact ⟨rfl, HB4.out⟩
end Go.Proofs.YteebpidgheaaiaaDoor
