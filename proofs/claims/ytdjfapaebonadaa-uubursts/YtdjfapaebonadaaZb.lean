/- UuBursts, walked. No condition but those that each says. -/
import Derived.Test.YtdjfapaebonadaaZ
namespace Go.Proofs.Ytdjfapaebonadaa
open Go.RowKit Go.PlainAid
set_option linter.unusedSimpArgs false
set_option linter.unusedVariables false

theorem t4 (f k : Nat) (hf : f < 4294967296) : (bits .and .u32 ((f : Int) / 2 ^ k) 1 == 1) = f.testBit k := by
  have e : ((f : Int) / 2 ^ k) = ((f / 2 ^ k : Nat) : Int) := by simp
  have hy : f / 2 ^ k < 4294967296 := Nat.lt_of_le_of_lt (Nat.div_le_self _ _) hf
  rw [e, Nat.testBit_eq_decide_div_mod_eq]
  generalize f / 2 ^ k = y at hy
  have hz : bits .and .u32 (y : Int) 1 = ((y % 2 : Nat) : Int) := by rw [← Nat.and_one_is_mod]; exact u32_and_nat y 1 hy (by omega)
  rw [hz]
  have h2 : y % 2 = 0 ∨ y % 2 = 1 := by omega
  rcases h2 with h2 | h2 <;> simp [h2]
theorem x4 (b r : Nat) (hb : b < 256) (h : r < 8) : bits .xor .u8 (b : Int) (128 / 2 ^ r) = ((UInt8.ofNat (b ^^^ (128 / 2 ^ r))).toNat : Int) := by
  rw [UInt8.toNat_ofNat', Nat.mod_eq_of_lt (xor_lt256 _ _ hb h), ← u8_xor_nat _ _ hb ((show ∀ r < 8, 128 / 2 ^ r < 256 by decide) r h)]
  congr 1
theorem OB.fr {g cap B : Nat} {l : List UInt8} {w : World} (h : OB B (.slice (some ⟨g, 0, none⟩) l.length cap) l w) (j : Nat) (hj : j < l.length) : w.frozen? ⟨g, j, none⟩ = false := by
  rcases h with ⟨h, _⟩ | ⟨g', cap', cur, fr, _, h, hg, hc, hu, hle, _, ht⟩
  · cases h
  · cases h
    have := hu j (by omega)
    simp only [World.frozen?, hg]
    by_cases h : fr.1 ≤ j
    · rw [decide_eq_false (p := j < fr.2) (fun h2 => this ⟨h, h2⟩), Bool.and_false]
    · rw [decide_eq_false h, Bool.false_and]
theorem OB.set {g cap B : Nat} {l : List UInt8} {w : World} (h : OB B (.slice (some ⟨g, 0, none⟩) l.length cap) l w) (j : Nat) (b : UInt8) (X : Int) (hX : X = (b.toNat : Int)) : OB B (.slice (some ⟨g, 0, none⟩) l.length cap) (l.set j b) (w.setCell ⟨g, j, none⟩ (.int .u8 X)) := by
  rcases h with ⟨h, _⟩ | ⟨g', cap', cur, fr, hB, h, hg, hc, hu, hle, hm, ht⟩
  · cases h
  · cases h
    subst hX
    rw [setCell_eq_setRow w g j cur 5 fr _ hg]
    refine .inr ⟨g, cap, _, fr, hB, by simp, setRow_heap _ _ _ _ _ _ hg, by simpa using hc, hu, by simpa using hle, hm, ?_⟩
    rw [List.length_set, Array.toList_setIfInBounds, List.take_set, ht]
    unfold bc
    rw [List.map_set]
theorem OB.cell0 {g cap B : Nat} {l : List UInt8} {w : World} (h : OB B (.slice (some ⟨g, 0, none⟩) l.length cap) l w) (j : Nat) (hj : j < l.length) : w.cell? ⟨g, j, none⟩ = some (.int .u8 (at0 l j : Int)) := by
  rw [h.cell j hj, at0_of hj]
theorem set4 {g cap B q r n : Nat} {m : List UInt8} {w : World} (h : OB B (.slice (some ⟨g, 0, none⟩) n cap) m w) (hn : n = m.length) (hr : r = q % 8) : OB B (.slice (some ⟨g, 0, none⟩) n cap) (fl m q) (w.setCell ⟨g, q / 8, none⟩ (.int .u8 (bits .xor .u8 (at0 m (q / 8) : Int) (128 / 2 ^ r)))) := by
  subst hr hn
  unfold fl
  exact h.set _ _ _ (x4 _ _ (at0_lt _ _) (by omega))
theorem bd (d s : ByteArray) (k : Nat) : (bits .and .u8 (bits .xor .u8 (bt d (k / 8)) (bt s (k / 8)) / 2 ^ (7 - k % 8)) 1 == 1) = (bA (ls d) k ^^ bA (ls s) k) := by
  rw [bt_at, bt_at]
  unfold bA
  have h1 := at0_lt (ls d) (k / 8)
  have h2 := at0_lt (ls s) (k / 8)
  generalize at0 (ls d) (k / 8) = x at h1
  generalize at0 (ls s) (k / 8) = y at h2
  generalize 7 - k % 8 = t
  rw [show bits .xor .u8 (x : Int) (y : Int) = ((x ^^^ y : Nat) : Int) from u8_xor_nat x y h1 h2, ← Nat.testBit_xor]
  have h3 : x ^^^ y < 256 := Nat.xor_lt_two_pow (n := 8) h1 h2
  generalize x ^^^ y = z at h3
  have e : ((z : Int) / 2 ^ t) = ((z / 2 ^ t : Nat) : Int) := by simp
  have hy : z / 2 ^ t < 256 := Nat.lt_of_le_of_lt (Nat.div_le_self _ _) h3
  rw [e, Nat.testBit_eq_decide_div_mod_eq]
  generalize z / 2 ^ t = y at hy
  have hz : bits .and .u8 (y : Int) 1 = ((y % 2 : Nat) : Int) := by rw [← Nat.and_one_is_mod]; exact u8_and_nat y 1 hy (by omega)
  rw [hz]
  have h2 : y % 2 = 0 ∨ y % 2 = 1 := by omega
  rcases h2 with h2 | h2 <;> simp [h2]
def Rel5a (l : List UInt8) (g cap n a f : Nat) (w : World) (i : Value) (wx : World) : Prop := ∃ (k : Nat) (m : List UInt8), k ≤ 32 ∧ i = .int .i64 k ∧ Hid (Turned l m a f k) ∧ Hid (OB w.heap.size (.slice (some ⟨g, 0, none⟩) n cap) m wx) ∧ Hid (Below w.heap.size w wx)
def Rel5b (w : World) (n : Nat) (Df : Nat → Prop) (vf vl vi : Value) (wx : World) : Prop := ∃ (k : Nat) (F L : Int), Hid (Below w.heap.size w wx) ∧ -1 ≤ F ∧ F ≤ 8 * n ∧ -1 ≤ L ∧ L ≤ 8 * n ∧ k ≤ 8 * n ∧ vi = .int .i64 k ∧ vf = .int .i64 F ∧ vl = .int .i64 L ∧ ((F = -1 ∧ L = -1) ∨ ∃ i j : Nat, F = i ∧ L = j ∧ i ≤ j ∧ j < k ∧ Df i ∧ Df j)
theorem line_nil : line [] ++ endL = [96, 10, 101, 110, 100, 10] := by unfold line; rw [body_nil]; decide
theorem text_is (m : List UInt8) : ls ((⟨#[98, 101, 103, 105, 110, 32, 54, 52, 52, 32, 120, 10]⟩ : ByteArray) ++ mk m ++ ⟨#[96, 10, 101, 110, 100, 10]⟩) = beginS ++ m ++ (line [] ++ endL) := by
  rw [ls_app, ls_app, ls_mk, line_nil]; rfl
/-- What is read of the turned line: nothing, or bytes that differ within 32 bits. -/
theorem turned_read {s : ByteArray} {m : List UInt8} {a f : Nat} (h6 : 6 ≤ s.size) (h45 : s.size ≤ 45) (h : Turned (line (ls s)) m a f 32) (ha : 8 ≤ a) (ha2 : a + 32 ≤ 8 * ((line (ls s)).length - 1)) (w : World) :
    (∀ W, Calls Try.prog 11 #[.string ((⟨#[98, 101, 103, 105, 110, 32, 54, 52, 52, 32, 120, 10]⟩ : ByteArray) ++ mk m ++ ⟨#[96, 10, 101, 110, 100, 10]⟩)] W fun e w' => e = .returned (.tuple #[.int .i64 0, .string ⟨#[]⟩, .string ⟨#[]⟩, .int .i64 11]) ∧ Below W.heap.size W w') ∨
    ∃ D : ByteArray, D.size = s.size ∧ (∀ i j, i ≤ j → j < 8 * s.size → (bA (ls D) i ^^ bA (ls s) i) = true → (bA (ls D) j ^^ bA (ls s) j) = true → j - i < 32) ∧
      ∀ W, Calls Try.prog 11 #[.string ((⟨#[98, 101, 103, 105, 110, 32, 54, 52, 52, 32, 120, 10]⟩ : ByteArray) ++ mk m ++ ⟨#[96, 10, 101, 110, 100, 10]⟩)] W fun e w' => e = .returned (.tuple #[.int .i64 420, .string (mk [120]), .string D, .int .i64 0]) ∧ Below W.heap.size W w' := by
  have hl := ls_len s
  obtain ⟨r, hm, hr⟩ := turned_line (by omega) h ha ha2
  have hsz : ((⟨#[98, 101, 103, 105, 110, 32, 54, 52, 52, 32, 120, 10]⟩ : ByteArray) ++ mk m ++ ⟨#[96, 10, 101, 110, 100, 10]⟩).size ≤ 20000 := by
    rw [ByteArray.size_append, ByteArray.size_append, mk_size, h.1, line_len, hl]
    show 12 + (2 + (s.size + 2) / 3 * 4) + 6 ≤ _
    omega
  have C := fun W => decode11 _ W hsz
  rw [text_is] at C
  rcases decode_turned (by omega) (by omega) hm hr with h0 | ⟨d, hg, h0⟩
  · rw [h0] at C
    exact .inl C
  · rw [h0] at C
    have hdl := gr_len _ _ _ hg
    refine .inr ⟨mk d, by rw [mk_size, hdl, hl], ?_, C⟩
    intro i j hij hj di dj
    rw [ls_mk] at di dj
    have ki := diff_in (by omega) h hm hr hg (i := i) (by omega) (by intro e; rw [e] at di; simp at di)
    have kj := diff_in (by omega) h hm hr hg (i := j) (by omega) (by intro e; rw [e] at dj; simp at dj)
    omega
set_option maxHeartbeats 8000000 in
set_option maxRecDepth 100000 in
theorem bursts5 (s : ByteArray) (at_ fs : Int) (hs : s.size ≤ 140737488351232) (w : World) (ha0 : -9223372036854775808 ≤ at_) (ha1 : at_ ≤ 9223372036854775807) (hf0 : 0 ≤ fs) (hf1 : fs ≤ 4294967295) : Calls Try.prog 5 #[.string s, .int .i64 at_, .int .u32 fs] w fun e w' => e = .returned (.bool true) ∧ Below w.heap.size w w' := by
  have C := Lib.hid (anchor8 w)
  by_cases h1 : s.size < 6
  · go_enter Try.func5, Try.ntmps5
    go_wp2_with (go_at_call 8; refine C.out.mono ?_)
    rintro e w1 ⟨rfl, b1⟩
    have B1 := Lib.hid b1
    clear b1 C
    go_wp2
    go_ret
    exact ⟨rfl, B1.out⟩
  by_cases h2 : 45 < s.size
  · go_enter Try.func5, Try.ntmps5
    go_wp2_with (go_at_call 8; refine C.out.mono ?_)
    rintro e w1 ⟨rfl, b1⟩
    have B1 := Lib.hid b1
    clear b1 C
    go_wp2
    go_ret
    exact ⟨rfl, B1.out⟩
  by_cases h3 : fs = 0
  · subst h3
    go_enter Try.func5, Try.ntmps5
    go_wp2_with (go_at_call 8; refine C.out.mono ?_)
    rintro e w1 ⟨rfl, b1⟩
    have B1 := Lib.hid b1
    clear b1 C
    go_wp2
    go_ret
    exact ⟨rfl, B1.out⟩
  have hd3 : (fs == 0) = false := by simpa using h3
  have CL := Lib.hid fun W => line17 s W (by omega)
  have hll : (mk (line (ls s))).size = 2 + (s.size + 2) / 3 * 4 := by rw [mk_size, line_len, ls_len]
  have hl0 : (line (ls s)).length = 2 + (s.size + 2) / 3 * 4 := by rw [line_len, ls_len]
  obtain ⟨n, Hn⟩ : ∃ n, Hid (2 + (s.size + 2) / 3 * 4 = n) := ⟨_, Lib.hid rfl⟩
  rw [Hn.out] at hll hl0
  have hn100 : n ≤ 100 := by rw [← Hn.out]; omega
  have hn10 : 10 ≤ n := by rw [← Hn.out]; omega
  have Hl0 := Lib.hid hl0
  clear hl0
  go_enter Try.func5, Try.ntmps5
  go_wp2_with (go_at_call 8; refine C.out.mono ?_)
  rintro e w1 ⟨rfl, b1⟩
  have B1 := Lib.hid b1
  clear b1 C
  go_wp2_with (go_at_call 17; refine (CL.out _).mono ?_)
  rintro e w2 ⟨rfl, b2⟩
  have B2 := Lib.hid (B1.out.trans (b2.mono B1.out.size))
  clear b2 CL
  have hmk := run_made (mk (line (ls s))) w2
  have hOB := made_ob w2 (mk (line (ls s))) (by rw [hll]; unfold maxLen; omega)
  have HB0 := Lib.hid (B2.out.trans ((made_below w2 (mk (line (ls s)))).mono B2.out.size))
  rw [hll] at hmk hOB
  rw [ls_mk] at hOB
  generalize made w2 (mk (line (ls s))) = w3 at hmk hOB HB0
  generalize grownCap w2 n 0 5 = cap at hmk hOB
  have HO0 := Lib.hid (hOB.mono B2.out.size)
  have hgB : w.heap.size ≤ w2.heap.size := B2.out.size
  generalize w2.heap.size = g at hmk hOB HO0 hgB
  clear hOB
  generalize mk (line (ls s)) = LS at hll hmk ⊢
  by_cases h4 : at_ < 8
  · go_wp2
    go_ret
    exact ⟨rfl, HB0.out⟩
  by_cases h5 : 8 * ((n : Int) - 1) - 32 < at_
  · go_wp2
    go_ret
    exact ⟨rfl, HB0.out⟩
  obtain ⟨a, rfl⟩ : ∃ a : Nat, at_ = a := ⟨at_.toNat, by omega⟩
  obtain ⟨f, rfl⟩ : ∃ f : Nat, fs = f := ⟨fs.toNat, by omega⟩
  have ha8 : 8 ≤ a := by omega
  have han : a + 32 ≤ 8 * (n - 1) := by omega
  have hf : f < 4294967296 := by omega
  clear hll h4 h5 ha0 ha1 hf0 hf1 h3 hd3
  go_wp2
  clear hmk
  go_loopw [44] (Rel5a (line (ls s)) g cap n a f w) (fun i _ => 32 - (intOf i).toNat)
  case atStart => exact ⟨0, line (ls s), by omega, rfl, Lib.hid (turned_zero _ _ _), HO0, HB0⟩
  case round =>
    clear HO0 HB0
    obtain ⟨k, m, hk, rfl, HT, HR, HB⟩ := hrel
    rename World => wx
    by_cases hlt : k < 32
    · cases ht : f.testBit k
      · have hd := (t4 f k hf).trans ht
        have HT2 := Lib.hid (turned_no HT.out ht)
        clear ht
        go_wp2
        go_roundw
        case rel => exact ⟨k + 1, m, by omega, by go_num, HT2, HR, HB⟩
        case measure => simp [intOf]; omega
      · have hd := (t4 f k hf).trans ht
        have hml : m.length = n := by rw [HT.out.1]; exact Hl0.out
        have HT2 := Lib.hid (turned_yes HT.out ht (by rw [Hl0.out]; omega))
        have hq : (a + k) / 8 < n := by omega
        have hR2 : OB w.heap.size (.slice (some ⟨g, 0, none⟩) m.length cap) m wx := by rw [hml]; exact HR.out
        have hc := hR2.cell0 ((a + k) / 8) (by omega)
        have hfr := hR2.fr ((a + k) / 8) (by omega)
        have HS := Lib.hid (set4 (q := a + k) (r := (a + k) % 8) HR.out hml.symm rfl)
        have HB2 := Lib.hid (HB.out.setCell (p := ⟨g, (a + k) / 8, none⟩) hgB (.int .u8 (bits .xor .u8 (at0 m ((a + k) / 8) : Int) (128 / 2 ^ ((a + k) % 8)))))
        have hat := at0_lt m ((a + k) / 8)
        generalize at0 m ((a + k) / 8) = b0 at hc HS HB2 hat
        clear ht hml hR2
        go_wp2
        go_roundw
        case rel => exact ⟨k + 1, fl m (a + k), by omega, by go_num, HT2, HS, HB2⟩
        case measure => simp [intOf]; omega
    · obtain rfl : k = 32 := by omega
      have hml : m.length = n := by rw [HT.out.1]; exact Hl0.out
      have hbk := HR.out.back
      have hms : (mk m).size = n := by rw [mk_size]; exact hml
      have HD := turned_read (by omega) (by omega) HT.out ha8 (by rw [Hl0.out]; exact han) wx
      clear hml HT
      generalize mk m = MS at hbk hms HD
      rcases HD with C | ⟨D, hDs, hdf, C⟩
      · have CD := Lib.hid C
        clear C
        go_wp2_with (go_at_call 11; refine (CD.out _).mono ?_)
        rintro e w5 ⟨rfl, b5⟩
        have B5 := Lib.hid (HB.out.trans (b5.mono HB.out.size))
        clear b5 CD
        go_wp2
        go_ret
        exact ⟨rfl, B5.out⟩
      · have CD := Lib.hid C
        have HDF := Lib.hid hdf
        have HDs := Lib.hid hDs
        have hds2 : ((D.size : Int) != (s.size : Int)) = false := by rw [hDs]; simp
        clear C hdf hDs
        go_wp2_with (go_at_call 11; refine (CD.out _).mono ?_)
        rintro e w5 ⟨rfl, b5⟩
        have B5 := Lib.hid (HB.out.trans (b5.mono HB.out.size))
        clear b5 CD
        have hb := get_bt s
        have hb2 := get_bt D
        go_wp2
        go_loopw [13, 14, 89] (Rel5b w s.size (fun i => (bA (ls D) i ^^ bA (ls s) i) = true)) (fun _ _ i _ => 8 * s.size - (intOf i).toNat)
        case atStart => exact ⟨0, -1, -1, B5, by omega, by omega, by omega, by omega, by omega, rfl, rfl, rfl, .inl ⟨rfl, rfl⟩⟩
        case round =>
          clear B5 HB
          obtain ⟨k, F, L, B5, hF1, hF2, hL1, hL2, hk, rfl, rfl, rfl, hFL⟩ := hrel
          have HFL := Lib.hid hFL
          clear hFL
          by_cases hlt : k < 8 * s.size
          · have i1 : k / 8 < s.size := by omega
            have i2 : k / 8 < D.size := by rw [HDs.out]; exact i1
            have hbd := bd D s k
            cases hdb : (bA (ls D) k ^^ bA (ls s) k)
            · rw [hdb] at hbd
              clear hdb
              go_wp2
              go_region
              go_wp2
              go_roundw
              case rel => exact ⟨k + 1, F, L, Lib.hid B5.out.drew, by omega, by omega, by omega, by omega, by omega, by go_num, rfl, rfl, by
                rcases HFL.out with h | ⟨i, j, h1, h2, h3, h4, h5, h6⟩
                · exact .inl h
                · exact .inr ⟨i, j, h1, h2, h3, by omega, h5, h6⟩⟩
              case measure => simp [intOf]; omega
            · rw [hdb] at hbd
              have Hdb := Lib.hid hdb
              clear hdb
              by_cases hF0 : F < 0
              · go_wp2
                go_region
                go_wp2
                go_roundw
                case rel => exact ⟨k + 1, k, k, Lib.hid B5.out.drew, by omega, by omega, by omega, by omega, by omega, by go_num, rfl, rfl, .inr ⟨k, k, rfl, rfl, by omega, by omega, Hdb.out, Hdb.out⟩⟩
                case measure => simp [intOf]; omega
              · go_wp2
                go_region
                go_wp2
                go_roundw
                case rel => exact ⟨k + 1, F, k, Lib.hid B5.out.drew, by omega, by omega, by omega, by omega, by omega, by go_num, rfl, rfl, by
                  rcases HFL.out with ⟨h, _⟩ | ⟨i, j, h1, h2, h3, h4, h5, h6⟩
                  · omega
                  · exact .inr ⟨i, k, h1, rfl, by omega, by omega, h5, Hdb.out⟩⟩
                case measure => simp [intOf]; omega
          · obtain rfl : k = 8 * s.size := by omega
            by_cases hF0 : F < 0
            · go_wp2
              go_ret
              exact ⟨by simp, B5.out⟩
            · have hd32 : L - F < 32 := by
                rcases HFL.out with ⟨h, _⟩ | ⟨i, j, h1, h2, h3, h4, h5, h6⟩
                · omega
                · have := HDF.out i j h3 h4 h5 h6
                  omega
              go_wp2
              go_ret
              exact ⟨by simp, B5.out⟩
theorem wf_i64 {n : Int} (h : (Lit.int .i64 n).wf = true) : -9223372036854775808 ≤ n ∧ n ≤ 9223372036854775807 := by
  simp [Lit.wf, IntKind.min, IntKind.max, IntKind.bits, IntKind.signed] at h
  omega
theorem wf_u32 {n : Int} (h : (Lit.int .u32 n).wf = true) : 0 ≤ n ∧ n ≤ 4294967295 := by
  simp [Lit.wf, IntKind.min, IntKind.max, IntKind.bits, IntKind.signed] at h
  omega
theorem bursts5w (s : ByteArray) (at_ fs : Int) (hs : s.size ≤ 140737488351232) (h1 : (Lit.int .i64 at_).wf = true) (h2 : (Lit.int .u32 fs).wf = true) (w : World) : Calls Try.prog 5 #[.string s, .int .i64 at_, .int .u32 fs] w fun e w' => e = .returned (.bool true) ∧ Below w.heap.size w w' :=
  bursts5 s at_ fs hs w (wf_i64 h1).1 (wf_i64 h1).2 (wf_u32 h2).1 (wf_u32 h2).2
end Go.Proofs.Ytdjfapaebonadaa
