/- Contracts of a number's digits, ours and the document's; of the check of a text, and of its line. Conditions: the table of powers of ten reads as it is laid; texts shorter than 2^40 bytes. -/
import Derived.Test.YteebpidgheaaiaaDoorB
import Derived.Test.YteebpidgheaaiaaDoorShelf
import Derived.Lib.AppendIntMem
import Derived.Lib.ItoaMem
import Derived.Great.BuildSlice
import Derived.Laws.IdiomStrings
namespace Go.Proofs.YteebpidgheaaiaaDoor
open Go.RowKit Go.PlainAid Go.Sort
set_option linter.unusedSimpArgs false

def Tab (w : World) : Prop := Lib.TabIs Tryd.prog w "internal/strconv.uint64pow10" .u64 Lib.pow10Tab
theorem tab_global : ∃ g, Tryd.prog.globalNamed "internal/strconv.uint64pow10" = some g := ⟨0, by kernel_rfl⟩
theorem Tab.below {w w' : World} (h : Tab w) (hb : Below w.heap.size w w') : Tab w' := by
  obtain ⟨g, hg⟩ := tab_global
  unfold Tab Lib.TabIs World.var? at h ⊢
  rw [hg] at h ⊢
  simp only [Option.bind_some] at h ⊢
  have hlt : g < w.heap.size := by
    rcases Nat.lt_or_ge g w.heap.size with h' | h'
    · exact h'
    · rw [Array.getElem?_eq_none h'] at h; cases h
  rw [hb.block g hlt]
  exact h

abbrev ls (s : ByteArray) : List UInt8 := s.data.toList
def mk (l : List UInt8) : ByteArray := ⟨l.toArray⟩
theorem mk_size (l : List UInt8) : (mk l).size = l.length := by show l.toArray.size = _; simp
theorem ls_len (s : ByteArray) : (ls s).length = s.size := by simp [ls]
theorem mk_ls (s : ByteArray) : mk (ls s) = s := by unfold mk ls; simp
theorem mk_app (a b : List UInt8) : mk a ++ mk b = mk (a ++ b) := by
  apply ByteArray.ext
  show (ByteArray.append _ _).data = _
  simp [mk, ByteArray.append]
/-- A number's digits, as a text. -/
def dd (u : Nat) : ByteArray := mk (Lib.decDigits u)
theorem nd_le (u : Nat) (h2 : u < 18446744073709551616) : Lib.nDigits u ≤ 20 := by
  by_cases h1 : 1 ≤ u
  · have := Lib.numDigits_eq u h1 h2; split at this <;> omega
  · have : u = 0 := by omega
    subst this
    rw [Lib.nDigits_small (by omega)]; omega
theorem dd_size (u : Nat) (h : u < 18446744073709551616) : (dd u).size ≤ 20 := by
  unfold dd; rw [mk_size, Lib.decDigits_length]; exact nd_le u h

theorem holds_zero0 (w : World) (T : TypeId) (nd : Nat) (hs : nd ≤ 24) : Holds (fun (b : UInt8) => Value.int .u8 (b.toNat : Int)) (w.alloc (.cells Lib.zeros24 T)) w.heap.size 0 (Array.replicate nd (0 : UInt8)) := fun j hj => by
  have hj' : j < nd := by simpa using hj
  refine ⟨?_, World.frozen?_alloc_new _ _ _ _⟩
  rw [World.cell?_alloc_new, Lib.zeros24_at _ (by omega), getElem!_pos _ j hj]
  simp
theorem below_put (w : World) (o : Obj) (dk : Array UInt8) (k : Nat) : Below w.heap.size w ((putRow (fun (b : UInt8) => Value.int .u8 (b.toNat : Int)) (w.alloc o) w.heap.size 0 dk).drewN k) := by
  rw [alloc_eq_grow]
  obtain ⟨os', _, e⟩ := putRow_grow_new (fun (b : UInt8) => Value.int .u8 (b.toNat : Int)) w #[o] w.heap.size 0 dk (Nat.le_refl _)
  rw [e]
  exact Lib.below_grow _ w (Nat.le_refl _) k os'

set_option maxHeartbeats 2000000 in
set_option maxRecDepth 100000 in
theorem fu18 (u : Nat) (hu64 : u < 18446744073709551616) (w : World) (ht : Tab w) : Calls Tryd.prog 18 #[.int .u64 u, .int .i64 10] w fun e w' => e = .returned (.string (dd u)) ∧ Below w.heap.size w w' := by
  by_cases hs : u < 100
  · go_enter Tryd.func18, Tryd.ntmps18
    go_wp2_with (go_at_call 20; (refine (Tryd.internal_strconv_small u hs _).mono ?_; rintro e w' ⟨rfl, rfl⟩))
    go_ret
    exact ⟨rfl, Below.refl _ _⟩
  · have hu1 : 1 ≤ u := by omega
    have hnd := nd_le u hu64
    have hal : Tryd.prog.arrayLen 44 = 24 := by kernel_rfl
    have hsl1 : ∀ W, (Instr.sliceAt 44 (.pointer (some ⟨w.heap.size, 0, none⟩)) none (some (.int .i64 (Lib.nDigits u : Int))) none).run Tryd.prog W = .ok (.slice (some ⟨w.heap.size, 0, none⟩) (Lib.nDigits u) 24) W := fun W => by
      rw [run_sliceAt_array_h W 44 ⟨w.heap.size, 0, none⟩ (by kernel_rfl) .i64 (Lib.nDigits u : Int) (by omega) (by rw [hal]; omega)]
      go_simp
      all_goals omega
    have hH0 := holds_zero0 w 44 (Lib.nDigits u) (by omega)
    have hfmt := Tryd.internal_strconv_formatBase10 w.heap.size 0 24 u (Array.replicate (Lib.nDigits u) 0) (w.alloc (.cells Lib.zeros24 44)) hH0 (by rw [Array.size_replicate]; exact Lib.lt_pow_nDigits u) hu64 (by rw [Array.size_replicate]; omega)
    rw [Array.size_replicate] at hfmt
    have HH0 := Lib.hid hH0
    have HT := Lib.hid ht
    clear hH0 hal ht
    go_enter Tryd.func18, Tryd.ntmps18
    go_wp2_with (go_at_call 21; (refine (Tryd.internal_strconv_numDigits u hu1 hu64 _ (Lib.tabIs_alloc HT.out _)).mono ?_; rintro e w' ⟨rfl, rfl⟩))
    refine hfmt.mono ?_
    rintro e w' ⟨rfl, k, v', dk, rfl, hF⟩
    have hcv : (convert 28 9 (.slice (some ⟨w.heap.size, 0, none⟩) (Lib.nDigits u) 24)).run Tryd.prog ((putRow (fun (b : UInt8) => Value.int .u8 (b.toNat : Int)) (w.alloc (.cells Lib.zeros24 44)) w.heap.size 0 dk).drewN k) = .ok (.string (dd u)) ((putRow (fun (b : UInt8) => Value.int .u8 (b.toNat : Int)) (w.alloc (.cells Lib.zeros24 44)) w.heap.size 0 dk).drewN k) := by
      have h := run_convert_bytes_back (P := Tryd.prog) ((putRow (fun (b : UInt8) => Value.int .u8 (b.toNat : Int)) (w.alloc (.cells Lib.zeros24 44)) w.heap.size 0 dk).drewN k) 28 9 5 ⟨w.heap.size, 0, none⟩ 24 (Lib.decDigits u) Tryd.underlying28 Tryd.underlying5 Tryd.underlying9 (fun j hj => by
        rw [Lib.row_is_numeral hF j hj, Lib.add_plain, World.cell?_drewN]
        exact cell?_putRow (fun (b : UInt8) => Value.int .u8 (b.toNat : Int)) _ w.heap.size 0 _ dk HH0.out (by rw [hF.size, Array.size_replicate]) j (by rw [hF.size]; rw [Lib.decDigits_length] at hj; exact hj))
      rw [Lib.decDigits_length] at h
      exact h
    have HB := Lib.hid (below_put w (.cells Lib.zeros24 44) dk k)
    clear hF
    go_wp2
    go_ret
    exact ⟨rfl, HB.out⟩
set_option maxHeartbeats 1000000 in
set_option maxRecDepth 100000 in
theorem fu15 (u : Nat) (hu64 : u < 18446744073709551616) (w : World) (ht : Tab w) : Calls Tryd.prog 15 #[.int .u64 u, .int .i64 10] w fun e w' => e = .returned (.string (dd u)) ∧ Below w.heap.size w w' := by
  go_enter Tryd.func15, Tryd.ntmps15
  go_wp2_with (go_at_call 18; (refine (fu18 u hu64 _ ht).mono ?_; rintro e w' ⟨rfl, hb⟩))
  go_ret
  exact ⟨rfl, hb⟩
theorem it16 (u : Nat) (hu : u ≤ 1099511627776) (w : World) (ht : Tab w) : Calls Tryd.prog 16 #[.int .i64 u] w fun e w' => e = .returned (.string (dd u)) ∧ Below w.heap.size w w' :=
  (Tryd.strconv_Itoa u (by omega) (by omega) w ht).mono fun e w' ⟨he, k, os, hw⟩ => by
    subst he hw
    rw [Lib.itoa_nonneg]
    exact ⟨rfl, Lib.below_grow _ w (Nat.le_refl _) k os⟩

theorem conv_one (w : World) (X : Int) (c : UInt8) (h : X = (c.toNat : Int)) : (convert 28 9 (.slice (some ⟨w.heap.size, 0, none⟩) 1 1)).run Tryd.prog (w.alloc (.cells #[.int .u8 X] 5)) = .ok (.string (mk [c])) (w.alloc (.cells #[.int .u8 X] 5)) := by
  subst h
  exact run_convert_bytes_back (P := Tryd.prog) _ 28 9 5 ⟨w.heap.size, 0, none⟩ 1 [c] Tryd.underlying28 Tryd.underlying5 Tryd.underlying9 (fun j hj => by
    have : j = 0 := by simpa using hj
    subst this
    rw [Lib.add_plain, World.cell?_alloc_new]
    rfl)
theorem dig_byte (n : Nat) (h : n < 10) : (((48 : Int) + n)) = ((UInt8.ofNat (48 + n)).toNat : Int) := by
  rw [UInt8.toNat_ofNat']; omega
theorem dig_byte' (m : Nat) : ((48 : Int) + (m : Int) % 10) = ((UInt8.ofNat (48 + m % 10)).toNat : Int) := by
  rw [← dig_byte (m % 10) (by omega)]; omega
def Rel12 (u : Nat) (w : World) (n out : Value) (wx : World) : Prop := ∃ (m : Nat) (l : List UInt8), n = .int .u64 m ∧ out = .string (mk l) ∧ m < 18446744073709551616 ∧ Hid (Lib.decDigits m ++ l = Lib.decDigits u) ∧ Hid (Below w.heap.size w wx)
set_option maxHeartbeats 2000000 in
set_option maxRecDepth 100000 in
theorem digits12 (u : Nat) (hu : u < 18446744073709551616) (w : World) : Calls Tryd.prog 12 #[.int .u64 u] w fun e w' => e = .returned (.string (dd u)) ∧ Below w.heap.size w w' := by
  have HL : Hid ((Lib.decDigits u).length ≤ 20) := Lib.hid (by rw [Lib.decDigits_length]; exact nd_le u hu)
  go_enter Tryd.func12, Tryd.ntmps12
  go_wp2
  go_loopw [0, 3] (Rel12 u w) (fun n _ _ => (intOf n).toNat)
  case atStart => exact ⟨u, [], rfl, rfl, hu, Lib.hid (by simp), Lib.hid (Below.refl _ _)⟩
  case round =>
    obtain ⟨m, l, rfl, rfl, hm, HR, HB⟩ := hrel
    rename World => wx
    have hl : (mk l).size ≤ 20 := by rw [mk_size]; have := congrArg List.length HR.out; rw [List.length_append] at this; have := HL.out; omega
    have hm1 : ∀ c : UInt8, ¬ 9223372036854775807 < (mk [c]).size + (mk l).size := fun c => by rw [mk_size]; simp; omega
    by_cases h10 : 10 ≤ m
    · have hcv := conv_one wx (48 + (m : Int) % 10) _ (dig_byte' m)
      have HD : Hid (Lib.decDigits m = Lib.decDigits (m / 10) ++ [UInt8.ofNat (48 + m % 10)]) := Lib.hid (by rw [Lib.decDigits, dif_neg (by omega)])
      have hm2 := hm1 (UInt8.ofNat (48 + m % 10))
      have HA := Lib.hid (mk_app [UInt8.ofNat (48 + m % 10)] l)
      have HBB := Lib.hid (HB.out.alloc HB.out.size (.cells #[.int .u8 (48 + (m : Int) % 10)] 5))
      clear hm1
      generalize UInt8.ofNat (48 + m % 10) = c at hcv HD hm2 HA
      go_wp2
      go_roundw
      case rel => exact ⟨m / 10, [c] ++ l, by go_num, by rw [HA.out], by omega, Lib.hid (by rw [← HR.out, HD.out]; simp), HBB⟩
      case measure => simp [intOf]; omega
    · have hcv := conv_one wx (48 + (m : Int)) _ (dig_byte m (by omega))
      have HD : Hid (Lib.decDigits m = [UInt8.ofNat (48 + m)]) := Lib.hid (Lib.decDigits_one (by omega))
      have hm2 := hm1 (UInt8.ofNat (48 + m))
      have HA := Lib.hid (mk_app [UInt8.ofNat (48 + m)] l)
      have HBB := Lib.hid (HB.out.alloc HB.out.size (.cells #[.int .u8 (48 + (m : Int))] 5))
      clear hm1
      generalize UInt8.ofNat (48 + m) = c at hcv HD hm2 HA
      go_wp2
      go_ret
      refine ⟨?_, HBB.out⟩
      unfold dd
      rw [← HR.out, HD.out, ← HA.out]
      rfl

/-- A text's bytes, from a place on. -/
theorem get_ls (t : ByteArray) (k : Nat) (h : k < t.size) : t[k] = (ls t)[k]'(by rw [ls_len]; exact h) := rfl
def Rel10 (fin : Nat) (t : ByteArray) (w : World) (i : Value) (wx : World) : Prop := ∃ k x : Nat, k ≤ t.size ∧ i = .int .i64 k ∧ x < 4294967296 ∧ Hid (SumAt w.heap.size x k wx) ∧ Hid (ckL ((ls t).drop k) x = fin) ∧ Hid (Below w.heap.size w wx)
theorem SumAt.lt {D c n : Nat} {w : World} (h : SumAt D c n w) : D < w.heap.size := lt_of_block h
theorem SumAt.below {D c n : Nat} {w w' : World} (h : SumAt D c n w) (hb : Below w.heap.size w w') : SumAt D c n w' := (hb.block D h.lt).trans h
theorem cells_new (w : World) (b : UInt8) (X : Int) (h : X = (b.toNat : Int)) : CellsAt w.heap.size [b] (w.alloc (.cells #[.int .u8 X] 5)) := by
  intro k hk
  have : k = 0 := by simpa using hk
  subst this
  subst h
  rw [World.cell?_alloc_new]
  rfl
set_option maxHeartbeats 2000000 in
set_option maxRecDepth 100000 in
theorem of10 (t : ByteArray) (hs : t.size ≤ 1099511627776) (w : World) : Calls Tryd.prog 10 #[.string t] w fun e w' => e = .returned (.int .u32 (chk (ls t) : Nat)) ∧ Below w.heap.size w w' := by
  obtain ⟨fin, HF⟩ : ∃ fin, Hid (ckL ((ls t).drop 0) 0 = fin) := ⟨_, Lib.hid rfl⟩
  have HC : Hid (chk (ls t) = 4294967295 - cn t.size fin) := Lib.hid (by unfold chk; rw [ls_len, ← HF.out]; rfl)
  have hff : fin < 4294967296 := by rw [← HF.out]; exact ckL_lt _ _ (by omega)
  rw [HC.out]
  have HS0 : Hid (SumAt w.heap.size 0 0 (w.alloc (.cells #[.int .u32 0, .int .i64 0] 26))) := Lib.hid (heap_alloc_new _ _)
  have HB0 := Lib.hid ((Below.refl w.heap.size w).alloc (Nat.le_refl _) (.cells #[.int .u32 0, .int .i64 0] 26))
  go_enter Tryd.func10, Tryd.ntmps10
  go_wp2
  go_loopw [7] (Rel10 fin t w) (fun i _ => t.size - (intOf i).toNat)
  case atStart => exact ⟨0, 0, Nat.zero_le _, rfl, by omega, HS0, HF, HB0⟩
  case round =>
    obtain ⟨k, x, hk, rfl, hx, HS, HR, HB⟩ := hrel
    rename World => wx
    by_cases hlt : k < t.size
    · have hlt' : k < (ls t).length := by rw [ls_len]; exact hlt
      have HD := Lib.hid (drop_at (ls t) k hlt')
      have hbt := get_ls t k hlt
      generalize (ls t)[k] = b at HD hbt
      have hD := HS.out.lt
      have C := Lib.hid (add6 w.heap.size x k wx.heap.size 1 [b] (wx.alloc (.cells #[.int .u8 (b.toNat : Int)] 5)) (HS.out.below ((Below.refl _ _).alloc (Nat.le_refl _) _)) hx (by omega) (cells_new wx b _ rfl) (by omega) (by simp))
      have hb8 := by8_lt x b.toNat
      have HS2 : Hid (SumAt w.heap.size (ckL [b] x) (k + 1) ((wx.alloc (.cells #[.int .u8 (b.toNat : Int)] 5)).setRow w.heap.size (sumC (ckL [b] x) (k + 1)))) := Lib.hid ((HS.out.below ((Below.refl _ _).alloc (Nat.le_refl _) _)).row _ _)
      have HB2 := Lib.hid (below_setRow (HB.out.alloc HB.out.size (.cells #[.int .u8 (b.toNat : Int)] 5)) (Nat.le_refl _) (sumC (ckL [b] x) (k + 1)))
      clear hD
      go_wp2_with fail
      refine C.out.mono ?_
      rintro e w1 ⟨rfl, ew⟩
      have EW := Lib.hid ew
      clear ew C
      go_wp2
      go_roundw
      case rel => exact ⟨k + 1, ckL [b] x, by omega, by go_num, hb8, by rw [EW.out]; exact HS2, Lib.hid (by rw [← HR.out, HD.out]; rfl), by rw [EW.out]; exact HB2⟩
      case measure => simp [intOf]; omega
    · obtain rfl : k = t.size := by omega
      have HX : Hid (x = fin) := Lib.hid (by rw [← HR.out, ← ls_len, List.drop_length]; rfl)
      have C := Lib.hid (value8 w.heap.size x t.size wx HS.out hx hs)
      go_wp2_with fail
      refine C.out.mono ?_
      rintro e w1 ⟨rfl, rfl⟩
      clear C
      go_wp2
      go_ret
      rw [HX.out]
      exact ⟨rfl, HB.out⟩

/-- A check's line. -/
def lineS (x n : Nat) : ByteArray := dd x ++ mk [32] ++ dd n
theorem app_size (a b : ByteArray) : (a ++ b).size = a.size + b.size := ByteArray.size_append
set_option maxHeartbeats 2000000 in
set_option maxRecDepth 100000 in
theorem line11 (t : ByteArray) (hs : t.size ≤ 1099511627776) (w : World) (ht : Tab w) : Calls Tryd.prog 11 #[.string t] w fun e w' => e = .returned (.string (lineS (chk (ls t)) t.size)) ∧ Below w.heap.size w w' := by
  have hx := chk_lt (ls t)
  have C1 := Lib.hid (of10 t hs w)
  generalize chk (ls t) = x at hx C1 ⊢
  have hd1 := dd_size x (by omega)
  have hd2 := dd_size t.size (by omega)
  have HT := Lib.hid ht
  clear ht
  go_enter Tryd.func11, Tryd.ntmps11
  go_wp2_with fail
  refine C1.out.mono ?_
  rintro e w1 ⟨rfl, b1⟩
  have C2 := Lib.hid (fu15 x (by omega) w1 (HT.out.below b1))
  have B1 := Lib.hid b1
  clear b1 C1
  go_wp2_with fail
  refine C2.out.mono ?_
  rintro e w2 ⟨rfl, b2⟩
  have B2 := Lib.hid (B1.out.trans (b2.mono B1.out.size))
  have C3 := Lib.hid (it16 t.size hs w2 (HT.out.below B2.out))
  have HL : Hid (lineS x t.size = dd x ++ mk [32] ++ dd t.size) := Lib.hid rfl
  have hn1 : ¬ 9223372036854775807 < (dd x).size + 1 := by omega
  have hz1 : (dd x ++ (⟨#[32]⟩ : ByteArray)).size ≤ 21 := by rw [app_size]; show (dd x).size + 1 ≤ 21; omega
  have hn2 : ¬ 9223372036854775807 < (dd x ++ (⟨#[32]⟩ : ByteArray)).size + (dd t.size).size := by omega
  clear b2 C2 B1
  generalize dd t.size = d2 at hd2 C3 HL hn2
  generalize dd x = d1 at hd1 hn1 hz1 hn2 HL
  go_wp2_with fail
  refine C3.out.mono ?_
  rintro e w3 ⟨rfl, b3⟩
  have B3 := Lib.hid (B2.out.trans (b3.mono B2.out.size))
  clear b3 C3 B2
  go_wp2
  go_ret
  rw [HL.out]
  exact ⟨rfl, B3.out⟩
end Go.Proofs.YteebpidgheaaiaaDoor
