/- DiskWrites, walked: what a write leaves is what the law's own text is. Conditions: none beyond the law's own tests. -/
import Derived.Test.YtljdgechbcifcaaOp
namespace Go.Proofs.Ytljdgechbcifcaa
open Go.RowKit Go.PlainAid
set_option linter.unusedSimpArgs false

theorem ls_app (a b : ByteArray) : ls (a ++ b) = ls a ++ ls b := by simp [ls]
theorem ls_ext (s : ByteArray) (a b : Nat) : ls (s.extract a b) = ((ls s).drop a).take (b - a) := by
  simp [ls, ByteArray.data_extract, List.take_drop]
theorem mk_snoc (l : List UInt8) : mk l ++ (⟨#[0]⟩ : ByteArray) = mk (l ++ [0]) := by
  apply ls_inj
  rw [ls_app, ls_mk, ls_mk]
theorem over_is (u s : ByteArray) (k : Nat) : u.extract 0 k ++ s ++ u.extract (k + s.size) u.size = over u k s := by
  apply ls_inj
  have hu := ls_len u
  have hs := ls_len s
  unfold over splice
  rw [ls_app, ls_app, ls_ext, ls_ext, ls_mk, hs, Nat.sub_zero, List.drop_zero, List.take_of_length_le (l := List.drop (k + s.size) (ls u)) (by rw [List.length_drop, hu]; omega), List.append_assoc]

/-- The file's disk: its bytes are these. -/
structure Wd (S : St) (t : ByteArray) : Prop where
  room : S.room = 65536
  used : S.used = t.size
  node : S.get 2 = some ⟨1, 0, 0, 1, t, [], 0⟩
  small : t.size ≤ 600
theorem wd_new : Wd ((St.new 65536).make 1 0 ⟨#[]⟩) ⟨#[]⟩ := ⟨rfl, rfl, rfl, by decide⟩
theorem Wd.err {S : St} {t s : ByteArray} {b : Int} (h : Wd S t) (h0 : 0 ≤ b) (h5 : b ≤ 500) (h1 : s.size ≤ 100) : wrE S 2 b s = 0 := by
  unfold wrE
  rw [h.node]
  simp only
  rw [if_neg (by simp [fileE]), if_neg (by omega)]
  by_cases e : s.size = 0
  · rw [if_pos e]
  · rw [if_neg e, if_neg (by omega), if_neg]
    rw [h.room, h.used]
    have := h.small
    unfold moreN
    omega
theorem Wd.write {S : St} {t s : ByteArray} {b : Int} (h : Wd S t) (h0 : 0 ≤ b) (h5 : b ≤ 500) (h1 : s.size ≤ 100) (hs : s.size ≠ 0) : Wd (wrS S 2 b s) (wrD t b.toNat s) := by
  have e : wrS S 2 b s = { (S.put 2 ⟨1, 0, 0, 1, wrD t b.toNat s, [], 0⟩) with used := S.used + moreN t b.toNat s } := by
    unfold wrS; rw [if_pos ⟨h.err h0 h5 h1, hs⟩, h.node]
  rw [e]
  refine ⟨h.room, ?_, St.put_same S 2 _, ?_⟩
  · show S.used + _ = _
    rw [h.used, wrD_size]; omega
  · rw [wrD_size]; have := h.small; unfold moreN; omega
theorem wrS_none {S : St} {id b : Int} {s : ByteArray} (h : s.size = 0) : wrS S id b s = S := if_neg (fun e => e.2 h)

def RelW (os : List Opn) (D : Nat) (w : World) (v i : Value) (wr : World) : Prop := ∃ (k : Nat) (t : ByteArray) (L : Lay) (S : St), k ≤ os.length ∧ i = .int .i64 k ∧ v = .string t ∧ Wd S t ∧ DiskAt L D S wr ∧ Below w.heap.size w wr ∧ ∀ b, b < w.heap.size → L.ow b = -1

def RelIn (t : ByteArray) (m : Nat) (v : Value) : Prop := ∃ j, j ≤ m ∧ v = .string (mk (ls t ++ List.replicate j 0))

theorem opBlock (w : World) (o : Opn) : OpAt (w.alloc (.cells #[.int .i64 o.k, .int .i64 o.a, .int .i64 o.b, .string o.s, .string o.t] 34)) w.heap.size 0 o := by
  have h := heap_alloc_new w (.cells #[.int .i64 o.k, .int .i64 o.a, .int .i64 o.b, .string o.s, .string o.t] 34)
  exact ⟨cells_at h rfl, cells_at h rfl, cells_at h rfl, cells_at h rfl, cells_at h rfl⟩

set_option maxHeartbeats 2000000 in
set_option maxRecDepth 100000 in
theorem writes5_main (v0 : Value) (os : List Opn) (w : World) (h : OpsAt w v0 os) (h40 : os.length ≤ 40) : Calls Try.prog 5 #[v0] w fun e w' => e = .returned (.bool true) ∧ Below w.heap.size w w' := by
  have A := Lib.hid (anchor7 w)
  have q1 : ¬ ((40 : Int) < (os.length : Int)) := by omega
  have H := Lib.hid h
  obtain ⟨a0, c0, rfl⟩ := ops_shape h
  clear h
  go_enter Try.func5, Try.ntmps5
  go_wp2_with fail
  refine A.out.mono ?_
  rintro e w1 ⟨rfl, hb1⟩
  have HB1 := Lib.hid hb1
  clear hb1 A
  have CN := Lib.hid (new8 65536 w1 (by decide))
  go_wp2_with fail
  refine CN.out.mono ?_
  rintro e w2 ⟨D, L, rfl, K2, B2, O2⟩
  have CM := make24 L D _ w2 K2 (by decide) (by decide) (by decide) 1 0 ⟨#[]⟩ (by decide) (by decide) (by decide) rfl (by decide)
  rw [show makeS (St.new 65536) 1 0 ⟨#[]⟩ = (St.new 65536).make 1 0 ⟨#[]⟩ from if_pos (by decide), show makeR (St.new 65536) 1 0 ⟨#[]⟩ = .tuple #[.int .i64 2, .int .i64 0] from rfl] at CM
  replace CM := Lib.hid CM
  have HB2 := Lib.hid (HB1.out.trans (B2.mono HB1.out.size))
  have HO2 : Hid (∀ b, b < w.heap.size → L.ow b = -1) := Lib.hid (fun b hb => O2 b (Nat.lt_of_lt_of_le hb HB1.out.size))
  clear K2 B2 O2 CN
  go_wp2_with fail
  refine CM.out.mono ?_
  rintro e w3 ⟨rfl, L3, K3, E3, F3⟩
  have B3 := F3.low HB2.out HB2.out.size HO2.out
  have R0 : Hid (RelW os D w (.string ⟨#[]⟩) (.int .i64 0) w3) := Lib.hid ⟨0, ⟨#[]⟩, L3, _, Nat.zero_le _, rfl, rfl, wd_new, K3, B3, fun b hb => (E3 b (Nat.lt_of_lt_of_le hb HB2.out.size)).trans (HO2.out b hb)⟩
  clear K3 E3 F3 B3 CM HB1 HB2 HO2
  go_wp2
  go_loopw [7, 34] (RelW os D w) (fun _ i _ => os.length - (intOf i).toNat)
  case atStart => exact R0.out
  case round =>
    clear R0
    obtain ⟨k, t, L, S, hk, rfl, rfl, hwd, K, hb, hO⟩ := hrel
    have HB := Lib.hid hb
    have HO := Lib.hid hO
    have HK := Lib.hid K
    have HW := Lib.hid hwd
    clear hb hO K hwd
    by_cases hlt : k < os.length
    · obtain ⟨o, ho⟩ := get_some hlt
      obtain ⟨hfit, hshape⟩ := H.out
      rcases hshape with ⟨rfl, _⟩ | ⟨b, off, c, e0, hcell⟩
      · simp at hlt
      cases e0
      have HX := Lib.hid (hfit o (List.mem_of_getElem? ho))
      have P0 := (hcell k o ho).low HB.out
      have p0 := P0.c0
      have p1 := P0.c1
      have p2 := P0.c2
      have p3 := P0.c3
      have p4 := P0.c4
      clear P0 hcell hfit ho
      by_cases hb0 : o.b < 0
      · go_wp2
        go_ret
        exact ⟨rfl, HB.out.alloc HB.out.size _⟩
      by_cases hb5 : 500 < o.b
      · go_wp2
        go_ret
        exact ⟨rfl, HB.out.alloc HB.out.size _⟩
      by_cases hs1 : 100 < o.s.size
      · go_wp2
        go_ret
        exact ⟨rfl, HB.out.alloc HB.out.size _⟩
      have B1 := (Below.refl wr.heap.size wr).alloc (Nat.le_refl _) (.cells #[.int .i64 o.k, .int .i64 o.a, .int .i64 o.b, .string o.s, .string o.t] 34)
      have K1 := HK.out.below B1
      have P1 := opBlock wr o
      have HB1 := Lib.hid (HB.out.alloc HB.out.size (.cells #[.int .i64 o.k, .int .i64 o.a, .int .i64 o.b, .string o.s, .string o.t] 34))
      have hsb : wr.heap.size < (wr.alloc (.cells #[.int .i64 o.k, .int .i64 o.a, .int .i64 o.b, .string o.s, .string o.t] 34)).heap.size := by simp
      have hofr : L.ow wr.heap.size = -1 := HK.out.fresh _ (Nat.le_refl _)
      have CW := write25 L D S _ K1 (by rw [HW.out.used]; omega) (by rw [HW.out.used, HW.out.room]; have := HW.out.small; omega) (by rw [HW.out.room]; decide) 2 o.b (in64 (by decide)) HX.out.b (by intro x hx; rw [HW.out.node] at hx; cases hx; have := HW.out.small; show t.size ≤ _; omega) o.s HX.out.s
      rw [HW.out.err (by omega) (by omega) (by omega)] at CW
      replace CW := Lib.hid CW
      have HP1 := Lib.hid P1
      clear K1 P1 B1
      go_wp2_with fail
      refine CW.out.mono ?_
      rintro e w4 ⟨rfl, L4, K4, E4, F4⟩
      have hblk : w4.heap[wr.heap.size]? = (wr.alloc (.cells #[.int .i64 o.k, .int .i64 o.a, .int .i64 o.b, .string o.s, .string o.t] 34)).heap[wr.heap.size]? := F4.block _ hsb hofr
      have P4 : OpAt w4 wr.heap.size 0 o := ⟨(World.cell?_of_block hblk).trans HP1.out.c0, (World.cell?_of_block hblk).trans HP1.out.c1, (World.cell?_of_block hblk).trans HP1.out.c2, (World.cell?_of_block hblk).trans HP1.out.c3, (World.cell?_of_block hblk).trans HP1.out.c4⟩
      have HB4 := Lib.hid (F4.low HB1.out HB1.out.size HO.out)
      have HO4 : Hid (∀ b, b < w.heap.size → L4.ow b = -1) := Lib.hid (fun b hb => (E4 b (Nat.lt_of_lt_of_le hb HB1.out.size)).trans (HO.out b hb))
      have HK4 := Lib.hid K4
      have r2 := P4.c2
      have r3 := P4.c3
      clear p0 p1 p2 p3 p4 K4 E4 F4 P4 hblk CW HB1 HB HP1 hsb hofr HK HO
      generalize wr.heap.size = z at r2 r3
      by_cases hs0 : o.s.size = 0
      · have he := toList_em hs0
        go_wp2
        go_roundw
        case rel => exact ⟨k + 1, t, L4, S, hlt, by go_num, rfl, HW.out, by rw [← wrS_none (S := S) (id := 2) (b := o.b) hs0]; exact HK4.out, HB4.out, HO4.out⟩
        case measure => simp [intOf]; omega
      have he := toList_ne hs0
      obtain ⟨n, hn⟩ : ∃ n : Nat, o.b = n := ⟨o.b.toNat, by omega⟩
      have HW4 := Lib.hid (HW.out.write (b := o.b) (s := o.s) (by omega) (by omega) (by omega) hs0)
      have HT := Lib.hid HW.out.small
      rw [hn] at r2 HW4 HK4
      rw [Int.toNat_natCast] at HW4
      have hn5 : n ≤ 500 := by omega
      have hs9 : o.s.size ≤ 100 := by omega
      clear hb0 hb5 hs1 hn HW HX
      generalize hos : o.s = s at r3 he hs0 HW4 HK4 hs9
      clear hos
      obtain ⟨m, hm⟩ : ∃ m, moreN t n s = m := ⟨_, rfl⟩
      have HM := Lib.hid hm
      have hm6 : t.size + m ≤ 700 := by have := HT.out; unfold moreN at hm; omega
      have hmle : n + s.size ≤ t.size + m := by unfold moreN at hm; omega
      have hmeq : m ≠ 0 → t.size + m = n + s.size := by unfold moreN at hm; omega
      have HMEQ := Lib.hid hmeq
      clear hm hmeq
      go_wp2
      go_loop [7] (RelIn t m) (fun v => match v with | .string u => t.size + m - u.size | _ => 0)
      case atStart => exact ⟨0, Nat.zero_le _, by rw [List.replicate_zero, List.append_nil, mk_ls]⟩
      case round =>
        obtain ⟨j, hj, rfl⟩ := hrel
        have hsz : (mk (ls t ++ List.replicate j 0)).size = t.size + j := by rw [mk_size]; simp
        by_cases hjm : j < m
        · have hlt2 : ((mk (ls t ++ List.replicate j 0)).size : Int) < (n : Int) + (s.size : Int) := by rw [hsz]; have := HMEQ.out (by omega); omega
          have HS := Lib.hid (mk_snoc (ls t ++ List.replicate j 0))
          have HSZ := Lib.hid hsz
          clear hsz
          generalize mk (ls t ++ List.replicate j 0) = u at hlt2 HS HSZ
          go_wp2
          go_round
          case rel => exact ⟨j + 1, hjm, by rw [HS.out, List.append_assoc, ← List.replicate_succ']⟩
          case measure =>
            have e1 : (u ++ (⟨#[0]⟩ : ByteArray)).size = t.size + (j + 1) := by rw [HS.out, mk_size]; simp
            have e2 := HSZ.out
            show t.size + m - (u ++ (⟨#[0]⟩ : ByteArray)).size < t.size + m - u.size
            omega
        · obtain rfl : j = m := by omega
          have hlt2 : ¬ ((mk (ls t ++ List.replicate j 0)).size : Int) < (n : Int) + (s.size : Int) := by rw [hsz]; omega
          have HD : Hid (wrD t n s = over (mk (ls t ++ List.replicate j 0)) n s) := by show _ = _; unfold wrD; rw [HM.out]
          have HV := Lib.hid (over_is (mk (ls t ++ List.replicate j 0)) s n)
          have hnu : n + s.size ≤ (mk (ls t ++ List.replicate j 0)).size := by rw [hsz]; exact hmle
          have hu7 : (mk (ls t ++ List.replicate j 0)).size ≤ 700 := by rw [hsz]; exact hm6
          rw [← HD.out] at HV
          clear hsz HD
          generalize mk (ls t ++ List.replicate j 0) = u at hlt2 HV hnu hu7
          go_wp2
          go_region
          go_wp2
          go_roundw
          case rel => exact ⟨k + 1, wrD t n s, L4, _, hlt, by go_num, by rw [← HV.out], HW4.out, HK4.out.below ((Below.refl _ _).drew), HB4.out.drew, HO4.out⟩
          case measure => simp [intOf]; omega
    · obtain rfl : k = os.length := by omega
      have CD := data26 L D S wr HK.out 2 (in64 (by decide))
      rw [HW.out.node] at CD
      replace CD : Calls _ _ _ _ (fun e w' => e = .returned (.tuple #[.string t, .int .i64 0]) ∧ wr = w') := CD
      have CU := used22 L D S wr HK.out
      rw [HW.out.used] at CU
      replace CD := Lib.hid CD
      replace CU := Lib.hid CU
      go_wp2_with (first | (go_at_call 26; refine CD.out.mono ?_; rintro e w' ⟨rfl, rfl⟩) | (go_at_call 22; refine CU.out.mono ?_; rintro e w' ⟨rfl, rfl⟩))
      go_ret
      exact ⟨rfl, HB.out⟩

set_option maxHeartbeats 1000000 in
set_option maxRecDepth 100000 in
theorem writes5_early (v0 : Value) (os : List Opn) (w : World) (h : OpsAt w v0 os) (h40 : 40 < os.length) : Calls Try.prog 5 #[v0] w fun e w' => e = .returned (.bool true) ∧ Below w.heap.size w w' := by
  have A := Lib.hid (anchor7 w)
  have q1 : (40 : Int) < (os.length : Int) := by omega
  obtain ⟨a0, c0, rfl⟩ := ops_shape h
  clear h h40
  go_enter Try.func5, Try.ntmps5
  go_wp2_with (go_at_call 7; refine A.out.mono ?_; rintro e w1 ⟨rfl, hb⟩; have HB := Lib.hid hb; clear hb)
  go_ret
  exact ⟨rfl, Hid.out (by assumption)⟩
theorem writes5_in (v0 : Value) (os : List Opn) (w : World) (h : OpsAt w v0 os) : Calls Try.prog 5 #[v0] w fun e w' => e = .returned (.bool true) ∧ Below w.heap.size w w' := by
  by_cases h1 : 40 < os.length
  · exact writes5_early v0 os w h h1
  · exact writes5_main v0 os w h (by omega)
end Go.Proofs.Ytljdgechbcifcaa
