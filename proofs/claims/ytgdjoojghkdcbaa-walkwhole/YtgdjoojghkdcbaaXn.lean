/- The document's Put, Set and Drop, where they are done: what comes of it is new memory. Conditions: entries by rising names. -/
import Derived.Test.YtgdjoojghkdcbaaXl
namespace Go.Proofs.Ytgdjoojghkdcbaa
open Go.RowKit Go.PlainAid
set_option linter.unusedSimpArgs false

set_option maxHeartbeats 2000000 in
set_option maxRecDepth 100000 in
theorem fput58_new (B B1 gv cap : Nat) (l : List En) (s : ByteArray) (n : Int) (w : World) (h : Row 85 B (.slice (some ⟨gv, 0, none⟩) l.length cap) l w) (hr : Rising l) (hl : l.length ≤ 1000) (hs : s.size ≤ 255) (hB : B1 ≤ w.heap.size)
    (h2 : nameB s = true) (h3 : hasN s l = false) :
    Calls Try.prog 46 #[.slice (some ⟨gv, 0, none⟩) l.length cap, .string s, .int .i64 n] w (Told B1 w 0 (l.take (pos s l) ++ (s, n) :: l.drop (pos s l))) := by
  obtain ⟨i0, hi0, hz0, hz1, hz2⟩ := info_parts Try.info85
  have CN := Lib.hid (fun w => name28 s w (by unfold maxLen; omega))
  rw [h2] at CN
  have CF := Lib.hid (find9 B _ l s w h hr hl)
  rw [show findI s l = -1 by unfold findI; rw [h3]; rfl] at CF
  have H := Lib.hid h
  have HP := Lib.hid (pos_lt s l hr)
  have HNO := Lib.hid (hasN_false hr h3)
  have HE : Hid (∀ u w', Row 85 w.heap.size u (outB s n l l.length) w' → Below w.heap.size w w' → Told B1 w 0 (l.take (pos s l) ++ (s, n) :: l.drop (pos s l)) (.returned (.tuple #[u, .int .i64 0])) w') := by
    intro u w' a1 a2
    rw [outB_end] at a1
    exact ⟨u, rfl, a1.mono hB, a2⟩
  clear h hr h2 h3
  go_enter Try.func46, Try.ntmps46
  go_wp2_with (first | (go_at_call 74; refine (CN.out _).mono ?_; rintro e w' ⟨rfl, rfl⟩) | (go_at_call 75; refine CF.out.mono ?_; rintro e w' ⟨rfl, rfl⟩))
  go_loopw [8, 9] (RelA s l w) (fun _ i _ => l.length - (intOf i).toNat)
  case atStart => exact ⟨0, Nat.zero_le _, rfl, by unfold outA; simp; exact row_nil _ _ _, Below.refl _ _⟩
  case round =>
    obtain ⟨k, hk, rfl, ho, hb⟩ := hrel
    have HO := Lib.hid ho
    have HB := Lib.hid hb
    have hlen := outA_le s l k
    obtain ⟨a1, cc1, rfl⟩ := slice_shape ho
    clear ho
    by_cases hlt : k < l.length
    · obtain ⟨x, hx⟩ := get_some hlt
      have c3 := (H.out.below hb).cell0 hx
      have c4 := (H.out.below hb).cell1 hx
      have hcm := HP.out k x hx
      have HX := Lib.hid hx
      clear hx hb
      by_cases hkp : k < pos s l
      · have HA := Lib.hid (outA_hit HX.out hkp)
        have hcm2 : Op.bytesLess x.1.toList s.toList = true := by rw [show Op.bytesLess x.1.toList s.toList = bl x.1 s from rfl, hcm]; simpa using hkp
        have HPOS := Lib.hid hkp
        clear hcm hkp
        generalize outA s l k = acc at HO hlen HA
        go_wp2_with (at_builtin; refine wpList_append_own _ rfl _ _ 46 rfl w.heap.size 85 i0 (.agg #[.string ⟨#[]⟩, .int .i64 0]) 2 24 Try.underlying46 hi0 hz0 hz1 hz2 rfl (by decide) _ _ _ rfl (World.ownsRow.alloc HO.out _) ⟨wr.heap.size, 0, none⟩ 1 1 (cs [x]) rfl rfl (new_two (heap_alloc_new wr _)) (cs_one _) (by unfold maxLen; omega) (by omega) (by have := HB.out.size; simp; omega) ?_)
        intro v' w2 r1 r2 _
        have P := Lib.hid (row_push HO.out HB.out r1 r2)
        obtain ⟨a', c', rfl⟩ := slice_shape r1
        clear r1 r2
        go_wp2
        go_roundw
        case rel => exact ⟨k + 1, hlt, by go_num, by rw [← HA.out]; exact P.out.1, P.out.2⟩
        case measure => simp [intOf]; omega
      · have HA := Lib.hid (outA_miss hkp)
        have hcm2 : Op.bytesLess x.1.toList s.toList = false := by rw [show Op.bytesLess x.1.toList s.toList = bl x.1 s from rfl, hcm]; simpa using hkp
        have HPOS := Lib.hid hkp
        clear hcm hkp
        go_wp2
        go_roundw
        case rel => exact ⟨k + 1, hlt, by go_num, by rw [← HA.out]; exact HO.out, HB.out⟩
        case measure => simp [intOf]; omega
    · obtain rfl : k = l.length := by omega
      have HA := Lib.hid (outA_end s l)
      have HS := Lib.hid (outB_start s n l)
      clear hb
      generalize outA s l l.length = acc at HO hlen HA
      go_wp2_with (at_builtin; refine wpList_append_own _ rfl _ _ 46 rfl w.heap.size 85 i0 (.agg #[.string ⟨#[]⟩, .int .i64 0]) 2 24 Try.underlying46 hi0 hz0 hz1 hz2 rfl (by decide) _ _ _ rfl (World.ownsRow.alloc HO.out _) ⟨wr.heap.size, 0, none⟩ 1 1 (cs [(s, n)]) rfl rfl (new_two (heap_alloc_new wr _)) (cs_one _) (by unfold maxLen; omega) (by omega) (by have := HB.out.size; simp; omega) ?_)
      intro v' w2 r1 r2 _
      have P := Lib.hid (row_push HO.out HB.out r1 r2)
      obtain ⟨a', c', rfl⟩ := slice_shape r1
      clear r1 r2 HO HB
      go_wp2
      go_loopw [8, 10] (RelB s n l w) (fun _ i _ => l.length - (intOf i).toNat)
      case atStart => exact ⟨0, Nat.zero_le _, rfl, by rw [HS.out, ← HA.out]; exact P.out.1, P.out.2⟩
      case round =>
        obtain ⟨k, hk, rfl, ho, hb⟩ := hrel
        have HO := Lib.hid ho
        have HB := Lib.hid hb
        have hlen := outB_le s n l k
        obtain ⟨a1, cc1, rfl⟩ := slice_shape ho
        clear ho
        by_cases hlt : k < l.length
        · obtain ⟨x, hx⟩ := get_some hlt
          have c3 := (H.out.below hb).cell0 hx
          have c4 := (H.out.below hb).cell1 hx
          have hcm := HP.out k x hx
          have hne : (x.1.toList == s.toList) = false := by rw [beq_list]; exact decide_eq_false (HNO.out x (List.mem_of_getElem? hx))
          have HX := Lib.hid hx
          clear hx hb
          by_cases hkp : k < pos s l
          · have HA := Lib.hid (outB_miss (n := n) hkp)
            have hcm2 : Op.bytesLess x.1.toList s.toList = true := by rw [show Op.bytesLess x.1.toList s.toList = bl x.1 s from rfl, hcm]; simpa using hkp
            clear hcm hkp
            go_wp2
            go_roundw
            case rel => exact ⟨k + 1, hlt, by go_num, by rw [← HA.out]; exact HO.out, HB.out⟩
            case measure => simp [intOf]; omega
          · have HA := Lib.hid (outB_hit (n := n) HX.out hkp)
            have hcm2 : Op.bytesLess x.1.toList s.toList = false := by rw [show Op.bytesLess x.1.toList s.toList = bl x.1 s from rfl, hcm]; simpa using hkp
            clear hcm hkp
            generalize outB s n l k = acc at HO hlen HA
            go_wp2_with (at_builtin; refine wpList_append_own _ rfl _ _ 46 rfl w.heap.size 85 i0 (.agg #[.string ⟨#[]⟩, .int .i64 0]) 2 24 Try.underlying46 hi0 hz0 hz1 hz2 rfl (by decide) _ _ _ rfl (World.ownsRow.alloc HO.out _) ⟨wr.heap.size, 0, none⟩ 1 1 (cs [x]) rfl rfl (new_two (heap_alloc_new wr _)) (cs_one _) (by unfold maxLen; omega) (by omega) (by have := HB.out.size; simp; omega) ?_)
            intro v' w2 r1 r2 _
            have P := Lib.hid (row_push HO.out HB.out r1 r2)
            obtain ⟨a', c', rfl⟩ := slice_shape r1
            clear r1 r2
            go_wp2
            go_roundw
            case rel => exact ⟨k + 1, hlt, by go_num, by rw [← HA.out]; exact P.out.1, P.out.2⟩
            case measure => simp [intOf]; omega
        · obtain rfl : k = l.length := by omega
          clear hb
          go_wp2
          go_ret2
          exact HE.out _ _ HO.out HB.out

theorem fput58 (B B1 : Nat) (u : Value) (l : List En) (s : ByteArray) (n : Int) (w : World) (h : Row 85 B u l w) (hr : Rising l) (hl : l.length ≤ 1000) (hB : B1 ≤ w.heap.size) (h0 : putE s l = 0) :
    Calls Try.prog 46 #[u, .string s, .int .i64 n] w (Told B1 w 0 (putL s n l)) := by
  obtain ⟨h2, h3⟩ := putE_zero h0
  have h1 := nameB_le h2
  have e2 : putL s n l = l.take (pos s l) ++ (s, n) :: l.drop (pos s l) := by unfold putL; rw [h0]; rfl
  rw [e2]
  rcases h.cases with ⟨e3, rfl⟩ | ⟨gv, cap, cur, e3, _⟩
  · rw [e3]
    exact rput18_nil B1 s n w h1 hB h2
  · rw [e3] at h ⊢
    exact fput58_new B B1 gv cap l s n w h hr hl h1 hB h2 h3

end Go.Proofs.Ytgdjoojghkdcbaa
