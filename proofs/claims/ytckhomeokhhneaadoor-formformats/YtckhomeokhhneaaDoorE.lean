/- Contract of our Unescape. Conditions: lengths below a bound. -/
import Derived.Test.YtckhomeokhhneaaDoorD
namespace Go.Proofs.YtckhomeokhhneaaDoor
open Go.RowKit Go.PlainAid
set_option linter.unusedSimpArgs false
set_option linter.unusedVariables false

theorem ls_head (t : ByteArray) (h : 0 < t.size) : ls t = UInt8.ofNat (at0 (ls t) 0) :: (ls t).drop 1 := by
  have := ls_cut t 0 h
  rw [List.drop_zero] at this
  exact this
theorem une_step (t : ByteArray) (h : 0 < t.size) (h2 : at0 (ls t) 0 = 92) : une (ls t) = (bsl ((ls t).drop 1)).1 :: une (ls (t.extract (1 + (bsl ((ls t).drop 1)).2) t.size)) := by
  rw [ls_drop, ← List.drop_drop]
  conv => lhs; rw [ls_head t h, h2]
  exact une_bs _
theorem une_step' (t : ByteArray) (h : 0 < t.size) (h2 : at0 (ls t) 0 ≠ 92) : une (ls t) = UInt8.ofNat (at0 (ls t) 0) :: une (ls (t.extract 1 t.size)) := by
  rw [ls_drop]
  conv => lhs; rw [ls_head t h]
  refine une_ch _ _ ?_
  intro e
  have := congrArg UInt8.toNat e
  rw [at0_byte] at this
  exact h2 this
def Rel12 (s : ByteArray) (w : World) (x v : Value) (wx : World) : Prop := ∃ (t : ByteArray) (p : List UInt8), x = .string t ∧ Hid (OB w.heap.size v p wx) ∧ Hid (p ++ une (ls t) = une (ls s)) ∧ Hid (Below w.heap.size w wx) ∧ w.heap.size ≤ wx.heap.size ∧ p.length + t.size ≤ s.size
set_option maxHeartbeats 4000000 in
set_option maxRecDepth 100000 in
theorem unescape12 (s : ByteArray) (w : World) (hs : s.size ≤ 1000000) : Calls Tryd.prog 12 #[.string s] w (GivesT w (une (ls s))) := by
  obtain ⟨w0, hmk, hO, hbel⟩ := run_make0 s.size (by omega) w
  have HO := Lib.hid hO
  have HB := Lib.hid hbel
  have hB0 : w.heap.size ≤ w0.heap.size := hbel.size
  clear hO hbel
  go_enter Tryd.func12, Tryd.ntmps12
  go_wp2
  go_loopw [0, 3] (Rel12 s w) (fun x _ _ => szOf x)
  case atStart => exact ⟨s, [], rfl, HO, Lib.hid rfl, HB, hB0, by simp⟩
  case round =>
    obtain ⟨t, p, rfl, HP, HR, HBw, hBx, hp⟩ := hrel
    rename World => wx
    obtain ⟨a2, c2, rfl⟩ := HP.out.shape
    by_cases h0 : t.size = 0
    · have hem := toList_em h0
      have HF : Hid (p = une (ls s)) := Lib.hid (by rw [← HR.out, ls_em h0, une_nil, List.append_nil])
      have hk1 := HP.out.back
      go_wp2
      go_ret
      rw [← HF.out]
      exact ⟨rfl, HBw.out⟩
    · have hne := toList_ne (s := t) (by omega)
      have hb := get_bt t
      have h1 : 1 ≤ t.size := by omega
      have H0 := Lib.hid (bt_at t 0)
      by_cases h92 : at0 (ls t) 0 = 92
      · have e1 : (bt t 0 == 92) = true := by rw [H0.out, h92]; rfl
        have HU := Lib.hid (une_step t h1 h92)
        have C := Lib.hid fun W => backslash17 t W h1 (by omega)
        have hle := (bsl_le ((ls t).drop 1)).1
        rw [List.length_drop, ls_len] at hle
        generalize bsl ((ls t).drop 1) = X at HU C hle
        obtain ⟨b, n⟩ := X
        simp only at hle HU
        have hn1 : 1 + n ≤ t.size := by omega
        obtain ⟨q, Hq⟩ : ∃ q, Hid (p ++ [b] = q) := ⟨_, Lib.hid rfl⟩
        have hql : q.length = p.length + 1 := by rw [← Hq.out]; simp
        have hsz : (t.extract (1 + n) t.size).size = t.size - (1 + n) := ext_sz _ _ _ (Nat.le_refl _)
        have hqt : q.length + (t.size - (1 + n)) ≤ s.size := by omega
        have HZ := Lib.hid hsz
        clear hsz hql
        have HQ : Hid (q ++ une (ls (t.extract (1 + n) t.size)) = une (ls s)) := Lib.hid (by rw [← HR.out, HU.out, ← Hq.out]; simp)
        unfold bsV at C
        simp only at C
        obtain ⟨m, Hm⟩ : ∃ m, Hid (1 + n = m) := ⟨_, Lib.hid rfl⟩
        rw [Hm.out] at C HQ hn1 HZ hqt
        have hm1 : 1 ≤ m := by rw [← Hm.out]; omega
        clear HU h92 hle
        go_wp2_with (first
          | (go_at_call 17; refine (C.out _).mono ?_; rintro e w' ⟨rfl, rfl⟩)
          | (at_builtin; refine wpList_appV rfl _ _ rfl _ w.heap.size p [b] ⟨wx.heap.size, 0, none⟩ 1 rfl rfl (OB.alloc HP.out _) ?c1 ?c2 ?c3 ?_))
        case c1 => simp; omega
        case c2 => simp; omega
        case c3 => exact new_cells wx [b] _ rfl
        · intro v' w1 hO' hg
          rw [Hq.out] at hO'
          have HO2 := Lib.hid hO'
          have HB2 := Lib.hid ((HBw.out.alloc hBx _).grown hg (by simp; omega) (fun j hj => (HP.out.lt j hj).1))
          have hs2 : w.heap.size ≤ w1.heap.size := HB2.out.size
          obtain ⟨a3, c3, rfl⟩ := hO'.shape
          clear hO' hg
          go_wp2
          go_roundw
          case rel => exact ⟨t.extract m t.size, q, rfl, HO2, HQ, HB2, hs2, by rw [HZ.out]; exact hqt⟩
          case measure => show (t.extract m t.size).size < t.size; rw [HZ.out]; omega
      · have e1 : (bt t 0 == 92) = false := by rw [H0.out]; simp; omega
        have HU := Lib.hid (une_step' t h1 h92)
        have HC : Hid ([Value.int .u8 (at0 (ls t) 0 : Int)] = bc [UInt8.ofNat (at0 (ls t) 0)]) := Lib.hid (by simp only [bc, List.map_cons, List.map_nil, at0_byte])
        rw [← H0.out] at HC
        generalize UInt8.ofNat (at0 (ls t) 0) = b at HU HC
        obtain ⟨q, Hq⟩ : ∃ q, Hid (p ++ [b] = q) := ⟨_, Lib.hid rfl⟩
        have hql : q.length = p.length + 1 := by rw [← Hq.out]; simp
        have hsz : (t.extract 1 t.size).size = t.size - 1 := ext_sz _ _ _ (Nat.le_refl _)
        have hqt : q.length + (t.size - 1) ≤ s.size := by omega
        have HZ := Lib.hid hsz
        clear hsz hql
        have HQ : Hid (q ++ une (ls (t.extract 1 t.size)) = une (ls s)) := Lib.hid (by rw [← HR.out, HU.out, ← Hq.out]; simp)
        clear HU h92
        go_wp2_with (at_builtin; refine wpList_appV rfl _ _ rfl _ w.heap.size p [b] ⟨wx.heap.size, 0, none⟩ 1 rfl rfl (OB.alloc HP.out _) ?c1 ?c2 ?c3 ?_)
        case c1 => simp; omega
        case c2 => simp; omega
        case c3 => exact new_cells wx [b] _ HC.out
        · intro v' w1 hO' hg
          rw [Hq.out] at hO'
          have HO2 := Lib.hid hO'
          have HB2 := Lib.hid ((HBw.out.alloc hBx _).grown hg (by simp; omega) (fun j hj => (HP.out.lt j hj).1))
          have hs2 : w.heap.size ≤ w1.heap.size := HB2.out.size
          obtain ⟨a3, c3, rfl⟩ := hO'.shape
          clear hO' hg
          go_wp2
          go_roundw
          case rel => exact ⟨t.extract 1 t.size, q, rfl, HO2, HQ, HB2, hs2, by rw [HZ.out]; exact hqt⟩
          case measure => show (t.extract 1 t.size).size < t.size; rw [HZ.out]; omega
end Go.Proofs.YtckhomeokhhneaaDoor
