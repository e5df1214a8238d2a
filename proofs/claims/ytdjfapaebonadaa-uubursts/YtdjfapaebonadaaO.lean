/- Contract of the bytes of letters put behind others. Conditions: at most 45 bytes, and as many letters as they need. -/
import Derived.Test.YtdjfapaebonadaaN
namespace Go.Proofs.Ytdjfapaebonadaa
open Go.RowKit Go.PlainAid
set_option linter.unusedSimpArgs false
set_option linter.unusedVariables false

/-- The call returns a slice of these bytes, and true; or no slice, and false. -/
def GivesO (B : Nat) (w : World) (o : Option (List UInt8)) (e : Ending) (w' : World) : Prop := Below B w w' ∧ match o with
  | none => e = .returned (.tuple #[.slice none 0 0, .bool false])
  | some l => ∃ v, e = .returned (.tuple #[v, .bool true]) ∧ OB B v l w'
def Rel40 (B : Nat) (w : World) (R : Option (List UInt8)) (v x n : Value) (wx : World) : Prop := ∃ (p : List UInt8) (t : ByteArray) (k : Int), x = .string t ∧ n = .int .i64 k ∧ -2 ≤ k ∧ k ≤ 45 ∧ Hid (OB B v p wx) ∧ Hid ((gr k.toNat (ls t)).map (p ++ ·) = R) ∧ Hid (Below B w wx) ∧ B ≤ wx.heap.size ∧ p.length + k.toNat ≤ 1000045 ∧ (k.toNat + 2) / 3 * 4 ≤ t.size ∧ t.size ≤ 100000
theorem gr_step {k : Int} {t : ByteArray} {p : List UInt8} {v : Nat} (hk : 0 < k) (h : r4 (ls t) = some v) : (gr (k - 3).toNat (ls (t.extract 4 t.size))).map (p ++ (three v).take k.toNat ++ ·) = (gr k.toNat (ls t)).map (p ++ ·) := by
  rw [gr_some (by omega) h, ls_drop, show (k - 3).toNat = k.toNat - 3 by omega, Option.map_map]
  congr 1
  funext d
  simp
theorem three_cells (V : Nat) (h : V < 16777216) : [Value.int .u8 ((V : Int) / 65536), Value.int .u8 ((V : Int) / 256 % 256), Value.int .u8 ((V : Int) % 256)] = bc (three V) := by
  have e1 : (V : Int) / 65536 = ((UInt8.ofNat (V / 65536)).toNat : Int) := by rw [UInt8.toNat_ofNat']; omega
  have e2 : (V : Int) / 256 % 256 = ((UInt8.ofNat (V / 256)).toNat : Int) := by rw [UInt8.toNat_ofNat']; omega
  have e3 : (V : Int) % 256 = ((UInt8.ofNat V).toNat : Int) := by rw [UInt8.toNat_ofNat']; omega
  rw [e1, e2, e3]; rfl
theorem new_cellsT (w : World) (m : List UInt8) (n : Nat) (cs : Array Value) (T : TypeId) (e : cs.toList = bc m) : ∀ j u, (bc (m.take n))[j]? = some u → (w.alloc (.cells cs T)).cell? ((⟨w.heap.size, 0, none⟩ : Addr).add j) = some u := by
  intro j u hj
  rw [add_at, Nat.zero_add, World.cell?_alloc_new]
  unfold bc at hj
  rw [List.map_take, List.getElem?_take] at hj
  split at hj
  · have e2 : List.map (fun b : UInt8 => Value.int .u8 b.toNat) m = cs.toList := e.symm
    rw [e2] at hj
    simpa using hj
  · cases hj
set_option maxHeartbeats 4000000 in
set_option maxRecDepth 100000 in
theorem bytes40 {B : Nat} {v : Value} {acc : List UInt8} (t : ByteArray) (n : Nat) (w : World) (hO : OB B v acc w) (hB : B ≤ w.heap.size) (hn : acc.length ≤ 1000000) (h45 : n ≤ 45) (ht : (n + 2) / 3 * 4 ≤ t.size) (ht2 : t.size ≤ 100000) :
    Calls Try.prog 40 #[v, .string t, .int .i64 n] w (GivesO B w ((gr n (ls t)).map (acc ++ ·))) := by
  have HO := Lib.hid hO
  obtain ⟨a, c, rfl⟩ := hO.shape
  clear hO
  obtain ⟨R, HR⟩ : ∃ R, Hid ((gr n (ls t)).map (acc ++ ·) = R) := ⟨_, Lib.hid rfl⟩
  rw [HR.out]
  go_enter Try.func40, Try.ntmps40
  go_wp2
  go_loopw [0, 1, 2] (Rel40 B w R) (fun _ _ n _ => (intOf n).toNat)
  case atStart => exact ⟨acc, t, n, rfl, rfl, by omega, by omega, HO, HR, Lib.hid (Below.refl _ _), hB, by omega, by omega, ht2⟩
  case round =>
    clear HO HR
    obtain ⟨p, t, k, rfl, rfl, hk1, hk2, HP, HE, HBw, hBx, hpl, htl, hts⟩ := hrel
    rename World => wx
    obtain ⟨a2, c2, rfl⟩ := HP.out.shape
    by_cases hk : 0 < k
    · have C := Lib.hid fun w => four47 t w (by omega) hts
      cases h4 : r4 (ls t) with
      | none =>
        rw [h4] at C
        unfold v46 at C
        have HN : Hid (R = none) := Lib.hid (by rw [← HE.out, gr_none (by omega) h4]; rfl)
        clear h4
        go_wp2_with (go_at_call 47; refine (C.out _).mono ?_; rintro e w' ⟨rfl, rfl⟩)
        go_ret2
        rw [HN.out]
        exact ⟨HBw.out, rfl⟩
      | some V =>
        rw [h4] at C
        unfold v46 at C
        have hV := r4_lt h4
        have HN := Lib.hid (gr_step (p := p) hk h4)
        clear h4
        by_cases h3 : 3 < k
        · have HT := Lib.hid (new_cellsT wx (three V) 3 _ 64 (three_cells V hV))
          rw [List.take_of_length_le (l := three V) (by rw [three_len]; omega)] at HN
          rw [List.take_of_length_le (l := three V) (i := 3) (by rw [three_len]; omega)] at HT
          have hml : (three V).length = 3 := rfl
          generalize three V = m at HN HT hml
          obtain ⟨q, Hq⟩ : ∃ q, Hid (p ++ m = q) := ⟨_, Lib.hid rfl⟩
          rw [Hq.out] at HN
          have hql : q.length = p.length + 3 := by rw [← Hq.out, List.length_append, hml]
          have Hql := Lib.hid hql
          have Hml := Lib.hid hml
          have Hsz : Hid ((t.extract 4 t.size).size = t.size - 4) := Lib.hid (ext_sz _ _ _ (Nat.le_refl _))
          have h4s : 4 ≤ t.size := by omega
          clear hql hml
          go_wp2_with (first
            | (go_at_call 47; refine (C.out _).mono ?_; rintro e w' ⟨rfl, rfl⟩)
            | (at_builtin; refine wpList_appV rfl _ _ rfl _ B p m ⟨wx.heap.size, 0, none⟩ 3 rfl (by rw [Hml.out]; rfl) (OB.alloc HP.out _) ?c1 ?c2 ?c3 ?_))
          case c1 => simp; omega
          case c2 => rw [Hml.out]; omega
          case c3 => exact HT.out
          intro v' w2 hO' hg
          rw [Hq.out] at hO'
          have HO2 := Lib.hid hO'
          have HB2 := Lib.hid ((HBw.out.alloc hBx _).grown hg (by simp; omega) (fun j hj => (HP.out.lt j hj).1))
          have hs2 : B ≤ w2.heap.size := Nat.le_trans hB HB2.out.size
          obtain ⟨a3, c3, rfl⟩ := hO'.shape
          clear hO' hg
          go_wp2
          go_roundw
          case rel => exact ⟨q, t.extract 4 t.size, k - 3, rfl, rfl, by omega, by omega, HO2, Lib.hid (HN.out.trans HE.out), HB2, hs2, by rw [Hql.out]; omega, by rw [Hsz.out]; omega, by rw [Hsz.out]; omega⟩
          case measure => simp [intOf]; omega
        · have hk3 : k = 1 ∨ k = 2 ∨ k = 3 := by omega
          clear h3
          rcases hk3 with rfl | rfl | rfl
          · have HT := Lib.hid (new_cellsT wx (three V) 1 _ 64 (three_cells V hV))
            have hml : ((three V).take 1).length = 1 := rfl
            replace HN : Hid (Option.map (p ++ (three V).take 1 ++ ·) (gr (1 - 3 : Int).toNat (ls (t.extract 4 t.size))) = Option.map (p ++ ·) (gr (1 : Int).toNat (ls t))) := HN
            generalize (three V).take 1 = m at HN HT hml
            obtain ⟨q, Hq⟩ : ∃ q, Hid (p ++ m = q) := ⟨_, Lib.hid rfl⟩
            rw [Hq.out] at HN
            have hql : q.length = p.length + 1 := by rw [← Hq.out, List.length_append, hml]
            have Hql := Lib.hid hql
            have Hml := Lib.hid hml
            have Hsz : Hid ((t.extract 4 t.size).size = t.size - 4) := Lib.hid (ext_sz _ _ _ (Nat.le_refl _))
            have h4s : 4 ≤ t.size := by omega
            clear hql hml
            go_wp2_with (first
              | (go_at_call 47; refine (C.out _).mono ?_; rintro e w' ⟨rfl, rfl⟩)
              | (at_builtin; refine wpList_appV rfl _ _ rfl _ B p m ⟨wx.heap.size, 0, none⟩ 3 rfl (by rw [Hml.out]; rfl) (OB.alloc HP.out _) ?c1 ?c2 ?c3 ?_))
            case c1 => simp; omega
            case c2 => rw [Hml.out]; omega
            case c3 => exact HT.out
            intro v' w2 hO' hg
            rw [Hq.out] at hO'
            have HO2 := Lib.hid hO'
            have HB2 := Lib.hid ((HBw.out.alloc hBx _).grown hg (by simp; omega) (fun j hj => (HP.out.lt j hj).1))
            have hs2 : B ≤ w2.heap.size := Nat.le_trans hB HB2.out.size
            obtain ⟨a3, c3, rfl⟩ := hO'.shape
            clear hO' hg
            go_wp2
            go_roundw
            case rel => exact ⟨q, t.extract 4 t.size, 1 - 3, rfl, rfl, by omega, by omega, HO2, Lib.hid (HN.out.trans HE.out), HB2, hs2, by rw [Hql.out]; omega, by rw [Hsz.out]; omega, by rw [Hsz.out]; omega⟩
            case measure => simp [intOf]
          · have HT := Lib.hid (new_cellsT wx (three V) 2 _ 64 (three_cells V hV))
            have hml : ((three V).take 2).length = 2 := rfl
            replace HN : Hid (Option.map (p ++ (three V).take 2 ++ ·) (gr (2 - 3 : Int).toNat (ls (t.extract 4 t.size))) = Option.map (p ++ ·) (gr (2 : Int).toNat (ls t))) := HN
            generalize (three V).take 2 = m at HN HT hml
            obtain ⟨q, Hq⟩ : ∃ q, Hid (p ++ m = q) := ⟨_, Lib.hid rfl⟩
            rw [Hq.out] at HN
            have hql : q.length = p.length + 2 := by rw [← Hq.out, List.length_append, hml]
            have Hql := Lib.hid hql
            have Hml := Lib.hid hml
            have Hsz : Hid ((t.extract 4 t.size).size = t.size - 4) := Lib.hid (ext_sz _ _ _ (Nat.le_refl _))
            have h4s : 4 ≤ t.size := by omega
            clear hql hml
            go_wp2_with (first
              | (go_at_call 47; refine (C.out _).mono ?_; rintro e w' ⟨rfl, rfl⟩)
              | (at_builtin; refine wpList_appV rfl _ _ rfl _ B p m ⟨wx.heap.size, 0, none⟩ 3 rfl (by rw [Hml.out]; rfl) (OB.alloc HP.out _) ?c1 ?c2 ?c3 ?_))
            case c1 => simp; omega
            case c2 => rw [Hml.out]; omega
            case c3 => exact HT.out
            intro v' w2 hO' hg
            rw [Hq.out] at hO'
            have HO2 := Lib.hid hO'
            have HB2 := Lib.hid ((HBw.out.alloc hBx _).grown hg (by simp; omega) (fun j hj => (HP.out.lt j hj).1))
            have hs2 : B ≤ w2.heap.size := Nat.le_trans hB HB2.out.size
            obtain ⟨a3, c3, rfl⟩ := hO'.shape
            clear hO' hg
            go_wp2
            go_roundw
            case rel => exact ⟨q, t.extract 4 t.size, 2 - 3, rfl, rfl, by omega, by omega, HO2, Lib.hid (HN.out.trans HE.out), HB2, hs2, by rw [Hql.out]; omega, by rw [Hsz.out]; omega, by rw [Hsz.out]; omega⟩
            case measure => simp [intOf]
          · have HT := Lib.hid (new_cellsT wx (three V) 3 _ 64 (three_cells V hV))
            have hml : ((three V).take 3).length = 3 := rfl
            replace HN : Hid (Option.map (p ++ (three V).take 3 ++ ·) (gr (3 - 3 : Int).toNat (ls (t.extract 4 t.size))) = Option.map (p ++ ·) (gr (3 : Int).toNat (ls t))) := HN
            generalize (three V).take 3 = m at HN HT hml
            obtain ⟨q, Hq⟩ : ∃ q, Hid (p ++ m = q) := ⟨_, Lib.hid rfl⟩
            rw [Hq.out] at HN
            have hql : q.length = p.length + 3 := by rw [← Hq.out, List.length_append, hml]
            have Hql := Lib.hid hql
            have Hml := Lib.hid hml
            have Hsz : Hid ((t.extract 4 t.size).size = t.size - 4) := Lib.hid (ext_sz _ _ _ (Nat.le_refl _))
            have h4s : 4 ≤ t.size := by omega
            clear hql hml
            go_wp2_with (first
              | (go_at_call 47; refine (C.out _).mono ?_; rintro e w' ⟨rfl, rfl⟩)
              | (at_builtin; refine wpList_appV rfl _ _ rfl _ B p m ⟨wx.heap.size, 0, none⟩ 3 rfl (by rw [Hml.out]; rfl) (OB.alloc HP.out _) ?c1 ?c2 ?c3 ?_))
            case c1 => simp; omega
            case c2 => rw [Hml.out]; omega
            case c3 => exact HT.out
            intro v' w2 hO' hg
            rw [Hq.out] at hO'
            have HO2 := Lib.hid hO'
            have HB2 := Lib.hid ((HBw.out.alloc hBx _).grown hg (by simp; omega) (fun j hj => (HP.out.lt j hj).1))
            have hs2 : B ≤ w2.heap.size := Nat.le_trans hB HB2.out.size
            obtain ⟨a3, c3, rfl⟩ := hO'.shape
            clear hO' hg
            go_wp2
            go_roundw
            case rel => exact ⟨q, t.extract 4 t.size, 3 - 3, rfl, rfl, by omega, by omega, HO2, Lib.hid (HN.out.trans HE.out), HB2, hs2, by rw [Hql.out]; omega, by rw [Hsz.out]; omega, by rw [Hsz.out]; omega⟩
            case measure => simp [intOf]
    · have h0 : k.toNat = 0 := by omega
      have HN : Hid (R = some p) := Lib.hid (by rw [← HE.out, h0, gr_zero]; simp)
      go_wp2
      go_ret2
      rw [HN.out]
      exact ⟨HBw.out, _, rfl, HP.out⟩
end Go.Proofs.Ytdjfapaebonadaa
