/- Contracts of a line put behind others, ours, and of the document's line. Conditions: lengths below a bound. -/
import Derived.Test.YtdjfapaebonadaaD
namespace Go.Proofs.Ytdjfapaebonadaa
open Go.RowKit Go.PlainAid
set_option linter.unusedSimpArgs false
set_option linter.unusedVariables false

theorem ls_ne {t : ByteArray} (h : 0 < t.size) : ls t ≠ [] := by intro e; have := ls_len t; rw [e] at this; simp at this; omega
theorem ls_em {t : ByteArray} (h : t.size = 0) : ls t = [] := List.eq_nil_of_length_eq_zero (by rw [ls_len]; exact h)
theorem ext_sz (s : ByteArray) (a b : Nat) (h : b ≤ s.size) : (s.extract a b).size = b - a := by rw [ByteArray.size_extract, Nat.min_eq_left h]
def szOf : Value → Nat | .string t => t.size | _ => 0
def Rel22 (B : Nat) (w : World) (F : List UInt8) (v x : Value) (wx : World) : Prop := ∃ (p : List UInt8) (t : ByteArray), x = .string t ∧ Hid (OB B v p wx) ∧ Hid (p ++ body (ls t) = F) ∧ Hid (Below B w wx) ∧ B ≤ wx.heap.size ∧ p.length + 4 * t.size ≤ 950000
set_option maxHeartbeats 4000000 in
set_option maxRecDepth 100000 in
theorem line22 {B : Nat} {v : Value} {acc : List UInt8} (s : ByteArray) (w : World) (hO : OB B v acc w) (hB : B ≤ w.heap.size) (hn : acc.length ≤ 900000) (h45 : s.size ≤ 45) :
    Calls Try.prog 22 #[v, .string s] w (GivesB B w (acc ++ line (ls s))) := by
  have HO := Lib.hid hO
  obtain ⟨a, c, rfl⟩ := hO.shape
  clear hO
  have C := Lib.hid (letter35 s.size (by omega))
  have HF : Hid ((acc ++ [lt s.size]) ++ body (ls s) ++ [10] = acc ++ line (ls s)) := Lib.hid (by simp [line])
  generalize acc ++ line (ls s) = fin at HF ⊢
  generalize lt s.size = b at C HF
  obtain ⟨F, HG⟩ : ∃ F, Hid ((acc ++ [b]) ++ body (ls s) = F) := ⟨_, Lib.hid rfl⟩
  rw [HG.out] at HF
  obtain ⟨q, Hq⟩ : ∃ q, Hid (acc ++ [b] = q) := ⟨_, Lib.hid rfl⟩
  have hql : q.length + 4 * s.size ≤ 950000 := by rw [← Hq.out]; simp; omega
  rw [Hq.out] at HG
  go_enter Try.func22, Try.ntmps22
  go_wp2_with (first
    | (go_at_call 35; refine (C.out _).mono ?_; rintro e w' ⟨rfl, rfl⟩)
    | (at_builtin; refine wpList_appV rfl _ _ rfl _ B acc [b] ⟨w.heap.size, 0, none⟩ 1 rfl rfl (OB.alloc HO.out _) ?c1 ?c2 ?c3 ?_))
  case c1 => simp; omega
  case c2 => simp; omega
  case c3 => exact new_cells w [b] _ rfl
  intro v1 w1 hO' hg
  rw [Hq.out] at hO'
  have HO2 := Lib.hid hO'
  have HB2 := Lib.hid (((Below.refl B w).alloc hB _).grown hg (by simp; omega) (fun j hj => (HO.out.lt j hj).1))
  have hs2 : B ≤ w1.heap.size := Nat.le_trans hB HB2.out.size
  obtain ⟨a1, c1, rfl⟩ := hO'.shape
  clear hO' hg
  go_wp2
  go_loopw [0, 1] (Rel22 B w F) (fun _ x _ => szOf x)
  case atStart => exact ⟨q, s, rfl, HO2, HG, HB2, hs2, hql⟩
  case round =>
    clear HO HO2 HB2 hs2 HG C
    obtain ⟨p, t, rfl, HP, HE, HBw, hBx, hpt⟩ := hrel
    rename World => wx
    obtain ⟨a2, c2, rfl⟩ := HP.out.shape
    by_cases h0 : t.size = 0
    · have hne := toList_em h0
      have HQ : Hid (p ++ [10] = fin) := Lib.hid (by rw [← HF.out, ← HE.out, ls_em h0, body_nil, List.append_nil])
      go_wp2_with (at_builtin; refine wpList_appV rfl _ _ rfl _ B p [10] ⟨wx.heap.size, 0, none⟩ 1 rfl rfl (OB.alloc HP.out _) ?c1 ?c2 ?c3 ?_)
      case c1 => simp; omega
      case c2 => simp; omega
      case c3 => exact new_cells wx [10] _ rfl
      intro v' w2 hO' hg
      have HO2 := Lib.hid hO'
      have HB2 := Lib.hid ((HBw.out.alloc hBx _).grown hg (by simp; omega) (fun j hj => (HP.out.lt j hj).1))
      obtain ⟨a3, c3, rfl⟩ := hO'.shape
      clear hO' hg
      go_wp2
      go_ret
      exact ⟨_, rfl, by rw [← HQ.out]; exact HO2.out, HB2.out⟩
    · have hne := toList_ne (s := t) (by omega)
      by_cases h3 : 3 < t.size
      · have C := Lib.hid (letters36 (t.extract 0 3) wx HP.out hBx (by omega) (by rw [ext_sz _ _ _ (by omega)]; omega) (by rw [ext_sz _ _ _ (by omega)]; omega))
        have HN : Hid ((p ++ four (val3 (ls (t.extract 0 3)))) ++ body (ls (t.extract 3 t.size)) = F) := Lib.hid (by
          rw [← HE.out, body_cons (ls_ne (t := t) (by omega)), ls_take, val3_take _ _ (by omega), ls_drop, List.append_assoc])
        have hsz : (t.extract 3 t.size).size = t.size - 3 := ext_sz _ _ _ (by omega)
        have Hsz := Lib.hid hsz
        clear hsz
        obtain ⟨r, Hr⟩ : ∃ r, Hid (p ++ four (val3 (ls (t.extract 0 3))) = r) := ⟨_, Lib.hid rfl⟩
        have hrl : r.length + 4 * (t.size - 3) ≤ 950000 := by rw [← Hr.out, List.length_append, four_len]; omega
        rw [Hr.out] at C HN
        go_wp2_with (go_at_call 36; refine C.out.mono ?_)
        rintro e w2 ⟨v2, rfl, hO', hb2⟩
        have HO2 := Lib.hid hO'
        have HB2 := Lib.hid (HBw.out.trans hb2)
        have hs2 : B ≤ w2.heap.size := Nat.le_trans hBx hb2.size
        obtain ⟨a3, c3, rfl⟩ := hO'.shape
        clear hO' hb2 C
        go_wp2
        go_roundw
        case rel => exact ⟨r, t.extract 3 t.size, rfl, HO2, HN, HB2, hs2, by rw [Hsz.out]; exact hrl⟩
        case measure => show (t.extract 3 t.size).size < t.size; rw [Hsz.out]; omega
      · have C := Lib.hid (letters36 t wx HP.out hBx (by omega) (by omega) (by omega))
        have HN : Hid ((p ++ four (val3 (ls t))) ++ body (ls ⟨#[]⟩) = F) := Lib.hid (by
          rw [← HE.out, body_cons (ls_ne (t := t) (by omega)), List.append_assoc]
          congr 2
          rw [List.drop_eq_nil_of_le (by rw [ls_len]; omega)])
        obtain ⟨r, Hr⟩ : ∃ r, Hid (p ++ four (val3 (ls t)) = r) := ⟨_, Lib.hid rfl⟩
        have hrl : r.length + 4 * 0 ≤ 950000 := by rw [← Hr.out, List.length_append, four_len]; omega
        rw [Hr.out] at C HN
        go_wp2_with (go_at_call 36; refine C.out.mono ?_)
        rintro e w2 ⟨v2, rfl, hO', hb2⟩
        have HO2 := Lib.hid hO'
        have HB2 := Lib.hid (HBw.out.trans hb2)
        have hs2 : B ≤ w2.heap.size := Nat.le_trans hBx hb2.size
        obtain ⟨a3, c3, rfl⟩ := hO'.shape
        clear hO' hb2 C
        go_wp2
        go_roundw
        case rel => exact ⟨r, ⟨#[]⟩, rfl, HO2, HN, HB2, hs2, hrl⟩
        case measure => show 0 < t.size; omega
end Go.Proofs.Ytdjfapaebonadaa
