/- Contract: take. Conditions: lengths below a bound; the library's own variable holds some number. -/
import Derived.Test.YtabnhdbhccbebaaD
namespace Go.Proofs.Ytabnhdbhccbebaa
open Go.RowKit Go.PlainAid
set_option linter.unusedSimpArgs false
set_option linter.unusedVariables false

theorem read_none (s : ByteArray) (hs : s.size ≤ 1000000) (h : rd (ls s) = none) (w : World) : Calls Try.prog 24 #[.string s] w fun e w' => e = .returned (.tuple #[.int .i64 0, .bool false]) ∧ w = w' := by
  have := read24 s hs w
  rw [h] at this; exact this
theorem read_some (s : ByteArray) (hs : s.size ≤ 1000000) (n : Nat) (h : rd (ls s) = some n) (w : World) : Calls Try.prog 24 #[.string s] w fun e w' => e = .returned (.tuple #[.int .i64 n, .bool true]) ∧ w = w' := by
  have := read24 s hs w
  rw [h] at this; exact this
def Rel19 (g f L : Nat) (a b : UInt8) (s : ByteArray) (t : List Bool) (w : World) (x : Value) (wx : World) : Prop := ∃ (S : ByteArray) (u : List Bool), x = .string S ∧ S.size ≤ 1000000 ∧ u.length = L ∧ Hid (TB g u wx) ∧ Hid (marks f u (occ a b (ls S)) = marks f t (occ a b (ls s))) ∧ Hid (Below g w wx) ∧ Hid (Env wx)
theorem mark_some {f n : Nat} {u : List Bool} {r : List UInt8} (h : rd r = some n) (h1 : f ≤ n) (h2 : n - f < u.length) : mark f u r = u.set (n - f) true := by unfold mark; rw [h]; simp only; rw [if_pos ⟨h1, h2⟩]
theorem mark_none {f : Nat} {u : List Bool} {r : List UInt8} (h : rd r = none) : mark f u r = u := by unfold mark; rw [h]
theorem mark_out {f n : Nat} {u : List Bool} {r : List UInt8} (h : rd r = some n) (h1 : ¬ (f ≤ n ∧ n - f < u.length)) : mark f u r = u := by unfold mark; rw [h]; simp only; rw [if_neg h1]
set_option maxHeartbeats 4000000 in
set_option maxRecDepth 100000 in
theorem take19 (g f L : Nat) (a b : UInt8) (s : ByteArray) (t : List Bool) (w : World) (he : Env w) (hg0 : 0 < g) (hT : TB g t w) (hL : t.length = L) (hs : s.size ≤ 1000000) (hf : f < 11881376) (hLm : L ≤ 100000000) :
    Calls Try.prog 19 #[.slice (some ⟨g, 0, none⟩) L L, .int .i64 f, .string s, .string ⟨#[a, b]⟩] w fun e w' => e = .returned (.tuple #[]) ∧ TB g (marks f t (occ a b (ls s))) w' ∧ Below g w w' := by
  have HT := Lib.hid hT
  have HE := Lib.hid he
  clear hT he
  go_enter Try.func19, Try.ntmps19
  go_wp2
  go_loopw [2] (Rel19 g f L a b s t w) (fun x _ => szOf x)
  case atStart => exact ⟨s, t, rfl, hs, hL, HT, Lib.hid rfl, Lib.hid (Below.refl _ _), HE⟩
  case round =>
    clear hL HT HE
    obtain ⟨S, u, rfl, hS, hu, HU, HM, HB, HE⟩ := hrel
    rename World => wx
    have hge := Lib.index_ge (ls S) [a, b]
    by_cases hm : Lib.index (ls S) [a, b] = -1
    · have C := Lib.hid (cut23_miss S a b wx HE.out hS hm)
      have HR : Hid (marks f t (occ a b (ls s)) = u) := Lib.hid (by rw [← HM.out, occ_none a b _ hm]; rfl)
      clear hge hm hu
      go_wp2_with fail
      refine C.out.mono ?_
      rintro e w1 ⟨rfl, b1⟩
      have HU1 := Lib.hid (HU.out.keep b1 HU.out.lt)
      have HB1 := Lib.hid (HB.out.trans (b1.mono (Nat.le_of_lt HU.out.lt)))
      clear b1 C HU HB
      go_wp2
      refine bodyPost_ret (results_none rfl _ _ _) rfl ?_
      exact ⟨rfl, by rw [HR.out]; exact HU1.out, HB1.out⟩
    · obtain ⟨i, hi⟩ : ∃ i : Nat, Lib.index (ls S) [a, b] = i := ⟨(Lib.index (ls S) [a, b]).toNat, by omega⟩
      have hroom : i + 2 ≤ S.size := by
        have := Lib.index_room (ls S) [a, b] (by omega)
        rw [hi, ls_len] at this
        simp at this; omega
      have C := Lib.hid (cut23_hit S a b wx HE.out hS i hi)
      have hz : (S.extract (i + 2) S.size).size = S.size - (i + 2) := ext_sz _ _ _ (Nat.le_refl _)
      have HO : Hid (occ a b (ls S) = ls (S.extract (i + 2) S.size) :: occ a b (ls (S.extract (i + 2) S.size))) := Lib.hid (by rw [ls_drop]; exact occ_some a b _ i hi)
      generalize S.extract (i + 2) S.size = r at C hz HO
      generalize S.extract 0 i = q at C
      have HM2 : Hid (marks f (mark f u (ls r)) (occ a b (ls r)) = marks f t (occ a b (ls s))) := Lib.hid (by rw [← HM.out, HO.out]; rfl)
      have hr1 : r.size ≤ 1000000 := by omega
      have hr2 : r.size < S.size := by omega
      clear hge hm hi hroom hz HM HO
      go_wp2_with fail
      refine C.out.mono ?_
      rintro e w1 ⟨rfl, b1⟩
      have HU1 := Lib.hid (HU.out.keep b1 HU.out.lt)
      have HB1 := Lib.hid (HB.out.trans (b1.mono (Nat.le_of_lt HU.out.lt)))
      have HE1 := Lib.hid (HE.out.on b1)
      clear b1 C HU HB HE
      go_wp2_with fail
      cases hrd : rd (ls r) with
      | none =>
        refine (read_none r hr1 hrd _).mono ?_
        rintro e w2 ⟨rfl, rfl⟩
        rw [mark_none hrd] at HM2
        clear hrd
        go_wp2
        go_roundw
        case rel => exact ⟨r, u, rfl, hr1, hu, HU1, HM2, HB1, HE1⟩
        case measure => exact hr2
      | some n =>
        refine (read_some r hr1 n hrd _).mono ?_
        rintro e w2 ⟨rfl, rfl⟩
        have hn := rd_lt hrd
        by_cases h1 : f ≤ n
        · by_cases h2 : n - f < L
          · rw [mark_some hrd h1 (by rw [hu]; exact h2)] at HM2
            have hb : ∃ c, u[n - f]? = some c := ⟨_, List.getElem?_eq_getElem (by rw [hu]; exact h2)⟩
            obtain ⟨c, hc⟩ := hb
            have hcell := HU1.out.cell _ _ hc
            have hfr := HU1.out.fr (n - f)
            have HU2 := Lib.hid (HU1.out.set (n - f) true)
            have HB2 := Lib.hid (HB1.out.setCell (p := ⟨g, 0 + (n - f), none⟩) (Nat.le_refl _) (.bool true))
            have HE2 := Lib.hid (HE1.out.at0 ((Below.refl g _).setCell (p := ⟨g, 0 + (n - f), none⟩) (Nat.le_refl _) (.bool true)) hg0)
            have hu2 : (u.set (n - f) true).length = L := by simpa using hu
            obtain ⟨d, hd⟩ : ∃ d, n = f + d := ⟨n - f, by omega⟩
            subst hd
            rw [show f + d - f = d by omega] at *
            rw [Nat.zero_add] at hcell hfr HU2 HB2 HE2
            clear hc hrd HU1 HB1 HE1
            go_wp2
            go_roundw
            case rel => exact ⟨r, _, rfl, hr1, hu2, HU2, HM2, HB2, HE2⟩
            case measure => exact hr2
          · rw [mark_out hrd (by rw [hu]; omega)] at HM2
            clear hrd
            go_wp2
            go_roundw
            case rel => exact ⟨r, u, rfl, hr1, hu, HU1, HM2, HB1, HE1⟩
            case measure => exact hr2
        · rw [mark_out hrd (by omega)] at HM2
          clear hrd
          go_wp2
          go_roundw
          case rel => exact ⟨r, u, rfl, hr1, hu, HU1, HM2, HB1, HE1⟩
          case measure => exact hr2
end Go.Proofs.Ytabnhdbhccbebaa
