/- Contract of the document's bytes of a line. Condition: at most 20000 bytes. -/
import Derived.Test.YtdjfapaebonadaaS
namespace Go.Proofs.Ytdjfapaebonadaa
open Go.RowKit Go.PlainAid
set_option linter.unusedSimpArgs false
set_option linter.unusedVariables false

def GivesL (w : World) (o : Option (List UInt8)) (e : Ending) (w' : World) : Prop := Below w.heap.size w w' ∧ match o with
  | none => ∃ x, e = .returned (.tuple #[.string x, .bool false])
  | some l => e = .returned (.tuple #[.string (mk l), .bool true])
theorem OB.cap {B : Nat} {a : Option Addr} {c : Nat} {l : List UInt8} {w : World} (h : OB B (.slice a l.length c) l w) : l.length ≤ c := by
  rcases h with ⟨h, h0⟩ | ⟨g, cap, cur, fr, _, h, hg, hc, _, hle, _, ht⟩
  · subst h0; simp
  · cases h; exact hle
theorem bytesOf_at {s : ByteArray} (h : 0 < s.size) : bytesOf (ls s) = match sixN (at0 (ls s) 0) with | none => none | some n => if n ≤ 45 ∧ s.size = 1 + (n + 2) / 3 * 4 then gr n ((ls s).drop 1) else none := by
  have hl := ls_len s
  cases hls : ls s with
  | nil => rw [hls] at hl; simp at hl; omega
  | cons c r =>
    rw [hls] at hl
    show (match sixN c.toNat with | none => none | some n => if n ≤ 45 ∧ r.length = (n + 2) / 3 * 4 then gr n r else none) = _
    rw [show at0 (c :: r) 0 = c.toNat from rfl]
    cases sixN c.toNat with
    | none => rfl
    | some n =>
      simp only
      simp at hl
      congr 1
      rw [eq_iff_iff]
      omega
def Rel29a (w : World) (l : ByteArray) (n : Nat) (G : Option (List UInt8)) (v x : Value) (wx : World) : Prop := ∃ (p : List UInt8) (j A : Nat), x = .int .i64 A ∧ Hid (A = 1 + 4 * j) ∧ A ≤ l.size ∧ Hid (3 * j ≤ n + 2) ∧ Hid (p.length = 3 * j) ∧ p.length ≤ 50 ∧ Hid (OB w.heap.size v p wx) ∧ Hid ((gr (n - 3 * j) ((ls l).drop A)).map (p.take n ++ ·) = G) ∧ Hid (Below w.heap.size w wx) ∧ w.heap.size ≤ wx.heap.size
def Rel29b (l : ByteArray) (A : Nat) (D : Option Nat) (x i : Value) : Prop := ∃ k v : Nat, k ≤ 4 ∧ i = .int .i64 k ∧ x = .int .i64 v ∧ v < 16777216 ∧ (k ≤ 3 → v < 262144) ∧ (k ≤ 2 → v < 4096) ∧ (k ≤ 1 → v < 64) ∧ (k = 0 → v = 0) ∧ rf ((ls l).drop A) (4 - k) v = D
theorem gr_step2 {n j A V : Nat} {p : List UInt8} {l : List UInt8} (hp : p.length = 3 * j) (h : 3 * j < n) (h4 : r4 (l.drop A) = some V) : (gr (n - 3 * (j + 1)) (l.drop (A + 4))).map ((p ++ three V).take n ++ ·) = (gr (n - 3 * j) (l.drop A)).map (p.take n ++ ·) := by
  rw [gr_some (by omega) h4, List.drop_drop, show n - 3 * j - 3 = n - 3 * (j + 1) by omega, Option.map_map]
  congr 1
  funext d
  simp only [Function.comp]
  rw [List.take_append, hp, ← List.append_assoc, List.take_of_length_le (by omega)]
set_option maxHeartbeats 8000000 in
set_option maxRecDepth 100000 in
theorem bytes29 (l : ByteArray) (w : World) (hl : l.size ≤ 20000) : Calls Try.prog 29 #[.string l] w (GivesL w (bytesOf (ls l))) := by
  have hb := get_bt l
  by_cases h0 : l.size = 0
  · have hne := toList_em h0
    rw [show bytesOf (ls l) = none by rw [ls_em h0]; rfl]
    go_enter Try.func29, Try.ntmps29
    go_wp2
    go_ret2
    exact ⟨Below.refl _ _, _, rfl⟩
  have hne := toList_ne (s := l) (by omega)
  have C0 := Lib.hid fun w => six42 (at0 (ls l) 0) (at0_lt _ _) w
  rw [← bt_at] at C0
  rw [bytesOf_at (by omega)]
  cases h6 : sixN (at0 (ls l) 0) with
  | none =>
    rw [h6] at C0
    clear h6
    unfold i42 at C0
    simp only
    go_enter Try.func29, Try.ntmps29
    go_wp2_with (go_at_call 42; refine (C0.out _).mono ?_; rintro e w' ⟨rfl, rfl⟩)
    go_ret2
    exact ⟨Below.refl _ _, _, rfl⟩
  | some n =>
    rw [h6] at C0
    have hn := sixN_lt h6
    clear h6
    unfold i42 at C0
    simp only
    by_cases h45 : n ≤ 45
    · have h45' : ¬ ((45 : Int) < (n : Int)) := by omega
      obtain ⟨G, HG⟩ : ∃ G, Hid (gr n ((ls l).drop 1) = G) := ⟨_, Lib.hid rfl⟩
      rw [HG.out]
      have HGn : Hid (G = none → (if n ≤ 45 ∧ l.size = 1 + (n + 2) / 3 * 4 then G else none) = none) := Lib.hid (fun h => by rw [h]; split <;> rfl)
      have HGs : Hid (∀ d, G = some d → (if n ≤ 45 ∧ l.size = 1 + (n + 2) / 3 * 4 then G else none) = if l.size = 1 + (n + 2) / 3 * 4 then some d else none) := Lib.hid (fun d h => by rw [h]; simp [h45])
      generalize (if n ≤ 45 ∧ l.size = 1 + (n + 2) / 3 * 4 then G else none) = R at HGn HGs ⊢
      go_enter Try.func29, Try.ntmps29
      go_wp2_with (go_at_call 42; refine (C0.out _).mono ?_; rintro e w' ⟨rfl, rfl⟩)
      go_loopw [5, 6] (Rel29a w l n G) (fun _ x _ => l.size - (intOf x).toNat)
      case atStart => exact ⟨[], 0, 1, rfl, Lib.hid rfl, by omega, Lib.hid (by omega), Lib.hid rfl, by simp, Lib.hid (ob_nil _ _), Lib.hid (by rw [← HG.out]; simp), Lib.hid (Below.refl _ _), Nat.le_refl _⟩
      case round =>
        clear HG
        obtain ⟨p, j, A, rfl, HA, hA, Hj, Hpl, hp50, HP, HE, HBw, hBx⟩ := hrel
        rename World => wx
        have hcap : ∀ a c, _ → p.length ≤ c := fun a c (h : OB w.heap.size (.slice a p.length c) p wx) => h.cap
        obtain ⟨a2, c2, rfl⟩ := HP.out.shape
        have hc2 := hcap _ _ HP.out
        clear hcap
        by_cases hlt : p.length < n
        · by_cases h4 : l.size < A + 4
          · have HN : Hid (R = none) := Lib.hid (HGn.out (by
              have h3 := Hpl.out
              rw [← HE.out, gr_none (by omega) (r4_short _ (by rw [List.length_drop, ls_len]; omega))]; rfl))
            go_wp2
            go_ret2
            exact ⟨HBw.out, by rw [HN.out]; exact ⟨_, rfl⟩⟩
          · obtain ⟨D, HD⟩ : ∃ D, Hid (rf ((ls l).drop A) 4 0 = D) := ⟨_, Lib.hid rfl⟩
            have HR4 : Hid (r4 ((ls l).drop A) = D) := Lib.hid (by rw [← HD.out]; exact r4_rf _ (by rw [List.length_drop, ls_len]; omega))
            go_wp2
            go_loop [7, 8] (Rel29b l A D) (fun _ i => 4 - (intOf i).toNat)
            case atStart => exact ⟨0, 0, by omega, rfl, rfl, by omega, by omega, by omega, by omega, by omega, HD.out⟩
            case round =>
              clear HD
              obtain ⟨k, v, hk, rfl, rfl, hv1, hv2, hv3, hv4, hv5, hd⟩ := hrel
              have HD := Lib.hid hd
              clear hd
              by_cases hlt4 : k < 4
              · have C := Lib.hid fun w => six42 (at0 ((ls l).drop A) k) (at0_lt _ _) w
                have hbe : (at0 ((ls l).drop A) k : Int) = bt l (A + k) := by rw [bt_at, at0_drop]
                rw [hbe] at C
                have b1 := bt_nonneg l (A + k)
                have b2 := bt_le l (A + k)
                clear hbe
                cases hs : sixN (at0 ((ls l).drop A) k) with
                | none =>
                  rw [hs] at C
                  have HN : Hid (R = none) := Lib.hid (HGn.out (by
                    have h3 := Hpl.out
                    rw [← HE.out, gr_none (by omega) (by rw [HR4.out, ← HD.out, rf_none _ _ _ hlt4 hs])]; rfl))
                  clear hs
                  unfold i42 at C
                  go_wp2_with (go_at_call 42; refine (C.out _).mono ?_; rintro e w' ⟨rfl, rfl⟩)
                  go_ret2
                  exact ⟨HBw.out, by rw [HN.out]; exact ⟨_, rfl⟩⟩
                | some x =>
                  rw [hs] at C
                  have hx := sixN_lt hs
                  have HN : Hid (rf ((ls l).drop A) (4 - (k + 1)) (64 * v + x) = D) := Lib.hid (by rw [← HD.out, rf_some _ _ _ _ hlt4 hs])
                  have hv6 : v < 262144 := by omega
                  clear hs
                  unfold i42 at C
                  go_wp2_with (go_at_call 42; refine (C.out _).mono ?_; rintro e w' ⟨rfl, rfl⟩)
                  go_round
                  case rel => exact ⟨k + 1, 64 * v + x, by omega, by go_num, by go_num, by omega, by omega, by omega, by omega, by omega, HN.out⟩
                  case measure => simp [intOf]; omega
              · obtain rfl : k = 4 := by omega
                have HV : Hid (r4 ((ls l).drop A) = some v) := Lib.hid (by rw [HR4.out, ← HD.out]; rfl)
                have HN := Lib.hid (gr_step2 (n := n) Hpl.out (by rw [← Hpl.out]; exact hlt) HV.out)
                rw [HE.out] at HN
                have HT := Lib.hid (three_cells v hv1)
                have hml : (three v).length = 3 := rfl
                generalize three v = m at HN HT hml
                obtain ⟨q, Hq⟩ : ∃ q, Hid (p ++ m = q) := ⟨_, Lib.hid rfl⟩
                rw [Hq.out] at HN
                have Hql : Hid (q.length = p.length + 3) := Lib.hid (by rw [← Hq.out, List.length_append, hml])
                have Hml := Lib.hid hml
                clear hml
                go_wp2_with (at_builtin; refine wpList_appV rfl _ _ rfl _ w.heap.size p m ⟨wx.heap.size, 0, none⟩ 3 rfl (by rw [Hml.out]; rfl) (OB.alloc HP.out _) ?c1 ?c2 ?c3 ?_)
                case c1 => omega
                case c2 => rw [Hml.out]; omega
                case c3 => rw [HT.out]; exact fun j u h => h
                intro v' w2 hO' hg
                rw [Hq.out] at hO'
                have HO2 := Lib.hid hO'
                have HB2 := Lib.hid ((HBw.out.alloc hBx _).grown hg (by simp; omega) (fun j hj => (HP.out.lt j hj).1))
                have hs2 : w.heap.size ≤ w2.heap.size := HB2.out.size
                obtain ⟨a3, c3, rfl⟩ := hO'.shape
                clear hO' hg
                go_wp2
                go_roundw
                case rel => exact ⟨q, j + 1, A + 4, by go_num, Lib.hid (by have := HA.out; omega), by omega, Lib.hid (by have := Hpl.out; omega), Lib.hid (by rw [Hql.out, Hpl.out]; omega), by rw [Hql.out]; omega, HO2, HN, HB2, hs2⟩
                case measure => simp [intOf]; omega
        · have HN : Hid (G = some (p.take n)) := Lib.hid (by
            rw [← HE.out, show n - 3 * j = 0 by have := Hpl.out; omega, gr_zero]; simp)
          have HR := Lib.hid (HGs.out _ HN.out)
          have hbk := HP.out.backn (c2 := c2) n (by omega)
          have hnc : (n : Int) ≤ c2 := by omega
          have hAl : A = 1 + (n + 2) / 3 * 4 := by have h1 := HA.out; have h2 := Hj.out; have h3 := Hpl.out; omega
          cases hd : ((A : Int) == (l.size : Int))
          · have HR2 : Hid (R = none) := Lib.hid (HR.out.trans (if_neg (by have := beq_eq_false_iff_ne.1 hd; omega)))
            clear hAl
            go_wp2
            go_ret2
            exact ⟨HBw.out, by rw [HR2.out]; exact ⟨_, rfl⟩⟩
          · have HR2 : Hid (R = some (p.take n)) := Lib.hid (HR.out.trans (if_pos (by have := beq_iff_eq.1 hd; omega)))
            clear hAl
            go_wp2
            go_ret2
            exact ⟨HBw.out, by rw [HR2.out]; rfl⟩
    · rw [if_neg (by omega)]
      have h45' : (45 : Int) < (n : Int) := by omega
      go_enter Try.func29, Try.ntmps29
      go_wp2_with (go_at_call 42; refine (C0.out _).mono ?_; rintro e w' ⟨rfl, rfl⟩)
      go_ret2
      exact ⟨Below.refl _ _, _, rfl⟩
end Go.Proofs.Ytdjfapaebonadaa
