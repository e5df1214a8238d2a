/- Contract of all lines read. Condition: at most 20000 bytes. -/
import Derived.Test.YtdjfapaebonadaaQ
namespace Go.Proofs.Ytdjfapaebonadaa
open Go.RowKit Go.PlainAid
set_option linter.unusedSimpArgs false
set_option linter.unusedVariables false

theorem cutB (s : ByteArray) (i : Nat) (w : World) (h : nl (ls s) = i) (hi : i < s.size) (hs : s.size ≤ maxLen) :
    Calls Try.prog 26 #[.string s, .string ⟨#[10]⟩] w fun e w' => e = .returned (.tuple #[.string (s.extract 0 i), .string (s.extract (i + 1) s.size), .bool true]) ∧ Below w.heap.size w w' :=
  (cut26_hit s i w h hi hs).mono fun e w' ⟨h1, h2⟩ => ⟨h1, by rw [← h2]; exact below_drewN (Below.refl _ w) 1⟩
/-- A slice of these bytes, and true; or false. -/
def GivesD (B : Nat) (w : World) (o : Option (List UInt8)) (e : Ending) (w' : World) : Prop := Below B w w' ∧ match o with
  | none => ∃ a l c, e = .returned (.tuple #[.slice a l c, .bool false])
  | some l => ∃ v, e = .returned (.tuple #[v, .bool true]) ∧ OB B v l w'
def endB (s : ByteArray) : Bool := s.toList == [101, 110, 100, 10]
theorem endB_iff (s : ByteArray) : endB s = true ↔ ls s = endL := by unfold endB; rw [toList_data, beq_iff_eq]; rfl
theorem d_no {t : ByteArray} {p : List UInt8} (h : ¬ nl (ls t) < t.size) : dec (ls t) p = none := dec_none (by rw [ls_len]; exact h)
theorem d_bad {t : ByteArray} {p : List UInt8} {i : Nat} (h : nl (ls t) = i) (hi : i < t.size) (hc : cnt (ls (t.extract 0 i)) = none) : dec (ls t) p = none :=
  dec_bad (by rw [ls_len, h]; exact hi) (by rw [h, ← ls_take]; exact bytesOf_none hc)
theorem d_end {t : ByteArray} {p : List UInt8} {i : Nat} (h : nl (ls t) = i) (hi : i < t.size) (hc : cnt (ls (t.extract 0 i)) = some 0) : dec (ls t) p = if endB (t.extract (i + 1) t.size) = true then some p else none := by
  rw [dec_end (by rw [ls_len, h]; exact hi) (by rw [h, ← ls_take, (cnt_some hc).1]; exact gr_zero _), h, ← ls_drop]
  by_cases e : endB (t.extract (i + 1) t.size) = true
  · rw [if_pos e, if_pos ((endB_iff _).1 e)]
  · rw [if_neg e, if_neg (fun h => e ((endB_iff _).2 h))]
theorem d_bad2 {t : ByteArray} {p : List UInt8} {i n : Nat} (h : nl (ls t) = i) (hi : i < t.size) (hc : cnt (ls (t.extract 0 i)) = some n) (hg : gr n (ls ((t.extract 0 i).extract 1 i)) = none) : dec (ls t) p = none := by
  have e : ls ((t.extract 0 i).extract 1 i) = (ls (t.extract 0 i)).drop 1 := by
    have := ls_drop (t.extract 0 i) 1
    rw [ext_sz _ _ _ (by omega), Nat.sub_zero] at this
    exact this
  rw [e] at hg
  exact dec_bad (by rw [ls_len, h]; exact hi) (by rw [h, ← ls_take, (cnt_some hc).1]; exact hg)
theorem d_next {t : ByteArray} {p d : List UInt8} {i n : Nat} (h : nl (ls t) = i) (hi : i < t.size) (hc : cnt (ls (t.extract 0 i)) = some n) (hn : 0 < n) (hg : gr n (ls ((t.extract 0 i).extract 1 i)) = some d) : dec (ls t) p = dec (ls (t.extract (i + 1) t.size)) (p ++ d) := by
  have e : ls ((t.extract 0 i).extract 1 i) = (ls (t.extract 0 i)).drop 1 := by
    have := ls_drop (t.extract 0 i) 1
    rw [ext_sz _ _ _ (by omega), Nat.sub_zero] at this
    exact this
  rw [e] at hg
  have hl := gr_len _ _ _ hg
  rw [dec_next (d := d) (by rw [ls_len, h]; exact hi) (by rw [h, ← ls_take, (cnt_some hc).1]; exact hg) (by rintro rfl; simp at hl; omega), h, ← ls_drop]
def Jump27 (B : Nat) (w : World) (R : Option (List UInt8)) (a' : Act) (w' : World) : Prop := ∃ (t : ByteArray) (p : List UInt8) (v : Value), Hid (OB B v p w') ∧ Hid (dec (ls t) p = R) ∧ Hid (Below B w w') ∧ B ≤ w'.heap.size ∧ p.length + t.size ≤ 20000 ∧
  ∃ (u5 u6 u7 u8 u9 u10 u11 u12 u13 u14 u15 u16 u17 u18 u19 u20 u21 u22 u23 u24 u25 u26 u27 u28 u29 u30 u31 u32 u33 u34 u35 u36 u37 u38 u39 u40 u41 u42 : Value), a' = { tmps := #[.string t, undef, .slice none 0 0, .bool false, v, u5, u6, u7, u8, u9, u10, u11, u12, u13, u14, u15, u16, u17, u18, u19, u20, u21, u22, u23, u24, u25, u26, u27, u28, u29, u30, u31, u32, u33, u34, u35, u36, u37, u38, u39, u40, u41, u42], defers := [] }
set_option maxHeartbeats 8000000 in
set_option maxRecDepth 100000 in
theorem lines27 (t : ByteArray) (w : World) (ht : t.size ≤ 20000) : Calls Try.prog 27 #[.string t] w (GivesD w.heap.size w (dec (ls t) [])) := by
  obtain ⟨R, HE⟩ : ∃ R, Hid (dec (ls t) [] = R) := ⟨_, Lib.hid rfl⟩
  rw [HE.out]
  have HP := Lib.hid (ob_nil w.heap.size w)
  have HBw := Lib.hid (Below.refl w.heap.size w)
  go_enter Try.func27, Try.ntmps27
  go_wp2
  refine wp_scope_jumps 0 (Jump27 w.heap.size w R) (fun a' _ => szOf (a'.tmps.getD 0 undef)) rfl ?_ ?_
  · have hBx : w.heap.size ≤ w.heap.size := Nat.le_refl _
    have hpt : ([] : List UInt8).length + t.size ≤ 20000 := by simpa using ht
    obtain ⟨p, Hp⟩ : ∃ p : List UInt8, Hid ([] = p) := ⟨_, Lib.hid rfl⟩
    have hpl : p.length = 0 := by rw [← Hp.out]; rfl
    rw [Hp.out] at HE HP hpt
    by_cases hi : nl (ls t) < t.size
    · obtain ⟨i, Hi⟩ : ∃ i, Hid (nl (ls t) = i) := ⟨_, Lib.hid rfl⟩
      rw [Hi.out] at hi
      have CC := Lib.hid (cutB t i w Hi.out hi (by unfold maxLen; omega))
      go_wp2_with fail
      go_step3
      go_wp2_with fail
      refine CC.out.mono ?_
      rintro e w1 ⟨rfl, b1⟩
      have HB1 := Lib.hid (HBw.out.trans (b1.mono hBx))
      have HP1 := Lib.hid (HP.out.below b1)
      have hB1 : w.heap.size ≤ w1.heap.size := HB1.out.size
      clear b1 CC
      have CN := Lib.hid fun W => count39 (t.extract 0 i) W (by rw [ext_sz _ _ _ (by omega)]; omega)
      have hls : (t.extract 0 i).size = i := by rw [ext_sz _ _ _ (by omega)]; omega
      have Hsz : Hid ((t.extract (i + 1) t.size).size = t.size - (i + 1)) := Lib.hid (ext_sz _ _ _ (Nat.le_refl _))
      cases hc : cnt (ls (t.extract 0 i)) with
      | none =>
        rw [hc] at CN
        have HN : Hid (R = none) := Lib.hid (by rw [← HE.out, d_bad Hi.out hi hc])
        clear hc hls
        unfold v46 at CN
        go_wp2_with (go_at_call 39; refine (CN.out _).mono ?_; rintro e w' ⟨rfl, rfl⟩)
        simp only [Exit.jump]
        go_ret2
        exact ⟨HB1.out, by rw [HN.out]; exact ⟨_, _, _, rfl⟩⟩
      | some n =>
        rw [hc] at CN
        have hcs := cnt_some hc
        have h45 := hcs.2.1
        have hlen : i = 1 + (n + 2) / 3 * 4 := by have := hcs.2.2; rw [ls_len, hls] at this; exact this
        unfold v46 at CN
        by_cases h0 : n = 0
        · subst h0
          have HN := Lib.hid (d_end (p := p) Hi.out hi hc)
          rw [HE.out] at HN
          clear hcs hlen hc hls
          cases heb : endB (t.extract (i + 1) t.size)
          · rw [heb] at HN
            have HN2 : Hid (R = none) := Lib.hid (by rw [HN.out]; rfl)
            unfold endB at heb
            go_wp2_with (go_at_call 39; refine (CN.out _).mono ?_; rintro e w' ⟨rfl, rfl⟩)
            simp only [Exit.jump]
            go_ret2
            exact ⟨HB1.out, by rw [HN2.out]; exact ⟨_, _, _, rfl⟩⟩
          · rw [heb] at HN
            have HN2 : Hid (R = some p) := Lib.hid (by rw [HN.out]; rfl)
            unfold endB at heb
            go_wp2_with (go_at_call 39; refine (CN.out _).mono ?_; rintro e w' ⟨rfl, rfl⟩)
            simp only [Exit.jump]
            go_ret2
            exact ⟨HB1.out, by rw [HN2.out]; exact ⟨_, rfl, HP1.out⟩⟩
        · have hl2 : ((t.extract 0 i).extract 1 i).size = i - 1 := ext_sz _ _ _ (by rw [hls]; omega)
          have CB := Lib.hid (bytes40 ((t.extract 0 i).extract 1 i) n w1 HP1.out hB1 (by omega) h45 (by rw [hl2]; omega) (by rw [hl2]; omega))
          have hn0 : ((n : Int) == 0) = false := by simpa using h0
          have hi1 : 1 ≤ i := by omega
          cases hg : gr n (ls ((t.extract 0 i).extract 1 i)) with
          | none =>
            rw [hg] at CB
            have HN : Hid (R = none) := Lib.hid (by rw [← HE.out, d_bad2 Hi.out hi hc hg])
            clear hcs hlen hc hg hl2
            go_wp2_with (first
              | (go_at_call 39; refine (CN.out _).mono ?_; rintro e w' ⟨rfl, rfl⟩)
              | (go_at_call 40; refine CB.out.mono ?_))
            rintro e w3 ⟨b3, he⟩
            replace he : e = .returned (.tuple #[.slice none 0 0, .bool false]) := he
            subst he
            have HB3 := Lib.hid (HB1.out.trans b3)
            clear b3 CB CN
            go_wp2
            simp only [Exit.jump]
            go_ret2
            exact ⟨HB3.out, by rw [HN.out]; exact ⟨_, _, _, rfl⟩⟩
          | some d =>
            rw [hg] at CB
            obtain ⟨q, Hq⟩ : ∃ q, Hid (p ++ d = q) := ⟨_, Lib.hid rfl⟩
            have hql : q.length = p.length + n := by rw [← Hq.out, List.length_append, gr_len _ _ _ hg]
            have HN : Hid (dec (ls (t.extract (i + 1) t.size)) q = R) := Lib.hid (by rw [← HE.out, d_next Hi.out hi hc (by omega) hg, Hq.out])
            replace CB : Hid (Calls Try.prog 40 #[.slice none 0 0, .string ((t.extract 0 i).extract 1 i), .int .i64 n] w1 (GivesO w.heap.size w1 (some q))) := by
              rw [← Hq.out]; exact CB
            clear hcs hc hg hl2
            have Hql := Lib.hid hql
            have hqb : q.length + (t.size - (i + 1)) ≤ 20000 := by omega
            clear hql hlen
            go_wp2_with (first
              | (go_at_call 39; refine (CN.out _).mono ?_; rintro e w' ⟨rfl, rfl⟩)
              | (go_at_call 40; refine CB.out.mono ?_))
            rintro e w3 ⟨b3, v3, rfl, hO'⟩
            have HO2 := Lib.hid hO'
            have HB3 := Lib.hid (HB1.out.trans b3)
            have hs3 : w.heap.size ≤ w3.heap.size := HB3.out.size
            obtain ⟨a3, c3, rfl⟩ := hO'.shape
            clear hO' b3 CB CN
            go_wp2
            go_step3
            exact ⟨rfl, t.extract (i + 1) t.size, q, _, HO2, HN, HB3, hs3, by rw [Hsz.out]; omega, _, _, _, _, _, _, _, _, _, _, _, _, _, _, _, _, _, _, _, _, _, _, _, _, _, _, _, _, _, _, _, _, _, _, _, _, _, _, rfl⟩
    · have HN : Hid (R = none) := Lib.hid (by rw [← HE.out, d_no hi])
      have CC := Lib.hid (cut26_miss t w hi)
      have CN := Lib.hid fun W => count39 t W (by omega)
      go_wp2_with fail
      go_step3
      go_wp2_with fail
      refine CC.out.mono ?_
      rintro e w1 ⟨rfl, rfl⟩
      cases hc : cnt (ls t) with
      | none =>
        rw [hc] at CN
        unfold v46 at CN
        clear hc
        go_wp2_with (go_at_call 39; refine (CN.out _).mono ?_; rintro e w' ⟨rfl, rfl⟩)
        simp only [Exit.jump]
        go_ret2
        exact ⟨HBw.out, by rw [HN.out]; exact ⟨_, _, _, rfl⟩⟩
      | some n =>
        rw [hc] at CN
        unfold v46 at CN
        clear hc
        go_wp2_with (go_at_call 39; refine (CN.out _).mono ?_; rintro e w' ⟨rfl, rfl⟩)
        simp only [Exit.jump]
        go_ret2
        exact ⟨HBw.out, by rw [HN.out]; exact ⟨_, _, _, rfl⟩⟩
  · clear HP HBw HE ht
    rintro a' wx ⟨t, p, v, HP, HE, HBw, hBx, hpt, u5, u6, u7, u8, u9, u10, u11, u12, u13, u14, u15, u16, u17, u18, u19, u20, u21, u22, u23, u24, u25, u26, u27, u28, u29, u30, u31, u32, u33, u34, u35, u36, u37, u38, u39, u40, u41, u42, rfl⟩
    obtain ⟨a2, c2, rfl⟩ := HP.out.shape
    by_cases hi : nl (ls t) < t.size
    · obtain ⟨i, Hi⟩ : ∃ i, Hid (nl (ls t) = i) := ⟨_, Lib.hid rfl⟩
      rw [Hi.out] at hi
      have CC := Lib.hid (cutB t i wx Hi.out hi (by unfold maxLen; omega))
      go_wp2_with fail
      refine CC.out.mono ?_
      rintro e w1 ⟨rfl, b1⟩
      have HB1 := Lib.hid (HBw.out.trans (b1.mono hBx))
      have HP1 := Lib.hid (HP.out.below b1)
      have hB1 : w.heap.size ≤ w1.heap.size := HB1.out.size
      clear b1 CC
      have CN := Lib.hid fun W => count39 (t.extract 0 i) W (by rw [ext_sz _ _ _ (by omega)]; omega)
      have hls : (t.extract 0 i).size = i := by rw [ext_sz _ _ _ (by omega)]; omega
      have Hsz : Hid ((t.extract (i + 1) t.size).size = t.size - (i + 1)) := Lib.hid (ext_sz _ _ _ (Nat.le_refl _))
      cases hc : cnt (ls (t.extract 0 i)) with
      | none =>
        rw [hc] at CN
        have HN : Hid (R = none) := Lib.hid (by rw [← HE.out, d_bad Hi.out hi hc])
        clear hc hls
        unfold v46 at CN
        go_wp2_with (go_at_call 39; refine (CN.out _).mono ?_; rintro e w' ⟨rfl, rfl⟩)
        simp only [Exit.jump]
        go_ret2
        exact ⟨HB1.out, by rw [HN.out]; exact ⟨_, _, _, rfl⟩⟩
      | some n =>
        rw [hc] at CN
        have hcs := cnt_some hc
        have h45 := hcs.2.1
        have hlen : i = 1 + (n + 2) / 3 * 4 := by have := hcs.2.2; rw [ls_len, hls] at this; exact this
        unfold v46 at CN
        by_cases h0 : n = 0
        · subst h0
          have HN := Lib.hid (d_end (p := p) Hi.out hi hc)
          rw [HE.out] at HN
          clear hcs hlen hc hls
          cases heb : endB (t.extract (i + 1) t.size)
          · rw [heb] at HN
            have HN2 : Hid (R = none) := Lib.hid (by rw [HN.out]; rfl)
            unfold endB at heb
            go_wp2_with (go_at_call 39; refine (CN.out _).mono ?_; rintro e w' ⟨rfl, rfl⟩)
            simp only [Exit.jump]
            go_ret2
            exact ⟨HB1.out, by rw [HN2.out]; exact ⟨_, _, _, rfl⟩⟩
          · rw [heb] at HN
            have HN2 : Hid (R = some p) := Lib.hid (by rw [HN.out]; rfl)
            unfold endB at heb
            go_wp2_with (go_at_call 39; refine (CN.out _).mono ?_; rintro e w' ⟨rfl, rfl⟩)
            simp only [Exit.jump]
            go_ret2
            exact ⟨HB1.out, by rw [HN2.out]; exact ⟨_, rfl, HP1.out⟩⟩
        · have hl2 : ((t.extract 0 i).extract 1 i).size = i - 1 := ext_sz _ _ _ (by rw [hls]; omega)
          have CB := Lib.hid (bytes40 ((t.extract 0 i).extract 1 i) n w1 HP1.out hB1 (by omega) h45 (by rw [hl2]; omega) (by rw [hl2]; omega))
          have hn0 : ((n : Int) == 0) = false := by simpa using h0
          have hi1 : 1 ≤ i := by omega
          cases hg : gr n (ls ((t.extract 0 i).extract 1 i)) with
          | none =>
            rw [hg] at CB
            have HN : Hid (R = none) := Lib.hid (by rw [← HE.out, d_bad2 Hi.out hi hc hg])
            clear hcs hlen hc hg hl2
            go_wp2_with (first
              | (go_at_call 39; refine (CN.out _).mono ?_; rintro e w' ⟨rfl, rfl⟩)
              | (go_at_call 40; refine CB.out.mono ?_))
            rintro e w3 ⟨b3, he⟩
            replace he : e = .returned (.tuple #[.slice none 0 0, .bool false]) := he
            subst he
            have HB3 := Lib.hid (HB1.out.trans b3)
            clear b3 CB CN
            go_wp2
            simp only [Exit.jump]
            go_ret2
            exact ⟨HB3.out, by rw [HN.out]; exact ⟨_, _, _, rfl⟩⟩
          | some d =>
            rw [hg] at CB
            obtain ⟨q, Hq⟩ : ∃ q, Hid (p ++ d = q) := ⟨_, Lib.hid rfl⟩
            have hql : q.length = p.length + n := by rw [← Hq.out, List.length_append, gr_len _ _ _ hg]
            have HN : Hid (dec (ls (t.extract (i + 1) t.size)) q = R) := Lib.hid (by rw [← HE.out, d_next Hi.out hi hc (by omega) hg, Hq.out])
            replace CB : Hid (Calls Try.prog 40 #[.slice a2 p.length c2, .string ((t.extract 0 i).extract 1 i), .int .i64 n] w1 (GivesO w.heap.size w1 (some q))) := by
              rw [← Hq.out]; exact CB
            clear hcs hc hg hl2
            have Hql := Lib.hid hql
            have hqb : q.length + (t.size - (i + 1)) ≤ 20000 := by omega
            clear hql hlen
            go_wp2_with (first
              | (go_at_call 39; refine (CN.out _).mono ?_; rintro e w' ⟨rfl, rfl⟩)
              | (go_at_call 40; refine CB.out.mono ?_))
            rintro e w3 ⟨b3, v3, rfl, hO'⟩
            have HO2 := Lib.hid hO'
            have HB3 := Lib.hid (HB1.out.trans b3)
            have hs3 : w.heap.size ≤ w3.heap.size := HB3.out.size
            obtain ⟨a3, c3, rfl⟩ := hO'.shape
            clear hO' b3 CB CN
            go_wp2
            go_step3
            exact ⟨rfl, ⟨t.extract (i + 1) t.size, q, _, HO2, HN, HB3, hs3, by rw [Hsz.out]; omega, _, _, _, _, _, _, _, _, _, _, _, _, _, _, _, _, _, _, _, _, _, _, _, _, _, _, _, _, _, _, _, _, _, _, _, _, _, _, rfl⟩, by show (t.extract (i + 1) t.size).size < t.size; rw [Hsz.out]; omega⟩
    · have HN : Hid (R = none) := Lib.hid (by rw [← HE.out, d_no hi])
      have CC := Lib.hid (cut26_miss t wx hi)
      have CN := Lib.hid fun W => count39 t W (by omega)
      go_wp2_with fail
      refine CC.out.mono ?_
      rintro e w1 ⟨rfl, rfl⟩
      cases hc : cnt (ls t) with
      | none =>
        rw [hc] at CN
        unfold v46 at CN
        clear hc
        go_wp2_with (go_at_call 39; refine (CN.out _).mono ?_; rintro e w' ⟨rfl, rfl⟩)
        simp only [Exit.jump]
        go_ret2
        exact ⟨HBw.out, by rw [HN.out]; exact ⟨_, _, _, rfl⟩⟩
      | some n =>
        rw [hc] at CN
        unfold v46 at CN
        clear hc
        go_wp2_with (go_at_call 39; refine (CN.out _).mono ?_; rintro e w' ⟨rfl, rfl⟩)
        simp only [Exit.jump]
        go_ret2
        exact ⟨HBw.out, by rw [HN.out]; exact ⟨_, _, _, rfl⟩⟩
end Go.Proofs.Ytdjfapaebonadaa
