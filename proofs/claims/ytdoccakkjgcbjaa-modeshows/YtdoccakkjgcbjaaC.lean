/- The contract of mode.doClause, for every text and mode. Condition: the text has a length that fits an int. -/
import Derived.Test.YtdoccakkjgcbjaaB
namespace Go.Proofs.Ytdoccakkjgcbjaa
open Go.RowKit Go.PlainAid
set_option linter.unusedSimpArgs false

theorem who31_at {s : ByteArray} {who : Int} {k : Nat} (h : rwho (bl s) 0 = (who, (bl s).drop k)) (hk : k ≤ s.size) (w : World) (hs : s.size ≤ maxLen) :
    Calls Try.prog 31 #[.string s] w fun e w' => e = .returned (.tuple #[.int .i64 who, .int .i64 k]) ∧ w = w' :=
  (who31 s w hs).mono fun _ _ ⟨he, hw⟩ => ⟨by rw [he, h, whoR_at s who k hk], hw⟩
theorem bits32_some {s : ByteArray} {j k : Nat} {who b : Int} {may : Bool} (h : rbits who may ((bl s).drop j) 0 = some (b, (bl s).drop k)) (hj : j ≤ s.size) (hk : k ≤ s.size) (w : World) (hs : s.size ≤ maxLen) :
    Calls Try.prog 32 #[.string s, .int .i64 j, .int .i64 who, .bool may] w fun e w' => e = .returned (.tuple #[.int .i64 b, .int .i64 k, .bool true]) ∧ w = w' :=
  (bits32 s j who may w hs hj).mono fun _ _ ⟨he, hw⟩ => ⟨by rw [he, h, bitsR_at s b k hk], hw⟩
theorem bits32_none {s : ByteArray} {j : Nat} {who : Int} {may : Bool} (h : rbits who may ((bl s).drop j) 0 = none) (hj : j ≤ s.size) (w : World) (hs : s.size ≤ maxLen) :
    Calls Try.prog 32 #[.string s, .int .i64 j, .int .i64 who, .bool may] w fun e w' => e = .returned (.tuple #[.int .i64 0, .int .i64 0, .bool false]) ∧ w = w' :=
  (bits32 s j who may w hs hj).mono fun _ _ ⟨he, hw⟩ => ⟨by rw [he, h]; rfl, hw⟩
theorem act33_some {sign m b who kept m' : Int} (h : actM sign m b who kept = some m') (w : World) :
    Calls Try.prog 33 #[.int .u8 sign, .int .i64 m, .int .i64 b, .int .i64 who, .int .i64 kept] w fun e w' => e = .returned (.tuple #[.int .i64 m', .bool true]) ∧ w = w' :=
  (act33 sign m b who kept w).mono fun _ _ ⟨he, hw⟩ => ⟨by rw [he, h]; rfl, hw⟩
theorem act33_none {sign m b who kept : Int} (h : actM sign m b who kept = none) (w : World) :
    Calls Try.prog 33 #[.int .u8 sign, .int .i64 m, .int .i64 b, .int .i64 who, .int .i64 kept] w fun e w' => e = .returned (.tuple #[.int .i64 0, .bool false]) ∧ w = w' :=
  (act33 sign m b who kept w).mono fun _ _ ⟨he, hw⟩ => ⟨by rw [he, h]; rfl, hw⟩

theorem suffix_at {s : ByteArray} {l : List Int} (h : l <:+ bl s) : ∃ k, k ≤ s.size ∧ l = (bl s).drop k := by
  refine ⟨(bl s).length - l.length, by rw [bl_length]; omega, (suffix_drop h).symm⟩

/-- The loop of doClause behind its head: from place k on. -/
def Rel27 (s : ByteArray) (who kept : Int) (dir : Bool) (r : Option Int) (m k : Value) : Prop :=
  ∃ (j : Nat) (mm : Int), j ≤ s.size ∧ k = .int .i64 j ∧ m = .int .i64 mm ∧ cgo who kept dir s.size ((bl s).drop j) mm = r

theorem cgo_step (who kept : Int) (dir : Bool) (n : Nat) (sg : Int) (r : List Int) (m : Int) (h : (sg :: r).length ≤ n) :
    cgo who kept dir n (sg :: r) m = (rbits who (dir || (bits .and .i64 m 73 != 0)) r 0).bind fun x => (actM sg m x.1 who kept).bind fun m' => cgo who kept dir n x.2 m' := by
  rw [cgo_fuel who kept dir n _ m h]
  simp only [List.length_cons, cgo]
  rcases hb : rbits who (dir || (bits .and .i64 m 73 != 0)) r 0 with _ | ⟨b, r'⟩
  · rfl
  · simp only [Option.bind_some]
    rcases ha : actM sg m b who kept with _ | m'
    · rfl
    · simp only [Option.bind_some]
      have hl : r'.length ≤ r.length := (rbits_suffix _ _ _ _ _ _ hb).length_le
      simp only [List.length_cons] at h
      rw [cgo_fuel _ _ _ n r' m' (by omega), cgo_fuel _ _ _ r.length r' m' hl]

theorem clauseM_is {s : ByteArray} {m mask who : Int} {dir : Bool} {k : Nat} (hw : rwho (bl s) 0 = (who, (bl s).drop k)) (hk : k ≤ s.size) :
    clauseM (bl s) m dir mask = if s.size ≤ k then none else if k = 0 then cgo 511 (bits .and .i64 mask 511) dir s.size ((bl s).drop k) m else cgo who 0 dir s.size ((bl s).drop k) m := by
  unfold clauseM
  rw [hw]
  simp only [List.length_drop, bl_length, List.drop_eq_nil_iff]
  by_cases h0 : k = 0
  · subst h0
    by_cases hz : s.size ≤ 0
    · simp [hz]
    · simp [hz]
  · by_cases hz : s.size ≤ k
    · simp [hz]
    · have h1 : ¬ s.size - k = s.size := by omega
      simp [hz, h0, h1]

/-- The round of doClause's loop: what it comes to. -/
def Step27 (s : ByteArray) (who kept : Int) (dir : Bool) (j : Nat) (mm : Int) (r : Option Int) (may : Bool) : Prop :=
  (r = none ∧ rbits who may ((bl s).drop (j + 1)) 0 = none) ∨
  (∃ b j2, j + 1 ≤ j2 ∧ j2 ≤ s.size ∧ rbits who may ((bl s).drop (j + 1)) 0 = some (b, (bl s).drop j2) ∧ ((actM (bt s j) mm b who kept = none ∧ r = none) ∨
    ∃ m', actM (bt s j) mm b who kept = some m' ∧ cgo who kept dir s.size ((bl s).drop j2) m' = r))

theorem step27 {s : ByteArray} {who kept : Int} {dir : Bool} {j : Nat} {mm : Int} {r : Option Int} (hj : j < s.size) (h : cgo who kept dir s.size ((bl s).drop j) mm = r) :
    Step27 s who kept dir j mm r (dir || (bits .and .i64 mm 73 != 0)) := by
  rw [bl_drop s j hj, cgo_step _ _ _ _ _ _ _ (by rw [List.length_cons, List.length_drop, bl_length]; omega)] at h
  rcases hb2 : rbits who (dir || (bits .and .i64 mm 73 != 0)) ((bl s).drop (j + 1)) 0 with _ | ⟨b, l'⟩
  · rw [hb2] at h
    exact .inl ⟨h.symm, hb2⟩
  · have hsuf := rbits_suffix _ _ _ _ _ _ hb2
    have hlen := hsuf.length_le
    obtain ⟨j2, hj2, rfl⟩ := suffix_at (s := s) (l := l') (hsuf.trans (List.drop_suffix _ _))
    simp only [List.length_drop, bl_length] at hlen
    rw [hb2] at h
    simp only [Option.bind_some] at h
    rcases ha : actM (bt s j) mm b who kept with _ | m'
    · rw [ha] at h
      by_cases hq : j + 1 ≤ j2
      · exact .inr ⟨b, j2, hq, hj2, hb2, .inl ⟨ha, h.symm⟩⟩
      · exact .inr ⟨b, s.size, by omega, Nat.le_refl _, by rw [hb2, bl_drop_end s s.size (Nat.le_refl _)]; rw [show (bl s).drop j2 = [] from bl_drop_end s j2 (by omega)], .inl ⟨ha, h.symm⟩⟩
    · rw [ha] at h
      simp only [Option.bind_some] at h
      have hq : j + 1 ≤ j2 := by omega
      exact .inr ⟨b, j2, hq, hj2, hb2, .inr ⟨m', ha, h⟩⟩

theorem cgo_nil (who kept : Int) (dir : Bool) (n : Nat) (m : Int) : cgo who kept dir n [] m = some m := by cases n <;> rfl

set_option maxHeartbeats 2000000 in
set_option maxRecDepth 100000 in
theorem clause27 (s : ByteArray) (m : Int) (dir : Bool) (mask : Int) (w : World) (hs : s.size ≤ maxLen) :
    Calls Try.prog 27 #[.string s, .int .i64 m, .bool dir, .int .i64 mask] w fun e w' => e = actR (clauseM (bl s) m dir mask) ∧ w = w' := by
  obtain ⟨who, l, hw⟩ : ∃ who l, rwho (bl s) 0 = (who, l) := ⟨_, _, rfl⟩
  obtain ⟨k, hk, rfl⟩ := suffix_at (s := s) (l := l) (by have := rwho_suffix (bl s) 0; rw [hw] at this; exact this)
  rw [clauseM_is hw hk]
  obtain ⟨r, hr0⟩ : ∃ r, (if s.size ≤ k then none else if k = 0 then cgo 511 (bits .and .i64 mask 511) dir s.size ((bl s).drop k) m else cgo who 0 dir s.size ((bl s).drop k) m) = r := ⟨_, rfl⟩
  rw [hr0]
  have HW := Lib.hid hw
  clear hw
  have hb := get_bt s
  unfold maxLen at hs
  by_cases hz : s.size ≤ k
  · rw [if_pos hz] at hr0
    subst hr0
    have hk2 : k = s.size := by omega
    subst hk2
    by_cases h0 : s.size = 0
    · have h1 : ((s.size : Int) == 0) = true := beq_iff_eq.2 (by omega)
      have h2 : ((s.size : Int) == (s.size : Int)) = true := by simp
      clear h0
      go_enter Try.func27, Try.ntmps27
      go_wp2_with (first | (go_at_call 31; refine (who31_at HW.out hk _ hs).mono ?_; rintro e w' ⟨rfl, rfl⟩) | (go_at_call 23; refine (lowest23 _ _).mono ?_; rintro e w' ⟨rfl, rfl⟩))
      go_ret2
      exact ⟨rfl, rfl⟩
    · have h1 : ((s.size : Int) == 0) = false := beq_eq_false_iff_ne.2 (by omega)
      have h2 : ((s.size : Int) == (s.size : Int)) = true := by simp
      clear h0
      go_enter Try.func27, Try.ntmps27
      go_wp2_with (first | (go_at_call 31; refine (who31_at HW.out hk _ hs).mono ?_; rintro e w' ⟨rfl, rfl⟩) | (go_at_call 23; refine (lowest23 _ _).mono ?_; rintro e w' ⟨rfl, rfl⟩))
      go_ret2
      exact ⟨rfl, rfl⟩
  · rw [if_neg hz] at hr0
    by_cases h0 : k = 0
    · rw [if_pos h0] at hr0
      subst h0
      have HR0 := Lib.hid hr0
      clear hr0
      have h1 : ((0 : Int) == (s.size : Int)) = false := by simp; omega
      go_enter Try.func27, Try.ntmps27
      go_wp2_with (first | (go_at_call 31; refine (who31_at HW.out hk _ hs).mono ?_; rintro e w' ⟨rfl, rfl⟩) | (go_at_call 23; refine (lowest23 _ _).mono ?_; rintro e w' ⟨rfl, rfl⟩))
      go_loop [1, 11] (Rel27 s 511 (bits .and .i64 mask 511) dir r) (fun _ k => s.size - (intOf k).toNat)
      case atStart => exact ⟨_, m, hk, rfl, rfl, HR0.out⟩
      case round =>
        obtain ⟨j, mm, hj, rfl, rfl, hr⟩ := hrel
        by_cases hlt : j < s.size
        · obtain ⟨may, hm⟩ : ∃ may : Bool, (dir || (bits .and .i64 mm 73 != 0)) = may := ⟨_, rfl⟩
          have hst := step27 hlt hr
          rw [hm] at hst
          have HR := Lib.hid hr
          clear hr
          have hm2 : (dir = false ∧ (bits .and .i64 mm 73 != 0) = may) ∨ (dir = true ∧ may = true) := by
            cases dir
            · exact .inl ⟨rfl, by simpa using hm⟩
            · exact .inr ⟨rfl, by simpa using hm.symm⟩
          clear hm
          rcases hst with ⟨hrn, hb2⟩ | ⟨b, j2, hj1, hj2, hb2, ⟨ha, hrn⟩ | ⟨m', ha, hrn⟩⟩
          · have HB := Lib.hid hb2
            have HN := Lib.hid hrn
            clear hb2 hrn
            rcases hm2 with ⟨hd, hm2⟩ | ⟨hd, hm2⟩ <;>
            · subst hd
              first | subst hm2 | skip
              go_wp2_with (go_at_call 32; refine (bits32_none HB.out hlt _ hs).mono ?_; rintro e w' ⟨rfl, rfl⟩)
              go_ret2
              rw [HN.out]
              exact ⟨rfl, rfl⟩
          · have HB := Lib.hid hb2
            have HN := Lib.hid hrn
            have HA := Lib.hid ha
            clear hb2 hrn ha
            rcases hm2 with ⟨hd, hm2⟩ | ⟨hd, hm2⟩ <;>
            · subst hd
              first | subst hm2 | skip
              go_wp2_with (first | (go_at_call 32; refine (bits32_some HB.out hlt hj2 _ hs).mono ?_; rintro e w' ⟨rfl, rfl⟩) | (go_at_call 33; refine (act33_none HA.out _).mono ?_; rintro e w' ⟨rfl, rfl⟩))
              go_ret2
              rw [HN.out]
              exact ⟨rfl, rfl⟩
          · have HB := Lib.hid hb2
            have HN := Lib.hid hrn
            have HA := Lib.hid ha
            clear hb2 hrn ha
            rcases hm2 with ⟨hd, hm2⟩ | ⟨hd, hm2⟩ <;>
            · subst hd
              first | subst hm2 | skip
              go_wp2_with (first | (go_at_call 32; refine (bits32_some HB.out hlt hj2 _ hs).mono ?_; rintro e w' ⟨rfl, rfl⟩) | (go_at_call 33; refine (act33_some HA.out _).mono ?_; rintro e w' ⟨rfl, rfl⟩))
              go_round
              case rel => exact ⟨j2, m', hj2, rfl, rfl, HN.out⟩
              case measure => simp [intOf]; omega
        · have hj2 : j = s.size := by omega
          subst hj2
          rw [bl_drop_end s s.size (Nat.le_refl _), cgo_nil] at hr
          have HR := Lib.hid hr
          clear hr
          go_wp2
          go_ret2
          rw [← HR.out]
          exact ⟨rfl, rfl⟩

    · rw [if_neg h0] at hr0
      have HR0 := Lib.hid hr0
      clear hr0
      have h1 : ((k : Int) == 0) = false := by simp; omega
      have h2 : ((k : Int) == (s.size : Int)) = false := by simp; omega
      go_enter Try.func27, Try.ntmps27
      go_wp2_with (first | (go_at_call 31; refine (who31_at HW.out hk _ hs).mono ?_; rintro e w' ⟨rfl, rfl⟩) | (go_at_call 23; refine (lowest23 _ _).mono ?_; rintro e w' ⟨rfl, rfl⟩))
      go_loop [1, 11] (Rel27 s who 0 dir r) (fun _ k => s.size - (intOf k).toNat)
      case atStart => exact ⟨_, m, hk, rfl, rfl, HR0.out⟩
      case round =>
        obtain ⟨j, mm, hj, rfl, rfl, hr⟩ := hrel
        by_cases hlt : j < s.size
        · obtain ⟨may, hm⟩ : ∃ may : Bool, (dir || (bits .and .i64 mm 73 != 0)) = may := ⟨_, rfl⟩
          have hst := step27 hlt hr
          rw [hm] at hst
          have HR := Lib.hid hr
          clear hr
          have hm2 : (dir = false ∧ (bits .and .i64 mm 73 != 0) = may) ∨ (dir = true ∧ may = true) := by
            cases dir
            · exact .inl ⟨rfl, by simpa using hm⟩
            · exact .inr ⟨rfl, by simpa using hm.symm⟩
          clear hm
          rcases hst with ⟨hrn, hb2⟩ | ⟨b, j2, hj1, hj2, hb2, ⟨ha, hrn⟩ | ⟨m', ha, hrn⟩⟩
          · have HB := Lib.hid hb2
            have HN := Lib.hid hrn
            clear hb2 hrn
            rcases hm2 with ⟨hd, hm2⟩ | ⟨hd, hm2⟩ <;>
            · subst hd
              first | subst hm2 | skip
              go_wp2_with (go_at_call 32; refine (bits32_none HB.out hlt _ hs).mono ?_; rintro e w' ⟨rfl, rfl⟩)
              go_ret2
              rw [HN.out]
              exact ⟨rfl, rfl⟩
          · have HB := Lib.hid hb2
            have HN := Lib.hid hrn
            have HA := Lib.hid ha
            clear hb2 hrn ha
            rcases hm2 with ⟨hd, hm2⟩ | ⟨hd, hm2⟩ <;>
            · subst hd
              first | subst hm2 | skip
              go_wp2_with (first | (go_at_call 32; refine (bits32_some HB.out hlt hj2 _ hs).mono ?_; rintro e w' ⟨rfl, rfl⟩) | (go_at_call 33; refine (act33_none HA.out _).mono ?_; rintro e w' ⟨rfl, rfl⟩))
              go_ret2
              rw [HN.out]
              exact ⟨rfl, rfl⟩
          · have HB := Lib.hid hb2
            have HN := Lib.hid hrn
            have HA := Lib.hid ha
            clear hb2 hrn ha
            rcases hm2 with ⟨hd, hm2⟩ | ⟨hd, hm2⟩ <;>
            · subst hd
              first | subst hm2 | skip
              go_wp2_with (first | (go_at_call 32; refine (bits32_some HB.out hlt hj2 _ hs).mono ?_; rintro e w' ⟨rfl, rfl⟩) | (go_at_call 33; refine (act33_some HA.out _).mono ?_; rintro e w' ⟨rfl, rfl⟩))
              go_round
              case rel => exact ⟨j2, m', hj2, rfl, rfl, HN.out⟩
              case measure => simp [intOf]; omega
        · have hj2 : j = s.size := by omega
          subst hj2
          rw [bl_drop_end s s.size (Nat.le_refl _), cgo_nil] at hr
          have HR := Lib.hid hr
          clear hr
          go_wp2
          go_ret2
          rw [← HR.out]
          exact ⟨rfl, rfl⟩

end Go.Proofs.Ytdoccakkjgcbjaa
