/- Contracts: strings.Cut at a single quote, CutPrefix, cutPiece, Read. Conditions: lengths below a bound. -/
import Derived.Test.YtgcjokbgjjacdaaDoorB
import Derived.RegionTactic
import Derived.Deep.QuietTactic
import Derived.BigQuiet
namespace Go.Proofs.YtgcjokbgjjacdaaDoor
open Go.RowKit Go.PlainAid
set_option linter.unusedSimpArgs false
set_option linter.unusedVariables false

set_option maxHeartbeats 1000000 in
set_option maxRecDepth 100000 in
theorem ix39 (s : ByteArray) (w : World) :
    Calls Tryd.prog 39 #[.string s, .string ⟨#[39]⟩] w fun e w' => e = .returned (.int .i64 (Lib.indexByte (ls s) 39)) ∧ w = w' :=
  (Tryd.stringslite_Index_one s 39 w).mono fun e w' ⟨h1, h2⟩ => ⟨h1, h2.symm⟩
set_option maxHeartbeats 1000000 in
set_option maxRecDepth 100000 in
theorem cut34_miss (s : ByteArray) (w : World) (h : Lib.indexByte (ls s) 39 = -1) :
    Calls Tryd.prog 34 #[.string s, .string ⟨#[39]⟩] w fun e w' => e = .returned (.tuple #[.string s, .string ⟨#[]⟩, .bool false]) ∧ w = w' := by
  have H := Lib.hid h
  clear h
  go_enter Tryd.func34, Tryd.ntmps34
  go_wp2_with (go_at_call 39; refine (ix39 _ _).mono ?_; rintro e w' ⟨rfl, rfl⟩; rw [H.out])
  go_ret3
  exact ⟨rfl, rfl⟩
set_option maxHeartbeats 1000000 in
set_option maxRecDepth 100000 in
theorem cut34_hit (s : ByteArray) (i : Nat) (w : World) (h : Lib.indexByte (ls s) 39 = i) (hi : i < s.size) (hs : s.size ≤ maxLen) :
    Calls Tryd.prog 34 #[.string s, .string ⟨#[39]⟩] w fun e w' => e = .returned (.tuple #[.string (s.extract 0 i), .string (s.extract (i + 1) s.size), .bool true]) ∧ w.drewN 1 = w' := by
  unfold maxLen at hs
  have H := Lib.hid h
  clear h
  have c1 : (0 : Int) ≤ ↑i := by omega
  have c2 : (↑i : Int) ≤ ↑s.size := by omega
  have c3 : (0 : Int) ≤ ↑i + 1 := by omega
  have c4 : (↑i + 1 : Int) ≤ ↑s.size := by omega
  go_enter Tryd.func34, Tryd.ntmps34
  go_wp2_with (go_at_call 39; refine (ix39 _ _).mono ?_; rintro e w' ⟨rfl, rfl⟩; rw [H.out])
  go_region
  go_wp2
  go_ret3
  exact ⟨rfl, rfl⟩
set_option maxHeartbeats 1000000 in
set_option maxRecDepth 100000 in
theorem cut26_miss (s : ByteArray) (w : World) (h : Lib.indexByte (ls s) 39 = -1) :
    Calls Tryd.prog 26 #[.string s, .string ⟨#[39]⟩] w fun e w' => e = .returned (.tuple #[.string s, .string ⟨#[]⟩, .bool false]) ∧ w = w' := by
  have H := Lib.hid h
  clear h
  go_enter Tryd.func26, Tryd.ntmps26
  go_wp2_with (go_at_call 34; refine (cut34_miss _ _ H.out).mono ?_; rintro e w' ⟨rfl, rfl⟩)
  go_ret3
  exact ⟨rfl, rfl⟩
set_option maxHeartbeats 1000000 in
set_option maxRecDepth 100000 in
theorem cut26_hit (s : ByteArray) (i : Nat) (w : World) (h : Lib.indexByte (ls s) 39 = i) (hi : i < s.size) (hs : s.size ≤ maxLen) :
    Calls Tryd.prog 26 #[.string s, .string ⟨#[39]⟩] w fun e w' => e = .returned (.tuple #[.string (s.extract 0 i), .string (s.extract (i + 1) s.size), .bool true]) ∧ w.drewN 1 = w' := by
  have H := Lib.hid h
  clear h
  go_enter Tryd.func26, Tryd.ntmps26
  go_wp2_with (go_at_call 34; refine (cut34_hit _ _ _ H.out hi hs).mono ?_; rintro e w' ⟨rfl, rfl⟩)
  go_ret3
  exact ⟨rfl, rfl⟩
def bsqB (s : ByteArray) : Bool := Lib.hasPrefix (ls s) [92, 39]
set_option maxHeartbeats 1000000 in
set_option maxRecDepth 100000 in
theorem prefix35 (s : ByteArray) (w : World) (h2 : bsqB s = true → 2 ≤ s.size) :
    Calls Tryd.prog 35 #[.string s, .string ⟨#[92, 39]⟩] w fun e w' => e = .returned (.tuple #[.string (if bsqB s then s.extract 2 s.size else s), .bool (bsqB s)]) ∧ w = w' := by
  have C : Hid (∀ w, Calls Tryd.prog 43 #[.string s, .string ⟨#[92, 39]⟩] w fun e w' => e = .returned (.bool (bsqB s)) ∧ w' = w) := Lib.hid fun w => Tryd.stringslite_HasPrefix s ⟨#[92, 39]⟩ w
  cases h : bsqB s
  · rw [h] at C
    go_enter Tryd.func35, Tryd.ntmps35
    go_wp2_with (go_at_call 43; refine (C.out _).mono ?_; rintro e w' ⟨rfl, rfl⟩)
    go_ret2
    exact ⟨rfl, rfl⟩
  · have h3 := h2 h
    rw [h] at C
    have c1 : (2 : Int) ≤ (s.size : Int) := by omega
    go_enter Tryd.func35, Tryd.ntmps35
    go_wp2_with (go_at_call 43; refine (C.out _).mono ?_; rintro e w' ⟨rfl, rfl⟩)
    go_ret2
    exact ⟨rfl, rfl⟩
set_option maxHeartbeats 1000000 in
set_option maxRecDepth 100000 in
theorem prefix27 (s : ByteArray) (w : World) (h2 : bsqB s = true → 2 ≤ s.size) :
    Calls Tryd.prog 27 #[.string s, .string ⟨#[92, 39]⟩] w fun e w' => e = .returned (.tuple #[.string (if bsqB s then s.extract 2 s.size else s), .bool (bsqB s)]) ∧ w = w' := by
  have C := Lib.hid fun w => prefix35 s w h2
  generalize (if bsqB s then s.extract 2 s.size else s) = t at C ⊢
  generalize bsqB s = b at C ⊢
  go_enter Tryd.func27, Tryd.ntmps27
  go_wp2_with (go_at_call 35; refine (C.out _).mono ?_; rintro e w' ⟨rfl, rfl⟩)
  go_ret2
  exact ⟨rfl, rfl⟩
theorem bsq_some {s : ByteArray} (h : bsqB s = true) : ∃ r, ls s = 92 :: 39 :: r := by
  unfold bsqB Lib.hasPrefix at h
  cases e : ls s with
  | nil => rw [e] at h; simp [List.isPrefixOf] at h
  | cons a r =>
    cases r with
    | nil => rw [e] at h; simp [List.isPrefixOf] at h
    | cons b r =>
      rw [e] at h
      simp [List.isPrefixOf] at h
      obtain ⟨rfl, rfl⟩ := h
      exact ⟨r, rfl⟩
theorem bsq_two {s : ByteArray} (h : bsqB s = true) : 2 ≤ s.size := by
  obtain ⟨r, e⟩ := bsq_some h
  rw [← ls_len, e]; simp
theorem bsq_none {s : ByteArray} (h : bsqB s = false) : ∀ b r, ls s = b :: r → b = 92 → r.head? ≠ some 39 := by
  intro b r e h1 h2
  subst h1
  cases r with
  | nil => simp at h2
  | cons c r =>
    simp at h2
    subst h2
    unfold bsqB Lib.hasPrefix at h
    rw [e] at h
    simp [List.isPrefixOf] at h

/-- What a text begins with. -/
def Piece (s p r : ByteArray) (ok : Bool) : Prop :=
  (ok = true → r.size < s.size ∧ p.size + r.size ≤ s.size ∧ rd false (ls s) = (rd false (ls r)).map (ls p ++ ·)) ∧ (ok = false → rd false (ls s) = none)
def GivesP (s : ByteArray) (w : World) (e : Ending) (w' : World) : Prop := ∃ p r ok, e = .returned (.tuple #[.string p, .string r, .bool ok]) ∧ Piece s p r ok ∧ Below w.heap.size w w'
theorem head_at {s : ByteArray} (h : 0 < s.size) : ls s = UInt8.ofNat (at0 (ls s) 0) :: ls (s.extract 1 s.size) := by
  rw [ls_drop]
  have := ls_cut s 0 h
  rw [List.drop_zero] at this
  exact this
set_option maxHeartbeats 4000000 in
set_option maxRecDepth 100000 in
theorem piece20 (s : ByteArray) (w : World) (h0 : 0 < s.size) (hs : s.size ≤ 1000000) : Calls Tryd.prog 20 #[.string s] w (GivesP s w) := by
  have hb := get_bt s
  have hat := at0_lt (ls s) 0
  have HA := Lib.hid (bt_at s 0)
  have HH := Lib.hid (head_at h0)
  have c1 : (1 : Int) ≤ (s.size : Int) := by omega
  have c0 : (0 : Int) < (s.size : Int) := by omega
  have ht : (s.extract 1 s.size).size = s.size - 1 := ext_sz s 1 s.size (Nat.le_refl _)
  by_cases h39 : at0 (ls s) 0 = 39
  · have hq : (bt s 0 == 39) = true := by rw [HA.out, h39]; rfl
    have HR : Hid (rd false (ls s) = rd true (ls (s.extract 1 s.size))) := Lib.hid (by rw [HH.out, h39]; exact rdF_39 _)
    obtain ⟨t, Ht⟩ : ∃ t, Hid (s.extract 1 s.size = t) := ⟨_, Lib.hid rfl⟩
    have et := Ht.out
    rw [et] at ht HR
    have hge := Lib.indexByte_ge (ls t) 39
    by_cases hm : Lib.indexByte (ls t) 39 = -1
    · have C := Lib.hid fun w => cut26_miss t w hm
      have HP : Hid (Piece s t ⟨#[]⟩ false) := Lib.hid ⟨fun h => (by cases h), fun _ => (by rw [HR.out]; exact rdT_none _ (ix_none hm))⟩
      clear ht h39 hge hm
      go_enter Tryd.func20, Tryd.ntmps20
      go_wp2_with (go_at_call 26; refine (C.out _).mono ?_; rintro e w' ⟨rfl, rfl⟩)
      go_ret3
      exact ⟨_, _, _, rfl, HP.out, Below.refl _ _⟩
    · obtain ⟨i, hi⟩ : ∃ i : Nat, Lib.indexByte (ls t) 39 = i := ⟨(Lib.indexByte (ls t) 39).toNat, by omega⟩
      obtain ⟨h1, h2, h3⟩ := ix_some hi
      rw [ls_len] at h1
      have C := Lib.hid fun w => cut26_hit t i w hi h1 (by unfold maxLen; omega)
      have HP : Hid (Piece s (t.extract 0 i) (t.extract (i + 1) t.size) true) := Lib.hid (by
        refine ⟨fun _ => ?_, fun h => (by cases h)⟩
        rw [ext_sz t 0 i (by omega), ext_sz t (i + 1) t.size (Nat.le_refl _)]
        refine ⟨by omega, by omega, ?_⟩
        rw [HR.out, ls_take, ls_drop]
        conv => lhs; rw [h2]
        exact rdT_cut _ _ h3)
      clear ht h39 hge hm hi h1 h2 h3
      go_enter Tryd.func20, Tryd.ntmps20
      go_wp2_with (go_at_call 26; refine (C.out _).mono ?_; rintro e w' ⟨rfl, rfl⟩)
      go_ret3
      exact ⟨_, _, _, rfl, HP.out, ((Below.refl _ w).drew)⟩
  · have hq : (bt s 0 == 39) = false := by rw [HA.out, beq_eq_false_iff_ne]; omega
    have C2 := Lib.hid fun w => prefix27 s w bsq_two
    have hne : UInt8.ofNat (at0 (ls s) 0) ≠ 39 := by
      intro e
      apply h39
      rw [← show (39 : UInt8).toNat = 39 from rfl, ← e, UInt8.toNat_ofNat', Nat.mod_eq_of_lt hat]
    cases hp : bsqB s
    · rw [hp] at C2
      have C : Hid (∀ W, Calls Tryd.prog 16 #[.int .u8 (at0 (ls s) 0)] W fun e w' => e = .returned (.bool (safeN (at0 (ls s) 0))) ∧ w' = W) := Lib.hid fun W => (safe16 (at0 (ls s) 0) hat W).mono fun e w' ⟨h1, h2⟩ => ⟨h1, h2.symm⟩
      rw [← HA.out] at C
      have hps : (s.extract 0 1).size = 1 := ext_sz s 0 1 (by omega)
      have hpl : ls (s.extract 0 1) = [UInt8.ofNat (at0 (ls s) 0)] := ls_at s 0 h0
      have HU : sfU (UInt8.ofNat (at0 (ls s) 0)) = safeN (at0 (ls s) 0) := by unfold sfU; rw [UInt8.toNat_ofNat', Nat.mod_eq_of_lt hat]
      have HP : Hid (Piece s (s.extract 0 1) (s.extract 1 s.size) (safeN (at0 (ls s) 0))) := Lib.hid (by
        refine ⟨fun h => ⟨by omega, by omega, ?_⟩, fun h => ?_⟩
        · rw [hpl]
          conv => lhs; rw [HH.out]
          rw [rdF_safe _ _ (by rw [HU]; exact h)]
          rfl
        · rw [HH.out]
          exact rdF_bad _ _ hne (bsq_none hp _ _ HH.out) (by rw [HU]; exact h))
      generalize safeN (at0 (ls s) 0) = ok at C HP
      clear ht h39 hne hps hpl HU hp HH
      go_enter Tryd.func20, Tryd.ntmps20
      go_wp2_with (go_at_call 27; refine (C2.out _).mono ?_; rintro e w' ⟨rfl, rfl⟩)
      go_quiet ((go_at_call 16; refine Calls.quiet_of_same (C.out _)))
      go_wp2
      go_ret3
      exact ⟨_, _, _, rfl, HP.out, ((Below.refl _ w).trans ⟨rfl, rfl, rfl, Nat.le_refl _, fun _ _ => rfl⟩)⟩
    · obtain ⟨r, hr⟩ := bsq_some hp
      have h2 := bsq_two hp
      rw [hp] at C2
      have HP : Hid (Piece s ⟨#[39]⟩ (s.extract 2 s.size) true) := Lib.hid (by
        refine ⟨fun _ => ?_, fun h => (by cases h)⟩
        rw [ext_sz s 2 s.size (Nat.le_refl _)]
        have h1 : (⟨#[39]⟩ : ByteArray).size = 1 := rfl
        refine ⟨by omega, by omega, ?_⟩
        rw [ls_drop, hr, rdF_bs]; rfl)
      clear ht h39 hne hp HH hr
      go_enter Tryd.func20, Tryd.ntmps20
      go_wp2_with (go_at_call 27; refine (C2.out _).mono ?_; rintro e w' ⟨rfl, rfl⟩)
      go_ret3
      exact ⟨_, _, _, rfl, HP.out, Below.refl _ _⟩
end Go.Proofs.YtgcjokbgjjacdaaDoor
