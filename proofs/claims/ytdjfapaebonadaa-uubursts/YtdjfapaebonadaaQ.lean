/- Contract of lines read. Condition: at most 3000 bytes. -/
import Derived.Test.YtdjfapaebonadaaO
namespace Go.Proofs.Ytdjfapaebonadaa
open Go.RowKit Go.PlainAid
set_option linter.unusedSimpArgs false
set_option linter.unusedVariables false

/-- How many bytes a line says that it has. -/
def cnt : List UInt8 → Option Nat
  | [] => none
  | c :: r => match sixO c with
    | none => none
    | some n => if n ≤ 45 ∧ r.length = (n + 2) / 3 * 4 then some n else none
theorem bytesOf_none {l : List UInt8} (h : cnt l = none) : bytesOf l = none := by
  match l, h with
  | [], _ => rfl
  | c :: r, h =>
    simp only [cnt, bytesOf] at h ⊢
    cases hs : sixO c with
    | none => rfl
    | some n =>
      rw [hs] at h
      simp only at h ⊢
      split at h
      · cases h
      · rename_i hn; rw [if_neg hn]
theorem cnt_some {l : List UInt8} {n : Nat} (h : cnt l = some n) : bytesOf l = gr n (l.drop 1) ∧ n ≤ 45 ∧ l.length = 1 + (n + 2) / 3 * 4 := by
  match l, h with
  | c :: r, h =>
    simp only [cnt, bytesOf] at h ⊢
    cases hs : sixO c with
    | none => rw [hs] at h; cases h
    | some k =>
      rw [hs] at h
      simp only at h ⊢
      split at h
      · rename_i hn
        cases h
        rw [if_pos hn]
        exact ⟨rfl, hn.1, by simp; omega⟩
      · cases h
theorem cnt_at {s : ByteArray} (h : 0 < s.size) : cnt (ls s) = match sixN (at0 (ls s) 0) with | none => none | some n => if n ≤ 45 ∧ s.size = 1 + (n + 2) / 3 * 4 then some n else none := by
  have hl := ls_len s
  cases hls : ls s with
  | nil => rw [hls] at hl; simp at hl; omega
  | cons c r =>
    rw [hls] at hl
    show (match sixN c.toNat with | none => none | some n => if n ≤ 45 ∧ r.length = (n + 2) / 3 * 4 then some n else none) = _
    rw [show at0 (c :: r) 0 = c.toNat from rfl]
    cases sixN c.toNat with
    | none => rfl
    | some n =>
      simp only
      simp at hl
      congr 1
      rw [eq_iff_iff]
      omega
set_option maxHeartbeats 2000000 in
set_option maxRecDepth 100000 in
theorem count39 (s : ByteArray) (w : World) (hs : s.size ≤ 100000) : Calls Try.prog 39 #[.string s] w fun e w' => e = .returned (v46 (cnt (ls s))) ∧ w = w' := by
  by_cases h0 : s.size = 0
  · have hne := toList_em h0
    rw [show cnt (ls s) = none by rw [ls_em h0]; rfl]
    go_enter Try.func39, Try.ntmps39
    go_wp2
    go_ret2
    exact ⟨rfl, rfl⟩
  · have hne := toList_ne (s := s) (by omega)
    have hb := get_bt s
    have C := Lib.hid fun w => six46 (at0 (ls s) 0) (at0_lt _ _) w
    rw [← bt_at] at C
    rw [cnt_at (by omega)]
    cases h6 : sixN (at0 (ls s) 0) with
    | none =>
      rw [h6] at C
      clear h6
      unfold v46 at C ⊢
      go_enter Try.func39, Try.ntmps39
      go_wp2_with (go_at_call 46; refine (C.out _).mono ?_; rintro e w' ⟨rfl, rfl⟩)
      go_ret2
      exact ⟨rfl, rfl⟩
    | some n =>
      rw [h6] at C
      have hn := sixN_lt h6
      clear h6
      have CC := Lib.hid fun w => count41 n (by omega) w
      simp only
      by_cases h45 : n ≤ 45
      · have hM : (n + 2) / 3 * 4 ≤ 1000 := by omega
        generalize (n + 2) / 3 * 4 = M at CC hM ⊢
        by_cases hsz : s.size = 1 + M
        · rw [if_pos ⟨h45, hsz⟩]
          have hd : ((s.size : Int) != 1 + (M : Int)) = false := by simp; omega
          have h45' : ¬ ((45 : Int) < (n : Int)) := by omega
          clear hsz
          unfold v46 at C ⊢
          go_enter Try.func39, Try.ntmps39
          go_wp2_with (first
            | (go_at_call 46; refine (C.out _).mono ?_; rintro e w' ⟨rfl, rfl⟩)
            | (go_at_call 41; refine (CC.out _).mono ?_; rintro e w' ⟨rfl, rfl⟩))
          go_ret2
          exact ⟨rfl, rfl⟩
        · rw [if_neg (by omega)]
          have hd : ((s.size : Int) != 1 + (M : Int)) = true := by simp; omega
          have h45' : ¬ ((45 : Int) < (n : Int)) := by omega
          clear hsz
          unfold v46 at C ⊢
          go_enter Try.func39, Try.ntmps39
          go_wp2_with (first
            | (go_at_call 46; refine (C.out _).mono ?_; rintro e w' ⟨rfl, rfl⟩)
            | (go_at_call 41; refine (CC.out _).mono ?_; rintro e w' ⟨rfl, rfl⟩))
          go_ret2
          exact ⟨rfl, rfl⟩
      · rw [if_neg (by omega)]
        have h45' : (45 : Int) < (n : Int) := by omega
        unfold v46 at C ⊢
        go_enter Try.func39, Try.ntmps39
        go_wp2_with (go_at_call 46; refine (C.out _).mono ?_; rintro e w' ⟨rfl, rfl⟩)
        go_ret2
        exact ⟨rfl, rfl⟩
end Go.Proofs.Ytdjfapaebonadaa
