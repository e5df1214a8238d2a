/- UuPlain, walked: of all lines each byte is plain, and none has more than 62. No condition but those that each says. -/
import Derived.Test.YtdjfapaebonadaaL
namespace Go.Proofs.Ytdjfapaebonadaa
open Go.RowKit Go.PlainAid
set_option linter.unusedSimpArgs false
set_option linter.unusedVariables false

def okP (i c : Nat) : Prop := c = 10 ∨ (33 ≤ c ∧ c ≤ 96) ∨ i < 12 ∨ c = 101 ∨ c = 110 ∨ c = 100
/-- From a place on, with so many bytes of its line ahead: all plain, and no line too long. -/
def plainL : Nat → Nat → List UInt8 → Prop
  | _, _, [] => True
  | i, n, c :: r => okP i c.toNat ∧ n + 1 ≤ 62 ∧ plainL (i + 1) (if c.toNat = 10 then 0 else n + 1) r
theorem plain_seg : ∀ (a r : List UInt8) (i n : Nat), (∀ c ∈ a, 33 ≤ c.toNat ∧ c.toNat ≤ 96) → n + a.length + 1 ≤ 62 → plainL (i + a.length + 1) 0 r → plainL i n (a ++ 10 :: r)
  | [], r, i, n, _, h, hr => ⟨.inl rfl, by simpa using h, hr⟩
  | c :: a, r, i, n, ha, h, hr => by
    have hc := ha c (by simp)
    refine ⟨.inr (.inl hc), by simp at h; omega, ?_⟩
    rw [if_neg (by omega)]
    exact plain_seg a r (i + 1) (n + 1) (fun x hx => ha x (by simp [hx])) (by simp at h; omega) (by simpa [Nat.add_assoc, Nat.add_comm, Nat.add_left_comm] using hr)
theorem plain_line (l r : List UInt8) (i : Nat) (h : l.length ≤ 45) (hr : ∀ j, plainL j 0 r) : plainL i 0 (line l ++ r) := by
  have e : line l ++ r = (lt l.length :: body l) ++ 10 :: r := by simp [line]
  rw [e]
  refine plain_seg _ _ _ _ ?_ ?_ (hr _)
  · intro c hc
    rcases List.mem_cons.1 hc with rfl | hc
    · exact lt_ge _ (by omega)
    · exact body_ge l c hc
  · simp [body_len]; omega
theorem plain_end (i : Nat) : plainL i 0 endL := by
  simp [endL, plainL, okP]
theorem plain_rest (l : List UInt8) (i : Nat) : plainL i 0 (restL l) := by
  by_cases h : l = []
  · subst h; rw [restL_nil]; exact plain_line _ _ _ (by simp) plain_end
  · have hp := List.length_pos_iff.2 h
    rw [restL_cons h]
    exact plain_line _ _ _ (by simp; omega) fun j => plain_rest (l.drop 45) j
termination_by l.length
decreasing_by have := List.length_pos_iff.2 h; simp; omega
theorem plain_enc (s : List UInt8) : plainL 0 0 (encL 384 [120] s) := by
  unfold encL
  show plainL 0 0 (98 :: 101 :: 103 :: 105 :: 110 :: 32 :: od 6 :: od 48 :: od 384 :: 32 :: 120 :: 10 :: restL s)
  have h1 := plain_rest s 12
  have e1 : (od 6).toNat = 54 := rfl
  have e2 : (od 48).toNat = 48 := rfl
  have e3 : (od 384).toNat = 48 := rfl
  simp [plainL, okP, e1, e2, e3]
  exact h1
theorem plain_cut (s : ByteArray) (k n : Nat) (h : k < s.size) : plainL k n ((ls s).drop k) ↔ okP k (at0 (ls s) k) ∧ n + 1 ≤ 62 ∧ plainL (k + 1) (if at0 (ls s) k = 10 then 0 else n + 1) ((ls s).drop (k + 1)) := by
  have hk : k < (ls s).length := by rw [ls_len]; exact h
  rw [List.drop_eq_getElem_cons hk, at0_of hk]
  exact Iff.rfl
def Rel6 (t : ByteArray) (n i : Value) : Prop := ∃ k m : Nat, k ≤ t.size ∧ i = .int .i64 k ∧ n = .int .i64 m ∧ m ≤ 62 ∧ plainL k m ((ls t).drop k)
set_option maxHeartbeats 4000000 in
set_option maxRecDepth 100000 in
theorem plain6 (s : ByteArray) (hs : s.size ≤ 140737488351232) (w : World) : Calls Try.prog 6 #[.string s] w fun e w' => e = .returned (.bool true) ∧ Below w.heap.size w w' := by
  have CA := Lib.hid (anchor8 w)
  by_cases h1 : 3000 < s.size
  · go_enter Try.func6, Try.ntmps6
    go_wp2_with (go_at_call 8; refine CA.out.mono ?_)
    rintro e w1 ⟨rfl, b1⟩
    have B1 := Lib.hid b1
    clear b1 CA
    go_wp2
    go_ret
    exact ⟨rfl, B1.out⟩
  have CE := Lib.hid fun w => enc9_ok 384 ⟨#[120]⟩ s w (by omega) (by decide) (by omega)
  rw [show ls ⟨#[120]⟩ = [120] from rfl] at CE
  have HP := Lib.hid (plain_enc (ls s))
  have hlen : (mk (encL 384 [120] (ls s))).size ≤ 10000 := by rw [mk_size]; exact encL_len _ _ _ (by simp) (by rw [ls_len]; omega)
  rw [← ls_mk (encL 384 [120] (ls s))] at HP
  generalize mk (encL 384 [120] (ls s)) = t at CE HP hlen
  have hb := get_bt t
  go_enter Try.func6, Try.ntmps6
  go_wp2_with (go_at_call 8; refine CA.out.mono ?_)
  rintro e w1 ⟨rfl, b1⟩
  have B1 := Lib.hid b1
  clear b1 CA
  go_wp2_with (go_at_call 9; refine (CE.out _).mono ?_)
  rintro e w2 ⟨rfl, b2⟩
  have B2 := Lib.hid (B1.out.trans (b2.mono B1.out.size))
  clear b2 CE
  go_wp2
  go_loop [5, 19] (Rel6 t) (fun _ i => t.size - (intOf i).toNat)
  case atStart => exact ⟨0, 0, by omega, rfl, rfl, by omega, HP.out⟩
  case round =>
    clear HP
    obtain ⟨k, m, hk, rfl, rfl, hm, hp⟩ := hrel
    by_cases hlt : k < t.size
    · obtain ⟨hok, hm1, hnx⟩ := (plain_cut t k m hlt).1 hp
      have b1 := bt_nonneg t k
      have b2 := bt_le t k
      have HX := Lib.hid hnx
      have HA := Lib.hid (bt_at t k)
      have HO := Lib.hid hok
      clear hp hnx hok
      have hm62 : ¬ ((62 : Int) < (m : Int) + 1) := by omega
      cases h10 : (bt t k == 10)
      · have h10' : (bt t k != 10) = true := by rw [bne, h10]; rfl
        have HN : Hid (plainL (k + 1) (m + 1) ((ls t).drop (k + 1))) := Lib.hid (by
          have := HX.out
          rw [if_neg (by intro e; rw [HA.out, e] at h10; cases h10)] at this
          exact this)
        by_cases hin : 33 ≤ bt t k ∧ bt t k ≤ 96
        · obtain ⟨hi1, hi2⟩ := hin
          go_wp2
          go_round
          case rel => exact ⟨k + 1, m + 1, hlt, by go_num, by go_num, by omega, HN.out⟩
          case measure => simp [intOf]; omega
        · have hout : bt t k < 33 ∨ 96 < bt t k := by omega
          by_cases h12 : k < 12
          · have h12' : decide ((12 : Int) ≤ (k : Int)) = false := decide_eq_false (by omega)
            rcases hout with hout | hout
            · go_wp2
              go_round
              case rel => exact ⟨k + 1, m + 1, hlt, by go_num, by go_num, by omega, HN.out⟩
              case measure => simp [intOf]; omega
            · go_wp2
              go_round
              case rel => exact ⟨k + 1, m + 1, hlt, by go_num, by go_num, by omega, HN.out⟩
              case measure => simp [intOf]; omega
          · have h12' : decide ((12 : Int) ≤ (k : Int)) = true := decide_eq_true (by omega)
            have hend : bt t k = 101 ∨ bt t k = 110 ∨ bt t k = 100 := by
              have h0 := HO.out
              have ha := HA.out
              unfold okP at h0
              have hne : bt t k ≠ 10 := by simpa using h10
              omega
            have hbig : 96 < bt t k := by omega
            have hnb : ¬ bt t k < 33 := by omega
            clear hout hin
            rcases hend with he | he | he
            · have e1 : (bt t k != 101) = false := by rw [he]; rfl
              clear he
              go_wp2
              go_round
              case rel => exact ⟨k + 1, m + 1, hlt, by go_num, by go_num, by omega, HN.out⟩
              case measure => simp [intOf]; omega
            · have e1 : (bt t k != 101) = true := by rw [he]; rfl
              have e2 : (bt t k != 110) = false := by rw [he]; rfl
              clear he
              go_wp2
              go_round
              case rel => exact ⟨k + 1, m + 1, hlt, by go_num, by go_num, by omega, HN.out⟩
              case measure => simp [intOf]; omega
            · have e1 : (bt t k != 101) = true := by rw [he]; rfl
              have e2 : (bt t k != 110) = true := by rw [he]; rfl
              have e3 : (bt t k != 100) = false := by rw [he]; rfl
              clear he
              go_wp2
              go_round
              case rel => exact ⟨k + 1, m + 1, hlt, by go_num, by go_num, by omega, HN.out⟩
              case measure => simp [intOf]; omega
      · have h10' : (bt t k != 10) = false := by rw [bne, h10]; rfl
        have HN : Hid (plainL (k + 1) 0 ((ls t).drop (k + 1))) := Lib.hid (by
          have := HX.out
          rw [if_pos (by have := beq_iff_eq.1 h10; rw [HA.out] at this; omega)] at this
          exact this)
        go_wp2
        go_round
        case rel => exact ⟨k + 1, 0, hlt, by go_num, rfl, by omega, HN.out⟩
        case measure => simp [intOf]; omega
    · obtain rfl : k = t.size := by omega
      go_wp2
      go_ret
      exact ⟨rfl, B2.out⟩
end Go.Proofs.Ytdjfapaebonadaa
