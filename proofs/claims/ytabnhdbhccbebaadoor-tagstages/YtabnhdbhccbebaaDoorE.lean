/- Contracts: the document's Digits, of two digits at most; a map from texts to numbers. Conditions: numbers below 100. -/
import Derived.Test.YtabnhdbhccbebaaDoorD
import Derived.Test.YtabnhdbhccbebaaDoorShelf
import Derived.Maps.OwnSet
import Derived.StringKeys
namespace Go.Proofs.YtabnhdbhccbebaaDoor
open Go.RowKit Go.PlainAid Go.Maps
set_option linter.unusedSimpArgs false
set_option linter.unusedVariables false

theorem itoa9 (n : Nat) (h : n < 100) (w : World) : Calls Tryd.prog 9 #[.int .i64 n] w fun e w' => e = .returned (.string (mk (Lib.decDigits n))) ∧ w = w' :=
  (Tryd.strconv_Itoa_small n h w).mono fun e w' ⟨h1, h2⟩ => ⟨h1, h2.symm⟩
theorem ofNat_nat {n : Nat} (h : n < 256) : ((UInt8.ofNat n).toNat : Int) = n := by rw [UInt8.toNat_ofNat', Nat.mod_eq_of_lt h]
def Rel10 (n B : Nat) (w : World) (x out : Value) (wx : World) : Prop := (x = .int .u64 n ∧ out = .string ⟨#[]⟩ ∧ wx = w) ∨ (10 ≤ n ∧ x = .int .u64 (n / 10 : Nat) ∧ out = .string (mk [UInt8.ofNat (48 + n % 10)]) ∧ Hid (Below B w wx) ∧ B ≤ wx.heap.size)
set_option maxHeartbeats 4000000 in
set_option maxRecDepth 100000 in
theorem digits10 (n : Nat) (h : n < 100) (w : World) : Calls Tryd.prog 10 #[.int .u64 n] w fun e w' => e = .returned (.string (mk (Lib.decDigits n))) ∧ Below w.heap.size w w' := by
  go_enter Tryd.func10, Tryd.ntmps10
  go_wp2
  go_loopw [0, 3] (Rel10 n w.heap.size w) (fun x _ _ => (intOf x).toNat)
  case atStart => exact .inl ⟨rfl, rfl, rfl⟩
  case round =>
    rename World => wx
    rcases hrel with ⟨rfl, rfl, rfl⟩ | ⟨h10, rfl, rfl, HB, hB⟩
    · by_cases h10 : 10 ≤ n
      · have hm : n % 10 < 10 := Nat.mod_lt _ (by omega)
        have hbk : (convert 33 9 (.slice (some ⟨wx.heap.size, 0, none⟩) 1 1)).run Tryd.prog (wx.alloc (.cells #[.int .u8 (48 + (n : Int) % 10)] 5)) = .ok (.string (mk [UInt8.ofNat (48 + n % 10)])) (wx.alloc (.cells #[.int .u8 (48 + (n : Int) % 10)] 5)) :=
          new_back wx [UInt8.ofNat (48 + n % 10)] #[.int .u8 (48 + (n : Int) % 10)] (by simp only [bc, List.map_cons, List.map_nil]; rw [ofNat_nat (by omega)]; rfl) 1
        have HB := Lib.hid ((Below.refl wx.heap.size wx).alloc (Nat.le_refl _) (.cells #[.int .u8 (48 + (n : Int) % 10)] 5))
        have hz1 : (mk [UInt8.ofNat (48 + n % 10)]).size = 1 := rfl
        have HE : Hid (mk [UInt8.ofNat (48 + n % 10)] ++ (⟨#[]⟩ : ByteArray) = mk [UInt8.ofNat (48 + n % 10)]) := Lib.hid (by rw [app_ls, ls_mk]; rfl)
        obtain ⟨S, HS⟩ : ∃ S, Hid (mk [UInt8.ofNat (48 + n % 10)] = S) := ⟨_, Lib.hid rfl⟩
        rw [HS.out] at hbk hz1 HE
        have n1 : ¬ 9223372036854775807 < S.size + (⟨#[]⟩ : ByteArray).size := by show ¬ _ < S.size + 0; omega
        go_wp2
        go_roundw
        case rel => exact .inr ⟨h10, by rw [Int.natCast_ediv]; rfl, by rw [HS.out, HE.out], HB, by simp⟩
        case measure => simp [intOf]; omega
      · have hbk : (convert 33 9 (.slice (some ⟨wx.heap.size, 0, none⟩) 1 1)).run Tryd.prog (wx.alloc (.cells #[.int .u8 (48 + (n : Int))] 5)) = .ok (.string (mk [UInt8.ofNat (48 + n)])) (wx.alloc (.cells #[.int .u8 (48 + (n : Int))] 5)) :=
          new_back wx [UInt8.ofNat (48 + n)] #[.int .u8 (48 + (n : Int))] (by simp only [bc, List.map_cons, List.map_nil]; rw [ofNat_nat (by omega)]; rfl) 1
        have HB := Lib.hid ((Below.refl wx.heap.size wx).alloc (Nat.le_refl _) (.cells #[.int .u8 (48 + (n : Int))] 5))
        have HE : Hid (mk [UInt8.ofNat (48 + n)] ++ (⟨#[]⟩ : ByteArray) = mk (Lib.decDigits n)) := Lib.hid (by rw [app_ls, ls_mk, dec_one (by omega)]; rfl)
        have hz1 : (mk [UInt8.ofNat (48 + n)]).size = 1 := rfl
        generalize mk [UInt8.ofNat (48 + n)] = S at hbk hz1 HE
        have n1 : ¬ 9223372036854775807 < S.size + (⟨#[]⟩ : ByteArray).size := by show ¬ _ < S.size + 0; omega
        go_wp2
        go_ret
        exact ⟨by rw [← HE.out]; rfl, HB.out⟩
    · obtain ⟨q, hq⟩ : ∃ q, n / 10 = q := ⟨_, rfl⟩
      have hq9 : q < 10 := by omega
      have hbk : (convert 33 9 (.slice (some ⟨wx.heap.size, 0, none⟩) 1 1)).run Tryd.prog (wx.alloc (.cells #[.int .u8 (48 + (q : Int))] 5)) = .ok (.string (mk [UInt8.ofNat (48 + q)])) (wx.alloc (.cells #[.int .u8 (48 + (q : Int))] 5)) :=
        new_back wx [UInt8.ofNat (48 + q)] #[.int .u8 (48 + (q : Int))] (by simp only [bc, List.map_cons, List.map_nil]; rw [ofNat_nat (by omega)]; rfl) 1
      have HB2 := Lib.hid (HB.out.alloc hB (.cells #[.int .u8 (48 + (q : Int))] 5))
      have HE : Hid (mk [UInt8.ofNat (48 + q)] ++ mk [UInt8.ofNat (48 + n % 10)] = mk (Lib.decDigits n)) := Lib.hid (by rw [mk_app, dec_two h10 h, hq]; rfl)
      have hz1 : (mk [UInt8.ofNat (48 + q)]).size = 1 := rfl
      have hz2 : (mk [UInt8.ofNat (48 + n % 10)]).size = 1 := rfl
      rw [hq]
      clear hq
      generalize mk [UInt8.ofNat (48 + q)] = S at hbk hz1 HE
      obtain ⟨R, HR⟩ : ∃ R, Hid (mk [UInt8.ofNat (48 + n % 10)] = R) := ⟨_, Lib.hid rfl⟩
      rw [HR.out] at hz2 HE ⊢
      have n1 : ¬ 9223372036854775807 < S.size + R.size := by omega
      go_wp2
      go_ret
      exact ⟨by rw [← HE.out]; rfl, HB2.out⟩
/-- Block M is a map that has, of each text, a number (or none, which reads as nought). -/
def CM (M : Nat) (f : List UInt8 → Nat) (n : Nat) (w : World) : Prop :=
  ∃ D : DataW Unit, w.ownsMap Tryd.prog 9 (plainElem Tryd.prog 3) M n D ∧ ∀ l : List UInt8, D.atKey (.string l) (.lit (.int .i64 0)) = .lit (.int .i64 (f l : Nat))
theorem CM.below {M B n : Nat} {f : List UInt8 → Nat} {w w' : World} (h : CM M f n w) (hb : Below B w w') (hM : M < B) : CM M f n w' := by
  obtain ⟨D, ⟨es, clock, hh, r⟩, h2⟩ := h
  exact ⟨D, ⟨es, clock, (hb.block M hM).trans hh, r⟩, h2⟩
theorem zero3 (w : World) : (zeroValue 3).run Tryd.prog w = .ok (.int .i64 0) w := by kernel_rfl
theorem CM.lt {M n : Nat} {f : List UInt8 → Nat} {w : World} (h : CM M f n w) : M < w.heap.size := by
  obtain ⟨D, ⟨es, clock, hh, r⟩, h2⟩ := h
  exact lt_of_block hh
theorem CM.look {M n : Nat} {f : List UInt8 → Nat} {w : World} (h : CM M f n w) (s : ByteArray) (hs : s.size ≤ 1000000) : (Instr.lookup 28 (.map (some M)) (.string s) false).run Tryd.prog w = .ok (.int .i64 (f (ls s) : Nat)) w := by
  obtain ⟨D, h1, h3⟩ := h
  obtain ⟨c, hr, hv, _⟩ := h1.lookup_int (string_keyed Tryd.underlying9) Tryd.underlying28 Tryd.underlying3 (zero3 w) (WideMaps.keyOf_string_mk Tryd.underlying9 (s := s) (by unfold maxLen; omega))
  rw [show s.data.toList = ls s from rfl, h3 (ls s)] at hv
  injection hv with hv
  injection hv with _ hv
  rw [hr, hv]
theorem CM.store {M n : Nat} {f : List UInt8 → Nat} {w : World} (h : CM M f n w) (s : ByteArray) (hs : s.size ≤ 1000000) (hn : n < 1000000) (v : Nat) (hv : v < 1000000) :
    ∃ w', (Instr.mapUpdate 28 (.map (some M)) (.string s) (.int .i64 (v : Int))).run Tryd.prog w = .ok () w' ∧ CM M (fun l => if l = ls s then v else f l) (n + 1) w' ∧ w.grownBy w' (some M) := by
  obtain ⟨D, h1, h3⟩ := h
  have hw : (Lit.int .i64 (v : Int)).wf = true := WalkArith.wf_i64 (by omega)
  obtain ⟨w', hr, ho, ht⟩ := h1.store (string_keyed Tryd.underlying9) Tryd.underlying28 (by unfold maxLen; omega) (WideMaps.keyOf_string_mk Tryd.underlying9 (s := s) (by unfold maxLen; omega)) (plainElem_int Tryd.underlying3 hw)
  refine ⟨w', hr, ⟨_, ho, ?_⟩, ht.grown⟩
  intro l
  show _ = DataW.lit (Lit.int .i64 ((if l = ls s then v else f l : Nat) : Int))
  by_cases e : l = ls s
  · subst e
    rw [if_pos rfl]
    exact Maps.atKey_put_same h1.isMap (show WideAt.IsKeyLit (.string (ls s)) from trivial) _ _
  · rw [if_neg e, Maps.atKey_put_other (by intro e'; cases e'; exact e rfl)]
    exact h3 l
theorem CM.made (w : World) : CM w.heap.size (fun _ => 0) 0 (w.alloc (.map #[] 0)) :=
  ⟨_, World.ownsMap_made w _ _ _, fun l => rfl⟩
end Go.Proofs.YtabnhdbhccbebaaDoor
