/- Contracts: bytes, written. Conditions: lengths below a bound. -/
import Derived.Test.YtfaohicadahcjaaGreatDoorW
import Derived.Lib.IndexBytes
import Derived.Lib.CountLaws
import Derived.Lib.Replace
namespace Go.Proofs.YtfaohicadahcjaaGreatDoor
open Go.RowKit Go.PlainAid Go.ChangeShapes Go.WideShapes Go.ChangeAt
set_option linter.unusedSimpArgs false
set_option linter.unusedVariables false
def sq : List UInt8 → List UInt8
  | [] => []
  | b :: r => if b = 39 then 39 :: 92 :: 39 :: 39 :: sq r else b :: sq r
def singleL (l : List UInt8) : List UInt8 := 39 :: (sq l ++ [39])
theorem sq_app : ∀ a b : List UInt8, sq (a ++ b) = sq a ++ sq b
  | [], b => rfl
  | x :: a, b => by
    rw [List.cons_append, sq, sq, sq_app a b]
    split <;> simp
theorem sq_len : ∀ l : List UInt8, (sq l).length ≤ 4 * l.length
  | [] => by simp [sq]
  | x :: a => by
    have := sq_len a
    rw [sq]
    split <;> simp <;> omega
theorem sq_id : ∀ l : List UInt8, (∀ b ∈ l, b ≠ 39) → sq l = l
  | [], _ => rfl
  | b :: r, h => by rw [sq, if_neg (h b (by simp)), sq_id r (fun x hx => h x (by simp [hx]))]
theorem ix_none {l : List UInt8} (h : Lib.indexByte l 39 = -1) : ∀ b ∈ l, b ≠ 39 := by
  rintro b hb rfl
  obtain ⟨k, hk, e⟩ := List.getElem_of_mem hb
  exact Lib.indexByte_none h k (by rw [List.getElem?_eq_getElem hk, e])
theorem ix_some {l : List UInt8} {i : Nat} (h : Lib.indexByte l 39 = i) : i < l.length ∧ l = l.take i ++ 39 :: l.drop (i + 1) ∧ ∀ b ∈ l.take i, b ≠ 39 := by
  obtain ⟨h1, h2⟩ := Lib.indexByte_some h
  obtain ⟨hi, e⟩ := List.getElem?_eq_some_iff.1 h1
  refine ⟨hi, ?_, ?_⟩
  · conv => lhs; rw [← List.take_append_drop i l]
    rw [List.drop_eq_getElem_cons hi, e]
  · rintro b hb rfl
    obtain ⟨k, hk, e⟩ := List.getElem_of_mem hb
    rw [List.length_take] at hk
    rw [List.getElem_take] at e
    exact h2 k (by omega) (by rw [List.getElem?_eq_getElem (by omega), e])
theorem repl_sq : ∀ (n : Nat) (l : List UInt8), l.length ≤ n → Lib.replaceK [39] [39, 92, 39, 39] (Lib.count l [39]) l = sq l := by
  intro n
  induction n with
  | zero =>
    intro l h
    obtain rfl : l = [] := List.eq_nil_of_length_eq_zero (by omega)
    rfl
  | succ n ih =>
    intro l h
    have hge := Lib.indexByte_ge l 39
    by_cases hm : Lib.indexByte l 39 = -1
    · rw [Lib.count_miss (by rw [Lib.index_one]; exact hm), Lib.replaceK, sq_id l (ix_none hm)]
    · obtain ⟨i, hi⟩ : ∃ i : Nat, Lib.indexByte l 39 = i := ⟨(Lib.indexByte l 39).toNat, by omega⟩
      obtain ⟨h1, h2, h3⟩ := ix_some hi
      have hx : Lib.index l [39] = i := by rw [Lib.index_one]; exact hi
      rw [Lib.count_hit (by simp) hx, Nat.add_comm, Lib.replaceK_hit _ _ _ _ _ hx]
      rw [List.length_singleton, ih (l.drop (i + 1)) (by rw [List.length_drop]; omega)]
      conv => rhs; rw [h2, sq_app, sq_id _ h3, sq, if_pos rfl]
      simp
theorem all_sq (l : List UInt8) : Lib.replaceAll l [39] [39, 92, 39, 39] = sq l := by
  unfold Lib.replaceAll Lib.replace
  rw [if_neg (by decide)]
  unfold Lib.replaceNum
  rw [if_pos (by left; decide), repl_sq _ l (Nat.le_refl _)]
/-- Bytes as they are written. -/
def litW (t : ByteArray) (q : Bool) : List UInt8 := if q then singleL (ls t) else ls t
theorem litW_len (t : ByteArray) (q : Bool) : (litW t q).length ≤ 4 * t.size + 2 := by
  have := sq_len (ls t)
  rw [ls_len] at this
  unfold litW singleL
  cases q
  · simp [ls_len]; omega
  · simp; omega
set_option maxHeartbeats 4000000 in
set_option maxRecDepth 100000 in
theorem bytes74 (B D : Nat) (rest : List Value) (v : Value) (l : List UInt8) (s : ByteArray) (q : Bool) (w : World) (h : IsBld B D 72 rest v l w) (he : Env w) (hs : s.size ≤ 1048576) (hlen : l.length ≤ 140737400000000) (hBw : B ≤ w.heap.size) :
    Calls Tryz.prog 74 #[.pointer (some ⟨D, 0, none⟩), .string s, .bool q] w (Wrote B D rest l (litW s q) w) := by
  have hbl := litW_len s q
  cases q
  · have C := Lib.hid (text_new B D rest v l [s] w h (by simp [flatS, ls_len]; omega) (by simp) hBw)
    rw [show flatS [s] = litW s false from by simp [flatS, litW]] at C
    clear h he
    go_enter Tryz.func74, Tryz.ntmps74
    go_wp2_with fail
    refine C.out.mono ?_
    intro e w2 hw
    have HW := Lib.hid hw
    obtain ⟨rfl, _⟩ := hw
    go_wp2
    go_end0
    exact HW.out
  · obtain ⟨m, hm⟩ := he
    have hcl := Lib.countB_le ⟨#[39]⟩ (by decide) s.size s (Nat.le_refl _)
    have h1 := Tryz.strings_ReplaceAll s ⟨#[39]⟩ ⟨#[39, 92, 39, 39]⟩ m w (by omega) hm (by decide) (by
      show s.size + Lib.countB s ⟨#[39]⟩ * 4 ≤ _
      omega)
    have e1 : Lib.replaceAll s.data.toList (⟨#[39]⟩ : ByteArray).data.toList (⟨#[39, 92, 39, 39]⟩ : ByteArray).data.toList = sq (ls s) := all_sq (ls s)
    rw [e1] at h1
    have hl := sq_len (ls s)
    rw [ls_len] at hl
    obtain ⟨X, HX⟩ : ∃ X, Hid (mk (sq (ls s)) = X) := ⟨_, Lib.hid rfl⟩
    have hXs : X.size ≤ 4 * s.size := by rw [← HX.out, mk_size]; exact hl
    rw [show (⟨(sq (ls s)).toArray⟩ : ByteArray) = X from HX.out] at h1
    have C := Lib.hid h1
    obtain ⟨Z, HZ⟩ : ∃ Z, Hid ((⟨#[39]⟩ : ByteArray) ++ X ++ ⟨#[39]⟩ = Z) := ⟨_, Lib.hid rfl⟩
    have HF : Hid (ls Z = singleL (ls s)) := Lib.hid (by rw [← HZ.out, app_ls2, app_ls2, ← HX.out, ls_mk]; rfl)
    have n1 : ¬ 9223372036854775807 < (⟨#[39]⟩ : ByteArray).size + X.size := by show ¬ _ < 1 + X.size; omega
    have n1' : ¬ 9223372036854775807 < 1 + X.size := by omega
    obtain ⟨Y, HY⟩ : ∃ Y, Hid ((⟨#[39]⟩ : ByteArray) ++ X = Y) := ⟨_, Lib.hid rfl⟩
    have z1 : ((⟨#[39]⟩ : ByteArray) ++ X).size = 1 + X.size := ByteArray.size_append
    rw [HY.out] at z1 HZ
    have n2 : ¬ 9223372036854775807 < Y.size + (⟨#[39]⟩ : ByteArray).size := by show ¬ _ < Y.size + 1; omega
    have n2' : ¬ 9223372036854775807 < Y.size + 1 := by omega
    have hy := HY.out
    have hz := HZ.out
    have HLW : Hid (litW s true = ls Z) := Lib.hid (by rw [HF.out]; rfl)
    have CT := Lib.hid fun (W : World) (hb : Below w.heap.size w W) => text_new B D rest v l [Z] W (h.below hb) (by
      rw [HLW.out] at hbl
      simp only [flatS, List.map_cons, List.map_nil, List.flatten_cons, List.flatten_nil, List.append_nil, List.length_append]
      omega) (by simp) (Nat.le_trans hBw hb.size)
    rw [HLW.out]
    clear h h1 e1 hcl z1 hm
    go_enter Tryz.func74, Tryz.ntmps74
    go_wp2_with fail
    refine C.out.mono ?_
    rintro e w1 ⟨rfl, b1⟩
    have HB := Lib.hid b1
    have HK := Lib.hid (And.intro (Ke.of_below (D := D) b1) (b1.mono hBw))
    have CT1 := Lib.hid (CT.out w1 b1)
    clear b1 CT
    go_wp2_with fail
    refine CT1.out.mono ?_
    intro e w2 hw
    have HW := Lib.hid (show Wrote B D rest l (ls Z) w e w2 from ⟨hw.1, by
      obtain ⟨_, v', a1, a2, a3⟩ := hw
      exact ⟨v', by simpa [flatS] using a1, HK.out.1.trans a2, HK.out.2.trans a3⟩⟩)
    obtain ⟨rfl, _⟩ := hw
    go_wp2
    go_end0
    exact HW.out
end Go.Proofs.YtfaohicadahcjaaGreatDoor
