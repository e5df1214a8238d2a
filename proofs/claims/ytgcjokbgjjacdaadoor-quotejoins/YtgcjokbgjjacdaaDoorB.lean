/- Contracts: Single and Word, ours and the document's; the anchor. Conditions: lengths below a bound; the library's own variable holds some number. -/
import Derived.Test.YtgcjokbgjjacdaaDoorA
import Derived.Test.YtgcjokbgjjacdaaDoorShelf
import Derived.Lib.IndexBytes
import Derived.Lib.CountLaws
import Derived.Lib.Replace
namespace Go.Proofs.YtgcjokbgjjacdaaDoor
open Go.RowKit Go.PlainAid
set_option linter.unusedSimpArgs false
set_option linter.unusedVariables false

/-- What a walk wants of the library's own variable: it holds some number. -/
def Env (w : World) : Prop := ∃ m : Int, w.cell? ⟨0, 0, none⟩ = some (.int .i64 m)
theorem Env.below {B : Nat} {w w' : World} (h : Env w) (hb : Below B w w') (hB : w.heap.size ≤ B) : Env w' := by
  obtain ⟨m, hm⟩ := h
  exact ⟨m, by rw [hb.cell (Nat.lt_of_lt_of_le (World.block_lt_of_cell? _ _ hm) hB)]; exact hm⟩
theorem Env.on {w w' : World} (h : Env w) (hb : Below w.heap.size w w') : Env w' := h.below hb (Nat.le_refl _)

theorem sq_id : ∀ l : List UInt8, (∀ b ∈ l, b ≠ 39) → sq l = l
  | [], _ => rfl
  | b :: r, h => by rw [sq, if_neg (h b (by simp)), sq_id r (fun x hx => h x (by simp [hx]))]
theorem ix_none {l : List UInt8} (h : Lib.indexByte l 39 = -1) : ∀ b ∈ l, b ≠ 39 := by
  rintro b hb rfl
  obtain ⟨k, hk, e⟩ := List.getElem_of_mem hb
  exact Lib.indexByte_none h k (by rw [List.getElem?_eq_getElem hk, e])
theorem ix_some {l : List UInt8} {i : Nat} (h : Lib.indexByte l 39 = i) : i < l.length ∧ l = l.take i ++ 39 :: l.drop (i + 1) ∧ ∀ b ∈ l.take i, b ≠ 39 := by
  obtain ⟨h1, h2⟩ := Lib.indexByte_some h
  obtain ⟨hi, e⟩ := List.getElem?_eq_some_iff.1 h1
  refine ⟨hi, ?_, ?_⟩
  · conv => lhs; rw [← List.take_append_drop i l]
    rw [List.drop_eq_getElem_cons hi, e]
  · rintro b hb rfl
    obtain ⟨k, hk, e⟩ := List.getElem_of_mem hb
    rw [List.length_take] at hk
    rw [List.getElem_take] at e
    exact h2 k (by omega) (by rw [List.getElem?_eq_getElem (by omega), e])
theorem repl_sq : ∀ (n : Nat) (l : List UInt8), l.length ≤ n → Lib.replaceK [39] [39, 92, 39, 39] (Lib.count l [39]) l = sq l := by
  intro n
  induction n with
  | zero =>
    intro l h
    obtain rfl : l = [] := List.eq_nil_of_length_eq_zero (by omega)
    rfl
  | succ n ih =>
    intro l h
    have hge := Lib.indexByte_ge l 39
    by_cases hm : Lib.indexByte l 39 = -1
    · rw [Lib.count_miss (by rw [Lib.index_one]; exact hm), Lib.replaceK, sq_id l (ix_none hm)]
    · obtain ⟨i, hi⟩ : ∃ i : Nat, Lib.indexByte l 39 = i := ⟨(Lib.indexByte l 39).toNat, by omega⟩
      obtain ⟨h1, h2, h3⟩ := ix_some hi
      have hx : Lib.index l [39] = i := by rw [Lib.index_one]; exact hi
      rw [Lib.count_hit (by simp) hx, Nat.add_comm, Lib.replaceK_hit _ _ _ _ _ hx]
      rw [List.length_singleton, ih (l.drop (i + 1)) (by rw [List.length_drop]; omega)]
      conv => rhs; rw [h2, sq_app, sq_id _ h3, sq, if_pos rfl]
      simp
theorem all_sq (l : List UInt8) : Lib.replaceAll l [39] [39, 92, 39, 39] = sq l := by
  unfold Lib.replaceAll Lib.replace
  rw [if_neg (by decide)]
  unfold Lib.replaceNum
  rw [if_pos (by left; decide), repl_sq _ l (Nat.le_refl _)]

def GivesT (w : World) (l : List UInt8) (e : Ending) (w' : World) : Prop := e = .returned (.string (mk l)) ∧ Below w.heap.size w w'
theorem mk_data (l : List UInt8) : (⟨l.toArray⟩ : ByteArray) = mk l := rfl
theorem ls_at (s : ByteArray) (k : Nat) (h : k < s.size) : ls (s.extract k (k + 1)) = [UInt8.ofNat (at0 (ls s) k)] := by
  rw [ls_part, ls_cut s k h]; rfl
set_option maxHeartbeats 1000000 in
set_option maxRecDepth 100000 in
theorem single11 (s : ByteArray) (w : World) (he : Env w) (hs : s.size ≤ 1000000) : Calls Tryd.prog 11 #[.string s] w (GivesT w (singleL (ls s))) := by
  obtain ⟨m, hm⟩ := he
  have hcl := Lib.countB_le ⟨#[39]⟩ (by decide) s.size s (Nat.le_refl _)
  have h := Tryd.strings_ReplaceAll s ⟨#[39]⟩ ⟨#[39, 92, 39, 39]⟩ m w (by omega) hm (by decide) (by
    show s.size + Lib.countB s ⟨#[39]⟩ * 4 ≤ _
    omega)
  have e1 : Lib.replaceAll s.data.toList (⟨#[39]⟩ : ByteArray).data.toList (⟨#[39, 92, 39, 39]⟩ : ByteArray).data.toList = sq (ls s) := all_sq (ls s)
  rw [e1] at h
  have hl := sq_len (ls s)
  rw [ls_len] at hl
  obtain ⟨X, HX⟩ : ∃ X, Hid (mk (sq (ls s)) = X) := ⟨_, Lib.hid rfl⟩
  have hXs : X.size ≤ 4 * s.size := by rw [← HX.out, mk_size]; exact hl
  rw [mk_data (sq (ls s)), HX.out] at h
  have C := Lib.hid h
  have HF : Hid ((⟨#[39]⟩ : ByteArray) ++ X ++ ⟨#[39]⟩ = mk (singleL (ls s))) := Lib.hid (by
    rw [app_ls, app_ls2, ← HX.out, ls_mk]; rfl)
  have n1 : ¬ 9223372036854775807 < (⟨#[39]⟩ : ByteArray).size + X.size := by show ¬ _ < 1 + X.size; omega
  obtain ⟨Y, HY⟩ : ∃ Y, Hid ((⟨#[39]⟩ : ByteArray) ++ X = Y) := ⟨_, Lib.hid rfl⟩
  have z1 : ((⟨#[39]⟩ : ByteArray) ++ X).size = 1 + X.size := ByteArray.size_append
  rw [HY.out] at HF z1
  have n2 : ¬ 9223372036854775807 < Y.size + (⟨#[39]⟩ : ByteArray).size := by show ¬ _ < Y.size + 1; omega
  have hy := HY.out
  clear h e1 hcl z1
  go_enter Tryd.func11, Tryd.ntmps11
  go_wp2_with (go_at_call 18; refine C.out.mono ?_; rintro e w' ⟨rfl, b1⟩; have B1 := Lib.hid b1; clear b1)
  go_ret
  exact ⟨by rw [← HF.out]; rfl, B1.out⟩
def RelS (s : ByteArray) (x i : Value) : Prop := ∃ (k : Nat) (F : ByteArray), k ≤ s.size ∧ i = .int .i64 k ∧ x = .string F ∧ F.size ≤ 4 * k + 1 ∧ Hid (ls F ++ sq ((ls s).drop k) ++ [39] = singleL (ls s))
set_option maxHeartbeats 4000000 in
set_option maxRecDepth 100000 in
theorem single12 (s : ByteArray) (w : World) (hs : s.size ≤ 1000000) : Calls Tryd.prog 12 #[.string s] w fun e w' => e = .returned (.string (mk (singleL (ls s)))) ∧ w = w' := by
  have hb := get_bt s
  go_enter Tryd.func12, Tryd.ntmps12
  go_wp2
  go_loop [3, 4] (RelS s) (fun _ i => s.size - (intOf i).toNat)
  case atStart => exact ⟨0, _, Nat.zero_le _, rfl, rfl, Nat.le_refl _, Lib.hid (by rw [List.drop_zero]; rfl)⟩
  case round =>
    obtain ⟨k, F, hk, rfl, rfl, hF, HR⟩ := hrel
    by_cases hlt : k < s.size
    · have HD := Lib.hid (ls_cut s k hlt)
      have hat := at0_lt (ls s) k
      have HA := Lib.hid (bt_at s k)
      have HP := Lib.hid (ls_at s k hlt)
      have hps : (s.extract k (k + 1)).size = 1 := by rw [ext_sz s k (k + 1) hlt]; omega
      obtain ⟨p, Hp⟩ : ∃ p, Hid (s.extract k (k + 1) = p) := ⟨_, Lib.hid rfl⟩
      rw [Hp.out] at HP hps
      have hpp := Hp.out
      have c1 : (0 : Int) ≤ (k : Int) := by omega
      have c2 : (k : Int) ≤ (k : Int) + 1 := by omega
      have c3 : (k : Int) + 1 ≤ (s.size : Int) := by omega
      by_cases h39 : at0 (ls s) k = 39
      · have hq : (bt s k == 39) = true := by rw [HA.out, h39]; rfl
        have n1 : ¬ 9223372036854775807 < F.size + (⟨#[39, 92, 39]⟩ : ByteArray).size := by show ¬ _ < F.size + 3; omega
        have z1 : (F ++ (⟨#[39, 92, 39]⟩ : ByteArray)).size = F.size + 3 := ByteArray.size_append
        obtain ⟨G, HG⟩ : ∃ G, Hid (F ++ (⟨#[39, 92, 39]⟩ : ByteArray) = G) := ⟨_, Lib.hid rfl⟩
        rw [HG.out] at z1
        have hg := HG.out
        have n2 : ¬ 9223372036854775807 < G.size + p.size := by omega
        have z2 : (G ++ p).size = G.size + p.size := ByteArray.size_append
        have HR2 : Hid (ls (G ++ p) ++ sq ((ls s).drop (k + 1)) ++ [39] = singleL (ls s)) := Lib.hid (by
          rw [← HR.out, HD.out, app_ls2, ← HG.out, app_ls2, HP.out, h39]
          rw [show (UInt8.ofNat 39) = 39 from rfl, sq, if_pos rfl, show ls ⟨#[39, 92, 39]⟩ = [39, 92, 39] from rfl]
          simp)
        clear h39
        go_wp2
        go_round
        case rel => exact ⟨k + 1, _, hlt, by go_num, rfl, by omega, HR2⟩
        case measure => simp [intOf]; omega
      · have hq : (bt s k == 39) = false := by rw [HA.out, beq_eq_false_iff_ne]; omega
        have n2 : ¬ 9223372036854775807 < F.size + p.size := by omega
        have z2 : (F ++ p).size = F.size + p.size := ByteArray.size_append
        have HR2 : Hid (ls (F ++ p) ++ sq ((ls s).drop (k + 1)) ++ [39] = singleL (ls s)) := Lib.hid (by
          rw [← HR.out, HD.out, app_ls2, HP.out, sq, if_neg]
          · simp
          · intro e
            apply h39
            rw [← show (39 : UInt8).toNat = 39 from rfl, ← e, UInt8.toNat_ofNat', Nat.mod_eq_of_lt hat])
        clear h39
        go_wp2
        go_round
        case rel => exact ⟨k + 1, _, hlt, by go_num, rfl, by omega, HR2⟩
        case measure => simp [intOf]; omega
    · obtain rfl : k = s.size := by omega
      have n2 : ¬ 9223372036854775807 < F.size + (⟨#[39]⟩ : ByteArray).size := by show ¬ _ < F.size + 1; omega
      have HF : Hid (F ++ (⟨#[39]⟩ : ByteArray) = mk (singleL (ls s))) := Lib.hid (by
        rw [← HR.out, List.drop_eq_nil_of_le (by rw [ls_len]; exact Nat.le_refl _), app_ls]
        simp [sq])
      go_wp2
      go_ret
      rw [HF.out]
      exact ⟨rfl, rfl⟩
set_option maxHeartbeats 1000000 in
set_option maxRecDepth 100000 in
theorem word9 (s : ByteArray) (w : World) (he : Env w) (hs : s.size ≤ 1000000) : Calls Tryd.prog 9 #[.string s] w (GivesT w (wordL (ls s))) := by
  have C1 := Lib.hid (bare7 s w hs)
  have C2 := Lib.hid (single11 s w he hs)
  unfold wordL
  cases h : bareL (ls s)
  · rw [h] at C1
    rw [if_neg (by decide)]
    go_enter Tryd.func9, Tryd.ntmps9
    go_wp2_with (first
      | (go_at_call 7; refine C1.out.mono ?_; rintro e w' ⟨rfl, rfl⟩)
      | (go_at_call 11; refine C2.out.mono ?_; rintro e w' ⟨rfl, b1⟩; have B1 := Lib.hid b1; clear b1))
    go_ret
    exact ⟨rfl, B1.out⟩
  · rw [h] at C1
    rw [if_pos rfl]
    go_enter Tryd.func9, Tryd.ntmps9
    go_wp2_with (go_at_call 7; refine C1.out.mono ?_; rintro e w' ⟨rfl, rfl⟩)
    go_ret
    exact ⟨by rw [mk_ls]; rfl, Below.refl _ _⟩
set_option maxHeartbeats 1000000 in
set_option maxRecDepth 100000 in
theorem word10 (s : ByteArray) (w : World) (hs : s.size ≤ 1000000) : Calls Tryd.prog 10 #[.string s] w fun e w' => e = .returned (.string (mk (wordL (ls s)))) ∧ w = w' := by
  have C1 := Lib.hid (bare8 s w hs)
  have C2 := Lib.hid (single12 s w hs)
  unfold wordL
  cases h : bareL (ls s)
  · rw [h] at C1
    rw [if_neg (by decide)]
    go_enter Tryd.func10, Tryd.ntmps10
    go_wp2_with (first
      | (go_at_call 8; refine C1.out.mono ?_; rintro e w' ⟨rfl, rfl⟩)
      | (go_at_call 12; refine C2.out.mono ?_; rintro e w' ⟨rfl, rfl⟩))
    go_ret
    exact ⟨rfl, rfl⟩
  · rw [h] at C1
    rw [if_pos rfl]
    go_enter Tryd.func10, Tryd.ntmps10
    go_wp2_with (go_at_call 8; refine C1.out.mono ?_; rintro e w' ⟨rfl, rfl⟩)
    go_ret
    exact ⟨by rw [mk_ls]; rfl, rfl⟩
theorem its : wordL [105, 116, 39, 115] = [39, 105, 116, 39, 92, 39, 39, 115, 39] := by decide
set_option maxHeartbeats 1000000 in
set_option maxRecDepth 100000 in
theorem anchor6 (w : World) (he : Env w) : Calls Tryd.prog 6 #[] w fun e w' => e = .returned (.bool true) ∧ Below w.heap.size w w' := by
  have h := word9 ⟨#[105, 116, 39, 115]⟩ w he (by decide)
  have e : wordL (ls ⟨#[105, 116, 39, 115]⟩) = [39, 105, 116, 39, 92, 39, 39, 115, 39] := its
  rw [e] at h
  have C := Lib.hid h
  clear h e
  go_enter Tryd.func6, Tryd.ntmps6
  go_wp2_with (go_at_call 9; refine C.out.mono ?_; rintro e w' ⟨rfl, b1⟩; have B1 := Lib.hid b1; clear b1)
  go_ret
  refine ⟨?_, B1.out⟩
  rw [toList_data]
  rfl
end Go.Proofs.YtgcjokbgjjacdaaDoor
