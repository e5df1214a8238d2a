/- Contract: the document's First. Conditions: few texts, of lengths below a bound. -/
import Derived.Test.YtabnhdbhccbebaaG
import Derived.Deep.RegionHeld3
import Derived.Deep.RegionWith
namespace Go.Proofs.Ytabnhdbhccbebaa
open Go.RowKit Go.PlainAid
set_option linter.unusedSimpArgs false
set_option linter.unusedVariables false

theorem tk_app (a b : List ByteArray) (n : Nat) : tk (a ++ b) n = (tk a n || tk b n) := by
  unfold tk; rw [allH_app, List.any_append]
theorem tk_one (x : ByteArray) (n : Nat) (hn : n < 11881376) : tk [x] n = (hasB (66 :: 81 :: sp 5 n) (ls x) || hasB (69 :: 81 :: sp 5 n) (ls x)) := by
  rw [tk_cons, tk_nil, Bool.or_false, half_occ _ _ (by decide) n hn, half_occ _ _ (by decide) n hn]
theorem tk_take {ns : List ByteArray} {k n : Nat} {x : ByteArray} (hk : k < ns.length) (hx : ns[k] = x) (hn : n < 11881376) : tk (ns.take (k + 1)) n = (tk (ns.take k) n || (hasB (66 :: 81 :: sp 5 n) (ls x) || hasB (69 :: 81 :: sp 5 n) (ls x))) := by
  rw [List.take_succ_eq_append_getElem hk, tk_app, hx, tk_one x n hn]
def Rel9a (f : Nat) (ns : List ByteArray) (w : World) (n : Value) (wx : World) : Prop := ∃ m : Nat, f ≤ m ∧ n = .int .i64 m ∧ Hid (∀ j, f ≤ j → j < m → j < 11881376 → tk ns j = true) ∧ Hid (Below w.heap.size w wx)
def Rel9b (m : Nat) (ns : List ByteArray) (w : World) (fo i : Value) (wx : World) : Prop := ∃ k : Nat, k ≤ ns.length ∧ i = .int .i64 k ∧ fo = .bool (tk (ns.take k) m) ∧ Hid (Below w.heap.size w wx)
def fiW : Option Nat → Value
  | some k => .int .i64 k
  | none => .int .i64 (-1)
def Gives9 (f : Nat) (ns : List ByteArray) (w : World) (e : Ending) (w' : World) : Prop := ∃ o, FirstIs f (tk ns) o ∧ e = .returned (fiW o) ∧ Below w.heap.size w w'
set_option maxHeartbeats 8000000 in
set_option maxRecDepth 100000 in
theorem first9_neg (F : Int) (hF : F < 0) (v : Value) (ns : List ByteArray) (w : World) (hv : Strs w v ns) (hFw : Few ns) : Calls Try.prog 9 #[.int .i64 F, v] w (Gives9 0 ns w) := by
  obtain ⟨a, c, rfl⟩ := hv.shape
  have HV := Lib.hid hv
  have HF := Lib.hid hFw
  clear hv hFw
  have hn : ns.length ≤ 30 := HF.out.1
  obtain ⟨q, Hn⟩ : ∃ q, Hid (ns.length = q) := ⟨_, Lib.hid rfl⟩
  rw [Hn.out] at hn ⊢
  go_enter Try.func9, Try.ntmps9
  go_wp2
  go_loopw [5] (Rel9a 0 ns w) (fun n _ => 11881376 - (intOf n).toNat)
  case atStart => exact ⟨0, Nat.le_refl _, rfl, Lib.hid (fun j h1 h2 => by omega), Lib.hid (Below.refl _ _)⟩
  case round =>
    obtain ⟨m, hm, rfl, HT, HB⟩ := hrel
    rename World => wx
    by_cases hlt : m < 11881376
    · have HB0 := HB
      have Hlt := Lib.hid hlt
      have hd : decide ((m : Int) < 11881376) = true := decide_eq_true (by omega)
      have hm2 : m ≤ 20000000 := by omega
      clear HB hlt
      go_wp2
      go_loopw [6, 7] (Rel9b m ns w) (fun _ i _ => q - (intOf i).toNat)
      case atStart => exact ⟨0, Nat.zero_le _, rfl, rfl, HB0⟩
      case round =>
        clear HB0
        obtain ⟨k, hk, rfl, rfl, HB⟩ := hrel
        rename World => wy
        obtain ⟨z, Hz⟩ : ∃ z, Hid (tk (ns.take k) m = z) := ⟨_, Lib.hid rfl⟩
        rw [Hz.out]
        by_cases hlt2 : k < q
        · have hlt' : k < ns.length := by rw [Hn.out]; exact hlt2
          obtain ⟨b, off, c', e, hc, hcell⟩ := strs_at (HV.out.below HB.out) k hlt'
          rw [Hn.out] at e hc
          cases e
          obtain ⟨x, Hx⟩ : ∃ x, Hid (ns[k] = x) := ⟨_, Lib.hid rfl⟩
          rw [Hx.out] at hcell
          have hx : x.size ≤ 2000 := HF.out.2 x (by rw [← Hx.out]; exact List.getElem_mem hlt')
          have HK := Lib.hid (tk_take hlt' Hx.out Hlt.out)
          rw [Hz.out] at HK
          cases z
          · rw [Bool.false_or] at HK
            have CH1 := Lib.hid (half11 ⟨#[66, 81]⟩ (by decide) m Hlt.out)
            have CH2 := Lib.hid (half11 ⟨#[69, 81]⟩ (by decide) m Hlt.out)
            rw [lit2] at CH1 CH2
            have hz1 : (mk (66 :: 81 :: sp 5 m)).size = 7 := by rw [mk_size]; simp [sp_len]
            have hz2 : (mk (69 :: 81 :: sp 5 m)).size = 7 := by rw [mk_size]; simp [sp_len]
            have CI1 := Lib.hid (in14 x (mk (66 :: 81 :: sp 5 m)) (by omega) (by omega) (by omega))
            have CI2 := Lib.hid (in14 x (mk (69 :: 81 :: sp 5 m)) (by omega) (by omega) (by omega))
            rw [ls_mk] at CI1 CI2
            generalize mk (66 :: 81 :: sp 5 m) = y1 at CH1 CI1
            generalize mk (69 :: 81 :: sp 5 m) = y2 at CH2 CI2
            generalize hasB (66 :: 81 :: sp 5 m) (ls x) = p1 at CI1 HK
            generalize hasB (69 :: 81 :: sp 5 m) (ls x) = p2 at CI2 HK
            have hcd : wy.drew.cell? ⟨b, off + k, none⟩ = some (.string x) := hcell
            have HBd := Lib.hid HB.out.drew
            have hbl : b < wy.heap.size := World.block_lt_of_cell? _ _ hcell
            clear hz1 hz2
            cases p1
            · rw [Bool.false_or] at HK
              go_wp2
              go_region_held3 (fun W => W.cell? ⟨b, off + k, none⟩ = some (.string x)) (first | exact hcd | exact hcell | exact hc2 | exact hc3)
                (first
                  | (go_at_call 11; ((with_reducible refine (CH1.out _).mono ?_); rintro e w2 ⟨rfl, b2⟩; have HB2 := Lib.hid (HBd.out.trans (b2.mono HBd.out.size)); have hc2 := cell_kept hcd b2; clear b2))
                  | (go_at_call 14; ((with_reducible refine (CI1.out _).mono ?_); rintro e w3 ⟨rfl, rfl⟩))
                  | (go_at_call 11; ((with_reducible refine (CH2.out _).mono ?_); rintro e w2 ⟨rfl, b2⟩; have HB3 := Lib.hid (HB2.out.trans (b2.mono HB2.out.size)); have hc3 := cell_kept hc2 b2; clear b2))
                  | (go_at_call 14; ((with_reducible refine (CI2.out _).mono ?_); rintro e w3 ⟨rfl, rfl⟩)))
              go_wp2
              go_roundw
              case rel => exact ⟨k + 1, hlt', by go_num, by rw [HK.out], HB3⟩
              case measure => simp [intOf]; omega
            · go_wp2
              refine wp_region_held_drew (S := fun W => W.cell? ⟨b, off + k, none⟩ = some (.string x)) (by kernel_rfl) hcd (fun hHeld => ?_)
              refine wpAnyH_take (i := 0) (v := .bool false) rfl (by kernel_rfl) (by kernel_rfl) (by kernel_rfl) (fun _ _ _ h => h) (Or.inl ⟨by rfl, fun W hW => by go_simp⟩) hHeld ?_
              try simp only [Act.put, List.getElem_toArray, List.getElem_cons_zero, List.getElem_cons_succ, List.setIfInBounds_toArray, List.set_cons_zero, List.set_cons_succ]
              refine wpAnyH_take (i := 1) (v := .bool false) rfl (by kernel_rfl) (by kernel_rfl) (by kernel_rfl) (fun _ _ _ h => h) (Or.inl ⟨by rfl, fun W hW => by go_simp⟩) hHeld ?_
              try simp only [Act.put, List.getElem_toArray, List.getElem_cons_zero, List.getElem_cons_succ, List.setIfInBounds_toArray, List.set_cons_zero, List.set_cons_succ]
              refine wpAnyH_take (i := 2) (v := .slice (some ⟨b, off, none⟩) q c) rfl (by kernel_rfl) (by kernel_rfl) (by kernel_rfl) (fun _ _ _ h => h) (Or.inl ⟨by rfl, fun W hW => by go_simp⟩) hHeld ?_
              try simp only [Act.put, List.getElem_toArray, List.getElem_cons_zero, List.getElem_cons_succ, List.setIfInBounds_toArray, List.set_cons_zero, List.set_cons_succ]
              refine wpAnyH_take (i := 3) (v := .int .i64 k) rfl (by kernel_rfl) (by kernel_rfl) (by kernel_rfl) (fun _ _ _ h => h) (Or.inl ⟨by rfl, fun W hW => by go_simp⟩) hHeld ?_
              try simp only [Act.put, List.getElem_toArray, List.getElem_cons_zero, List.getElem_cons_succ, List.setIfInBounds_toArray, List.set_cons_zero, List.set_cons_succ]
              refine wpAnyH_take (i := 4) (v := .pointer (some ⟨b, off + k, none⟩)) rfl (by kernel_rfl) (by kernel_rfl) (by kernel_rfl) (fun _ _ _ h => h) (Or.inl ⟨by rfl, fun W hW => by go_simp⟩) hHeld ?_
              try simp only [Act.put, List.getElem_toArray, List.getElem_cons_zero, List.getElem_cons_succ, List.setIfInBounds_toArray, List.set_cons_zero, List.set_cons_succ]
              refine wpAnyH_take (i := 5) (v := .string x) rfl (by kernel_rfl) (by kernel_rfl) (by kernel_rfl) (fun _ _ _ h => h) (Or.inl ⟨by rfl, fun W hW => by go_simp⟩) hHeld ?_
              try simp only [Act.put, List.getElem_toArray, List.getElem_cons_zero, List.getElem_cons_succ, List.setIfInBounds_toArray, List.set_cons_zero, List.set_cons_succ]
              refine wpAnyH_take (i := 6) (v := .int .i64 m) rfl (by kernel_rfl) (by kernel_rfl) (by kernel_rfl) (fun _ _ _ h => h) (Or.inl ⟨by rfl, fun W hW => by go_simp⟩) hHeld ?_
              try simp only [Act.put, List.getElem_toArray, List.getElem_cons_zero, List.getElem_cons_succ, List.setIfInBounds_toArray, List.set_cons_zero, List.set_cons_succ]
              refine wpAnyH_ready (rs := [7]) (by kernel_rfl) (by simp) ?_
              refine AllReadyH.cons rfl (fun K hK => ?_) AllReadyH.nil
              try go_simp
              go_at_call 11
              refine (CH1.out _).mono ?_
              rintro e w2 ⟨rfl, b2⟩
              have HB2 := Lib.hid (HBd.out.trans (b2.mono HBd.out.size))
              have hc2 := cell_kept hcd b2
              clear b2
              go_wp2_with fail
              refine hK.out _ _ (hc2) (fun hHeld => ?_)
              clear hK K
              try simp only [Act.put, List.getElem_toArray, List.getElem_cons_zero, List.getElem_cons_succ, List.setIfInBounds_toArray, List.set_cons_zero, List.set_cons_succ]
              refine wpAnyH_ready (rs := [8]) (by kernel_rfl) (by simp) ?_
              refine AllReadyH.cons rfl (fun K hK => ?_) AllReadyH.nil
              try go_simp
              go_at_call 14
              refine (CI1.out _).mono ?_
              rintro e w3 ⟨rfl, rfl⟩
              go_wp2_with fail
              refine hK.out _ _ (hc2) (fun hHeld => ?_)
              clear hK K
              try simp only [Act.put, List.getElem_toArray, List.getElem_cons_zero, List.getElem_cons_succ, List.setIfInBounds_toArray, List.set_cons_zero, List.set_cons_succ]
              refine wpAnyH_take (i := 9) (v := .bool true) rfl (by kernel_rfl) (by kernel_rfl) (by kernel_rfl) (fun _ _ _ h => h) (Or.inl ⟨by rfl, fun W hW => by go_simp⟩) hHeld ?_
              try simp only [Act.put, List.getElem_toArray, List.getElem_cons_zero, List.getElem_cons_succ, List.setIfInBounds_toArray, List.set_cons_zero, List.set_cons_succ]
              refine wpAnyH_take (i := 10) (v := .bool true) rfl (by kernel_rfl) (by kernel_rfl) (by kernel_rfl) (fun _ _ _ h => h) (Or.inl ⟨by rfl, fun W hW => by go_simp⟩) hHeld ?_
              try simp only [Act.put, List.getElem_toArray, List.getElem_cons_zero, List.getElem_cons_succ, List.setIfInBounds_toArray, List.set_cons_zero, List.set_cons_succ]
              refine wpAnyH_take (i := 11) (v := undef) rfl (by kernel_rfl) (by kernel_rfl) (by kernel_rfl) (fun _ _ _ h => h) (Or.inr ⟨by rfl, rfl⟩) hHeld ?_
              try simp only [Act.put, List.getElem_toArray, List.getElem_cons_zero, List.getElem_cons_succ, List.setIfInBounds_toArray, List.set_cons_zero, List.set_cons_succ]
              refine wpAnyH_take (i := 12) (v := undef) rfl (by kernel_rfl) (by kernel_rfl) (by kernel_rfl) (fun _ _ _ h => h) (Or.inr ⟨by rfl, rfl⟩) hHeld ?_
              try simp only [Act.put, List.getElem_toArray, List.getElem_cons_zero, List.getElem_cons_succ, List.setIfInBounds_toArray, List.set_cons_zero, List.set_cons_succ]
              refine wpAnyH_take (i := 13) (v := undef) rfl (by kernel_rfl) (by kernel_rfl) (by kernel_rfl) (fun _ _ _ h => h) (Or.inr ⟨by rfl, rfl⟩) hHeld ?_
              try simp only [Act.put, List.getElem_toArray, List.getElem_cons_zero, List.getElem_cons_succ, List.setIfInBounds_toArray, List.set_cons_zero, List.set_cons_succ]
              refine wpAnyH_take (i := 14) (v := undef) rfl (by kernel_rfl) (by kernel_rfl) (by kernel_rfl) (fun _ _ _ h => h) (Or.inr ⟨by rfl, rfl⟩) hHeld ?_
              try simp only [Act.put, List.getElem_toArray, List.getElem_cons_zero, List.getElem_cons_succ, List.setIfInBounds_toArray, List.set_cons_zero, List.set_cons_succ]
              refine wpAnyH_take (i := 15) (v := undef) rfl (by kernel_rfl) (by kernel_rfl) (by kernel_rfl) (fun _ _ _ h => h) (Or.inr ⟨by rfl, rfl⟩) hHeld ?_
              try simp only [Act.put, List.getElem_toArray, List.getElem_cons_zero, List.getElem_cons_succ, List.setIfInBounds_toArray, List.set_cons_zero, List.set_cons_succ]
              refine wpAnyH_take (i := 16) (v := undef) rfl (by kernel_rfl) (by kernel_rfl) (by kernel_rfl) (fun _ _ _ h => h) (Or.inr ⟨by rfl, rfl⟩) hHeld ?_
              try simp only [Act.put, List.getElem_toArray, List.getElem_cons_zero, List.getElem_cons_succ, List.setIfInBounds_toArray, List.set_cons_zero, List.set_cons_succ]
              refine wpAnyH_take (i := 17) (v := undef) rfl (by kernel_rfl) (by kernel_rfl) (by kernel_rfl) (fun _ _ _ h => h) (Or.inr ⟨by rfl, rfl⟩) hHeld ?_
              try simp only [Act.put, List.getElem_toArray, List.getElem_cons_zero, List.getElem_cons_succ, List.setIfInBounds_toArray, List.set_cons_zero, List.set_cons_succ]
              refine wpAnyH_take (i := 18) (v := .bool true) rfl (by kernel_rfl) (by kernel_rfl) (by kernel_rfl) (fun _ _ _ h => h) (Or.inl ⟨by rfl, fun W hW => by go_simp⟩) hHeld ?_
              try simp only [Act.put, List.getElem_toArray, List.getElem_cons_zero, List.getElem_cons_succ, List.setIfInBounds_toArray, List.set_cons_zero, List.set_cons_succ]
              refine wpAnyH_take (i := 19) (v := .bool true) rfl (by kernel_rfl) (by kernel_rfl) (by kernel_rfl) (fun _ _ _ h => h) (Or.inl ⟨by rfl, fun W hW => by go_simp⟩) hHeld ?_
              try simp only [Act.put, List.getElem_toArray, List.getElem_cons_zero, List.getElem_cons_succ, List.setIfInBounds_toArray, List.set_cons_zero, List.set_cons_succ]
              refine wpAnyH_done (by kernel_rfl) ?_ _
              go_wp2
              go_roundw
              case rel => exact ⟨k + 1, hlt', by go_num, by rw [HK.out, Bool.true_or], HB2⟩
              case measure => simp [intOf]; omega
          · go_wp2
            go_region
            go_wp2
            go_roundw
            case rel => exact ⟨k + 1, hlt', by go_num, by rw [HK.out, Bool.true_or], Lib.hid HB.out.drew⟩
            case measure => simp [intOf]; omega
        · obtain rfl : k = q := by rw [Hn.out] at hk; omega
          rw [← Hn.out, List.take_length] at Hz
          cases z
          · have HN : Hid (FirstIs 0 (tk ns) (some m)) := Lib.hid ⟨hm, Hlt.out, Hz.out, fun j h1 h2 => HT.out j h1 h2 (by have := Hlt.out; omega)⟩
            go_wp2
            go_ret
            exact ⟨some m, HN.out, rfl, HB.out⟩
          · have HT2 : Hid (∀ j, 0 ≤ j → j < m + 1 → j < 11881376 → tk ns j = true) := Lib.hid fun j h1 h2 h3 => by
              by_cases e : j = m
              · subst e; exact Hz.out
              · exact HT.out j h1 (by omega) h3
            go_wp2
            go_roundw
            case rel => exact ⟨m + 1, by omega, by go_num, HT2, HB⟩
            case measure => have := Hlt.out; simp [intOf]; omega
    · have HN : Hid (FirstIs 0 (tk ns) none) := Lib.hid fun j h1 h2 => HT.out j h1 (by omega) h2
      have hd : decide ((m : Int) < 11881376) = false := decide_eq_false (by omega)
      clear hlt
      go_wp2
      go_ret
      exact ⟨none, HN.out, rfl, HB.out⟩
set_option maxHeartbeats 8000000 in
set_option maxRecDepth 100000 in
theorem first9_pos (F : Int) (f : Nat) (hF : F = (f : Int)) (hf : f < 11881376) (v : Value) (ns : List ByteArray) (w : World) (hv : Strs w v ns) (hFw : Few ns) : Calls Try.prog 9 #[.int .i64 F, v] w (Gives9 f ns w) := by
  obtain ⟨a, c, rfl⟩ := hv.shape
  have HV := Lib.hid hv
  have HF := Lib.hid hFw
  clear hv hFw
  have hn : ns.length ≤ 30 := HF.out.1
  obtain ⟨q, Hn⟩ : ∃ q, Hid (ns.length = q) := ⟨_, Lib.hid rfl⟩
  rw [Hn.out] at hn ⊢
  subst hF
  go_enter Try.func9, Try.ntmps9
  go_wp2
  go_loopw [5] (Rel9a f ns w) (fun n _ => 11881376 - (intOf n).toNat)
  case atStart => exact ⟨f, Nat.le_refl _, rfl, Lib.hid (fun j h1 h2 => by omega), Lib.hid (Below.refl _ _)⟩
  case round =>
    obtain ⟨m, hm, rfl, HT, HB⟩ := hrel
    rename World => wx
    by_cases hlt : m < 11881376
    · have HB0 := HB
      have Hlt := Lib.hid hlt
      have hd : decide ((m : Int) < 11881376) = true := decide_eq_true (by omega)
      have hm2 : m ≤ 20000000 := by omega
      clear HB hlt
      go_wp2
      go_loopw [6, 7] (Rel9b m ns w) (fun _ i _ => q - (intOf i).toNat)
      case atStart => exact ⟨0, Nat.zero_le _, rfl, rfl, HB0⟩
      case round =>
        clear HB0
        obtain ⟨k, hk, rfl, rfl, HB⟩ := hrel
        rename World => wy
        obtain ⟨z, Hz⟩ : ∃ z, Hid (tk (ns.take k) m = z) := ⟨_, Lib.hid rfl⟩
        rw [Hz.out]
        by_cases hlt2 : k < q
        · have hlt' : k < ns.length := by rw [Hn.out]; exact hlt2
          obtain ⟨b, off, c', e, hc, hcell⟩ := strs_at (HV.out.below HB.out) k hlt'
          rw [Hn.out] at e hc
          cases e
          obtain ⟨x, Hx⟩ : ∃ x, Hid (ns[k] = x) := ⟨_, Lib.hid rfl⟩
          rw [Hx.out] at hcell
          have hx : x.size ≤ 2000 := HF.out.2 x (by rw [← Hx.out]; exact List.getElem_mem hlt')
          have HK := Lib.hid (tk_take hlt' Hx.out Hlt.out)
          rw [Hz.out] at HK
          cases z
          · rw [Bool.false_or] at HK
            have CH1 := Lib.hid (half11 ⟨#[66, 81]⟩ (by decide) m Hlt.out)
            have CH2 := Lib.hid (half11 ⟨#[69, 81]⟩ (by decide) m Hlt.out)
            rw [lit2] at CH1 CH2
            have hz1 : (mk (66 :: 81 :: sp 5 m)).size = 7 := by rw [mk_size]; simp [sp_len]
            have hz2 : (mk (69 :: 81 :: sp 5 m)).size = 7 := by rw [mk_size]; simp [sp_len]
            have CI1 := Lib.hid (in14 x (mk (66 :: 81 :: sp 5 m)) (by omega) (by omega) (by omega))
            have CI2 := Lib.hid (in14 x (mk (69 :: 81 :: sp 5 m)) (by omega) (by omega) (by omega))
            rw [ls_mk] at CI1 CI2
            generalize mk (66 :: 81 :: sp 5 m) = y1 at CH1 CI1
            generalize mk (69 :: 81 :: sp 5 m) = y2 at CH2 CI2
            generalize hasB (66 :: 81 :: sp 5 m) (ls x) = p1 at CI1 HK
            generalize hasB (69 :: 81 :: sp 5 m) (ls x) = p2 at CI2 HK
            have hcd : wy.drew.cell? ⟨b, off + k, none⟩ = some (.string x) := hcell
            have HBd := Lib.hid HB.out.drew
            have hbl : b < wy.heap.size := World.block_lt_of_cell? _ _ hcell
            clear hz1 hz2
            cases p1
            · rw [Bool.false_or] at HK
              go_wp2
              go_region_held3 (fun W => W.cell? ⟨b, off + k, none⟩ = some (.string x)) (first | exact hcd | exact hcell | exact hc2 | exact hc3)
                (first
                  | (go_at_call 11; ((with_reducible refine (CH1.out _).mono ?_); rintro e w2 ⟨rfl, b2⟩; have HB2 := Lib.hid (HBd.out.trans (b2.mono HBd.out.size)); have hc2 := cell_kept hcd b2; clear b2))
                  | (go_at_call 14; ((with_reducible refine (CI1.out _).mono ?_); rintro e w3 ⟨rfl, rfl⟩))
                  | (go_at_call 11; ((with_reducible refine (CH2.out _).mono ?_); rintro e w2 ⟨rfl, b2⟩; have HB3 := Lib.hid (HB2.out.trans (b2.mono HB2.out.size)); have hc3 := cell_kept hc2 b2; clear b2))
                  | (go_at_call 14; ((with_reducible refine (CI2.out _).mono ?_); rintro e w3 ⟨rfl, rfl⟩)))
              go_wp2
              go_roundw
              case rel => exact ⟨k + 1, hlt', by go_num, by rw [HK.out], HB3⟩
              case measure => simp [intOf]; omega
            · go_wp2
              refine wp_region_held_drew (S := fun W => W.cell? ⟨b, off + k, none⟩ = some (.string x)) (by kernel_rfl) hcd (fun hHeld => ?_)
              refine wpAnyH_take (i := 0) (v := .bool false) rfl (by kernel_rfl) (by kernel_rfl) (by kernel_rfl) (fun _ _ _ h => h) (Or.inl ⟨by rfl, fun W hW => by go_simp⟩) hHeld ?_
              try simp only [Act.put, List.getElem_toArray, List.getElem_cons_zero, List.getElem_cons_succ, List.setIfInBounds_toArray, List.set_cons_zero, List.set_cons_succ]
              refine wpAnyH_take (i := 1) (v := .bool false) rfl (by kernel_rfl) (by kernel_rfl) (by kernel_rfl) (fun _ _ _ h => h) (Or.inl ⟨by rfl, fun W hW => by go_simp⟩) hHeld ?_
              try simp only [Act.put, List.getElem_toArray, List.getElem_cons_zero, List.getElem_cons_succ, List.setIfInBounds_toArray, List.set_cons_zero, List.set_cons_succ]
              refine wpAnyH_take (i := 2) (v := .slice (some ⟨b, off, none⟩) q c) rfl (by kernel_rfl) (by kernel_rfl) (by kernel_rfl) (fun _ _ _ h => h) (Or.inl ⟨by rfl, fun W hW => by go_simp⟩) hHeld ?_
              try simp only [Act.put, List.getElem_toArray, List.getElem_cons_zero, List.getElem_cons_succ, List.setIfInBounds_toArray, List.set_cons_zero, List.set_cons_succ]
              refine wpAnyH_take (i := 3) (v := .int .i64 k) rfl (by kernel_rfl) (by kernel_rfl) (by kernel_rfl) (fun _ _ _ h => h) (Or.inl ⟨by rfl, fun W hW => by go_simp⟩) hHeld ?_
              try simp only [Act.put, List.getElem_toArray, List.getElem_cons_zero, List.getElem_cons_succ, List.setIfInBounds_toArray, List.set_cons_zero, List.set_cons_succ]
              refine wpAnyH_take (i := 4) (v := .pointer (some ⟨b, off + k, none⟩)) rfl (by kernel_rfl) (by kernel_rfl) (by kernel_rfl) (fun _ _ _ h => h) (Or.inl ⟨by rfl, fun W hW => by go_simp⟩) hHeld ?_
              try simp only [Act.put, List.getElem_toArray, List.getElem_cons_zero, List.getElem_cons_succ, List.setIfInBounds_toArray, List.set_cons_zero, List.set_cons_succ]
              refine wpAnyH_take (i := 5) (v := .string x) rfl (by kernel_rfl) (by kernel_rfl) (by kernel_rfl) (fun _ _ _ h => h) (Or.inl ⟨by rfl, fun W hW => by go_simp⟩) hHeld ?_
              try simp only [Act.put, List.getElem_toArray, List.getElem_cons_zero, List.getElem_cons_succ, List.setIfInBounds_toArray, List.set_cons_zero, List.set_cons_succ]
              refine wpAnyH_take (i := 6) (v := .int .i64 m) rfl (by kernel_rfl) (by kernel_rfl) (by kernel_rfl) (fun _ _ _ h => h) (Or.inl ⟨by rfl, fun W hW => by go_simp⟩) hHeld ?_
              try simp only [Act.put, List.getElem_toArray, List.getElem_cons_zero, List.getElem_cons_succ, List.setIfInBounds_toArray, List.set_cons_zero, List.set_cons_succ]
              refine wpAnyH_ready (rs := [7]) (by kernel_rfl) (by simp) ?_
              refine AllReadyH.cons rfl (fun K hK => ?_) AllReadyH.nil
              try go_simp
              go_at_call 11
              refine (CH1.out _).mono ?_
              rintro e w2 ⟨rfl, b2⟩
              have HB2 := Lib.hid (HBd.out.trans (b2.mono HBd.out.size))
              have hc2 := cell_kept hcd b2
              clear b2
              go_wp2_with fail
              refine hK.out _ _ (hc2) (fun hHeld => ?_)
              clear hK K
              try simp only [Act.put, List.getElem_toArray, List.getElem_cons_zero, List.getElem_cons_succ, List.setIfInBounds_toArray, List.set_cons_zero, List.set_cons_succ]
              refine wpAnyH_ready (rs := [8]) (by kernel_rfl) (by simp) ?_
              refine AllReadyH.cons rfl (fun K hK => ?_) AllReadyH.nil
              try go_simp
              go_at_call 14
              refine (CI1.out _).mono ?_
              rintro e w3 ⟨rfl, rfl⟩
              go_wp2_with fail
              refine hK.out _ _ (hc2) (fun hHeld => ?_)
              clear hK K
              try simp only [Act.put, List.getElem_toArray, List.getElem_cons_zero, List.getElem_cons_succ, List.setIfInBounds_toArray, List.set_cons_zero, List.set_cons_succ]
              refine wpAnyH_take (i := 9) (v := .bool true) rfl (by kernel_rfl) (by kernel_rfl) (by kernel_rfl) (fun _ _ _ h => h) (Or.inl ⟨by rfl, fun W hW => by go_simp⟩) hHeld ?_
              try simp only [Act.put, List.getElem_toArray, List.getElem_cons_zero, List.getElem_cons_succ, List.setIfInBounds_toArray, List.set_cons_zero, List.set_cons_succ]
              refine wpAnyH_take (i := 10) (v := .bool true) rfl (by kernel_rfl) (by kernel_rfl) (by kernel_rfl) (fun _ _ _ h => h) (Or.inl ⟨by rfl, fun W hW => by go_simp⟩) hHeld ?_
              try simp only [Act.put, List.getElem_toArray, List.getElem_cons_zero, List.getElem_cons_succ, List.setIfInBounds_toArray, List.set_cons_zero, List.set_cons_succ]
              refine wpAnyH_take (i := 11) (v := undef) rfl (by kernel_rfl) (by kernel_rfl) (by kernel_rfl) (fun _ _ _ h => h) (Or.inr ⟨by rfl, rfl⟩) hHeld ?_
              try simp only [Act.put, List.getElem_toArray, List.getElem_cons_zero, List.getElem_cons_succ, List.setIfInBounds_toArray, List.set_cons_zero, List.set_cons_succ]
              refine wpAnyH_take (i := 12) (v := undef) rfl (by kernel_rfl) (by kernel_rfl) (by kernel_rfl) (fun _ _ _ h => h) (Or.inr ⟨by rfl, rfl⟩) hHeld ?_
              try simp only [Act.put, List.getElem_toArray, List.getElem_cons_zero, List.getElem_cons_succ, List.setIfInBounds_toArray, List.set_cons_zero, List.set_cons_succ]
              refine wpAnyH_take (i := 13) (v := undef) rfl (by kernel_rfl) (by kernel_rfl) (by kernel_rfl) (fun _ _ _ h => h) (Or.inr ⟨by rfl, rfl⟩) hHeld ?_
              try simp only [Act.put, List.getElem_toArray, List.getElem_cons_zero, List.getElem_cons_succ, List.setIfInBounds_toArray, List.set_cons_zero, List.set_cons_succ]
              refine wpAnyH_take (i := 14) (v := undef) rfl (by kernel_rfl) (by kernel_rfl) (by kernel_rfl) (fun _ _ _ h => h) (Or.inr ⟨by rfl, rfl⟩) hHeld ?_
              try simp only [Act.put, List.getElem_toArray, List.getElem_cons_zero, List.getElem_cons_succ, List.setIfInBounds_toArray, List.set_cons_zero, List.set_cons_succ]
              refine wpAnyH_take (i := 15) (v := undef) rfl (by kernel_rfl) (by kernel_rfl) (by kernel_rfl) (fun _ _ _ h => h) (Or.inr ⟨by rfl, rfl⟩) hHeld ?_
              try simp only [Act.put, List.getElem_toArray, List.getElem_cons_zero, List.getElem_cons_succ, List.setIfInBounds_toArray, List.set_cons_zero, List.set_cons_succ]
              refine wpAnyH_take (i := 16) (v := undef) rfl (by kernel_rfl) (by kernel_rfl) (by kernel_rfl) (fun _ _ _ h => h) (Or.inr ⟨by rfl, rfl⟩) hHeld ?_
              try simp only [Act.put, List.getElem_toArray, List.getElem_cons_zero, List.getElem_cons_succ, List.setIfInBounds_toArray, List.set_cons_zero, List.set_cons_succ]
              refine wpAnyH_take (i := 17) (v := undef) rfl (by kernel_rfl) (by kernel_rfl) (by kernel_rfl) (fun _ _ _ h => h) (Or.inr ⟨by rfl, rfl⟩) hHeld ?_
              try simp only [Act.put, List.getElem_toArray, List.getElem_cons_zero, List.getElem_cons_succ, List.setIfInBounds_toArray, List.set_cons_zero, List.set_cons_succ]
              refine wpAnyH_take (i := 18) (v := .bool true) rfl (by kernel_rfl) (by kernel_rfl) (by kernel_rfl) (fun _ _ _ h => h) (Or.inl ⟨by rfl, fun W hW => by go_simp⟩) hHeld ?_
              try simp only [Act.put, List.getElem_toArray, List.getElem_cons_zero, List.getElem_cons_succ, List.setIfInBounds_toArray, List.set_cons_zero, List.set_cons_succ]
              refine wpAnyH_take (i := 19) (v := .bool true) rfl (by kernel_rfl) (by kernel_rfl) (by kernel_rfl) (fun _ _ _ h => h) (Or.inl ⟨by rfl, fun W hW => by go_simp⟩) hHeld ?_
              try simp only [Act.put, List.getElem_toArray, List.getElem_cons_zero, List.getElem_cons_succ, List.setIfInBounds_toArray, List.set_cons_zero, List.set_cons_succ]
              refine wpAnyH_done (by kernel_rfl) ?_ _
              go_wp2
              go_roundw
              case rel => exact ⟨k + 1, hlt', by go_num, by rw [HK.out, Bool.true_or], HB2⟩
              case measure => simp [intOf]; omega
          · go_wp2
            go_region
            go_wp2
            go_roundw
            case rel => exact ⟨k + 1, hlt', by go_num, by rw [HK.out, Bool.true_or], Lib.hid HB.out.drew⟩
            case measure => simp [intOf]; omega
        · obtain rfl : k = q := by rw [Hn.out] at hk; omega
          rw [← Hn.out, List.take_length] at Hz
          cases z
          · have HN : Hid (FirstIs f (tk ns) (some m)) := Lib.hid ⟨hm, Hlt.out, Hz.out, fun j h1 h2 => HT.out j h1 h2 (by have := Hlt.out; omega)⟩
            go_wp2
            go_ret
            exact ⟨some m, HN.out, rfl, HB.out⟩
          · have HT2 : Hid (∀ j, f ≤ j → j < m + 1 → j < 11881376 → tk ns j = true) := Lib.hid fun j h1 h2 h3 => by
              by_cases e : j = m
              · subst e; exact Hz.out
              · exact HT.out j h1 (by omega) h3
            go_wp2
            go_roundw
            case rel => exact ⟨m + 1, by omega, by go_num, HT2, HB⟩
            case measure => have := Hlt.out; simp [intOf]; omega
    · have HN : Hid (FirstIs f (tk ns) none) := Lib.hid fun j h1 h2 => HT.out j h1 (by omega) h2
      have hd : decide ((m : Int) < 11881376) = false := decide_eq_false (by omega)
      clear hlt
      go_wp2
      go_ret
      exact ⟨none, HN.out, rfl, HB.out⟩
end Go.Proofs.Ytabnhdbhccbebaa
