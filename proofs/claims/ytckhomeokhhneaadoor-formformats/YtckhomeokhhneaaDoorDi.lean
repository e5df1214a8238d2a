/- The document's place. Conditions: lengths below a bound. -/
import Derived.Test.YtckhomeokhhneaaDoorDh
namespace Go.Proofs.YtckhomeokhhneaaDoor
open Go.RowKit Go.PlainAid
set_option linter.unusedSimpArgs false
set_option linter.unusedVariables false

theorem alloc_size (w : World) (o : Obj) : (w.alloc o).heap.size = w.heap.size + 1 := by
  show (w.heap.push o).size = _
  simp
/-- Two blocks of one's own, one behind the other. -/
def two (w : World) (z c : Array Value) : World := (w.alloc (.cells z 45)).alloc (.cells c 45)
theorem two_cell (w : World) (z c : Array Value) (j : Nat) : (two w z c).cell? ⟨w.heap.size + 1, j, none⟩ = c[j]? := by
  have := alloc_cell (w.alloc (.cells z 45)) c 45 j
  rw [alloc_size] at this
  exact this
theorem two_frozen (w : World) (z c : Array Value) (j : Nat) : (two w z c).frozen? ⟨w.heap.size + 1, j, none⟩ = false := by
  have := alloc_frozen (w.alloc (.cells z 45)) c 45 j
  rw [alloc_size] at this
  exact this
theorem two_set (w : World) (z c : Array Value) (j : Nat) (v : Value) : (two w z c).setCell ⟨w.heap.size + 1, j, none⟩ v = two w z (c.setIfInBounds j v) := by
  have := alloc_setCell (w.alloc (.cells z 45)) c 45 j v
  rw [alloc_size] at this
  exact this
theorem two_first (w : World) (z c : Array Value) : (two w z c).heap[w.heap.size]? = some (.cells z 45 (0, 0)) := by
  unfold two
  have h1 := heap_alloc_new w (.cells z 45)
  have hlt : w.heap.size < (w.alloc (.cells z 45)).heap.size := by rw [alloc_size]; omega
  have := ((Below.refl (w.alloc (.cells z 45)).heap.size (w.alloc (.cells z 45))).alloc (Nat.le_refl _) (.cells c 45)).block w.heap.size hlt
  rw [this, h1]
theorem two_below (w : World) (z c : Array Value) : Below w.heap.size w (two w z c) := by
  have h1 := (Below.refl w.heap.size w).alloc (Nat.le_refl _) (.cells z 45)
  exact h1.alloc h1.size _
theorem two_one (w : World) (z c : Array Value) (j : Nat) (v : Value) : (two w z c).setCell ⟨w.heap.size, j, none⟩ v = two w (z.setIfInBounds j v) c := by
  rw [setCell_eq_setRow _ _ _ _ _ _ _ (two_first w z c)]
  unfold two World.setRow World.alloc
  congr 1
  apply Array.ext (by simp)
  intro i h1 h2
  simp only [Array.getElem_modify, Array.getElem_push]
  by_cases hi : i < w.heap.size
  · have e1 : ¬ w.heap.size = i := by omega
    have e2 : i < (w.heap.push (Obj.cells z 45)).size := by simp; omega
    have e3 : i < (w.heap.push (Obj.cells (z.setIfInBounds j v) 45)).size := by simp; omega
    simp [e1, hi, e2, e3]
  · by_cases he : w.heap.size = i
    · subst he
      simp
    · have e4 : ¬ i < w.heap.size + 1 := by omega
      simp [he, e4]
def z0 : Array Value := #[.bool false, .bool false, .int .i64 0, .int .i64 0, .int .u8 0]
def pC (a b : Bool) (wd q : Int) (ch : Int) : Array Value := #[.bool a, .bool b, .int .i64 wd, .int .i64 q, .int .u8 ch]
theorem Tryd.info45 : (Tryd.prog.info? 45).map (fun i => (i.zero, i.size, i.bytes)) = some (some (.agg #[.bool false, .bool false, .int .i64 0, .int .i64 0, .int .u8 0]), 5, 32) := by kernel_rfl
theorem load45 (w : World) (b : Nat) (c : Array Value) (hc : c.size = 5) (hb : w.heap[b]? = some (.cells c 45 (0, 0))) : (loadVar 45 ⟨b, 0, none⟩).run Tryd.prog w = .ok (.agg c) w := by
  obtain ⟨i0, hi0, hz0, hz1, hz2⟩ := info_parts Tryd.info45
  have hl := run_loadCells_list (P := Tryd.prog) w ⟨b, 0, none⟩ c.toList (fun j x hj => by
    rw [add_at, Nat.zero_add]
    simp only [World.cell?, hb]
    simpa using hj)
  have hl6 : c.toList.length = 5 := by simpa using hc
  rw [hl6] at hl
  have hag : (isAgg 45).run Tryd.prog w = .ok true w := by kernel_rfl
  simp only [loadVar, Sem.run_bind, hag, Result.andThen_ok, if_pos, sizeOf, typeInfo, hi0, hz1, Sem.run_pure, hl]
  simp [hi0, hz1, hl]
theorem results_q {fn : Func} {p q r : Tmp} (h : fn.results = #[.cell p 45, .tmp q, .tmp r]) (tmps : Array Value) (w : World) (b : Nat) (c : Array Value) (hc : c.size = 5) (hp : tmps.getD p undef = .pointer (some ⟨b, 0, none⟩)) (hb : w.heap[b]? = some (.cells c 45 (0, 0))) :
    (results fn tmps).run Tryd.prog w = .ok (.tuple #[.agg c, tmps.getD q undef, tmps.getD r undef]) w := by
  have hp' : tmps[p]?.getD undef = .pointer (some ⟨b, 0, none⟩) := by simpa using hp
  simp only [results, h]
  simp [Sem.run_bind, Result.andThen, hp', asAddr, load45 w b c hc hb]
theorem five_set (w : World) (g : Nat) (v0 v1 v2 v3 v4 : Value) (h : w.heap[g]? = some (.cells z0 45 (0, 0))) :
    (((((w.setCell ⟨g, 0, none⟩ v0).setCell ⟨g, 1, none⟩ v1).setCell ⟨g, 2, none⟩ v2).setCell ⟨g, 3, none⟩ v3).setCell ⟨g, 4, none⟩ v4) = w.setRow g #[v0, v1, v2, v3, v4] := by
  rw [setCell_eq_setRow w g 0 _ _ _ _ h, setCell_eq_setRow _ g 1 _ _ _ _ (setRow_heap _ _ _ _ _ _ h), setRow_setRow,
    setCell_eq_setRow _ g 2 _ _ _ _ (setRow_heap _ _ _ _ _ _ h), setRow_setRow,
    setCell_eq_setRow _ g 3 _ _ _ _ (setRow_heap _ _ _ _ _ _ h), setRow_setRow,
    setCell_eq_setRow _ g 4 _ _ _ _ (setRow_heap _ _ _ _ _ _ h), setRow_setRow]
  simp only [z0, List.setIfInBounds_toArray, List.set_cons_succ, List.set_cons_zero]
theorem pl_eq (c k : Nat) (hc : c < 256) (hk : k < 10) (h : k ≤ plL.idxOf (UInt8.ofNat c)) : (bt ⟨#[37, 115, 98, 99, 100, 105, 111, 117, 120, 88]⟩ k == (c : Int)) = decide (plL.idxOf (UInt8.ofNat c) = k) := by
  have e : bt ⟨#[37, 115, 98, 99, 100, 105, 111, 117, 120, 88]⟩ k = ((plL[k]'(by simpa [plL] using hk)).toNat : Int) := by
    have : k = 0 ∨ k = 1 ∨ k = 2 ∨ k = 3 ∨ k = 4 ∨ k = 5 ∨ k = 6 ∨ k = 7 ∨ k = 8 ∨ k = 9 := by omega
    rcases this with rfl | rfl | rfl | rfl | rfl | rfl | rfl | rfl | rfl | rfl <;> rfl
  have hkl : k < plL.length := by simpa [plL] using hk
  have hcb : (UInt8.ofNat c).toNat = c := by rw [UInt8.toNat_ofNat', Nat.mod_eq_of_lt hc]
  rw [e, Bool.eq_iff_iff]
  simp only [beq_iff_eq, decide_eq_true_eq]
  constructor
  · intro h2
    have h3 : plL[k] = UInt8.ofNat c := by
      apply UInt8.toNat_inj.1
      rw [hcb]; omega
    have h4 : plL.idxOf (UInt8.ofNat c) ≤ k := by
      rcases Nat.lt_or_ge k (plL.idxOf (UInt8.ofNat c)) with h5 | h5
      · have := List.not_of_lt_findIdx (p := fun x => x == UInt8.ofNat c) (xs := plL) (i := k) (by simpa [List.idxOf] using h5)
        simp [h3] at this
      · exact h5
    omega
  · intro h2
    have h5 : plL.idxOf (UInt8.ofNat c) < plL.length := by omega
    have h4 : plL[plL.idxOf (UInt8.ofNat c)]'h5 = UInt8.ofNat c := List.getElem_idxOf h5
    have h6 : plL[k] = UInt8.ofNat c := by
      rw [← h4]; congr 1; exact h2.symm
    rw [h6, hcb]
theorem isLet_idx (c : Nat) : isLet c = decide (plL.idxOf (UInt8.ofNat c) < 10) := by
  unfold isLet
  rw [Bool.eq_iff_iff]
  simp only [decide_eq_true_eq]
  exact List.idxOf_lt_length_iff.symm
def Rel19b (c : Nat) (ww : World) (i : Value) (wx : World) : Prop := ∃ k : Nat, k ≤ 10 ∧ k ≤ plL.idxOf (UInt8.ofNat c) ∧ i = .int .i64 k ∧ Hid (Below ww.heap.size ww wx)
def plE (at' : Nat) (x : Option (Pl × Nat)) (e : Ending) : Prop := match x with
  | none => ∃ (a b : Bool) (wd q ch : Int), e = .returned (.tuple #[.agg (pC a b wd q ch), .int .i64 0, .bool false])
  | some (p, n) => e = .returned (.tuple #[.agg (dC p.left p.zero p.width (dgI p.prec) p.ch), .int .i64 ((at' + n : Nat) : Int), .bool true])
def plQ (l : List UInt8) (a0 q : Nat) (a b : Bool) (wd pr : Option Nat) : Option (Pl × Nat) := match wd with
  | none => none
  | some wv => if isLet (at0 l q) then some (⟨a, b, wv, pr, at0 l q⟩, q - a0 + 1) else none
theorem place_q (l : List UInt8) (a0 k : Nat) (a b : Bool) (hk : a0 ≤ k) (h : flags (l.drop a0) 0 false false = (k - a0, a, b)) (D : Option Nat × Nat) (hD : dg (l.drop k) = D) :
    (at0 l (k + D.2) ≠ 46 → placeO (l.drop a0) = plQ l a0 (k + D.2) a b D.1 none) ∧ (at0 l (k + D.2) = 46 → ∀ E, dg (l.drop (k + D.2 + 1)) = E → placeO (l.drop a0) = match E.1 with | none => none | some ev => plQ l a0 (k + D.2 + 1 + E.2) a b D.1 (some ev)) := by
  rw [← dplace_is]
  unfold dplace
  simp only
  rw [h]
  simp only [List.drop_drop, at0_drop]
  rw [show a0 + (k - a0) = k by omega, hD]
  obtain ⟨d1, d2⟩ := D
  simp only
  rw [show a0 + (k - a0 + d2) = k + d2 by omega, show a0 + (k - a0 + d2 + 1) = k + d2 + 1 by omega]
  refine ⟨fun hn => ?_, fun hn E hE => ?_⟩
  · rw [if_neg hn]
    unfold plQ
    cases d1 with
    | none => rfl
    | some wv => rw [show k - a0 + d2 + 1 = k + d2 - a0 + 1 by omega]
  · rw [if_pos hn, hE]
    obtain ⟨e1, e2⟩ := E
    simp only
    rw [show a0 + (k - a0 + d2 + 1 + e2) = k + d2 + 1 + e2 by omega, show k - a0 + d2 + 1 + e2 + 1 = k + d2 + 1 + e2 - a0 + 1 by omega]
    unfold plQ
    cases e1 <;> cases d1 <;> rfl
theorem dg_le (r : List UInt8) : (dg r).2 ≤ r.length := by
  have := (dig_le 4 r 0 0).1
  unfold dg
  simp only
  split <;> omega
def Rel19 (s : ByteArray) (a0 : Nat) (w : World) (F : Nat × Bool × Bool) (n : Value) (wx : World) : Prop := ∃ (k : Nat) (a b : Bool), a0 ≤ k ∧ k ≤ s.size ∧ n = .int .i64 k ∧ Hid (wx = two w z0 (pC a b 0 (-1) 0)) ∧ Hid (flags ((ls s).drop k) (k - a0) a b = F)
set_option maxHeartbeats 4000000 in
set_option maxRecDepth 100000 in
theorem place19 (s : ByteArray) (a0 : Nat) (w : World) (ha : a0 ≤ s.size) (hs : s.size ≤ 1000000) : Calls Tryd.prog 19 #[.string s, .int .i64 a0] w fun e w' => plE a0 (placeO ((ls s).drop a0)) e ∧ Below w.heap.size w w' := by
  have hb := get_bt s
  obtain ⟨F, HF⟩ : ∃ F, Hid (flags ((ls s).drop a0) 0 false false = F) := ⟨_, Lib.hid rfl⟩
  obtain ⟨X, HX⟩ : ∃ X, Hid (placeO ((ls s).drop a0) = X) := ⟨_, Lib.hid rfl⟩
  rw [HX.out]
  go_enter Tryd.func19, Tryd.ntmps19
  go_wp2
  go_loopw [1] (Rel19 s a0 w F) (fun n _ => s.size - (intOf n).toNat)
  case atStart => exact ⟨a0, false, false, Nat.le_refl _, ha, rfl, Lib.hid rfl, Lib.hid (by rw [Nat.sub_self]; exact HF.out)⟩
  case round =>
    obtain ⟨k, a, b, hk1, hks, rfl, HW, HM⟩ := hrel
    rename World => wx
    have f := fun j => (show wx.frozen? ⟨w.heap.size + 1, j, none⟩ = false by rw [HW.out, two_frozen])
    have c0 : wx.cell? ⟨w.heap.size + 1, 0, none⟩ = some (.bool a) := by rw [HW.out, two_cell]; rfl
    have c1 : wx.cell? ⟨w.heap.size + 1, 1, none⟩ = some (.bool b) := by rw [HW.out, two_cell]; rfl
    by_cases hlt : k < s.size
    · have HA := Lib.hid (bt_at s k)
      have HC := Lib.hid (flags_cut s k (k - a0) a b hlt)
      rw [HM.out] at HC
      by_cases d1 : at0 (ls s) k = 45
      · have e1 : (bt s k == 45) = true := by rw [HA.out, d1]; rfl
        have HN : Hid (flags ((ls s).drop (k + 1)) (k + 1 - a0) true b = F) := Lib.hid (by rw [HC.out, if_pos d1, show k - a0 + 1 = k + 1 - a0 by omega])
        clear HC d1
        go_wp2
        go_roundw
        case rel => exact ⟨k + 1, true, b, by omega, hlt, by go_num, Lib.hid (by rw [HW.out, two_set]; rfl), HN⟩
        case measure => simp [intOf]; omega
      · have e1 : (bt s k == 45) = false := by rw [HA.out]; simp; omega
        by_cases d2 : at0 (ls s) k = 48
        · have e2 : (bt s k == 48) = true := by rw [HA.out, d2]; rfl
          have HN : Hid (flags ((ls s).drop (k + 1)) (k + 1 - a0) a true = F) := Lib.hid (by rw [HC.out, if_neg d1, if_pos d2, show k - a0 + 1 = k + 1 - a0 by omega])
          clear HC d1 d2
          go_wp2
          go_roundw
          case rel => exact ⟨k + 1, a, true, by omega, hlt, by go_num, Lib.hid (by rw [HW.out, two_set]; rfl), HN⟩
          case measure => simp [intOf]; omega
        · have e2 : (bt s k == 48) = false := by rw [HA.out]; simp; omega
          have HFF : Hid (F = (k - a0, a, b)) := Lib.hid (by rw [HC.out, if_neg d1, if_neg d2])
          clear HC
          go_upto_region 7 with fail
          have CD := Lib.hid fun W => digits26 s k W hs hks
          obtain ⟨D, HD⟩ : ∃ D, Hid (dg ((ls s).drop k) = D) := ⟨_, Lib.hid rfl⟩
          have hle := dg_le ((ls s).drop k)
          rw [List.length_drop, ls_len, HD.out] at hle
          have HQ := Lib.hid (place_q (ls s) a0 k a b hk1 (HF.out.trans HFF.out) D HD.out)
          rw [HX.out] at HQ
          rw [HD.out] at CD
          unfold dgW at CD
          obtain ⟨d1v, n2⟩ := D
          simp only at CD hle HQ
          obtain ⟨m, Hm⟩ : ∃ m, Hid (k + n2 = m) := ⟨_, Lib.hid rfl⟩
          have hms : m ≤ s.size := by have := Hm.out; omega
          have hmk : a0 ≤ m := by have := Hm.out; omega
          rw [Hm.out] at HQ
          have hwm : IntKind.i64.wrap ((k : Int) + n2) = (m : Int) := by rw [IntKind.wrap_i64]; have := Hm.out; omega
          obtain ⟨dw, Hdw⟩ : ∃ dw, Hid (dgI d1v = dw) := ⟨_, Lib.hid rfl⟩
          rw [Hdw.out] at CD
          have c2 : wx.cell? ⟨w.heap.size + 1, 2, none⟩ = some (.int .i64 0) := by rw [HW.out, two_cell]; rfl
          have c3 : wx.cell? ⟨w.heap.size + 1, 3, none⟩ = some (.int .i64 (-1)) := by rw [HW.out, two_cell]; rfl
          go_upto_region 10 with (go_at_call 26; refine (CD.out _).mono ?_; rintro e w' ⟨rfl, rfl⟩)
          have HW1 : Hid (wx.setCell ⟨w.heap.size + 1, 2, none⟩ (.int .i64 dw) = two w z0 (pC a b dw (-1) 0)) := Lib.hid (by rw [HW.out, two_set]; rfl)
          go_cut [57] (fun u wy => u = .bool (decide (at0 (ls s) m = 46)) ∧ Hid (wy = two w z0 (pC a b dw (-1) 0)))
          case first =>
            by_cases hm : m < s.size
            · have HA2 := Lib.hid (bt_at s m)
              by_cases d3 : at0 (ls s) m = 46
              · have e3 : (bt s m == 46) = true := by rw [HA2.out, d3]; rfl
                have HDD := Lib.hid (decide_eq_true d3)
                clear d3
                go_wp2
                go_meet
                case rel => exact ⟨by rw [HDD.out], HW1⟩
              · have e3 : (bt s m == 46) = false := by rw [HA2.out]; simp; omega
                have HDD := Lib.hid (decide_eq_false d3)
                clear d3
                go_wp2
                go_meet
                case rel => exact ⟨by rw [HDD.out], HW1⟩
            · have HDD : Hid (decide (at0 (ls s) m = 46) = false) := Lib.hid (by rw [at0_end (by rw [ls_len]; omega)]; rfl)
              go_wp2
              go_meet
              case rel => exact ⟨by rw [HDD.out], HW1⟩
          case rest =>
            obtain ⟨rfl, HW2⟩ := hcut
            rename World => wy
            clear HW1 HW c0 c1 c2 c3 f CD HM HFF HA hwm
            have f := fun j => (show wy.frozen? ⟨w.heap.size + 1, j, none⟩ = false by rw [HW2.out, two_frozen])
            have c3 : wy.cell? ⟨w.heap.size + 1, 3, none⟩ = some (.int .i64 (-1)) := by rw [HW2.out, two_cell]; rfl
            go_upto_if 57 with fail
            go_cut [1] (fun u wv => ∃ (q : Nat) (pr : Option Nat), u = .int .i64 q ∧ Hid (wv = two w z0 (pC a b dw (dgI pr) 0)) ∧ q ≤ s.size ∧ a0 ≤ q ∧ Hid (X = plQ (ls s) a0 q a b d1v pr))
            case first =>
              by_cases d3 : at0 (ls s) m = 46
              · have HDD := decide_eq_true d3
                have hm : m < s.size := by
                  rcases Nat.lt_or_ge m s.size with h | h
                  · exact h
                  · rw [at0_end (by rw [ls_len]; exact h)] at d3; cases d3
                obtain ⟨m1, Hm1⟩ : ∃ m1, Hid (m + 1 = m1) := ⟨_, Lib.hid rfl⟩
                have hm1 : m1 ≤ s.size := by have := Hm1.out; omega
                have CE := Lib.hid fun W => digits26 s m1 W hs hm1
                obtain ⟨E, HE⟩ : ∃ E, Hid (dg ((ls s).drop m1) = E) := ⟨_, Lib.hid rfl⟩
                have hle2 := dg_le ((ls s).drop m1)
                rw [List.length_drop, ls_len, HE.out] at hle2
                have HQ2 := Lib.hid (HQ.out.2 d3 E (by rw [Hm1.out]; exact HE.out))
                rw [HE.out] at CE
                unfold dgW at CE
                obtain ⟨e1v, n3⟩ := E
                simp only at CE hle2 HQ2
                have HQ3 := Lib.hid HQ2.out
                rw [Hm1.out] at HQ3
                clear HQ2 HQ d3
                obtain ⟨q, Hq⟩ : ∃ q, Hid (m1 + n3 = q) := ⟨_, Lib.hid rfl⟩
                rw [Hq.out] at HQ3
                have hqs : q ≤ s.size := by have := Hq.out; omega
                have hqa : a0 ≤ q := by have := Hq.out; have := Hm1.out; omega
                have hw1 : IntKind.i64.wrap ((m : Int) + 1) = (m1 : Int) := by rw [IntKind.wrap_i64]; have := Hm1.out; omega
                have hw2 : IntKind.i64.wrap ((m1 : Int) + n3) = (q : Int) := by rw [IntKind.wrap_i64]; have := Hq.out; omega
                have g0 : wy.cell? ⟨w.heap.size + 1, 0, none⟩ = some (.bool a) := by rw [HW2.out, two_cell]; rfl
                have g1 : wy.cell? ⟨w.heap.size + 1, 1, none⟩ = some (.bool b) := by rw [HW2.out, two_cell]; rfl
                have g2 : wy.cell? ⟨w.heap.size + 1, 2, none⟩ = some (.int .i64 dw) := by rw [HW2.out, two_cell]; rfl
                have g4 : wy.cell? ⟨w.heap.size + 1, 4, none⟩ = some (.int .u8 0) := by rw [HW2.out, two_cell]; rfl
                have r0 := fun j (hj : j < 5) => (show wy.frozen? ⟨w.heap.size, j, none⟩ = false by rw [HW2.out, frozen_of (two_first _ _ _)])
                have rc := fun j => (show wy.cell? ⟨w.heap.size, j, none⟩ = z0[j]? by rw [HW2.out, cell_of (two_first _ _ _)])
                rw [HDD]
                cases e1v with
                | none =>
                  have HXX : Hid (X = none) := Lib.hid HQ3.out
                  have r00 := r0 0 (by omega)
                  have r01 := r0 1 (by omega)
                  have r02 := r0 2 (by omega)
                  have r03 := r0 3 (by omega)
                  have r04 := r0 4 (by omega)
                  have y0 : wy.cell? ⟨w.heap.size, 0, none⟩ = some (.bool false) := rc 0
                  have y1 : wy.cell? ⟨w.heap.size, 1, none⟩ = some (.bool false) := rc 1
                  have y2 : wy.cell? ⟨w.heap.size, 2, none⟩ = some (.int .i64 0) := rc 2
                  have y3 : wy.cell? ⟨w.heap.size, 3, none⟩ = some (.int .i64 0) := rc 3
                  have y4 : wy.cell? ⟨w.heap.size, 4, none⟩ = some (.int .u8 0) := rc 4
                  clear r0 rc
                  have hneg : dgI none = -1 := rfl
                  rw [hneg] at CE
                  go_wp2_with (go_at_call 26; refine (CE.out _).mono ?_; rintro e w' ⟨rfl, rfl⟩)
                  refine bodyPost_ret_by (results_q rfl _ _ w.heap.size (pC a b dw (-1) 0) rfl rfl ?_) rfl ⟨?_, ?_⟩
                  · simp only [HW2.out, two_set, two_one, pC, z0, List.setIfInBounds_toArray, List.set_cons_succ, List.set_cons_zero]
                    exact two_first _ _ _
                  · rw [HXX.out]; exact ⟨_, _, _, _, _, rfl⟩
                  · simp only [HW2.out, two_set, two_one, pC, z0, List.setIfInBounds_toArray, List.set_cons_succ, List.set_cons_zero]
                    exact two_below _ _ _
                | some ev =>
                  have HXX : Hid (X = plQ (ls s) a0 q a b d1v (some ev)) := Lib.hid HQ3.out
                  have hev : dgI (some ev) = (ev : Int) := rfl
                  rw [hev] at CE
                  have hd : decide ((ev : Int) < 0) = false := decide_eq_false (by omega)
                  clear r0 rc
                  go_wp2_with (go_at_call 26; refine (CE.out _).mono ?_; rintro e w' ⟨rfl, rfl⟩)
                  go_meet
                  case rel => exact ⟨q, some ev, rfl, Lib.hid (by rw [HW2.out, two_set]; rfl), hqs, hqa, HXX⟩
              · have HDD := decide_eq_false d3
                have HXX := Lib.hid (HQ.out.1 d3)
                clear d3
                rw [HDD]
                go_wp2
                go_meet
                case rel => exact ⟨m, none, rfl, HW2, hms, hmk, HXX⟩
            case rest =>
              obtain ⟨q, pr, rfl, HW3, hqs, hqa, HX3⟩ := hcut
              rename World => wv
              clear HW2 c3 f HQ Hm hms hmk
              have f := fun j => (show wv.frozen? ⟨w.heap.size + 1, j, none⟩ = false by rw [HW3.out, two_frozen])
              have g0 : wv.cell? ⟨w.heap.size + 1, 0, none⟩ = some (.bool a) := by rw [HW3.out, two_cell]; rfl
              have g1 : wv.cell? ⟨w.heap.size + 1, 1, none⟩ = some (.bool b) := by rw [HW3.out, two_cell]; rfl
              have g2 : wv.cell? ⟨w.heap.size + 1, 2, none⟩ = some (.int .i64 dw) := by rw [HW3.out, two_cell]; rfl
              have g3 : wv.cell? ⟨w.heap.size + 1, 3, none⟩ = some (.int .i64 (dgI pr)) := by rw [HW3.out, two_cell]; rfl
              have g4 : wv.cell? ⟨w.heap.size + 1, 4, none⟩ = some (.int .u8 0) := by rw [HW3.out, two_cell]; rfl
              have r := fun j => (show wv.frozen? ⟨w.heap.size, j, none⟩ = false by rw [HW3.out, frozen_of (two_first _ _ _)])
              have y0 : wv.cell? ⟨w.heap.size, 0, none⟩ = some (.bool false) := by rw [HW3.out, cell_of (two_first _ _ _)]; rfl
              have y1 : wv.cell? ⟨w.heap.size, 1, none⟩ = some (.bool false) := by rw [HW3.out, cell_of (two_first _ _ _)]; rfl
              have y2 : wv.cell? ⟨w.heap.size, 2, none⟩ = some (.int .i64 0) := by rw [HW3.out, cell_of (two_first _ _ _)]; rfl
              have y3 : wv.cell? ⟨w.heap.size, 3, none⟩ = some (.int .i64 0) := by rw [HW3.out, cell_of (two_first _ _ _)]; rfl
              have y4 : wv.cell? ⟨w.heap.size, 4, none⟩ = some (.int .u8 0) := by rw [HW3.out, cell_of (two_first _ _ _)]; rfl
              cases d1v with
              | none =>
                have HXX : Hid (X = none) := Lib.hid HX3.out
                have hdw : decide (dw < 0) = true := decide_eq_true (by rw [← Hdw.out]; show (-1 : Int) < 0; omega)
                go_wp2
                refine bodyPost_ret_by (results_q rfl _ _ w.heap.size (pC a b dw (dgI pr) 0) rfl rfl ?_) rfl ⟨?_, ?_⟩
                · simp only [HW3.out, two_set, two_one, pC, z0, List.setIfInBounds_toArray, List.set_cons_succ, List.set_cons_zero]
                  exact two_first _ _ _
                · rw [HXX.out]; exact ⟨_, _, _, _, _, rfl⟩
                · simp only [HW3.out, two_set, two_one, pC, z0, List.setIfInBounds_toArray, List.set_cons_succ, List.set_cons_zero]
                  exact two_below _ _ _
              | some wn =>
                have hdw : decide (dw < 0) = false := decide_eq_false (by rw [← Hdw.out]; show ¬ (wn : Int) < 0; omega)
                by_cases hq : q < s.size
                · have HA3 := Lib.hid (bt_at s q)
                  have hqn : decide (s.size ≤ q) = false := decide_eq_false (by omega)
                  have hqn2 : decide ((s.size : Int) ≤ (q : Int)) = false := decide_eq_false (by omega)
                  go_upto_region 19 with fail
                  obtain ⟨ww, Hww⟩ : ∃ ww, Hid (wv.setCell ⟨w.heap.size + 1, 4, none⟩ (.int .u8 (bt s q)) = ww) := ⟨_, Lib.hid rfl⟩
                  have HWW : Hid (ww = two w z0 (pC a b dw (dgI pr) (bt s q))) := Lib.hid (by rw [← Hww.out, HW3.out, two_set]; rfl)
                  rw [Hww.out]
                  have hat := at0_lt (ls s) q
                  obtain ⟨c, Hc⟩ : ∃ c, Hid (at0 (ls s) q = c) := ⟨_, Lib.hid rfl⟩
                  rw [Hc.out] at HA3 hat
                  rw [HA3.out] at HWW
                  have HXc : Hid (X = if isLet c then some (⟨a, b, wn, pr, c⟩, q - a0 + 1) else none) := Lib.hid (by rw [HX3.out]; unfold plQ; simp only; rw [Hc.out])
                  have hb2 := get_bt ⟨#[37, 115, 98, 99, 100, 105, 111, 117, 120, 88]⟩
                  have hz2 : (⟨#[37, 115, 98, 99, 100, 105, 111, 117, 120, 88]⟩ : ByteArray).size = 10 := rfl
                  clear f g0 g1 g2 g3 g4 r y0 y1 y2 y3 y4 Hww HW3 HX3
                  go_wp2
                  go_loopw [11] (Rel19b c ww) (fun i _ => 10 - (intOf i).toNat)
                  case atStart => exact ⟨0, by omega, by omega, rfl, Lib.hid (Below.refl _ _)⟩
                  case round =>
                    obtain ⟨k2, hk10, hkl, rfl, HBl⟩ := hrel
                    rename World => wz
                    have hsz : w.heap.size + 1 < ww.heap.size := by rw [HWW.out]; unfold two; rw [alloc_size, alloc_size]; omega
                    have hg1 : wz.heap[w.heap.size]? = some (.cells z0 45 (0, 0)) := by rw [HBl.out.block _ (by omega), HWW.out, two_first]
                    have hcell : ∀ j v, (pC a b dw (dgI pr) c)[j]? = some v → wz.cell? ⟨w.heap.size + 1, j, none⟩ = some v := fun j v hv => cell_below (by rw [HWW.out, two_cell]; exact hv) HBl.out
                    have g4 : wz.cell? ⟨w.heap.size + 1, 4, none⟩ = some (.int .u8 c) := hcell 4 _ rfl
                    have HBW : Hid (Below w.heap.size w wz) := Lib.hid (by
                      have h1 := two_below w z0 (pC a b dw (dgI pr) c)
                      rw [← HWW.out] at h1
                      exact h1.trans (HBl.out.mono h1.size))
                    by_cases hk : k2 < 10
                    · have HE := Lib.hid (pl_eq c k2 hat hk hkl)
                      by_cases he : plL.idxOf (UInt8.ofNat c) = k2
                      · have e1 : (bt ⟨#[37, 115, 98, 99, 100, 105, 111, 117, 120, 88]⟩ k2 == (c : Int)) = true := by rw [HE.out, decide_eq_true he]
                        have HXX : Hid (X = some (⟨a, b, wn, pr, c⟩, q - a0 + 1)) := Lib.hid (by rw [HXc.out, isLet_idx, decide_eq_true (by omega)]; rfl)
                        have g0 : wz.cell? ⟨w.heap.size + 1, 0, none⟩ = some (.bool a) := hcell 0 _ rfl
                        have g1 : wz.cell? ⟨w.heap.size + 1, 1, none⟩ = some (.bool b) := hcell 1 _ rfl
                        have g2 : wz.cell? ⟨w.heap.size + 1, 2, none⟩ = some (.int .i64 dw) := hcell 2 _ rfl
                        have g3 : wz.cell? ⟨w.heap.size + 1, 3, none⟩ = some (.int .i64 (dgI pr)) := hcell 3 _ rfl
                        have r := fun j => frozen_of hg1 j
                        have y0 : wz.cell? ⟨w.heap.size, 0, none⟩ = some (.bool false) := by rw [cell_of hg1]; rfl
                        have y1 : wz.cell? ⟨w.heap.size, 1, none⟩ = some (.bool false) := by rw [cell_of hg1]; rfl
                        have y2 : wz.cell? ⟨w.heap.size, 2, none⟩ = some (.int .i64 0) := by rw [cell_of hg1]; rfl
                        have y3 : wz.cell? ⟨w.heap.size, 3, none⟩ = some (.int .i64 0) := by rw [cell_of hg1]; rfl
                        have y4 : wz.cell? ⟨w.heap.size, 4, none⟩ = some (.int .u8 0) := by rw [cell_of hg1]; rfl
                        have HG1 := Lib.hid hg1
                        clear hcell hg1 he HE
                        go_wp2
                        go_region
                        go_wp2
                        refine bodyPost_ret_by (results_q rfl _ _ w.heap.size (pC a b dw (dgI pr) c) rfl rfl ?_) rfl ⟨?_, ?_⟩
                        · rw [five_set _ _ _ _ _ _ _ HG1.out]
                          exact setRow_heap _ _ _ _ _ _ HG1.out
                        · have hn : ((a0 + (q - a0 + 1) : Nat) : Int) = (q : Int) + 1 := by omega
                          have hdwn : (wn : Int) = dw := Hdw.out
                          rw [HXX.out]
                          unfold plE
                          simp only
                          rw [hn]
                          unfold dC
                          rw [hdwn]
                          rfl
                        · rw [five_set _ _ _ _ _ _ _ HG1.out]
                          exact (HBW.out.grown (grown_setRow _ _) HBW.out.size (fun k e => by
                            have : w.heap.size = k := by simpa using e
                            omega)).drew
                      · have e1 : (bt ⟨#[37, 115, 98, 99, 100, 105, 111, 117, 120, 88]⟩ k2 == (c : Int)) = false := by rw [HE.out, decide_eq_false he]
                        clear hcell hg1 HE
                        go_wp2
                        go_region
                        go_wp2
                        go_roundw
                        case rel => exact ⟨k2 + 1, by omega, by omega, by go_num, Lib.hid HBl.out.drew⟩
                        case measure => simp [intOf]; omega
                    · have HXX : Hid (X = none) := Lib.hid (by rw [HXc.out, isLet_idx, decide_eq_false (by omega)]; rfl)
                      have g0 : wz.cell? ⟨w.heap.size + 1, 0, none⟩ = some (.bool a) := hcell 0 _ rfl
                      have g1 : wz.cell? ⟨w.heap.size + 1, 1, none⟩ = some (.bool b) := hcell 1 _ rfl
                      have g2 : wz.cell? ⟨w.heap.size + 1, 2, none⟩ = some (.int .i64 dw) := hcell 2 _ rfl
                      have g3 : wz.cell? ⟨w.heap.size + 1, 3, none⟩ = some (.int .i64 (dgI pr)) := hcell 3 _ rfl
                      have r := fun j => frozen_of hg1 j
                      have y0 : wz.cell? ⟨w.heap.size, 0, none⟩ = some (.bool false) := by rw [cell_of hg1]; rfl
                      have y1 : wz.cell? ⟨w.heap.size, 1, none⟩ = some (.bool false) := by rw [cell_of hg1]; rfl
                      have y2 : wz.cell? ⟨w.heap.size, 2, none⟩ = some (.int .i64 0) := by rw [cell_of hg1]; rfl
                      have y3 : wz.cell? ⟨w.heap.size, 3, none⟩ = some (.int .i64 0) := by rw [cell_of hg1]; rfl
                      have y4 : wz.cell? ⟨w.heap.size, 4, none⟩ = some (.int .u8 0) := by rw [cell_of hg1]; rfl
                      have HG1 := Lib.hid hg1
                      clear hcell hg1
                      go_wp2
                      refine bodyPost_ret_by (results_q rfl _ _ w.heap.size (pC a b dw (dgI pr) c) rfl rfl ?_) rfl ⟨?_, ?_⟩
                      · rw [five_set _ _ _ _ _ _ _ HG1.out]
                        exact setRow_heap _ _ _ _ _ _ HG1.out
                      · rw [HXX.out]; exact ⟨_, _, _, _, _, rfl⟩
                      · rw [five_set _ _ _ _ _ _ _ HG1.out]
                        exact (HBW.out.grown (grown_setRow _ _) HBW.out.size (fun k e => by
                          have : w.heap.size = k := by simpa using e
                          omega))
                · have HXX : Hid (X = none) := Lib.hid (by rw [HX3.out]; unfold plQ; simp only; rw [at0_end (by rw [ls_len]; omega)]; rfl)
                  have hqn : decide (s.size ≤ q) = true := decide_eq_true (by omega)
                  have hqn2 : decide ((s.size : Int) ≤ (q : Int)) = true := decide_eq_true (by omega)
                  go_wp2
                  refine bodyPost_ret_by (results_q rfl _ _ w.heap.size (pC a b dw (dgI pr) 0) rfl rfl ?_) rfl ⟨?_, ?_⟩
                  · simp only [HW3.out, two_set, two_one, pC, z0, List.setIfInBounds_toArray, List.set_cons_succ, List.set_cons_zero]
                    exact two_first _ _ _
                  · rw [HXX.out]; exact ⟨_, _, _, _, _, rfl⟩
                  · simp only [HW3.out, two_set, two_one, pC, z0, List.setIfInBounds_toArray, List.set_cons_succ, List.set_cons_zero]
                    exact two_below _ _ _
    · have HFF : Hid (F = (k - a0, a, b)) := Lib.hid (by rw [← HM.out, flags_end _ _ _ _ _ (by omega)])
      obtain rfl : k = s.size := by omega
      have hd0 : dg ((ls s).drop s.size) = (some 0, 0) := by rw [List.drop_eq_nil_of_le (by rw [ls_len]; exact Nat.le_refl _)]; rfl
      have CD := Lib.hid fun W => digits26 s s.size W hs (Nat.le_refl _)
      rw [hd0] at CD
      have hcd : dgW (some 0, 0) = .tuple #[.int .i64 0, .int .i64 0] := rfl
      rw [hcd] at CD
      have HXX : Hid (X = none) := Lib.hid (by
        have hq := (place_q (ls s) a0 s.size a b hk1 (HF.out.trans HFF.out) _ hd0).1
        rw [HX.out] at hq
        simp only [Nat.add_zero] at hq
        have hz : at0 (ls s) s.size = 0 := at0_end (by rw [ls_len]; exact Nat.le_refl _)
        rw [hq (by rw [hz]; decide)]
        unfold plQ
        simp only
        rw [hz]; rfl)
      have c2 : wx.cell? ⟨w.heap.size + 1, 2, none⟩ = some (.int .i64 0) := by rw [HW.out, two_cell]; rfl
      have c3 : wx.cell? ⟨w.heap.size + 1, 3, none⟩ = some (.int .i64 (-1)) := by rw [HW.out, two_cell]; rfl
      have c4 : wx.cell? ⟨w.heap.size + 1, 4, none⟩ = some (.int .u8 0) := by rw [HW.out, two_cell]; rfl
      have r := fun j => (show wx.frozen? ⟨w.heap.size, j, none⟩ = false by rw [HW.out, frozen_of (two_first _ _ _)])
      have y0 : wx.cell? ⟨w.heap.size, 0, none⟩ = some (.bool false) := by rw [HW.out, cell_of (two_first _ _ _)]; rfl
      have y1 : wx.cell? ⟨w.heap.size, 1, none⟩ = some (.bool false) := by rw [HW.out, cell_of (two_first _ _ _)]; rfl
      have y2 : wx.cell? ⟨w.heap.size, 2, none⟩ = some (.int .i64 0) := by rw [HW.out, cell_of (two_first _ _ _)]; rfl
      have y3 : wx.cell? ⟨w.heap.size, 3, none⟩ = some (.int .i64 0) := by rw [HW.out, cell_of (two_first _ _ _)]; rfl
      have y4 : wx.cell? ⟨w.heap.size, 4, none⟩ = some (.int .u8 0) := by rw [HW.out, cell_of (two_first _ _ _)]; rfl
      clear hd0 hcd HFF HM
      go_wp2_with (go_at_call 26; refine (CD.out _).mono ?_; rintro e w' ⟨rfl, rfl⟩)
      refine bodyPost_ret_by (results_q rfl _ _ w.heap.size (pC a b 0 (-1) 0) rfl rfl ?_) rfl ⟨?_, ?_⟩
      · simp only [HW.out, two_set, two_one, pC, z0, List.setIfInBounds_toArray, List.set_cons_succ, List.set_cons_zero]
        exact two_first _ _ _
      · rw [HXX.out]; exact ⟨_, _, _, _, _, rfl⟩
      · simp only [HW.out, two_set, two_one, pC, z0, List.setIfInBounds_toArray, List.set_cons_succ, List.set_cons_zero]
        exact two_below _ _ _
end Go.Proofs.YtckhomeokhhneaaDoor
