/- The contract of the document's own Letters, and of its Fresh: each returns what its plain mirror says. Conditions: modes below 4096. -/
import Derived.Test.YtdoccakkjgcbjaaY
import Derived.Test.YtdoccakkjgcbjaaT
namespace Go.Proofs.Ytdoccakkjgcbjaa
open Go.RowKit Go.PlainAid
set_option linter.unusedSimpArgs false

def refLetter (m bit : Nat) : Int :=
  if bit = 0 ∧ m.testBit 9 = true then (if m.testBit bit = true then 116 else 84) else
  if bit = 6 ∧ m.testBit 11 = true ∨ bit = 3 ∧ m.testBit 10 = true then (if m.testBit bit = true then 115 else 83) else
  if m.testBit bit = true then (if bit % 3 = 0 then 120 else if bit % 3 = 1 then 119 else 114) else 45
def refLs (m : Nat) : Nat → List Int
  | 0 => []
  | k + 1 => refLs m k ++ [refLetter m (8 - k)]
theorem refLs_len (m : Nat) : ∀ k, (refLs m k).length = k
  | 0 => rfl
  | k + 1 => by rw [refLs, List.length_append, refLs_len m k]; rfl

def Rel13 (w : World) (kind : Int) (m : Nat) (v i : Value) (wr : World) : Prop :=
  ∃ (k : Nat), k ≤ 9 ∧ i = .int .i64 (8 - (k : Int)) ∧ wr.ownsRow w.heap.size 5 1 v (k + 1) ((kind :: refLs m k).map (Value.int .u8)) ∧ Below w.heap.size w wr
def meas13 (i : Value) : Nat := (intOf i + 1).toNat

theorem hasL {m b : Nat} {x : Bool} (h : m.testBit b = x) (hm : m < 4096) (hb : b < 12) (n : Int) (hn : n = b) (w : World) : Calls Try.prog 22 #[.int .i64 m, .int .i64 n] w fun e w' => e = .returned (.bool x) ∧ w = w' := by
  subst hn; exact has22_is h hm hb w

theorem rel13_push {w wr w1 : World} {kind : Int} {m k : Nat} {v v' : Value} {c : Int} {o : Obj} (hc : refLetter m (8 - k) = c) (hown0 : wr.ownsRow w.heap.size 5 1 v (k + 1) ((kind :: refLs m k).map (Value.int .u8))) (hb : Below w.heap.size w wr)
    (hown : w1.ownsRow w.heap.size 5 1 v' (k + 1 + 1) ((kind :: refLs m k).map (Value.int .u8) ++ [.int .u8 c])) (hg : (wr.alloc o).grownBy w1 v.ownBlock) :
    w1.ownsRow w.heap.size 5 1 v' (k + 1 + 1) ((kind :: refLs m (k + 1)).map (Value.int .u8)) ∧ Below w.heap.size w w1 := by
  refine ⟨?_, (hb.alloc hb.size o).grown hg (by simp; have := hb.size; omega) (fun j hj => (hown0.lt j hj).1)⟩
  rw [refLs, hc]
  simpa using hown

theorem first13 (kind : Int) (w : World) : (w.alloc (.cells #[.int .u8 kind] 5)).ownsRow w.heap.size 5 1 (.slice (some ⟨w.heap.size, 0, none⟩) 1 1) 1 [.int .u8 kind] :=
  ⟨rfl, .inr ⟨w.heap.size, 1, #[.int .u8 kind], rfl, Nat.le_refl _, heap_alloc_new w _, Nat.le_refl _, by decide, rfl, rfl⟩⟩

theorem new_one (w : World) (c : Int) : ∀ j u, [Value.int .u8 c][j]? = some u → (w.alloc (.cells #[.int .u8 c] 5)).cell? ((⟨w.heap.size, 0, none⟩ : Addr).add j) = some u := by
  intro j u hj
  match j, hj with
  | 0, hj => simp at hj; subst hj; simp [Addr.add]

set_option maxHeartbeats 20000000 in
set_option maxRecDepth 100000 in
theorem letters13 (kind : Int) (m : Nat) (w : World) (hm : m < 4096) : Calls Try.prog 13 #[.int .u8 kind, .int .i64 m] w fun e w' => e = .returned (.string (strOfNums (kind :: refLs m 9))) ∧ Below w.heap.size w w' := by
  obtain ⟨i0, hi0, hz0, hz1, hz2⟩ := info_parts Try.info5
  have x0 : ∀ h, (((⟨#[120, 119, 114]⟩ : ByteArray)[0]'h).toNat : Int) = 120 := fun _ => rfl
  have x1 : ∀ h, (((⟨#[120, 119, 114]⟩ : ByteArray)[1]'h).toNat : Int) = 119 := fun _ => rfl
  have x2 : ∀ h, (((⟨#[120, 119, 114]⟩ : ByteArray)[2]'h).toNat : Int) = 114 := fun _ => rfl
  go_enter Try.func13, Try.ntmps13
  go_wp2
  go_loopw [5, 6] (Rel13 w kind m) (fun _ i _ => meas13 i)
  case atStart => exact ⟨0, by omega, rfl, first13 kind w, (Below.refl _ _).alloc (Nat.le_refl _) _⟩
  case round =>
    obtain ⟨k, hk, hi, hown, hbel⟩ := hrel
    have hbs := hbel.size
    rcases (by omega : k = 0 ∨ k = 1 ∨ k = 2 ∨ k = 3 ∨ k = 4 ∨ k = 5 ∨ k = 6 ∨ k = 7 ∨ k = 8 ∨ k = 9) with rfl | rfl | rfl | rfl | rfl | rfl | rfl | rfl | rfl | rfl
    · replace hi : _ = Value.int .i64 8 := hi
      subst hi
      cases hh : m.testBit 8
      · have hc : refLetter m (8 - 0) = 45 := by simp [refLetter, hh]
        have HK := Lib.hid (hasL hh hm (by omega) 8 rfl)
        have HC := Lib.hid hc
        have HO := Lib.hid hown
        have HL := Lib.hid hbel
        clear hh hc hown hbel
        go_wp2_with (first | (go_at_call 22; (first | ((with_reducible refine (HK.out _).mono ?_); rintro e w' ⟨rfl, rfl⟩))) | (at_builtin; refine wpList_append_own _ rfl _ _ 39 rfl w.heap.size 5 i0 (.int .u8 0) 1 1 Try.underlying39 hi0 hz0 hz1 hz2 rfl (by decide) _ _ _ rfl (HO.out.alloc _) ⟨wr.heap.size, 0, none⟩ 1 1 [.int .u8 45] rfl rfl ?d11 ?d12 ?d13 ?d14 ?d15 ?_))
        case d11 => exact new_one wr 45
        case d12 => intro u hu; simp at hu; subst hu; rfl
        case d13 => decide
        case d14 => decide
        case d15 => simp; omega
        · intro v' w1 hown' hgrow _
          have P := Lib.hid (rel13_push HC.out HO.out HL.out hown' hgrow)
          clear hown' hgrow
          go_wp2
          go_roundw
          case rel => exact ⟨1, by omega, by go_num, P.out⟩
          case measure => simp [meas13, intOf]
      · have hc : refLetter m (8 - 0) = 114 := by simp [refLetter, hh]
        have HK := Lib.hid (hasL hh hm (by omega) 8 rfl)
        have HC := Lib.hid hc
        have HO := Lib.hid hown
        have HL := Lib.hid hbel
        clear hh hc hown hbel
        go_wp2_with (first | (go_at_call 22; (first | ((with_reducible refine (HK.out _).mono ?_); rintro e w' ⟨rfl, rfl⟩))) | (at_builtin; refine wpList_append_own _ rfl _ _ 39 rfl w.heap.size 5 i0 (.int .u8 0) 1 1 Try.underlying39 hi0 hz0 hz1 hz2 rfl (by decide) _ _ _ rfl (HO.out.alloc _) ⟨wr.heap.size, 0, none⟩ 1 1 [.int .u8 114] rfl rfl ?d21 ?d22 ?d23 ?d24 ?d25 ?_))
        case d21 => exact new_one wr 114
        case d22 => intro u hu; simp at hu; subst hu; rfl
        case d23 => decide
        case d24 => decide
        case d25 => simp; omega
        · intro v' w1 hown' hgrow _
          have P := Lib.hid (rel13_push HC.out HO.out HL.out hown' hgrow)
          clear hown' hgrow
          go_wp2
          go_roundw
          case rel => exact ⟨1, by omega, by go_num, P.out⟩
          case measure => simp [meas13, intOf]
    · replace hi : _ = Value.int .i64 7 := hi
      subst hi
      cases hh : m.testBit 7
      · have hc : refLetter m (8 - 1) = 45 := by simp [refLetter, hh]
        have HK := Lib.hid (hasL hh hm (by omega) 7 rfl)
        have HC := Lib.hid hc
        have HO := Lib.hid hown
        have HL := Lib.hid hbel
        clear hh hc hown hbel
        go_wp2_with (first | (go_at_call 22; (first | ((with_reducible refine (HK.out _).mono ?_); rintro e w' ⟨rfl, rfl⟩))) | (at_builtin; refine wpList_append_own _ rfl _ _ 39 rfl w.heap.size 5 i0 (.int .u8 0) 1 1 Try.underlying39 hi0 hz0 hz1 hz2 rfl (by decide) _ _ _ rfl (HO.out.alloc _) ⟨wr.heap.size, 0, none⟩ 1 1 [.int .u8 45] rfl rfl ?d31 ?d32 ?d33 ?d34 ?d35 ?_))
        case d31 => exact new_one wr 45
        case d32 => intro u hu; simp at hu; subst hu; rfl
        case d33 => decide
        case d34 => decide
        case d35 => simp; omega
        · intro v' w1 hown' hgrow _
          have P := Lib.hid (rel13_push HC.out HO.out HL.out hown' hgrow)
          clear hown' hgrow
          go_wp2
          go_roundw
          case rel => exact ⟨2, by omega, by go_num, P.out⟩
          case measure => simp [meas13, intOf]
      · have hc : refLetter m (8 - 1) = 119 := by simp [refLetter, hh]
        have HK := Lib.hid (hasL hh hm (by omega) 7 rfl)
        have HC := Lib.hid hc
        have HO := Lib.hid hown
        have HL := Lib.hid hbel
        clear hh hc hown hbel
        go_wp2_with (first | (go_at_call 22; (first | ((with_reducible refine (HK.out _).mono ?_); rintro e w' ⟨rfl, rfl⟩))) | (at_builtin; refine wpList_append_own _ rfl _ _ 39 rfl w.heap.size 5 i0 (.int .u8 0) 1 1 Try.underlying39 hi0 hz0 hz1 hz2 rfl (by decide) _ _ _ rfl (HO.out.alloc _) ⟨wr.heap.size, 0, none⟩ 1 1 [.int .u8 119] rfl rfl ?d41 ?d42 ?d43 ?d44 ?d45 ?_))
        case d41 => exact new_one wr 119
        case d42 => intro u hu; simp at hu; subst hu; rfl
        case d43 => decide
        case d44 => decide
        case d45 => simp; omega
        · intro v' w1 hown' hgrow _
          have P := Lib.hid (rel13_push HC.out HO.out HL.out hown' hgrow)
          clear hown' hgrow
          go_wp2
          go_roundw
          case rel => exact ⟨2, by omega, by go_num, P.out⟩
          case measure => simp [meas13, intOf]
    · replace hi : _ = Value.int .i64 6 := hi
      subst hi
      cases hh : m.testBit 6
      · cases he : m.testBit 11
        · have hc : refLetter m (8 - 2) = 45 := by simp [refLetter, hh, he]
          have HK := Lib.hid (hasL hh hm (by omega) 6 rfl)
          have HE := Lib.hid (hasL he hm (by omega) 11 rfl)
          have HC := Lib.hid hc
          have HO := Lib.hid hown
          have HL := Lib.hid hbel
          clear hh hc hown hbel he
          go_wp2_with (first | (go_at_call 22; (first | ((with_reducible refine (HK.out _).mono ?_); rintro e w' ⟨rfl, rfl⟩) | ((with_reducible refine (HE.out _).mono ?_); rintro e w' ⟨rfl, rfl⟩))) | (at_builtin; refine wpList_append_own _ rfl _ _ 39 rfl w.heap.size 5 i0 (.int .u8 0) 1 1 Try.underlying39 hi0 hz0 hz1 hz2 rfl (by decide) _ _ _ rfl (HO.out.alloc _) ⟨wr.heap.size, 0, none⟩ 1 1 [.int .u8 45] rfl rfl ?d51 ?d52 ?d53 ?d54 ?d55 ?_))
          case d51 => exact new_one wr 45
          case d52 => intro u hu; simp at hu; subst hu; rfl
          case d53 => decide
          case d54 => decide
          case d55 => simp; omega
          · intro v' w1 hown' hgrow _
            have P := Lib.hid (rel13_push HC.out HO.out HL.out hown' hgrow)
            clear hown' hgrow
            go_wp2
            go_roundw
            case rel => exact ⟨3, by omega, by go_num, P.out⟩
            case measure => simp [meas13, intOf]
        · have hc : refLetter m (8 - 2) = 83 := by simp [refLetter, hh, he]
          have HK := Lib.hid (hasL hh hm (by omega) 6 rfl)
          have HE := Lib.hid (hasL he hm (by omega) 11 rfl)
          have HC := Lib.hid hc
          have HO := Lib.hid hown
          have HL := Lib.hid hbel
          clear hh hc hown hbel he
          go_wp2_with (first | (go_at_call 22; (first | ((with_reducible refine (HK.out _).mono ?_); rintro e w' ⟨rfl, rfl⟩) | ((with_reducible refine (HE.out _).mono ?_); rintro e w' ⟨rfl, rfl⟩))) | (at_builtin; refine wpList_append_own _ rfl _ _ 39 rfl w.heap.size 5 i0 (.int .u8 0) 1 1 Try.underlying39 hi0 hz0 hz1 hz2 rfl (by decide) _ _ _ rfl (HO.out.alloc _) ⟨wr.heap.size, 0, none⟩ 1 1 [.int .u8 83] rfl rfl ?d61 ?d62 ?d63 ?d64 ?d65 ?_))
          case d61 => exact new_one wr 83
          case d62 => intro u hu; simp at hu; subst hu; rfl
          case d63 => decide
          case d64 => decide
          case d65 => simp; omega
          · intro v' w1 hown' hgrow _
            have P := Lib.hid (rel13_push HC.out HO.out HL.out hown' hgrow)
            clear hown' hgrow
            go_wp2
            go_roundw
            case rel => exact ⟨3, by omega, by go_num, P.out⟩
            case measure => simp [meas13, intOf]
      · cases he : m.testBit 11
        · have hc : refLetter m (8 - 2) = 120 := by simp [refLetter, hh, he]
          have HK := Lib.hid (hasL hh hm (by omega) 6 rfl)
          have HE := Lib.hid (hasL he hm (by omega) 11 rfl)
          have HC := Lib.hid hc
          have HO := Lib.hid hown
          have HL := Lib.hid hbel
          clear hh hc hown hbel he
          go_wp2_with (first | (go_at_call 22; (first | ((with_reducible refine (HK.out _).mono ?_); rintro e w' ⟨rfl, rfl⟩) | ((with_reducible refine (HE.out _).mono ?_); rintro e w' ⟨rfl, rfl⟩))) | (at_builtin; refine wpList_append_own _ rfl _ _ 39 rfl w.heap.size 5 i0 (.int .u8 0) 1 1 Try.underlying39 hi0 hz0 hz1 hz2 rfl (by decide) _ _ _ rfl (HO.out.alloc _) ⟨wr.heap.size, 0, none⟩ 1 1 [.int .u8 120] rfl rfl ?d71 ?d72 ?d73 ?d74 ?d75 ?_))
          case d71 => exact new_one wr 120
          case d72 => intro u hu; simp at hu; subst hu; rfl
          case d73 => decide
          case d74 => decide
          case d75 => simp; omega
          · intro v' w1 hown' hgrow _
            have P := Lib.hid (rel13_push HC.out HO.out HL.out hown' hgrow)
            clear hown' hgrow
            go_wp2
            go_roundw
            case rel => exact ⟨3, by omega, by go_num, P.out⟩
            case measure => simp [meas13, intOf]
        · have hc : refLetter m (8 - 2) = 115 := by simp [refLetter, hh, he]
          have HK := Lib.hid (hasL hh hm (by omega) 6 rfl)
          have HE := Lib.hid (hasL he hm (by omega) 11 rfl)
          have HC := Lib.hid hc
          have HO := Lib.hid hown
          have HL := Lib.hid hbel
          clear hh hc hown hbel he
          go_wp2_with (first | (go_at_call 22; (first | ((with_reducible refine (HK.out _).mono ?_); rintro e w' ⟨rfl, rfl⟩) | ((with_reducible refine (HE.out _).mono ?_); rintro e w' ⟨rfl, rfl⟩))) | (at_builtin; refine wpList_append_own _ rfl _ _ 39 rfl w.heap.size 5 i0 (.int .u8 0) 1 1 Try.underlying39 hi0 hz0 hz1 hz2 rfl (by decide) _ _ _ rfl (HO.out.alloc _) ⟨wr.heap.size, 0, none⟩ 1 1 [.int .u8 115] rfl rfl ?d81 ?d82 ?d83 ?d84 ?d85 ?_))
          case d81 => exact new_one wr 115
          case d82 => intro u hu; simp at hu; subst hu; rfl
          case d83 => decide
          case d84 => decide
          case d85 => simp; omega
          · intro v' w1 hown' hgrow _
            have P := Lib.hid (rel13_push HC.out HO.out HL.out hown' hgrow)
            clear hown' hgrow
            go_wp2
            go_roundw
            case rel => exact ⟨3, by omega, by go_num, P.out⟩
            case measure => simp [meas13, intOf]
    · replace hi : _ = Value.int .i64 5 := hi
      subst hi
      cases hh : m.testBit 5
      · have hc : refLetter m (8 - 3) = 45 := by simp [refLetter, hh]
        have HK := Lib.hid (hasL hh hm (by omega) 5 rfl)
        have HC := Lib.hid hc
        have HO := Lib.hid hown
        have HL := Lib.hid hbel
        clear hh hc hown hbel
        go_wp2_with (first | (go_at_call 22; (first | ((with_reducible refine (HK.out _).mono ?_); rintro e w' ⟨rfl, rfl⟩))) | (at_builtin; refine wpList_append_own _ rfl _ _ 39 rfl w.heap.size 5 i0 (.int .u8 0) 1 1 Try.underlying39 hi0 hz0 hz1 hz2 rfl (by decide) _ _ _ rfl (HO.out.alloc _) ⟨wr.heap.size, 0, none⟩ 1 1 [.int .u8 45] rfl rfl ?d91 ?d92 ?d93 ?d94 ?d95 ?_))
        case d91 => exact new_one wr 45
        case d92 => intro u hu; simp at hu; subst hu; rfl
        case d93 => decide
        case d94 => decide
        case d95 => simp; omega
        · intro v' w1 hown' hgrow _
          have P := Lib.hid (rel13_push HC.out HO.out HL.out hown' hgrow)
          clear hown' hgrow
          go_wp2
          go_roundw
          case rel => exact ⟨4, by omega, by go_num, P.out⟩
          case measure => simp [meas13, intOf]
      · have hc : refLetter m (8 - 3) = 114 := by simp [refLetter, hh]
        have HK := Lib.hid (hasL hh hm (by omega) 5 rfl)
        have HC := Lib.hid hc
        have HO := Lib.hid hown
        have HL := Lib.hid hbel
        clear hh hc hown hbel
        go_wp2_with (first | (go_at_call 22; (first | ((with_reducible refine (HK.out _).mono ?_); rintro e w' ⟨rfl, rfl⟩))) | (at_builtin; refine wpList_append_own _ rfl _ _ 39 rfl w.heap.size 5 i0 (.int .u8 0) 1 1 Try.underlying39 hi0 hz0 hz1 hz2 rfl (by decide) _ _ _ rfl (HO.out.alloc _) ⟨wr.heap.size, 0, none⟩ 1 1 [.int .u8 114] rfl rfl ?d101 ?d102 ?d103 ?d104 ?d105 ?_))
        case d101 => exact new_one wr 114
        case d102 => intro u hu; simp at hu; subst hu; rfl
        case d103 => decide
        case d104 => decide
        case d105 => simp; omega
        · intro v' w1 hown' hgrow _
          have P := Lib.hid (rel13_push HC.out HO.out HL.out hown' hgrow)
          clear hown' hgrow
          go_wp2
          go_roundw
          case rel => exact ⟨4, by omega, by go_num, P.out⟩
          case measure => simp [meas13, intOf]
    · replace hi : _ = Value.int .i64 4 := hi
      subst hi
      cases hh : m.testBit 4
      · have hc : refLetter m (8 - 4) = 45 := by simp [refLetter, hh]
        have HK := Lib.hid (hasL hh hm (by omega) 4 rfl)
        have HC := Lib.hid hc
        have HO := Lib.hid hown
        have HL := Lib.hid hbel
        clear hh hc hown hbel
        go_wp2_with (first | (go_at_call 22; (first | ((with_reducible refine (HK.out _).mono ?_); rintro e w' ⟨rfl, rfl⟩))) | (at_builtin; refine wpList_append_own _ rfl _ _ 39 rfl w.heap.size 5 i0 (.int .u8 0) 1 1 Try.underlying39 hi0 hz0 hz1 hz2 rfl (by decide) _ _ _ rfl (HO.out.alloc _) ⟨wr.heap.size, 0, none⟩ 1 1 [.int .u8 45] rfl rfl ?d111 ?d112 ?d113 ?d114 ?d115 ?_))
        case d111 => exact new_one wr 45
        case d112 => intro u hu; simp at hu; subst hu; rfl
        case d113 => decide
        case d114 => decide
        case d115 => simp; omega
        · intro v' w1 hown' hgrow _
          have P := Lib.hid (rel13_push HC.out HO.out HL.out hown' hgrow)
          clear hown' hgrow
          go_wp2
          go_roundw
          case rel => exact ⟨5, by omega, by go_num, P.out⟩
          case measure => simp [meas13, intOf]
      · have hc : refLetter m (8 - 4) = 119 := by simp [refLetter, hh]
        have HK := Lib.hid (hasL hh hm (by omega) 4 rfl)
        have HC := Lib.hid hc
        have HO := Lib.hid hown
        have HL := Lib.hid hbel
        clear hh hc hown hbel
        go_wp2_with (first | (go_at_call 22; (first | ((with_reducible refine (HK.out _).mono ?_); rintro e w' ⟨rfl, rfl⟩))) | (at_builtin; refine wpList_append_own _ rfl _ _ 39 rfl w.heap.size 5 i0 (.int .u8 0) 1 1 Try.underlying39 hi0 hz0 hz1 hz2 rfl (by decide) _ _ _ rfl (HO.out.alloc _) ⟨wr.heap.size, 0, none⟩ 1 1 [.int .u8 119] rfl rfl ?d121 ?d122 ?d123 ?d124 ?d125 ?_))
        case d121 => exact new_one wr 119
        case d122 => intro u hu; simp at hu; subst hu; rfl
        case d123 => decide
        case d124 => decide
        case d125 => simp; omega
        · intro v' w1 hown' hgrow _
          have P := Lib.hid (rel13_push HC.out HO.out HL.out hown' hgrow)
          clear hown' hgrow
          go_wp2
          go_roundw
          case rel => exact ⟨5, by omega, by go_num, P.out⟩
          case measure => simp [meas13, intOf]
    · replace hi : _ = Value.int .i64 3 := hi
      subst hi
      cases hh : m.testBit 3
      · cases he : m.testBit 10
        · have hc : refLetter m (8 - 5) = 45 := by simp [refLetter, hh, he]
          have HK := Lib.hid (hasL hh hm (by omega) 3 rfl)
          have HE := Lib.hid (hasL he hm (by omega) 10 rfl)
          have HC := Lib.hid hc
          have HO := Lib.hid hown
          have HL := Lib.hid hbel
          clear hh hc hown hbel he
          go_wp2_with (first | (go_at_call 22; (first | ((with_reducible refine (HK.out _).mono ?_); rintro e w' ⟨rfl, rfl⟩) | ((with_reducible refine (HE.out _).mono ?_); rintro e w' ⟨rfl, rfl⟩))) | (at_builtin; refine wpList_append_own _ rfl _ _ 39 rfl w.heap.size 5 i0 (.int .u8 0) 1 1 Try.underlying39 hi0 hz0 hz1 hz2 rfl (by decide) _ _ _ rfl (HO.out.alloc _) ⟨wr.heap.size, 0, none⟩ 1 1 [.int .u8 45] rfl rfl ?d131 ?d132 ?d133 ?d134 ?d135 ?_))
          case d131 => exact new_one wr 45
          case d132 => intro u hu; simp at hu; subst hu; rfl
          case d133 => decide
          case d134 => decide
          case d135 => simp; omega
          · intro v' w1 hown' hgrow _
            have P := Lib.hid (rel13_push HC.out HO.out HL.out hown' hgrow)
            clear hown' hgrow
            go_wp2
            go_roundw
            case rel => exact ⟨6, by omega, by go_num, P.out⟩
            case measure => simp [meas13, intOf]
        · have hc : refLetter m (8 - 5) = 83 := by simp [refLetter, hh, he]
          have HK := Lib.hid (hasL hh hm (by omega) 3 rfl)
          have HE := Lib.hid (hasL he hm (by omega) 10 rfl)
          have HC := Lib.hid hc
          have HO := Lib.hid hown
          have HL := Lib.hid hbel
          clear hh hc hown hbel he
          go_wp2_with (first | (go_at_call 22; (first | ((with_reducible refine (HK.out _).mono ?_); rintro e w' ⟨rfl, rfl⟩) | ((with_reducible refine (HE.out _).mono ?_); rintro e w' ⟨rfl, rfl⟩))) | (at_builtin; refine wpList_append_own _ rfl _ _ 39 rfl w.heap.size 5 i0 (.int .u8 0) 1 1 Try.underlying39 hi0 hz0 hz1 hz2 rfl (by decide) _ _ _ rfl (HO.out.alloc _) ⟨wr.heap.size, 0, none⟩ 1 1 [.int .u8 83] rfl rfl ?d141 ?d142 ?d143 ?d144 ?d145 ?_))
          case d141 => exact new_one wr 83
          case d142 => intro u hu; simp at hu; subst hu; rfl
          case d143 => decide
          case d144 => decide
          case d145 => simp; omega
          · intro v' w1 hown' hgrow _
            have P := Lib.hid (rel13_push HC.out HO.out HL.out hown' hgrow)
            clear hown' hgrow
            go_wp2
            go_roundw
            case rel => exact ⟨6, by omega, by go_num, P.out⟩
            case measure => simp [meas13, intOf]
      · cases he : m.testBit 10
        · have hc : refLetter m (8 - 5) = 120 := by simp [refLetter, hh, he]
          have HK := Lib.hid (hasL hh hm (by omega) 3 rfl)
          have HE := Lib.hid (hasL he hm (by omega) 10 rfl)
          have HC := Lib.hid hc
          have HO := Lib.hid hown
          have HL := Lib.hid hbel
          clear hh hc hown hbel he
          go_wp2_with (first | (go_at_call 22; (first | ((with_reducible refine (HK.out _).mono ?_); rintro e w' ⟨rfl, rfl⟩) | ((with_reducible refine (HE.out _).mono ?_); rintro e w' ⟨rfl, rfl⟩))) | (at_builtin; refine wpList_append_own _ rfl _ _ 39 rfl w.heap.size 5 i0 (.int .u8 0) 1 1 Try.underlying39 hi0 hz0 hz1 hz2 rfl (by decide) _ _ _ rfl (HO.out.alloc _) ⟨wr.heap.size, 0, none⟩ 1 1 [.int .u8 120] rfl rfl ?d151 ?d152 ?d153 ?d154 ?d155 ?_))
          case d151 => exact new_one wr 120
          case d152 => intro u hu; simp at hu; subst hu; rfl
          case d153 => decide
          case d154 => decide
          case d155 => simp; omega
          · intro v' w1 hown' hgrow _
            have P := Lib.hid (rel13_push HC.out HO.out HL.out hown' hgrow)
            clear hown' hgrow
            go_wp2
            go_roundw
            case rel => exact ⟨6, by omega, by go_num, P.out⟩
            case measure => simp [meas13, intOf]
        · have hc : refLetter m (8 - 5) = 115 := by simp [refLetter, hh, he]
          have HK := Lib.hid (hasL hh hm (by omega) 3 rfl)
          have HE := Lib.hid (hasL he hm (by omega) 10 rfl)
          have HC := Lib.hid hc
          have HO := Lib.hid hown
          have HL := Lib.hid hbel
          clear hh hc hown hbel he
          go_wp2_with (first | (go_at_call 22; (first | ((with_reducible refine (HK.out _).mono ?_); rintro e w' ⟨rfl, rfl⟩) | ((with_reducible refine (HE.out _).mono ?_); rintro e w' ⟨rfl, rfl⟩))) | (at_builtin; refine wpList_append_own _ rfl _ _ 39 rfl w.heap.size 5 i0 (.int .u8 0) 1 1 Try.underlying39 hi0 hz0 hz1 hz2 rfl (by decide) _ _ _ rfl (HO.out.alloc _) ⟨wr.heap.size, 0, none⟩ 1 1 [.int .u8 115] rfl rfl ?d161 ?d162 ?d163 ?d164 ?d165 ?_))
          case d161 => exact new_one wr 115
          case d162 => intro u hu; simp at hu; subst hu; rfl
          case d163 => decide
          case d164 => decide
          case d165 => simp; omega
          · intro v' w1 hown' hgrow _
            have P := Lib.hid (rel13_push HC.out HO.out HL.out hown' hgrow)
            clear hown' hgrow
            go_wp2
            go_roundw
            case rel => exact ⟨6, by omega, by go_num, P.out⟩
            case measure => simp [meas13, intOf]
    · replace hi : _ = Value.int .i64 2 := hi
      subst hi
      cases hh : m.testBit 2
      · have hc : refLetter m (8 - 6) = 45 := by simp [refLetter, hh]
        have HK := Lib.hid (hasL hh hm (by omega) 2 rfl)
        have HC := Lib.hid hc
        have HO := Lib.hid hown
        have HL := Lib.hid hbel
        clear hh hc hown hbel
        go_wp2_with (first | (go_at_call 22; (first | ((with_reducible refine (HK.out _).mono ?_); rintro e w' ⟨rfl, rfl⟩))) | (at_builtin; refine wpList_append_own _ rfl _ _ 39 rfl w.heap.size 5 i0 (.int .u8 0) 1 1 Try.underlying39 hi0 hz0 hz1 hz2 rfl (by decide) _ _ _ rfl (HO.out.alloc _) ⟨wr.heap.size, 0, none⟩ 1 1 [.int .u8 45] rfl rfl ?d171 ?d172 ?d173 ?d174 ?d175 ?_))
        case d171 => exact new_one wr 45
        case d172 => intro u hu; simp at hu; subst hu; rfl
        case d173 => decide
        case d174 => decide
        case d175 => simp; omega
        · intro v' w1 hown' hgrow _
          have P := Lib.hid (rel13_push HC.out HO.out HL.out hown' hgrow)
          clear hown' hgrow
          go_wp2
          go_roundw
          case rel => exact ⟨7, by omega, by go_num, P.out⟩
          case measure => simp [meas13, intOf]
      · have hc : refLetter m (8 - 6) = 114 := by simp [refLetter, hh]
        have HK := Lib.hid (hasL hh hm (by omega) 2 rfl)
        have HC := Lib.hid hc
        have HO := Lib.hid hown
        have HL := Lib.hid hbel
        clear hh hc hown hbel
        go_wp2_with (first | (go_at_call 22; (first | ((with_reducible refine (HK.out _).mono ?_); rintro e w' ⟨rfl, rfl⟩))) | (at_builtin; refine wpList_append_own _ rfl _ _ 39 rfl w.heap.size 5 i0 (.int .u8 0) 1 1 Try.underlying39 hi0 hz0 hz1 hz2 rfl (by decide) _ _ _ rfl (HO.out.alloc _) ⟨wr.heap.size, 0, none⟩ 1 1 [.int .u8 114] rfl rfl ?d181 ?d182 ?d183 ?d184 ?d185 ?_))
        case d181 => exact new_one wr 114
        case d182 => intro u hu; simp at hu; subst hu; rfl
        case d183 => decide
        case d184 => decide
        case d185 => simp; omega
        · intro v' w1 hown' hgrow _
          have P := Lib.hid (rel13_push HC.out HO.out HL.out hown' hgrow)
          clear hown' hgrow
          go_wp2
          go_roundw
          case rel => exact ⟨7, by omega, by go_num, P.out⟩
          case measure => simp [meas13, intOf]
    · replace hi : _ = Value.int .i64 1 := hi
      subst hi
      cases hh : m.testBit 1
      · have hc : refLetter m (8 - 7) = 45 := by simp [refLetter, hh]
        have HK := Lib.hid (hasL hh hm (by omega) 1 rfl)
        have HC := Lib.hid hc
        have HO := Lib.hid hown
        have HL := Lib.hid hbel
        clear hh hc hown hbel
        go_wp2_with (first | (go_at_call 22; (first | ((with_reducible refine (HK.out _).mono ?_); rintro e w' ⟨rfl, rfl⟩))) | (at_builtin; refine wpList_append_own _ rfl _ _ 39 rfl w.heap.size 5 i0 (.int .u8 0) 1 1 Try.underlying39 hi0 hz0 hz1 hz2 rfl (by decide) _ _ _ rfl (HO.out.alloc _) ⟨wr.heap.size, 0, none⟩ 1 1 [.int .u8 45] rfl rfl ?d191 ?d192 ?d193 ?d194 ?d195 ?_))
        case d191 => exact new_one wr 45
        case d192 => intro u hu; simp at hu; subst hu; rfl
        case d193 => decide
        case d194 => decide
        case d195 => simp; omega
        · intro v' w1 hown' hgrow _
          have P := Lib.hid (rel13_push HC.out HO.out HL.out hown' hgrow)
          clear hown' hgrow
          go_wp2
          go_roundw
          case rel => exact ⟨8, by omega, by go_num, P.out⟩
          case measure => simp [meas13, intOf]
      · have hc : refLetter m (8 - 7) = 119 := by simp [refLetter, hh]
        have HK := Lib.hid (hasL hh hm (by omega) 1 rfl)
        have HC := Lib.hid hc
        have HO := Lib.hid hown
        have HL := Lib.hid hbel
        clear hh hc hown hbel
        go_wp2_with (first | (go_at_call 22; (first | ((with_reducible refine (HK.out _).mono ?_); rintro e w' ⟨rfl, rfl⟩))) | (at_builtin; refine wpList_append_own _ rfl _ _ 39 rfl w.heap.size 5 i0 (.int .u8 0) 1 1 Try.underlying39 hi0 hz0 hz1 hz2 rfl (by decide) _ _ _ rfl (HO.out.alloc _) ⟨wr.heap.size, 0, none⟩ 1 1 [.int .u8 119] rfl rfl ?d201 ?d202 ?d203 ?d204 ?d205 ?_))
        case d201 => exact new_one wr 119
        case d202 => intro u hu; simp at hu; subst hu; rfl
        case d203 => decide
        case d204 => decide
        case d205 => simp; omega
        · intro v' w1 hown' hgrow _
          have P := Lib.hid (rel13_push HC.out HO.out HL.out hown' hgrow)
          clear hown' hgrow
          go_wp2
          go_roundw
          case rel => exact ⟨8, by omega, by go_num, P.out⟩
          case measure => simp [meas13, intOf]
    · replace hi : _ = Value.int .i64 0 := hi
      subst hi
      cases hh : m.testBit 0
      · cases he : m.testBit 9
        · have hc : refLetter m (8 - 8) = 45 := by simp [refLetter, hh, he]
          have HK := Lib.hid (hasL hh hm (by omega) 0 rfl)
          have HE := Lib.hid (hasL he hm (by omega) 9 rfl)
          have HC := Lib.hid hc
          have HO := Lib.hid hown
          have HL := Lib.hid hbel
          clear hh hc hown hbel he
          go_wp2_with (first | (go_at_call 22; (first | ((with_reducible refine (HK.out _).mono ?_); rintro e w' ⟨rfl, rfl⟩) | ((with_reducible refine (HE.out _).mono ?_); rintro e w' ⟨rfl, rfl⟩))) | (at_builtin; refine wpList_append_own _ rfl _ _ 39 rfl w.heap.size 5 i0 (.int .u8 0) 1 1 Try.underlying39 hi0 hz0 hz1 hz2 rfl (by decide) _ _ _ rfl (HO.out.alloc _) ⟨wr.heap.size, 0, none⟩ 1 1 [.int .u8 45] rfl rfl ?d211 ?d212 ?d213 ?d214 ?d215 ?_))
          case d211 => exact new_one wr 45
          case d212 => intro u hu; simp at hu; subst hu; rfl
          case d213 => decide
          case d214 => decide
          case d215 => simp; omega
          · intro v' w1 hown' hgrow _
            have P := Lib.hid (rel13_push HC.out HO.out HL.out hown' hgrow)
            clear hown' hgrow
            go_wp2
            go_roundw
            case rel => exact ⟨9, by omega, by go_num, P.out⟩
            case measure => simp [meas13, intOf]
        · have hc : refLetter m (8 - 8) = 84 := by simp [refLetter, hh, he]
          have HK := Lib.hid (hasL hh hm (by omega) 0 rfl)
          have HE := Lib.hid (hasL he hm (by omega) 9 rfl)
          have HC := Lib.hid hc
          have HO := Lib.hid hown
          have HL := Lib.hid hbel
          clear hh hc hown hbel he
          go_wp2_with (first | (go_at_call 22; (first | ((with_reducible refine (HK.out _).mono ?_); rintro e w' ⟨rfl, rfl⟩) | ((with_reducible refine (HE.out _).mono ?_); rintro e w' ⟨rfl, rfl⟩))) | (at_builtin; refine wpList_append_own _ rfl _ _ 39 rfl w.heap.size 5 i0 (.int .u8 0) 1 1 Try.underlying39 hi0 hz0 hz1 hz2 rfl (by decide) _ _ _ rfl (HO.out.alloc _) ⟨wr.heap.size, 0, none⟩ 1 1 [.int .u8 84] rfl rfl ?d221 ?d222 ?d223 ?d224 ?d225 ?_))
          case d221 => exact new_one wr 84
          case d222 => intro u hu; simp at hu; subst hu; rfl
          case d223 => decide
          case d224 => decide
          case d225 => simp; omega
          · intro v' w1 hown' hgrow _
            have P := Lib.hid (rel13_push HC.out HO.out HL.out hown' hgrow)
            clear hown' hgrow
            go_wp2
            go_roundw
            case rel => exact ⟨9, by omega, by go_num, P.out⟩
            case measure => simp [meas13, intOf]
      · cases he : m.testBit 9
        · have hc : refLetter m (8 - 8) = 120 := by simp [refLetter, hh, he]
          have HK := Lib.hid (hasL hh hm (by omega) 0 rfl)
          have HE := Lib.hid (hasL he hm (by omega) 9 rfl)
          have HC := Lib.hid hc
          have HO := Lib.hid hown
          have HL := Lib.hid hbel
          clear hh hc hown hbel he
          go_wp2_with (first | (go_at_call 22; (first | ((with_reducible refine (HK.out _).mono ?_); rintro e w' ⟨rfl, rfl⟩) | ((with_reducible refine (HE.out _).mono ?_); rintro e w' ⟨rfl, rfl⟩))) | (at_builtin; refine wpList_append_own _ rfl _ _ 39 rfl w.heap.size 5 i0 (.int .u8 0) 1 1 Try.underlying39 hi0 hz0 hz1 hz2 rfl (by decide) _ _ _ rfl (HO.out.alloc _) ⟨wr.heap.size, 0, none⟩ 1 1 [.int .u8 120] rfl rfl ?d231 ?d232 ?d233 ?d234 ?d235 ?_))
          case d231 => exact new_one wr 120
          case d232 => intro u hu; simp at hu; subst hu; rfl
          case d233 => decide
          case d234 => decide
          case d235 => simp; omega
          · intro v' w1 hown' hgrow _
            have P := Lib.hid (rel13_push HC.out HO.out HL.out hown' hgrow)
            clear hown' hgrow
            go_wp2
            go_roundw
            case rel => exact ⟨9, by omega, by go_num, P.out⟩
            case measure => simp [meas13, intOf]
        · have hc : refLetter m (8 - 8) = 116 := by simp [refLetter, hh, he]
          have HK := Lib.hid (hasL hh hm (by omega) 0 rfl)
          have HE := Lib.hid (hasL he hm (by omega) 9 rfl)
          have HC := Lib.hid hc
          have HO := Lib.hid hown
          have HL := Lib.hid hbel
          clear hh hc hown hbel he
          go_wp2_with (first | (go_at_call 22; (first | ((with_reducible refine (HK.out _).mono ?_); rintro e w' ⟨rfl, rfl⟩) | ((with_reducible refine (HE.out _).mono ?_); rintro e w' ⟨rfl, rfl⟩))) | (at_builtin; refine wpList_append_own _ rfl _ _ 39 rfl w.heap.size 5 i0 (.int .u8 0) 1 1 Try.underlying39 hi0 hz0 hz1 hz2 rfl (by decide) _ _ _ rfl (HO.out.alloc _) ⟨wr.heap.size, 0, none⟩ 1 1 [.int .u8 116] rfl rfl ?d241 ?d242 ?d243 ?d244 ?d245 ?_))
          case d241 => exact new_one wr 116
          case d242 => intro u hu; simp at hu; subst hu; rfl
          case d243 => decide
          case d244 => decide
          case d245 => simp; omega
          · intro v' w1 hown' hgrow _
            have P := Lib.hid (rel13_push HC.out HO.out HL.out hown' hgrow)
            clear hown' hgrow
            go_wp2
            go_roundw
            case rel => exact ⟨9, by omega, by go_num, P.out⟩
            case measure => simp [meas13, intOf]
    · replace hi : _ = Value.int .i64 (-1) := hi
      subst hi
      obtain ⟨g, c, hv, hcv⟩ := own_string (xs := kind :: refLs m 9) (by simpa [refLs_len] using hown) (by simp)
      have hlen : (kind :: refLs m 9).length = 10 := by simp [refLs_len]
      rw [hlen] at hv hcv
      subst hv
      have HL := Lib.hid hbel
      clear hown hbel hlen
      go_wp2
      go_ret
      exact ⟨rfl, HL.out⟩
end Go.Proofs.Ytdoccakkjgcbjaa
