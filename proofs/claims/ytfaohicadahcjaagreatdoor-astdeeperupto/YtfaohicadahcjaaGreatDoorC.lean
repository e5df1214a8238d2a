/- Contracts: special signs, reserved words, what may stand behind a name; one of sixteen. No condition. -/
import Derived.Test.YtfaohicadahcjaaGreatDoorB
namespace Go.Proofs.YtfaohicadahcjaaGreatDoor
open Go.RowKit Go.PlainAid Go.ChangeShapes Go.WideShapes Go.ChangeAt
set_option linter.unusedSimpArgs false
set_option linter.unusedVariables false

set_option maxHeartbeats 4000000 in
set_option maxRecDepth 100000 in
theorem sp27 (s : ByteArray) (w : World) : Calls Tryz.prog 27 #[.string s] w fun e w' => e = .returned (.bool (spL (ls s))) ∧ w = w' := by
  obtain ⟨b0, h0⟩ : ∃ b, (s.toList == [64]) = b := ⟨_, rfl⟩
  obtain ⟨b1, h1⟩ : ∃ b, (s.toList == [42]) = b := ⟨_, rfl⟩
  obtain ⟨b2, h2⟩ : ∃ b, (s.toList == [35]) = b := ⟨_, rfl⟩
  obtain ⟨b3, h3⟩ : ∃ b, (s.toList == [63]) = b := ⟨_, rfl⟩
  obtain ⟨b4, h4⟩ : ∃ b, (s.toList == [45]) = b := ⟨_, rfl⟩
  obtain ⟨b5, h5⟩ : ∃ b, (s.toList == [36]) = b := ⟨_, rfl⟩
  obtain ⟨b6, h6⟩ : ∃ b, (s.toList == [33]) = b := ⟨_, rfl⟩
  have HS : Hid (spL (ls s) = (b0 || b1 || b2 || b3 || b4 || b5 || b6)) := Lib.hid (by
    show spL s.data.toList = _
    rw [← toList_data s]
    simp only [spL, List.contains_cons, List.contains_nil, h0, h1, h2, h3, h4, h5, h6, Bool.or_false, Bool.or_assoc])
  cases b0
  case true =>
    go_enter Tryz.func27, Tryz.ntmps27
    go_wp2
    go_ret
    exact ⟨by rw [HS.out]; simp, rfl⟩
  cases b1
  case true =>
    go_enter Tryz.func27, Tryz.ntmps27
    go_wp2
    go_ret
    exact ⟨by rw [HS.out]; simp, rfl⟩
  cases b2
  case true =>
    go_enter Tryz.func27, Tryz.ntmps27
    go_wp2
    go_ret
    exact ⟨by rw [HS.out]; simp, rfl⟩
  cases b3
  case true =>
    go_enter Tryz.func27, Tryz.ntmps27
    go_wp2
    go_ret
    exact ⟨by rw [HS.out]; simp, rfl⟩
  cases b4
  case true =>
    go_enter Tryz.func27, Tryz.ntmps27
    go_wp2
    go_ret
    exact ⟨by rw [HS.out]; simp, rfl⟩
  cases b5
  case true =>
    go_enter Tryz.func27, Tryz.ntmps27
    go_wp2
    go_ret
    exact ⟨by rw [HS.out]; simp, rfl⟩
  cases b6
  case true =>
    go_enter Tryz.func27, Tryz.ntmps27
    go_wp2
    go_ret
    exact ⟨by rw [HS.out]; simp, rfl⟩
  go_enter Tryz.func27, Tryz.ntmps27
  go_wp2
  go_ret
  exact ⟨by rw [HS.out]; rfl, rfl⟩
set_option maxHeartbeats 4000000 in
set_option maxRecDepth 100000 in
theorem res29 (s : ByteArray) (w : World) : Calls Tryz.prog 29 #[.string s] w fun e w' => e = .returned (.bool (resL (ls s))) ∧ w = w' := by
  obtain ⟨b0, h0⟩ : ∃ b, (s.toList == [105, 102]) = b := ⟨_, rfl⟩
  obtain ⟨b1, h1⟩ : ∃ b, (s.toList == [116, 104, 101, 110]) = b := ⟨_, rfl⟩
  obtain ⟨b2, h2⟩ : ∃ b, (s.toList == [101, 108, 105, 102]) = b := ⟨_, rfl⟩
  obtain ⟨b3, h3⟩ : ∃ b, (s.toList == [101, 108, 115, 101]) = b := ⟨_, rfl⟩
  obtain ⟨b4, h4⟩ : ∃ b, (s.toList == [102, 105]) = b := ⟨_, rfl⟩
  obtain ⟨b5, h5⟩ : ∃ b, (s.toList == [119, 104, 105, 108, 101]) = b := ⟨_, rfl⟩
  obtain ⟨b6, h6⟩ : ∃ b, (s.toList == [117, 110, 116, 105, 108]) = b := ⟨_, rfl⟩
  obtain ⟨b7, h7⟩ : ∃ b, (s.toList == [100, 111]) = b := ⟨_, rfl⟩
  obtain ⟨b8, h8⟩ : ∃ b, (s.toList == [100, 111, 110, 101]) = b := ⟨_, rfl⟩
  obtain ⟨b9, h9⟩ : ∃ b, (s.toList == [102, 111, 114]) = b := ⟨_, rfl⟩
  obtain ⟨b10, h10⟩ : ∃ b, (s.toList == [105, 110]) = b := ⟨_, rfl⟩
  obtain ⟨b11, h11⟩ : ∃ b, (s.toList == [99, 97, 115, 101]) = b := ⟨_, rfl⟩
  obtain ⟨b12, h12⟩ : ∃ b, (s.toList == [101, 115, 97, 99]) = b := ⟨_, rfl⟩
  obtain ⟨b13, h13⟩ : ∃ b, (s.toList == [33]) = b := ⟨_, rfl⟩
  obtain ⟨b14, h14⟩ : ∃ b, (s.toList == [123]) = b := ⟨_, rfl⟩
  obtain ⟨b15, h15⟩ : ∃ b, (s.toList == [125]) = b := ⟨_, rfl⟩
  have HS : Hid (resL (ls s) = (b0 || b1 || b2 || b3 || b4 || b5 || b6 || b7 || b8 || b9 || b10 || b11 || b12 || b13 || b14 || b15)) := Lib.hid (by
    show resL s.data.toList = _
    rw [← toList_data s]
    simp only [resL, resLs, List.contains_cons, List.contains_nil, h0, h1, h2, h3, h4, h5, h6, h7, h8, h9, h10, h11, h12, h13, h14, h15, Bool.or_false, Bool.or_assoc])
  cases b0
  case true =>
    go_enter Tryz.func29, Tryz.ntmps29
    go_wp2
    go_ret
    exact ⟨by rw [HS.out]; simp, rfl⟩
  cases b1
  case true =>
    go_enter Tryz.func29, Tryz.ntmps29
    go_wp2
    go_ret
    exact ⟨by rw [HS.out]; simp, rfl⟩
  cases b2
  case true =>
    go_enter Tryz.func29, Tryz.ntmps29
    go_wp2
    go_ret
    exact ⟨by rw [HS.out]; simp, rfl⟩
  cases b3
  case true =>
    go_enter Tryz.func29, Tryz.ntmps29
    go_wp2
    go_ret
    exact ⟨by rw [HS.out]; simp, rfl⟩
  cases b4
  case true =>
    go_enter Tryz.func29, Tryz.ntmps29
    go_wp2
    go_ret
    exact ⟨by rw [HS.out]; simp, rfl⟩
  cases b5
  case true =>
    go_enter Tryz.func29, Tryz.ntmps29
    go_wp2
    go_ret
    exact ⟨by rw [HS.out]; simp, rfl⟩
  cases b6
  case true =>
    go_enter Tryz.func29, Tryz.ntmps29
    go_wp2
    go_ret
    exact ⟨by rw [HS.out]; simp, rfl⟩
  cases b7
  case true =>
    go_enter Tryz.func29, Tryz.ntmps29
    go_wp2
    go_ret
    exact ⟨by rw [HS.out]; simp, rfl⟩
  cases b8
  case true =>
    go_enter Tryz.func29, Tryz.ntmps29
    go_wp2
    go_ret
    exact ⟨by rw [HS.out]; simp, rfl⟩
  cases b9
  case true =>
    go_enter Tryz.func29, Tryz.ntmps29
    go_wp2
    go_ret
    exact ⟨by rw [HS.out]; simp, rfl⟩
  cases b10
  case true =>
    go_enter Tryz.func29, Tryz.ntmps29
    go_wp2
    go_ret
    exact ⟨by rw [HS.out]; simp, rfl⟩
  cases b11
  case true =>
    go_enter Tryz.func29, Tryz.ntmps29
    go_wp2
    go_ret
    exact ⟨by rw [HS.out]; simp, rfl⟩
  cases b12
  case true =>
    go_enter Tryz.func29, Tryz.ntmps29
    go_wp2
    go_ret
    exact ⟨by rw [HS.out]; simp, rfl⟩
  cases b13
  case true =>
    go_enter Tryz.func29, Tryz.ntmps29
    go_wp2
    go_ret
    exact ⟨by rw [HS.out]; simp, rfl⟩
  cases b14
  case true =>
    go_enter Tryz.func29, Tryz.ntmps29
    go_wp2
    go_ret
    exact ⟨by rw [HS.out]; simp, rfl⟩
  cases b15
  case true =>
    go_enter Tryz.func29, Tryz.ntmps29
    go_wp2
    go_ret
    exact ⟨by rw [HS.out]; simp, rfl⟩
  go_enter Tryz.func29, Tryz.ntmps29
  go_wp2
  go_ret
  exact ⟨by rw [HS.out]; rfl, rfl⟩
set_option maxHeartbeats 4000000 in
set_option maxRecDepth 100000 in
theorem op31 (s : ByteArray) (w : World) : Calls Tryz.prog 31 #[.string s] w fun e w' => e = .returned (.bool (opL (ls s))) ∧ w = w' := by
  obtain ⟨b0, h0⟩ : ∃ b, (s.toList == [45]) = b := ⟨_, rfl⟩
  obtain ⟨b1, h1⟩ : ∃ b, (s.toList == [58, 45]) = b := ⟨_, rfl⟩
  obtain ⟨b2, h2⟩ : ∃ b, (s.toList == [61]) = b := ⟨_, rfl⟩
  obtain ⟨b3, h3⟩ : ∃ b, (s.toList == [58, 61]) = b := ⟨_, rfl⟩
  obtain ⟨b4, h4⟩ : ∃ b, (s.toList == [63]) = b := ⟨_, rfl⟩
  obtain ⟨b5, h5⟩ : ∃ b, (s.toList == [58, 63]) = b := ⟨_, rfl⟩
  obtain ⟨b6, h6⟩ : ∃ b, (s.toList == [43]) = b := ⟨_, rfl⟩
  obtain ⟨b7, h7⟩ : ∃ b, (s.toList == [58, 43]) = b := ⟨_, rfl⟩
  obtain ⟨b8, h8⟩ : ∃ b, (s.toList == [35]) = b := ⟨_, rfl⟩
  obtain ⟨b9, h9⟩ : ∃ b, (s.toList == [35, 35]) = b := ⟨_, rfl⟩
  obtain ⟨b10, h10⟩ : ∃ b, (s.toList == [37]) = b := ⟨_, rfl⟩
  obtain ⟨b11, h11⟩ : ∃ b, (s.toList == [37, 37]) = b := ⟨_, rfl⟩
  have HS : Hid (opL (ls s) = (b0 || b1 || b2 || b3 || b4 || b5 || b6 || b7 || b8 || b9 || b10 || b11)) := Lib.hid (by
    show opL s.data.toList = _
    rw [← toList_data s]
    simp only [opL, opLs, List.contains_cons, List.contains_nil, h0, h1, h2, h3, h4, h5, h6, h7, h8, h9, h10, h11, Bool.or_false, Bool.or_assoc])
  cases b0
  case true =>
    go_enter Tryz.func31, Tryz.ntmps31
    go_wp2
    go_ret
    exact ⟨by rw [HS.out]; simp, rfl⟩
  cases b1
  case true =>
    go_enter Tryz.func31, Tryz.ntmps31
    go_wp2
    go_ret
    exact ⟨by rw [HS.out]; simp, rfl⟩
  cases b2
  case true =>
    go_enter Tryz.func31, Tryz.ntmps31
    go_wp2
    go_ret
    exact ⟨by rw [HS.out]; simp, rfl⟩
  cases b3
  case true =>
    go_enter Tryz.func31, Tryz.ntmps31
    go_wp2
    go_ret
    exact ⟨by rw [HS.out]; simp, rfl⟩
  cases b4
  case true =>
    go_enter Tryz.func31, Tryz.ntmps31
    go_wp2
    go_ret
    exact ⟨by rw [HS.out]; simp, rfl⟩
  cases b5
  case true =>
    go_enter Tryz.func31, Tryz.ntmps31
    go_wp2
    go_ret
    exact ⟨by rw [HS.out]; simp, rfl⟩
  cases b6
  case true =>
    go_enter Tryz.func31, Tryz.ntmps31
    go_wp2
    go_ret
    exact ⟨by rw [HS.out]; simp, rfl⟩
  cases b7
  case true =>
    go_enter Tryz.func31, Tryz.ntmps31
    go_wp2
    go_ret
    exact ⟨by rw [HS.out]; simp, rfl⟩
  cases b8
  case true =>
    go_enter Tryz.func31, Tryz.ntmps31
    go_wp2
    go_ret
    exact ⟨by rw [HS.out]; simp, rfl⟩
  cases b9
  case true =>
    go_enter Tryz.func31, Tryz.ntmps31
    go_wp2
    go_ret
    exact ⟨by rw [HS.out]; simp, rfl⟩
  cases b10
  case true =>
    go_enter Tryz.func31, Tryz.ntmps31
    go_wp2
    go_ret
    exact ⟨by rw [HS.out]; simp, rfl⟩
  cases b11
  case true =>
    go_enter Tryz.func31, Tryz.ntmps31
    go_wp2
    go_ret
    exact ⟨by rw [HS.out]; simp, rfl⟩
  go_enter Tryz.func31, Tryz.ntmps31
  go_wp2
  go_ret
  exact ⟨by rw [HS.out]; rfl, rfl⟩

def oneB (s : ByteArray) (L : List ByteArray) : Bool := L.any (fun t => t.toList == s.toList) && !emB s
def Rel53 (s : ByteArray) (L : List ByteArray) (i : Value) : Prop := ∃ k : Nat, k ≤ 16 ∧ i = .int .i64 k ∧ Hid (L.any (fun t => t.toList == s.toList) = (L.drop k).any (fun t => t.toList == s.toList) ∨ emB s = true)
set_option maxHeartbeats 4000000 in
set_option maxRecDepth 100000 in
theorem one53 (s : ByteArray) (t0 t1 t2 t3 t4 t5 t6 t7 t8 t9 t10 t11 t12 t13 t14 t15 : ByteArray) (w : World) : Calls Tryz.prog 53 #[.string s, .agg #[.string t0, .string t1, .string t2, .string t3, .string t4, .string t5, .string t6, .string t7, .string t8, .string t9, .string t10, .string t11, .string t12, .string t13, .string t14, .string t15]] w fun e w' => e = .returned (.bool (oneB s [t0, t1, t2, t3, t4, t5, t6, t7, t8, t9, t10, t11, t12, t13, t14, t15])) ∧ Below w.heap.size w w' := by
  obtain ⟨L, HL⟩ : ∃ L, Hid ([t0, t1, t2, t3, t4, t5, t6, t7, t8, t9, t10, t11, t12, t13, t14, t15] = L) := ⟨_, Lib.hid rfl⟩
  have HLen : Hid (L.length = 16) := Lib.hid (by rw [← HL.out]; rfl)
  have HE0 : Hid ((s.toList == []) = emB s) := Lib.hid (emp_is s)
  have HCell : Hid (∀ k : Nat, k < 16 → ∃ x, L[k]? = some x ∧ (w.alloc (.cells #[.string t0, .string t1, .string t2, .string t3, .string t4, .string t5, .string t6, .string t7, .string t8, .string t9, .string t10, .string t11, .string t12, .string t13, .string t14, .string t15] 91)).cell? ⟨w.heap.size, k, none⟩ = some (.string x)) := Lib.hid (by
    intro k hk
    have h := heap_alloc_new w (.cells #[.string t0, .string t1, .string t2, .string t3, .string t4, .string t5, .string t6, .string t7, .string t8, .string t9, .string t10, .string t11, .string t12, .string t13, .string t14, .string t15] 91)
    have hkl : k < L.length := by rw [HLen.out]; exact hk
    refine ⟨L[k], List.getElem?_eq_getElem hkl, ?_⟩
    have e : (#[.string t0, .string t1, .string t2, .string t3, .string t4, .string t5, .string t6, .string t7, .string t8, .string t9, .string t10, .string t11, .string t12, .string t13, .string t14, .string t15] : Array Value) = (L.map Value.string).toArray := by rw [← HL.out]; rfl
    rw [e] at h
    simp only [World.cell?, e, h]
    simp [List.getElem?_eq_getElem hkl])
  have HB : Hid (Below w.heap.size w (w.alloc (.cells #[.string t0, .string t1, .string t2, .string t3, .string t4, .string t5, .string t6, .string t7, .string t8, .string t9, .string t10, .string t11, .string t12, .string t13, .string t14, .string t15] 91))) := Lib.hid ((Below.refl _ w).alloc (Nat.le_refl _) _)
  rw [HL.out]
  go_enter Tryz.func53, Tryz.ntmps53
  go_wp2
  generalize w.alloc (.cells #[.string t0, .string t1, .string t2, .string t3, .string t4, .string t5, .string t6, .string t7, .string t8, .string t9, .string t10, .string t11, .string t12, .string t13, .string t14, .string t15] 91) = w1 at HCell HB ⊢
  go_loop [5] (Rel53 s L) (fun i => 16 - (intOf i).toNat)
  case atStart => exact ⟨0, by omega, rfl, Lib.hid (.inl rfl)⟩
  case round =>
    obtain ⟨k, hk, rfl, HR⟩ := hrel
    by_cases hlt : k < 16
    · obtain ⟨x, hx, hcell⟩ := HCell.out k hlt
      have hkl : k < L.length := by rw [HLen.out]; exact hlt
      have HD : Hid ((L.drop k).any (fun t => t.toList == s.toList) = ((x.toList == s.toList) || (L.drop (k + 1)).any (fun t => t.toList == s.toList))) := Lib.hid (by
        rw [List.drop_eq_getElem_cons hkl, List.any_cons]
        rw [List.getElem?_eq_getElem hkl] at hx
        rw [Option.some.inj hx])
      have HX := Lib.hid hx
      clear hx hkl
      have h0 := HE0.out
      obtain ⟨b1, hb1⟩ : ∃ b, (x.toList == s.toList) = b := ⟨_, rfl⟩
      rw [hb1] at HD
      have HO : Hid (oneB s L = (L.any (fun t => t.toList == s.toList) && !emB s)) := Lib.hid rfl
      obtain ⟨b0, HE⟩ : ∃ b, Hid (emB s = b) := ⟨_, Lib.hid rfl⟩
      rw [HE.out] at h0 HO
      cases b1 <;> cases b0
      · go_wp2
        go_round
        case rel => exact ⟨k + 1, by omega, by go_num, Lib.hid (HR.out.elim (fun h => .inl (by rw [h, HD.out]; rfl)) .inr)⟩
        case measure => simp [intOf]; omega
      · go_wp2
        go_round
        case rel => exact ⟨k + 1, by omega, by go_num, Lib.hid (.inr HE.out)⟩
        case measure => simp [intOf]; omega
      · go_wp2
        go_ret
        have h := HR.out.elim id (fun h => by rw [HE.out] at h; cases h)
        rw [HO.out, h, HD.out]
        exact ⟨rfl, HB.out⟩
      · go_wp2
        go_round
        case rel => exact ⟨k + 1, by omega, by go_num, Lib.hid (.inr HE.out)⟩
        case measure => simp [intOf]; omega
    · obtain rfl : k = 16 := by omega
      have HE : Hid (oneB s L = false) := Lib.hid (by
        unfold oneB
        rcases HR.out with h | h
        · rw [h, List.drop_of_length_le (by rw [HLen.out]; exact Nat.le_refl _)]; rfl
        · rw [h]; simp)
      go_wp2
      go_ret
      rw [HE.out]; exact ⟨rfl, HB.out⟩

theorem resL_any (l : List UInt8) : (resLs.any (fun t => t == l) && !(l == [])) = resL l := by
  rw [List.any_beq']
  cases l
  · rfl
  · simp [resL]
theorem opL_any (l : List UInt8) : ((opLs ++ [[], [], [], []]).any (fun t => t == l) && !(l == [])) = opL l := by
  rw [List.any_append, List.any_beq']
  cases l
  · rfl
  · simp [opL]
theorem resL_one (s : ByteArray) : oneB s [⟨#[105, 102]⟩, ⟨#[116, 104, 101, 110]⟩, ⟨#[101, 108, 105, 102]⟩, ⟨#[101, 108, 115, 101]⟩, ⟨#[102, 105]⟩, ⟨#[119, 104, 105, 108, 101]⟩, ⟨#[117, 110, 116, 105, 108]⟩, ⟨#[100, 111]⟩, ⟨#[100, 111, 110, 101]⟩, ⟨#[102, 111, 114]⟩, ⟨#[105, 110]⟩, ⟨#[99, 97, 115, 101]⟩, ⟨#[101, 115, 97, 99]⟩, ⟨#[33]⟩, ⟨#[123]⟩, ⟨#[125]⟩] = resL (ls s) := by
  refine Eq.trans ?_ (resL_any (ls s))
  unfold oneB emB
  simp only [List.any_cons, List.any_nil, toList_data]
  rfl
set_option maxHeartbeats 4000000 in
set_option maxRecDepth 100000 in
theorem res30 (s : ByteArray) (w : World) : Calls Tryz.prog 30 #[.string s] w fun e w' => e = .returned (.bool (resL (ls s))) ∧ Below w.heap.size w w' := by
  have C := Lib.hid fun W => one53 s ⟨#[105, 102]⟩ ⟨#[116, 104, 101, 110]⟩ ⟨#[101, 108, 105, 102]⟩ ⟨#[101, 108, 115, 101]⟩ ⟨#[102, 105]⟩ ⟨#[119, 104, 105, 108, 101]⟩ ⟨#[117, 110, 116, 105, 108]⟩ ⟨#[100, 111]⟩ ⟨#[100, 111, 110, 101]⟩ ⟨#[102, 111, 114]⟩ ⟨#[105, 110]⟩ ⟨#[99, 97, 115, 101]⟩ ⟨#[101, 115, 97, 99]⟩ ⟨#[33]⟩ ⟨#[123]⟩ ⟨#[125]⟩ W
  rw [resL_one] at C
  go_enter Tryz.func30, Tryz.ntmps30
  go_wp2_with fail
  refine (C.out _).mono ?_
  rintro e w' ⟨rfl, hb⟩
  have HB := Lib.hid hb
  clear hb
  go_wp2
  go_ret
  exact ⟨rfl, HB.out⟩
theorem opL_one (s : ByteArray) : oneB s [⟨#[45]⟩, ⟨#[58, 45]⟩, ⟨#[61]⟩, ⟨#[58, 61]⟩, ⟨#[63]⟩, ⟨#[58, 63]⟩, ⟨#[43]⟩, ⟨#[58, 43]⟩, ⟨#[35]⟩, ⟨#[35, 35]⟩, ⟨#[37]⟩, ⟨#[37, 37]⟩, ⟨#[]⟩, ⟨#[]⟩, ⟨#[]⟩, ⟨#[]⟩] = opL (ls s) := by
  refine Eq.trans ?_ (opL_any (ls s))
  unfold oneB emB
  simp only [List.any_cons, List.any_nil, toList_data]
  rfl
set_option maxHeartbeats 4000000 in
set_option maxRecDepth 100000 in
theorem op32 (s : ByteArray) (w : World) : Calls Tryz.prog 32 #[.string s] w fun e w' => e = .returned (.bool (opL (ls s))) ∧ Below w.heap.size w w' := by
  have C := Lib.hid fun W => one53 s ⟨#[45]⟩ ⟨#[58, 45]⟩ ⟨#[61]⟩ ⟨#[58, 61]⟩ ⟨#[63]⟩ ⟨#[58, 63]⟩ ⟨#[43]⟩ ⟨#[58, 43]⟩ ⟨#[35]⟩ ⟨#[35, 35]⟩ ⟨#[37]⟩ ⟨#[37, 37]⟩ ⟨#[]⟩ ⟨#[]⟩ ⟨#[]⟩ ⟨#[]⟩ W
  rw [opL_one] at C
  go_enter Tryz.func32, Tryz.ntmps32
  go_wp2_with fail
  refine (C.out _).mono ?_
  rintro e w' ⟨rfl, hb⟩
  have HB := Lib.hid hb
  clear hb
  go_wp2
  go_ret
  exact ⟨rfl, HB.out⟩
end Go.Proofs.YtfaohicadahcjaaGreatDoor
