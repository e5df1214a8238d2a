/- ModeTwice, walked: the function returns true for every input whose texts have at most 2^47 - 4096 bytes each. -/
import Derived.Test.YtdoccakkjgcbjaaJ
import Derived.Test.YtdoccakkjgcbjaaK
namespace Go.Proofs.Ytdoccakkjgcbjaa
open Go.RowKit Go.PlainAid
set_option linter.unusedSimpArgs false

theorem only18_is {s of : ByteArray} {b : Bool} (h : onlyM (bl s) (bl of) = b) (w : World) (hs : s.size ≤ maxLen) (ho : of.size ≤ maxLen) :
    Calls Try.prog 18 #[.string s, .string of] w fun e w' => e = .returned (.bool b) ∧ ∃ n, w' = w.drewN n :=
  (only18 s of w hs ho).mono fun _ _ ⟨he, hw⟩ => ⟨by rw [he, h], hw⟩

theorem onlyM_who {l : List Int} (h : onlyM l (bl ⟨#[117, 103, 111, 97]⟩) = true) : ∀ c ∈ l, c = 117 ∨ c = 103 ∨ c = 111 ∨ c = 97 := by
  intro c hc
  have := List.all_eq_true.1 h c hc
  rw [show bl ⟨#[117, 103, 111, 97]⟩ = [117, 103, 111, 97] from rfl] at this
  simp only [List.any_cons, List.any_nil, Bool.or_false, Bool.or_eq_true, beq_iff_eq] at this
  omega
theorem onlyM_letters {l : List Int} (h : onlyM l (bl ⟨#[114, 119, 120, 115, 116]⟩) = true) : ∀ c ∈ l, c = 114 ∨ c = 119 ∨ c = 120 ∨ c = 115 ∨ c = 116 := by
  intro c hc
  have := List.all_eq_true.1 h c hc
  rw [show bl ⟨#[114, 119, 120, 115, 116]⟩ = [114, 119, 120, 115, 116] from rfl] at this
  simp only [List.any_cons, List.any_nil, Bool.or_false, Bool.or_eq_true, beq_iff_eq] at this
  omega

theorem bl_one (c : UInt8) : bl ⟨#[c]⟩ = [(c.toNat : Int)] := rfl

set_option maxHeartbeats 4000000 in
set_option maxRecDepth 100000 in
theorem twice6_in (who ls : ByteArray) (sign m mask : Int) (w : World) (hw : who.size ≤ 3) (hl : ls.size ≤ 5) (h2 : 0 ≤ m ∧ m ≤ 4095) (h4 : 0 ≤ mask ∧ mask ≤ 4095)
    (hg : onlyM (bl who) (bl ⟨#[117, 103, 111, 97]⟩) = true) (hh : onlyM (bl ls) (bl ⟨#[114, 119, 120, 115, 116]⟩) = true) (hs0 : 0 ≤ sign) (hs2 : sign ≤ 2) :
    Calls Try.prog 6 #[.string who, .int .i64 sign, .string ls, .int .i64 m, .int .i64 mask] w fun e w' => e = .returned (.bool true) ∧ Below w.heap.size w w' := by
  obtain ⟨sg, hsg, hsign⟩ : ∃ sg : UInt8, (sign = 0 ∧ sg = 43 ∨ sign = 1 ∧ sg = 45 ∨ sign = 2 ∧ sg = 61) ∧ Sign (sg.toNat : Int) := by
    rcases (by omega : sign = 0 ∨ sign = 1 ∨ sign = 2) with rfl | rfl | rfl
    · exact ⟨43, by simp, .inl rfl⟩
    · exact ⟨45, by simp, .inr (.inl rfl)⟩
    · exact ⟨61, by simp, .inr (.inr rfl)⟩
  obtain ⟨a, d, l1, l2, l3, l4⟩ := twice_law (bl who) (bl ls) (onlyM_who hg) (onlyM_letters hh) (sg.toNat : Int) m mask hsign
  have L1 : Hid (chgM (bl (who ++ ⟨#[sg]⟩ ++ ls)) m false mask = (a, 0)) := by rw [bl_append, bl_append, bl_one, List.append_assoc, List.singleton_append]; exact l1
  have L2 : Hid (chgM (bl (who ++ ⟨#[sg]⟩ ++ ls)) a false mask = (a, 0)) := by rw [bl_append, bl_append, bl_one, List.append_assoc, List.singleton_append]; exact l2
  have L3 : Hid (chgM (bl (who ++ ⟨#[43]⟩ ++ ls ++ ⟨#[44]⟩ ++ who ++ ⟨#[45]⟩ ++ ls)) m false mask = (d, 0)) := by
    simp only [bl_append, bl_one, List.append_assoc, List.singleton_append] at l3 ⊢; exact l3
  have L4 : Hid (chgM (bl (who ++ ⟨#[45]⟩ ++ ls)) m false mask = (d, 0)) := by rw [bl_append, bl_append, bl_one, List.append_assoc, List.singleton_append]; exact l4
  clear l1 l2 l3 l4
  have HG := Lib.hid hg
  have HH := Lib.hid hh
  clear hg hh
  have z1 : who.size ≤ maxLen := by unfold maxLen; omega
  have z2 : ls.size ≤ maxLen := by unfold maxLen; omega
  have z3 : (who ++ ⟨#[sg]⟩ ++ ls).size ≤ maxLen := by simp only [ByteArray.size_append]; rw [show (⟨#[sg]⟩ : ByteArray).size = 1 from rfl]; unfold maxLen; omega
  have z4 : (who ++ ⟨#[43]⟩ ++ ls ++ ⟨#[44]⟩ ++ who ++ ⟨#[45]⟩ ++ ls).size ≤ maxLen := by
    simp only [ByteArray.size_append]; rw [show (⟨#[43]⟩ : ByteArray).size = 1 from rfl, show (⟨#[44]⟩ : ByteArray).size = 1 from rfl, show (⟨#[45]⟩ : ByteArray).size = 1 from rfl]; unfold maxLen; omega
  have z5 : (who ++ ⟨#[45]⟩ ++ ls).size ≤ maxLen := by simp only [ByteArray.size_append]; rw [show (⟨#[45]⟩ : ByteArray).size = 1 from rfl]; unfold maxLen; omega
  have x0 : (⟨#[43, 45, 61]⟩ : ByteArray).extract 0 1 = ⟨#[43]⟩ := by decide +kernel
  have x1 : (⟨#[43, 45, 61]⟩ : ByteArray).extract 1 2 = ⟨#[45]⟩ := by decide +kernel
  have x2 : (⟨#[43, 45, 61]⟩ : ByteArray).extract 2 3 = ⟨#[61]⟩ := by decide +kernel
  have haa : (a == a) = true := by simp
  have hdd : (d == d) = true := by simp
  rcases hsg with ⟨rfl, rfl⟩ | ⟨rfl, rfl⟩ | ⟨rfl, rfl⟩ <;>
  · go_enter Try.func6, Try.ntmps6
    go_wp2_with (first | (go_at_call 7; refine (anchor7 _).mono ?_; rintro e w' ⟨rfl, nd, rfl⟩) | (go_at_call 9; (first | ((with_reducible refine (right9_yes _ _ h2.1 h2.2).mono ?_); rintro e w' ⟨rfl, rfl⟩) | ((with_reducible refine (right9_yes _ _ h4.1 h4.2).mono ?_); rintro e w' ⟨rfl, rfl⟩))) | (go_at_call 18; (first | ((with_reducible refine (only18_is HG.out _ z1 (by decide)).mono ?_); rintro e w' ⟨rfl, nd2, rfl⟩) | ((with_reducible refine (only18_is HH.out _ z2 (by decide)).mono ?_); rintro e w' ⟨rfl, nd3, rfl⟩))))
    refine (change16_is L1.out _ z3).mono ?_
    rintro e w1 ⟨rfl, n1, rfl⟩
    go_wp2_with fail
    refine (change16_is L2.out _ z3).mono ?_
    rintro e w2 ⟨rfl, n2, rfl⟩
    go_wp2_with fail
    refine (change16_is L3.out _ z4).mono ?_
    rintro e w3 ⟨rfl, n3, rfl⟩
    go_wp2_with fail
    refine (change16_is L4.out _ z5).mono ?_
    rintro e w4 ⟨rfl, n4, rfl⟩
    go_wp2_with fail
    go_ret
    exact ⟨rfl, bel_drewN (Below.refl _ _) _⟩

set_option maxHeartbeats 4000000 in
set_option maxRecDepth 100000 in
theorem twice6_out (who ls : ByteArray) (sign m mask : Int) (w : World) (hw0 : who.size ≤ 140737488351232) (hl0 : ls.size ≤ 140737488351232)
    (h : ¬ (0 ≤ m ∧ m ≤ 4095) ∨ ¬ (0 ≤ mask ∧ mask ≤ 4095) ∨ 3 < who.size ∨ 5 < ls.size ∨ onlyM (bl who) (bl ⟨#[117, 103, 111, 97]⟩) = false ∨ onlyM (bl ls) (bl ⟨#[114, 119, 120, 115, 116]⟩) = false ∨ sign < 0 ∨ 2 < sign) :
    Calls Try.prog 6 #[.string who, .int .i64 sign, .string ls, .int .i64 m, .int .i64 mask] w fun e w' => e = .returned (.bool true) ∧ Below w.heap.size w w' := by
  have z1 : who.size ≤ maxLen := by unfold maxLen; omega
  have z2 : ls.size ≤ maxLen := by unfold maxLen; omega
  by_cases h1 : 0 ≤ m ∧ m ≤ 4095
  rotate_left
  · clear h
    go_enter Try.func6, Try.ntmps6
    go_wp2_with (first | (go_at_call 7; refine (anchor7 _).mono ?_; rintro e w' ⟨rfl, nd, rfl⟩) | (go_at_call 9; refine (right9_no _ _ h1).mono ?_; rintro e w' ⟨rfl, rfl⟩))
    go_ret
    exact ⟨rfl, bel_drewN (Below.refl _ _) _⟩
  by_cases h2 : 0 ≤ mask ∧ mask ≤ 4095
  rotate_left
  · clear h
    go_enter Try.func6, Try.ntmps6
    go_wp2_with (first | (go_at_call 7; refine (anchor7 _).mono ?_; rintro e w' ⟨rfl, nd, rfl⟩) | (go_at_call 9; (first | ((with_reducible refine (right9_yes _ _ h1.1 h1.2).mono ?_); rintro e w' ⟨rfl, rfl⟩) | ((with_reducible refine (right9_no mask _ h2).mono ?_); rintro e w' ⟨rfl, rfl⟩))))
    go_ret
    exact ⟨rfl, bel_drewN (Below.refl _ _) _⟩
  by_cases h3 : 3 < who.size
  · clear h
    go_enter Try.func6, Try.ntmps6
    go_wp2_with (first | (go_at_call 7; refine (anchor7 _).mono ?_; rintro e w' ⟨rfl, nd, rfl⟩) | (go_at_call 9; (first | ((with_reducible refine (right9_yes _ _ h1.1 h1.2).mono ?_); rintro e w' ⟨rfl, rfl⟩) | ((with_reducible refine (right9_yes _ _ h2.1 h2.2).mono ?_); rintro e w' ⟨rfl, rfl⟩))))
    go_ret
    exact ⟨rfl, bel_drewN (Below.refl _ _) _⟩
  by_cases h4 : 5 < ls.size
  · clear h
    go_enter Try.func6, Try.ntmps6
    go_wp2_with (first | (go_at_call 7; refine (anchor7 _).mono ?_; rintro e w' ⟨rfl, nd, rfl⟩) | (go_at_call 9; (first | ((with_reducible refine (right9_yes _ _ h1.1 h1.2).mono ?_); rintro e w' ⟨rfl, rfl⟩) | ((with_reducible refine (right9_yes _ _ h2.1 h2.2).mono ?_); rintro e w' ⟨rfl, rfl⟩))))
    go_ret
    exact ⟨rfl, bel_drewN (Below.refl _ _) _⟩
  obtain ⟨b1, hb1⟩ : ∃ b, onlyM (bl who) (bl ⟨#[117, 103, 111, 97]⟩) = b := ⟨_, rfl⟩
  obtain ⟨b2, hb2⟩ : ∃ b, onlyM (bl ls) (bl ⟨#[114, 119, 120, 115, 116]⟩) = b := ⟨_, rfl⟩
  rw [hb1, hb2] at h
  have HG := Lib.hid hb1
  have HH := Lib.hid hb2
  clear hb1 hb2
  cases b1
  · clear h
    go_enter Try.func6, Try.ntmps6
    go_wp2_with (first | (go_at_call 7; refine (anchor7 _).mono ?_; rintro e w' ⟨rfl, nd, rfl⟩) | (go_at_call 9; (first | ((with_reducible refine (right9_yes _ _ h1.1 h1.2).mono ?_); rintro e w' ⟨rfl, rfl⟩) | ((with_reducible refine (right9_yes _ _ h2.1 h2.2).mono ?_); rintro e w' ⟨rfl, rfl⟩))) | (go_at_call 18; refine (only18_is HG.out _ z1 (by decide)).mono ?_; rintro e w' ⟨rfl, nd2, rfl⟩))
    go_ret
    exact ⟨rfl, bel_drewN (Below.refl _ _) _⟩
  cases b2
  · clear h
    go_enter Try.func6, Try.ntmps6
    go_wp2_with (first | (go_at_call 7; refine (anchor7 _).mono ?_; rintro e w' ⟨rfl, nd, rfl⟩) | (go_at_call 9; (first | ((with_reducible refine (right9_yes _ _ h1.1 h1.2).mono ?_); rintro e w' ⟨rfl, rfl⟩) | ((with_reducible refine (right9_yes _ _ h2.1 h2.2).mono ?_); rintro e w' ⟨rfl, rfl⟩))) | (go_at_call 18; (first | ((with_reducible refine (only18_is HG.out _ z1 (by decide)).mono ?_); rintro e w' ⟨rfl, nd2, rfl⟩) | ((with_reducible refine (only18_is HH.out _ z2 (by decide)).mono ?_); rintro e w' ⟨rfl, nd3, rfl⟩))))
    go_ret
    exact ⟨rfl, bel_drewN (Below.refl _ _) _⟩
  have h5 : sign < 0 ∨ 2 < sign := by
    rcases h with h | h | h | h | h | h | h
    · exact absurd h1 h
    · exact absurd h2 h
    · exact absurd h h3
    · exact absurd h h4
    · cases h
    · cases h
    · exact h
  clear h
  rcases h5 with h5 | h5
  · go_enter Try.func6, Try.ntmps6
    go_wp2_with (first | (go_at_call 7; refine (anchor7 _).mono ?_; rintro e w' ⟨rfl, nd, rfl⟩) | (go_at_call 9; (first | ((with_reducible refine (right9_yes _ _ h1.1 h1.2).mono ?_); rintro e w' ⟨rfl, rfl⟩) | ((with_reducible refine (right9_yes _ _ h2.1 h2.2).mono ?_); rintro e w' ⟨rfl, rfl⟩))) | (go_at_call 18; (first | ((with_reducible refine (only18_is HG.out _ z1 (by decide)).mono ?_); rintro e w' ⟨rfl, nd2, rfl⟩) | ((with_reducible refine (only18_is HH.out _ z2 (by decide)).mono ?_); rintro e w' ⟨rfl, nd3, rfl⟩))))
    go_ret
    exact ⟨rfl, bel_drewN (Below.refl _ _) _⟩
  · have h6 : ¬ sign < 0 := by omega
    go_enter Try.func6, Try.ntmps6
    go_wp2_with (first | (go_at_call 7; refine (anchor7 _).mono ?_; rintro e w' ⟨rfl, nd, rfl⟩) | (go_at_call 9; (first | ((with_reducible refine (right9_yes _ _ h1.1 h1.2).mono ?_); rintro e w' ⟨rfl, rfl⟩) | ((with_reducible refine (right9_yes _ _ h2.1 h2.2).mono ?_); rintro e w' ⟨rfl, rfl⟩))) | (go_at_call 18; (first | ((with_reducible refine (only18_is HG.out _ z1 (by decide)).mono ?_); rintro e w' ⟨rfl, nd2, rfl⟩) | ((with_reducible refine (only18_is HH.out _ z2 (by decide)).mono ?_); rintro e w' ⟨rfl, nd3, rfl⟩))))
    go_ret
    exact ⟨rfl, bel_drewN (Below.refl _ _) _⟩

theorem twice6 (who : ByteArray) (sign : Int) (ls : ByteArray) (m mask : Int) (hw0 : who.size ≤ 140737488351232) (hl0 : ls.size ≤ 140737488351232) (w : World) :
    Calls Try.prog 6 #[.string who, .int .i64 sign, .string ls, .int .i64 m, .int .i64 mask] w fun e w' => e = .returned (.bool true) ∧ Below w.heap.size w w' := by
  by_cases h : ¬ (0 ≤ m ∧ m ≤ 4095) ∨ ¬ (0 ≤ mask ∧ mask ≤ 4095) ∨ 3 < who.size ∨ 5 < ls.size ∨ onlyM (bl who) (bl ⟨#[117, 103, 111, 97]⟩) = false ∨ onlyM (bl ls) (bl ⟨#[114, 119, 120, 115, 116]⟩) = false ∨ sign < 0 ∨ 2 < sign
  · exact twice6_out who ls sign m mask w hw0 hl0 h
  · simp only [not_or, Bool.not_eq_false, Decidable.not_not] at h
    obtain ⟨h1, h2, h3, h4, h5, h6, h7, h8⟩ := h
    exact twice6_in who ls sign m mask w (by omega) (by omega) h1 h2 h5 h6 (by omega) (by omega)
end Go.Proofs.Ytdoccakkjgcbjaa
