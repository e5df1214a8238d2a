/- Contract of our Decode. Condition: at most 20000 bytes. -/
import Derived.Test.YtdjfapaebonadaaR
namespace Go.Proofs.Ytdjfapaebonadaa
open Go.RowKit Go.PlainAid
set_option linter.unusedSimpArgs false
set_option linter.unusedVariables false

theorem results_tmp4 {fn : Func} {t u v x : Tmp} (h : fn.results = #[.tmp t, .tmp u, .tmp v, .tmp x]) (tmps : Array Value) (P : Program) (w : World) :
    (results fn tmps).run P w = .ok (.tuple #[tmps.getD t undef, tmps.getD u undef, tmps.getD v undef, tmps.getD x undef]) w := by
  simp [results, h]
/-- What lines are. -/
def decodeO (l : List UInt8) : Option (Nat × List UInt8 × List UInt8) := if nl l < l.length then
  match headOf (l.take (nl l)) with
  | none => none
  | some (m, nm) => (dec (l.drop (nl l + 1)) []).map fun d => (m, nm, d)
  else none
def v11 : Option (Nat × List UInt8 × List UInt8) → Value
  | none => .tuple #[.int .i64 0, .string ⟨#[]⟩, .string ⟨#[]⟩, .int .i64 11]
  | some (m, nm, d) => .tuple #[.int .i64 m, .string (mk nm), .string (mk d), .int .i64 0]
def v14 : Option (Nat × List UInt8 × List UInt8) → Value
  | none => .tuple #[.int .i64 0, .string ⟨#[]⟩, .string ⟨#[]⟩, .bool false]
  | some (m, nm, d) => .tuple #[.int .i64 m, .string (mk nm), .string (mk d), .bool true]
def G11 (w : World) (o : Option (Nat × List UInt8 × List UInt8)) (e : Ending) (w' : World) : Prop := e = .returned (v11 o) ∧ Below w.heap.size w w'
theorem de_no {t : ByteArray} (h : ¬ nl (ls t) < t.size) : decodeO (ls t) = none := by unfold decodeO; rw [if_neg (by rw [ls_len]; exact h)]
theorem de_yes {t : ByteArray} {i : Nat} (h : nl (ls t) = i) (hi : i < t.size) : decodeO (ls t) = match headOf (ls (t.extract 0 i)) with
  | none => none
  | some (m, nm) => (dec (ls (t.extract (i + 1) t.size)) []).map fun d => (m, nm, d) := by
  unfold decodeO; rw [if_pos (by rw [ls_len, h]; exact hi), h, ls_take, ls_drop]
theorem dg_small (r : List UInt8) : ∀ n m0 m, dg r n m0 = some m → m < 8 ^ n * (m0 + 1)
  | 0, m0, m, h => by simp [dg] at h; omega
  | n + 1, m0, m, h => by
    rw [dg] at h
    split at h
    · rename_i hc
      have ih := dg_small r n _ m h
      generalize at0 r (2 - n) = c at hc ih
      refine Nat.lt_of_lt_of_le ih ?_
      rw [Nat.pow_succ, Nat.mul_assoc]
      exact Nat.mul_le_mul_left _ (by omega)
    · cases h
theorem headOf_small {l nm : List UInt8} {m : Nat} (h : headOf l = some (m, nm)) : m < 512 := by
  unfold headOf at h
  split at h
  · unfold headR at h
    split at h
    · cases hd : dg (l.drop 6) 3 0 with
      | none => rw [hd] at h; cases h
      | some x =>
        rw [hd] at h
        have := dg_small _ _ _ _ hd
        simp at h
        omega
    · cases h
  · cases h
set_option maxHeartbeats 8000000 in
set_option maxRecDepth 100000 in
theorem decode11 (t : ByteArray) (w : World) (ht : t.size ≤ 20000) : Calls Try.prog 11 #[.string t] w (G11 w (decodeO (ls t))) := by
  by_cases hi : nl (ls t) < t.size
  · obtain ⟨i, Hi⟩ : ∃ i, Hid (nl (ls t) = i) := ⟨_, Lib.hid rfl⟩
    rw [Hi.out] at hi
    have CC := Lib.hid (cutB t i w Hi.out hi (by unfold maxLen; omega))
    have CH := Lib.hid fun W => head15 (t.extract 0 i) W (by rw [ext_sz _ _ _ (by omega)]; omega)
    have CL := Lib.hid fun W => lines27 (t.extract (i + 1) t.size) W (by rw [ext_sz _ _ _ (by omega)]; omega)
    rw [de_yes Hi.out hi]
    clear Hi
    cases hh : headOf (ls (t.extract 0 i)) with
    | none =>
      rw [hh] at CH
      unfold G15 v15 at CH
      simp only
      go_enter Try.func11, Try.ntmps11
      go_wp2_with fail
      refine CC.out.mono ?_
      rintro e w1 ⟨rfl, b1⟩
      have B1 := Lib.hid b1
      clear b1 CC
      go_wp2_with fail
      refine (CH.out _).mono ?_
      rintro e w2 ⟨rfl, b2⟩
      have B2 := Lib.hid (B1.out.trans (b2.mono B1.out.size))
      clear b2 CH
      go_wp2
      (try simp only [Exit.inBlock, Exit.then]); refine bodyPost_ret (results_tmp4 rfl _ _ _) rfl ?_
      exact ⟨rfl, B2.out⟩
    | some mn =>
      obtain ⟨m, nm⟩ := mn
      rw [hh] at CH
      have hm := headOf_small hh
      clear hh
      unfold G15 v15 at CH
      simp only
      generalize t.extract 0 i = t0 at CC CH
      generalize t.extract (i + 1) t.size = t1 at CC CL ⊢
      generalize dec (ls t1) [] = D at CL ⊢
      have HM : Hid (∀ o : Option (List UInt8), v11 (o.map fun d => (m, nm, d)) = match o with | none => .tuple #[.int .i64 0, .string ⟨#[]⟩, .string ⟨#[]⟩, .int .i64 11] | some d => .tuple #[.int .i64 m, .string (mk nm), .string (mk d), .int .i64 0]) := Lib.hid (fun o => by cases o <;> rfl)
      unfold G11
      rw [HM.out]
      clear HM
      cases D with
      | none =>
        simp only
        go_enter Try.func11, Try.ntmps11
        go_wp2_with fail
        refine CC.out.mono ?_
        rintro e w1 ⟨rfl, b1⟩
        have B1 := Lib.hid b1
        clear b1 CC
        go_wp2_with fail
        refine (CH.out _).mono ?_
        rintro e w2 ⟨rfl, b2⟩
        have B2 := Lib.hid (B1.out.trans (b2.mono B1.out.size))
        clear b2 CH
        go_wp2_with fail
        refine (CL.out _).mono ?_
        rintro e w3 ⟨b3, a3, l3, c3, rfl⟩
        have B3 := Lib.hid (B2.out.trans (b3.mono B2.out.size))
        clear b3 CL
        go_wp2
        (try simp only [Exit.inBlock, Exit.then]); refine bodyPost_ret (results_tmp4 rfl _ _ _) rfl ?_
        exact ⟨rfl, B3.out⟩
      | some d =>
        simp only
        go_enter Try.func11, Try.ntmps11
        go_wp2_with fail
        refine CC.out.mono ?_
        rintro e w1 ⟨rfl, b1⟩
        have B1 := Lib.hid b1
        clear b1 CC
        go_wp2_with fail
        refine (CH.out _).mono ?_
        rintro e w2 ⟨rfl, b2⟩
        have B2 := Lib.hid (B1.out.trans (b2.mono B1.out.size))
        clear b2 CH
        go_wp2_with fail
        refine (CL.out _).mono ?_
        rintro e w3 ⟨b3, v3, rfl, hO⟩
        have B3 := Lib.hid (B2.out.trans (b3.mono B2.out.size))
        have hk1 := hO.back
        have hk2 := (hO.below ((Below.refl _ w3).drew)).back
        obtain ⟨a3, c3, rfl⟩ := hO.shape
        clear b3 CL hO
        go_wp2
        go_region
        go_wp2
        (try simp only [Exit.inBlock, Exit.then]); refine bodyPost_ret (results_tmp4 rfl _ _ _) rfl ?_
        exact ⟨rfl, B3.out.drew⟩
  · have CC := Lib.hid (cut26_miss t w hi)
    have CH := Lib.hid fun W => head15 t W (by omega)
    rw [de_no hi]
    cases hh : headOf (ls t) with
    | none =>
      rw [hh] at CH
      unfold G15 v15 at CH
      go_enter Try.func11, Try.ntmps11
      go_wp2_with fail
      refine CC.out.mono ?_
      rintro e w1 ⟨rfl, rfl⟩
      go_wp2_with fail
      refine (CH.out _).mono ?_
      rintro e w2 ⟨rfl, b2⟩
      have B2 := Lib.hid b2
      clear b2 CH
      go_wp2
      (try simp only [Exit.inBlock, Exit.then]); refine bodyPost_ret (results_tmp4 rfl _ _ _) rfl ?_
      exact ⟨rfl, B2.out⟩
    | some mn =>
      obtain ⟨m, nm⟩ := mn
      rw [hh] at CH
      unfold G15 v15 at CH
      go_enter Try.func11, Try.ntmps11
      go_wp2_with fail
      refine CC.out.mono ?_
      rintro e w1 ⟨rfl, rfl⟩
      go_wp2_with fail
      refine (CH.out _).mono ?_
      rintro e w2 ⟨rfl, b2⟩
      have B2 := Lib.hid b2
      clear b2 CH
      go_wp2
      (try simp only [Exit.inBlock, Exit.then]); refine bodyPost_ret (results_tmp4 rfl _ _ _) rfl ?_
      exact ⟨rfl, B2.out⟩
end Go.Proofs.Ytdjfapaebonadaa
