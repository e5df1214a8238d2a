/- The document's put, whole. Conditions: lengths below a bound. -/
import Derived.Test.YtckhomeokhhneaaDoorDg
namespace Go.Proofs.YtckhomeokhhneaaDoor
open Go.RowKit Go.PlainAid
set_option linter.unusedSimpArgs false
set_option linter.unusedVariables false

theorem let_cases (c : Nat) (hc : c < 256) (h : isLet c = true) : c = 37 ∨ c = 115 ∨ c = 98 ∨ c = 99 ∨ c = 100 ∨ c = 105 ∨ c = 111 ∨ c = 117 ∨ c = 120 ∨ c = 88 := by
  unfold isLet plL at h
  simp only [decide_eq_true_eq, List.mem_cons, List.not_mem_nil, or_false] at h
  have key : ∀ b : UInt8, UInt8.ofNat c = b → c = b.toNat := fun b e => by rw [← e, UInt8.toNat_ofNat', Nat.mod_eq_of_lt hc]
  rcases h with h | h | h | h | h | h | h | h | h | h
  all_goals (have := key _ h; simp at this; omega)
set_option maxHeartbeats 2000000 in
set_option maxRecDepth 100000 in
theorem put_no (a b : Bool) (wd : Nat) (q : Int) (ch : Nat) (s : ByteArray) (w : World) (hs : s.size ≤ 1000000) (h1 : ch ≠ 115) (h2 : ch ≠ 98) (h3 : ch ≠ 99) (hd : dnum (ls s) = none) :
    Calls Tryd.prog 20 #[.agg (dC a b wd q ch), .string s] w fun e w' => e = .returned (.tuple #[.string ⟨#[]⟩, .bool false]) ∧ Below w.heap.size w w' := by
  have HBs := fun o => Lib.hid ((Below.refl w.heap.size w).alloc (Nat.le_refl _) o)
  have CN := Lib.hid fun W => number28 s W hs
  rw [hd] at CN
  unfold nmD at CN
  simp only at CN
  have e1 : ((ch : Int) == 115) = false := by simp; omega
  have e2 : ((ch : Int) == 98) = false := by simp; omega
  have e3 : ((ch : Int) == 99) = false := by simp; omega
  clear hd h1 h2 h3
  unfold dC
  go_enter Tryd.func20, Tryd.ntmps20
  go_wp2_with (go_at_call 28; refine (CN.out _).mono ?_; rintro e w1 ⟨rfl, b1⟩; have B1 := Lib.hid ((HBs _).out.trans (b1.mono (HBs _).out.size)); clear b1)
  go_ret2
  exact ⟨rfl, B1.out⟩
theorem dnum_bd {l : List UInt8} {m : Bool} {v : Nat} (h : dnum l = some (m, v)) : v ≤ 9223372036854775808 ∧ (m = true → 0 < v) ∧ (m = false → (v : Int) ≤ 9223372036854775807) := by
  have hn := dnum_is l
  rw [h] at hn
  have hr := numO_range l _ hn
  have h0 : m = true → 0 < v := by
    intro hm
    subst hm
    cases l with
    | nil => simp [dnum] at h
    | cons c r =>
      unfold dnum at h
      simp only at h
      by_cases hq : c.toNat = 39 ∨ c.toNat = 34
      · rw [if_pos hq] at h
        by_cases h2 : (c :: r).length = 2
        · rw [if_pos h2] at h; simp at h
        · rw [if_neg h2] at h; cases h
      · rw [if_neg hq] at h
        generalize (if c.toNat = 45 ∨ c.toNat = 43 then r else c :: r) = rest at h
        by_cases hr : rest = []
        · rw [if_pos hr] at h; cases h
        · rw [if_neg hr] at h
          cases hd : dloop (decide (c.toNat = 45)) 0 rest with
          | none => rw [hd] at h; cases h
          | some x =>
            rw [hd] at h
            injection h with h
            have q1 := congrArg Prod.fst h
            have q2 := congrArg Prod.snd h
            simp at q1 q2
            omega
  unfold sgd at hr
  cases m
  · simp at hr
    exact ⟨by omega, h0, fun _ => by omega⟩
  · simp at hr
    exact ⟨by omega, h0, fun h => by cases h⟩
theorem num_some {p : Pl} {s : ByteArray} {m : Bool} {v : Nat} (hc : p.ch ≠ 115 ∧ p.ch ≠ 98 ∧ p.ch ≠ 99) (hd : dnum (ls s) = some (m, v)) (hn : isNum p.ch = true) (H D : List UInt8) (hsg : sgnO p.ch (sgd (m, v)) = (H, D)) :
    fillO p (ls s) = some (padX p.left p.zero (decide (dgI p.prec < 0)) true p.width H (rep 48 (dgI p.prec - (D.length : Int)).toNat ++ D)) := by
  unfold fillO
  rw [if_neg hc.1, if_neg hc.2.1, if_neg hc.2.2, dnum_is, hd]
  simp only [Option.map]
  rw [hsg, padX_is, hn, dgI_neg, dgI_rep]
theorem txt_some {p : Pl} (hn : isNum p.ch = false) (H D : List UInt8) : padL p H D = padX p.left p.zero false false p.width H D := by
  rw [padX_is, hn, padX_num _ _ _ false]
theorem put20 (p : Pl) (hp : PlOk p) (hl : isLet p.ch = true) (hc : p.ch ≠ 37) (s : ByteArray) (w : World) (hs : s.size ≤ 1000000) :
    Calls Tryd.prog 20 #[.agg (dC p.left p.zero p.width (dgI p.prec) p.ch), .string s] w fun e w' => fillE p (fillO p (ls s)) e ∧ Below w.heap.size w w' := by
  obtain ⟨h1, h2, h3⟩ := hp
  have hq := dgI_bd p.prec h2
  have hcut := fun t => cutD_is p t
  obtain ⟨a, b, wd, pr, ch⟩ := p
  simp only at h1 h2 h3 hl hc hq hcut ⊢
  rcases let_cases ch h3 hl with e | e | e | e | e | e | e | e | e | e
  · exact absurd e hc
  · subst e
    have hf : fillO ⟨a, b, wd, pr, 115⟩ (ls s) = some (padX a b false false wd [] (ls (cutD (dgI pr) s))) := by
      unfold fillO; rw [if_pos rfl, txt_some (by rfl), hcut s]
    rw [hf]
    exact (put_s a b wd (dgI pr) s w hs h1 hq).mono fun e w' h => h
  · subst e
    have hf : fillO ⟨a, b, wd, pr, 98⟩ (ls s) = some (padX a b false false wd [] (ls (cutD (dgI pr) (mk (une (ls s)))))) := by
      unfold fillO; rw [if_neg (show ¬ (98 : Nat) = 115 by decide), if_pos rfl, txt_some (by rfl), hcut (mk (une (ls s))), ls_mk]
    rw [hf]
    exact (put_b a b wd (dgI pr) s w hs h1 hq).mono fun e w' h => h
  · subst e
    have hcc : ls (cutD 1 s) = (ls s).take 1 := by
      unfold cutD
      by_cases hz : 1 < s.size
      · rw [if_pos ⟨by omega, by omega⟩]; exact ls_take s 1
      · rw [if_neg (by omega)]; exact (List.take_of_length_le (by rw [ls_len]; omega)).symm
    have hf : fillO ⟨a, b, wd, pr, 99⟩ (ls s) = some (padX a b false false wd [] (ls (cutD 1 s))) := by
      unfold fillO; rw [if_neg (show ¬ (99 : Nat) = 115 by decide), if_neg (show ¬ (99 : Nat) = 98 by decide), if_pos rfl, txt_some (by rfl), hcc]
    rw [hf]
    exact (put_c a b wd (dgI pr) s w hs h1 hq).mono fun e w' h => h
  · subst e
    cases hd : dnum (ls s) with
    | none =>
      have hf : fillO ⟨a, b, wd, pr, 100⟩ (ls s) = none := by
        unfold fillO; rw [if_neg (show ¬ (100 : Nat) = 115 by decide), if_neg (show ¬ (100 : Nat) = 98 by decide), if_neg (show ¬ (100 : Nat) = 99 by decide), dnum_is, hd]; rfl
      rw [hf]
      exact (put_no a b wd (dgI pr) 100 s w hs (by decide) (by decide) (by decide) hd).mono fun e w' h => h
    | some mv =>
      obtain ⟨m, v⟩ := mv
      obtain ⟨b1, b2, b3⟩ := dnum_bd hd
      cases m
      · have hf := num_some (p := ⟨a, b, wd, pr, 100⟩) (s := s) (show (100 : Nat) ≠ 115 ∧ (100 : Nat) ≠ 98 ∧ (100 : Nat) ≠ 99 by decide) hd rfl [] (Lib.decDigits v) (by
          have hsv : sgd (false, v) = (v : Int) := rfl
          have hmv : m64 (v : Int) = v := by unfold m64; have := b3 rfl; omega
          rw [hsv]
          show sgnO 100 _ = _
          unfold sgnO
          rw [if_neg (by decide), if_neg (by decide), if_neg (by decide), if_neg (by decide), if_neg (by omega)]; rfl)
        rw [hf]
        exact (put_d a b wd (dgI pr) s w v hd b1 b2 hs h1 hq).mono fun e w' h => h
      · have hf := num_some (p := ⟨a, b, wd, pr, 100⟩) (s := s) (show (100 : Nat) ≠ 115 ∧ (100 : Nat) ≠ 98 ∧ (100 : Nat) ≠ 99 by decide) hd rfl [45] (Lib.decDigits v) (by
          have hv0 := b2 rfl
          have hsv : sgd (true, v) = -(v : Int) := rfl
          have hmv : m64 (-(v : Int)) = 18446744073709551616 - v := by unfold m64; omega
          rw [hsv]
          show sgnO 100 _ = _
          unfold sgnO
          rw [if_neg (by decide), if_neg (by decide), if_neg (by decide), if_neg (by decide), if_pos (by omega), show (-(-(v : Int))).toNat = v by omega])
        rw [hf]
        exact (put_dm a b wd (dgI pr) s w v hd b1 b2 hs h1 hq).mono fun e w' h => h
  · subst e
    cases hd : dnum (ls s) with
    | none =>
      have hf : fillO ⟨a, b, wd, pr, 105⟩ (ls s) = none := by
        unfold fillO; rw [if_neg (show ¬ (105 : Nat) = 115 by decide), if_neg (show ¬ (105 : Nat) = 98 by decide), if_neg (show ¬ (105 : Nat) = 99 by decide), dnum_is, hd]; rfl
      rw [hf]
      exact (put_no a b wd (dgI pr) 105 s w hs (by decide) (by decide) (by decide) hd).mono fun e w' h => h
    | some mv =>
      obtain ⟨m, v⟩ := mv
      obtain ⟨b1, b2, b3⟩ := dnum_bd hd
      cases m
      · have hf := num_some (p := ⟨a, b, wd, pr, 105⟩) (s := s) (show (105 : Nat) ≠ 115 ∧ (105 : Nat) ≠ 98 ∧ (105 : Nat) ≠ 99 by decide) hd rfl [] (Lib.decDigits v) (by
          have hsv : sgd (false, v) = (v : Int) := rfl
          have hmv : m64 (v : Int) = v := by unfold m64; have := b3 rfl; omega
          rw [hsv]
          show sgnO 105 _ = _
          unfold sgnO
          rw [if_neg (by decide), if_neg (by decide), if_neg (by decide), if_neg (by decide), if_neg (by omega)]; rfl)
        rw [hf]
        exact (put_i a b wd (dgI pr) s w v hd b1 b2 hs h1 hq).mono fun e w' h => h
      · have hf := num_some (p := ⟨a, b, wd, pr, 105⟩) (s := s) (show (105 : Nat) ≠ 115 ∧ (105 : Nat) ≠ 98 ∧ (105 : Nat) ≠ 99 by decide) hd rfl [45] (Lib.decDigits v) (by
          have hv0 := b2 rfl
          have hsv : sgd (true, v) = -(v : Int) := rfl
          have hmv : m64 (-(v : Int)) = 18446744073709551616 - v := by unfold m64; omega
          rw [hsv]
          show sgnO 105 _ = _
          unfold sgnO
          rw [if_neg (by decide), if_neg (by decide), if_neg (by decide), if_neg (by decide), if_pos (by omega), show (-(-(v : Int))).toNat = v by omega])
        rw [hf]
        exact (put_im a b wd (dgI pr) s w v hd b1 b2 hs h1 hq).mono fun e w' h => h
  · subst e
    cases hd : dnum (ls s) with
    | none =>
      have hf : fillO ⟨a, b, wd, pr, 111⟩ (ls s) = none := by
        unfold fillO; rw [if_neg (show ¬ (111 : Nat) = 115 by decide), if_neg (show ¬ (111 : Nat) = 98 by decide), if_neg (show ¬ (111 : Nat) = 99 by decide), dnum_is, hd]; rfl
      rw [hf]
      exact (put_no a b wd (dgI pr) 111 s w hs (by decide) (by decide) (by decide) hd).mono fun e w' h => h
    | some mv =>
      obtain ⟨m, v⟩ := mv
      obtain ⟨b1, b2, b3⟩ := dnum_bd hd
      cases m
      · have hf := num_some (p := ⟨a, b, wd, pr, 111⟩) (s := s) (show (111 : Nat) ≠ 115 ∧ (111 : Nat) ≠ 98 ∧ (111 : Nat) ≠ 99 by decide) hd rfl [] (bd 8 v) (by
          have hsv : sgd (false, v) = (v : Int) := rfl
          have hmv : m64 (v : Int) = v := by unfold m64; have := b3 rfl; omega
          rw [hsv]
          show sgnO 111 _ = _
          unfold sgnO
          simp only [hmv]; rfl)
        rw [hf]
        exact (put_o a b wd (dgI pr) s w v hd b1 b2 hs h1 hq).mono fun e w' h => h
      · have hf := num_some (p := ⟨a, b, wd, pr, 111⟩) (s := s) (show (111 : Nat) ≠ 115 ∧ (111 : Nat) ≠ 98 ∧ (111 : Nat) ≠ 99 by decide) hd rfl [] (bd 8 (18446744073709551616 - v)) (by
          have hv0 := b2 rfl
          have hsv : sgd (true, v) = -(v : Int) := rfl
          have hmv : m64 (-(v : Int)) = 18446744073709551616 - v := by unfold m64; omega
          rw [hsv]
          show sgnO 111 _ = _
          unfold sgnO
          simp only [hmv]; rfl)
        rw [hf]
        exact (put_om a b wd (dgI pr) s w v hd b1 b2 hs h1 hq).mono fun e w' h => h
  · subst e
    cases hd : dnum (ls s) with
    | none =>
      have hf : fillO ⟨a, b, wd, pr, 117⟩ (ls s) = none := by
        unfold fillO; rw [if_neg (show ¬ (117 : Nat) = 115 by decide), if_neg (show ¬ (117 : Nat) = 98 by decide), if_neg (show ¬ (117 : Nat) = 99 by decide), dnum_is, hd]; rfl
      rw [hf]
      exact (put_no a b wd (dgI pr) 117 s w hs (by decide) (by decide) (by decide) hd).mono fun e w' h => h
    | some mv =>
      obtain ⟨m, v⟩ := mv
      obtain ⟨b1, b2, b3⟩ := dnum_bd hd
      cases m
      · have hf := num_some (p := ⟨a, b, wd, pr, 117⟩) (s := s) (show (117 : Nat) ≠ 115 ∧ (117 : Nat) ≠ 98 ∧ (117 : Nat) ≠ 99 by decide) hd rfl [] (Lib.decDigits v) (by
          have hsv : sgd (false, v) = (v : Int) := rfl
          have hmv : m64 (v : Int) = v := by unfold m64; have := b3 rfl; omega
          rw [hsv]
          show sgnO 117 _ = _
          unfold sgnO
          simp only [hmv]; rfl)
        rw [hf]
        exact (put_u a b wd (dgI pr) s w v hd b1 b2 hs h1 hq).mono fun e w' h => h
      · have hf := num_some (p := ⟨a, b, wd, pr, 117⟩) (s := s) (show (117 : Nat) ≠ 115 ∧ (117 : Nat) ≠ 98 ∧ (117 : Nat) ≠ 99 by decide) hd rfl [] (Lib.decDigits (18446744073709551616 - v)) (by
          have hv0 := b2 rfl
          have hsv : sgd (true, v) = -(v : Int) := rfl
          have hmv : m64 (-(v : Int)) = 18446744073709551616 - v := by unfold m64; omega
          rw [hsv]
          show sgnO 117 _ = _
          unfold sgnO
          simp only [hmv]; rfl)
        rw [hf]
        exact (put_um a b wd (dgI pr) s w v hd b1 b2 hs h1 hq).mono fun e w' h => h
  · subst e
    cases hd : dnum (ls s) with
    | none =>
      have hf : fillO ⟨a, b, wd, pr, 120⟩ (ls s) = none := by
        unfold fillO; rw [if_neg (show ¬ (120 : Nat) = 115 by decide), if_neg (show ¬ (120 : Nat) = 98 by decide), if_neg (show ¬ (120 : Nat) = 99 by decide), dnum_is, hd]; rfl
      rw [hf]
      exact (put_no a b wd (dgI pr) 120 s w hs (by decide) (by decide) (by decide) hd).mono fun e w' h => h
    | some mv =>
      obtain ⟨m, v⟩ := mv
      obtain ⟨b1, b2, b3⟩ := dnum_bd hd
      cases m
      · have hf := num_some (p := ⟨a, b, wd, pr, 120⟩) (s := s) (show (120 : Nat) ≠ 115 ∧ (120 : Nat) ≠ 98 ∧ (120 : Nat) ≠ 99 by decide) hd rfl [] (bd 16 v) (by
          have hsv : sgd (false, v) = (v : Int) := rfl
          have hmv : m64 (v : Int) = v := by unfold m64; have := b3 rfl; omega
          rw [hsv]
          show sgnO 120 _ = _
          unfold sgnO
          simp only [hmv]; rfl)
        rw [hf]
        exact (put_x a b wd (dgI pr) s w v hd b1 b2 hs h1 hq).mono fun e w' h => h
      · have hf := num_some (p := ⟨a, b, wd, pr, 120⟩) (s := s) (show (120 : Nat) ≠ 115 ∧ (120 : Nat) ≠ 98 ∧ (120 : Nat) ≠ 99 by decide) hd rfl [] (bd 16 (18446744073709551616 - v)) (by
          have hv0 := b2 rfl
          have hsv : sgd (true, v) = -(v : Int) := rfl
          have hmv : m64 (-(v : Int)) = 18446744073709551616 - v := by unfold m64; omega
          rw [hsv]
          show sgnO 120 _ = _
          unfold sgnO
          simp only [hmv]; rfl)
        rw [hf]
        exact (put_xm a b wd (dgI pr) s w v hd b1 b2 hs h1 hq).mono fun e w' h => h
  · subst e
    cases hd : dnum (ls s) with
    | none =>
      have hf : fillO ⟨a, b, wd, pr, 88⟩ (ls s) = none := by
        unfold fillO; rw [if_neg (show ¬ (88 : Nat) = 115 by decide), if_neg (show ¬ (88 : Nat) = 98 by decide), if_neg (show ¬ (88 : Nat) = 99 by decide), dnum_is, hd]; rfl
      rw [hf]
      exact (put_no a b wd (dgI pr) 88 s w hs (by decide) (by decide) (by decide) hd).mono fun e w' h => h
    | some mv =>
      obtain ⟨m, v⟩ := mv
      obtain ⟨b1, b2, b3⟩ := dnum_bd hd
      cases m
      · have hf := num_some (p := ⟨a, b, wd, pr, 88⟩) (s := s) (show (88 : Nat) ≠ 115 ∧ (88 : Nat) ≠ 98 ∧ (88 : Nat) ≠ 99 by decide) hd rfl [] (up (bd 16 v)) (by
          have hsv : sgd (false, v) = (v : Int) := rfl
          have hmv : m64 (v : Int) = v := by unfold m64; have := b3 rfl; omega
          rw [hsv]
          show sgnO 88 _ = _
          unfold sgnO
          simp only [hmv]; rfl)
        rw [hf]
        exact (put_X a b wd (dgI pr) s w v hd b1 b2 hs h1 hq).mono fun e w' h => h
      · have hf := num_some (p := ⟨a, b, wd, pr, 88⟩) (s := s) (show (88 : Nat) ≠ 115 ∧ (88 : Nat) ≠ 98 ∧ (88 : Nat) ≠ 99 by decide) hd rfl [] (up (bd 16 (18446744073709551616 - v))) (by
          have hv0 := b2 rfl
          have hsv : sgd (true, v) = -(v : Int) := rfl
          have hmv : m64 (-(v : Int)) = 18446744073709551616 - v := by unfold m64; omega
          rw [hsv]
          show sgnO 88 _ = _
          unfold sgnO
          simp only [hmv]; rfl)
        rw [hf]
        exact (put_Xm a b wd (dgI pr) s w v hd b1 b2 hs h1 hq).mono fun e w' h => h
end Go.Proofs.YtckhomeokhhneaaDoor
