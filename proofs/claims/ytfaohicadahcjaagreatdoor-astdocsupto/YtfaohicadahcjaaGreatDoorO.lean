/- Contracts: what may be a here-document. Conditions: lengths below a bound. -/
import Derived.Test.YtfaohicadahcjaaGreatDoorMe
import Derived.Lib.IndexMore
namespace Go.Proofs.YtfaohicadahcjaaGreatDoor
open Go.RowKit Go.PlainAid Go.ChangeShapes Go.WideShapes Go.ChangeAt
set_option linter.unusedSimpArgs false
set_option linter.unusedVariables false
def Env (w : World) : Prop := ∃ m : Int, w.cell? ⟨0, 0, none⟩ = some (.int .i64 m)
theorem Env.on {w w' : World} (h : Env w) (hb : Below w.heap.size w w') : Env w' := by
  obtain ⟨m, hm⟩ := h
  exact ⟨m, cell_low hm hb⟩
def docPartB (p : Pt) : Bool := p.quoted && !decide (p.kind = 3) && emB p.op && !(decide (p.kind = 4) && hasC (ls p.text) 10)
def docB (tag : ByteArray) (l : List Pt) : Bool := l.all docPartB && (l.isEmpty || (Lib.hasSuffix (docL l) [10] && !Lib.contains (10 :: docL l) (10 :: (ls tag ++ [10]))))
def PartsOk (l : List Pt) : Prop := ∀ p ∈ l, (p.kind = 1 ∨ p.kind = 2 ∨ p.kind = 3 ∨ p.kind = 4) ∧ (p.kind = 2 → emB p.op = true → p.word.length = 0)
theorem fit_of {l : List Pt} (h : PartsOk l) (hd : l.all docPartB = true) : DocFit l := by
  intro p hp
  have h1 := h p hp
  have h2 := List.all_eq_true.1 hd p hp
  simp only [docPartB, Bool.and_eq_true, Bool.not_eq_true', decide_eq_false_iff_not] at h2
  obtain ⟨⟨⟨_, h3⟩, h4⟩, _⟩ := h2
  refine ⟨?_, em_lit h4, fun e => h1.2 e h4⟩
  rcases h1.1 with e | e | e | e
  · exact .inl e
  · exact .inr (.inl e)
  · exact absurd e h3
  · exact .inr (.inr e)
theorem dparts_cut (l : List Pt) (k : Nat) (h : k < l.length) : (l.drop k).all docPartB = (docPartB l[k] && (l.drop (k + 1)).all docPartB) := by
  rw [List.drop_eq_getElem_cons h, List.all_cons]
theorem docs_len : ∀ l : List Pt, ((l.map docP).flatten).length ≤ wordN l * 2 + l.length * 8
  | [] => by simp
  | p :: r => by
    have h1 := docs_len r
    have h2 : (docP p).length ≤ p.text.size * 2 + 8 := by
      unfold docP
      split
      · have := esc_len (ls p.text); rw [ls_len] at this; omega
      · split
        · simp only [List.length_append, ls_len, List.length_cons, List.length_nil]; omega
        · split
          · simp only [List.length_append, ls_len, List.length_cons, List.length_nil]; omega
          · simp
    simp only [List.map_cons, List.flatten_cons, List.length_append, wordN, List.length_cons]
    omega
theorem docL_len (l : List Pt) : (docL l).length ≤ wordN l * 2 + l.length * 8 := by
  cases h : litB l
  · rw [docL_not l h]; exact docs_len l
  · unfold docL; rw [h]
    cases l with
    | nil => simp
    | cons p r => simp [wordN, ls_len]; omega
def Rel109 (w : World) (l : List Pt) (i : Value) (wx : World) : Prop := ∃ k : Nat, k ≤ l.length ∧ i = .int .i64 k ∧ Below w.heap.size w wx ∧ Hid (l.all docPartB = (l.drop k).all docPartB)
set_option maxHeartbeats 8000000 in
set_option maxRecDepth 100000 in
theorem rightDoc109 (n : Nat) (fd : Int) (op tag : ByteArray) (a : Option Addr) (c : Nat) (l : List Pt) (w : World) (h : WdAt n w (.slice a l.length c) l) (hp : PartsOk l) (he : Env w) (htag : tag.size ≤ 1048576) (hsum : wordN l ≤ 1048576) :
    Calls Tryz.prog 109 #[.agg #[.int .i64 fd, .string op, .string tag, .slice a l.length c]] w fun e w' => e = .returned (.bool (docB tag l)) ∧ Below w.heap.size w w' := by
  have HL := Lib.hid h
  have hlen := at_len _ _ _ _ h
  have HP := Lib.hid hp
  have HE := Lib.hid he
  have HS := Lib.hid hsum
  have HB0 := Lib.hid ((Below.refl w.heap.size w).alloc (Nat.le_refl _) (.cells #[.int .i64 fd, .string op, .string tag, .slice a l.length c] 44))
  have hh := heap_alloc_new w (.cells #[.int .i64 fd, .string op, .string tag, .slice a l.length c] 44)
  have CD := Lib.hid fun (W : World) (hW : WdAt n W (.slice a l.length c) l) (hf : DocFit l) => doc35 n fd op tag a c l W hW hf
  obtain ⟨q, Hq⟩ : ∃ q, Hid (l.length = q) := ⟨_, Lib.hid rfl⟩
  rw [Hq.out] at HL hlen hh HB0 CD ⊢
  clear h hp he hsum
  go_enter Tryz.func109, Tryz.ntmps109
  go_upto_region 1 with fail
  generalize w.alloc (.cells #[.int .i64 fd, .string op, .string tag, .slice a q c] 44) = w1 at HB0 hh ⊢
  have HH := Lib.hid hh
  have p3 : w1.cell? ⟨w.heap.size, 3, none⟩ = some (.slice a q c) := cells_at hh (i := 3) rfl
  clear hh
  have hw1 := lt_of_block HH.out
  go_wp2
  go_loopw [9] (fun i wx => Rel109 w l i wx ∧ Below w1.heap.size w1 wx) (fun i _ => q - (intOf i).toNat)
  case atStart => exact ⟨⟨0, Nat.zero_le _, rfl, HB0.out, Lib.hid (by simp)⟩, Below.refl _ _⟩
  case round =>
    obtain ⟨⟨k, hk, rfl, HB, HR⟩, HB1⟩ := hrel
    rename World => wx
    rw [Hq.out] at hk
    have HB := Lib.hid HB
    have HB1 := Lib.hid HB1
    by_cases hlt : k < q
    · have hlt' : k < l.length := by rw [Hq.out]; exact hlt
      obtain ⟨m, b1, off, c', wa, wc, ba, bc, _, e, hc, hfit, _, c0, c1, c2, c3, c4, c5⟩ := wd_at2 HL.out k hlt'
      have HC := Lib.hid (dparts_cut l k hlt')
      obtain ⟨p, Hp⟩ : ∃ p, Hid (l[k] = p) := ⟨_, Lib.hid rfl⟩
      rw [Hp.out] at HC c0 c1 c2 c3 c4 c5 hfit
      rw [Hq.out] at e hc
      cases e
      replace c0 := cell_low c0 HB.out
      replace c1 := cell_low c1 HB.out
      replace c2 := cell_low c2 HB.out
      replace c3 := cell_low c3 HB.out
      replace c4 := cell_low c4 HB.out
      replace c5 := cell_low c5 HB.out
      generalize p.word.length = nw at c4
      generalize p.body.length = nb at c5
      have HX := Lib.hid fun (o : Obj) => And.intro (HB.out.alloc HB.out.size o) (HB1.out.alloc HB1.out.size o)
      have HD : Hid (docPartB p = (p.quoted && !decide (p.kind = 3) && emB p.op && !(decide (p.kind = 4) && hasC (ls p.text) 10))) := Lib.hid rfl
      have CC := Lib.hid fun W => Tryz.strings_Contains_one p.text 10 W
      rw [has_index, show (p.text.data.toList).contains 10 = hasC (ls p.text) 10 from rfl] at CC
      have g3 := eq_int p.kind 3
      have g4 := eq_int p.kind 4
      have ge := emp_is p.op
      generalize p.quoted = b1 at c1 HD
      generalize decide (p.kind = 3) = b3 at g3 HD
      generalize decide (p.kind = 4) = b4 at g4 HD
      generalize emB p.op = b5 at ge HD
      generalize hasC (ls p.text) 10 = b6 at CC HD
      clear hfit
      have HF : Hid (docPartB p = false → docB tag l = false) := Lib.hid fun e => by unfold docB; rw [HR.out, HC.out, e]; rfl
      have HT : Hid (docPartB p = true → l.all docPartB = (l.drop (k + 1)).all docPartB) := Lib.hid fun e => by rw [HR.out, HC.out, e]; rfl
      cases b1
      case false =>
        go_wp2
        go_ret
        rw [HF.out (by rw [HD.out]; rfl)]; exact ⟨rfl, (HX.out _).1⟩
      cases b3
      case true =>
        go_wp2
        go_ret
        rw [HF.out (by rw [HD.out]; rfl)]; exact ⟨rfl, (HX.out _).1⟩
      cases b5
      case false =>
        go_wp2
        go_ret
        rw [HF.out (by rw [HD.out]; rfl)]; exact ⟨rfl, (HX.out _).1⟩
      cases b4
      case false =>
        go_wp2
        go_round
        case rel => exact ⟨⟨k + 1, hlt', by go_num, (HX.out _).1, Lib.hid (HT.out (by rw [HD.out]; rfl))⟩, (HX.out _).2⟩
        case measure => simp [intOf]; omega
      cases b6
      case false =>
        go_wp2_with (go_at_call 121; refine (CC.out _).mono ?_; rintro e w' ⟨rfl, rfl⟩)
        go_round
        case rel => exact ⟨⟨k + 1, hlt', by go_num, (HX.out _).1, Lib.hid (HT.out (by rw [HD.out]; rfl))⟩, (HX.out _).2⟩
        case measure => simp [intOf]; omega
      go_wp2_with (go_at_call 121; refine (CC.out _).mono ?_; rintro e w' ⟨rfl, rfl⟩)
      go_ret
      rw [HF.out (by rw [HD.out]; rfl)]; exact ⟨rfl, (HX.out _).1⟩
    · obtain rfl : k = q := by omega
      have HA : Hid (l.all docPartB = true) := Lib.hid (by rw [HR.out, List.drop_of_length_le (by rw [Hq.out]; exact Nat.le_refl _)]; rfl)
      have hz1 := cell_low (cells_at HH.out (i := 3) (u := .slice a k c) rfl) HB1.out
      have hz0 := cell_low (cells_at HH.out (i := 0) (u := .int .i64 fd) rfl) HB1.out
      have hzo := cell_low (cells_at HH.out (i := 1) (u := .string op) rfl) HB1.out
      have hz2 := cell_low (cells_at HH.out (i := 2) (u := .string tag) rfl) HB1.out
      clear p3
      by_cases hk0 : k = 0
      · subst hk0
        have HT : Hid (docB tag l = true) := Lib.hid (by
          have : l = [] := List.eq_nil_of_length_eq_zero Hq.out
          rw [this]; rfl)
        go_wp2
        go_ret
        rw [HT.out]; exact ⟨rfl, HB.out⟩
      · have hk0' : 0 < k := by omega
        have hk1 : (k == 0) = false := by simp; omega
        have hk2 : ((k : Int) == 0) = false := by rw [eq_int]; simp; omega
        have HDB : Hid (docB tag l = (Lib.hasSuffix (docL l) [10] && !Lib.contains (10 :: docL l) (10 :: (ls tag ++ [10])))) := Lib.hid (by
          have hne : l.isEmpty = false := by
            cases l with
            | nil => have := Hq.out; simp at this; omega
            | cons x y => rfl
          unfold docB; rw [HA.out, hne]; simp)
        have hdl : (docL l).length ≤ 10485760 := by have h1 := docL_len l; have h2 := HS.out; have h3 := Hq.out; omega
        have CD2 := Lib.hid (CD.out wx (kept_wd n _ _ _ _ HL.out HB.out) (fit_of HP.out HA.out))
        obtain ⟨d, Hd⟩ : ∃ d, Hid (docL l = d) := ⟨_, Lib.hid rfl⟩
        rw [Hd.out] at CD2 HDB hdl
        obtain ⟨D, HDm⟩ : ∃ D, Hid (mk d = D) := ⟨_, Lib.hid rfl⟩
        have hlD : D.data.toList = d := by rw [← HDm.out]; rfl
        have hDs : D.size ≤ 10485760 := by rw [← HDm.out, mk_size]; exact hdl
        rw [HDm.out] at CD2
        have CS := Lib.hid fun W => Tryz.strings_HasSuffix D ⟨#[10]⟩ W (by omega)
        have CC := Lib.hid fun (W : World) (hW : Env W) => by
          obtain ⟨m, hm⟩ := hW
          exact Tryz.strings_Contains (⟨#[10]⟩ ++ D) (⟨#[10]⟩ ++ tag ++ ⟨#[10]⟩) m W (by rw [ByteArray.size_append]; show 1 + _ < _; omega) hm
        rw [hlD, show (⟨#[10]⟩ : ByteArray).data.toList = [10] from rfl] at CS
        rw [show (⟨#[10]⟩ ++ D).data.toList = 10 :: d from by rw [show (⟨#[10]⟩ ++ D).data.toList = ls (⟨#[10]⟩ ++ D) from rfl, app_ls2, show ls D = d from hlD]; rfl,
          show (⟨#[10]⟩ ++ tag ++ ⟨#[10]⟩).data.toList = 10 :: (ls tag ++ [10]) from by rw [show (⟨#[10]⟩ ++ tag ++ ⟨#[10]⟩).data.toList = ls (⟨#[10]⟩ ++ tag ++ ⟨#[10]⟩) from rfl, app_ls2, app_ls2]; rfl] at CC
        have n1 : ¬ (9223372036854775807 < (⟨#[10]⟩ : ByteArray).size + D.size) := by show ¬ (_ < 1 + D.size); omega
        have n1' : ¬ (9223372036854775807 < 1 + D.size) := by omega
        have n2 : ¬ (9223372036854775807 < (⟨#[10]⟩ : ByteArray).size + tag.size) := by show ¬ (_ < 1 + tag.size); omega
        have n2' : ¬ (9223372036854775807 < 1 + tag.size) := by omega
        have n3 : ¬ (9223372036854775807 < (⟨#[10]⟩ ++ tag : ByteArray).size + (⟨#[10]⟩ : ByteArray).size) := by rw [ByteArray.size_append]; show ¬ (_ < 1 + tag.size + 1); omega
        have n3' : ¬ (9223372036854775807 < (⟨#[10]⟩ ++ tag : ByteArray).size + 1) := by rw [ByteArray.size_append]; show ¬ (_ < 1 + tag.size + 1); omega
        have n3'' : ¬ (9223372036854775807 < 1 + tag.size + 1) := by omega
        have HEW := Lib.hid (HE.out.on HB.out)
        generalize Lib.hasSuffix d [10] = s0 at CS HDB
        generalize Lib.contains (10 :: d) (10 :: (ls tag ++ [10])) = s1 at CC HDB
        clear hdl hlD hk0
        cases s0 <;> cases s1
        all_goals (
          go_wp2_with fail
          refine CD2.out.mono ?_
          rintro e w3 ⟨rfl, hb3⟩
          replace hz2 := cell_low hz2 hb3
          have HE3 := HEW.out.on hb3
          have CC3 := Lib.hid (CC.out w3 HE3)
          have HB3 := Lib.hid (HB.out.trans (hb3.mono HB.out.size))
          clear hb3 hz0 hz1 hzo HE3
          go_wp2_with (first
            | (go_at_call 122; refine (CS.out _).mono ?_; rintro e w' ⟨rfl, rfl⟩)
            | (go_at_call 121; refine CC3.out.mono ?_; rintro e w' ⟨rfl, rfl⟩))
          go_ret
          rw [HDB.out]; exact ⟨rfl, HB3.out⟩)
end Go.Proofs.YtfaohicadahcjaaGreatDoor
