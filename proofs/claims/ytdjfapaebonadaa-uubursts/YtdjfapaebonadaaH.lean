/- Contracts of both Encodes. Conditions: lengths below a bound. -/
import Derived.Test.YtdjfapaebonadaaG
namespace Go.Proofs.Ytdjfapaebonadaa
open Go.RowKit Go.PlainAid
set_option linter.unusedSimpArgs false
set_option linter.unusedVariables false

def beginL : List UInt8 := [98, 101, 103, 105, 110, 32]
/-- The first line. -/
def headL (m : Nat) (name : List UInt8) : List UInt8 := beginL ++ oct3 m ++ [32] ++ name ++ [10]
def encL (m : Nat) (name s : List UInt8) : List UInt8 := headL m name ++ restL s
/-- May this be a name? -/
def nameOk (name : ByteArray) : Bool := rightL (ls name) && !decide (10 ∈ ls name)
def Gives2 (w : World) (t : ByteArray) (x : Int) (e : Ending) (w' : World) : Prop := e = .returned (.tuple #[.string t, .int .i64 x]) ∧ Below w.heap.size w w'
theorem rightL_len {s : ByteArray} (h : rightL (ls s) = true) : 1 ≤ s.size ∧ s.size ≤ 4095 := by
  by_cases hc : 1 ≤ s.size ∧ s.size ≤ 4095
  · exact hc
  · rw [rightL_no hc] at h; cases h
set_option maxHeartbeats 2000000 in
set_option maxRecDepth 100000 in
theorem enc9_range (m : Int) (name s : ByteArray) (w : World) (h : ¬ (0 ≤ m ∧ m ≤ 4095)) : Calls Try.prog 9 #[.int .i64 m, .string name, .string s] w (Gives2 w ⟨#[]⟩ 10) := by
  have C := Lib.hid fun w => right18 m w
  rw [decide_eq_false h] at C
  clear h
  go_enter Try.func9, Try.ntmps9
  go_wp2_with (go_at_call 18; refine (C.out _).mono ?_; rintro e w' ⟨rfl, rfl⟩)
  go_ret2
  exact ⟨rfl, Below.refl _ _⟩
theorem ib_ge (name : ByteArray) (h : 10 ∈ ls name) : 0 ≤ Lib.indexByte (ls name) 10 := of_decide_eq_true ((has_index _ _).trans (decide_eq_true h))
theorem ib_lt (name : ByteArray) (h : ¬ 10 ∈ ls name) : Lib.indexByte (ls name) 10 < 0 := by
  have := of_decide_eq_false ((has_index (ls name) 10).trans (decide_eq_false h)); omega
set_option maxHeartbeats 2000000 in
set_option maxRecDepth 100000 in
theorem enc9_form (m : Int) (name s : ByteArray) (w : World) (h : 0 ≤ m ∧ m ≤ 4095) (hn : nameOk name = false) (hs : name.size ≤ maxLen) : Calls Try.prog 9 #[.int .i64 m, .string name, .string s] w (Gives2 w ⟨#[]⟩ 11) := by
  have C := Lib.hid fun w => right18 m w
  have CR := Lib.hid fun w => right19 name w hs
  have CI := Lib.hid fun w => ib20 name 10 w
  rw [decide_eq_true h] at C
  clear h hs
  rw [show (10 : Int).toNat.toUInt8 = 10 from rfl] at CI
  unfold nameOk at hn
  cases hr : rightL (ls name)
  · rw [hr] at CR
    clear hn hr
    go_enter Try.func9, Try.ntmps9
    go_wp2_with (first
      | (go_at_call 18; refine (C.out _).mono ?_; rintro e w' ⟨rfl, rfl⟩)
      | (go_at_call 19; refine (CR.out _).mono ?_; rintro e w' ⟨rfl, rfl⟩))
    go_ret2
    exact ⟨rfl, Below.refl _ _⟩
  · rw [hr] at CR hn
    have hi := ib_ge name (by simpa using hn)
    clear hn hr
    generalize Lib.indexByte (ls name) 10 = i at CI hi
    go_enter Try.func9, Try.ntmps9
    go_wp2_with (first
      | (go_at_call 18; refine (C.out _).mono ?_; rintro e w' ⟨rfl, rfl⟩)
      | (go_at_call 19; refine (CR.out _).mono ?_; rintro e w' ⟨rfl, rfl⟩)
      | (go_at_call 20; refine (CI.out _).mono ?_; rintro e w' ⟨rfl, rfl⟩))
    go_ret2
    exact ⟨rfl, Below.refl _ _⟩
def Rel9 (w : World) (F : List UInt8) (v x : Value) (wx : World) : Prop := ∃ (p : List UInt8) (t : ByteArray), x = .string t ∧ Hid (OB w.heap.size v p wx) ∧ Hid (p ++ restL (ls t) = F) ∧ Hid (Below w.heap.size w wx) ∧ w.heap.size ≤ wx.heap.size ∧ p.length + 100 * t.size ≤ 800000
theorem head_is (m : Nat) (name : ByteArray) : ((⟨#[98, 101, 103, 105, 110, 32]⟩ : ByteArray) ++ (mk (oct4 m)).extract 1 4 ++ ⟨#[32]⟩ ++ name) ++ ⟨#[10]⟩ = mk (headL m (ls name)) := by
  have e : (mk (oct4 m)).extract 1 4 = mk (oct3 m) := ls_inj (by rw [ls_ext, ls_mk, ls_mk]; rfl)
  rw [e]
  apply ls_inj
  rw [ls_app, ls_app, ls_app, ls_app, ls_mk, ls_mk]
  rfl
set_option maxHeartbeats 4000000 in
set_option maxRecDepth 100000 in
theorem enc9_ok (m : Nat) (name s : ByteArray) (w : World) (h : m ≤ 4095) (hn : nameOk name = true) (hs : s.size ≤ 3000) : Calls Try.prog 9 #[.int .i64 m, .string name, .string s] w (Gives2 w (mk (encL m (ls name) (ls s))) 0) := by
  unfold nameOk at hn
  have hr : rightL (ls name) = true := by revert hn; cases rightL (ls name) <;> simp
  have hl := rightL_len hr
  have C := Lib.hid fun w => right18 m w
  have CR := Lib.hid fun w => right19 name w (by unfold maxLen; omega)
  have CI := Lib.hid fun w => ib20 name 10 w
  have CO := Lib.hid (octal21 m h w)
  rw [decide_eq_true (by omega)] at C
  rw [hr] at CR hn
  have hi := ib_lt name (by simpa using hn)
  clear hn hr
  rw [show (10 : Int).toNat.toUInt8 = 10 from rfl] at CI
  generalize Lib.indexByte (ls name) 10 = i at CI hi
  have HH := Lib.hid (head_is m name)
  have hsz : (mk (oct4 m)).size = 4 := rfl
  generalize mk (oct4 m) = O at CO HH hsz
  have HF : Hid (headL m (ls name) ++ restL (ls s) = encL m (ls name) (ls s)) := Lib.hid rfl
  have hhl : (headL m (ls name)).length ≤ 5000 := by simp [headL, beginL, oct3, ls_len]; have := hl.2; rw [← ls_len] at this; simp at this; omega
  generalize encL m (ls name) (ls s) = F at HF ⊢
  go_enter Try.func9, Try.ntmps9
  go_wp2_with (first
    | (go_at_call 18; refine (C.out _).mono ?_; rintro e w' ⟨rfl, rfl⟩)
    | (go_at_call 19; refine (CR.out _).mono ?_; rintro e w' ⟨rfl, rfl⟩)
    | (go_at_call 20; refine (CI.out _).mono ?_; rintro e w' ⟨rfl, rfl⟩)
    | (go_at_call 21; fail))
  refine CO.out.mono ?_
  rintro e w1 ⟨rfl, b1⟩
  have B1 := Lib.hid b1
  clear b1 CO
  go_wp2
  rw [HH.out]
  clear HH
  generalize headL m (ls name) = q at HF hhl ⊢
  have hmk := run_made (mk q) w1
  have hOB := made_ob w1 (mk q) (by rw [mk_size]; unfold maxLen; omega)
  have HB0 := Lib.hid (B1.out.trans ((made_below w1 (mk q)).mono B1.out.size))
  rw [mk_size] at hmk hOB
  rw [ls_mk] at hOB
  generalize made w1 (mk q) = w2 at hmk hOB HB0
  generalize grownCap w1 q.length 0 5 = cap at hmk hOB
  have HO0 := Lib.hid (hOB.mono B1.out.size)
  have hB0 : w.heap.size ≤ w2.heap.size := HB0.out.size
  clear hOB
  rw [hmk]
  simp only [Result.andThen]
  rw [Oper.upon_value]
  go_wp2
  go_loopw [8, 2] (Rel9 w F) (fun _ x _ => szOf x)
  case atStart => exact ⟨q, s, rfl, HO0, HF, HB0, hB0, by omega⟩
  case round =>
    clear HO0 HB0 hB0 HF hmk
    obtain ⟨p, t, rfl, HP, HE, HBw, hBx, hpt⟩ := hrel
    rename World => wx
    obtain ⟨a2, c2, rfl⟩ := HP.out.shape
    by_cases h0 : t.size = 0
    · have hne := toList_em h0
      have CL := Lib.hid (line22 ⟨#[]⟩ wx HP.out hBx (by omega) (by show 0 ≤ _; omega))
      have HQ : Hid (p ++ line (ls ⟨#[]⟩) ++ endL = F) := Lib.hid (by rw [← HE.out, ls_em h0, restL_nil, List.append_assoc])
      have hrl : (p ++ line (ls ⟨#[]⟩)).length ≤ 900000 := by rw [List.length_append, line_len]; show p.length + (2 + (0 + 2) / 3 * 4) ≤ _; omega
      generalize p ++ line (ls ⟨#[]⟩) = r at CL HQ hrl
      go_wp2_with (go_at_call 22; refine CL.out.mono ?_)
      rintro e w3 ⟨v3, rfl, hO', hb3⟩
      have HO2 := Lib.hid hO'
      have HB2 := Lib.hid (HBw.out.trans hb3)
      have hs2 : w.heap.size ≤ w3.heap.size := Nat.le_trans hBx hb3.size
      obtain ⟨a3, c3, rfl⟩ := hO'.shape
      clear hO' hb3 CL
      go_wp2_with (at_builtin; refine wpList_appS rfl _ _ rfl _ w.heap.size r ⟨#[101, 110, 100, 10]⟩ rfl rfl HO2.out ?c1 ?c2 ?_)
      case c1 => exact hs2
      case c2 => show r.length + 4 ≤ _; omega
      intro v4 w4 hO' hg
      have HB4 := Lib.hid (HB2.out.grown hg hs2 (fun j hj => (HO2.out.lt j hj).1))
      rw [show r ++ ls ⟨#[101, 110, 100, 10]⟩ = F from HQ.out] at hO'
      have hbk := hO'.back
      obtain ⟨a4, c4, rfl⟩ := hO'.shape
      clear hO' hg
      go_wp2
      go_ret2
      exact ⟨rfl, HB4.out⟩
    · have hne := toList_ne (s := t) (by omega)
      by_cases h45 : 45 < t.size
      · have CL := Lib.hid (line22 (t.extract 0 45) wx HP.out hBx (by omega) (by rw [ext_sz _ _ _ (by omega)]; omega))
        have HN : Hid ((p ++ line (ls (t.extract 0 45))) ++ restL (ls (t.extract 45 t.size)) = F) := Lib.hid (by
          rw [← HE.out, restL_cons (ls_ne (t := t) (by omega)), ls_take, ls_drop, List.append_assoc])
        have Hsz : Hid ((t.extract 45 t.size).size = t.size - 45) := Lib.hid (ext_sz _ _ _ (Nat.le_refl _))
        have hrl : (p ++ line (ls (t.extract 0 45))).length + 100 * (t.size - 45) ≤ 800000 := by rw [List.length_append, line_len, ls_len, ext_sz _ _ _ (by omega)]; omega
        generalize p ++ line (ls (t.extract 0 45)) = r at CL HN hrl
        go_wp2_with (go_at_call 22; refine CL.out.mono ?_)
        rintro e w3 ⟨v3, rfl, hO', hb3⟩
        have HO2 := Lib.hid hO'
        have HB2 := Lib.hid (HBw.out.trans hb3)
        have hs2 : w.heap.size ≤ w3.heap.size := Nat.le_trans hBx hb3.size
        obtain ⟨a3, c3, rfl⟩ := hO'.shape
        clear hO' hb3 CL
        go_wp2
        go_roundw
        case rel => exact ⟨r, t.extract 45 t.size, rfl, HO2, HN, HB2, hs2, by rw [Hsz.out]; exact hrl⟩
        case measure => show (t.extract 45 t.size).size < t.size; rw [Hsz.out]; omega
      · have CL := Lib.hid (line22 t wx HP.out hBx (by omega) (by omega))
        have HN : Hid ((p ++ line (ls t)) ++ restL (ls ⟨#[]⟩) = F) := Lib.hid (by
          rw [← HE.out, restL_cons (ls_ne (t := t) (by omega)), List.append_assoc, List.take_of_length_le (by rw [ls_len]; omega)]
          rw [show List.drop 45 (ls t) = ls ⟨#[]⟩ from List.drop_eq_nil_of_le (by rw [ls_len]; omega)])
        have hrl : (p ++ line (ls t)).length + 100 * 0 ≤ 800000 := by rw [List.length_append, line_len, ls_len]; omega
        generalize p ++ line (ls t) = r at CL HN hrl
        go_wp2_with (go_at_call 22; refine CL.out.mono ?_)
        rintro e w3 ⟨v3, rfl, hO', hb3⟩
        have HO2 := Lib.hid hO'
        have HB2 := Lib.hid (HBw.out.trans hb3)
        have hs2 : w.heap.size ≤ w3.heap.size := Nat.le_trans hBx hb3.size
        obtain ⟨a3, c3, rfl⟩ := hO'.shape
        clear hO' hb3 CL
        go_wp2
        go_roundw
        case rel => exact ⟨r, ⟨#[]⟩, rfl, HO2, HN, HB2, hs2, hrl⟩
        case measure => show 0 < t.size; omega
end Go.Proofs.Ytdjfapaebonadaa
