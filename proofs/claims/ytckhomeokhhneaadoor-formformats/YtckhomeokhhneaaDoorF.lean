/- Contracts of fillUp, cut, numeric and pad. Conditions: lengths below a bound. -/
import Derived.Test.YtckhomeokhhneaaDoorE
namespace Go.Proofs.YtckhomeokhhneaaDoor
open Go.RowKit Go.PlainAid
set_option linter.unusedSimpArgs false
set_option linter.unusedVariables false

/-- A place, as a value. -/
def plC (p : Pl) : Array Value := #[.bool p.left, .bool p.zero, .bool p.prec.isSome, .int .i64 p.width, .int .i64 (p.prec.getD 0 : Nat), .int .u8 p.ch]
def plV (p : Pl) : Value := .agg (plC p)
theorem conv1 (w : World) (X : Int) (c : UInt8) (h : X = (c.toNat : Int)) : (convert 33 9 (.slice (some ⟨w.heap.size, 0, none⟩) 1 1)).run Tryd.prog (w.alloc (.cells #[.int .u8 X] 5)) = .ok (.string (mk [c])) (w.alloc (.cells #[.int .u8 X] 5)) := by
  subst h
  exact run_convert_bytes_back (P := Tryd.prog) _ 33 9 5 ⟨w.heap.size, 0, none⟩ 1 [c] Tryd.underlying33 Tryd.underlying5 Tryd.underlying9 (fun j hj => by
    have : j = 0 := by simpa using hj
    subst this
    rw [Lib.add_plain, World.cell?_alloc_new]
    rfl)
theorem repeat_one (c : UInt8) : ∀ n, Lib.repeatL [c] n = rep c n
  | 0 => rfl
  | n + 1 => by
    have ih := repeat_one c n
    unfold rep at ih ⊢
    rw [List.replicate_succ, ← ih]
    rfl
set_option maxHeartbeats 1000000 in
set_option maxRecDepth 100000 in
theorem fillUp36 (c : UInt8) (n : Int) (w : World) (h1 : -1000000000 ≤ n) (h2 : n ≤ 1000000) : Calls Tryd.prog 36 #[.int .u8 c.toNat, .int .i64 n] w (GivesT w (rep c n.toNat)) := by
  have hcv := conv1 w (c.toNat : Int) c rfl
  have HB0 := Lib.hid ((Below.refl w.heap.size w).alloc (Nat.le_refl _) (.cells #[.int .u8 (c.toNat : Int)] 5))
  have C := Lib.hid (Tryd.strings_Repeat (mk [c]) n.toNat (w.alloc (.cells #[.int .u8 (c.toNat : Int)] 5)) (by omega) (by rw [mk_size]; simp; omega))
  rw [show (mk [c]).data.toList = [c] from rfl, repeat_one] at C
  by_cases h0 : 0 ≤ n
  · obtain ⟨m, rfl⟩ : ∃ m : Nat, n = m := ⟨n.toNat, by omega⟩
    rw [Int.toNat_natCast] at C ⊢
    have hmx : max (m : Int) 0 = m := by omega
    go_enter Tryd.func36, Tryd.ntmps36
    go_wp2_with (go_at_call 44; refine C.out.mono ?_)
    rintro e w1 ⟨rfl, b1⟩
    have B1 := Lib.hid (HB0.out.trans (b1.mono HB0.out.size))
    clear b1
    go_wp2
    go_ret
    exact ⟨rfl, B1.out⟩
  · have hz : n.toNat = 0 := by omega
    rw [hz] at ⊢
    have hmx : max n 0 = 0 := by omega
    have C2 := Lib.hid fun W => Tryd.strings_Repeat_zero (mk [c]) W
    clear C hz
    go_enter Tryd.func36, Tryd.ntmps36
    go_wp2_with (go_at_call 44; refine (C2.out _).mono ?_; rintro e w1 ⟨rfl, rfl⟩)
    go_ret
    exact ⟨rfl, HB0.out⟩
set_option maxHeartbeats 1000000 in
set_option maxRecDepth 100000 in
theorem cut33 (p : Pl) (s : ByteArray) (w : World) (hs : s.size ≤ 1000000) (hq : ∀ q, p.prec = some q → q < 1000) : Calls Tryd.prog 33 #[plV p, .string s] w (GivesT w (cutL p (ls s))) := by
  obtain ⟨a, b, wd, pr, ch⟩ := p
  unfold cutL plV plC
  simp only at hq ⊢
  cases pr with
  | none =>
    simp only [Option.isSome, Option.getD]
    have HB0 := fun o => Lib.hid ((Below.refl w.heap.size w).alloc (Nat.le_refl _) o)
    go_enter Tryd.func33, Tryd.ntmps33
    go_wp2
    go_ret
    exact ⟨by rw [mk_ls]; rfl, (HB0 _).out⟩
  | some q =>
    have hq2 := hq q rfl
    simp only [Option.isSome, Option.getD]
    have HB0 := fun o => Lib.hid ((Below.refl w.heap.size w).alloc (Nat.le_refl _) o)
    obtain ⟨m, hm⟩ : ∃ m : Nat, min s.size q = m := ⟨_, rfl⟩
    have hmx : min (s.size : Int) (q : Int) = (m : Int) := by omega
    have hms : m ≤ s.size := by omega
    have HT : Hid (mk ((ls s).take q) = s.extract 0 m) := Lib.hid (by
      apply ls_inj
      rw [ls_mk, ls_take, ← hm]
      rw [← List.take_take]
      exact (List.take_of_length_le (by rw [List.length_take, ls_len]; omega)).symm)
    clear hm
    go_enter Tryd.func33, Tryd.ntmps33
    go_wp2
    go_ret
    exact ⟨by rw [HT.out]; rfl, (HB0 _).out⟩
theorem ib_num (c : Nat) (hc : c < 256) (w : World) : Calls Tryd.prog 24 #[.string ⟨#[100, 105, 111, 117, 120, 88]⟩, .int .u8 c] w fun e w' => (∃ k : Int, e = .returned (.int .i64 k) ∧ decide (0 ≤ k) = isNum c) ∧ w = w' :=
  (Tryd.strings_IndexByte ⟨#[100, 105, 111, 117, 120, 88]⟩ c w).mono fun e w' ⟨h1, h2⟩ => by
    refine ⟨⟨_, h1, ?_⟩, h2.symm⟩
    rw [show (⟨#[100, 105, 111, 117, 120, 88]⟩ : ByteArray).data.toList = [100, 105, 111, 117, 120, 88] from rfl, indexAny]
    unfold isNum
    show _ = decide (UInt8.ofNat c ∈ _)
    rw [show (c : Int).toNat.toUInt8 = UInt8.ofNat c from rfl]
    by_cases h : UInt8.ofNat c ∈ ([100, 105, 111, 117, 120, 88] : List UInt8)
    · rw [if_pos (List.idxOf_lt_length_iff.2 h), decide_eq_true h]
      exact decide_eq_true (by omega)
    · rw [if_neg (fun h2 => h (List.idxOf_lt_length_iff.1 h2)), decide_eq_false h]
      rfl
set_option maxHeartbeats 1000000 in
set_option maxRecDepth 100000 in
theorem numeric39 (p : Pl) (w : World) (hc : p.ch < 256) : Calls Tryd.prog 39 #[plV p] w fun e w' => e = .returned (.bool (isNum p.ch)) ∧ Below w.heap.size w w' := by
  obtain ⟨a, b, wd, pr, ch⟩ := p
  unfold plV plC
  simp only at hc ⊢
  have C := Lib.hid fun W => ib_num ch hc W
  have HB0 := fun o => Lib.hid ((Below.refl w.heap.size w).alloc (Nat.le_refl _) o)
  go_enter Tryd.func39, Tryd.ntmps39
  go_wp2_with fail
  refine (C.out _).mono ?_
  rintro e w1 ⟨⟨k, rfl, hk⟩, rfl⟩
  have HK := Lib.hid hk
  clear hk C
  go_wp2
  go_ret
  exact ⟨by rw [← HK.out]; rfl, (HB0 _).out⟩
end Go.Proofs.YtckhomeokhhneaaDoor
