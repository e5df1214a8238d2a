/- Links that lead to one another: plain. Conditions: at most sixty of them. -/
import Derived.Test.YtgdjoojghkdcbaaMu
import Derived.Deep.DeepCutAuto
import Derived.Laws.IdiomStrings
import Derived.WalkKit
import Derived.ProofKit
import Derived.OpenShut
import Derived.ShutString
import Derived.ChangeOld
import Derived.Below
import Derived.SizedLaws
namespace Go.Proofs.Ytgdjoojghkdcbaa
open Go.RowKit Go.PlainAid Pth
set_option linter.unusedSimpArgs false

def nmL (i : Nat) : ByteArray := ⟨#[UInt8.ofNat (65 + i)]⟩
abbrev endB : ByteArray := ⟨#[101, 110, 100]⟩
def toL (n : Nat) (row : Bool) (i : Nat) : ByteArray := if row = true ∧ i = n - 1 then endB else nmL ((i + 1) % n)
def lkO (n : Nat) (row : Bool) (i : Nat) : Opn := ⟨0, nmL i, 3, 511, toL n row i⟩
abbrev endO : Opn := ⟨0, endB, 1, 0, ⟨#[]⟩⟩
def lpL (n : Nat) (row : Bool) : List Opn := (List.range n).map (lkO n row) ++ [endO]
theorem nm_toNat {i : Nat} (h : i < 60) : (UInt8.ofNat (65 + i)).toNat = 65 + i := by
  rw [UInt8.toNat_ofNat']; omega
theorem nm_name {i : Nat} (h : i < 60) : nameB (nmL i) = true := name1 (by rw [nm_toNat h]; omega) (by rw [nm_toNat h]; omega) (by rw [nm_toNat h]; omega)
theorem nm_inj {i j : Nat} (hi : i < 60) (hj : j < 60) (h : nmL i = nmL j) : i = j := by
  have e : UInt8.ofNat (65 + i) = UInt8.ofNat (65 + j) := by
    have := congrArg ByteArray.data h
    simpa [nmL] using this
  have := congrArg UInt8.toNat e
  rw [nm_toNat hi, nm_toNat hj] at this
  omega
theorem nm_end (i : Nat) : nmL i ≠ endB := fun h => by
  have := congrArg ByteArray.size h
  exact absurd this (by show (1 : Nat) ≠ 3; decide)
theorem nm_size (i : Nat) : (nmL i).size = 1 := rfl
theorem to_size (n : Nat) (row : Bool) (i : Nat) : 1 ≤ (toL n row i).size ∧ (toL n row i).size ≤ 3 := by
  unfold toL
  split
  · exact ⟨by decide, by decide⟩
  · exact ⟨by rw [nm_size]; exact Nat.le_refl _, by rw [nm_size]; decide⟩
theorem end_name : nameB endB = true := by
  unfold nameB
  rw [show hasB endB 0 = false from by decide, show hasB endB 47 = false from by decide, ByteArray.toList_eq]
  rfl
theorem lp_get (n : Nat) (row : Bool) (i : Nat) (h : i < n) : (lpL n row)[i]? = some (lkO n row i) := by
  unfold lpL
  rw [List.getElem?_append_left (by simpa using h), List.getElem?_map, List.getElem?_range h]
  rfl
theorem lp_end (n : Nat) (row : Bool) : (lpL n row)[n]? = some endO := by
  unfold lpL
  rw [List.getElem?_append_right (by simp)]
  simp
theorem lp_len (n : Nat) (row : Bool) : (lpL n row).length = n + 1 := by simp [lpL]
theorem lp_mem {n : Nat} {row : Bool} {o : Opn} (h : o ∈ lpL n row) : (∃ i, i < n ∧ o = lkO n row i) ∨ o = endO := by
  unfold lpL at h
  rcases List.mem_append.1 h with h | h
  · obtain ⟨i, hi, rfl⟩ := List.mem_map.1 h
    exact .inl ⟨i, List.mem_range.1 hi, rfl⟩
  · exact .inr (by simpa using h)
theorem lp_flat {n : Nat} (row : Bool) (hn : n ≤ 60) : Flat (lpL n row) := by
  refine ⟨?_, ?_, ?_, ?_, ?_, ?_⟩
  · intro o ho
    rcases lp_mem ho with ⟨i, hi, rfl⟩ | rfl <;> rfl
  · intro o ho
    rcases lp_mem ho with ⟨i, hi, rfl⟩ | rfl
    · exact ⟨by show (1 : Int) ≤ 3; decide, by show (3 : Int) ≤ 3; decide, fun e => absurd e (by show (3 : Int) ≠ 2; decide)⟩
    · decide
  · intro o ho
    rcases lp_mem ho with ⟨i, hi, rfl⟩ | rfl
    · exact ⟨by show (0 : Int) ≤ 511; decide, by show (511 : Int) ≤ 4095; decide⟩
    · decide
  · intro o ho
    rcases lp_mem ho with ⟨i, hi, rfl⟩ | rfl
    · have := (to_size n row i).2
      show (toL n row i).size ≤ 5000
      omega
    · decide
  · intro o ho
    rcases lp_mem ho with ⟨i, hi, rfl⟩ | rfl
    · exact nm_name (by omega)
    · exact end_name
  · unfold lpL
    rw [List.pairwise_append]
    refine ⟨?_, List.pairwise_singleton _ _, ?_⟩
    · rw [List.pairwise_map]
      refine List.Pairwise.imp_of_mem (R := fun a b => a ≠ b) ?_ (List.nodup_range)
      intro a b ha hb hab e
      exact hab (nm_inj (by have := List.mem_range.1 ha; omega) (by have := List.mem_range.1 hb; omega) e)
    · intro a ha b hb e
      obtain ⟨i, hi, rfl⟩ := List.mem_map.1 ha
      simp at hb
      subst hb
      exact nm_end i e
theorem lp_sizes (n : Nat) (row : Bool) : ∀ o ∈ lpL n row, o.s.size ≤ 300 ∧ o.t.size ≤ 5000 := by
  intro o ho
  rcases lp_mem ho with ⟨i, hi, rfl⟩ | rfl
  · have := (to_size n row i).2
    exact ⟨by show 1 ≤ 300; decide, by show (toL n row i).size ≤ 5000; omega⟩
  · decide

/-- What a walk sees: the root, the links, the end. -/
structure Sees (V : Int → Option Vw) (n : Nat) (row : Bool) : Prop where
  root : ∃ x, V 1 = some x ∧ closE (some x) = 0 ∧ (∀ i, i < n → x.look (nmL i) = ((i + 2 : Nat) : Int)) ∧ x.look endB = ((n + 2 : Nat) : Int)
  link : ∀ i, i < n → kindV (V ((i + 2 : Nat) : Int)) = 3 ∧ dataV (V ((i + 2 : Nat) : Int)) = toL n row i
  fin : kindV (V ((n + 2 : Nat) : Int)) = 1
theorem sees_of {n : Nat} {row : Bool} {S : St} {R : List Nr} {ds : List Nat} (A : FlatAt (lpL n row) S R ds) : Sees (vwS S) n row := by
  obtain ⟨ents, hr, hmem, hb, hris⟩ := A.root
  refine ⟨⟨_, vw_dir hr rfl, rfl, ?_, ?_⟩, ?_, ?_⟩
  · intro i hi
    exact getN_mem hris (hmem i _ (lp_get n row i hi))
  · exact getN_mem hris (hmem n _ (lp_end n row))
  · intro i hi
    have h := A.node i _ (lp_get n row i hi)
    have v := vw_not h (by show (3 : Int) ≠ 2; decide)
    rw [v]
    exact ⟨rfl, rfl⟩
  · have h := A.node n _ (lp_end n row)
    have v := vw_not h (by show (1 : Int) ≠ 2; decide)
    rw [v]
    rfl
/-- A text that is one name. -/
structure One (s : ByteArray) : Prop where
  go : goL s = [s]
  wrong : wrongE s = 0
  sls : slsB s = false
  abs : absB s = false
  d1 : (s.toList == [46]) = false
  d2 : (s.toList == [46, 46]) = false
  size : s.size ≤ 255
theorem one_end : One endB := ⟨by decide, by decide, by decide, by decide, by rw [ByteArray.toList_eq]; rfl, by rw [ByteArray.toList_eq]; rfl, by decide⟩
theorem one_all : ∀ i : Fin 60, goL (nmL i) = [nmL i] ∧ wrongE (nmL i) = 0 ∧ slsB (nmL i) = false ∧ absB (nmL i) = false ∧ ((nmL i).data.toList == [46]) = false ∧ ((nmL i).data.toList == [46, 46]) = false := by decide +kernel
theorem one_nm {i : Nat} (h : i < 60) : One (nmL i) := by
  obtain ⟨h1, h2, h3, h4, h5, h6⟩ := one_all ⟨i, h⟩
  exact ⟨h1, h2, h3, h4, by rw [ByteArray.toList_eq]; exact h5, by rw [ByteArray.toList_eq]; exact h6, by rw [nm_size]; decide⟩
section
variable {V : Int → Option Vw} {n : Nat} {row : Bool}
theorem Sees.one (h : Sees V n row) (follow : Bool) (f links : Nat) {i : Nat} (hi : i < n) (hn : n ≤ 60) :
    wayM V follow (f + 1) links 1 (nmL i) = if follow = true then (if 40 < links + 1 then (.zero, 17) else wayM V follow f (links + 1) 1 (toL n row i)) else (⟨((i + 2 : Nat) : Int), 1, nmL i⟩, 0) := by
  obtain ⟨x, hv, hc, hl, _⟩ := h.root
  have O := one_nm (i := i) (by omega)
  have st := step_name hv hc O.d1 O.d2 O.size
  rw [hl i hi] at st
  obtain ⟨k1, k2⟩ := h.link i hi
  have hd : (toL n row i).size ≠ 0 := by have := (to_size n row i).1; omega
  simp only [wayM, O.wrong, O.sls, O.abs, O.go, Bool.false_eq_true, if_false, ne_eq, not_true]
  simp only [loopM, st, k1, k2]
  cases follow with
  | true =>
    simp only [ne_eq, not_true, if_false, Bool.false_eq_true, or_true, true_and, and_self, if_true, hd, not_false_eq_true]
    rfl
  | false => simp
theorem Sees.stop (h : Sees V n row) (f links : Nat) : wayM V true (f + 1) links 1 endB = (⟨((n + 2 : Nat) : Int), 1, endB⟩, 0) := by
  obtain ⟨x, hv, hc, _, hl⟩ := h.root
  have O := one_end
  have st := step_name hv hc O.d1 O.d2 O.size
  rw [hl] at st
  have k1 := h.fin
  simp only [wayM, O.wrong, O.sls, O.abs, O.go, Bool.false_eq_true, if_false, ne_eq, not_true]
  simp only [loopM, st, k1]
  simp
/-- In a ring, or behind forty: nowhere. -/
theorem Sees.ring (h : Sees V n row) (hn : n ≤ 60) (hn1 : 1 ≤ n) : ∀ (f links : Nat) (i : Nat), i < n → links + f = 41 → 1 ≤ f → (row = true → i = links ∧ 40 < n) → wayM V true f links 1 (nmL i) = (.zero, 17)
  | 0, _, _, _, _, h1, _ => by omega
  | f + 1, links, i, hi, hf, _, hr => by
    rw [h.one true f links hi hn, if_pos rfl]
    by_cases e : 40 < links + 1
    · rw [if_pos e]
    · rw [if_neg e]
      have ht : toL n row i = nmL ((i + 1) % n) := by
        unfold toL
        rw [if_neg]
        rintro ⟨e1, e2⟩
        have := hr e1
        omega
      rw [ht]
      refine h.ring hn hn1 f (links + 1) ((i + 1) % n) (Nat.mod_lt _ (by omega)) (by omega) (by omega) ?_
      intro e1
      have := hr e1
      rw [Nat.mod_eq_of_lt (by omega)]
      omega
/-- A row of at most forty: its end. -/
theorem Sees.line (h : Sees V n true) (hn : n ≤ 40) : ∀ (f links : Nat) (i : Nat), i < n → links = i → links + f = 41 → wayM V true f links 1 (nmL i) = (⟨((n + 2 : Nat) : Int), 1, endB⟩, 0)
  | 0, _, _, _, _, h1 => by omega
  | f + 1, links, i, hi, hl, hf => by
    rw [h.one true f links hi (by omega), if_pos rfl, if_neg (by omega)]
    by_cases e : i = n - 1
    · rw [show toL n true i = endB from if_pos ⟨rfl, e⟩]
      obtain ⟨f', rfl⟩ : ∃ f', f = f' + 1 := ⟨f - 1, by omega⟩
      exact h.stop f' _
    · rw [show toL n true i = nmL ((i + 1) % n) from if_neg (fun h => e h.2), Nat.mod_eq_of_lt (by omega)]
      exact h.line hn f (links + 1) (i + 1) (by omega) (by omega) (by omega)
end
end Go.Proofs.Ytgdjoojghkdcbaa

/- WalkLoops, walked. Conditions: none beyond the law's own tests. -/
namespace Go.Proofs.Ytgdjoojghkdcbaa
open Go.RowKit Go.PlainAid
set_option linter.unusedSimpArgs false

def oc (o : Opn) : List Value := [.int .i64 o.at', .string o.s, .int .i64 o.k, .int .i64 o.m, .string o.t]
def opc : List Opn → List Value
  | [] => []
  | o :: l => oc o ++ opc l
theorem opc_len : ∀ l, (opc l).length = l.length * 5
  | [] => rfl
  | o :: l => by simp only [opc, List.length_append, opc_len l, List.length_cons]; simp [oc]; omega
theorem opc_app (b : List Opn) : ∀ a, opc (a ++ b) = opc a ++ opc b
  | [] => rfl
  | o :: a => by simp only [List.cons_append, opc, opc_app b a, List.append_assoc]
theorem opc_get : ∀ (l : List Opn) (i : Nat) (o : Opn), l[i]? = some o → (opc l)[i * 5]? = some (.int .i64 o.at') ∧ (opc l)[i * 5 + 1]? = some (.string o.s) ∧ (opc l)[i * 5 + 2]? = some (.int .i64 o.k) ∧ (opc l)[i * 5 + 3]? = some (.int .i64 o.m) ∧ (opc l)[i * 5 + 4]? = some (.string o.t)
  | [], i, o, h => by simp at h
  | x :: l, 0, o, h => by simp at h; subst h; exact ⟨rfl, rfl, rfl, rfl, rfl⟩
  | x :: l, i + 1, o, h => by
    have ih := opc_get l i o (by simpa using h)
    have hl : (oc x).length = 5 := rfl
    have key : ∀ j, (opc (x :: l))[(i + 1) * 5 + j]? = (opc l)[i * 5 + j]? := fun j => by
      show (oc x ++ opc l)[(i + 1) * 5 + j]? = _
      rw [List.getElem?_append_right (by rw [hl]; omega), hl]
      congr 1
      omega
    exact ⟨(key 0).trans ih.1, (key 1).trans ih.2.1, (key 2).trans ih.2.2.1, (key 3).trans ih.2.2.2.1, (key 4).trans ih.2.2.2.2⟩
theorem ops_own {w : World} {base : Nat} {v : Value} {l : List Opn} (h : w.ownsRow base 52 5 v l.length (opc l)) (hl : 1 ≤ l.length) (hf : ∀ o ∈ l, o.Fits) : OpsAt w v l := by
  obtain ⟨g, c, rfl⟩ := row_shape h hl
  refine ⟨hf, .inr ⟨g, 0, c, rfl, fun i o hi => ?_⟩⟩
  obtain ⟨h0, h1, h2, h3, h4⟩ := opc_get l i o hi
  have key : ∀ j u, (opc l)[j]? = some u → w.cell? ⟨g, 0 + j, none⟩ = some u := fun j u e => by
    have := World.ownsRow.cells h (g := g) rfl j u e
    rwa [add_at] at this
  exact ⟨key _ _ h0, key _ _ h1, key _ _ h2, key _ _ h3, key _ _ h4⟩
theorem lp_fits {n : Nat} {row : Bool} : ∀ o ∈ lpL n row, o.Fits := by
  intro o ho
  rcases lp_mem ho with ⟨i, hi, rfl⟩ | rfl
  · have := (to_size n row i).2
    exact ⟨in64 (by show (-9223372036854775808 : Int) ≤ 0 ∧ (0 : Int) ≤ 9223372036854775807; decide), by show (1 : Nat) ≤ maxLen; decide, in64 (by show (-9223372036854775808 : Int) ≤ 3 ∧ (3 : Int) ≤ 9223372036854775807; decide), in64 (by show (-9223372036854775808 : Int) ≤ 511 ∧ (511 : Int) ≤ 9223372036854775807; decide), by show (toL n row i).size ≤ maxLen; unfold maxLen; omega⟩
  · exact ⟨in64 (by decide), by decide, in64 (by decide), in64 (by decide), by decide⟩
def RelLp (N : Nat) (row : Bool) (w : World) (v i : Value) (wr : World) : Prop := ∃ k : Nat, k ≤ N ∧ i = .int .i64 k ∧ wr.ownsRow w.heap.size 52 5 v k (opc ((List.range k).map (lkO N row))) ∧ Below w.heap.size w wr

theorem conv_one (w : World) (X : Int) (c : UInt8) (h : X = (c.toNat : Int)) : (convert 50 9 (.slice (some ⟨w.heap.size, 0, none⟩) 1 1)).run Try.prog (w.alloc (.cells #[.int .u8 X] 5)) = .ok (.string ⟨#[c]⟩) (w.alloc (.cells #[.int .u8 X] 5)) := by
  have hn := heap_alloc_new w (.cells #[.int .u8 X] 5)
  exact run_convert_bytes_back (P := Try.prog) _ 50 9 5 ⟨w.heap.size, 0, none⟩ 1 [c] Try.underlying50 Try.underlying5 Try.underlying9 (fun j hj => by
    have : j < 1 := hj
    obtain rfl : j = 0 := by omega
    show World.cell? _ ⟨w.heap.size, 0, none⟩ = some (.int .u8 (c.toNat : Int))
    rw [← h]
    exact cells_at hn rfl)
theorem byte_at {N k : Nat} (h2 : N ≤ 60) (hlt : k < N) : ∃ X Y : Int, X = (wrap64 (65 + ((k : Int) + 1) % (N : Int)) % 256) ∧ Y = 65 + (k : Int) ∧ X = ((UInt8.ofNat (65 + (k + 1) % N)).toNat : Int) ∧ Y = ((UInt8.ofNat (65 + k)).toNat : Int) := by
  have hm : (k + 1) % N < N := Nat.mod_lt _ (by omega)
  have e : ((k : Int) + 1) % (N : Int) = (((k + 1) % N : Nat) : Int) := by rw [Int.natCast_emod]; rfl
  refine ⟨_, _, rfl, rfl, ?_, ?_⟩
  · rw [e, nm_toNat (by omega)]
    unfold wrap64
    omega
  · rw [nm_toNat (by omega)]
    omega
theorem Try.info52 : (Try.prog.info? 52).map (fun i => (i.zero, i.size, i.bytes)) = some (some (.agg #[.int .i64 0, .string ⟨#[]⟩, .int .i64 0, .int .i64 0, .string ⟨#[]⟩]), 5, 56) := by kernel_rfl
theorem oc_cells (w : World) (o : Opn) : ∀ j u, (oc o)[j]? = some u → (w.alloc (.cells #[.int .i64 o.at', .string o.s, .int .i64 o.k, .int .i64 o.m, .string o.t] 52)).cell? ((⟨w.heap.size, 0, none⟩ : Addr).add j) = some u := by
  intro j u hj
  have h := heap_alloc_new w (.cells #[.int .i64 o.at', .string o.s, .int .i64 o.k, .int .i64 o.m, .string o.t] 52)
  rw [add_at, Nat.zero_add]
  match j, hj with
  | 0, hj => simp [oc] at hj; subst hj; exact cells_at h rfl
  | 1, hj => simp [oc] at hj; subst hj; exact cells_at h rfl
  | 2, hj => simp [oc] at hj; subst hj; exact cells_at h rfl
  | 3, hj => simp [oc] at hj; subst hj; exact cells_at h rfl
  | 4, hj => simp [oc] at hj; subst hj; exact cells_at h rfl
  | j + 5, hj => simp [oc] at hj
theorem oc_cells2 (w : World) (o1 : Obj) (o : Opn) : ∀ j u, (oc o)[j]? = some u → ((w.alloc o1).alloc (.cells #[.int .i64 o.at', .string o.s, .int .i64 o.k, .int .i64 o.m, .string o.t] 52)).cell? ((⟨w.heap.size + 1, 0, none⟩ : Addr).add j) = some u := by
  have h := oc_cells (w.alloc o1) o
  rwa [show (w.alloc o1).heap.size = w.heap.size + 1 by simp] at h
theorem grown_low {w wr w1 w' : World} {v : Value} {n : Nat} {xs : List Value} (hb : Below w.heap.size w wr) (hown : wr.ownsRow w.heap.size 52 5 v n xs) (hb1 : Below wr.heap.size wr w1) (hg : w1.grownBy w' v.ownBlock) : Below w.heap.size w w' := by
  have h1 := hb.trans (hb1.mono hb.size)
  refine h1.trans ⟨hg.os, hg.tape, hg.output, hg.size, fun k hk => hg.block k (by have := h1.size; omega) ?_⟩
  intro e
  have := (World.ownsRow.lt hown k e.symm).1
  omega
theorem lp_push {N k : Nat} {row : Bool} {t : ByteArray} {w wr w' : World} {v v' : Value} {o1 o2 : Obj} (ht : toL N row k = t) (hb : Below w.heap.size w wr) (hown : wr.ownsRow w.heap.size 52 5 v k (opc ((List.range k).map (lkO N row))))
    (h' : w'.ownsRow w.heap.size 52 5 v' (k + 1) (opc ((List.range k).map (lkO N row)) ++ oc ⟨0, nmL k, 3, 511, t⟩)) (hg : ((wr.alloc o1).alloc o2).grownBy w' v.ownBlock) :
    w'.ownsRow w.heap.size 52 5 v' (k + 1) (opc ((List.range (k + 1)).map (lkO N row))) ∧ Below w.heap.size w w' := by
  constructor
  · rw [List.range_succ, List.map_append, opc_app]
    have e : opc (List.map (lkO N row) [k]) = oc ⟨0, nmL k, 3, 511, t⟩ := by simp [opc, lkO, ht]
    rw [e]
    exact h'
  · exact grown_low hb hown (((Below.refl wr.heap.size wr).alloc (Nat.le_refl _) o1).alloc (by simp) o2) hg

set_option maxHeartbeats 2000000 in
set_option maxRecDepth 100000 in
theorem loops6_early (n : Int) (row : Bool) (w : World) (h : n < 1 ∨ 60 < n) : Calls Try.prog 6 #[.int .i64 n, .bool row] w fun e w' => e = .returned (.bool true) ∧ Below w.heap.size w w' := by
  have A := Lib.hid (anchor7 w)
  go_enter Try.func6, Try.ntmps6
  go_wp2_with fail
  refine A.out.mono ?_
  rintro e w1 ⟨rfl, b1⟩
  have HB1 := Lib.hid b1
  clear b1 A
  rcases h with h | h
  · have q1 : decide (n < 1) = true := decide_eq_true h
    go_wp2
    go_ret
    exact ⟨rfl, HB1.out⟩
  · have q1 : decide (n < 1) = false := decide_eq_false (by omega)
    have q2 : decide (60 < n) = true := decide_eq_true h
    go_wp2
    go_ret
    exact ⟨rfl, HB1.out⟩

set_option maxHeartbeats 4000000 in
set_option maxRecDepth 100000 in
theorem loops6_main (N : Nat) (row : Bool) (w : World) (h1 : 1 ≤ N) (h2 : N ≤ 60) : Calls Try.prog 6 #[.int .i64 N, .bool row] w fun e w' => e = .returned (.bool true) ∧ Below w.heap.size w w' := by
  have A := Lib.hid (anchor7 w)
  go_enter Try.func6, Try.ntmps6
  go_wp2_with fail
  refine A.out.mono ?_
  rintro e w1 ⟨rfl, b1⟩
  have R0 : Hid (RelLp N row w (.slice none 0 0) (.int .i64 0) w1) := Lib.hid ⟨0, Nat.zero_le _, rfl, World.ownsRow_nil _ _ _ _, b1⟩
  clear b1 A
  have q1 : decide ((N : Int) < 1) = false := decide_eq_false (by omega)
  have q2 : decide (60 < (N : Int)) = false := decide_eq_false (by omega)
  go_wp2
  go_loopw [5, 24] (RelLp N row w) (fun _ i _ => N - (intOf i).toNat)
  case atStart => exact R0.out
  case round =>
    clear R0
    obtain ⟨k, hk, rfl, hown, hb⟩ := hrel
    have HO := Lib.hid hown
    have HB := Lib.hid hb
    clear hown hb
    by_cases hlt : k < N
    · obtain ⟨X, Y, hX, rfl, cX, cY⟩ := byte_at h2 hlt
      have hN0 : ¬ N = 0 := by omega
      have hN1 : ¬ (N : Int) = 0 := by omega
      replace hX := hX.symm
      have C1 : (convert 50 9 (.slice (some ⟨wr.heap.size, 0, none⟩) 1 1)).run Try.prog (wr.alloc (.cells #[.int .u8 X] 5)) = .ok (.string (nmL ((k + 1) % N))) (wr.alloc (.cells #[.int .u8 X] 5)) := conv_one wr X _ cX
      have HB1 := Lib.hid (HB.out.alloc HB.out.size (.cells #[.int .u8 X] 5))
      have HO1 := Lib.hid (World.ownsRow.alloc HO.out (.cells #[.int .u8 X] 5))
      have HcY := Lib.hid cY
      clear cX cY
      go_upto_region 9 with fail
      go_cut [7] (fun u7 wx => u7 = .string (nmL ((k + 1) % N)) ∧ wx.ownsRow w.heap.size 52 5 u5 k (opc ((List.range k).map (lkO N row))) ∧ Below w.heap.size w wx)
      case first =>
        go_wp2
        go_meet
        case rel => exact ⟨rfl, HO1.out, HB1.out⟩
      case rest =>
        clear HB1 HO1 C1 hX HO HB
        obtain ⟨rfl, HO, HB⟩ := hcut
        replace HO := Lib.hid HO
        replace HB := Lib.hid HB
        by_cases hc : row = true ∧ k = N - 1
        · obtain ⟨rfl, hkn⟩ := hc
          have hc1 : ((k : Int) == (N : Int) - 1) = true := by simp; omega
          have ht : toL N true k = endB := if_pos ⟨rfl, hkn⟩
          clear hkn
          have C2 : (convert 50 9 (.slice (some ⟨wc.heap.size, 0, none⟩) 1 1)).run Try.prog (wc.alloc (.cells #[.int .u8 (65 + (k : Int))] 5)) = .ok (.string (nmL k)) (wc.alloc (.cells #[.int .u8 (65 + (k : Int))] 5)) := conv_one wc _ _ HcY.out
          obtain ⟨i0, hi0, hz0, hz1, hz2⟩ := info_parts Try.info52
          have HT := Lib.hid ht
          clear ht
          go_wp2_with (at_builtin; refine wpList_append_own _ rfl _ _ 22 rfl w.heap.size 52 i0 _ 5 56 Try.underlying22 hi0 hz0 hz1 hz2 rfl (by decide) _ _ _ rfl (World.ownsRow.alloc (World.ownsRow.alloc HO.out _) _) ⟨wc.heap.size + 1, 0, none⟩ 1 1 (oc ⟨0, nmL k, 3, 511, endB⟩) rfl rfl ?c1 ?c2 ?c3 ?c4 ?c5 ?_)
          case c1 => exact oc_cells2 wc _ _
          case c2 => intro u hu; simp [oc] at hu; rcases hu with rfl | rfl | rfl | rfl | rfl <;> rfl
          case c3 => unfold maxLen; omega
          case c4 => omega
          case c5 => have := HB.out.size; simp; omega
          · intro v' w13 hown' hgrow _
            obtain ⟨gq, cq, rfl⟩ := row_shape hown' (by omega)
            have HP := Lib.hid (lp_push HT.out HB.out HO.out hown' hgrow)
            clear hown' hgrow
            go_wp2
            go_roundw
            case rel => exact ⟨k + 1, hlt, by go_num, HP.out.1, HP.out.2⟩
            case measure => simp [intOf]; omega
        have ht : toL N row k = nmL ((k + 1) % N) := if_neg hc
        cases row with
        | false =>
          clear hc
          have C2 : (convert 50 9 (.slice (some ⟨wc.heap.size, 0, none⟩) 1 1)).run Try.prog (wc.alloc (.cells #[.int .u8 (65 + (k : Int))] 5)) = .ok (.string (nmL k)) (wc.alloc (.cells #[.int .u8 (65 + (k : Int))] 5)) := conv_one wc _ _ HcY.out
          obtain ⟨i0, hi0, hz0, hz1, hz2⟩ := info_parts Try.info52
          have HT := Lib.hid ht
          clear ht
          go_wp2_with (at_builtin; refine wpList_append_own _ rfl _ _ 22 rfl w.heap.size 52 i0 _ 5 56 Try.underlying22 hi0 hz0 hz1 hz2 rfl (by decide) _ _ _ rfl (World.ownsRow.alloc (World.ownsRow.alloc HO.out _) _) ⟨wc.heap.size + 1, 0, none⟩ 1 1 (oc ⟨0, nmL k, 3, 511, nmL ((k + 1) % N)⟩) rfl rfl ?c1 ?c2 ?c3 ?c4 ?c5 ?_)
          case c1 => exact oc_cells2 wc _ _
          case c2 => intro u hu; simp [oc] at hu; rcases hu with rfl | rfl | rfl | rfl | rfl <;> rfl
          case c3 => unfold maxLen; omega
          case c4 => omega
          case c5 => have := HB.out.size; simp; omega
          · intro v' w13 hown' hgrow _
            obtain ⟨gq, cq, rfl⟩ := row_shape hown' (by omega)
            have HP := Lib.hid (lp_push HT.out HB.out HO.out hown' hgrow)
            clear hown' hgrow
            go_wp2
            go_roundw
            case rel => exact ⟨k + 1, hlt, by go_num, HP.out.1, HP.out.2⟩
            case measure => simp [intOf]; omega
        | true =>
          have hc1 : ((k : Int) == (N : Int) - 1) = false := by
            simp only [true_and] at hc
            simp
            omega
          clear hc
          have C2 : (convert 50 9 (.slice (some ⟨wc.heap.size, 0, none⟩) 1 1)).run Try.prog (wc.alloc (.cells #[.int .u8 (65 + (k : Int))] 5)) = .ok (.string (nmL k)) (wc.alloc (.cells #[.int .u8 (65 + (k : Int))] 5)) := conv_one wc _ _ HcY.out
          obtain ⟨i0, hi0, hz0, hz1, hz2⟩ := info_parts Try.info52
          have HT := Lib.hid ht
          clear ht
          go_wp2_with (at_builtin; refine wpList_append_own _ rfl _ _ 22 rfl w.heap.size 52 i0 _ 5 56 Try.underlying22 hi0 hz0 hz1 hz2 rfl (by decide) _ _ _ rfl (World.ownsRow.alloc (World.ownsRow.alloc HO.out _) _) ⟨wc.heap.size + 1, 0, none⟩ 1 1 (oc ⟨0, nmL k, 3, 511, nmL ((k + 1) % N)⟩) rfl rfl ?c1 ?c2 ?c3 ?c4 ?c5 ?_)
          case c1 => exact oc_cells2 wc _ _
          case c2 => intro u hu; simp [oc] at hu; rcases hu with rfl | rfl | rfl | rfl | rfl <;> rfl
          case c3 => unfold maxLen; omega
          case c4 => omega
          case c5 => have := HB.out.size; simp; omega
          · intro v' w13 hown' hgrow _
            obtain ⟨gq, cq, rfl⟩ := row_shape hown' (by omega)
            have HP := Lib.hid (lp_push HT.out HB.out HO.out hown' hgrow)
            clear hown' hgrow
            go_wp2
            go_roundw
            case rel => exact ⟨k + 1, hlt, by go_num, HP.out.1, HP.out.2⟩
            case measure => simp [intOf]; omega
    obtain rfl : k = N := by omega
    obtain ⟨i0, hi0, hz0, hz1, hz2⟩ := info_parts Try.info52
    go_wp2_with (at_builtin; refine wpList_append_own _ rfl _ _ 22 rfl w.heap.size 52 i0 _ 5 56 Try.underlying22 hi0 hz0 hz1 hz2 rfl (by decide) _ _ _ rfl (World.ownsRow.alloc HO.out _) ⟨wr.heap.size, 0, none⟩ 1 1 (oc endO) rfl rfl ?c1 ?c2 ?c3 ?c4 ?c5 ?_)
    case c1 => exact oc_cells wr endO
    case c2 => intro u hu; simp [oc] at hu; rcases hu with rfl | rfl | rfl | rfl | rfl <;> rfl
    case c3 => unfold maxLen; omega
    case c4 => omega
    case c5 => have := HB.out.size; simp; omega
    · intro v' w2 hown' hgrow _
      obtain ⟨gq, cq, rfl⟩ := row_shape hown' (by omega)
      have hb2 := grown_low HB.out HO.out ((Below.refl wr.heap.size wr).alloc (Nat.le_refl _) _) hgrow
      have hops : OpsAt w2 (.slice (some ⟨gq, 0, none⟩) (k + 1) cq) (lpL k row) := by
        refine ops_own (base := w.heap.size) ?_ (by rw [lp_len]; omega) lp_fits
        rw [lp_len, lpL, opc_app]
        exact hown'
      have CB := Lib.hid (built9 _ (lpL k row) w2 hops (by rw [lp_len]; omega) (lp_sizes k row))
      have HB2 := Lib.hid hb2
      clear hown' hgrow hops hb2 HO HB
      go_wp2_with fail
      refine CB.out.mono ?_
      rintro e w3 ⟨D, L, S, R, ds, v, Z, rfl, K, B, Hh, hZ, X, b3, O⟩
      obtain ⟨g, c, rfl⟩ := X.shape (by have := Hh.sim.two; rw [← hZ] at this; simp at this; omega)
      have A3 := (Below.refl w3.heap.size w3).alloc (Nat.le_refl _) (.cells #[.slice (some ⟨g, 0, none⟩) Z.length c, .int .i64 1048576] 28)
      have B3 := HB2.out.trans (b3.mono HB2.out.size)
      have HB3 := Lib.hid (B3.trans (A3.mono B3.size))
      have HK := Lib.hid (K.below A3)
      have HG := Lib.hid Hh.good
      have HSe := Lib.hid (sees_of (flat_of B (lp_flat row h2)))
      clear CB K B Hh hZ X b3 O B3 A3 HB2
      by_cases h60 : k = 60
      · have q3 : ((k : Int) == 60) = true := by simp; omega
        clear h60
        go_wp2
        go_ret
        exact ⟨rfl, HB3.out⟩
      have q3 : ((k : Int) == 60) = false := by simp; omega
      clear h60
      have C1 := find10 L D S _ HK.out HG.out 1 (in64 (by decide)) (nmL 0) (by rw [nm_size]; decide) true
      have C2 : ∀ w', Below (w3.alloc (.cells #[.slice (some ⟨g, 0, none⟩) Z.length c, .int .i64 1048576] 28)).heap.size (w3.alloc (.cells #[.slice (some ⟨g, 0, none⟩) Z.length c, .int .i64 1048576] 28)) w' → Calls Try.prog 10 #[.pointer (some ⟨D, 0, none⟩), .int .i64 1, .string (nmL 0), .bool false] w' (GivesP w' (⟨2, 1, nmL 0⟩, 0)) := by
        intro w' hb'
        have := find10 L D S _ (HK.out.below hb') HG.out 1 (in64 (by decide)) (nmL 0) (by rw [nm_size]; decide) false
        rw [HSe.out.one false 40 0 (i := 0) (by omega) h2, if_neg (by decide)] at this
        exact this
      rw [show nmL 0 = ⟨#[65]⟩ from rfl] at C1 C2
      have HC2 := Lib.hid C2
      clear C2
      by_cases hr : row = true ∧ k ≤ 40
      · obtain ⟨rfl, h40⟩ := hr
        rw [show wayM (vwS S) true 41 0 1 ⟨#[65]⟩ = (⟨((k + 2 : Nat) : Int), 1, endB⟩, 0) from HSe.out.line h40 41 0 0 (by omega) rfl rfl] at C1
        have q4 : decide (40 < (k : Int)) = false := decide_eq_false (by omega)
        have q5 : (((k + 2 : Nat) : Int) != 0) = true := by simp; omega
        generalize ((k + 2 : Nat) : Int) = K2 at C1 q5
        have HC1 := Lib.hid C1
        clear C1 h40
        go_wp2_with fail
        refine HC1.out.mono ?_
        rintro e w4 ⟨rfl, b4⟩
        have B5 := b4.alloc b4.size (.cells #[.int .i64 K2, .int .i64 1, .string endB] 32)
        have HC3 := Lib.hid (HC2.out _ B5)
        have HB5 := Lib.hid B5
        have HN5 := Lib.hid (heap_alloc_new w4 (.cells #[.int .i64 K2, .int .i64 1, .string endB] 32))
        clear b4 B5 HC1 HC2
        go_wp2_with fail
        refine HC3.out.mono ?_
        rintro e w6 ⟨rfl, b6⟩
        have N6 := (b6.block _ (lt_of_block HN5.out)).trans HN5.out
        have A7 := (Below.refl w6.heap.size w6).alloc (Nat.le_refl _) (.cells #[.int .i64 2, .int .i64 1, .string ⟨#[65]⟩] 32)
        have N7 := (A7.block _ (lt_of_block N6)).trans N6
        have B6 := HB5.out.trans (b6.mono HB5.out.size)
        have B7 := B6.trans (A7.mono B6.size)
        have HBF := Lib.hid (HB3.out.trans (B7.mono HB3.out.size))
        have x0 := cells_at N7 (i := 0) rfl
        have x2 := cells_at N7 (i := 2) rfl
        clear b6 N6 A7 N7 B6 B7 HB5 HN5 HC3
        go_wp2
        go_ret
        exact ⟨rfl, HBF.out⟩
      rw [show wayM (vwS S) true 41 0 1 ⟨#[65]⟩ = (.zero, 17) from HSe.out.ring h2 h1 41 0 0 (by omega) rfl (by decide) (fun e => ⟨rfl, by have : ¬ k ≤ 40 := fun q => hr ⟨e, q⟩; omega⟩)] at C1
      cases row with
      | false =>
        clear hr
        have HC1 := Lib.hid C1
        clear C1
        go_wp2_with fail
        refine HC1.out.mono ?_
        rintro e w4 ⟨rfl, b4⟩
        have B5 := b4.alloc b4.size (.cells #[.int .i64 0, .int .i64 0, .string ⟨#[]⟩] 32)
        have HC3 := Lib.hid (HC2.out _ B5)
        have HB5 := Lib.hid B5
        have HN5 := Lib.hid (heap_alloc_new w4 (.cells #[.int .i64 0, .int .i64 0, .string ⟨#[]⟩] 32))
        clear b4 B5 HC1 HC2
        go_wp2_with fail
        refine HC3.out.mono ?_
        rintro e w6 ⟨rfl, b6⟩
        have N6 := (b6.block _ (lt_of_block HN5.out)).trans HN5.out
        have A7 := (Below.refl w6.heap.size w6).alloc (Nat.le_refl _) (.cells #[.int .i64 2, .int .i64 1, .string ⟨#[65]⟩] 32)
        have N7 := (A7.block _ (lt_of_block N6)).trans N6
        have B6 := HB5.out.trans (b6.mono HB5.out.size)
        have B7 := B6.trans (A7.mono B6.size)
        have HBF := Lib.hid (HB3.out.trans (B7.mono HB3.out.size))
        have x0 := cells_at N7 (i := 0) rfl
        have x1 := cells_at N7 (i := 1) rfl
        have x2 := cells_at N7 (i := 2) rfl
        clear b6 N6 A7 N7 B6 B7 HB5 HN5 HC3
        go_wp2
        go_ret
        exact ⟨rfl, HBF.out⟩
      | true =>
        have q4 : decide (40 < (k : Int)) = true := decide_eq_true (by have : ¬ k ≤ 40 := fun q => hr ⟨rfl, q⟩; omega)
        clear hr
        have HC1 := Lib.hid C1
        clear C1
        go_wp2_with fail
        refine HC1.out.mono ?_
        rintro e w4 ⟨rfl, b4⟩
        have B5 := b4.alloc b4.size (.cells #[.int .i64 0, .int .i64 0, .string ⟨#[]⟩] 32)
        have HC3 := Lib.hid (HC2.out _ B5)
        have HB5 := Lib.hid B5
        have HN5 := Lib.hid (heap_alloc_new w4 (.cells #[.int .i64 0, .int .i64 0, .string ⟨#[]⟩] 32))
        clear b4 B5 HC1 HC2
        go_wp2_with fail
        refine HC3.out.mono ?_
        rintro e w6 ⟨rfl, b6⟩
        have N6 := (b6.block _ (lt_of_block HN5.out)).trans HN5.out
        have A7 := (Below.refl w6.heap.size w6).alloc (Nat.le_refl _) (.cells #[.int .i64 2, .int .i64 1, .string ⟨#[65]⟩] 32)
        have N7 := (A7.block _ (lt_of_block N6)).trans N6
        have B6 := HB5.out.trans (b6.mono HB5.out.size)
        have B7 := B6.trans (A7.mono B6.size)
        have HBF := Lib.hid (HB3.out.trans (B7.mono HB3.out.size))
        have x0 := cells_at N7 (i := 0) rfl
        have x1 := cells_at N7 (i := 1) rfl
        have x2 := cells_at N7 (i := 2) rfl
        clear b6 N6 A7 N7 B6 B7 HB5 HN5 HC3
        go_wp2
        go_ret
        exact ⟨rfl, HBF.out⟩
theorem loops_in (n : Int) (row : Bool) (w : World) : Calls Try.prog 6 #[.int .i64 n, .bool row] w fun e w' => e = .returned (.bool true) ∧ Below w.heap.size w w' := by
  by_cases h : n < 1 ∨ 60 < n
  · exact loops6_early n row w h
  · obtain ⟨N, rfl⟩ : ∃ N : Nat, n = N := ⟨n.toNat, by omega⟩
    exact loops6_main N row w (by omega) (by omega)
end Go.Proofs.Ytgdjoojghkdcbaa

/- WalkLoops: for every input the law's function returns true, and each argument reads behind the call as it read before. Conditions: none but the row's own. -/
namespace Go.Proofs.Ytgdjoojghkdcbaa.walkLoops
open Go.ChangeShapes Go.WideShapes Go.ChangeAt Go.RowKit
open Go.ChangeMaps (open_string shut_string)
set_option linter.unusedVariables false

theorem own : ownKnob Try.prog.godebug = none := by kernel_rfl
theorem laidOut : laidOutB Try.prog = true := by kernel_rfl

set_option maxRecDepth 100000 in
theorem lifted (os : Os) (started : os.Started) (H : Type) (enc : TypeId × Value → H) :
    ReturnsInHanded {} Try.checked os 6 .any (Rows.walkLoopsSpec.pre6 enc Try.prog Try.f6 Rows.walkLoopsRow.domain false) (Rows.walkLoopsSpec.post enc Try.prog Try.f6 false true false false) := by
  refine returnsInHanded_of_change_sized (C := Try.checked) own started (by kernel_rfl) Try.func6
    (ChangeSpec.witness6 (enc := enc) (C := Try.checked) false ⟨#[], #[.int .i64 0, .bool false], []⟩ 8 (by kernel_rfl) (by kernel_rfl) (by kernel_rfl) (by kernel_rfl)) ?_
  intro W base args ds gs before hval0 hW _ hsz0 _
  have hsz : (DataW.weightsEach Try.prog (Try.f6.params.toList ++ Rows.walkLoopsSpec.plain.varTypes Try.prog) (ds ++ gs)).all (· ≤ reachBytes) = true := hsz0
  clear hsz0
  have hval : ∀ (j : Nat) t v, Try.f6.params[j]? = some t → args[j]? = some v → Value.okWide Try.prog W .any base t v := hval0
  have hW' := hW
  obtain ⟨p, q, hA0, hV, rfl, hfz, hnd⟩ := hW
  have hA : DataW.TrodAll enc Try.prog W 0 (fun _ => true) true Try.f6.params.toList args.toList ds p := hA0
  rw [Try.params6] at hA hval hsz
  obtain ⟨v0, vs0, d0, ds0, p0, q0, hargs, rfl, rfl, h0, r0⟩ := trodAll_cons hA
  obtain ⟨v1, vs1, d1, ds1, p1, q1, rfl, rfl, rfl, h1, r1⟩ := trodAll_cons r0
  obtain ⟨rfl, rfl, rfl⟩ := trodAll_nil r1
  obtain rfl : args = #[v0, v1] := by cases args; simp_all
  obtain ⟨rfl, rfl⟩ := trodVars_none hV
  obtain ⟨a0, rfl, rfl, rfl, w0⟩ := open_int Try.underlying3 (hval 0 3 v0 rfl rfl) h0
  obtain ⟨a1, rfl, rfl, rfl⟩ := open_bool Try.underlying4 (hval 1 4 v1 rfl rfl) h1
  clear hA0 hval0
  simp only [List.append_nil] at hW'
  refine (loops_in a0 a1  W).mono fun e W' ⟨he, bel⟩ => ?_
  subst he
  exact ⟨_, rfl, _, _, _, [], [], [], hW', trodAll_mk1 (shut_bool Try.underlying4 _), (trodAll_cons_mk (shut_int Try.underlying3 w0) (trodAll_cons_mk (shut_bool Try.underlying4 _) trodAll_mk0)), rfl, bel.frame _, fun h => by cases h⟩

theorem over : Rows.walkLoopsRow.holds Try.pinned (OpenSpec.ofChange Rows.walkLoopsSpec) :=
  OpenClaim.holds_of_wide 6 Try.f6 rfl rfl rfl rfl rfl rfl rfl ⟨rfl, rfl, rfl, rfl, rfl⟩ rfl rfl rfl rfl rfl (by kernel_rfl) Try.func6 (by kernel_rfl)
    (of_decide_eq_true (by kernel_rfl)) (by unfold Func.isWrapper; first | (rw [if_pos (by decide +kernel)]; kernel_rfl) | (rw [if_neg (by decide +kernel)]; exact ⟨rfl, rfl⟩))
    (fun os started H enc _ => lifted os started H enc)

end Go.Proofs.Ytgdjoojghkdcbaa.walkLoops

namespace Go.Proofs.Ytgdjoojghkdcbaa
theorem walkLoops_holds : Rows.WalkLoopsSaid := walkLoops.over
#print axioms walkLoops_holds
end Go.Proofs.Ytgdjoojghkdcbaa
