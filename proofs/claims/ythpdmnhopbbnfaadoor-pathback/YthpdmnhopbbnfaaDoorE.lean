/- Contracts of between and Pieces: a text's pieces, in a new list. Condition: the text has at most 10000 bytes. -/
import Derived.Test.YthpdmnhopbbnfaaDoorD
import Derived.Laws.EntriesVeiled
import Derived.OneCell
import Derived.OwnWalk
namespace Go.Proofs.YthpdmnhopbbnfaaDoor
open Go.RowKit Go.PlainAid
set_option linter.unusedSimpArgs false

/-- The pieces behind a place, n bytes ahead of the end, of which the first begins at b. -/
def pcsF (s : ByteArray) : Nat → Nat → List ByteArray
  | 0, b => [s.extract b s.size]
  | n + 1, b => if (bt s (s.size - (n + 1)) == 47) = true then s.extract b (s.size - (n + 1)) :: pcsF s n (s.size - n) else pcsF s n b
def pcs (s : ByteArray) : List ByteArray := pcsF s s.size 0
theorem pcsF_end (s : ByteArray) (k b : Nat) (h : k = s.size) : pcsF s (s.size - k) b = [s.extract b s.size] := by subst h; rw [Nat.sub_self]; rfl
theorem pcsF_hit (s : ByteArray) (k b : Nat) (h : k < s.size) (hc : (bt s k == 47) = true) : pcsF s (s.size - k) b = s.extract b k :: pcsF s (s.size - (k + 1)) (k + 1) := by
  obtain ⟨n, hn⟩ : ∃ n, s.size - k = n + 1 := ⟨s.size - k - 1, by omega⟩
  rw [hn, pcsF, show s.size - (n + 1) = k by omega, if_pos hc, show s.size - n = k + 1 by omega, show s.size - (k + 1) = n by omega]
theorem pcsF_miss (s : ByteArray) (k b : Nat) (h : k < s.size) (hc : (bt s k == 47) = false) : pcsF s (s.size - k) b = pcsF s (s.size - (k + 1)) b := by
  obtain ⟨n, hn⟩ : ∃ n, s.size - k = n + 1 := ⟨s.size - k - 1, by omega⟩
  rw [hn, pcsF, show s.size - (n + 1) = k by omega, hc, if_neg (by decide), show s.size - (k + 1) = n by omega]

/-- A list of texts as values. -/
def strs (l : List ByteArray) : List Value := l.map Value.string
theorem strs_len (l : List ByteArray) : (strs l).length = l.length := List.length_map _
theorem strs_snoc (l : List ByteArray) (x : ByteArray) : strs l ++ [.string x] = strs (l ++ [x]) := by simp [strs]

/-- v is a list of just these texts, in memory of the call's own. -/
def OwnsL (B : Nat) (v : Value) (l : List ByteArray) (w : World) : Prop := w.ownsRow B 9 1 v l.length (strs l)
/-- The call returns a list of just these texts. -/
def GivesL (w : World) (l : List ByteArray) (e : Ending) (w' : World) : Prop := ∃ v, e = .returned v ∧ OwnsL w.heap.size v l w' ∧ Below w.heap.size w w'

theorem Tryd.info9 : (Tryd.prog.info? 9).map (fun i => (i.zero, i.size, i.bytes)) = some (some (.string ⟨#[]⟩), 1, 16) := by kernel_rfl
theorem new_one (w : World) (x : ByteArray) : ∀ j u, [Value.string x][j]? = some u → (w.alloc (.cells #[.string x] 9)).cell? ((⟨w.heap.size, 0, none⟩ : Addr).add j) = some u := by
  intro j u hj
  match j, hj with
  | 0, hj => simp at hj; subst hj; simp [Addr.add]
theorem own_push {w wr w1 : World} {acc : List ByteArray} {v v' : Value} {x : ByteArray} {o : Obj} (h0 : OwnsL w.heap.size v acc wr) (hb : Below w.heap.size w wr)
    (hown : w1.ownsRow w.heap.size 9 1 v' (acc.length + 1) (strs acc ++ [.string x])) (hg : (wr.alloc o).grownBy w1 v.ownBlock) :
    OwnsL w.heap.size v' (acc ++ [x]) w1 ∧ Below w.heap.size w w1 := by
  refine ⟨?_, (hb.alloc hb.size o).grown hg (by simp; have := hb.size; omega) (fun j hj => (World.ownsRow.lt h0 j hj).1)⟩
  unfold OwnsL
  rw [List.length_append, ← strs_snoc]
  exact hown
theorem own_nil (w : World) : OwnsL w.heap.size (.slice none 0 0) [] w := ⟨rfl, .inl ⟨rfl, rfl⟩⟩

def Rel29 (w : World) (s : ByteArray) (v b i : Value) (wr : World) : Prop :=
  ∃ (k bg : Nat) (acc : List ByteArray), k ≤ s.size ∧ bg ≤ k ∧ i = .int .i64 k ∧ b = .int .i64 bg ∧ acc.length ≤ k ∧ OwnsL w.heap.size v acc wr ∧ Below w.heap.size w wr ∧ acc ++ pcsF s (s.size - k) bg = pcs s

theorem slice_shape {w : World} {base : Nat} {e : TypeId} {size : Nat} {v : Value} {n : Nat} {xs : List Value} (h : w.ownsRow base e size v n xs) : ∃ a l c, v = .slice a l c := by
  rcases h.2 with ⟨rfl, _⟩ | ⟨g, cap, cur, rfl, _⟩
  · exact ⟨_, _, _, rfl⟩
  · exact ⟨_, _, _, rfl⟩

set_option maxHeartbeats 2000000 in
set_option maxRecDepth 100000 in
theorem between29 (s : ByteArray) (w : World) (hs : s.size ≤ 10000) : Calls Tryd.prog 29 #[.string s] w (GivesL w (pcs s)) := by
  obtain ⟨i0, hi0, hz0, hz1, hz2⟩ := info_parts Tryd.info9
  have hb := get_bt s
  go_enter Tryd.func29, Tryd.ntmps29
  go_wp2
  go_loopw [3, 4, 8] (Rel29 w s) (fun _ _ i _ => s.size - (intOf i).toNat)
  case atStart => exact ⟨0, 0, [], Nat.zero_le _, Nat.le_refl _, rfl, rfl, Nat.le_refl _, own_nil w, Below.refl _ _, rfl⟩
  case round =>
    obtain ⟨k, bg, acc, hk, hbg, rfl, rfl, hal, hown, hbel, hr⟩ := hrel
    have hbs := hbel.size
    have HO := Lib.hid hown
    have HL := Lib.hid hbel
    have HR := Lib.hid hr
    obtain ⟨a, l, c, rfl⟩ := slice_shape hown
    clear hown hbel hr
    by_cases hlt : k < s.size
    · cases hc : (bt s k == 47)
      · have HN := Lib.hid (pcsF_miss s k bg hlt hc)
        go_wp2
        go_roundw
        case rel => exact ⟨k + 1, bg, acc, hlt, by omega, by go_num, rfl, by omega, HO.out, HL.out, by rw [← HN.out]; exact HR.out⟩
        case measure => simp [intOf]; omega
      · have HN := Lib.hid (pcsF_hit s k bg hlt hc)
        go_wp2_with (at_builtin; refine wpList_append_own _ rfl _ _ 25 rfl w.heap.size 9 i0 (.string ⟨#[]⟩) 1 16 Tryd.underlying25 hi0 hz0 hz1 hz2 rfl (by decide) _ _ _ rfl (World.ownsRow.alloc HO.out _) ⟨wr.heap.size, 0, none⟩ 1 1 [.string (s.extract bg k)] rfl rfl ?c1 ?c2 ?c3 ?c4 ?c5 ?_)
        case c1 => exact new_one wr _
        case c2 => intro u hu; simp at hu; subst hu; rfl
        case c3 => unfold maxLen; omega
        case c4 => omega
        case c5 => simp; omega
        · intro v' w1 hown' hgrow _
          have P := Lib.hid (own_push HO.out HL.out hown' hgrow)
          clear hown' hgrow
          go_wp2
          go_roundw
          case rel => exact ⟨k + 1, k + 1, acc ++ [s.extract bg k], hlt, Nat.le_refl _, by go_num, by go_num, by simp; omega, P.out.1, P.out.2, by rw [List.append_assoc, List.singleton_append, ← HN.out]; exact HR.out⟩
          case measure => simp [intOf]; omega
    · obtain rfl : k = s.size := by omega
      have HN := Lib.hid (pcsF_end s s.size bg rfl)
      go_wp2_with (at_builtin; refine wpList_append_own _ rfl _ _ 25 rfl w.heap.size 9 i0 (.string ⟨#[]⟩) 1 16 Tryd.underlying25 hi0 hz0 hz1 hz2 rfl (by decide) _ _ _ rfl (World.ownsRow.alloc HO.out _) ⟨wr.heap.size, 0, none⟩ 1 1 [.string (s.extract bg s.size)] rfl rfl ?d1 ?d2 ?d3 ?d4 ?d5 ?_)
      case d1 => exact new_one wr _
      case d2 => intro u hu; simp at hu; subst hu; rfl
      case d3 => unfold maxLen; omega
      case d4 => omega
      case d5 => simp; omega
      · intro v' w1 hown' hgrow _
        obtain ⟨a', l', c', rfl⟩ := slice_shape hown'
        have P := Lib.hid (own_push HO.out HL.out hown' hgrow)
        clear hown' hgrow
        go_wp2
        go_ret
        exact ⟨_, rfl, by rw [← HR.out, HN.out]; exact P.out.1, P.out.2⟩
end Go.Proofs.YthpdmnhopbbnfaaDoor
