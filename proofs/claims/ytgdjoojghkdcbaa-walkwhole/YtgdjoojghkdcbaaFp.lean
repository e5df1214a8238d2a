/- Where a path leads, over what a walk sees of nodes: plain. No condition. -/
import Derived.Test.YtgdjoojghkdcbaaPa
import Derived.Test.YtgdjoojghkdcbaaSh
namespace Go.Proofs.Ytgdjoojghkdcbaa
open Go.RowKit Go.PlainAid Pth

theorem ls_app (a b : ByteArray) : ls (a ++ b) = ls a ++ ls b := by simp [ls]
theorem app_nil (x : ByteArray) : x ++ (⟨#[]⟩ : ByteArray) = x := by apply ls_inj; rw [ls_app]; simp [ls]
theorem app_assoc (a b c : ByteArray) : a ++ b ++ c = a ++ (b ++ c) := by apply ls_inj; simp only [ls_app, List.append_assoc]
theorem app_size (a b : ByteArray) : (a ++ b).size = a.size + b.size := by simp

/-- Does a text end with a slash? -/
def slsB (s : ByteArray) : Bool := decide (0 < s.size) && (bt s (s.size - 1) == 47)
theorem suffix_is (s : ByteArray) : Lib.hasSuffix s.data.toList [47] = slsB s := by
  have hs : s.data.toList.length = s.size := Array.length_toList
  unfold Lib.hasSuffix slsB
  by_cases h0 : s.size = 0
  · rw [decide_eq_false (by omega), Bool.false_and]
    cases hl : s.data.toList with
    | nil => rfl
    | cons a l => rw [hl] at hs; simp at hs; omega
  · rw [decide_eq_true (by omega), Bool.true_and]
    obtain ⟨l, c, hl⟩ : ∃ l c, s.data.toList = l ++ [c] := ⟨s.data.toList.dropLast, s.data.toList.getLast (by intro e; rw [e] at hs; simp at hs; omega), (List.dropLast_concat_getLast _).symm⟩
    have hc : bt s (s.size - 1) = (c.toNat : Int) := by
      have h1 : s.data.toList[s.size - 1]? = some c := by
        have : s.size - 1 = l.length := by rw [hl] at hs; simp at hs; omega
        rw [hl, this]; simp
      exact ((data_get s (s.size - 1) c).1 h1).2
    rw [hc, hl]
    by_cases e : c = 47
    · subst e
      rw [show ((47 : UInt8).toNat : Int) = 47 from rfl]
      simp [List.isSuffixOf]
    · have : ((c.toNat : Int) == 47) = false := by
        have : c.toNat ≠ 47 := fun e' => e (UInt8.toNat.inj e')
        simp; omega
      rw [this]
      cases hb : [47].isSuffixOf (l ++ [c])
      · rfl
      · obtain ⟨t, ht⟩ := List.isSuffixOf_iff_suffix.1 hb
        have := (List.append_inj' ht rfl).2
        simp at this
        exact absurd this.symm e

/-- What keeps a text from being gone. -/
def wrongE (s : ByteArray) : Int := if s.size = 0 then 12 else if 4095 < s.size then 18 else if hasB s 0 = true then 11 else 0
def tailJ : List ByteArray → ByteArray
  | [] => ⟨#[]⟩
  | y :: r => ⟨#[47]⟩ ++ y ++ tailJ r
def joinL : List ByteArray → ByteArray
  | [] => ⟨#[]⟩
  | x :: r => x ++ tailJ r
theorem ls_toList (s : ByteArray) : ls s = s.data.toList := rfl
theorem tail_is : ∀ l : List ByteArray, ls (tailJ l) = Lib.joinTail [47] (l.map (·.data.toList))
  | [] => rfl
  | y :: r => by
    have := tail_is r
    unfold Lib.joinTail at this ⊢
    simp only [tailJ, ls_app, this, List.map_cons, List.flatten_cons]
theorem join_is : ∀ l : List ByteArray, (⟨(Lib.join (l.map (·.data.toList)) [47]).toArray⟩ : ByteArray) = joinL l
  | [] => rfl
  | x :: r => by
    apply ls_inj
    rw [List.map_cons, Lib.join_cons, joinL, ls_app, tail_is]
def totL : List ByteArray → Nat
  | [] => 0
  | x :: r => x.size + 1 + totL r
theorem tail_size : ∀ l, (tailJ l).size = totL l
  | [] => rfl
  | y :: r => by simp only [tailJ, app_size, tail_size r, totL]; rw [show (⟨#[47]⟩ : ByteArray).size = 1 from rfl]; omega
theorem join_size : ∀ l, l ≠ [] → (joinL l).size + 1 = totL l
  | [], h => absurd rfl h
  | x :: r, _ => by simp only [joinL, app_size, tail_size r, totL]; omega
theorem join_le (l : List ByteArray) : (joinL l).size ≤ totL l := by
  cases l with
  | nil => exact Nat.le_refl _
  | cons x r => have := join_size (x :: r) (by simp); omega
theorem tot_filter (p : ByteArray → Bool) : ∀ l, totL (l.filter p) ≤ totL l
  | [] => Nat.le_refl _
  | x :: r => by
    have := tot_filter p r
    rw [List.filter_cons]
    split <;> simp only [totL] <;> omega
theorem tot_drop : ∀ (k : Nat) (l : List ByteArray), totL (l.drop k) ≤ totL l
  | 0, l => Nat.le_refl _
  | k + 1, [] => Nat.le_refl _
  | k + 1, x :: r => by have := tot_drop k r; simp only [List.drop_succ_cons, totL]; omega
theorem tot_pcs (s : ByteArray) : ∀ n b, n ≤ s.size → b ≤ s.size - n → totL (pcsF s n b) = s.size - b + 1
  | 0, b, h, hb => by simp only [pcsF, totL, ext_size]; omega
  | n + 1, b, h, hb => by
    rw [pcsF]
    split
    · have := tot_pcs s n (s.size - n) (by omega) (by omega)
      simp only [totL, ext_size, this]
      omega
    · exact tot_pcs s n b (by omega) (by omega)
theorem tot_parts (s : ByteArray) : totL (partsL s) ≤ s.size + 1 := by
  have h := tot_filter (fun x => decide (0 < x.size)) (pcs s)
  have h2 := tot_pcs s s.size 0 (Nat.le_refl _) (by omega)
  unfold partsL
  unfold pcs at h ⊢
  omega
/-- A piece has no slash. -/
def Bare (x : ByteArray) : Prop := 0 < x.size ∧ ∀ k, k < x.size → bt x k ≠ 47
theorem pcs_bare (s : ByteArray) : ∀ n b, n ≤ s.size → b ≤ s.size - n → (∀ k, b ≤ k → k < s.size - n → bt s k ≠ 47) → ∀ x ∈ pcsF s n b, ∀ k, k < x.size → bt x k ≠ 47
  | 0, b, h, hb, hc, x, hx, k, hk => by
    simp only [pcsF, List.mem_singleton] at hx
    subst hx
    rw [ext_size] at hk
    rw [ext_bt s b s.size k (by omega)]
    exact hc _ (by omega) (by omega)
  | n + 1, b, h, hb, hc, x, hx, k, hk => by
    rw [pcsF] at hx
    split at hx
    · rcases List.mem_cons.1 hx with rfl | hx
      · rw [ext_size] at hk
        rw [ext_bt s b _ k (by omega)]
        exact hc _ (by omega) (by omega)
      · exact pcs_bare s n (s.size - n) (by omega) (by omega) (fun k h1 h2 => by omega) x hx k hk
    · rename_i h47
      refine pcs_bare s n b (by omega) (by omega) (fun k h1 h2 => ?_) x hx k hk
      by_cases e : k = s.size - (n + 1)
      · subst e; simpa using h47
      · exact hc k h1 (by omega)
theorem parts_bare (s : ByteArray) : ∀ x ∈ partsL s, Bare x := by
  intro x hx
  unfold partsL at hx
  obtain ⟨h1, h2⟩ := List.mem_filter.1 hx
  exact ⟨by simpa using h2, pcs_bare s s.size 0 (Nat.le_refl _) (by omega) (fun k h1 h2 => by omega) x h1⟩

/-- The parts that are gone. -/
def goL (s : ByteArray) : List ByteArray := if (partsL s).length = 0 then [⟨#[46]⟩] else partsL s
/-- A link's target, and what is left. -/
def behS (t : ByteArray) (l : List ByteArray) (slash : Bool) : ByteArray :=
  if slash = true then joinS (if 0 < l.length then joinS t (joinL l) else t) ⟨#[]⟩ else (if 0 < l.length then joinS t (joinL l) else t)
def dataV (o : Option Vw) : ByteArray := match o with
  | none => ⟨#[]⟩
  | some x => x.data

def loopM (V : Int → Option Vw) (k : Nat → Int → ByteArray → Pla × Int) (follow slash : Bool) : Nat → Int → List ByteArray → Pla → Pla × Int
  | _, _, [], p => if (slash = true ∧ p.node ≠ 0) ∧ kindV (V p.node) ≠ 2 then (.zero, 14) else (p, 0)
  | links, a, x :: l, _ =>
    if (stepM V a x).2 ≠ 0 then (.zero, (stepM V a x).2)
    else if ((0 < l.length ∨ slash = true) ∨ follow = true) ∧ kindV (V (stepM V a x).1.node) = 3 then
      (if 40 < links + 1 then (.zero, 17)
       else if (dataV (V (stepM V a x).1.node)).size ≠ 0 then k (links + 1) a (behS (dataV (V (stepM V a x).1.node)) l slash)
       else loopM V k follow slash (links + 1) (stepM V a x).1.node l (stepM V a x).1)
    else loopM V k follow slash links (stepM V a x).1.node l (stepM V a x).1
def wayM (V : Int → Option Vw) (follow : Bool) : Nat → Nat → Int → ByteArray → Pla × Int
  | 0, _, _, _ => (.zero, 17)
  | f + 1, links, a, s => if wrongE s ≠ 0 then (.zero, wrongE s) else loopM V (wayM V follow f) follow (slsB s) links (if absB s = true then 1 else a) (goL s) .zero
end Go.Proofs.Ytgdjoojghkdcbaa
