/- Plain facts on the order of texts, and on entries that stand by rising names. No condition. -/
import Derived.Test.YtgdjoojghkdcbaaG
namespace Go.Proofs.Ytgdjoojghkdcbaa
open Go.RowKit Go.PlainAid

theorem less_irrefl : ∀ x, Op.bytesLess x x = false
  | [] => rfl
  | a :: x => by simp [Op.bytesLess, less_irrefl x]
theorem less_trans : ∀ x y z, Op.bytesLess x y = true → Op.bytesLess y z = true → Op.bytesLess x z = true
  | _, [], _, h, _ => by simp [Op.bytesLess] at h
  | _, _ :: _, [], _, h => by simp [Op.bytesLess] at h
  | [], _ :: _, _ :: _, _, _ => rfl
  | a :: x, b :: y, c :: z, h1, h2 => by
    simp only [Op.bytesLess, Bool.or_eq_true, decide_eq_true_eq, Bool.and_eq_true, beq_iff_eq] at h1 h2 ⊢
    rcases h1 with h1 | ⟨rfl, h1⟩
    · rcases h2 with h2 | ⟨rfl, h2⟩
      · exact .inl (UInt8.lt_trans h1 h2)
      · exact .inl h1
    · rcases h2 with h2 | ⟨rfl, h2⟩
      · exact .inl h2
      · exact .inr ⟨rfl, less_trans x y z h1 h2⟩
theorem less_total : ∀ x y, Op.bytesLess x y = false → Op.bytesLess y x = false → x = y
  | [], [], _, _ => rfl
  | [], _ :: _, h, _ => by simp [Op.bytesLess] at h
  | _ :: _, [], _, h => by simp [Op.bytesLess] at h
  | a :: x, b :: y, h1, h2 => by
    simp only [Op.bytesLess, Bool.or_eq_false_iff, decide_eq_false_iff_not, Bool.and_eq_false_imp, beq_iff_eq] at h1 h2
    have : a = b := by
      have q1 := h1.1
      have q2 := h2.1
      rw [UInt8.lt_iff_toNat_lt] at q1 q2
      exact UInt8.toNat_inj.1 (by omega)
    subst this
    rw [less_total x y (h1.2 rfl) (h2.2 rfl)]

/-- One text stands ahead of another. -/
def bl (s t : ByteArray) : Bool := Op.bytesLess s.toList t.toList
theorem toList_inj {s t : ByteArray} (h : s.toList = t.toList) : s = t := by
  rw [ByteArray.toList_eq, ByteArray.toList_eq] at h
  exact ByteArray.ext (Array.ext' h)
theorem bl_irrefl (s : ByteArray) : bl s s = false := less_irrefl _
theorem bl_trans {s t u : ByteArray} (h : bl s t = true) (k : bl t u = true) : bl s u = true := less_trans _ _ _ h k
theorem bl_total {s t : ByteArray} (h : bl s t = false) (k : bl t s = false) : s = t := toList_inj (less_total _ _ h k)
theorem bl_asymm {s t : ByteArray} (h : bl s t = true) : bl t s = false := by
  cases e : bl t s
  · rfl
  · exact absurd (bl_trans h e) (by rw [bl_irrefl]; simp)
theorem beq_list (s t : ByteArray) : (s.toList == t.toList) = decide (s = t) := by
  by_cases h : s = t
  · subst h; simp
  · rw [decide_eq_false h]; exact beq_eq_false_iff_ne.2 fun e => h (toList_inj e)

/-- The entries stand by rising names. -/
def Rising (l : List En) : Prop := l.Pairwise fun a b => bl a.1 b.1 = true
/-- Where a name stands, or would stand. -/
def pos (s : ByteArray) : List En → Nat
  | [] => 0
  | x :: l => if bl x.1 s = true then pos s l + 1 else 0
theorem pos_le (s : ByteArray) : ∀ l, pos s l ≤ l.length
  | [] => Nat.le_refl _
  | x :: l => by
    unfold pos
    split
    · have := pos_le s l; simp; omega
    · simp
theorem pos_lt (s : ByteArray) : ∀ (l : List En), Rising l → ∀ (k : Nat) (x : En), l[k]? = some x → bl x.1 s = decide (k < pos s l)
  | [], _, k, x, h => by simp at h
  | y :: l, hr, 0, x, h => by
    simp at h; subst h
    unfold pos
    cases e : bl y.1 s <;> simp
  | y :: l, hr, k + 1, x, h => by
    have hr' := List.pairwise_cons.1 hr
    have hx : l[k]? = some x := by simpa using h
    unfold pos
    cases e : bl y.1 s
    · have h1 : bl x.1 s = false := by
        cases e2 : bl x.1 s
        · rfl
        · rw [bl_trans (hr'.1 x (List.mem_of_getElem? hx)) e2] at e; cases e
      rw [h1]; simp
    · rw [pos_lt s l hr'.2 k x hx]; simp
/-- Is a name there? -/
def hasN (s : ByteArray) (l : List En) : Bool := match l[pos s l]? with
  | some x => x.1.toList == s.toList
  | none => false
theorem hasN_some {s : ByteArray} {l : List En} (h : hasN s l = true) : ∃ n, l[pos s l]? = some (s, n) := by
  unfold hasN at h
  cases e : l[pos s l]? with
  | none => rw [e] at h; cases h
  | some x =>
    rw [e] at h
    have : x.1 = s := toList_inj (by simpa using h)
    exact ⟨x.2, by rw [← this]⟩
/-- Behind its place all names stand behind it. -/
theorem pos_ge {s : ByteArray} {l : List En} (hr : Rising l) {k : Nat} {x : En} (hx : l[k]? = some x) (hk : pos s l < k) : bl s x.1 = true := by
  have h0 := pos_lt s l hr k x hx
  rw [decide_eq_false (by omega)] at h0
  have hlt : pos s l < l.length := by have := (List.getElem?_eq_some_iff.1 hx).1; omega
  have h1 := pos_lt s l hr (pos s l) _ (List.getElem?_eq_getElem hlt)
  rw [decide_eq_false (by omega)] at h1
  have h2 : bl (l[pos s l]).1 x.1 = true := by
    obtain ⟨hkl, rfl⟩ := List.getElem?_eq_some_iff.1 hx
    exact List.pairwise_iff_getElem.1 hr _ _ hlt hkl hk
  cases e : bl s x.1
  · have := bl_total e h0
    subst this
    rw [h2] at h1; cases h1
  · rfl
theorem hasN_false {s : ByteArray} {l : List En} (hr : Rising l) (h : hasN s l = false) : ∀ x ∈ l, x.1 ≠ s := by
  intro x hx e
  subst e
  obtain ⟨k, hk, hkx⟩ := List.getElem_of_mem hx
  have hk' : l[k]? = some x := by rw [List.getElem?_eq_getElem hk, hkx]
  have h0 := pos_lt x.1 l hr k x hk'
  rw [bl_irrefl] at h0
  have h1 : ¬ k < pos x.1 l := of_decide_eq_false h0.symm
  by_cases e : k = pos x.1 l
  · unfold hasN at h
    rw [← e, hk'] at h
    simp at h
  · have := pos_ge hr hk' (show pos x.1 l < k by omega)
    rw [bl_irrefl] at this; cases this
theorem hasN_true {s : ByteArray} {l : List En} (hr : Rising l) {x : En} (hx : x ∈ l) (e : x.1 = s) : hasN s l = true := by
  cases h : hasN s l
  · exact absurd e (hasN_false hr h x hx)
  · rfl
end Go.Proofs.Ytgdjoojghkdcbaa
