/- file, folder, Data, mayMake. Conditions: a number that is handed in is an int; a text's length fits an int. -/
import Derived.Test.YtgdjoojghkdcbaaUa
namespace Go.Proofs.Ytgdjoojghkdcbaa
open Go.RowKit Go.PlainAid
set_option linter.unusedSimpArgs false

set_option maxRecDepth 100000 in
theorem folder60 (L : Lay) (D : Nat) (S : St) (w : World) (h : DiskAt L D S w) (k : Int) (hk : In64 k) :
    Calls Try.prog 43 #[.pointer (some ⟨D, 0, none⟩), .int .i64 k] w fun e w' => e = .returned (.tuple #[okPtr (dirE (S.get k)) (L.f k), .int .i64 (dirE (S.get k))]) ∧ w = w' := by
  have c3 := h.c3
  cases hg : S.get k with
  | none =>
    have hl := h.look0 hk hg
    clear h
    go_enter Try.func43, Try.ntmps43
    go_wp2
    go_ret2
    exact ⟨rfl, rfl⟩
  | some x =>
    obtain ⟨p, dv, ev, hp, hn⟩ := h.there k x hg
    have hl := h.look1 hk hp
    have d0 := hn.c0
    by_cases h2 : x.kind = 2
    · have e1 : dirE (some x) = 0 := by simp [dirE, h2]
      rw [e1, hp]
      rw [h2] at d0
      clear h hn e1
      go_enter Try.func43, Try.ntmps43
      go_wp2
      go_ret2
      exact ⟨rfl, rfl⟩
    · have e1 : dirE (some x) = 14 := by simp [dirE, h2]
      rw [e1]
      have h3 : (x.kind == 2) = false := by simpa using h2
      clear h hn e1
      go_enter Try.func43, Try.ntmps43
      go_wp2
      go_ret2
      exact ⟨rfl, rfl⟩

/-- What Data tells. -/
def dataS (o : Option Nd) : ByteArray := match o with
  | none => ⟨#[]⟩
  | some x => if x.kind = 2 then ⟨#[]⟩ else x.data
theorem data26 (L : Lay) (D : Nat) (S : St) (w : World) (h : DiskAt L D S w) (k : Int) (hk : In64 k) :
    Calls Try.prog 31 #[.pointer (some ⟨D, 0, none⟩), .int .i64 k] w fun e w' => e = .returned (.tuple #[.string (dataS (S.get k)), .int .i64 (byteE (S.get k))]) ∧ w = w' := by
  have C := bytesOf42 L D S w h k hk
  cases hg : S.get k with
  | none =>
    rw [hg] at C
    replace C := Lib.hid C
    clear h
    go_enter Try.func31, Try.ntmps31
    go_wp2_with (go_at_call 58; refine C.out.mono ?_; rintro e w' ⟨rfl, rfl⟩)
    go_ret2
    exact ⟨rfl, rfl⟩
  | some x =>
    obtain ⟨p, dv, ev, hp, hn⟩ := h.there k x hg
    have d4 := hn.c4
    rw [hg, hp] at C
    by_cases h2 : x.kind = 2
    · have e1 : byteE (some x) = 15 := by simp [byteE, h2]
      have e2 : dataS (some x) = ⟨#[]⟩ := by simp [dataS, h2]
      rw [e1] at C
      rw [e1, e2]
      replace C := Lib.hid C
      clear h hn e1 e2 d4 h2
      go_enter Try.func31, Try.ntmps31
      go_wp2_with (go_at_call 58; refine C.out.mono ?_; rintro e w' ⟨rfl, rfl⟩)
      go_ret2
      exact ⟨rfl, rfl⟩
    · have e1 : byteE (some x) = 0 := by simp [byteE, h2]
      have e2 : dataS (some x) = x.data := by simp [dataS, h2]
      rw [e1] at C
      replace C : Calls _ _ _ _ (fun e w' => e = .returned (.tuple #[.pointer (some ⟨p, 0, none⟩), .int .i64 0]) ∧ w = w') := C
      replace C := Lib.hid C
      rw [e1, e2]
      have hb := hn.data.back
      obtain ⟨a, c, rfl⟩ := hn.data.shape
      clear h hn e1 e2 h2
      go_enter Try.func31, Try.ntmps31
      go_wp2_with (go_at_call 58; refine C.out.mono ?_; rintro e w' ⟨rfl, rfl⟩)
      go_ret2
      exact ⟨rfl, rfl⟩

def makeE (S : St) (kind m : Int) (s : ByteArray) : Int :=
  if kind < 1 ∨ 3 < kind ∨ (kind = 2 ∧ s.size ≠ 0) then 43 else if rightB m = false then 10 else if 4194304 < s.size then 18 else if 65536 ≤ S.cnt then 24 else if S.room - S.used < s.size then 20 else 0

set_option maxHeartbeats 1000000 in
set_option maxRecDepth 100000 in
theorem mayMake53 (L : Lay) (D : Nat) (S : St) (w : World) (h : DiskAt L D S w) (h1 : 0 ≤ S.used) (h2 : S.used ≤ S.room) (h3 : S.room ≤ 9223372036854775807) (kind m : Int) (s : ByteArray) (hs : s.size ≤ maxLen) :
    Calls Try.prog 40 #[.pointer (some ⟨D, 0, none⟩), .int .i64 kind, .int .i64 m, .string s] w fun e w' => e = .returned (.int .i64 (makeE S kind m s)) ∧ ∃ n, w' = w.drewN n := by
  unfold maxLen at hs
  have c3 := h.c3
  have hl := fun ty => h.map.len ty
  have HE : Hid (makeE S kind m s = if kind < 1 ∨ 3 < kind ∨ (kind = 2 ∧ s.size ≠ 0) then 43 else if rightB m = false then 10 else if 4194304 < s.size then 18 else if 65536 ≤ S.cnt then 24 else if S.room - S.used < s.size then 20 else 0) := rfl
  have CR := fun w => right72 m w
  have CF := free55 L D S w h h1 h2 h3
  generalize makeE S kind m s = r at HE ⊢
  clear h
  have kindBad : ∀ (hr : r = 43) (q : kind < 1 ∨ 3 < kind ∨ (kind = 2 ∧ s.size ≠ 0)), Calls Try.prog 40 #[.pointer (some ⟨D, 0, none⟩), .int .i64 kind, .int .i64 m, .string s] w fun e w' => e = .returned (.int .i64 r) ∧ ∃ n, w' = w.drewN n := by
    intro hr q
    subst hr
    clear CR CF
    by_cases q1 : kind < 1
    · clear q HE
      go_enter Try.func40, Try.ntmps40
      go_wp2
      go_ret
      exact ⟨rfl, 0, rfl⟩
    by_cases q2 : 3 < kind
    · clear q HE
      go_enter Try.func40, Try.ntmps40
      go_wp2
      go_ret
      exact ⟨rfl, 0, rfl⟩
    have q3 : kind = 2 ∧ s.size ≠ 0 := by omega
    obtain ⟨rfl, q4⟩ := q3
    have q5 := toList_ne q4
    clear q HE q1 q2 q4
    go_enter Try.func40, Try.ntmps40
    go_wp2
    go_ret
    exact ⟨rfl, 0, rfl⟩
  by_cases q : kind < 1 ∨ 3 < kind ∨ (kind = 2 ∧ s.size ≠ 0)
  · exact kindBad (by rw [HE.out, if_pos q]) q
  clear kindBad
  have HE1 : Hid (r = if rightB m = false then 10 else if 4194304 < s.size then 18 else if 65536 ≤ S.cnt then 24 else if S.room - S.used < s.size then 20 else 0) := by show _ = _; rw [HE.out, if_neg q]
  clear HE
  have q1 : ¬ kind < 1 := fun e => q (.inl e)
  have q2 : ¬ 3 < kind := fun e => q (.inr (.inl e))
  have q3 : (kind == 2) = false ∨ (kind = 2 ∧ s.toList.isEmpty = true) := by
    by_cases e : kind = 2
    · refine .inr ⟨e, toList_em ?_⟩
      by_cases e2 : s.size = 0
      · exact e2
      · exact absurd (.inr (.inr ⟨e, e2⟩)) q
    · exact .inl (by simpa using e)
  clear q
  have HR := Lib.hid CR
  have HF := Lib.hid CF
  clear CR CF
  cases hr : rightB m
  · have hr2 : r = 10 := by rw [HE1.out, if_pos hr]
    subst hr2
    rw [hr] at HR
    rcases q3 with q3 | ⟨rfl, q3⟩ <;>
    · clear HE1
      go_enter Try.func40, Try.ntmps40
      go_wp2_with (go_at_call 70; refine (HR.out _).mono ?_; rintro e w' ⟨rfl, rfl⟩)
      go_ret
      exact ⟨rfl, 0, rfl⟩
  rw [hr] at HR HE1
  by_cases h4 : 4194304 < s.size
  · have hr2 : r = 18 := by rw [HE1.out, if_neg (by decide), if_pos h4]
    subst hr2
    rcases q3 with q3 | ⟨rfl, q3⟩ <;>
    · clear HE1
      go_enter Try.func40, Try.ntmps40
      go_wp2_with (go_at_call 70; refine (HR.out _).mono ?_; rintro e w' ⟨rfl, rfl⟩)
      go_ret
      exact ⟨rfl, 0, rfl⟩
  by_cases h5 : 65536 ≤ S.cnt
  · have hr2 : r = 24 := by rw [HE1.out, if_neg (by decide), if_neg h4, if_pos h5]
    subst hr2
    have h5' : (65536 : Int) ≤ (S.cnt : Int) := by omega
    generalize (S.cnt : Int) = c at hl h5'
    clear h5
    rcases q3 with q3 | ⟨rfl, q3⟩ <;>
    · clear HE1
      go_enter Try.func40, Try.ntmps40
      go_wp2_with (go_at_call 70; refine (HR.out _).mono ?_; rintro e w' ⟨rfl, rfl⟩)
      go_ret
      exact ⟨rfl, 0, rfl⟩
  have h5' : ¬ (65536 : Int) ≤ (S.cnt : Int) := by omega
  have HE2 : Hid (r = if S.room - S.used < s.size then 20 else 0) := by show _ = _; rw [HE1.out, if_neg (by decide), if_neg h4, if_neg h5]
  clear HE1 h5
  generalize (S.cnt : Int) = c at hl h5'
  have HE1 := HE2
  clear HE2
  by_cases h6 : S.room - S.used < s.size
  · have hr2 : r = 20 := by rw [HE1.out, if_pos h6]
    subst hr2
    rcases q3 with q3 | ⟨rfl, q3⟩ <;>
    · clear HE1
      go_enter Try.func40, Try.ntmps40
      go_wp2_with (first | (go_at_call 70; refine (HR.out _).mono ?_; rintro e w' ⟨rfl, rfl⟩) | (go_at_call 71; refine HF.out.mono ?_; rintro e w' ⟨rfl, n, rfl⟩))
      go_ret
      exact ⟨rfl, _, rfl⟩
  have hr2 : r = 0 := by rw [HE1.out, if_neg h6]
  subst hr2
  rcases q3 with q3 | ⟨rfl, q3⟩ <;>
  · clear HE1
    go_enter Try.func40, Try.ntmps40
    go_wp2_with (first | (go_at_call 70; refine (HR.out _).mono ?_; rintro e w' ⟨rfl, rfl⟩) | (go_at_call 71; refine HF.out.mono ?_; rintro e w' ⟨rfl, n, rfl⟩))
    go_ret
    exact ⟨rfl, _, rfl⟩
end Go.Proofs.Ytgdjoojghkdcbaa
