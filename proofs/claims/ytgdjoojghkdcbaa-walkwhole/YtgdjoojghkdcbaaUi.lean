/- entry, Look, Hold, Chmod, Empty. Conditions: a number that is handed in is an int; entries by rising names. -/
import Derived.Test.YtgdjoojghkdcbaaUh
namespace Go.Proofs.Ytgdjoojghkdcbaa
open Go.RowKit Go.PlainAid
set_option linter.unusedSimpArgs false

/-- What entry tells: an error; the node's number. -/
def entrE (o : Option Nd) (s : ByteArray) : Int := match o with
  | none => 12
  | some x => if x.kind = 2 then (if hasN s x.ents = true then 0 else 12) else 14
def entrN (o : Option Nd) (s : ByteArray) : Int := match o with
  | none => 0
  | some x => if x.kind = 2 then getN s x.ents else 0

set_option maxHeartbeats 1000000 in
set_option maxRecDepth 100000 in
theorem entry44 (L : Lay) (D : Nat) (S : St) (w : World) (h : DiskAt L D S w) (k : Int) (hk : In64 k) (hgood : ∀ x, S.get k = some x → Rising x.ents ∧ x.ents.length ≤ 999) (s : ByteArray) :
    Calls Try.prog 80 #[.pointer (some ⟨D, 0, none⟩), .int .i64 k, .string s] w fun e w' => e = .returned (.tuple #[okPtr (entrE (S.get k) s) (L.f k), .int .i64 (entrN (S.get k) s), .int .i64 (entrE (S.get k) s)]) ∧ Below w.heap.size w w' := by
  have C := folder60 L D S w h k hk
  cases hx : S.get k with
  | none =>
    rw [hx] at C
    replace C := Lib.hid C
    clear h hgood
    go_enter Try.func80, Try.ntmps80
    go_wp2_with (go_at_call 43; refine C.out.mono ?_; rintro e w' ⟨rfl, rfl⟩)
    go_ret3
    exact ⟨rfl, Below.refl _ _⟩
  | some x =>
  obtain ⟨p, dv, ev, hp, hn⟩ := h.there k x hx
  rw [hx, hp] at C
  by_cases hkd : x.kind = 2
  · have e0 : dirE (some x) = 0 := by simp [dirE, hkd]
    rw [e0] at C
    replace C : Calls _ _ _ _ (fun e w' => e = .returned (.tuple #[.pointer (some ⟨p, 0, none⟩), .int .i64 0]) ∧ w = w') := C
    replace C := Lib.hid C
    obtain ⟨g1, g2⟩ := hgood x hx
    have CG := get8 p (x.nc dv) 0 ev x.ents s w hn.dir g1 (by omega)
    have e1 : entrE (some x) s = if hasN s x.ents = true then 0 else 12 := by simp [entrE, hkd]
    have e2 : entrN (some x) s = getN s x.ents := by simp [entrN, hkd]
    rw [e1, e2, hp]
    have eg : hasN s x.ents = false → getN s x.ents = 0 := fun e => by unfold getN; rw [e]; rfl
    have HEG := Lib.hid eg
    generalize getN s x.ents = gn at CG HEG
    cases hh : hasN s x.ents
    · rw [hh] at CG HEG
      rw [HEG.out rfl] at CG
      rw [HEG.out rfl]
      replace CG := Lib.hid CG
      clear h hn e0 e1 e2 g1 hgood eg
      go_enter Try.func80, Try.ntmps80
      go_wp2_with (go_at_call 43; refine C.out.mono ?_; rintro e w' ⟨rfl, rfl⟩)
      refine CG.out.mono ?_
      rintro e w1 ⟨rfl, hb⟩
      have HB := Lib.hid hb
      clear hb
      go_wp2
      go_ret3
      exact ⟨rfl, HB.out⟩
    · rw [hh] at CG
      replace CG := Lib.hid CG
      clear h hn e0 e1 e2 g1 hgood eg HEG
      go_enter Try.func80, Try.ntmps80
      go_wp2_with (go_at_call 43; refine C.out.mono ?_; rintro e w' ⟨rfl, rfl⟩)
      refine CG.out.mono ?_
      rintro e w1 ⟨rfl, hb⟩
      have HB := Lib.hid hb
      clear hb
      go_wp2
      go_ret3
      exact ⟨rfl, HB.out⟩
  · have e0 : dirE (some x) = 14 := by simp [dirE, hkd]
    have e1 : entrE (some x) s = 14 := by simp [entrE, hkd]
    have e2 : entrN (some x) s = 0 := by simp [entrN, hkd]
    rw [e0] at C
    rw [e1, e2]
    replace C := Lib.hid C
    clear h hn e0 e1 e2 hgood
    go_enter Try.func80, Try.ntmps80
    go_wp2_with (go_at_call 43; refine C.out.mono ?_; rintro e w' ⟨rfl, rfl⟩)
    go_ret3
    exact ⟨rfl, Below.refl _ _⟩

set_option maxHeartbeats 1000000 in
set_option maxRecDepth 100000 in
theorem look15 (L : Lay) (D : Nat) (S : St) (w : World) (h : DiskAt L D S w) (k : Int) (hk : In64 k) (hgood : ∀ x, S.get k = some x → Rising x.ents ∧ x.ents.length ≤ 999) (s : ByteArray) :
    Calls Try.prog 56 #[.pointer (some ⟨D, 0, none⟩), .int .i64 k, .string s] w fun e w' => e = .returned (.tuple #[.int .i64 (entrN (S.get k) s), .int .i64 (entrE (S.get k) s)]) ∧ Below w.heap.size w w' := by
  have C := entry44 L D S w h k hk hgood s
  generalize entrN (S.get k) s = a at C
  generalize entrE (S.get k) s = b at C
  generalize okPtr b (L.f k) = q at C
  replace C := Lib.hid C
  clear h hgood
  go_enter Try.func56, Try.ntmps56
  go_wp2_with fail
  refine C.out.mono ?_
  rintro e w1 ⟨rfl, hb⟩
  have HB := Lib.hid hb
  clear hb
  go_wp2
  go_ret2
  exact ⟨rfl, HB.out⟩

/-- Hold. -/
def holdS (S : St) (k : Int) : St := match S.get k with
  | none => S
  | some x => S.put k { x with holds := x.holds + 1 }
def holdE (S : St) (k : Int) : Int := match S.get k with
  | none => 12
  | some _ => 0
def chmodS (S : St) (k m : Int) : St := match S.get k with
  | none => S
  | some x => if rightB m = true then S.put k { x with mode := m } else S
def chmodE (S : St) (k m : Int) : Int := match S.get k with
  | none => 12
  | some _ => if rightB m = true then 0 else 10
def emptyS (S : St) (k : Int) : St := if fileE (S.get k) = 0 then (match S.get k with
  | none => S
  | some x => { (S.put k { x with data := ⟨#[]⟩ }) with used := S.used - x.data.size }) else S
end Go.Proofs.Ytgdjoojghkdcbaa
