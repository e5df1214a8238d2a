/- Release of a node without entries that nothing names; Info, Up. Conditions: the node is there; a number that is handed in is an int. -/
import Derived.Test.YtgdjoojghkdcbaaVa
import Derived.Test.YtgdjoojghkdcbaaXp
import Derived.BigRegion
namespace Go.Proofs.Ytgdjoojghkdcbaa
open Go.RowKit Go.PlainAid
set_option linter.unusedSimpArgs false

def St.less (S : St) (k : Int) (x : Nd) (n : Nat) : St := { S with used := S.used - x.data.size, cnt := n, get := fun j => if j = k then none else S.get j }

set_option maxHeartbeats 2000000 in
set_option maxRecDepth 100000 in
theorem release18_leaf (L : Lay) (D : Nat) (S : St) (w : World) (h : DiskAt L D S w) (k : Int) (hk : In64 k) (x : Nd) (hx : S.get k = some x) (hlk : x.links = 0) (hh : x.holds = 1) (hen : x.ents = []) (n : Nat) (hcn : S.cnt = n + 1) (hu0 : 0 ≤ S.used - x.data.size) (hu1 : S.used ≤ 9223372036854775807) :
    Calls Try.prog 23 #[.pointer (some ⟨D, 0, none⟩), .int .i64 k] w (Acts L D (S.less k x n) (.int .i64 0) w) := by
  obtain ⟨p, dv, ev, hp, hn⟩ := h.there k x hx
  have c3 := h.c3
  have hl := h.look1 hk hp
  have d3 := hn.c3
  rw [hh] at d3
  have f3 := hn.fr 3
  obtain ⟨K1, F1, N1⟩ := h.setN hx hn hp 3 (.int .i64 0) { x with holds := 0 } rfl rfl rfl
  have C := sweep46_leaf L D _ _ K1 k hk _ (St.put_same _ _ _) hlk rfl hen n hcn hu0 hu1
  have eS : ({ S.put k { x with holds := 0 } with used := S.used - x.data.size, cnt := n, get := fun j => if j = k then none else (S.put k { x with holds := 0 }).get j } : St) = S.less k x n := by
    unfold St.less
    have : (fun j => if j = k then none else (S.put k { x with holds := 0 }).get j) = (fun j => if j = k then none else S.get j) := by
      funext j
      by_cases e : j = k
      · rw [if_pos e, if_pos e]
      · rw [if_neg e, if_neg e, St.put_other _ _ e]
    rw [this]
    rfl
  replace C : Calls Try.prog 48 #[.pointer (some ⟨D, 0, none⟩), .int .i64 k] (w.setCell ⟨p, 3, none⟩ (.int .i64 0)) (Acts L D (S.less k x n) (.tuple #[]) (w.setCell ⟨p, 3, none⟩ (.int .i64 0))) := by rw [← eS]; exact C
  replace C := Lib.hid C
  have HF := Lib.hid F1
  clear h hn K1 F1 N1 eS hlk hen hcn
  generalize S.less k x n = S2 at C
  go_enter Try.func23, Try.ntmps23
  go_wp2_with fail
  refine C.out.mono ?_
  rintro e w1 ⟨rfl, L1, K1, E1, F1⟩
  have G := Lib.hid (show Acts L D S2 (.int .i64 0) w (.returned (.int .i64 0)) w1 from ⟨rfl, L1, K1, fun b hb => E1 b (Nat.lt_of_lt_of_le hb HF.out.size), HF.out.trans (.refl _ _) F1⟩)
  clear K1 E1 F1
  go_wp2
  go_ret
  exact G.out

theorem load_agg {T : TypeId} {n by' : Nat} {z : Value} (hi : (Try.prog.info? T).map (fun i => (i.zero, i.size, i.bytes)) = some (some z, n, by')) (hag : ∀ w, (isAgg T).run Try.prog w = .ok true w) (w : World) (b : Nat) (cur : Array Value) (hb : w.heap[b]? = some (.cells cur T (0, 0))) (hc : cur.size = n) :
    (loadVar T ⟨b, 0, none⟩).run Try.prog w = .ok (.agg cur) w := by
  obtain ⟨i0, hi0, hz0, hz1, hz2⟩ := info_parts hi
  have hl := run_loadCells_list (P := Try.prog) w ⟨b, 0, none⟩ cur.toList (fun j x hj => by
    rw [add_at, Nat.zero_add]
    exact cells_at hb (by simpa using hj))
  rw [Array.length_toList, hc] at hl
  simp only [loadVar, Sem.run_bind, hag, Result.andThen_ok, if_pos, sizeOf, typeInfo, hi0, hz1, Sem.run_pure, hl]
  simp [hi0, hz1, hl]
theorem results_c1 {T : TypeId} {n by' : Nat} {z : Value} (hi : (Try.prog.info? T).map (fun i => (i.zero, i.size, i.bytes)) = some (some z, n, by')) (hag : ∀ w, (isAgg T).run Try.prog w = .ok true w)
    {fn : Func} {p q : Tmp} (h : fn.results = #[.cell p T, .tmp q]) (tmps : Array Value) (w : World) (b : Nat) (cur : Array Value) (hp : tmps.getD p undef = .pointer (some ⟨b, 0, none⟩)) (hb : w.heap[b]? = some (.cells cur T (0, 0))) (hc : cur.size = n) :
    (results fn tmps).run Try.prog w = .ok (.tuple #[.agg cur, tmps.getD q undef]) w := by
  have hp' : tmps[p]?.getD undef = .pointer (some ⟨b, 0, none⟩) := by simpa using hp
  simp only [results, h]
  simp [Sem.run_bind, Result.andThen, hp', asAddr, load_agg hi hag w b cur hb hc]

/-- What Info tells. -/
def infoA (o : Option Nd) : Array Value := match o with
  | none => #[.int .i64 0, .int .i64 0, .int .i64 0, .int .i64 0, .int .i64 0]
  | some x => #[.int .i64 x.kind, .int .i64 x.mode, .int .i64 x.links, .int .i64 x.holds, .int .i64 (if x.kind = 2 then x.ents.length else x.data.size)]
def infoE (o : Option Nd) : Int := match o with
  | none => 12
  | some _ => 0
theorem Try.info110 : (Try.prog.info? 110).map (fun i => (i.zero, i.size, i.bytes)) = some (some (.agg #[.int .i64 0, .int .i64 0, .int .i64 0, .int .i64 0, .int .i64 0]), 5, 40) := by kernel_rfl
theorem Try.agg110 (w : World) : (isAgg 110).run Try.prog w = .ok true w := by kernel_rfl

theorem new_blk (w : World) (cur : Array Value) (t : TypeId) : (w.alloc (.cells cur t)).heap[w.heap.size]? = some (.cells cur t (0, 0)) ∧ Below w.heap.size w (w.alloc (.cells cur t)) :=
  ⟨heap_alloc_new w _, (Below.refl w.heap.size w).alloc (Nat.le_refl _) _⟩

set_option maxHeartbeats 2000000 in
set_option maxRecDepth 100000 in
theorem info57 (L : Lay) (D : Nat) (S : St) (w : World) (h : DiskAt L D S w) (k : Int) (hk : In64 k) :
    Calls Try.prog 57 #[.pointer (some ⟨D, 0, none⟩), .int .i64 k] w fun e w' => e = .returned (.tuple #[.agg (infoA (S.get k)), .int .i64 (infoE (S.get k))]) ∧ Below w.heap.size w w' := by
  have B1 := Lib.hid ((Below.refl w.heap.size w).alloc (Nat.le_refl _) (.cells #[.int .i64 0, .int .i64 0, .int .i64 0, .int .i64 0, .int .i64 0] 110))
  have K1 := h.below B1.out
  have c3 := K1.c3
  have hb1 := heap_alloc_new w (.cells #[.int .i64 0, .int .i64 0, .int .i64 0, .int .i64 0, .int .i64 0] 110)
  cases hg : S.get k with
  | none =>
    have hl := K1.look0 hk hg
    have HE := Lib.hid (new_blk w #[.int .i64 0, .int .i64 0, .int .i64 0, .int .i64 0, .int .i64 0] 110)
    clear h K1
    go_enter Try.func57, Try.ntmps57
    go_wp2
    exact bodyPost_ret_by (results_c1 Try.info110 Try.agg110 rfl _ _ _ _ rfl HE.out.1 rfl) rfl ⟨rfl, HE.out.2⟩
  | some x =>
    obtain ⟨p, dv, ev, hp, hn⟩ := K1.there k x hg
    have hl := K1.look1 hk hp
    have d0 := hn.c0
    have d1 := hn.c1
    have d2 := hn.c2
    have d3 := hn.c3
    have CL := len10 p _ 0 ev x.ents _ hn.dir
    obtain ⟨a4, c4, rfl⟩ := hn.data.shape
    have d4 := hn.c4
    have HE := Lib.hid (new_blk w #[.int .i64 x.kind, .int .i64 x.mode, .int .i64 x.links, .int .i64 x.holds, .int .i64 (if x.kind = 2 then x.ents.length else x.data.size)] 110)
    have f0 : (w.alloc (.cells #[.int .i64 0, .int .i64 0, .int .i64 0, .int .i64 0, .int .i64 0] 110)).frozen? ⟨w.heap.size, 0, none⟩ = false := free_at hb1
    by_cases h2 : x.kind = 2
    · rw [h2] at d0 HE
      rw [show infoA (some x) = #[.int .i64 2, .int .i64 x.mode, .int .i64 x.links, .int .i64 x.holds, .int .i64 x.ents.length] by simp [infoA, h2]]
      replace CL := Lib.hid CL
      rw [if_pos rfl] at HE
      clear h K1 hn
      go_enter Try.func57, Try.ntmps57
      go_wp2_with (go_at_call 81; refine CL.out.mono ?_; rintro e w' ⟨rfl, rfl⟩)
      go_region
      go_wp2
      exact bodyPost_ret_by (results_c1 Try.info110 Try.agg110 rfl _ _ _ _ rfl HE.out.1 rfl) rfl ⟨rfl, HE.out.2.drew⟩
    · rw [if_neg h2] at HE
      rw [show infoA (some x) = #[.int .i64 x.kind, .int .i64 x.mode, .int .i64 x.links, .int .i64 x.holds, .int .i64 x.data.size] by simp [infoA, h2]]
      have h3 : (x.kind == 2) = false := by simpa using h2
      clear h K1 hn CL
      go_enter Try.func57, Try.ntmps57
      go_wp2
      go_region
      go_wp2
      exact bodyPost_ret_by (results_c1 Try.info110 Try.agg110 rfl _ _ _ _ rfl HE.out.1 rfl) rfl ⟨rfl, HE.out.2.drew⟩

/-- What Up tells. -/
def upN (o : Option Nd) : Int := match o with
  | none => 0
  | some x => if x.kind = 2 then x.up else 0
def upE (o : Option Nd) : Int := match o with
  | none => 12
  | some x => if x.kind = 2 then (if x.up = 0 then 12 else 0) else 14

set_option maxHeartbeats 1000000 in
set_option maxRecDepth 100000 in
theorem up55 (L : Lay) (D : Nat) (S : St) (w : World) (h : DiskAt L D S w) (k : Int) (hk : In64 k) :
    Calls Try.prog 55 #[.pointer (some ⟨D, 0, none⟩), .int .i64 k] w fun e w' => e = .returned (.tuple #[.int .i64 (upN (S.get k)), .int .i64 (upE (S.get k))]) ∧ w = w' := by
  have C := folder60 L D S w h k hk
  cases hx : S.get k with
  | none =>
    rw [hx] at C
    replace C := Lib.hid C
    clear h
    go_enter Try.func55, Try.ntmps55
    go_wp2_with (go_at_call 43; refine C.out.mono ?_; rintro e w' ⟨rfl, rfl⟩)
    go_ret2
    exact ⟨rfl, rfl⟩
  | some x =>
  obtain ⟨p, dv, ev, hp, hn⟩ := h.there k x hx
  rw [hx, hp] at C
  by_cases hkd : x.kind = 2
  · have e0 : dirE (some x) = 0 := by simp [dirE, hkd]
    rw [e0] at C
    replace C : Calls _ _ _ _ (fun e w' => e = .returned (.tuple #[.pointer (some ⟨p, 0, none⟩), .int .i64 0]) ∧ w = w') := C
    replace C := Lib.hid C
    have d6 := hn.c6
    by_cases hu : x.up = 0
    · rw [hu] at d6
      rw [show upN (some x) = 0 by simp [upN, hkd, hu], show upE (some x) = 12 by simp [upE, hkd, hu]]
      clear h hn e0
      go_enter Try.func55, Try.ntmps55
      go_wp2_with (go_at_call 43; refine C.out.mono ?_; rintro e w' ⟨rfl, rfl⟩)
      go_ret2
      exact ⟨rfl, rfl⟩
    · rw [show upN (some x) = x.up by simp [upN, hkd], show upE (some x) = 0 by simp [upE, hkd, hu]]
      have hu' : (x.up == 0) = false := by simpa using hu
      clear h hn e0
      go_enter Try.func55, Try.ntmps55
      go_wp2_with (go_at_call 43; refine C.out.mono ?_; rintro e w' ⟨rfl, rfl⟩)
      go_ret2
      exact ⟨rfl, rfl⟩
  · have e0 : dirE (some x) = 14 := by simp [dirE, hkd]
    rw [show upN (some x) = 0 by simp [upN, hkd], show upE (some x) = 14 by simp [upE, hkd]]
    rw [e0] at C
    replace C := Lib.hid C
    clear h hn e0
    go_enter Try.func55, Try.ntmps55
    go_wp2_with (go_at_call 43; refine C.out.mono ?_; rintro e w' ⟨rfl, rfl⟩)
    go_ret2
    exact ⟨rfl, rfl⟩
end Go.Proofs.Ytgdjoojghkdcbaa
