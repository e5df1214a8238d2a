/- Conversions of redirections and commands. Conditions: lengths below a bound. -/
import Derived.Test.YtfaohicadahcjaaGreatDoorSV
import Derived.Deep.RegionHeld3
namespace Go.Proofs.YtfaohicadahcjaaGreatDoor
open Go.RowKit Go.PlainAid Go.ChangeShapes Go.WideShapes Go.ChangeAt
set_option linter.unusedSimpArgs false
set_option linter.unusedVariables false
theorem free_at {w : World} {b i : Nat} {cur : Array Value} {t : TypeId} (h : w.heap[b]? = some (.cells cur t (0, 0))) : w.frozen? ⟨b, i, none⟩ = false := by simp [World.frozen?, h]
theorem blk_setCell {w : World} {b i : Nat} {cur : Array Value} {t : TypeId} (h : w.heap[b]? = some (.cells cur t (0, 0))) (u : Value) : (w.setCell ⟨b, i, none⟩ u).heap[b]? = some (.cells (cur.setIfInBounds i u) t (0, 0)) := by
  simp [World.setCell, Array.getElem?_modify, h]
theorem size_setCell (w : World) (a : Addr) (u : Value) : (w.setCell a u).heap.size = w.heap.size := by simp [World.setCell]
theorem info102' : (Tryz.prog.info? 102).map (fun i => (i.zero, i.size, i.bytes)) = some (some (.agg #[.int .i64 0, .string ⟨#[]⟩, .string ⟨#[]⟩, .slice none 0 0]), 4, 64) := by kernel_rfl
theorem info64' : (Tryz.prog.info? 64).map (fun i => (i.zero, i.size, i.bytes)) = some (some (.agg #[.int .i64 0, .string ⟨#[]⟩, .slice none 0 0, .slice none 0 0, .slice none 0 0, .slice none 0 0, .slice none 0 0]), 7, 144) := by kernel_rfl
theorem load102 (w : World) (b : Nat) (u0 u1 u2 u3 : Value) (hb : w.heap[b]? = some (.cells #[u0, u1, u2, u3] 102 (0, 0))) : (loadVar 102 ⟨b, 0, none⟩).run Tryz.prog w = .ok (.agg #[u0, u1, u2, u3]) w := by
  obtain ⟨i0, hi0, hz0, hz1, hz2⟩ := info_of info102'
  have hl := run_loadCells_list (P := Tryz.prog) w ⟨b, 0, none⟩ [u0, u1, u2, u3] (fun j x hj => by
    rw [add_at, Nat.zero_add]
    exact cells_at hb (by simpa using hj))
  simp only [List.length_cons, List.length_nil] at hl
  have hag : (isAgg 102).run Tryz.prog w = .ok true w := by kernel_rfl
  simp only [loadVar, Sem.run_bind, hag, Result.andThen_ok, if_pos, sizeOf, typeInfo, hi0, hz1, Sem.run_pure, hl]
  simp [hi0, hz1, hl]
theorem load64 (w : World) (b : Nat) (u0 u1 u2 u3 u4 u5 u6 : Value) (hb : w.heap[b]? = some (.cells #[u0, u1, u2, u3, u4, u5, u6] 64 (0, 0))) : (loadVar 64 ⟨b, 0, none⟩).run Tryz.prog w = .ok (.agg #[u0, u1, u2, u3, u4, u5, u6]) w := by
  obtain ⟨i0, hi0, hz0, hz1, hz2⟩ := info_of info64'
  have hl := run_loadCells_list (P := Tryz.prog) w ⟨b, 0, none⟩ [u0, u1, u2, u3, u4, u5, u6] (fun j x hj => by
    rw [add_at, Nat.zero_add]
    exact cells_at hb (by simpa using hj))
  simp only [List.length_cons, List.length_nil] at hl
  have hag : (isAgg 64).run Tryz.prog w = .ok true w := by kernel_rfl
  simp only [loadVar, Sem.run_bind, hag, Result.andThen_ok, if_pos, sizeOf, typeInfo, hi0, hz1, Sem.run_pure, hl]
  simp [hi0, hz1, hl]
theorem results_102 {fn : Func} {p : Tmp} (h : fn.results = #[.cell p 102]) (tmps : Array Value) (w : World) (b : Nat) (u0 u1 u2 u3 : Value) (hp : tmps.getD p undef = .pointer (some ⟨b, 0, none⟩)) (hb : w.heap[b]? = some (.cells #[u0, u1, u2, u3] 102 (0, 0))) :
    (results fn tmps).run Tryz.prog w = .ok (.agg #[u0, u1, u2, u3]) w := by
  have hp' : tmps[p]?.getD undef = .pointer (some ⟨b, 0, none⟩) := by simpa using hp
  simp only [results, h]
  simp [Sem.run_bind, Result.andThen, hp', asAddr, load102 w b u0 u1 u2 u3 hb]
theorem results_64 {fn : Func} {p : Tmp} (h : fn.results = #[.cell p 64]) (tmps : Array Value) (w : World) (b : Nat) (u0 u1 u2 u3 u4 u5 u6 : Value) (hp : tmps.getD p undef = .pointer (some ⟨b, 0, none⟩)) (hb : w.heap[b]? = some (.cells #[u0, u1, u2, u3, u4, u5, u6] 64 (0, 0))) :
    (results fn tmps).run Tryz.prog w = .ok (.agg #[u0, u1, u2, u3, u4, u5, u6]) w := by
  have hp' : tmps[p]?.getD undef = .pointer (some ⟨b, 0, none⟩) := by simpa using hp
  simp only [results, h]
  simp [Sem.run_bind, Result.andThen, hp', asAddr, load64 w b u0 u1 u2 u3 u4 u5 u6 hb]
set_option maxHeartbeats 8000000 in
set_option maxRecDepth 100000 in
theorem redir59 (n : Nat) (G : Conv n) (fd : Int) (op tag : ByteArray) (wa : Option Addr) (wc : Nat) (l : List Pt) (w : World) (hf : RdFits (.mk fd op tag l)) (h : WdAt n w (.slice wa l.length wc) l) :
    Calls Tryz.prog 59 #[.agg #[.int .i64 fd, .string op, .string tag, .slice wa l.length wc]] w (Out (fun u v' => RdV n u v' (.mk fd op tag l)) w) := by
  have C1 := Lib.hid fun (W : World) (hW : Below w.heap.size w W) => G.w _ l W (kept_wd n _ _ _ _ h hW)
  have HF := Lib.hid hf
  obtain ⟨q, Hq⟩ : ∃ q, Hid (l.length = q) := ⟨_, Lib.hid rfl⟩
  rw [Hq.out] at C1 ⊢
  clear h hf G
  have ha1 := push_new w (.cells #[.int .i64 fd, .string op, .string tag, .slice wa q wc] 44) w.heap.size rfl
  have hs1 := push_size w (.cells #[.int .i64 fd, .string op, .string tag, .slice wa q wc] 44) w.heap.size rfl
  have K0 := Lib.hid (push_old (w.alloc (.cells #[.int .i64 fd, .string op, .string tag, .slice wa q wc] 44)) (.cells #[.int .i64 0, .string ⟨#[]⟩, .string ⟨#[]⟩, .slice none 0 0] 102) _ _ _ hs1 (Nat.lt_succ_self _) ha1)
  have K1 := Lib.hid (push_new (w.alloc (.cells #[.int .i64 fd, .string op, .string tag, .slice wa q wc] 44)) (.cells #[.int .i64 0, .string ⟨#[]⟩, .string ⟨#[]⟩, .slice none 0 0] 102) _ hs1)
  have HBy := Lib.hid (((Below.refl w.heap.size w).alloc (Nat.le_refl _) (.cells #[.int .i64 fd, .string op, .string tag, .slice wa q wc] 44)).alloc (by rw [hs1]; omega) (.cells #[.int .i64 0, .string ⟨#[]⟩, .string ⟨#[]⟩, .slice none 0 0] 102))
  clear ha1 hs1
  go_enter Tryz.func59, Tryz.ntmps59
  go_upto_region 1 with fail
  generalize ((w.alloc (.cells #[.int .i64 fd, .string op, .string tag, .slice wa q wc] 44)).alloc (.cells #[.int .i64 0, .string ⟨#[]⟩, .string ⟨#[]⟩, .slice none 0 0] 102)) = wy at K0 K1 HBy ⊢
  have HB0 := Lib.hid HBy.out.drew
  obtain ⟨S, HS⟩ : ∃ S : World → Prop, Hid (∀ W, S W ↔ (W.cell? ⟨w.heap.size, 0, none⟩ = some (.int .i64 fd) ∧ W.cell? ⟨w.heap.size, 1, none⟩ = some (.string op) ∧ W.cell? ⟨w.heap.size, 2, none⟩ = some (.string tag) ∧ W.cell? ⟨w.heap.size, 3, none⟩ = some (.slice wa q wc))) := ⟨fun W => _, Lib.hid fun W => Iff.rfl⟩
  have HSt : Hid (∀ W, W.heap[w.heap.size]? = some (.cells #[.int .i64 fd, .string op, .string tag, .slice wa q wc] 44 (0, 0)) → S W) := Lib.hid fun W hW => (HS.out W).2 ⟨cells_at hW (i := 0) rfl, cells_at hW (i := 1) rfl, cells_at hW (i := 2) rfl, cells_at hW (i := 3) rfl⟩
  have hh0 := (HS.out wy.drew).1 (HSt.out _ K0.out)
  go_region_held3 (fun W => W.cell? ⟨w.heap.size, 0, none⟩ = some (.int .i64 fd) ∧ W.cell? ⟨w.heap.size, 1, none⟩ = some (.string op) ∧ W.cell? ⟨w.heap.size, 2, none⟩ = some (.string tag) ∧ W.cell? ⟨w.heap.size, 3, none⟩ = some (.slice wa q wc))
    (first | exact hh2 | exact hh1 | exact hh0)
    (first
      | (go_at_call 19; refine (C1.out _ HB0.out).mono ?_
         rintro e w2 ⟨v2, rfl, hf2, hb2⟩
         have hz := (hb2.block _ (lt_of_block K0.out)).trans K0.out
         have hk := (hb2.block _ (lt_of_block K1.out)).trans K1.out
         have hh1 := (HS.out w2).1 (HSt.out _ hz)
         have e0 := cells_at hk (i := 0) rfl
         have e1 := cells_at hk (i := 1) rfl
         have e2 := cells_at hk (i := 2) rfl
         have e3 := cells_at hk (i := 3) rfl
         have f0 : w2.frozen? ⟨w.heap.size + 1, 0, none⟩ = false := free_at hk
         have f1 : w2.frozen? ⟨w.heap.size + 1, 1, none⟩ = false := free_at hk
         have f2 : w2.frozen? ⟨w.heap.size + 1, 2, none⟩ = false := free_at hk
         have f3 : w2.frozen? ⟨w.heap.size + 1, 3, none⟩ = false := free_at hk
         obtain ⟨a2, c2, e2'⟩ := wd_shape _ _ _ _ hf2.here
         generalize l.length = nx2 at e2'
         subst e2'
         obtain ⟨wz, Hwz⟩ : ∃ wz, Hid (((((w2.setCell ⟨w.heap.size + 1, 0, none⟩ (.int .i64 fd)).setCell ⟨w.heap.size + 1, 1, none⟩ (.string op)).setCell ⟨w.heap.size + 1, 2, none⟩ (.string tag)).setCell ⟨w.heap.size + 1, 3, none⟩ (.slice a2 nx2 c2)) = wz) := ⟨_, Lib.hid rfl⟩
         have hne : ∀ k, k ≠ w.heap.size + 1 → wz.heap[k]? = w2.heap[k]? := fun k hk => by rw [← Hwz.out, Below.heap_setCell _ _ _ _ hk, Below.heap_setCell _ _ _ _ hk, Below.heap_setCell _ _ _ _ hk, Below.heap_setCell _ _ _ _ hk]
         have HK := Lib.hid (show wz.heap[w.heap.size + 1]? = some (.cells #[.int .i64 fd, .string op, .string tag, .slice a2 nx2 c2] 102 (0, 0)) from by
           rw [← Hwz.out, blk_setCell (blk_setCell (blk_setCell (blk_setCell hk _) _) _) _]; rfl)
         have hh2 := (HS.out wz).1 (HSt.out _ ((hne _ (by omega)).trans hz))
         rw [← Hwz.out] at hh2
         have hszz : w2.heap.size = wz.heap.size := by rw [← Hwz.out]; simp only [size_setCell]
         have HFin : Hid (Out (fun u v' => RdV n u v' (.mk fd op tag l)) w (.returned (.agg #[.int .i64 fd, .string op, .string tag, .slice a2 nx2 c2])) wz) := Lib.hid (by
           have hb := HB0.out.trans (hb2.mono HB0.out.size)
           refine ⟨_, rfl, ?_, ?_⟩
           · have hon : On (Btw wy.drew.heap.size w2.heap.size) w2 wz := fun b h => hne b (by have h1 := h.1; have h3 := lt_of_block K1.out; have : wy.heap.size ≤ b := h1; omega)
             refine ((hf2.on hon).mono (T := Btw w.heap.size wz.heap.size) fun b h => ⟨Nat.le_trans HB0.out.size h.1, by rw [← hszz]; exact h.2⟩).imp fun u hu => ⟨_, rfl, HF.out, hu⟩
           · rw [← Hwz.out]
             exact (((hb.setCell (p := ⟨w.heap.size + 1, 0, none⟩) (Nat.le_succ _) _).setCell (p := ⟨w.heap.size + 1, 1, none⟩) (Nat.le_succ _) _).setCell (p := ⟨w.heap.size + 1, 2, none⟩) (Nat.le_succ _) _).setCell (p := ⟨w.heap.size + 1, 3, none⟩) (Nat.le_succ _) _)
         clear hz hk hne hszz hf2 hb2))
  rw [Hwz.out]
  clear hh0 hh1 hh2 e0 e1 e2 e3 f0 f1 f2 f3
  go_wp2
  exact bodyPost_ret_by (results_102 rfl _ _ _ _ _ _ _ rfl HK.out) rfl HFin.out
end Go.Proofs.YtfaohicadahcjaaGreatDoor
