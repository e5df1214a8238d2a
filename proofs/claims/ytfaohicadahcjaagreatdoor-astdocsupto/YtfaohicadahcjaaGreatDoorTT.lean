/- AstDocs, walked. Conditions: weights below a bound; the library's own variable holds some number. -/
import Derived.Test.YtfaohicadahcjaaGreatDoorTS
import Derived.Test.YtfaohicadahcjaaGreatDoorSQ
import Derived.Test.YtfaohicadahcjaaGreatDoorTA
import Derived.Test.YtfaohicadahcjaaGreatDoorTQ
import Derived.Test.YtfaohicadahcjaaGreatDoorSX
import Derived.Deep.RegionHeld3
namespace Go.Proofs.YtfaohicadahcjaaGreatDoor
open Go.RowKit Go.PlainAid Go.ChangeShapes Go.WideShapes Go.ChangeAt
set_option linter.unusedSimpArgs false
set_option linter.unusedVariables false
/-- The box, and one cell more. -/
def Box6 (b : Nat) (fd : Int) (op tag : ByteArray) (v : Value) (ad : Option Addr) (u : Value) (W : World) : Prop := W.heap[b]? = some (.cells #[.int .i64 fd, .string op, .string tag, v] 44 (0, 0)) ∧ ∀ x, ad = some x → W.cell? x = some u
theorem Box6.cells {b : Nat} {fd : Int} {op tag : ByteArray} {v : Value} {ad : Option Addr} {u : Value} {W : World} (h : Box6 b fd op tag v ad u W) : W.cell? ⟨b, 0, none⟩ = some (.int .i64 fd) ∧ W.cell? ⟨b, 1, none⟩ = some (.string op) ∧ W.cell? ⟨b, 2, none⟩ = some (.string tag) ∧ W.cell? ⟨b, 3, none⟩ = some v ∧ (∀ x, ad = some x → W.cell? x = some u) :=
  ⟨cells_at h.1 rfl, cells_at h.1 rfl, cells_at h.1 rfl, cells_at h.1 rfl, h.2⟩
theorem Box6.on {b : Nat} {fd : Int} {op tag : ByteArray} {v : Value} {ad : Option Addr} {u : Value} {W W' : World} (h : Box6 b fd op tag v ad u W) (hb : Below W.heap.size W W') : Box6 b fd op tag v ad u W' :=
  ⟨(hb.block _ (lt_of_block h.1)).trans h.1, fun x hx => cell_low (h.2 x hx) hb⟩
theorem Box6.drew {b : Nat} {fd : Int} {op tag : ByteArray} {v : Value} {ad : Option Addr} {u : Value} {W : World} (h : Box6 b fd op tag v ad u W) : Box6 b fd op tag v ad u W.drew := h.on (Below.refl _ _).drew
set_option maxHeartbeats 16000000 in
set_option maxRecDepth 100000 in
theorem docs6 (n : Nat) (fd : Int) (op tag : ByteArray) (a : Option Addr) (c : Nat) (l : List Pt) (w : World) (hf : RdFits (.mk fd op tag l)) (h : WdAt n w (.slice a l.length c) l) (hwt : wtR (wts n).1 (.mk fd op tag l) + 1 ≤ 1048576) (he : Env w) :
    Calls Tryz.prog 6 #[.agg #[.int .i64 fd, .string op, .string tag, .slice a l.length c]] w fun e w' => e = .returned (.bool true) ∧ Below w.heap.size w w' := by
  have CA := Lib.hid fun W (hE : Env W) => anchor8 W hE
  have HE := Lib.hid he
  obtain ⟨x, Hx⟩ : ∃ x, Hid (oneN fd op tag l = x) := ⟨_, Lib.hid rfl⟩
  have C9 := Lib.hid fun v W (hW : NsAt (n + 1) W v [x]) => small9 (n + 1) v [x] W hW (by rw [← Hx.out, wts_one]; exact hwt)
  have CV := Lib.hid fun v W (hW : NsAt (n + 1) W v [x]) => (conv (n + 1)).c v [x] W hW
  have CD := Lib.hid fun v W (hW : NsAt (n + 1) W v [x]) => list_one (n + 1) v [x] W 200 hW (by omega) ⟨by omega, by omega⟩
  have C35 := Lib.hid fun (hd : DocFit l) W (hW : Below w.heap.size w W) => doc35 n fd op tag a c l W (kept_wd n _ _ _ _ h hW) hd
  have C19 := Lib.hid fun W (hW : Below w.heap.size w W) => (conv n).w _ l W (kept_wd n _ _ _ _ h hW)
  have C36 := Lib.hid fun (hd : (l.map (docX (litB l))).flatten = docL l) v W (hW : WdAt n W v l) => (show Calls Tryz.prog 36 #[v] W fun e w' => e = .returned (.string (mk (docL l))) ∧ W = w' from by rw [← hd]; exact doc36 n v l W hW hf.s)
  have C37 := Lib.hid fun W (hW : Below w.heap.size w W) => literal37 n fd op tag _ l W (kept_wd n _ _ _ _ h hW)
  have HNS := Lib.hid fun (b1 b2 : Nat) W (hW : Below w.heap.size w W) e1 e2 => (show NsAt (n + 1) W (.slice (some ⟨b2, 0, none⟩) 1 1) [x] from by rw [← Hx.out]; exact ns_one_rd (b1 := b1) (wv := .slice a l.length c) hf (kept_wd n _ _ _ _ h hW) e1 e2)
  have HDF : Hid ((rgt (n + 1)).2 [x] 200 = true → (ls op == [60, 60]) = true → DocFit l ∧ (l.map (docX (litB l))).flatten = docL l) := Lib.hid fun h1 h2 => rgt_rd n fd op tag l (by rw [Hx.out]; exact h1) h2 (at_zero h)
  have HKW := Lib.hid h
  have h7 : (op.toList == [60, 60]) = (ls op == [60, 60]) := by rw [toList_data]
  have h7b : (op.toList != [60, 60]) = !(ls op == [60, 60]) := by rw [bne, h7]
  generalize (ls op == [60, 60]) = b7 at h7 h7b HDF
  generalize smallB (n + 1) [x] = bs at C9
  generalize (rgt (n + 1)).2 [x] 200 = br at CD HDF
  obtain ⟨q, Hq⟩ : ∃ q, Hid (l.length = q) := ⟨_, Lib.hid rfl⟩
  rw [Hq.out] at C35 C19 C37 HNS HKW ⊢
  have HB := Lib.hid ((Below.refl w.heap.size w).alloc (Nat.le_refl _) (.cells #[.int .i64 fd, .string op, .string tag, .slice a q c] 44))
  have HH := Lib.hid (heap_alloc_new w (.cells #[.int .i64 fd, .string op, .string tag, .slice a q c] 44))
  clear h hwt he hf Hx
  go_enter Tryz.func6, Tryz.ntmps6
  go_upto_region 1 with fail
  generalize w.alloc (.cells #[.int .i64 fd, .string op, .string tag, .slice a q c] 44) = w1 at HB HH ⊢
  have CA := Lib.hid (CA.out w1 (HE.out.on HB.out))
  go_wp2_with fail
  refine CA.out.mono ?_
  rintro e w2 ⟨rfl, hb⟩
  have HB2 := Lib.hid (HB.out.trans (hb.mono HB.out.size))
  have HX := Lib.hid ((hb.block _ (lt_of_block HH.out)).trans HH.out)
  have p0 := cells_at HX.out (i := 0) (u := .int .i64 fd) rfl
  have p1 := cells_at HX.out (i := 1) (u := .string op) rfl
  have p2 := cells_at HX.out (i := 2) (u := .string tag) rfl
  have p3 := cells_at HX.out (i := 3) (u := .slice a q c) rfl
  clear hb
  go_upto_region 4 with fail
  have hsz := (push_size w2 (.cells #[.int .i64 fd, .string op, .string tag, .slice a q c] 44) _ rfl).symm
  have HB3 := Lib.hid (HB2.out.alloc HB2.out.size (.cells #[.int .i64 fd, .string op, .string tag, .slice a q c] 44))
  have HB4 := Lib.hid (HB3.out.alloc HB3.out.size (.cells #[.int .i64 1, .string ⟨#[]⟩, .slice none 0 0, .slice none 0 0, .slice (some ⟨w2.heap.size, 0, none⟩) 1 1, .slice none 0 0, .slice none 0 0] 51))
  have E1 := push_old (w2.alloc (.cells #[.int .i64 fd, .string op, .string tag, .slice a q c] 44)) (.cells #[.int .i64 1, .string ⟨#[]⟩, .slice none 0 0, .slice none 0 0, .slice (some ⟨w2.heap.size, 0, none⟩) 1 1, .slice none 0 0, .slice none 0 0] 51) (.cells #[.int .i64 fd, .string op, .string tag, .slice a q c] 44) _ w2.heap.size rfl (by rw [← hsz]; omega) (heap_alloc_new w2 (.cells #[.int .i64 fd, .string op, .string tag, .slice a q c] 44))
  have E2 := heap_alloc_new (w2.alloc (.cells #[.int .i64 fd, .string op, .string tag, .slice a q c] 44)) (.cells #[.int .i64 1, .string ⟨#[]⟩, .slice none 0 0, .slice none 0 0, .slice (some ⟨w2.heap.size, 0, none⟩) 1 1, .slice none 0 0, .slice none 0 0] 51)
  have HN := Lib.hid (HNS.out w2.heap.size (w2.alloc (.cells #[.int .i64 fd, .string op, .string tag, .slice a q c] 44)).heap.size _ HB4.out E1 E2)
  have HXB := Lib.hid (push_old (w2.alloc (.cells #[.int .i64 fd, .string op, .string tag, .slice a q c] 44)) (.cells #[.int .i64 1, .string ⟨#[]⟩, .slice none 0 0, .slice none 0 0, .slice (some ⟨w2.heap.size, 0, none⟩) 1 1, .slice none 0 0, .slice none 0 0] 51) _ _ w.heap.size rfl (by rw [← hsz]; have := lt_of_block HX.out; omega) (push_old w2 (.cells #[.int .i64 fd, .string op, .string tag, .slice a q c] 44) _ _ w.heap.size rfl (lt_of_block HX.out) HX.out))
  rw [← hsz] at HN
  clear E1 E2 HB3 p0 p1 p2 p3 HX HB HB2 HH hsz
  generalize (w2.alloc (.cells #[.int .i64 fd, .string op, .string tag, .slice a q c] 44)).alloc (.cells #[.int .i64 1, .string ⟨#[]⟩, .slice none 0 0, .slice none 0 0, .slice (some ⟨w2.heap.size, 0, none⟩) 1 1, .slice none 0 0, .slice none 0 0] 51) = w4 at HB4 HN HXB ⊢
  generalize w2.heap.size + 1 = b2 at HN ⊢
  generalize w2.heap.size = b1
  have C9w := Lib.hid (C9.out _ w4 HN.out)
  go_wp2_with fail
  refine C9w.out.mono ?_
  rintro e w5 ⟨rfl, hb⟩
  have HB5 := Lib.hid (HB4.out.trans (hb.mono HB4.out.size))
  have HX5 := Lib.hid ((hb.block _ (lt_of_block HXB.out)).trans HXB.out)
  have HN5 := Lib.hid (kept_ns (n + 1) _ _ _ _ HN.out hb)
  clear hb
  have p0 := cells_at HX5.out (i := 0) (u := .int .i64 fd) rfl
  have p1 := cells_at HX5.out (i := 1) (u := .string op) rfl
  have p2 := cells_at HX5.out (i := 2) (u := .string tag) rfl
  have p3 := cells_at HX5.out (i := 3) (u := .slice a q c) rfl
  cases bs
  case false =>
    go_wp2
    go_ret
    exact ⟨rfl, HB5.out⟩
  cases b7
  case false =>
    go_wp2
    go_ret
    exact ⟨rfl, HB5.out⟩
  have CVw := Lib.hid (CV.out _ w5 HN5.out)
  go_wp2_with fail
  refine CVw.out.mono ?_
  rintro e w6 ⟨u, rfl, hF, hb⟩
  have HU := Lib.hid hF.here
  have HB6 := Lib.hid (HB5.out.trans (hb.mono HB5.out.size))
  have HX6 := Lib.hid ((hb.block _ (lt_of_block HX5.out)).trans HX5.out)
  clear hF hb p0 p1 p2 p3
  obtain ⟨ua, uc, eu⟩ := ns_shape _ _ _ _ HU.out
  subst eu
  have CDw := Lib.hid (CD.out _ w6 HU.out)
  go_wp2_with fail
  refine CDw.out.mono ?_
  rintro e w7 ⟨rfl, hb⟩
  have HB7 := Lib.hid (HB6.out.trans (hb.mono HB6.out.size))
  have HX7 := Lib.hid ((hb.block _ (lt_of_block HX6.out)).trans HX6.out)
  clear hb
  cases br
  case false =>
    go_wp2
    go_ret
    exact ⟨rfl, HB7.out⟩
  obtain ⟨hdf, hdx⟩ := HDF.out (by simp) (by simp)
  have D35 := Lib.hid fun W (hW : Below w.heap.size w W) => C35.out hdf W hW
  have D36 := Lib.hid (C36.out hdx)
  clear C35 C36 hdf hdx HDF C9 CV CD C9w CVw CDw HU HN HN5 HNS CA
  obtain ⟨s, Hs⟩ : ∃ s, Hid (mk (docL l) = s) := ⟨_, Lib.hid rfl⟩
  rw [Hs.out] at D35 D36
  have HB8 := Lib.hid HB7.out.drew
  rcases l with _ | ⟨p, _ | ⟨p2, r⟩⟩
  · obtain rfl : q = 0 := Hq.out.symm
    rw [show litB [] = true from rfl] at C37
    have hh0 : Box6 w.heap.size fd op tag (.slice a 0 c) none undef w7.drew := Box6.drew ⟨HX7.out, by rintro x hx; cases hx⟩
    go_upto_region 6 with fail
    refine region_any (S := Box6 w.heap.size fd op tag (.slice a 0 c) none undef) (z := 30) (by kernel_rfl) ?_
    refine any_take (i := 0) (v := .agg #[.int .i64 fd, .string op, .string tag, .slice a 0 c]) rfl (by kernel_rfl) (by kernel_rfl) (by kernel_rfl) (by kernel_rfl) (fun _ _ _ h => h) (Or.inl ⟨by rfl, fun W hW => by have hW := hW.cells; obtain ⟨h0, h1, h2, h3, h4⟩ := hW; go_simp⟩) hh0 ?_
    try simp only [Act.put, List.getElem_toArray, List.getElem_cons_zero, List.getElem_cons_succ, List.setIfInBounds_toArray, List.set_cons_zero, List.set_cons_succ]
    refine any_take (i := 2) (v := .pointer (some ⟨w.heap.size, 3, none⟩)) rfl (by kernel_rfl) (by kernel_rfl) (by kernel_rfl) (by kernel_rfl) (fun _ _ _ h => h) (Or.inl ⟨by rfl, fun W hW => by have hW := hW.cells; obtain ⟨h0, h1, h2, h3, h4⟩ := hW; go_simp⟩) hh0 ?_
    try simp only [Act.put, List.getElem_toArray, List.getElem_cons_zero, List.getElem_cons_succ, List.setIfInBounds_toArray, List.set_cons_zero, List.set_cons_succ]
    refine any_take (i := 3) (v := .slice a 0 c) rfl (by kernel_rfl) (by kernel_rfl) (by kernel_rfl) (by kernel_rfl) (fun _ _ _ h => h) (Or.inl ⟨by rfl, fun W hW => by have hW := hW.cells; obtain ⟨h0, h1, h2, h3, h4⟩ := hW; go_simp⟩) hh0 ?_
    try simp only [Act.put, List.getElem_toArray, List.getElem_cons_zero, List.getElem_cons_succ, List.setIfInBounds_toArray, List.set_cons_zero, List.set_cons_succ]
    refine any_one (i := 1) (by kernel_rfl) rfl (fun K hK => ?_)
    try go_simp
    go_at_call 35
    refine (D35.out _ HB8.out).mono ?_
    rintro e w9 ⟨rfl, b9⟩
    have HB9 := Lib.hid (HB8.out.trans (b9.mono HB8.out.size))
    have hh1 := hh0.on b9
    clear b9
    go_wp2_with fail
    refine hK.out _ _ (Or.inr hh1) (fun hHeld => ?_)
    clear hK K hHeld
    try simp only [Act.put, List.getElem_toArray, List.getElem_cons_zero, List.getElem_cons_succ, List.setIfInBounds_toArray, List.set_cons_zero, List.set_cons_succ]
    refine any_one (i := 4) (by kernel_rfl) rfl (fun K hK => ?_)
    try go_simp
    go_at_call 19
    refine (C19.out _ HB9.out).mono ?_
    rintro e w10 ⟨v1, rfl, hF, b10⟩
    have HV := Lib.hid hF.here
    have HB10 := Lib.hid (HB9.out.trans (b10.mono HB9.out.size))
    have hh2 := hh1.on b10
    clear b10 hF
    go_wp2_with fail
    refine hK.out _ _ (Or.inr hh2) (fun hHeld => ?_)
    clear hK K hHeld
    try simp only [Act.put, List.getElem_toArray, List.getElem_cons_zero, List.getElem_cons_succ, List.setIfInBounds_toArray, List.set_cons_zero, List.set_cons_succ]
    refine any_one (i := 5) (by kernel_rfl) rfl (fun K hK => ?_)
    try go_simp
    go_at_call 36
    refine (D36.out _ _ HV.out).mono ?_
    rintro e w11 ⟨rfl, rfl⟩
    go_wp2_with fail
    refine hK.out _ _ (Or.inr hh2) (fun hHeld => ?_)
    clear hK K hHeld
    try simp only [Act.put, List.getElem_toArray, List.getElem_cons_zero, List.getElem_cons_succ, List.setIfInBounds_toArray, List.set_cons_zero, List.set_cons_succ]
    refine any_take (i := 6) (v := .bool true) rfl (by kernel_rfl) (by kernel_rfl) (by kernel_rfl) (by kernel_rfl) (fun _ _ _ h => h) (Or.inl ⟨by rfl, fun W hW => by have hW := hW.cells; obtain ⟨h0, h1, h2, h3, h4⟩ := hW; go_simp⟩) hh2 ?_
    try simp only [Act.put, List.getElem_toArray, List.getElem_cons_zero, List.getElem_cons_succ, List.setIfInBounds_toArray, List.set_cons_zero, List.set_cons_succ]
    refine any_take (i := 7) (v := .bool true) rfl (by kernel_rfl) (by kernel_rfl) (by kernel_rfl) (by kernel_rfl) (fun _ _ _ h => h) (Or.inl ⟨by rfl, fun W hW => by have hW := hW.cells; obtain ⟨h0, h1, h2, h3, h4⟩ := hW; go_simp⟩) hh2 ?_
    try simp only [Act.put, List.getElem_toArray, List.getElem_cons_zero, List.getElem_cons_succ, List.setIfInBounds_toArray, List.set_cons_zero, List.set_cons_succ]
    refine any_take (i := 8) (v := .agg #[.int .i64 fd, .string op, .string tag, .slice a 0 c]) rfl (by kernel_rfl) (by kernel_rfl) (by kernel_rfl) (by kernel_rfl) (fun _ _ _ h => h) (Or.inl ⟨by rfl, fun W hW => by have hW := hW.cells; obtain ⟨h0, h1, h2, h3, h4⟩ := hW; go_simp⟩) hh2 ?_
    try simp only [Act.put, List.getElem_toArray, List.getElem_cons_zero, List.getElem_cons_succ, List.setIfInBounds_toArray, List.set_cons_zero, List.set_cons_succ]
    refine any_take (i := 10) (v := .pointer (some ⟨w.heap.size, 3, none⟩)) rfl (by kernel_rfl) (by kernel_rfl) (by kernel_rfl) (by kernel_rfl) (fun _ _ _ h => h) (Or.inl ⟨by rfl, fun W hW => by have hW := hW.cells; obtain ⟨h0, h1, h2, h3, h4⟩ := hW; go_simp⟩) hh2 ?_
    try simp only [Act.put, List.getElem_toArray, List.getElem_cons_zero, List.getElem_cons_succ, List.setIfInBounds_toArray, List.set_cons_zero, List.set_cons_succ]
    refine any_take (i := 11) (v := .slice a 0 c) rfl (by kernel_rfl) (by kernel_rfl) (by kernel_rfl) (by kernel_rfl) (fun _ _ _ h => h) (Or.inl ⟨by rfl, fun W hW => by have hW := hW.cells; obtain ⟨h0, h1, h2, h3, h4⟩ := hW; go_simp⟩) hh2 ?_
    try simp only [Act.put, List.getElem_toArray, List.getElem_cons_zero, List.getElem_cons_succ, List.setIfInBounds_toArray, List.set_cons_zero, List.set_cons_succ]
    refine any_take (i := 12) (v := .int .i64 0) rfl (by kernel_rfl) (by kernel_rfl) (by kernel_rfl) (by kernel_rfl) (fun _ _ _ h => h) (Or.inl ⟨by rfl, fun W hW => by have hW := hW.cells; obtain ⟨h0, h1, h2, h3, h4⟩ := hW; go_simp⟩) hh2 ?_
    try simp only [Act.put, List.getElem_toArray, List.getElem_cons_zero, List.getElem_cons_succ, List.setIfInBounds_toArray, List.set_cons_zero, List.set_cons_succ]
    refine any_take (i := 13) (v := .bool true) rfl (by kernel_rfl) (by kernel_rfl) (by kernel_rfl) (by kernel_rfl) (fun _ _ _ h => h) (Or.inl ⟨by rfl, fun W hW => by have hW := hW.cells; obtain ⟨h0, h1, h2, h3, h4⟩ := hW; go_simp; try assumption⟩) hh2 ?_
    try simp only [Act.put, List.getElem_toArray, List.getElem_cons_zero, List.getElem_cons_succ, List.setIfInBounds_toArray, List.set_cons_zero, List.set_cons_succ]
    refine any_one (i := 9) (by kernel_rfl) rfl (fun K hK => ?_)
    try go_simp
    go_at_call 37
    refine (C37.out _ HB10.out).mono ?_
    rintro e w12 ⟨rfl, b12⟩
    have HB12 := Lib.hid (HB10.out.trans (b12.mono HB10.out.size))
    have hh3 := hh2.on b12
    clear b12
    go_wp2_with fail
    refine hK.out _ _ (Or.inr hh3) (fun hHeld => ?_)
    clear hK K hHeld
    try simp only [Act.put, List.getElem_toArray, List.getElem_cons_zero, List.getElem_cons_succ, List.setIfInBounds_toArray, List.set_cons_zero, List.set_cons_succ]
    refine any_take (i := 14) (v := .bool true) rfl (by kernel_rfl) (by kernel_rfl) (by kernel_rfl) (by kernel_rfl) (fun _ _ _ h => h) (Or.inl ⟨by rfl, fun W hW => by have hW := hW.cells; obtain ⟨h0, h1, h2, h3, h4⟩ := hW; go_simp⟩) hh3 ?_
    try simp only [Act.put, List.getElem_toArray, List.getElem_cons_zero, List.getElem_cons_succ, List.setIfInBounds_toArray, List.set_cons_zero, List.set_cons_succ]
    refine any_take (i := 15) (v := undef) rfl (by kernel_rfl) (by kernel_rfl) (by kernel_rfl) (by kernel_rfl) (fun _ _ _ h => h) (Or.inr ⟨by rfl, rfl⟩) hh3 ?_
    try simp only [Act.put, List.getElem_toArray, List.getElem_cons_zero, List.getElem_cons_succ, List.setIfInBounds_toArray, List.set_cons_zero, List.set_cons_succ]
    refine any_take (i := 16) (v := undef) rfl (by kernel_rfl) (by kernel_rfl) (by kernel_rfl) (by kernel_rfl) (fun _ _ _ h => h) (Or.inr ⟨by rfl, rfl⟩) hh3 ?_
    try simp only [Act.put, List.getElem_toArray, List.getElem_cons_zero, List.getElem_cons_succ, List.setIfInBounds_toArray, List.set_cons_zero, List.set_cons_succ]
    refine any_take (i := 17) (v := undef) rfl (by kernel_rfl) (by kernel_rfl) (by kernel_rfl) (by kernel_rfl) (fun _ _ _ h => h) (Or.inr ⟨by rfl, rfl⟩) hh3 ?_
    try simp only [Act.put, List.getElem_toArray, List.getElem_cons_zero, List.getElem_cons_succ, List.setIfInBounds_toArray, List.set_cons_zero, List.set_cons_succ]
    refine any_take (i := 18) (v := undef) rfl (by kernel_rfl) (by kernel_rfl) (by kernel_rfl) (by kernel_rfl) (fun _ _ _ h => h) (Or.inr ⟨by rfl, rfl⟩) hh3 ?_
    try simp only [Act.put, List.getElem_toArray, List.getElem_cons_zero, List.getElem_cons_succ, List.setIfInBounds_toArray, List.set_cons_zero, List.set_cons_succ]
    refine any_take (i := 19) (v := undef) rfl (by kernel_rfl) (by kernel_rfl) (by kernel_rfl) (by kernel_rfl) (fun _ _ _ h => h) (Or.inr ⟨by rfl, rfl⟩) hh3 ?_
    try simp only [Act.put, List.getElem_toArray, List.getElem_cons_zero, List.getElem_cons_succ, List.setIfInBounds_toArray, List.set_cons_zero, List.set_cons_succ]
    refine any_take (i := 20) (v := undef) rfl (by kernel_rfl) (by kernel_rfl) (by kernel_rfl) (by kernel_rfl) (fun _ _ _ h => h) (Or.inr ⟨by rfl, rfl⟩) hh3 ?_
    try simp only [Act.put, List.getElem_toArray, List.getElem_cons_zero, List.getElem_cons_succ, List.setIfInBounds_toArray, List.set_cons_zero, List.set_cons_succ]
    refine any_take (i := 21) (v := undef) rfl (by kernel_rfl) (by kernel_rfl) (by kernel_rfl) (by kernel_rfl) (fun _ _ _ h => h) (Or.inr ⟨by rfl, rfl⟩) hh3 ?_
    try simp only [Act.put, List.getElem_toArray, List.getElem_cons_zero, List.getElem_cons_succ, List.setIfInBounds_toArray, List.set_cons_zero, List.set_cons_succ]
    refine any_take (i := 22) (v := undef) rfl (by kernel_rfl) (by kernel_rfl) (by kernel_rfl) (by kernel_rfl) (fun _ _ _ h => h) (Or.inr ⟨by rfl, rfl⟩) hh3 ?_
    try simp only [Act.put, List.getElem_toArray, List.getElem_cons_zero, List.getElem_cons_succ, List.setIfInBounds_toArray, List.set_cons_zero, List.set_cons_succ]
    refine any_take (i := 23) (v := undef) rfl (by kernel_rfl) (by kernel_rfl) (by kernel_rfl) (by kernel_rfl) (fun _ _ _ h => h) (Or.inr ⟨by rfl, rfl⟩) hh3 ?_
    try simp only [Act.put, List.getElem_toArray, List.getElem_cons_zero, List.getElem_cons_succ, List.setIfInBounds_toArray, List.set_cons_zero, List.set_cons_succ]
    refine any_take (i := 24) (v := undef) rfl (by kernel_rfl) (by kernel_rfl) (by kernel_rfl) (by kernel_rfl) (fun _ _ _ h => h) (Or.inr ⟨by rfl, rfl⟩) hh3 ?_
    try simp only [Act.put, List.getElem_toArray, List.getElem_cons_zero, List.getElem_cons_succ, List.setIfInBounds_toArray, List.set_cons_zero, List.set_cons_succ]
    refine any_take (i := 25) (v := undef) rfl (by kernel_rfl) (by kernel_rfl) (by kernel_rfl) (by kernel_rfl) (fun _ _ _ h => h) (Or.inr ⟨by rfl, rfl⟩) hh3 ?_
    try simp only [Act.put, List.getElem_toArray, List.getElem_cons_zero, List.getElem_cons_succ, List.setIfInBounds_toArray, List.set_cons_zero, List.set_cons_succ]
    refine any_take (i := 26) (v := undef) rfl (by kernel_rfl) (by kernel_rfl) (by kernel_rfl) (by kernel_rfl) (fun _ _ _ h => h) (Or.inr ⟨by rfl, rfl⟩) hh3 ?_
    try simp only [Act.put, List.getElem_toArray, List.getElem_cons_zero, List.getElem_cons_succ, List.setIfInBounds_toArray, List.set_cons_zero, List.set_cons_succ]
    refine any_take (i := 27) (v := .bool true) rfl (by kernel_rfl) (by kernel_rfl) (by kernel_rfl) (by kernel_rfl) (fun _ _ _ h => h) (Or.inl ⟨by rfl, fun W hW => by have hW := hW.cells; obtain ⟨h0, h1, h2, h3, h4⟩ := hW; go_simp⟩) hh3 ?_
    try simp only [Act.put, List.getElem_toArray, List.getElem_cons_zero, List.getElem_cons_succ, List.setIfInBounds_toArray, List.set_cons_zero, List.set_cons_succ]
    refine any_take (i := 28) (v := .bool true) rfl (by kernel_rfl) (by kernel_rfl) (by kernel_rfl) (by kernel_rfl) (fun _ _ _ h => h) (Or.inl ⟨by rfl, fun W hW => by have hW := hW.cells; obtain ⟨h0, h1, h2, h3, h4⟩ := hW; go_simp⟩) hh3 ?_
    try simp only [Act.put, List.getElem_toArray, List.getElem_cons_zero, List.getElem_cons_succ, List.setIfInBounds_toArray, List.set_cons_zero, List.set_cons_succ]
    refine any_take (i := 29) (v := .bool true) rfl (by kernel_rfl) (by kernel_rfl) (by kernel_rfl) (by kernel_rfl) (fun _ _ _ h => h) (Or.inl ⟨by rfl, fun W hW => by have hW := hW.cells; obtain ⟨h0, h1, h2, h3, h4⟩ := hW; go_simp⟩) hh3 ?_
    try simp only [Act.put, List.getElem_toArray, List.getElem_cons_zero, List.getElem_cons_succ, List.setIfInBounds_toArray, List.set_cons_zero, List.set_cons_succ]
    refine any_one (i := 30) (by kernel_rfl) rfl (fun K hK => ?_)
    try go_simp
    refine hK.out _ _ (Or.inl rfl) (fun hHeld => ?_)
    clear hK K hHeld
    try simp only [Act.put, List.getElem_toArray, List.getElem_cons_zero, List.getElem_cons_succ, List.setIfInBounds_toArray, List.set_cons_zero, List.set_cons_succ]
    refine any_done (by kernel_rfl) ?_ _
    go_wp2
    go_ret
    exact ⟨rfl, HB12.out⟩
  · obtain rfl : q = 1 := Hq.out.symm
    have h0 := kept_wd n _ _ _ _ HKW.out HB7.out
    obtain ⟨m8, b8, off8, c8, wv, bv, hm8, ev, hc8, _, _, _, c0, c1, _⟩ := wd_at h0 0 (by simp)
    simp only [List.getElem_cons_zero, Nat.zero_mul, Nat.add_zero, List.length_cons, List.length_nil, Nat.zero_add] at ev c0 hc8
    obtain rfl : a = some ⟨b8, off8, none⟩ := by injection ev
    obtain rfl : c = c8 := by injection ev
    have C37 := Lib.hid fun W (hW : Below w.heap.size w W) => (show Calls Tryz.prog 37 #[.agg #[.int .i64 fd, .string op, .string tag, .slice (some ⟨b8, off8, none⟩) 1 c]] W fun e w' => e = .returned (.bool (decide (p.kind = 1))) ∧ Below W.heap.size W w' from C37.out W hW)
    have hk := eq_int p.kind 1
    generalize decide (p.kind = 1) = b0 at hk C37
    have hbb : (b0 == b0) = true := by cases b0 <;> rfl
    clear ev c1 h0 hm8 HKW
    have hh0 : Box6 w.heap.size fd op tag (.slice (some ⟨b8, off8, none⟩) 1 c) (some ⟨b8, off8 + 0 * 6, none⟩) (.int .i64 p.kind) w7.drew := Box6.drew ⟨HX7.out, by rintro x hx; cases hx; exact c0⟩
    go_upto_region 6 with fail
    refine region_any (S := Box6 w.heap.size fd op tag (.slice (some ⟨b8, off8, none⟩) 1 c) (some ⟨b8, off8 + 0 * 6, none⟩) (.int .i64 p.kind)) (z := 30) (by kernel_rfl) ?_
    refine any_take (i := 0) (v := .agg #[.int .i64 fd, .string op, .string tag, .slice (some ⟨b8, off8, none⟩) 1 c]) rfl (by kernel_rfl) (by kernel_rfl) (by kernel_rfl) (by kernel_rfl) (fun _ _ _ h => h) (Or.inl ⟨by rfl, fun W hW => by have hW := hW.cells; obtain ⟨h0, h1, h2, h3, h4⟩ := hW; have h4 := h4 _ rfl; have h5 : W.cell? ⟨b8, off8, none⟩ = some (.int .i64 p.kind) := h4; go_simp⟩) hh0 ?_
    try simp only [Act.put, List.getElem_toArray, List.getElem_cons_zero, List.getElem_cons_succ, List.setIfInBounds_toArray, List.set_cons_zero, List.set_cons_succ]
    refine any_take (i := 2) (v := .pointer (some ⟨w.heap.size, 3, none⟩)) rfl (by kernel_rfl) (by kernel_rfl) (by kernel_rfl) (by kernel_rfl) (fun _ _ _ h => h) (Or.inl ⟨by rfl, fun W hW => by have hW := hW.cells; obtain ⟨h0, h1, h2, h3, h4⟩ := hW; have h4 := h4 _ rfl; have h5 : W.cell? ⟨b8, off8, none⟩ = some (.int .i64 p.kind) := h4; go_simp⟩) hh0 ?_
    try simp only [Act.put, List.getElem_toArray, List.getElem_cons_zero, List.getElem_cons_succ, List.setIfInBounds_toArray, List.set_cons_zero, List.set_cons_succ]
    refine any_take (i := 3) (v := .slice (some ⟨b8, off8, none⟩) 1 c) rfl (by kernel_rfl) (by kernel_rfl) (by kernel_rfl) (by kernel_rfl) (fun _ _ _ h => h) (Or.inl ⟨by rfl, fun W hW => by have hW := hW.cells; obtain ⟨h0, h1, h2, h3, h4⟩ := hW; have h4 := h4 _ rfl; have h5 : W.cell? ⟨b8, off8, none⟩ = some (.int .i64 p.kind) := h4; go_simp⟩) hh0 ?_
    try simp only [Act.put, List.getElem_toArray, List.getElem_cons_zero, List.getElem_cons_succ, List.setIfInBounds_toArray, List.set_cons_zero, List.set_cons_succ]
    refine any_one (i := 1) (by kernel_rfl) rfl (fun K hK => ?_)
    try go_simp
    go_at_call 35
    refine (D35.out _ HB8.out).mono ?_
    rintro e w9 ⟨rfl, b9⟩
    have HB9 := Lib.hid (HB8.out.trans (b9.mono HB8.out.size))
    have hh1 := hh0.on b9
    clear b9
    go_wp2_with fail
    refine hK.out _ _ (Or.inr hh1) (fun hHeld => ?_)
    clear hK K hHeld
    try simp only [Act.put, List.getElem_toArray, List.getElem_cons_zero, List.getElem_cons_succ, List.setIfInBounds_toArray, List.set_cons_zero, List.set_cons_succ]
    refine any_one (i := 4) (by kernel_rfl) rfl (fun K hK => ?_)
    try go_simp
    go_at_call 19
    refine (C19.out _ HB9.out).mono ?_
    rintro e w10 ⟨v1, rfl, hF, b10⟩
    have HV := Lib.hid hF.here
    have HB10 := Lib.hid (HB9.out.trans (b10.mono HB9.out.size))
    have hh2 := hh1.on b10
    clear b10 hF
    go_wp2_with fail
    refine hK.out _ _ (Or.inr hh2) (fun hHeld => ?_)
    clear hK K hHeld
    try simp only [Act.put, List.getElem_toArray, List.getElem_cons_zero, List.getElem_cons_succ, List.setIfInBounds_toArray, List.set_cons_zero, List.set_cons_succ]
    refine any_one (i := 5) (by kernel_rfl) rfl (fun K hK => ?_)
    try go_simp
    go_at_call 36
    refine (D36.out _ _ HV.out).mono ?_
    rintro e w11 ⟨rfl, rfl⟩
    go_wp2_with fail
    refine hK.out _ _ (Or.inr hh2) (fun hHeld => ?_)
    clear hK K hHeld
    try simp only [Act.put, List.getElem_toArray, List.getElem_cons_zero, List.getElem_cons_succ, List.setIfInBounds_toArray, List.set_cons_zero, List.set_cons_succ]
    refine any_take (i := 6) (v := .bool true) rfl (by kernel_rfl) (by kernel_rfl) (by kernel_rfl) (by kernel_rfl) (fun _ _ _ h => h) (Or.inl ⟨by rfl, fun W hW => by have hW := hW.cells; obtain ⟨h0, h1, h2, h3, h4⟩ := hW; have h4 := h4 _ rfl; have h5 : W.cell? ⟨b8, off8, none⟩ = some (.int .i64 p.kind) := h4; go_simp⟩) hh2 ?_
    try simp only [Act.put, List.getElem_toArray, List.getElem_cons_zero, List.getElem_cons_succ, List.setIfInBounds_toArray, List.set_cons_zero, List.set_cons_succ]
    refine any_take (i := 7) (v := .bool true) rfl (by kernel_rfl) (by kernel_rfl) (by kernel_rfl) (by kernel_rfl) (fun _ _ _ h => h) (Or.inl ⟨by rfl, fun W hW => by have hW := hW.cells; obtain ⟨h0, h1, h2, h3, h4⟩ := hW; have h4 := h4 _ rfl; have h5 : W.cell? ⟨b8, off8, none⟩ = some (.int .i64 p.kind) := h4; go_simp⟩) hh2 ?_
    try simp only [Act.put, List.getElem_toArray, List.getElem_cons_zero, List.getElem_cons_succ, List.setIfInBounds_toArray, List.set_cons_zero, List.set_cons_succ]
    refine any_take (i := 8) (v := .agg #[.int .i64 fd, .string op, .string tag, .slice (some ⟨b8, off8, none⟩) 1 c]) rfl (by kernel_rfl) (by kernel_rfl) (by kernel_rfl) (by kernel_rfl) (fun _ _ _ h => h) (Or.inl ⟨by rfl, fun W hW => by have hW := hW.cells; obtain ⟨h0, h1, h2, h3, h4⟩ := hW; have h4 := h4 _ rfl; have h5 : W.cell? ⟨b8, off8, none⟩ = some (.int .i64 p.kind) := h4; go_simp⟩) hh2 ?_
    try simp only [Act.put, List.getElem_toArray, List.getElem_cons_zero, List.getElem_cons_succ, List.setIfInBounds_toArray, List.set_cons_zero, List.set_cons_succ]
    refine any_take (i := 10) (v := .pointer (some ⟨w.heap.size, 3, none⟩)) rfl (by kernel_rfl) (by kernel_rfl) (by kernel_rfl) (by kernel_rfl) (fun _ _ _ h => h) (Or.inl ⟨by rfl, fun W hW => by have hW := hW.cells; obtain ⟨h0, h1, h2, h3, h4⟩ := hW; have h4 := h4 _ rfl; have h5 : W.cell? ⟨b8, off8, none⟩ = some (.int .i64 p.kind) := h4; go_simp⟩) hh2 ?_
    try simp only [Act.put, List.getElem_toArray, List.getElem_cons_zero, List.getElem_cons_succ, List.setIfInBounds_toArray, List.set_cons_zero, List.set_cons_succ]
    refine any_take (i := 11) (v := .slice (some ⟨b8, off8, none⟩) 1 c) rfl (by kernel_rfl) (by kernel_rfl) (by kernel_rfl) (by kernel_rfl) (fun _ _ _ h => h) (Or.inl ⟨by rfl, fun W hW => by have hW := hW.cells; obtain ⟨h0, h1, h2, h3, h4⟩ := hW; have h4 := h4 _ rfl; have h5 : W.cell? ⟨b8, off8, none⟩ = some (.int .i64 p.kind) := h4; go_simp⟩) hh2 ?_
    try simp only [Act.put, List.getElem_toArray, List.getElem_cons_zero, List.getElem_cons_succ, List.setIfInBounds_toArray, List.set_cons_zero, List.set_cons_succ]
    refine any_take (i := 12) (v := .int .i64 1) rfl (by kernel_rfl) (by kernel_rfl) (by kernel_rfl) (by kernel_rfl) (fun _ _ _ h => h) (Or.inl ⟨by rfl, fun W hW => by have hW := hW.cells; obtain ⟨h0, h1, h2, h3, h4⟩ := hW; have h4 := h4 _ rfl; have h5 : W.cell? ⟨b8, off8, none⟩ = some (.int .i64 p.kind) := h4; go_simp⟩) hh2 ?_
    try simp only [Act.put, List.getElem_toArray, List.getElem_cons_zero, List.getElem_cons_succ, List.setIfInBounds_toArray, List.set_cons_zero, List.set_cons_succ]
    refine any_take (i := 13) (v := .bool false) rfl (by kernel_rfl) (by kernel_rfl) (by kernel_rfl) (by kernel_rfl) (fun _ _ _ h => h) (Or.inl ⟨by rfl, fun W hW => by have hW := hW.cells; obtain ⟨h0, h1, h2, h3, h4⟩ := hW; have h4 := h4 _ rfl; have h5 : W.cell? ⟨b8, off8, none⟩ = some (.int .i64 p.kind) := h4; go_simp; try assumption⟩) hh2 ?_
    try simp only [Act.put, List.getElem_toArray, List.getElem_cons_zero, List.getElem_cons_succ, List.setIfInBounds_toArray, List.set_cons_zero, List.set_cons_succ]
    refine any_one (i := 9) (by kernel_rfl) rfl (fun K hK => ?_)
    try go_simp
    go_at_call 37
    refine (C37.out _ HB10.out).mono ?_
    rintro e w12 ⟨rfl, b12⟩
    have HB12 := Lib.hid (HB10.out.trans (b12.mono HB10.out.size))
    have hh3 := hh2.on b12
    clear b12
    go_wp2_with fail
    refine hK.out _ _ (Or.inr hh3) (fun hHeld => ?_)
    clear hK K hHeld
    try simp only [Act.put, List.getElem_toArray, List.getElem_cons_zero, List.getElem_cons_succ, List.setIfInBounds_toArray, List.set_cons_zero, List.set_cons_succ]
    refine any_take (i := 14) (v := .bool false) rfl (by kernel_rfl) (by kernel_rfl) (by kernel_rfl) (by kernel_rfl) (fun _ _ _ h => h) (Or.inl ⟨by rfl, fun W hW => by have hW := hW.cells; obtain ⟨h0, h1, h2, h3, h4⟩ := hW; have h4 := h4 _ rfl; have h5 : W.cell? ⟨b8, off8, none⟩ = some (.int .i64 p.kind) := h4; go_simp⟩) hh3 ?_
    try simp only [Act.put, List.getElem_toArray, List.getElem_cons_zero, List.getElem_cons_succ, List.setIfInBounds_toArray, List.set_cons_zero, List.set_cons_succ]
    refine any_take (i := 15) (v := .pointer (some ⟨w.heap.size, 3, none⟩)) rfl (by kernel_rfl) (by kernel_rfl) (by kernel_rfl) (by kernel_rfl) (fun _ _ _ h => h) (Or.inl ⟨by rfl, fun W hW => by have hW := hW.cells; obtain ⟨h0, h1, h2, h3, h4⟩ := hW; have h4 := h4 _ rfl; have h5 : W.cell? ⟨b8, off8, none⟩ = some (.int .i64 p.kind) := h4; go_simp⟩) hh3 ?_
    try simp only [Act.put, List.getElem_toArray, List.getElem_cons_zero, List.getElem_cons_succ, List.setIfInBounds_toArray, List.set_cons_zero, List.set_cons_succ]
    refine any_take (i := 16) (v := .slice (some ⟨b8, off8, none⟩) 1 c) rfl (by kernel_rfl) (by kernel_rfl) (by kernel_rfl) (by kernel_rfl) (fun _ _ _ h => h) (Or.inl ⟨by rfl, fun W hW => by have hW := hW.cells; obtain ⟨h0, h1, h2, h3, h4⟩ := hW; have h4 := h4 _ rfl; have h5 : W.cell? ⟨b8, off8, none⟩ = some (.int .i64 p.kind) := h4; go_simp⟩) hh3 ?_
    try simp only [Act.put, List.getElem_toArray, List.getElem_cons_zero, List.getElem_cons_succ, List.setIfInBounds_toArray, List.set_cons_zero, List.set_cons_succ]
    refine any_take (i := 17) (v := .int .i64 1) rfl (by kernel_rfl) (by kernel_rfl) (by kernel_rfl) (by kernel_rfl) (fun _ _ _ h => h) (Or.inl ⟨by rfl, fun W hW => by have hW := hW.cells; obtain ⟨h0, h1, h2, h3, h4⟩ := hW; have h4 := h4 _ rfl; have h5 : W.cell? ⟨b8, off8, none⟩ = some (.int .i64 p.kind) := h4; go_simp⟩) hh3 ?_
    try simp only [Act.put, List.getElem_toArray, List.getElem_cons_zero, List.getElem_cons_succ, List.setIfInBounds_toArray, List.set_cons_zero, List.set_cons_succ]
    refine any_take (i := 18) (v := .bool true) rfl (by kernel_rfl) (by kernel_rfl) (by kernel_rfl) (by kernel_rfl) (fun _ _ _ h => h) (Or.inl ⟨by rfl, fun W hW => by have hW := hW.cells; obtain ⟨h0, h1, h2, h3, h4⟩ := hW; have h4 := h4 _ rfl; have h5 : W.cell? ⟨b8, off8, none⟩ = some (.int .i64 p.kind) := h4; go_simp; try assumption⟩) hh3 ?_
    try simp only [Act.put, List.getElem_toArray, List.getElem_cons_zero, List.getElem_cons_succ, List.setIfInBounds_toArray, List.set_cons_zero, List.set_cons_succ]
    refine any_take (i := 19) (v := .bool true) rfl (by kernel_rfl) (by kernel_rfl) (by kernel_rfl) (by kernel_rfl) (fun _ _ _ h => h) (Or.inl ⟨by rfl, fun W hW => by have hW := hW.cells; obtain ⟨h0, h1, h2, h3, h4⟩ := hW; have h4 := h4 _ rfl; have h5 : W.cell? ⟨b8, off8, none⟩ = some (.int .i64 p.kind) := h4; go_simp⟩) hh3 ?_
    try simp only [Act.put, List.getElem_toArray, List.getElem_cons_zero, List.getElem_cons_succ, List.setIfInBounds_toArray, List.set_cons_zero, List.set_cons_succ]
    refine any_take (i := 20) (v := .pointer (some ⟨w.heap.size, 3, none⟩)) rfl (by kernel_rfl) (by kernel_rfl) (by kernel_rfl) (by kernel_rfl) (fun _ _ _ h => h) (Or.inl ⟨by rfl, fun W hW => by have hW := hW.cells; obtain ⟨h0, h1, h2, h3, h4⟩ := hW; have h4 := h4 _ rfl; have h5 : W.cell? ⟨b8, off8, none⟩ = some (.int .i64 p.kind) := h4; go_simp⟩) hh3 ?_
    try simp only [Act.put, List.getElem_toArray, List.getElem_cons_zero, List.getElem_cons_succ, List.setIfInBounds_toArray, List.set_cons_zero, List.set_cons_succ]
    refine any_take (i := 21) (v := .slice (some ⟨b8, off8, none⟩) 1 c) rfl (by kernel_rfl) (by kernel_rfl) (by kernel_rfl) (by kernel_rfl) (fun _ _ _ h => h) (Or.inl ⟨by rfl, fun W hW => by have hW := hW.cells; obtain ⟨h0, h1, h2, h3, h4⟩ := hW; have h4 := h4 _ rfl; have h5 : W.cell? ⟨b8, off8, none⟩ = some (.int .i64 p.kind) := h4; go_simp⟩) hh3 ?_
    try simp only [Act.put, List.getElem_toArray, List.getElem_cons_zero, List.getElem_cons_succ, List.setIfInBounds_toArray, List.set_cons_zero, List.set_cons_succ]
    refine any_take (i := 22) (v := .pointer (some ⟨b8, off8 + 0 * 6, none⟩)) rfl (by kernel_rfl) (by kernel_rfl) (by kernel_rfl) (by kernel_rfl) (fun _ _ _ h => h) (Or.inl ⟨by rfl, fun W hW => by have hW := hW.cells; obtain ⟨h0, h1, h2, h3, h4⟩ := hW; have h4 := h4 _ rfl; have h5 : W.cell? ⟨b8, off8, none⟩ = some (.int .i64 p.kind) := h4; go_simp⟩) hh3 ?_
    try simp only [Act.put, List.getElem_toArray, List.getElem_cons_zero, List.getElem_cons_succ, List.setIfInBounds_toArray, List.set_cons_zero, List.set_cons_succ]
    refine any_take (i := 23) (v := .pointer (some ⟨b8, off8 + 0 * 6, none⟩)) rfl (by kernel_rfl) (by kernel_rfl) (by kernel_rfl) (by kernel_rfl) (fun _ _ _ h => h) (Or.inl ⟨by rfl, fun W hW => by have hW := hW.cells; obtain ⟨h0, h1, h2, h3, h4⟩ := hW; have h4 := h4 _ rfl; have h5 : W.cell? ⟨b8, off8, none⟩ = some (.int .i64 p.kind) := h4; go_simp⟩) hh3 ?_
    try simp only [Act.put, List.getElem_toArray, List.getElem_cons_zero, List.getElem_cons_succ, List.setIfInBounds_toArray, List.set_cons_zero, List.set_cons_succ]
    refine any_take (i := 24) (v := .int .i64 p.kind) rfl (by kernel_rfl) (by kernel_rfl) (by kernel_rfl) (by kernel_rfl) (fun _ _ _ h => h) (Or.inl ⟨by rfl, fun W hW => by have hW := hW.cells; obtain ⟨h0, h1, h2, h3, h4⟩ := hW; have h4 := h4 _ rfl; have h5 : W.cell? ⟨b8, off8, none⟩ = some (.int .i64 p.kind) := h4; go_simp⟩) hh3 ?_
    try simp only [Act.put, List.getElem_toArray, List.getElem_cons_zero, List.getElem_cons_succ, List.setIfInBounds_toArray, List.set_cons_zero, List.set_cons_succ]
    refine any_take (i := 25) (v := .bool b0) rfl (by kernel_rfl) (by kernel_rfl) (by kernel_rfl) (by kernel_rfl) (fun _ _ _ h => h) (Or.inl ⟨by rfl, fun W hW => by have hW := hW.cells; obtain ⟨h0, h1, h2, h3, h4⟩ := hW; have h4 := h4 _ rfl; have h5 : W.cell? ⟨b8, off8, none⟩ = some (.int .i64 p.kind) := h4; go_simp⟩) hh3 ?_
    try simp only [Act.put, List.getElem_toArray, List.getElem_cons_zero, List.getElem_cons_succ, List.setIfInBounds_toArray, List.set_cons_zero, List.set_cons_succ]
    refine any_take (i := 26) (v := .bool b0) rfl (by kernel_rfl) (by kernel_rfl) (by kernel_rfl) (by kernel_rfl) (fun _ _ _ h => h) (Or.inl ⟨by rfl, fun W hW => by have hW := hW.cells; obtain ⟨h0, h1, h2, h3, h4⟩ := hW; have h4 := h4 _ rfl; have h5 : W.cell? ⟨b8, off8, none⟩ = some (.int .i64 p.kind) := h4; go_simp⟩) hh3 ?_
    try simp only [Act.put, List.getElem_toArray, List.getElem_cons_zero, List.getElem_cons_succ, List.setIfInBounds_toArray, List.set_cons_zero, List.set_cons_succ]
    refine any_take (i := 27) (v := .bool b0) rfl (by kernel_rfl) (by kernel_rfl) (by kernel_rfl) (by kernel_rfl) (fun _ _ _ h => h) (Or.inl ⟨by rfl, fun W hW => by have hW := hW.cells; obtain ⟨h0, h1, h2, h3, h4⟩ := hW; have h4 := h4 _ rfl; have h5 : W.cell? ⟨b8, off8, none⟩ = some (.int .i64 p.kind) := h4; go_simp⟩) hh3 ?_
    try simp only [Act.put, List.getElem_toArray, List.getElem_cons_zero, List.getElem_cons_succ, List.setIfInBounds_toArray, List.set_cons_zero, List.set_cons_succ]
    refine any_take (i := 28) (v := .bool true) rfl (by kernel_rfl) (by kernel_rfl) (by kernel_rfl) (by kernel_rfl) (fun _ _ _ h => h) (Or.inl ⟨by rfl, fun W hW => by have hW := hW.cells; obtain ⟨h0, h1, h2, h3, h4⟩ := hW; have h4 := h4 _ rfl; have h5 : W.cell? ⟨b8, off8, none⟩ = some (.int .i64 p.kind) := h4; go_simp⟩) hh3 ?_
    try simp only [Act.put, List.getElem_toArray, List.getElem_cons_zero, List.getElem_cons_succ, List.setIfInBounds_toArray, List.set_cons_zero, List.set_cons_succ]
    refine any_take (i := 29) (v := .bool true) rfl (by kernel_rfl) (by kernel_rfl) (by kernel_rfl) (by kernel_rfl) (fun _ _ _ h => h) (Or.inl ⟨by rfl, fun W hW => by have hW := hW.cells; obtain ⟨h0, h1, h2, h3, h4⟩ := hW; have h4 := h4 _ rfl; have h5 : W.cell? ⟨b8, off8, none⟩ = some (.int .i64 p.kind) := h4; go_simp⟩) hh3 ?_
    try simp only [Act.put, List.getElem_toArray, List.getElem_cons_zero, List.getElem_cons_succ, List.setIfInBounds_toArray, List.set_cons_zero, List.set_cons_succ]
    refine any_one (i := 30) (by kernel_rfl) rfl (fun K hK => ?_)
    try go_simp
    refine hK.out _ _ (Or.inl rfl) (fun hHeld => ?_)
    clear hK K hHeld
    try simp only [Act.put, List.getElem_toArray, List.getElem_cons_zero, List.getElem_cons_succ, List.setIfInBounds_toArray, List.set_cons_zero, List.set_cons_succ]
    refine any_done (by kernel_rfl) ?_ _
    go_wp2
    go_ret
    exact ⟨rfl, HB12.out⟩
  · have hq0 : ¬ (q = 0) := by have := Hq.out; simp at this; omega
    have hq1 : ¬ (q = 1) := by have := Hq.out; simp at this; omega
    have hq1i : ¬ ((q : Int) = 1) := by omega
    rw [show litB (p :: p2 :: r) = false from rfl] at C37
    clear Hq
    have hh0 : Box6 w.heap.size fd op tag (.slice a q c) none undef w7.drew := Box6.drew ⟨HX7.out, by rintro x hx; cases hx⟩
    go_upto_region 6 with fail
    refine region_any (S := Box6 w.heap.size fd op tag (.slice a q c) none undef) (z := 30) (by kernel_rfl) ?_
    refine any_take (i := 0) (v := .agg #[.int .i64 fd, .string op, .string tag, .slice a q c]) rfl (by kernel_rfl) (by kernel_rfl) (by kernel_rfl) (by kernel_rfl) (fun _ _ _ h => h) (Or.inl ⟨by rfl, fun W hW => by have hW := hW.cells; obtain ⟨h0, h1, h2, h3, h4⟩ := hW; go_simp⟩) hh0 ?_
    try simp only [Act.put, List.getElem_toArray, List.getElem_cons_zero, List.getElem_cons_succ, List.setIfInBounds_toArray, List.set_cons_zero, List.set_cons_succ]
    refine any_take (i := 2) (v := .pointer (some ⟨w.heap.size, 3, none⟩)) rfl (by kernel_rfl) (by kernel_rfl) (by kernel_rfl) (by kernel_rfl) (fun _ _ _ h => h) (Or.inl ⟨by rfl, fun W hW => by have hW := hW.cells; obtain ⟨h0, h1, h2, h3, h4⟩ := hW; go_simp⟩) hh0 ?_
    try simp only [Act.put, List.getElem_toArray, List.getElem_cons_zero, List.getElem_cons_succ, List.setIfInBounds_toArray, List.set_cons_zero, List.set_cons_succ]
    refine any_take (i := 3) (v := .slice a q c) rfl (by kernel_rfl) (by kernel_rfl) (by kernel_rfl) (by kernel_rfl) (fun _ _ _ h => h) (Or.inl ⟨by rfl, fun W hW => by have hW := hW.cells; obtain ⟨h0, h1, h2, h3, h4⟩ := hW; go_simp⟩) hh0 ?_
    try simp only [Act.put, List.getElem_toArray, List.getElem_cons_zero, List.getElem_cons_succ, List.setIfInBounds_toArray, List.set_cons_zero, List.set_cons_succ]
    refine any_one (i := 1) (by kernel_rfl) rfl (fun K hK => ?_)
    try go_simp
    go_at_call 35
    refine (D35.out _ HB8.out).mono ?_
    rintro e w9 ⟨rfl, b9⟩
    have HB9 := Lib.hid (HB8.out.trans (b9.mono HB8.out.size))
    have hh1 := hh0.on b9
    clear b9
    go_wp2_with fail
    refine hK.out _ _ (Or.inr hh1) (fun hHeld => ?_)
    clear hK K hHeld
    try simp only [Act.put, List.getElem_toArray, List.getElem_cons_zero, List.getElem_cons_succ, List.setIfInBounds_toArray, List.set_cons_zero, List.set_cons_succ]
    refine any_one (i := 4) (by kernel_rfl) rfl (fun K hK => ?_)
    try go_simp
    go_at_call 19
    refine (C19.out _ HB9.out).mono ?_
    rintro e w10 ⟨v1, rfl, hF, b10⟩
    have HV := Lib.hid hF.here
    have HB10 := Lib.hid (HB9.out.trans (b10.mono HB9.out.size))
    have hh2 := hh1.on b10
    clear b10 hF
    go_wp2_with fail
    refine hK.out _ _ (Or.inr hh2) (fun hHeld => ?_)
    clear hK K hHeld
    try simp only [Act.put, List.getElem_toArray, List.getElem_cons_zero, List.getElem_cons_succ, List.setIfInBounds_toArray, List.set_cons_zero, List.set_cons_succ]
    refine any_one (i := 5) (by kernel_rfl) rfl (fun K hK => ?_)
    try go_simp
    go_at_call 36
    refine (D36.out _ _ HV.out).mono ?_
    rintro e w11 ⟨rfl, rfl⟩
    go_wp2_with fail
    refine hK.out _ _ (Or.inr hh2) (fun hHeld => ?_)
    clear hK K hHeld
    try simp only [Act.put, List.getElem_toArray, List.getElem_cons_zero, List.getElem_cons_succ, List.setIfInBounds_toArray, List.set_cons_zero, List.set_cons_succ]
    refine any_take (i := 6) (v := .bool true) rfl (by kernel_rfl) (by kernel_rfl) (by kernel_rfl) (by kernel_rfl) (fun _ _ _ h => h) (Or.inl ⟨by rfl, fun W hW => by have hW := hW.cells; obtain ⟨h0, h1, h2, h3, h4⟩ := hW; go_simp⟩) hh2 ?_
    try simp only [Act.put, List.getElem_toArray, List.getElem_cons_zero, List.getElem_cons_succ, List.setIfInBounds_toArray, List.set_cons_zero, List.set_cons_succ]
    refine any_take (i := 7) (v := .bool true) rfl (by kernel_rfl) (by kernel_rfl) (by kernel_rfl) (by kernel_rfl) (fun _ _ _ h => h) (Or.inl ⟨by rfl, fun W hW => by have hW := hW.cells; obtain ⟨h0, h1, h2, h3, h4⟩ := hW; go_simp⟩) hh2 ?_
    try simp only [Act.put, List.getElem_toArray, List.getElem_cons_zero, List.getElem_cons_succ, List.setIfInBounds_toArray, List.set_cons_zero, List.set_cons_succ]
    refine any_take (i := 8) (v := .agg #[.int .i64 fd, .string op, .string tag, .slice a q c]) rfl (by kernel_rfl) (by kernel_rfl) (by kernel_rfl) (by kernel_rfl) (fun _ _ _ h => h) (Or.inl ⟨by rfl, fun W hW => by have hW := hW.cells; obtain ⟨h0, h1, h2, h3, h4⟩ := hW; go_simp⟩) hh2 ?_
    try simp only [Act.put, List.getElem_toArray, List.getElem_cons_zero, List.getElem_cons_succ, List.setIfInBounds_toArray, List.set_cons_zero, List.set_cons_succ]
    refine any_take (i := 10) (v := .pointer (some ⟨w.heap.size, 3, none⟩)) rfl (by kernel_rfl) (by kernel_rfl) (by kernel_rfl) (by kernel_rfl) (fun _ _ _ h => h) (Or.inl ⟨by rfl, fun W hW => by have hW := hW.cells; obtain ⟨h0, h1, h2, h3, h4⟩ := hW; go_simp⟩) hh2 ?_
    try simp only [Act.put, List.getElem_toArray, List.getElem_cons_zero, List.getElem_cons_succ, List.setIfInBounds_toArray, List.set_cons_zero, List.set_cons_succ]
    refine any_take (i := 11) (v := .slice a q c) rfl (by kernel_rfl) (by kernel_rfl) (by kernel_rfl) (by kernel_rfl) (fun _ _ _ h => h) (Or.inl ⟨by rfl, fun W hW => by have hW := hW.cells; obtain ⟨h0, h1, h2, h3, h4⟩ := hW; go_simp⟩) hh2 ?_
    try simp only [Act.put, List.getElem_toArray, List.getElem_cons_zero, List.getElem_cons_succ, List.setIfInBounds_toArray, List.set_cons_zero, List.set_cons_succ]
    refine any_take (i := 12) (v := .int .i64 (q : Int)) rfl (by kernel_rfl) (by kernel_rfl) (by kernel_rfl) (by kernel_rfl) (fun _ _ _ h => h) (Or.inl ⟨by rfl, fun W hW => by have hW := hW.cells; obtain ⟨h0, h1, h2, h3, h4⟩ := hW; go_simp⟩) hh2 ?_
    try simp only [Act.put, List.getElem_toArray, List.getElem_cons_zero, List.getElem_cons_succ, List.setIfInBounds_toArray, List.set_cons_zero, List.set_cons_succ]
    refine any_take (i := 13) (v := .bool false) rfl (by kernel_rfl) (by kernel_rfl) (by kernel_rfl) (by kernel_rfl) (fun _ _ _ h => h) (Or.inl ⟨by rfl, fun W hW => by have hW := hW.cells; obtain ⟨h0, h1, h2, h3, h4⟩ := hW; go_simp; try assumption⟩) hh2 ?_
    try simp only [Act.put, List.getElem_toArray, List.getElem_cons_zero, List.getElem_cons_succ, List.setIfInBounds_toArray, List.set_cons_zero, List.set_cons_succ]
    refine any_one (i := 9) (by kernel_rfl) rfl (fun K hK => ?_)
    try go_simp
    go_at_call 37
    refine (C37.out _ HB10.out).mono ?_
    rintro e w12 ⟨rfl, b12⟩
    have HB12 := Lib.hid (HB10.out.trans (b12.mono HB10.out.size))
    have hh3 := hh2.on b12
    clear b12
    go_wp2_with fail
    refine hK.out _ _ (Or.inr hh3) (fun hHeld => ?_)
    clear hK K hHeld
    try simp only [Act.put, List.getElem_toArray, List.getElem_cons_zero, List.getElem_cons_succ, List.setIfInBounds_toArray, List.set_cons_zero, List.set_cons_succ]
    refine any_take (i := 14) (v := .bool false) rfl (by kernel_rfl) (by kernel_rfl) (by kernel_rfl) (by kernel_rfl) (fun _ _ _ h => h) (Or.inl ⟨by rfl, fun W hW => by have hW := hW.cells; obtain ⟨h0, h1, h2, h3, h4⟩ := hW; go_simp⟩) hh3 ?_
    try simp only [Act.put, List.getElem_toArray, List.getElem_cons_zero, List.getElem_cons_succ, List.setIfInBounds_toArray, List.set_cons_zero, List.set_cons_succ]
    refine any_take (i := 15) (v := .pointer (some ⟨w.heap.size, 3, none⟩)) rfl (by kernel_rfl) (by kernel_rfl) (by kernel_rfl) (by kernel_rfl) (fun _ _ _ h => h) (Or.inl ⟨by rfl, fun W hW => by have hW := hW.cells; obtain ⟨h0, h1, h2, h3, h4⟩ := hW; go_simp⟩) hh3 ?_
    try simp only [Act.put, List.getElem_toArray, List.getElem_cons_zero, List.getElem_cons_succ, List.setIfInBounds_toArray, List.set_cons_zero, List.set_cons_succ]
    refine any_take (i := 16) (v := .slice a q c) rfl (by kernel_rfl) (by kernel_rfl) (by kernel_rfl) (by kernel_rfl) (fun _ _ _ h => h) (Or.inl ⟨by rfl, fun W hW => by have hW := hW.cells; obtain ⟨h0, h1, h2, h3, h4⟩ := hW; go_simp⟩) hh3 ?_
    try simp only [Act.put, List.getElem_toArray, List.getElem_cons_zero, List.getElem_cons_succ, List.setIfInBounds_toArray, List.set_cons_zero, List.set_cons_succ]
    refine any_take (i := 17) (v := .int .i64 (q : Int)) rfl (by kernel_rfl) (by kernel_rfl) (by kernel_rfl) (by kernel_rfl) (fun _ _ _ h => h) (Or.inl ⟨by rfl, fun W hW => by have hW := hW.cells; obtain ⟨h0, h1, h2, h3, h4⟩ := hW; go_simp⟩) hh3 ?_
    try simp only [Act.put, List.getElem_toArray, List.getElem_cons_zero, List.getElem_cons_succ, List.setIfInBounds_toArray, List.set_cons_zero, List.set_cons_succ]
    refine any_take (i := 18) (v := .bool false) rfl (by kernel_rfl) (by kernel_rfl) (by kernel_rfl) (by kernel_rfl) (fun _ _ _ h => h) (Or.inl ⟨by rfl, fun W hW => by have hW := hW.cells; obtain ⟨h0, h1, h2, h3, h4⟩ := hW; go_simp; try assumption⟩) hh3 ?_
    try simp only [Act.put, List.getElem_toArray, List.getElem_cons_zero, List.getElem_cons_succ, List.setIfInBounds_toArray, List.set_cons_zero, List.set_cons_succ]
    refine any_take (i := 19) (v := .bool false) rfl (by kernel_rfl) (by kernel_rfl) (by kernel_rfl) (by kernel_rfl) (fun _ _ _ h => h) (Or.inl ⟨by rfl, fun W hW => by have hW := hW.cells; obtain ⟨h0, h1, h2, h3, h4⟩ := hW; go_simp⟩) hh3 ?_
    try simp only [Act.put, List.getElem_toArray, List.getElem_cons_zero, List.getElem_cons_succ, List.setIfInBounds_toArray, List.set_cons_zero, List.set_cons_succ]
    refine any_take (i := 20) (v := undef) rfl (by kernel_rfl) (by kernel_rfl) (by kernel_rfl) (by kernel_rfl) (fun _ _ _ h => h) (Or.inr ⟨by rfl, rfl⟩) hh3 ?_
    try simp only [Act.put, List.getElem_toArray, List.getElem_cons_zero, List.getElem_cons_succ, List.setIfInBounds_toArray, List.set_cons_zero, List.set_cons_succ]
    refine any_take (i := 21) (v := undef) rfl (by kernel_rfl) (by kernel_rfl) (by kernel_rfl) (by kernel_rfl) (fun _ _ _ h => h) (Or.inr ⟨by rfl, rfl⟩) hh3 ?_
    try simp only [Act.put, List.getElem_toArray, List.getElem_cons_zero, List.getElem_cons_succ, List.setIfInBounds_toArray, List.set_cons_zero, List.set_cons_succ]
    refine any_take (i := 22) (v := undef) rfl (by kernel_rfl) (by kernel_rfl) (by kernel_rfl) (by kernel_rfl) (fun _ _ _ h => h) (Or.inr ⟨by rfl, rfl⟩) hh3 ?_
    try simp only [Act.put, List.getElem_toArray, List.getElem_cons_zero, List.getElem_cons_succ, List.setIfInBounds_toArray, List.set_cons_zero, List.set_cons_succ]
    refine any_take (i := 23) (v := undef) rfl (by kernel_rfl) (by kernel_rfl) (by kernel_rfl) (by kernel_rfl) (fun _ _ _ h => h) (Or.inr ⟨by rfl, rfl⟩) hh3 ?_
    try simp only [Act.put, List.getElem_toArray, List.getElem_cons_zero, List.getElem_cons_succ, List.setIfInBounds_toArray, List.set_cons_zero, List.set_cons_succ]
    refine any_take (i := 24) (v := undef) rfl (by kernel_rfl) (by kernel_rfl) (by kernel_rfl) (by kernel_rfl) (fun _ _ _ h => h) (Or.inr ⟨by rfl, rfl⟩) hh3 ?_
    try simp only [Act.put, List.getElem_toArray, List.getElem_cons_zero, List.getElem_cons_succ, List.setIfInBounds_toArray, List.set_cons_zero, List.set_cons_succ]
    refine any_take (i := 25) (v := undef) rfl (by kernel_rfl) (by kernel_rfl) (by kernel_rfl) (by kernel_rfl) (fun _ _ _ h => h) (Or.inr ⟨by rfl, rfl⟩) hh3 ?_
    try simp only [Act.put, List.getElem_toArray, List.getElem_cons_zero, List.getElem_cons_succ, List.setIfInBounds_toArray, List.set_cons_zero, List.set_cons_succ]
    refine any_take (i := 26) (v := .bool false) rfl (by kernel_rfl) (by kernel_rfl) (by kernel_rfl) (by kernel_rfl) (fun _ _ _ h => h) (Or.inl ⟨by rfl, fun W hW => by have hW := hW.cells; obtain ⟨h0, h1, h2, h3, h4⟩ := hW; go_simp⟩) hh3 ?_
    try simp only [Act.put, List.getElem_toArray, List.getElem_cons_zero, List.getElem_cons_succ, List.setIfInBounds_toArray, List.set_cons_zero, List.set_cons_succ]
    refine any_take (i := 27) (v := .bool false) rfl (by kernel_rfl) (by kernel_rfl) (by kernel_rfl) (by kernel_rfl) (fun _ _ _ h => h) (Or.inl ⟨by rfl, fun W hW => by have hW := hW.cells; obtain ⟨h0, h1, h2, h3, h4⟩ := hW; go_simp⟩) hh3 ?_
    try simp only [Act.put, List.getElem_toArray, List.getElem_cons_zero, List.getElem_cons_succ, List.setIfInBounds_toArray, List.set_cons_zero, List.set_cons_succ]
    refine any_take (i := 28) (v := .bool true) rfl (by kernel_rfl) (by kernel_rfl) (by kernel_rfl) (by kernel_rfl) (fun _ _ _ h => h) (Or.inl ⟨by rfl, fun W hW => by have hW := hW.cells; obtain ⟨h0, h1, h2, h3, h4⟩ := hW; go_simp⟩) hh3 ?_
    try simp only [Act.put, List.getElem_toArray, List.getElem_cons_zero, List.getElem_cons_succ, List.setIfInBounds_toArray, List.set_cons_zero, List.set_cons_succ]
    refine any_take (i := 29) (v := .bool true) rfl (by kernel_rfl) (by kernel_rfl) (by kernel_rfl) (by kernel_rfl) (fun _ _ _ h => h) (Or.inl ⟨by rfl, fun W hW => by have hW := hW.cells; obtain ⟨h0, h1, h2, h3, h4⟩ := hW; go_simp⟩) hh3 ?_
    try simp only [Act.put, List.getElem_toArray, List.getElem_cons_zero, List.getElem_cons_succ, List.setIfInBounds_toArray, List.set_cons_zero, List.set_cons_succ]
    refine any_one (i := 30) (by kernel_rfl) rfl (fun K hK => ?_)
    try go_simp
    refine hK.out _ _ (Or.inl rfl) (fun hHeld => ?_)
    clear hK K hHeld
    try simp only [Act.put, List.getElem_toArray, List.getElem_cons_zero, List.getElem_cons_succ, List.setIfInBounds_toArray, List.set_cons_zero, List.set_cons_succ]
    refine any_done (by kernel_rfl) ?_ _
    go_wp2
    go_ret
    exact ⟨rfl, HB12.out⟩
end Go.Proofs.YtfaohicadahcjaaGreatDoor
