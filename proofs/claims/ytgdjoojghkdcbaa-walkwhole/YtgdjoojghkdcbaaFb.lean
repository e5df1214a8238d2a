/- walk.Find. Conditions: what a walk asks of a disk; the path has at most 10000 bytes. -/
import Derived.Test.YtgdjoojghkdcbaaFa
namespace Go.Proofs.Ytgdjoojghkdcbaa
open Go.RowKit Go.PlainAid Pth
set_option linter.unusedSimpArgs false

def Jump10 (D : Nat) (S : St) (follow : Bool) (T : Pla × Int) (w : World) (a' : Act) (wr : World) : Prop := ∃ (f lk : Nat) (a : Int) (s : ByteArray), In64 a ∧ s.size ≤ 10000 ∧ wayM (vwS S) follow f lk a s = T ∧ 41 ≤ f + lk ∧ lk ≤ 40 ∧ Cel 32 w (.int .i64 0) (.int .i64 0) (.string ⟨#[]⟩) wr ∧
  ∃ (u4 u5 u6 u7 u9 u11 u12 u13 u14 u15 u16 u17 u18 u19 u20 u21 u22 u23 u24 u25 u26 u27 u28 u29 u30 u31 u32 u33 u34 u35 u36 u37 u38 u39 u40 u41 u42 u43 u44 u45 u46 u47 u48 u49 u50 u51 u52 u53 u54 u55 u56 u57 u58 u59 u60 u61 u62 u63 u64 u65 u66 u67 u68 u69 u70 u71 u72 u73 u74 u75 u76 u77 u78 u79 u80 u81 u82 u83 u84 u85 u86 u87 u88 u89 u90 u91 u92 u93 u94 u95 u96 u97 u98 u99 u100 u101 u102 u103 u104 u105 u106 u107 u108 u109 u110 u111 : Value), a' = { tmps := #[.pointer (some ⟨D, 0, none⟩), .int .i64 a, .string s, .bool follow, u4, u5, u6, u7, .pointer (some ⟨w.heap.size, 0, none⟩), u9, .int .i64 lk, u11, u12, u13, u14, u15, u16, u17, u18, u19, u20, u21, u22, u23, u24, u25, u26, u27, u28, u29, u30, u31, u32, u33, u34, u35, u36, u37, u38, u39, u40, u41, u42, u43, u44, u45, u46, u47, u48, u49, u50, u51, u52, u53, u54, u55, u56, u57, u58, u59, u60, u61, u62, u63, u64, u65, u66, u67, u68, u69, u70, u71, u72, u73, u74, u75, u76, u77, u78, u79, u80, u81, u82, u83, u84, u85, u86, u87, u88, u89, u90, u91, u92, u93, u94, u95, u96, u97, u98, u99, u100, u101, u102, u103, u104, u105, u106, u107, u108, u109, u110, u111], defers := [] }

def RelFi (S : St) (follow slash : Bool) (f lk0 : Nat) (l : List ByteArray) (T : Pla × Int) (w15 : World) (links at' i : Value) (wr : World) : Prop :=
  ∃ (k lk : Nat) (a : Int) (p : Pla), k ≤ l.length ∧ links = .int .i64 lk ∧ at' = .int .i64 a ∧ i = .int .i64 k ∧ lk ≤ 40 ∧ lk0 ≤ lk ∧ In64 a ∧ In64 p.node ∧
    loopM (vwS S) (wayM (vwS S) follow f) follow slash lk a (l.drop k) p = T ∧ Cel 32 w15 (.int .i64 p.node) (.int .i64 p.dir) (.string p.name) wr
theorem goL_ne (s : ByteArray) : goL s ≠ [] := by
  unfold goL
  split
  · simp
  · rename_i h; intro e; rw [e] at h; exact h rfl
theorem parts_size (s : ByteArray) : ∀ x ∈ partsL s, x.size ≤ s.size := fun x hx => pcsF_size s _ _ x (List.mem_filter.1 hx).1
theorem goL_size (s : ByteArray) : ∀ x ∈ goL s, x.size ≤ s.size + 1 := by
  unfold goL
  split
  · intro x hx; simp at hx; subst hx; show 1 ≤ _; omega
  · intro x hx; have := parts_size s x hx; omega
theorem goL_tot (s : ByteArray) : totL (goL s) ≤ s.size + 2 := by
  unfold goL
  split
  · show 1 + 1 + 0 ≤ _; omega
  · have := tot_parts s; omega
theorem goL_len (s : ByteArray) : (goL s).length ≤ s.size + 1 := by
  unfold goL
  split
  · simp
  · have h1 := pcsF_len s s.size 0
    have h2 := List.length_filter_le (fun x : ByteArray => decide (0 < x.size)) (pcs s)
    unfold partsL
    unfold pcs at h2 ⊢
    omega
theorem data_is (S : St) (k : Int) : dataV (vwS S k) = dataS (S.get k) := by
  unfold dataV vwS dataS
  cases S.get k <;> rfl
theorem dataS_le {S : St} (hG : Good S) (k : Int) : (dataS (S.get k)).size ≤ 5000 := by
  unfold dataS
  cases hx : S.get k with
  | none => exact Nat.zero_le _
  | some x =>
    dsimp only
    split
    · exact Nat.zero_le _
    · exact hG.data k x hx
theorem behS_size (t : ByteArray) (l : List ByteArray) (slash : Bool) : (behS t l slash).size ≤ t.size + totL l + 2 := by
  have h1 := joinS_size t (joinL l)
  have h2 := join_le l
  have h3 := joinS_size (if 0 < l.length then joinS t (joinL l) else t) ⟨#[]⟩
  rw [show (⟨#[]⟩ : ByteArray).size = 0 from rfl] at h3
  have h4 : (if 0 < l.length then joinS t (joinL l) else t).size ≤ t.size + totL l + 1 := by split <;> omega
  unfold behS
  split <;> omega
theorem getN_in {s : ByteArray} {l : List En} (h : ∀ e ∈ l, In64 e.2) : In64 (getN s l) := by
  unfold getN
  split
  · cases hx : l[pos s l]? with
    | none => exact in64 (by decide)
    | some x => exact h x (List.mem_of_getElem? hx)
  · exact in64 (by decide)
theorem vw_in {S : St} (hG : Good S) {a : Int} {z : Vw} (h : vwS S a = some z) : In64 z.up ∧ ∀ s, In64 (z.look s) := by
  unfold vwS at h
  cases hx : S.get a with
  | none => rw [hx] at h; cases h
  | some y =>
    rw [hx] at h
    simp only [Option.map_some, Option.some.injEq] at h
    subst h
    refine ⟨?_, fun s => ?_⟩
    · dsimp only
      split
      · rename_i h2; exact (hG.up a y hx h2).2
      · exact in64 (by decide)
    · dsimp only
      split
      · exact getN_in (hG.rng a y hx)
      · exact in64 (by decide)
theorem step_in {S : St} (hG : Good S) (a : Int) (ha : In64 a) (x : ByteArray) : In64 (stepM (vwS S) a x).1.node := by
  unfold stepM
  cases hv : vwS S a with
  | none => exact (in64 (by decide) : In64 0)
  | some z =>
    obtain ⟨h1, h2⟩ := vw_in hG hv
    dsimp only
    by_cases e1 : closE (some z) = 0
    · rw [if_pos e1]
      by_cases e2 : (x.toList == [46]) = true
      · rw [if_pos e2]; exact ha
      · rw [if_neg e2]
        by_cases e3 : (x.toList == [46, 46]) = true
        · rw [if_pos e3]; exact h1
        · rw [if_neg e3]
          by_cases e4 : 255 < x.size
          · rw [if_pos e4]; exact (in64 (by decide) : In64 0)
          · rw [if_neg e4]; exact h2 x
    · rw [if_neg e1]; exact (in64 (by decide) : In64 0)

set_option maxHeartbeats 16000000 in
set_option maxRecDepth 100000 in
theorem find10 (L : Lay) (D : Nat) (S : St) (w : World) (h : DiskAt L D S w) (hG : Good S) (a : Int) (ha : In64 a) (s : ByteArray) (hs : s.size ≤ 10000) (follow : Bool) :
    Calls Try.prog 10 #[.pointer (some ⟨D, 0, none⟩), .int .i64 a, .string s, .bool follow] w (GivesP w (wayM (vwS S) follow 41 0 a s)) := by
  obtain ⟨T, hT⟩ : ∃ T, wayM (vwS S) follow 41 0 a s = T := ⟨_, rfl⟩
  rw [hT]
  have HT := Lib.hid hT
  have H := Lib.hid h
  have HG := Lib.hid hG
  clear h hG hT
  have R0 := Lib.hid (Cel.start 32 w (.int .i64 0) (.int .i64 0) (.string ⟨#[]⟩))
  go_enter Try.func10, Try.ntmps10
  go_wp2
  refine wp_scope_jumps 0 (Jump10 D S follow T w) (fun a' _ => 41 - (intOf (a'.tmps.getD 10 undef)).toNat) rfl ?_ ?_
  · skip
    have hK : DiskAt L D S (w.alloc (.cells #[.int .i64 0, .int .i64 0, .string ⟨#[]⟩] 32)) := H.out.below R0.out.bel
    have HK := Lib.hid hK
    clear hK
    generalize w.alloc (.cells #[.int .i64 0, .int .i64 0, .string ⟨#[]⟩] 32) = w0 at HK R0 ⊢
    obtain ⟨f, hf⟩ : ∃ f, f = 40 := ⟨_, rfl⟩
    replace HT : Hid (wayM (vwS S) follow (f + 1) 0 a s = T) := Lib.hid (by rw [hf]; exact HT.out)
    have CW := Lib.hid (wrong25 s w0 (by unfold maxLen; omega))
    by_cases hw : wrongE s = 0
    rotate_left
    · have hT : T = (.zero, wrongE s) := by rw [← HT.out]; unfold wayM; exact if_pos hw
      have hw' : (wrongE s != 0) = true := by simpa using hw
      clear HT
      subst hT
      generalize wrongE s = r at CW hw' ⊢
      have q0 := R0.out.c0
      have q1 := R0.out.c1
      have q2 := R0.out.c2
      have p0 := R0.out.fr 0
      have p1 := R0.out.fr 1
      have p2 := R0.out.fr 2
      have HE := Lib.hid (R0.out.fin (.int .i64 0) (.int .i64 0) (.string ⟨#[]⟩))
      go_wp2
      go_step3
      go_wp2_with (go_at_call 25; refine CW.out.mono ?_; rintro e w' ⟨rfl, rfl⟩)
      simp only [Exit.jump]
      exact bodyPost_ret_by (results_c1 Try.info32 Try.agg32 rfl _ _ _ _ rfl HE.out.blk rfl) rfl ⟨rfl, HE.out.bel⟩
    have hs2 : s.size ≤ 4095 := by unfold wrongE at hw; split at hw; omega; split at hw; omega; omega
    rw [hw] at CW
    have CS := Lib.hid (start26 a s w0)
    have CG := Lib.hid (goes27 s w0 hs)
    have hT := HT.out
    unfold wayM at hT
    rw [if_neg (by simp [hw])] at hT
    have ha1 : In64 (if absB s = true then 1 else a) := by split; exact (in64 (by decide)); exact ha
    generalize (if absB s = true then 1 else a) = a1 at CS hT ha1
    have hne := goL_ne s
    have hxs := goL_size s
    have htot := goL_tot s
    have hlen := goL_len s
    generalize goL s = l at CG hT hne hxs htot hlen
    go_wp2
    go_step3
    go_wp2_with (first | (go_at_call 25; refine CW.out.mono ?_; rintro e w' ⟨rfl, rfl⟩) | (go_at_call 26; refine CS.out.mono ?_; rintro e w' ⟨rfl, rfl⟩))
    refine CG.out.mono ?_
    rintro e w1 ⟨v, rfl, hl, hb1⟩
    obtain ⟨g, cap, rfl, hcap, hg, hcell⟩ := hl.some hne
    have CH := (Try.strings_HasSuffix s ⟨#[47]⟩ w1 (by omega)).mono fun _ _ h => And.intro h.1 h.2.symm
    rw [show Lib.hasSuffix s.data.toList (⟨#[47]⟩ : ByteArray).data.toList = slsB s from suffix_is s] at CH
    generalize slsB s = slash at CH hT
    replace CH := Lib.hid CH
    have HL := Lib.hid hcell
    have HC := Lib.hid (R0.out.below hb1)
    have HK1 := Lib.hid (HK.out.below hb1)
    have HT1 := Lib.hid hT
    have HX := Lib.hid hxs
    clear hcell hb1 hl hT CW CS CG hxs HT HK R0 hw ha hs
    go_wp2_with (go_at_call 28; refine CH.out.mono ?_; rintro e w' ⟨rfl, rfl⟩)
    clear CH
    go_loopw [10, 12, 37] (RelFi S follow slash f 0 l T w1) (fun _ _ i _ => l.length - (intOf i).toNat)
    case atStart => exact ⟨0, 0, a1, .zero, Nat.zero_le _, rfl, rfl, rfl, by omega, Nat.le_refl _, ha1, in64 (by decide), HT1.out, Cel.start 32 w1 _ _ _⟩
    case round =>
      clear HT1 ha1
      obtain ⟨k, lk', a', p, hk, rfl, rfl, rfl, hlk, hlk0, ha', hpn, hr, hc⟩ := hrel
      have HR := Lib.hid hr
      have HP := Lib.hid hc
      clear hr hc
      by_cases hlt : k < l.length
      · obtain ⟨x, hx⟩ := get_some hlt
        have c40 := low_cell HP.out.bel (HL.out k x hx)
        have hr := HR.out
        rw [drop_get hx] at hr
        have CT := step29 L D S wr (HK1.out.below HP.out.bel) HG.out a' ha' x (by have := HX.out x (List.mem_of_getElem? hx); unfold maxLen; omega)
        have hpi := step_in HG.out a' ha' x
        simp only [loopM] at hr
        generalize hst : stepM (vwS S) a' x = st at CT hr hpi
        obtain ⟨p1, e1⟩ := st
        dsimp only at hr hpi
        replace CT := Lib.hid CT
        have hrl : (l.drop (k + 1)).length = l.length - (k + 1) := List.length_drop
        clear hst HR
        go_wp2_with fail
        refine CT.out.mono ?_
        rintro e w2 ⟨rfl, hb2⟩
        have P2 := HP.out.below hb2
        have q0 := P2.c0
        have q1 := P2.c1
        have q2 := P2.c2
        have p0 := P2.fr 0
        have p1' := P2.fr 1
        have p2 := P2.fr 2
        have HP3 := Lib.hid (P2.fin (.int .i64 p1.node) (.int .i64 p1.dir) (.string p1.name))
        clear P2 hb2 CT HP
        by_cases he : e1 = 0
        rotate_left
        · rw [if_pos he] at hr
          have he' : (e1 != 0) = true := by simpa using he
          have R3 := HC.out.below HP3.out.bel
          have r0 := R3.c0
          have r1 := R3.c1
          have r2 := R3.c2
          have s0 := R3.fr 0
          have s1 := R3.fr 1
          have s2 := R3.fr 2
          have HE := Lib.hid (R3.fin (.int .i64 0) (.int .i64 0) (.string ⟨#[]⟩))
          subst hr
          clear R3 HP3
          go_wp2
          simp only [Exit.jump]
          exact bodyPost_ret_by (results_c1 Try.info32 Try.agg32 rfl _ _ _ _ rfl HE.out.blk rfl) rfl ⟨rfl, HE.out.bel⟩
        · rw [if_neg (by simp [he])] at hr
          subst he
          have CK := Lib.hid (kind30 L D S _ (HK1.out.below HP3.out.bel) p1.node hpi)
          have d0 := HP3.out.c0
          by_cases hon : (0 < (l.drop (k + 1)).length ∨ slash = true) ∨ follow = true
          rotate_left
          · rw [if_neg (fun h => hon h.1)] at hr
            have hs0 : slash = false := by cases slash; rfl; exact absurd (.inl (.inr rfl)) hon
            have hf0 : follow = false := by cases follow; rfl; exact absurd (.inr rfl) hon
            have hk0 : ¬ (k : Int) < (l.length : Int) - 1 := by have : ¬ 0 < (l.drop (k + 1)).length := fun h => hon (.inl (.inl h)); omega
            have HR := Lib.hid hr
            subst hs0 hf0
            clear hr hon CK
            go_wp2
            go_roundw
            case rel => exact ⟨k + 1, lk', p1.node, p1, hlt, rfl, rfl, by go_num, hlk, hlk0, hpi, hpi, HR.out, HP3.out⟩
            case measure => simp [intOf]; omega
          · have hon3 : (k : Int) < (l.length : Int) - 1 ∨ (¬ (k : Int) < (l.length : Int) - 1 ∧ slash = true) ∨ (¬ (k : Int) < (l.length : Int) - 1 ∧ slash = false ∧ follow = true) := by
              by_cases e1 : (k : Int) < (l.length : Int) - 1
              · exact .inl e1
              · cases hsl : slash
                · exact .inr (.inr ⟨e1, rfl, by rcases hon with (h | h) | h; omega; rw [hsl] at h; cases h; exact h⟩)
                · exact .inr (.inl ⟨e1, rfl⟩)
            by_cases hk3 : kindV (vwS S p1.node) = 3
            rotate_left
            · rw [if_neg (fun h => hk3 h.2)] at hr
              have hk3' : (kindV (vwS S p1.node) == 3) = false := by simpa using hk3
              generalize kindV (vwS S p1.node) = kd at CK hk3'
              have HR := Lib.hid hr
              clear hr hon hk3
              rcases hon3 with h1 | ⟨h1, rfl⟩ | ⟨h1, rfl, rfl⟩
              · skip
                go_wp2_with fail
                refine CK.out.mono ?_
                rintro e w4 ⟨rfl, hb4⟩
                have P4 := HP3.out.below hb4
                have d4 := P4.c0
                have HP4 := Lib.hid P4
                clear P4 hb4
                go_wp2
                go_roundw
                case rel => exact ⟨k + 1, lk', p1.node, p1, hlt, rfl, rfl, by go_num, hlk, hlk0, hpi, hpi, HR.out, HP4.out⟩
                case measure => simp [intOf]; omega
              · skip
                go_wp2_with fail
                refine CK.out.mono ?_
                rintro e w4 ⟨rfl, hb4⟩
                have P4 := HP3.out.below hb4
                have d4 := P4.c0
                have HP4 := Lib.hid P4
                clear P4 hb4
                go_wp2
                go_roundw
                case rel => exact ⟨k + 1, lk', p1.node, p1, hlt, rfl, rfl, by go_num, hlk, hlk0, hpi, hpi, HR.out, HP4.out⟩
                case measure => simp [intOf]; omega
              · skip
                go_wp2_with fail
                refine CK.out.mono ?_
                rintro e w4 ⟨rfl, hb4⟩
                have P4 := HP3.out.below hb4
                have d4 := P4.c0
                have HP4 := Lib.hid P4
                clear P4 hb4
                go_wp2
                go_roundw
                case rel => exact ⟨k + 1, lk', p1.node, p1, hlt, rfl, rfl, by go_num, hlk, hlk0, hpi, hpi, HR.out, HP4.out⟩
                case measure => simp [intOf]; omega
            · rw [if_pos ⟨hon, hk3⟩] at hr
              rw [hk3] at CK
              rw [data_is S p1.node] at hr
              have hds : (dataS (S.get p1.node)).size ≤ 5000 := dataS_le HG.out p1.node
              have hbz := behS_size (dataS (S.get p1.node)) (l.drop (k + 1)) slash
              have htd := tot_drop (k + 1) l
              have CB := fun (w4 : World) (P4 : Cel 32 w1 (.int .i64 p1.node) (.int .i64 p1.dir) (.string p1.name) w4) => behind32 (dataS (S.get p1.node)) (l.drop (k + 1)) slash (.slice (some ⟨g, k + 1, none⟩) (l.length - (k + 1)) (cap - (k + 1))) w4 hds (by omega) (by omega)
                      (.inr ⟨g, k + 1, cap - (k + 1), by rw [hrl], Nat.lt_of_lt_of_le hg P4.bel.size, by omega, fun j y hj => low_cell P4.bel (HL.out (k + 1 + j) y (by rw [← List.getElem?_drop]; exact hj))⟩)
              have CB5 := fun (w4 : World) (hz : l.length - (k + 1) = 0) => behind32 (dataS (S.get p1.node)) (l.drop (k + 1)) slash (.slice (some ⟨g, 0, none⟩) (l.length - (k + 1)) 0) w4 hds (by omega) (by omega)
                      (.inl ⟨List.eq_nil_of_length_eq_zero (by omega), _, _, by rw [hz]⟩)
              generalize hdd : dataS (S.get p1.node) = dd at hr hds CB CB5 hbz
              generalize behS dd (l.drop (k + 1)) slash = nx at hr CB CB5 hbz
              replace CB := Lib.hid CB
              replace CB5 := Lib.hid CB5
              clear hon hk3
              have HR0 := Lib.hid hr
              clear hr hrl
              rcases hon3 with h1 | ⟨h1, rfl⟩ | ⟨h1, rfl, rfl⟩
              · skip
                go_wp2_with fail
                refine CK.out.mono ?_
                rintro e w4 ⟨rfl, hb4⟩
                have P4 := HP3.out.below hb4
                have d4 := P4.c0
                have HP4 := Lib.hid P4
                have CD := data26 L D S w4 (HK1.out.below P4.bel) p1.node hpi
                rw [hdd] at CD
                have hr := HR0.out
                generalize byteE (S.get p1.node) = be at CD
                replace CD := Lib.hid CD
                clear P4 hb4 HR0 hdd
                by_cases h40 : 40 < lk' + 1
                · rw [if_pos h40] at hr
                  subst hr
                  have h40' : (40 : Int) < (lk' : Int) + 1 := by omega
                  have R3 := HC.out.below HP4.out.bel
                  have r0 := R3.c0
                  have r1 := R3.c1
                  have r2 := R3.c2
                  have s0 := R3.fr 0
                  have s1 := R3.fr 1
                  have s2 := R3.fr 2
                  have HE := Lib.hid (R3.fin (.int .i64 0) (.int .i64 0) (.string ⟨#[]⟩))
                  clear R3 HP4 HP3
                  go_wp2
                  simp only [Exit.jump]
                  exact bodyPost_ret_by (results_c1 Try.info32 Try.agg32 rfl _ _ _ _ rfl HE.out.blk rfl) rfl ⟨rfl, HE.out.bel⟩
                · rw [if_neg h40] at hr
                  have h40' : ¬ (40 : Int) < (lk' : Int) + 1 := by omega
                  by_cases hd : dd.size = 0
                  · rw [if_neg (by simp [hd])] at hr
                    have hd' := toList_em hd
                    have HR := Lib.hid hr
                    clear hr HP3 hd
                    go_wp2_with (go_at_call 31; refine CD.out.mono ?_; rintro e w' ⟨rfl, rfl⟩)
                    go_roundw
                    case rel => exact ⟨k + 1, lk' + 1, p1.node, p1, hlt, by go_num, rfl, by go_num, by omega, by omega, hpi, hpi, HR.out, HP4.out⟩
                    case measure => simp [intOf]; omega
                  · rw [if_pos hd] at hr
                    have hd' := toList_ne hd
                    have HR := Lib.hid hr
                    have CB4 := Lib.hid (CB.out w4 HP4.out)
                    clear hr HP3
                    go_wp2_with (go_at_call 31; refine CD.out.mono ?_; rintro e w' ⟨rfl, rfl⟩)
                    all_goals (
                      (first | (with_reducible refine CB4.out.mono ?_) | (with_reducible refine (CB5.out w4 (by omega)).mono ?_))
                      rintro e w5 ⟨rfl, hb5⟩
                      have HC5 := Lib.hid ((HC.out.below HP4.out.bel).below hb5)
                      clear hb5
                      go_wp2
                      go_step3
                      have e41 : ((lk' : Int) + 1) = ((lk' + 1 : Nat) : Int) := by omega
                      rw [e41]
                      show 0 = 0 ∧ Jump10 D S _ T w _ w5
                      exact ⟨rfl, f, lk' + 1, a', nx, ha', by omega, HR.out, by omega, by omega, HC5.out, _, _, _, _, _, _, _, _, _, _, _, _, _, _, _, _, _, _, _, _, _, _, _, _, _, _, _, _, _, _, _, _, _, _, _, _, _, _, _, _, _, _, _, _, _, _, _, _, _, _, _, _, _, _, _, _, _, _, _, _, _, _, _, _, _, _, _, _, _, _, _, _, _, _, _, _, _, _, _, _, _, _, _, _, _, _, _, _, _, _, _, _, _, _, _, _, _, _, _, _, _, _, _, _, _, _, rfl⟩)
              · skip
                go_wp2_with fail
                refine CK.out.mono ?_
                rintro e w4 ⟨rfl, hb4⟩
                have P4 := HP3.out.below hb4
                have d4 := P4.c0
                have HP4 := Lib.hid P4
                have CD := data26 L D S w4 (HK1.out.below P4.bel) p1.node hpi
                rw [hdd] at CD
                have hr := HR0.out
                generalize byteE (S.get p1.node) = be at CD
                replace CD := Lib.hid CD
                clear P4 hb4 HR0 hdd
                by_cases h40 : 40 < lk' + 1
                · rw [if_pos h40] at hr
                  subst hr
                  have h40' : (40 : Int) < (lk' : Int) + 1 := by omega
                  have R3 := HC.out.below HP4.out.bel
                  have r0 := R3.c0
                  have r1 := R3.c1
                  have r2 := R3.c2
                  have s0 := R3.fr 0
                  have s1 := R3.fr 1
                  have s2 := R3.fr 2
                  have HE := Lib.hid (R3.fin (.int .i64 0) (.int .i64 0) (.string ⟨#[]⟩))
                  clear R3 HP4 HP3
                  go_wp2
                  simp only [Exit.jump]
                  exact bodyPost_ret_by (results_c1 Try.info32 Try.agg32 rfl _ _ _ _ rfl HE.out.blk rfl) rfl ⟨rfl, HE.out.bel⟩
                · rw [if_neg h40] at hr
                  have h40' : ¬ (40 : Int) < (lk' : Int) + 1 := by omega
                  by_cases hd : dd.size = 0
                  · rw [if_neg (by simp [hd])] at hr
                    have hd' := toList_em hd
                    have HR := Lib.hid hr
                    clear hr HP3 hd
                    go_wp2_with (go_at_call 31; refine CD.out.mono ?_; rintro e w' ⟨rfl, rfl⟩)
                    go_roundw
                    case rel => exact ⟨k + 1, lk' + 1, p1.node, p1, hlt, by go_num, rfl, by go_num, by omega, by omega, hpi, hpi, HR.out, HP4.out⟩
                    case measure => simp [intOf]; omega
                  · rw [if_pos hd] at hr
                    have hd' := toList_ne hd
                    have HR := Lib.hid hr
                    have CB4 := Lib.hid (CB.out w4 HP4.out)
                    clear hr HP3
                    go_wp2_with (go_at_call 31; refine CD.out.mono ?_; rintro e w' ⟨rfl, rfl⟩)
                    all_goals (
                      (first | (with_reducible refine CB4.out.mono ?_) | (with_reducible refine (CB5.out w4 (by omega)).mono ?_))
                      rintro e w5 ⟨rfl, hb5⟩
                      have HC5 := Lib.hid ((HC.out.below HP4.out.bel).below hb5)
                      clear hb5
                      go_wp2
                      go_step3
                      have e41 : ((lk' : Int) + 1) = ((lk' + 1 : Nat) : Int) := by omega
                      rw [e41]
                      show 0 = 0 ∧ Jump10 D S _ T w _ w5
                      exact ⟨rfl, f, lk' + 1, a', nx, ha', by omega, HR.out, by omega, by omega, HC5.out, _, _, _, _, _, _, _, _, _, _, _, _, _, _, _, _, _, _, _, _, _, _, _, _, _, _, _, _, _, _, _, _, _, _, _, _, _, _, _, _, _, _, _, _, _, _, _, _, _, _, _, _, _, _, _, _, _, _, _, _, _, _, _, _, _, _, _, _, _, _, _, _, _, _, _, _, _, _, _, _, _, _, _, _, _, _, _, _, _, _, _, _, _, _, _, _, _, _, _, _, _, _, _, _, _, _, rfl⟩)
              · skip
                go_wp2_with fail
                refine CK.out.mono ?_
                rintro e w4 ⟨rfl, hb4⟩
                have P4 := HP3.out.below hb4
                have d4 := P4.c0
                have HP4 := Lib.hid P4
                have CD := data26 L D S w4 (HK1.out.below P4.bel) p1.node hpi
                rw [hdd] at CD
                have hr := HR0.out
                generalize byteE (S.get p1.node) = be at CD
                replace CD := Lib.hid CD
                clear P4 hb4 HR0 hdd
                by_cases h40 : 40 < lk' + 1
                · rw [if_pos h40] at hr
                  subst hr
                  have h40' : (40 : Int) < (lk' : Int) + 1 := by omega
                  have R3 := HC.out.below HP4.out.bel
                  have r0 := R3.c0
                  have r1 := R3.c1
                  have r2 := R3.c2
                  have s0 := R3.fr 0
                  have s1 := R3.fr 1
                  have s2 := R3.fr 2
                  have HE := Lib.hid (R3.fin (.int .i64 0) (.int .i64 0) (.string ⟨#[]⟩))
                  clear R3 HP4 HP3
                  go_wp2
                  simp only [Exit.jump]
                  exact bodyPost_ret_by (results_c1 Try.info32 Try.agg32 rfl _ _ _ _ rfl HE.out.blk rfl) rfl ⟨rfl, HE.out.bel⟩
                · rw [if_neg h40] at hr
                  have h40' : ¬ (40 : Int) < (lk' : Int) + 1 := by omega
                  by_cases hd : dd.size = 0
                  · rw [if_neg (by simp [hd])] at hr
                    have hd' := toList_em hd
                    have HR := Lib.hid hr
                    clear hr HP3 hd
                    go_wp2_with (go_at_call 31; refine CD.out.mono ?_; rintro e w' ⟨rfl, rfl⟩)
                    go_roundw
                    case rel => exact ⟨k + 1, lk' + 1, p1.node, p1, hlt, by go_num, rfl, by go_num, by omega, by omega, hpi, hpi, HR.out, HP4.out⟩
                    case measure => simp [intOf]; omega
                  · rw [if_pos hd] at hr
                    have hd' := toList_ne hd
                    have HR := Lib.hid hr
                    have CB4 := Lib.hid (CB.out w4 HP4.out)
                    clear hr HP3
                    go_wp2_with (go_at_call 31; refine CD.out.mono ?_; rintro e w' ⟨rfl, rfl⟩)
                    all_goals (
                      (first | (with_reducible refine CB4.out.mono ?_) | (with_reducible refine (CB5.out w4 (by omega)).mono ?_))
                      rintro e w5 ⟨rfl, hb5⟩
                      have HC5 := Lib.hid ((HC.out.below HP4.out.bel).below hb5)
                      clear hb5
                      go_wp2
                      go_step3
                      have e41 : ((lk' : Int) + 1) = ((lk' + 1 : Nat) : Int) := by omega
                      rw [e41]
                      show 0 = 0 ∧ Jump10 D S _ T w _ w5
                      exact ⟨rfl, f, lk' + 1, a', nx, ha', by omega, HR.out, by omega, by omega, HC5.out, _, _, _, _, _, _, _, _, _, _, _, _, _, _, _, _, _, _, _, _, _, _, _, _, _, _, _, _, _, _, _, _, _, _, _, _, _, _, _, _, _, _, _, _, _, _, _, _, _, _, _, _, _, _, _, _, _, _, _, _, _, _, _, _, _, _, _, _, _, _, _, _, _, _, _, _, _, _, _, _, _, _, _, _, _, _, _, _, _, _, _, _, _, _, _, _, _, _, _, _, _, _, _, _, _, _, rfl⟩)
      · obtain rfl : k = l.length := by omega
        have hr := HR.out
        rw [List.drop_length] at hr
        simp only [loopM] at hr
        have CK := Lib.hid (kind30 L D S wr (HK1.out.below HP.out.bel) p.node hpn)
        have c0 := HP.out.c0
        have HPE := HP
        cases slash
        · rw [if_neg (by simp)] at hr
          subst hr
          have R3 := HC.out.below HPE.out.bel
          have c0 := HPE.out.c0
          have c1 := HPE.out.c1
          have c2 := HPE.out.c2
          have r0 := R3.c0
          have r1 := R3.c1
          have r2 := R3.c2
          have s0 := R3.fr 0
          have s1 := R3.fr 1
          have s2 := R3.fr 2
          have HE := Lib.hid (R3.fin (.int .i64 p.node) (.int .i64 p.dir) (.string p.name))
          clear R3
          go_wp2
          simp only [Exit.jump]
          exact bodyPost_ret_by (results_c1 Try.info32 Try.agg32 rfl _ _ _ _ rfl HE.out.blk rfl) rfl ⟨rfl, HE.out.bel⟩
        · by_cases hn : p.node = 0
          · rw [if_neg (fun h => h.1.2 hn)] at hr
            subst hr
            have hn' : (p.node != 0) = false := by simp [hn]
            clear hn
            have R3 := HC.out.below HPE.out.bel
            have c0 := HPE.out.c0
            have c1 := HPE.out.c1
            have c2 := HPE.out.c2
            have r0 := R3.c0
            have r1 := R3.c1
            have r2 := R3.c2
            have s0 := R3.fr 0
            have s1 := R3.fr 1
            have s2 := R3.fr 2
            have HE := Lib.hid (R3.fin (.int .i64 p.node) (.int .i64 p.dir) (.string p.name))
            clear R3
            go_wp2
            simp only [Exit.jump]
            exact bodyPost_ret_by (results_c1 Try.info32 Try.agg32 rfl _ _ _ _ rfl HE.out.blk rfl) rfl ⟨rfl, HE.out.bel⟩
          · have hn' : (p.node != 0) = true := by simpa using hn
            by_cases h2 : kindV (vwS S p.node) = 2
            · rw [if_neg (fun h => h.2 h2)] at hr
              subst hr
              rw [h2] at CK
              clear h2 hn
              go_wp2_with fail
              refine CK.out.mono ?_
              rintro e w4 ⟨rfl, hb4⟩
              have HPE := Lib.hid (HP.out.below hb4)
              clear hb4 HP c0
              have R3 := HC.out.below HPE.out.bel
              have c0 := HPE.out.c0
              have c1 := HPE.out.c1
              have c2 := HPE.out.c2
              have r0 := R3.c0
              have r1 := R3.c1
              have r2 := R3.c2
              have s0 := R3.fr 0
              have s1 := R3.fr 1
              have s2 := R3.fr 2
              have HE := Lib.hid (R3.fin (.int .i64 p.node) (.int .i64 p.dir) (.string p.name))
              clear R3
              go_wp2
              simp only [Exit.jump]
              exact bodyPost_ret_by (results_c1 Try.info32 Try.agg32 rfl _ _ _ _ rfl HE.out.blk rfl) rfl ⟨rfl, HE.out.bel⟩
            · rw [if_pos ⟨⟨rfl, hn⟩, h2⟩] at hr
              subst hr
              have h2' : (kindV (vwS S p.node) != 2) = true := by simpa using h2
              generalize kindV (vwS S p.node) = kd at CK h2'
              clear h2 hn
              go_wp2_with fail
              refine CK.out.mono ?_
              rintro e w4 ⟨rfl, hb4⟩
              have HPE := Lib.hid (HP.out.below hb4)
              clear hb4 HP c0
              have R3 := HC.out.below HPE.out.bel
              have c0 := HPE.out.c0
              have c1 := HPE.out.c1
              have c2 := HPE.out.c2
              have r0 := R3.c0
              have r1 := R3.c1
              have r2 := R3.c2
              have s0 := R3.fr 0
              have s1 := R3.fr 1
              have s2 := R3.fr 2
              have HE := Lib.hid (R3.fin (.int .i64 0) (.int .i64 0) (.string ⟨#[]⟩))
              clear R3
              go_wp2
              simp only [Exit.jump]
              exact bodyPost_ret_by (results_c1 Try.info32 Try.agg32 rfl _ _ _ _ rfl HE.out.blk rfl) rfl ⟨rfl, HE.out.bel⟩

  · skip
    clear HT ha hs
    rintro a'' w0 ⟨f0, lk, a, s, ha, hs, hT0, hf0, hl0, hc0, u4, u5, u6, u7, u9, u11, u12, u13, u14, u15, u16, u17, u18, u19, u20, u21, u22, u23, u24, u25, u26, u27, u28, u29, u30, u31, u32, u33, u34, u35, u36, u37, u38, u39, u40, u41, u42, u43, u44, u45, u46, u47, u48, u49, u50, u51, u52, u53, u54, u55, u56, u57, u58, u59, u60, u61, u62, u63, u64, u65, u66, u67, u68, u69, u70, u71, u72, u73, u74, u75, u76, u77, u78, u79, u80, u81, u82, u83, u84, u85, u86, u87, u88, u89, u90, u91, u92, u93, u94, u95, u96, u97, u98, u99, u100, u101, u102, u103, u104, u105, u106, u107, u108, u109, u110, u111, rfl⟩
    obtain ⟨f, rfl⟩ : ∃ f, f0 = f + 1 := ⟨f0 - 1, by omega⟩
    have HT := Lib.hid hT0
    have R0 := Lib.hid hc0
    have HK := Lib.hid (H.out.below hc0.bel)
    clear hT0 hc0
    have CW := Lib.hid (wrong25 s w0 (by unfold maxLen; omega))
    by_cases hw : wrongE s = 0
    rotate_left
    · have hT : T = (.zero, wrongE s) := by rw [← HT.out]; unfold wayM; exact if_pos hw
      have hw' : (wrongE s != 0) = true := by simpa using hw
      clear HT
      subst hT
      generalize wrongE s = r at CW hw' ⊢
      have q0 := R0.out.c0
      have q1 := R0.out.c1
      have q2 := R0.out.c2
      have p0 := R0.out.fr 0
      have p1 := R0.out.fr 1
      have p2 := R0.out.fr 2
      have HE := Lib.hid (R0.out.fin (.int .i64 0) (.int .i64 0) (.string ⟨#[]⟩))
      go_wp2_with (go_at_call 25; refine CW.out.mono ?_; rintro e w' ⟨rfl, rfl⟩)
      simp only [Exit.jump]
      exact bodyPost_ret_by (results_c1 Try.info32 Try.agg32 rfl _ _ _ _ rfl HE.out.blk rfl) rfl ⟨rfl, HE.out.bel⟩
    have hs2 : s.size ≤ 4095 := by unfold wrongE at hw; split at hw; omega; split at hw; omega; omega
    rw [hw] at CW
    have CS := Lib.hid (start26 a s w0)
    have CG := Lib.hid (goes27 s w0 hs)
    have hT := HT.out
    unfold wayM at hT
    rw [if_neg (by simp [hw])] at hT
    have ha1 : In64 (if absB s = true then 1 else a) := by split; exact (in64 (by decide)); exact ha
    generalize (if absB s = true then 1 else a) = a1 at CS hT ha1
    have hne := goL_ne s
    have hxs := goL_size s
    have htot := goL_tot s
    have hlen := goL_len s
    generalize goL s = l at CG hT hne hxs htot hlen
    go_wp2_with (first | (go_at_call 25; refine CW.out.mono ?_; rintro e w' ⟨rfl, rfl⟩) | (go_at_call 26; refine CS.out.mono ?_; rintro e w' ⟨rfl, rfl⟩))
    refine CG.out.mono ?_
    rintro e w1 ⟨v, rfl, hl, hb1⟩
    obtain ⟨g, cap, rfl, hcap, hg, hcell⟩ := hl.some hne
    have CH := (Try.strings_HasSuffix s ⟨#[47]⟩ w1 (by omega)).mono fun _ _ h => And.intro h.1 h.2.symm
    rw [show Lib.hasSuffix s.data.toList (⟨#[47]⟩ : ByteArray).data.toList = slsB s from suffix_is s] at CH
    generalize slsB s = slash at CH hT
    replace CH := Lib.hid CH
    have HL := Lib.hid hcell
    have HC := Lib.hid (R0.out.below hb1)
    have HK1 := Lib.hid (HK.out.below hb1)
    have HT1 := Lib.hid hT
    have HX := Lib.hid hxs
    clear hcell hb1 hl hT CW CS CG hxs HT HK R0 hw ha hs
    go_wp2_with (go_at_call 28; refine CH.out.mono ?_; rintro e w' ⟨rfl, rfl⟩)
    clear CH
    go_loopw [10, 12, 37] (RelFi S follow slash f lk l T w1) (fun _ _ i _ => l.length - (intOf i).toNat)
    case atStart => exact ⟨0, lk, a1, .zero, Nat.zero_le _, rfl, rfl, rfl, hl0, Nat.le_refl _, ha1, in64 (by decide), HT1.out, Cel.start 32 w1 _ _ _⟩
    case round =>
      clear HT1 ha1
      obtain ⟨k, lk', a', p, hk, rfl, rfl, rfl, hlk, hlk0, ha', hpn, hr, hc⟩ := hrel
      have HR := Lib.hid hr
      have HP := Lib.hid hc
      clear hr hc
      by_cases hlt : k < l.length
      · obtain ⟨x, hx⟩ := get_some hlt
        have c40 := low_cell HP.out.bel (HL.out k x hx)
        have hr := HR.out
        rw [drop_get hx] at hr
        have CT := step29 L D S wr (HK1.out.below HP.out.bel) HG.out a' ha' x (by have := HX.out x (List.mem_of_getElem? hx); unfold maxLen; omega)
        have hpi := step_in HG.out a' ha' x
        simp only [loopM] at hr
        generalize hst : stepM (vwS S) a' x = st at CT hr hpi
        obtain ⟨p1, e1⟩ := st
        dsimp only at hr hpi
        replace CT := Lib.hid CT
        have hrl : (l.drop (k + 1)).length = l.length - (k + 1) := List.length_drop
        clear hst HR
        go_wp2_with fail
        refine CT.out.mono ?_
        rintro e w2 ⟨rfl, hb2⟩
        have P2 := HP.out.below hb2
        have q0 := P2.c0
        have q1 := P2.c1
        have q2 := P2.c2
        have p0 := P2.fr 0
        have p1' := P2.fr 1
        have p2 := P2.fr 2
        have HP3 := Lib.hid (P2.fin (.int .i64 p1.node) (.int .i64 p1.dir) (.string p1.name))
        clear P2 hb2 CT HP
        by_cases he : e1 = 0
        rotate_left
        · rw [if_pos he] at hr
          have he' : (e1 != 0) = true := by simpa using he
          have R3 := HC.out.below HP3.out.bel
          have r0 := R3.c0
          have r1 := R3.c1
          have r2 := R3.c2
          have s0 := R3.fr 0
          have s1 := R3.fr 1
          have s2 := R3.fr 2
          have HE := Lib.hid (R3.fin (.int .i64 0) (.int .i64 0) (.string ⟨#[]⟩))
          subst hr
          clear R3 HP3
          go_wp2
          simp only [Exit.jump]
          exact bodyPost_ret_by (results_c1 Try.info32 Try.agg32 rfl _ _ _ _ rfl HE.out.blk rfl) rfl ⟨rfl, HE.out.bel⟩
        · rw [if_neg (by simp [he])] at hr
          subst he
          have CK := Lib.hid (kind30 L D S _ (HK1.out.below HP3.out.bel) p1.node hpi)
          have d0 := HP3.out.c0
          by_cases hon : (0 < (l.drop (k + 1)).length ∨ slash = true) ∨ follow = true
          rotate_left
          · rw [if_neg (fun h => hon h.1)] at hr
            have hs0 : slash = false := by cases slash; rfl; exact absurd (.inl (.inr rfl)) hon
            have hf0 : follow = false := by cases follow; rfl; exact absurd (.inr rfl) hon
            have hk0 : ¬ (k : Int) < (l.length : Int) - 1 := by have : ¬ 0 < (l.drop (k + 1)).length := fun h => hon (.inl (.inl h)); omega
            have HR := Lib.hid hr
            subst hs0 hf0
            clear hr hon CK
            go_wp2
            go_roundw
            case rel => exact ⟨k + 1, lk', p1.node, p1, hlt, rfl, rfl, by go_num, hlk, hlk0, hpi, hpi, HR.out, HP3.out⟩
            case measure => simp [intOf]; omega
          · have hon3 : (k : Int) < (l.length : Int) - 1 ∨ (¬ (k : Int) < (l.length : Int) - 1 ∧ slash = true) ∨ (¬ (k : Int) < (l.length : Int) - 1 ∧ slash = false ∧ follow = true) := by
              by_cases e1 : (k : Int) < (l.length : Int) - 1
              · exact .inl e1
              · cases hsl : slash
                · exact .inr (.inr ⟨e1, rfl, by rcases hon with (h | h) | h; omega; rw [hsl] at h; cases h; exact h⟩)
                · exact .inr (.inl ⟨e1, rfl⟩)
            by_cases hk3 : kindV (vwS S p1.node) = 3
            rotate_left
            · rw [if_neg (fun h => hk3 h.2)] at hr
              have hk3' : (kindV (vwS S p1.node) == 3) = false := by simpa using hk3
              generalize kindV (vwS S p1.node) = kd at CK hk3'
              have HR := Lib.hid hr
              clear hr hon hk3
              rcases hon3 with h1 | ⟨h1, rfl⟩ | ⟨h1, rfl, rfl⟩
              · skip
                go_wp2_with fail
                refine CK.out.mono ?_
                rintro e w4 ⟨rfl, hb4⟩
                have P4 := HP3.out.below hb4
                have d4 := P4.c0
                have HP4 := Lib.hid P4
                clear P4 hb4
                go_wp2
                go_roundw
                case rel => exact ⟨k + 1, lk', p1.node, p1, hlt, rfl, rfl, by go_num, hlk, hlk0, hpi, hpi, HR.out, HP4.out⟩
                case measure => simp [intOf]; omega
              · skip
                go_wp2_with fail
                refine CK.out.mono ?_
                rintro e w4 ⟨rfl, hb4⟩
                have P4 := HP3.out.below hb4
                have d4 := P4.c0
                have HP4 := Lib.hid P4
                clear P4 hb4
                go_wp2
                go_roundw
                case rel => exact ⟨k + 1, lk', p1.node, p1, hlt, rfl, rfl, by go_num, hlk, hlk0, hpi, hpi, HR.out, HP4.out⟩
                case measure => simp [intOf]; omega
              · skip
                go_wp2_with fail
                refine CK.out.mono ?_
                rintro e w4 ⟨rfl, hb4⟩
                have P4 := HP3.out.below hb4
                have d4 := P4.c0
                have HP4 := Lib.hid P4
                clear P4 hb4
                go_wp2
                go_roundw
                case rel => exact ⟨k + 1, lk', p1.node, p1, hlt, rfl, rfl, by go_num, hlk, hlk0, hpi, hpi, HR.out, HP4.out⟩
                case measure => simp [intOf]; omega
            · rw [if_pos ⟨hon, hk3⟩] at hr
              rw [hk3] at CK
              rw [data_is S p1.node] at hr
              have hds : (dataS (S.get p1.node)).size ≤ 5000 := dataS_le HG.out p1.node
              have hbz := behS_size (dataS (S.get p1.node)) (l.drop (k + 1)) slash
              have htd := tot_drop (k + 1) l
              have CB := fun (w4 : World) (P4 : Cel 32 w1 (.int .i64 p1.node) (.int .i64 p1.dir) (.string p1.name) w4) => behind32 (dataS (S.get p1.node)) (l.drop (k + 1)) slash (.slice (some ⟨g, k + 1, none⟩) (l.length - (k + 1)) (cap - (k + 1))) w4 hds (by omega) (by omega)
                      (.inr ⟨g, k + 1, cap - (k + 1), by rw [hrl], Nat.lt_of_lt_of_le hg P4.bel.size, by omega, fun j y hj => low_cell P4.bel (HL.out (k + 1 + j) y (by rw [← List.getElem?_drop]; exact hj))⟩)
              have CB5 := fun (w4 : World) (hz : l.length - (k + 1) = 0) => behind32 (dataS (S.get p1.node)) (l.drop (k + 1)) slash (.slice (some ⟨g, 0, none⟩) (l.length - (k + 1)) 0) w4 hds (by omega) (by omega)
                      (.inl ⟨List.eq_nil_of_length_eq_zero (by omega), _, _, by rw [hz]⟩)
              generalize hdd : dataS (S.get p1.node) = dd at hr hds CB CB5 hbz
              generalize behS dd (l.drop (k + 1)) slash = nx at hr CB CB5 hbz
              replace CB := Lib.hid CB
              replace CB5 := Lib.hid CB5
              clear hon hk3
              have HR0 := Lib.hid hr
              clear hr hrl
              rcases hon3 with h1 | ⟨h1, rfl⟩ | ⟨h1, rfl, rfl⟩
              · skip
                go_wp2_with fail
                refine CK.out.mono ?_
                rintro e w4 ⟨rfl, hb4⟩
                have P4 := HP3.out.below hb4
                have d4 := P4.c0
                have HP4 := Lib.hid P4
                have CD := data26 L D S w4 (HK1.out.below P4.bel) p1.node hpi
                rw [hdd] at CD
                have hr := HR0.out
                generalize byteE (S.get p1.node) = be at CD
                replace CD := Lib.hid CD
                clear P4 hb4 HR0 hdd
                by_cases h40 : 40 < lk' + 1
                · rw [if_pos h40] at hr
                  subst hr
                  have h40' : (40 : Int) < (lk' : Int) + 1 := by omega
                  have R3 := HC.out.below HP4.out.bel
                  have r0 := R3.c0
                  have r1 := R3.c1
                  have r2 := R3.c2
                  have s0 := R3.fr 0
                  have s1 := R3.fr 1
                  have s2 := R3.fr 2
                  have HE := Lib.hid (R3.fin (.int .i64 0) (.int .i64 0) (.string ⟨#[]⟩))
                  clear R3 HP4 HP3
                  go_wp2
                  simp only [Exit.jump]
                  exact bodyPost_ret_by (results_c1 Try.info32 Try.agg32 rfl _ _ _ _ rfl HE.out.blk rfl) rfl ⟨rfl, HE.out.bel⟩
                · rw [if_neg h40] at hr
                  have h40' : ¬ (40 : Int) < (lk' : Int) + 1 := by omega
                  by_cases hd : dd.size = 0
                  · rw [if_neg (by simp [hd])] at hr
                    have hd' := toList_em hd
                    have HR := Lib.hid hr
                    clear hr HP3 hd
                    go_wp2_with (go_at_call 31; refine CD.out.mono ?_; rintro e w' ⟨rfl, rfl⟩)
                    go_roundw
                    case rel => exact ⟨k + 1, lk' + 1, p1.node, p1, hlt, by go_num, rfl, by go_num, by omega, by omega, hpi, hpi, HR.out, HP4.out⟩
                    case measure => simp [intOf]; omega
                  · rw [if_pos hd] at hr
                    have hd' := toList_ne hd
                    have HR := Lib.hid hr
                    have CB4 := Lib.hid (CB.out w4 HP4.out)
                    clear hr HP3
                    go_wp2_with (go_at_call 31; refine CD.out.mono ?_; rintro e w' ⟨rfl, rfl⟩)
                    all_goals (
                      (first | (with_reducible refine CB4.out.mono ?_) | (with_reducible refine (CB5.out w4 (by omega)).mono ?_))
                      rintro e w5 ⟨rfl, hb5⟩
                      have HC5 := Lib.hid ((HC.out.below HP4.out.bel).below hb5)
                      clear hb5
                      go_wp2
                      go_step3
                      have e41 : ((lk' : Int) + 1) = ((lk' + 1 : Nat) : Int) := by omega
                      rw [e41]
                      skip
                      exact ⟨rfl, ⟨f, lk' + 1, a', nx, ha', by omega, HR.out, by omega, by omega, HC5.out, _, _, _, _, _, _, _, _, _, _, _, _, _, _, _, _, _, _, _, _, _, _, _, _, _, _, _, _, _, _, _, _, _, _, _, _, _, _, _, _, _, _, _, _, _, _, _, _, _, _, _, _, _, _, _, _, _, _, _, _, _, _, _, _, _, _, _, _, _, _, _, _, _, _, _, _, _, _, _, _, _, _, _, _, _, _, _, _, _, _, _, _, _, _, _, _, _, _, _, _, _, _, _, _, _, _, rfl⟩, by simp [intOf]; omega⟩)
              · skip
                go_wp2_with fail
                refine CK.out.mono ?_
                rintro e w4 ⟨rfl, hb4⟩
                have P4 := HP3.out.below hb4
                have d4 := P4.c0
                have HP4 := Lib.hid P4
                have CD := data26 L D S w4 (HK1.out.below P4.bel) p1.node hpi
                rw [hdd] at CD
                have hr := HR0.out
                generalize byteE (S.get p1.node) = be at CD
                replace CD := Lib.hid CD
                clear P4 hb4 HR0 hdd
                by_cases h40 : 40 < lk' + 1
                · rw [if_pos h40] at hr
                  subst hr
                  have h40' : (40 : Int) < (lk' : Int) + 1 := by omega
                  have R3 := HC.out.below HP4.out.bel
                  have r0 := R3.c0
                  have r1 := R3.c1
                  have r2 := R3.c2
                  have s0 := R3.fr 0
                  have s1 := R3.fr 1
                  have s2 := R3.fr 2
                  have HE := Lib.hid (R3.fin (.int .i64 0) (.int .i64 0) (.string ⟨#[]⟩))
                  clear R3 HP4 HP3
                  go_wp2
                  simp only [Exit.jump]
                  exact bodyPost_ret_by (results_c1 Try.info32 Try.agg32 rfl _ _ _ _ rfl HE.out.blk rfl) rfl ⟨rfl, HE.out.bel⟩
                · rw [if_neg h40] at hr
                  have h40' : ¬ (40 : Int) < (lk' : Int) + 1 := by omega
                  by_cases hd : dd.size = 0
                  · rw [if_neg (by simp [hd])] at hr
                    have hd' := toList_em hd
                    have HR := Lib.hid hr
                    clear hr HP3 hd
                    go_wp2_with (go_at_call 31; refine CD.out.mono ?_; rintro e w' ⟨rfl, rfl⟩)
                    go_roundw
                    case rel => exact ⟨k + 1, lk' + 1, p1.node, p1, hlt, by go_num, rfl, by go_num, by omega, by omega, hpi, hpi, HR.out, HP4.out⟩
                    case measure => simp [intOf]; omega
                  · rw [if_pos hd] at hr
                    have hd' := toList_ne hd
                    have HR := Lib.hid hr
                    have CB4 := Lib.hid (CB.out w4 HP4.out)
                    clear hr HP3
                    go_wp2_with (go_at_call 31; refine CD.out.mono ?_; rintro e w' ⟨rfl, rfl⟩)
                    all_goals (
                      (first | (with_reducible refine CB4.out.mono ?_) | (with_reducible refine (CB5.out w4 (by omega)).mono ?_))
                      rintro e w5 ⟨rfl, hb5⟩
                      have HC5 := Lib.hid ((HC.out.below HP4.out.bel).below hb5)
                      clear hb5
                      go_wp2
                      go_step3
                      have e41 : ((lk' : Int) + 1) = ((lk' + 1 : Nat) : Int) := by omega
                      rw [e41]
                      skip
                      exact ⟨rfl, ⟨f, lk' + 1, a', nx, ha', by omega, HR.out, by omega, by omega, HC5.out, _, _, _, _, _, _, _, _, _, _, _, _, _, _, _, _, _, _, _, _, _, _, _, _, _, _, _, _, _, _, _, _, _, _, _, _, _, _, _, _, _, _, _, _, _, _, _, _, _, _, _, _, _, _, _, _, _, _, _, _, _, _, _, _, _, _, _, _, _, _, _, _, _, _, _, _, _, _, _, _, _, _, _, _, _, _, _, _, _, _, _, _, _, _, _, _, _, _, _, _, _, _, _, _, _, _, rfl⟩, by simp [intOf]; omega⟩)
              · skip
                go_wp2_with fail
                refine CK.out.mono ?_
                rintro e w4 ⟨rfl, hb4⟩
                have P4 := HP3.out.below hb4
                have d4 := P4.c0
                have HP4 := Lib.hid P4
                have CD := data26 L D S w4 (HK1.out.below P4.bel) p1.node hpi
                rw [hdd] at CD
                have hr := HR0.out
                generalize byteE (S.get p1.node) = be at CD
                replace CD := Lib.hid CD
                clear P4 hb4 HR0 hdd
                by_cases h40 : 40 < lk' + 1
                · rw [if_pos h40] at hr
                  subst hr
                  have h40' : (40 : Int) < (lk' : Int) + 1 := by omega
                  have R3 := HC.out.below HP4.out.bel
                  have r0 := R3.c0
                  have r1 := R3.c1
                  have r2 := R3.c2
                  have s0 := R3.fr 0
                  have s1 := R3.fr 1
                  have s2 := R3.fr 2
                  have HE := Lib.hid (R3.fin (.int .i64 0) (.int .i64 0) (.string ⟨#[]⟩))
                  clear R3 HP4 HP3
                  go_wp2
                  simp only [Exit.jump]
                  exact bodyPost_ret_by (results_c1 Try.info32 Try.agg32 rfl _ _ _ _ rfl HE.out.blk rfl) rfl ⟨rfl, HE.out.bel⟩
                · rw [if_neg h40] at hr
                  have h40' : ¬ (40 : Int) < (lk' : Int) + 1 := by omega
                  by_cases hd : dd.size = 0
                  · rw [if_neg (by simp [hd])] at hr
                    have hd' := toList_em hd
                    have HR := Lib.hid hr
                    clear hr HP3 hd
                    go_wp2_with (go_at_call 31; refine CD.out.mono ?_; rintro e w' ⟨rfl, rfl⟩)
                    go_roundw
                    case rel => exact ⟨k + 1, lk' + 1, p1.node, p1, hlt, by go_num, rfl, by go_num, by omega, by omega, hpi, hpi, HR.out, HP4.out⟩
                    case measure => simp [intOf]; omega
                  · rw [if_pos hd] at hr
                    have hd' := toList_ne hd
                    have HR := Lib.hid hr
                    have CB4 := Lib.hid (CB.out w4 HP4.out)
                    clear hr HP3
                    go_wp2_with (go_at_call 31; refine CD.out.mono ?_; rintro e w' ⟨rfl, rfl⟩)
                    all_goals (
                      (first | (with_reducible refine CB4.out.mono ?_) | (with_reducible refine (CB5.out w4 (by omega)).mono ?_))
                      rintro e w5 ⟨rfl, hb5⟩
                      have HC5 := Lib.hid ((HC.out.below HP4.out.bel).below hb5)
                      clear hb5
                      go_wp2
                      go_step3
                      have e41 : ((lk' : Int) + 1) = ((lk' + 1 : Nat) : Int) := by omega
                      rw [e41]
                      skip
                      exact ⟨rfl, ⟨f, lk' + 1, a', nx, ha', by omega, HR.out, by omega, by omega, HC5.out, _, _, _, _, _, _, _, _, _, _, _, _, _, _, _, _, _, _, _, _, _, _, _, _, _, _, _, _, _, _, _, _, _, _, _, _, _, _, _, _, _, _, _, _, _, _, _, _, _, _, _, _, _, _, _, _, _, _, _, _, _, _, _, _, _, _, _, _, _, _, _, _, _, _, _, _, _, _, _, _, _, _, _, _, _, _, _, _, _, _, _, _, _, _, _, _, _, _, _, _, _, _, _, _, _, _, rfl⟩, by simp [intOf]; omega⟩)
      · obtain rfl : k = l.length := by omega
        have hr := HR.out
        rw [List.drop_length] at hr
        simp only [loopM] at hr
        have CK := Lib.hid (kind30 L D S wr (HK1.out.below HP.out.bel) p.node hpn)
        have c0 := HP.out.c0
        have HPE := HP
        cases slash
        · rw [if_neg (by simp)] at hr
          subst hr
          have R3 := HC.out.below HPE.out.bel
          have c0 := HPE.out.c0
          have c1 := HPE.out.c1
          have c2 := HPE.out.c2
          have r0 := R3.c0
          have r1 := R3.c1
          have r2 := R3.c2
          have s0 := R3.fr 0
          have s1 := R3.fr 1
          have s2 := R3.fr 2
          have HE := Lib.hid (R3.fin (.int .i64 p.node) (.int .i64 p.dir) (.string p.name))
          clear R3
          go_wp2
          simp only [Exit.jump]
          exact bodyPost_ret_by (results_c1 Try.info32 Try.agg32 rfl _ _ _ _ rfl HE.out.blk rfl) rfl ⟨rfl, HE.out.bel⟩
        · by_cases hn : p.node = 0
          · rw [if_neg (fun h => h.1.2 hn)] at hr
            subst hr
            have hn' : (p.node != 0) = false := by simp [hn]
            clear hn
            have R3 := HC.out.below HPE.out.bel
            have c0 := HPE.out.c0
            have c1 := HPE.out.c1
            have c2 := HPE.out.c2
            have r0 := R3.c0
            have r1 := R3.c1
            have r2 := R3.c2
            have s0 := R3.fr 0
            have s1 := R3.fr 1
            have s2 := R3.fr 2
            have HE := Lib.hid (R3.fin (.int .i64 p.node) (.int .i64 p.dir) (.string p.name))
            clear R3
            go_wp2
            simp only [Exit.jump]
            exact bodyPost_ret_by (results_c1 Try.info32 Try.agg32 rfl _ _ _ _ rfl HE.out.blk rfl) rfl ⟨rfl, HE.out.bel⟩
          · have hn' : (p.node != 0) = true := by simpa using hn
            by_cases h2 : kindV (vwS S p.node) = 2
            · rw [if_neg (fun h => h.2 h2)] at hr
              subst hr
              rw [h2] at CK
              clear h2 hn
              go_wp2_with fail
              refine CK.out.mono ?_
              rintro e w4 ⟨rfl, hb4⟩
              have HPE := Lib.hid (HP.out.below hb4)
              clear hb4 HP c0
              have R3 := HC.out.below HPE.out.bel
              have c0 := HPE.out.c0
              have c1 := HPE.out.c1
              have c2 := HPE.out.c2
              have r0 := R3.c0
              have r1 := R3.c1
              have r2 := R3.c2
              have s0 := R3.fr 0
              have s1 := R3.fr 1
              have s2 := R3.fr 2
              have HE := Lib.hid (R3.fin (.int .i64 p.node) (.int .i64 p.dir) (.string p.name))
              clear R3
              go_wp2
              simp only [Exit.jump]
              exact bodyPost_ret_by (results_c1 Try.info32 Try.agg32 rfl _ _ _ _ rfl HE.out.blk rfl) rfl ⟨rfl, HE.out.bel⟩
            · rw [if_pos ⟨⟨rfl, hn⟩, h2⟩] at hr
              subst hr
              have h2' : (kindV (vwS S p.node) != 2) = true := by simpa using h2
              generalize kindV (vwS S p.node) = kd at CK h2'
              clear h2 hn
              go_wp2_with fail
              refine CK.out.mono ?_
              rintro e w4 ⟨rfl, hb4⟩
              have HPE := Lib.hid (HP.out.below hb4)
              clear hb4 HP c0
              have R3 := HC.out.below HPE.out.bel
              have c0 := HPE.out.c0
              have c1 := HPE.out.c1
              have c2 := HPE.out.c2
              have r0 := R3.c0
              have r1 := R3.c1
              have r2 := R3.c2
              have s0 := R3.fr 0
              have s1 := R3.fr 1
              have s2 := R3.fr 2
              have HE := Lib.hid (R3.fin (.int .i64 0) (.int .i64 0) (.string ⟨#[]⟩))
              clear R3
              go_wp2
              simp only [Exit.jump]
              exact bodyPost_ret_by (results_c1 Try.info32 Try.agg32 rfl _ _ _ _ rfl HE.out.blk rfl) rfl ⟨rfl, HE.out.bel⟩

end Go.Proofs.Ytgdjoojghkdcbaa
