/- The document's example: a file with abc, entered as x and released, takes 4 bytes. No condition. -/
import Derived.Test.YtljdgechbcifcaaUh
namespace Go.Proofs.Ytljdgechbcifcaa
open Go.RowKit Go.PlainAid
set_option linter.unusedSimpArgs false

def tX : ByteArray := ⟨#[120]⟩
def tABC : ByteArray := ⟨#[97, 98, 99]⟩
theorem lX : tX.toList = [120] := by rw [ByteArray.toList_eq]; rfl
theorem nm (s : ByteArray) (h1 : 1 ≤ s.size ∧ s.size ≤ 255) (h2 : ∀ k, k < s.size → bt s k ≠ 0 ∧ bt s k ≠ 47) (h3 : (s.toList == [46]) = false) (h4 : (s.toList == [46, 46]) = false) : nameB s = true := by
  have e0 : hasB s 0 = false := decide_eq_false (by rintro ⟨k, hk, e⟩; exact (h2 k hk).1 e)
  have e1 : hasB s 47 = false := decide_eq_false (by rintro ⟨k, hk, e⟩; exact (h2 k hk).2 e)
  unfold nameB
  rw [decide_eq_true h1, e0, e1, h3, h4]; rfl
theorem nmX : nameB tX = true := nm tX (by decide) (by intro k hk; match k, hk with | 0, _ => decide) (by rw [lX]; rfl) (by rw [lX]; rfl)
theorem putX : putE tX [] = 0 := by unfold putE; rw [if_neg (by decide), nmX]; rfl

/-- The disk with the file that was made. -/
def SA1 : St := (St.new 100).make 1 0 tABC
def SA2 : St := entS SA1 1 tX 2
theorem sa1_e : makeE (St.new 100) 1 0 tABC = 0 := by decide
theorem sa1_1 : SA1.get 1 = some ⟨2, 493, 1, 0, ⟨#[]⟩, [], 1⟩ := rfl
theorem sa1_2 : SA1.get 2 = some ⟨1, 0, 0, 1, tABC, [], 0⟩ := rfl
theorem sa2_e : entE SA1 1 tX 2 = 0 := by
  unfold entE
  rw [sa1_1, sa1_2]
  simp only
  rw [if_pos trivial, if_neg (by decide), if_neg (by decide)]
  unfold pEnt
  rw [if_pos putX, if_neg (by decide)]
theorem sa2 : SA2 = { ((SA1.put 1 ⟨2, 493, 1, 0, ⟨#[]⟩, putL tX 2 [], 1⟩).put 2 ⟨1, 0, 1, 1, tABC, [], 1⟩) with used := 4 } := by
  unfold SA2 entS
  rw [if_pos sa2_e, sa1_1, sa1_2]
  rfl
theorem sa2_2 : SA2.get 2 = some ⟨1, 0, 1, 1, tABC, [], 1⟩ := by rw [sa2]; rfl

set_option maxHeartbeats 2000000 in
set_option maxRecDepth 100000 in
theorem anchor7 (w : World) : Calls Try.prog 7 #[] w fun e w' => e = .returned (.bool true) ∧ Below w.heap.size w w' := by
  have CN := Lib.hid (new8 100 w (by decide))
  go_enter Try.func7, Try.ntmps7
  go_wp2_with fail
  refine CN.out.mono ?_
  rintro e w1 ⟨D, L, rfl, K1, B1, O1⟩
  have CM := make24 L D _ w1 K1 (by decide) (by decide) (by decide) 1 0 tABC (by decide) (by decide) (by decide) rfl (by decide)
  rw [show makeS (St.new 100) 1 0 tABC = SA1 from if_pos sa1_e, show makeR (St.new 100) 1 0 tABC = .tuple #[.int .i64 2, .int .i64 0] by unfold makeR; rw [sa1_e]; rfl] at CM
  replace CM := Lib.hid CM
  have HB1 := Lib.hid B1
  have HO1 := Lib.hid O1
  clear K1 B1 O1 CN
  go_wp2_with fail
  refine CM.out.mono ?_
  rintro e w2 ⟨rfl, L2, K2, E2, F2⟩
  have CE := enter31 L2 D SA1 w2 K2 (by decide) (by decide) (by decide) 1 2 (in64 (by decide)) (in64 (by decide)) (by intro x hx; rw [sa1_1] at hx; cases hx; exact ⟨List.Pairwise.nil, by decide⟩) (by intro y hy; rw [sa1_2] at hy; cases hy; exact ⟨by decide, by decide⟩) (fun _ => by decide) tX (by decide)
  rw [show entS SA1 1 tX 2 = SA2 from rfl, sa2_e] at CE
  replace CE := Lib.hid CE
  have HE2 := Lib.hid E2
  have HF2 := Lib.hid F2
  clear K2 E2 F2 CM
  go_wp2_with fail
  refine CE.out.mono ?_
  rintro e w3 ⟨rfl, L3, K3, E3, F3⟩
  have CR := Lib.hid (release18_stay L3 D SA2 w3 K3 2 (in64 (by decide)) _ sa2_2 (by decide) (by decide) (by decide))
  have HE3 := Lib.hid E3
  have HF3 := Lib.hid F3
  clear K3 E3 F3 CE
  go_wp2_with fail
  refine CR.out.mono ?_
  rintro e w4 ⟨rfl, L4, K4, E4, F4⟩
  have hu : (SA2.put 2 { kind := 1, mode := 0, links := 1, holds := 1 - 1, data := tABC, ents := [], up := 1 }).used = 4 := by rw [sa2]; rfl
  have CU := used22 L4 D _ w4 K4
  rw [hu] at CU
  replace CU := Lib.hid CU
  have HB4 : Hid (Below w.heap.size w w4) := by
    show Below _ _ _
    have o2 : ∀ b, b < w.heap.size → L2.ow b = -1 := fun b hb => (HE2.out b (Nat.lt_of_lt_of_le hb HB1.out.size)).trans (HO1.out b hb)
    have b2 := HF2.out.low HB1.out HB1.out.size HO1.out
    have o3 : ∀ b, b < w.heap.size → L3.ow b = -1 := fun b hb => (HE3.out b (Nat.lt_of_lt_of_le hb b2.size)).trans (o2 b hb)
    have b3 := HF3.out.low b2 b2.size o2
    exact F4.low b3 b3.size o3
  clear K4 E4 F4 CR
  go_wp2_with (go_at_call 22; refine CU.out.mono ?_; rintro e w' ⟨rfl, rfl⟩)
  go_ret
  exact ⟨rfl, HB4.out⟩
end Go.Proofs.Ytljdgechbcifcaa
