/- Contract of how a number's digits are laid out. -/
import Derived.Test.YtohjpclpeiidfaaDoorM
namespace Go.Proofs.YtohjpclpeiidfaaDoor
open Go.RowKit Go.PlainAid Go.Sort
set_option linter.unusedSimpArgs false
set_option linter.unusedVariables false
namespace Fl

theorem nd_le (u : Nat) (h1 : 1 ≤ u) (h2 : u < 18446744073709551616) : 1 ≤ Lib.nDigits u ∧ Lib.nDigits u ≤ 20 := by
  constructor
  · rcases Nat.eq_zero_or_pos (Lib.nDigits u) with h | h
    · have := Lib.lt_pow_nDigits u
      rw [h] at this
      omega
    · exact h
  · have := Lib.numDigits_eq u h1 h2; split at this <;> omega
/-- A row of bytes that the call owns: the first places hold these bytes. -/
def Buf (D : Nat) (ds : List UInt8) (w : World) : Prop := ∀ j (h : j < ds.length), w.cell? ⟨D, j, none⟩ = some (.int .u8 (ds[j].toNat : Int))
def zeros24 : Array Value := Lib.zeros24
theorem holds_zero (w : World) (D : Nat) (t : TypeId) (nd : Nat) (hs : nd ≤ 24) (hD : w.heap[D]? = some (.cells Lib.zeros24 t (0, 0))) : Holds (fun (b : UInt8) => Value.int .u8 (b.toNat : Int)) w D 0 (Array.replicate nd (0 : UInt8)) := fun j hj => by
  have hj' : j < nd := by simpa using hj
  refine ⟨?_, by simp [World.frozen?, hD]⟩
  rw [getElem!_pos _ j hj]
  simp only [World.cell?, hD]
  have := Lib.zeros24_at j (by omega)
  simpa using this

def Rel41 (nd : Nat) (ds : List UInt8) (v : Value) : Prop := ∃ z : Nat, z ≤ nd ∧ v = .int .i64 z ∧ Hid (∀ j (h : j < ds.length), z ≤ j → ds[j] = 48)
/-- What setDigits gives: the point's place, and how many digits stand ahead of the last noughts. -/
def GivesS (D nd : Nat) (ds : List UInt8) (w : World) (e : Ending) (w' : World) : Prop := ∃ z : Nat, z ≤ nd ∧ e = .returned (.tuple #[.int .i64 ((nd : Int) + -3), .int .i64 z]) ∧ (∀ j (h : j < ds.length), z ≤ j → ds[j] = 48) ∧ Buf D ds w' ∧ Below D w w'

set_option maxHeartbeats 4000000 in
set_option maxRecDepth 100000 in
theorem set41 (u D : Nat) (t : TypeId) (w : World) (h1 : 1 ≤ u) (h2 : u < 18446744073709551616) (hD : w.heap[D]? = some (.cells Lib.zeros24 t (0, 0))) :
    Calls Tryd.prog 41 #[.slice (some ⟨D, 0, none⟩) 24 24, .int .u64 u, .int .i64 (-3), .int .i64 (Lib.nDigits u)] w (GivesS D (Lib.nDigits u) (Lib.decDigits u) w) := by
  obtain ⟨n1, n2⟩ := nd_le u h1 h2
  have hlen : (Lib.decDigits u).length = Lib.nDigits u := Lib.decDigits_length u
  have hH0 := holds_zero w D t (Lib.nDigits u) (by omega) hD
  have hfmt := Tryd.internal_strconv_formatBase10 D 0 24 u (Array.replicate (Lib.nDigits u) 0) w hH0 (by rw [Array.size_replicate]; exact Lib.lt_pow_nDigits u) h2 (by rw [Array.size_replicate]; omega)
  rw [Array.size_replicate] at hfmt
  have HF := Lib.hid hfmt
  have HH := Lib.hid hH0
  have HD := Lib.hid hD
  clear hfmt hH0 hD h1 h2
  have HL := Lib.hid hlen
  obtain ⟨nd, hnd⟩ : ∃ nd, Lib.nDigits u = nd := ⟨_, rfl⟩
  obtain ⟨ds, hds⟩ : ∃ ds, Lib.decDigits u = ds := ⟨_, rfl⟩
  have HN := Lib.hid hnd
  have HDS := Lib.hid hds
  rw [hnd, hds] at hlen ⊢
  rw [hnd] at HF n1 n2
  clear hnd hds
  go_enter Tryd.func41, Tryd.ntmps41
  go_wp2_with fail
  refine HF.out.mono ?_
  rintro e w1 ⟨rfl, k, v', dk, rfl, hF⟩
  have hbuf : Buf D ds ((putRow (fun (b : UInt8) => Value.int .u8 (b.toNat : Int)) w D 0 dk).drewN k) := by
    intro j hj
    obtain rfl := HDS.out
    obtain rfl := HN.out
    have h := cell?_putRow (fun (b : UInt8) => Value.int .u8 (b.toNat : Int)) w D 0 _ dk HH.out (by rw [hF.size, Array.size_replicate]) j (by rw [hF.size]; rw [Lib.decDigits_length] at hj; exact hj)
    rw [Nat.zero_add] at h
    rw [World.cell?_drewN, h]
    have := Lib.row_is_numeral hF j hj
    rw [← this]
  have hbel : Below D w ((putRow (fun (b : UInt8) => Value.int .u8 (b.toNat : Int)) w D 0 dk).drewN k) := by
    refine ⟨rfl, rfl, rfl, by simp [putRow, mapBlock, World.drewN], fun i hi => ?_⟩
    have hne : D ≠ i := by omega
    simp [putRow, mapBlock, World.drewN, Array.getElem?_modify, hne]
  have HBf := Lib.hid hbuf
  have HBl := Lib.hid hbel
  generalize (putRow (fun (b : UInt8) => Value.int .u8 (b.toNat : Int)) w D 0 dk).drewN k = w1 at *
  clear hF hbuf hbel HF HH HD HN HDS HL
  go_wp2_with fail
  go_loop [3] (Rel41 nd ds) (fun v => (intOf v).toNat)
  case atStart => exact ⟨nd, Nat.le_refl _, rfl, Lib.hid fun j h h2 => by omega⟩
  case round =>
    obtain ⟨z, hz, rfl, HZ⟩ := hrel
    by_cases h0 : z = 0
    · subst h0
      go_wp2_with fail
      go_ret2
      exact ⟨0, hz, rfl, HZ.out, HBf.out, HBl.out⟩
    · obtain ⟨z', rfl⟩ : ∃ z', z = z' + 1 := ⟨z - 1, by omega⟩
      have hzl : z' < ds.length := by omega
      have c1 := HBf.out z' hzl
      by_cases h48 : ds[z'] = 48
      · have H2 : Hid (∀ j (h : j < ds.length), z' ≤ j → ds[j] = 48) := Lib.hid fun j h h2 => by
          by_cases e : j = z'
          · subst e; exact h48
          · exact HZ.out j h (by omega)
        have e8 : ((ds[z'].toNat : Int) == 48) = true := by rw [h48]; rfl
        clear h48
        go_wp2_with fail
        go_round
        case rel => exact ⟨z', by omega, by go_num, H2⟩
        case measure => simp [intOf]
      · have e8 : ((ds[z'].toNat : Int) == 48) = false := by
          simp only [beq_eq_false_iff_ne, ne_eq]
          intro h
          exact h48 (UInt8.toNat_inj.1 (by rw [show (48 : UInt8).toNat = 48 from rfl]; omega))
        clear h48
        go_wp2_with fail
        go_ret2
        exact ⟨z' + 1, hz, by simp, HZ.out, HBf.out, HBl.out⟩
end Fl
end Go.Proofs.YtohjpclpeiidfaaDoor
