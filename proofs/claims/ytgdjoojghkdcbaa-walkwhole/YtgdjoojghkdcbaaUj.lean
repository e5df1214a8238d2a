/- mayReplace, Read. Conditions: a number that is handed in is an int. -/
import Derived.Test.YtgdjoojghkdcbaaUi
namespace Go.Proofs.Ytgdjoojghkdcbaa
open Go.RowKit Go.PlainAid
set_option linter.unusedSimpArgs false

/-- Why a node may not take another one's place. -/
def replE (x y : Nd) : Int := if x.kind = 2 ∧ y.kind ≠ 2 then 14 else if x.kind ≠ 2 ∧ y.kind = 2 then 15 else if 0 < y.ents.length then 16 else 0
/-- Some bytes of a slice of bytes, as a text. -/
theorem Byts.part {g n cap : Nat} {s : ByteArray} {w : World} (h : Byts (.slice (some ⟨g, 0, none⟩) n cap) s w) (a l c : Nat) (hl : a + l ≤ s.size) : (convert 50 9 (.slice (some ⟨g, a, none⟩) l c)).run Try.prog w = .ok (.string (s.extract a (a + l))) w := by
  rcases h with ⟨h, _⟩ | ⟨g', cap', cur, fr, h, hg, hc, _, hle, _, ht⟩
  · cases h
  cases h
  have hls : (((ls s).drop a).take l).length = l := by simp; omega
  have := run_convert_bytes_back (P := Try.prog) w 50 9 5 ⟨g, a, none⟩ c (((ls s).drop a).take l) Try.underlying50 Try.underlying5 Try.underlying9 (fun j hj => by
    rw [hls] at hj
    rw [add_at]
    have hj2 : a + j < (ls s).length := by rw [ls_len]; omega
    have e : (bc (ls s))[a + j]? = some (.int .u8 ((ls s)[a + j].toNat : Int)) := by simp [bc, List.getElem?_eq_getElem hj2]
    rw [← ht, List.getElem?_take, if_pos (by omega)] at e
    simp only [World.cell?, hg]
    simp only [List.getElem_take, List.getElem_drop]
    simpa using e)
  rw [hls] at this
  have e2 : (⟨(((ls s).drop a).take l).toArray⟩ : ByteArray) = s.extract a (a + l) := by
    show mk (((ls s).drop a).take l) = _
    apply ls_inj
    rw [ls_mk]
    simp only [ls, ByteArray.data_extract, Array.toList_extract, List.extract_eq_take_drop]
    rw [Nat.add_sub_cancel_left]
  rw [this, e2]

/-- What Read tells. -/
def readE (o : Option Nd) (a m : Int) : Int := if byteE o ≠ 0 then byteE o else if a < 0 ∨ m < 0 then 10 else 0
def readS (o : Option Nd) (a m : Int) : ByteArray := if readE o a m = 0 then (match o with | some x => x.data.extract (min a.toNat x.data.size) (min a.toNat x.data.size + min m.toNat (x.data.size - min a.toNat x.data.size)) | none => ⟨#[]⟩) else ⟨#[]⟩

end Go.Proofs.Ytgdjoojghkdcbaa
