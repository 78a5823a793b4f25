/- A digest as values. -/
import Derived.Test.YtenaelkbgkpllaaGreatDoorDK
namespace Go.Proofs.YtenaelkbgkpllaaGreatDoor
open Go.RowKit

/-- of a text's digest as values: the byte at a place -/
theorem val_at {l : List UInt8} {i : Nat} {b : UInt8} (h : l[i]? = some b) : (l.map Y).toArray[i]? = some (Y b) := by
  rw [List.getElem?_toArray, List.getElem?_map, h]; rfl
theorem vals_one (l : List UInt8) : (l.map Y).toArray.all (·.oneCell') = true := by
  rw [List.all_toArray, List.all_eq_true]
  intro v hv
  obtain ⟨n, _, rfl⟩ := List.mem_map.1 hv
  rfl
/-- a block of 32 cells, laid and filled -/
structure Dig (L : List Value) : Prop where
  len : L.length = 32
  one : L.toArray.all (·.oneCell') = true
  eql : ∀ i, i < 32 → ∃ n : Int, L.toArray[i]? = some (.int .u8 n)
theorem dig_of (l : List UInt8) : Dig ((Sha.sha l).map Y) :=
  ⟨rfl, vals_one _, fun i hi => bytes_at _ rfl i hi⟩
theorem Dig.info {L : List Value} (h : Dig L) : (Tryz.prog.info? 39).map (·.size) = some L.toArray.size := by rw [List.size_toArray, h.len]; exact Tryz.info22
theorem Dig.size {L : List Value} (h : Dig L) : L.toArray.size = 32 := by rw [List.size_toArray, h.len]
theorem dig_abc (L : List Value) (w : World) (hK : KT w) (hL : (Sha.sha [97, 98, 99]).map Y = L) :
    Calls Tryz.prog 30 #[.string ⟨#[97, 98, 99]⟩] w fun e w' => e = .returned (.agg L.toArray) ∧ Below w.heap.size w w' := by
  have hd : (⟨#[97, 98, 99]⟩ : ByteArray).data.toList = [97, 98, 99] := rfl
  exact digest_any ⟨#[97, 98, 99]⟩ L w (by decide) hK (by rw [hd]; exact hL)
end Go.Proofs.YtenaelkbgkpllaaGreatDoor
