/- A leaf made of points. -/
import Derived.Test.YtenaelkbgkpllaaGreatDoorTF
import Derived.Test.YtenaelkbgkpllaaGreatDoorTA
import Derived.Test.YtenaelkbgkpllaaGreatDoorDI
import Derived.Deep.MidRow
namespace Go.Proofs.YtenaelkbgkpllaaGreatDoor
open Go.RowKit

/-- a node's cells -/
def nodeV (vp vc : Value) (b : Ward.Box) (n : Int) (t : List Value) : List Value := vp :: vc :: I b.a :: I b.b :: I b.c :: I b.d :: I n :: t
theorem Tryz.infoNode : (Tryz.prog.info? 90).map (·.size) = some 39 := by kernel_rfl
theorem node_cells {w : World} {g : Nat} {vp vc : Value} {b : Ward.Box} {n : Int} {t : List Value} {ty : Nat} (h : w.heap[g]? = some (.cells (nodeV vp vc b n t).toArray ty (0, 0))) :
    (w.cell? ⟨g, 0, none⟩ = some vp ∧ w.cell? ⟨g, 1, none⟩ = some vc) ∧ (w.cell? ⟨g, 2, none⟩ = some (I b.a) ∧ w.cell? ⟨g, 3, none⟩ = some (I b.b) ∧ w.cell? ⟨g, 4, none⟩ = some (I b.c) ∧ w.cell? ⟨g, 5, none⟩ = some (I b.d)) ∧ w.cell? ⟨g, 6, none⟩ = some (I n) := by
  refine ⟨⟨?_, ?_⟩, ⟨?_, ?_, ?_, ?_⟩, ?_⟩ <;> rw [cell_of_row _ _ _ _ _ _ h] <;> rfl
theorem node_box {w : World} {g : Nat} {vp vc : Value} {b : Ward.Box} {n : Int} {t : List Value} {ty : Nat} (c : Ward.Box) (h : w.heap[g]? = some (.cells (nodeV vp vc b n t).toArray ty (0, 0))) :
    ((((w.setCell ⟨g, 2, none⟩ (I c.a)).setCell ⟨g, 3, none⟩ (I c.b)).setCell ⟨g, 4, none⟩ (I c.c)).setCell ⟨g, 5, none⟩ (I c.d)).heap[g]? = some (.cells (nodeV vp vc c n t).toArray ty (0, 0)) := by
  have h1 := heap_setCell_same w g 2 _ ty (I c.a) h
  rw [List.setIfInBounds_toArray] at h1
  have h2 := heap_setCell_same _ g 3 _ ty (I c.b) h1
  rw [List.setIfInBounds_toArray] at h2
  have h3 := heap_setCell_same _ g 4 _ ty (I c.c) h2
  rw [List.setIfInBounds_toArray] at h3
  have h4 := heap_setCell_same _ g 5 _ ty (I c.d) h3
  rw [List.setIfInBounds_toArray] at h4
  exact h4
/-- several cells of a row set -/
theorem setCells_row {g ty : Nat} : ∀ (vs : List Value) (o : Nat) (cur : List Value) (w : World), w.heap[g]? = some (.cells cur.toArray ty (0, 0)) → o + vs.length ≤ cur.length → (w.setCells g o vs).heap[g]? = some (.cells (over cur o vs).toArray ty (0, 0))
  | [], o, cur, w, h, _ => by simpa [World.setCells, over] using h
  | v :: vs, o, cur, w, h, hl => by
    have h1 := heap_setCell_same w g o _ ty v h
    rw [List.setIfInBounds_toArray] at h1
    have ih := setCells_row vs (o + 1) (cur.set o v) (w.setCell ⟨g, o, none⟩ v) h1 (by simp at hl ⊢; omega)
    have e : over (cur.set o v) (o + 1) vs = over cur o (v :: vs) := by
      have := list_seg_step cur o v vs (by simp at hl; omega)
      simpa [over, Nat.add_assoc, Nat.add_comm, Nat.add_left_comm] using this
    rw [e] at ih
    exact ih
theorem node_digest {w : World} {g : Nat} {vp vc : Value} {b : Ward.Box} {n : Int} {t d : List Value} {ty : Nat} (ht : t.length = 32) (hd : d.length = 32) (h : w.heap[g]? = some (.cells (nodeV vp vc b n t).toArray ty (0, 0))) :
    (w.setCells g 7 d).heap[g]? = some (.cells (nodeV vp vc b n d).toArray ty (0, 0)) := by
  rw [setCells_row d 7 (nodeV vp vc b n t) w h (by simp [nodeV, ht, hd])]
  have : over (nodeV vp vc b n t) 7 d = nodeV vp vc b n d := by
    simp [over, nodeV, hd, ht, List.drop_eq_nil_of_le]
  rw [this]
end Go.Proofs.YtenaelkbgkpllaaGreatDoor
