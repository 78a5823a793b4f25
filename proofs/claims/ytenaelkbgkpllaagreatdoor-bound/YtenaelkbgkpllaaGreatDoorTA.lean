/- Boxes. -/
import Derived.Test.YtenaelkbgkpllaaGreatDoorPG
namespace Go.Proofs.YtenaelkbgkpllaaGreatDoor
open Go.RowKit

/-- a box as a value -/
abbrev Bx (b : Ward.Box) : Value := .agg #[I b.a, I b.b, I b.c, I b.d]
theorem Tryz.infoBox : (Tryz.prog.info? 88).map (·.size) = some 4 := by kernel_rfl
theorem heap_alloc3_new (w : World) (a b c : Obj) : (((w.alloc a).alloc b).alloc c).heap[w.heap.size + 1 + 1]? = some c := by
  have e : ((w.alloc a).alloc b).heap.size = w.heap.size + 1 + 1 := by simp
  rw [← e]
  exact heap_alloc_new _ _
set_option maxHeartbeats 400000 in
theorem boxOf_any (p : Ward.Pt) (w : World) :
    Calls Tryz.prog 79 #[.agg #[I p.id, I p.x, I p.y]] w fun e w' => e = .returned (Bx (Ward.boxOf p)) ∧ Below w.heap.size w w' := by
  go_enter Tryz.func79, Tryz.ntmps79
  go_wp2
  refine bodyPost_ret (v := Bx (Ward.boxOf p)) ?_ rfl ⟨rfl, ((Below.refl w.heap.size w).alloc (Nat.le_refl _) _).alloc (by simp) _⟩
  exact results_cell_row rfl _ _ (w.heap.size + 1) 88 _ (0, 0) _ rfl (heap_alloc2_new w _ _) Tryz.underlying88 rfl Tryz.infoBox
set_option maxHeartbeats 1000000 in
theorem join_any2 (p q : Ward.Box) (w : World) :
    Calls Tryz.prog 110 #[Bx p, Bx q] w fun e w' => e = .returned (Bx (Ward.join p q)) ∧ Below w.heap.size w w' := by
  obtain ⟨pa, pb, pc, pd⟩ := p
  obtain ⟨qa, qb, qc, qd⟩ := q
  go_enter Tryz.func110, Tryz.ntmps110
  go_wp2
  refine bodyPost_ret (v := .agg #[I (min pa qa), I (min pb qb), I (max pc qc), I (max pd qd)]) ?_ rfl ⟨rfl, (((Below.refl w.heap.size w).alloc (Nat.le_refl _) _).alloc (by simp) _).alloc (by simp; omega) _⟩
  exact results_cell_row rfl _ _ (w.heap.size + 1 + 1) 88 #[I (min pa qa), I (min pb qb), I (max pc qc), I (max pd qd)] (0, 0) _ rfl (heap_alloc3_new w _ _ _) Tryz.underlying88 rfl Tryz.infoBox
end Go.Proofs.YtenaelkbgkpllaaGreatDoor
