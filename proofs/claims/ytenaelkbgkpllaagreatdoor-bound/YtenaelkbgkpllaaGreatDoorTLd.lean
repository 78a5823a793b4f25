/- A whole node read where the order is drawn. -/
import Derived.Test.YtenaelkbgkpllaaGreatDoorTK
import Derived.Deep.DrawnRows
namespace Go.Proofs.YtenaelkbgkpllaaGreatDoor
open Go.RowKit

/-- the whole row that a pointer leads to -/
def loadVal (w : World) : Value → Value
  | .pointer (some ⟨g, 0, none⟩) => match w.heap[g]? with | some (.cells cs _ _) => .agg cs | _ => undef
  | _ => undef
/-- a pointer to a row of a node's cells -/
def NodeRow (w : World) (v : Value) : Prop := ∃ g cs t fr, v = .pointer (some ⟨g, 0, none⟩) ∧ w.heap[g]? = some (.cells cs t fr) ∧ cs.size = 39
theorem loadVal_row {w : World} {g t : Nat} {cs : Array Value} {fr : Nat × Nat} (h : w.heap[g]? = some (.cells cs t fr)) : loadVal w (.pointer (some ⟨g, 0, none⟩)) = .agg cs := by
  show (match w.heap[g]? with | some (.cells cs _ _) => Value.agg cs | _ => undef) = _
  rw [h]
theorem nodeRow_of {w : World} {g t : Nat} {cs : Array Value} {fr : Nat × Nat} (h : w.heap[g]? = some (.cells cs t fr)) (hs : cs.size = 39) : NodeRow w (.pointer (some ⟨g, 0, none⟩)) := ⟨g, cs, t, fr, rfl, h, hs⟩
theorem wp_load_node {d : Option Tmp} {x : Operand} {tt : TypeId} {ps : String} {af : Array Edge} {a : Act} {w : World} {K : Act → World → Prop} {Q : Exit → Act → World → Prop} (h : NodeRow w (a.eval x)) :
    Oper.wp Tryz.prog { dst := d, op := .load 90 x, type := tt, pos := ps, after := af, guard := none } a w K Q = K (a.put d (loadVal w (a.eval x))) w := by
  obtain ⟨g, cs, t, fr, hv, hg, hs⟩ := h
  obtain ⟨fs, hu⟩ := underNode
  have hr := run_loadVar_row (P := Tryz.prog) w g t 90 cs fr (.struct fs) hg hu rfl (by rw [hs]; exact Tryz.infoNode)
  rw [hv, loadVal_row hg]
  unfold Oper.wp execOp
  simp only [hv, Instr.loadAt, Instr.sureAddr, Sem.run_bind, Sem.run_pure, Result.andThen_ok, hr]
  rfl
end Go.Proofs.YtenaelkbgkpllaaGreatDoor
