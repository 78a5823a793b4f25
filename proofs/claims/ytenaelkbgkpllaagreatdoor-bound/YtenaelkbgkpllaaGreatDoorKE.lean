/- Two texts of one digest, looked for. -/
import Derived.Test.YtenaelkbgkpllaaGreatDoorKD
import Derived.Test.YtenaelkbgkpllaaGreatDoorWardB
namespace Go.Proofs.YtenaelkbgkpllaaGreatDoor
open Go.RowKit

theorem byte_at (l : List UInt8) (j : Nat) (h : j < l.length) : (l.map Y).toArray[j]? = some (.int .u8 (l.getD j 0).toNat) := by
  rw [List.getElem?_toArray, List.getElem?_map, List.getElem?_eq_getElem h, List.getD_eq_getElem?_getD, List.getElem?_eq_getElem h]
  rfl
theorem eqItems_two (d : Nat) (l m : List UInt8) (hl : l.length = 32) (hm : m.length = 32) (w : World) : ∀ is : List Nat, (∀ j ∈ is, j < 32) → (Op.eqItems (d + 1) 5 1 (l.map Y).toArray (m.map Y).toArray is).run Tryz.prog w = .ok (is.all fun j => l.getD j 0 == m.getD j 0) w
  | [], _ => by simp [Op.eqItems]
  | j :: is, h => by
    have hj := h j (by simp)
    have ih := eqItems_two d l m hl hm w is (fun k hk => h k (by simp [hk]))
    have e : ∀ a b : Nat, (Op.equalIn (d + 1) 5 (.int .u8 a) (.int .u8 b)).run Tryz.prog w = .ok ((a : Int) == (b : Int)) w := fun a b => run_equalIn_int w d 5 .u8 .u8 a b Tryz.underlying5
    have hp : ∀ (A : Array Value) (v : Value), A[j]? = some v → (part 5 A j).run Tryz.prog w = .ok v w := fun A v h => by simp [part, Sem.run_bind, h]
    have hb : (((l.getD j 0).toNat : Int) == ((m.getD j 0).toNat : Int)) = (l.getD j 0 == m.getD j 0) := by
      rw [Bool.eq_iff_iff, beq_iff_eq, beq_iff_eq, ← UInt8.toNat_inj]
      omega
    simp only [Op.eqItems, Sem.run_bind, Nat.mul_one, hp _ _ (byte_at l j (by omega)), hp _ _ (byte_at m j (by omega)), Result.andThen_ok, e, hb, List.all_cons]
    cases l.getD j 0 == m.getD j 0
    · simp
    · simp [ih]
theorem all_eq {l m : List UInt8} (hl : l.length = 32) (hm : m.length = 32) : ((List.range 32).all fun j => l.getD j 0 == m.getD j 0) = decide (l = m) := by
  rw [Bool.eq_iff_iff, List.all_eq_true, decide_eq_true_eq]
  refine ⟨fun h => ?_, fun h => by subst h; simp⟩
  refine List.ext_getElem (by omega) fun i h1 h2 => ?_
  have := h i (List.mem_range.2 (by omega))
  rw [beq_iff_eq, List.getD_eq_getElem?_getD, List.getD_eq_getElem?_getD, List.getElem?_eq_getElem h1, List.getElem?_eq_getElem h2] at this
  exact this
theorem eqArrD (d : Nat) (l m : List UInt8) (hl : l.length = 32) (hm : m.length = 32) (w : World) :
    (Op.equalIn (d + 2) 39 (.agg (l.map Y).toArray) (.agg (m.map Y).toArray)).run Tryz.prog w = .ok (decide (l = m)) w := by
  obtain ⟨i0, hi, -⟩ := info_parts Tryz.info5
  rw [run_equalIn_array w (d + 1) _ _ Tryz.under22 hi, Tryz.cells5, ← all_eq hl hm]
  exact eqItems_two d l m hl hm w _ (fun j hj => List.mem_range.1 hj)
theorem eqArr (l m : List UInt8) (hl : l.length = 32) (hm : m.length = 32) (w : World) :
    (Op.equalIn 10000 39 (.agg (l.map Y).toArray) (.agg (m.map Y).toArray)).run Tryz.prog w = .ok (decide (l = m)) w := eqArrD 9998 l m hl hm w
theorem binArr (l m : List UInt8) (hl : l.length = 32) (hm : m.length = 32) (w : World) :
    (binOp .eql 39 (.agg (l.map Y).toArray) (.agg (m.map Y).toArray)).run Tryz.prog w = .ok (.bool (decide (l = m))) w := by
  rw [run_eql_struct, eqArr l m hl hm w]; rfl
end Go.Proofs.YtenaelkbgkpllaaGreatDoor
