/- Two lists of 32 bytes that are one are equal to the program. -/
import Derived.Test.YtenaelkbgkpllaaGreatDoorDJ
import Derived.ChangeKeysEq
namespace Go.Proofs.YtenaelkbgkpllaaGreatDoor
open Go.RowKit

theorem part5 (A : Array Value) (i : Nat) (v : Value) (h : A[i]? = some v) (w : World) : (part 5 A i).run Tryz.prog w = .ok v w := by
  simp [part, Sem.run_bind, h]
theorem eqItems_same (A : Array Value) (w : World) (hA : ∀ i, i < 32 → ∃ n : Int, A[i]? = some (.int .u8 n)) : ∀ is : List Nat, (∀ j ∈ is, j < 32) → (Op.eqItems 9999 5 1 A A is).run Tryz.prog w = .ok true w
  | [], _ => by simp [Op.eqItems]
  | j :: is, h => by
    obtain ⟨n, hn⟩ := hA j (h j (by simp))
    have ih := eqItems_same A w hA is (fun k hk => h k (by simp [hk]))
    have e : (Op.equalIn 9999 5 (.int .u8 n) (.int .u8 n)).run Tryz.prog w = .ok (n == n) w := run_equalIn_int w 9998 5 .u8 .u8 n n Tryz.underlying5
    simp [Op.eqItems, Sem.run_bind, Nat.mul_one, part5 A j _ hn, e, ih]
theorem Tryz.cells5 : Tryz.prog.cellsOf 5 = 1 := by kernel_rfl
theorem eql_same (A : Array Value) (w : World) (hA : ∀ i, i < 32 → ∃ n : Int, A[i]? = some (.int .u8 n)) :
    (Op.equalIn 10000 39 (.agg A) (.agg A)).run Tryz.prog w = .ok true w := by
  obtain ⟨i0, hi, -⟩ := info_parts Tryz.info5
  rw [run_equalIn_array w 9999 A A Tryz.under22 hi, Tryz.cells5]
  exact eqItems_same A w hA _ (fun j hj => List.mem_range.1 hj)
theorem binEql_same (A : Array Value) (w : World) (hA : ∀ i, i < 32 → ∃ n : Int, A[i]? = some (.int .u8 n)) :
    (binOp .eql 39 (.agg A) (.agg A)).run Tryz.prog w = .ok (.bool true) w := by
  rw [run_eql_struct, eql_same A w hA]; rfl
theorem bytes_at (l : List UInt8) (hl : l.length = 32) (i : Nat) (hi : i < 32) : ∃ n : Int, (l.map Y).toArray[i]? = some (.int .u8 n) :=
  ⟨(l[i]'(by omega)).toNat, by rw [List.getElem?_toArray, List.getElem?_map, List.getElem?_eq_getElem (by omega)]; rfl⟩
end Go.Proofs.YtenaelkbgkpllaaGreatDoor
