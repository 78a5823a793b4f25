/- The call Digest. -/
import Derived.Test.YtenaelkbgkpllaaGreatDoorDI
namespace Go.Proofs.YtenaelkbgkpllaaGreatDoor
open Go.RowKit

theorem sha_length (l : List UInt8) : (Sha.sha l).length = 32 := rfl
set_option maxRecDepth 100000 in
set_option maxHeartbeats 400000 in
theorem digest_any (s : ByteArray) (L : List Value) (w : World) (hs : s.size ≤ 140737488355327) (hK : KT w) (hL : (Sha.sha s.data.toList).map Y = L) :
    Calls Tryz.prog 30 #[.string s] w fun e w' => e = .returned (.agg L.toArray) ∧ Below w.heap.size w w' := by
  have h32 : L.length = 32 := by rw [← hL, List.length_map]; rfl
  have hL1 : L.toArray.all (·.oneCell') = true := by
    rw [List.all_toArray, List.all_eq_true]
    intro v hv
    rw [← hL] at hv
    obtain ⟨n, _, rfl⟩ := List.mem_map.1 hv
    rfl
  have HL := hide hL
  have HI := hide (show (Tryz.prog.info? 39).map (·.size) = some L.toArray.size by rw [List.size_toArray, h32]; exact Tryz.info22)
  have HK := hide hK
  clear hL hK
  go_enter Tryz.func30, Tryz.ntmps30
  go_wp2_with fail
  have hz1 := heap_alloc_new w
  have hbb := fun o => (Below.refl w.heap.size w).alloc (Nat.le_refl _) o
  generalize hW : w.alloc _ = w0
  obtain ⟨z, hz32, hrow⟩ : ∃ z : Array Value, z.size = 32 ∧ w0.heap[w.heap.size]? = some (.cells z 39 (0, 0)) := by
    rw [← hW]; exact ⟨_, rfl, hz1 _⟩
  have hb0 : Below w.heap.size w w0 := by rw [← hW]; exact hbb _
  have hz0 : w.heap.size < w0.heap.size := by rw [← hW]; simp
  clear hW hz1 hbb
  refine (of_any s _ hs (HK.out.below hb0)).mono ?_
  rintro e w1 ⟨rfl, hb1⟩
  rw [HL.out]
  have HR := hide ((hb1.block w.heap.size hz0).trans hrow)
  have HE := hide (show z.size = L.toArray.size by rw [hz32, List.size_toArray, h32])
  have hb : Below w.heap.size w w1 := hb0.trans (hb1.mono (Nat.le_of_lt hz0))
  clear hrow hz32 hb1 hb0 h32
  go_wp2_with (refine wpList_store_row rfl 39 (.tmp 2) (.tmp 4) rfl w.heap.size L.toArray rfl rfl 39 z HR.out HI.out HE.out hL1 ?_)
  refine bodyPost_ret (v := .agg L.toArray) ?_ rfl ⟨rfl, below_setRow hb (Nat.le_refl _) _⟩
  exact results_cell_row rfl _ _ w.heap.size 39 L.toArray (0, 0) _ rfl (setRow_heap _ _ _ _ _ _ HR.out) Tryz.under22 rfl HI.out
end Go.Proofs.YtenaelkbgkpllaaGreatDoor
