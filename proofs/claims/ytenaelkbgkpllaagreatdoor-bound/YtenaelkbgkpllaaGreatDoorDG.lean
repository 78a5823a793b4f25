/- The state's numbers as 32 bytes; the state at first. -/
import Derived.Test.YtenaelkbgkpllaaGreatDoorDF
namespace Go.Proofs.YtenaelkbgkpllaaGreatDoor
open Go.RowKit

/-- the bytes of the first k numbers of a list -/
def bytesTo (l : List Nat) : Nat → List UInt8
  | 0 => []
  | k + 1 => bytesTo l k ++ Sha.four (l.getD k 0)
theorem bytesTo_length (l : List Nat) : ∀ k, (bytesTo l k).length = 4 * k
  | 0 => rfl
  | k + 1 => by simp [bytesTo, bytesTo_length l k, Sha.four]; omega
theorem join_bytes (s : Sha.St) : bytesTo (toL s) 8 = Sha.join s := by
  simp [bytesTo, toL, Sha.join]
theorem Tryz.under22 : Tryz.prog.underlying 39 = some (.array 32 5) := by kernel_rfl
theorem Tryz.info22 : (Tryz.prog.info? 39).map (·.size) = some 32 := by kernel_rfl
theorem arrayAt22 (g cap : Nat) (W : World) : (Instr.arrayAt 39 (.slice (some ⟨g, 0, none⟩) 32 cap)).run Tryz.prog W = .ok (.pointer (some ⟨g, 0, none⟩)) W := by
  simp [Instr.arrayAt, run_underlying Tryz.under22]
theorem getD_ok (s : Sha.St) (h : Sha.Ok s) : ∀ k, (toL s).getD k 0 < 4294967296 := by
  refine Sha.getD_lt ?_
  obtain ⟨a, b, c, d, e, f, g, i⟩ := h
  intro x hx
  simp only [toL, List.mem_cons, List.not_mem_nil, or_false] at hx
  rcases hx with rfl | rfl | rfl | rfl | rfl | rfl | rfl | rfl <;> assumption

set_option maxRecDepth 100000 in
set_option maxHeartbeats 400000 in
theorem join_any (a b c d e f g h : Nat) (w : World) (hs : Sha.Ok ⟨a, b, c, d, e, f, g, h⟩) :
    Calls Tryz.prog 106 #[.agg #[U a, U b, U c, U d, U e, U f, U g, U h]] w fun e' w' => e' = .returned (.agg ((Sha.join ⟨a, b, c, d, e, f, g, h⟩).map Y).toArray) ∧ Below w.heap.size w w' := by
  have HG := hide (getD_ok _ hs)
  clear hs
  have HJ := hide (join_bytes ⟨a, b, c, d, e, f, g, h⟩)
  go_enter Tryz.func106, Tryz.ntmps106
  go_wp2
  go_loopw [3, 7] (fun v i wq => ∃ k : Nat, k ≤ 8 ∧ i = .int .i64 k ∧ wq.ownsRow (w.heap.size + 2) 5 1 v (4 * k) ((bytesTo (toL ⟨a, b, c, d, e, f, g, h⟩) k).map Y) ∧ (k = 8 → v ≠ .slice none 0 0) ∧ w.heap.size + 2 ≤ wq.heap.size ∧ (∃ z : Array Value, z.size = 32 ∧ wq.heap[w.heap.size + 1]? = some (.cells z 39 (0, 0))) ∧ Below w.heap.size w wq)
    (fun _ i _ => 8 - (intOf i).toNat)
  case atStart =>
    refine ⟨0, by omega, rfl, World.ownsRow_nil _ _ _ _, by simp, by simp, ⟨_, ?_, heap_alloc2_new _ _ _⟩, ?_⟩
    · rfl
    · exact ((Below.refl _ _).alloc (Nat.le_refl _) _).alloc (by simp) _
  case round =>
    obtain ⟨k, hk, rfl, hown, hne, hz, ⟨z, hz8, hres⟩, hb⟩ := hrel
    have HO := hide hown
    have HR := hide hres
    have H8 := hide hz8
    clear hown hres hz8
    by_cases hlt : k < 8
    · have hv := idxAgg28 #[U a, U b, U c, U d, U e, U f, U g, U h] (k : Int) k _ rfl hlt (st8_at ⟨a, b, c, d, e, f, g, h⟩ k hlt)
      have hg := HG.out k
      have HB := hide (show bytesTo (toL ⟨a, b, c, d, e, f, g, h⟩) (k + 1) = bytesTo (toL ⟨a, b, c, d, e, f, g, h⟩) k ++ Sha.four ((toL ⟨a, b, c, d, e, f, g, h⟩).getD k 0) from rfl)
      clear hne
      generalize (toL ⟨a, b, c, d, e, f, g, h⟩).getD k 0 = x at *
      go_wp2_with fail
      refine (append_any _ (4 * k) ((bytesTo (toL ⟨a, b, c, d, e, f, g, h⟩) k).map Y) x _ (w.heap.size + 2) hg hz (by omega) HO.out).mono ?_
      rintro e' w' ⟨v', rfl, hown', hb', hsz', hne'⟩
      have HO' := hide hown'
      clear hown'
      go_wp2
      go_roundw
      case rel =>
        refine ⟨k + 1, hlt, by go_num, ?_, fun _ => hne', by omega, ⟨z, H8.out, (hb'.block (w.heap.size + 1) (by omega)).trans HR.out⟩, hb.trans (hb'.mono (by omega))⟩
        have := HO'.out
        rw [← List.map_append, ← HB.out] at this
        exact this
      case measure => simp [intOf]; omega
    · have e8 : k = 8 := by omega
      subst e8
      have hne := hne rfl
      have hown := HO.out
      obtain ⟨hlen, hv | ⟨gb, cap, cur, rfl, hgb, hheap, hcap, hmax, hcs, htake⟩⟩ := hown
      · exact absurd hv.1 hne
      have hrange : wr.rangeAt gb 0 ((bytesTo (toL ⟨a, b, c, d, e, f, g, h⟩) 8).map Y) := by
        intro j u hu
        rw [cell_of_row _ _ _ _ _ _ hheap, Nat.zero_add, ← Array.getElem?_toList]
        rw [← htake] at hu
        have hj : j < 4 * 8 * 1 := by
          rcases Nat.lt_or_ge j (4 * 8 * 1) with h' | h'
          · exact h'
          · rw [List.getElem?_eq_none (by rw [List.length_take]; omega)] at hu; cases hu
        rwa [List.getElem?_take_of_lt hj] at hu
      have h32 : ((bytesTo (toL ⟨a, b, c, d, e, f, g, h⟩) 8).map Y).length = 32 := by rw [List.length_map, bytesTo_length]
      have hone : ((bytesTo (toL ⟨a, b, c, d, e, f, g, h⟩) 8).map Y).toArray.all (·.oneCell') = true := by
        rw [List.all_toArray, List.all_eq_true]
        intro v hv
        obtain ⟨n, _, rfl⟩ := List.mem_map.1 hv
        rfl
      have har := arrayAt22 gb cap
      rw [HJ.out] at hrange h32 hone
      clear hne hlen hheap hcap hmax hcs htake HO HJ HG hlt hk
      generalize hLe : (Sha.join ⟨a, b, c, d, e, f, g, h⟩).map Y = L at *
      have HLe := hide hLe
      clear hLe
      have HRg := hide hrange
      have H32 := hide h32
      have H1 := hide hone
      have HI := hide (show (Tryz.prog.info? 39).map (·.size) = some L.toArray.size by rw [List.size_toArray, h32]; exact Tryz.info22)
      have HE := hide (show z.size = L.toArray.size by rw [H8.out, List.size_toArray, h32])
      clear hrange h32 hone
      go_wp2_with (first | (refine wpList_load_mid rfl 39 (.tmp 15) rfl gb 0 rfl L _ HRg.out Tryz.under22 rfl (by rw [H32.out]; exact Tryz.info22) ?_) | (refine wpList_store_row rfl 39 (.tmp 2) (.tmp 16) rfl (w.heap.size + 1) L.toArray rfl rfl 39 z HR.out HI.out HE.out H1.out ?_))
      refine bodyPost_ret (v := .agg L.toArray) ?_ rfl ⟨by rw [HLe.out], below_setRow hb (by omega) _⟩
      exact results_cell_row rfl _ _ (w.heap.size + 1) 39 L.toArray (0, 0) _ rfl (setRow_heap _ _ _ _ _ _ HR.out) Tryz.under22 rfl HI.out

set_option maxRecDepth 100000 in
set_option maxHeartbeats 400000 in
theorem start_any (w : World) :
    Calls Tryz.prog 105 #[] w fun e' w' => e' = .returned (.agg #[U 1779033703, U 3144134277, U 1013904242, U 2773480762, U 1359893119, U 2600822924, U 528734635, U 1541459225]) ∧ Below w.heap.size w w' := by
  go_enter Tryz.func105, Tryz.ntmps105
  go_wp2
  exact bodyPost_ret (v := .agg #[U 1779033703, U 3144134277, U 1013904242, U 2773480762, U 1359893119, U 2600822924, U 528734635, U 1541459225]) (results_cell_row rfl _ _ w.heap.size 64 _ (0, 0) _ rfl (heap_alloc_new w _) Tryz.under28 rfl Tryz.info28) rfl ⟨rfl, (Below.refl _ _).alloc (Nat.le_refl _) _⟩
end Go.Proofs.YtenaelkbgkpllaaGreatDoor
