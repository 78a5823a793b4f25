/- Points sorted. -/
import Derived.Test.YtenaelkbgkpllaaGreatDoorSLay
import Derived.Test.YtenaelkbgkpllaaGreatDoorTR
import Derived.Test.YtenaelkbgkpllaaGreatDoorWardK
namespace Go.Proofs.YtenaelkbgkpllaaGreatDoor
open Go.RowKit

instance : Inhabited Ward.Pt := ⟨⟨0, 0, 0⟩⟩
set_option maxHeartbeats 1000000 in
/-- how two points compare, with all that it lays -/
theorem compare_grow (p q : Ward.Pt) (w : World) :
    Calls Tryz.prog 35 #[.agg #[I p.id, I p.x, I p.y], .agg #[I q.id, I q.x, I q.y]] w fun e w' => e = .returned (I (cmpP p q)) ∧ ∃ n os, w' = Go.Sort.grow (w.drewN n) os := by
  obtain ⟨pi, px, py⟩ := p
  obtain ⟨qi, qx, qy⟩ := q
  have HE := hide (show cmpP ⟨pi, px, py⟩ ⟨qi, qx, qy⟩ = orI (cmpI px qx) (cmpI py qy) (cmpI pi qi) from rfl)
  go_enter Tryz.func35, Tryz.ntmps35
  go_wp2_with fail
  have hz1 := heap_alloc2_old w
  have hz2 := heap_alloc2_new w
  have hgr := fun o o' o'' => show (((w.alloc o).alloc o').alloc o'').drew = Go.Sort.grow (w.drewN 1) #[o, o', o''] by
    rw [Go.Sort.alloc_eq_grow, Go.Sort.alloc_eq_grow, Go.Sort.alloc_eq_grow, Go.Sort.grow_grow, Go.Sort.grow_grow]
    rfl
  generalize hW : World.alloc _ _ = w0
  have r1 : w0.heap[w.heap.size]? = some (.cells #[I pi, I px, I py] 36 (0, 0)) := by rw [← hW]; exact hz1 _ _
  have r2 : w0.heap[w.heap.size + 1]? = some (.cells #[I qi, I qx, I qy] 36 (0, 0)) := by rw [← hW]; exact hz2 _ _
  have hz0 : w0.heap.size = w.heap.size + 2 := by rw [← hW]; simp
  have HG := hide (show ∀ o, ∃ os, (w0.alloc o).drew = Go.Sort.grow (w.drewN 1) os from fun o => ⟨_, by rw [← hW]; exact hgr _ _ o⟩)
  clear hz1 hz2 hgr hW
  obtain ⟨c1, c2, c3⟩ := row3 r1
  obtain ⟨d1, d2, d3⟩ := row3 r2
  have hS : Two w.heap.size (w.heap.size + 1) ⟨pi, px, py⟩ ⟨qi, qx, qy⟩ w0 := ⟨⟨c1, c2, c3⟩, d1, d2, d3⟩
  have HZ := hide hz0
  have HN := hide (show ∀ o, ((w0.alloc o).drew).heap[w0.heap.size]? = some o from fun o => heap_alloc_new w0 o)
  clear r1 r2 c1 c2 c3 d1 d2 d3 hz0
  go_region_held3 (fun W => (W.cell? ⟨w.heap.size, 0, none⟩ = some (I pi) ∧ W.cell? ⟨w.heap.size, 1, none⟩ = some (I px) ∧ W.cell? ⟨w.heap.size, 2, none⟩ = some (I py)) ∧ W.cell? ⟨w.heap.size + 1, 0, none⟩ = some (I qi) ∧ W.cell? ⟨w.heap.size + 1, 1, none⟩ = some (I qx) ∧ W.cell? ⟨w.heap.size + 1, 2, none⟩ = some (I qy)) (first | assumption | exact hS | exact Two.below hS (((Below.refl _ _).alloc (Nat.le_refl _) _).drew) (by have := HZ.out; omega) (by have := HZ.out; omega)) (first | (go_at_call 67; refine (cmpInt_any _ _ _).mono ?_; rintro _ _ ⟨rfl, rfl⟩) | (go_at_call 66; refine (or_any _ (cmpI px qx) (cmpI py qy) (cmpI pi qi) _ (row3 (HN.out _)).1 (row3 (HN.out _)).2.1 (row3 (HN.out _)).2.2).mono ?_; rintro _ _ ⟨rfl, rfl⟩))
  go_wp2
  go_ret
  obtain ⟨os, hos⟩ := HG.out (.cells #[I (cmpI px qx), I (cmpI py qy), I (cmpI pi qi)] 3)
  exact ⟨by rw [HE.out]; rfl, 1, os, hos⟩
theorem ltP (p q : Ward.Pt) : ltOf cmpP p q = decide (Ward.lt p q) := by
  unfold ltOf
  rw [Bool.eq_iff_iff, decide_eq_true_eq, decide_eq_true_eq]
  exact cmpP_lt p q
theorem swoP : Go.Sort.SWO (ltOf cmpP) := by
  refine ⟨fun x => ?_, fun x y z h1 h2 => ?_, fun x y z h1 h2 => ?_⟩
  · rw [ltP]; exact decide_eq_false (Ward.lt_irrefl x)
  · rw [ltP, decide_eq_true_eq] at *
    exact Ward.lt_trans h1 h2
  · rw [ltP, decide_eq_false_iff_not] at *
    unfold Ward.lt at *
    omega
theorem flatK_get (L : List Ward.Pt) : ∀ t, t < L.length * 3 → (L.flatMap P3)[t]? = some ((P3 (L.toArray[t / 3]!))[t % 3]!) := by
  intro t ht
  have hi : t / 3 < L.length := by omega
  obtain ⟨h0, h1, h2⟩ := P3_at L (t / 3) hi
  have e : L.toArray[t / 3]! = L[t / 3] := by
    rw [getElem!_pos L.toArray (t / 3) (by simpa using hi)]
    exact List.getElem_toArray _
  rw [e]
  have hm : t = t / 3 * 3 + t % 3 := by omega
  have hlt : t % 3 < 3 := Nat.mod_lt _ (by decide)
  rcases (show t % 3 = 0 ∨ t % 3 = 1 ∨ t % 3 = 2 by omega) with h | h | h
  · rw [h]; rw [h, Nat.add_zero] at hm; exact (congrArg (fun k => (L.flatMap P3)[k]?) hm).trans h0
  · rw [h]; rw [h] at hm; exact (congrArg (fun k => (L.flatMap P3)[k]?) hm).trans h1
  · rw [h]; rw [h] at hm; exact (congrArg (fun k => (L.flatMap P3)[k]?) hm).trans h2
theorem flatK_eq (L : List Ward.Pt) : Go.Sort.flatK P3 3 L.toArray = (L.flatMap P3).toArray := by
  have hs : (Go.Sort.flatK P3 3 L.toArray).size = (L.flatMap P3).toArray.size := by rw [Go.Sort.size_flatK, List.size_toArray, List.size_toArray, cells_len]
  refine Array.ext hs fun t h1 h2 => ?_
  have ht : t < L.length * 3 := by rw [Go.Sort.size_flatK, List.size_toArray] at h1; exact h1
  have hg := Go.Sort.get_flatK P3 3 L.toArray t (by rw [List.size_toArray]; exact ht)
  rw [getElem!_pos _ t h1] at hg
  rw [hg, List.getElem_toArray]
  have h := flatK_get L t ht
  rw [List.getElem?_eq_getElem (by rw [cells_len]; exact ht)] at h
  injection h with h
  exact h.symm
theorem own_holds {w : World} {B g c : Nat} {L : List Ward.Pt} (h : Own w B (.slice (some ⟨g, 0, none⟩) L.length c) L) : Go.Sort.HoldsK P3 3 w g 0 L.toArray := by
  unfold Go.Sort.HoldsK
  rw [flatK_eq]
  rcases h.2 with ⟨e, _⟩ | ⟨g', cap, cur, e, hB, hg, hcap, hmax, hcs, htake⟩
  · cases e
  · injection e with e1 e2 e3
    injection e1 with e1
    injection e1 with e1
    subst e1
    intro j hj
    rw [List.size_toArray] at hj
    refine ⟨?_, frozen_of_row _ _ _ _ _ hg⟩
    rw [cell_of_row _ _ _ _ _ _ hg, Nat.zero_add]
    have hj' : j < L.length * 3 := by rw [cells_len] at hj; exact hj
    have ht : (cur.toList.take (L.length * 3))[j]? = (L.flatMap P3)[j]? := by rw [htake]
    rw [List.getElem?_take, if_pos hj'] at ht
    rw [← Array.getElem?_toList, ht, List.getElem?_eq_getElem hj, getElem!_pos _ j (by simpa using hj)]
    simp
end Go.Proofs.YtenaelkbgkpllaaGreatDoor
