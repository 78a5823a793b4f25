/- The answer to a window. -/
import Derived.Test.YtenaelkbgkpllaaGreatDoorTSB
import Derived.Test.YtenaelkbgkpllaaGreatDoorTT
import Derived.Test.YtenaelkbgkpllaaGreatDoorTLd
namespace Go.Proofs.YtenaelkbgkpllaaGreatDoor
open Go.RowKit

attribute [local go_sem ↓] Go.wp_at_zero Go.wp_at_succ wp_load_node
set_option maxRecDepth 100000 in
set_option maxHeartbeats 4000000 in
theorem answer_window (q : Ward.Qr) (n : Nat) (t : Ward.NT n) (V : List Value) (w : World) (hk : q.kind = 0) (hlen : (Ward.allN n t).length ≤ 1000) (hfew : Ward.Few n t) (hN : NodeIs w (fun g => g < w.heap.size) n t V) (hids : Ward.Ids (Ward.withinN (Ward.window q) n t)) :
    Calls Tryz.prog 40 #[.agg V.toArray, Qv q] w fun e w' => ∃ v, e = .returned v ∧ Own w' w.heap.size v (Ward.sortP (Ward.withinN (Ward.window q) n t)) ∧ Below w.heap.size w w' := by
  have HWI := hide (fun W => windowOf_any q W)
  have HWL := hide (Ward.within_le (Ward.window q) n t)
  generalize Ward.window q = wq at *
  obtain ⟨fs, hu⟩ := underNode
  have HU := hide hu
  obtain ⟨a1, l1, c1, a2, l2, c2, hV, hd⟩ := hN.cells
  have HR := hide (show Row39 V by rw [hV]; exact nodeV_row hd)
  have HN := hide hN
  have HF := hide hfew
  have HI := hide hids
  clear hu hV hd hN hfew hids
  obtain ⟨qk, qa, qb, qc, qd, qx, qy, qn⟩ := q
  simp only at hk
  subst hk
  have hb2 := fun o o' => ((Below.refl w.heap.size w).alloc (Nat.le_refl _) o).alloc (by simp) o'
  have hr2 := heap_alloc2_new w
  have hr1 := heap_alloc2_old w
  have hs2 := fun o o' => show ((w.alloc o).alloc o').heap.size = w.heap.size + 2 by simp
  go_enter Tryz.func40, Tryz.ntmps40
  go_upto_region 3 with fail
  generalize hW : World.alloc (World.alloc w _) _ = w1
  have hb1 : Below w.heap.size w w1 := by rw [← hW]; exact hb2 _ _
  have hn1 : w1.heap[w.heap.size]? = some (.cells V.toArray 90 (0, 0)) := by rw [← hW]; exact hr1 _ _
  have hq1 : w1.heap[w.heap.size + 1]? = some (.cells #[I 0, I qa, I qb, I qc, I qd, I qx, I qy, I qn] 46 (0, 0)) := by rw [← hW]; exact hr2 _ _
  have hs1 : w.heap.size + 2 ≤ w1.heap.size := by rw [← hW, hs2]; exact Nat.le_refl _
  clear hb2 hr1 hr2 hs2 hW
  have HB1 := hide hb1
  have HN1 := hide hn1
  obtain ⟨k0, k1, k2, k3, k4, k5, k6, k7⟩ := rowQ8 hq1
  clear hb1 hn1 hq1
  have HAW := hide (fun (W : World) (hb : Below w.heap.size w W) => appendWithin_any n t (.slice none 0 0) [] V wq W w.heap.size (fun g => g < w.heap.size) (fun _ h => h) hb.size (by simpa using hlen) HF.out (NodeIs.keep (below_same hb (fun _ h => h)) (fun _ h => h) n t V HN.out) (World.ownsRow_nil _ _ _ _))
  have hnr1 : NodeRow w1.drew (.pointer (some ⟨w.heap.size, 0, none⟩)) := nodeRow_of (w := w1.drew) HN1.out HR.out.size
  have hlv1 : loadVal w1.drew (.pointer (some ⟨w.heap.size, 0, none⟩)) = .agg V.toArray := loadVal_row (w := w1.drew) HN1.out
  go_region_with (first | (go_at_call 73; go_must (refine (HWI.out w1.drew).mono ?_; rintro _ w6 ⟨rfl, hb6⟩; have hs6 := hb6.size; have HN6 := hide ((hb6.block w.heap.size (by simp; omega)).trans (show w1.drew.heap[w.heap.size]? = _ from HN1.out)); have hnr6 := nodeRow_of HN6.out HR.out.size; have hlv6 := loadVal_row HN6.out; have HB6 := hide hb6; have HBW := hide (show Below w.heap.size w w6 from HB1.out.drew.trans (hb6.mono (by simp; omega))); clear hb6)) | (go_at_call 76; go_must (refine (HAW.out w6 HBW.out).mono ?_; rintro _ w7 ⟨v7, rfl, ho7, hg7, hf7⟩; have HO7 := hide ho7; have HG7 := hide hg7; clear ho7 hg7 hf7)))
  all_goals
    rw [List.nil_append] at HO7
    have HSO := hide (sort_any v7 _ w7 w.heap.size HO7.out (by have := HWL.out; omega) HI.out)
    go_wp2_with fail
    refine HSO.out.mono ?_
    rintro _ w8 ⟨rfl, ho8, hg8⟩
    have HO8 := hide ho8
    have HB8 := hide (show Below w.heap.size w w8 from (HBW.out.trans ⟨HG7.out.os, HG7.out.tape, HG7.out.output, HG7.out.size, fun j hj => HG7.out.block j (Nat.lt_of_lt_of_le hj HBW.out.size) (by simp [Value.ownBlock])⟩).trans ⟨hg8.os, hg8.tape, hg8.output, hg8.size, fun j hj => hg8.block j (Nat.lt_of_lt_of_le hj (Nat.le_trans HBW.out.size HG7.out.size)) (fun e => by have := HO7.out.ge e.symm; omega)⟩)
    clear ho8 hg8 HSO
    go_wp2
    go_ret
    exact ⟨_, rfl, HO8.out, HB8.out⟩
end Go.Proofs.YtenaelkbgkpllaaGreatDoor
