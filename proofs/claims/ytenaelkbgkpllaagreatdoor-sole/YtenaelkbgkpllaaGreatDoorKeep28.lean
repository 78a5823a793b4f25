/- Part 28 of what the claims on Bound, Small, Right and Sole rest on. -/
import Derived.Test.YtenaelkbgkpllaaGreatDoorKeep19
/- A map's Answer. -/
namespace Go.Proofs.YtenaelkbgkpllaaGreatDoor
open Go.RowKit

/-- what Answer reads: the map's header, the query -/
def MapQry (W : World) (m g : Nat) (v : Value) (q : Ward.Qr) : Prop := W.cell? ⟨m, 0, none⟩ = some v ∧ W.cell? ⟨g, 0, none⟩ = some (I q.kind) ∧ W.cell? ⟨g, 1, none⟩ = some (I q.a) ∧ W.cell? ⟨g, 2, none⟩ = some (I q.b) ∧ W.cell? ⟨g, 3, none⟩ = some (I q.c) ∧ W.cell? ⟨g, 4, none⟩ = some (I q.d) ∧ W.cell? ⟨g, 5, none⟩ = some (I q.x) ∧ W.cell? ⟨g, 6, none⟩ = some (I q.y) ∧ W.cell? ⟨g, 7, none⟩ = some (I q.k)
theorem MapQry.below {w w' : World} {m g B : Nat} {v : Value} {q : Ward.Qr} (h : MapQry w m g v q) (hb : Below B w w') (hm : m < B) (hg : g < B) : MapQry w' m g v q := by
  obtain ⟨h0, k0, k1, k2, k3, k4, k5, k6, k7⟩ := h
  have hc := fun o => hb.cell (p := ⟨g, o, none⟩) hg
  exact ⟨(hb.cell (p := ⟨m, 0, none⟩) hm).trans h0, (hc 0).trans k0, (hc 1).trans k1, (hc 2).trans k2, (hc 3).trans k3, (hc 4).trans k4, (hc 5).trans k5, (hc 6).trans k6, (hc 7).trans k7⟩
theorem MapQry.drew {w : World} {m g : Nat} {v : Value} {q : Ward.Qr} (h : MapQry w m g v q) : MapQry w.drew m g v q := by simpa [MapQry] using h
set_option maxRecDepth 100000 in
set_option maxHeartbeats 4000000 in
theorem map_answer {q : Ward.Qr} (m : Nat) (v : Value) (L : List Ward.Pt) (w : World) (hq : Ward.mayBe q = true) (hm : IsMap w m v L) (hG : Good L) (hKT : KT w) :
    Calls Tryz.prog 21 #[.pointer (some ⟨m, 0, none⟩), Qv q] w fun e w' => ∃ va, e = .returned (.tuple #[va, I 0]) ∧ Own w' w.heap.size va (Ward.ans q L) ∧ Below w.heap.size w w' := by
  have hmlt := hm.lt
  have HM := hide hm
  have HMB := hide (fun W => mayBe_any q W)
  rw [hq] at HMB
  have HBM := hide (fun (W : World) (hb : Below w.heap.size w W) => build_map m v L W (hm.below hb) hG (hKT.below hb))
  have HAN := hide (fun (W : World) (V : List Value) (hb : Below w.heap.size w W) hN => (asks_any hq hG).answer W V (hKT.below hb) hN)
  have hr0' := heap_alloc_new w
  have hb0' := fun o => (Below.refl w.heap.size w).alloc (Nat.le_refl _) o
  have hs0' := fun o => show (w.alloc o).heap.size = w.heap.size + 1 by simp
  obtain ⟨av, cv, ev⟩ := hm.slice
  subst ev
  clear hm hKT hG
  obtain ⟨qk, qa, qb, qc, qd, qx, qy, qn⟩ := q
  go_enter Tryz.func21, Tryz.ntmps21
  go_upto_region 1 with fail
  generalize hW : World.alloc w _ = w0
  have hb0 : Below w.heap.size w w0 := by rw [← hW]; exact hb0' _
  have hr0 : w0.heap[w.heap.size]? = some (.cells #[I qk, I qa, I qb, I qc, I qd, I qx, I qy, I qn] 46 (0, 0)) := by rw [← hW]; exact hr0' _
  have hs0 : w.heap.size + 1 ≤ w0.heap.size := by rw [← hW, hs0']; exact Nat.le_refl _
  clear hb0' hr0' hs0' hW
  obtain ⟨k0, k1, k2, k3, k4, k5, k6, k7⟩ := rowQ8 hr0
  have HQ0 := hide (show MapQry w0 m w.heap.size _ ⟨qk, qa, qb, qc, qd, qx, qy, qn⟩ from ⟨(HM.out.below hb0).cell, rowQ8 hr0⟩)
  have HB0 := hide hb0
  clear hr0 hb0
  go_wp2_with fail
  refine (HMB.out w0).mono ?_
  rintro _ w1 ⟨rfl, hb1⟩
  have hs1 := hb1.size
  have HB1 := hide (HB0.out.trans (hb1.mono (by omega)))
  have hQ1 := HQ0.out.below hb1 (by omega) (by omega)
  have HQ1 := hide hQ1
  clear hb1 k0 k1 k2 k3 k4 k5 k6 k7
  go_upto_region 3 with fail
  go_region_held3 (fun W => W.cell? ⟨m, 0, none⟩ = some (.slice av L.length cv) ∧ W.cell? ⟨w.heap.size, 0, none⟩ = some (I qk) ∧ W.cell? ⟨w.heap.size, 1, none⟩ = some (I qa) ∧ W.cell? ⟨w.heap.size, 2, none⟩ = some (I qb) ∧ W.cell? ⟨w.heap.size, 3, none⟩ = some (I qc) ∧ W.cell? ⟨w.heap.size, 4, none⟩ = some (I qd) ∧ W.cell? ⟨w.heap.size, 5, none⟩ = some (I qx) ∧ W.cell? ⟨w.heap.size, 6, none⟩ = some (I qy) ∧ W.cell? ⟨w.heap.size, 7, none⟩ = some (I qn)) (first | assumption | exact HQ1.out | exact HQ1.out.drew) ((first | (go_at_call 38; refine (HBM.out _ HB1.out.drew).mono ?_; rintro _ w2 ⟨V, rfl, hn2, hb2⟩; have hs2 : w1.heap.size ≤ w2.heap.size := hb2.size; have hQ2 := HQ1.out.drew.below hb2 (by simp; omega) (by simp; omega); have HB2 := hide (show Below w.heap.size w w2 from HB1.out.drew.trans (hb2.mono (by simp; omega)))) | (go_at_call 40; refine (HAN.out _ V HB2.out hn2).mono ?_; rintro _ w3 ⟨va, rfl, ho3, hb3⟩; have hQ3 := hQ2.below hb3 (by omega) (by omega))))
  all_goals
    have HO3 := hide (own_mono (B' := w.heap.size) ho3 (by omega))
    have HB3 := hide (HB2.out.trans (hb3.mono (by omega)))
    clear ho3 hb3 hn2 hQ1 hQ2 hQ3
    go_wp2
    go_ret2
    exact ⟨_, rfl, HO3.out, HB3.out⟩
end Go.Proofs.YtenaelkbgkpllaaGreatDoor
