/- Part 17 of what the claims on Bound, Small, Right and Sole rest on. -/
import Derived.Test.YtenaelkbgkpllaaGreatDoorKeep14
/- Which children must be shown to what is nearest. -/
namespace Go.Proofs.YtenaelkbgkpllaaGreatDoor
open Go.RowKit

theorem must_few {q : Ward.Qr} {a : List Ward.Pt} {b : Ward.Box} (h : q.kind = 1) (hl : (a.length : Int) < q.k) : Ward.must q a b = true := by
  unfold Ward.must; rw [if_neg (by omega), if_pos hl]
theorem must_last {q : Ward.Qr} {a : List Ward.Pt} {b : Ward.Box} {p : Ward.Pt} (h : q.kind = 1) (hl : ¬ (a.length : Int) < q.k) (hp : a.getLast? = some p) : Ward.must q a b = decide (Ward.dist b q.x q.y ≤ Ward.dist (Ward.boxOf p) q.x q.y) := by
  unfold Ward.must; rw [if_neg (by omega), if_neg hl, hp]; rfl
set_option maxRecDepth 100000 in
set_option maxHeartbeats 4000000 in
theorem mustShow_few (q : Ward.Qr) (ad : Option Addr) (c : Nat) (a : List Ward.Pt) (b : Ward.Box) (w : World) (hk : q.kind = 1) (hl : (a.length : Int) < q.k) :
    Calls Tryz.prog 42 #[Qv q, .slice ad a.length c, Bx b] w fun e w' => e = .returned (.bool true) ∧ Below w.heap.size w w' := by
  obtain ⟨qk, qa, qb, qc, qd, qx, qy, qn⟩ := q
  simp only at hk hl
  subst hk
  go_enter Tryz.func42, Tryz.ntmps42
  go_wp2
  go_ret
  exact ⟨rfl, ((Below.refl w.heap.size w).alloc (Nat.le_refl _) _).alloc (by simp) _⟩
/-- a query, a box and another as they lie -/
def QryTwo (w : World) (g k j : Nat) (q : Ward.Qr) (b c : Ward.Box) : Prop :=
  (w.cell? ⟨g, 5, none⟩ = some (I q.x) ∧ w.cell? ⟨g, 6, none⟩ = some (I q.y)) ∧ (w.cell? ⟨k, 0, none⟩ = some (I b.a) ∧ w.cell? ⟨k, 1, none⟩ = some (I b.b) ∧ w.cell? ⟨k, 2, none⟩ = some (I b.c) ∧ w.cell? ⟨k, 3, none⟩ = some (I b.d)) ∧ (w.cell? ⟨j, 0, none⟩ = some (I c.a) ∧ w.cell? ⟨j, 1, none⟩ = some (I c.b) ∧ w.cell? ⟨j, 2, none⟩ = some (I c.c) ∧ w.cell? ⟨j, 3, none⟩ = some (I c.d))
theorem QryTwo.below {w w' : World} {g k j B : Nat} {q : Ward.Qr} {b c : Ward.Box} (h : QryTwo w g k j q b c) (hb : Below B w w') (hg : g < B) (hk : k < B) (hj : j < B) : QryTwo w' g k j q b c :=
  ⟨⟨(hb.cell (p := ⟨g, 5, none⟩) hg).trans h.1.1, (hb.cell (p := ⟨g, 6, none⟩) hg).trans h.1.2⟩,
   ⟨(hb.cell (p := ⟨k, 0, none⟩) hk).trans h.2.1.1, (hb.cell (p := ⟨k, 1, none⟩) hk).trans h.2.1.2.1, (hb.cell (p := ⟨k, 2, none⟩) hk).trans h.2.1.2.2.1, (hb.cell (p := ⟨k, 3, none⟩) hk).trans h.2.1.2.2.2⟩,
   ⟨(hb.cell (p := ⟨j, 0, none⟩) hj).trans h.2.2.1, (hb.cell (p := ⟨j, 1, none⟩) hj).trans h.2.2.2.1, (hb.cell (p := ⟨j, 2, none⟩) hj).trans h.2.2.2.2.1, (hb.cell (p := ⟨j, 3, none⟩) hj).trans h.2.2.2.2.2⟩⟩
theorem QryTwo.drew {w : World} {g k j : Nat} {q : Ward.Qr} {b c : Ward.Box} (h : QryTwo w g k j q b c) : QryTwo w.drew g k j q b c := by simpa [QryTwo] using h
theorem boxOf_in {p : Ward.Pt} (h : p.Ok) : (Ward.boxOf p).In := ⟨h.x1, h.x2, h.y1, h.y2, h.x1, h.x2, h.y1, h.y2⟩
set_option maxRecDepth 100000 in
set_option maxHeartbeats 4000000 in
theorem mustShow_last (q : Ward.Qr) (g o c : Nat) (a : List Ward.Pt) (p : Ward.Pt) (b : Ward.Box) (w : World) (hk : q.kind = 1) (hl : ¬ (a.length : Int) < q.k) (hl0 : 0 < a.length) (hl2 : a.length ≤ 1000) (hp : PtAt w g (o + (a.length - 1) * 3) p) (hok : p.Ok) (hb : b.In) (hx : -1000000 ≤ q.x ∧ q.x ≤ 1000000) (hy : -1000000 ≤ q.y ∧ q.y ≤ 1000000) :
    Calls Tryz.prog 42 #[Qv q, .slice (some ⟨g, o, none⟩) a.length c, Bx b] w fun e w' => e = .returned (.bool (decide (Ward.dist b q.x q.y ≤ Ward.dist (Ward.boxOf p) q.x q.y))) ∧ Below w.heap.size w w' := by
  have hglt := hp.lt
  have HDB := hide (fun W => distance_any b q.x q.y W hb hx hy)
  have HDP := hide (fun W => distance_any (Ward.boxOf p) q.x q.y W (boxOf_in hok) hx hy)
  clear hok hb hx hy
  obtain ⟨qk, qa, qb, qc, qd, qx, qy, qn⟩ := q
  simp only at hk hl HDB HDP
  subst hk
  have hb2 := fun o o' => ((Below.refl w.heap.size w).alloc (Nat.le_refl _) o).alloc (by simp) o'
  have hr2 := heap_alloc2_new w
  have hr1 := heap_alloc2_old w
  have hs2 := fun o o' => show ((w.alloc o).alloc o').heap.size = w.heap.size + 2 by simp
  go_enter Tryz.func42, Tryz.ntmps42
  go_upto_region 3 with fail
  generalize hW : World.alloc (World.alloc w _) _ = w1
  have hb1 : Below w.heap.size w w1 := by rw [← hW]; exact hb2 _ _
  have hq1 : w1.heap[w.heap.size]? = some (.cells #[I 1, I qa, I qb, I qc, I qd, I qx, I qy, I qn] 46 (0, 0)) := by rw [← hW]; exact hr1 _ _
  have hx1 : w1.heap[w.heap.size + 1]? = some (.cells #[I b.a, I b.b, I b.c, I b.d] 88 (0, 0)) := by rw [← hW]; exact hr2 _ _
  have hs1 : w.heap.size + 2 ≤ w1.heap.size := by rw [← hW, hs2]; exact Nat.le_refl _
  clear hb2 hr1 hr2 hs2 hW
  have HB1 := hide hb1
  have HQ1 := hide hq1
  have HX1 := hide hx1
  obtain ⟨k0, k1, k2, k3, k4, k5, k6, k7⟩ := rowQ8 hq1
  have hp1 := hp.below hb1 hglt
  have e1 : ((a.length - 1 : Nat) : Int) = (a.length : Int) - 1 := by omega
  have HI := hide e1
  obtain ⟨p1, p2, p3⟩ := hp1
  have hl' : ¬ (a.length : Int) < qn := hl
  clear hb1 hq1 hx1 e1 hp
  have hix : ((a.length : Int) - 1).toNat = a.length - 1 := by omega
  go_wp2_with fail
  refine (boxOf_any p _).mono ?_
  rintro _ w2 ⟨rfl, hb2⟩
  have hs2 := hb2.size
  have HB2 := hide (HB1.out.trans (hb2.mono (by omega)))
  have HQ2 := hide ((hb2.block w.heap.size (by omega)).trans HQ1.out)
  have HX2 := hide ((hb2.block (w.heap.size + 1) (by omega)).trans HX1.out)
  clear hb2 k0 k1 k2 k3 k4 k5 k6 k7 p1 p2 p3
  have hr3' := heap_alloc_new w2
  have hb3' := fun o => (Below.refl w2.heap.size w2).alloc (Nat.le_refl _) o
  have hs3' := fun o => show (w2.alloc o).heap.size = w2.heap.size + 1 by simp
  go_upto_region 6 with fail
  generalize hW : World.alloc w2 _ = w3
  have hb3 : Below w2.heap.size w2 w3 := by rw [← hW]; exact hb3' _
  have hr3 : w3.heap[w2.heap.size]? = some (.cells #[I (Ward.boxOf p).a, I (Ward.boxOf p).b, I (Ward.boxOf p).c, I (Ward.boxOf p).d] 88 (0, 0)) := by rw [← hW]; exact hr3' _
  have hs3 : w2.heap.size + 1 ≤ w3.heap.size := by rw [← hW, hs3']; exact Nat.le_refl _
  clear hb3' hr3' hs3' hW
  have HB3 := hide (HB2.out.trans (hb3.mono (by omega)))
  obtain ⟨-, -, -, -, -, q5, q6, -⟩ := rowQ8 ((hb3.block w.heap.size (by omega)).trans HQ2.out)
  have hS : QryTwo w3 w.heap.size (w.heap.size + 1) w2.heap.size ⟨1, qa, qb, qc, qd, qx, qy, qn⟩ b (Ward.boxOf p) := ⟨⟨q5, q6⟩, row4 ((hb3.block (w.heap.size + 1) (by omega)).trans HX2.out), row4 hr3⟩
  have HS := hide hS
  clear hb3 hr3 q5 q6
  have HRW := hide (show decide (Ward.dist b qx qy ≤ Ward.dist (Ward.boxOf p) qx qy) = decide (Ward.dist b qx qy ≤ Ward.dist (Ward.boxOf p) qx qy) from rfl)
  generalize hbp : Ward.boxOf p = bp at *
  have HBP := hide hbp
  generalize hd1 : Ward.dist b qx qy = d1 at *
  have HD1 := hide hd1
  generalize hd2 : Ward.dist bp qx qy = d2 at *
  have HD2 := hide hd2
  clear hbp hd1 hd2 HRW
  obtain ⟨ba, bb, bc, bd⟩ := b
  obtain ⟨ca, cb, cc, cd⟩ := bp
  go_region_held3 (fun W => (W.cell? ⟨w.heap.size, 5, none⟩ = some (I qx) ∧ W.cell? ⟨w.heap.size, 6, none⟩ = some (I qy)) ∧ (W.cell? ⟨w.heap.size + 1, 0, none⟩ = some (I ba) ∧ W.cell? ⟨w.heap.size + 1, 1, none⟩ = some (I bb) ∧ W.cell? ⟨w.heap.size + 1, 2, none⟩ = some (I bc) ∧ W.cell? ⟨w.heap.size + 1, 3, none⟩ = some (I bd)) ∧ (W.cell? ⟨w2.heap.size, 0, none⟩ = some (I ca) ∧ W.cell? ⟨w2.heap.size, 1, none⟩ = some (I cb) ∧ W.cell? ⟨w2.heap.size, 2, none⟩ = some (I cc) ∧ W.cell? ⟨w2.heap.size, 3, none⟩ = some (I cd))) (first | assumption | exact hS | exact hS.drew) ((first | (go_at_call_of 80 (I ba); refine (HDB.out _).mono ?_; rintro _ w6 ⟨rfl, hb6⟩; first | (have hS6 := HS.out.drew.below hb6 (by simp; omega) (by simp; omega) (by simp; omega); have hs6 : w3.heap.size ≤ w6.heap.size := hb6.size) | (have hs6 := hb6.size; have hS6 := hS7.below hb6 (by omega) (by omega) (by omega))) | (go_at_call_of 80 (I ca); refine (HDP.out _).mono ?_; rintro _ w7 ⟨rfl, hb7⟩; first | (have hs7 := hb7.size; have hS7 := hS6.below hb7 (by omega) (by omega) (by omega)) | (have hS7 := HS.out.drew.below hb7 (by simp; omega) (by simp; omega) (by simp; omega); have hs7 : w3.heap.size ≤ w7.heap.size := hb7.size))))
  go_wp2
  go_ret
  refine ⟨by rw [HBP.out, HD1.out, HD2.out]; rfl, (HB3.out.drew.trans (hb6.mono ?_)).trans (hb7.mono ?_)⟩
  · show w.heap.size ≤ w3.heap.size
    omega
  · omega
end Go.Proofs.YtenaelkbgkpllaaGreatDoor
