/- How far a box is; which children must be shown. -/
import Derived.Test.YtenaelkbgkpllaaGreatDoorTR
namespace Go.Proofs.YtenaelkbgkpllaaGreatDoor
open Go.RowKit

theorem gap_le {lo hi x : Int} (h1 : -1000000 ≤ lo) (h2 : lo ≤ 1000000) (h3 : -1000000 ≤ hi) (h4 : hi ≤ 1000000) (h5 : -1000000 ≤ x) (h6 : x ≤ 1000000) : Ward.gap lo hi x ≤ 2000000 := by
  unfold Ward.gap; omega
theorem sq_le {u : Int} (h0 : 0 ≤ u) (h1 : u ≤ 2000000) : 0 ≤ u * u ∧ u * u ≤ 4000000000000 :=
  ⟨Int.mul_nonneg h0 h0, Int.le_trans (Int.mul_le_mul h1 h1 h0 (by decide)) (by decide)⟩
theorem gap_if (lo hi x : Int) : (if (if lo - x < 0 then 0 else lo - x) < x - hi then x - hi else if lo - x < 0 then 0 else lo - x) = Ward.gap lo hi x := by
  unfold Ward.gap
  (repeat' split) <;> omega
set_option maxRecDepth 100000 in
set_option maxHeartbeats 2000000 in
theorem distance_any (b : Ward.Box) (x y : Int) (w : World) (hb : b.In) (hx : -1000000 ≤ x ∧ x ≤ 1000000) (hy : -1000000 ≤ y ∧ y ≤ 1000000) :
    Calls Tryz.prog 80 #[Bx b, I x, I y] w fun e w' => e = .returned (I (Ward.dist b x y)) ∧ Below w.heap.size w w' := by
  obtain ⟨a1, a2, b1, b2, c1, c2, d1, d2⟩ := hb
  obtain ⟨x1, x2⟩ := hx
  obtain ⟨y1, y2⟩ := hy
  have HD := hide (show Ward.dist b x y = Ward.gap b.a b.c x * Ward.gap b.a b.c x + Ward.gap b.b b.d y * Ward.gap b.b b.d y from rfl)
  have HGX := hide (gap_if b.a b.c x)
  have HGY := hide (gap_if b.b b.d y)
  have u0 := Ward.gap_nonneg b.a b.c x
  have u1 := gap_le a1 a2 c1 c2 x1 x2
  have v0 := Ward.gap_nonneg b.b b.d y
  have v1 := gap_le b1 b2 d1 d2 y1 y2
  obtain ⟨s0, s1⟩ := sq_le u0 u1
  obtain ⟨t0, t1⟩ := sq_le v0 v1
  obtain ⟨ba, bb, bc, bd⟩ := b
  simp only at *
  go_enter Tryz.func80, Tryz.ntmps80
  go_upto_region 3 with fail
  rw [HGX.out, HGY.out]
  generalize Ward.gap ba bc x = u at *
  generalize Ward.gap bb bd y = v at *
  go_wp2
  go_ret
  exact ⟨by rw [HD.out]; rfl, (Below.refl w.heap.size w).alloc (Nat.le_refl _) _⟩
theorem must_window {q : Ward.Qr} (h : q.kind = 0) (a : List Ward.Pt) (b : Ward.Box) : Ward.must q a b = Ward.meets (Ward.window q) b := by unfold Ward.must; rw [if_pos h]
/-- a query and a box as they lie -/
def QryBox (w : World) (g k : Nat) (q : Ward.Qr) (b : Ward.Box) : Prop :=
  w.heap[g]? = some (.cells #[I q.kind, I q.a, I q.b, I q.c, I q.d, I q.x, I q.y, I q.k] 46 (0, 0)) ∧ w.heap[k]? = some (.cells #[I b.a, I b.b, I b.c, I b.d] 88 (0, 0))
theorem QryBox.below {w w' : World} {g k B : Nat} {q : Ward.Qr} {b : Ward.Box} (h : QryBox w g k q b) (hb : Below B w w') (hg : g < B) (hk : k < B) : QryBox w' g k q b := ⟨(hb.block g hg).trans h.1, (hb.block k hk).trans h.2⟩
theorem rowQ8 {w : World} {g t : Nat} {a b c d e f h i : Value} (hr : w.heap[g]? = some (.cells #[a, b, c, d, e, f, h, i] t (0, 0))) : w.cell? ⟨g, 0, none⟩ = some a ∧ w.cell? ⟨g, 1, none⟩ = some b ∧ w.cell? ⟨g, 2, none⟩ = some c ∧ w.cell? ⟨g, 3, none⟩ = some d ∧ w.cell? ⟨g, 4, none⟩ = some e ∧ w.cell? ⟨g, 5, none⟩ = some f ∧ w.cell? ⟨g, 6, none⟩ = some h ∧ w.cell? ⟨g, 7, none⟩ = some i := by
  refine ⟨?_, ?_, ?_, ?_, ?_, ?_, ?_, ?_⟩ <;> rw [cell_of_row _ _ _ _ _ _ hr] <;> rfl
set_option maxRecDepth 100000 in
set_option maxHeartbeats 4000000 in
theorem mustShow_window (q : Ward.Qr) (v : Value) (b : Ward.Box) (w : World) (hk : q.kind = 0) :
    Calls Tryz.prog 42 #[Qv q, v, Bx b] w fun e w' => e = .returned (.bool (Ward.meets (Ward.window q) b)) ∧ Below w.heap.size w w' := by
  have HWI := hide (fun W => windowOf_any q W)
  generalize Ward.window q = wq at *
  have HMT := hide (fun W => meets_any wq b W)
  generalize Ward.meets wq b = r at *
  obtain ⟨qk, qa, qb, qc, qd, qx, qy, qn⟩ := q
  simp only at hk
  subst hk
  have hb2 := fun o o' => ((Below.refl w.heap.size w).alloc (Nat.le_refl _) o).alloc (by simp) o'
  have hr2 := heap_alloc2_new w
  have hr1 := heap_alloc2_old w
  have hs2 := fun o o' => show ((w.alloc o).alloc o').heap.size = w.heap.size + 2 by simp
  go_enter Tryz.func42, Tryz.ntmps42
  go_upto_region 2 with fail
  generalize hW : World.alloc (World.alloc w _) _ = w1
  have hb1 : Below w.heap.size w w1 := by rw [← hW]; exact hb2 _ _
  have h1 : QryBox w1 w.heap.size (w.heap.size + 1) ⟨0, qa, qb, qc, qd, qx, qy, qn⟩ b := by rw [← hW]; exact ⟨hr1 _ _, hr2 _ _⟩
  have hs1 : w.heap.size + 2 ≤ w1.heap.size := by rw [← hW, hs2]; exact Nat.le_refl _
  clear hb2 hr1 hr2 hs2 hW
  have HB1 := hide hb1
  have H1 := hide h1
  obtain ⟨k0, k1, k2, k3, k4, k5, k6, k7⟩ := rowQ8 h1.1
  obtain ⟨c1, c2, c3, c4⟩ := row4 h1.2
  clear hb1 h1
  go_region_with (first | (go_at_call 73; go_must (refine (HWI.out w1.drew).mono ?_; rintro _ w6 ⟨rfl, hb6⟩; have hs6 := hb6.size; have H6 := hide (QryBox.below (w := w1.drew) H1.out hb6 (by simp; omega) (by simp; omega)); obtain ⟨e1, e2, e3, e4⟩ := row4 H6.out.2; have HB6 := hide hb6; clear hb6)) | (go_at_call 78; go_must (refine (HMT.out w6).mono ?_; rintro _ w7 ⟨rfl, hb7⟩; have HB7 := hide hb7; have hs7 := hb7.size; clear hb7)))
  all_goals
    go_wp2
    go_ret
    have hd : w1.drew.heap.size = w1.heap.size := by simp
    rw [hd] at hs6
    exact ⟨rfl, (HB1.out.drew.trans (HB6.out.mono (by simp; omega))).trans (HB7.out.mono (by omega))⟩
end Go.Proofs.YtenaelkbgkpllaaGreatDoor
