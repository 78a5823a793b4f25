/- Part 29 of what the claims on Bound, Small, Right and Sole rest on. -/
import Derived.Test.YtenaelkbgkpllaaGreatDoorKeep24
import Derived.Test.YtenaelkbgkpllaaGreatDoorKeep27
/- in, far, inOrder, same, dice.query. -/
namespace Go.Proofs.YtenaelkbgkpllaaGreatDoor
open Go.RowKit

theorem row3' {w : World} {g t : Nat} {a b c : Value} (h : w.heap[g]? = some (.cells #[a, b, c] t (0, 0))) : w.cell? ⟨g, 0, none⟩ = some a ∧ w.cell? ⟨g, 1, none⟩ = some b ∧ w.cell? ⟨g, 2, none⟩ = some c := row3 h
set_option maxRecDepth 100000 in
set_option maxHeartbeats 2000000 in
theorem in_any (p : Ward.Pt) (q : Ward.Qr) (w : World) :
    Calls Tryz.prog 53 #[.agg #[I p.id, I p.x, I p.y], Qv q] w fun e w' => e = .returned (.bool (Ward.inB (Ward.window q) p)) ∧ Below w.heap.size w w' := by
  obtain ⟨r, hr⟩ : ∃ r, (decide (q.a ≤ p.x) && decide (p.x ≤ q.c) && decide (q.b ≤ p.y) && decide (p.y ≤ q.d)) = r := ⟨_, rfl⟩
  rw [show Ward.inB (Ward.window q) p = (decide (q.a ≤ p.x) && decide (p.x ≤ q.c) && decide (q.b ≤ p.y) && decide (p.y ≤ q.d)) from rfl, hr]
  have HE := hide hr
  clear hr
  have hb2 := fun o o' => ((Below.refl w.heap.size w).alloc (Nat.le_refl _) o).alloc (by simp) o'
  have hr2 := heap2 w
  go_enter Tryz.func53, Tryz.ntmps53
  go_upto_region 1 with fail
  generalize hW : World.alloc (World.alloc w _) _ = w1
  have hb1 : Below w.heap.size w w1 := by rw [← hW]; exact hb2 _ _
  have hp1 : w1.heap[w.heap.size]? = some (.cells #[I p.id, I p.x, I p.y] 36 (0, 0)) := by rw [← hW]; exact (hr2 _ _).1
  have hq1 : w1.heap[w.heap.size + 1]? = some (.cells #[I q.kind, I q.a, I q.b, I q.c, I q.d, I q.x, I q.y, I q.k] 46 (0, 0)) := by rw [← hW]; exact (hr2 _ _).2.1
  clear hb2 hr2 hW
  obtain ⟨e0, e1, e2⟩ := row3 hp1
  obtain ⟨k0, k1, k2, k3, k4, k5, k6, k7⟩ := rowQ8 hq1
  have HB1 := hide hb1
  clear hb1 hp1 hq1
  by_cases h1 : q.a ≤ p.x
  · by_cases h2 : p.x ≤ q.c
    · by_cases h3 : q.b ≤ p.y
      · go_wp2_with fail
        go_ret
        refine ⟨?_, HB1.out⟩
        rw [← HE.out, decide_eq_true (show q.a ≤ p.x by omega), decide_eq_true (show p.x ≤ q.c by omega), decide_eq_true (show q.b ≤ p.y by omega)]
        rfl
      · go_wp2_with fail
        go_ret
        refine ⟨?_, HB1.out⟩
        rw [← HE.out, decide_eq_true (show q.a ≤ p.x by omega), decide_eq_true (show p.x ≤ q.c by omega), decide_eq_false (show ¬ q.b ≤ p.y by omega)]
        rfl
    · go_wp2_with fail
      go_ret
      refine ⟨?_, HB1.out⟩
      rw [← HE.out, decide_eq_true (show q.a ≤ p.x by omega), decide_eq_false (show ¬ p.x ≤ q.c by omega)]
      rfl
  · go_wp2_with fail
    go_ret
    refine ⟨?_, HB1.out⟩
    rw [← HE.out, decide_eq_false (show ¬ q.a ≤ p.x by omega)]
    rfl
theorem sq_fits {u : Int} (h0 : -2000000 ≤ u) (h1 : u ≤ 2000000) : 0 ≤ u * u ∧ u * u ≤ 4000000000000 := by
  by_cases h : 0 ≤ u
  · exact sq_le h h1
  · have := sq_le (u := -u) (by omega) (by omega)
    rw [Int.neg_mul_neg] at this
    exact this
set_option maxRecDepth 100000 in
set_option maxHeartbeats 2000000 in
theorem far_any (p : Ward.Pt) (q : Ward.Qr) (w : World) (hp : p.Ok) (hx : -1000000 ≤ q.x ∧ q.x ≤ 1000000) (hy : -1000000 ≤ q.y ∧ q.y ≤ 1000000) :
    Calls Tryz.prog 52 #[.agg #[I p.id, I p.x, I p.y], Qv q] w fun e w' => e = .returned (I (Ward.far p q.x q.y)) ∧ Below w.heap.size w w' := by
  obtain ⟨i1, i2, x1, x2, y1, y2⟩ := hp
  obtain ⟨s0, s1⟩ := sq_fits (u := p.x - q.x) (by omega) (by omega)
  obtain ⟨t0, t1⟩ := sq_fits (u := p.y - q.y) (by omega) (by omega)
  have HD := hide (show Ward.far p q.x q.y = (p.x - q.x) * (p.x - q.x) + (p.y - q.y) * (p.y - q.y) from rfl)
  have hb2 := fun o o' => ((Below.refl w.heap.size w).alloc (Nat.le_refl _) o).alloc (by simp) o'
  have hr2 := heap2 w
  go_enter Tryz.func52, Tryz.ntmps52
  go_upto_region 1 with fail
  generalize hW : World.alloc (World.alloc w _) _ = w1
  have hb1 : Below w.heap.size w w1 := by rw [← hW]; exact hb2 _ _
  have hp1 : w1.heap[w.heap.size]? = some (.cells #[I p.id, I p.x, I p.y] 36 (0, 0)) := by rw [← hW]; exact (hr2 _ _).1
  have hq1 : w1.heap[w.heap.size + 1]? = some (.cells #[I q.kind, I q.a, I q.b, I q.c, I q.d, I q.x, I q.y, I q.k] 46 (0, 0)) := by rw [← hW]; exact (hr2 _ _).2.1
  clear hb2 hr2 hW
  obtain ⟨e0, e1, e2⟩ := row3 hp1
  obtain ⟨k0, k1, k2, k3, k4, k5, k6, k7⟩ := rowQ8 hq1
  have HB1 := hide hb1
  clear hb1 hp1 hq1
  go_wp2_with fail
  go_ret
  exact ⟨by rw [HD.out]; rfl, HB1.out⟩
theorem lt_cases (p r : Ward.Pt) : decide (Ward.lt p r) = if p.x ≠ r.x then decide (p.x < r.x) else if p.y ≠ r.y then decide (p.y < r.y) else decide (p.id < r.id) := by
  by_cases h1 : p.x = r.x
  · rw [if_neg (fun h => h h1)]
    by_cases h2 : p.y = r.y
    · rw [if_neg (fun h => h h2)]
      apply decide_eq_decide.2
      unfold Ward.lt
      omega
    · rw [if_pos h2]
      apply decide_eq_decide.2
      unfold Ward.lt
      omega
  · rw [if_pos h1]
    apply decide_eq_decide.2
    unfold Ward.lt
    omega
set_option maxRecDepth 100000 in
set_option maxHeartbeats 2000000 in
theorem inOrder_any (p r : Ward.Pt) (w : World) :
    Calls Tryz.prog 51 #[.agg #[I p.id, I p.x, I p.y], .agg #[I r.id, I r.x, I r.y]] w fun e w' => e = .returned (.bool (decide (Ward.lt p r))) ∧ Below w.heap.size w w' := by
  obtain ⟨b, hb⟩ : ∃ b, decide (Ward.lt p r) = b := ⟨_, rfl⟩
  have HE := hide ((lt_cases p r).symm.trans hb)
  rw [hb]
  clear hb
  have hb2 := fun o o' => ((Below.refl w.heap.size w).alloc (Nat.le_refl _) o).alloc (by simp) o'
  have hr2 := heap2 w
  go_enter Tryz.func51, Tryz.ntmps51
  go_upto_region 1 with fail
  generalize hW : World.alloc (World.alloc w _) _ = w1
  have hb1 : Below w.heap.size w w1 := by rw [← hW]; exact hb2 _ _
  have hp1 : w1.heap[w.heap.size]? = some (.cells #[I p.id, I p.x, I p.y] 36 (0, 0)) := by rw [← hW]; exact (hr2 _ _).1
  have hq1 : w1.heap[w.heap.size + 1]? = some (.cells #[I r.id, I r.x, I r.y] 36 (0, 0)) := by rw [← hW]; exact (hr2 _ _).2.1
  clear hb2 hr2 hW
  obtain ⟨e0, e1, e2⟩ := row3 hp1
  obtain ⟨k0, k1, k2⟩ := row3 hq1
  have HB1 := hide hb1
  clear hb1 hp1 hq1
  by_cases h1 : p.x = r.x
  · by_cases h2 : p.y = r.y
    · go_wp2_with fail
      go_ret
      refine ⟨?_, HB1.out⟩
      rw [← HE.out, if_neg (fun h => h (by omega)), if_neg (fun h => h (by omega))]
      rfl
    · go_wp2_with fail
      go_ret
      refine ⟨?_, HB1.out⟩
      rw [← HE.out, if_neg (fun h => h (by omega)), if_pos (by omega)]
      rfl
  · go_wp2_with fail
    go_ret
    refine ⟨?_, HB1.out⟩
    rw [← HE.out, if_pos (by omega)]
    rfl
end Go.Proofs.YtenaelkbgkpllaaGreatDoor
/- same; a query out of raw numbers. -/
namespace Go.Proofs.YtenaelkbgkpllaaGreatDoor
open Go.RowKit

theorem Reads.point {w : World} {a : Option Addr} {n c : Nat} {L : List Ward.Pt} (h : Reads w (.slice a n c) L) : n = L.length ∧ (∀ i (hi : i < L.length), ∃ g o, a = some ⟨g, o, none⟩ ∧ ∀ w', Below w.heap.size w w' → PtAt w' g (o + i * 3) L[i]) := by
  obtain ⟨a', c', e, hr⟩ := h
  injection e with e1 e2 e3
  refine ⟨e2, fun i hi => ?_⟩
  obtain ⟨g, o, rfl, hp⟩ := hr (fun e => by subst e; simp at hi)
  exact ⟨g, o, e1, fun w' hb => (hp i hi).below hb (hp i hi).lt⟩
theorem take_step {α : Type} (A B : List α) (i : Nat) (ha : i < A.length) (hb : i < B.length) (h : A.take i = B.take i) (he : A[i] = B[i]) : A.take (i + 1) = B.take (i + 1) := by
  rw [List.take_succ_eq_append_getElem ha, List.take_succ_eq_append_getElem hb, h, he]
set_option maxRecDepth 100000 in
set_option maxHeartbeats 4000000 in
theorem same_any (va vb : Value) (A B : List Ward.Pt) (w : World) (ha : Reads w va A) (hb : Reads w vb B) (hl : A.length ≤ 1000) :
    Calls Tryz.prog 24 #[va, vb] w fun e w' => (∃ r : Bool, e = .returned (.bool r) ∧ (r = true ↔ A = B)) ∧ Below w.heap.size w w' := by
  obtain ⟨aa, ca, ea, -⟩ := id ha
  obtain ⟨ab, cb, eb, -⟩ := id hb
  subst ea eb
  have HA := hide ha.point.2
  have HB := hide hb.point.2
  clear ha hb
  go_enter Tryz.func24, Tryz.ntmps24
  by_cases hlen : A.length = B.length
  · have hlen' : (A.length : Int) = (B.length : Int) := by omega
    have HLN := hide hlen
    clear hlen
    go_wp2_with fail
    clear hlen'
    go_loopg [5] A.length (fun gk v5 wq => ∃ i : Nat, gk = A.length - i ∧ v5 = I i ∧ i ≤ A.length ∧ A.take i = B.take i ∧ Below w.heap.size w wq)
    case atStart => exact ⟨0, by omega, rfl, by omega, rfl, Below.refl _ _⟩
    case round =>
      obtain ⟨i, hgk, rfl, hi, ht, hbl⟩ := hrel
      have HGK := hide hgk
      have HT := hide ht
      have HBL := hide hbl
      clear hgk ht hbl
      by_cases hlt : i < A.length
      · have hlt2 : i < B.length := by rw [← HLN.out]; exact hlt
        obtain ⟨g, o, rfl, hp⟩ := HA.out i hlt
        obtain ⟨g2, o2, rfl, hq⟩ := HB.out i hlt2
        have hp0 := hp wr HBL.out
        have hq0 := hq wr HBL.out
        have HST := hide (take_step A B i hlt hlt2 HT.out)
        have HNE := hide (show A[i] ≠ B[i] → A ≠ B from fun h e => h (by subst e; rfl))
        have hE := eqPt A[i] B[i]
        have HEQ := hide (ptEq_iff A[i] B[i])
        generalize A[i] = p at *
        generalize B[i] = q at *
        obtain ⟨p1, p2, p3⟩ := hp0
        obtain ⟨q1, q2, q3⟩ := hq0
        generalize ptEq p q = b3 at *
        clear hp hq
        go_wp2_with fail
        go_quiet (fail)
        have HBQ := hide (show Below w.heap.size w (wr.drewN nq) from HBL.out.trans ⟨rfl, rfl, rfl, Nat.le_refl _, fun _ _ => rfl⟩)
        generalize World.drewN wr nq = w9 at *
        cases b3 with
        | true =>
          go_wp2_with fail
          go_roundg (A.length - (i + 1))
          case measure => have := HGK.out; omega
          case rel => exact ⟨i + 1, rfl, by go_num, hlt, HST.out (HEQ.out.1 (by trivial)), HBQ.out⟩
        | false =>
          go_wp2_with fail
          go_ret
          exact ⟨⟨false, rfl, ⟨fun h => (by cases h), fun h => absurd h (HNE.out (fun e => by have := HEQ.out.2 e; simp at this))⟩⟩, HBQ.out⟩
      · have ei : i = A.length := by omega
        subst ei
        go_wp2_with fail
        go_ret
        refine ⟨⟨true, rfl, ⟨fun _ => ?_, fun _ => rfl⟩⟩, HBL.out⟩
        have h := HT.out
        rw [List.take_length, HLN.out, List.take_length] at h
        exact h
  · have hlen' : ¬ (A.length : Int) = (B.length : Int) := by omega
    go_wp2_with fail
    go_ret
    exact ⟨⟨false, rfl, ⟨fun h => (by cases h), fun h => absurd (by rw [h]) hlen⟩⟩, Below.refl _ _⟩
/-- what query makes: a query that may be, of small numbers -/
def SmallQ (q : Ward.Qr) : Prop := Ward.mayBe q = true ∧ (-8 ≤ q.x ∧ q.x ≤ 8) ∧ (-8 ≤ q.y ∧ q.y ≤ 8)
theorem window_may {a b c d : Int} (ha : -8 ≤ a ∧ a ≤ 8) (hb : -8 ≤ b ∧ b ≤ 8) (hc : 0 ≤ c ∧ c < 9) (hd : 0 ≤ d ∧ d < 9) : SmallQ ⟨0, a, b, a + c, b + d, 0, 0, 0⟩ := by
  refine ⟨?_, (show (-8 : Int) ≤ 0 ∧ (0 : Int) ≤ 8 by decide), (show (-8 : Int) ≤ 0 ∧ (0 : Int) ≤ 8 by decide)⟩
  show Ward.boxMay ⟨a, b, a + c, b + d⟩ = true
  simp only [Ward.boxMay, Ward.coordOk, Bool.and_eq_true, decide_eq_true_eq]
  omega
theorem near_may {a b c : Int} (ha : -8 ≤ a ∧ a ≤ 8) (hb : -8 ≤ b ∧ b ≤ 8) (hc : 0 ≤ c ∧ c < 20) : SmallQ ⟨1, 0, 0, 0, 0, a, b, 1 + c⟩ := by
  refine ⟨?_, ha, hb⟩
  show (Ward.coordOk a && Ward.coordOk b && decide (1 ≤ 1 + c) && decide (1 + c ≤ 20)) = true
  simp only [Ward.coordOk, Bool.and_eq_true, decide_eq_true_eq]
  omega
theorem underQ : ∃ fs, Tryz.prog.underlying 46 = some (.struct fs) := by
  have h : Tryz.prog.underlying 46 = some (.struct (Tryz.prog.fieldsOf 46)) := by kernel_rfl
  exact ⟨_, h⟩
theorem sizeQ : (Tryz.prog.info? 46).map (·.size) = some 8 := by kernel_rfl
theorem one8 (a b c d e f g h : Int) : (#[I a, I b, I c, I d, I e, I f, I g, I h] : Array Value).all (·.oneCell') = true := all_oneCell_toArray (cs := [I a, I b, I c, I d, I e, I f, I g, I h]) (fun v hv => by
  simp only [List.mem_cons, List.not_mem_nil, or_false] at hv
  rcases hv with rfl | rfl | rfl | rfl | rfl | rfl | rfl | rfl <;> rfl)
set_option maxRecDepth 100000 in
set_option maxHeartbeats 4000000 in
theorem query_any (B d : Nat) (code : List Int) (k : Nat) (w : World) (hd : Dice w B d code k) (hB : B ≤ w.heap.size) :
    Calls Tryz.prog 20 #[.pointer (some ⟨d, 0, none⟩)] w fun e w' => ∃ q k', e = .returned (Qv q) ∧ SmallQ q ∧ Dice w' B d code k' ∧ Keeps (fun j => j = d) w w' := by
  have hdlt := hd.low
  have HD := hide hd
  have hb1' := fun o => (Below.refl w.heap.size w).alloc (Nat.le_refl _) o
  have hr1' := heap_alloc_new w
  obtain ⟨fs, hu⟩ := underQ
  have HU := hide hu
  clear hd hu
  go_enter Tryz.func20, Tryz.ntmps20
  go_upto_region 1 with fail
  generalize hW : World.alloc w _ = w1
  have hb1 : Below w.heap.size w w1 := by rw [← hW]; exact hb1' _
  have hr1 : w1.heap[w.heap.size]? = some (.cells #[I 0, I 0, I 0, I 0, I 0, I 0, I 0, I 0] 46 (0, 0)) := by rw [← hW]; exact hr1' _
  clear hb1' hr1' hW
  have hs1 : w.heap.size < w1.heap.size := (Array.getElem?_eq_some_iff.1 hr1).1
  have HR1 := hide hr1
  have HD1 := hide (HD.out.below hb1)
  have HK1 := hide (show Keeps (fun j => j = d) w w1 from Keeps.of_below hb1)
  clear hb1 hr1
  go_wp2_with fail
  refine (next_any B d code k 17 w1 HD1.out (by decide) (by decide)).mono ?_
  rintro _ w2 ⟨r1, j1, rfl, a1, a2, hd2, hk2⟩
  have hs2 := hk2.size
  have HD2 := hide hd2
  have HR2 := hide ((hk2.block w.heap.size (by omega) (by omega)).trans HR1.out)
  have HK2 := hide (HK1.out.trans hk2 (fun _ _ h => h))
  clear hd2 hk2
  go_wp2_with fail
  refine (next_any B d code j1 17 w2 HD2.out (by decide) (by decide)).mono ?_
  rintro _ w3 ⟨r2, j2, rfl, b1, b2, hd3, hk3⟩
  have hs3 := hk3.size
  have HD3 := hide hd3
  have HR3 := hide ((hk3.block w.heap.size (by omega) (by omega)).trans HR2.out)
  have HK3 := hide (HK2.out.trans hk3 (fun _ _ h => h))
  clear hd3 hk3
  go_wp2_with fail
  refine (next_any B d code j2 2 w3 HD3.out (by decide) (by decide)).mono ?_
  rintro _ w4 ⟨r3, j3, rfl, c1, c2, hd4, hk4⟩
  have hs4 := hk4.size
  have HD4 := hide hd4
  have HR4 := hide ((hk4.block w.heap.size (by omega) (by omega)).trans HR3.out)
  have HK4 := hide (HK3.out.trans hk4 (fun _ _ h => h))
  clear hd4 hk4
  by_cases h0 : r3 = 0
  · go_wp2_with fail
    refine (next_any B d code j3 9 w4 HD4.out (by decide) (by decide)).mono ?_
    rintro _ w5 ⟨r4, j4, rfl, d1, d2, hd5, hk5⟩
    have hs5 := hk5.size
    have HD5 := hide hd5
    have HR5 := hide ((hk5.block w.heap.size (by omega) (by omega)).trans HR4.out)
    have HK5 := hide (HK4.out.trans hk5 (fun _ _ h => h))
    clear hd5 hk5
    go_wp2_with fail
    refine (next_any B d code j4 9 w5 HD5.out (by decide) (by decide)).mono ?_
    rintro _ w6 ⟨r5, j5, rfl, e1, e2, hd6, hk6⟩
    have hs6 := hk6.size
    have HD6 := hide hd6
    have HR6 := hide ((hk6.block w.heap.size (by omega) (by omega)).trans HR5.out)
    have HK6 := hide (HK5.out.trans hk6 (fun _ _ h => h))
    clear hd6 hk6
    have HQ := hide (window_may (a := r1 - 8) (b := r2 - 8) (c := r4) (d := r5) (by omega) (by omega) (by omega) (by omega))
    go_wp2_with (refine wpList_store_row rfl 46 (.tmp 2) (.tmp 24) rfl w.heap.size #[I 0, I (r1 - 8), I (r2 - 8), I (r1 - 8 + r4), I (r2 - 8 + r5), I 0, I 0, I 0] rfl rfl 46 _ HR6.out sizeQ rfl (one8 _ _ _ _ _ _ _ _) ?_)
    refine bodyPost_ret (results_cell_row rfl _ _ w.heap.size 46 #[I 0, I (r1 - 8), I (r2 - 8), I (r1 - 8 + r4), I (r2 - 8 + r5), I 0, I 0, I 0] (0, 0) (.struct fs) rfl (setRow_heap _ _ _ _ _ _ HR6.out) HU.out rfl sizeQ) rfl ?_
    exact ⟨⟨0, r1 - 8, r2 - 8, r1 - 8 + r4, r2 - 8 + r5, 0, 0, 0⟩, j5, rfl, HQ.out, HD6.out.keeps (keeps_setRow _ _ _) (fun j hj e => by omega), HK6.out.low (below_setRow (Below.refl _ _) (Nat.le_refl _) _)⟩
  · go_wp2_with fail
    refine (next_any B d code j3 20 w4 HD4.out (by decide) (by decide)).mono ?_
    rintro _ w5 ⟨r4, j4, rfl, d1, d2, hd5, hk5⟩
    have hs5 := hk5.size
    have HD5 := hide hd5
    have HR5 := hide ((hk5.block w.heap.size (by omega) (by omega)).trans HR4.out)
    have HK5 := hide (HK4.out.trans hk5 (fun _ _ h => h))
    clear hd5 hk5
    have HQ := hide (near_may (a := r1 - 8) (b := r2 - 8) (c := r4) (by omega) (by omega) (by omega))
    go_wp2_with (refine wpList_store_row rfl 46 (.tmp 2) (.tmp 30) rfl w.heap.size #[I 1, I 0, I 0, I 0, I 0, I (r1 - 8), I (r2 - 8), I (1 + r4)] rfl rfl 46 _ HR5.out sizeQ rfl (one8 _ _ _ _ _ _ _ _) ?_)
    refine bodyPost_ret (results_cell_row rfl _ _ w.heap.size 46 #[I 1, I 0, I 0, I 0, I 0, I (r1 - 8), I (r2 - 8), I (1 + r4)] (0, 0) (.struct fs) rfl (setRow_heap _ _ _ _ _ _ HR5.out) HU.out rfl sizeQ) rfl ?_
    exact ⟨⟨1, 0, 0, 0, 0, r1 - 8, r2 - 8, 1 + r4⟩, j4, rfl, HQ.out, HD5.out.keeps (keeps_setRow _ _ _) (fun j hj e => by omega), HK5.out.low (below_setRow (Below.refl _ _) (Nat.le_refl _) _)⟩
end Go.Proofs.YtenaelkbgkpllaaGreatDoor
/- right, of a window. -/
namespace Go.Proofs.YtenaelkbgkpllaaGreatDoor
open Go.RowKit

theorem any_mem (l : List Ward.Pt) (p : Ward.Pt) : l.any (fun x => ptEq x p) = true ↔ p ∈ l := by
  rw [List.any_eq_true]
  constructor
  · rintro ⟨x, hx, e⟩
    rw [← (ptEq_iff x p).1 e]
    exact hx
  · exact fun h => ⟨p, h, (ptEq_iff p p).2 rfl⟩
theorem any_mem' (l : List Ward.Pt) (p : Ward.Pt) : l.any (fun x => ptEq p x) = true ↔ p ∈ l := by
  rw [List.any_eq_true]
  constructor
  · rintro ⟨x, hx, e⟩
    rw [(ptEq_iff p x).1 e]
    exact hx
  · exact fun h => ⟨p, h, (ptEq_iff p p).2 rfl⟩
theorem any_step (f : Ward.Pt → Bool) (l : List Ward.Pt) (j : Nat) (h : j < l.length) : (l.take (j + 1)).any f = ((l.take j).any f || f l[j]) := by
  rw [List.take_succ_eq_append_getElem h, List.any_append]
  simp
theorem pair_prev {α : Type} {R : α → α → Prop} {l : List α} (h : l.Pairwise R) (i : Nat) (hi : i < l.length) (h0 : 0 < i) : R (l[i - 1]'(by omega)) l[i] := List.pairwise_iff_getElem.1 h (i - 1) i (by omega) hi (by omega)
/-- the query's cells, in every world that keeps it -/
def QAt (w : World) (g : Nat) (q : Ward.Qr) : Prop := w.cell? ⟨g, 0, none⟩ = some (I q.kind) ∧ w.cell? ⟨g, 1, none⟩ = some (I q.a) ∧ w.cell? ⟨g, 2, none⟩ = some (I q.b) ∧ w.cell? ⟨g, 3, none⟩ = some (I q.c) ∧ w.cell? ⟨g, 4, none⟩ = some (I q.d) ∧ w.cell? ⟨g, 5, none⟩ = some (I q.x) ∧ w.cell? ⟨g, 6, none⟩ = some (I q.y) ∧ w.cell? ⟨g, 7, none⟩ = some (I q.k)
theorem below_drewN' (w : World) (n : Nat) (B : Nat) : Below B w (w.drewN n) := ⟨rfl, rfl, rfl, Nat.le_refl _, fun _ _ => rfl⟩
set_option maxRecDepth 100000 in
set_option maxHeartbeats 8000000 in
theorem right_window (va vl : Value) (A l : List Ward.Pt) (qa qb qc qd qx qy qk : Int) (w : World) (ha : Reads w va A) (hl : Reads w vl l) (hR : Ward.RightIs ⟨0, qa, qb, qc, qd, qx, qy, qk⟩ A l) (hn1 : A.length ≤ 1000) (hn2 : l.length ≤ 1000) :
    Calls Tryz.prog 23 #[va, vl, Qv ⟨0, qa, qb, qc, qd, qx, qy, qk⟩] w fun e w' => e = .returned (.bool true) ∧ Below w.heap.size w w' := by
  obtain ⟨aa, ca, ea, -⟩ := id ha
  obtain ⟨al, cl, el, -⟩ := id hl
  subst ea el
  have HA := hide ha.point.2
  have HL := hide hl.point.2
  have HMEM := hide hR.mem
  have HWIN := hide (hR.win rfl)
  have HIN := hide (fun (p : Ward.Pt) (W : World) => in_any p ⟨0, qa, qb, qc, qd, qx, qy, qk⟩ W)
  clear ha hl hR
  have hb1' := fun o => (Below.refl w.heap.size w).alloc (Nat.le_refl _) o
  have hr1' := heap_alloc_new w
  go_enter Tryz.func23, Tryz.ntmps23
  go_upto_region 1 with fail
  generalize hW : World.alloc w _ = w1
  have hb1 : Below w.heap.size w w1 := by rw [← hW]; exact hb1' _
  have hr1 : w1.heap[w.heap.size]? = some (.cells #[I 0, I qa, I qb, I qc, I qd, I qx, I qy, I qk] 46 (0, 0)) := by rw [← hW]; exact hr1' _
  clear hb1' hr1' hW
  have hs1 : w.heap.size < w1.heap.size := (Array.getElem?_eq_some_iff.1 hr1).1
  have HB1 := hide hb1
  have HQ := hide (fun (W : World) (hb : Below w1.heap.size w1 W) => rowQ8 ((hb.block w.heap.size hs1).trans hr1))
  have HBW := hide (fun (W : World) (hb : Below w1.heap.size w1 W) => show Below w.heap.size w W from hb1.trans (hb.mono (by omega)))
  clear hb1 hr1
  go_wp2_with fail
  go_loopg [7, 8, 9, 10, 11] A.length (fun gk v7 _ _ _ _ wq => ∃ i : Nat, gk = A.length - i ∧ v7 = I i ∧ i ≤ A.length ∧ Below w1.heap.size w1 wq)
  case atStart => exact ⟨0, by omega, rfl, by omega, Below.refl _ _⟩
  case round =>
    obtain ⟨i, hgk, rfl, hi, hbl⟩ := hrel
    have HGK := hide hgk
    have HBL := hide hbl
    clear hgk hbl
    by_cases hlt : i < A.length
    · obtain ⟨g, o, rfl, hp⟩ := HA.out i hlt
      have HPI := hide hp
      have HPM := hide ((any_mem l A[i]).2 (HMEM.out _ (List.getElem_mem hlt)))
      have HPV := hide (show 0 < i → ∃ pv, Ward.lt pv A[i] ∧ ∀ W, Below w.heap.size w W → PtAt W g (o + (i - 1) * 3) pv from fun h0 => by
        obtain ⟨g', o', e', h'⟩ := HA.out (i - 1) (by omega)
        injection e' with e'
        injection e' with e1 e2 e3
        subst e1 e2
        exact ⟨_, pair_prev HWIN.out.1 i hlt h0, h'⟩)
      generalize A[i] = p at *
      clear hp
      go_wp2_with fail
      go_loopg [8, 9] l.length (fun gk v8 v9 wq => ∃ j : Nat, gk = l.length - j ∧ v9 = I j ∧ j ≤ l.length ∧ v8 = .bool ((l.take j).any (fun x => ptEq x p)) ∧ Below w1.heap.size w1 wq)
      case atStart => exact ⟨0, by omega, rfl, by omega, by simp, HBL.out⟩
      case round =>
        obtain ⟨j, hgj, rfl, hj, rfl, hbj⟩ := hrel
        have HGJ := hide hgj
        have HBJ := hide hbj
        clear hgj hbj HBL
        by_cases hltj : j < l.length
        · obtain ⟨g2, o2, rfl, hq⟩ := HL.out j hltj
          have HT := hide (any_step (fun x => ptEq x p) l j hltj)
          have hq0 := hq wr (HBW.out wr HBJ.out)
          have hp0 := HPI.out wr (HBW.out wr HBJ.out)
          have hE := eqPt l[j] p
          generalize l[j] = x at *
          generalize (l.take j).any (fun x => ptEq x p) = b2 at *
          obtain ⟨p1, p2, p3⟩ := hp0
          obtain ⟨q1, q2, q3⟩ := hq0
          clear hq
          generalize ptEq x p = b3 at *
          cases b2
          all_goals
            go_wp2_with fail
            go_quiet (fail)
            have HBQ := hide (HBJ.out.trans (below_drewN' wr nq _))
            generalize World.drewN wr nq = w9 at *
            go_wp2_with fail
            go_roundg (l.length - (j + 1))
            case measure => have := HGJ.out; omega
            case rel => exact ⟨j + 1, rfl, by go_num, hltj, by rw [HT.out]; rfl, HBQ.out⟩
        · have ej : j = l.length := by omega
          subst ej
          rw [List.take_length, HPM.out]
          obtain ⟨k0, k1, k2, k3, k4, k5, k6, k7⟩ := HQ.out wr HBJ.out
          cases i with
          | zero =>
            go_upto_region 11 with fail
            go_quiet (fail)
            have HBQ := hide (HBJ.out.trans (below_drewN' wr nq _))
            have k0' : (wr.drewN nq).cell? ⟨w.heap.size, 0, none⟩ = some (I 0) := (HQ.out _ HBQ.out).1
            generalize World.drewN wr nq = w9 at *
            clear k0 k1 k2 k3 k4 k5 k6 k7
            go_wp2_with fail
            go_roundg (A.length - (0 + 1))
            case measure => have := HGK.out; omega
            case rel => exact ⟨0 + 1, rfl, by go_num, hlt, HBQ.out⟩
          | succ i =>
            obtain ⟨pv, hlo, hpv⟩ := HPV.out (by omega)
            rw [Nat.add_sub_cancel] at hpv
            have HPVV := hide hpv
            have HIO := hide (fun W => inOrder_any pv p W)
            rw [decide_eq_true hlo] at HIO
            have HS := hide (fun (W : World) (hb : Below w1.heap.size w1 W) => show (fun W => (W.cell? ⟨g, o + i * 3, none⟩ = some (I pv.id) ∧ W.cell? ⟨g, o + i * 3 + 1, none⟩ = some (I pv.x) ∧ W.cell? ⟨g, o + i * 3 + 2, none⟩ = some (I pv.y)) ∧ (W.cell? ⟨g, o + (i + 1) * 3, none⟩ = some (I p.id) ∧ W.cell? ⟨g, o + (i + 1) * 3 + 1, none⟩ = some (I p.x) ∧ W.cell? ⟨g, o + (i + 1) * 3 + 2, none⟩ = some (I p.y)) ∧ W.cell? ⟨w.heap.size, 0, none⟩ = some (I 0)) W from ⟨hpv W (HBW.out W hb), HPI.out W (HBW.out W hb), (HQ.out W hb).1⟩)
            have hS5 := HS.out wr.drew HBJ.out.drew
            have hsz := HBJ.out.size
            have hi1 : (i : Int) < (A.length : Int) := by omega
            have hi2 : (i : Int) + 1 < (A.length : Int) := by omega
            have hi3 : (0 : Int) ≤ (i : Int) + 1 := by omega
            have hw1 : IntKind.i64.wrap (i : Int) = (i : Int) := by simp [IntKind.wrap, IntKind.signed, IntKind.bits]; omega
            have hw2 : IntKind.i64.wrap ((i : Int) + 1 - 1) = (i : Int) := by rw [Int.add_sub_cancel]; exact hw1
            have hw3 : wrap64 (i : Int) = (i : Int) := by unfold wrap64; omega
            have hw4 : wrap64 ((i : Int) + 1 - 1) = (i : Int) := by unfold wrap64; omega
            clear hlo hpv k0 k1 k2 k3 k4 k5 k6 k7
            go_upto_region 11 with fail
            go_region_held3 (fun W => (W.cell? ⟨g, o + i * 3, none⟩ = some (I pv.id) ∧ W.cell? ⟨g, o + i * 3 + 1, none⟩ = some (I pv.x) ∧ W.cell? ⟨g, o + i * 3 + 2, none⟩ = some (I pv.y)) ∧ (W.cell? ⟨g, o + (i + 1) * 3, none⟩ = some (I p.id) ∧ W.cell? ⟨g, o + (i + 1) * 3 + 1, none⟩ = some (I p.x) ∧ W.cell? ⟨g, o + (i + 1) * 3 + 2, none⟩ = some (I p.y)) ∧ W.cell? ⟨w.heap.size, 0, none⟩ = some (I 0)) (first | exact hS5 | exact hS6) ((go_at_call 51; go_must (refine (HIO.out _).mono ?_; rintro _ w6 ⟨rfl, hb6⟩; have HB6 := hide (HBJ.out.drew.trans (hb6.mono (by simp; omega))); have hS6 := HS.out w6 HB6.out; clear hb6)))
            all_goals
              have k0' : w6.cell? ⟨w.heap.size, 0, none⟩ = some (I 0) := (HQ.out _ HB6.out).1
              go_wp2_with fail
              go_roundg (A.length - (i + 1 + 1))
              case measure => have := HGK.out; omega
              case rel => exact ⟨i + 1 + 1, rfl, by go_num, hlt, HB6.out⟩
    · have ei : i = A.length := by omega
      subst ei
      obtain ⟨k0, k1, k2, k3, k4, k5, k6, k7⟩ := HQ.out wr HBL.out
      clear hlt hi HGK
      go_wp2_with fail
      clear k0 k1 k2 k3 k4 k5 k6 k7
      go_loopg [12, 13, 14, 15, 16, 17, 18] l.length (fun gk v12 v13 _ _ _ _ _ wq => ∃ k : Nat, gk = l.length - k ∧ v12 = I k ∧ v13 = I k ∧ k ≤ l.length ∧ Below w1.heap.size w1 wq)
      case atStart => exact ⟨0, by omega, rfl, rfl, by omega, HBL.out⟩
      case round =>
        obtain ⟨k, hgk, rfl, rfl, hk, hbl⟩ := hrel
        have HGK := hide hgk
        have HBK := hide hbl
        clear hgk hbl HBL
        by_cases hlt : k < l.length
        · obtain ⟨g2, o2, rfl, hq⟩ := HL.out k hlt
          have HXI := hide hq
          have HXX := hide (show A.any (fun y => ptEq l[k] y) = Ward.inB (Ward.window ⟨0, qa, qb, qc, qd, qx, qy, qk⟩) l[k] by
            have h1 := (any_mem' A l[k]).trans (HWIN.out.2 l[k] (List.getElem_mem hlt))
            exact Bool.eq_iff_iff.2 h1)
          have HINX := hide (fun W => HIN.out l[k] W)
          generalize l[k] = x at *
          clear hq
          go_wp2_with fail
          go_loopg [14, 15] A.length (fun gk v14 v15 wq => ∃ j : Nat, gk = A.length - j ∧ v15 = I j ∧ j ≤ A.length ∧ v14 = .bool ((A.take j).any (fun y => ptEq x y)) ∧ Below w1.heap.size w1 wq)
          case atStart => exact ⟨0, by omega, rfl, by omega, by simp, HBK.out⟩
          case round =>
            obtain ⟨j, hgj, rfl, hj, rfl, hbj⟩ := hrel
            have HGJ := hide hgj
            have HBJ := hide hbj
            clear hgj hbj HBK
            by_cases hltj : j < A.length
            · obtain ⟨g, o, rfl, hp⟩ := HA.out j hltj
              have HT := hide (any_step (fun y => ptEq x y) A j hltj)
              have hq0 := HXI.out wr (HBW.out wr HBJ.out)
              have hp0 := hp wr (HBW.out wr HBJ.out)
              have hE := eqPt x A[j]
              generalize A[j] = y at *
              generalize (A.take j).any (fun y => ptEq x y) = b2 at *
              obtain ⟨p1, p2, p3⟩ := hp0
              obtain ⟨q1, q2, q3⟩ := hq0
              clear hp
              generalize ptEq x y = b3 at *
              cases b2
              all_goals
                go_wp2_with fail
                go_quiet (fail)
                have HBQ := hide (HBJ.out.trans (below_drewN' wr nq _))
                generalize World.drewN wr nq = w9 at *
                go_wp2_with fail
                go_roundg (A.length - (j + 1))
                case measure => have := HGJ.out; omega
                case rel => exact ⟨j + 1, rfl, by go_num, hltj, by rw [HT.out]; rfl, HBQ.out⟩
            · have ej : j = A.length := by omega
              subst ej
              rw [List.take_length, HXX.out]
              generalize Ward.inB (Ward.window ⟨0, qa, qb, qc, qd, qx, qy, qk⟩) x = r at *
              have HS := hide (fun (W : World) (hb : Below w1.heap.size w1 W) => show (fun W => (W.cell? ⟨g2, o2 + k * 3, none⟩ = some (I x.id) ∧ W.cell? ⟨g2, o2 + k * 3 + 1, none⟩ = some (I x.x) ∧ W.cell? ⟨g2, o2 + k * 3 + 2, none⟩ = some (I x.y)) ∧ W.cell? ⟨w.heap.size, 0, none⟩ = some (I 0) ∧ W.cell? ⟨w.heap.size, 1, none⟩ = some (I qa) ∧ W.cell? ⟨w.heap.size, 2, none⟩ = some (I qb) ∧ W.cell? ⟨w.heap.size, 3, none⟩ = some (I qc) ∧ W.cell? ⟨w.heap.size, 4, none⟩ = some (I qd) ∧ W.cell? ⟨w.heap.size, 5, none⟩ = some (I qx) ∧ W.cell? ⟨w.heap.size, 6, none⟩ = some (I qy) ∧ W.cell? ⟨w.heap.size, 7, none⟩ = some (I qk)) W from ⟨HXI.out W (HBW.out W hb), HQ.out W hb⟩)
              have hS5 := HS.out wr.drew HBJ.out.drew
              have hsz := HBJ.out.size
              have hi1 : (k : Int) < (l.length : Int) := by omega
              go_upto_region 26 with fail
              go_region_held3 (fun W => (W.cell? ⟨g2, o2 + k * 3, none⟩ = some (I x.id) ∧ W.cell? ⟨g2, o2 + k * 3 + 1, none⟩ = some (I x.x) ∧ W.cell? ⟨g2, o2 + k * 3 + 2, none⟩ = some (I x.y)) ∧ W.cell? ⟨w.heap.size, 0, none⟩ = some (I 0) ∧ W.cell? ⟨w.heap.size, 1, none⟩ = some (I qa) ∧ W.cell? ⟨w.heap.size, 2, none⟩ = some (I qb) ∧ W.cell? ⟨w.heap.size, 3, none⟩ = some (I qc) ∧ W.cell? ⟨w.heap.size, 4, none⟩ = some (I qd) ∧ W.cell? ⟨w.heap.size, 5, none⟩ = some (I qx) ∧ W.cell? ⟨w.heap.size, 6, none⟩ = some (I qy) ∧ W.cell? ⟨w.heap.size, 7, none⟩ = some (I qk)) (first | exact hS5 | exact hS6) ((go_at_call 53; go_must (refine (HINX.out _).mono ?_; rintro _ w6 ⟨rfl, hb6⟩; have HB6 := hide (HBJ.out.drew.trans (hb6.mono (by simp; omega))); have hS6 := HS.out w6 HB6.out; clear hb6)))
              all_goals
                have k0' : w6.cell? ⟨w.heap.size, 0, none⟩ = some (I 0) := (HQ.out _ HB6.out).1
                cases r
                all_goals
                  go_wp2_with fail
                  go_roundg (l.length - (k + 1))
                  case measure => have := HGK.out; omega
                  case rel => exact ⟨k + 1, rfl, by go_num, by go_num, hlt, HB6.out⟩
        · have ek : k = l.length := by omega
          subst ek
          have k0' : wr.cell? ⟨w.heap.size, 0, none⟩ = some (I 0) := (HQ.out _ HBK.out).1
          go_wp2_with fail
          go_ret
          exact ⟨rfl, HBW.out _ HBK.out⟩
end Go.Proofs.YtenaelkbgkpllaaGreatDoor
/- right, of what is nearest. -/
namespace Go.Proofs.YtenaelkbgkpllaaGreatDoor
open Go.RowKit

theorem last_get {α : Type} {l : List α} (h : 0 < l.length) : l.getLast? = some (l[l.length - 1]'(by omega)) := by
  rw [List.getLast?_eq_getElem?, List.getElem?_eq_getElem (by omega)]
set_option maxRecDepth 100000 in
set_option maxHeartbeats 8000000 in
theorem right_near (va vl : Value) (A l : List Ward.Pt) (qa qb qc qd qx qy qk : Int) (w : World) (ha : Reads w va A) (hl : Reads w vl l) (hR : Ward.RightIs ⟨1, qa, qb, qc, qd, qx, qy, qk⟩ A l) (hok : ∀ p ∈ l, p.Ok) (hx : -1000000 ≤ qx ∧ qx ≤ 1000000) (hy : -1000000 ≤ qy ∧ qy ≤ 1000000) (hA1 : (1 : Int) ≤ (A.length : Int)) (hn1 : A.length ≤ 1000) (hn2 : l.length ≤ 1000) :
    Calls Tryz.prog 23 #[va, vl, Qv ⟨1, qa, qb, qc, qd, qx, qy, qk⟩] w fun e w' => e = .returned (.bool true) ∧ Below w.heap.size w w' := by
  obtain ⟨aa, ca, ea, -⟩ := id ha
  obtain ⟨al, cl, el, -⟩ := id hl
  subst ea el
  have HA := hide ha.point.2
  have HL := hide hl.point.2
  have HMEM := hide hR.mem
  have HNEAR := hide (hR.near rfl)
  have HFAR := hide (fun (p : Ward.Pt) (hp : p ∈ l) (W : World) => far_any p ⟨1, qa, qb, qc, qd, qx, qy, qk⟩ W (hok p hp) hx hy)
  have HIN := hide (fun (p : Ward.Pt) (W : World) => in_any p ⟨1, qa, qb, qc, qd, qx, qy, qk⟩ W)
  clear ha hl hR hok hx hy
  have hb1' := fun o => (Below.refl w.heap.size w).alloc (Nat.le_refl _) o
  have hr1' := heap_alloc_new w
  go_enter Tryz.func23, Tryz.ntmps23
  go_upto_region 1 with fail
  generalize hW : World.alloc w _ = w1
  have hb1 : Below w.heap.size w w1 := by rw [← hW]; exact hb1' _
  have hr1 : w1.heap[w.heap.size]? = some (.cells #[I 1, I qa, I qb, I qc, I qd, I qx, I qy, I qk] 46 (0, 0)) := by rw [← hW]; exact hr1' _
  clear hb1' hr1' hW
  have hs1 : w.heap.size < w1.heap.size := (Array.getElem?_eq_some_iff.1 hr1).1
  have HB1 := hide hb1
  have HQ := hide (fun (W : World) (hb : Below w1.heap.size w1 W) => rowQ8 ((hb.block w.heap.size hs1).trans hr1))
  have HBW := hide (fun (W : World) (hb : Below w1.heap.size w1 W) => show Below w.heap.size w W from hb1.trans (hb.mono (by omega)))
  clear hb1 hr1
  go_wp2_with fail
  go_loopg [7, 8, 9, 10, 11] A.length (fun gk v7 _ _ _ _ wq => ∃ i : Nat, gk = A.length - i ∧ v7 = I i ∧ i ≤ A.length ∧ Below w1.heap.size w1 wq)
  case atStart => exact ⟨0, by omega, rfl, by omega, Below.refl _ _⟩
  case round =>
    obtain ⟨i, hgk, rfl, hi, hbl⟩ := hrel
    have HGK := hide hgk
    have HBL := hide hbl
    clear hgk hbl
    by_cases hlt : i < A.length
    · obtain ⟨g, o, rfl, hp⟩ := HA.out i hlt
      have HPI := hide hp
      have HPM := hide ((any_mem l A[i]).2 (HMEM.out _ (List.getElem_mem hlt)))
      have HPV := hide (show 0 < i → ∃ pv, pv ∈ l ∧ Ward.nr qx qy pv A[i] ∧ ∀ W, Below w.heap.size w W → PtAt W g (o + (i - 1) * 3) pv from fun h0 => by
        obtain ⟨g', o', e', h'⟩ := HA.out (i - 1) (by omega)
        injection e' with e'
        injection e' with e1 e2 e3
        subst e1 e2
        exact ⟨_, HMEM.out _ (List.getElem_mem _), pair_prev HNEAR.out.1 i hlt h0, h'⟩)
      have HPL := hide (HMEM.out _ (List.getElem_mem hlt))
      generalize A[i] = p at *
      clear hp
      go_wp2_with fail
      go_loopg [8, 9] l.length (fun gk v8 v9 wq => ∃ j : Nat, gk = l.length - j ∧ v9 = I j ∧ j ≤ l.length ∧ v8 = .bool ((l.take j).any (fun x => ptEq x p)) ∧ Below w1.heap.size w1 wq)
      case atStart => exact ⟨0, by omega, rfl, by omega, by simp, HBL.out⟩
      case round =>
        obtain ⟨j, hgj, rfl, hj, rfl, hbj⟩ := hrel
        have HGJ := hide hgj
        have HBJ := hide hbj
        clear hgj hbj HBL
        by_cases hltj : j < l.length
        · obtain ⟨g2, o2, rfl, hq⟩ := HL.out j hltj
          have HT := hide (any_step (fun x => ptEq x p) l j hltj)
          have hq0 := hq wr (HBW.out wr HBJ.out)
          have hp0 := HPI.out wr (HBW.out wr HBJ.out)
          have hE := eqPt l[j] p
          generalize l[j] = x at *
          generalize (l.take j).any (fun x => ptEq x p) = b2 at *
          obtain ⟨p1, p2, p3⟩ := hp0
          obtain ⟨q1, q2, q3⟩ := hq0
          clear hq
          generalize ptEq x p = b3 at *
          cases b2
          all_goals
            go_wp2_with fail
            go_quiet (fail)
            have HBQ := hide (HBJ.out.trans (below_drewN' wr nq _))
            generalize World.drewN wr nq = w9 at *
            go_wp2_with fail
            go_roundg (l.length - (j + 1))
            case measure => have := HGJ.out; omega
            case rel => exact ⟨j + 1, rfl, by go_num, hltj, by rw [HT.out]; rfl, HBQ.out⟩
        · have ej : j = l.length := by omega
          subst ej
          rw [List.take_length, HPM.out]
          obtain ⟨k0, k1, k2, k3, k4, k5, k6, k7⟩ := HQ.out wr HBJ.out
          cases i with
          | zero =>
            go_upto_region 11 with fail
            go_quiet (fail)
            have HBQ := hide (HBJ.out.trans (below_drewN' wr nq _))
            have k0' : (wr.drewN nq).cell? ⟨w.heap.size, 0, none⟩ = some (I 1) := (HQ.out _ HBQ.out).1
            generalize World.drewN wr nq = w9 at *
            clear k0 k1 k2 k3 k4 k5 k6 k7
            go_wp2_with fail
            go_roundg (A.length - (0 + 1))
            case measure => have := HGK.out; omega
            case rel => exact ⟨0 + 1, rfl, by go_num, hlt, HBQ.out⟩
          | succ i =>
            obtain ⟨pv, hpl, hlo, hpv⟩ := HPV.out (by omega)
            rw [Nat.add_sub_cancel] at hpv
            have HPVV := hide hpv
            have HF1 := hide (fun W => HFAR.out pv hpl W)
            have HF2 := hide (fun W => HFAR.out p HPL.out W)
            unfold Ward.nr at hlo
            rw [Ward.far_dist, Ward.far_dist] at hlo
            generalize Ward.far pv qx qy = fa at *
            generalize Ward.far p qx qy = fb at *
            have HLO := hide hlo
            have HS := hide (fun (W : World) (hb : Below w1.heap.size w1 W) => show (fun W => (W.cell? ⟨g, o + i * 3, none⟩ = some (I pv.id) ∧ W.cell? ⟨g, o + i * 3 + 1, none⟩ = some (I pv.x) ∧ W.cell? ⟨g, o + i * 3 + 2, none⟩ = some (I pv.y)) ∧ (W.cell? ⟨g, o + (i + 1) * 3, none⟩ = some (I p.id) ∧ W.cell? ⟨g, o + (i + 1) * 3 + 1, none⟩ = some (I p.x) ∧ W.cell? ⟨g, o + (i + 1) * 3 + 2, none⟩ = some (I p.y)) ∧ W.cell? ⟨w.heap.size, 0, none⟩ = some (I 1) ∧ W.cell? ⟨w.heap.size, 1, none⟩ = some (I qa) ∧ W.cell? ⟨w.heap.size, 2, none⟩ = some (I qb) ∧ W.cell? ⟨w.heap.size, 3, none⟩ = some (I qc) ∧ W.cell? ⟨w.heap.size, 4, none⟩ = some (I qd) ∧ W.cell? ⟨w.heap.size, 5, none⟩ = some (I qx) ∧ W.cell? ⟨w.heap.size, 6, none⟩ = some (I qy) ∧ W.cell? ⟨w.heap.size, 7, none⟩ = some (I qk)) W from ⟨hpv W (HBW.out W hb), HPI.out W (HBW.out W hb), HQ.out W hb⟩)
            have hsz := HBJ.out.size
            have hi1 : (i : Int) < (A.length : Int) := by omega
            have hi2 : (i : Int) + 1 < (A.length : Int) := by omega
            have hi3 : (0 : Int) ≤ (i : Int) + 1 := by omega
            have hw1 : IntKind.i64.wrap (i : Int) = (i : Int) := by simp [IntKind.wrap, IntKind.signed, IntKind.bits]; omega
            have hw2 : IntKind.i64.wrap ((i : Int) + 1 - 1) = (i : Int) := by rw [Int.add_sub_cancel]; exact hw1
            have hw3 : wrap64 (i : Int) = (i : Int) := by unfold wrap64; omega
            have hw4 : wrap64 ((i : Int) + 1 - 1) = (i : Int) := by unfold wrap64; omega
            clear hlo hpv hpl
            go_upto_region 11 with fail
            go_quiet (fail)
            have HBQ := hide (HBJ.out.trans (below_drewN' wr nq _))
            have k0' : (wr.drewN nq).cell? ⟨w.heap.size, 0, none⟩ = some (I 1) := (HQ.out _ HBQ.out).1
            have hsq : w1.heap.size ≤ (wr.drewN nq).heap.size := hsz
            generalize World.drewN wr nq = w9 at *
            clear k0 k1 k2 k3 k4 k5 k6 k7
            have hS5 := HS.out w9.drew HBQ.out.drew
            go_upto_region 14 with fail
            go_region_held3 (fun W => (W.cell? ⟨g, o + i * 3, none⟩ = some (I pv.id) ∧ W.cell? ⟨g, o + i * 3 + 1, none⟩ = some (I pv.x) ∧ W.cell? ⟨g, o + i * 3 + 2, none⟩ = some (I pv.y)) ∧ (W.cell? ⟨g, o + (i + 1) * 3, none⟩ = some (I p.id) ∧ W.cell? ⟨g, o + (i + 1) * 3 + 1, none⟩ = some (I p.x) ∧ W.cell? ⟨g, o + (i + 1) * 3 + 2, none⟩ = some (I p.y)) ∧ W.cell? ⟨w.heap.size, 0, none⟩ = some (I 1) ∧ W.cell? ⟨w.heap.size, 1, none⟩ = some (I qa) ∧ W.cell? ⟨w.heap.size, 2, none⟩ = some (I qb) ∧ W.cell? ⟨w.heap.size, 3, none⟩ = some (I qc) ∧ W.cell? ⟨w.heap.size, 4, none⟩ = some (I qd) ∧ W.cell? ⟨w.heap.size, 5, none⟩ = some (I qx) ∧ W.cell? ⟨w.heap.size, 6, none⟩ = some (I qy) ∧ W.cell? ⟨w.heap.size, 7, none⟩ = some (I qk)) (first | exact hS5 | exact hS6 | exact hS7) ((first | (go_at_call_of 52 (I pv.id); go_must (refine (HF1.out _).mono ?_; rintro _ w6 ⟨rfl, hb6⟩; have hs6 := hb6.size; have HB6 := hide (HBQ.out.drew.trans (hb6.mono (by simp; omega))); have hS6 := HS.out w6 HB6.out; clear hb6)) | (go_at_call_of 52 (I p.id); go_must (refine (HF2.out _).mono ?_; rintro _ w7 ⟨rfl, hb7⟩; have HB7 := hide (HB6.out.trans (hb7.mono (by simp at hs6; omega))); have hS7 := HS.out w7 HB7.out; clear hb7))))
            all_goals
              clear hS5 hS6
              obtain ⟨⟨p1, p2, p3⟩, ⟨q1, q2, q3⟩, k0, k1, k2, k3, k4, k5, k6, k7⟩ := hS7
              by_cases hab : fa = fb
              · have hid : pv.id < p.id := by have := HLO.out; omega
                have hgt : ¬ fb < fa := by omega
                go_upto_region 15 with fail
                go_quiet (fail)
                have HB9 := hide (HB7.out.trans (below_drewN' w7 nq _))
                generalize World.drewN w7 nq = w8 at *
                go_wp2_with fail
                go_roundg (A.length - (i + 1 + 1))
                case measure => have := HGK.out; omega
                case rel => exact ⟨i + 1 + 1, rfl, by go_num, hlt, HB9.out⟩
              · have hgt : ¬ fb < fa := by have := HLO.out; omega
                go_upto_region 15 with fail
                go_quiet (fail)
                have HB9 := hide (HB7.out.trans (below_drewN' w7 nq _))
                generalize World.drewN w7 nq = w8 at *
                go_wp2_with fail
                go_roundg (A.length - (i + 1 + 1))
                case measure => have := HGK.out; omega
                case rel => exact ⟨i + 1 + 1, rfl, by go_num, hlt, HB9.out⟩
    · have ei : i = A.length := by omega
      subst ei
      obtain ⟨k0, k1, k2, k3, k4, k5, k6, k7⟩ := HQ.out wr HBL.out
      clear hlt hi HGK
      go_wp2_with fail
      clear k0 k1 k2 k3 k4 k5 k6 k7
      go_loopg [12, 13, 14, 15, 16, 17, 18] l.length (fun gk v12 v13 _ _ _ _ _ wq => ∃ k : Nat, gk = l.length - k ∧ v12 = I k ∧ v13 = I k ∧ k ≤ l.length ∧ Below w1.heap.size w1 wq)
      case atStart => exact ⟨0, by omega, rfl, rfl, by omega, HBL.out⟩
      case round =>
        obtain ⟨k, hgk, rfl, rfl, hk, hbl⟩ := hrel
        have HGK := hide hgk
        have HBK := hide hbl
        clear hgk hbl HBL
        by_cases hlt : k < l.length
        · obtain ⟨g2, o2, rfl, hq⟩ := HL.out k hlt
          have HXI := hide hq
          have HXX := hide (show A.any (fun y => ptEq l[k] y) = false → ∀ z, A.getLast? = some z → Ward.nr qx qy z l[k] from fun h => HNEAR.out.2.1 l[k] (List.getElem_mem hlt) (fun hm => by rw [(any_mem' A l[k]).2 hm] at h; cases h))
          have HXL := hide (List.getElem_mem (l := l) hlt)
          have HINX := hide (fun W => HIN.out l[k] W)
          generalize l[k] = x at *
          clear hq
          go_wp2_with fail
          go_loopg [14, 15] A.length (fun gk v14 v15 wq => ∃ j : Nat, gk = A.length - j ∧ v15 = I j ∧ j ≤ A.length ∧ v14 = .bool ((A.take j).any (fun y => ptEq x y)) ∧ Below w1.heap.size w1 wq)
          case atStart => exact ⟨0, by omega, rfl, by omega, by simp, HBK.out⟩
          case round =>
            obtain ⟨j, hgj, rfl, hj, rfl, hbj⟩ := hrel
            have HGJ := hide hgj
            have HBJ := hide hbj
            clear hgj hbj HBK
            by_cases hltj : j < A.length
            · obtain ⟨g, o, rfl, hp⟩ := HA.out j hltj
              have HT := hide (any_step (fun y => ptEq x y) A j hltj)
              have hq0 := HXI.out wr (HBW.out wr HBJ.out)
              have hp0 := hp wr (HBW.out wr HBJ.out)
              have hE := eqPt x A[j]
              generalize A[j] = y at *
              generalize (A.take j).any (fun y => ptEq x y) = b2 at *
              obtain ⟨p1, p2, p3⟩ := hp0
              obtain ⟨q1, q2, q3⟩ := hq0
              clear hp
              generalize ptEq x y = b3 at *
              cases b2
              all_goals
                go_wp2_with fail
                go_quiet (fail)
                have HBQ := hide (HBJ.out.trans (below_drewN' wr nq _))
                generalize World.drewN wr nq = w9 at *
                go_wp2_with fail
                go_roundg (A.length - (j + 1))
                case measure => have := HGJ.out; omega
                case rel => exact ⟨j + 1, rfl, by go_num, hltj, by rw [HT.out]; rfl, HBQ.out⟩
            · have ej : j = A.length := by omega
              subst ej
              rw [List.take_length]
              generalize A.any (fun y => ptEq x y) = hs at *
              have HS := hide (fun (W : World) (hb : Below w1.heap.size w1 W) => show (fun W => (W.cell? ⟨g2, o2 + k * 3, none⟩ = some (I x.id) ∧ W.cell? ⟨g2, o2 + k * 3 + 1, none⟩ = some (I x.x) ∧ W.cell? ⟨g2, o2 + k * 3 + 2, none⟩ = some (I x.y)) ∧ W.cell? ⟨w.heap.size, 0, none⟩ = some (I 1) ∧ W.cell? ⟨w.heap.size, 1, none⟩ = some (I qa) ∧ W.cell? ⟨w.heap.size, 2, none⟩ = some (I qb) ∧ W.cell? ⟨w.heap.size, 3, none⟩ = some (I qc) ∧ W.cell? ⟨w.heap.size, 4, none⟩ = some (I qd) ∧ W.cell? ⟨w.heap.size, 5, none⟩ = some (I qx) ∧ W.cell? ⟨w.heap.size, 6, none⟩ = some (I qy) ∧ W.cell? ⟨w.heap.size, 7, none⟩ = some (I qk)) W from ⟨HXI.out W (HBW.out W hb), HQ.out W hb⟩)
              have hS5 := HS.out wr.drew HBJ.out.drew
              have hsz := HBJ.out.size
              have hi1 : (k : Int) < (l.length : Int) := by omega
              go_upto_region 26 with fail
              go_region_held3 (fun W => (W.cell? ⟨g2, o2 + k * 3, none⟩ = some (I x.id) ∧ W.cell? ⟨g2, o2 + k * 3 + 1, none⟩ = some (I x.x) ∧ W.cell? ⟨g2, o2 + k * 3 + 2, none⟩ = some (I x.y)) ∧ W.cell? ⟨w.heap.size, 0, none⟩ = some (I 1) ∧ W.cell? ⟨w.heap.size, 1, none⟩ = some (I qa) ∧ W.cell? ⟨w.heap.size, 2, none⟩ = some (I qb) ∧ W.cell? ⟨w.heap.size, 3, none⟩ = some (I qc) ∧ W.cell? ⟨w.heap.size, 4, none⟩ = some (I qd) ∧ W.cell? ⟨w.heap.size, 5, none⟩ = some (I qx) ∧ W.cell? ⟨w.heap.size, 6, none⟩ = some (I qy) ∧ W.cell? ⟨w.heap.size, 7, none⟩ = some (I qk)) (first | exact hS5 | exact hS6) ((go_at_call 53; go_must (refine (HINX.out _).mono ?_; rintro _ w6 ⟨rfl, hb6⟩; have hs6 := hb6.size; have HB6 := hide (HBJ.out.drew.trans (hb6.mono (by simp; omega))); have hS6 := HS.out w6 HB6.out; clear hb6)))
              all_goals
                clear hS5 hS6
                have k0' : w6.cell? ⟨w.heap.size, 0, none⟩ = some (I 1) := (HQ.out _ HB6.out).1
                generalize Ward.inB (Ward.window ⟨1, qa, qb, qc, qd, qx, qy, qk⟩) x = r at *
                cases hs with
                | true =>
                  go_wp2_with fail
                  go_roundg (l.length - (k + 1))
                  case measure => have := HGK.out; omega
                  case rel => exact ⟨k + 1, rfl, by go_num, by go_num, hlt, HB6.out⟩
                | false =>
                  · have hA0' : (0 : Int) < (A.length : Int) := by omega
                    have hA2 : 1 ≤ A.length := by omega
                    have hA3 : 0 < A.length := by omega
                    obtain ⟨g, o, rfl, hz⟩ := HA.out (A.length - 1) (by omega)
                    have hnr := HXX.out rfl _ (last_get (by omega))
                    have hzl := HMEM.out _ (List.getElem_mem (show A.length - 1 < A.length by omega))
                    generalize A[A.length - 1] = z at *
                    have HF1 := hide (fun W => HFAR.out x HXL.out W)
                    have HF2 := hide (fun W => HFAR.out z hzl W)
                    unfold Ward.nr at hnr
                    rw [Ward.far_dist, Ward.far_dist] at hnr
                    generalize Ward.far z qx qy = fb at *
                    generalize Ward.far x qx qy = fa at *
                    have HNR := hide hnr
                    have HS3 := hide (fun (W : World) (hb : Below w1.heap.size w1 W) => show (fun W => (W.cell? ⟨g2, o2 + k * 3, none⟩ = some (I x.id) ∧ W.cell? ⟨g2, o2 + k * 3 + 1, none⟩ = some (I x.x) ∧ W.cell? ⟨g2, o2 + k * 3 + 2, none⟩ = some (I x.y)) ∧ (W.cell? ⟨g, o + (A.length - 1) * 3, none⟩ = some (I z.id) ∧ W.cell? ⟨g, o + (A.length - 1) * 3 + 1, none⟩ = some (I z.x) ∧ W.cell? ⟨g, o + (A.length - 1) * 3 + 2, none⟩ = some (I z.y)) ∧ W.cell? ⟨w.heap.size, 0, none⟩ = some (I 1) ∧ W.cell? ⟨w.heap.size, 1, none⟩ = some (I qa) ∧ W.cell? ⟨w.heap.size, 2, none⟩ = some (I qb) ∧ W.cell? ⟨w.heap.size, 3, none⟩ = some (I qc) ∧ W.cell? ⟨w.heap.size, 4, none⟩ = some (I qd) ∧ W.cell? ⟨w.heap.size, 5, none⟩ = some (I qx) ∧ W.cell? ⟨w.heap.size, 6, none⟩ = some (I qy) ∧ W.cell? ⟨w.heap.size, 7, none⟩ = some (I qk)) W from ⟨HXI.out W (HBW.out W hb), hz W (HBW.out W hb), HQ.out W hb⟩)
                    have hix : ((A.length : Int) - 1).toNat = A.length - 1 := by omega
                    have hw3 : wrap64 ((A.length : Int) - 1) = (A.length : Int) - 1 := by unfold wrap64; omega
                    have hw1 : IntKind.i64.wrap ((A.length : Int) - 1) = (A.length : Int) - 1 := by simp [IntKind.wrap, IntKind.signed, IntKind.bits]; omega
                    have hj1 : (0 : Int) ≤ (A.length : Int) - 1 := by omega
                    have hj2 : (A.length : Int) - 1 < (A.length : Int) := by omega
                    have hsq : w1.heap.size ≤ w6.heap.size := HB6.out.size
                    have hS7 := HS3.out w6.drew HB6.out.drew
                    clear hnr hz hzl
                    go_upto_region 30 with fail
                    go_region_held3 (fun W => (W.cell? ⟨g2, o2 + k * 3, none⟩ = some (I x.id) ∧ W.cell? ⟨g2, o2 + k * 3 + 1, none⟩ = some (I x.x) ∧ W.cell? ⟨g2, o2 + k * 3 + 2, none⟩ = some (I x.y)) ∧ (W.cell? ⟨g, o + (A.length - 1) * 3, none⟩ = some (I z.id) ∧ W.cell? ⟨g, o + (A.length - 1) * 3 + 1, none⟩ = some (I z.x) ∧ W.cell? ⟨g, o + (A.length - 1) * 3 + 2, none⟩ = some (I z.y)) ∧ W.cell? ⟨w.heap.size, 0, none⟩ = some (I 1) ∧ W.cell? ⟨w.heap.size, 1, none⟩ = some (I qa) ∧ W.cell? ⟨w.heap.size, 2, none⟩ = some (I qb) ∧ W.cell? ⟨w.heap.size, 3, none⟩ = some (I qc) ∧ W.cell? ⟨w.heap.size, 4, none⟩ = some (I qd) ∧ W.cell? ⟨w.heap.size, 5, none⟩ = some (I qx) ∧ W.cell? ⟨w.heap.size, 6, none⟩ = some (I qy) ∧ W.cell? ⟨w.heap.size, 7, none⟩ = some (I qk)) (first | exact hS7 | exact hS8 | exact hS9) ((first | (go_at_call_of 52 (I x.id); go_must (refine (HF1.out _).mono ?_; rintro _ w7 ⟨rfl, hb7⟩; have hs7 := hb7.size; have HB7 := hide (HB6.out.drew.trans (hb7.mono (by simp; omega))); have hS8 := HS3.out w7 HB7.out; clear hb7)) | (go_at_call_of 52 (I z.id); go_must (refine (HF2.out _).mono ?_; rintro _ w8 ⟨rfl, hb8⟩; have HB8 := hide (HB7.out.trans (hb8.mono (by simp at hs7; omega))); have hS9 := HS3.out w8 HB8.out; clear hb8))))
                    all_goals
                      clear hS7 hS8
                      obtain ⟨⟨p1, p2, p3⟩, ⟨q1, q2, q3⟩, k0, k1, k2, k3, k4, k5, k6, k7⟩ := hS9
                      by_cases hab : fa = fb
                      · have hid : ¬ x.id < z.id := by have := HNR.out; omega
                        have hgt : ¬ fa < fb := by omega
                        go_upto_region 31 with fail
                        go_quiet (fail)
                        have HB9 := hide (HB8.out.trans (below_drewN' w8 nq _))
                        generalize World.drewN w8 nq = w9 at *
                        go_wp2_with fail
                        go_roundg (l.length - (k + 1))
                        case measure => have := HGK.out; omega
                        case rel => exact ⟨k + 1, rfl, by go_num, by go_num, hlt, HB9.out⟩
                      · have hgt : ¬ fa < fb := by have := HNR.out; omega
                        go_upto_region 31 with fail
                        go_quiet (fail)
                        have HB9 := hide (HB8.out.trans (below_drewN' w8 nq _))
                        generalize World.drewN w8 nq = w9 at *
                        go_wp2_with fail
                        go_roundg (l.length - (k + 1))
                        case measure => have := HGK.out; omega
                        case rel => exact ⟨k + 1, rfl, by go_num, by go_num, hlt, HB9.out⟩
        · have ek : k = l.length := by omega
          subst ek
          obtain ⟨k0, k1, k2, k3, k4, k5, k6, k7⟩ := HQ.out wr HBK.out
          by_cases hmany : qk < (l.length : Int)
          · have hfin : (A.length : Int) = qk := by have : (A.length : Int) = min (l.length : Int) qk := HNEAR.out.2.2; omega
            go_wp2_with fail
            go_ret
            exact ⟨rfl, HBW.out _ HBK.out⟩
          · have hfin : (A.length : Int) = (l.length : Int) := by have : (A.length : Int) = min (l.length : Int) qk := HNEAR.out.2.2; omega
            go_wp2_with fail
            go_ret
            exact ⟨rfl, HBW.out _ HBK.out⟩
end Go.Proofs.YtenaelkbgkpllaaGreatDoor
