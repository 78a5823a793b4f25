/- same; a query out of raw numbers. -/
import Derived.Test.YtenaelkbgkpllaaGreatDoorSole14
import Derived.BigQuiet
import Derived.Test.YtenaelkbgkpllaaGreatDoorSole11
import Derived.Test.YtenaelkbgkpllaaGreatDoorSole12
namespace Go.Proofs.YtenaelkbgkpllaaGreatDoor
open Go.RowKit

theorem Reads.point {w : World} {a : Option Addr} {n c : Nat} {L : List Ward.Pt} (h : Reads w (.slice a n c) L) : n = L.length ∧ (∀ i (hi : i < L.length), ∃ g o, a = some ⟨g, o, none⟩ ∧ ∀ w', Below w.heap.size w w' → PtAt w' g (o + i * 3) L[i]) := by
  obtain ⟨a', c', e, hr⟩ := h
  injection e with e1 e2 e3
  refine ⟨e2, fun i hi => ?_⟩
  obtain ⟨g, o, rfl, hp⟩ := hr (fun e => by subst e; simp at hi)
  exact ⟨g, o, e1, fun w' hb => (hp i hi).below hb (hp i hi).lt⟩
theorem take_step {α : Type} (A B : List α) (i : Nat) (ha : i < A.length) (hb : i < B.length) (h : A.take i = B.take i) (he : A[i] = B[i]) : A.take (i + 1) = B.take (i + 1) := by
  rw [List.take_succ_eq_append_getElem ha, List.take_succ_eq_append_getElem hb, h, he]
set_option maxRecDepth 100000 in
set_option maxHeartbeats 4000000 in
theorem same_any (va vb : Value) (A B : List Ward.Pt) (w : World) (ha : Reads w va A) (hb : Reads w vb B) (hl : A.length ≤ 1000) :
    Calls Tryz.prog 24 #[va, vb] w fun e w' => (∃ r : Bool, e = .returned (.bool r) ∧ (r = true ↔ A = B)) ∧ Below w.heap.size w w' := by
  obtain ⟨aa, ca, ea, -⟩ := id ha
  obtain ⟨ab, cb, eb, -⟩ := id hb
  subst ea eb
  have HA := hide ha.point.2
  have HB := hide hb.point.2
  clear ha hb
  go_enter Tryz.func24, Tryz.ntmps24
  by_cases hlen : A.length = B.length
  · have hlen' : (A.length : Int) = (B.length : Int) := by omega
    have HLN := hide hlen
    clear hlen
    go_wp2_with fail
    clear hlen'
    go_loopg [5] A.length (fun gk v5 wq => ∃ i : Nat, gk = A.length - i ∧ v5 = I i ∧ i ≤ A.length ∧ A.take i = B.take i ∧ Below w.heap.size w wq)
    case atStart => exact ⟨0, by omega, rfl, by omega, rfl, Below.refl _ _⟩
    case round =>
      obtain ⟨i, hgk, rfl, hi, ht, hbl⟩ := hrel
      have HGK := hide hgk
      have HT := hide ht
      have HBL := hide hbl
      clear hgk ht hbl
      by_cases hlt : i < A.length
      · have hlt2 : i < B.length := by rw [← HLN.out]; exact hlt
        obtain ⟨g, o, rfl, hp⟩ := HA.out i hlt
        obtain ⟨g2, o2, rfl, hq⟩ := HB.out i hlt2
        have hp0 := hp wr HBL.out
        have hq0 := hq wr HBL.out
        have HST := hide (take_step A B i hlt hlt2 HT.out)
        have HNE := hide (show A[i] ≠ B[i] → A ≠ B from fun h e => h (by subst e; rfl))
        have hE := eqPt A[i] B[i]
        have HEQ := hide (ptEq_iff A[i] B[i])
        generalize A[i] = p at *
        generalize B[i] = q at *
        obtain ⟨p1, p2, p3⟩ := hp0
        obtain ⟨q1, q2, q3⟩ := hq0
        generalize ptEq p q = b3 at *
        clear hp hq
        go_wp2_with fail
        go_quiet (fail)
        have HBQ := hide (show Below w.heap.size w (wr.drewN nq) from HBL.out.trans ⟨rfl, rfl, rfl, Nat.le_refl _, fun _ _ => rfl⟩)
        generalize World.drewN wr nq = w9 at *
        cases b3 with
        | true =>
          go_wp2_with fail
          go_roundg (A.length - (i + 1))
          case measure => have := HGK.out; omega
          case rel => exact ⟨i + 1, rfl, by go_num, hlt, HST.out (HEQ.out.1 (by trivial)), HBQ.out⟩
        | false =>
          go_wp2_with fail
          go_ret
          exact ⟨⟨false, rfl, ⟨fun h => (by cases h), fun h => absurd h (HNE.out (fun e => by have := HEQ.out.2 e; simp at this))⟩⟩, HBQ.out⟩
      · have ei : i = A.length := by omega
        subst ei
        go_wp2_with fail
        go_ret
        refine ⟨⟨true, rfl, ⟨fun _ => ?_, fun _ => rfl⟩⟩, HBL.out⟩
        have h := HT.out
        rw [List.take_length, HLN.out, List.take_length] at h
        exact h
  · have hlen' : ¬ (A.length : Int) = (B.length : Int) := by omega
    go_wp2_with fail
    go_ret
    exact ⟨⟨false, rfl, ⟨fun h => (by cases h), fun h => absurd (by rw [h]) hlen⟩⟩, Below.refl _ _⟩
/-- what query makes: a query that may be, of small numbers -/
def SmallQ (q : Ward.Qr) : Prop := Ward.mayBe q = true ∧ (-8 ≤ q.x ∧ q.x ≤ 8) ∧ (-8 ≤ q.y ∧ q.y ≤ 8)
theorem window_may {a b c d : Int} (ha : -8 ≤ a ∧ a ≤ 8) (hb : -8 ≤ b ∧ b ≤ 8) (hc : 0 ≤ c ∧ c < 9) (hd : 0 ≤ d ∧ d < 9) : SmallQ ⟨0, a, b, a + c, b + d, 0, 0, 0⟩ := by
  refine ⟨?_, (show (-8 : Int) ≤ 0 ∧ (0 : Int) ≤ 8 by decide), (show (-8 : Int) ≤ 0 ∧ (0 : Int) ≤ 8 by decide)⟩
  show Ward.boxMay ⟨a, b, a + c, b + d⟩ = true
  simp only [Ward.boxMay, Ward.coordOk, Bool.and_eq_true, decide_eq_true_eq]
  omega
theorem near_may {a b c : Int} (ha : -8 ≤ a ∧ a ≤ 8) (hb : -8 ≤ b ∧ b ≤ 8) (hc : 0 ≤ c ∧ c < 20) : SmallQ ⟨1, 0, 0, 0, 0, a, b, 1 + c⟩ := by
  refine ⟨?_, ha, hb⟩
  show (Ward.coordOk a && Ward.coordOk b && decide (1 ≤ 1 + c) && decide (1 + c ≤ 20)) = true
  simp only [Ward.coordOk, Bool.and_eq_true, decide_eq_true_eq]
  omega
theorem underQ : ∃ fs, Tryz.prog.underlying 46 = some (.struct fs) := by
  have h : Tryz.prog.underlying 46 = some (.struct (Tryz.prog.fieldsOf 46)) := by kernel_rfl
  exact ⟨_, h⟩
theorem sizeQ : (Tryz.prog.info? 46).map (·.size) = some 8 := by kernel_rfl
theorem one8 (a b c d e f g h : Int) : (#[I a, I b, I c, I d, I e, I f, I g, I h] : Array Value).all (·.oneCell') = true := all_oneCell_toArray (cs := [I a, I b, I c, I d, I e, I f, I g, I h]) (fun v hv => by
  simp only [List.mem_cons, List.not_mem_nil, or_false] at hv
  rcases hv with rfl | rfl | rfl | rfl | rfl | rfl | rfl | rfl <;> rfl)
set_option maxRecDepth 100000 in
set_option maxHeartbeats 4000000 in
theorem query_any (B d : Nat) (code : List Int) (k : Nat) (w : World) (hd : Dice w B d code k) (hB : B ≤ w.heap.size) :
    Calls Tryz.prog 20 #[.pointer (some ⟨d, 0, none⟩)] w fun e w' => ∃ q k', e = .returned (Qv q) ∧ SmallQ q ∧ Dice w' B d code k' ∧ Keeps (fun j => j = d) w w' := by
  have hdlt := hd.low
  have HD := hide hd
  have hb1' := fun o => (Below.refl w.heap.size w).alloc (Nat.le_refl _) o
  have hr1' := heap_alloc_new w
  obtain ⟨fs, hu⟩ := underQ
  have HU := hide hu
  clear hd hu
  go_enter Tryz.func20, Tryz.ntmps20
  go_upto_region 1 with fail
  generalize hW : World.alloc w _ = w1
  have hb1 : Below w.heap.size w w1 := by rw [← hW]; exact hb1' _
  have hr1 : w1.heap[w.heap.size]? = some (.cells #[I 0, I 0, I 0, I 0, I 0, I 0, I 0, I 0] 46 (0, 0)) := by rw [← hW]; exact hr1' _
  clear hb1' hr1' hW
  have hs1 : w.heap.size < w1.heap.size := (Array.getElem?_eq_some_iff.1 hr1).1
  have HR1 := hide hr1
  have HD1 := hide (HD.out.below hb1)
  have HK1 := hide (show Keeps (fun j => j = d) w w1 from Keeps.of_below hb1)
  clear hb1 hr1
  go_wp2_with fail
  refine (next_any B d code k 17 w1 HD1.out (by decide) (by decide)).mono ?_
  rintro _ w2 ⟨r1, j1, rfl, a1, a2, hd2, hk2⟩
  have hs2 := hk2.size
  have HD2 := hide hd2
  have HR2 := hide ((hk2.block w.heap.size (by omega) (by omega)).trans HR1.out)
  have HK2 := hide (HK1.out.trans hk2 (fun _ _ h => h))
  clear hd2 hk2
  go_wp2_with fail
  refine (next_any B d code j1 17 w2 HD2.out (by decide) (by decide)).mono ?_
  rintro _ w3 ⟨r2, j2, rfl, b1, b2, hd3, hk3⟩
  have hs3 := hk3.size
  have HD3 := hide hd3
  have HR3 := hide ((hk3.block w.heap.size (by omega) (by omega)).trans HR2.out)
  have HK3 := hide (HK2.out.trans hk3 (fun _ _ h => h))
  clear hd3 hk3
  go_wp2_with fail
  refine (next_any B d code j2 2 w3 HD3.out (by decide) (by decide)).mono ?_
  rintro _ w4 ⟨r3, j3, rfl, c1, c2, hd4, hk4⟩
  have hs4 := hk4.size
  have HD4 := hide hd4
  have HR4 := hide ((hk4.block w.heap.size (by omega) (by omega)).trans HR3.out)
  have HK4 := hide (HK3.out.trans hk4 (fun _ _ h => h))
  clear hd4 hk4
  by_cases h0 : r3 = 0
  · go_wp2_with fail
    refine (next_any B d code j3 9 w4 HD4.out (by decide) (by decide)).mono ?_
    rintro _ w5 ⟨r4, j4, rfl, d1, d2, hd5, hk5⟩
    have hs5 := hk5.size
    have HD5 := hide hd5
    have HR5 := hide ((hk5.block w.heap.size (by omega) (by omega)).trans HR4.out)
    have HK5 := hide (HK4.out.trans hk5 (fun _ _ h => h))
    clear hd5 hk5
    go_wp2_with fail
    refine (next_any B d code j4 9 w5 HD5.out (by decide) (by decide)).mono ?_
    rintro _ w6 ⟨r5, j5, rfl, e1, e2, hd6, hk6⟩
    have hs6 := hk6.size
    have HD6 := hide hd6
    have HR6 := hide ((hk6.block w.heap.size (by omega) (by omega)).trans HR5.out)
    have HK6 := hide (HK5.out.trans hk6 (fun _ _ h => h))
    clear hd6 hk6
    have HQ := hide (window_may (a := r1 - 8) (b := r2 - 8) (c := r4) (d := r5) (by omega) (by omega) (by omega) (by omega))
    go_wp2_with (refine wpList_store_row rfl 46 (.tmp 2) (.tmp 24) rfl w.heap.size #[I 0, I (r1 - 8), I (r2 - 8), I (r1 - 8 + r4), I (r2 - 8 + r5), I 0, I 0, I 0] rfl rfl 46 _ HR6.out sizeQ rfl (one8 _ _ _ _ _ _ _ _) ?_)
    refine bodyPost_ret (results_cell_row rfl _ _ w.heap.size 46 #[I 0, I (r1 - 8), I (r2 - 8), I (r1 - 8 + r4), I (r2 - 8 + r5), I 0, I 0, I 0] (0, 0) (.struct fs) rfl (setRow_heap _ _ _ _ _ _ HR6.out) HU.out rfl sizeQ) rfl ?_
    exact ⟨⟨0, r1 - 8, r2 - 8, r1 - 8 + r4, r2 - 8 + r5, 0, 0, 0⟩, j5, rfl, HQ.out, HD6.out.keeps (keeps_setRow _ _ _) (fun j hj e => by omega), HK6.out.low (below_setRow (Below.refl _ _) (Nat.le_refl _) _)⟩
  · go_wp2_with fail
    refine (next_any B d code j3 20 w4 HD4.out (by decide) (by decide)).mono ?_
    rintro _ w5 ⟨r4, j4, rfl, d1, d2, hd5, hk5⟩
    have hs5 := hk5.size
    have HD5 := hide hd5
    have HR5 := hide ((hk5.block w.heap.size (by omega) (by omega)).trans HR4.out)
    have HK5 := hide (HK4.out.trans hk5 (fun _ _ h => h))
    clear hd5 hk5
    have HQ := hide (near_may (a := r1 - 8) (b := r2 - 8) (c := r4) (by omega) (by omega) (by omega))
    go_wp2_with (refine wpList_store_row rfl 46 (.tmp 2) (.tmp 30) rfl w.heap.size #[I 1, I 0, I 0, I 0, I 0, I (r1 - 8), I (r2 - 8), I (1 + r4)] rfl rfl 46 _ HR5.out sizeQ rfl (one8 _ _ _ _ _ _ _ _) ?_)
    refine bodyPost_ret (results_cell_row rfl _ _ w.heap.size 46 #[I 1, I 0, I 0, I 0, I 0, I (r1 - 8), I (r2 - 8), I (1 + r4)] (0, 0) (.struct fs) rfl (setRow_heap _ _ _ _ _ _ HR5.out) HU.out rfl sizeQ) rfl ?_
    exact ⟨⟨1, 0, 0, 0, 0, r1 - 8, r2 - 8, 1 + r4⟩, j4, rfl, HQ.out, HD5.out.keeps (keeps_setRow _ _ _) (fun j hj e => by omega), HK5.out.low (below_setRow (Below.refl _ _) (Nat.le_refl _) _)⟩
end Go.Proofs.YtenaelkbgkpllaaGreatDoor
/- right, of a window. -/
namespace Go.Proofs.YtenaelkbgkpllaaGreatDoor
open Go.RowKit

theorem any_mem (l : List Ward.Pt) (p : Ward.Pt) : l.any (fun x => ptEq x p) = true ↔ p ∈ l := by
  rw [List.any_eq_true]
  constructor
  · rintro ⟨x, hx, e⟩
    rw [← (ptEq_iff x p).1 e]
    exact hx
  · exact fun h => ⟨p, h, (ptEq_iff p p).2 rfl⟩
theorem any_mem' (l : List Ward.Pt) (p : Ward.Pt) : l.any (fun x => ptEq p x) = true ↔ p ∈ l := by
  rw [List.any_eq_true]
  constructor
  · rintro ⟨x, hx, e⟩
    rw [(ptEq_iff p x).1 e]
    exact hx
  · exact fun h => ⟨p, h, (ptEq_iff p p).2 rfl⟩
theorem any_step (f : Ward.Pt → Bool) (l : List Ward.Pt) (j : Nat) (h : j < l.length) : (l.take (j + 1)).any f = ((l.take j).any f || f l[j]) := by
  rw [List.take_succ_eq_append_getElem h, List.any_append]
  simp
theorem pair_prev {α : Type} {R : α → α → Prop} {l : List α} (h : l.Pairwise R) (i : Nat) (hi : i < l.length) (h0 : 0 < i) : R (l[i - 1]'(by omega)) l[i] := List.pairwise_iff_getElem.1 h (i - 1) i (by omega) hi (by omega)
/-- the query's cells, in every world that keeps it -/
def QAt (w : World) (g : Nat) (q : Ward.Qr) : Prop := w.cell? ⟨g, 0, none⟩ = some (I q.kind) ∧ w.cell? ⟨g, 1, none⟩ = some (I q.a) ∧ w.cell? ⟨g, 2, none⟩ = some (I q.b) ∧ w.cell? ⟨g, 3, none⟩ = some (I q.c) ∧ w.cell? ⟨g, 4, none⟩ = some (I q.d) ∧ w.cell? ⟨g, 5, none⟩ = some (I q.x) ∧ w.cell? ⟨g, 6, none⟩ = some (I q.y) ∧ w.cell? ⟨g, 7, none⟩ = some (I q.k)
theorem below_drewN' (w : World) (n : Nat) (B : Nat) : Below B w (w.drewN n) := ⟨rfl, rfl, rfl, Nat.le_refl _, fun _ _ => rfl⟩
set_option maxRecDepth 100000 in
set_option maxHeartbeats 8000000 in
theorem right_window (va vl : Value) (A l : List Ward.Pt) (qa qb qc qd qx qy qk : Int) (w : World) (ha : Reads w va A) (hl : Reads w vl l) (hR : Ward.RightIs ⟨0, qa, qb, qc, qd, qx, qy, qk⟩ A l) (hn1 : A.length ≤ 1000) (hn2 : l.length ≤ 1000) :
    Calls Tryz.prog 23 #[va, vl, Qv ⟨0, qa, qb, qc, qd, qx, qy, qk⟩] w fun e w' => e = .returned (.bool true) ∧ Below w.heap.size w w' := by
  obtain ⟨aa, ca, ea, -⟩ := id ha
  obtain ⟨al, cl, el, -⟩ := id hl
  subst ea el
  have HA := hide ha.point.2
  have HL := hide hl.point.2
  have HMEM := hide hR.mem
  have HWIN := hide (hR.win rfl)
  have HIN := hide (fun (p : Ward.Pt) (W : World) => in_any p ⟨0, qa, qb, qc, qd, qx, qy, qk⟩ W)
  clear ha hl hR
  have hb1' := fun o => (Below.refl w.heap.size w).alloc (Nat.le_refl _) o
  have hr1' := heap_alloc_new w
  go_enter Tryz.func23, Tryz.ntmps23
  go_upto_region 1 with fail
  generalize hW : World.alloc w _ = w1
  have hb1 : Below w.heap.size w w1 := by rw [← hW]; exact hb1' _
  have hr1 : w1.heap[w.heap.size]? = some (.cells #[I 0, I qa, I qb, I qc, I qd, I qx, I qy, I qk] 46 (0, 0)) := by rw [← hW]; exact hr1' _
  clear hb1' hr1' hW
  have hs1 : w.heap.size < w1.heap.size := (Array.getElem?_eq_some_iff.1 hr1).1
  have HB1 := hide hb1
  have HQ := hide (fun (W : World) (hb : Below w1.heap.size w1 W) => rowQ8 ((hb.block w.heap.size hs1).trans hr1))
  have HBW := hide (fun (W : World) (hb : Below w1.heap.size w1 W) => show Below w.heap.size w W from hb1.trans (hb.mono (by omega)))
  clear hb1 hr1
  go_wp2_with fail
  go_loopg [7, 8, 9, 10, 11] A.length (fun gk v7 _ _ _ _ wq => ∃ i : Nat, gk = A.length - i ∧ v7 = I i ∧ i ≤ A.length ∧ Below w1.heap.size w1 wq)
  case atStart => exact ⟨0, by omega, rfl, by omega, Below.refl _ _⟩
  case round =>
    obtain ⟨i, hgk, rfl, hi, hbl⟩ := hrel
    have HGK := hide hgk
    have HBL := hide hbl
    clear hgk hbl
    by_cases hlt : i < A.length
    · obtain ⟨g, o, rfl, hp⟩ := HA.out i hlt
      have HPI := hide hp
      have HPM := hide ((any_mem l A[i]).2 (HMEM.out _ (List.getElem_mem hlt)))
      have HPV := hide (show 0 < i → ∃ pv, Ward.lt pv A[i] ∧ ∀ W, Below w.heap.size w W → PtAt W g (o + (i - 1) * 3) pv from fun h0 => by
        obtain ⟨g', o', e', h'⟩ := HA.out (i - 1) (by omega)
        injection e' with e'
        injection e' with e1 e2 e3
        subst e1 e2
        exact ⟨_, pair_prev HWIN.out.1 i hlt h0, h'⟩)
      generalize A[i] = p at *
      clear hp
      go_wp2_with fail
      go_loopg [8, 9] l.length (fun gk v8 v9 wq => ∃ j : Nat, gk = l.length - j ∧ v9 = I j ∧ j ≤ l.length ∧ v8 = .bool ((l.take j).any (fun x => ptEq x p)) ∧ Below w1.heap.size w1 wq)
      case atStart => exact ⟨0, by omega, rfl, by omega, by simp, HBL.out⟩
      case round =>
        obtain ⟨j, hgj, rfl, hj, rfl, hbj⟩ := hrel
        have HGJ := hide hgj
        have HBJ := hide hbj
        clear hgj hbj HBL
        by_cases hltj : j < l.length
        · obtain ⟨g2, o2, rfl, hq⟩ := HL.out j hltj
          have HT := hide (any_step (fun x => ptEq x p) l j hltj)
          have hq0 := hq wr (HBW.out wr HBJ.out)
          have hp0 := HPI.out wr (HBW.out wr HBJ.out)
          have hE := eqPt l[j] p
          generalize l[j] = x at *
          generalize (l.take j).any (fun x => ptEq x p) = b2 at *
          obtain ⟨p1, p2, p3⟩ := hp0
          obtain ⟨q1, q2, q3⟩ := hq0
          clear hq
          generalize ptEq x p = b3 at *
          cases b2
          all_goals
            go_wp2_with fail
            go_quiet (fail)
            have HBQ := hide (HBJ.out.trans (below_drewN' wr nq _))
            generalize World.drewN wr nq = w9 at *
            go_wp2_with fail
            go_roundg (l.length - (j + 1))
            case measure => have := HGJ.out; omega
            case rel => exact ⟨j + 1, rfl, by go_num, hltj, by rw [HT.out]; rfl, HBQ.out⟩
        · have ej : j = l.length := by omega
          subst ej
          rw [List.take_length, HPM.out]
          obtain ⟨k0, k1, k2, k3, k4, k5, k6, k7⟩ := HQ.out wr HBJ.out
          cases i with
          | zero =>
            go_upto_region 11 with fail
            go_quiet (fail)
            have HBQ := hide (HBJ.out.trans (below_drewN' wr nq _))
            have k0' : (wr.drewN nq).cell? ⟨w.heap.size, 0, none⟩ = some (I 0) := (HQ.out _ HBQ.out).1
            generalize World.drewN wr nq = w9 at *
            clear k0 k1 k2 k3 k4 k5 k6 k7
            go_wp2_with fail
            go_roundg (A.length - (0 + 1))
            case measure => have := HGK.out; omega
            case rel => exact ⟨0 + 1, rfl, by go_num, hlt, HBQ.out⟩
          | succ i =>
            obtain ⟨pv, hlo, hpv⟩ := HPV.out (by omega)
            rw [Nat.add_sub_cancel] at hpv
            have HPVV := hide hpv
            have HIO := hide (fun W => inOrder_any pv p W)
            rw [decide_eq_true hlo] at HIO
            have HS := hide (fun (W : World) (hb : Below w1.heap.size w1 W) => show (fun W => (W.cell? ⟨g, o + i * 3, none⟩ = some (I pv.id) ∧ W.cell? ⟨g, o + i * 3 + 1, none⟩ = some (I pv.x) ∧ W.cell? ⟨g, o + i * 3 + 2, none⟩ = some (I pv.y)) ∧ (W.cell? ⟨g, o + (i + 1) * 3, none⟩ = some (I p.id) ∧ W.cell? ⟨g, o + (i + 1) * 3 + 1, none⟩ = some (I p.x) ∧ W.cell? ⟨g, o + (i + 1) * 3 + 2, none⟩ = some (I p.y)) ∧ W.cell? ⟨w.heap.size, 0, none⟩ = some (I 0)) W from ⟨hpv W (HBW.out W hb), HPI.out W (HBW.out W hb), (HQ.out W hb).1⟩)
            have hS5 := HS.out wr.drew HBJ.out.drew
            have hsz := HBJ.out.size
            have hi1 : (i : Int) < (A.length : Int) := by omega
            have hi2 : (i : Int) + 1 < (A.length : Int) := by omega
            have hi3 : (0 : Int) ≤ (i : Int) + 1 := by omega
            have hw1 : IntKind.i64.wrap (i : Int) = (i : Int) := by simp [IntKind.wrap, IntKind.signed, IntKind.bits]; omega
            have hw2 : IntKind.i64.wrap ((i : Int) + 1 - 1) = (i : Int) := by rw [Int.add_sub_cancel]; exact hw1
            have hw3 : wrap64 (i : Int) = (i : Int) := by unfold wrap64; omega
            have hw4 : wrap64 ((i : Int) + 1 - 1) = (i : Int) := by unfold wrap64; omega
            clear hlo hpv k0 k1 k2 k3 k4 k5 k6 k7
            go_upto_region 11 with fail
            go_region_held3 (fun W => (W.cell? ⟨g, o + i * 3, none⟩ = some (I pv.id) ∧ W.cell? ⟨g, o + i * 3 + 1, none⟩ = some (I pv.x) ∧ W.cell? ⟨g, o + i * 3 + 2, none⟩ = some (I pv.y)) ∧ (W.cell? ⟨g, o + (i + 1) * 3, none⟩ = some (I p.id) ∧ W.cell? ⟨g, o + (i + 1) * 3 + 1, none⟩ = some (I p.x) ∧ W.cell? ⟨g, o + (i + 1) * 3 + 2, none⟩ = some (I p.y)) ∧ W.cell? ⟨w.heap.size, 0, none⟩ = some (I 0)) (first | exact hS5 | exact hS6) ((go_at_call 51; go_must (refine (HIO.out _).mono ?_; rintro _ w6 ⟨rfl, hb6⟩; have HB6 := hide (HBJ.out.drew.trans (hb6.mono (by simp; omega))); have hS6 := HS.out w6 HB6.out; clear hb6)))
            all_goals
              have k0' : w6.cell? ⟨w.heap.size, 0, none⟩ = some (I 0) := (HQ.out _ HB6.out).1
              go_wp2_with fail
              go_roundg (A.length - (i + 1 + 1))
              case measure => have := HGK.out; omega
              case rel => exact ⟨i + 1 + 1, rfl, by go_num, hlt, HB6.out⟩
    · have ei : i = A.length := by omega
      subst ei
      obtain ⟨k0, k1, k2, k3, k4, k5, k6, k7⟩ := HQ.out wr HBL.out
      clear hlt hi HGK
      go_wp2_with fail
      clear k0 k1 k2 k3 k4 k5 k6 k7
      go_loopg [12, 13, 14, 15, 16, 17, 18] l.length (fun gk v12 v13 _ _ _ _ _ wq => ∃ k : Nat, gk = l.length - k ∧ v12 = I k ∧ v13 = I k ∧ k ≤ l.length ∧ Below w1.heap.size w1 wq)
      case atStart => exact ⟨0, by omega, rfl, rfl, by omega, HBL.out⟩
      case round =>
        obtain ⟨k, hgk, rfl, rfl, hk, hbl⟩ := hrel
        have HGK := hide hgk
        have HBK := hide hbl
        clear hgk hbl HBL
        by_cases hlt : k < l.length
        · obtain ⟨g2, o2, rfl, hq⟩ := HL.out k hlt
          have HXI := hide hq
          have HXX := hide (show A.any (fun y => ptEq l[k] y) = Ward.inB (Ward.window ⟨0, qa, qb, qc, qd, qx, qy, qk⟩) l[k] by
            have h1 := (any_mem' A l[k]).trans (HWIN.out.2 l[k] (List.getElem_mem hlt))
            exact Bool.eq_iff_iff.2 h1)
          have HINX := hide (fun W => HIN.out l[k] W)
          generalize l[k] = x at *
          clear hq
          go_wp2_with fail
          go_loopg [14, 15] A.length (fun gk v14 v15 wq => ∃ j : Nat, gk = A.length - j ∧ v15 = I j ∧ j ≤ A.length ∧ v14 = .bool ((A.take j).any (fun y => ptEq x y)) ∧ Below w1.heap.size w1 wq)
          case atStart => exact ⟨0, by omega, rfl, by omega, by simp, HBK.out⟩
          case round =>
            obtain ⟨j, hgj, rfl, hj, rfl, hbj⟩ := hrel
            have HGJ := hide hgj
            have HBJ := hide hbj
            clear hgj hbj HBK
            by_cases hltj : j < A.length
            · obtain ⟨g, o, rfl, hp⟩ := HA.out j hltj
              have HT := hide (any_step (fun y => ptEq x y) A j hltj)
              have hq0 := HXI.out wr (HBW.out wr HBJ.out)
              have hp0 := hp wr (HBW.out wr HBJ.out)
              have hE := eqPt x A[j]
              generalize A[j] = y at *
              generalize (A.take j).any (fun y => ptEq x y) = b2 at *
              obtain ⟨p1, p2, p3⟩ := hp0
              obtain ⟨q1, q2, q3⟩ := hq0
              clear hp
              generalize ptEq x y = b3 at *
              cases b2
              all_goals
                go_wp2_with fail
                go_quiet (fail)
                have HBQ := hide (HBJ.out.trans (below_drewN' wr nq _))
                generalize World.drewN wr nq = w9 at *
                go_wp2_with fail
                go_roundg (A.length - (j + 1))
                case measure => have := HGJ.out; omega
                case rel => exact ⟨j + 1, rfl, by go_num, hltj, by rw [HT.out]; rfl, HBQ.out⟩
            · have ej : j = A.length := by omega
              subst ej
              rw [List.take_length, HXX.out]
              generalize Ward.inB (Ward.window ⟨0, qa, qb, qc, qd, qx, qy, qk⟩) x = r at *
              have HS := hide (fun (W : World) (hb : Below w1.heap.size w1 W) => show (fun W => (W.cell? ⟨g2, o2 + k * 3, none⟩ = some (I x.id) ∧ W.cell? ⟨g2, o2 + k * 3 + 1, none⟩ = some (I x.x) ∧ W.cell? ⟨g2, o2 + k * 3 + 2, none⟩ = some (I x.y)) ∧ W.cell? ⟨w.heap.size, 0, none⟩ = some (I 0) ∧ W.cell? ⟨w.heap.size, 1, none⟩ = some (I qa) ∧ W.cell? ⟨w.heap.size, 2, none⟩ = some (I qb) ∧ W.cell? ⟨w.heap.size, 3, none⟩ = some (I qc) ∧ W.cell? ⟨w.heap.size, 4, none⟩ = some (I qd) ∧ W.cell? ⟨w.heap.size, 5, none⟩ = some (I qx) ∧ W.cell? ⟨w.heap.size, 6, none⟩ = some (I qy) ∧ W.cell? ⟨w.heap.size, 7, none⟩ = some (I qk)) W from ⟨HXI.out W (HBW.out W hb), HQ.out W hb⟩)
              have hS5 := HS.out wr.drew HBJ.out.drew
              have hsz := HBJ.out.size
              have hi1 : (k : Int) < (l.length : Int) := by omega
              go_upto_region 26 with fail
              go_region_held3 (fun W => (W.cell? ⟨g2, o2 + k * 3, none⟩ = some (I x.id) ∧ W.cell? ⟨g2, o2 + k * 3 + 1, none⟩ = some (I x.x) ∧ W.cell? ⟨g2, o2 + k * 3 + 2, none⟩ = some (I x.y)) ∧ W.cell? ⟨w.heap.size, 0, none⟩ = some (I 0) ∧ W.cell? ⟨w.heap.size, 1, none⟩ = some (I qa) ∧ W.cell? ⟨w.heap.size, 2, none⟩ = some (I qb) ∧ W.cell? ⟨w.heap.size, 3, none⟩ = some (I qc) ∧ W.cell? ⟨w.heap.size, 4, none⟩ = some (I qd) ∧ W.cell? ⟨w.heap.size, 5, none⟩ = some (I qx) ∧ W.cell? ⟨w.heap.size, 6, none⟩ = some (I qy) ∧ W.cell? ⟨w.heap.size, 7, none⟩ = some (I qk)) (first | exact hS5 | exact hS6) ((go_at_call 53; go_must (refine (HINX.out _).mono ?_; rintro _ w6 ⟨rfl, hb6⟩; have HB6 := hide (HBJ.out.drew.trans (hb6.mono (by simp; omega))); have hS6 := HS.out w6 HB6.out; clear hb6)))
              all_goals
                have k0' : w6.cell? ⟨w.heap.size, 0, none⟩ = some (I 0) := (HQ.out _ HB6.out).1
                cases r
                all_goals
                  go_wp2_with fail
                  go_roundg (l.length - (k + 1))
                  case measure => have := HGK.out; omega
                  case rel => exact ⟨k + 1, rfl, by go_num, by go_num, hlt, HB6.out⟩
        · have ek : k = l.length := by omega
          subst ek
          have k0' : wr.cell? ⟨w.heap.size, 0, none⟩ = some (I 0) := (HQ.out _ HBK.out).1
          go_wp2_with fail
          go_ret
          exact ⟨rfl, HBW.out _ HBK.out⟩
end Go.Proofs.YtenaelkbgkpllaaGreatDoor
/- right, of what is nearest. -/
namespace Go.Proofs.YtenaelkbgkpllaaGreatDoor
open Go.RowKit

theorem last_get {α : Type} {l : List α} (h : 0 < l.length) : l.getLast? = some (l[l.length - 1]'(by omega)) := by
  rw [List.getLast?_eq_getElem?, List.getElem?_eq_getElem (by omega)]
set_option maxRecDepth 100000 in
set_option maxHeartbeats 8000000 in
theorem right_near (va vl : Value) (A l : List Ward.Pt) (qa qb qc qd qx qy qk : Int) (w : World) (ha : Reads w va A) (hl : Reads w vl l) (hR : Ward.RightIs ⟨1, qa, qb, qc, qd, qx, qy, qk⟩ A l) (hok : ∀ p ∈ l, p.Ok) (hx : -1000000 ≤ qx ∧ qx ≤ 1000000) (hy : -1000000 ≤ qy ∧ qy ≤ 1000000) (hA1 : (1 : Int) ≤ (A.length : Int)) (hn1 : A.length ≤ 1000) (hn2 : l.length ≤ 1000) :
    Calls Tryz.prog 23 #[va, vl, Qv ⟨1, qa, qb, qc, qd, qx, qy, qk⟩] w fun e w' => e = .returned (.bool true) ∧ Below w.heap.size w w' := by
  obtain ⟨aa, ca, ea, -⟩ := id ha
  obtain ⟨al, cl, el, -⟩ := id hl
  subst ea el
  have HA := hide ha.point.2
  have HL := hide hl.point.2
  have HMEM := hide hR.mem
  have HNEAR := hide (hR.near rfl)
  have HFAR := hide (fun (p : Ward.Pt) (hp : p ∈ l) (W : World) => far_any p ⟨1, qa, qb, qc, qd, qx, qy, qk⟩ W (hok p hp) hx hy)
  have HIN := hide (fun (p : Ward.Pt) (W : World) => in_any p ⟨1, qa, qb, qc, qd, qx, qy, qk⟩ W)
  clear ha hl hR hok hx hy
  have hb1' := fun o => (Below.refl w.heap.size w).alloc (Nat.le_refl _) o
  have hr1' := heap_alloc_new w
  go_enter Tryz.func23, Tryz.ntmps23
  go_upto_region 1 with fail
  generalize hW : World.alloc w _ = w1
  have hb1 : Below w.heap.size w w1 := by rw [← hW]; exact hb1' _
  have hr1 : w1.heap[w.heap.size]? = some (.cells #[I 1, I qa, I qb, I qc, I qd, I qx, I qy, I qk] 46 (0, 0)) := by rw [← hW]; exact hr1' _
  clear hb1' hr1' hW
  have hs1 : w.heap.size < w1.heap.size := (Array.getElem?_eq_some_iff.1 hr1).1
  have HB1 := hide hb1
  have HQ := hide (fun (W : World) (hb : Below w1.heap.size w1 W) => rowQ8 ((hb.block w.heap.size hs1).trans hr1))
  have HBW := hide (fun (W : World) (hb : Below w1.heap.size w1 W) => show Below w.heap.size w W from hb1.trans (hb.mono (by omega)))
  clear hb1 hr1
  go_wp2_with fail
  go_loopg [7, 8, 9, 10, 11] A.length (fun gk v7 _ _ _ _ wq => ∃ i : Nat, gk = A.length - i ∧ v7 = I i ∧ i ≤ A.length ∧ Below w1.heap.size w1 wq)
  case atStart => exact ⟨0, by omega, rfl, by omega, Below.refl _ _⟩
  case round =>
    obtain ⟨i, hgk, rfl, hi, hbl⟩ := hrel
    have HGK := hide hgk
    have HBL := hide hbl
    clear hgk hbl
    by_cases hlt : i < A.length
    · obtain ⟨g, o, rfl, hp⟩ := HA.out i hlt
      have HPI := hide hp
      have HPM := hide ((any_mem l A[i]).2 (HMEM.out _ (List.getElem_mem hlt)))
      have HPV := hide (show 0 < i → ∃ pv, pv ∈ l ∧ Ward.nr qx qy pv A[i] ∧ ∀ W, Below w.heap.size w W → PtAt W g (o + (i - 1) * 3) pv from fun h0 => by
        obtain ⟨g', o', e', h'⟩ := HA.out (i - 1) (by omega)
        injection e' with e'
        injection e' with e1 e2 e3
        subst e1 e2
        exact ⟨_, HMEM.out _ (List.getElem_mem _), pair_prev HNEAR.out.1 i hlt h0, h'⟩)
      have HPL := hide (HMEM.out _ (List.getElem_mem hlt))
      generalize A[i] = p at *
      clear hp
      go_wp2_with fail
      go_loopg [8, 9] l.length (fun gk v8 v9 wq => ∃ j : Nat, gk = l.length - j ∧ v9 = I j ∧ j ≤ l.length ∧ v8 = .bool ((l.take j).any (fun x => ptEq x p)) ∧ Below w1.heap.size w1 wq)
      case atStart => exact ⟨0, by omega, rfl, by omega, by simp, HBL.out⟩
      case round =>
        obtain ⟨j, hgj, rfl, hj, rfl, hbj⟩ := hrel
        have HGJ := hide hgj
        have HBJ := hide hbj
        clear hgj hbj HBL
        by_cases hltj : j < l.length
        · obtain ⟨g2, o2, rfl, hq⟩ := HL.out j hltj
          have HT := hide (any_step (fun x => ptEq x p) l j hltj)
          have hq0 := hq wr (HBW.out wr HBJ.out)
          have hp0 := HPI.out wr (HBW.out wr HBJ.out)
          have hE := eqPt l[j] p
          generalize l[j] = x at *
          generalize (l.take j).any (fun x => ptEq x p) = b2 at *
          obtain ⟨p1, p2, p3⟩ := hp0
          obtain ⟨q1, q2, q3⟩ := hq0
          clear hq
          generalize ptEq x p = b3 at *
          cases b2
          all_goals
            go_wp2_with fail
            go_quiet (fail)
            have HBQ := hide (HBJ.out.trans (below_drewN' wr nq _))
            generalize World.drewN wr nq = w9 at *
            go_wp2_with fail
            go_roundg (l.length - (j + 1))
            case measure => have := HGJ.out; omega
            case rel => exact ⟨j + 1, rfl, by go_num, hltj, by rw [HT.out]; rfl, HBQ.out⟩
        · have ej : j = l.length := by omega
          subst ej
          rw [List.take_length, HPM.out]
          obtain ⟨k0, k1, k2, k3, k4, k5, k6, k7⟩ := HQ.out wr HBJ.out
          cases i with
          | zero =>
            go_upto_region 11 with fail
            go_quiet (fail)
            have HBQ := hide (HBJ.out.trans (below_drewN' wr nq _))
            have k0' : (wr.drewN nq).cell? ⟨w.heap.size, 0, none⟩ = some (I 1) := (HQ.out _ HBQ.out).1
            generalize World.drewN wr nq = w9 at *
            clear k0 k1 k2 k3 k4 k5 k6 k7
            go_wp2_with fail
            go_roundg (A.length - (0 + 1))
            case measure => have := HGK.out; omega
            case rel => exact ⟨0 + 1, rfl, by go_num, hlt, HBQ.out⟩
          | succ i =>
            obtain ⟨pv, hpl, hlo, hpv⟩ := HPV.out (by omega)
            rw [Nat.add_sub_cancel] at hpv
            have HPVV := hide hpv
            have HF1 := hide (fun W => HFAR.out pv hpl W)
            have HF2 := hide (fun W => HFAR.out p HPL.out W)
            unfold Ward.nr at hlo
            rw [Ward.far_dist, Ward.far_dist] at hlo
            generalize Ward.far pv qx qy = fa at *
            generalize Ward.far p qx qy = fb at *
            have HLO := hide hlo
            have HS := hide (fun (W : World) (hb : Below w1.heap.size w1 W) => show (fun W => (W.cell? ⟨g, o + i * 3, none⟩ = some (I pv.id) ∧ W.cell? ⟨g, o + i * 3 + 1, none⟩ = some (I pv.x) ∧ W.cell? ⟨g, o + i * 3 + 2, none⟩ = some (I pv.y)) ∧ (W.cell? ⟨g, o + (i + 1) * 3, none⟩ = some (I p.id) ∧ W.cell? ⟨g, o + (i + 1) * 3 + 1, none⟩ = some (I p.x) ∧ W.cell? ⟨g, o + (i + 1) * 3 + 2, none⟩ = some (I p.y)) ∧ W.cell? ⟨w.heap.size, 0, none⟩ = some (I 1) ∧ W.cell? ⟨w.heap.size, 1, none⟩ = some (I qa) ∧ W.cell? ⟨w.heap.size, 2, none⟩ = some (I qb) ∧ W.cell? ⟨w.heap.size, 3, none⟩ = some (I qc) ∧ W.cell? ⟨w.heap.size, 4, none⟩ = some (I qd) ∧ W.cell? ⟨w.heap.size, 5, none⟩ = some (I qx) ∧ W.cell? ⟨w.heap.size, 6, none⟩ = some (I qy) ∧ W.cell? ⟨w.heap.size, 7, none⟩ = some (I qk)) W from ⟨hpv W (HBW.out W hb), HPI.out W (HBW.out W hb), HQ.out W hb⟩)
            have hsz := HBJ.out.size
            have hi1 : (i : Int) < (A.length : Int) := by omega
            have hi2 : (i : Int) + 1 < (A.length : Int) := by omega
            have hi3 : (0 : Int) ≤ (i : Int) + 1 := by omega
            have hw1 : IntKind.i64.wrap (i : Int) = (i : Int) := by simp [IntKind.wrap, IntKind.signed, IntKind.bits]; omega
            have hw2 : IntKind.i64.wrap ((i : Int) + 1 - 1) = (i : Int) := by rw [Int.add_sub_cancel]; exact hw1
            have hw3 : wrap64 (i : Int) = (i : Int) := by unfold wrap64; omega
            have hw4 : wrap64 ((i : Int) + 1 - 1) = (i : Int) := by unfold wrap64; omega
            clear hlo hpv hpl
            go_upto_region 11 with fail
            go_quiet (fail)
            have HBQ := hide (HBJ.out.trans (below_drewN' wr nq _))
            have k0' : (wr.drewN nq).cell? ⟨w.heap.size, 0, none⟩ = some (I 1) := (HQ.out _ HBQ.out).1
            have hsq : w1.heap.size ≤ (wr.drewN nq).heap.size := hsz
            generalize World.drewN wr nq = w9 at *
            clear k0 k1 k2 k3 k4 k5 k6 k7
            have hS5 := HS.out w9.drew HBQ.out.drew
            go_upto_region 14 with fail
            go_region_held3 (fun W => (W.cell? ⟨g, o + i * 3, none⟩ = some (I pv.id) ∧ W.cell? ⟨g, o + i * 3 + 1, none⟩ = some (I pv.x) ∧ W.cell? ⟨g, o + i * 3 + 2, none⟩ = some (I pv.y)) ∧ (W.cell? ⟨g, o + (i + 1) * 3, none⟩ = some (I p.id) ∧ W.cell? ⟨g, o + (i + 1) * 3 + 1, none⟩ = some (I p.x) ∧ W.cell? ⟨g, o + (i + 1) * 3 + 2, none⟩ = some (I p.y)) ∧ W.cell? ⟨w.heap.size, 0, none⟩ = some (I 1) ∧ W.cell? ⟨w.heap.size, 1, none⟩ = some (I qa) ∧ W.cell? ⟨w.heap.size, 2, none⟩ = some (I qb) ∧ W.cell? ⟨w.heap.size, 3, none⟩ = some (I qc) ∧ W.cell? ⟨w.heap.size, 4, none⟩ = some (I qd) ∧ W.cell? ⟨w.heap.size, 5, none⟩ = some (I qx) ∧ W.cell? ⟨w.heap.size, 6, none⟩ = some (I qy) ∧ W.cell? ⟨w.heap.size, 7, none⟩ = some (I qk)) (first | exact hS5 | exact hS6 | exact hS7) ((first | (go_at_call_of 52 (I pv.id); go_must (refine (HF1.out _).mono ?_; rintro _ w6 ⟨rfl, hb6⟩; have hs6 := hb6.size; have HB6 := hide (HBQ.out.drew.trans (hb6.mono (by simp; omega))); have hS6 := HS.out w6 HB6.out; clear hb6)) | (go_at_call_of 52 (I p.id); go_must (refine (HF2.out _).mono ?_; rintro _ w7 ⟨rfl, hb7⟩; have HB7 := hide (HB6.out.trans (hb7.mono (by simp at hs6; omega))); have hS7 := HS.out w7 HB7.out; clear hb7))))
            all_goals
              clear hS5 hS6
              obtain ⟨⟨p1, p2, p3⟩, ⟨q1, q2, q3⟩, k0, k1, k2, k3, k4, k5, k6, k7⟩ := hS7
              by_cases hab : fa = fb
              · have hid : pv.id < p.id := by have := HLO.out; omega
                have hgt : ¬ fb < fa := by omega
                go_upto_region 15 with fail
                go_quiet (fail)
                have HB9 := hide (HB7.out.trans (below_drewN' w7 nq _))
                generalize World.drewN w7 nq = w8 at *
                go_wp2_with fail
                go_roundg (A.length - (i + 1 + 1))
                case measure => have := HGK.out; omega
                case rel => exact ⟨i + 1 + 1, rfl, by go_num, hlt, HB9.out⟩
              · have hgt : ¬ fb < fa := by have := HLO.out; omega
                go_upto_region 15 with fail
                go_quiet (fail)
                have HB9 := hide (HB7.out.trans (below_drewN' w7 nq _))
                generalize World.drewN w7 nq = w8 at *
                go_wp2_with fail
                go_roundg (A.length - (i + 1 + 1))
                case measure => have := HGK.out; omega
                case rel => exact ⟨i + 1 + 1, rfl, by go_num, hlt, HB9.out⟩
    · have ei : i = A.length := by omega
      subst ei
      obtain ⟨k0, k1, k2, k3, k4, k5, k6, k7⟩ := HQ.out wr HBL.out
      clear hlt hi HGK
      go_wp2_with fail
      clear k0 k1 k2 k3 k4 k5 k6 k7
      go_loopg [12, 13, 14, 15, 16, 17, 18] l.length (fun gk v12 v13 _ _ _ _ _ wq => ∃ k : Nat, gk = l.length - k ∧ v12 = I k ∧ v13 = I k ∧ k ≤ l.length ∧ Below w1.heap.size w1 wq)
      case atStart => exact ⟨0, by omega, rfl, rfl, by omega, HBL.out⟩
      case round =>
        obtain ⟨k, hgk, rfl, rfl, hk, hbl⟩ := hrel
        have HGK := hide hgk
        have HBK := hide hbl
        clear hgk hbl HBL
        by_cases hlt : k < l.length
        · obtain ⟨g2, o2, rfl, hq⟩ := HL.out k hlt
          have HXI := hide hq
          have HXX := hide (show A.any (fun y => ptEq l[k] y) = false → ∀ z, A.getLast? = some z → Ward.nr qx qy z l[k] from fun h => HNEAR.out.2.1 l[k] (List.getElem_mem hlt) (fun hm => by rw [(any_mem' A l[k]).2 hm] at h; cases h))
          have HXL := hide (List.getElem_mem (l := l) hlt)
          have HINX := hide (fun W => HIN.out l[k] W)
          generalize l[k] = x at *
          clear hq
          go_wp2_with fail
          go_loopg [14, 15] A.length (fun gk v14 v15 wq => ∃ j : Nat, gk = A.length - j ∧ v15 = I j ∧ j ≤ A.length ∧ v14 = .bool ((A.take j).any (fun y => ptEq x y)) ∧ Below w1.heap.size w1 wq)
          case atStart => exact ⟨0, by omega, rfl, by omega, by simp, HBK.out⟩
          case round =>
            obtain ⟨j, hgj, rfl, hj, rfl, hbj⟩ := hrel
            have HGJ := hide hgj
            have HBJ := hide hbj
            clear hgj hbj HBK
            by_cases hltj : j < A.length
            · obtain ⟨g, o, rfl, hp⟩ := HA.out j hltj
              have HT := hide (any_step (fun y => ptEq x y) A j hltj)
              have hq0 := HXI.out wr (HBW.out wr HBJ.out)
              have hp0 := hp wr (HBW.out wr HBJ.out)
              have hE := eqPt x A[j]
              generalize A[j] = y at *
              generalize (A.take j).any (fun y => ptEq x y) = b2 at *
              obtain ⟨p1, p2, p3⟩ := hp0
              obtain ⟨q1, q2, q3⟩ := hq0
              clear hp
              generalize ptEq x y = b3 at *
              cases b2
              all_goals
                go_wp2_with fail
                go_quiet (fail)
                have HBQ := hide (HBJ.out.trans (below_drewN' wr nq _))
                generalize World.drewN wr nq = w9 at *
                go_wp2_with fail
                go_roundg (A.length - (j + 1))
                case measure => have := HGJ.out; omega
                case rel => exact ⟨j + 1, rfl, by go_num, hltj, by rw [HT.out]; rfl, HBQ.out⟩
            · have ej : j = A.length := by omega
              subst ej
              rw [List.take_length]
              generalize A.any (fun y => ptEq x y) = hs at *
              have HS := hide (fun (W : World) (hb : Below w1.heap.size w1 W) => show (fun W => (W.cell? ⟨g2, o2 + k * 3, none⟩ = some (I x.id) ∧ W.cell? ⟨g2, o2 + k * 3 + 1, none⟩ = some (I x.x) ∧ W.cell? ⟨g2, o2 + k * 3 + 2, none⟩ = some (I x.y)) ∧ W.cell? ⟨w.heap.size, 0, none⟩ = some (I 1) ∧ W.cell? ⟨w.heap.size, 1, none⟩ = some (I qa) ∧ W.cell? ⟨w.heap.size, 2, none⟩ = some (I qb) ∧ W.cell? ⟨w.heap.size, 3, none⟩ = some (I qc) ∧ W.cell? ⟨w.heap.size, 4, none⟩ = some (I qd) ∧ W.cell? ⟨w.heap.size, 5, none⟩ = some (I qx) ∧ W.cell? ⟨w.heap.size, 6, none⟩ = some (I qy) ∧ W.cell? ⟨w.heap.size, 7, none⟩ = some (I qk)) W from ⟨HXI.out W (HBW.out W hb), HQ.out W hb⟩)
              have hS5 := HS.out wr.drew HBJ.out.drew
              have hsz := HBJ.out.size
              have hi1 : (k : Int) < (l.length : Int) := by omega
              go_upto_region 26 with fail
              go_region_held3 (fun W => (W.cell? ⟨g2, o2 + k * 3, none⟩ = some (I x.id) ∧ W.cell? ⟨g2, o2 + k * 3 + 1, none⟩ = some (I x.x) ∧ W.cell? ⟨g2, o2 + k * 3 + 2, none⟩ = some (I x.y)) ∧ W.cell? ⟨w.heap.size, 0, none⟩ = some (I 1) ∧ W.cell? ⟨w.heap.size, 1, none⟩ = some (I qa) ∧ W.cell? ⟨w.heap.size, 2, none⟩ = some (I qb) ∧ W.cell? ⟨w.heap.size, 3, none⟩ = some (I qc) ∧ W.cell? ⟨w.heap.size, 4, none⟩ = some (I qd) ∧ W.cell? ⟨w.heap.size, 5, none⟩ = some (I qx) ∧ W.cell? ⟨w.heap.size, 6, none⟩ = some (I qy) ∧ W.cell? ⟨w.heap.size, 7, none⟩ = some (I qk)) (first | exact hS5 | exact hS6) ((go_at_call 53; go_must (refine (HINX.out _).mono ?_; rintro _ w6 ⟨rfl, hb6⟩; have hs6 := hb6.size; have HB6 := hide (HBJ.out.drew.trans (hb6.mono (by simp; omega))); have hS6 := HS.out w6 HB6.out; clear hb6)))
              all_goals
                clear hS5 hS6
                have k0' : w6.cell? ⟨w.heap.size, 0, none⟩ = some (I 1) := (HQ.out _ HB6.out).1
                generalize Ward.inB (Ward.window ⟨1, qa, qb, qc, qd, qx, qy, qk⟩) x = r at *
                cases hs with
                | true =>
                  go_wp2_with fail
                  go_roundg (l.length - (k + 1))
                  case measure => have := HGK.out; omega
                  case rel => exact ⟨k + 1, rfl, by go_num, by go_num, hlt, HB6.out⟩
                | false =>
                  · have hA0' : (0 : Int) < (A.length : Int) := by omega
                    have hA2 : 1 ≤ A.length := by omega
                    have hA3 : 0 < A.length := by omega
                    obtain ⟨g, o, rfl, hz⟩ := HA.out (A.length - 1) (by omega)
                    have hnr := HXX.out rfl _ (last_get (by omega))
                    have hzl := HMEM.out _ (List.getElem_mem (show A.length - 1 < A.length by omega))
                    generalize A[A.length - 1] = z at *
                    have HF1 := hide (fun W => HFAR.out x HXL.out W)
                    have HF2 := hide (fun W => HFAR.out z hzl W)
                    unfold Ward.nr at hnr
                    rw [Ward.far_dist, Ward.far_dist] at hnr
                    generalize Ward.far z qx qy = fb at *
                    generalize Ward.far x qx qy = fa at *
                    have HNR := hide hnr
                    have HS3 := hide (fun (W : World) (hb : Below w1.heap.size w1 W) => show (fun W => (W.cell? ⟨g2, o2 + k * 3, none⟩ = some (I x.id) ∧ W.cell? ⟨g2, o2 + k * 3 + 1, none⟩ = some (I x.x) ∧ W.cell? ⟨g2, o2 + k * 3 + 2, none⟩ = some (I x.y)) ∧ (W.cell? ⟨g, o + (A.length - 1) * 3, none⟩ = some (I z.id) ∧ W.cell? ⟨g, o + (A.length - 1) * 3 + 1, none⟩ = some (I z.x) ∧ W.cell? ⟨g, o + (A.length - 1) * 3 + 2, none⟩ = some (I z.y)) ∧ W.cell? ⟨w.heap.size, 0, none⟩ = some (I 1) ∧ W.cell? ⟨w.heap.size, 1, none⟩ = some (I qa) ∧ W.cell? ⟨w.heap.size, 2, none⟩ = some (I qb) ∧ W.cell? ⟨w.heap.size, 3, none⟩ = some (I qc) ∧ W.cell? ⟨w.heap.size, 4, none⟩ = some (I qd) ∧ W.cell? ⟨w.heap.size, 5, none⟩ = some (I qx) ∧ W.cell? ⟨w.heap.size, 6, none⟩ = some (I qy) ∧ W.cell? ⟨w.heap.size, 7, none⟩ = some (I qk)) W from ⟨HXI.out W (HBW.out W hb), hz W (HBW.out W hb), HQ.out W hb⟩)
                    have hix : ((A.length : Int) - 1).toNat = A.length - 1 := by omega
                    have hw3 : wrap64 ((A.length : Int) - 1) = (A.length : Int) - 1 := by unfold wrap64; omega
                    have hw1 : IntKind.i64.wrap ((A.length : Int) - 1) = (A.length : Int) - 1 := by simp [IntKind.wrap, IntKind.signed, IntKind.bits]; omega
                    have hj1 : (0 : Int) ≤ (A.length : Int) - 1 := by omega
                    have hj2 : (A.length : Int) - 1 < (A.length : Int) := by omega
                    have hsq : w1.heap.size ≤ w6.heap.size := HB6.out.size
                    have hS7 := HS3.out w6.drew HB6.out.drew
                    clear hnr hz hzl
                    go_upto_region 30 with fail
                    go_region_held3 (fun W => (W.cell? ⟨g2, o2 + k * 3, none⟩ = some (I x.id) ∧ W.cell? ⟨g2, o2 + k * 3 + 1, none⟩ = some (I x.x) ∧ W.cell? ⟨g2, o2 + k * 3 + 2, none⟩ = some (I x.y)) ∧ (W.cell? ⟨g, o + (A.length - 1) * 3, none⟩ = some (I z.id) ∧ W.cell? ⟨g, o + (A.length - 1) * 3 + 1, none⟩ = some (I z.x) ∧ W.cell? ⟨g, o + (A.length - 1) * 3 + 2, none⟩ = some (I z.y)) ∧ W.cell? ⟨w.heap.size, 0, none⟩ = some (I 1) ∧ W.cell? ⟨w.heap.size, 1, none⟩ = some (I qa) ∧ W.cell? ⟨w.heap.size, 2, none⟩ = some (I qb) ∧ W.cell? ⟨w.heap.size, 3, none⟩ = some (I qc) ∧ W.cell? ⟨w.heap.size, 4, none⟩ = some (I qd) ∧ W.cell? ⟨w.heap.size, 5, none⟩ = some (I qx) ∧ W.cell? ⟨w.heap.size, 6, none⟩ = some (I qy) ∧ W.cell? ⟨w.heap.size, 7, none⟩ = some (I qk)) (first | exact hS7 | exact hS8 | exact hS9) ((first | (go_at_call_of 52 (I x.id); go_must (refine (HF1.out _).mono ?_; rintro _ w7 ⟨rfl, hb7⟩; have hs7 := hb7.size; have HB7 := hide (HB6.out.drew.trans (hb7.mono (by simp; omega))); have hS8 := HS3.out w7 HB7.out; clear hb7)) | (go_at_call_of 52 (I z.id); go_must (refine (HF2.out _).mono ?_; rintro _ w8 ⟨rfl, hb8⟩; have HB8 := hide (HB7.out.trans (hb8.mono (by simp at hs7; omega))); have hS9 := HS3.out w8 HB8.out; clear hb8))))
                    all_goals
                      clear hS7 hS8
                      obtain ⟨⟨p1, p2, p3⟩, ⟨q1, q2, q3⟩, k0, k1, k2, k3, k4, k5, k6, k7⟩ := hS9
                      by_cases hab : fa = fb
                      · have hid : ¬ x.id < z.id := by have := HNR.out; omega
                        have hgt : ¬ fa < fb := by omega
                        go_upto_region 31 with fail
                        go_quiet (fail)
                        have HB9 := hide (HB8.out.trans (below_drewN' w8 nq _))
                        generalize World.drewN w8 nq = w9 at *
                        go_wp2_with fail
                        go_roundg (l.length - (k + 1))
                        case measure => have := HGK.out; omega
                        case rel => exact ⟨k + 1, rfl, by go_num, by go_num, hlt, HB9.out⟩
                      · have hgt : ¬ fa < fb := by have := HNR.out; omega
                        go_upto_region 31 with fail
                        go_quiet (fail)
                        have HB9 := hide (HB8.out.trans (below_drewN' w8 nq _))
                        generalize World.drewN w8 nq = w9 at *
                        go_wp2_with fail
                        go_roundg (l.length - (k + 1))
                        case measure => have := HGK.out; omega
                        case rel => exact ⟨k + 1, rfl, by go_num, by go_num, hlt, HB9.out⟩
        · have ek : k = l.length := by omega
          subst ek
          obtain ⟨k0, k1, k2, k3, k4, k5, k6, k7⟩ := HQ.out wr HBK.out
          by_cases hmany : qk < (l.length : Int)
          · have hfin : (A.length : Int) = qk := by have : (A.length : Int) = min (l.length : Int) qk := HNEAR.out.2.2; omega
            go_wp2_with fail
            go_ret
            exact ⟨rfl, HBW.out _ HBK.out⟩
          · have hfin : (A.length : Int) = (l.length : Int) := by have : (A.length : Int) = min (l.length : Int) qk := HNEAR.out.2.2; omega
            go_wp2_with fail
            go_ret
            exact ⟨rfl, HBW.out _ HBK.out⟩
end Go.Proofs.YtenaelkbgkpllaaGreatDoor
/- A point taken out of a list. -/
namespace Go.Proofs.YtenaelkbgkpllaaGreatDoor
open Go.RowKit

theorem zeroPt (w : World) : (zeroValue 36).run Tryz.prog w = .ok (.agg #[I 0, I 0, I 0]) w := by kernel_rfl
/-- clear, of one point of a row -/
theorem clear_pt (w : World) (g o c : Nat) (cur : Array Value) (ty : TypeId) (hg : w.heap[g]? = some (.cells cur 36 (0, 0))) (hfit : o + 3 ≤ cur.size) :
    (Builtin.clear_ #[27] ty #[.slice (some ⟨g, o, none⟩) 1 c]).run Tryz.prog w = .ok (.tuple #[]) (w.setRow g (cur.toList.take o ++ [I 0, I 0, I 0] ++ cur.toList.drop (o + 3)).toArray) := by
  have hst := run_storeCells_at Tryz.prog g o 36 [I 0, I 0, I 0] 0 cur w hg (by simpa using hfit) (fun v hv => by
    simp only [List.mem_cons, List.not_mem_nil, or_false] at hv
    rcases hv with rfl | rfl | rfl <;> rfl)
  simp only [Nat.add_zero] at hst
  have hzc : (Builtin.zeroCells (Value.agg #[I 0, I 0, I 0]).cells 1).toList = [I 0, I 0, I 0] := by
    simp [Builtin.zeroCells, Value.cells]
    rfl
  have hz := zeroPt
  simp [Builtin.clear_, run_underlying Tryz.underlying27, hz, hzc, hst]
set_option maxRecDepth 100000 in
set_option maxHeartbeats 4000000 in
theorem delete_any (g c pos m : Nat) (cur : Array Value) (L : List Ward.Pt) (w : World) (hg : w.heap[g]? = some (.cells cur 36 (0, 0))) (hcur : cur.toList.take (L.length * 3) = L.flatMap P3) (hcs : cur.size = c * 3) (hL : L.length = pos + m + 1) (hc : pos + m + 1 ≤ c) (hcm : c ≤ maxLen) :
    Calls Tryz.prog 45 #[.slice (some ⟨g, 0, none⟩) (pos + m + 1) c, I pos, I ((pos : Int) + 1)] w fun e w' => e = .returned (.slice (some ⟨g, 0, none⟩) (pos + m) c) ∧ (∃ cur' : Array Value, w'.heap[g]? = some (.cells cur' 36 (0, 0)) ∧ cur'.size = cur.size ∧ cur'.toList.take ((pos + m) * 3) = (L.eraseIdx pos).flatMap P3) ∧ Keeps (fun j => j = g) w w' := by
  unfold maxLen at hcm
  have HG := hide hg
  have HCU := hide hcur
  have HCS := hide hcs
  have HLL := hide hL
  have h1 : (pos : Int) + 1 ≤ (pos : Int) + (m : Int) + 1 := by omega
  have h2 : (pos : Int) + (m : Int) + 1 ≤ (c : Int) := by omega
  have h3 : (0 : Int) ≤ (pos : Int) + 1 := by omega
  have h4 : (pos : Int) ≤ (c : Int) := by omega
  have h5 : (pos : Int) + 1 ≤ (c : Int) := by omega
  clear hg hcur hcs hL
  go_enter Tryz.func45, Tryz.ntmps45
  obtain ⟨R1, hR1⟩ : ∃ R1, (cur.toList.take (pos * 3) ++ (L.drop (pos + 1)).flatMap P3 ++ cur.toList.drop (pos * 3 + m * 3)) = R1 := ⟨_, rfl⟩
  have hap : ∀ (cc : Nat), (Builtin.append_ #[27, 27] 27 #[.slice (some ⟨g, 0, none⟩) pos c, .slice (if c = pos + 1 then some ⟨g, 0, none⟩ else some ⟨g, (pos + 1) * 3, none⟩) m cc]).run Tryz.prog w.drew = .ok (.slice (some ⟨g, 0, none⟩) (pos + m) c) (w.drew.setRow g (cur.toList.take (pos * 3) ++ (L.drop (pos + 1)).flatMap P3 ++ cur.toList.drop (pos * 3 + m * 3)).toArray) := by
    intro cc
    obtain ⟨i0, hi, hz0, hz1, hz2⟩ := info_parts Tryz.infoPt
    have hdl : ((L.drop (pos + 1)).flatMap P3).length = m * 3 := by
      rw [cells_len, List.length_drop, HLL.out]
      congr 1
      omega
    have key : ∀ a : Addr, (∀ j u, ((L.drop (pos + 1)).flatMap P3)[j]? = some u → w.cell? (a.add j) = some u) → (Builtin.append_ #[27, 27] 27 #[.slice (some ⟨g, 0, none⟩) pos c, .slice (some a) m cc]).run Tryz.prog w.drew = .ok (.slice (some ⟨g, 0, none⟩) (pos + m) c) (w.drew.setRow g (cur.toList.take (pos * 3) ++ (L.drop (pos + 1)).flatMap P3 ++ cur.toList.drop (pos * 3 + m * 3)).toArray) := fun a hn => by
      have h := run_append_room (P := Tryz.prog) w.drew 27 27 36 i0 Tryz.underlying27 hi g pos c cur HG.out a m cc ((L.drop (pos + 1)).flatMap P3) (by rw [hz1]; exact hdl) hn (fun u hu => cells_one u hu) (by omega) (by rw [hz1, hdl, HCS.out]; omega)
      rw [hz1, hdl] at h
      exact h
    by_cases hcp : c = pos + 1
    · rw [if_pos hcp]
      refine key _ (fun j u hj => ?_)
      have hm0 : m = 0 := by omega
      rw [List.getElem?_eq_none (by rw [hdl, hm0]; omega)] at hj
      cases hj
    · rw [if_neg hcp]
      refine key _ (fun j u hj => ?_)
      have hjl : j < m * 3 := by rw [← hdl]; exact (List.getElem?_eq_some_iff.1 hj).1
      rw [Addr.add_lit, cell_of_row _ _ _ _ _ _ HG.out, ← Array.getElem?_toList]
      have h0 : (cur.toList.take (L.length * 3))[(pos + 1) * 3 + j]? = (L.flatMap P3)[(pos + 1) * 3 + j]? := by rw [HCU.out]
      rw [List.getElem?_take_of_lt (by rw [HLL.out]; omega)] at h0
      rw [h0]
      have h1 : L.flatMap P3 = (L.take (pos + 1)).flatMap P3 ++ (L.drop (pos + 1)).flatMap P3 := by rw [← List.flatMap_append, List.take_append_drop]
      rw [h1, List.getElem?_append_right (by rw [cells_len, List.length_take, HLL.out]; omega)]
      rw [cells_len, List.length_take, HLL.out, show (pos + 1) * 3 + j - min (pos + 1) (pos + m + 1) * 3 = j by rw [Nat.min_eq_left (by omega)]; omega]
      exact hj
  have hl1 : R1.length = c * 3 := by
    have hdl : ((L.drop (pos + 1)).flatMap P3).length = m * 3 := by
      rw [cells_len, List.length_drop, HLL.out]
      congr 1
      omega
    rw [← hR1, List.length_append, List.length_append, hdl, List.length_take, List.length_drop, Array.length_toList, HCS.out]
    omega
  have ht1 : R1.take ((pos + m) * 3) = (L.eraseIdx pos).flatMap P3 := by
    have hdl : ((L.drop (pos + 1)).flatMap P3).length = m * 3 := by
      rw [cells_len, List.length_drop, HLL.out]
      congr 1
      omega
    have htk : cur.toList.take (pos * 3) = (L.take pos).flatMap P3 := by
      have h0 := congrArg (List.take (pos * 3)) HCU.out
      rw [List.take_take, Nat.min_eq_left (by rw [HLL.out]; omega)] at h0
      rw [h0]
      have h1 : L.flatMap P3 = (L.take pos).flatMap P3 ++ (L.drop pos).flatMap P3 := by rw [← List.flatMap_append, List.take_append_drop]
      rw [h1, List.take_append_of_le_length (by rw [cells_len, List.length_take, HLL.out]; omega), List.take_of_length_le (by rw [cells_len, List.length_take]; omega)]
    rw [← hR1, htk, List.take_append_of_le_length (by rw [List.length_append, hdl, cells_len, List.length_take, HLL.out]; omega), List.take_of_length_le (by rw [List.length_append, hdl, cells_len, List.length_take]; omega), ← List.flatMap_append, List.eraseIdx_eq_take_drop_succ]
  have HT1 := hide ht1
  have HL1 := hide hl1
  have hg1 := setRow_heap w.drew g cur R1.toArray 36 (0, 0) HG.out
  have hk1 : Keeps (fun j => j = g) w (w.drew.setRow g R1.toArray) := ⟨rfl, rfl, rfl, by simp, fun j _ hn => setRow_other w.drew g j _ hn⟩
  rw [hR1] at hap
  generalize World.setRow w.drew g R1.toArray = w1 at *
  have HK1 := hide hk1
  have HG1 := hide hg1
  clear hR1 hl1 ht1 hg1 hk1
  go_upto_region 5 with fail
  go_region_law (refine step_append_run rfl _ _ 27 27 rfl (.slice (some ⟨g, 0, none⟩) pos c) (.slice (if c = pos + 1 then some ⟨g, 0, none⟩ else some ⟨g, (pos + 1) * 3, none⟩) m (c - (pos + 1))) rfl rfl (hap _) ?_)
  clear hap
  generalize (if c = pos + 1 then some (⟨g, 0, none⟩ : Addr) else some ⟨g, (pos + 1) * 3, none⟩) = src
  obtain ⟨R2, hR2⟩ : ∃ R2, (R1.take ((pos + m) * 3) ++ [I 0, I 0, I 0] ++ R1.drop ((pos + m) * 3 + 3)) = R2 := ⟨_, rfl⟩
  have hcl := fun (ty : TypeId) (cc : Nat) => clear_pt w1 g ((pos + m) * 3) cc R1.toArray ty HG1.out (by rw [List.size_toArray, HL1.out]; omega)
  have hl2 : R2.length = c * 3 := by
    rw [← hR2]
    simp only [List.length_append, List.length_take, List.length_drop, List.length_cons, List.length_nil, HL1.out]
    omega
  have ht2 : R2.take ((pos + m) * 3) = (L.eraseIdx pos).flatMap P3 := by
    rw [← hR2, List.append_assoc, List.take_append_of_le_length (by rw [List.length_take, HL1.out]; omega), List.take_take, Nat.min_self]
    exact HT1.out
  simp only [hR2] at hcl
  have HG2 := hide (setRow_heap w1 g R1.toArray R2.toArray 36 (0, 0) HG1.out)
  have HK2 := hide (HK1.out.trans (keeps_setRow w1 g R2.toArray) (fun _ _ h => h))
  have HL2 := hide hl2
  have HT2 := hide ht2
  generalize World.setRow w1 g R2.toArray = w2 at *
  have h6 : ¬ c = pos + m := by omega
  have h7 : (pos : Int) + (m : Int) ≤ (pos : Int) + (m : Int) + 1 := by omega
  clear hR2 hl2 ht2
  go_wp2_with fail
  go_ret
  exact ⟨rfl, ⟨R2.toArray, HG2.out, by rw [List.size_toArray, HL2.out, HCS.out], HT2.out⟩, HK2.out⟩
end Go.Proofs.YtenaelkbgkpllaaGreatDoor
/- A map's Delete. -/
namespace Go.Proofs.YtenaelkbgkpllaaGreatDoor
open Go.RowKit

set_option maxRecDepth 100000 in
set_option maxHeartbeats 4000000 in
theorem mapDelete_any (m : Nat) (v : Value) (L : List Ward.Pt) (id : Int) (w : World) (hm : IsMap w m v L) (hn : L.length ≤ 1000) (hid : ∃ q ∈ L, q.id = id) :
    Calls Tryz.prog 19 #[.pointer (some ⟨m, 0, none⟩), I id] w fun e w' => e = .returned (I 0) ∧ ∃ v' i, ∃ h : i < L.length, L[i].id = id ∧ IsMap w' m v' (L.eraseIdx i) ∧ Fresh w v v' ∧ Keeps (Mine m v) w w' := by
  have HFI := hide (find_any m v L id w hm.cell hm.own.reads hn)
  have HM := hide hm
  have HID := hide hid
  have hmlt := hm.lt
  clear hm hid
  go_enter Tryz.func19, Tryz.ntmps19
  go_wp2_with fail
  refine HFI.out.mono ?_
  rintro _ w1 ⟨r, rfl, hpl, hb1⟩
  rcases hpl with ⟨-, hno⟩ | ⟨i, hi, rfl, hii⟩
  · obtain ⟨q, hq, e⟩ := HID.out
    exact absurd e (hno q hq)
  · have HII := hide hii
    have hM1 := HM.out.below hb1
    have HB1 := hide hb1
    have hs1 := hb1.size
    obtain ⟨m2, hm2⟩ : ∃ m2, L.length = i + m2 + 1 := ⟨L.length - i - 1, by omega⟩
    have HM2 := hide hm2
    obtain ⟨-, ho⟩ := hM1.own
    rcases ho with ⟨-, h0⟩ | ⟨g, c, cur, ev, -, hg, hc, hcm, hcs, htk⟩
    · omega
    · have hap := hM1.apart
      rw [hm2] at ev hc
      subst ev
      have hgm : g ≠ m := fun e => hap (by rw [e]; rfl)
      have hc1 := hM1.cell
      have HCS := hide hcs
      have HD := hide (delete_any g c i m2 cur L w1 hg htk hcs hm2 hc hcm)
      have HMR := hide hM1.row
      have hglt : g < w1.heap.size := (Array.getElem?_eq_some_iff.1 hg).1
      clear hii hb1 hM1 hm2 hap hg htk hcs HFI
      unfold maxLen at hcm
      have hi9 : (i : Int) ≤ 1000 := by omega
      go_wp2_with fail
      refine HD.out.mono ?_
      rintro _ w2 ⟨rfl, ⟨cur', hg2, hs2', ht2⟩, hk2⟩
      have hs2 := hk2.size
      have hmr2 := (hk2.block m (by omega) (fun e => hgm e.symm)).trans HMR.out
      have hc2 : w2.cell? ⟨m, 0, none⟩ = some (.slice (some ⟨g, 0, none⟩) (i + m2 + 1) c) := by rw [cell_of_row _ _ _ _ _ _ hmr2]; rfl
      have hf2 := frozen_node hmr2 0
      have HR3 := hide (heap_setCell_same w2 m 0 _ 79 (.slice (some ⟨g, 0, none⟩) (i + m2) c) hmr2)
      have HG3 := hide ((Below.heap_setCell w2 ⟨m, 0, none⟩ (.slice (some ⟨g, 0, none⟩) (i + m2) c) g (fun e => hgm e)).trans hg2)
      have HK3 := hide (show Keeps (Mine m (.slice (some ⟨g, 0, none⟩) (i + m2 + 1) c)) w (w2.setCell ⟨m, 0, none⟩ (.slice (some ⟨g, 0, none⟩) (i + m2) c)) from ⟨hk2.os.trans HB1.out.os, hk2.tape.trans HB1.out.tape, hk2.output.trans HB1.out.output, by simp; omega, fun j hj hn => (Below.heap_setCell _ _ _ _ (fun e => hn (Or.inl e))).trans ((hk2.block j (by omega) (fun e => hn (Or.inr (by rw [e]; rfl)))).trans (HB1.out.block j hj))⟩)
      have HT := hide ht2
      have HSZ := hide hs2'
      have HCC := hide hc
      clear hk2 hg2 ht2 hmr2 hs2'
      go_wp2_with fail
      go_ret
      have hel : (L.eraseIdx i).length = i + m2 := by rw [List.length_eraseIdx_of_lt hi, HM2.out]; rfl
      refine ⟨rfl, _, i, hi, HII.out, ⟨HR3.out, ⟨cells_len _, Or.inr ⟨g, c, cur', by rw [hel], Nat.zero_le _, HG3.out, by rw [hel]; omega, by unfold maxLen; omega, ?_, by rw [hel]; exact HT.out⟩⟩, fun e => hgm (by injection e)⟩, Or.inl rfl, HK3.out⟩
      rw [HSZ.out, HCS.out]
end Go.Proofs.YtenaelkbgkpllaaGreatDoor
/- A map's Answer. -/
namespace Go.Proofs.YtenaelkbgkpllaaGreatDoor
open Go.RowKit

/-- what Answer reads: the map's header, the query -/
def MapQry (W : World) (m g : Nat) (v : Value) (q : Ward.Qr) : Prop := W.cell? ⟨m, 0, none⟩ = some v ∧ W.cell? ⟨g, 0, none⟩ = some (I q.kind) ∧ W.cell? ⟨g, 1, none⟩ = some (I q.a) ∧ W.cell? ⟨g, 2, none⟩ = some (I q.b) ∧ W.cell? ⟨g, 3, none⟩ = some (I q.c) ∧ W.cell? ⟨g, 4, none⟩ = some (I q.d) ∧ W.cell? ⟨g, 5, none⟩ = some (I q.x) ∧ W.cell? ⟨g, 6, none⟩ = some (I q.y) ∧ W.cell? ⟨g, 7, none⟩ = some (I q.k)
theorem MapQry.below {w w' : World} {m g B : Nat} {v : Value} {q : Ward.Qr} (h : MapQry w m g v q) (hb : Below B w w') (hm : m < B) (hg : g < B) : MapQry w' m g v q := by
  obtain ⟨h0, k0, k1, k2, k3, k4, k5, k6, k7⟩ := h
  have hc := fun o => hb.cell (p := ⟨g, o, none⟩) hg
  exact ⟨(hb.cell (p := ⟨m, 0, none⟩) hm).trans h0, (hc 0).trans k0, (hc 1).trans k1, (hc 2).trans k2, (hc 3).trans k3, (hc 4).trans k4, (hc 5).trans k5, (hc 6).trans k6, (hc 7).trans k7⟩
theorem MapQry.drew {w : World} {m g : Nat} {v : Value} {q : Ward.Qr} (h : MapQry w m g v q) : MapQry w.drew m g v q := by simpa [MapQry] using h
set_option maxRecDepth 100000 in
set_option maxHeartbeats 4000000 in
theorem map_answer {q : Ward.Qr} (m : Nat) (v : Value) (L : List Ward.Pt) (w : World) (hq : Ward.mayBe q = true) (hm : IsMap w m v L) (hG : Good L) (hKT : KT w) :
    Calls Tryz.prog 21 #[.pointer (some ⟨m, 0, none⟩), Qv q] w fun e w' => ∃ va, e = .returned (.tuple #[va, I 0]) ∧ Own w' w.heap.size va (Ward.ans q L) ∧ Below w.heap.size w w' := by
  have hmlt := hm.lt
  have HM := hide hm
  have HMB := hide (fun W => mayBe_any q W)
  rw [hq] at HMB
  have HBM := hide (fun (W : World) (hb : Below w.heap.size w W) => build_map m v L W (hm.below hb) hG (hKT.below hb))
  have HAN := hide (fun (W : World) (V : List Value) (hb : Below w.heap.size w W) hN => (asks_any hq hG).answer W V (hKT.below hb) hN)
  have hr0' := heap_alloc_new w
  have hb0' := fun o => (Below.refl w.heap.size w).alloc (Nat.le_refl _) o
  have hs0' := fun o => show (w.alloc o).heap.size = w.heap.size + 1 by simp
  obtain ⟨av, cv, ev⟩ := hm.slice
  subst ev
  clear hm hKT hG
  obtain ⟨qk, qa, qb, qc, qd, qx, qy, qn⟩ := q
  go_enter Tryz.func21, Tryz.ntmps21
  go_upto_region 1 with fail
  generalize hW : World.alloc w _ = w0
  have hb0 : Below w.heap.size w w0 := by rw [← hW]; exact hb0' _
  have hr0 : w0.heap[w.heap.size]? = some (.cells #[I qk, I qa, I qb, I qc, I qd, I qx, I qy, I qn] 46 (0, 0)) := by rw [← hW]; exact hr0' _
  have hs0 : w.heap.size + 1 ≤ w0.heap.size := by rw [← hW, hs0']; exact Nat.le_refl _
  clear hb0' hr0' hs0' hW
  obtain ⟨k0, k1, k2, k3, k4, k5, k6, k7⟩ := rowQ8 hr0
  have HQ0 := hide (show MapQry w0 m w.heap.size _ ⟨qk, qa, qb, qc, qd, qx, qy, qn⟩ from ⟨(HM.out.below hb0).cell, rowQ8 hr0⟩)
  have HB0 := hide hb0
  clear hr0 hb0
  go_wp2_with fail
  refine (HMB.out w0).mono ?_
  rintro _ w1 ⟨rfl, hb1⟩
  have hs1 := hb1.size
  have HB1 := hide (HB0.out.trans (hb1.mono (by omega)))
  have hQ1 := HQ0.out.below hb1 (by omega) (by omega)
  have HQ1 := hide hQ1
  clear hb1 k0 k1 k2 k3 k4 k5 k6 k7
  go_upto_region 3 with fail
  go_region_held3 (fun W => W.cell? ⟨m, 0, none⟩ = some (.slice av L.length cv) ∧ W.cell? ⟨w.heap.size, 0, none⟩ = some (I qk) ∧ W.cell? ⟨w.heap.size, 1, none⟩ = some (I qa) ∧ W.cell? ⟨w.heap.size, 2, none⟩ = some (I qb) ∧ W.cell? ⟨w.heap.size, 3, none⟩ = some (I qc) ∧ W.cell? ⟨w.heap.size, 4, none⟩ = some (I qd) ∧ W.cell? ⟨w.heap.size, 5, none⟩ = some (I qx) ∧ W.cell? ⟨w.heap.size, 6, none⟩ = some (I qy) ∧ W.cell? ⟨w.heap.size, 7, none⟩ = some (I qn)) (first | assumption | exact HQ1.out | exact HQ1.out.drew) ((first | (go_at_call 38; refine (HBM.out _ HB1.out.drew).mono ?_; rintro _ w2 ⟨V, rfl, hn2, hb2⟩; have hs2 : w1.heap.size ≤ w2.heap.size := hb2.size; have hQ2 := HQ1.out.drew.below hb2 (by simp; omega) (by simp; omega); have HB2 := hide (show Below w.heap.size w w2 from HB1.out.drew.trans (hb2.mono (by simp; omega)))) | (go_at_call 40; refine (HAN.out _ V HB2.out hn2).mono ?_; rintro _ w3 ⟨va, rfl, ho3, hb3⟩; have hQ3 := hQ2.below hb3 (by omega) (by omega))))
  all_goals
    have HO3 := hide (own_mono (B' := w.heap.size) ho3 (by omega))
    have HB3 := hide (HB2.out.trans (hb3.mono (by omega)))
    clear ho3 hb3 hn2 hQ1 hQ2 hQ3
    go_wp2
    go_ret2
    exact ⟨_, rfl, HO3.out, HB3.out⟩
end Go.Proofs.YtenaelkbgkpllaaGreatDoor
/- Twin maps side by side; right, of no points. -/
namespace Go.Proofs.YtenaelkbgkpllaaGreatDoor
open Go.RowKit

theorem erase_same {N L l : List Ward.Pt} {p : Ward.Pt} {i : Nat} (hN : Good N) (hp : N.Perm (p :: l)) (hL : L.Perm l) (hs : Ward.Sorted L) (hi : i < N.length) (he : N[i].id = p.id) : N.eraseIdx i = L := by
  have hmem : p ∈ N := hp.mem_iff.2 (List.mem_cons_self)
  have hNi : N[i] = p := Ward.ids_eq hN.ids (List.getElem_mem hi) hmem he
  have h1 : (N[i] :: N.eraseIdx i).Perm N := by
    rw [List.eraseIdx_eq_take_drop_succ]
    have h := List.perm_middle (a := N[i]) (l₁ := N.take i) (l₂ := N.drop (i + 1))
    rw [← List.drop_eq_getElem_cons hi, List.take_append_drop] at h
    exact h.symm
  rw [hNi] at h1
  have h2 : (N.eraseIdx i).Perm l := (List.perm_cons p).1 (h1.trans hp)
  exact Ward.sorted_eq (hN.sorted.sublist (List.eraseIdx_sublist N i)) hs (h2.trans hL.symm)
def p999 : Ward.Pt := ⟨999, 1, 1⟩
theorem first_code : insCode [] p999 = 0 := by
  unfold insCode
  rw [if_neg (fun e => e ⟨by decide, by decide⟩), if_neg (fun e => by
    rcases e with e | e
    · exact e ⟨by decide, by decide⟩
    · exact e ⟨by decide, by decide⟩), if_neg (fun ⟨q, hq, _⟩ => by simp at hq), if_neg (by decide)]
theorem first_list : insList [] p999 = [p999] := by
  unfold insList
  rw [if_pos first_code]
  try rfl
theorem back_code {N l : List Ward.Pt} {j : Nat} (hj : j < l.length) (hp : N.Perm (p999 :: l.drop (j + 1))) (hn : Near l) (hi : Ward.Ids l) (hl : l.length ≤ 39) : insCode N l[j] = 0 := by
  have h := hn l[j] (List.getElem_mem hj)
  have hll : N.length = (l.drop (j + 1)).length + 1 := hp.length_eq
  have hno : ¬ ∃ q ∈ N, q.id = l[j].id := by
    rintro ⟨q, hq, e⟩
    rcases List.mem_cons.1 (hp.mem_iff.1 hq) with rfl | hq
    · simp only [p999] at e; omega
    · obtain ⟨i, hi', rfl⟩ := List.mem_iff_getElem.1 hq
      rw [List.getElem_drop] at e
      exact List.pairwise_iff_getElem.1 hi j (j + 1 + i) hj (by rw [List.length_drop] at hi'; omega) (by omega) e.symm
  unfold insCode
  rw [if_neg (by omega), if_neg (by omega), if_neg hno, if_neg (by rw [List.length_drop] at hll; omega)]
theorem back_perm {N l : List Ward.Pt} {j : Nat} (hj : j < l.length) (hp : N.Perm (p999 :: l.drop (j + 1))) (hc : insCode N l[j] = 0) : (insList N l[j]).Perm (p999 :: l.drop j) := by
  unfold insList
  rw [if_pos hc, List.drop_eq_getElem_cons hj]
  exact (Ward.ins_perm _ _).trans ((List.Perm.cons _ hp).trans (List.Perm.swap _ _ _))
/-- a first map with what came with it, and a second one in newer blocks -/
structure Twin (B : Nat) (w0 : World) (X d : Nat) (code : List Int) (k m : Nat) (v : Value) (L : List Ward.Pt) (vl : Value) (l : List Ward.Pt) (n : Nat) (v2 : Value) (N : List Ward.Pt) (W : World) : Prop where
  held : Held B w0 W d code k m v L vl l
  map2 : IsMap W n v2 N
  hn : X ≤ n
  hv : ∀ g, v2.ownBlock = some g → X ≤ g
  lm : m < X
  lv : ∀ g, v.ownBlock = some g → g < X
  ll : ∀ g, vl.ownBlock = some g → g < X
  ld : d < X
  lB : B ≤ X
  l0 : w0.heap.size ≤ X
section
variable {B : Nat} {w0 : World} {X d : Nat} {code : List Int} {k m : Nat} {v : Value} {L : List Ward.Pt} {vl : Value} {l : List Ward.Pt} {n : Nat} {v2 v2' : Value} {N N' : List Ward.Pt} {W W' : World}
theorem Twin.below (h : Twin B w0 X d code k m v L vl l n v2 N W) (hb : Below W.heap.size W W') : Twin B w0 X d code k m v L vl l n v2 N W' := ⟨h.held.below hb, h.map2.below hb, h.hn, h.hv, h.lm, h.lv, h.ll, h.ld, h.lB, h.l0⟩
theorem Twin.step (h : Twin B w0 X d code k m v L vl l n v2 N W) (hX : X ≤ W.heap.size) (hm : IsMap W' n v2' N') (hf : Fresh W v2 v2') (hk : Keeps (Mine n v2) W W') : Twin B w0 X d code k m v L vl l n v2' N' W' := by
  have hS : ∀ j, Mine n v2 j → X ≤ j := fun j hj => by
    rcases hj with rfl | hj
    · exact h.hn
    · exact h.hv j hj.symm
  have hd := h.held
  refine ⟨⟨hd.map.keeps hk (fun j hj e => ?_), hd.good, hd.list.keeps hk (fun g hg e => ?_), hd.dice.keeps hk (fun j hj e => ?_), hd.newm, hd.newv, hd.apart, hd.keeps.trans hk (fun j hj e => ?_)⟩, hm, h.hn, fun g hg => ?_, h.lm, h.lv, h.ll, h.ld, h.lB, h.l0⟩
  · have := hS j e
    rcases hj with rfl | hj
    · have := h.lm; omega
    · have := h.lv j hj.symm; omega
  · have := hS g e; have := h.ll g hg; omega
  · have := hS j e; have := h.lB; omega
  · have := hS j e; have := h.l0; omega
  · rcases hf with hf | ⟨g', hf, hg'⟩
    · rw [hf] at hg; exact h.hv g hg
    · rw [hf] at hg
      injection hg with hg
      omega
theorem Twin.next {k' : Nat} (h : Twin B w0 X d code k m v L vl l n v2 N W) (hd : d < w0.heap.size) (hD : Dice W' B d code k') (hk : Keeps (fun j => j = d) W W') : Twin B w0 X d code k' m v L vl l n v2 N W' :=
  ⟨h.held.next hd hD hk, h.map2.keeps hk (fun j hj e => by
    have := h.ld
    rcases hj with rfl | hj
    · have := h.hn; omega
    · have := h.hv j hj.symm; omega), h.hn, h.hv, h.lm, h.lv, h.ll, h.ld, h.lB, h.l0⟩
end
set_option maxRecDepth 100000 in
set_option maxHeartbeats 4000000 in
theorem right_none (a1 a2 : Option Addr) (c1 c2 : Nat) (qa qb qc qd qx qy qk : Int) (w : World) (hq : 0 ≤ qk) :
    Calls Tryz.prog 23 #[.slice a1 0 c1, .slice a2 0 c2, Qv ⟨1, qa, qb, qc, qd, qx, qy, qk⟩] w fun e w' => e = .returned (.bool true) ∧ Below w.heap.size w w' := by
  have hb1' := fun o => (Below.refl w.heap.size w).alloc (Nat.le_refl _) o
  have hr1' := heap_alloc_new w
  go_enter Tryz.func23, Tryz.ntmps23
  go_upto_region 1 with fail
  generalize hW : World.alloc w _ = w1
  have hb1 : Below w.heap.size w w1 := by rw [← hW]; exact hb1' _
  have hr1 : w1.heap[w.heap.size]? = some (.cells #[I 1, I qa, I qb, I qc, I qd, I qx, I qy, I qk] 46 (0, 0)) := by rw [← hW]; exact hr1' _
  clear hb1' hr1' hW
  obtain ⟨k0, k1, k2, k3, k4, k5, k6, k7⟩ := rowQ8 hr1
  have HB1 := hide hb1
  clear hb1 hr1
  go_wp2_with fail
  go_loopg [7, 8, 9, 10, 11] 0 (fun _ v7 _ _ _ _ wq => v7 = I 0 ∧ wq = w1)
  case atStart => exact ⟨rfl, rfl⟩
  case round =>
    obtain ⟨rfl, rfl⟩ := hrel
    go_wp2_with fail
    go_loopg [12, 13, 14, 15, 16, 17, 18] 0 (fun _ v12 v13 _ _ _ _ _ wq => v12 = I 0 ∧ v13 = I 0 ∧ wq = wr)
    case atStart => exact ⟨rfl, rfl, rfl⟩
    case round =>
      obtain ⟨rfl, rfl, rfl⟩ := hrel
      go_wp2_with fail
      go_ret
      exact ⟨rfl, HB1.out⟩
/-- right, whatever the query -/
theorem right_any {q : Ward.Qr} (va vl : Value) (A l : List Ward.Pt) (w : World) (ha : Reads w va A) (hl : Reads w vl l) (hR : Ward.RightIs q A l) (hq : SmallQ q) (hok : ∀ p ∈ l, p.Ok) (hn1 : A.length ≤ 1000) (hn2 : l.length ≤ 1000) :
    Calls Tryz.prog 23 #[va, vl, Qv q] w fun e w' => e = .returned (.bool true) ∧ Below w.heap.size w w' := by
  obtain ⟨qk, qa, qb, qc, qd, qx, qy, qn⟩ := q
  rcases kind_two hq.1 with h | h
  · simp only at h
    subst h
    exact right_window va vl A l qa qb qc qd qx qy qn w ha hl hR hn1 hn2
  · simp only at h
    subst h
    obtain ⟨hx, hy, h1, h2⟩ := near_bounds rfl hq.1
    by_cases hA : A.length = 0
    · have hl0 : l.length = 0 := by
        have := (hR.near rfl).2.2
        simp only at this h1
        omega
      obtain ⟨a1, c1, e1, -⟩ := ha
      obtain ⟨a2, c2, e2, -⟩ := hl
      rw [hA] at e1
      rw [hl0] at e2
      subst e1 e2
      exact right_none a1 a2 c1 c2 qa qb qc qd qx qy qn w (by simp only at h1; omega)
    · exact right_near va vl A l qa qb qc qd qx qy qn w ha hl hR hok hx hy (by omega) hn1 hn2
end Go.Proofs.YtenaelkbgkpllaaGreatDoor
/- What a text that is taken apart shows, as the statement looks at it. -/
namespace Go.Proofs.YtenaelkbgkpllaaGreatDoor
namespace Ward
def toPT : (n : Nat) → NT n → PT n
  | 0, t => nomatch t
  | n + 1, t => if (Nd.kids t).length = 0 then .leaf ((Nd.pts t).flatMap ptText) else .node ((Nd.kids t).map fun c => (saidN n c, if shownN n c = true then .inr (toPT n c) else .inl 0))
theorem toPT_leaf {n : Nat} {t : NT (n + 1)} (h : (Nd.kids t).length = 0) : toPT (n + 1) t = .leaf ((Nd.pts t).flatMap ptText) := by
  show (if (Nd.kids t).length = 0 then _ else _) = _
  rw [if_pos h]
theorem toPT_node {n : Nat} {t : NT (n + 1)} (h : ¬ (Nd.kids t).length = 0) : toPT (n + 1) t = .node ((Nd.kids t).map fun c => (saidN n c, if shownN n c = true then .inr (toPT n c) else .inl 0)) := by
  show (if (Nd.kids t).length = 0 then _ else _) = _
  rw [if_neg h]
theorem toPT_shows : ∀ (n : Nat) (t : NT n), shows n (toPT n t) = textS n t
  | 0, t => nomatch t
  | n + 1, t => by
    by_cases h : (Nd.kids t).length = 0
    · rw [toPT_leaf h, textS_leaf _ _ h]
      exact emb_leaf _
    · rw [toPT_node h, textS_kids _ _ (by omega)]
      show 2 :: UInt8.ofNat (List.map _ (Nd.kids t)).length :: List.flatMap _ (List.map _ (Nd.kids t)) = _
      rw [List.length_map, List.flatMap_map]
      congr 2
      refine flatMap_congr fun c _ => ?_
      unfold kidText
      congr 1
      cases hs : shownN n c with
      | true => simp only [if_true]; rw [toPT_shows n c]
      | false => rfl
theorem toPT_alls : ∀ (n : Nat) (t : NT n), alls n (toPT n t) = ownsN n t
  | 0, t => nomatch t
  | n + 1, t => by
    by_cases h : (Nd.kids t).length = 0
    · rw [toPT_leaf h]
      show [_] = (Nd.kids t).flatMap _ ++ [ownN (n + 1) t]
      rw [List.length_eq_zero_iff.1 h, own_leaf h, List.flatMap_nil, List.nil_append, emb_leaf]
    · rw [toPT_node h]
      show List.flatMap _ (List.map _ (Nd.kids t)) ++ [2 :: UInt8.ofNat (List.map _ (Nd.kids t)).length :: List.flatMap _ (List.map _ (Nd.kids t))] = (Nd.kids t).flatMap _ ++ [ownN (n + 1) t]
      rw [List.length_map, List.flatMap_map, List.flatMap_map, own_node h]
      congr 1
      refine flatMap_congr fun c _ => ?_
      cases hs : shownN n c with
      | true => simp only [if_true]; rw [toPT_alls n c]
      | false => rfl
theorem toPT_wf : ∀ (d : Nat) (r : Bool) (t : NT (d + 1)), FormN d r t → WF (d + 1) (toPT (d + 1) t)
  | 0, _, _, h => absurd h (fun h => h)
  | d + 1, r, t, h => by
    rcases h with ⟨hk, h4, _, _⟩ | ⟨_, h0, h4, hkids⟩
    · rw [toPT_leaf (by rw [hk]; rfl)]
      exact ⟨(Nd.pts t).length, h4, pts_len _⟩
    · rw [toPT_node (by omega)]
      refine ⟨by rw [List.length_map]; exact h4, fun c hc => ?_⟩
      obtain ⟨u, hu, rfl⟩ := List.mem_map.1 hc
      obtain ⟨⟨_, _, _, hd⟩, hs⟩ := hkids u hu
      refine ⟨said_len52 hd, ?_⟩
      rcases hs with ⟨h1, h2⟩ | h1
      · simp only [shown_no h1 h2]
        exact show (0 : UInt8) ≠ 1 by decide
      · simp only [form_shown h1]
        exact toPT_wf d false u h1
theorem owns_few : ∀ (d : Nat) (r : Bool) (t : NT (d + 1)), FormN d r t → (ownsN (d + 1) t).length ≤ 5 ^ d
  | 0, _, _, h => absurd h (fun h => h)
  | d + 1, r, t, h => by
    have key : ∀ (l : List (NT (d + 1))), (∀ c ∈ l, shownN (d + 1) c = true → (ownsN (d + 1) c).length ≤ 5 ^ d) → (l.flatMap fun c => if shownN (d + 1) c = true then ownsN (d + 1) c else []).length ≤ 5 ^ d * l.length := by
      intro l
      induction l with
      | nil => intro _; simp
      | cons c l ih =>
        intro hl
        rw [List.flatMap_cons, List.length_append, List.length_cons]
        have h2 := ih fun x hx => hl x (by simp [hx])
        have h1 : (if shownN (d + 1) c = true then ownsN (d + 1) c else []).length ≤ 5 ^ d := by
          split
          · rename_i hs; exact hl c (by simp) hs
          · simp
        rw [Nat.mul_succ]; omega
    have h3 : 1 ≤ 5 ^ d := Nat.one_le_pow _ _ (by decide)
    show ((Nd.kids t).flatMap (fun c => if shownN (d + 1) c = true then ownsN (d + 1) c else []) ++ [ownN (d + 1 + 1) t]).length ≤ 5 ^ (d + 1)
    rw [List.length_append, List.length_singleton, Nat.pow_succ]
    rcases h with ⟨hk, _⟩ | ⟨_, _, h4, hkids⟩
    · rw [hk]; simp; omega
    · have h1 := key (Nd.kids t) fun c hc hs => by
        rcases (hkids c hc).2 with ⟨e1, e2⟩ | e1
        · rw [shown_no e1 e2] at hs; cases hs
        · exact owns_few d false c e1
      have h2 : 5 ^ d * (Nd.kids t).length ≤ 5 ^ d * 4 := Nat.mul_le_mul_left _ h4
      omega
end Ward
end Go.Proofs.YtenaelkbgkpllaaGreatDoor
