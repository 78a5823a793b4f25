/- Part 14 of what the claims on Bound, Small, Right and Sole rest on. -/
import Derived.Test.YtenaelkbgkpllaaGreatDoorKeep03
import Derived.Test.YtenaelkbgkpllaaGreatDoorKeep13
import Derived.Deep.DrawnRows
/- How far a box is; which children must be shown. -/
namespace Go.Proofs.YtenaelkbgkpllaaGreatDoor
open Go.RowKit

theorem gap_le {lo hi x : Int} (h1 : -1000000 ≤ lo) (h2 : lo ≤ 1000000) (h3 : -1000000 ≤ hi) (h4 : hi ≤ 1000000) (h5 : -1000000 ≤ x) (h6 : x ≤ 1000000) : Ward.gap lo hi x ≤ 2000000 := by
  unfold Ward.gap; omega
theorem sq_le {u : Int} (h0 : 0 ≤ u) (h1 : u ≤ 2000000) : 0 ≤ u * u ∧ u * u ≤ 4000000000000 :=
  ⟨Int.mul_nonneg h0 h0, Int.le_trans (Int.mul_le_mul h1 h1 h0 (by decide)) (by decide)⟩
theorem gap_if (lo hi x : Int) : (if (if lo - x < 0 then 0 else lo - x) < x - hi then x - hi else if lo - x < 0 then 0 else lo - x) = Ward.gap lo hi x := by
  unfold Ward.gap
  (repeat' split) <;> omega
set_option maxRecDepth 100000 in
set_option maxHeartbeats 2000000 in
theorem distance_any (b : Ward.Box) (x y : Int) (w : World) (hb : b.In) (hx : -1000000 ≤ x ∧ x ≤ 1000000) (hy : -1000000 ≤ y ∧ y ≤ 1000000) :
    Calls Tryz.prog 80 #[Bx b, I x, I y] w fun e w' => e = .returned (I (Ward.dist b x y)) ∧ Below w.heap.size w w' := by
  obtain ⟨a1, a2, b1, b2, c1, c2, d1, d2⟩ := hb
  obtain ⟨x1, x2⟩ := hx
  obtain ⟨y1, y2⟩ := hy
  have HD := hide (show Ward.dist b x y = Ward.gap b.a b.c x * Ward.gap b.a b.c x + Ward.gap b.b b.d y * Ward.gap b.b b.d y from rfl)
  have HGX := hide (gap_if b.a b.c x)
  have HGY := hide (gap_if b.b b.d y)
  have u0 := Ward.gap_nonneg b.a b.c x
  have u1 := gap_le a1 a2 c1 c2 x1 x2
  have v0 := Ward.gap_nonneg b.b b.d y
  have v1 := gap_le b1 b2 d1 d2 y1 y2
  obtain ⟨s0, s1⟩ := sq_le u0 u1
  obtain ⟨t0, t1⟩ := sq_le v0 v1
  obtain ⟨ba, bb, bc, bd⟩ := b
  simp only at *
  go_enter Tryz.func80, Tryz.ntmps80
  go_upto_region 3 with fail
  rw [HGX.out, HGY.out]
  generalize Ward.gap ba bc x = u at *
  generalize Ward.gap bb bd y = v at *
  go_wp2
  go_ret
  exact ⟨by rw [HD.out]; rfl, (Below.refl w.heap.size w).alloc (Nat.le_refl _) _⟩
theorem must_window {q : Ward.Qr} (h : q.kind = 0) (a : List Ward.Pt) (b : Ward.Box) : Ward.must q a b = Ward.meets (Ward.window q) b := by unfold Ward.must; rw [if_pos h]
/-- a query and a box as they lie -/
def QryBox (w : World) (g k : Nat) (q : Ward.Qr) (b : Ward.Box) : Prop :=
  w.heap[g]? = some (.cells #[I q.kind, I q.a, I q.b, I q.c, I q.d, I q.x, I q.y, I q.k] 46 (0, 0)) ∧ w.heap[k]? = some (.cells #[I b.a, I b.b, I b.c, I b.d] 88 (0, 0))
theorem QryBox.below {w w' : World} {g k B : Nat} {q : Ward.Qr} {b : Ward.Box} (h : QryBox w g k q b) (hb : Below B w w') (hg : g < B) (hk : k < B) : QryBox w' g k q b := ⟨(hb.block g hg).trans h.1, (hb.block k hk).trans h.2⟩
theorem rowQ8 {w : World} {g t : Nat} {a b c d e f h i : Value} (hr : w.heap[g]? = some (.cells #[a, b, c, d, e, f, h, i] t (0, 0))) : w.cell? ⟨g, 0, none⟩ = some a ∧ w.cell? ⟨g, 1, none⟩ = some b ∧ w.cell? ⟨g, 2, none⟩ = some c ∧ w.cell? ⟨g, 3, none⟩ = some d ∧ w.cell? ⟨g, 4, none⟩ = some e ∧ w.cell? ⟨g, 5, none⟩ = some f ∧ w.cell? ⟨g, 6, none⟩ = some h ∧ w.cell? ⟨g, 7, none⟩ = some i := by
  refine ⟨?_, ?_, ?_, ?_, ?_, ?_, ?_, ?_⟩ <;> rw [cell_of_row _ _ _ _ _ _ hr] <;> rfl
set_option maxRecDepth 100000 in
set_option maxHeartbeats 4000000 in
theorem mustShow_window (q : Ward.Qr) (v : Value) (b : Ward.Box) (w : World) (hk : q.kind = 0) :
    Calls Tryz.prog 42 #[Qv q, v, Bx b] w fun e w' => e = .returned (.bool (Ward.meets (Ward.window q) b)) ∧ Below w.heap.size w w' := by
  have HWI := hide (fun W => windowOf_any q W)
  generalize Ward.window q = wq at *
  have HMT := hide (fun W => meets_any wq b W)
  generalize Ward.meets wq b = r at *
  obtain ⟨qk, qa, qb, qc, qd, qx, qy, qn⟩ := q
  simp only at hk
  subst hk
  have hb2 := fun o o' => ((Below.refl w.heap.size w).alloc (Nat.le_refl _) o).alloc (by simp) o'
  have hr2 := heap_alloc2_new w
  have hr1 := heap_alloc2_old w
  have hs2 := fun o o' => show ((w.alloc o).alloc o').heap.size = w.heap.size + 2 by simp
  go_enter Tryz.func42, Tryz.ntmps42
  go_upto_region 2 with fail
  generalize hW : World.alloc (World.alloc w _) _ = w1
  have hb1 : Below w.heap.size w w1 := by rw [← hW]; exact hb2 _ _
  have h1 : QryBox w1 w.heap.size (w.heap.size + 1) ⟨0, qa, qb, qc, qd, qx, qy, qn⟩ b := by rw [← hW]; exact ⟨hr1 _ _, hr2 _ _⟩
  have hs1 : w.heap.size + 2 ≤ w1.heap.size := by rw [← hW, hs2]; exact Nat.le_refl _
  clear hb2 hr1 hr2 hs2 hW
  have HB1 := hide hb1
  have H1 := hide h1
  obtain ⟨k0, k1, k2, k3, k4, k5, k6, k7⟩ := rowQ8 h1.1
  obtain ⟨c1, c2, c3, c4⟩ := row4 h1.2
  clear hb1 h1
  go_region_with (first | (go_at_call 73; go_must (refine (HWI.out w1.drew).mono ?_; rintro _ w6 ⟨rfl, hb6⟩; have hs6 := hb6.size; have H6 := hide (QryBox.below (w := w1.drew) H1.out hb6 (by simp; omega) (by simp; omega)); obtain ⟨e1, e2, e3, e4⟩ := row4 H6.out.2; have HB6 := hide hb6; clear hb6)) | (go_at_call 78; go_must (refine (HMT.out w6).mono ?_; rintro _ w7 ⟨rfl, hb7⟩; have HB7 := hide hb7; have hs7 := hb7.size; clear hb7)))
  all_goals
    go_wp2
    go_ret
    have hd : w1.drew.heap.size = w1.heap.size := by simp
    rw [hd] at hs6
    exact ⟨rfl, (HB1.out.drew.trans (HB6.out.mono (by simp; omega))).trans (HB7.out.mono (by omega))⟩
end Go.Proofs.YtenaelkbgkpllaaGreatDoor
/- A whole node read where the order is drawn. -/
namespace Go.Proofs.YtenaelkbgkpllaaGreatDoor
open Go.RowKit

/-- the whole row that a pointer leads to -/
def loadVal (w : World) : Value → Value
  | .pointer (some ⟨g, 0, none⟩) => match w.heap[g]? with | some (.cells cs _ _) => .agg cs | _ => undef
  | _ => undef
/-- a pointer to a row of a node's cells -/
def NodeRow (w : World) (v : Value) : Prop := ∃ g cs t fr, v = .pointer (some ⟨g, 0, none⟩) ∧ w.heap[g]? = some (.cells cs t fr) ∧ cs.size = 39
theorem loadVal_row {w : World} {g t : Nat} {cs : Array Value} {fr : Nat × Nat} (h : w.heap[g]? = some (.cells cs t fr)) : loadVal w (.pointer (some ⟨g, 0, none⟩)) = .agg cs := by
  show (match w.heap[g]? with | some (.cells cs _ _) => Value.agg cs | _ => undef) = _
  rw [h]
theorem nodeRow_of {w : World} {g t : Nat} {cs : Array Value} {fr : Nat × Nat} (h : w.heap[g]? = some (.cells cs t fr)) (hs : cs.size = 39) : NodeRow w (.pointer (some ⟨g, 0, none⟩)) := ⟨g, cs, t, fr, rfl, h, hs⟩
theorem wp_load_node {d : Option Tmp} {x : Operand} {tt : TypeId} {ps : String} {af : Array Edge} {a : Act} {w : World} {K : Act → World → Prop} {Q : Exit → Act → World → Prop} (h : NodeRow w (a.eval x)) :
    Oper.wp Tryz.prog { dst := d, op := .load 90 x, type := tt, pos := ps, after := af, guard := none } a w K Q = K (a.put d (loadVal w (a.eval x))) w := by
  obtain ⟨g, cs, t, fr, hv, hg, hs⟩ := h
  obtain ⟨fs, hu⟩ := underNode
  have hr := run_loadVar_row (P := Tryz.prog) w g t 90 cs fr (.struct fs) hg hu rfl (by rw [hs]; exact Tryz.infoNode)
  rw [hv, loadVal_row hg]
  unfold Oper.wp execOp
  simp only [hv, Instr.loadAt, Instr.sureAddr, Sem.run_bind, Sem.run_pure, Result.andThen_ok, hr]
  rfl
end Go.Proofs.YtenaelkbgkpllaaGreatDoor
/- The answer to a window. -/
namespace Go.Proofs.YtenaelkbgkpllaaGreatDoor
open Go.RowKit

attribute [local go_sem ↓] Go.wp_at_zero Go.wp_at_succ wp_load_node
set_option maxRecDepth 100000 in
set_option maxHeartbeats 4000000 in
theorem answer_window (q : Ward.Qr) (n : Nat) (t : Ward.NT n) (V : List Value) (w : World) (hk : q.kind = 0) (hlen : (Ward.allN n t).length ≤ 1000) (hfew : Ward.Few n t) (hN : NodeIs w (fun g => g < w.heap.size) n t V) (hids : Ward.Ids (Ward.withinN (Ward.window q) n t)) :
    Calls Tryz.prog 40 #[.agg V.toArray, Qv q] w fun e w' => ∃ v, e = .returned v ∧ Own w' w.heap.size v (Ward.sortP (Ward.withinN (Ward.window q) n t)) ∧ Below w.heap.size w w' := by
  have HWI := hide (fun W => windowOf_any q W)
  have HWL := hide (Ward.within_le (Ward.window q) n t)
  generalize Ward.window q = wq at *
  obtain ⟨fs, hu⟩ := underNode
  have HU := hide hu
  obtain ⟨a1, l1, c1, a2, l2, c2, hV, hd⟩ := hN.cells
  have HR := hide (show Row39 V by rw [hV]; exact nodeV_row hd)
  have HN := hide hN
  have HF := hide hfew
  have HI := hide hids
  clear hu hV hd hN hfew hids
  obtain ⟨qk, qa, qb, qc, qd, qx, qy, qn⟩ := q
  simp only at hk
  subst hk
  have hb2 := fun o o' => ((Below.refl w.heap.size w).alloc (Nat.le_refl _) o).alloc (by simp) o'
  have hr2 := heap_alloc2_new w
  have hr1 := heap_alloc2_old w
  have hs2 := fun o o' => show ((w.alloc o).alloc o').heap.size = w.heap.size + 2 by simp
  go_enter Tryz.func40, Tryz.ntmps40
  go_upto_region 3 with fail
  generalize hW : World.alloc (World.alloc w _) _ = w1
  have hb1 : Below w.heap.size w w1 := by rw [← hW]; exact hb2 _ _
  have hn1 : w1.heap[w.heap.size]? = some (.cells V.toArray 90 (0, 0)) := by rw [← hW]; exact hr1 _ _
  have hq1 : w1.heap[w.heap.size + 1]? = some (.cells #[I 0, I qa, I qb, I qc, I qd, I qx, I qy, I qn] 46 (0, 0)) := by rw [← hW]; exact hr2 _ _
  have hs1 : w.heap.size + 2 ≤ w1.heap.size := by rw [← hW, hs2]; exact Nat.le_refl _
  clear hb2 hr1 hr2 hs2 hW
  have HB1 := hide hb1
  have HN1 := hide hn1
  obtain ⟨k0, k1, k2, k3, k4, k5, k6, k7⟩ := rowQ8 hq1
  clear hb1 hn1 hq1
  have HAW := hide (fun (W : World) (hb : Below w.heap.size w W) => appendWithin_any n t (.slice none 0 0) [] V wq W w.heap.size (fun g => g < w.heap.size) (fun _ h => h) hb.size (by simpa using hlen) HF.out (NodeIs.keep (below_same hb (fun _ h => h)) (fun _ h => h) n t V HN.out) (World.ownsRow_nil _ _ _ _))
  have hnr1 : NodeRow w1.drew (.pointer (some ⟨w.heap.size, 0, none⟩)) := nodeRow_of (w := w1.drew) HN1.out HR.out.size
  have hlv1 : loadVal w1.drew (.pointer (some ⟨w.heap.size, 0, none⟩)) = .agg V.toArray := loadVal_row (w := w1.drew) HN1.out
  go_region_with (first | (go_at_call 73; go_must (refine (HWI.out w1.drew).mono ?_; rintro _ w6 ⟨rfl, hb6⟩; have hs6 := hb6.size; have HN6 := hide ((hb6.block w.heap.size (by simp; omega)).trans (show w1.drew.heap[w.heap.size]? = _ from HN1.out)); have hnr6 := nodeRow_of HN6.out HR.out.size; have hlv6 := loadVal_row HN6.out; have HB6 := hide hb6; have HBW := hide (show Below w.heap.size w w6 from HB1.out.drew.trans (hb6.mono (by simp; omega))); clear hb6)) | (go_at_call 76; go_must (refine (HAW.out w6 HBW.out).mono ?_; rintro _ w7 ⟨v7, rfl, ho7, hg7, hf7⟩; have HO7 := hide ho7; have HG7 := hide hg7; clear ho7 hg7 hf7)))
  all_goals
    rw [List.nil_append] at HO7
    have HSO := hide (sort_any v7 _ w7 w.heap.size HO7.out (by have := HWL.out; omega) HI.out)
    go_wp2_with fail
    refine HSO.out.mono ?_
    rintro _ w8 ⟨rfl, ho8, hg8⟩
    have HO8 := hide ho8
    have HB8 := hide (show Below w.heap.size w w8 from (HBW.out.trans ⟨HG7.out.os, HG7.out.tape, HG7.out.output, HG7.out.size, fun j hj => HG7.out.block j (Nat.lt_of_lt_of_le hj HBW.out.size) (by simp [Value.ownBlock])⟩).trans ⟨hg8.os, hg8.tape, hg8.output, hg8.size, fun j hj => hg8.block j (Nat.lt_of_lt_of_le hj (Nat.le_trans HBW.out.size HG7.out.size)) (fun e => by have := HO7.out.ge e.symm; omega)⟩)
    clear ho8 hg8 HSO
    go_wp2
    go_ret
    exact ⟨_, rfl, HO8.out, HB8.out⟩
end Go.Proofs.YtenaelkbgkpllaaGreatDoor
/- One level of nodes above another: the call. -/
namespace Go.Proofs.YtenaelkbgkpllaaGreatDoor
open Go.RowKit

theorem range_flat_step (f : Nat → List Value) (i : Nat) : (List.range (i + 1)).flatMap f = (List.range i).flatMap f ++ f i := by
  rw [List.range_succ, List.flatMap_append]; simp
theorem up_is {w : World} {S : Nat → Prop} {g o n : Nat} {K : List (Ward.NT n)} (hB : S g) (h : ∀ i (h : i < K.length), ∃ U, NodeIs w S n K[i] U ∧ w.rangeAt g (o + i * 39) U) (j : Nat) (hj : j < ((Ward.fours K).map (Ward.upN n)).length) :
    NodeIs w S (n + 1) ((Ward.fours K).map (Ward.upN n))[j] (upV g o n K j) := by
  rw [List.getElem_map, Ward.fours_get]
  exact ⟨.slice none 0 0, groupV 39 g o K.length j, rfl, sha_len _, ⟨none, 0, rfl, fun e => absurd rfl e⟩, group_rows hB h j⟩
set_option maxRecDepth 100000 in
set_option maxHeartbeats 4000000 in
theorem above_any (v : Value) (n : Nat) (K : List (Ward.NT n)) (w : World) (S : Nat → Prop) (hS : ∀ g, S g → g < w.heap.size) (h0 : K ≠ []) (hK : K.length ≤ 1000) (hk : Level w S v n K) (hnum : ∀ t ∈ K, 0 ≤ Ward.numN n t ∧ Ward.numN n t ≤ 1000000) (hKT : KT w) :
    Calls Tryz.prog 72 #[v] w fun e w' => ∃ v', e = .returned v' ∧ Level w' (fun g => S g ∨ w.heap.size ≤ g ∧ g < w'.heap.size) v' (n + 1) ((Ward.fours K).map (Ward.upN n)) ∧ Below w.heap.size w w' := by
  obtain ⟨⟨a, c, rfl, hrd⟩, ⟨a', c', e', hc1, hc2⟩⟩ := hk
  injection e' with e1 e2 e3
  subst e1 e3
  clear e2
  obtain ⟨g, o, rfl, hgS, hrows⟩ := hrd h0
  have hgB := hS g hgS
  have HSS := hide hS
  have HGS := hide hgS
  clear hS hgS
  have HRD := hide hrows
  have HNUM := hide hnum
  have HK := hide hKT
  have hp : 0 < K.length := List.length_pos_iff.2 h0
  obtain ⟨i0, hi0, hz0, hz1, hz2⟩ := info_parts Tryz.infoNodeZ
  have HZ1 := hide hz1
  clear hrd hrows hnum hKT
  go_enter Tryz.func72, Tryz.ntmps72
  go_wp2_with fail
  refine (foursNode_any g o K.length c w hK hc1 hc2).mono ?_
  rintro _ w1 ⟨v7, rfl, ho7, hb1⟩
  obtain ⟨gg, cg, rfl, hgg, hggl⟩ := ho7.form (by omega)
  have HO7 := hide ho7
  have HB1 := hide hb1
  have hm4 : (K.length + 3) / 4 ≤ 1000 := by omega
  have hm0 : 0 < (K.length + 3) / 4 := by omega
  have HM := hide (show (K.length + 3) / 4 ≤ 1000 ∧ 0 < (K.length + 3) / 4 from ⟨hm4, hm0⟩)
  have HML := hide (show ∀ j, j < (K.length + 3) / 4 → 4 * j < K.length from fun j hj => by omega)
  clear ho7 hb1 hm4 hm0
  generalize hmm : (K.length + 3) / 4 = m at *
  have HMM := hide hmm
  clear hmm
  go_wp2_with fail
  go_loopg [3, 9] m (fun gk v3 v9 wq => ∃ i : Nat, gk = m - i ∧ v9 = I i ∧ i ≤ m ∧ wq.ownsRow w1.heap.size 90 39 v3 i ((List.range i).flatMap (upV g o n K)) ∧ Below w1.heap.size w1 wq)
  case atStart => exact ⟨0, by omega, rfl, by omega, World.ownsRow_nil _ _ _ _, Below.refl _ _⟩
  case round =>
    obtain ⟨i, hgk, rfl, hi, ho, hb⟩ := hrel
    have HGK := hide hgk
    have HO := hide ho
    have HB := hide hb
    have hs := hb.size
    clear hgk ho hb
    by_cases hlt : i < m
    · have hm1 := HM.out.1
      have hci : wr.cell? ⟨gg, i, none⟩ = some (groupV 39 g o K.length i) := by
        refine (HB.out.cell (p := ⟨gg, i, none⟩) hggl).trans ?_
        rw [HO7.out.cellAt i (by omega)]
        simp [groupsV, hlt]
      have h4 := HML.out i hlt
      have HBW := hide (HB1.out.trans (HB.out.mono HB1.out.size))
      have hG0 : (K.drop (4 * i)).take 4 ≠ [] := fun e => by
        have := congrArg List.length e
        simp at this
        omega
      have hG4 : ((K.drop (4 * i)).take 4).length ≤ 4 := by simp; omega
      have hGR := group_rows (w := wr) (S := S) (o := o) (K := K) (P := NodeIs wr S n) (g := g) HGS.out (fun j hj => by
        obtain ⟨U, hU, hr⟩ := HRD.out j hj
        exact ⟨U, NodeIs.keep (below_same HBW.out HSS.out) (fun _ h => h) n _ _ hU, rangeAt_below hr HBW.out hgB⟩) i
      have HN := hide (nodeOf_any (groupV 39 g o K.length i) n ((K.drop (4 * i)).take 4) wr S (fun g hg => Nat.lt_of_lt_of_le (HSS.out g hg) HBW.out.size) hG0 hG4 hGR (fun t ht => HNUM.out t (List.mem_of_mem_drop (List.mem_of_mem_take ht))) (HK.out.below HBW.out))
      have HN := hide (show Calls Tryz.prog 113 #[groupV 39 g o K.length i] wr fun e w' => e = .returned (.agg (upV g o n K i).toArray) ∧ Below wr.heap.size wr w' from HN.out)
      have HR := hide (upV_row g o n K i)
      have HST := hide (range_flat_step (upV g o n K) i)
      generalize groupV 39 g o K.length i = gv at *
      generalize upV g o n K i = M at *
      clear hGR hG0 hG4 h4
      go_wp2_with fail
      refine HN.out.mono ?_
      rintro _ w2 ⟨rfl, hb2⟩
      have hs2 := hb2.size
      obtain ⟨v3, w3, h3, ho3, hg3, hf3⟩ := append_node (w := w2) M HR.out (ownsRow_below HO.out hb2) (by omega) (by have := HM.out; omega)
      have HO3 := hide (show w3.ownsRow w1.heap.size 90 39 v3 (i + 1) ((List.range (i + 1)).flatMap (upV g o n K)) by rw [HST.out]; exact ho3)
      have HB3 := hide ((HB.out.trans (hb2.mono hs)).grown hg3 (by omega) (fun k hk => (HO.out.lt k hk).1))
      have HF := hide (fun (cells : Array Value) (hc : cells.size = i0.size) => fill_one (s := i0.size) (by rw [HZ1.out]; decide) M.toArray cells (by rw [HZ1.out, HR.out.size]) hc)
      obtain ⟨a3, c3, e3⟩ : ∃ a c, u3 = .slice a i c := by
        rcases HO.out.2 with ⟨e, h⟩ | ⟨g', c', _, e, _⟩
        · exact ⟨none, 0, by rw [e, h]⟩
        · exact ⟨_, c', e⟩
      subst e3
      clear ho3 hg3 hf3 hb2 HN
      go_wp2_with (first | (refine wpList_buildSlice rfl 86 90 1 #[(0, .tmp 15)] rfl M.toArray i0 zeroNode Tryz.underlying86 hi0 hz0 (by rw [HZ1.out]; decide) (by rw [HZ1.out]; decide) (by rw [Array.toList_map]; exact HF.out _ (by simp)) ?_) | (at_builtin; refine Lib.wpList_append_run _ rfl (.tmp 13) (.tmp 16) 86 86 rfl _ _ rfl rfl _ _ h3 ?_))
      go_roundg (m - (i + 1))
      case measure => have := HGK.out; omega
      case rel => exact ⟨i + 1, rfl, by go_num, by omega, HO3.out, HB3.out⟩
    · have ei : i = m := by omega
      subst ei
      go_wp2
      go_ret
      have hBW := HB1.out.trans (HB.out.mono HB1.out.size)
      refine ⟨_, rfl, level_of_own HO.out (by rw [List.length_map, Ward.fours_length]; exact HMM.out) HM.out.2 (fun j _ => (upV_row g o n K j).len) (fun j hj => ?_) (fun g h1 h2 => .inr ⟨Nat.le_trans HB1.out.size h1, h2⟩), hBW⟩
      exact up_is (.inl HGS.out) (fun j hj => by
        obtain ⟨U, hU, hr⟩ := HRD.out j hj
        exact ⟨U, NodeIs.keep (below_same hBW HSS.out) (fun _ h => .inl h) n _ _ hU, rangeAt_below hr hBW hgB⟩) j hj
end Go.Proofs.YtenaelkbgkpllaaGreatDoor
/- The tree of points. -/
namespace Go.Proofs.YtenaelkbgkpllaaGreatDoor
open Go.RowKit

/-- the cells of a leaf of a group -/
def leafV (g o : Nat) (L : List Ward.Pt) (j : Nat) : List Value := nodeV (groupV 3 g o L.length j) (.slice none 0 0) (Ward.box 0 ((L.drop (4 * j)).take 4)) (((L.drop (4 * j)).take 4).length : Nat) ((Sha.sha (Ward.leafText ((L.drop (4 * j)).take 4))).map Y)
theorem leafV_row (g o : Nat) (L : List Ward.Pt) (j : Nat) : Row39 (leafV g o L j) := nodeV_row (sha_len _)
theorem group_pts {w : World} {S : Nat → Prop} {g o : Nat} {L : List Ward.Pt} (hB : S g) (h : ∀ i (h : i < L.length), PtAt w g (o + i * 3) L[i]) (j : Nat) :
    ReadsS w S (groupV 3 g o L.length j) ((L.drop (4 * j)).take 4) := by
  have hl : ((L.drop (4 * j)).take 4).length = min 4 (L.length - 4 * j) := by simp
  refine ⟨some ⟨g, o + 4 * j * 3, none⟩, min 4 (L.length - 4 * j), by rw [hl]; rfl, fun _ => ⟨g, o + 4 * j * 3, rfl, hB, fun i hi => ?_⟩⟩
  rw [hl] at hi
  have hr := h (4 * j + i) (by omega)
  rw [List.getElem_take, List.getElem_drop, show o + 4 * j * 3 + i * 3 = o + (4 * j + i) * 3 by omega]
  exact hr
theorem leaf_is {w : World} {S : Nat → Prop} {g o : Nat} {L : List Ward.Pt} (hB : S g) (h : ∀ i (h : i < L.length), PtAt w g (o + i * 3) L[i]) (j : Nat) (hj : j < ((Ward.fours L).map (Ward.mk Sha.sha 0)).length) :
    NodeIs w S 1 ((Ward.fours L).map (Ward.mk Sha.sha 0))[j] (leafV g o L j) := by
  rw [List.getElem_map, Ward.fours_get]
  exact ⟨groupV 3 g o L.length j, .slice none 0 0, rfl, sha_len _, group_pts hB h j, ⟨none, 0, rfl, fun e => absurd rfl e⟩⟩
theorem up_level (n : Nat) (ls : List (Ward.T n)) : (Ward.fours (ls.map (Ward.mk Sha.sha n))).map (Ward.upN (n + 1)) = (Ward.fours ls).map (Ward.mk Sha.sha (n + 1)) := by
  rw [Ward.fours_map, List.map_map]
  exact List.map_congr_left fun G _ => Ward.up_mk n G
theorem Level.mono {w : World} {S S' : Nat → Prop} {v : Value} {n : Nat} {K : List (Ward.NT n)} (h : Level w S v n K) (hS : ∀ g, S g → S' g) : Level w S' v n K :=
  ⟨h.1.keep (fun _ _ => rfl) hS (NodeIs.keep (fun _ _ => rfl) hS n), h.2⟩
/-- what Build leaves -/
def Built (w : World) (L : List Ward.Pt) (e : Ending) (w' : World) : Prop :=
  ∃ V, e = .returned (.agg V.toArray) ∧ NodeIs w' (fun g => g < w'.heap.size) ((Ward.tree L).1 + 1) (Ward.mk Sha.sha (Ward.tree L).1 (Ward.tree L).2) V ∧ Below w.heap.size w w'
theorem count_le {n : Nat} {ls : List (Ward.T n)} {L : List Ward.Pt} (h : Ward.ptsL n ls = L) : ∀ t ∈ ls.map (Ward.mk Sha.sha n), 0 ≤ Ward.numN (n + 1) t ∧ Ward.numN (n + 1) t ≤ L.length := by
  intro t ht
  obtain ⟨u, hu, rfl⟩ := List.mem_map.1 ht
  rw [Ward.mk_num, Ward.count_pts]
  have h1 : (Ward.pts n u).length ≤ L.length := by
    rw [← h]
    unfold Ward.ptsL
    have := List.sublist_flatten_of_mem (List.mem_map_of_mem (f := Ward.pts n) hu)
    rw [← List.flatMap_def] at this
    exact this.length_le
  omega
set_option maxRecDepth 100000 in
set_option maxHeartbeats 4000000 in
theorem build_any (v : Value) (L : List Ward.Pt) (w : World) (hL : L.length ≤ 150) (hcap : ∃ a c, v = .slice a L.length c ∧ L.length ≤ c ∧ c ≤ maxLen) (hp : ReadsS w (fun g => g < w.heap.size) v L) (hKT : KT w) :
    Calls Tryz.prog 38 #[v] w fun e w' => Built w L e w' := by
  obtain ⟨a, c, rfl, hc1, hc2⟩ := hcap
  obtain ⟨a', c', e', hrd⟩ := hp
  injection e' with e1 e2 e3
  subst e1 e3
  clear e2
  have HRD := hide hrd
  have HK := hide hKT
  clear hrd hKT
  obtain ⟨fs, hu⟩ := underNode
  have HU := hide hu
  clear hu
  obtain ⟨i0, hi0, hz0, hz1, hz2⟩ := info_parts Tryz.infoNodeZ
  have HZ1 := hide hz1
  have HSZ := hide (show (nodeV (.slice none 0 0) (.slice none 0 0) ⟨0, 0, 0, 0⟩ 0 zero32).toArray.size = 39 from nodeV_size (by rfl))
  clear hz1
  go_enter Tryz.func38, Tryz.ntmps38
  go_upto_region 1 with fail
  have hb0' := fun o => (Below.refl w.heap.size w).alloc (Nat.le_refl _) o
  have hr0' := heap_alloc_new w
  have hs0' := fun o => show (w.alloc o).heap.size = w.heap.size + 1 by simp
  generalize hW : World.alloc w _ = w0
  have hb0 : Below w.heap.size w w0 := by rw [← hW]; exact hb0' _
  have hr0 : w0.heap[w.heap.size]? = some (.cells (nodeV (.slice none 0 0) (.slice none 0 0) ⟨0, 0, 0, 0⟩ 0 zero32).toArray 90 (0, 0)) := by rw [← hW]; exact hr0' _
  have hs0 : w0.heap.size = w.heap.size + 1 := by rw [← hW]; exact hs0' _
  clear hb0' hr0' hs0' hW
  have HB0 := hide hb0
  have HR0 := hide hr0
  have HS0 := hide hs0
  clear hb0 hr0 hs0
  by_cases hne : L = []
  · obtain ⟨E, hE⟩ : ∃ E : List Ward.Pt, E = [] := ⟨[], rfl⟩
    have HT := hide (show Ward.tree L = ⟨0, E⟩ by rw [hE, hne]; rfl)
    have HLF := hide (fun W hK => leafOf_any (.slice none 0 0) E W (by rw [hE]; simp) ⟨none, 0, by rw [hE]; rfl, fun e => absurd hE e⟩ hK)
    have HR := hide (show Row39 (nodeV (.slice none 0 0) (.slice none 0 0) (Ward.box 0 E) ((E.length : Nat) : Int) ((Sha.sha (Ward.leafText E)).map Y)) from nodeV_row (sha_len _))
    have HN := hide (show ∀ W S, NodeIs W S 1 (Ward.mk Sha.sha 0 E) (nodeV (.slice none 0 0) (.slice none 0 0) (Ward.box 0 E) ((E.length : Nat) : Int) ((Sha.sha (Ward.leafText E)).map Y)) from fun W S => ⟨.slice none 0 0, .slice none 0 0, rfl, sha_len _, ⟨none, 0, by rw [show Ward.Nd.pts (Ward.mk Sha.sha 0 E) = E from rfl, hE]; rfl, fun e => absurd hE e⟩, ⟨none, 0, rfl, fun e => absurd rfl e⟩⟩)
    generalize nodeV (.slice none 0 0) (.slice none 0 0) (Ward.box 0 E) ((E.length : Nat) : Int) ((Sha.sha (Ward.leafText E)).map Y) = M at *
    have h0 : L.length = 0 := by rw [hne]; rfl
    clear hne hE
    rw [h0]
    go_wp2_with fail
    refine (HLF.out _ (HK.out.below HB0.out)).mono ?_
    rintro _ w1 ⟨rfl, hb1⟩
    have hr1 := (hb1.block w.heap.size (by have := HS0.out; omega)).trans HR0.out
    have HB1 := hide hb1
    have HR1 := hide hr1
    have HSE := hide (show (nodeV (.slice none 0 0) (.slice none 0 0) ⟨0, 0, 0, 0⟩ 0 zero32).toArray.size = M.toArray.size by rw [HSZ.out, HR.out.size])
    clear hb1 hr1
    go_wp2_with (refine wpList_store_row rfl 90 (.tmp 2) (.tmp 9) rfl w.heap.size M.toArray rfl rfl 90 _ HR1.out HR.out.info HSE.out HR.out.one ?_)
    refine bodyPost_ret (v := .agg M.toArray) ?_ rfl ⟨M, rfl, by rw [HT.out]; exact HN.out _ _, below_setRow (HB0.out.trans (HB1.out.mono HB0.out.size)) (Nat.le_refl _) _⟩
    exact results_cell_row rfl _ _ w.heap.size 90 M.toArray (0, 0) (.struct fs) rfl (setRow_heap _ _ _ _ _ _ HR1.out) HU.out rfl HR.out.info
  · obtain ⟨g, o, rfl, hgB, hpts⟩ := HRD.out hne
    have HPT := hide hpts
    have hp0 : 0 < L.length := List.length_pos_iff.2 hne
    have hp1 : ¬ (L.length : Int) = 0 := by omega
    clear hpts
    go_wp2_with fail
    refine (foursPt_any g o L.length c w0 (by omega) hc1 hc2).mono ?_
    rintro _ w1 ⟨v7, rfl, ho7, hb1⟩
    obtain ⟨gg, cg, rfl, hgg, hggl⟩ := ho7.form (by omega)
    have HO7 := hide ho7
    have HB1 := hide hb1
    have HM := hide (show (L.length + 3) / 4 ≤ 1000 ∧ 0 < (L.length + 3) / 4 by omega)
    have HML := hide (show ∀ j, j < (L.length + 3) / 4 → 4 * j < L.length from fun j hj => by omega)
    clear ho7 hb1 hp1
    generalize hmm : (L.length + 3) / 4 = m at *
    have HMM := hide hmm
    clear hmm
    go_wp2_with fail
    go_loopg [3, 13] m (fun gk v3 v13 wq => ∃ i : Nat, gk = m - i ∧ v13 = I i ∧ i ≤ m ∧ wq.ownsRow w1.heap.size 90 39 v3 i ((List.range i).flatMap (leafV g o L)) ∧ Below w1.heap.size w1 wq)
    case atStart => exact ⟨0, by omega, rfl, by omega, World.ownsRow_nil _ _ _ _, Below.refl _ _⟩
    case round =>
      obtain ⟨i, hgk, rfl, hi, ho, hb⟩ := hrel
      have HGK := hide hgk
      have HO := hide ho
      have HB := hide hb
      have hs := hb.size
      clear hgk ho hb
      have HBW := hide (HB0.out.trans ((HB1.out.mono HB0.out.size).trans (HB.out.mono (Nat.le_trans HB0.out.size HB1.out.size))))
      by_cases hlt : i < m
      · have hm1 := HM.out.1
        have hci : wr.cell? ⟨gg, i, none⟩ = some (groupV 3 g o L.length i) := by
          refine (HB.out.cell (p := ⟨gg, i, none⟩) hggl).trans ?_
          rw [HO7.out.cellAt i (by omega)]
          simp [groupsV, hlt]
        have hG4 : ((L.drop (4 * i)).take 4).length ≤ 4 := by simp; omega
        have hGR := group_pts (w := wr) (S := fun g => g < wr.heap.size) (o := o) (L := L) (g := g) (by have := HBW.out.size; show g < wr.heap.size; omega) (fun j hj => (HPT.out j hj).below HBW.out hgB) i
        have HN := hide (leafOf_any (groupV 3 g o L.length i) ((L.drop (4 * i)).take 4) wr hG4 (hGR.low (fun _ h => h)) (HK.out.below HBW.out))
        have HN := hide (show Calls Tryz.prog 70 #[groupV 3 g o L.length i] wr fun e w' => e = .returned (.agg (leafV g o L i).toArray) ∧ Below wr.heap.size wr w' from HN.out)
        have HR := hide (leafV_row g o L i)
        have HST := hide (range_flat_step (leafV g o L) i)
        generalize groupV 3 g o L.length i = gv at *
        generalize leafV g o L i = M at *
        clear hGR hG4
        go_wp2_with fail
        refine HN.out.mono ?_
        rintro _ w2 ⟨rfl, hb2⟩
        have hs2 := hb2.size
        obtain ⟨v3, w3, h3, ho3, hg3, hf3⟩ := append_node (w := w2) M HR.out (ownsRow_below HO.out hb2) (by omega) (by have := HM.out; omega)
        have HO3 := hide (show w3.ownsRow w1.heap.size 90 39 v3 (i + 1) ((List.range (i + 1)).flatMap (leafV g o L)) by rw [HST.out]; exact ho3)
        have HB3 := hide ((HB.out.trans (hb2.mono hs)).grown hg3 (by omega) (fun k hk => (HO.out.lt k hk).1))
        have HF := hide (fun (cells : Array Value) (hc : cells.size = i0.size) => fill_one (s := i0.size) (by rw [HZ1.out]; decide) M.toArray cells (by rw [HZ1.out, HR.out.size]) hc)
        obtain ⟨a3, c3, e3⟩ : ∃ a c, u3 = .slice a i c := by
          rcases HO.out.2 with ⟨e, h⟩ | ⟨g', c', _, e, _⟩
          · exact ⟨none, 0, by rw [e, h]⟩
          · exact ⟨_, c', e⟩
        subst e3
        clear ho3 hg3 hf3 hb2 HN
        go_wp2_with (first | (refine wpList_buildSlice rfl 86 90 1 #[(0, .tmp 19)] rfl M.toArray i0 zeroNode Tryz.underlying86 hi0 hz0 (by rw [HZ1.out]; decide) (by rw [HZ1.out]; decide) (by rw [Array.toList_map]; exact HF.out _ (by simp)) ?_) | (at_builtin; refine Lib.wpList_append_run _ rfl (.tmp 17) (.tmp 20) 86 86 rfl _ _ rfl rfl _ _ h3 ?_))
        go_roundg (m - (i + 1))
        case measure => have := HGK.out; omega
        case rel => exact ⟨i + 1, rfl, by go_num, by omega, HO3.out, HB3.out⟩
      · have ei : i = m := by omega
        subst ei
        have hlev : Level wr (fun g => g ≠ w.heap.size ∧ g < wr.heap.size) u3 1 ((Ward.fours L).map (Ward.mk Sha.sha 0)) := level_of_own HO.out (by rw [List.length_map, Ward.fours_length]; exact HMM.out) HM.out.2 (fun j _ => (leafV_row g o L j).len) (fun j hj => leaf_is (by have := HBW.out.size; show g ≠ w.heap.size ∧ g < wr.heap.size; omega) (fun j hj => (HPT.out j hj).below HBW.out hgB) j hj) (fun g h1 h2 => by have := HB1.out.size; have := HS0.out; omega)
        have HLV := hide hlev
        have HBA := hide (show Below w0.heap.size w0 wr from HB1.out.trans (HB.out.mono HB1.out.size))
        clear hlev
        go_wp2_with fail
        go_loopg [3] i (fun gk v3 wq => ∃ (n : Nat) (ls : List (Ward.T n)) (k : Nat), gk = ls.length ∧ ls ≠ [] ∧ ls.length < k ∧ ls.length ≤ 150 ∧ Ward.climb k n ls = Ward.tree L ∧ Ward.ptsL n ls = L ∧ Level wq (fun g => g ≠ w.heap.size ∧ g < wq.heap.size) v3 (n + 1) (ls.map (Ward.mk Sha.sha n)) ∧ Below w0.heap.size w0 wq)
        case atStart =>
          refine ⟨0, Ward.fours L, L.length + 2, by rw [Ward.fours_length]; exact HMM.out.symm, fun e => by have h := congrArg List.length e; rw [Ward.fours_length, HMM.out] at h; have := HM.out; simp at h; omega, by rw [Ward.fours_length]; omega, by rw [Ward.fours_length]; omega, ?_, ?_, HLV.out, HBA.out⟩
          · rw [Ward.tree, Ward.leaves, if_neg (by omega)]
          · have h := Ward.leaves_pts L
            rw [Ward.leaves, if_neg (by omega)] at h
            exact h
        case round =>
          clear HLV HBA HB HO HO7 HBW HGK HM HML HMM HB1 HRD HPT
          obtain ⟨n, ls, k, hgk, hls, hk, h150, hcl, hpt, hlev, hb⟩ := hrel
          have HGK := hide hgk
          have HLS := hide hls
          have HLK := hide hk
          have HCL := hide hcl
          have HPT := hide hpt
          have HLV := hide hlev
          have HB := hide hb
          obtain ⟨-, a3, c3, e3, hc3, hc4⟩ := hlev
          rw [List.length_map] at e3
          subst e3
          have hsz := HB.out.size
          have hs0 := HS0.out
          have HSL := hide hsz
          have hrr := (HB.out.block w.heap.size (by omega)).trans HR0.out
          have HRR := hide hrr
          clear hgk hls hk hcl hpt hb hrr hs0 hsz
          by_cases h1 : ls.length = 1
          · obtain ⟨t, rfl⟩ := List.length_eq_one_iff.1 h1
            have hT : Ward.tree L = ⟨n, t⟩ := by
              have h := HCL.out
              obtain ⟨k', rfl⟩ : ∃ k', k = k' + 1 := ⟨k - 1, by have := HLK.out; omega⟩
              rw [Ward.climb_one] at h
              exact h.symm
            obtain ⟨a5, c5, e5, hrows⟩ := HLV.out.1
            obtain ⟨g5, o5, rfl, hS5, hr5⟩ := hrows (by simp)
            injection e5 with e6 e7 e8
            subst e6 e8
            clear e7
            obtain ⟨U, hU, hc⟩ := hr5 0 (by simp)
            rw [Nat.zero_mul, Nat.add_zero] at hc
            have hU' : NodeIs wr (fun g => g ≠ w.heap.size ∧ g < wr.heap.size) (n + 1) (Ward.mk Sha.sha n t) U := hU
            have HUU := hide hU'
            have HC := hide hc
            obtain ⟨b1, l1, d1, b2, l2, d2, hV, hd⟩ := hU'.cells
            have HR := hide (show Row39 U by rw [hV]; exact nodeV_row hd)
            have HSE := hide (show (nodeV (.slice none 0 0) (.slice none 0 0) ⟨0, 0, 0, 0⟩ 0 zero32).toArray.size = U.toArray.size by rw [HSZ.out, HR.out.size])
            have HT := hide hT
            clear hT hV hd hU hU' hc hr5 hrows h1
            go_wp2_with (first | (refine wpList_load_mid rfl 90 (.tmp 29) rfl g5 o5 rfl U (.struct fs) HC.out HU.out rfl HR.out.infl ?_) | (refine wpList_store_row rfl 90 (.tmp 2) (.tmp 30) rfl w.heap.size U.toArray rfl rfl 90 _ HRR.out HR.out.info HSE.out HR.out.one ?_))
            have hbw := HB0.out.trans (HB.out.mono HB0.out.size)
            refine bodyPost_ret (v := .agg U.toArray) ?_ rfl ⟨U, rfl, ?_, below_setRow hbw (Nat.le_refl _) _⟩
            · exact results_cell_row rfl _ _ w.heap.size 90 U.toArray (0, 0) (.struct fs) rfl (setRow_heap _ _ _ _ _ _ HRR.out) HU.out rfl HR.out.info
            · rw [HT.out]
              exact NodeIs.keep (fun g hg => setRow_other _ _ _ _ hg.1) (fun g hg => by have := hg.2; show g < _; rw [setRow_size]; exact this) (n + 1) _ U HUU.out
          · have h2 : (1 : Int) < (ls.length : Int) := by
              have h : ls.length ≠ 0 := fun e => HLS.out (List.length_eq_zero_iff.1 e)
              omega
            have HAB := hide (above_any (.slice a3 ls.length c3) (n + 1) (ls.map (Ward.mk Sha.sha n)) wr (fun g => g ≠ w.heap.size ∧ g < wr.heap.size) (fun _ h => h.2) (fun e => HLS.out (List.map_eq_nil_iff.1 e)) (by rw [List.length_map]; omega) HLV.out (fun t ht => by
              obtain ⟨h3, h4⟩ := count_le HPT.out t ht
              exact ⟨h3, by omega⟩) (HK.out.below (HB0.out.trans (HB.out.mono HB0.out.size))))
            go_wp2_with fail
            refine HAB.out.mono ?_
            rintro _ w2 ⟨v2, rfl, hlev2, hb2⟩
            rw [up_level] at hlev2
            have HLV2 := hide hlev2
            have HB2 := hide hb2
            clear hlev2 hb2 HAB
            go_wp2_with fail
            go_roundg (Ward.fours ls).length
            case measure => have := HGK.out; rw [Ward.fours_length]; omega
            case rel =>
              have hfl := Ward.fours_length ls
              obtain ⟨k', ek⟩ : ∃ k', k = k' + 1 := ⟨k - 1, by have := HLK.out; omega⟩
              refine ⟨n + 1, Ward.fours ls, k', rfl, fun e => by rw [e] at hfl; simp at hfl; omega, by have := HLK.out; omega, by omega, ?_, ?_, HLV2.out.mono (fun g hg => ?_), HB.out.trans (HB2.out.mono HB.out.size)⟩
              · rw [← HCL.out, ek, Ward.climb_more _ _ _ h1]
              · rw [Ward.ptsL_fours]; exact HPT.out
              · have h3 := HB2.out.size
                have h4 := HSL.out
                have h5 := HS0.out
                rcases hg with hg | hg
                · exact ⟨hg.1, Nat.lt_of_lt_of_le hg.2 h3⟩
                · exact ⟨by omega, hg.2⟩
end Go.Proofs.YtenaelkbgkpllaaGreatDoor
/- A map's commitment. -/
namespace Go.Proofs.YtenaelkbgkpllaaGreatDoor
open Go.RowKit

theorem fill_root (cells : Array Value) (hc : cells.size = 33) (D : List Value) (hD : D.length = 32) (x : Value) (hx : x.cells = #[x]) (place : Nat → Option (Nat × Nat)) (h0 : place 0 = some (0, 32)) (h1 : place 1 = some (32, 1)) :
    Instr.fill place cells [(0, .agg D.toArray), (1, x)] = some (D ++ [x]).toArray := by
  obtain ⟨g1, g2⟩ := Great.foldl_set 0 D 0 cells
  have e0 : Value.cells (.agg D.toArray) = D.toArray := rfl
  have ef : (D.toArray.zipIdx.foldl (fun cs (y : Value × Nat) => cs.setIfInBounds (0 + y.2) y.1) cells) = ((D.zipIdx 0).foldl (fun cs (y : Value × Nat) => cs.setIfInBounds (0 + y.2) y.1) cells) := by
    rw [← Array.foldl_toList, Array.toList_zipIdx]
  unfold Instr.fill
  simp only [h0, e0]
  rw [if_neg (by simp [hD, hc]), ef]
  generalize (D.zipIdx 0).foldl (fun cs (y : Value × Nat) => cs.setIfInBounds (0 + y.2) y.1) cells = r at *
  unfold Instr.fill
  simp only [h1, hx]
  rw [if_neg (by simp [hc, g1])]
  unfold Instr.fill
  congr 1
  apply Array.ext_getElem?
  intro k
  have es : (#[x].zipIdx.foldl (fun cs (y : Value × Nat) => cs.setIfInBounds (32 + y.2) y.1) r) = r.setIfInBounds 32 x := by
    rw [← Array.foldl_toList, Array.toList_zipIdx]; rfl
  have eR : (D ++ [x]).toArray[k]? = (D ++ [x])[k]? := List.getElem?_toArray
  rw [es, eR]
  by_cases hk : k = 32
  · subst hk
    rw [Array.getElem?_setIfInBounds_self, if_pos (by rw [g1, hc]; decide), List.getElem?_append_right (by omega), hD]
    rfl
  · rw [Array.getElem?_setIfInBounds_ne (by omega), g2 k]
    by_cases hl : k < 32
    · rw [if_pos (by omega), List.getElem?_append_left (by omega)]
      simp
    · rw [if_neg (by omega), Array.getElem?_eq_none (by omega), List.getElem?_eq_none (by simp; omega)]
theorem Tryz.infoCommitZ : (Tryz.prog.info? 41).bind (fun i => i.zero.map (·.cells.size)) = some 33 := by kernel_rfl
theorem Tryz.placesCommit : ((Tryz.prog.fieldsOf 41).toList.mapM (fun f => (Tryz.prog.info? f.type).map fun i => (f.offset, i.size))) = some [(0, 32), (32, 1)] := by kernel_rfl
theorem built_commit (D : List Value) (hD : D.length = 32) (n : Int) : Tryz.prog.built 41 [(0, .agg D.toArray), (1, I n)] = some (D ++ [I n]).toArray := by
  have hS : Tryz.prog.underlying 41 = some (.struct (Tryz.prog.fieldsOf 41)) := by kernel_rfl
  have hz := Tryz.infoCommitZ
  have hp := Tryz.placesCommit
  unfold Program.built
  cases hi : Tryz.prog.info? 41 with
  | none => rw [hi] at hz; cases hz
  | some it =>
    rw [hi] at hz
    cases hz0 : it.zero with
    | none => simp [hz0] at hz
    | some z =>
      simp [hz0] at hz
      rw [hS]
      simp only [hz0, hp]
      exact fill_root z.cells hz D hD (I n) rfl _ rfl rfl
theorem wpList_built {P : Program} {ops : Array Oper} {rest : List Oper} {o : Oper} {a : Act} {w : World} {Q : Exit → Act → World → Prop} (hg : o.guard = none) (t : TypeId) (parts : Array (Nat × Operand)) (ho : o.op = .build t parts)
    (cells : Array Value) (l : List (Nat × Value)) (hl : parts.toList.map (fun (i, x) => (i, a.eval x)) = l) (hb : P.built t l = some cells)
    (h : wpList P ops Q rest (a.put o.dst (.agg cells)) w) : wpList P ops Q (o :: rest) a w :=
  wpList_build hg t parts ho (by rw [Array.toList_map, hl, hb]; rfl) (by rw [Array.toList_map, hl, hb]; exact h)
theorem range_dig {w : World} {g : Nat} {vp vc : Value} {b : Ward.Box} {n : Int} {t : List Value} {ty : Nat} (h : w.heap[g]? = some (.cells (nodeV vp vc b n t).toArray ty (0, 0))) : w.rangeAt g 7 t := fun j v hv => by
  rw [cell_of_row _ _ _ _ _ _ h, Nat.add_comm 7 j]
  simpa [nodeV] using hv
theorem Tryz.infoDig : (Tryz.prog.info? 39).map (·.size) = some 32 := by kernel_rfl
set_option maxRecDepth 100000 in
set_option maxHeartbeats 1000000 in
theorem commitmentTo_any (vp vc : Value) (b : Ward.Box) (n : Int) (D : List UInt8) (w : World) (hD : D.length = 32) :
    Calls Tryz.prog 37 #[.agg (nodeV vp vc b n (D.map Y)).toArray] w fun e w' => e = .returned (.agg (rootV D n).toArray) ∧ Below w.heap.size w w' := by
  have hb2 := fun o o' => ((Below.refl w.heap.size w).alloc (Nat.le_refl _) o).alloc (by simp) o'
  have hr2 := heap_alloc2_new w
  have hr1 := heap_alloc2_old w
  have HBC := hide (show Tryz.prog.built 41 [(0, .agg (D.map Y).toArray), (1, I n)] = some (rootV D n).toArray from built_commit (D.map Y) (by simpa using hD) n)
  have HC33 := hide (rootV_len D n hD)
  have HONE := hide (rootV_one D n)
  have HINF := hide (show (Tryz.prog.info? 41).map (·.size) = some (rootV D n).toArray.size by rw [List.size_toArray, rootV_len D n hD]; exact Tryz.infoCommit)
  have HID := hide (show (Tryz.prog.info? 39).map (·.size) = some (D.map Y).length by rw [List.length_map, hD]; exact Tryz.infoDig)
  generalize hM : nodeV vp vc b n (D.map Y) = M at *
  have HM := hide hM
  clear hM
  go_enter Tryz.func37, Tryz.ntmps37
  go_upto_region 1 with fail
  generalize hW : World.alloc (World.alloc w _) _ = w1
  have hb1 : Below w.heap.size w w1 := by rw [← hW]; exact hb2 _ _
  have hn1 : w1.heap[w.heap.size]? = some (.cells (nodeV vp vc b n (D.map Y)).toArray 90 (0, 0)) := by rw [← hW, HM.out]; exact hr1 _ _
  have hc1 : w1.heap[w.heap.size + 1]? = some (.cells (List.replicate 32 (Value.int .u8 0) ++ [I 0]).toArray 41 (0, 0)) := by rw [← hW]; exact hr2 _ _
  clear hb2 hr1 hr2 hW
  obtain ⟨-, -, c6⟩ := node_cells hn1
  have HD := hide (range_dig hn1)
  have HB1 := hide hb1
  have HC1 := hide hc1
  have HS := hide (show (List.replicate 32 (Value.int .u8 0) ++ [I 0]).toArray.size = (rootV D n).toArray.size by rw [List.size_toArray, List.size_toArray, HC33.out]; rfl)
  clear hn1 hb1 hc1
  generalize D.map Y = DV at *
  generalize hR : rootV D n = R at *
  have HRE := hide hR
  clear hR
  go_wp2_with (first | (refine wpList_load_mid rfl 39 (.tmp 3) rfl w.heap.size 7 rfl DV _ HD.out Tryz.underlying39 rfl HID.out ?_) | (refine wpList_built rfl 41 #[(0, .tmp 4), (1, .tmp 6)] rfl R.toArray [(0, .agg DV.toArray), (1, I n)] rfl HBC.out ?_) | (refine wpList_store_row rfl 41 (.tmp 2) (.tmp 7) rfl (w.heap.size + 1) R.toArray rfl rfl 41 _ HC1.out HINF.out HS.out HONE.out ?_))
  refine bodyPost_ret (v := .agg R.toArray) ?_ rfl ⟨by rw [HRE.out], below_setRow HB1.out (by simp) _⟩
  exact results_cell_row rfl _ _ (w.heap.size + 1) 41 R.toArray (0, 0) _ rfl (setRow_heap _ _ _ _ _ _ HC1.out) Tryz.underlying41 rfl HINF.out
theorem Own.caps {w : World} {B : Nat} {v : Value} {L : List Ward.Pt} (h : Own w B v L) : ∃ a c, v = .slice a L.length c ∧ L.length ≤ c ∧ c ≤ maxLen := by
  rcases h.2 with ⟨rfl, h0⟩ | ⟨g, cap, cur, rfl, _, _, h1, h2, _⟩
  · exact ⟨none, 0, by rw [h0], by omega, by decide⟩
  · exact ⟨_, cap, rfl, h1, h2⟩
theorem Own.readsS {w : World} {B : Nat} {v : Value} {L : List Ward.Pt} (h : Own w B v L) : ReadsS w (fun g => g < w.heap.size) v L := by
  obtain ⟨a, c, rfl, hr⟩ := h.reads
  refine ⟨a, c, rfl, fun hne => ?_⟩
  obtain ⟨g, o, e, hp⟩ := hr hne
  exact ⟨g, o, e, (hp 0 (List.length_pos_iff.2 hne)).lt, hp⟩
/-- the tree of a map's points -/
theorem build_map (m : Nat) (v : Value) (L : List Ward.Pt) (w : World) (hm : IsMap w m v L) (hG : Good L) (hKT : KT w) : Calls Tryz.prog 38 #[v] w fun e w' => Built w L e w' :=
  build_any v L w hG.many hm.own.caps hm.own.readsS hKT
theorem tree_num {L : List Ward.Pt} (hG : Good L) : Ward.numN ((Ward.tree L).1 + 1) (Ward.mk Sha.sha (Ward.tree L).1 (Ward.tree L).2) = L.length := by
  rw [Ward.mk_num, Ward.count_pts, (Ward.tree_small hG.ok).2]
set_option maxRecDepth 100000 in
set_option maxHeartbeats 1000000 in
theorem commitment_any (m : Nat) (v : Value) (L : List Ward.Pt) (w : World) (hm : IsMap w m v L) (hG : Good L) (hKT : KT w) :
    Calls Tryz.prog 16 #[.pointer (some ⟨m, 0, none⟩)] w fun e w' => e = .returned (.agg (commitV L).toArray) ∧ Below w.heap.size w w' := by
  have hmlt := hm.lt
  have HM := hide hm
  have HG := hide hG
  have HK := hide hKT
  have HCO := hide (com_of L)
  have hr0' := heap_alloc_new w
  have hb0' := fun o => (Below.refl w.heap.size w).alloc (Nat.le_refl _) o
  have hs0' := fun o => show (w.alloc o).heap.size = w.heap.size + 1 by simp
  clear hm hKT
  go_enter Tryz.func16, Tryz.ntmps16
  go_upto_region 1 with fail
  generalize hW : World.alloc w _ = w0
  have hb0 : Below w.heap.size w w0 := by rw [← hW]; exact hb0' _
  have hr0 : w0.heap[w.heap.size]? = some (.cells (List.replicate 32 (Value.int .u8 0) ++ [I 0]).toArray 41 (0, 0)) := by rw [← hW]; exact hr0' _
  have hs0 : w0.heap.size = w.heap.size + 1 := by rw [← hW]; exact hs0' _
  clear hb0' hr0' hs0' hW
  have hm0 := HM.out.below hb0
  have hc0 := hm0.cell
  have HM0 := hide hm0
  have HB0 := hide hb0
  have HR0 := hide hr0
  have HS0 := hide hs0
  have HBM := hide (build_map m v L w0 hm0 hG (HK.out.below hb0))
  clear hm0 hb0 hr0 hs0
  go_wp2_with fail
  refine HBM.out.mono ?_
  rintro _ w1 ⟨V, rfl, hn1, hb1⟩
  obtain ⟨a1, l1, c1, a2, l2, c2, hV, hd⟩ := hn1.cells
  have HCT := hide (commitmentTo_any (.slice a1 l1 c1) (.slice a2 l2 c2) (Ward.boxN _ (Ward.mk Sha.sha (Ward.tree L).1 (Ward.tree L).2)) (Ward.numN _ (Ward.mk Sha.sha (Ward.tree L).1 (Ward.tree L).2)) _ w1 hd)
  rw [← hV, tree_num HG.out, Ward.mk_dig] at HCT
  have HCT := hide (show Calls Tryz.prog 37 #[.agg V.toArray] w1 fun e w' => e = .returned (.agg (commitV L).toArray) ∧ Below w1.heap.size w1 w' from HCT.out)
  have hr1 := (hb1.block w.heap.size (by have := HS0.out; omega)).trans HR0.out
  have HR1 := hide hr1
  have HB1 := hide hb1
  clear hn1 hb1 hr1 hV hd
  generalize hCL : commitV L = C at *
  have HCL := hide hCL
  clear hCL
  go_wp2_with fail
  refine HCT.out.mono ?_
  rintro _ w2 ⟨rfl, hb2⟩
  have hr2 := (hb2.block w.heap.size (Array.getElem?_eq_some_iff.1 HR1.out).1).trans HR1.out
  have HR2 := hide hr2
  have HB2 := hide hb2
  have HSE := hide (show (List.replicate 32 (Value.int .u8 0) ++ [I 0]).toArray.size = C.toArray.size by rw [HCO.out.size]; rfl)
  clear hr2 hb2
  go_wp2_with (refine wpList_store_row rfl 41 (.tmp 2) (.tmp 8) rfl w.heap.size C.toArray rfl rfl 41 _ HR2.out HCO.out.info HSE.out HCO.out.one ?_)
  have hbw := HB0.out.trans ((HB1.out.mono HB0.out.size).trans (HB2.out.mono (Nat.le_trans HB0.out.size HB1.out.size)))
  refine bodyPost_ret (v := .agg C.toArray) ?_ rfl ⟨by rw [HCL.out], below_setRow hbw (Nat.le_refl _) _⟩
  exact results_cell_row rfl _ _ w.heap.size 41 C.toArray (0, 0) _ rfl (setRow_heap _ _ _ _ _ _ HR2.out) Tryz.underlying41 rfl HCO.out.info
end Go.Proofs.YtenaelkbgkpllaaGreatDoor
/- The proof of an answer. -/
namespace Go.Proofs.YtenaelkbgkpllaaGreatDoor
open Go.RowKit

attribute [local go_sem ↓] Go.wp_at_zero Go.wp_at_succ wp_load_node
set_option maxRecDepth 100000 in
set_option maxHeartbeats 2000000 in
/-- the proof as a text, of a tree -/
theorem proof_any (m : Ward.Box → Bool) (kq ka : Nat) (n : Nat) (t : Ward.NT n) (V : List Value) (w : World) (hlen : (Ward.proofN m n t).length ≤ 600000) (hfew : Ward.Few n t) (hin : Ward.InN n t) (hN : NodeIs w (fun g => g < w.heap.size) n t V) (hmu : MustIs w w.heap.size kq ka m) (hne : Ward.proofN m n t ≠ []) :
    Calls Tryz.prog 43 #[.agg V.toArray, .func (.func 41) #[] #[.pointer (some ⟨kq, 0, none⟩), .pointer (some ⟨ka, 0, none⟩)]] w fun e w' => e = .returned (Sv (Ward.proofN m n t)) ∧ Below w.heap.size w w' := by
  obtain ⟨fs, hu⟩ := underNode
  have HU := hide hu
  obtain ⟨a1, l1, c1, a2, l2, c2, hV, hd⟩ := hN.cells
  have HR := hide (show Row39 V by rw [hV]; exact nodeV_row hd)
  have HAP := hide (fun (W : World) (hb : Below w.heap.size w W) => appendProof_any m kq ka n t (.slice none 0 0) [] V W w.heap.size (fun g => g < w.heap.size) (fun _ h => h) hb.size (by simpa using hlen) hfew hin (NodeIs.keep (below_same hb (fun _ h => h)) (fun _ h => h) n t V hN) (ownB_nil _ _) (hmu.below hb))
  have HNE := hide hne
  clear hu hV hd hN hfew hin hmu hne
  generalize Ward.proofN m n t = T at *
  have hb2 := fun o => (Below.refl w.heap.size w).alloc (Nat.le_refl _) o
  have hr2 := heap_alloc_new w
  go_enter Tryz.func43, Tryz.ntmps43
  go_upto_region 1 with fail
  generalize hW : World.alloc w _ = w1
  have hb1 : Below w.heap.size w w1 := by rw [← hW]; exact hb2 _
  have hn1 : w1.heap[w.heap.size]? = some (.cells V.toArray 90 (0, 0)) := by rw [← hW]; exact hr2 _
  clear hb2 hr2 hW
  have HB1 := hide hb1
  have HN1 := hide hn1
  clear hb1 hn1
  go_wp2_with (refine wpList_load_row rfl 90 (.tmp 2) rfl w.heap.size rfl 90 V.toArray (0, 0) (.struct fs) HN1.out HU.out rfl HR.out.info ?_)
  refine (HAP.out w1 HB1.out).mono ?_
  rintro _ w2 ⟨v2, rfl, ho2, hg2, -⟩
  rw [List.nil_append] at ho2
  have hc := ho2.conv HNE.out
  have HB2 := hide (show Below w.heap.size w w2 from HB1.out.trans ⟨hg2.os, hg2.tape, hg2.output, hg2.size, fun k hk => hg2.block k (Nat.lt_of_lt_of_le hk HB1.out.size) (by simp [Value.ownBlock])⟩)
  clear ho2 hg2
  go_wp2
  go_ret
  exact ⟨rfl, HB2.out⟩
/-- what Answer and MustShow say, of a query and the points of a map -/
structure Asks (q : Ward.Qr) (L : List Ward.Pt) : Prop where
  answer : ∀ (w : World) (V : List Value), KT w → NodeIs w (fun g => g < w.heap.size) ((Ward.tree L).1 + 1) (Ward.mk Sha.sha (Ward.tree L).1 (Ward.tree L).2) V → Calls Tryz.prog 40 #[.agg V.toArray, Qv q] w fun e w' => ∃ v, e = .returned v ∧ Own w' w.heap.size v (Ward.ans q L) ∧ Below w.heap.size w w'
  must : ∀ (w : World) (B : Nat) (v : Value) (b : Ward.Box), b.In → Own w B v (Ward.ans q L) → Calls Tryz.prog 42 #[Qv q, v, Bx b] w fun e w' => e = .returned (.bool (Ward.must q (Ward.ans q L) b)) ∧ Below w.heap.size w w'
set_option maxRecDepth 100000 in
set_option maxHeartbeats 2000000 in
/-- the closure, where Prove keeps the query and the answer -/
theorem must_closure {q : Ward.Qr} {L : List Ward.Pt} (hA : Asks q L) (w : World) (kq ka B : Nat) (v : Value) (hq : w.heap[kq]? = some (.cells #[I q.kind, I q.a, I q.b, I q.c, I q.d, I q.x, I q.y, I q.k] 46 (0, 0))) (ha : w.heap[ka]? = some (.cells #[v] 27 (0, 0))) (hv : Own w B v (Ward.ans q L)) : MustIs w w.heap.size kq ka (Ward.must q (Ward.ans q L)) := by
  intro W b hi hW
  have hq0 := (Array.getElem?_eq_some_iff.1 hq).1
  have ha0 := (Array.getElem?_eq_some_iff.1 ha).1
  have hb2 := fun o => (Below.refl W.heap.size W).alloc (Nat.le_refl _) o
  have hr2 := heap_alloc_new W
  have HM := hide (fun (W' : World) (hb : Below w.heap.size w W') => hA.must W' B v b hi (hv.below hb))
  generalize Ward.must q (Ward.ans q L) b = r at *
  obtain ⟨av, cv, rfl⟩ := hv.slice
  clear hv hA
  generalize (Ward.ans q L).length = al at *
  go_enter Tryz.func41, Tryz.ntmps41
  go_upto_region 1 with fail
  generalize hE : World.alloc W _ = w1
  have hb1 : Below W.heap.size W w1 := by rw [← hE]; exact hb2 _
  have hx1 : w1.heap[W.heap.size]? = some (.cells #[I b.a, I b.b, I b.c, I b.d] 88 (0, 0)) := by rw [← hE]; exact hr2 _
  clear hb2 hr2 hE
  have hbw : Below w.heap.size w w1 := hW.trans (hb1.mono hW.size)
  obtain ⟨k0, k1, k2, k3, k4, k5, k6, k7⟩ := rowQ8 ((hbw.block kq hq0).trans hq)
  have j0 : w1.cell? ⟨ka, 0, none⟩ = some (.slice av al cv) := by rw [cell_of_row _ _ _ _ _ _ ((hbw.block ka ha0).trans ha)]; rfl
  obtain ⟨c1, c2, c3, c4⟩ := row4 hx1
  have HB1 := hide hb1
  have HBW := hide hbw
  clear hb1 hx1 hbw hq ha hW
  go_wp2_with fail
  refine (HM.out w1 HBW.out).mono ?_
  rintro _ w2 ⟨rfl, hb2⟩
  have HB2 := hide hb2
  clear hb2
  go_wp2
  go_ret
  exact ⟨rfl, HB1.out.trans (HB2.out.mono HB1.out.size)⟩
theorem proofN_ne (m : Ward.Box → Bool) (n : Nat) (t : Ward.NT (n + 1)) : Ward.proofN m (n + 1) t ≠ [] := by
  by_cases h : (Ward.Nd.kids t).length = 0
  · rw [proofN_leaf m n t h]; simp [Ward.leafText]
  · rw [proofN_kids m n t h]; simp
theorem proof_len {dig : List UInt8 → List UInt8} (hd : ∀ l, (dig l).length = 32) (m : Ward.Box → Bool) : ∀ (n : Nat) (t : Ward.T n), Ward.Small n t → (Ward.proof dig m n t).length ≤ 300 * 5 ^ n
  | 0, l, h => by
    have : (Ward.proof dig m 0 l).length = 2 + 12 * List.length (l : List Ward.Pt) := by
      show (Ward.leafText l).length = _
      simp only [Ward.leafText, List.length_cons]
      rw [Ward.pts_len]; omega
    have := h.1
    simp only [Nat.pow_zero]
    omega
  | n + 1, cs, h => by
    show (2 :: UInt8.ofNat (List.length cs) :: List.flatMap (fun c => Ward.head dig n c ++ (if m (Ward.box n c) then 1 :: Ward.proof dig m n c else [0])) cs).length ≤ _
    have key : ∀ (l : List (Ward.T n)), (∀ c ∈ l, Ward.Small n c) → (List.flatMap (fun c => Ward.head dig n c ++ (if m (Ward.box n c) then 1 :: Ward.proof dig m n c else [0])) l).length ≤ (53 + 300 * 5 ^ n) * l.length := by
      intro l
      induction l with
      | nil => intro _; simp
      | cons c l ih =>
        intro hl
        rw [List.flatMap_cons, List.length_append, List.length_append, List.length_cons, Ward.head_len hd]
        have h1 := proof_len hd m n c (hl c (by simp))
        have h2 := ih (fun d hd => hl d (by simp [hd]))
        have h3 : (if m (Ward.box n c) then 1 :: Ward.proof dig m n c else [0]).length ≤ 1 + 300 * 5 ^ n := by
          split
          · rw [List.length_cons]; omega
          · simp
        rw [Nat.mul_succ]; omega
    have h1 := key cs h.2
    have h2 : (53 + 300 * 5 ^ n) * List.length cs ≤ (53 + 300 * 5 ^ n) * 4 := Nat.mul_le_mul_left _ h.1
    have h3 : 1 ≤ 5 ^ n := Nat.one_le_pow _ _ (by decide)
    simp only [List.length_cons]
    rw [Nat.pow_succ]
    omega
theorem Good.well {L : List Ward.Pt} (h : Good L) : Ward.Well L := ⟨h.ok, h.ids, h.many⟩
theorem tree_ne' (L : List Ward.Pt) : Ward.NE (Ward.tree L).1 (Ward.tree L).2 := Ward.tree_ne L
theorem proofText_of (q : Ward.Qr) (L : List Ward.Pt) : Ward.proofN (Ward.must q (Ward.ans q L)) ((Ward.tree L).1 + 1) (Ward.mk Sha.sha (Ward.tree L).1 (Ward.tree L).2) = Ward.proofText q L := Ward.mk_proof Sha.sha _ _ _ (Ward.tree_ne L)
theorem proofText_len (q : Ward.Qr) {L : List Ward.Pt} (h : Ward.Well L) : (Ward.proofText q L).length ≤ 37500 := by
  refine Nat.le_trans (proof_len sha_len _ _ _ (Ward.tree_small h.ok).1) ?_
  exact Nat.le_trans (Nat.mul_le_mul_left _ (Nat.pow_le_pow_right (by decide) h.deep)) (by decide)
end Go.Proofs.YtenaelkbgkpllaaGreatDoor
/- Prove. -/
namespace Go.Proofs.YtenaelkbgkpllaaGreatDoor
open Go.RowKit

set_option maxRecDepth 100000 in
set_option maxHeartbeats 4000000 in
theorem prove_of {q : Ward.Qr} (m : Nat) (v : Value) (L : List Ward.Pt) (w : World) (hA : Asks q L) (hq : Ward.mayBe q = true) (hm : IsMap w m v L) (hG : Good L) (hKT : KT w) :
    Calls Tryz.prog 17 #[.pointer (some ⟨m, 0, none⟩), Qv q] w fun e w' => e = .returned (.tuple #[Sv (Ward.proofText q L), I 0]) ∧ Below w.heap.size w w' := by
  have hmlt := hm.lt
  have HM := hide hm
  have HG := hide hG
  have HK := hide hKT
  have HA := hide hA
  have HMB := hide (fun W => mayBe_any q W)
  rw [hq] at HMB
  have HPL := hide (proofText_len q hG.well)
  have hTS := Ward.tree_small hG.ok
  have HFW := hide (Ward.few_mk Sha.sha _ _ hTS.1)
  have HIN := hide (Ward.in_mk Sha.sha _ _ hTS.1)
  obtain ⟨fs, hu⟩ := underNode
  have HU := hide hu
  have hr0' := heap_alloc_new w
  have hb0' := fun o => (Below.refl w.heap.size w).alloc (Nat.le_refl _) o
  have hs0' := fun o => show (w.alloc o).heap.size = w.heap.size + 1 by simp
  obtain ⟨av, cv, ev⟩ := hm.slice
  subst ev
  clear hm hKT hA hu hTS
  have HQV := hide (show Qv q = .agg #[I q.kind, I q.a, I q.b, I q.c, I q.d, I q.x, I q.y, I q.k] from rfl)
  go_enter Tryz.func17, Tryz.ntmps17
  go_upto_region 1 with fail
  generalize hW : World.alloc w _ = w0
  have hb0 : Below w.heap.size w w0 := by rw [← hW]; exact hb0' _
  have hr0 : w0.heap[w.heap.size]? = some (.cells #[I q.kind, I q.a, I q.b, I q.c, I q.d, I q.x, I q.y, I q.k] 46 (0, 0)) := by rw [← hW]; exact hr0' _
  have hs0 : w.heap.size + 1 ≤ w0.heap.size := by rw [← hW, hs0']; exact Nat.le_refl _
  clear hb0' hr0' hs0' hW
  obtain ⟨k0, k1, k2, k3, k4, k5, k6, k7⟩ := rowQ8 hr0
  have HR0 := hide hr0
  have HB0 := hide hb0
  clear hr0 hb0
  go_wp2_with fail
  refine (HMB.out w0).mono ?_
  rintro _ w1 ⟨rfl, hb1⟩
  have hs1 := hb1.size
  have HB1 := hide (HB0.out.trans (hb1.mono (by omega)))
  have HR1 := hide ((hb1.block w.heap.size (by omega)).trans HR0.out)
  have hm1 := HM.out.below HB1.out
  have hc1 := hm1.cell
  have HBM := hide (build_map m _ L w1 hm1 hG (HK.out.below HB1.out))
  clear hb1 hm1 k0 k1 k2 k3 k4 k5 k6 k7
  go_wp2_with fail
  refine HBM.out.mono ?_
  rintro _ w2 ⟨V, rfl, hn2, hb2⟩
  have hs2 := hb2.size
  have HN2 := hide hn2
  have HB2 := hide (HB1.out.trans (hb2.mono (by omega)))
  have HR2 := hide ((hb2.block w.heap.size (by omega)).trans HR1.out)
  obtain ⟨a1, l1, c1, a2, l2, c2, hV, hd⟩ := hn2.cells
  have HR := hide (show Row39 V by rw [hV]; exact nodeV_row hd)
  clear hb2 hn2 hV hd HBM
  have hr3' := heap_alloc_new w2
  have hb3' := fun o => (Below.refl w2.heap.size w2).alloc (Nat.le_refl _) o
  have hs3' := fun o => show (w2.alloc o).heap.size = w2.heap.size + 1 by simp
  go_upto_region 4 with (refine wpList_store_row rfl 90 (.tmp 6) (.tmp 16) rfl w2.heap.size V.toArray rfl rfl 90 _ (heap_alloc_new w2 _) HR.out.info (by rw [HR.out.size]; rfl) HR.out.one ?_; rw [World.setRow_alloc_new])
  generalize hW : World.alloc w2 _ = w3
  have hb3 : Below w2.heap.size w2 w3 := by rw [← hW]; exact hb3' _
  have hr3 : w3.heap[w2.heap.size]? = some (.cells V.toArray 90 (0, 0)) := by rw [← hW]; exact hr3' _
  have hs3 : w2.heap.size + 1 ≤ w3.heap.size := by rw [← hW, hs3']; exact Nat.le_refl _
  clear hb3' hr3' hs3' hW
  have HB3 := hide (HB2.out.trans (hb3.mono (by omega)))
  have HR3 := hide ((hb3.block w.heap.size (by omega)).trans HR2.out)
  have HN3 := hide hr3
  have HND := hide (NodeIs.keep (S' := fun g => g < w3.heap.size) (below_same hb3 (fun _ h => h)) (fun g (h : g < w2.heap.size) => show g < w3.heap.size by omega) _ _ V HN2.out)
  obtain ⟨k0, k1, k2, k3, k4, k5, k6, k7⟩ := rowQ8 HR3.out
  have HAN := hide (HA.out.answer w3 V (HK.out.below HB3.out) HND.out)
  clear hb3 hr3
  go_wp2_with (refine wpList_load_row rfl 90 (.tmp 6) rfl w2.heap.size rfl 90 V.toArray (0, 0) (.struct fs) HN3.out HU.out rfl HR.out.info ?_)
  refine HAN.out.mono ?_
  rintro _ w4 ⟨v4, rfl, ho4, hb4⟩
  have hs4 := hb4.size
  have HO4 := hide ho4
  have HB4 := hide (HB3.out.trans (hb4.mono (by omega)))
  have HR4 := hide ((hb4.block w.heap.size (by omega)).trans HR3.out)
  have HN4 := hide ((hb4.block w2.heap.size (by omega)).trans HN3.out)
  have HND4 := hide (NodeIs.keep (S' := fun g => g < w4.heap.size) (below_same hb4 (fun _ h => h)) (fun g (h : g < w3.heap.size) => show g < w4.heap.size by omega) _ _ V HND.out)
  obtain ⟨a4, c4, e4⟩ := ho4.slice
  subst e4
  generalize (Ward.ans q L).length = al at *
  clear hb4 ho4 HAN k0 k1 k2 k3 k4 k5 k6 k7
  have hr5' := heap_alloc_new w4
  have hb5' := fun o => (Below.refl w4.heap.size w4).alloc (Nat.le_refl _) o
  have hs5' := fun o => show (w4.alloc o).heap.size = w4.heap.size + 1 by simp
  go_upto_region 6 with fail
  generalize hW : World.alloc w4 _ = w5
  have hb5 : Below w4.heap.size w4 w5 := by rw [← hW]; exact hb5' _
  have hr5 : w5.heap[w4.heap.size]? = some (.cells #[.slice a4 al c4] 27 (0, 0)) := by rw [← hW]; exact hr5' _
  have hs5 : w4.heap.size + 1 ≤ w5.heap.size := by rw [← hW, hs5']; exact Nat.le_refl _
  clear hb5' hr5' hs5' hW
  have HB5 := hide (HB4.out.trans (hb5.mono (by omega)))
  have HN5 := hide ((hb5.block w2.heap.size (by omega)).trans HN4.out)
  have HND5 := hide (NodeIs.keep (S' := fun g => g < w5.heap.size) (below_same hb5 (fun _ h => h)) (fun g (h : g < w4.heap.size) => show g < w5.heap.size by omega) _ _ V HND4.out)
  have HMU := hide (must_closure HA.out w5 w.heap.size w4.heap.size w3.heap.size _ ((hb5.block w.heap.size (by omega)).trans HR4.out) hr5 (HO4.out.below hb5))
  have HPR := hide (proof_any (Ward.must q (Ward.ans q L)) w.heap.size w4.heap.size _ _ V w5 (by rw [proofText_of]; have := HPL.out; omega) HFW.out HIN.out HND5.out HMU.out (proofN_ne _ _ _))
  rw [proofText_of] at HPR
  generalize hT : Ward.proofText q L = T at *
  have HT := hide hT
  clear hT
  clear hb5 hr5
  go_wp2_with (refine wpList_load_row rfl 90 (.tmp 6) rfl w2.heap.size rfl 90 V.toArray (0, 0) (.struct fs) HN5.out HU.out rfl HR.out.info ?_)
  refine HPR.out.mono ?_
  rintro _ w6 ⟨rfl, hb6⟩
  have HB6 := hide (HB5.out.trans (hb6.mono (by omega)))
  clear hb6
  go_wp2
  go_ret2
  exact ⟨by rw [HT.out]; rfl, HB6.out⟩
end Go.Proofs.YtenaelkbgkpllaaGreatDoor
