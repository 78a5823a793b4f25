/- A map's Answer. -/
import Derived.Test.YtenaelkbgkpllaaGreatDoorKept20
import Derived.Test.YtenaelkbgkpllaaGreatDoorKept17
import Derived.Test.YtenaelkbgkpllaaGreatDoorKept13
import Derived.BigQuiet
import Derived.Test.YtenaelkbgkpllaaGreatDoorKept10
import Derived.OpenShut
import Derived.Deep.Slices
import Derived.SizedLaws
namespace Go.Proofs.YtenaelkbgkpllaaGreatDoor
open Go.RowKit

/-- what Answer reads: the map's header, the query -/
def MapQry (W : World) (m g : Nat) (v : Value) (q : Ward.Qr) : Prop := W.cell? ⟨m, 0, none⟩ = some v ∧ W.cell? ⟨g, 0, none⟩ = some (I q.kind) ∧ W.cell? ⟨g, 1, none⟩ = some (I q.a) ∧ W.cell? ⟨g, 2, none⟩ = some (I q.b) ∧ W.cell? ⟨g, 3, none⟩ = some (I q.c) ∧ W.cell? ⟨g, 4, none⟩ = some (I q.d) ∧ W.cell? ⟨g, 5, none⟩ = some (I q.x) ∧ W.cell? ⟨g, 6, none⟩ = some (I q.y) ∧ W.cell? ⟨g, 7, none⟩ = some (I q.k)
theorem MapQry.below {w w' : World} {m g B : Nat} {v : Value} {q : Ward.Qr} (h : MapQry w m g v q) (hb : Below B w w') (hm : m < B) (hg : g < B) : MapQry w' m g v q := by
  obtain ⟨h0, k0, k1, k2, k3, k4, k5, k6, k7⟩ := h
  have hc := fun o => hb.cell (p := ⟨g, o, none⟩) hg
  exact ⟨(hb.cell (p := ⟨m, 0, none⟩) hm).trans h0, (hc 0).trans k0, (hc 1).trans k1, (hc 2).trans k2, (hc 3).trans k3, (hc 4).trans k4, (hc 5).trans k5, (hc 6).trans k6, (hc 7).trans k7⟩
theorem MapQry.drew {w : World} {m g : Nat} {v : Value} {q : Ward.Qr} (h : MapQry w m g v q) : MapQry w.drew m g v q := by simpa [MapQry] using h
set_option maxRecDepth 100000 in
set_option maxHeartbeats 4000000 in
theorem map_answer {q : Ward.Qr} (m : Nat) (v : Value) (L : List Ward.Pt) (w : World) (hq : Ward.mayBe q = true) (hm : IsMap w m v L) (hG : Good L) (hKT : KT w) :
    Calls Tryz.prog 21 #[.pointer (some ⟨m, 0, none⟩), Qv q] w fun e w' => ∃ va, e = .returned (.tuple #[va, I 0]) ∧ Own w' w.heap.size va (Ward.ans q L) ∧ Below w.heap.size w w' := by
  have hmlt := hm.lt
  have HM := hide hm
  have HMB := hide (fun W => mayBe_any q W)
  rw [hq] at HMB
  have HBM := hide (fun (W : World) (hb : Below w.heap.size w W) => build_map m v L W (hm.below hb) hG (hKT.below hb))
  have HAN := hide (fun (W : World) (V : List Value) (hb : Below w.heap.size w W) hN => (asks_any hq hG).answer W V (hKT.below hb) hN)
  have hr0' := heap_alloc_new w
  have hb0' := fun o => (Below.refl w.heap.size w).alloc (Nat.le_refl _) o
  have hs0' := fun o => show (w.alloc o).heap.size = w.heap.size + 1 by simp
  obtain ⟨av, cv, ev⟩ := hm.slice
  subst ev
  clear hm hKT hG
  obtain ⟨qk, qa, qb, qc, qd, qx, qy, qn⟩ := q
  go_enter Tryz.func21, Tryz.ntmps21
  go_upto_region 1 with fail
  generalize hW : World.alloc w _ = w0
  have hb0 : Below w.heap.size w w0 := by rw [← hW]; exact hb0' _
  have hr0 : w0.heap[w.heap.size]? = some (.cells #[I qk, I qa, I qb, I qc, I qd, I qx, I qy, I qn] 46 (0, 0)) := by rw [← hW]; exact hr0' _
  have hs0 : w.heap.size + 1 ≤ w0.heap.size := by rw [← hW, hs0']; exact Nat.le_refl _
  clear hb0' hr0' hs0' hW
  obtain ⟨k0, k1, k2, k3, k4, k5, k6, k7⟩ := rowQ8 hr0
  have HQ0 := hide (show MapQry w0 m w.heap.size _ ⟨qk, qa, qb, qc, qd, qx, qy, qn⟩ from ⟨(HM.out.below hb0).cell, rowQ8 hr0⟩)
  have HB0 := hide hb0
  clear hr0 hb0
  go_wp2_with fail
  refine (HMB.out w0).mono ?_
  rintro _ w1 ⟨rfl, hb1⟩
  have hs1 := hb1.size
  have HB1 := hide (HB0.out.trans (hb1.mono (by omega)))
  have hQ1 := HQ0.out.below hb1 (by omega) (by omega)
  have HQ1 := hide hQ1
  clear hb1 k0 k1 k2 k3 k4 k5 k6 k7
  go_upto_region 3 with fail
  go_region_held3 (fun W => W.cell? ⟨m, 0, none⟩ = some (.slice av L.length cv) ∧ W.cell? ⟨w.heap.size, 0, none⟩ = some (I qk) ∧ W.cell? ⟨w.heap.size, 1, none⟩ = some (I qa) ∧ W.cell? ⟨w.heap.size, 2, none⟩ = some (I qb) ∧ W.cell? ⟨w.heap.size, 3, none⟩ = some (I qc) ∧ W.cell? ⟨w.heap.size, 4, none⟩ = some (I qd) ∧ W.cell? ⟨w.heap.size, 5, none⟩ = some (I qx) ∧ W.cell? ⟨w.heap.size, 6, none⟩ = some (I qy) ∧ W.cell? ⟨w.heap.size, 7, none⟩ = some (I qn)) (first | assumption | exact HQ1.out | exact HQ1.out.drew) ((first | (go_at_call 38; refine (HBM.out _ HB1.out.drew).mono ?_; rintro _ w2 ⟨V, rfl, hn2, hb2⟩; have hs2 : w1.heap.size ≤ w2.heap.size := hb2.size; have hQ2 := HQ1.out.drew.below hb2 (by simp; omega) (by simp; omega); have HB2 := hide (show Below w.heap.size w w2 from HB1.out.drew.trans (hb2.mono (by simp; omega)))) | (go_at_call 40; refine (HAN.out _ V HB2.out hn2).mono ?_; rintro _ w3 ⟨va, rfl, ho3, hb3⟩; have hQ3 := hQ2.below hb3 (by omega) (by omega))))
  all_goals
    have HO3 := hide (own_mono (B' := w.heap.size) ho3 (by omega))
    have HB3 := hide (HB2.out.trans (hb3.mono (by omega)))
    clear ho3 hb3 hn2 hQ1 hQ2 hQ3
    go_wp2
    go_ret2
    exact ⟨_, rfl, HO3.out, HB3.out⟩
end Go.Proofs.YtenaelkbgkpllaaGreatDoor
/- The program's Points; its Delete where there is no such id. -/
namespace Go.Proofs.YtenaelkbgkpllaaGreatDoor
open Go.RowKit

theorem copied_row {w w1 : World} {n : Nat} {xs : List Value} {B : Nat} (h : w1.ownsRow B 36 3 (.slice (some ⟨w.heap.size, 0, none⟩) n n) n xs) : ∃ cur : Array Value, w1.heap[w.heap.size]? = some (.cells cur 36 (0, 0)) ∧ cur.size = n * 3 := by
  rcases h.2 with ⟨e, _⟩ | ⟨g, c, cur, e, _, hg, _, _, hs, _⟩
  · cases e
  · injection e with e1 _ e3
    injection e1 with e1
    injection e1 with e1
    subst e1 e3
    exact ⟨cur, hg, hs⟩
set_option maxRecDepth 100000 in
set_option maxHeartbeats 1000000 in
theorem points_any (m : Nat) (v : Value) (L : List Ward.Pt) (w : World) (hm : IsMap w m v L) (hl : L.length ≤ 150) :
    Calls Tryz.prog 94 #[.pointer (some ⟨m, 0, none⟩)] w fun e w' => ∃ v', e = .returned v' ∧ Own w' w.heap.size v' L ∧ Below w.heap.size w w' := by
  obtain ⟨i0, hi, hz0, hz1, hz2⟩ := info_parts Tryz.infoPt
  have HM := hide hm
  have hmlt := hm.lt
  have hc0 := hm.cell
  obtain ⟨a, c, rfl, hrd⟩ := hm.own.reads
  have hby : i0.bytes * L.length ≤ 281474976710656 := by rw [hz2]; omega
  have HRD := hide hrd
  clear hm hrd
  go_enter Tryz.func94, Tryz.ntmps94
  go_upto_region 2 with (at_make; refine wpList_make_full w rfl (.tmp 8) (.tmp 8) 27 rfl w.heap.size 36 i0 (.agg #[I 0, I 0, I 0]) 3 Tryz.underlying27 hi hz0 hz1 .i64 .i64 _ _ L.length rfl rfl rfl rfl hby (by unfold maxLen; omega) (Nat.le_refl _) ?_; intro w1 hown hgrow)
  obtain ⟨cur, hcur, hcs⟩ := copied_row hown
  have hb1 : Below w.heap.size w w1 := (Below.refl w.heap.size w).grown hgrow (Nat.le_refl _) (fun k hk => by cases hk)
  have hc1 := (HM.out.below hb1).cell
  have HB1 := hide hb1
  have HCUR := hide hcur
  clear hown hgrow hb1 hcur
  by_cases hz : L = []
  · subst hz
    have hcp : (Builtin.copy_ #[27, 27] 3 #[.slice (some ⟨w.heap.size, 0, none⟩) 0 0, .slice a 0 c]).run Tryz.prog w1 = .ok (goInt 0) w1 := by
      have hl0 : ∀ (x : Addr), (loadCells x 0).run Tryz.prog w1 = .ok #[] w1 := fun x => by simpa using run_loadCells_list (P := Tryz.prog) w1 x [] (by simp)
      cases a <;> simp [Builtin.copy_, run_underlying Tryz.underlying27, Builtin.lenOf, sizeOf, typeInfo, hi, Builtin.firstCells, storeCells, hl0]
    go_wp2_with (at_builtin; refine wpList_copy_runI _ rfl _ _ 27 27 rfl _ _ rfl rfl hcp ?_)
    go_ret
    exact ⟨_, rfl, ⟨rfl, .inr ⟨w.heap.size, 0, cur, rfl, Nat.le_refl _, HCUR.out, Nat.le_refl _, by unfold maxLen; omega, by simpa using hcs, by simp⟩⟩, HB1.out⟩
  · obtain ⟨g, o, rfl, hpt⟩ := HRD.out hz
    have hg : g < w.heap.size := (hpt 0 (List.length_pos_iff.2 hz)).lt
    have hcp := run_copy_rowK (P := Tryz.prog) w1 27 27 3 36 3 w.heap.size 0 L.length L.length ⟨g, o, none⟩ L.length c L.length cur 36 (L.flatMap P3) Tryz.underlying27 Tryz.sizePt HCUR.out (by simp) (cells_len L) (fun j v hj => by
      have hO := (HM.out.below HB1.out).own
      rcases hO.2 with ⟨e, _⟩ | ⟨g', c', cur', e, _⟩
      · cases e
      · injection e with e1
        injection e1 with e1
        rw [e1]
        refine hO.cells (g := g') ?_ j v hj
        rw [e1]
        rfl) (by rw [cells_len, hcs]; omega) cells_one
    go_wp2_with (at_builtin; refine wpList_copy_runI _ rfl _ _ 27 27 rfl _ _ rfl rfl hcp ?_)
    go_ret
    refine ⟨_, rfl, ⟨cells_len L, .inr ⟨w.heap.size, L.length, _, rfl, Nat.le_refl _, setRow_heap _ _ _ _ _ _ HCUR.out, Nat.le_refl _, by unfold maxLen; omega, ?_, ?_⟩⟩, below_setRow HB1.out (Nat.le_refl _) _⟩
    · have := over_len (R := cur.toList) (cs := L.flatMap P3) (o := 0) (by rw [cells_len]; simp; omega)
      simp at this ⊢
      omega
    · have e : over cur.toList 0 (L.flatMap P3) = L.flatMap P3 := by
        unfold over
        rw [List.take_zero, List.nil_append, List.drop_eq_nil_of_le (by rw [cells_len]; simp; omega), List.append_nil]
      rw [e, List.toList_toArray, List.take_of_length_le (by rw [cells_len]; exact Nat.le_refl _)]
set_option maxRecDepth 100000 in
set_option maxHeartbeats 1000000 in
theorem mapDelete_no (m : Nat) (v : Value) (L : List Ward.Pt) (id : Int) (w : World) (hm : IsMap w m v L) (hn : L.length ≤ 1000) (hid : ¬ ∃ q ∈ L, q.id = id) :
    Calls Tryz.prog 19 #[.pointer (some ⟨m, 0, none⟩), I id] w fun e w' => Inserted w m v L 4 e w' := by
  have HFI := hide (find_any m v L id w hm.cell hm.own.reads hn)
  have HM := hide hm
  have hmlt := hm.lt
  clear hm
  go_enter Tryz.func19, Tryz.ntmps19
  go_wp2_with fail
  refine HFI.out.mono ?_
  rintro _ w1 ⟨r, rfl, hpl, hb1⟩
  have hr := place_no hpl hid
  subst hr
  have HB1 := hide hb1
  clear hb1 hpl
  go_wp2_with fail
  go_ret
  exact Inserted.none HM.out HB1.out
end Go.Proofs.YtenaelkbgkpllaaGreatDoor
/- What makes an answer right, whatever order the points stand in. -/
namespace Go.Proofs.YtenaelkbgkpllaaGreatDoor
namespace Ward
structure RightIs (q : Qr) (a l : List Pt) : Prop where
  mem : ∀ p ∈ a, p ∈ l
  win : q.kind = 0 → a.Pairwise lt ∧ ∀ p ∈ l, (p ∈ a ↔ inB (window q) p = true)
  near : q.kind = 1 → a.Pairwise (nr q.x q.y) ∧ (∀ p ∈ l, p ∉ a → ∀ z, a.getLast? = some z → nr q.x q.y z p) ∧ (a.length : Int) = min (l.length : Int) q.k
theorem right_ans {q : Qr} {L l : List Pt} (hq : mayBe q = true) (h : L.Perm l) (hi : Ids L) : RightIs q (ans q L) l := by
  have hk : q.kind = 0 ∨ q.kind = 1 := by
    unfold mayBe at hq
    by_cases h0 : q.kind = 0
    · exact .inl h0
    · by_cases h1 : q.kind = 1
      · exact .inr h1
      · rw [if_neg h0, if_neg h1] at hq; cases hq
  rcases hk with hk | hk
  · have e : ans q L = sortP (L.filter (inB (window q))) := by unfold ans; rw [if_neg (by omega)]
    have hm : ∀ p, p ∈ ans q L ↔ p ∈ L ∧ inB (window q) p = true := fun p => by
      rw [e, (sortP_perm _).mem_iff, List.mem_filter]
    refine ⟨fun p hp => h.mem_iff.1 ((hm p).1 hp).1, fun _ => ⟨?_, fun p hp => ?_⟩, fun h1 => by omega⟩
    · rw [e]; exact sortP_sorted (ids_sub List.filter_sublist hi)
    · rw [hm]
      exact ⟨fun h => h.2, fun k => ⟨h.mem_iff.2 hp, k⟩⟩
  · have e : ans q L = (sortN q.x q.y L).take q.k.toNat := by unfold ans; rw [if_pos hk]
    have hkk : 1 ≤ q.k := by
      unfold mayBe at hq
      rw [if_neg (by omega), if_pos hk] at hq
      simp only [Bool.and_eq_true, decide_eq_true_eq] at hq
      exact hq.1.2
    refine ⟨fun p hp => ?_, fun h0 => by omega, fun _ => ⟨?_, fun p hp hn z hz => ?_, ?_⟩⟩
    · rw [e] at hp
      exact h.mem_iff.1 ((sortN_perm q.x q.y L).mem_iff.1 (List.mem_of_mem_take hp))
    · rw [e]; exact (sortN_sorted hi).sublist (List.take_sublist _ _)
    · rw [e] at hn hz
      exact behind hi q.k.toNat (h.mem_iff.2 hp) hn z (List.mem_of_getLast? hz)
    · rw [e, List.length_take, (sortN_perm q.x q.y L).length_eq, h.length_eq]
      omega
/-- how far, as a statement reckons it -/
def far (p : Pt) (x y : Int) : Int := (p.x - x) * (p.x - x) + (p.y - y) * (p.y - y)
theorem gap_sq (a x : Int) : gap a a x * gap a a x = (a - x) * (a - x) := by
  unfold gap
  by_cases h : x ≤ a
  · rw [show max (max (a - x) 0) (x - a) = a - x by omega]
  · rw [show max (max (a - x) 0) (x - a) = -(a - x) by omega, Int.neg_mul_neg]
theorem far_dist (p : Pt) (x y : Int) : distP p x y = far p x y := by
  show gap p.x p.x x * gap p.x p.x x + gap p.y p.y y * gap p.y p.y y = _
  rw [gap_sq, gap_sq]
  rfl
end Ward
end Go.Proofs.YtenaelkbgkpllaaGreatDoor
/- in, far, inOrder, same, dice.query. -/
namespace Go.Proofs.YtenaelkbgkpllaaGreatDoor
open Go.RowKit

theorem row3' {w : World} {g t : Nat} {a b c : Value} (h : w.heap[g]? = some (.cells #[a, b, c] t (0, 0))) : w.cell? ⟨g, 0, none⟩ = some a ∧ w.cell? ⟨g, 1, none⟩ = some b ∧ w.cell? ⟨g, 2, none⟩ = some c := row3 h
set_option maxRecDepth 100000 in
set_option maxHeartbeats 2000000 in
theorem in_any (p : Ward.Pt) (q : Ward.Qr) (w : World) :
    Calls Tryz.prog 53 #[.agg #[I p.id, I p.x, I p.y], Qv q] w fun e w' => e = .returned (.bool (Ward.inB (Ward.window q) p)) ∧ Below w.heap.size w w' := by
  obtain ⟨r, hr⟩ : ∃ r, (decide (q.a ≤ p.x) && decide (p.x ≤ q.c) && decide (q.b ≤ p.y) && decide (p.y ≤ q.d)) = r := ⟨_, rfl⟩
  rw [show Ward.inB (Ward.window q) p = (decide (q.a ≤ p.x) && decide (p.x ≤ q.c) && decide (q.b ≤ p.y) && decide (p.y ≤ q.d)) from rfl, hr]
  have HE := hide hr
  clear hr
  have hb2 := fun o o' => ((Below.refl w.heap.size w).alloc (Nat.le_refl _) o).alloc (by simp) o'
  have hr2 := heap2 w
  go_enter Tryz.func53, Tryz.ntmps53
  go_upto_region 1 with fail
  generalize hW : World.alloc (World.alloc w _) _ = w1
  have hb1 : Below w.heap.size w w1 := by rw [← hW]; exact hb2 _ _
  have hp1 : w1.heap[w.heap.size]? = some (.cells #[I p.id, I p.x, I p.y] 36 (0, 0)) := by rw [← hW]; exact (hr2 _ _).1
  have hq1 : w1.heap[w.heap.size + 1]? = some (.cells #[I q.kind, I q.a, I q.b, I q.c, I q.d, I q.x, I q.y, I q.k] 46 (0, 0)) := by rw [← hW]; exact (hr2 _ _).2.1
  clear hb2 hr2 hW
  obtain ⟨e0, e1, e2⟩ := row3 hp1
  obtain ⟨k0, k1, k2, k3, k4, k5, k6, k7⟩ := rowQ8 hq1
  have HB1 := hide hb1
  clear hb1 hp1 hq1
  by_cases h1 : q.a ≤ p.x
  · by_cases h2 : p.x ≤ q.c
    · by_cases h3 : q.b ≤ p.y
      · go_wp2_with fail
        go_ret
        refine ⟨?_, HB1.out⟩
        rw [← HE.out, decide_eq_true (show q.a ≤ p.x by omega), decide_eq_true (show p.x ≤ q.c by omega), decide_eq_true (show q.b ≤ p.y by omega)]
        rfl
      · go_wp2_with fail
        go_ret
        refine ⟨?_, HB1.out⟩
        rw [← HE.out, decide_eq_true (show q.a ≤ p.x by omega), decide_eq_true (show p.x ≤ q.c by omega), decide_eq_false (show ¬ q.b ≤ p.y by omega)]
        rfl
    · go_wp2_with fail
      go_ret
      refine ⟨?_, HB1.out⟩
      rw [← HE.out, decide_eq_true (show q.a ≤ p.x by omega), decide_eq_false (show ¬ p.x ≤ q.c by omega)]
      rfl
  · go_wp2_with fail
    go_ret
    refine ⟨?_, HB1.out⟩
    rw [← HE.out, decide_eq_false (show ¬ q.a ≤ p.x by omega)]
    rfl
theorem sq_fits {u : Int} (h0 : -2000000 ≤ u) (h1 : u ≤ 2000000) : 0 ≤ u * u ∧ u * u ≤ 4000000000000 := by
  by_cases h : 0 ≤ u
  · exact sq_le h h1
  · have := sq_le (u := -u) (by omega) (by omega)
    rw [Int.neg_mul_neg] at this
    exact this
set_option maxRecDepth 100000 in
set_option maxHeartbeats 2000000 in
theorem far_any (p : Ward.Pt) (q : Ward.Qr) (w : World) (hp : p.Ok) (hx : -1000000 ≤ q.x ∧ q.x ≤ 1000000) (hy : -1000000 ≤ q.y ∧ q.y ≤ 1000000) :
    Calls Tryz.prog 52 #[.agg #[I p.id, I p.x, I p.y], Qv q] w fun e w' => e = .returned (I (Ward.far p q.x q.y)) ∧ Below w.heap.size w w' := by
  obtain ⟨i1, i2, x1, x2, y1, y2⟩ := hp
  obtain ⟨s0, s1⟩ := sq_fits (u := p.x - q.x) (by omega) (by omega)
  obtain ⟨t0, t1⟩ := sq_fits (u := p.y - q.y) (by omega) (by omega)
  have HD := hide (show Ward.far p q.x q.y = (p.x - q.x) * (p.x - q.x) + (p.y - q.y) * (p.y - q.y) from rfl)
  have hb2 := fun o o' => ((Below.refl w.heap.size w).alloc (Nat.le_refl _) o).alloc (by simp) o'
  have hr2 := heap2 w
  go_enter Tryz.func52, Tryz.ntmps52
  go_upto_region 1 with fail
  generalize hW : World.alloc (World.alloc w _) _ = w1
  have hb1 : Below w.heap.size w w1 := by rw [← hW]; exact hb2 _ _
  have hp1 : w1.heap[w.heap.size]? = some (.cells #[I p.id, I p.x, I p.y] 36 (0, 0)) := by rw [← hW]; exact (hr2 _ _).1
  have hq1 : w1.heap[w.heap.size + 1]? = some (.cells #[I q.kind, I q.a, I q.b, I q.c, I q.d, I q.x, I q.y, I q.k] 46 (0, 0)) := by rw [← hW]; exact (hr2 _ _).2.1
  clear hb2 hr2 hW
  obtain ⟨e0, e1, e2⟩ := row3 hp1
  obtain ⟨k0, k1, k2, k3, k4, k5, k6, k7⟩ := rowQ8 hq1
  have HB1 := hide hb1
  clear hb1 hp1 hq1
  go_wp2_with fail
  go_ret
  exact ⟨by rw [HD.out]; rfl, HB1.out⟩
theorem lt_cases (p r : Ward.Pt) : decide (Ward.lt p r) = if p.x ≠ r.x then decide (p.x < r.x) else if p.y ≠ r.y then decide (p.y < r.y) else decide (p.id < r.id) := by
  by_cases h1 : p.x = r.x
  · rw [if_neg (fun h => h h1)]
    by_cases h2 : p.y = r.y
    · rw [if_neg (fun h => h h2)]
      apply decide_eq_decide.2
      unfold Ward.lt
      omega
    · rw [if_pos h2]
      apply decide_eq_decide.2
      unfold Ward.lt
      omega
  · rw [if_pos h1]
    apply decide_eq_decide.2
    unfold Ward.lt
    omega
set_option maxRecDepth 100000 in
set_option maxHeartbeats 2000000 in
theorem inOrder_any (p r : Ward.Pt) (w : World) :
    Calls Tryz.prog 51 #[.agg #[I p.id, I p.x, I p.y], .agg #[I r.id, I r.x, I r.y]] w fun e w' => e = .returned (.bool (decide (Ward.lt p r))) ∧ Below w.heap.size w w' := by
  obtain ⟨b, hb⟩ : ∃ b, decide (Ward.lt p r) = b := ⟨_, rfl⟩
  have HE := hide ((lt_cases p r).symm.trans hb)
  rw [hb]
  clear hb
  have hb2 := fun o o' => ((Below.refl w.heap.size w).alloc (Nat.le_refl _) o).alloc (by simp) o'
  have hr2 := heap2 w
  go_enter Tryz.func51, Tryz.ntmps51
  go_upto_region 1 with fail
  generalize hW : World.alloc (World.alloc w _) _ = w1
  have hb1 : Below w.heap.size w w1 := by rw [← hW]; exact hb2 _ _
  have hp1 : w1.heap[w.heap.size]? = some (.cells #[I p.id, I p.x, I p.y] 36 (0, 0)) := by rw [← hW]; exact (hr2 _ _).1
  have hq1 : w1.heap[w.heap.size + 1]? = some (.cells #[I r.id, I r.x, I r.y] 36 (0, 0)) := by rw [← hW]; exact (hr2 _ _).2.1
  clear hb2 hr2 hW
  obtain ⟨e0, e1, e2⟩ := row3 hp1
  obtain ⟨k0, k1, k2⟩ := row3 hq1
  have HB1 := hide hb1
  clear hb1 hp1 hq1
  by_cases h1 : p.x = r.x
  · by_cases h2 : p.y = r.y
    · go_wp2_with fail
      go_ret
      refine ⟨?_, HB1.out⟩
      rw [← HE.out, if_neg (fun h => h (by omega)), if_neg (fun h => h (by omega))]
      rfl
    · go_wp2_with fail
      go_ret
      refine ⟨?_, HB1.out⟩
      rw [← HE.out, if_neg (fun h => h (by omega)), if_pos (by omega)]
      rfl
  · go_wp2_with fail
    go_ret
    refine ⟨?_, HB1.out⟩
    rw [← HE.out, if_pos (by omega)]
    rfl
end Go.Proofs.YtenaelkbgkpllaaGreatDoor
/- same; a query out of raw numbers. -/
namespace Go.Proofs.YtenaelkbgkpllaaGreatDoor
open Go.RowKit

theorem Reads.point {w : World} {a : Option Addr} {n c : Nat} {L : List Ward.Pt} (h : Reads w (.slice a n c) L) : n = L.length ∧ (∀ i (hi : i < L.length), ∃ g o, a = some ⟨g, o, none⟩ ∧ ∀ w', Below w.heap.size w w' → PtAt w' g (o + i * 3) L[i]) := by
  obtain ⟨a', c', e, hr⟩ := h
  injection e with e1 e2 e3
  refine ⟨e2, fun i hi => ?_⟩
  obtain ⟨g, o, rfl, hp⟩ := hr (fun e => by subst e; simp at hi)
  exact ⟨g, o, e1, fun w' hb => (hp i hi).below hb (hp i hi).lt⟩
theorem take_step {α : Type} (A B : List α) (i : Nat) (ha : i < A.length) (hb : i < B.length) (h : A.take i = B.take i) (he : A[i] = B[i]) : A.take (i + 1) = B.take (i + 1) := by
  rw [List.take_succ_eq_append_getElem ha, List.take_succ_eq_append_getElem hb, h, he]
set_option maxRecDepth 100000 in
set_option maxHeartbeats 4000000 in
theorem same_any (va vb : Value) (A B : List Ward.Pt) (w : World) (ha : Reads w va A) (hb : Reads w vb B) (hl : A.length ≤ 1000) :
    Calls Tryz.prog 24 #[va, vb] w fun e w' => (∃ r : Bool, e = .returned (.bool r) ∧ (r = true ↔ A = B)) ∧ Below w.heap.size w w' := by
  obtain ⟨aa, ca, ea, -⟩ := id ha
  obtain ⟨ab, cb, eb, -⟩ := id hb
  subst ea eb
  have HA := hide ha.point.2
  have HB := hide hb.point.2
  clear ha hb
  go_enter Tryz.func24, Tryz.ntmps24
  by_cases hlen : A.length = B.length
  · have hlen' : (A.length : Int) = (B.length : Int) := by omega
    have HLN := hide hlen
    clear hlen
    go_wp2_with fail
    clear hlen'
    go_loopg [5] A.length (fun gk v5 wq => ∃ i : Nat, gk = A.length - i ∧ v5 = I i ∧ i ≤ A.length ∧ A.take i = B.take i ∧ Below w.heap.size w wq)
    case atStart => exact ⟨0, by omega, rfl, by omega, rfl, Below.refl _ _⟩
    case round =>
      obtain ⟨i, hgk, rfl, hi, ht, hbl⟩ := hrel
      have HGK := hide hgk
      have HT := hide ht
      have HBL := hide hbl
      clear hgk ht hbl
      by_cases hlt : i < A.length
      · have hlt2 : i < B.length := by rw [← HLN.out]; exact hlt
        obtain ⟨g, o, rfl, hp⟩ := HA.out i hlt
        obtain ⟨g2, o2, rfl, hq⟩ := HB.out i hlt2
        have hp0 := hp wr HBL.out
        have hq0 := hq wr HBL.out
        have HST := hide (take_step A B i hlt hlt2 HT.out)
        have HNE := hide (show A[i] ≠ B[i] → A ≠ B from fun h e => h (by subst e; rfl))
        have hE := eqPt A[i] B[i]
        have HEQ := hide (ptEq_iff A[i] B[i])
        generalize A[i] = p at *
        generalize B[i] = q at *
        obtain ⟨p1, p2, p3⟩ := hp0
        obtain ⟨q1, q2, q3⟩ := hq0
        generalize ptEq p q = b3 at *
        clear hp hq
        go_wp2_with fail
        go_quiet (fail)
        have HBQ := hide (show Below w.heap.size w (wr.drewN nq) from HBL.out.trans ⟨rfl, rfl, rfl, Nat.le_refl _, fun _ _ => rfl⟩)
        generalize World.drewN wr nq = w9 at *
        cases b3 with
        | true =>
          go_wp2_with fail
          go_roundg (A.length - (i + 1))
          case measure => have := HGK.out; omega
          case rel => exact ⟨i + 1, rfl, by go_num, hlt, HST.out (HEQ.out.1 (by trivial)), HBQ.out⟩
        | false =>
          go_wp2_with fail
          go_ret
          exact ⟨⟨false, rfl, ⟨fun h => (by cases h), fun h => absurd h (HNE.out (fun e => by have := HEQ.out.2 e; simp at this))⟩⟩, HBQ.out⟩
      · have ei : i = A.length := by omega
        subst ei
        go_wp2_with fail
        go_ret
        refine ⟨⟨true, rfl, ⟨fun _ => ?_, fun _ => rfl⟩⟩, HBL.out⟩
        have h := HT.out
        rw [List.take_length, HLN.out, List.take_length] at h
        exact h
  · have hlen' : ¬ (A.length : Int) = (B.length : Int) := by omega
    go_wp2_with fail
    go_ret
    exact ⟨⟨false, rfl, ⟨fun h => (by cases h), fun h => absurd (by rw [h]) hlen⟩⟩, Below.refl _ _⟩
/-- what query makes: a query that may be, of small numbers -/
def SmallQ (q : Ward.Qr) : Prop := Ward.mayBe q = true ∧ (-8 ≤ q.x ∧ q.x ≤ 8) ∧ (-8 ≤ q.y ∧ q.y ≤ 8)
theorem window_may {a b c d : Int} (ha : -8 ≤ a ∧ a ≤ 8) (hb : -8 ≤ b ∧ b ≤ 8) (hc : 0 ≤ c ∧ c < 9) (hd : 0 ≤ d ∧ d < 9) : SmallQ ⟨0, a, b, a + c, b + d, 0, 0, 0⟩ := by
  refine ⟨?_, (show (-8 : Int) ≤ 0 ∧ (0 : Int) ≤ 8 by decide), (show (-8 : Int) ≤ 0 ∧ (0 : Int) ≤ 8 by decide)⟩
  show Ward.boxMay ⟨a, b, a + c, b + d⟩ = true
  simp only [Ward.boxMay, Ward.coordOk, Bool.and_eq_true, decide_eq_true_eq]
  omega
theorem near_may {a b c : Int} (ha : -8 ≤ a ∧ a ≤ 8) (hb : -8 ≤ b ∧ b ≤ 8) (hc : 0 ≤ c ∧ c < 20) : SmallQ ⟨1, 0, 0, 0, 0, a, b, 1 + c⟩ := by
  refine ⟨?_, ha, hb⟩
  show (Ward.coordOk a && Ward.coordOk b && decide (1 ≤ 1 + c) && decide (1 + c ≤ 20)) = true
  simp only [Ward.coordOk, Bool.and_eq_true, decide_eq_true_eq]
  omega
theorem underQ : ∃ fs, Tryz.prog.underlying 46 = some (.struct fs) := by
  have h : Tryz.prog.underlying 46 = some (.struct (Tryz.prog.fieldsOf 46)) := by kernel_rfl
  exact ⟨_, h⟩
theorem sizeQ : (Tryz.prog.info? 46).map (·.size) = some 8 := by kernel_rfl
theorem one8 (a b c d e f g h : Int) : (#[I a, I b, I c, I d, I e, I f, I g, I h] : Array Value).all (·.oneCell') = true := all_oneCell_toArray (cs := [I a, I b, I c, I d, I e, I f, I g, I h]) (fun v hv => by
  simp only [List.mem_cons, List.not_mem_nil, or_false] at hv
  rcases hv with rfl | rfl | rfl | rfl | rfl | rfl | rfl | rfl <;> rfl)
set_option maxRecDepth 100000 in
set_option maxHeartbeats 4000000 in
theorem query_any (B d : Nat) (code : List Int) (k : Nat) (w : World) (hd : Dice w B d code k) (hB : B ≤ w.heap.size) :
    Calls Tryz.prog 20 #[.pointer (some ⟨d, 0, none⟩)] w fun e w' => ∃ q k', e = .returned (Qv q) ∧ SmallQ q ∧ Dice w' B d code k' ∧ Keeps (fun j => j = d) w w' := by
  have hdlt := hd.low
  have HD := hide hd
  have hb1' := fun o => (Below.refl w.heap.size w).alloc (Nat.le_refl _) o
  have hr1' := heap_alloc_new w
  obtain ⟨fs, hu⟩ := underQ
  have HU := hide hu
  clear hd hu
  go_enter Tryz.func20, Tryz.ntmps20
  go_upto_region 1 with fail
  generalize hW : World.alloc w _ = w1
  have hb1 : Below w.heap.size w w1 := by rw [← hW]; exact hb1' _
  have hr1 : w1.heap[w.heap.size]? = some (.cells #[I 0, I 0, I 0, I 0, I 0, I 0, I 0, I 0] 46 (0, 0)) := by rw [← hW]; exact hr1' _
  clear hb1' hr1' hW
  have hs1 : w.heap.size < w1.heap.size := (Array.getElem?_eq_some_iff.1 hr1).1
  have HR1 := hide hr1
  have HD1 := hide (HD.out.below hb1)
  have HK1 := hide (show Keeps (fun j => j = d) w w1 from Keeps.of_below hb1)
  clear hb1 hr1
  go_wp2_with fail
  refine (next_any B d code k 17 w1 HD1.out (by decide) (by decide)).mono ?_
  rintro _ w2 ⟨r1, j1, rfl, a1, a2, hd2, hk2⟩
  have hs2 := hk2.size
  have HD2 := hide hd2
  have HR2 := hide ((hk2.block w.heap.size (by omega) (by omega)).trans HR1.out)
  have HK2 := hide (HK1.out.trans hk2 (fun _ _ h => h))
  clear hd2 hk2
  go_wp2_with fail
  refine (next_any B d code j1 17 w2 HD2.out (by decide) (by decide)).mono ?_
  rintro _ w3 ⟨r2, j2, rfl, b1, b2, hd3, hk3⟩
  have hs3 := hk3.size
  have HD3 := hide hd3
  have HR3 := hide ((hk3.block w.heap.size (by omega) (by omega)).trans HR2.out)
  have HK3 := hide (HK2.out.trans hk3 (fun _ _ h => h))
  clear hd3 hk3
  go_wp2_with fail
  refine (next_any B d code j2 2 w3 HD3.out (by decide) (by decide)).mono ?_
  rintro _ w4 ⟨r3, j3, rfl, c1, c2, hd4, hk4⟩
  have hs4 := hk4.size
  have HD4 := hide hd4
  have HR4 := hide ((hk4.block w.heap.size (by omega) (by omega)).trans HR3.out)
  have HK4 := hide (HK3.out.trans hk4 (fun _ _ h => h))
  clear hd4 hk4
  by_cases h0 : r3 = 0
  · go_wp2_with fail
    refine (next_any B d code j3 9 w4 HD4.out (by decide) (by decide)).mono ?_
    rintro _ w5 ⟨r4, j4, rfl, d1, d2, hd5, hk5⟩
    have hs5 := hk5.size
    have HD5 := hide hd5
    have HR5 := hide ((hk5.block w.heap.size (by omega) (by omega)).trans HR4.out)
    have HK5 := hide (HK4.out.trans hk5 (fun _ _ h => h))
    clear hd5 hk5
    go_wp2_with fail
    refine (next_any B d code j4 9 w5 HD5.out (by decide) (by decide)).mono ?_
    rintro _ w6 ⟨r5, j5, rfl, e1, e2, hd6, hk6⟩
    have hs6 := hk6.size
    have HD6 := hide hd6
    have HR6 := hide ((hk6.block w.heap.size (by omega) (by omega)).trans HR5.out)
    have HK6 := hide (HK5.out.trans hk6 (fun _ _ h => h))
    clear hd6 hk6
    have HQ := hide (window_may (a := r1 - 8) (b := r2 - 8) (c := r4) (d := r5) (by omega) (by omega) (by omega) (by omega))
    go_wp2_with (refine wpList_store_row rfl 46 (.tmp 2) (.tmp 24) rfl w.heap.size #[I 0, I (r1 - 8), I (r2 - 8), I (r1 - 8 + r4), I (r2 - 8 + r5), I 0, I 0, I 0] rfl rfl 46 _ HR6.out sizeQ rfl (one8 _ _ _ _ _ _ _ _) ?_)
    refine bodyPost_ret (results_cell_row rfl _ _ w.heap.size 46 #[I 0, I (r1 - 8), I (r2 - 8), I (r1 - 8 + r4), I (r2 - 8 + r5), I 0, I 0, I 0] (0, 0) (.struct fs) rfl (setRow_heap _ _ _ _ _ _ HR6.out) HU.out rfl sizeQ) rfl ?_
    exact ⟨⟨0, r1 - 8, r2 - 8, r1 - 8 + r4, r2 - 8 + r5, 0, 0, 0⟩, j5, rfl, HQ.out, HD6.out.keeps (keeps_setRow _ _ _) (fun j hj e => by omega), HK6.out.low (below_setRow (Below.refl _ _) (Nat.le_refl _) _)⟩
  · go_wp2_with fail
    refine (next_any B d code j3 20 w4 HD4.out (by decide) (by decide)).mono ?_
    rintro _ w5 ⟨r4, j4, rfl, d1, d2, hd5, hk5⟩
    have hs5 := hk5.size
    have HD5 := hide hd5
    have HR5 := hide ((hk5.block w.heap.size (by omega) (by omega)).trans HR4.out)
    have HK5 := hide (HK4.out.trans hk5 (fun _ _ h => h))
    clear hd5 hk5
    have HQ := hide (near_may (a := r1 - 8) (b := r2 - 8) (c := r4) (by omega) (by omega) (by omega))
    go_wp2_with (refine wpList_store_row rfl 46 (.tmp 2) (.tmp 30) rfl w.heap.size #[I 1, I 0, I 0, I 0, I 0, I (r1 - 8), I (r2 - 8), I (1 + r4)] rfl rfl 46 _ HR5.out sizeQ rfl (one8 _ _ _ _ _ _ _ _) ?_)
    refine bodyPost_ret (results_cell_row rfl _ _ w.heap.size 46 #[I 1, I 0, I 0, I 0, I 0, I (r1 - 8), I (r2 - 8), I (1 + r4)] (0, 0) (.struct fs) rfl (setRow_heap _ _ _ _ _ _ HR5.out) HU.out rfl sizeQ) rfl ?_
    exact ⟨⟨1, 0, 0, 0, 0, r1 - 8, r2 - 8, 1 + r4⟩, j4, rfl, HQ.out, HD5.out.keeps (keeps_setRow _ _ _) (fun j hj e => by omega), HK5.out.low (below_setRow (Below.refl _ _) (Nat.le_refl _) _)⟩
end Go.Proofs.YtenaelkbgkpllaaGreatDoor
/- The law's own small functions: same, looks. -/
namespace Go.Proofs.YtenaelkbgkpllaaGreatDoor
open Go.RowKit

set_option maxRecDepth 100000 in
set_option maxHeartbeats 4000000 in
theorem same_law (va vb : Value) (A B : List Ward.Pt) (w : World) (ha : Reads w va A) (hb : Reads w vb B) (hl : A.length ≤ 1000) :
    Calls Tryz.prog 95 #[va, vb] w fun e w' => (∃ r : Bool, e = .returned (.bool r) ∧ (r = true ↔ A = B)) ∧ Below w.heap.size w w' := by
  obtain ⟨aa, ca, ea, -⟩ := id ha
  obtain ⟨ab, cb, eb, -⟩ := id hb
  subst ea eb
  have HA := hide ha.point.2
  have HB := hide hb.point.2
  clear ha hb
  go_enter Tryz.func95, Tryz.ntmps95
  by_cases hlen : A.length = B.length
  · have hlen' : (A.length : Int) = (B.length : Int) := by omega
    have HLN := hide hlen
    clear hlen
    go_wp2_with fail
    clear hlen'
    go_loopg [5] A.length (fun gk v5 wq => ∃ i : Nat, gk = A.length - i ∧ v5 = I i ∧ i ≤ A.length ∧ A.take i = B.take i ∧ Below w.heap.size w wq)
    case atStart => exact ⟨0, by omega, rfl, by omega, rfl, Below.refl _ _⟩
    case round =>
      obtain ⟨i, hgk, rfl, hi, ht, hbl⟩ := hrel
      have HGK := hide hgk
      have HT := hide ht
      have HBL := hide hbl
      clear hgk ht hbl
      by_cases hlt : i < A.length
      · have hlt2 : i < B.length := by rw [← HLN.out]; exact hlt
        obtain ⟨g, o, rfl, hp⟩ := HA.out i hlt
        obtain ⟨g2, o2, rfl, hq⟩ := HB.out i hlt2
        have hp0 := hp wr HBL.out
        have hq0 := hq wr HBL.out
        have HST := hide (take_step A B i hlt hlt2 HT.out)
        have HNE := hide (show A[i] ≠ B[i] → A ≠ B from fun h e => h (by subst e; rfl))
        have hE := eqPt A[i] B[i]
        have HEQ := hide (ptEq_iff A[i] B[i])
        generalize A[i] = p at *
        generalize B[i] = q at *
        obtain ⟨p1, p2, p3⟩ := hp0
        obtain ⟨q1, q2, q3⟩ := hq0
        generalize ptEq p q = b3 at *
        clear hp hq
        go_wp2_with fail
        go_quiet (fail)
        have HBQ := hide (show Below w.heap.size w (wr.drewN nq) from HBL.out.trans ⟨rfl, rfl, rfl, Nat.le_refl _, fun _ _ => rfl⟩)
        generalize World.drewN wr nq = w9 at *
        cases b3 with
        | true =>
          go_wp2_with fail
          go_roundg (A.length - (i + 1))
          case measure => have := HGK.out; omega
          case rel => exact ⟨i + 1, rfl, by go_num, hlt, HST.out (HEQ.out.1 (by trivial)), HBQ.out⟩
        | false =>
          go_wp2_with fail
          go_ret
          exact ⟨⟨false, rfl, ⟨fun h => (by cases h), fun h => absurd h (HNE.out (fun e => by have := HEQ.out.2 e; simp at this))⟩⟩, HBQ.out⟩
      · have ei : i = A.length := by omega
        subst ei
        go_wp2_with fail
        go_ret
        refine ⟨⟨true, rfl, ⟨fun _ => ?_, fun _ => rfl⟩⟩, HBL.out⟩
        have h := HT.out
        rw [List.take_length, HLN.out, List.take_length] at h
        exact h
  · have hlen' : ¬ (A.length : Int) = (B.length : Int) := by omega
    go_wp2_with fail
    go_ret
    exact ⟨⟨false, rfl, ⟨fun h => (by cases h), fun h => absurd (by rw [h]) hlen⟩⟩, Below.refl _ _⟩
theorem HoldIs.view {T : Nat → Prop} {w : World} {h : Nat} (hh : HoldIs T w h) : ∃ (a : Option Addr) (c : Nat) (m : Int) (sl : List Value), sl.length ≤ 9 ∧ ∀ w', Below w.heap.size w w' → w'.cell? ⟨h, 0, none⟩ = some (.slice a sl.length c) ∧ w'.cell? ⟨h, 1, none⟩ = some (I m) ∧ ∀ k, (hk : k < sl.length) → ∃ g, a = some ⟨g, 0, none⟩ ∧ w'.cell? ⟨g, k, none⟩ = some sl[k] ∧ Marked T w' m sl[k] := by
  obtain ⟨hT, vp, m, sl, h1, h2, h3, h4, h5⟩ := hh
  have hlt : h < w.heap.size := (Array.getElem?_eq_some_iff.1 h1).1
  have key : ∀ {a c}, vp = .slice a sl.length c → (∀ k, (hk : k < sl.length) → ∃ g, a = some ⟨g, 0, none⟩) → ∃ (a : Option Addr) (c : Nat) (m : Int) (sl : List Value), sl.length ≤ 9 ∧ ∀ w', Below w.heap.size w w' → w'.cell? ⟨h, 0, none⟩ = some (.slice a sl.length c) ∧ w'.cell? ⟨h, 1, none⟩ = some (I m) ∧ ∀ k, (hk : k < sl.length) → ∃ g, a = some ⟨g, 0, none⟩ ∧ w'.cell? ⟨g, k, none⟩ = some sl[k] ∧ Marked T w' m sl[k] := by
    intro a c e hk
    subst e
    refine ⟨a, c, m, sl, h4, fun w' hb => ?_⟩
    have hrow := (hb.block h hlt).trans h1
    refine ⟨by rw [cell_of_row _ _ _ _ _ _ hrow]; rfl, by rw [cell_of_row _ _ _ _ _ _ hrow]; rfl, fun k hkk => ?_⟩
    obtain ⟨g, rfl⟩ := hk k hkk
    have h2' := ownsRow_keepsS (S := fun _ => False) h2 (Keeps.of_below hb) (fun _ _ h => h)
    have hc := h2'.cells (g := g) rfl k sl[k] (List.getElem?_eq_getElem hkk)
    rw [Addr.add_lit, Nat.zero_add] at hc
    exact ⟨g, rfl, hc, (h5 _ (List.getElem_mem hkk)).keeps (S := fun _ => False) (Keeps.of_below hb) (fun k _ hT => ⟨fun h => h, hT⟩)⟩
  rcases h2.2 with ⟨rfl, h0⟩ | ⟨g, c, cur, rfl, _⟩
  · exact key (by rw [h0]) (fun k hk => by omega)
  · exact key rfl (fun k hk => ⟨g, rfl⟩)
theorem Marked.view {T : Nat → Prop} {w : World} {m : Int} {s : Value} (h : Marked T w m s) : ∃ a n c, s = .slice a n c ∧ n ≤ 100000 ∧ ∀ w', Below w.heap.size w w' → ∀ i, i < n → ∃ g o, a = some ⟨g, o, none⟩ ∧ w'.cell? ⟨g, o + i * 3, none⟩ = some (I m) ∧ w'.cell? ⟨g, o + i * 3 + 1, none⟩ = some (I 0) ∧ w'.cell? ⟨g, o + i * 3 + 2, none⟩ = some (I 0) := by
  obtain ⟨a, n, c, e, hn, hr⟩ := h
  refine ⟨a, n, c, e, hn, fun w' hb i hi => ?_⟩
  obtain ⟨g, o, ea, _, hp⟩ := hr i hi
  have hp' := hp.below hb hp.lt
  exact ⟨g, o, ea, hp'.1, hp'.2.1, hp'.2.2⟩
theorem eqMark (m : Int) : ∀ W, (Op.equalIn 10000 36 (.agg #[I m, I 0, I 0]) (.agg #[I m, I 0, I 0])).run Tryz.prog W = .ok true W := fun W => by
  have h := eqPt ⟨m, 0, 0⟩ ⟨m, 0, 0⟩ W
  rw [(ptEq_iff ⟨m, 0, 0⟩ ⟨m, 0, 0⟩).2 rfl] at h
  exact h
set_option maxRecDepth 100000 in
set_option maxHeartbeats 4000000 in
theorem looks_law (T : Nat → Prop) (W0 : Nat) (vp vh : Value) (ps : List Pr) (hs : List Nat) (w : World) (hL : LawAt w W0 vp vh ps hs) (hH : ∀ h ∈ hs, HoldIs T w h) (hn : hs.length ≤ 1000000000000000) :
    Calls Tryz.prog 29 #[.pointer (some ⟨W0, 0, none⟩)] w fun e w' => e = .returned (.bool true) ∧ Below w.heap.size w w' := by
  have HL := hide (show ∃ (a : Option Addr) (c : Nat), ∀ w', Below w.heap.size w w' → w'.cell? ⟨W0, 1, none⟩ = some (.slice a hs.length c) ∧ ∀ i, (h : i < hs.length) → ∃ g, a = some ⟨g, 0, none⟩ ∧ w'.cell? ⟨g, i, none⟩ = some (.pointer (some ⟨hs[i], 0, none⟩)) from by
    have key : ∀ {a c}, vh = .slice a hs.length c → (∀ i, (h : i < hs.length) → ∃ g, a = some ⟨g, 0, none⟩) → ∃ (a : Option Addr) (c : Nat), ∀ w', Below w.heap.size w w' → w'.cell? ⟨W0, 1, none⟩ = some (.slice a hs.length c) ∧ ∀ i, (h : i < hs.length) → ∃ g, a = some ⟨g, 0, none⟩ ∧ w'.cell? ⟨g, i, none⟩ = some (.pointer (some ⟨hs[i], 0, none⟩)) := by
      intro a c e hk
      subst e
      refine ⟨a, c, fun w' hb => ?_⟩
      have hL' := hL.keeps (S := fun _ => False) (Keeps.of_below hb) (fun _ _ h => h)
      refine ⟨by rw [cell_of_row _ _ _ _ _ _ hL'.row]; rfl, fun i hi => ?_⟩
      obtain ⟨g, rfl⟩ := hk i hi
      have hc := hL'.holds.cells (g := g) rfl i (hdV hs[i]) (by rw [List.getElem?_map, List.getElem?_eq_getElem hi]; rfl)
      rw [Addr.add_lit, Nat.zero_add] at hc
      exact ⟨g, rfl, hc⟩
    rcases hL.holds.2 with ⟨e, h0⟩ | ⟨g, c, cur, e, _⟩
    · exact key (by rw [e, h0]) (fun i hi => by omega)
    · exact key e (fun i hi => ⟨g, rfl⟩))
  have HH := hide (fun i (h : i < hs.length) => (hH _ (List.getElem_mem h)).view)
  clear hL hH
  obtain ⟨ah, ch, HL⟩ := HL.out
  have HL := hide HL
  go_enter Tryz.func29, Tryz.ntmps29
  go_wp2_with fail
  go_loopw [3] (fun v3 wq => ∃ i : Nat, i ≤ hs.length ∧ v3 = I i ∧ Below w.heap.size w wq)
    (fun v3 _ => hs.length - (intOf v3).toNat)
  case atStart => exact ⟨0, by omega, rfl, Below.refl _ _⟩
  case round =>
    obtain ⟨i, hi, rfl, hb⟩ := hrel
    have HB := hide hb
    obtain ⟨hc1, hat⟩ := HL.out wr hb
    by_cases hlt : i < hs.length
    · obtain ⟨gh, rfl, hcg⟩ := hat i hlt
      obtain ⟨a, c, m, sl, hsl, HV⟩ := HH.out i hlt
      have HV := hide HV
      generalize hs[i] = x at *
      clear hb hat
      go_wp2_with fail
      go_loopw [5] (fun v5 wq => ∃ k : Nat, k ≤ sl.length ∧ v5 = I k ∧ Below w.heap.size w wq)
        (fun v5 _ => sl.length - (intOf v5).toNat)
      case atStart => exact ⟨0, by omega, rfl, HB.out⟩
      case round =>
        clear hc1 hcg
        obtain ⟨k, hk, rfl, hb⟩ := hrel
        have HB2 := hide hb
        obtain ⟨hv0, hv1, hva⟩ := HV.out wr hb
        by_cases hlt2 : k < sl.length
        · obtain ⟨gs, rfl, hcs, hmk⟩ := hva k hlt2
          obtain ⟨a2, n2, c2, es, hn2, HMK⟩ := hmk.view
          have HMK := hide HMK
          rw [es] at hcs
          clear hb hva hmk es
          obtain ⟨w3, hw3⟩ : ∃ w3, w3 = wr := ⟨_, rfl⟩
          subst hw3
          have HC := hide (fun wq (hb : Below w3.heap.size w3 wq) => show wq.cell? ⟨x, 0, none⟩ = some (.slice (some ⟨gs, 0, none⟩) sl.length c) ∧ wq.cell? ⟨x, 1, none⟩ = some (I m) ∧ wq.cell? ⟨gs, k, none⟩ = some (.slice a2 n2 c2) from ⟨(hb.cell (p := ⟨x, 0, none⟩) (block_lt_of_cell hv0)).trans hv0, (hb.cell (p := ⟨x, 1, none⟩) (block_lt_of_cell hv1)).trans hv1, (hb.cell (p := ⟨gs, k, none⟩) (block_lt_of_cell hcs)).trans hcs⟩)
          have HE := hide (eqMark m)
          go_wp2_with fail
          go_loopw [6] (fun v6 wq => ∃ j : Nat, j ≤ n2 ∧ v6 = I j ∧ Below w3.heap.size w3 wq)
            (fun v6 _ => n2 - (intOf v6).toNat)
          case atStart => exact ⟨0, by omega, rfl, Below.refl _ _⟩
          case round =>
            clear hv0 hv1 hcs
            obtain ⟨j, hj, rfl, hb3⟩ := hrel
            have HB3 := hide hb3
            obtain ⟨hv0, hv1, hcs⟩ := HC.out wr hb3
            by_cases hlt3 : j < n2
            · obtain ⟨g, o, rfl, z0, z1, z2⟩ := HMK.out wr hb3 j hlt3
              have hE := HE.out
              clear hb3
              go_wp2_with fail
              go_quiet (fail)
              have HBQ := hide (show Below w3.heap.size w3 (wr.drewN nq) from HB3.out.trans ⟨rfl, rfl, rfl, Nat.le_refl _, fun _ _ => rfl⟩)
              generalize World.drewN wr nq = w9 at *
              go_wp2_with fail
              go_roundw
              case rel => exact ⟨j + 1, hlt3, by go_num, HBQ.out⟩
              case measure => simp [intOf]; omega
            · have ej : j = n2 := by omega
              subst ej
              clear hb3
              go_wp2_with fail
              go_roundw
              case rel => exact ⟨k + 1, hlt2, by go_num, HB2.out.trans (HB3.out.mono HB2.out.size)⟩
              case measure => simp [intOf]; omega
        · have ek : k = sl.length := by omega
          subst ek
          clear hb hva
          go_wp2_with fail
          go_roundw
          case rel => exact ⟨i + 1, hlt, by go_num, HB2.out⟩
          case measure => simp [intOf]; omega
    · have ei : i = hs.length := by omega
      subst ei
      clear hb hat
      go_wp2_with fail
      go_ret
      exact ⟨rfl, HB.out⟩
end Go.Proofs.YtenaelkbgkpllaaGreatDoor
/- A script's calls, as they lie. -/
namespace Go.Proofs.YtenaelkbgkpllaaGreatDoor
open Go.ChangeShapes Go.RowKit

/-- one call -/
structure Opn where
  kind : Int
  m : Int
  a : Int
  p : Ward.Pt
  q : Ward.Qr
  s : List UInt8
  root : List UInt8
  n : Int
def opV (o : Opn) : List Value := [I o.kind, I o.m, I o.a, I o.p.id, I o.p.x, I o.p.y, I o.q.kind, I o.q.a, I o.q.b, I o.q.c, I o.q.d, I o.q.x, I o.q.y, I o.q.k, Sv o.s] ++ rootV o.root o.n
def I64 (n : Int) : Prop := -9223372036854775808 ≤ n ∧ n ≤ 9223372036854775807
structure Opn.Fit (o : Opn) : Prop where
  kind : I64 o.kind
  m : I64 o.m
  a : I64 o.a
  s : o.s.length ≤ reachBytes
  root : o.root.length = 32
theorem opV_len {o : Opn} (h : o.root.length = 32) : (opV o).length = 48 := by
  unfold opV rootV
  simp [h]
/-- a script that is handed in -/
structure ArgO (W : World) (a0 : Option Addr) (os : List Opn) : Prop where
  small : os.length ≤ 900000000000
  fit : ∀ o ∈ os, o.Fit
  at_ : os ≠ [] → ∃ g o, a0 = some ⟨g, o, none⟩ ∧ ∀ i, (h : i < os.length) → W.rangeAt g (o + i * 48) (opV os[i])
theorem ArgO.below {W W' : World} {a0 : Option Addr} {os : List Opn} (h : ArgO W a0 os) (hb : Below W.heap.size W W') : ArgO W' a0 os := by
  refine ⟨h.small, h.fit, fun hne => ?_⟩
  obtain ⟨g, o, e, hr⟩ := h.at_ hne
  exact ⟨g, o, e, fun i hi j v hv => (hb.cell (p := ⟨g, o + i * 48 + j, none⟩) (block_lt_of_cell (hr i hi j v hv))).trans (hr i hi j v hv)⟩
theorem take_one {cs : List Value} {i : Nat} {v : Value} (h : (cs.drop i).take 1 = [v]) : cs[i]? = some v := by
  have h0 : ((cs.drop i).take 1)[0]? = some v := by rw [h]; rfl
  simpa using h0
theorem sub_at {cs : List Value} {o n i : Nat} (h : i < n) : ((cs.drop o).take n)[i]? = cs[o + i]? := by
  rw [List.getElem?_take_of_lt h, List.getElem?_drop]
theorem list_of {α : Type} {Q : Nat → α → Prop} : ∀ n, (∀ i, i < n → ∃ o, Q i o) → ∃ os : List α, os.length = n ∧ ∀ i, (h : i < os.length) → Q i os[i]
  | 0, _ => ⟨[], rfl, fun i h => by simp at h⟩
  | n + 1, h => by
    obtain ⟨os, hl, ho⟩ := list_of n (fun i hi => h i (by omega))
    obtain ⟨o, hq⟩ := h n (by omega)
    refine ⟨os ++ [o], by simp [hl], fun i hi => ?_⟩
    by_cases e : i < os.length
    · rw [List.getElem_append_left e]; exact ho i e
    · have ei : i = n := by simp at hi; omega
      subst ei
      rw [List.getElem_append_right (by omega)]
      simpa [hl] using hq
theorem weights_all {H : Type} {P : Program} {e : TypeId} {d : DataW H} {n : Nat} (hn : n ∈ d.weights P e) : ∀ {ds : List (DataW H)}, d ∈ ds → n ∈ DataW.weightsAll P e ds
  | d0 :: ds, h => by
    rw [DataW.weightsAll, List.mem_append]
    rcases List.mem_cons.1 h with rfl | h
    · exact .inl hn
    · exact .inr (weights_all hn h)
theorem Tryz.cellsOp : Tryz.prog.cellsOf 76 = 48 := by kernel_rfl
theorem Tryz.bytesOp : Tryz.prog.bytesOf 76 = 168 := by kernel_rfl
theorem Tryz.cellsOI : Tryz.prog.cellsOf 3 = 1 := by kernel_rfl
theorem Tryz.cellsOU : Tryz.prog.cellsOf 5 = 1 := by kernel_rfl
theorem Tryz.cellsOS : Tryz.prog.cellsOf 9 = 1 := by kernel_rfl
theorem Tryz.cellsOP : Tryz.prog.cellsOf 36 = 3 := by kernel_rfl
theorem Tryz.cellsOQ : Tryz.prog.cellsOf 46 = 8 := by kernel_rfl
theorem Tryz.cellsOC : Tryz.prog.cellsOf 41 = 33 := by kernel_rfl
theorem Tryz.cellsOA : Tryz.prog.cellsOf 39 = 32 := by kernel_rfl
def byteOf : Value → UInt8
  | .int _ n => UInt8.ofNat n.toNat
  | _ => 0
theorem byteOf_Y {n : Int} (h : (Lit.int .u8 n).wf = true) : Y (byteOf (.int .u8 n)) = .int .u8 n := by
  obtain ⟨h0, h1⟩ := bounds_u8 h
  show Value.int .u8 ((UInt8.ofNat n.toNat).toNat : Int) = _
  have e : (UInt8.ofNat n.toNat).toNat = n.toNat := by simp; omega
  rw [e]
  congr 1
  omega
section
variable {H : Type} {enc : TypeId × Value → H} {W : World}
theorem int_of {n : Nat} {cs : List Value} {i : Nat} {y : DataW H × List MemPlace} (h : DataW.trod enc Tryz.prog W 0 (fun _ => true) true n 3 ((cs.drop i).take (Tryz.prog.cellsOf 3)) = some y) : ∃ m : Int, cs[i]? = some (I m) ∧ I64 m := by
  obtain ⟨m, hc, _, hw⟩ := DataW.trod_int Tryz.underlying3 h
  rw [Tryz.cellsOI] at hc
  exact ⟨m, take_one hc, bounds_i64 hw⟩
theorem point_of {n : Nat} {cs : List Value} {i : Nat} {y : DataW H × List MemPlace} (h : DataW.trod enc Tryz.prog W 0 (fun _ => true) true n 36 ((cs.drop i).take (Tryz.prog.cellsOf 36)) = some y) : ∃ p : Ward.Pt, cs[i]? = some (I p.id) ∧ cs[i + 1]? = some (I p.x) ∧ cs[i + 2]? = some (I p.y) := by
  obtain ⟨xs, k, _, e, hl, hlen, hf⟩ := DataW.trod_struct Tryz.underlying36 h
  rw [Tryz.cellsOP] at hf
  match xs, hlen with
  | [y0, y1, y2], _ =>
    obtain ⟨m0, c0, _⟩ := int_of (i := 0) (y := y0) (by simpa using hf 0 _ rfl)
    obtain ⟨m1, c1, _⟩ := int_of (i := 1) (y := y1) (by simpa using hf 1 _ rfl)
    obtain ⟨m2, c2, _⟩ := int_of (i := 2) (y := y2) (by simpa using hf 2 _ rfl)
    rw [sub_at (by decide)] at c0 c1 c2
    exact ⟨⟨m0, m1, m2⟩, c0, c1, c2⟩
theorem query_of {n : Nat} {cs : List Value} {i : Nat} {y : DataW H × List MemPlace} (h : DataW.trod enc Tryz.prog W 0 (fun _ => true) true n 46 ((cs.drop i).take (Tryz.prog.cellsOf 46)) = some y) : ∃ q : Ward.Qr, cs[i]? = some (I q.kind) ∧ cs[i + 1]? = some (I q.a) ∧ cs[i + 2]? = some (I q.b) ∧ cs[i + 3]? = some (I q.c) ∧ cs[i + 4]? = some (I q.d) ∧ cs[i + 5]? = some (I q.x) ∧ cs[i + 6]? = some (I q.y) ∧ cs[i + 7]? = some (I q.k) := by
  obtain ⟨xs, k, _, e, hl, hlen, hf⟩ := DataW.trod_struct Tryz.underlying46 h
  rw [Tryz.cellsOQ] at hf
  match xs, hlen with
  | [y0, y1, y2, y3, y4, y5, y6, y7], _ =>
    obtain ⟨m0, c0, _⟩ := int_of (i := 0) (y := y0) (by simpa using hf 0 _ rfl)
    obtain ⟨m1, c1, _⟩ := int_of (i := 1) (y := y1) (by simpa using hf 1 _ rfl)
    obtain ⟨m2, c2, _⟩ := int_of (i := 2) (y := y2) (by simpa using hf 2 _ rfl)
    obtain ⟨m3, c3, _⟩ := int_of (i := 3) (y := y3) (by simpa using hf 3 _ rfl)
    obtain ⟨m4, c4, _⟩ := int_of (i := 4) (y := y4) (by simpa using hf 4 _ rfl)
    obtain ⟨m5, c5, _⟩ := int_of (i := 5) (y := y5) (by simpa using hf 5 _ rfl)
    obtain ⟨m6, c6, _⟩ := int_of (i := 6) (y := y6) (by simpa using hf 6 _ rfl)
    obtain ⟨m7, c7, _⟩ := int_of (i := 7) (y := y7) (by simpa using hf 7 _ rfl)
    rw [sub_at (by decide)] at c0 c1 c2 c3 c4 c5 c6 c7
    exact ⟨⟨m0, m1, m2, m3, m4, m5, m6, m7⟩, c0, c1, c2, c3, c4, c5, c6, c7⟩
theorem commit_of {n : Nat} {cs : List Value} {i : Nat} {y : DataW H × List MemPlace} (h : DataW.trod enc Tryz.prog W 0 (fun _ => true) true n 41 ((cs.drop i).take (Tryz.prog.cellsOf 41)) = some y) : ∃ (r : List UInt8) (c : Int), r.length = 32 ∧ (∀ j, (hj : j < r.length) → cs[i + j]? = some (Y r[j])) ∧ cs[i + 32]? = some (I c) := by
  obtain ⟨xs, k, _, e, hl, hlen, hf⟩ := DataW.trod_struct Tryz.underlying41 h
  rw [Tryz.cellsOC] at hf
  match xs, hlen with
  | [y0, y1], _ =>
    have h0 := hf 0 _ rfl
    obtain ⟨m1, c1, _⟩ := int_of (i := 32) (y := y1) (by simpa using hf 1 _ rfl)
    rw [sub_at (by decide)] at c1
    obtain ⟨ys, k2, _, _, _, hyl, hy⟩ := DataW.trod_array Tryz.underlying39 h0
    rw [Tryz.cellsOU] at hy
    have each : ∀ j, j < 32 → ∃ b : UInt8, cs[i + j]? = some (Y b) := fun j hj => by
      have h2 := hy j hj
      rw [List.getElem?_eq_getElem (by omega)] at h2
      obtain ⟨m, hc, _, hw⟩ := DataW.trod_int Tryz.underlying5 h2
      have c := take_one hc
      rw [Nat.mul_one] at c
      have e0 : (((cs.drop i).take 33).drop 0).take 32 = (cs.drop i).take 32 := by rw [List.drop_zero, List.take_take]; rfl
      have c' : ((((cs.drop i).take 33).drop 0).take (Tryz.prog.cellsOf 39))[j]? = some (.int .u8 m) := c
      rw [Tryz.cellsOA] at c'
      rw [e0, sub_at hj] at c'
      exact ⟨byteOf (.int .u8 m), by rw [byteOf_Y hw]; exact c'⟩
    obtain ⟨r, hr, hq⟩ := list_of 32 each
    exact ⟨r, m1, hr, fun j hj => hq j hj, c1⟩
/-- one call, opened -/
theorem op_of {n : Nat} {cs : List Value} {y : DataW H × List MemPlace} (h : DataW.trod enc Tryz.prog W 0 (fun _ => true) true n 76 cs = some y) (hsz : ∀ x ∈ y.1.weights Tryz.prog 76, x ≤ reachBytes) : ∃ o : Opn, cs = opV o ∧ o.Fit := by
  obtain ⟨xs, k, _, e, hl, hlen, hf⟩ := DataW.trod_struct Tryz.underlying76 h
  rw [Tryz.cellsOp] at hl
  match xs, hlen with
  | [y0, y1, y2, y3, y4, y5, y6], _ =>
    obtain ⟨m0, c0, b0⟩ := int_of (i := 0) (y := y0) (by simpa using hf 0 _ rfl)
    obtain ⟨m1, c1, b1⟩ := int_of (i := 1) (y := y1) (by simpa using hf 1 _ rfl)
    obtain ⟨m2, c2, b2⟩ := int_of (i := 2) (y := y2) (by simpa using hf 2 _ rfl)
    obtain ⟨p, p0, p1, p2⟩ := point_of (i := 3) (y := y3) (by simpa using hf 3 _ rfl)
    obtain ⟨q, q0, q1, q2, q3, q4, q5, q6, q7⟩ := query_of (i := 6) (y := y4) (by simpa using hf 4 _ rfl)
    obtain ⟨s, hs, es, _⟩ := DataW.trod_string Tryz.underlying9 (show _ = some y5 from hf 5 _ rfl)
    have hs' : (cs.drop 14).take (Tryz.prog.cellsOf 9) = [.string s] := hs
    rw [Tryz.cellsOS] at hs'
    have c14 : cs[14]? = some (.string s) := take_one hs'
    obtain ⟨r, c, hr, r0, r1⟩ := commit_of (i := 15) (y := y6) (by simpa using hf 6 _ rfl)
    have hS : s.data.toList.length ≤ reachBytes := by
      refine hsz _ ?_
      rw [e]
      show _ ∈ DataW.weights Tryz.prog 76 (.agg [y0.1, y1.1, y2.1, y3.1, y4.1, y5.1, y6.1])
      unfold DataW.weights
      rw [Tryz.underlying76]
      refine DataW.weights_mem_each (j := 5) rfl rfl _ ?_
      rw [es]
      simp [DataW.weights]
    refine ⟨⟨m0, m1, m2, p, q, s.data.toList, r, c⟩, ?_, ⟨b0, b1, b2, hS, hr⟩⟩
    have hSv : Sv s.data.toList = .string s := by unfold Sv; cases s; simp
    refine List.ext_getElem? fun i => ?_
    by_cases hi : i < 15
    · have key : ∀ v : Value, cs[i]? = some v → (opV ⟨m0, m1, m2, p, q, s.data.toList, r, c⟩)[i]? = some v → cs[i]? = (opV ⟨m0, m1, m2, p, q, s.data.toList, r, c⟩)[i]? := fun v h1 h2 => h1.trans h2.symm
      rcases (show i = 0 ∨ i = 1 ∨ i = 2 ∨ i = 3 ∨ i = 4 ∨ i = 5 ∨ i = 6 ∨ i = 7 ∨ i = 8 ∨ i = 9 ∨ i = 10 ∨ i = 11 ∨ i = 12 ∨ i = 13 ∨ i = 14 by omega) with rfl | rfl | rfl | rfl | rfl | rfl | rfl | rfl | rfl | rfl | rfl | rfl | rfl | rfl | rfl
      · exact key _ c0 rfl
      · exact key _ c1 rfl
      · exact key _ c2 rfl
      · exact key _ p0 rfl
      · exact key _ p1 rfl
      · exact key _ p2 rfl
      · exact key _ q0 rfl
      · exact key _ q1 rfl
      · exact key _ q2 rfl
      · exact key _ q3 rfl
      · exact key _ q4 rfl
      · exact key _ q5 rfl
      · exact key _ q6 rfl
      · exact key _ q7 rfl
      · exact key _ c14 (by rw [← hSv]; rfl)
    · unfold opV
      rw [List.getElem?_append_right (by show 15 ≤ i; omega)]
      show cs[i]? = (rootV r c)[i - 15]?
      unfold rootV
      by_cases h2 : i < 47
      · rw [List.getElem?_append_left (by rw [List.length_map]; omega), List.getElem?_map, List.getElem?_eq_getElem (l := r) (by omega)]
        have := r0 (i - 15) (by omega)
        rw [show 15 + (i - 15) = i by omega] at this
        exact this
      · rw [List.getElem?_append_right (by rw [List.length_map]; omega), List.length_map, hr]
        by_cases h3 : i = 47
        · subst h3; exact r1
        · rw [List.getElem?_eq_none (by omega), List.getElem?_eq_none (by simp; omega)]
/-- a script, opened once, nil or not -/
theorem view_ops {fuel : Nat} {a0 : Option Addr} {len cap : Nat} {d : DataW H} {p : List MemPlace}
    (hf : DataW.trod enc Tryz.prog W 0 (fun _ => true) true fuel 22 (Value.slice a0 len cap).cells.toList = some (d, p)) (hsz : ∀ x ∈ d.weights Tryz.prog 22, x ≤ reachBytes) :
    ∃ os : List Opn, os.length = len ∧ ArgO W a0 os := by
  rcases Deep.open_slice Tryz.underlying22 hf with ⟨hcs, hx⟩ | ⟨a, len', cap', m, n, D, Pl, hcs, _, hl, hm, hmm, hx, hat⟩
  · simp [Value.cells] at hcs
    obtain ⟨rfl, rfl, rfl⟩ := hcs
    exact ⟨[], rfl, ⟨by simp, fun o ho => by simp at ho, fun h => absurd rfl h⟩⟩
  · simp [Value.cells] at hcs
    obtain ⟨rfl, rfl, rfl⟩ := hcs
    simp only [if_true] at hmm
    subst hmm
    simp only [Prod.mk.injEq] at hx
    obtain ⟨hd, -⟩ := hx
    subst hd
    rw [Tryz.cellsOp] at hat
    have hW : ∀ i, i < len → ∀ x ∈ (D i).weights Tryz.prog 76, x ≤ reachBytes := fun i hi x hx => by
      refine hsz x ?_
      unfold DataW.weights
      rw [Tryz.underlying22]
      refine List.mem_cons_of_mem _ (List.mem_append.2 (.inl (weights_all hx (List.mem_map.2 ⟨i, List.mem_range.2 hi, rfl⟩))))
    have hlen : (len + (m - len)) * 168 ≤ reachBytes := by
      have := hsz ((len + (m - len)) * 168) (by
        unfold DataW.weights
        rw [Tryz.underlying22]
        simp [Tryz.bytesOp])
      exact this
    have hr : reachBytes < 2 ^ 47 := reachBytes_lt
    obtain ⟨os, ho, hq⟩ := list_of (Q := fun i (o : Opn) => W.cells? 0 (a.add (i * 48)) 48 = some (opV o) ∧ o.Fit) len (fun i hi => by
      obtain ⟨cs', h1, h2⟩ := hat i (by omega)
      obtain ⟨o, rfl, hF⟩ := op_of h2 (hW i hi)
      exact ⟨o, h1, hF⟩)
    refine ⟨os, ho, ⟨by omega, fun o hm => ?_, fun hne => ?_⟩⟩
    · obtain ⟨i, hi, rfl⟩ := List.getElem_of_mem hm
      exact (hq i hi).2
    · have h0 : 0 < os.length := List.length_pos_iff.2 hne
      obtain ⟨b, off, spot⟩ := a
      have hspot : spot = none := by
        have h1 := (World.cells?_some (hq 0 h0).1).2.2 0 (by decide)
        have h2 : W.cell? (((⟨b, off, spot⟩ : Addr).add (0 * 48)).add 0) = some (I os[0].kind) := h1
        simpa [Addr.add] using World.cell?_spot h2
      subst hspot
      refine ⟨b, off, rfl, fun i hi j v hv => ?_⟩
      have hj : j < 48 := by
        have := (List.getElem?_eq_some_iff.1 hv).1
        rw [opV_len (hq i hi).2.root] at this
        exact this
      have h1 := (World.cells?_some (hq i hi).1).2.2 j hj
      rw [Addr.add_lit, Addr.add_lit, hv] at h1
      exact h1
end
end Go.Proofs.YtenaelkbgkpllaaGreatDoor
/- How the law's world stands ahead of a step; what a step leaves. -/
namespace Go.Proofs.YtenaelkbgkpllaaGreatDoor
open Go.RowKit

/-- a map more -/
theorem Inv.begun {w0 w w' : World} {ow : Nat → Nat} {W0 n : Nat} {vp vh vp' : Value} {ps : List Pr} {hs : List Nat} {p : Pr} (h : Inv w0 ow w W0 vp vh ps hs) (hE : ∀ p ∈ ps, p.L = p.K) (hn : ps.length ≤ n) (hh : hs.length ≤ n) (hB : Begun w w' W0 vp vh ps hs vp' p) : InvE w0 w' W0 (n + 1) := by
  have h1 : ∀ k, Mine p.m p.v k → k = p.m := fun k hk => by
    rcases hk with hk | hk
    · exact hk
    · rw [hB.mv] at hk; cases hk
  have h2 : ∀ k, Mine p.r p.u k → k = p.r := fun k hk => by
    rcases hk with hk | hk
    · exact hk
    · rw [hB.rv] at hk; cases hk
  obtain ⟨ow', hI⟩ := h.push hB.keep (fun _ _ e => e) p hB.law hB.fresh (by rw [hB.em]; exact hB.map) (by rw [hB.er]; exact hB.ref) (by rw [hB.em]; exact good_nil) (fun k hk => by rw [h1 k hk]; exact hB.m1) (fun k hk => by rw [h2 k hk]; exact hB.r1)
    (fun k hk hk2 => hB.ne ((h1 k hk).symm.trans (h2 k hk2))) (fun k hk => ⟨fun e => hB.am (by rw [← h1 k e]; exact hk), fun e => hB.ar (by rw [← h2 k e]; exact hk)⟩)
  refine ⟨ow', _, _, _, _, hI, by simp, fun q hq => ?_, by simp; omega, by omega⟩
  rcases List.mem_append.1 hq with hq | hq
  · exact hE q hq
  · rw [List.mem_singleton.1 hq, hB.em, hB.er]
/-- a list that came out is kept: w, ahead of the call that made it; w1, ahead of keep -/
theorem Inv.kept {w0 w w1 w' : World} {ow : Nat → Nat} {W0 n x : Nat} {v vp vh vh' : Value} {L : List Ward.Pt} {ps : List Pr} {hs : List Nat} (h : Inv w0 ow w W0 vp vh ps hs) (hne : ps ≠ []) (hE : ∀ p ∈ ps, p.L = p.K) (hn : ps.length ≤ n) (hh : hs.length ≤ n) (hb : Below w.heap.size w w1) (hv : Own w1 w.heap.size v L) (hl : Laid w1 w' W0 v vp vh ps hs vh' x) : InvE w0 w' W0 (n + 1) := by
  have hs0 := h.base.size
  obtain ⟨ow', hI⟩ := (h.clean hb).holdPush hl.keep (fun k => v.ownBlock = some k) (fun k hk e => by
    have := hv.ge e
    exact ⟨if_neg (by omega), by omega⟩) (fun k _ e => e) x hl.law hl.fresh hl.hold
  exact ⟨ow', _, _, _, _, hI, hne, hE, by omega, by simp; omega⟩
theorem Inv.lists {w0 w w1 : World} {ow : Nat → Nat} {W0 : Nat} {v vp vh : Value} {L : List Ward.Pt} {ps : List Pr} {hs : List Nat} (h : Inv w0 ow w W0 vp vh ps hs) (hv : Own w1 w.heap.size v L) : ∀ g, v.ownBlock = some g → ¬ Lawn W0 vp vh g := fun g hg hk => by
  have h1 := hv.ge hg
  have h2 := h.law.lawn_lt hk
  omega
/-- the two that are boxed -/
theorem boxed (w : World) (X Z : Array Value) (a b : TypeId) : Below w.heap.size w ((w.alloc (.cells X a)).alloc (.cells Z b)) ∧ ((w.alloc (.cells X a)).alloc (.cells Z b)).heap[w.heap.size]? = some (.cells X a (0, 0)) ∧ ((w.alloc (.cells X a)).alloc (.cells Z b)).heap[w.heap.size + 1]? = some (.cells Z b (0, 0)) := by
  have h1 := (Below.refl w.heap.size w).alloc (Nat.le_refl _) (.cells X a)
  have e1 : (w.alloc (.cells X a)).heap.size = w.heap.size + 1 := by simp
  refine ⟨h1.alloc (by omega) _, ?_, ?_⟩
  · rw [Below.heap_alloc _ _ _ (by omega)]; exact heap_alloc_new w _
  · have := heap_alloc_new (w.alloc (.cells X a)) (.cells Z b)
    rw [e1] at this
    exact this
/-- how it stands ahead of a step -/
structure Stands (w0 w : World) (ow : Nat → Nat) (W0 n : Nat) (vp vh : Value) (ps : List Pr) (hs : List Nat) (i : Nat) : Prop where
  inv : Inv w0 ow w W0 vp vh ps hs
  lt : i < ps.length
  eq : ∀ p ∈ ps, p.L = p.K
  pn : ps.length ≤ n
  hn : hs.length ≤ n
  small : n ≤ 1000000000000
theorem Stands.ne {w0 w : World} {ow : Nat → Nat} {W0 n : Nat} {vp vh : Value} {ps : List Pr} {hs : List Nat} {i : Nat} (h : Stands w0 w ow W0 n vp vh ps hs i) : ps ≠ [] := fun e => by have := h.lt; rw [e] at this; simp at this
theorem Stands.below {w0 w w' : World} {ow : Nat → Nat} {W0 n : Nat} {vp vh : Value} {ps : List Pr} {hs : List Nat} {i : Nat} (h : Stands w0 w ow W0 n vp vh ps hs i) (hb : Below w.heap.size w w') : Stands w0 w' ow W0 n vp vh ps hs i := ⟨h.inv.below hb, h.lt, h.eq, h.pn, h.hn, h.small⟩
theorem Stands.invE {w0 w : World} {ow : Nat → Nat} {W0 n : Nat} {vp vh : Value} {ps : List Pr} {hs : List Nat} {i : Nat} (h : Stands w0 w ow W0 n vp vh ps hs i) : InvE w0 w W0 (n + 1) := ⟨ow, vp, vh, ps, hs, h.inv, h.ne, h.eq, Nat.le_succ_of_le h.pn, Nat.le_succ_of_le h.hn⟩
/-- the pair that is asked -/
theorem Stands.pair {w0 w : World} {ow : Nat → Nat} {W0 n : Nat} {vp vh : Value} {ps : List Pr} {hs : List Nat} {i m r : Nat} {v u : Value} {L : List Ward.Pt} (h : Stands w0 w ow W0 n vp vh ps hs i) (hm : ps[i]? = some ⟨m, v, r, u, L, L⟩) : IsMap w m v L ∧ RMap w r u L ∧ Good L := by
  have e : ps[i]'h.lt = ⟨m, v, r, u, L, L⟩ := (List.getElem?_eq_some_iff.1 hm).2
  have hp := h.inv.pair i h.lt
  rw [e] at hp
  exact ⟨hp.map, hp.ref, hp.good⟩
theorem Stands.half {w0 w w1 : World} {ow : Nat → Nat} {W0 n : Nat} {vp vh : Value} {ps : List Pr} {hs : List Nat} {i m r : Nat} {v u : Value} {L : List Ward.Pt} (h : Stands w0 w ow W0 n vp vh ps hs i) (hm : ps[i]? = some ⟨m, v, r, u, L, L⟩) (hk : Keeps (Mine m v) w w1) : RMap w1 r u L := by
  have e : ps[i]'h.lt = ⟨m, v, r, u, L, L⟩ := (List.getElem?_eq_some_iff.1 hm).2
  have := h.inv.half i h.lt (w1 := w1) (by rw [e]; exact hk)
  rw [e] at this
  exact this
theorem Stands.two {w0 w w1 w2 : World} {ow : Nat → Nat} {W0 n : Nat} {vp vh : Value} {ps : List Pr} {hs : List Nat} {i m r : Nat} {v u : Value} {L L' : List Ward.Pt} (h : Stands w0 w ow W0 n vp vh ps hs i) (hm : ps[i]? = some ⟨m, v, r, u, L, L⟩) (hG : Good L')
    (h1 : ∃ v', IsMap w1 m v' L' ∧ Fresh w v v' ∧ Keeps (Mine m v) w w1) (h2 : ∃ u', RMap w2 r u' L' ∧ FreshR w1 u u' ∧ Keeps (Mine r u) w1 w2) : InvE w0 w2 W0 (n + 1) := by
  have e : ps[i]'h.lt = ⟨m, v, r, u, L, L⟩ := (List.getElem?_eq_some_iff.1 hm).2
  exact (h.inv.two h.eq h.pn h.hn i h.lt hG (by rw [e]; exact h1) (by rw [e]; exact h2)).mono (Nat.le_succ n)
theorem good_erase {L : List Ward.Pt} (h : Good L) (i : Nat) : Good (L.eraseIdx i) := by
  have hs := List.eraseIdx_sublist L i
  refine ⟨h.sorted.sublist hs, h.ids.sublist hs, fun p hp => h.ok p (hs.subset hp), Nat.le_trans hs.length_le h.many⟩
end Go.Proofs.YtenaelkbgkpllaaGreatDoor
/- The law's asks at Points. -/
namespace Go.Proofs.YtenaelkbgkpllaaGreatDoor
open Go.RowKit

set_option maxRecDepth 100000 in
set_option maxHeartbeats 4000000 in
theorem asks_points {w0 w : World} {ow : Nat → Nat} {W0 n : Nat} {vp vh : Value} {ps : List Pr} {hs : List Nat} {i : Nat} (h : Stands w0 w ow W0 n vp vh ps hs i) (m r : Nat) (v u : Value) (L : List Ward.Pt) (hm : ps[i]? = some ⟨m, v, r, u, L, L⟩) (o : Opn) (hk : o.kind = 4) :
    Calls Tryz.prog 58 #[.pointer (some ⟨W0, 0, none⟩), .agg #[.pointer (some ⟨m, 0, none⟩), .pointer (some ⟨r, 0, none⟩)], .agg (opV o).toArray] w fun e w' => e = .returned (.bool true) ∧ InvE w0 w' W0 (n + 1) := by
  have HH := hide h
  have HOV := hide (show (opV o).toArray[0]? = some (I 4) by rw [← hk]; rfl)
  have HPA := hide (fun w' (hb : Below w.heap.size w w') => (h.below hb).pair hm)
  generalize (opV o).toArray = OV at *
  have HBX := hide (boxed w #[.pointer (some ⟨m, 0, none⟩), .pointer (some ⟨r, 0, none⟩)] OV 113 76)
  clear h hm hk
  go_enter Tryz.func58, Tryz.ntmps58
  go_upto_region 1 with fail
  have hbx := HBX.out
  clear HBX
  generalize (w.alloc (.cells #[.pointer (some ⟨m, 0, none⟩), .pointer (some ⟨r, 0, none⟩)] 113)).alloc (.cells OV 76) = w1 at hbx ⊢
  obtain ⟨hb1, hx, ho⟩ := hbx
  have k0 : w1.cell? ⟨w.heap.size + 1, 0, none⟩ = some (I 4) := by rw [cell_of_row _ _ _ _ _ _ ho]; exact HOV.out
  have x0 : w1.cell? ⟨w.heap.size, 0, none⟩ = some (.pointer (some ⟨m, 0, none⟩)) := by rw [cell_of_row _ _ _ _ _ _ hx]; rfl
  have hs1 : w.heap.size + 1 < w1.heap.size := (Array.getElem?_eq_some_iff.1 ho).1
  have HB1 := hide hb1
  have HX := hide hx
  have hml := (HPA.out w1 hb1).2.2.many
  have HPT := hide (points_any m v L w1 (HPA.out w1 hb1).1 hml)
  clear hb1 hx ho HOV
  go_wp2_with fail
  refine HPT.out.mono ?_
  rintro _ w2 ⟨va, rfl, hown, hb2⟩
  have hb12 : Below w.heap.size w w2 := HB1.out.trans (hb2.mono HB1.out.size)
  obtain ⟨hM2, hR2, hG⟩ := HPA.out w2 hb12
  have x1 : w2.cell? ⟨w.heap.size, 1, none⟩ = some (.pointer (some ⟨r, 0, none⟩)) := by
    rw [cell_of_row _ _ _ _ _ _ ((hb2.block w.heap.size (by omega)).trans HX.out)]; rfl
  have xr := hR2.cell
  have HSM := hide (same_law va u L L w2 hown.reads hR2.own.reads (by omega))
  obtain ⟨aa, ca, ea⟩ := hown.slice
  obtain ⟨au, cu, eu⟩ := hR2.own.slice
  subst ea eu
  have hs2 := hb2.size
  have HB2 := hide hb2
  have HOW := hide hown
  clear hb2 hb12 hown hM2 hR2 hG HPT x0 k0 HX
  go_wp2_with fail
  refine HSM.out.mono ?_
  rintro _ w3 ⟨⟨b, rfl, hb⟩, hb3⟩
  have hbt : b = true := by simpa using hb
  subst hbt
  have hb13 : Below w1.heap.size w1 w3 := HB2.out.trans (hb3.mono hs2)
  have hOW3 : Own w3 w1.heap.size (.slice aa L.length ca) L := HOW.out.below hb3
  have hA1 := HH.out.below HB1.out
  have HKL := hide (keep_law W0 vp vh ps hs w3 w1.heap.size (.slice aa L.length ca) L (hA1.inv.below hb13).law hOW3 (by omega) (Nat.le_trans hA1.hn hA1.small) (hA1.inv.lists hOW3))
  have HF := hide (fun w' (vh' : Value) (x : Nat) (hl : Laid w3 w' W0 (.slice aa L.length ca) vp vh ps hs vh' x) => hA1.inv.kept hA1.ne hA1.eq hA1.pn hA1.hn hb13 hOW3 hl)
  clear hb hb3 hb13 hOW3 hA1 HSM HOW HB2 x1 xr
  go_wp2_with fail
  refine HKL.out.mono ?_
  rintro _ w4 ⟨rfl, vh', x, hl⟩
  have HE := hide (HF.out w4 vh' x hl)
  clear hl HF HKL
  go_wp2_with fail
  go_ret
  exact ⟨rfl, HE.out⟩
end Go.Proofs.YtenaelkbgkpllaaGreatDoor
/- The law's asks at Commitment. -/
namespace Go.Proofs.YtenaelkbgkpllaaGreatDoor
open Go.RowKit

set_option maxRecDepth 100000 in
set_option maxHeartbeats 4000000 in
theorem asks_commit {w0 w : World} {ow : Nat → Nat} {W0 n : Nat} {vp vh : Value} {ps : List Pr} {hs : List Nat} {i : Nat} (h : Stands w0 w ow W0 n vp vh ps hs i) (hKT : KT w0) (m r : Nat) (v u : Value) (L : List Ward.Pt) (hm : ps[i]? = some ⟨m, v, r, u, L, L⟩) (o : Opn) (hk : o.kind = 5) :
    Calls Tryz.prog 58 #[.pointer (some ⟨W0, 0, none⟩), .agg #[.pointer (some ⟨m, 0, none⟩), .pointer (some ⟨r, 0, none⟩)], .agg (opV o).toArray] w fun e w' => e = .returned (.bool true) ∧ InvE w0 w' W0 (n + 1) := by
  have HH := hide h
  have HOV := hide (show (opV o).toArray[0]? = some (I 5) by rw [← hk]; rfl)
  have HPA := hide (fun w' (hb : Below w.heap.size w w') => (h.below hb).pair hm)
  have HKT := hide (show KT w from hKT.le h.inv.base hKT.lt)
  generalize (opV o).toArray = OV at *
  have HBX := hide (boxed w #[.pointer (some ⟨m, 0, none⟩), .pointer (some ⟨r, 0, none⟩)] OV 113 76)
  clear h hm hk hKT
  have HEQ := hide (fun W => (eqCom L L W).trans (by simp : _ = Result.ok true W))
  have HCM := hide (com_of L)
  go_enter Tryz.func58, Tryz.ntmps58
  go_upto_region 1 with fail
  have hbx := HBX.out
  clear HBX
  generalize (w.alloc (.cells #[.pointer (some ⟨m, 0, none⟩), .pointer (some ⟨r, 0, none⟩)] 113)).alloc (.cells OV 76) = w1 at hbx ⊢
  obtain ⟨hb1, hx, ho⟩ := hbx
  have k0 : w1.cell? ⟨w.heap.size + 1, 0, none⟩ = some (I 5) := by rw [cell_of_row _ _ _ _ _ _ ho]; exact HOV.out
  have x0 : w1.cell? ⟨w.heap.size, 0, none⟩ = some (.pointer (some ⟨m, 0, none⟩)) := by rw [cell_of_row _ _ _ _ _ _ hx]; rfl
  have hs1 : w.heap.size + 1 < w1.heap.size := (Array.getElem?_eq_some_iff.1 ho).1
  have HB1 := hide hb1
  have HX := hide hx
  have HCP := hide (commitment_any m v L w1 (HPA.out w1 hb1).1 (HPA.out w1 hb1).2.2 (HKT.out.below hb1))
  have HCR := hide (fun W (hb : Below w.heap.size w W) => commitment_ref r u L W (HPA.out W hb).2.1 (HPA.out W hb).2.2)
  generalize commitV L = C at *
  clear hb1 hx ho HOV
  go_wp2_with fail
  refine HCP.out.mono ?_
  rintro _ w2 ⟨rfl, hb2⟩
  have hb12 : Below w.heap.size w w2 := HB1.out.trans (hb2.mono HB1.out.size)
  have hs2 := hb2.size
  have hb3' := fun o => (Below.refl w2.heap.size w2).alloc (Nat.le_refl _) o
  have hr3' := heap_alloc_new w2
  have HX2 := hide ((hb2.block w.heap.size (by omega)).trans HX.out)
  clear hb2 x0 k0 HX
  go_upto_region 9 with (refine wpList_store_row rfl 41 (.tmp 9) (.tmp 44) rfl w2.heap.size C.toArray rfl rfl 41 _ (heap_alloc_new w2 _) HCM.out.info (by rw [HCM.out.size]; rfl) HCM.out.one ?_; rw [World.setRow_alloc_new])
  generalize hW : World.alloc w2 _ = w3
  have hb3 : Below w2.heap.size w2 w3 := by rw [← hW]; exact hb3' _
  have hr3 : w3.heap[w2.heap.size]? = some (.cells C.toArray 41 (0, 0)) := by rw [← hW]; exact hr3' _
  clear hb3' hr3' hW
  have hs3 : w2.heap.size < w3.heap.size := (Array.getElem?_eq_some_iff.1 hr3).1
  have hb13 : Below w.heap.size w w3 := hb12.trans (hb3.mono hb12.size)
  have x1 : w3.cell? ⟨w.heap.size, 1, none⟩ = some (.pointer (some ⟨r, 0, none⟩)) := by
    rw [cell_of_row _ _ _ _ _ _ ((hb3.block w.heap.size (by omega)).trans HX2.out)]; rfl
  have HC3 := hide (HCR.out w3 hb13)
  have HB13 := hide hb13
  have HR3 := hide hr3
  clear hb3 hr3 hb13 hb12 HX2 HCR HCP
  go_wp2_with fail
  refine HC3.out.mono ?_
  rintro _ w4 ⟨rfl, hb4⟩
  have hs4 := hb4.size
  have HR4 := hide ((hb4.block w2.heap.size hs3).trans HR3.out)
  have hb14 : Below w.heap.size w w4 := HB13.out.trans (hb4.mono HB13.out.size)
  have HB14 := hide hb14
  have hb5' := fun o => (Below.refl w4.heap.size w4).alloc (Nat.le_refl _) o
  have hr5' := heap_alloc_new w4
  clear hb4 hb14 x1 HC3 HR3
  go_upto_region 10 with (refine wpList_store_row rfl 41 (.tmp 10) (.tmp 47) rfl w4.heap.size C.toArray rfl rfl 41 _ (heap_alloc_new w4 _) HCM.out.info (by rw [HCM.out.size]; rfl) HCM.out.one ?_; rw [World.setRow_alloc_new])
  generalize hW : World.alloc w4 _ = w5
  have hb5 : Below w4.heap.size w4 w5 := by rw [← hW]; exact hb5' _
  have hr5 : w5.heap[w4.heap.size]? = some (.cells C.toArray 41 (0, 0)) := by rw [← hW]; exact hr5' _
  clear hb5' hr5' hW
  have HR5 := hide hr5
  have HR4' := hide ((hb5.block w2.heap.size (by omega)).trans HR4.out)
  have HE := hide ((HH.out.below (HB14.out.trans (hb5.mono HB14.out.size))).invE)
  have hE := HEQ.out
  clear hb5 hr5
  go_wp2_with (first | (refine wpList_load_row rfl 41 (.tmp 9) rfl w2.heap.size rfl 41 C.toArray (0, 0) _ HR4'.out Tryz.underlying41 rfl HCM.out.info ?_) | (refine wpList_load_row rfl 41 (.tmp 10) rfl w4.heap.size rfl 41 C.toArray (0, 0) _ HR5.out Tryz.underlying41 rfl HCM.out.info ?_))
  go_ret
  exact ⟨rfl, HE.out⟩
end Go.Proofs.YtenaelkbgkpllaaGreatDoor
