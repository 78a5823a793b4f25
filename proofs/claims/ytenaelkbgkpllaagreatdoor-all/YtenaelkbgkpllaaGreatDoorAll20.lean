/- The answer to a window. -/
import Derived.Test.YtenaelkbgkpllaaGreatDoorAll19
import Derived.Test.YtenaelkbgkpllaaGreatDoorAll13
import Derived.Test.YtenaelkbgkpllaaGreatDoorAll18
import Derived.Test.YtenaelkbgkpllaaGreatDoorAll7
import Derived.Test.YtenaelkbgkpllaaGreatDoorAll15
import Derived.Test.YtenaelkbgkpllaaGreatDoorAll6
import Derived.Deep.DeepCutAuto
import Derived.Deep.LoopGhost
import Derived.Test.YtenaelkbgkpllaaGreatDoorAll12
namespace Go.Proofs.YtenaelkbgkpllaaGreatDoor
open Go.RowKit

attribute [local go_sem ↓] Go.wp_at_zero Go.wp_at_succ wp_load_node
set_option maxRecDepth 100000 in
set_option maxHeartbeats 4000000 in
theorem answer_window (q : Ward.Qr) (n : Nat) (t : Ward.NT n) (V : List Value) (w : World) (hk : q.kind = 0) (hlen : (Ward.allN n t).length ≤ 1000) (hfew : Ward.Few n t) (hN : NodeIs w (fun g => g < w.heap.size) n t V) (hids : Ward.Ids (Ward.withinN (Ward.window q) n t)) :
    Calls Tryz.prog 40 #[.agg V.toArray, Qv q] w fun e w' => ∃ v, e = .returned v ∧ Own w' w.heap.size v (Ward.sortP (Ward.withinN (Ward.window q) n t)) ∧ Below w.heap.size w w' := by
  have HWI := hide (fun W => windowOf_any q W)
  have HWL := hide (Ward.within_le (Ward.window q) n t)
  generalize Ward.window q = wq at *
  obtain ⟨fs, hu⟩ := underNode
  have HU := hide hu
  obtain ⟨a1, l1, c1, a2, l2, c2, hV, hd⟩ := hN.cells
  have HR := hide (show Row39 V by rw [hV]; exact nodeV_row hd)
  have HN := hide hN
  have HF := hide hfew
  have HI := hide hids
  clear hu hV hd hN hfew hids
  obtain ⟨qk, qa, qb, qc, qd, qx, qy, qn⟩ := q
  simp only at hk
  subst hk
  have hb2 := fun o o' => ((Below.refl w.heap.size w).alloc (Nat.le_refl _) o).alloc (by simp) o'
  have hr2 := heap_alloc2_new w
  have hr1 := heap_alloc2_old w
  have hs2 := fun o o' => show ((w.alloc o).alloc o').heap.size = w.heap.size + 2 by simp
  go_enter Tryz.func40, Tryz.ntmps40
  go_upto_region 3 with fail
  generalize hW : World.alloc (World.alloc w _) _ = w1
  have hb1 : Below w.heap.size w w1 := by rw [← hW]; exact hb2 _ _
  have hn1 : w1.heap[w.heap.size]? = some (.cells V.toArray 90 (0, 0)) := by rw [← hW]; exact hr1 _ _
  have hq1 : w1.heap[w.heap.size + 1]? = some (.cells #[I 0, I qa, I qb, I qc, I qd, I qx, I qy, I qn] 46 (0, 0)) := by rw [← hW]; exact hr2 _ _
  have hs1 : w.heap.size + 2 ≤ w1.heap.size := by rw [← hW, hs2]; exact Nat.le_refl _
  clear hb2 hr1 hr2 hs2 hW
  have HB1 := hide hb1
  have HN1 := hide hn1
  obtain ⟨k0, k1, k2, k3, k4, k5, k6, k7⟩ := rowQ8 hq1
  clear hb1 hn1 hq1
  have HAW := hide (fun (W : World) (hb : Below w.heap.size w W) => appendWithin_any n t (.slice none 0 0) [] V wq W w.heap.size (fun g => g < w.heap.size) (fun _ h => h) hb.size (by simpa using hlen) HF.out (NodeIs.keep (below_same hb (fun _ h => h)) (fun _ h => h) n t V HN.out) (World.ownsRow_nil _ _ _ _))
  have hnr1 : NodeRow w1.drew (.pointer (some ⟨w.heap.size, 0, none⟩)) := nodeRow_of (w := w1.drew) HN1.out HR.out.size
  have hlv1 : loadVal w1.drew (.pointer (some ⟨w.heap.size, 0, none⟩)) = .agg V.toArray := loadVal_row (w := w1.drew) HN1.out
  go_region_with (first | (go_at_call 73; go_must (refine (HWI.out w1.drew).mono ?_; rintro _ w6 ⟨rfl, hb6⟩; have hs6 := hb6.size; have HN6 := hide ((hb6.block w.heap.size (by simp; omega)).trans (show w1.drew.heap[w.heap.size]? = _ from HN1.out)); have hnr6 := nodeRow_of HN6.out HR.out.size; have hlv6 := loadVal_row HN6.out; have HB6 := hide hb6; have HBW := hide (show Below w.heap.size w w6 from HB1.out.drew.trans (hb6.mono (by simp; omega))); clear hb6)) | (go_at_call 76; go_must (refine (HAW.out w6 HBW.out).mono ?_; rintro _ w7 ⟨v7, rfl, ho7, hg7, hf7⟩; have HO7 := hide ho7; have HG7 := hide hg7; clear ho7 hg7 hf7)))
  all_goals
    rw [List.nil_append] at HO7
    have HSO := hide (sort_any v7 _ w7 w.heap.size HO7.out (by have := HWL.out; omega) HI.out)
    go_wp2_with fail
    refine HSO.out.mono ?_
    rintro _ w8 ⟨rfl, ho8, hg8⟩
    have HO8 := hide ho8
    have HB8 := hide (show Below w.heap.size w w8 from (HBW.out.trans ⟨HG7.out.os, HG7.out.tape, HG7.out.output, HG7.out.size, fun j hj => HG7.out.block j (Nat.lt_of_lt_of_le hj HBW.out.size) (by simp [Value.ownBlock])⟩).trans ⟨hg8.os, hg8.tape, hg8.output, hg8.size, fun j hj => hg8.block j (Nat.lt_of_lt_of_le hj (Nat.le_trans HBW.out.size HG7.out.size)) (fun e => by have := HO7.out.ge e.symm; omega)⟩)
    clear ho8 hg8 HSO
    go_wp2
    go_ret
    exact ⟨_, rfl, HO8.out, HB8.out⟩
end Go.Proofs.YtenaelkbgkpllaaGreatDoor
/- The proof of an answer. -/
namespace Go.Proofs.YtenaelkbgkpllaaGreatDoor
open Go.RowKit

attribute [local go_sem ↓] Go.wp_at_zero Go.wp_at_succ wp_load_node
set_option maxRecDepth 100000 in
set_option maxHeartbeats 2000000 in
/-- the proof as a text, of a tree -/
theorem proof_any (m : Ward.Box → Bool) (kq ka : Nat) (n : Nat) (t : Ward.NT n) (V : List Value) (w : World) (hlen : (Ward.proofN m n t).length ≤ 600000) (hfew : Ward.Few n t) (hin : Ward.InN n t) (hN : NodeIs w (fun g => g < w.heap.size) n t V) (hmu : MustIs w w.heap.size kq ka m) (hne : Ward.proofN m n t ≠ []) :
    Calls Tryz.prog 43 #[.agg V.toArray, .func (.func 41) #[] #[.pointer (some ⟨kq, 0, none⟩), .pointer (some ⟨ka, 0, none⟩)]] w fun e w' => e = .returned (Sv (Ward.proofN m n t)) ∧ Below w.heap.size w w' := by
  obtain ⟨fs, hu⟩ := underNode
  have HU := hide hu
  obtain ⟨a1, l1, c1, a2, l2, c2, hV, hd⟩ := hN.cells
  have HR := hide (show Row39 V by rw [hV]; exact nodeV_row hd)
  have HAP := hide (fun (W : World) (hb : Below w.heap.size w W) => appendProof_any m kq ka n t (.slice none 0 0) [] V W w.heap.size (fun g => g < w.heap.size) (fun _ h => h) hb.size (by simpa using hlen) hfew hin (NodeIs.keep (below_same hb (fun _ h => h)) (fun _ h => h) n t V hN) (ownB_nil _ _) (hmu.below hb))
  have HNE := hide hne
  clear hu hV hd hN hfew hin hmu hne
  generalize Ward.proofN m n t = T at *
  have hb2 := fun o => (Below.refl w.heap.size w).alloc (Nat.le_refl _) o
  have hr2 := heap_alloc_new w
  go_enter Tryz.func43, Tryz.ntmps43
  go_upto_region 1 with fail
  generalize hW : World.alloc w _ = w1
  have hb1 : Below w.heap.size w w1 := by rw [← hW]; exact hb2 _
  have hn1 : w1.heap[w.heap.size]? = some (.cells V.toArray 90 (0, 0)) := by rw [← hW]; exact hr2 _
  clear hb2 hr2 hW
  have HB1 := hide hb1
  have HN1 := hide hn1
  clear hb1 hn1
  go_wp2_with (refine wpList_load_row rfl 90 (.tmp 2) rfl w.heap.size rfl 90 V.toArray (0, 0) (.struct fs) HN1.out HU.out rfl HR.out.info ?_)
  refine (HAP.out w1 HB1.out).mono ?_
  rintro _ w2 ⟨v2, rfl, ho2, hg2, -⟩
  rw [List.nil_append] at ho2
  have hc := ho2.conv HNE.out
  have HB2 := hide (show Below w.heap.size w w2 from HB1.out.trans ⟨hg2.os, hg2.tape, hg2.output, hg2.size, fun k hk => hg2.block k (Nat.lt_of_lt_of_le hk HB1.out.size) (by simp [Value.ownBlock])⟩)
  clear ho2 hg2
  go_wp2
  go_ret
  exact ⟨rfl, HB2.out⟩
/-- what Answer and MustShow say, of a query and the points of a map -/
structure Asks (q : Ward.Qr) (L : List Ward.Pt) : Prop where
  answer : ∀ (w : World) (V : List Value), KT w → NodeIs w (fun g => g < w.heap.size) ((Ward.tree L).1 + 1) (Ward.mk Sha.sha (Ward.tree L).1 (Ward.tree L).2) V → Calls Tryz.prog 40 #[.agg V.toArray, Qv q] w fun e w' => ∃ v, e = .returned v ∧ Own w' w.heap.size v (Ward.ans q L) ∧ Below w.heap.size w w'
  must : ∀ (w : World) (B : Nat) (v : Value) (b : Ward.Box), b.In → Own w B v (Ward.ans q L) → Calls Tryz.prog 42 #[Qv q, v, Bx b] w fun e w' => e = .returned (.bool (Ward.must q (Ward.ans q L) b)) ∧ Below w.heap.size w w'
set_option maxRecDepth 100000 in
set_option maxHeartbeats 2000000 in
/-- the closure, where Prove keeps the query and the answer -/
theorem must_closure {q : Ward.Qr} {L : List Ward.Pt} (hA : Asks q L) (w : World) (kq ka B : Nat) (v : Value) (hq : w.heap[kq]? = some (.cells #[I q.kind, I q.a, I q.b, I q.c, I q.d, I q.x, I q.y, I q.k] 46 (0, 0))) (ha : w.heap[ka]? = some (.cells #[v] 27 (0, 0))) (hv : Own w B v (Ward.ans q L)) : MustIs w w.heap.size kq ka (Ward.must q (Ward.ans q L)) := by
  intro W b hi hW
  have hq0 := (Array.getElem?_eq_some_iff.1 hq).1
  have ha0 := (Array.getElem?_eq_some_iff.1 ha).1
  have hb2 := fun o => (Below.refl W.heap.size W).alloc (Nat.le_refl _) o
  have hr2 := heap_alloc_new W
  have HM := hide (fun (W' : World) (hb : Below w.heap.size w W') => hA.must W' B v b hi (hv.below hb))
  generalize Ward.must q (Ward.ans q L) b = r at *
  obtain ⟨av, cv, rfl⟩ := hv.slice
  clear hv hA
  generalize (Ward.ans q L).length = al at *
  go_enter Tryz.func41, Tryz.ntmps41
  go_upto_region 1 with fail
  generalize hE : World.alloc W _ = w1
  have hb1 : Below W.heap.size W w1 := by rw [← hE]; exact hb2 _
  have hx1 : w1.heap[W.heap.size]? = some (.cells #[I b.a, I b.b, I b.c, I b.d] 88 (0, 0)) := by rw [← hE]; exact hr2 _
  clear hb2 hr2 hE
  have hbw : Below w.heap.size w w1 := hW.trans (hb1.mono hW.size)
  obtain ⟨k0, k1, k2, k3, k4, k5, k6, k7⟩ := rowQ8 ((hbw.block kq hq0).trans hq)
  have j0 : w1.cell? ⟨ka, 0, none⟩ = some (.slice av al cv) := by rw [cell_of_row _ _ _ _ _ _ ((hbw.block ka ha0).trans ha)]; rfl
  obtain ⟨c1, c2, c3, c4⟩ := row4 hx1
  have HB1 := hide hb1
  have HBW := hide hbw
  clear hb1 hx1 hbw hq ha hW
  go_wp2_with fail
  refine (HM.out w1 HBW.out).mono ?_
  rintro _ w2 ⟨rfl, hb2⟩
  have HB2 := hide hb2
  clear hb2
  go_wp2
  go_ret
  exact ⟨rfl, HB1.out.trans (HB2.out.mono HB1.out.size)⟩
theorem proofN_ne (m : Ward.Box → Bool) (n : Nat) (t : Ward.NT (n + 1)) : Ward.proofN m (n + 1) t ≠ [] := by
  by_cases h : (Ward.Nd.kids t).length = 0
  · rw [proofN_leaf m n t h]; simp [Ward.leafText]
  · rw [proofN_kids m n t h]; simp
theorem proof_len {dig : List UInt8 → List UInt8} (hd : ∀ l, (dig l).length = 32) (m : Ward.Box → Bool) : ∀ (n : Nat) (t : Ward.T n), Ward.Small n t → (Ward.proof dig m n t).length ≤ 300 * 5 ^ n
  | 0, l, h => by
    have : (Ward.proof dig m 0 l).length = 2 + 12 * List.length (l : List Ward.Pt) := by
      show (Ward.leafText l).length = _
      simp only [Ward.leafText, List.length_cons]
      rw [Ward.pts_len]; omega
    have := h.1
    simp only [Nat.pow_zero]
    omega
  | n + 1, cs, h => by
    show (2 :: UInt8.ofNat (List.length cs) :: List.flatMap (fun c => Ward.head dig n c ++ (if m (Ward.box n c) then 1 :: Ward.proof dig m n c else [0])) cs).length ≤ _
    have key : ∀ (l : List (Ward.T n)), (∀ c ∈ l, Ward.Small n c) → (List.flatMap (fun c => Ward.head dig n c ++ (if m (Ward.box n c) then 1 :: Ward.proof dig m n c else [0])) l).length ≤ (53 + 300 * 5 ^ n) * l.length := by
      intro l
      induction l with
      | nil => intro _; simp
      | cons c l ih =>
        intro hl
        rw [List.flatMap_cons, List.length_append, List.length_append, List.length_cons, Ward.head_len hd]
        have h1 := proof_len hd m n c (hl c (by simp))
        have h2 := ih (fun d hd => hl d (by simp [hd]))
        have h3 : (if m (Ward.box n c) then 1 :: Ward.proof dig m n c else [0]).length ≤ 1 + 300 * 5 ^ n := by
          split
          · rw [List.length_cons]; omega
          · simp
        rw [Nat.mul_succ]; omega
    have h1 := key cs h.2
    have h2 : (53 + 300 * 5 ^ n) * List.length cs ≤ (53 + 300 * 5 ^ n) * 4 := Nat.mul_le_mul_left _ h.1
    have h3 : 1 ≤ 5 ^ n := Nat.one_le_pow _ _ (by decide)
    simp only [List.length_cons]
    rw [Nat.pow_succ]
    omega
theorem Good.well {L : List Ward.Pt} (h : Good L) : Ward.Well L := ⟨h.ok, h.ids, h.many⟩
theorem tree_ne' (L : List Ward.Pt) : Ward.NE (Ward.tree L).1 (Ward.tree L).2 := Ward.tree_ne L
theorem proofText_of (q : Ward.Qr) (L : List Ward.Pt) : Ward.proofN (Ward.must q (Ward.ans q L)) ((Ward.tree L).1 + 1) (Ward.mk Sha.sha (Ward.tree L).1 (Ward.tree L).2) = Ward.proofText q L := Ward.mk_proof Sha.sha _ _ _ (Ward.tree_ne L)
theorem proofText_len (q : Ward.Qr) {L : List Ward.Pt} (h : Ward.Well L) : (Ward.proofText q L).length ≤ 37500 := by
  refine Nat.le_trans (proof_len sha_len _ _ _ (Ward.tree_small h.ok).1) ?_
  exact Nat.le_trans (Nat.mul_le_mul_left _ (Nat.pow_le_pow_right (by decide) h.deep)) (by decide)
end Go.Proofs.YtenaelkbgkpllaaGreatDoor
/- Prove. -/
namespace Go.Proofs.YtenaelkbgkpllaaGreatDoor
open Go.RowKit

set_option maxRecDepth 100000 in
set_option maxHeartbeats 4000000 in
theorem prove_of {q : Ward.Qr} (m : Nat) (v : Value) (L : List Ward.Pt) (w : World) (hA : Asks q L) (hq : Ward.mayBe q = true) (hm : IsMap w m v L) (hG : Good L) (hKT : KT w) :
    Calls Tryz.prog 17 #[.pointer (some ⟨m, 0, none⟩), Qv q] w fun e w' => e = .returned (.tuple #[Sv (Ward.proofText q L), I 0]) ∧ Below w.heap.size w w' := by
  have hmlt := hm.lt
  have HM := hide hm
  have HG := hide hG
  have HK := hide hKT
  have HA := hide hA
  have HMB := hide (fun W => mayBe_any q W)
  rw [hq] at HMB
  have HPL := hide (proofText_len q hG.well)
  have hTS := Ward.tree_small hG.ok
  have HFW := hide (Ward.few_mk Sha.sha _ _ hTS.1)
  have HIN := hide (Ward.in_mk Sha.sha _ _ hTS.1)
  obtain ⟨fs, hu⟩ := underNode
  have HU := hide hu
  have hr0' := heap_alloc_new w
  have hb0' := fun o => (Below.refl w.heap.size w).alloc (Nat.le_refl _) o
  have hs0' := fun o => show (w.alloc o).heap.size = w.heap.size + 1 by simp
  obtain ⟨av, cv, ev⟩ := hm.slice
  subst ev
  clear hm hKT hA hu hTS
  have HQV := hide (show Qv q = .agg #[I q.kind, I q.a, I q.b, I q.c, I q.d, I q.x, I q.y, I q.k] from rfl)
  go_enter Tryz.func17, Tryz.ntmps17
  go_upto_region 1 with fail
  generalize hW : World.alloc w _ = w0
  have hb0 : Below w.heap.size w w0 := by rw [← hW]; exact hb0' _
  have hr0 : w0.heap[w.heap.size]? = some (.cells #[I q.kind, I q.a, I q.b, I q.c, I q.d, I q.x, I q.y, I q.k] 46 (0, 0)) := by rw [← hW]; exact hr0' _
  have hs0 : w.heap.size + 1 ≤ w0.heap.size := by rw [← hW, hs0']; exact Nat.le_refl _
  clear hb0' hr0' hs0' hW
  obtain ⟨k0, k1, k2, k3, k4, k5, k6, k7⟩ := rowQ8 hr0
  have HR0 := hide hr0
  have HB0 := hide hb0
  clear hr0 hb0
  go_wp2_with fail
  refine (HMB.out w0).mono ?_
  rintro _ w1 ⟨rfl, hb1⟩
  have hs1 := hb1.size
  have HB1 := hide (HB0.out.trans (hb1.mono (by omega)))
  have HR1 := hide ((hb1.block w.heap.size (by omega)).trans HR0.out)
  have hm1 := HM.out.below HB1.out
  have hc1 := hm1.cell
  have HBM := hide (build_map m _ L w1 hm1 hG (HK.out.below HB1.out))
  clear hb1 hm1 k0 k1 k2 k3 k4 k5 k6 k7
  go_wp2_with fail
  refine HBM.out.mono ?_
  rintro _ w2 ⟨V, rfl, hn2, hb2⟩
  have hs2 := hb2.size
  have HN2 := hide hn2
  have HB2 := hide (HB1.out.trans (hb2.mono (by omega)))
  have HR2 := hide ((hb2.block w.heap.size (by omega)).trans HR1.out)
  obtain ⟨a1, l1, c1, a2, l2, c2, hV, hd⟩ := hn2.cells
  have HR := hide (show Row39 V by rw [hV]; exact nodeV_row hd)
  clear hb2 hn2 hV hd HBM
  have hr3' := heap_alloc_new w2
  have hb3' := fun o => (Below.refl w2.heap.size w2).alloc (Nat.le_refl _) o
  have hs3' := fun o => show (w2.alloc o).heap.size = w2.heap.size + 1 by simp
  go_upto_region 4 with (refine wpList_store_row rfl 90 (.tmp 6) (.tmp 16) rfl w2.heap.size V.toArray rfl rfl 90 _ (heap_alloc_new w2 _) HR.out.info (by rw [HR.out.size]; rfl) HR.out.one ?_; rw [World.setRow_alloc_new])
  generalize hW : World.alloc w2 _ = w3
  have hb3 : Below w2.heap.size w2 w3 := by rw [← hW]; exact hb3' _
  have hr3 : w3.heap[w2.heap.size]? = some (.cells V.toArray 90 (0, 0)) := by rw [← hW]; exact hr3' _
  have hs3 : w2.heap.size + 1 ≤ w3.heap.size := by rw [← hW, hs3']; exact Nat.le_refl _
  clear hb3' hr3' hs3' hW
  have HB3 := hide (HB2.out.trans (hb3.mono (by omega)))
  have HR3 := hide ((hb3.block w.heap.size (by omega)).trans HR2.out)
  have HN3 := hide hr3
  have HND := hide (NodeIs.keep (S' := fun g => g < w3.heap.size) (below_same hb3 (fun _ h => h)) (fun g (h : g < w2.heap.size) => show g < w3.heap.size by omega) _ _ V HN2.out)
  obtain ⟨k0, k1, k2, k3, k4, k5, k6, k7⟩ := rowQ8 HR3.out
  have HAN := hide (HA.out.answer w3 V (HK.out.below HB3.out) HND.out)
  clear hb3 hr3
  go_wp2_with (refine wpList_load_row rfl 90 (.tmp 6) rfl w2.heap.size rfl 90 V.toArray (0, 0) (.struct fs) HN3.out HU.out rfl HR.out.info ?_)
  refine HAN.out.mono ?_
  rintro _ w4 ⟨v4, rfl, ho4, hb4⟩
  have hs4 := hb4.size
  have HO4 := hide ho4
  have HB4 := hide (HB3.out.trans (hb4.mono (by omega)))
  have HR4 := hide ((hb4.block w.heap.size (by omega)).trans HR3.out)
  have HN4 := hide ((hb4.block w2.heap.size (by omega)).trans HN3.out)
  have HND4 := hide (NodeIs.keep (S' := fun g => g < w4.heap.size) (below_same hb4 (fun _ h => h)) (fun g (h : g < w3.heap.size) => show g < w4.heap.size by omega) _ _ V HND.out)
  obtain ⟨a4, c4, e4⟩ := ho4.slice
  subst e4
  generalize (Ward.ans q L).length = al at *
  clear hb4 ho4 HAN k0 k1 k2 k3 k4 k5 k6 k7
  have hr5' := heap_alloc_new w4
  have hb5' := fun o => (Below.refl w4.heap.size w4).alloc (Nat.le_refl _) o
  have hs5' := fun o => show (w4.alloc o).heap.size = w4.heap.size + 1 by simp
  go_upto_region 6 with fail
  generalize hW : World.alloc w4 _ = w5
  have hb5 : Below w4.heap.size w4 w5 := by rw [← hW]; exact hb5' _
  have hr5 : w5.heap[w4.heap.size]? = some (.cells #[.slice a4 al c4] 27 (0, 0)) := by rw [← hW]; exact hr5' _
  have hs5 : w4.heap.size + 1 ≤ w5.heap.size := by rw [← hW, hs5']; exact Nat.le_refl _
  clear hb5' hr5' hs5' hW
  have HB5 := hide (HB4.out.trans (hb5.mono (by omega)))
  have HN5 := hide ((hb5.block w2.heap.size (by omega)).trans HN4.out)
  have HND5 := hide (NodeIs.keep (S' := fun g => g < w5.heap.size) (below_same hb5 (fun _ h => h)) (fun g (h : g < w4.heap.size) => show g < w5.heap.size by omega) _ _ V HND4.out)
  have HMU := hide (must_closure HA.out w5 w.heap.size w4.heap.size w3.heap.size _ ((hb5.block w.heap.size (by omega)).trans HR4.out) hr5 (HO4.out.below hb5))
  have HPR := hide (proof_any (Ward.must q (Ward.ans q L)) w.heap.size w4.heap.size _ _ V w5 (by rw [proofText_of]; have := HPL.out; omega) HFW.out HIN.out HND5.out HMU.out (proofN_ne _ _ _))
  rw [proofText_of] at HPR
  generalize hT : Ward.proofText q L = T at *
  have HT := hide hT
  clear hT
  clear hb5 hr5
  go_wp2_with (refine wpList_load_row rfl 90 (.tmp 6) rfl w2.heap.size rfl 90 V.toArray (0, 0) (.struct fs) HN5.out HU.out rfl HR.out.info ?_)
  refine HPR.out.mono ?_
  rintro _ w6 ⟨rfl, hb6⟩
  have HB6 := hide (HB5.out.trans (hb6.mono (by omega)))
  clear hb6
  go_wp2
  go_ret2
  exact ⟨by rw [HT.out]; rfl, HB6.out⟩
end Go.Proofs.YtenaelkbgkpllaaGreatDoor
/- The law Bound: its walk. -/
namespace Go.Proofs.YtenaelkbgkpllaaGreatDoor
open Go.RowKit

theorem tdiv_fits (c : Int) (k : Nat) (h0 : -9223372036854775808 ≤ c) (h1 : c ≤ 9223372036854775807) (hk : 2 ≤ k) : -9223372036854775808 ≤ c.tdiv k ∧ c.tdiv k ≤ 9223372036854775807 := by
  have h : (c.tdiv k).natAbs ≤ c.natAbs / 2 := by
    rw [Int.natAbs_tdiv, Int.natAbs_natCast]
    exact Nat.div_le_div_left hk (by decide)
  omega
theorem ids_take {l : List Ward.Pt} (h : Ward.Ids l) (i : Nat) (hi : i < l.length) : ∀ q ∈ l.take i, q.id ≠ l[i].id := by
  intro q hq
  obtain ⟨j, hj, rfl⟩ := List.getElem_of_mem hq
  rw [List.getElem_take]
  simp only [List.length_take] at hj
  exact List.pairwise_iff_getElem.1 h j i (by omega) hi (by omega)
/-- what Insert says to a point whose id is new -/
theorem new_code {L : List Ward.Pt} {p : Ward.Pt} (hp : p.Ok) (hn : ∀ q ∈ L, q.id ≠ p.id) (hl : L.length < 150) : insCode L p = 0 := by
  obtain ⟨_, _, _, _, _, _⟩ := hp
  unfold insCode
  rw [if_neg (by omega), if_neg (by omega), if_neg (fun ⟨q, hq, e⟩ => hn q hq e), if_neg (by omega)]
theorem fill_code {L2 k l : List Ward.Pt} {i : Nat} {p q : Ward.Pt} (hp : q.Ok) (hpk : L2.Perm k) (hids : k.map Ward.Pt.id = (l.take i).map Ward.Pt.id) (hid : Ward.Ids l) (hlt : i < l.length) (hl : l.length ≤ 39) (hi : l[i] = p) (hq : q.id = p.id) : insCode L2 q = 0 := by
  have hlk : k.length = i := by
    have h := congrArg List.length hids
    simp at h
    omega
  refine new_code hp (fun r hr e => ?_) (by rw [hpk.length_eq]; omega)
  have hqk := (List.mem_map (f := Ward.Pt.id)).2 ⟨r, hpk.mem_iff.1 hr, rfl⟩
  rw [hids] at hqk
  obtain ⟨q', hq', e'⟩ := List.mem_map.1 hqk
  have h := ids_take hid i hlt q' hq'
  rw [hi] at h
  exact h (e'.trans (e.trans hq))
theorem fill_ids {k l : List Ward.Pt} {i : Nat} {p q : Ward.Pt} (hids : k.map Ward.Pt.id = (l.take i).map Ward.Pt.id) (hlt : i < l.length) (hi : l[i] = p) (hq : q.id = p.id) : (k ++ [q]).map Ward.Pt.id = (l.take (i + 1)).map Ward.Pt.id := by
  rw [List.take_succ_eq_append_getElem hlt, List.map_append, List.map_append, hids, hi]
  simp [hq]
theorem perm_snoc {L k : List Ward.Pt} (p : Ward.Pt) (h : L.Perm k) : (Ward.ins p L).Perm (k ++ [p]) := (Ward.ins_perm p L).trans ((h.cons p).trans (List.perm_append_singleton p k).symm)
theorem fill_len {k l : List Ward.Pt} {i : Nat} (hids : k.map Ward.Pt.id = (l.take i).map Ward.Pt.id) (hi : i ≤ l.length) : k.length = i := by
  have h := congrArg List.length hids
  simp at h
  omega
/-- two points are one -/
def ptEq (p q : Ward.Pt) : Bool := p.id == q.id && (p.x == q.x && p.y == q.y)
theorem ptEq_iff (p q : Ward.Pt) : ptEq p q = true ↔ p = q := by
  obtain ⟨a, b, c⟩ := p
  obtain ⟨a', b', c'⟩ := q
  simp [ptEq]
theorem eqPt (p q : Ward.Pt) (W : World) : (Op.equalIn 10000 36 (.agg #[I p.id, I p.x, I p.y]) (.agg #[I q.id, I q.x, I q.y])).run Tryz.prog W = .ok (ptEq p q) W := by
  have u3 := Tryz.underlying3
  have a3 := Tryz.isAgg3
  have z3 := Tryz.sizeOf3
  have hS : Tryz.prog.underlying 36 = some (.struct (Tryz.prog.fieldsOf 36)) := by kernel_rfl
  have hp : Tryz.prog.stoodInHeld 36 = false := by kernel_rfl
  rw [show (10000 : Nat) = 9999 + 1 from rfl, run_equalIn_agg W 9999 36 _ _ hS hp]
  simp only [Program.fieldsOf, Tryz.underlying36]
  go_simp
  unfold ptEq
  by_cases h1 : p.id = q.id <;> by_cases h2 : p.x = q.x <;> by_cases h3 : p.y = q.y <;> simp [h1, h2, h3]
theorem alike_all {L L' l k : List Ward.Pt} (hs : Ward.Sorted L) (hs' : Ward.Sorted L') (hl : L.Perm l) (hk : L'.Perm k) : (decide (l.length = k.length) && l.all fun p => k.any (ptEq p)) = true ↔ L = L' := by
  rw [← Ward.alike_iff hs hs' hl hk, Bool.and_eq_true, decide_eq_true_eq, List.all_eq_true]
  refine and_congr Iff.rfl (forall_congr' fun p => forall_congr' fun _ => ?_)
  rw [List.any_eq_true]
  constructor
  · rintro ⟨q, hq, e⟩
    rw [(ptEq_iff p q).1 e]; exact hq
  · exact fun h => ⟨p, h, (ptEq_iff p p).2 rfl⟩
/-- raw numbers in an argument -/
structure Arg (w : World) (a : Option Addr) (code : List Int) : Prop where
  len : code.length ≤ 140737488355328
  fits : ∀ x ∈ code, -9223372036854775808 ≤ x ∧ x ≤ 9223372036854775807
  lies : code ≠ [] → ∃ g o, a = some ⟨g, o, none⟩ ∧ ∀ i (h : i < code.length), w.cell? ⟨g, o + i, none⟩ = some (I code[i])
theorem Arg.keep {w w' : World} {B : Nat} {a : Option Addr} {code : List Int} (h : Arg w a code) (hb : Below B w w') (hB : w.heap.size ≤ B) : Arg w' a code :=
  ⟨h.len, h.fits, fun hne => by
    obtain ⟨g, o, e, hc⟩ := h.lies hne
    exact ⟨g, o, e, fun i hi => (hb.cell (p := ⟨g, o + i, none⟩) (Nat.lt_of_lt_of_le (block_lt_of_cell (hc i hi)) hB)).trans (hc i hi)⟩⟩
/-- the calls that the law stands on -/
structure Calls2 : Prop where
  commit : ∀ (m : Nat) (v : Value) (L : List Ward.Pt) (w : World), IsMap w m v L → Good L → KT w → Calls Tryz.prog 16 #[.pointer (some ⟨m, 0, none⟩)] w fun e w' => e = .returned (.agg (commitV L).toArray) ∧ Below w.heap.size w w'
  prove : ∀ (m : Nat) (v : Value) (L : List Ward.Pt) (w : World), IsMap w m v L → Good L → KT w → Calls Tryz.prog 17 #[.pointer (some ⟨m, 0, none⟩), .agg #[I 0, I (-1000000), I (-1000000), I 1000000, I 1000000, I 0, I 0, I 0]] w fun e w' => e = .returned (.tuple #[Sv (Ward.fullText Sha.sha L), I 0]) ∧ Below w.heap.size w w'

set_option maxRecDepth 100000 in
set_option maxHeartbeats 20000000 in
theorem bound_any (C : Calls2) (a1 a2 : Option Addr) (c1 c2 : Nat) (code other : List Int) (ch : Int) (w : World) (h1 : Arg w a1 code) (h2 : Arg w a2 other) (hc0 : -9223372036854775808 ≤ ch) (hc1 : ch ≤ 9223372036854775807) (hK : KT w) (hW : WT w) :
    Calls Tryz.prog 7 #[.slice a1 code.length c1, .slice a2 other.length c2, I ch] w fun e w' => e = .returned (.bool true) ∧ Below w.heap.size w w' := by
  have HC := hide C
  have H1 := hide h1
  have H2 := hide h2
  have HK := hide hK
  have HW := hide hW
  clear h1 h2 hK hW
  go_enter Tryz.func7, Tryz.ntmps7
  go_wp2_with fail
  have hd1 := dice_new (w := w) (c := c1) H1.out.len H1.out.fits H1.out.lies
  refine (began_any (w.heap.size + 1) w.heap.size code 0 _ (by simp) hd1 (HK.out.below ((Below.refl _ _).alloc (Nat.le_refl _) _))).mono ?_
  rintro e w1 ⟨k1, m, v, L, vl, l, rfl, hH1, hp1, hn1, hl1⟩
  have hb1 : Below w.heap.size w w1 := by
    have hk := hH1.keeps
    exact keeps_new ((Below.refl w.heap.size w).alloc (Nat.le_refl _) _) hk (fun j e => by omega)
  have HP1 := hide (hH1.pair hp1)
  have HB1 := hide hb1
  have HL1 := hide hH1.list
  clear hd1 hH1
  go_wp2_with fail
  have hd2 := dice_new (w := w1) (c := c2) H2.out.len H2.out.fits (H2.out.keep hb1 (Nat.le_refl _)).lies
  have hK1 := HK.out.below hb1
  refine (began_any (w1.heap.size + 1) w1.heap.size other 0 _ (by simp) hd2 (hK1.below ((Below.refl _ _).alloc (Nat.le_refl _) _))).mono ?_
  rintro e w2 ⟨k2, n, v', L', vl', l', rfl, hH2, hp2, hn2, hl2⟩
  have hb2 : Below w1.heap.size w1 w2 := keeps_new ((Below.refl w1.heap.size w1).alloc (Nat.le_refl _) _) hH2.keeps (fun j e => by omega)
  have HP12 := hide (HP1.out.below hb2)
  have HP2 := hide (hH2.pair hp2)
  have HB2 := hide (HB1.out.trans (hb2.mono HB1.out.size))
  obtain ⟨al, cl, rfl, -⟩ := HP12.out.list.reads
  obtain ⟨al', cl', rfl, -⟩ := HP2.out.list.reads
  clear hd2 hH2 hb2 hK1 hb1 HP1 HB1
  go_upto_region 5 with fail
  go_cut [52] (fun v52 wx => ∃ b : Bool, v52 = .bool b ∧ (b = true → 0 < l.length) ∧ wx = w2)
  case first =>
    by_cases hpk : pickN ch 3 = 0
    · by_cases hl0 : 0 < l.length
      · go_wp2_with (go_at_call 13; refine (pick_any2 ch 3 _ hc0 hc1 (by decide) (by decide)).mono ?_; rintro _ _ ⟨rfl, rfl⟩; rw [hpk])
        go_meet
        exact ⟨true, by simp, fun _ => hl0, rfl⟩
      · go_wp2_with (go_at_call 13; refine (pick_any2 ch 3 _ hc0 hc1 (by decide) (by decide)).mono ?_; rintro _ _ ⟨rfl, rfl⟩; rw [hpk])
        go_meet
        exact ⟨false, by simp, fun h => absurd h (by decide), rfl⟩
    · go_wp2_with (go_at_call 13; refine (pick_any2 ch 3 _ hc0 hc1 (by decide) (by decide)).mono ?_; rintro _ _ ⟨rfl, rfl⟩)
      go_meet
      exact ⟨false, by simp, fun h => absurd h (by decide), rfl⟩
  case rest =>
    obtain ⟨b, rfl, hb0, hwx⟩ := hcut
    obtain rfl := hwx.symm
    clear hwx
    go_upto_if 52 with fail
    go_cut [6, 9, 10, 11, 12, 13] (fun _ v9 v10 _ _ _ wx => ∃ (n : Nat) (v' : Value) (L' l' : List Ward.Pt), v9 = .pointer (some ⟨n, 0, none⟩) ∧ Pair wx m v L (.slice al l.length cl) l ∧ Pair wx n v' L' v10 l' ∧ l'.length ≤ 39 ∧ Below w.heap.size w wx)
    case first =>
      cases b with
      | false =>
        go_wp2_with fail
        go_meet
        exact ⟨n, v', L', l', rfl, HP12.out, HP2.out, hl2, HB2.out⟩
      | true =>
        have hl0 := hb0 rfl
        clear hb0
        go_wp2_with fail
        refine (new_any _).mono ?_
        rintro e w3 ⟨rfl, hm3, hz3, hb3⟩
        have HF0 := hide (show Fill w2 w3 w2.heap.size (.slice none 0 0) [] (.slice none 0 0) [] from ⟨hm3, good_nil, World.ownsRow_nil _ _ _ _, Nat.le_refl _, fun g hg => by simp [Value.ownBlock] at hg, fun g hg => by simp [Value.ownBlock] at hg, hb3⟩)
        have HRL := hide HP12.out.list.reads
        have HNL := hide hn1
        have HID := hide ((Ward.ids_perm HP12.out.perm).1 HP12.out.good.ids)
        clear hm3 hz3 hb3 hn1
        go_wp2_with fail
        go_loopg [10, 11] l.length (fun gk v10 v11 wq => ∃ (i : Nat) (k L2 : List Ward.Pt) (v2 : Value), gk = l.length - i ∧ v11 = I i ∧ i ≤ l.length ∧ k.map Ward.Pt.id = (l.take i).map Ward.Pt.id ∧ L2.Perm k ∧ Fill w2 wq w2.heap.size v2 L2 v10 k)
        case atStart => exact ⟨0, [], [], .slice none 0 0, by omega, rfl, by omega, rfl, List.Perm.refl _, HF0.out⟩
        case round =>
          clear HF0
          obtain ⟨i, k, L2, v2, hgk, rfl, hi, hids, hpk, hF⟩ := hrel
          have HGK := hide hgk
          clear hgk
          have HF := hide hF
          have HIDS := hide hids
          have HPK := hide hpk
          clear hF hids hpk
          by_cases hlt : i < l.length
          · obtain ⟨a', c', e', hrd⟩ := HRL.out
            obtain ⟨g, o, e2, hpts⟩ := hrd (fun e => by subst e; simp at hlt)
            injection e' with e3 e4 e5
            rw [e2] at e3
            subst e3
            have hFb := HF.out.keeps
            have hpt := (hpts i hlt).below hFb (hpts i hlt).lt
            have hnr := HNL.out l[i] (List.getElem_mem hlt)
            have HPI := hide (show l[i] = l[i] from rfl)
            generalize hpi : l[i] = p at *
            clear HPI e2 e4 e5 hpts hrd
            obtain ⟨pi, px, py⟩ := p
            obtain ⟨q1, q2, q3⟩ := hpt
            simp only at q1 q2 q3 hnr
            have hq3 : 0 < ((l.length : Int)) := by omega
            have hdv3 : -9223372036854775808 ≤ ch.tdiv 3 ∧ ch.tdiv 3 ≤ 9223372036854775807 := tdiv_fits ch 3 hc0 hc1 (by decide)
            have hdv7 : -9223372036854775808 ≤ ch.tdiv 7 ∧ ch.tdiv 7 ≤ 9223372036854775807 := tdiv_fits ch 7 hc0 hc1 (by decide)
            have hr7 := pickN_range (ch.tdiv 7) 3 (by decide)
            have HPi := hide hpi
            clear hpi
            go_upto_if 72 with (go_at_call 13; refine (pick_any2 (ch.tdiv 3) l.length _ hdv3.1 hdv3.2 hq3 (by omega)).mono ?_; rintro _ _ ⟨rfl, rfl⟩)
            go_cut [] (fun wx => ∃ x' : Int, -7 ≤ x' ∧ x' ≤ 7 ∧ wx.heap[wr.heap.size]? = some (.cells #[I pi, I x', I py] 36 (0, 0)) ∧ Below wr.heap.size wr wx)
            case first =>
              by_cases hsel : (i : Int) = pickN (ch.tdiv 3) l.length
              · have hsb : ((i : Int) == pickN (ch.tdiv 3) l.length) = true := by simpa using hsel
                clear hsel
                have hcell := row3 (heap_alloc_new wr (.cells #[I pi, I px, I py] 36))
                obtain ⟨x1, x2, x3⟩ := hcell
                have hfz : (wr.alloc (.cells #[I pi, I px, I py] 36)).frozen? ⟨wr.heap.size, 1, none⟩ = false := frozen_of_row _ _ _ _ _ (heap_alloc_new wr _)
                have hw7 : IntKind.i64.wrap (ch.tdiv 7) = ch.tdiv 7 := by rw [IntKind.wrap_i64]; omega
                have hw8 : IntKind.i64.wrap (px + pickN (ch.tdiv 7) 3) = px + pickN (ch.tdiv 7) 3 := by rw [IntKind.wrap_i64]; omega
                have hw9 : IntKind.i64.wrap (px + pickN (ch.tdiv 7) 3 - 1) = px + pickN (ch.tdiv 7) 3 - 1 := by rw [IntKind.wrap_i64]; omega
                go_wp2_with fail
                go_region_with (go_at_call 13; go_must (refine (pick_any2 (ch.tdiv 7) 3 _ hdv7.1 hdv7.2 (by decide) (by decide)).mono ?_; rintro _ _ ⟨rfl, rfl⟩))
                all_goals
                  go_wp2_with fail
                  go_meet
                  exact ⟨px + pickN (ch.tdiv 7) 3 - 1, by omega, by omega, heap_alloc_new wr _, ((Below.refl _ _).alloc (Nat.le_refl _) _).drew⟩
              · go_wp2_with fail
                go_meet
                exact ⟨px, by omega, by omega, heap_alloc_new wr _, (Below.refl _ _).alloc (Nat.le_refl _) _⟩
            case rest =>
              obtain ⟨x', hx1, hx2, hrow, hbc⟩ := hcut
              obtain ⟨y1, y2, y3⟩ := row3 hrow
              have HF1 := hide (HF.out.below hbc)
              have HLK := hide (fill_len HIDS.out hi)
              have hcode := fill_code (q := ⟨pi, x', py⟩) ⟨by show 1 ≤ pi; omega, by show pi ≤ 1000000; omega, by show -1000000 ≤ x'; omega, by show x' ≤ 1000000; omega, by show -1000000 ≤ py; omega, by show py ≤ 1000000; omega⟩ HPK.out HIDS.out HID.out hlt hl1 HPi.out rfl
              clear q1 q2 q3 hbc hFb
              go_wp2_with fail
              refine (mapInsert_any w2.heap.size v2 L2 ⟨pi, x', py⟩ _ HF1.out.map HF1.out.good).mono ?_
              rintro e w5 ⟨rfl, v5, hm5, hf5, hk5⟩
              rw [hcode]
              rw [insList, if_pos hcode] at hm5
              have hG5 : Good (Ward.ins ⟨pi, x', py⟩ L2) := by
                have h := HF1.out.good.insert ⟨pi, x', py⟩
                rw [insList, if_pos hcode] at h
                exact h
              have HF5 := hide (HF1.out.insert hm5 hG5 hf5 hk5)
              have hr5 : w5.heap[wr.heap.size]? = some (.cells #[I pi, I x', I py] 36 (0, 0)) := by
                refine (hk5.block wr.heap.size (Array.getElem?_eq_some_iff.1 hrow).1 (fun e => ?_)).trans hrow
                rcases e with e | e
                · have := HF.out.map.lt; omega
                · have := HF.out.map.own.lt e.symm; omega
              obtain ⟨z1, z2, z3⟩ := row3 hr5
              obtain ⟨a10, c10, e10, -⟩ := HF5.out.list.reads
              subst e10
              obtain ⟨i0, hi0, hz0, hz1, hz2⟩ := info_parts Tryz.infoPt
              have HB7 := hide (fun o => HF5.out.below ((Below.refl w5.heap.size w5).alloc (Nat.le_refl _) o))
              have hw5 : w2.heap.size ≤ w5.heap.size := HF5.out.keeps.size
              have HNW := hide (row_src (o := 0) (n := 3) (heap_alloc_new w5 (.cells (P3 ⟨pi, x', py⟩).toArray 36)))
              clear HF5 HF1 HF hm5 hG5 hf5 hk5 hr5 hrow hcode y1 y2 y3
              go_wp2_with (at_builtin; refine wpList_append_own2 _ rfl (.tmp 86) (.tmp 88) 27 rfl w2.heap.size 36 i0 (.agg #[I 0, I 0, I 0]) 3 24 Tryz.underlying27 hi0 hz0 hz1 hz2 rfl (by decide) _ k.length (k.flatMap P3) rfl (HB7.out _).list ⟨w5.heap.size, 0, none⟩ 1 1 (P3 ⟨pi, x', py⟩) rfl rfl HNW.out (fun u hu => cells_one (L := [⟨pi, x', py⟩]) u (by simpa using hu)) (by have := HLK.out; unfold maxLen; omega) (by have := HLK.out; omega) (by simp; omega) ?_)
              intro v10 w6 hown' hgrow hfr
              have ho6 : Own w6 w2.heap.size v10 (k ++ [⟨pi, x', py⟩]) := by
                unfold Own
                rw [List.length_append, List.flatMap_append]
                simpa using hown'
              have HB8 := hide ((HB7.out _).append ho6 hgrow hfr)
              clear hown' hgrow hfr ho6 z1 z2 z3
              go_wp2_with fail
              go_roundg (l.length - (i + 1))
              case measure => have := HGK.out; omega
              case rel => exact ⟨i + 1, k ++ [⟨pi, x', py⟩], Ward.ins ⟨pi, x', py⟩ L2, v5, rfl, by go_num, hlt, fill_ids HIDS.out hlt HPi.out rfl, perm_snoc _ HPK.out, HB8.out⟩
          · have ei : i = l.length := by omega
            go_wp2_with fail
            go_meet
            exact ⟨w2.heap.size, v2, L2, k, rfl, HP12.out.below HF.out.keeps, HF.out.pair HPK.out, by
              have h := congrArg List.length HIDS.out
              simp at h
              omega, HB2.out.trans (HF.out.keeps.mono HB2.out.size)⟩
    case rest =>
      clear HP2 HP12 HB2
      obtain ⟨n, v', L', k, rfl, hP1, hP2, hk39, hbw⟩ := hcut
      have HP1 := hide hP1
      have HP2 := hide hP2
      have HBW := hide hbw
      have HR1 := hide hP1.list.reads
      have HR2 := hide hP2.list.reads
      obtain ⟨ak, ck, rfl, -⟩ := hP2.list.reads
      clear hP1 hP2 hbw
      have hlk : ((l.length : Int) == (k.length : Int)) = decide (l.length = k.length) := by
        by_cases h : l.length = k.length
        · rw [decide_eq_true h]; simp [h]
        · rw [decide_eq_false h]; simp; omega
      go_wp2_with fail
      go_loopg [14, 15, 16, 17] l.length (fun gk v14 v15 _ _ wq => ∃ i nn : Nat, gk = l.length - i ∧ v15 = I i ∧ i ≤ l.length ∧ v14 = .bool (decide (l.length = k.length) && (l.take i).all fun p => k.any (ptEq p)) ∧ wq = wc.drewN nn)
      case atStart => exact ⟨0, 0, by omega, rfl, by omega, by simp, rfl⟩
      case round =>
        obtain ⟨i, nn, hgk, rfl, hi, rfl, rfl⟩ := hrel
        have HGK := hide hgk
        clear hgk hlk
        by_cases hlt : i < l.length
        · obtain ⟨a', c', e', hrd⟩ := HR1.out
          obtain ⟨g, o, e2, hpts⟩ := hrd (fun e => by subst e; simp at hlt)
          injection e' with e3 e4 e5
          rw [e2] at e3
          subst e3
          have hpi := hpts i hlt
          have HT := hide (show (decide (l.length = k.length) && (l.take (i + 1)).all fun p => k.any (ptEq p)) = ((decide (l.length = k.length) && (l.take i).all fun p => k.any (ptEq p)) && k.any (ptEq l[i])) by rw [List.take_succ_eq_append_getElem hlt, List.all_append, Bool.and_assoc]; simp)
          generalize l[i] = p at *
          generalize (decide (l.length = k.length) && (l.take i).all fun p => k.any (ptEq p)) = b1 at *
          clear hpts hrd e2 e4 e5
          have HPI := hide hpi
          clear hpi
          go_wp2_with fail
          go_loopg [16, 17] k.length (fun gk v16 v17 wq => ∃ j mm : Nat, gk = k.length - j ∧ v17 = I j ∧ j ≤ k.length ∧ v16 = .bool ((k.take j).any (ptEq p)) ∧ wq = wc.drewN mm)
          case atStart => exact ⟨0, nn, by omega, rfl, by omega, by simp, rfl⟩
          case round =>
            obtain ⟨j, mm, hgj, rfl, hj, rfl, rfl⟩ := hrel
            have HGJ := hide hgj
            clear hgj
            by_cases hltj : j < k.length
            · obtain ⟨a2, c2', e2, hrd2⟩ := HR2.out
              obtain ⟨g2, o2, e3, hpts2⟩ := hrd2 (fun e => by subst e; simp at hltj)
              injection e2 with e4 e5 e6
              rw [e3] at e4
              subst e4
              have hqj := hpts2 j hltj
              have HT2 := hide (show (k.take (j + 1)).any (ptEq p) = ((k.take j).any (ptEq p) || ptEq p k[j]) by rw [List.take_succ_eq_append_getElem hltj, List.any_append]; simp)
              generalize k[j] = q at *
              generalize (k.take j).any (ptEq p) = b2 at *
              clear hpts2 hrd2 e3 e5 e6
              obtain ⟨wx, hwx⟩ : ∃ wx, wx = wc.drewN mm := ⟨_, rfl⟩
              rw [← hwx]
              have hp0 : PtAt wx g (o + i * 3) p := by rw [hwx]; exact HPI.out
              have hq0 : PtAt wx g2 (o2 + j * 3) q := by rw [hwx]; exact hqj
              have HX := hide hwx
              clear hwx hqj
              have hE := eqPt p q
              obtain ⟨p1, p2, p3⟩ := hp0
              obtain ⟨q1, q2, q3⟩ := hq0
              generalize ptEq p q = b3 at *
              cases b2 with
              | true =>
                go_wp2_with fail
                go_quiet (fail)
                go_wp2_with fail
                go_roundg (k.length - (j + 1))
                case measure => have := HGJ.out; omega
                case rel => exact ⟨j + 1, mm + nq, rfl, by go_num, hltj, by rw [HT2.out]; rfl, by rw [HX.out]; simp⟩
              | false =>
                go_wp2_with fail
                go_quiet (fail)
                go_wp2_with fail
                go_roundg (k.length - (j + 1))
                case measure => have := HGJ.out; omega
                case rel => exact ⟨j + 1, mm + nq, rfl, by go_num, hltj, by rw [HT2.out]; rfl, by rw [HX.out]; simp⟩
            · have ej : j = k.length := by omega
              subst ej
              rw [List.take_length]
              generalize k.any (ptEq p) = b4 at *
              cases b1 with
              | true =>
                go_wp2_with fail
                go_roundg (l.length - (i + 1))
                case measure => have := HGK.out; omega
                case rel => exact ⟨i + 1, mm, rfl, by go_num, hlt, by rw [HT.out]; rfl, rfl⟩
              | false =>
                go_wp2_with fail
                go_roundg (l.length - (i + 1))
                case measure => have := HGK.out; omega
                case rel => exact ⟨i + 1, mm, rfl, by go_num, hlt, by rw [HT.out]; rfl, rfl⟩
        · have ei : i = l.length := by omega
          subst ei
          rw [List.take_length]
          have HAL := hide (alike_all HP1.out.good.sorted HP2.out.good.sorted HP1.out.perm HP2.out.perm)
          generalize (decide (l.length = k.length) && l.all fun p => k.any (ptEq p)) = al at *
          obtain ⟨w5, hw5⟩ : ∃ w5, w5 = wc.drewN nn := ⟨_, rfl⟩
          rw [← hw5]
          have hb5 : Below wc.heap.size wc w5 := by rw [hw5]; exact ⟨rfl, rfl, rfl, Nat.le_refl _, fun _ _ => rfl⟩
          have HM1 := hide (HP1.out.map.below hb5)
          have HM2 := hide (HP2.out.map.below hb5)
          have HB5 := hide (HBW.out.trans (hb5.mono HBW.out.size))
          clear hw5 hb5
          have HG1 := hide HP1.out.good
          have HG2 := hide HP2.out.good
          have HST := hide (fulls_eq HG1.out HG2.out HAL.out)
          have HEQ := hide (eqCom L L')
          have HCO := hide (fun w hK => collide_of L L' w HG1.out HG2.out hK)
          have hn1 := List.isEmpty_eq_false_iff.2 (full_some L)
          have hn2 := List.isEmpty_eq_false_iff.2 (full_some L')
          have HCA := hide (fun w hM hK => HC.out.commit m v L w hM HG1.out hK)
          have HCB := hide (fun w hM hK => HC.out.commit n v' L' w hM HG2.out hK)
          have HPA := hide (fun w hM hK => HC.out.prove m v L w hM HG1.out hK)
          have HPB := hide (fun w hM hK => HC.out.prove n v' L' w hM HG2.out hK)
          have cA := com_of L
          have cB := com_of L'
          have HFO := hide (fun (r : Bool) hne e hr => found_of (r := r) HG1.out HG2.out hne e hr)
          generalize commitV L = CA at *
          generalize commitV L' = CB at *
          generalize Ward.fullText Sha.sha L = FA at *
          generalize Ward.fullText Sha.sha L' = FB at *
          have HK5 := hide (HK.out.below HB5.out)
          have HW5 := hide (HW.out.below HB5.out)
          clear HP1 HP2 HR1 HR2 HBW HGK
          go_wp2_with fail
          refine (HCA.out w5 HM1.out HK5.out).mono ?_
          rintro e w6 ⟨rfl, hb6⟩
          have hA6 : Below w5.heap.size w5 (w6.alloc (.cells CA.toArray 41)) := hb6.alloc hb6.size _
          have r6 := heap_alloc_new w6 (.cells CA.toArray 41)
          have z6 : w6.heap.size < (w6.alloc (.cells CA.toArray 41)).heap.size := by simp
          go_wp2_with (refine wpList_store_row rfl 41 (.tmp 18) (.tmp 124) rfl w6.heap.size CA.toArray rfl rfl 41 _ (heap_alloc_new w6 _) cA.info (by rw [cA.size]; rfl) cA.one ?_; rw [World.setRow_alloc_new])
          generalize w6.alloc (.cells CA.toArray 41) = w7 at *
          refine (HCB.out w7 (HM2.out.below hA6) (HK5.out.below hA6)).mono ?_
          rintro e w8 ⟨rfl, hb8⟩
          have hA8 : Below w5.heap.size w5 (w8.alloc (.cells CB.toArray 41)) := (hA6.trans (hb8.mono hA6.size)).alloc (Nat.le_trans hA6.size hb8.size) _
          have r68 : (w8.alloc (.cells CB.toArray 41)).heap[w6.heap.size]? = some (.cells CA.toArray 41 (0, 0)) := (Below.heap_alloc _ _ _ (Nat.lt_of_lt_of_le z6 hb8.size)).trans ((hb8.block _ z6).trans r6)
          have r8 := heap_alloc_new w8 (.cells CB.toArray 41)
          have z8 : w6.heap.size < w8.heap.size := Nat.lt_of_lt_of_le z6 hb8.size
          have z9 : w8.heap.size < (w8.alloc (.cells CB.toArray 41)).heap.size := by simp
          obtain ⟨g0, g1, g2, g3, g4, g5, g6, g7⟩ := (HW5.out.below hA8).cells
          have HR6 := hide r68
          have HR8 := hide r8
          have HA8 := hide hA8
          have Z8 := hide z8
          have Z9 := hide z9
          clear hA6 r6 z6 hb6 hb8 r68 r8 hA8 z8 z9
          go_wp2_with (refine wpList_store_row rfl 41 (.tmp 19) (.tmp 126) rfl w8.heap.size CB.toArray rfl rfl 41 _ (heap_alloc_new w8 _) cB.info (by rw [cB.size]; rfl) cB.one ?_; rw [World.setRow_alloc_new])
          generalize w8.alloc (.cells CB.toArray 41) = w9 at *
          refine (HPA.out w9 (HM1.out.below HA8.out) (HK5.out.below HA8.out)).mono ?_
          rintro e w10 ⟨rfl, hb10⟩
          have hA10 := HA8.out.trans (hb10.mono HA8.out.size)
          have HR6 := hide ((hb10.block w6.heap.size (Nat.lt_trans Z8.out Z9.out)).trans HR6.out)
          have HR8 := hide ((hb10.block w8.heap.size Z9.out).trans HR8.out)
          have Z10 := hide (Nat.lt_of_lt_of_le Z9.out hb10.size)
          clear g0 g1 g2 g3 g4 g5 g6 g7
          obtain ⟨g0, g1, g2, g3, g4, g5, g6, g7⟩ := (HW5.out.below hA10).cells
          clear hb10
          go_wp2_with fail
          refine (HPB.out w10 (HM2.out.below hA10) (HK5.out.below hA10)).mono ?_
          rintro e w11 ⟨rfl, hb11⟩
          have hA11 := hA10.trans (hb11.mono hA10.size)
          have HR6 := hide ((hb11.block w6.heap.size (Nat.lt_trans Z8.out Z10.out)).trans HR6.out)
          have HR8 := hide ((hb11.block w8.heap.size Z10.out).trans HR8.out)
          have HA11 := hide hA11
          have HFIN := hide (HB5.out.trans (hA11.mono HB5.out.size))
          clear g0 g1 g2 g3 g4 g5 g6 g7 hb11 hA10 hA11 HA8 HPA HPB HCA HCB
          have hst := HST.out
          cases al with
          | true =>
            have hLL := HAL.out.1 rfl
            have hE : ∀ W, (Op.equalIn 10000 41 (.agg CA.toArray) (.agg CB.toArray)).run Tryz.prog W = .ok true W := fun W => by rw [HEQ.out W, hLL]; simp
            clear hLL
            go_wp2_with (first | (refine wpList_load_row rfl 41 (.tmp 18) rfl w6.heap.size rfl 41 CA.toArray (0, 0) _ HR6.out Tryz.underlying41 rfl cA.info ?_) | (refine wpList_load_row rfl 41 (.tmp 19) rfl w8.heap.size rfl 41 CB.toArray (0, 0) _ HR8.out Tryz.underlying41 rfl cB.info ?_))
            go_ret
            exact ⟨rfl, HFIN.out⟩
          | false =>
            have HNE := hide (show L ≠ L' from fun e => absurd (HAL.out.2 e) (by decide))
            by_cases hroot : Sha.sha (Ward.rootText Sha.sha L) = Sha.sha (Ward.rootText Sha.sha L') ∧ L.length = L'.length
            · have hE : ∀ W, (Op.equalIn 10000 41 (.agg CA.toArray) (.agg CB.toArray)).run Tryz.prog W = .ok true W := fun W => by rw [HEQ.out W, decide_eq_true hroot.1, hroot.2]; simp
              have HRT := hide hroot
              clear hroot
              go_wp2_with (first | (refine wpList_load_row rfl 41 (.tmp 18) rfl w6.heap.size rfl 41 CA.toArray (0, 0) _ HR6.out Tryz.underlying41 rfl cA.info ?_) | (refine wpList_load_row rfl 41 (.tmp 19) rfl w8.heap.size rfl 41 CB.toArray (0, 0) _ HR8.out Tryz.underlying41 rfl cB.info ?_))
              refine (HCO.out w11 (HK5.out.below HA11.out)).mono ?_
              rintro e w12 ⟨r, rfl, hr, hb12⟩
              have hrt := HFO.out r HNE.out HRT.out.1 hr
              subst hrt
              have HS6 := hide ((hb12.block w6.heap.size (Array.getElem?_eq_some_iff.1 HR6.out).1).trans HR6.out)
              have HS8 := hide ((hb12.block w8.heap.size (Array.getElem?_eq_some_iff.1 HR8.out).1).trans HR8.out)
              have HFI2 := hide (HFIN.out.trans (hb12.mono HFIN.out.size))
              clear hr hb12
              go_wp2_with (first | (refine wpList_load_row rfl 41 (.tmp 18) rfl w6.heap.size rfl 41 CA.toArray (0, 0) _ HS6.out Tryz.underlying41 rfl cA.info ?_) | (refine wpList_load_row rfl 41 (.tmp 19) rfl w8.heap.size rfl 41 CB.toArray (0, 0) _ HS8.out Tryz.underlying41 rfl cB.info ?_))
              go_ret
              exact ⟨rfl, HFI2.out⟩
            · have hE : ∀ W, (Op.equalIn 10000 41 (.agg CA.toArray) (.agg CB.toArray)).run Tryz.prog W = .ok false W := fun W => by
                rw [HEQ.out W]
                congr 1
                rw [Bool.and_eq_false_iff]
                by_cases h1 : Sha.sha (Ward.rootText Sha.sha L) = Sha.sha (Ward.rootText Sha.sha L')
                · refine .inr ?_
                  have h2 : ¬ L.length = L'.length := fun e => hroot ⟨h1, e⟩
                  simp
                  omega
                · exact .inl (decide_eq_false h1)
              clear hroot
              go_wp2_with (first | (refine wpList_load_row rfl 41 (.tmp 18) rfl w6.heap.size rfl 41 CA.toArray (0, 0) _ HR6.out Tryz.underlying41 rfl cA.info ?_) | (refine wpList_load_row rfl 41 (.tmp 19) rfl w8.heap.size rfl 41 CB.toArray (0, 0) _ HR8.out Tryz.underlying41 rfl cB.info ?_))
              go_ret
              exact ⟨rfl, HFIN.out⟩
end Go.Proofs.YtenaelkbgkpllaaGreatDoor
/- Prove at a window. -/
namespace Go.Proofs.YtenaelkbgkpllaaGreatDoor
open Go.RowKit

/-- what is asked of windows holds -/
theorem asks_window {q : Ward.Qr} {L : List Ward.Pt} (hk : q.kind = 0) (hG : Good L) : Asks q L := by
  have hTS := Ward.tree_small hG.ok
  have hall : Ward.allN ((Ward.tree L).1 + 1) (Ward.mk Sha.sha (Ward.tree L).1 (Ward.tree L).2) = L := Ward.tree_all Sha.sha hG.ok
  have hw : Ward.withinN (Ward.window q) ((Ward.tree L).1 + 1) (Ward.mk Sha.sha (Ward.tree L).1 (Ward.tree L).2) = L.filter (Ward.inB (Ward.window q)) := by
    rw [Ward.within_all _ _ (Ward.tree_encl Sha.sha L), hall]
  have ha : Ward.ans q L = Ward.sortP (L.filter (Ward.inB (Ward.window q))) := by unfold Ward.ans; rw [if_neg (by omega)]
  refine ⟨fun w V hK hN => ?_, fun w B v b hi hv => ?_⟩
  · have h := answer_window q _ _ V w hk (by rw [hall]; have := hG.many; omega) (Ward.few_mk Sha.sha _ _ hTS.1) hN (by rw [hw]; exact Ward.ids_sub List.filter_sublist hG.ids)
    rw [hw, ← ha] at h
    exact h
  · rw [must_window hk]
    exact mustShow_window q v b w hk
theorem prove_window {q : Ward.Qr} (m : Nat) (v : Value) (L : List Ward.Pt) (w : World) (hk : q.kind = 0) (hq : Ward.mayBe q = true) (hm : IsMap w m v L) (hG : Good L) (hKT : KT w) :
    Calls Tryz.prog 17 #[.pointer (some ⟨m, 0, none⟩), Qv q] w fun e w' => e = .returned (.tuple #[Sv (Ward.proofText q L), I 0]) ∧ Below w.heap.size w w' :=
  prove_of m v L w (asks_window hk hG) hq hm hG hKT
/-- the query that has all shown -/
def wholeQ : Ward.Qr := ⟨0, -1000000, -1000000, 1000000, 1000000, 0, 0, 0⟩
theorem whole_may : Ward.mayBe wholeQ = true := by decide
theorem whole_full {L : List Ward.Pt} (hG : Good L) : Ward.proofText wholeQ L = Ward.fullText Sha.sha L := by
  refine Ward.proof_full (fun b hb => ?_) _ _ (Ward.tree_small hG.ok).1
  obtain ⟨h1, h2, h3, h4, h5, h6, h7, h8⟩ := hb
  rw [must_window rfl]
  simp only [Ward.meets, Ward.window, wholeQ, Bool.and_eq_true]
  exact ⟨⟨⟨decide_eq_true h5, decide_eq_true h2⟩, decide_eq_true h7⟩, decide_eq_true h4⟩
/-- the calls that Bound stands on -/
theorem calls2 : Calls2 := ⟨fun m v L w hm hG hK => commitment_any m v L w hm hG hK, fun m v L w hm hG hK => by
  have h := prove_window (q := wholeQ) m v L w rfl whole_may hm hG hK
  rw [whole_full hG] at h
  exact h⟩
end Go.Proofs.YtenaelkbgkpllaaGreatDoor
/- The answer to a nearest query; Prove for every query. -/
namespace Go.Proofs.YtenaelkbgkpllaaGreatDoor
open Go.RowKit

theorem size_few : ∀ (n : Nat) (t : Ward.NT n), Ward.Few n t → 3 * sizeN n t + 5 ≤ 5 * 4 ^ n
  | 0, t, _ => nomatch t
  | n + 1, t, h => by
    obtain ⟨h1, h2, h3⟩ := h
    have key : ∀ K : List (Ward.NT n), (∀ c ∈ K, Ward.Few n c) → 3 * (K.map (sizeN n)).sum + 5 * K.length ≤ K.length * (5 * 4 ^ n) := by
      intro K
      induction K with
      | nil => intro _; simp
      | cons c K ih =>
        intro hK
        have hc := size_few n c (hK c List.mem_cons_self)
        have hi := ih (fun d hd => hK d (List.mem_cons_of_mem _ hd))
        rw [List.map_cons, List.sum_cons, List.length_cons, Nat.add_mul, Nat.one_mul]
        omega
    have hk := key _ h3
    have h4 : (Ward.Nd.kids t).length * (5 * 4 ^ n) + 5 * 4 ≤ 4 * (5 * 4 ^ n) + 5 * (Ward.Nd.kids t).length := by
      have hp : 1 ≤ 4 ^ n := Nat.one_le_pow _ _ (by decide)
      have hx : (4 - (Ward.Nd.kids t).length) * 5 ≤ (4 - (Ward.Nd.kids t).length) * (5 * 4 ^ n) := Nat.mul_le_mul_left _ (by omega)
      rw [Nat.sub_mul, Nat.sub_mul] at hx
      have hy : (Ward.Nd.kids t).length * (5 * 4 ^ n) ≤ 4 * (5 * 4 ^ n) := Nat.mul_le_mul_right _ h2
      omega
    show 3 * sizeN (n + 1) t + 5 ≤ _
    unfold sizeN
    rw [Nat.pow_succ]
    omega
set_option maxRecDepth 100000 in
set_option maxHeartbeats 4000000 in
theorem answer_near (q : Ward.Qr) (n : Nat) (t : Ward.NT n) (V : List Value) (w : World) (hk : q.kind = 1) (hN : NodeIs w (fun g => g < w.heap.size) n t V) (hfew : Ward.Few n t) (hin : Ward.InN n t) (hen : Ward.Encl n t) (hpo : ∀ p ∈ Ward.allN n t, p.Ok) (hids : Ward.Ids (Ward.allN n t)) (hsz : sizeN n t ≤ 80000) (hx : -1000000 ≤ q.x ∧ q.x ≤ 1000000) (hy : -1000000 ≤ q.y ∧ q.y ≤ 1000000) (hk1 : 0 ≤ q.k) (hk2 : q.k ≤ 1000) :
    Calls Tryz.prog 40 #[.agg V.toArray, Qv q] w fun e w' => ∃ v, e = .returned v ∧ Own w' w.heap.size v (Ward.ans q (Ward.allN n t)) ∧ Below w.heap.size w w' := by
  have HNE := hide (fun (W : World) (hb : Below w.heap.size w W) => nearest_any q n t V W (NodeIs.keep (S' := fun g => g < W.heap.size) (below_same hb (fun _ h => h)) (fun g (h : g < w.heap.size) => Nat.lt_of_lt_of_le h hb.size) n t V hN) hfew hin hen hpo hids hsz hx hy hk1 hk2)
  have HA := hide (show Ward.ans q (Ward.allN n t) = (Ward.sortN q.x q.y (Ward.allN n t)).take q.k.toNat by unfold Ward.ans; rw [if_pos hk])
  obtain ⟨fs, hu⟩ := underNode
  have HU := hide hu
  obtain ⟨a1, l1, c1, a2, l2, c2, hV, hd⟩ := hN.cells
  have HR := hide (show Row39 V by rw [hV]; exact nodeV_row hd)
  clear hu hV hd hN hfew hin hen hpo hids hsz hx hy hk1 hk2
  obtain ⟨qk, qa, qb, qc, qd, qx, qy, qn⟩ := q
  simp only at hk
  subst hk
  rw [HA.out]
  simp only at HNE ⊢
  have hb2 := fun o o' => ((Below.refl w.heap.size w).alloc (Nat.le_refl _) o).alloc (by simp) o'
  have hr2 := heap_alloc2_new w
  have hr1 := heap_alloc2_old w
  have hs2 := fun o o' => show ((w.alloc o).alloc o').heap.size = w.heap.size + 2 by simp
  go_enter Tryz.func40, Tryz.ntmps40
  go_upto_region 2 with fail
  generalize hW : World.alloc (World.alloc w _) _ = w1
  have hb1 : Below w.heap.size w w1 := by rw [← hW]; exact hb2 _ _
  have hn1 : w1.heap[w.heap.size]? = some (.cells V.toArray 90 (0, 0)) := by rw [← hW]; exact hr1 _ _
  have hq1 : w1.heap[w.heap.size + 1]? = some (.cells #[I 1, I qa, I qb, I qc, I qd, I qx, I qy, I qn] 46 (0, 0)) := by rw [← hW]; exact hr2 _ _
  have hs1 : w.heap.size + 2 ≤ w1.heap.size := by rw [← hW, hs2]; exact Nat.le_refl _
  clear hb2 hr1 hr2 hs2 hW
  have HB1 := hide hb1
  have HN1 := hide hn1
  have HNX := hide (HNE.out w1 hb1)
  obtain ⟨k0, k1, k2, k3, k4, k5, k6, k7⟩ := rowQ8 hq1
  clear hb1 hn1 hq1 HNE
  go_wp2_with (refine wpList_load_row rfl 90 (.tmp 2) rfl w.heap.size rfl 90 V.toArray (0, 0) (.struct fs) HN1.out HU.out rfl HR.out.info ?_)
  refine HNX.out.mono ?_
  rintro _ w4 ⟨v4, rfl, ho4, hb4⟩
  have HO4 := hide (own_mono (B' := w.heap.size) ho4 (by omega))
  have HB4 := hide (HB1.out.trans (hb4.mono (by omega)))
  clear ho4 hb4 k0 k1 k2 k3 k4 k5 k6 k7
  go_wp2_with fail
  go_ret
  exact ⟨_, rfl, HO4.out, HB4.out⟩
/-- what is asked of what is nearest holds -/
theorem asks_near {q : Ward.Qr} {L : List Ward.Pt} (hk : q.kind = 1) (hq : Ward.mayBe q = true) (hG : Good L) : Asks q L := by
  have hTS := Ward.tree_small hG.ok
  have hall : Ward.allN ((Ward.tree L).1 + 1) (Ward.mk Sha.sha (Ward.tree L).1 (Ward.tree L).2) = L := Ward.tree_all Sha.sha hG.ok
  have hfew := Ward.few_mk Sha.sha _ _ hTS.1
  have hdep := Ward.tree_depth (l := L) (by have := hG.many; omega)
  have hsz : sizeN ((Ward.tree L).1 + 1) (Ward.mk Sha.sha (Ward.tree L).1 (Ward.tree L).2) ≤ 80000 := by
    have h1 := size_few _ _ hfew
    have h2 : 4 ^ ((Ward.tree L).1 + 1) ≤ 4 ^ 4 := Nat.pow_le_pow_right (by decide) (by omega)
    have h3 : 4 ^ 4 = 256 := by decide
    omega
  obtain ⟨hx, hy, hk1, hk2⟩ : (-1000000 ≤ q.x ∧ q.x ≤ 1000000) ∧ (-1000000 ≤ q.y ∧ q.y ≤ 1000000) ∧ 1 ≤ q.k ∧ q.k ≤ 20 := by
    unfold Ward.mayBe at hq
    rw [if_neg (by omega), if_pos hk] at hq
    simp only [Ward.coordOk, Bool.and_eq_true, decide_eq_true_eq] at hq
    omega
  have hans : Ward.ans q L = (Ward.sortN q.x q.y L).take q.k.toNat := by unfold Ward.ans; rw [if_pos hk]
  have hal : (Ward.ans q L).length ≤ 20 := by rw [hans, List.length_take]; omega
  refine ⟨fun w V hK hN => ?_, fun w B v b hi hv => ?_⟩
  · have h := answer_near q _ _ V w hk hN hfew (Ward.in_mk Sha.sha _ _ hTS.1) (Ward.tree_encl Sha.sha L) (by rw [hall]; exact hG.ok) (by rw [hall]; exact hG.ids) hsz hx hy (by omega) (by omega)
    rw [hall] at h
    exact h
  · obtain ⟨ad, c, ev, hrd⟩ := hv.readsS
    subst ev
    by_cases hl : ((Ward.ans q L).length : Int) < q.k
    · rw [must_few hk hl]
      exact mustShow_few q ad c _ b w hk hl
    · have hne : Ward.ans q L ≠ [] := fun e => by rw [e] at hl; simp at hl; omega
      have hpos : 0 < (Ward.ans q L).length := List.length_pos_iff.2 hne
      obtain ⟨g, o, rfl, -, hp⟩ := hrd hne
      have hlast : (Ward.ans q L).getLast? = some (Ward.ans q L)[(Ward.ans q L).length - 1] := by rw [List.getLast?_eq_getElem?, List.getElem?_eq_getElem (by omega)]
      have hmem : (Ward.ans q L)[(Ward.ans q L).length - 1] ∈ L := (Ward.sortN_perm q.x q.y L).mem_iff.1 (List.mem_of_mem_take (by rw [← hans]; exact List.getElem_mem _))
      rw [must_last hk hl hlast]
      exact mustShow_last q g o c _ _ b w hk hl hpos (by omega) (hp _ (by omega)) (hG.ok _ hmem) hi hx hy
theorem kind_two {q : Ward.Qr} (hq : Ward.mayBe q = true) : q.kind = 0 ∨ q.kind = 1 := by
  unfold Ward.mayBe at hq
  by_cases h0 : q.kind = 0
  · exact .inl h0
  · by_cases h1 : q.kind = 1
    · exact .inr h1
    · rw [if_neg h0, if_neg h1] at hq; cases hq
theorem asks_any {q : Ward.Qr} {L : List Ward.Pt} (hq : Ward.mayBe q = true) (hG : Good L) : Asks q L := by
  rcases kind_two hq with h | h
  · exact asks_window h hG
  · exact asks_near h hq hG
theorem prove_any {q : Ward.Qr} (m : Nat) (v : Value) (L : List Ward.Pt) (w : World) (hq : Ward.mayBe q = true) (hm : IsMap w m v L) (hG : Good L) (hKT : KT w) :
    Calls Tryz.prog 17 #[.pointer (some ⟨m, 0, none⟩), Qv q] w fun e w' => e = .returned (.tuple #[Sv (Ward.proofText q L), I 0]) ∧ Below w.heap.size w w' :=
  prove_of m v L w (asks_any hq hG) hq hm hG hKT
end Go.Proofs.YtenaelkbgkpllaaGreatDoor
/- The answer of a tree that a proof shows; what must be shown. -/
namespace Go.Proofs.YtenaelkbgkpllaaGreatDoor
open Go.RowKit

theorem near_bounds {q : Ward.Qr} (hk : q.kind = 1) (hq : Ward.mayBe q = true) : (-1000000 ≤ q.x ∧ q.x ≤ 1000000) ∧ (-1000000 ≤ q.y ∧ q.y ≤ 1000000) ∧ 1 ≤ q.k ∧ q.k ≤ 20 := by
  unfold Ward.mayBe at hq
  rw [if_neg (by omega), if_pos hk] at hq
  simp only [Ward.coordOk, Bool.and_eq_true, decide_eq_true_eq] at hq
  omega
theorem answer_tree {q : Ward.Qr} (hq : Ward.mayBe q = true) (t : Ward.NT 7) (V : List Value) (w : World) (hN : NodeIs w (fun g => g < w.heap.size) 7 t V) (hF : Ward.Fine 7 t) (hE : Ward.Encl 7 t) (hI : Ward.Ids (Ward.allN 7 t)) (hl : (Ward.allN 7 t).length ≤ 600) :
    Calls Tryz.prog 40 #[.agg V.toArray, Qv q] w fun e w' => ∃ v, e = .returned v ∧ Own w' w.heap.size v (Ward.ans q (Ward.allN 7 t)) ∧ Below w.heap.size w w' := by
  rcases kind_two hq with h | h
  · have hw : Ward.withinN (Ward.window q) 7 t = (Ward.allN 7 t).filter (Ward.inB (Ward.window q)) := Ward.within_all _ _ hE
    have ha : Ward.ans q (Ward.allN 7 t) = Ward.sortP ((Ward.allN 7 t).filter (Ward.inB (Ward.window q))) := by unfold Ward.ans; rw [if_neg (by omega)]
    have hc := answer_window q 7 t V w h (by omega) hF.few hN (by rw [hw]; exact Ward.ids_sub List.filter_sublist hI)
    rw [hw, ← ha] at hc
    exact hc
  · obtain ⟨hx, hy, h1, h2⟩ := near_bounds h hq
    have hsz : sizeN 7 t ≤ 80000 := by
      have h1 := size_few _ _ hF.few
      have h3 : 4 ^ 7 = 16384 := by decide
      omega
    exact answer_near q 7 t V w h hN hF.few hF.inn hE hF.ok hI hsz hx hy (by omega) (by omega)
theorem mustShow_any {q : Ward.Qr} (hq : Ward.mayBe q = true) {P : List Ward.Pt} (hP : ∀ p ∈ P, p.Ok) (w : World) (B : Nat) (v : Value) (b : Ward.Box) (hi : b.In) (hv : Own w B v (Ward.ans q P)) :
    Calls Tryz.prog 42 #[Qv q, v, Bx b] w fun e w' => e = .returned (.bool (Ward.must q (Ward.ans q P) b)) ∧ Below w.heap.size w w' := by
  rcases kind_two hq with hk | hk
  · rw [must_window hk]
    exact mustShow_window q v b w hk
  · obtain ⟨hx, hy, hk1, hk2⟩ := near_bounds hk hq
    have hans : Ward.ans q P = (Ward.sortN q.x q.y P).take q.k.toNat := by unfold Ward.ans; rw [if_pos hk]
    have hal : (Ward.ans q P).length ≤ 20 := by rw [hans, List.length_take]; omega
    obtain ⟨ad, c, ev, hrd⟩ := hv.readsS
    subst ev
    by_cases hl : ((Ward.ans q P).length : Int) < q.k
    · rw [must_few hk hl]
      exact mustShow_few q ad c _ b w hk hl
    · have hne : Ward.ans q P ≠ [] := fun e => by rw [e] at hl; simp at hl; omega
      have hpos : 0 < (Ward.ans q P).length := List.length_pos_iff.2 hne
      obtain ⟨g, o, rfl, -, hp⟩ := hrd hne
      have hlast : (Ward.ans q P).getLast? = some (Ward.ans q P)[(Ward.ans q P).length - 1] := by rw [List.getLast?_eq_getElem?, List.getElem?_eq_getElem (by omega)]
      have hmem : (Ward.ans q P)[(Ward.ans q P).length - 1] ∈ P := (Ward.sortN_perm q.x q.y P).mem_iff.1 (List.mem_of_mem_take (by rw [← hans]; exact List.getElem_mem _))
      rw [must_last hk hl hlast]
      exact mustShow_last q g o c _ _ b w hk hl hpos (by omega) (hp _ (by omega)) (hP _ hmem) hi hx hy
/-- the closure of BoxesHold -/
theorem boxHold_any (n : Nat) (t : Ward.NT n) (V : List Value) (w : World) (S : Nat → Prop) (hS : ∀ g, S g → g < w.heap.size) (hN : NodeIs w S n t V) (hfew : Ward.Few n t) (hnum : Ward.NumsN n t) (hK : KT w) :
    Calls Tryz.prog 85 #[.agg V.toArray] w fun e w' => e = .returned (.bool (Ward.boxHolds n t)) ∧ Below w.heap.size w w' := by
  cases n with
  | zero => exact nomatch t
  | succ n =>
    cases hs : Ward.shownN (n + 1) t
    · exact boxHold_hidden (n + 1) t V w S hS hN hfew hs
    · exact boxHold_shown n t V w S hS hN hfew (fun c hc => (hnum c hc).1) hK hs
end Go.Proofs.YtenaelkbgkpllaaGreatDoor
/- A test of every child. -/
namespace Go.Proofs.YtenaelkbgkpllaaGreatDoor
open Go.RowKit

/-- of a test of children: what it says -/
def Holdsa (w : World) (P : (n : Nat) → Ward.NT n → Bool) : Prop := ∀ (W : World) (n : Nat) (t : Ward.NT n) (V : List Value) (S : Nat → Prop), (∀ g, S g → g < W.heap.size) → NodeIs W S n t V → Ward.Few n t → Ward.NumsN n t → (Ward.boxN n t).In → Below w.heap.size w W → Calls Tryz.prog 85 #[.agg V.toArray] W fun e w' => e = .returned (.bool (P n t)) ∧ Below W.heap.size W w'
theorem Holdsa.below {w w' : World} {P : (n : Nat) → Ward.NT n → Bool} (h : Holdsa w P) (hb : Below w.heap.size w w') : Holdsa w' P := fun W n t V S hS hN h1 h2 h3 hW => h W n t V S hS hN h1 h2 h3 (hb.trans (hW.mono hb.size))
theorem wp_load_nodeG {d : Option Tmp} {x : Operand} {tt : TypeId} {ps : String} {af : Array Edge} {gd : Option (Nat × Bool)} {a : Act} {w : World} {K : Act → World → Prop} {Q : Exit → Act → World → Prop} (h : NodeRow w (a.eval x)) :
    Oper.wp Tryz.prog { dst := d, op := .load 90 x, type := tt, pos := ps, after := af, guard := gd } a w K Q = K (a.put d (loadVal w (a.eval x))) w := by
  have e : Oper.wp Tryz.prog { dst := d, op := .load 90 x, type := tt, pos := ps, after := af, guard := gd } a w K Q = Oper.wp Tryz.prog { dst := d, op := .load 90 x, type := tt, pos := ps, after := af, guard := none } a w K Q := rfl
  rw [e]
  exact wp_load_node h
theorem every_step (P : (n : Nat) → Ward.NT n → Bool) (n : Nat) (t : Ward.NT (n + 1)) : Ward.everyN P (n + 1) t = (Ward.Nd.kids t).all fun c => P n c && Ward.everyN P n c := rfl
theorem all_take {α : Type} (f : α → Bool) (K : List α) (i : Nat) (h : i < K.length) (ht : (K.take i).all f = true) : (f K[i] = true → (K.take (i + 1)).all f = true) ∧ (f K[i] = false → K.all f = false) := by
  refine ⟨fun hf => ?_, fun hf => ?_⟩
  · rw [List.take_succ_eq_append_getElem h, List.all_append, ht]
    simp [hf]
  · rw [List.all_eq_false]
    exact ⟨K[i], List.getElem_mem h, by rw [hf]; simp⟩
attribute [local go_sem ↓] Go.wp_at_zero Go.wp_at_succ wp_load_nodeG
set_option maxRecDepth 100000 in
set_option maxHeartbeats 4000000 in
theorem every_a (P : (n : Nat) → Ward.NT n → Bool) : ∀ (n : Nat) (t : Ward.NT n) (V : List Value) (w : World) (S : Nat → Prop) (_ : ∀ g, S g → g < w.heap.size) (_ : NodeIs w S n t V) (_ : Ward.Few n t) (_ : Ward.NumsN n t) (_ : Ward.InN n t) (_ : Holdsa w P),
    Calls Tryz.prog 84 #[.agg V.toArray, .func (.func 85) #[] #[]] w fun e w' => e = .returned (.bool (Ward.everyN P n t)) ∧ Below w.heap.size w w' := by
  intro n
  induction n with
  | zero => intro t; exact nomatch t
  | succ n ih =>
    intro t V w S hS hN hfew hnum hin hho
    have HEV := hide (every_step P n t)
    have IH := hide ih
    have HFEW := hide hfew
    have HNUM := hide hnum
    have HIN := hide hin
    have HHO := hide hho
    obtain ⟨a1, l1, c1, a2, l2, c2, hV, hd⟩ := hN.cells
    have HR := hide (show Row39 V by rw [hV]; exact nodeV_row hd)
    obtain ⟨vp, vc, hVe, -, hrp, ⟨ac, cc, rfl, hkids⟩⟩ := hN
    have HVE := hide hVe
    have HKD := hide hkids
    have HS := hide hS
    have hk4 : (Ward.Nd.kids t).length ≤ 4 := HFEW.out.2.1
    obtain ⟨fs, hu⟩ := underNode
    have HU := hide hu
    clear hu hV hd hVe hrp hkids hS ih hfew hnum hin hho
    have hb2 := fun o => (Below.refl w.heap.size w).alloc (Nat.le_refl _) o
    have hr2 := heap_alloc_new w
    go_enter Tryz.func84, Tryz.ntmps84
    go_upto_region 1 with fail
    generalize hW : World.alloc w _ = w1
    have hb1 : Below w.heap.size w w1 := by rw [← hW]; exact hb2 _
    have hn1 : w1.heap[w.heap.size]? = some (.cells V.toArray 90 (0, 0)) := by rw [← hW]; exact hr2 _
    clear hb2 hr2 hW
    have hs1 : w.heap.size < w1.heap.size := (Array.getElem?_eq_some_iff.1 hn1).1
    have HB1 := hide hb1
    have HN1 := hide (show w1.heap[w.heap.size]? = some (.cells (nodeV vp (.slice ac (Ward.Nd.kids t).length cc) (Ward.Nd.box t) (Ward.Nd.n t) ((Ward.Nd.dig t).map Y)).toArray 90 (0, 0)) by rw [hn1, HVE.out])
    obtain ⟨⟨k0, k1⟩, -, -⟩ := node_cells HN1.out
    clear hb1 hn1
    go_wp2_with fail
    go_loopg [10] (Ward.Nd.kids t).length (fun gk v10 wq => ∃ i : Nat, gk = (Ward.Nd.kids t).length - i ∧ v10 = I i ∧ i ≤ (Ward.Nd.kids t).length ∧ Below w.heap.size w wq ∧ ((Ward.Nd.kids t).take i).all (fun c => P n c && Ward.everyN P n c) = true)
    case atStart => exact ⟨0, by omega, rfl, by omega, HB1.out, rfl⟩
    case round =>
      obtain ⟨i, hgk, rfl, hi, hb, ha⟩ := hrel
      have HGK := hide hgk
      have HB := hide hb
      have HA := hide ha
      have hsz := hb.size
      clear hgk hb ha
      by_cases hlt : i < (Ward.Nd.kids t).length
      · obtain ⟨g, o, rfl, hgS, hrows⟩ := HKD.out (fun e => by rw [e] at hlt; simp at hlt)
        obtain ⟨U, hU, hc⟩ := hrows i hlt
        have hgl := HS.out g hgS
        have HC := hide (rangeAt_block hc (HB.out.block g hgl))
        have HU2 := hide (NodeIs.keep (S' := S) (below_same HB.out HS.out) (fun _ h => h) n _ U hU)
        obtain ⟨d1, m1, e1, d2, m2, e2, hV, hd⟩ := HU2.out.cells
        have HR2 := hide (show Row39 U by rw [hV]; exact nodeV_row hd)
        have HST := hide (all_take (fun c => P n c && Ward.everyN P n c) (Ward.Nd.kids t) i hlt HA.out)
        have HHX := hide (fun (W : World) (hb : Below wr.heap.size wr W) => HHO.out W n _ U S (fun j hj => by have := HS.out j hj; have := hb.size; omega) (NodeIs.keep (S' := S) (below_same hb (fun j hj => by have := HS.out j hj; omega)) (fun _ h => h) n _ U HU2.out) (HFEW.out.2.2 _ (List.getElem_mem hlt)) (HNUM.out _ (List.getElem_mem hlt)).2 (HIN.out _ (List.getElem_mem hlt)).1 (HB.out.trans (hb.mono hsz)))
        have HIX := hide (fun (W : World) (hb : Below wr.heap.size wr W) => IH.out _ U W S (fun j hj => by have := HS.out j hj; have := hb.size; omega) (NodeIs.keep (S' := S) (below_same hb (fun j hj => by have := HS.out j hj; omega)) (fun _ h => h) n _ U HU2.out) (HFEW.out.2.2 _ (List.getElem_mem hlt)) (HNUM.out _ (List.getElem_mem hlt)).2 (HIN.out _ (List.getElem_mem hlt)).2 (HHO.out.below (HB.out.trans (hb.mono hsz))))
        clear hc hU hrows hV hd
        generalize (Ward.Nd.kids t)[i] = c at *
        go_upto_region 4 with (first | (refine wpList_load_mid rfl 90 (.tmp 12) rfl g (o + i * 39) rfl U (.struct fs) HC.out HU.out rfl HR2.out.infl ?_) | (refine wpList_store_row rfl 90 (.tmp 6) (.tmp 13) rfl wr.heap.size U.toArray rfl rfl 90 _ (heap_alloc_new wr _) HR2.out.info (by rw [HR2.out.size]; rfl) HR2.out.one ?_; rw [World.setRow_alloc_new]))
        have hb5' := fun o => (Below.refl wr.heap.size wr).alloc (Nat.le_refl _) o
        have hr5' := heap_alloc_new wr
        generalize hW : World.alloc wr _ = w5
        have hb5 : Below wr.heap.size wr w5 := by rw [← hW]; exact hb5' _
        have hr5 : w5.heap[wr.heap.size]? = some (.cells U.toArray 90 (0, 0)) := by rw [← hW]; exact hr5' _
        clear hb5' hr5' hW
        have hs5 : wr.heap.size < w5.heap.size := (Array.getElem?_eq_some_iff.1 hr5).1
        have HB5 := hide hb5
        have HR5 := hide hr5
        clear hb5 hr5
        have HX := hide (HHX.out w5 HB5.out)
        generalize P n c = r at *
        go_wp2_with (refine wpList_load_row rfl 90 (.tmp 6) rfl wr.heap.size rfl 90 U.toArray (0, 0) (.struct fs) HR5.out HU.out rfl HR2.out.info ?_)
        refine HX.out.mono ?_
        rintro _ w6 ⟨rfl, hb6⟩
        have hs6 := hb6.size
        have HB6 := hide (HB5.out.trans (hb6.mono (by omega)))
        have HR6 := hide ((hb6.block wr.heap.size hs5).trans HR5.out)
        clear hb6
        cases r with
        | false =>
          go_wp2_with fail
          go_ret
          refine ⟨?_, HB.out.trans (HB6.out.mono (by omega))⟩
          rw [HEV.out, HST.out.2 rfl]; rfl
        | true =>
          have HY := hide (HIX.out w6 HB6.out)
          generalize Ward.everyN P n c = r2 at *
          have n6 : NodeRow w6 (.pointer (some ⟨wr.heap.size, 0, none⟩)) := nodeRow_of HR6.out HR2.out.size
          have l6 : loadVal w6 (.pointer (some ⟨wr.heap.size, 0, none⟩)) = .agg U.toArray := loadVal_row HR6.out
          go_wp2_with fail
          refine HY.out.mono ?_
          rintro _ w7 ⟨rfl, hb7⟩
          have HB7 := hide (HB6.out.trans (hb7.mono (by omega)))
          clear hb7 n6 l6
          cases r2 with
          | false =>
            go_wp2_with fail
            go_ret
            refine ⟨?_, HB.out.trans (HB7.out.mono (by omega))⟩
            rw [HEV.out, HST.out.2 rfl]; rfl
          | true =>
            go_wp2_with fail
            go_roundg ((Ward.Nd.kids t).length - (i + 1))
            case measure => have := HGK.out; omega
            case rel => exact ⟨i + 1, rfl, by go_num, hlt, HB.out.trans (HB7.out.mono (by omega)), HST.out.1 rfl⟩
      · have ei : i = (Ward.Nd.kids t).length := by omega
        subst ei
        rw [List.take_length] at HA
        go_wp2_with fail
        go_ret
        refine ⟨?_, HB.out⟩
        rw [HEV.out, HA.out]; rfl
end Go.Proofs.YtenaelkbgkpllaaGreatDoor
