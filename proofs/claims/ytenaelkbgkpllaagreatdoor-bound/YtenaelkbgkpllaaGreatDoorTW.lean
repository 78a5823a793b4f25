/- The proof of an answer. -/
import Derived.Test.YtenaelkbgkpllaaGreatDoorTU
import Derived.Test.YtenaelkbgkpllaaGreatDoorTV
import Derived.Test.YtenaelkbgkpllaaGreatDoorTP
import Derived.Test.YtenaelkbgkpllaaGreatDoorWardM
namespace Go.Proofs.YtenaelkbgkpllaaGreatDoor
open Go.RowKit

attribute [local go_sem ↓] Go.wp_at_zero Go.wp_at_succ wp_load_node
set_option maxRecDepth 100000 in
set_option maxHeartbeats 2000000 in
/-- the proof as a text, of a tree -/
theorem proof_any (m : Ward.Box → Bool) (kq ka : Nat) (n : Nat) (t : Ward.NT n) (V : List Value) (w : World) (hlen : (Ward.proofN m n t).length ≤ 600000) (hfew : Ward.Few n t) (hin : Ward.InN n t) (hN : NodeIs w (fun g => g < w.heap.size) n t V) (hmu : MustIs w w.heap.size kq ka m) (hne : Ward.proofN m n t ≠ []) :
    Calls Tryz.prog 43 #[.agg V.toArray, .func (.func 41) #[] #[.pointer (some ⟨kq, 0, none⟩), .pointer (some ⟨ka, 0, none⟩)]] w fun e w' => e = .returned (Sv (Ward.proofN m n t)) ∧ Below w.heap.size w w' := by
  obtain ⟨fs, hu⟩ := underNode
  have HU := hide hu
  obtain ⟨a1, l1, c1, a2, l2, c2, hV, hd⟩ := hN.cells
  have HR := hide (show Row39 V by rw [hV]; exact nodeV_row hd)
  have HAP := hide (fun (W : World) (hb : Below w.heap.size w W) => appendProof_any m kq ka n t (.slice none 0 0) [] V W w.heap.size (fun g => g < w.heap.size) (fun _ h => h) hb.size (by simpa using hlen) hfew hin (NodeIs.keep (below_same hb (fun _ h => h)) (fun _ h => h) n t V hN) (ownB_nil _ _) (hmu.below hb))
  have HNE := hide hne
  clear hu hV hd hN hfew hin hmu hne
  generalize Ward.proofN m n t = T at *
  have hb2 := fun o => (Below.refl w.heap.size w).alloc (Nat.le_refl _) o
  have hr2 := heap_alloc_new w
  go_enter Tryz.func43, Tryz.ntmps43
  go_upto_region 1 with fail
  generalize hW : World.alloc w _ = w1
  have hb1 : Below w.heap.size w w1 := by rw [← hW]; exact hb2 _
  have hn1 : w1.heap[w.heap.size]? = some (.cells V.toArray 90 (0, 0)) := by rw [← hW]; exact hr2 _
  clear hb2 hr2 hW
  have HB1 := hide hb1
  have HN1 := hide hn1
  clear hb1 hn1
  go_wp2_with (refine wpList_load_row rfl 90 (.tmp 2) rfl w.heap.size rfl 90 V.toArray (0, 0) (.struct fs) HN1.out HU.out rfl HR.out.info ?_)
  refine (HAP.out w1 HB1.out).mono ?_
  rintro _ w2 ⟨v2, rfl, ho2, hg2, -⟩
  rw [List.nil_append] at ho2
  have hc := ho2.conv HNE.out
  have HB2 := hide (show Below w.heap.size w w2 from HB1.out.trans ⟨hg2.os, hg2.tape, hg2.output, hg2.size, fun k hk => hg2.block k (Nat.lt_of_lt_of_le hk HB1.out.size) (by simp [Value.ownBlock])⟩)
  clear ho2 hg2
  go_wp2
  go_ret
  exact ⟨rfl, HB2.out⟩
/-- what Answer and MustShow say, of a query and the points of a map -/
structure Asks (q : Ward.Qr) (L : List Ward.Pt) : Prop where
  answer : ∀ (w : World) (V : List Value), KT w → NodeIs w (fun g => g < w.heap.size) ((Ward.tree L).1 + 1) (Ward.mk Sha.sha (Ward.tree L).1 (Ward.tree L).2) V → Calls Tryz.prog 40 #[.agg V.toArray, Qv q] w fun e w' => ∃ v, e = .returned v ∧ Own w' w.heap.size v (Ward.ans q L) ∧ Below w.heap.size w w'
  must : ∀ (w : World) (B : Nat) (v : Value) (b : Ward.Box), b.In → Own w B v (Ward.ans q L) → Calls Tryz.prog 42 #[Qv q, v, Bx b] w fun e w' => e = .returned (.bool (Ward.must q (Ward.ans q L) b)) ∧ Below w.heap.size w w'
set_option maxRecDepth 100000 in
set_option maxHeartbeats 2000000 in
/-- the closure, where Prove keeps the query and the answer -/
theorem must_closure {q : Ward.Qr} {L : List Ward.Pt} (hA : Asks q L) (w : World) (kq ka B : Nat) (v : Value) (hq : w.heap[kq]? = some (.cells #[I q.kind, I q.a, I q.b, I q.c, I q.d, I q.x, I q.y, I q.k] 46 (0, 0))) (ha : w.heap[ka]? = some (.cells #[v] 27 (0, 0))) (hv : Own w B v (Ward.ans q L)) : MustIs w w.heap.size kq ka (Ward.must q (Ward.ans q L)) := by
  intro W b hi hW
  have hq0 := (Array.getElem?_eq_some_iff.1 hq).1
  have ha0 := (Array.getElem?_eq_some_iff.1 ha).1
  have hb2 := fun o => (Below.refl W.heap.size W).alloc (Nat.le_refl _) o
  have hr2 := heap_alloc_new W
  have HM := hide (fun (W' : World) (hb : Below w.heap.size w W') => hA.must W' B v b hi (hv.below hb))
  generalize Ward.must q (Ward.ans q L) b = r at *
  obtain ⟨av, cv, rfl⟩ := hv.slice
  clear hv hA
  generalize (Ward.ans q L).length = al at *
  go_enter Tryz.func41, Tryz.ntmps41
  go_upto_region 1 with fail
  generalize hE : World.alloc W _ = w1
  have hb1 : Below W.heap.size W w1 := by rw [← hE]; exact hb2 _
  have hx1 : w1.heap[W.heap.size]? = some (.cells #[I b.a, I b.b, I b.c, I b.d] 88 (0, 0)) := by rw [← hE]; exact hr2 _
  clear hb2 hr2 hE
  have hbw : Below w.heap.size w w1 := hW.trans (hb1.mono hW.size)
  obtain ⟨k0, k1, k2, k3, k4, k5, k6, k7⟩ := rowQ8 ((hbw.block kq hq0).trans hq)
  have j0 : w1.cell? ⟨ka, 0, none⟩ = some (.slice av al cv) := by rw [cell_of_row _ _ _ _ _ _ ((hbw.block ka ha0).trans ha)]; rfl
  obtain ⟨c1, c2, c3, c4⟩ := row4 hx1
  have HB1 := hide hb1
  have HBW := hide hbw
  clear hb1 hx1 hbw hq ha hW
  go_wp2_with fail
  refine (HM.out w1 HBW.out).mono ?_
  rintro _ w2 ⟨rfl, hb2⟩
  have HB2 := hide hb2
  clear hb2
  go_wp2
  go_ret
  exact ⟨rfl, HB1.out.trans (HB2.out.mono HB1.out.size)⟩
theorem proofN_ne (m : Ward.Box → Bool) (n : Nat) (t : Ward.NT (n + 1)) : Ward.proofN m (n + 1) t ≠ [] := by
  by_cases h : (Ward.Nd.kids t).length = 0
  · rw [proofN_leaf m n t h]; simp [Ward.leafText]
  · rw [proofN_kids m n t h]; simp
theorem proof_len {dig : List UInt8 → List UInt8} (hd : ∀ l, (dig l).length = 32) (m : Ward.Box → Bool) : ∀ (n : Nat) (t : Ward.T n), Ward.Small n t → (Ward.proof dig m n t).length ≤ 300 * 5 ^ n
  | 0, l, h => by
    have : (Ward.proof dig m 0 l).length = 2 + 12 * List.length (l : List Ward.Pt) := by
      show (Ward.leafText l).length = _
      simp only [Ward.leafText, List.length_cons]
      rw [Ward.pts_len]; omega
    have := h.1
    simp only [Nat.pow_zero]
    omega
  | n + 1, cs, h => by
    show (2 :: UInt8.ofNat (List.length cs) :: List.flatMap (fun c => Ward.head dig n c ++ (if m (Ward.box n c) then 1 :: Ward.proof dig m n c else [0])) cs).length ≤ _
    have key : ∀ (l : List (Ward.T n)), (∀ c ∈ l, Ward.Small n c) → (List.flatMap (fun c => Ward.head dig n c ++ (if m (Ward.box n c) then 1 :: Ward.proof dig m n c else [0])) l).length ≤ (53 + 300 * 5 ^ n) * l.length := by
      intro l
      induction l with
      | nil => intro _; simp
      | cons c l ih =>
        intro hl
        rw [List.flatMap_cons, List.length_append, List.length_append, List.length_cons, Ward.head_len hd]
        have h1 := proof_len hd m n c (hl c (by simp))
        have h2 := ih (fun d hd => hl d (by simp [hd]))
        have h3 : (if m (Ward.box n c) then 1 :: Ward.proof dig m n c else [0]).length ≤ 1 + 300 * 5 ^ n := by
          split
          · rw [List.length_cons]; omega
          · simp
        rw [Nat.mul_succ]; omega
    have h1 := key cs h.2
    have h2 : (53 + 300 * 5 ^ n) * List.length cs ≤ (53 + 300 * 5 ^ n) * 4 := Nat.mul_le_mul_left _ h.1
    have h3 : 1 ≤ 5 ^ n := Nat.one_le_pow _ _ (by decide)
    simp only [List.length_cons]
    rw [Nat.pow_succ]
    omega
theorem Good.well {L : List Ward.Pt} (h : Good L) : Ward.Well L := ⟨h.ok, h.ids, h.many⟩
theorem tree_ne' (L : List Ward.Pt) : Ward.NE (Ward.tree L).1 (Ward.tree L).2 := Ward.tree_ne L
theorem proofText_of (q : Ward.Qr) (L : List Ward.Pt) : Ward.proofN (Ward.must q (Ward.ans q L)) ((Ward.tree L).1 + 1) (Ward.mk Sha.sha (Ward.tree L).1 (Ward.tree L).2) = Ward.proofText q L := Ward.mk_proof Sha.sha _ _ _ (Ward.tree_ne L)
theorem proofText_len (q : Ward.Qr) {L : List Ward.Pt} (h : Ward.Well L) : (Ward.proofText q L).length ≤ 37500 := by
  refine Nat.le_trans (proof_len sha_len _ _ _ (Ward.tree_small h.ok).1) ?_
  exact Nat.le_trans (Nat.mul_le_mul_left _ (Nat.pow_le_pow_right (by decide) h.deep)) (by decide)
end Go.Proofs.YtenaelkbgkpllaaGreatDoor
