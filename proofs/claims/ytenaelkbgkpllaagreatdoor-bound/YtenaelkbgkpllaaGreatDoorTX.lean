/- Prove. -/
import Derived.Test.YtenaelkbgkpllaaGreatDoorTW
namespace Go.Proofs.YtenaelkbgkpllaaGreatDoor
open Go.RowKit

set_option maxRecDepth 100000 in
set_option maxHeartbeats 4000000 in
theorem prove_of {q : Ward.Qr} (m : Nat) (v : Value) (L : List Ward.Pt) (w : World) (hA : Asks q L) (hq : Ward.mayBe q = true) (hm : IsMap w m v L) (hG : Good L) (hKT : KT w) :
    Calls Tryz.prog 17 #[.pointer (some ⟨m, 0, none⟩), Qv q] w fun e w' => e = .returned (.tuple #[Sv (Ward.proofText q L), I 0]) ∧ Below w.heap.size w w' := by
  have hmlt := hm.lt
  have HM := hide hm
  have HG := hide hG
  have HK := hide hKT
  have HA := hide hA
  have HMB := hide (fun W => mayBe_any q W)
  rw [hq] at HMB
  have HPL := hide (proofText_len q hG.well)
  have hTS := Ward.tree_small hG.ok
  have HFW := hide (Ward.few_mk Sha.sha _ _ hTS.1)
  have HIN := hide (Ward.in_mk Sha.sha _ _ hTS.1)
  obtain ⟨fs, hu⟩ := underNode
  have HU := hide hu
  have hr0' := heap_alloc_new w
  have hb0' := fun o => (Below.refl w.heap.size w).alloc (Nat.le_refl _) o
  have hs0' := fun o => show (w.alloc o).heap.size = w.heap.size + 1 by simp
  obtain ⟨av, cv, ev⟩ := hm.slice
  subst ev
  clear hm hKT hA hu hTS
  have HQV := hide (show Qv q = .agg #[I q.kind, I q.a, I q.b, I q.c, I q.d, I q.x, I q.y, I q.k] from rfl)
  go_enter Tryz.func17, Tryz.ntmps17
  go_upto_region 1 with fail
  generalize hW : World.alloc w _ = w0
  have hb0 : Below w.heap.size w w0 := by rw [← hW]; exact hb0' _
  have hr0 : w0.heap[w.heap.size]? = some (.cells #[I q.kind, I q.a, I q.b, I q.c, I q.d, I q.x, I q.y, I q.k] 46 (0, 0)) := by rw [← hW]; exact hr0' _
  have hs0 : w.heap.size + 1 ≤ w0.heap.size := by rw [← hW, hs0']; exact Nat.le_refl _
  clear hb0' hr0' hs0' hW
  obtain ⟨k0, k1, k2, k3, k4, k5, k6, k7⟩ := rowQ8 hr0
  have HR0 := hide hr0
  have HB0 := hide hb0
  clear hr0 hb0
  go_wp2_with fail
  refine (HMB.out w0).mono ?_
  rintro _ w1 ⟨rfl, hb1⟩
  have hs1 := hb1.size
  have HB1 := hide (HB0.out.trans (hb1.mono (by omega)))
  have HR1 := hide ((hb1.block w.heap.size (by omega)).trans HR0.out)
  have hm1 := HM.out.below HB1.out
  have hc1 := hm1.cell
  have HBM := hide (build_map m _ L w1 hm1 hG (HK.out.below HB1.out))
  clear hb1 hm1 k0 k1 k2 k3 k4 k5 k6 k7
  go_wp2_with fail
  refine HBM.out.mono ?_
  rintro _ w2 ⟨V, rfl, hn2, hb2⟩
  have hs2 := hb2.size
  have HN2 := hide hn2
  have HB2 := hide (HB1.out.trans (hb2.mono (by omega)))
  have HR2 := hide ((hb2.block w.heap.size (by omega)).trans HR1.out)
  obtain ⟨a1, l1, c1, a2, l2, c2, hV, hd⟩ := hn2.cells
  have HR := hide (show Row39 V by rw [hV]; exact nodeV_row hd)
  clear hb2 hn2 hV hd HBM
  have hr3' := heap_alloc_new w2
  have hb3' := fun o => (Below.refl w2.heap.size w2).alloc (Nat.le_refl _) o
  have hs3' := fun o => show (w2.alloc o).heap.size = w2.heap.size + 1 by simp
  go_upto_region 4 with (refine wpList_store_row rfl 90 (.tmp 6) (.tmp 16) rfl w2.heap.size V.toArray rfl rfl 90 _ (heap_alloc_new w2 _) HR.out.info (by rw [HR.out.size]; rfl) HR.out.one ?_; rw [World.setRow_alloc_new])
  generalize hW : World.alloc w2 _ = w3
  have hb3 : Below w2.heap.size w2 w3 := by rw [← hW]; exact hb3' _
  have hr3 : w3.heap[w2.heap.size]? = some (.cells V.toArray 90 (0, 0)) := by rw [← hW]; exact hr3' _
  have hs3 : w2.heap.size + 1 ≤ w3.heap.size := by rw [← hW, hs3']; exact Nat.le_refl _
  clear hb3' hr3' hs3' hW
  have HB3 := hide (HB2.out.trans (hb3.mono (by omega)))
  have HR3 := hide ((hb3.block w.heap.size (by omega)).trans HR2.out)
  have HN3 := hide hr3
  have HND := hide (NodeIs.keep (S' := fun g => g < w3.heap.size) (below_same hb3 (fun _ h => h)) (fun g (h : g < w2.heap.size) => show g < w3.heap.size by omega) _ _ V HN2.out)
  obtain ⟨k0, k1, k2, k3, k4, k5, k6, k7⟩ := rowQ8 HR3.out
  have HAN := hide (HA.out.answer w3 V (HK.out.below HB3.out) HND.out)
  clear hb3 hr3
  go_wp2_with (refine wpList_load_row rfl 90 (.tmp 6) rfl w2.heap.size rfl 90 V.toArray (0, 0) (.struct fs) HN3.out HU.out rfl HR.out.info ?_)
  refine HAN.out.mono ?_
  rintro _ w4 ⟨v4, rfl, ho4, hb4⟩
  have hs4 := hb4.size
  have HO4 := hide ho4
  have HB4 := hide (HB3.out.trans (hb4.mono (by omega)))
  have HR4 := hide ((hb4.block w.heap.size (by omega)).trans HR3.out)
  have HN4 := hide ((hb4.block w2.heap.size (by omega)).trans HN3.out)
  have HND4 := hide (NodeIs.keep (S' := fun g => g < w4.heap.size) (below_same hb4 (fun _ h => h)) (fun g (h : g < w3.heap.size) => show g < w4.heap.size by omega) _ _ V HND.out)
  obtain ⟨a4, c4, e4⟩ := ho4.slice
  subst e4
  generalize (Ward.ans q L).length = al at *
  clear hb4 ho4 HAN k0 k1 k2 k3 k4 k5 k6 k7
  have hr5' := heap_alloc_new w4
  have hb5' := fun o => (Below.refl w4.heap.size w4).alloc (Nat.le_refl _) o
  have hs5' := fun o => show (w4.alloc o).heap.size = w4.heap.size + 1 by simp
  go_upto_region 6 with fail
  generalize hW : World.alloc w4 _ = w5
  have hb5 : Below w4.heap.size w4 w5 := by rw [← hW]; exact hb5' _
  have hr5 : w5.heap[w4.heap.size]? = some (.cells #[.slice a4 al c4] 27 (0, 0)) := by rw [← hW]; exact hr5' _
  have hs5 : w4.heap.size + 1 ≤ w5.heap.size := by rw [← hW, hs5']; exact Nat.le_refl _
  clear hb5' hr5' hs5' hW
  have HB5 := hide (HB4.out.trans (hb5.mono (by omega)))
  have HN5 := hide ((hb5.block w2.heap.size (by omega)).trans HN4.out)
  have HND5 := hide (NodeIs.keep (S' := fun g => g < w5.heap.size) (below_same hb5 (fun _ h => h)) (fun g (h : g < w4.heap.size) => show g < w5.heap.size by omega) _ _ V HND4.out)
  have HMU := hide (must_closure HA.out w5 w.heap.size w4.heap.size w3.heap.size _ ((hb5.block w.heap.size (by omega)).trans HR4.out) hr5 (HO4.out.below hb5))
  have HPR := hide (proof_any (Ward.must q (Ward.ans q L)) w.heap.size w4.heap.size _ _ V w5 (by rw [proofText_of]; have := HPL.out; omega) HFW.out HIN.out HND5.out HMU.out (proofN_ne _ _ _))
  rw [proofText_of] at HPR
  generalize hT : Ward.proofText q L = T at *
  have HT := hide hT
  clear hT
  clear hb5 hr5
  go_wp2_with (refine wpList_load_row rfl 90 (.tmp 6) rfl w2.heap.size rfl 90 V.toArray (0, 0) (.struct fs) HN5.out HU.out rfl HR.out.info ?_)
  refine HPR.out.mono ?_
  rintro _ w6 ⟨rfl, hb6⟩
  have HB6 := hide (HB5.out.trans (hb6.mono (by omega)))
  clear hb6
  go_wp2
  go_ret2
  exact ⟨by rw [HT.out]; rfl, HB6.out⟩
end Go.Proofs.YtenaelkbgkpllaaGreatDoor
