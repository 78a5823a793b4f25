/- Part 22 of what the claims on Bound, Small, Right and Sole rest on. -/
import Derived.Test.YtenaelkbgkpllaaGreatDoorKeep21
/- A child, read: the walk. -/
namespace Go.Proofs.YtenaelkbgkpllaaGreatDoor
open Go.RowKit

theorem frozen_node {w : World} {g t : Nat} {cs : Array Value} (h : w.heap[g]? = some (.cells cs t (0, 0))) (j : Nat) : w.frozen? ⟨g, j, none⟩ = false := frozen_of_row _ _ _ _ _ h
theorem nodeV_put (vp vc : Value) (b : Ward.Box) (n : Int) (T : List Value) (D : List UInt8) (hT : T.length = 32) : ((nodeV vp vc b n T).toArray.toList.take 7 ++ Lib.byteCells D ++ (nodeV vp vc b n T).toArray.toList.drop (7 + 32)).toArray = (nodeV vp vc b n (D.map Y)).toArray := by
  have e : (nodeV vp vc b n T).toArray.toList.drop (7 + 32) = [] := List.drop_eq_nil_of_le (by show (nodeV vp vc b n T).length ≤ _; simp [nodeV, hT])
  rw [e, List.append_nil]
  rfl
theorem copy_dig {w : World} {k : Nat} {vp vc : Value} {b : Ward.Box} {n : Int} {T : List Value} (hT : T.length = 32) {D : List UInt8} (hD : D.length = 32) (h : w.heap[k]? = some (.cells (nodeV vp vc b n T).toArray 90 (0, 0))) (ty : TypeId) :
    (Builtin.copy_ #[59, 9] ty #[.slice (some ⟨k, 7, none⟩) 32 32, Sv D]).run Tryz.prog w = .ok (goInt 32) (w.setRow k (nodeV vp vc b n (D.map Y)).toArray) := by
  have hsz : (⟨D.toArray⟩ : ByteArray).size = 32 := by rw [sv_size, hD]
  have h1 := Lib.run_copy_row_string (P := Tryz.prog) w 59 9 ty 5 k 7 32 32 ⟨D.toArray⟩ _ 90 Tryz.underlying59 (by kernel_rfl) h (by rw [hsz]; exact Nat.le_refl _) (by rw [hsz]; simp [nodeV, hT])
  rw [hsz] at h1
  have e : (nodeV vp vc b n T).toArray.toList.take 7 ++ Lib.byteCells (⟨D.toArray⟩ : ByteArray).data.toList ++ (nodeV vp vc b n T).toArray.toList.drop (7 + 32) = (nodeV vp vc b n T).toArray.toList.take 7 ++ Lib.byteCells D ++ (nodeV vp vc b n T).toArray.toList.drop (7 + 32) := rfl
  rw [e, nodeV_put vp vc b n T D hT] at h1
  exact h1
theorem cut_mid (l : List UInt8) : (⟨l.toArray⟩ : ByteArray).extract 20 52 = ⟨((l.drop 20).take 32).toArray⟩ := ba_eq (by rw [cut_list])
set_option maxRecDepth 100000 in
set_option maxHeartbeats 8000000 in
theorem child_walk {d : Nat} (rdB : Ward.Sta → Option (Ward.NT (d + 1) × Ward.Sta)) (m g b n deep : Nat) (s : Ward.Sta) (bx : Ward.Box) (cn : Int) (D t53 : List UInt8) (fl : UInt8) (w : World) (H : RdAt w g b n s) (hs : 53 ≤ s.1.length) (ht : s.1.take 53 = t53) (hD : D.length = 32) (hdeep : deep ≤ 10)
    (hcut : (⟨t53.toArray⟩ : ByteArray).extract 20 52 = ⟨D.toArray⟩) (hl53 : (52 : Int) ≤ (t53.length : Int))
    (hfl : ∀ W, (Instr.index 9 (Sv t53) (.int .i64 52)).run Tryz.prog W = .ok (.int .u8 fl.toNat) W)
    (hN0 : ∀ W, Calls Tryz.prog 157 #[Sv t53, I (0 : Nat)] W fun e w' => e = .returned (I bx.a) ∧ Below W.heap.size W w')
    (hN1 : ∀ W, Calls Tryz.prog 157 #[Sv t53, I (1 : Nat)] W fun e w' => e = .returned (I bx.b) ∧ Below W.heap.size W w')
    (hN2 : ∀ W, Calls Tryz.prog 157 #[Sv t53, I (2 : Nat)] W fun e w' => e = .returned (I bx.c) ∧ Below W.heap.size W w')
    (hN3 : ∀ W, Calls Tryz.prog 157 #[Sv t53, I (3 : Nat)] W fun e w' => e = .returned (I bx.d) ∧ Below W.heap.size W w')
    (hN4 : ∀ W, Calls Tryz.prog 157 #[Sv t53, I (4 : Nat)] W fun e w' => e = .returned (I cn) ∧ Below W.heap.size W w')
    (hrd : Ward.rdKid d rdB s = if (Ward.boxMay bx && decide (1 ≤ cn) && decide (cn ≤ 150)) = true then (if fl = 0 then some (⟨[], [], bx, cn, D⟩, (s.1.drop 53, s.2)) else if fl = 1 then (match rdB (s.1.drop 53, s.2) with | none => none | some (c, s') => some (⟨Ward.Nd.pts c, Ward.Nd.kids c, bx, cn, D⟩, s')) else none) else none)
    (HB : ∀ W, RdAt W g b n (s.1.drop 53, s.2) → Calls Tryz.prog 82 #[.pointer (some ⟨g, 0, none⟩), I ((deep : Int) + 1)] W (OneRead rdB m W g b n (s.1.drop 53, s.2))) :
    Calls Tryz.prog 126 #[.pointer (some ⟨g, 0, none⟩), I deep] w (OneRead (Ward.rdKid d rdB) m w g b n s) := by
  have hb1' := fun o => (Below.refl w.heap.size w).alloc (Nat.le_refl _) o
  have hr1' := heap_alloc_new w
  have hglt := H.lt
  have hblt := H.set.lt
  have HNE := hide H.ne
  have HH := hide H
  have HN0 := hide hN0
  have HN1 := hide hN1
  have HN2 := hide hN2
  have HN3 := hide hN3
  have HN4 := hide hN4
  have HRD := hide hrd
  have HBB := hide HB
  have HCUT := hide hcut
  have HFL := hide hfl
  have HDL := hide hD
  obtain ⟨fs, hu⟩ := underNode
  have HU := hide hu
  clear H hN0 hN1 hN2 hN3 hN4 hrd HB hcut hfl hD hu
  go_enter Tryz.func126, Tryz.ntmps126
  go_upto_region 1 with fail
  generalize hW : World.alloc w _ = w1
  have hb1 : Below w.heap.size w w1 := by rw [← hW]; exact hb1' _
  have hr1 : w1.heap[w.heap.size]? = some (.cells zeroV.toArray 90 (0, 0)) := by rw [← hW]; exact hr1' _
  clear hb1' hr1' hW
  have hs1 : w.heap.size < w1.heap.size := (Array.getElem?_eq_some_iff.1 hr1).1
  have HT := hide (take_many g 53 s.1 _ w1 (HH.out.below hb1).row hs)
  rw [ht] at HT
  have HB1 := hide hb1
  have HR1 := hide hr1
  clear hb1 hr1
  go_wp2_with fail
  refine HT.out.mono ?_
  rintro _ w2 ⟨rfl, hg2, hk2⟩
  have hs2 := hk2.size
  have HG2 := hide hg2
  have HK2 := hide hk2
  have HR2 := hide ((hk2.block w.heap.size (by omega) (by omega)).trans HR1.out)
  clear hg2 hk2 HT
  go_wp2_with fail
  refine (HN0.out w2).mono ?_
  rintro _ w3 ⟨rfl, hb3⟩
  have hs3 := hb3.size
  have HB3 := hide hb3
  clear hb3
  go_wp2_with fail
  refine (HN1.out w3).mono ?_
  rintro _ w4 ⟨rfl, hb4⟩
  have hs4 := hb4.size
  have HB4 := hide (HB3.out.trans (hb4.mono (by omega)))
  clear hb4
  go_wp2_with fail
  refine (HN2.out w4).mono ?_
  rintro _ w5 ⟨rfl, hb5⟩
  have hs5 := hb5.size
  have HB5 := hide (HB4.out.trans (hb5.mono (by omega)))
  clear hb5
  go_wp2_with fail
  refine (HN3.out w5).mono ?_
  rintro _ w6 ⟨rfl, hb6⟩
  have hs6 := hb6.size
  have HB6 := hide (HB5.out.trans (hb6.mono (by omega)))
  clear hb6
  have HR6 := hide ((HB6.out.block w.heap.size (by omega)).trans HR2.out)
  obtain ⟨⟨k0, k1⟩, ⟨f1, f2, f3, f4⟩, f5⟩ := node_cells (vp := .slice none 0 0) (vc := .slice none 0 0) (b := ⟨0, 0, 0, 0⟩) (n := 0) (t := (List.replicate 32 (0 : UInt8)).map Y) HR6.out
  have z2 := frozen_node HR6.out 2
  have z3 := frozen_node HR6.out 3
  have z4 := frozen_node HR6.out 4
  have z5 := frozen_node HR6.out 5
  have hr7' := node_box (vp := .slice none 0 0) (vc := .slice none 0 0) (b := ⟨0, 0, 0, 0⟩) (n := 0) (t := (List.replicate 32 (0 : UInt8)).map Y) bx HR6.out
  go_upto_region 5 with fail
  have hb7' := fun x1 x2 x3 x4 => ((((HB6.out.mono (B' := w.heap.size) (by omega)).setCell (p := ⟨w.heap.size, 2, none⟩) (Nat.le_refl _) x1).setCell (p := ⟨w.heap.size, 3, none⟩) (Nat.le_refl _) x2).setCell (p := ⟨w.heap.size, 4, none⟩) (Nat.le_refl _) x3).setCell (p := ⟨w.heap.size, 5, none⟩) (Nat.le_refl _) x4
  generalize hW : World.setCell (World.setCell (World.setCell (World.setCell w6 _ _) _ _) _ _) _ _ = w7
  have hr7 : w7.heap[w.heap.size]? = some (.cells (nodeV (.slice none 0 0) (.slice none 0 0) bx 0 ((List.replicate 32 (0 : UInt8)).map Y)).toArray 90 (0, 0)) := by rw [← hW]; exact hr7'
  have hb7 : Below w.heap.size w2 w7 := by rw [← hW]; exact hb7' _ _ _ _
  clear hW hr7' hb7' k0 k1 f1 f2 f3 f4 f5 z2 z3 z4 z5
  have hs7 : w.heap.size < w7.heap.size := (Array.getElem?_eq_some_iff.1 hr7).1
  have HR7 := hide hr7
  have HB7 := hide hb7
  clear hr7 hb7
  go_wp2_with fail
  refine (HN4.out w7).mono ?_
  rintro _ w8 ⟨rfl, hb8⟩
  have hs8 := hb8.size
  have HB8 := hide (HB7.out.trans (hb8.mono (by omega)))
  have HR8 := hide ((hb8.block w.heap.size hs7).trans HR7.out)
  clear hb8
  obtain ⟨-, -, f5⟩ := node_cells HR8.out
  have z6 := frozen_node HR8.out 6
  have hr9' := node_num cn HR8.out
  have hb9' := fun x => HB8.out.setCell (p := ⟨w.heap.size, 6, none⟩) (Nat.le_refl _) x
  go_upto_region 6 with fail
  generalize hW : World.setCell w8 _ _ = w9
  have hr9 : w9.heap[w.heap.size]? = some (.cells (nodeV (.slice none 0 0) (.slice none 0 0) bx cn ((List.replicate 32 (0 : UInt8)).map Y)).toArray 90 (0, 0)) := by rw [← hW]; exact hr9'
  have hb9 : Below w.heap.size w2 w9 := by rw [← hW]; exact hb9' _
  clear hW hr9' hb9' f5 z6
  have hs9 : w.heap.size < w9.heap.size := (Array.getElem?_eq_some_iff.1 hr9).1
  have hcp := fun ty => copy_dig (w := w9.drew) (by simp) HDL.out hr9 ty
  have hcut := HCUT.out
  have hr10' := setRow_heap w9.drew w.heap.size _ (nodeV (.slice none 0 0) (.slice none 0 0) bx cn (D.map Y)).toArray 90 (0, 0) hr9
  have hb10' := below_setRow hb9.drew (Nat.le_refl w.heap.size) (nodeV (.slice none 0 0) (.slice none 0 0) bx cn (D.map Y)).toArray
  clear hr9 hb9
  go_region_law (refine step_copy_runI rfl _ _ 59 9 rfl _ _ (by simp [Act.eval, Act.put]) (by simp [Act.eval, Act.put]) (hcp _) ?_)
  generalize World.setRow w9.drew w.heap.size _ = w10 at *
  have HR10 := hide hr10'
  have HB10 := hide hb10'
  clear hr10' hb10' hcp hcut
  have hs10 : w.heap.size < w10.heap.size := (Array.getElem?_eq_some_iff.1 HR10.out).1
  have HRA := hide (show RdAt w10 g b n (s.1.drop 53, s.2) from ⟨(HB10.out.block g hglt).trans HG2.out, HH.out.set.block ((HB10.out.block b hblt).trans ((HK2.out.block b (by omega) HNE.out).trans (HB1.out.block b hblt)))⟩)
  have HK10 := hide (show Keeps (Rd2 g b) w w10 from (show Keeps (Rd2 g b) w w2 from ⟨HK2.out.os.trans HB1.out.os, HK2.out.tape.trans HB1.out.tape, HK2.out.output.trans HB1.out.output, by omega, fun j hj hn => (HK2.out.block j (by omega) (fun e => hn (Or.inl e))).trans (HB1.out.block j hj)⟩).low HB10.out)
  obtain ⟨r, hr⟩ : ∃ r, Ward.boxMay bx = r := ⟨_, rfl⟩
  have HMB := hide (fun W => show Calls Tryz.prog 74 #[Bx bx] W fun e w' => e = .returned (.bool r) ∧ Below W.heap.size W w' by rw [← hr]; exact boxMay_any bx W)
  rw [hr] at HRD
  clear hr
  obtain ⟨-, ⟨f1, f2, f3, f4⟩, -⟩ := node_cells HR10.out
  go_wp2_with fail
  refine (HMB.out w10).mono ?_
  rintro _ w11 ⟨rfl, hb11⟩
  have hs11 := hb11.size
  have HR11 := hide ((hb11.block w.heap.size hs10).trans HR10.out)
  have HRB := hide (HRA.out.below hb11)
  have HK11 := hide (HK10.out.low (hb11.mono (by omega)))
  have HV11 := hide (show Row39 (nodeV (.slice none 0 0) (.slice none 0 0) bx cn (D.map Y)) from nodeV_row HDL.out)
  obtain ⟨-, -, f5⟩ := node_cells HR11.out
  clear hb11 f1 f2 f3 f4
  cases r with
  | false =>
    rw [show (false && decide (1 ≤ cn) && decide (cn ≤ 150)) = false by simp, if_neg (by decide)] at HRD
    go_wp2_with (refine wpList_store_row rfl 90 (.tmp 4) (.tmp 49) rfl w.heap.size zeroV.toArray rfl rfl 90 _ HR11.out zeroV_row.info (by rw [HV11.out.size]; rfl) zeroV_row.one ?_)
    refine bodyPost_ret (results_row_tmp (p := 4) (u := 5) (ty := 90) rfl _ _ w.heap.size 90 zeroV.toArray (0, 0) (.struct fs) rfl (setRow_heap _ _ _ _ _ _ HR11.out) HU.out rfl zeroV_row.info) rfl ?_
    unfold OneRead
    rw [HRD.out]
    exact ⟨HK11.out.low (below_setRow (Below.refl _ _) (Nat.le_refl _) _), zeroV, zeroV_shape, rfl⟩
  | true =>
    by_cases h1 : cn < 1
    · rw [show (true && decide (1 ≤ cn) && decide (cn ≤ 150)) = false by simp; omega, if_neg (by decide)] at HRD
      go_wp2_with (refine wpList_store_row rfl 90 (.tmp 4) (.tmp 49) rfl w.heap.size zeroV.toArray rfl rfl 90 _ HR11.out zeroV_row.info (by rw [HV11.out.size]; rfl) zeroV_row.one ?_)
      refine bodyPost_ret (results_row_tmp (p := 4) (u := 5) (ty := 90) rfl _ _ w.heap.size 90 zeroV.toArray (0, 0) (.struct fs) rfl (setRow_heap _ _ _ _ _ _ HR11.out) HU.out rfl zeroV_row.info) rfl ?_
      unfold OneRead
      rw [HRD.out]
      exact ⟨HK11.out.low (below_setRow (Below.refl _ _) (Nat.le_refl _) _), zeroV, zeroV_shape, rfl⟩
    · by_cases h2 : 150 < cn
      · rw [show (true && decide (1 ≤ cn) && decide (cn ≤ 150)) = false by simp; omega, if_neg (by decide)] at HRD
        go_wp2_with (refine wpList_store_row rfl 90 (.tmp 4) (.tmp 49) rfl w.heap.size zeroV.toArray rfl rfl 90 _ HR11.out zeroV_row.info (by rw [HV11.out.size]; rfl) zeroV_row.one ?_)
        refine bodyPost_ret (results_row_tmp (p := 4) (u := 5) (ty := 90) rfl _ _ w.heap.size 90 zeroV.toArray (0, 0) (.struct fs) rfl (setRow_heap _ _ _ _ _ _ HR11.out) HU.out rfl zeroV_row.info) rfl ?_
        unfold OneRead
        rw [HRD.out]
        exact ⟨HK11.out.low (below_setRow (Below.refl _ _) (Nat.le_refl _) _), zeroV, zeroV_shape, rfl⟩
      · rw [show (true && decide (1 ≤ cn) && decide (cn ≤ 150)) = true by simp; omega, if_pos rfl] at HRD
        have hfl := HFL.out
        by_cases h3 : fl = 0
        · subst h3
          rw [if_pos rfl] at HRD
          generalize hVV : nodeV (.slice none 0 0) (.slice none 0 0) bx cn (D.map Y) = V11 at *
          go_wp2_with (first | (refine wpList_load_row rfl 90 (.tmp 4) rfl w.heap.size rfl 90 V11.toArray (0, 0) (.struct fs) HR11.out HU.out rfl HV11.out.info ?_) | (refine wpList_store_row rfl 90 (.tmp 4) (.tmp 54) rfl w.heap.size V11.toArray rfl rfl 90 _ HR11.out HV11.out.info rfl HV11.out.one ?_))
          refine bodyPost_ret (results_row_tmp (p := 4) (u := 5) (ty := 90) rfl _ _ w.heap.size 90 V11.toArray (0, 0) (.struct fs) rfl (setRow_heap _ _ _ _ _ _ HR11.out) HU.out rfl HV11.out.info) rfl ?_
          unfold OneRead
          rw [HRD.out]
          exact ⟨HK11.out.low (below_setRow (Below.refl _ _) (Nat.le_refl _) _), V11, n, rfl, ⟨.slice none 0 0, .slice none 0 0, hVV.symm, HDL.out, ⟨none, 0, rfl, fun e => absurd rfl e⟩, ⟨none, 0, rfl, fun e => absurd rfl e⟩⟩, by omega, ⟨(setRow_other _ _ _ _ (by omega)).trans HRB.out.row, HRB.out.set.block (setRow_other _ _ _ _ (by omega))⟩⟩
        · have h3' : ¬ ((fl.toNat : Nat) : Int) = 0 := fun e => h3 (UInt8.toNat_inj.1 (by simpa using e))
          rw [if_neg h3] at HRD
          by_cases h4 : fl = 1
          · subst h4
            rw [if_pos rfl] at HRD
            have HX := hide (HBB.out w11 HRB.out)
            go_wp2_with fail
            refine HX.out.mono ?_
            rintro e w12 h12
            obtain ⟨V', ok, hV', rfl⟩ := h12.shape
            have HV' := hide hV'.row
            obtain ⟨x1, l1, c1, x2, l2, c2, bx', n', D', hD', hVe⟩ := hV'
            have HVE := hide hVe
            have hs12 := h12.1.size
            have HR12 := hide ((h12.1.block w.heap.size (by omega) (by rintro (e | e) <;> omega)).trans HR11.out)
            have H12 := hide h12
            clear h12 hVe hD' f5 hfl
            have hb13' := fun o => (Below.refl w12.heap.size w12).alloc (Nat.le_refl _) o
            have hr13' := heap_alloc_new w12
            go_upto_region 14 with (refine wpList_store_row rfl 90 (.tmp 7) (.tmp 62) rfl w12.heap.size V'.toArray rfl rfl 90 _ (heap_alloc_new w12 _) HV'.out.info (by rw [HV'.out.size]; rfl) HV'.out.one ?_; rw [World.setRow_alloc_new])
            generalize hW : World.alloc w12 _ = w13
            have hb13 : Below w12.heap.size w12 w13 := by rw [← hW]; exact hb13' _
            have hr13 : w13.heap[w12.heap.size]? = some (.cells V'.toArray 90 (0, 0)) := by rw [← hW]; exact hr13' _
            clear hb13' hr13' hW
            have hs13 : w12.heap.size < w13.heap.size := (Array.getElem?_eq_some_iff.1 hr13).1
            have HB13 := hide hb13
            have HR13 := hide ((hb13.block w.heap.size (by omega)).trans HR12.out)
            rw [HVE.out] at hr13
            obtain ⟨⟨e0, e1⟩, -, -⟩ := node_cells hr13
            obtain ⟨⟨k0, k1⟩, -, -⟩ := node_cells HR13.out
            have z0 := frozen_node HR13.out 0
            have z1 := frozen_node HR13.out 1
            have hr14' := heap_setCell_same _ w.heap.size 1 _ 90 (.slice x2 l2 c2) (heap_setCell_same w13 w.heap.size 0 _ 90 (.slice x1 l1 c1) HR13.out)
            have hb14' := (((Below.refl w.heap.size w13).setCell (p := ⟨w.heap.size, 0, none⟩) (Nat.le_refl _) (.slice x1 l1 c1)).setCell (p := ⟨w.heap.size, 1, none⟩) (Nat.le_refl _) (.slice x2 l2 c2)).drew
            have hk14' : Keeps (fun j => j = w.heap.size) w13 (((w13.setCell ⟨w.heap.size, 0, none⟩ (.slice x1 l1 c1)).setCell ⟨w.heap.size, 1, none⟩ (.slice x2 l2 c2)).drew) := ⟨rfl, rfl, rfl, by simp, fun j _ hn => (Below.heap_setCell _ _ _ _ (fun e => hn e)).trans (Below.heap_setCell _ _ _ _ (fun e => hn e))⟩
            have HR14 := hide hr14'
            have HB14 := hide hb14'
            have HK14 := hide hk14'
            clear hb13 hr13 hr14' hb14' hk14'
            go_region
            all_goals
              generalize hW : World.drew (World.setCell (World.setCell w13 _ _) _ _) = w14
              rw [hW] at HB14 HK14
              have HR14 := hide (show w14.heap[w.heap.size]? = some (.cells (nodeV (.slice x1 l1 c1) (.slice x2 l2 c2) bx cn (D.map Y)).toArray 90 (0, 0)) by rw [← hW]; exact HR14.out)
              clear hW e0 e1 k0 k1 z0 z1
              have HV14 := hide (show Shape (nodeV (.slice x1 l1 c1) (.slice x2 l2 c2) bx cn (D.map Y)) from ⟨_, _, _, _, _, _, _, _, _, HDL.out, rfl⟩)
              have HKF := hide (show Keeps (Rd2 g b) w w14 from (((HK11.out.trans H12.out.1 (fun _ _ h => h)).low (HB13.out.mono (by omega))).low HB14.out))
              have hs14 := HK14.out.size
              generalize hVV : nodeV (.slice x1 l1 c1) (.slice x2 l2 c2) bx cn (D.map Y) = V14 at *
              have HR39 := hide HV14.out.row
              go_wp2_with (first | (refine wpList_load_row rfl 90 (.tmp 4) rfl w.heap.size rfl 90 V14.toArray (0, 0) (.struct fs) HR14.out HU.out rfl HR39.out.info ?_) | (refine wpList_store_row rfl 90 (.tmp 4) (.tmp 70) rfl w.heap.size V14.toArray rfl rfl 90 _ HR14.out HR39.out.info rfl HR39.out.one ?_))
              refine bodyPost_ret (results_row_tmp (p := 4) (u := 5) (ty := 90) rfl _ _ w.heap.size 90 V14.toArray (0, 0) (.struct fs) rfl (setRow_heap _ _ _ _ _ _ HR14.out) HU.out rfl HR39.out.info) rfl ?_
              unfold OneRead
              rw [HRD.out]
              have h12 := H12.out.2
              have hkz : Keeps (Rd2 g b) w (w14.setRow w.heap.size V14.toArray) := HKF.out.low (below_setRow (Below.refl _ _) (Nat.le_refl _) _)
              cases hrb : rdB (s.1.drop 53, s.2) with
              | none =>
                rw [hrb] at h12
                obtain ⟨Vx, -, he⟩ := h12
                have hok : ok = false := by
                  simp only [Ending.returned.injEq, Value.tuple.injEq, Array.mk.injEq, List.cons.injEq, Value.bool.injEq] at he
                  exact he.2.1
                subst hok
                exact ⟨hkz, V14, HV14.out, rfl⟩
              | some ps =>
                obtain ⟨c, s'⟩ := ps
                rw [hrb] at h12
                obtain ⟨Vx, n2, he, hNx, hn2, hRx⟩ := h12
                simp only [Ending.returned.injEq, Value.tuple.injEq, Array.mk.injEq, List.cons.injEq, Value.bool.injEq, Value.agg.injEq, and_true] at he
                obtain ⟨hVx, hok⟩ := he
                subst hok
                obtain ⟨vp, vc, hVn, -, hp, hk⟩ := hNx
                have hVl : nodeV (.slice x1 l1 c1) (.slice x2 l2 c2) bx' n' (D'.map Y) = nodeV vp vc (Ward.Nd.box c) (Ward.Nd.n c) ((Ward.Nd.dig c).map Y) := by rw [← HVE.out, ← hVn]; exact hVx
                have e1 : vp = .slice x1 l1 c1 := (List.cons.inj hVl).1.symm
                have e2 : vc = .slice x2 l2 c2 := (List.cons.inj (List.cons.inj hVl).2).1.symm
                have hsame : Same (fun j => w11.heap.size ≤ j ∧ j < w12.heap.size) w12 (w14.setRow w.heap.size V14.toArray) := fun j hj => (setRow_other _ _ _ _ (by have := hj.1; omega)).trans ((HK14.out.block j (by have := hj.2; omega) (by have := hj.1; omega)).trans (HB13.out.block j hj.2))
                have hsub : ∀ j, (w11.heap.size ≤ j ∧ j < w12.heap.size) → (w.heap.size ≤ j ∧ j < (w14.setRow w.heap.size V14.toArray).heap.size) := fun j hj => ⟨by omega, by rw [size_setRow]; omega⟩
                refine ⟨hkz, V14, n2, rfl, ⟨.slice x1 l1 c1, .slice x2 l2 c2, hVV.symm, HDL.out, ?_, ?_⟩, hn2, ⟨(setRow_other _ _ _ _ (by omega)).trans ((HK14.out.block g (by omega) (by omega)).trans ((HB13.out.block g (by omega)).trans hRx.row)), hRx.set.block ((setRow_other _ _ _ _ (by omega)).trans ((HK14.out.block b (by omega) (by omega)).trans (HB13.out.block b (by omega))))⟩⟩
                · rw [← e1]; exact hp.keep hsame hsub
                · rw [← e2]; exact hk.keep hsame hsub (NodeIs.keep hsame hsub d)
          · have h4' : ¬ ((fl.toNat : Nat) : Int) = 1 := fun e => h4 (UInt8.toNat_inj.1 (by show fl.toNat = 1; omega))
            rw [if_neg h4] at HRD
            go_wp2_with (refine wpList_store_row rfl 90 (.tmp 4) (.tmp 72) rfl w.heap.size zeroV.toArray rfl rfl 90 _ HR11.out zeroV_row.info (by rw [HV11.out.size]; rfl) zeroV_row.one ?_)
            refine bodyPost_ret (results_row_tmp (p := 4) (u := 5) (ty := 90) rfl _ _ w.heap.size 90 zeroV.toArray (0, 0) (.struct fs) rfl (setRow_heap _ _ _ _ _ _ HR11.out) HU.out rfl zeroV_row.info) rfl ?_
            unfold OneRead
            rw [HRD.out]
            exact ⟨HK11.out.low (below_setRow (Below.refl _ _) (Nat.le_refl _) _), zeroV, zeroV_shape, rfl⟩
end Go.Proofs.YtenaelkbgkpllaaGreatDoor
/- A child, whatever the text; a node that is too short or too deep. -/
namespace Go.Proofs.YtenaelkbgkpllaaGreatDoor
open Go.RowKit

theorem getD_taken (l : List UInt8) (i n : Nat) (h : i < n) (hl : n ≤ l.length) : ((l.take n).toArray.toList)[i]? = some (l.getD i 0) := by
  show (l.take n)[i]? = _
  rw [List.getElem?_take_of_lt h, List.getElem?_eq_getElem (show i < l.length by omega), List.getD_eq_getElem?_getD, List.getElem?_eq_getElem (show i < l.length by omega)]
  rfl
theorem child_any {d : Nat} (rdB : Ward.Sta → Option (Ward.NT (d + 1) × Ward.Sta)) (m g b n deep : Nat) (s : Ward.Sta) (w : World) (H : RdAt w g b n s) (hdeep : deep ≤ 10)
    (HB : ∀ W s, RdAt W g b n s → Calls Tryz.prog 82 #[.pointer (some ⟨g, 0, none⟩), I ((deep : Int) + 1)] W (OneRead rdB m W g b n s)) :
    Calls Tryz.prog 126 #[.pointer (some ⟨g, 0, none⟩), I deep] w (OneRead (Ward.rdKid d rdB) m w g b n s) := by
  by_cases hs : s.1.length < 53
  · exact child_short rdB m g b n deep s w H hs
  · have ht : (s.1.take 53).length = 53 := by rw [List.length_take]; omega
    have key : ∀ (k : Nat), k < 5 → ∀ W, Calls Tryz.prog 157 #[Sv (s.1.take 53), I k] W fun e w' => e = .returned (I (Ward.numAt s.1 k)) ∧ Below W.heap.size W w' := fun k hk W => by
      have h := numberOf_any (s.1.take 53) k W (by omega) (by omega)
      rw [numAt_take (by omega) (by omega)] at h
      exact h
    refine child_walk rdB m g b n deep s ⟨Ward.numAt s.1 0, Ward.numAt s.1 1, Ward.numAt s.1 2, Ward.numAt s.1 3⟩ (Ward.numAt s.1 4) ((s.1.drop 20).take 32) (s.1.take 53) (s.1.getD 52 0) w H (by omega) rfl (by rw [List.length_take, List.length_drop]; omega) hdeep ?_ (by rw [ht]; decide) (fun W => idx_at _ _ 52 _ (getD_taken s.1 52 53 (by omega) (by omega)) rfl W) (key 0 (by omega)) (key 1 (by omega)) (key 2 (by omega)) (key 3 (by omega)) (key 4 (by omega)) ?_ (fun W h => HB W _ h)
    · rw [cut_mid, List.drop_take, List.take_take]
      rfl
    · unfold Ward.rdKid
      rw [if_neg hs]
      rfl
theorem heap3 (w : World) (a b c : Obj) : (((w.alloc a).alloc b).alloc c).heap[w.heap.size]? = some a ∧ (((w.alloc a).alloc b).alloc c).heap[w.heap.size + 1]? = some b ∧ (((w.alloc a).alloc b).alloc c).heap[w.heap.size + 2]? = some c ∧ (((w.alloc a).alloc b).alloc c).heap.size = w.heap.size + 3 := by
  refine ⟨?_, ?_, ?_, by simp⟩
  · exact (Below.heap_alloc _ c _ (by simp; omega)).trans (heap_alloc2_old w a b)
  · exact (Below.heap_alloc _ c _ (by simp)).trans (heap_alloc2_new w a b)
  · have := heap_alloc_new ((w.alloc a).alloc b) c
    simpa using this
theorem below3 (w : World) (a b c : Obj) : Below w.heap.size w (((w.alloc a).alloc b).alloc c) := (((Below.refl w.heap.size w).alloc (Nat.le_refl _) a).alloc (by simp) b).alloc (by simp; omega) c
set_option maxRecDepth 100000 in
set_option maxHeartbeats 4000000 in
theorem node_short {d : Nat} (rd : Ward.Sta → Option (Ward.NT (d + 1) × Ward.Sta)) (m g b n deep : Nat) (s : Ward.Sta) (w : World) (H : RdAt w g b n s) (hs : s.1.length < 2) (hrd : rd s = none) :
    Calls Tryz.prog 82 #[.pointer (some ⟨g, 0, none⟩), I deep] w (OneRead rd m w g b n s) := by
  have HE := hide hrd
  have hb1' := below3 w
  have hr1' := heap3 w
  have HH := hide H
  obtain ⟨fs, hu⟩ := underNode
  have HU := hide hu
  clear H hu hrd
  go_enter Tryz.func82, Tryz.ntmps82
  go_upto_region 1 with fail
  generalize hW : World.alloc (World.alloc (World.alloc w _) _) _ = w1
  have hb1 : Below w.heap.size w w1 := by rw [← hW]; exact hb1' _ _ _
  have hr1 : w1.heap[w.heap.size + 2]? = some (.cells zeroV.toArray 90 (0, 0)) := by rw [← hW]; exact (hr1' _ _ _).2.2.1
  have hc0 : ∃ t, w1.heap[w.heap.size]? = some (.cells #[.pointer (some ⟨g, 0, none⟩)] t (0, 0)) := by rw [← hW]; exact ⟨_, (hr1' _ _ _).1⟩
  clear hb1' hr1' hW
  obtain ⟨t0, hc0⟩ := hc0
  have c0 : w1.cell? ⟨w.heap.size, 0, none⟩ = some (.pointer (some ⟨g, 0, none⟩)) := by rw [cell_of_row _ _ _ _ _ _ hc0]; rfl
  have HT := hide (take_few g 2 s.1 _ w1 (HH.out.below hb1).row hs)
  have HB1 := hide hb1
  have HR1 := hide hr1
  clear hb1 hr1 hc0
  go_wp2_with fail
  refine HT.out.mono ?_
  rintro _ w0 ⟨rfl, hw0⟩
  rw [hw0]
  clear hw0
  go_wp2_with (refine wpList_store_row rfl 90 (.tmp 4) (.tmp 20) rfl (w.heap.size + 2) zeroV.toArray rfl rfl 90 _ HR1.out zeroV_row.info rfl zeroV_row.one ?_)
  refine bodyPost_ret (results_row_tmp (p := 4) (u := 5) (ty := 90) rfl _ _ (w.heap.size + 2) 90 zeroV.toArray (0, 0) (.struct fs) rfl (setRow_heap _ _ _ _ _ _ HR1.out) HU.out rfl zeroV_row.info) rfl ?_
  unfold OneRead
  rw [HE.out]
  exact ⟨Keeps.of_below (below_setRow HB1.out (by omega) _), zeroV, zeroV_shape, rfl⟩
set_option maxRecDepth 100000 in
set_option maxHeartbeats 4000000 in
theorem node_deep {d : Nat} (rd : Ward.Sta → Option (Ward.NT (d + 1) × Ward.Sta)) (m g b n : Nat) (s : Ward.Sta) (w : World) (H : RdAt w g b n s) (hs : 2 ≤ s.1.length) (hrd : rd s = none) :
    Calls Tryz.prog 82 #[.pointer (some ⟨g, 0, none⟩), I (7 : Nat)] w (OneRead rd m w g b n s) := by
  have HE := hide hrd
  have hb1' := below3 w
  have hr1' := heap3 w
  have hglt := H.lt
  have hblt := H.set.lt
  have HH := hide H
  obtain ⟨fs, hu⟩ := underNode
  have HU := hide hu
  clear H hu hrd
  go_enter Tryz.func82, Tryz.ntmps82
  go_upto_region 1 with fail
  generalize hW : World.alloc (World.alloc (World.alloc w _) _) _ = w1
  have hb1 : Below w.heap.size w w1 := by rw [← hW]; exact hb1' _ _ _
  have hr1 : w1.heap[w.heap.size + 2]? = some (.cells zeroV.toArray 90 (0, 0)) := by rw [← hW]; exact (hr1' _ _ _).2.2.1
  have hc0 : ∃ t, w1.heap[w.heap.size]? = some (.cells #[.pointer (some ⟨g, 0, none⟩)] t (0, 0)) := by rw [← hW]; exact ⟨_, (hr1' _ _ _).1⟩
  have hc1 : ∃ t, w1.heap[w.heap.size + 1]? = some (.cells #[I 7] t (0, 0)) := by rw [← hW]; exact ⟨_, (hr1' _ _ _).2.1⟩
  clear hb1' hr1' hW
  obtain ⟨t0, hc0⟩ := hc0
  obtain ⟨t1, hc1⟩ := hc1
  have c0 : w1.cell? ⟨w.heap.size, 0, none⟩ = some (.pointer (some ⟨g, 0, none⟩)) := by rw [cell_of_row _ _ _ _ _ _ hc0]; rfl
  have hs1 : w.heap.size + 2 < w1.heap.size := (Array.getElem?_eq_some_iff.1 hr1).1
  have HT := hide (take_many g 2 s.1 _ w1 (HH.out.below hb1).row hs)
  have HB1 := hide hb1
  have HR1 := hide hr1
  have HC1 := hide hc1
  clear hb1 hr1 hc0 hc1
  generalize s.1.take 2 = t2 at *
  go_wp2_with fail
  refine HT.out.mono ?_
  rintro _ w2 ⟨rfl, hg2, hk2⟩
  have hs2 := hk2.size
  have HK2 := hide hk2
  have HR2 := hide ((hk2.block (w.heap.size + 2) (by omega) (by omega)).trans HR1.out)
  have c1 : w2.cell? ⟨w.heap.size + 1, 0, none⟩ = some (I 7) := by rw [cell_of_row _ _ _ _ _ _ ((hk2.block (w.heap.size + 1) (by omega) (by omega)).trans HC1.out)]; rfl
  clear hg2 hk2 HT c0
  go_wp2_with (refine wpList_store_row rfl 90 (.tmp 4) (.tmp 20) rfl (w.heap.size + 2) zeroV.toArray rfl rfl 90 _ HR2.out zeroV_row.info rfl zeroV_row.one ?_)
  refine bodyPost_ret (results_row_tmp (p := 4) (u := 5) (ty := 90) rfl _ _ (w.heap.size + 2) 90 zeroV.toArray (0, 0) (.struct fs) rfl (setRow_heap _ _ _ _ _ _ HR2.out) HU.out rfl zeroV_row.info) rfl ?_
  unfold OneRead
  rw [HE.out]
  refine ⟨?_, zeroV, zeroV_shape, rfl⟩
  exact (show Keeps (Rd2 g b) w w2 from ⟨HK2.out.os.trans HB1.out.os, HK2.out.tape.trans HB1.out.tape, HK2.out.output.trans HB1.out.output, by omega, fun j hj hn => (HK2.out.block j (by omega) (fun e => hn (Or.inl e))).trans (HB1.out.block j hj)⟩).low (below_setRow (Below.refl _ _) (by omega) _)
end Go.Proofs.YtenaelkbgkpllaaGreatDoor
/- A node, read: the walk. -/
namespace Go.Proofs.YtenaelkbgkpllaaGreatDoor
open Go.RowKit

theorem Own.readsF {w : World} {B : Nat} {v : Value} {L : List Ward.Pt} (h : Own w B v L) : ReadsS w (fun g => B ≤ g ∧ g < w.heap.size) v L := by
  obtain ⟨a, c, e, hr⟩ := h.readsS
  refine ⟨a, c, e, fun hne => ?_⟩
  obtain ⟨g, o, rfl, hg, hp⟩ := hr hne
  subst e
  exact ⟨g, o, rfl, ⟨h.ge rfl, hg⟩, hp⟩
theorem PointsRead.shape {w : World} {g b n k : Nat} {s : Ward.Sta} {e : Ending} {w' : World} (h : PointsRead w g b n k s e w') : ∃ (a : Option Addr) (l c : Nat) (ok : Bool), e = .returned (.tuple #[.slice a l c, .bool ok]) := by
  obtain ⟨-, h⟩ := h
  cases hr : Ward.rdMany Ward.rdPt k s with
  | none => rw [hr] at h; exact ⟨none, 0, 0, false, h⟩
  | some ps =>
    obtain ⟨l, s'⟩ := ps
    rw [hr] at h
    obtain ⟨v, e, ho, -⟩ := h
    obtain ⟨a, c, rfl⟩ := ho.slice
    exact ⟨a, _, c, true, e⟩
theorem KidsRead.shape {d : Nat} {rd : Ward.Sta → Option (Ward.NT (d + 1) × Ward.Sta)} {m : Nat} {w : World} {g b n k : Nat} {s : Ward.Sta} {e : Ending} {w' : World} (h : KidsRead rd m w g b n k s e w') : ∃ (a : Option Addr) (l c : Nat) (ok : Bool), e = .returned (.tuple #[.slice a l c, .bool ok]) := by
  obtain ⟨-, h⟩ := h
  cases hr : Ward.rdMany rd k s with
  | none => rw [hr] at h; exact ⟨none, 0, 0, false, h⟩
  | some ps =>
    obtain ⟨l, s'⟩ := ps
    rw [hr] at h
    obtain ⟨v, n', e, ho, -⟩ := h
    obtain ⟨a, c, rfl⟩ := ho.slice
    exact ⟨a, _, c, true, e⟩
theorem tup_inj {x y : Value} {a b : Bool} (h : Ending.returned (.tuple #[x, .bool a]) = Ending.returned (.tuple #[y, .bool b])) : x = y ∧ a = b := by
  simp only [Ending.returned.injEq, Value.tuple.injEq, Array.mk.injEq, List.cons.injEq, Value.bool.injEq, and_true] at h
  exact h
def noZ : List Value := (List.replicate 32 (0 : UInt8)).map Y
set_option maxRecDepth 100000 in
set_option maxHeartbeats 8000000 in
theorem node_walk {d : Nat} (rdK : Ward.Sta → Option (Ward.NT (d + 1) × Ward.Sta)) (rd : Ward.Sta → Option (Ward.NT (d + 1 + 1) × Ward.Sta)) (M N g b n deep : Nat) (s : Ward.Sta) (mk sz : UInt8) (t2 : List UInt8) (w : World) (H : RdAt w g b n s) (hs : 2 ≤ s.1.length) (ht : s.1.take 2 = t2) (hdeep : deep ≤ 6) (hM : 1 ≤ M) (hN : N ≤ 90000) (hn : n + 4 * M ≤ N)
    (h0 : ∀ W, (Instr.index 9 (Sv t2) (.int .i64 0)).run Tryz.prog W = .ok (.int .u8 mk.toNat) W)
    (h1 : ∀ W, (Instr.index 9 (Sv t2) (.int .i64 1)).run Tryz.prog W = .ok (.int .u8 sz.toNat) W)
    (hrd : rd s = if 4 < sz.toNat then none else if mk = 1 ∧ (0 < sz.toNat ∨ deep = 1) then (match Ward.rdMany Ward.rdPt sz.toNat (s.1.drop 2, s.2) with | none => none | some (l, s'') => some ({ Ward.bareN (d + 1) with pts := l }, s'')) else if mk = 2 ∧ 0 < sz.toNat then (match Ward.rdMany rdK sz.toNat (s.1.drop 2, s.2) with | none => none | some (l, s'') => some ({ Ward.bareN (d + 1) with kids := l }, s'')) else none)
    (HC : ∀ W n s, RdAt W g b n s → n + M ≤ N → Calls Tryz.prog 126 #[.pointer (some ⟨g, 0, none⟩), I deep] W (OneRead rdK M W g b n s)) :
    Calls Tryz.prog 82 #[.pointer (some ⟨g, 0, none⟩), I deep] w (OneRead rd (4 * M) w g b n s) := by
  have hb1' := below3 w
  have hr1' := heap3 w
  have hglt := H.lt
  have hblt := H.set.lt
  have HNE := hide H.ne
  have HH := hide H
  have HRD := hide hrd
  have HCC := hide HC
  have HI0 := hide h0
  have HI1 := hide h1
  obtain ⟨fs, hu⟩ := underNode
  have HU := hide hu
  have hdeep6 : (deep : Int) ≤ 6 := by omega
  clear H hrd HC h0 h1 hu
  go_enter Tryz.func82, Tryz.ntmps82
  go_upto_region 1 with fail
  generalize hW : World.alloc (World.alloc (World.alloc w _) _) _ = w1
  have hb1 : Below w.heap.size w w1 := by rw [← hW]; exact hb1' _ _ _
  have hr1 : w1.heap[w.heap.size + 2]? = some (.cells zeroV.toArray 90 (0, 0)) := by rw [← hW]; exact (hr1' _ _ _).2.2.1
  have hc0 : ∃ t, w1.heap[w.heap.size]? = some (.cells #[.pointer (some ⟨g, 0, none⟩)] t (0, 0)) := by rw [← hW]; exact ⟨_, (hr1' _ _ _).1⟩
  have hc1 : ∃ t, w1.heap[w.heap.size + 1]? = some (.cells #[I deep] t (0, 0)) := by rw [← hW]; exact ⟨_, (hr1' _ _ _).2.1⟩
  clear hb1' hr1' hW
  obtain ⟨t0, hc0⟩ := hc0
  obtain ⟨t1, hc1⟩ := hc1
  have c0 : w1.cell? ⟨w.heap.size, 0, none⟩ = some (.pointer (some ⟨g, 0, none⟩)) := by rw [cell_of_row _ _ _ _ _ _ hc0]; rfl
  have hs1 : w.heap.size + 2 < w1.heap.size := (Array.getElem?_eq_some_iff.1 hr1).1
  have HT := hide (take_many g 2 s.1 _ w1 (HH.out.below hb1).row hs)
  rw [ht] at HT
  have HB1 := hide hb1
  have HR1 := hide hr1
  have HC0 := hide hc0
  have HC1 := hide hc1
  clear hb1 hr1 hc0 hc1
  go_wp2_with fail
  refine HT.out.mono ?_
  rintro _ w2 ⟨rfl, hg2, hk2⟩
  have hs2 := hk2.size
  have HK2 := hide hk2
  have HR2 := hide ((hk2.block (w.heap.size + 2) (by omega) (by omega)).trans HR1.out)
  have HC02 := hide ((hk2.block w.heap.size (by omega) (by omega)).trans HC0.out)
  have HC12 := hide ((hk2.block (w.heap.size + 1) (by omega) (by omega)).trans HC1.out)
  have c0 : w2.cell? ⟨w.heap.size, 0, none⟩ = some (.pointer (some ⟨g, 0, none⟩)) := by rw [cell_of_row _ _ _ _ _ _ HC02.out]; rfl
  have c1 : w2.cell? ⟨w.heap.size + 1, 0, none⟩ = some (I deep) := by rw [cell_of_row _ _ _ _ _ _ HC12.out]; rfl
  have HRA := hide (show RdAt w2 g b n (s.1.drop 2, s.2) from ⟨hg2, HH.out.set.block ((hk2.block b (by omega) HNE.out).trans (HB1.out.block b hblt))⟩)
  have HKW := hide (show Keeps (Rd2 g b) w w2 from ⟨hk2.os.trans HB1.out.os, hk2.tape.trans HB1.out.tape, hk2.output.trans HB1.out.output, by omega, fun j hj hn => (hk2.block j (by omega) (fun e => hn (Or.inl e))).trans (HB1.out.block j hj)⟩)
  clear hg2 hk2 HT
  have hi0 := HI0.out
  have hi1 := HI1.out
  go_upto_region 4 with fail
  have hwz : wrap64 ((sz.toNat : Nat) : Int) = ((sz.toNat : Nat) : Int) := by have := sz.toNat_lt; unfold wrap64; omega
  have hz256 := sz.toNat_lt
  go_region
  clear hwz hi0 hi1 HI1
  have HR3 := hide (show w2.drew.heap[w.heap.size + 2]? = _ from HR2.out)
  have HC03 := hide (show w2.drew.heap[w.heap.size]? = _ from HC02.out)
  have HC13 := hide (show w2.drew.heap[w.heap.size + 1]? = _ from HC12.out)
  have HRA3 := hide (show RdAt w2.drew g b n (s.1.drop 2, s.2) from ⟨HRA.out.row, HRA.out.set.block rfl⟩)
  have HK3 := hide HKW.out.drew
  have hs3 : w2.heap.size ≤ w2.drew.heap.size := Nat.le_refl _
  clear HRA HKW c0 c1
  generalize World.drew w2 = w3 at *
  have c0 : w3.cell? ⟨w.heap.size, 0, none⟩ = some (.pointer (some ⟨g, 0, none⟩)) := by rw [cell_of_row _ _ _ _ _ _ HC03.out]; rfl
  have c1 : w3.cell? ⟨w.heap.size + 1, 0, none⟩ = some (I deep) := by rw [cell_of_row _ _ _ _ _ _ HC13.out]; rfl
  generalize sz.toNat = z at *
  by_cases hz4 : 4 < z
  · rw [if_pos hz4] at HRD
    go_wp2_with (refine wpList_store_row rfl 90 (.tmp 4) (.tmp 29) rfl (w.heap.size + 2) zeroV.toArray rfl rfl 90 _ HR3.out zeroV_row.info rfl zeroV_row.one ?_)
    refine bodyPost_ret (results_row_tmp (p := 4) (u := 5) (ty := 90) rfl _ _ (w.heap.size + 2) 90 zeroV.toArray (0, 0) (.struct fs) rfl (setRow_heap _ _ _ _ _ _ HR3.out) HU.out rfl zeroV_row.info) rfl ?_
    unfold OneRead
    rw [HRD.out]
    exact ⟨HK3.out.low (below_setRow (Below.refl _ _) (by omega) _), zeroV, zeroV_shape, rfl⟩
  · rw [if_neg hz4] at HRD
    have hz4' : ¬ (4 : Int) < (z : Int) := by omega
    have HPA := hide (several_points g b n z (s.1.drop 2, s.2) w3 HRA3.out (by omega) (by omega))
    have HKA := hide (several_nodes rdK M N w.heap.size (w.heap.size + 1) g b n z (s.1.drop 2, s.2) w3 HRA3.out (by omega) hn (fun W n' s' hk hr hnn => node1_any rdK M w.heap.size (w.heap.size + 1) g b n' deep s' W hr t0 t1 ((hk.block w.heap.size (by omega) (by rintro (e | e) <;> omega)).trans HC03.out) ((hk.block (w.heap.size + 1) (by omega) (by rintro (e | e) <;> omega)).trans HC13.out) (fun W2 hr2 => HCC.out W2 n' s' hr2 hnn)))
    by_cases hm1 : mk = 1
    · subst hm1
      by_cases hz0 : 0 < z
      · rw [if_pos ⟨rfl, Or.inl hz0⟩] at HRD
        go_wp2_with fail
        refine HPA.out.mono ?_
        rintro e w4 hx4
        obtain ⟨a4, l4, c4, ok, rfl⟩ := hx4.shape
        have hs4 := hx4.1.size
        have HX4 := hide hx4
        have HR4 := hide ((hx4.1.block (w.heap.size + 2) (by omega) (by rintro (e | e) <;> omega)).trans HR3.out)
        clear hx4
        obtain ⟨⟨k0, k1⟩, -, -⟩ := node_cells (vp := .slice none 0 0) (vc := .slice none 0 0) (b := ⟨0, 0, 0, 0⟩) (n := 0) (t := noZ) HR4.out
        have z0 := frozen_node HR4.out 0
        have hr5' := heap_setCell_same w4 (w.heap.size + 2) 0 _ 90 (.slice a4 l4 c4) HR4.out
        have hk5' : Keeps (fun j => j = w.heap.size + 2) w4 (w4.setCell ⟨w.heap.size + 2, 0, none⟩ (.slice a4 l4 c4)) := ⟨rfl, rfl, rfl, by simp, fun j _ hn => Below.heap_setCell _ _ _ _ (fun e => hn e)⟩
        go_upto_region 9 with fail
        generalize hW : World.setCell w4 _ _ = w5
        have HR5 := hide (show w5.heap[w.heap.size + 2]? = some (.cells (nodeV (.slice a4 l4 c4) (.slice none 0 0) ⟨0, 0, 0, 0⟩ 0 noZ).toArray 90 (0, 0)) by rw [← hW]; exact hr5')
        have HK5 := hide (show Keeps (fun j => j = w.heap.size + 2) w4 w5 by rw [← hW]; exact hk5')
        clear hW hr5' hk5' k0 k1 z0
        have hs5 := HK5.out.size
        have HV5 := hide (show Shape (nodeV (.slice a4 l4 c4) (.slice none 0 0) ⟨0, 0, 0, 0⟩ 0 noZ) from ⟨_, _, _, _, _, _, _, _, List.replicate 32 0, by simp, rfl⟩)
        have HKF := hide (show Keeps (Rd2 g b) w w5 from (HK3.out.trans HX4.out.1 (fun _ _ h => h)).trans HK5.out (fun j hj e => by omega))
        generalize hVV : nodeV (.slice a4 l4 c4) (.slice none 0 0) ⟨0, 0, 0, 0⟩ 0 noZ = V5 at *
        have HR39 := hide HV5.out.row
        go_wp2_with (first | (refine wpList_load_row rfl 90 (.tmp 4) rfl (w.heap.size + 2) rfl 90 V5.toArray (0, 0) (.struct fs) HR5.out HU.out rfl HR39.out.info ?_) | (refine wpList_store_row rfl 90 (.tmp 4) (.tmp 49) rfl (w.heap.size + 2) V5.toArray rfl rfl 90 _ HR5.out HR39.out.info rfl HR39.out.one ?_))
        refine bodyPost_ret (results_row_tmp (p := 4) (u := 5) (ty := 90) rfl _ _ (w.heap.size + 2) 90 V5.toArray (0, 0) (.struct fs) rfl (setRow_heap _ _ _ _ _ _ HR5.out) HU.out rfl HR39.out.info) rfl ?_
        unfold OneRead
        rw [HRD.out]
        have h4 := HX4.out.2
        have hkz : Keeps (Rd2 g b) w (w5.setRow (w.heap.size + 2) V5.toArray) := HKF.out.low (below_setRow (Below.refl _ _) (by omega) _)
        cases hrb : Ward.rdMany Ward.rdPt z (s.1.drop 2, s.2) with
        | none =>
          rw [hrb] at h4
          obtain ⟨-, hok⟩ := tup_inj h4
          subst hok
          exact ⟨hkz, V5, HV5.out, rfl⟩
        | some ps =>
          obtain ⟨l, s'⟩ := ps
          rw [hrb] at h4
          obtain ⟨v, he, ho, hR⟩ := h4
          obtain ⟨hv, hok⟩ := tup_inj he
          subst hok
          subst hv
          have hsame : Same (fun j => w3.heap.size ≤ j ∧ j < w4.heap.size) w4 (w5.setRow (w.heap.size + 2) V5.toArray) := fun j hj => (setRow_other _ _ _ _ (by have := hj.1; omega)).trans (HK5.out.block j hj.2 (by have := hj.1; omega))
          have hsub : ∀ j, (w3.heap.size ≤ j ∧ j < w4.heap.size) → (w.heap.size ≤ j ∧ j < (w5.setRow (w.heap.size + 2) V5.toArray).heap.size) := fun j hj => ⟨by omega, by rw [size_setRow]; omega⟩
          exact ⟨hkz, V5, n + z, rfl, ⟨.slice a4 l4 c4, .slice none 0 0, hVV.symm, by simp [Ward.bareN], ho.readsF.keep hsame hsub, ⟨none, 0, rfl, fun e => absurd rfl e⟩⟩, by omega, ⟨(setRow_other _ _ _ _ (by omega)).trans ((HK5.out.block g (by omega) (by omega)).trans hR.row), hR.set.block ((setRow_other _ _ _ _ (by omega)).trans (HK5.out.block b (by omega) (by omega)))⟩⟩
      · by_cases hd1 : deep = 1
        · rw [if_pos ⟨rfl, Or.inr hd1⟩] at HRD
          have hd1' : (deep : Int) = 1 := by omega
          go_wp2_with fail
          refine HPA.out.mono ?_
          rintro e w4 hx4
          obtain ⟨a4, l4, c4, ok, rfl⟩ := hx4.shape
          have hs4 := hx4.1.size
          have HX4 := hide hx4
          have HR4 := hide ((hx4.1.block (w.heap.size + 2) (by omega) (by rintro (e | e) <;> omega)).trans HR3.out)
          clear hx4
          obtain ⟨⟨k0, k1⟩, -, -⟩ := node_cells (vp := .slice none 0 0) (vc := .slice none 0 0) (b := ⟨0, 0, 0, 0⟩) (n := 0) (t := noZ) HR4.out
          have z0 := frozen_node HR4.out 0
          have hr5' := heap_setCell_same w4 (w.heap.size + 2) 0 _ 90 (.slice a4 l4 c4) HR4.out
          have hk5' : Keeps (fun j => j = w.heap.size + 2) w4 (w4.setCell ⟨w.heap.size + 2, 0, none⟩ (.slice a4 l4 c4)) := ⟨rfl, rfl, rfl, by simp, fun j _ hn => Below.heap_setCell _ _ _ _ (fun e => hn e)⟩
          go_upto_region 9 with fail
          generalize hW : World.setCell w4 _ _ = w5
          have HR5 := hide (show w5.heap[w.heap.size + 2]? = some (.cells (nodeV (.slice a4 l4 c4) (.slice none 0 0) ⟨0, 0, 0, 0⟩ 0 noZ).toArray 90 (0, 0)) by rw [← hW]; exact hr5')
          have HK5 := hide (show Keeps (fun j => j = w.heap.size + 2) w4 w5 by rw [← hW]; exact hk5')
          clear hW hr5' hk5' k0 k1 z0
          have hs5 := HK5.out.size
          have HV5 := hide (show Shape (nodeV (.slice a4 l4 c4) (.slice none 0 0) ⟨0, 0, 0, 0⟩ 0 noZ) from ⟨_, _, _, _, _, _, _, _, List.replicate 32 0, by simp, rfl⟩)
          have HKF := hide (show Keeps (Rd2 g b) w w5 from (HK3.out.trans HX4.out.1 (fun _ _ h => h)).trans HK5.out (fun j hj e => by omega))
          generalize hVV : nodeV (.slice a4 l4 c4) (.slice none 0 0) ⟨0, 0, 0, 0⟩ 0 noZ = V5 at *
          have HR39 := hide HV5.out.row
          go_wp2_with (first | (refine wpList_load_row rfl 90 (.tmp 4) rfl (w.heap.size + 2) rfl 90 V5.toArray (0, 0) (.struct fs) HR5.out HU.out rfl HR39.out.info ?_) | (refine wpList_store_row rfl 90 (.tmp 4) (.tmp 49) rfl (w.heap.size + 2) V5.toArray rfl rfl 90 _ HR5.out HR39.out.info rfl HR39.out.one ?_))
          refine bodyPost_ret (results_row_tmp (p := 4) (u := 5) (ty := 90) rfl _ _ (w.heap.size + 2) 90 V5.toArray (0, 0) (.struct fs) rfl (setRow_heap _ _ _ _ _ _ HR5.out) HU.out rfl HR39.out.info) rfl ?_
          unfold OneRead
          rw [HRD.out]
          have h4 := HX4.out.2
          have hkz : Keeps (Rd2 g b) w (w5.setRow (w.heap.size + 2) V5.toArray) := HKF.out.low (below_setRow (Below.refl _ _) (by omega) _)
          cases hrb : Ward.rdMany Ward.rdPt z (s.1.drop 2, s.2) with
          | none =>
            rw [hrb] at h4
            obtain ⟨-, hok⟩ := tup_inj h4
            subst hok
            exact ⟨hkz, V5, HV5.out, rfl⟩
          | some ps =>
            obtain ⟨l, s'⟩ := ps
            rw [hrb] at h4
            obtain ⟨v, he, ho, hR⟩ := h4
            obtain ⟨hv, hok⟩ := tup_inj he
            subst hok
            subst hv
            have hsame : Same (fun j => w3.heap.size ≤ j ∧ j < w4.heap.size) w4 (w5.setRow (w.heap.size + 2) V5.toArray) := fun j hj => (setRow_other _ _ _ _ (by have := hj.1; omega)).trans (HK5.out.block j hj.2 (by have := hj.1; omega))
            have hsub : ∀ j, (w3.heap.size ≤ j ∧ j < w4.heap.size) → (w.heap.size ≤ j ∧ j < (w5.setRow (w.heap.size + 2) V5.toArray).heap.size) := fun j hj => ⟨by omega, by rw [size_setRow]; omega⟩
            exact ⟨hkz, V5, n + z, rfl, ⟨.slice a4 l4 c4, .slice none 0 0, hVV.symm, by simp [Ward.bareN], ho.readsF.keep hsame hsub, ⟨none, 0, rfl, fun e => absurd rfl e⟩⟩, by omega, ⟨(setRow_other _ _ _ _ (by omega)).trans ((HK5.out.block g (by omega) (by omega)).trans hR.row), hR.set.block ((setRow_other _ _ _ _ (by omega)).trans (HK5.out.block b (by omega) (by omega)))⟩⟩
        · rw [if_neg (by rintro ⟨-, h | h⟩ <;> omega), if_neg (by rintro ⟨h, -⟩; exact absurd h (by decide))] at HRD
          have hd1' : ¬ (deep : Int) = 1 := by omega
          go_wp2_with (refine wpList_store_row rfl 90 (.tmp 4) (.tmp 67) rfl (w.heap.size + 2) zeroV.toArray rfl rfl 90 _ HR3.out zeroV_row.info rfl zeroV_row.one ?_)
          refine bodyPost_ret (results_row_tmp (p := 4) (u := 5) (ty := 90) rfl _ _ (w.heap.size + 2) 90 zeroV.toArray (0, 0) (.struct fs) rfl (setRow_heap _ _ _ _ _ _ HR3.out) HU.out rfl zeroV_row.info) rfl ?_
          unfold OneRead
          rw [HRD.out]
          exact ⟨HK3.out.low (below_setRow (Below.refl _ _) (by omega) _), zeroV, zeroV_shape, rfl⟩
    · have hm1' : ¬ ((mk.toNat : Nat) : Int) = 1 := fun e => hm1 (UInt8.toNat_inj.1 (by show mk.toNat = 1; omega))
      rw [if_neg (fun h => hm1 h.1)] at HRD
      by_cases hm2 : mk = 2
      · subst hm2
        by_cases hz0 : 0 < z
        · rw [if_pos ⟨rfl, hz0⟩] at HRD
          go_wp2_with fail
          refine HKA.out.mono ?_
          rintro e w4 hx4
          obtain ⟨a4, l4, c4, ok, rfl⟩ := hx4.shape
          have hs4 := hx4.1.size
          have HX4 := hide hx4
          have HR4 := hide ((hx4.1.block (w.heap.size + 2) (by omega) (by rintro (e | e) <;> omega)).trans HR3.out)
          clear hx4
          obtain ⟨⟨k0, k1⟩, -, -⟩ := node_cells (vp := .slice none 0 0) (vc := .slice none 0 0) (b := ⟨0, 0, 0, 0⟩) (n := 0) (t := noZ) HR4.out
          have z0 := frozen_node HR4.out 1
          have hr5' := heap_setCell_same w4 (w.heap.size + 2) 1 _ 90 (.slice a4 l4 c4) HR4.out
          have hk5' : Keeps (fun j => j = w.heap.size + 2) w4 (w4.setCell ⟨w.heap.size + 2, 1, none⟩ (.slice a4 l4 c4)) := ⟨rfl, rfl, rfl, by simp, fun j _ hn => Below.heap_setCell _ _ _ _ (fun e => hn e)⟩
          go_upto_region 12 with fail
          generalize hW : World.setCell w4 _ _ = w5
          have HR5 := hide (show w5.heap[w.heap.size + 2]? = some (.cells (nodeV (.slice none 0 0) (.slice a4 l4 c4) ⟨0, 0, 0, 0⟩ 0 noZ).toArray 90 (0, 0)) by rw [← hW]; exact hr5')
          have HK5 := hide (show Keeps (fun j => j = w.heap.size + 2) w4 w5 by rw [← hW]; exact hk5')
          clear hW hr5' hk5' k0 k1 z0
          have hs5 := HK5.out.size
          have HV5 := hide (show Shape (nodeV (.slice none 0 0) (.slice a4 l4 c4) ⟨0, 0, 0, 0⟩ 0 noZ) from ⟨_, _, _, _, _, _, _, _, List.replicate 32 0, by simp, rfl⟩)
          have HKF := hide (show Keeps (Rd2 g b) w w5 from (HK3.out.trans HX4.out.1 (fun _ _ h => h)).trans HK5.out (fun j hj e => by omega))
          generalize hVV : nodeV (.slice none 0 0) (.slice a4 l4 c4) ⟨0, 0, 0, 0⟩ 0 noZ = V5 at *
          have HR39 := hide HV5.out.row
          go_wp2_with (first | (refine wpList_load_row rfl 90 (.tmp 4) rfl (w.heap.size + 2) rfl 90 V5.toArray (0, 0) (.struct fs) HR5.out HU.out rfl HR39.out.info ?_) | (refine wpList_store_row rfl 90 (.tmp 4) (.tmp 65) rfl (w.heap.size + 2) V5.toArray rfl rfl 90 _ HR5.out HR39.out.info rfl HR39.out.one ?_))
          refine bodyPost_ret (results_row_tmp (p := 4) (u := 5) (ty := 90) rfl _ _ (w.heap.size + 2) 90 V5.toArray (0, 0) (.struct fs) rfl (setRow_heap _ _ _ _ _ _ HR5.out) HU.out rfl HR39.out.info) rfl ?_
          unfold OneRead
          rw [HRD.out]
          have h4 := HX4.out.2
          have hkz : Keeps (Rd2 g b) w (w5.setRow (w.heap.size + 2) V5.toArray) := HKF.out.low (below_setRow (Below.refl _ _) (by omega) _)
          cases hrb : Ward.rdMany rdK z (s.1.drop 2, s.2) with
          | none =>
            rw [hrb] at h4
            obtain ⟨-, hok⟩ := tup_inj h4
            subst hok
            exact ⟨hkz, V5, HV5.out, rfl⟩
          | some ps =>
            obtain ⟨l, s'⟩ := ps
            rw [hrb] at h4
            obtain ⟨v, n', he, ho, hn', hR⟩ := h4
            obtain ⟨hv, hok⟩ := tup_inj he
            subst hok
            subst hv
            have hsame : Same (fun j => w3.heap.size ≤ j ∧ j < w4.heap.size) w4 (w5.setRow (w.heap.size + 2) V5.toArray) := fun j hj => (setRow_other _ _ _ _ (by have := hj.1; omega)).trans (HK5.out.block j hj.2 (by have := hj.1; omega))
            have hsub : ∀ j, (w3.heap.size ≤ j ∧ j < w4.heap.size) → (w.heap.size ≤ j ∧ j < (w5.setRow (w.heap.size + 2) V5.toArray).heap.size) := fun j hj => ⟨by omega, by rw [size_setRow]; omega⟩
            have hzm : z * M ≤ 4 * M := Nat.mul_le_mul_right _ (by omega)
            exact ⟨hkz, V5, n', rfl, ⟨.slice none 0 0, .slice a4 l4 c4, hVV.symm, by simp [Ward.bareN], ⟨none, 0, rfl, fun e => absurd rfl e⟩, ho.rows.keep hsame hsub (NodeIs.keep hsame hsub (d + 1))⟩, by omega, ⟨(setRow_other _ _ _ _ (by omega)).trans ((HK5.out.block g (by omega) (by omega)).trans hR.row), hR.set.block ((setRow_other _ _ _ _ (by omega)).trans (HK5.out.block b (by omega) (by omega)))⟩⟩
        · rw [if_neg (fun h => hz0 h.2)] at HRD
          go_wp2_with (refine wpList_store_row rfl 90 (.tmp 4) (.tmp 67) rfl (w.heap.size + 2) zeroV.toArray rfl rfl 90 _ HR3.out zeroV_row.info rfl zeroV_row.one ?_)
          refine bodyPost_ret (results_row_tmp (p := 4) (u := 5) (ty := 90) rfl _ _ (w.heap.size + 2) 90 zeroV.toArray (0, 0) (.struct fs) rfl (setRow_heap _ _ _ _ _ _ HR3.out) HU.out rfl zeroV_row.info) rfl ?_
          unfold OneRead
          rw [HRD.out]
          exact ⟨HK3.out.low (below_setRow (Below.refl _ _) (by omega) _), zeroV, zeroV_shape, rfl⟩
      · have hm2' : ¬ ((mk.toNat : Nat) : Int) = 2 := fun e => hm2 (UInt8.toNat_inj.1 (by show mk.toNat = 2; omega))
        rw [if_neg (fun h => hm2 h.1)] at HRD
        go_wp2_with (refine wpList_store_row rfl 90 (.tmp 4) (.tmp 67) rfl (w.heap.size + 2) zeroV.toArray rfl rfl 90 _ HR3.out zeroV_row.info rfl zeroV_row.one ?_)
        refine bodyPost_ret (results_row_tmp (p := 4) (u := 5) (ty := 90) rfl _ _ (w.heap.size + 2) 90 zeroV.toArray (0, 0) (.struct fs) rfl (setRow_heap _ _ _ _ _ _ HR3.out) HU.out rfl zeroV_row.info) rfl ?_
        unfold OneRead
        rw [HRD.out]
        exact ⟨HK3.out.low (below_setRow (Below.refl _ _) (by omega) _), zeroV, zeroV_shape, rfl⟩
end Go.Proofs.YtenaelkbgkpllaaGreatDoor
/- A node, read, however deep. -/
namespace Go.Proofs.YtenaelkbgkpllaaGreatDoor
open Go.RowKit

theorem rdNode_succ (d : Nat) (root : Bool) (deep : Nat) (s : Ward.Sta) (hs : ¬ s.1.length < 2) (hr : root = true ↔ deep = 1) : Ward.rdNode (d + 1) root s = if 4 < (s.1.getD 1 0).toNat then none else if s.1.getD 0 0 = 1 ∧ (0 < (s.1.getD 1 0).toNat ∨ deep = 1) then (match Ward.rdMany Ward.rdPt (s.1.getD 1 0).toNat (s.1.drop 2, s.2) with | none => none | some (l, s'') => some ({ Ward.bareN (d + 1) with pts := l }, s'')) else if s.1.getD 0 0 = 2 ∧ 0 < (s.1.getD 1 0).toNat then (match Ward.rdMany (Ward.rdKid d (Ward.rdNode d false)) (s.1.getD 1 0).toNat (s.1.drop 2, s.2) with | none => none | some (l, s'') => some ({ Ward.bareN (d + 1) with kids := l }, s'')) else none := by
  have e : Ward.rdNode (d + 1) root s = if s.1.length < 2 then none else if 4 < (s.1.getD 1 0).toNat then none else if s.1.getD 0 0 = 1 ∧ (0 < (s.1.getD 1 0).toNat ∨ root = true) then (match Ward.rdMany Ward.rdPt (s.1.getD 1 0).toNat (s.1.drop 2, s.2) with | none => none | some (l, s'') => some ({ Ward.bareN (d + 1) with pts := l }, s'')) else if s.1.getD 0 0 = 2 ∧ 0 < (s.1.getD 1 0).toNat then (match Ward.rdMany (Ward.rdKid d (Ward.rdNode d false)) (s.1.getD 1 0).toNat (s.1.drop 2, s.2) with | none => none | some (l, s'') => some ({ Ward.bareN (d + 1) with kids := l }, s'')) else none := rfl
  rw [e, if_neg hs]
  by_cases h4 : 4 < (s.1.getD 1 0).toNat
  · rw [if_pos h4, if_pos h4]
  · rw [if_neg h4, if_neg h4]
    by_cases h1 : s.1.getD 0 0 = 1 ∧ (0 < (s.1.getD 1 0).toNat ∨ deep = 1)
    · rw [if_pos h1, if_pos ⟨h1.1, h1.2.imp id hr.2⟩]
    · rw [if_neg h1, if_neg (fun h => h1 ⟨h.1, h.2.imp id hr.1⟩)]
theorem node_any : ∀ (d : Nat) (_ : d ≤ 6) (g b n : Nat) (s : Ward.Sta) (w : World) (_ : RdAt w g b n s) (_ : n + 4 ^ d ≤ 90000),
    Calls Tryz.prog 82 #[.pointer (some ⟨g, 0, none⟩), I (7 - d : Nat)] w (OneRead (Ward.rdNode d (decide (d = 6))) (4 ^ d) w g b n s)
  | 0, _, g, b, n, s, w, H, _ => by
    by_cases hs : s.1.length < 2
    · exact node_short _ _ g b n 7 s w H hs rfl
    · exact node_deep _ _ g b n s w H (by omega) rfl
  | d + 1, hd, g, b, n, s, w, H, hn => by
    by_cases hs : s.1.length < 2
    · refine node_short _ _ g b n _ s w H hs ?_
      unfold Ward.rdNode
      rw [if_pos hs]
    · have h4 : 4 ^ (d + 1) = 4 * 4 ^ d := by rw [Nat.pow_succ, Nat.mul_comm]
      have hp : 1 ≤ 4 ^ d := Nat.one_le_pow _ _ (by decide)
      rw [h4] at hn ⊢
      refine node_walk (Ward.rdKid d (Ward.rdNode d false)) (Ward.rdNode (d + 1) (decide (d + 1 = 6))) (4 ^ d) 90000 g b n (7 - (d + 1)) s (s.1.getD 0 0) (s.1.getD 1 0) (s.1.take 2) w H (by omega) rfl (by omega) hp (Nat.le_refl _) hn (fun W => idx_at _ _ 0 _ (getD_taken s.1 0 2 (by omega) (by omega)) rfl W) (fun W => idx_at _ _ 1 _ (getD_taken s.1 1 2 (by omega) (by omega)) rfl W) (rdNode_succ d _ _ s hs (by rw [decide_eq_true_eq]; omega)) (fun W n' s' hr hn' => ?_)
      refine child_any (Ward.rdNode d false) (4 ^ d) g b n' (7 - (d + 1)) s' W hr (by omega) (fun W2 s2 hr2 => ?_)
      have ih := node_any d (by omega) g b n' s2 W2 hr2 hn'
      rw [decide_eq_false (show ¬ d = 6 by omega)] at ih
      rw [show (((7 - (d + 1) : Nat) : Int) + 1) = ((7 - d : Nat) : Int) by omega]
      exact ih
end Go.Proofs.YtenaelkbgkpllaaGreatDoor
