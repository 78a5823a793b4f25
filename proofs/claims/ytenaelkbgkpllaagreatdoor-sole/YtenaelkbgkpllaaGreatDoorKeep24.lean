/- Part 24 of what the claims on Bound, Small, Right and Sole rest on. -/
import Derived.Test.YtenaelkbgkpllaaGreatDoorKeep23
/- Verify. -/
namespace Go.Proofs.YtenaelkbgkpllaaGreatDoor
open Go.RowKit

/-- a pointer to a row of a commitment's cells -/
def ComRow (w : World) (v : Value) : Prop := ∃ g cs t fr, v = .pointer (some ⟨g, 0, none⟩) ∧ w.heap[g]? = some (.cells cs t fr) ∧ cs.size = 33
theorem comRow_of {w : World} {g t : Nat} {cs : Array Value} {fr : Nat × Nat} (h : w.heap[g]? = some (.cells cs t fr)) (hs : cs.size = 33) : ComRow w (.pointer (some ⟨g, 0, none⟩)) := ⟨g, cs, t, fr, rfl, h, hs⟩
theorem underCom : ∃ fs, Tryz.prog.underlying 41 = some (.struct fs) := by
  have h : Tryz.prog.underlying 41 = some (.struct (Tryz.prog.fieldsOf 41)) := by kernel_rfl
  exact ⟨_, h⟩
theorem wp_load_com {d : Option Tmp} {x : Operand} {tt : TypeId} {ps : String} {af : Array Edge} {gd : Option (Nat × Bool)} {a : Act} {w : World} {K : Act → World → Prop} {Q : Exit → Act → World → Prop} (h : ComRow w (a.eval x)) :
    Oper.wp Tryz.prog { dst := d, op := .load 41 x, type := tt, pos := ps, after := af, guard := gd } a w K Q = K (a.put d (loadVal w (a.eval x))) w := by
  obtain ⟨g, cs, t, fr, hv, hg, hs⟩ := h
  obtain ⟨fs, hu⟩ := underCom
  have hr := run_loadVar_row (P := Tryz.prog) w g t 41 cs fr (.struct fs) hg hu rfl (by rw [hs]; exact Tryz.infoCommit)
  rw [hv, loadVal_row hg]
  unfold Oper.wp execOp
  simp only [hv, Instr.loadAt, Instr.sureAddr, Sem.run_bind, Sem.run_pure, Result.andThen_ok, hr]
  rfl
theorem own_nil (w : World) (B : Nat) : Own w B (.slice none 0 0) [] := World.ownsRow_nil _ _ _ _
/-- what Verify leaves -/
def Verified (w : World) (root : List UInt8) (count : Int) (q : Ward.Qr) (s : List UInt8) (e : Ending) (w' : World) : Prop := ∃ v, e = .returned (.tuple #[v, I (Ward.verify root count q s).2]) ∧ Own w' w.heap.size v (Ward.verify root count q s).1 ∧ Below w.heap.size w w'
theorem verified_nil {w w' : World} {root : List UInt8} {count : Int} {q : Ward.Qr} {s : List UInt8} {k : Int} (h : Ward.verify root count q s = ([], k)) (hb : Below w.heap.size w w') : Verified w root count q s (.returned (.tuple #[.slice none 0 0, I k])) w' := by
  unfold Verified
  rw [h]
  exact ⟨_, rfl, own_nil _ _, hb⟩
theorem heap2 (w : World) (a b : Obj) : ((w.alloc a).alloc b).heap[w.heap.size]? = some a ∧ ((w.alloc a).alloc b).heap[w.heap.size + 1]? = some b ∧ ((w.alloc a).alloc b).heap.size = w.heap.size + 2 := ⟨heap_alloc2_old w a b, heap_alloc2_new w a b, by simp⟩
attribute [local go_sem ↓] Go.wp_at_zero Go.wp_at_succ wp_load_nodeG wp_load_com
set_option maxRecDepth 100000 in
set_option maxHeartbeats 8000000 in
theorem verify_any (root : List UInt8) (count : Int) (q : Ward.Qr) (s : List UInt8) (w : World) (hroot : root.length = 32) (hK : KT w) :
    Calls Tryz.prog 22 #[.agg (rootV root count).toArray, Qv q, Sv s] w (Verified w root count q s) := by
  have HKT := hide hK
  have HRL := hide hroot
  have HMB := hide (fun W => mayBe_any q W)
  have hb1' := fun o o' => ((Below.refl w.heap.size w).alloc (Nat.le_refl _) o).alloc (by simp) o'
  have hr1' := heap2 w
  obtain ⟨fs, hu⟩ := underNode
  have HU := hide hu
  have HCS := hide (show (rootV root count).toArray.size = 33 by rw [List.size_toArray]; exact rootV_len _ _ hroot)
  have HEC := hide (fun (D : List UInt8) (m : Int) (hD : D.length = 32) (W : World) => eqCommit D root m count hD hroot W)
  generalize hRV : rootV root count = RV at *
  have HRV := hide hRV
  clear hK hroot hu hRV
  go_enter Tryz.func22, Tryz.ntmps22
  go_upto_region 1 with fail
  generalize hW : World.alloc (World.alloc w _) _ = w1
  have hb1 : Below w.heap.size w w1 := by rw [← hW]; exact hb1' _ _
  have hc1 : w1.heap[w.heap.size]? = some (.cells RV.toArray 41 (0, 0)) := by rw [← hW]; exact (hr1' _ _).1
  have hq1 : w1.heap[w.heap.size + 1]? = some (.cells #[I q.kind, I q.a, I q.b, I q.c, I q.d, I q.x, I q.y, I q.k] 46 (0, 0)) := by rw [← hW]; exact (hr1' _ _).2.1
  clear hb1' hr1' hW
  have hs1 : w.heap.size + 1 < w1.heap.size := (Array.getElem?_eq_some_iff.1 hq1).1
  obtain ⟨k0, k1, k2, k3, k4, k5, k6, k7⟩ := rowQ8 hq1
  have HB1 := hide hb1
  have HC1 := hide hc1
  have HQ1 := hide hq1
  clear hb1 hc1 hq1
  have HMR := hide (show ∃ r, Ward.mayBe q = r from ⟨_, rfl⟩)
  obtain ⟨r, hr⟩ := HMR.out
  rw [hr] at HMB
  go_wp2_with fail
  refine (HMB.out w1).mono ?_
  rintro _ w2 ⟨rfl, hb2⟩
  have hs2 := hb2.size
  have HB2 := hide (HB1.out.trans (hb2.mono (by omega)))
  have HC2 := hide ((hb2.block w.heap.size (by omega)).trans HC1.out)
  have HQ2 := hide ((hb2.block (w.heap.size + 1) (by omega)).trans HQ1.out)
  have HMY := hide hr
  clear hb2 hr k0 k1 k2 k3 k4 k5 k6 k7
  cases r with
  | false =>
    have HF := hide (show Ward.verify root count q s = ([], 6) by unfold Ward.verify; rw [if_pos HMY.out])
    go_wp2_with fail
    go_ret2
    exact verified_nil HF.out HB2.out
  | true =>
    have HRD := hide (read_any s w2 (HKT.out.below HB2.out))
    go_wp2_with fail
    refine HRD.out.mono ?_
    rintro e w3 ⟨hb3, hm3⟩
    have hs3 := hb3.size
    have HB3 := hide (HB2.out.trans (hb3.mono (by omega)))
    have HC3 := hide ((hb3.block w.heap.size (by omega)).trans HC2.out)
    have HQ3 := hide ((hb3.block (w.heap.size + 1) (by omega)).trans HQ2.out)
    clear hb3 HRD
    have hb4' := fun o => (Below.refl w3.heap.size w3).alloc (Nat.le_refl _) o
    have hr4' := heap_alloc_new w3
    cases hp : Ward.parse s with
    | none =>
      rw [hp] at hm3
      obtain ⟨V, hV, rfl⟩ := hm3
      have HV := hide hV.row
      have HF := hide (show Ward.verify root count q s = ([], 7) by unfold Ward.verify; rw [if_neg (by rw [HMY.out]; decide), hp])
      clear hV hp
      go_wp2_with (refine wpList_store_row rfl 90 (.tmp 8) (.tmp 17) rfl w3.heap.size V.toArray rfl rfl 90 _ (heap_alloc_new w3 _) HV.out.info (by rw [HV.out.size]; rfl) HV.out.one ?_; rw [World.setRow_alloc_new])
      go_ret2
      exact verified_nil HF.out (HB3.out.trans ((hb4' _).mono (by omega)))
    | some t =>
      rw [hp] at hm3
      obtain ⟨V, rfl, hN3⟩ := hm3
      have HV := hide hN3.shape.row
      have HN3 := hide hN3
      have HP := hide hp
      obtain ⟨hfine, hids⟩ := Ward.parse_fine hp
      have HFI := hide hfine
      have HID := hide hids
      obtain ⟨x1, l1, c1, x2, l2, c2, hVe, hdl⟩ := hN3.cells
      have HDL := hide hdl
      have HCM := hide (fun (W : World) => show Calls Tryz.prog 37 #[.agg V.toArray] W fun e w' => e = .returned (.agg (rootV (Ward.digN 7 t) (Ward.numN 7 t)).toArray) ∧ Below W.heap.size W w' by rw [hVe]; exact commitmentTo_any _ _ _ _ _ W hdl)
      clear hN3 hp hfine hids hVe hdl
      go_upto_region 4 with (refine wpList_store_row rfl 90 (.tmp 8) (.tmp 17) rfl w3.heap.size V.toArray rfl rfl 90 _ (heap_alloc_new w3 _) HV.out.info (by rw [HV.out.size]; rfl) HV.out.one ?_; rw [World.setRow_alloc_new])
      generalize hW : World.alloc w3 _ = w4
      have hb4 : Below w3.heap.size w3 w4 := by rw [← hW]; exact hb4' _
      have hr4 : w4.heap[w3.heap.size]? = some (.cells V.toArray 90 (0, 0)) := by rw [← hW]; exact hr4' _
      clear hb4' hr4' hW
      have hs4 : w3.heap.size < w4.heap.size := (Array.getElem?_eq_some_iff.1 hr4).1
      have HB4 := hide (HB3.out.trans (hb4.mono (by omega)))
      have HC4 := hide ((hb4.block w.heap.size (by omega)).trans HC3.out)
      have HQ4 := hide ((hb4.block (w.heap.size + 1) (by omega)).trans HQ3.out)
      have HR4 := hide hr4
      have HNW := hide (fun (W : World) (hb : Below w4.heap.size w4 W) => show NodeIs W (fun j => j < W.heap.size) 7 t V from NodeIs.keep (fun j hj => (hb.block j (Nat.lt_trans hj hs4)).trans (hb4.block j hj)) (fun j (hj : j < w3.heap.size) => show j < W.heap.size by have := hb.size; omega) 7 t V HN3.out)
      clear hb4 hr4
      have HBH := hide (boxesHold_any 7 t V w4 (HNW.out w4 (Below.refl _ _)) HFI.out (HKT.out.below HB4.out))
      have HBR := hide (show ∃ r, Ward.everyN Ward.boxHolds 7 t = r from ⟨_, rfl⟩)
      obtain ⟨r1, hr1⟩ := HBR.out
      rw [hr1] at HBH
      have HR1 := hide hr1
      clear hr1 HBR
      go_wp2_with (refine wpList_load_row rfl 90 (.tmp 8) rfl w3.heap.size rfl 90 V.toArray (0, 0) (.struct fs) HR4.out HU.out rfl HV.out.info ?_)
      refine HBH.out.mono ?_
      rintro _ w5 ⟨rfl, hb5⟩
      have hs5 := hb5.size
      have HB45 := hide hb5
      have HB5 := hide (HB4.out.trans (hb5.mono (by omega)))
      have HC5 := hide ((hb5.block w.heap.size (by omega)).trans HC4.out)
      have HQ5 := hide ((hb5.block (w.heap.size + 1) (by omega)).trans HQ4.out)
      have HR5 := hide ((hb5.block w3.heap.size hs4).trans HR4.out)
      clear hb5
      cases r1 with
      | false =>
        have HF := hide (show Ward.verify root count q s = ([], 8) by unfold Ward.verify; rw [if_neg (by rw [HMY.out]; decide), HP.out]; simp only; rw [if_pos HR1.out])
        go_wp2_with fail
        go_ret2
        exact verified_nil HF.out HB5.out
      | true =>
        have HDH := hide (digestsHold_any 7 t V w5.drew (show NodeIs w5.drew _ 7 t V from NodeIs.keep (fun _ _ => rfl) (fun _ h => h) 7 t V (HNW.out w5 HB45.out)) HFI.out ((HKT.out.below HB5.out).below (Below.refl _ _).drew))
        have HDR := hide (show ∃ r, Ward.everyN Ward.digHolds 7 t = r from ⟨_, rfl⟩)
        obtain ⟨r2, hr2⟩ := HDR.out
        rw [hr2] at HDH
        have HR2 := hide hr2
        clear hr2 HDR
        have hnr5 : NodeRow w5.drew (.pointer (some ⟨w3.heap.size, 0, none⟩)) := nodeRow_of (w := w5.drew) HR5.out HV.out.size
        have hlv5 : loadVal w5.drew (.pointer (some ⟨w3.heap.size, 0, none⟩)) = .agg V.toArray := loadVal_row (w := w5.drew) HR5.out
        go_upto_region 8 with fail
        cases r2 with
        | false =>
          have HF := hide (show Ward.verify root count q s = ([], 9) by unfold Ward.verify; rw [if_neg (by rw [HMY.out]; decide), HP.out]; simp only; rw [if_neg (by rw [HR1.out]; decide), if_pos (Or.inl HR2.out)])
          first | go_region_with (go_at_call 48; go_must (refine HDH.out.mono ?_; rintro _ w6 ⟨rfl, hb6⟩; have HB6 := hide (HB5.out.drew.trans (hb6.mono (by simp; omega))); clear hb6)) | fail
          all_goals
            go_wp2_with fail
            go_ret2
            exact verified_nil HF.out HB6.out
        | true =>
          obtain ⟨rc, hrc⟩ : ∃ rc, (decide (Ward.digN 7 t = root) && (Ward.numN 7 t == count)) = rc := ⟨_, rfl⟩
          have heq := HEC.out (Ward.digN 7 t) (Ward.numN 7 t) HDL.out
          rw [hrc] at heq
          have HRC := hide hrc
          generalize rootV (Ward.digN 7 t) (Ward.numN 7 t) = RT at *
          clear hrc
          go_cut [26] from 27 to 35 (fun v26 wx => v26 = .bool (!rc) ∧ Below w5.heap.size w5 wx)
          case first =>
            first | go_region_with (first
              | (go_at_call 48; go_must (refine HDH.out.mono ?_; rintro _ w6 ⟨rfl, hb6⟩; have hs6 := hb6.size; have HB6 := hide ((Below.refl w5.heap.size w5).drew.trans (hb6.mono (Nat.le_refl _))); have HR6 := hide ((HB6.out.block w3.heap.size (by omega)).trans HR5.out); have HC6 := hide ((HB6.out.block w.heap.size (by omega)).trans HC5.out); have hnr6 := nodeRow_of HR6.out HV.out.size; have hlv6 := loadVal_row HR6.out; have hcr6 := comRow_of HC6.out HCS.out; have hcv6 := loadVal_row HC6.out; clear hb6))
              | (go_at_call 37; go_must (refine (HCM.out w6).mono ?_; rintro _ w7 ⟨rfl, hb7⟩; have HB7 := hide (HB6.out.trans (hb7.mono HB6.out.size)); have HC7 := hide ((HB7.out.block w.heap.size (by omega)).trans HC5.out); have hcr7 := comRow_of HC7.out HCS.out; have hcv7 := loadVal_row HC7.out; clear hb7))) | fail
            all_goals
              go_wp2_with fail
              go_meet
              exact ⟨rfl, HB7.out⟩
          case rest =>
            obtain ⟨rfl, hb8⟩ := hcut
            clear hnr5 hlv5 heq
            generalize wc = w8 at *
            have hs8 := hb8.size
            have HB8 := hide (HB5.out.trans (hb8.mono (by omega)))
            have HQ8 := hide ((hb8.block (w.heap.size + 1) (by omega)).trans HQ5.out)
            have HR8 := hide ((hb8.block w3.heap.size (by omega)).trans HR5.out)
            have HB48 := hide (HB45.out.trans (hb8.mono hs5))
            clear hb8
            cases rc with
            | false =>
              have HF := hide (show Ward.verify root count q s = ([], 9) by
                unfold Ward.verify
                rw [if_neg (by rw [HMY.out]; decide), HP.out]
                simp only
                rw [if_neg (by rw [HR1.out]; decide), if_pos (Or.inr (fun h => by
                  have h2 := HRC.out
                  rw [decide_eq_true h.1, h.2] at h2
                  simp at h2))])
              go_wp2_with fail
              go_ret2
              exact verified_nil HF.out HB8.out
            | true =>
              have HCE := hide (show Ward.digN 7 t = root ∧ Ward.numN 7 t = count by
                have h2 := HRC.out
                simp only [Bool.and_eq_true, decide_eq_true_eq, beq_iff_eq] at h2
                exact h2)
              have HEN := hide (Ward.parse_holds HP.out HR1.out)
              have HAN := hide (answer_tree HMY.out t V w8 (HNW.out w8 HB48.out) HFI.out HEN.out.1 HID.out HEN.out.2)
              obtain ⟨k0, k1, k2, k3, k4, k5, k6, k7⟩ := rowQ8 HQ8.out
              go_wp2_with (refine wpList_load_row rfl 90 (.tmp 8) rfl w3.heap.size rfl 90 V.toArray (0, 0) (.struct fs) HR8.out HU.out rfl HV.out.info ?_)
              refine HAN.out.mono ?_
              rintro _ w9 ⟨v9, rfl, ho9, hb9⟩
              have hs9 := hb9.size
              have HO9 := hide ho9
              have HB9 := hide (HB8.out.trans (hb9.mono (by omega)))
              have HQ9 := hide ((hb9.block (w.heap.size + 1) (by omega)).trans HQ8.out)
              have HR9 := hide ((hb9.block w3.heap.size (by omega)).trans HR8.out)
              have HB49 := hide (HB48.out.trans (hb9.mono (by omega)))
              clear hb9 ho9 k0 k1 k2 k3 k4 k5 k6 k7
              have HLK := hide (lacks_any HMY.out HFI.out.ok 7 t V v9 w9 _ (HNW.out w9 HB49.out) HFI.out HO9.out)
              obtain ⟨r3, hr3⟩ : ∃ r, Ward.everyN (Ward.lackN q (Ward.ans q (Ward.allN 7 t))) 7 t = r := ⟨_, rfl⟩
              rw [hr3] at HLK
              have HR3 := hide hr3
              clear hr3
              obtain ⟨k0, k1, k2, k3, k4, k5, k6, k7⟩ := rowQ8 HQ9.out
              go_wp2_with (refine wpList_load_row rfl 90 (.tmp 8) rfl w3.heap.size rfl 90 V.toArray (0, 0) (.struct fs) HR9.out HU.out rfl HV.out.info ?_)
              refine HLK.out.mono ?_
              rintro _ w10 ⟨rfl, hb10⟩
              have hs10 := hb10.size
              have HO10 := hide (HO9.out.below hb10)
              have HB10 := hide (HB9.out.trans (hb10.mono (by omega)))
              have HQ10 := hide ((hb10.block (w.heap.size + 1) (by omega)).trans HQ9.out)
              have HR10 := hide ((hb10.block w3.heap.size (by omega)).trans HR9.out)
              have HB410 := hide (HB49.out.trans (hb10.mono (by omega)))
              clear hb10 k0 k1 k2 k3 k4 k5 k6 k7
              cases r3 with
              | false =>
                have HF := hide (show Ward.verify root count q s = ([], 10) by
                  unfold Ward.verify
                  rw [if_neg (by rw [HMY.out]; decide), HP.out]
                  simp only
                  rw [if_neg (by rw [HR1.out]; decide), if_neg (fun h => by
                    rcases h with h | h
                    · rw [HR2.out] at h; cases h
                    · exact h HCE.out), if_pos HR3.out])
                go_wp2_with fail
                go_ret2
                exact verified_nil HF.out HB10.out
              | true =>
                have HWK := hide (wastes_any HMY.out HFI.out.ok 7 t V v9 w10 _ (HNW.out w10 HB410.out) HFI.out HO10.out)
                obtain ⟨r4, hr4⟩ : ∃ r, Ward.everyN (Ward.wasteN q (Ward.ans q (Ward.allN 7 t))) 7 t = r := ⟨_, rfl⟩
                rw [hr4] at HWK
                have HR4' := hide hr4
                clear hr4
                obtain ⟨k0, k1, k2, k3, k4, k5, k6, k7⟩ := rowQ8 HQ10.out
                go_wp2_with (refine wpList_load_row rfl 90 (.tmp 8) rfl w3.heap.size rfl 90 V.toArray (0, 0) (.struct fs) HR10.out HU.out rfl HV.out.info ?_)
                refine HWK.out.mono ?_
                rintro _ w11 ⟨rfl, hb11⟩
                have HO11 := hide (own_mono (B' := w.heap.size) (HO10.out.below hb11) (by omega))
                have HB11 := hide (HB10.out.trans (hb11.mono (by omega)))
                clear hb11 k0 k1 k2 k3 k4 k5 k6 k7
                have HF := hide (show Ward.verify root count q s = if Ward.everyN (Ward.wasteN q (Ward.ans q (Ward.allN 7 t))) 7 t = false then ([], 11) else (Ward.ans q (Ward.allN 7 t), 0) by
                  unfold Ward.verify
                  rw [if_neg (by rw [HMY.out]; decide), HP.out]
                  simp only
                  rw [if_neg (by rw [HR1.out]; decide), if_neg (fun h => by
                    rcases h with h | h
                    · rw [HR2.out] at h; cases h
                    · exact h HCE.out), if_neg (by rw [HR3.out]; decide)])
                cases r4 with
                | false =>
                  rw [if_pos HR4'.out] at HF
                  go_wp2_with fail
                  go_ret2
                  exact verified_nil HF.out HB11.out
                | true =>
                  rw [if_neg (by rw [HR4'.out]; decide)] at HF
                  go_wp2_with fail
                  go_ret2
                  unfold Verified
                  rw [HF.out]
                  exact ⟨v9, rfl, HO11.out, HB11.out⟩
end Go.Proofs.YtenaelkbgkpllaaGreatDoor
