/- The law's asks at Commitment. -/
import Derived.Test.YtenaelkbgkpllaaGreatDoorAll28
import Derived.Test.YtenaelkbgkpllaaGreatDoorAll26
import Derived.Test.YtenaelkbgkpllaaGreatDoorAll27
import Derived.Test.YtenaelkbgkpllaaGreatDoorAll12
namespace Go.Proofs.YtenaelkbgkpllaaGreatDoor
open Go.RowKit

set_option maxRecDepth 100000 in
set_option maxHeartbeats 4000000 in
theorem asks_commit {w0 w : World} {ow : Nat → Nat} {W0 n : Nat} {vp vh : Value} {ps : List Pr} {hs : List Nat} {i : Nat} (h : Stands w0 w ow W0 n vp vh ps hs i) (hKT : KT w0) (m r : Nat) (v u : Value) (L : List Ward.Pt) (hm : ps[i]? = some ⟨m, v, r, u, L, L⟩) (o : Opn) (hk : o.kind = 5) :
    Calls Tryz.prog 58 #[.pointer (some ⟨W0, 0, none⟩), .agg #[.pointer (some ⟨m, 0, none⟩), .pointer (some ⟨r, 0, none⟩)], .agg (opV o).toArray] w fun e w' => e = .returned (.bool true) ∧ InvE w0 w' W0 (n + 1) := by
  have HH := hide h
  have HOV := hide (show (opV o).toArray[0]? = some (I 5) by rw [← hk]; rfl)
  have HPA := hide (fun w' (hb : Below w.heap.size w w') => (h.below hb).pair hm)
  have HKT := hide (show KT w from hKT.le h.inv.base hKT.lt)
  generalize (opV o).toArray = OV at *
  have HBX := hide (boxed w #[.pointer (some ⟨m, 0, none⟩), .pointer (some ⟨r, 0, none⟩)] OV 113 76)
  clear h hm hk hKT
  have HEQ := hide (fun W => (eqCom L L W).trans (by simp : _ = Result.ok true W))
  have HCM := hide (com_of L)
  go_enter Tryz.func58, Tryz.ntmps58
  go_upto_region 1 with fail
  have hbx := HBX.out
  clear HBX
  generalize (w.alloc (.cells #[.pointer (some ⟨m, 0, none⟩), .pointer (some ⟨r, 0, none⟩)] 113)).alloc (.cells OV 76) = w1 at hbx ⊢
  obtain ⟨hb1, hx, ho⟩ := hbx
  have k0 : w1.cell? ⟨w.heap.size + 1, 0, none⟩ = some (I 5) := by rw [cell_of_row _ _ _ _ _ _ ho]; exact HOV.out
  have x0 : w1.cell? ⟨w.heap.size, 0, none⟩ = some (.pointer (some ⟨m, 0, none⟩)) := by rw [cell_of_row _ _ _ _ _ _ hx]; rfl
  have hs1 : w.heap.size + 1 < w1.heap.size := (Array.getElem?_eq_some_iff.1 ho).1
  have HB1 := hide hb1
  have HX := hide hx
  have HCP := hide (commitment_any m v L w1 (HPA.out w1 hb1).1 (HPA.out w1 hb1).2.2 (HKT.out.below hb1))
  have HCR := hide (fun W (hb : Below w.heap.size w W) => commitment_ref r u L W (HPA.out W hb).2.1 (HPA.out W hb).2.2)
  generalize commitV L = C at *
  clear hb1 hx ho HOV
  go_wp2_with fail
  refine HCP.out.mono ?_
  rintro _ w2 ⟨rfl, hb2⟩
  have hb12 : Below w.heap.size w w2 := HB1.out.trans (hb2.mono HB1.out.size)
  have hs2 := hb2.size
  have hb3' := fun o => (Below.refl w2.heap.size w2).alloc (Nat.le_refl _) o
  have hr3' := heap_alloc_new w2
  have HX2 := hide ((hb2.block w.heap.size (by omega)).trans HX.out)
  clear hb2 x0 k0 HX
  go_upto_region 9 with (refine wpList_store_row rfl 41 (.tmp 9) (.tmp 44) rfl w2.heap.size C.toArray rfl rfl 41 _ (heap_alloc_new w2 _) HCM.out.info (by rw [HCM.out.size]; rfl) HCM.out.one ?_; rw [World.setRow_alloc_new])
  generalize hW : World.alloc w2 _ = w3
  have hb3 : Below w2.heap.size w2 w3 := by rw [← hW]; exact hb3' _
  have hr3 : w3.heap[w2.heap.size]? = some (.cells C.toArray 41 (0, 0)) := by rw [← hW]; exact hr3' _
  clear hb3' hr3' hW
  have hs3 : w2.heap.size < w3.heap.size := (Array.getElem?_eq_some_iff.1 hr3).1
  have hb13 : Below w.heap.size w w3 := hb12.trans (hb3.mono hb12.size)
  have x1 : w3.cell? ⟨w.heap.size, 1, none⟩ = some (.pointer (some ⟨r, 0, none⟩)) := by
    rw [cell_of_row _ _ _ _ _ _ ((hb3.block w.heap.size (by omega)).trans HX2.out)]; rfl
  have HC3 := hide (HCR.out w3 hb13)
  have HB13 := hide hb13
  have HR3 := hide hr3
  clear hb3 hr3 hb13 hb12 HX2 HCR HCP
  go_wp2_with fail
  refine HC3.out.mono ?_
  rintro _ w4 ⟨rfl, hb4⟩
  have hs4 := hb4.size
  have HR4 := hide ((hb4.block w2.heap.size hs3).trans HR3.out)
  have hb14 : Below w.heap.size w w4 := HB13.out.trans (hb4.mono HB13.out.size)
  have HB14 := hide hb14
  have hb5' := fun o => (Below.refl w4.heap.size w4).alloc (Nat.le_refl _) o
  have hr5' := heap_alloc_new w4
  clear hb4 hb14 x1 HC3 HR3
  go_upto_region 10 with (refine wpList_store_row rfl 41 (.tmp 10) (.tmp 47) rfl w4.heap.size C.toArray rfl rfl 41 _ (heap_alloc_new w4 _) HCM.out.info (by rw [HCM.out.size]; rfl) HCM.out.one ?_; rw [World.setRow_alloc_new])
  generalize hW : World.alloc w4 _ = w5
  have hb5 : Below w4.heap.size w4 w5 := by rw [← hW]; exact hb5' _
  have hr5 : w5.heap[w4.heap.size]? = some (.cells C.toArray 41 (0, 0)) := by rw [← hW]; exact hr5' _
  clear hb5' hr5' hW
  have HR5 := hide hr5
  have HR4' := hide ((hb5.block w2.heap.size (by omega)).trans HR4.out)
  have HE := hide ((HH.out.below (HB14.out.trans (hb5.mono HB14.out.size))).invE)
  have hE := HEQ.out
  clear hb5 hr5
  go_wp2_with (first | (refine wpList_load_row rfl 41 (.tmp 9) rfl w2.heap.size rfl 41 C.toArray (0, 0) _ HR4'.out Tryz.underlying41 rfl HCM.out.info ?_) | (refine wpList_load_row rfl 41 (.tmp 10) rfl w4.heap.size rfl 41 C.toArray (0, 0) _ HR5.out Tryz.underlying41 rfl HCM.out.info ?_))
  go_ret
  exact ⟨rfl, HE.out⟩
end Go.Proofs.YtenaelkbgkpllaaGreatDoor
/- The law's asks at Digest. -/
namespace Go.Proofs.YtenaelkbgkpllaaGreatDoor
open Go.RowKit

set_option maxRecDepth 100000 in
set_option maxHeartbeats 4000000 in
theorem asks_digest {w0 w : World} {ow : Nat → Nat} {W0 n : Nat} {vp vh : Value} {ps : List Pr} {hs : List Nat} {i : Nat} (h : Stands w0 w ow W0 n vp vh ps hs i) (hKT : KT w0) (X : Array Value) (o : Opn) (hk : o.kind = 6) (hf : o.s.length ≤ 140737488351232) :
    Calls Tryz.prog 58 #[.pointer (some ⟨W0, 0, none⟩), .agg X, .agg (opV o).toArray] w fun e w' => e = .returned (.bool true) ∧ InvE w0 w' W0 (n + 1) := by
  have HH := hide h
  have HOV := hide (show (opV o).toArray[0]? = some (I 6) ∧ (opV o).toArray[14]? = some (Sv o.s) from ⟨by rw [← hk]; rfl, rfl⟩)
  have HKT := hide (show KT w from hKT.le h.inv.base hKT.lt)
  have hW0 := h.inv.law.lt
  generalize (opV o).toArray = OV at *
  generalize o.s = s at *
  have HBX := hide (boxed w X OV 113 76)
  clear h hk hKT
  have HEQ := hide (fun W => (eqArr (Sha.sha s) (Sha.sha s) rfl rfl W).trans (by simp : _ = Result.ok true W))
  obtain ⟨DV, hDV⟩ : ∃ DV, (Sha.sha s).map Y = DV := ⟨_, rfl⟩
  have HDL := hide (show DV.length = 32 by rw [← hDV, List.length_map]; rfl)
  have HDG := hide (fun W => digest_const s DV W hf hDV)
  have HDY := hide (show DV = (Sha.sha s).map Y from hDV.symm)
  have HDP := hide (fun W (hK : KT W) => digest_any ⟨s.toArray⟩ DV W (by show s.toArray.size ≤ _; rw [List.size_toArray]; omega) hK (by rw [show (⟨s.toArray⟩ : ByteArray).data.toList = s from rfl]; exact hDV))
  have HD1 := hide (show DV.toArray.all (·.oneCell') = true by
    rw [List.all_toArray, List.all_eq_true]
    intro v hv
    rw [HDY.out] at hv
    obtain ⟨x, _, rfl⟩ := List.mem_map.1 hv
    rfl)
  have HDI := hide (show (Tryz.prog.info? 39).map (·.size) = some DV.toArray.size by rw [List.size_toArray, HDL.out]; exact Tryz.info22)
  have HDS := hide (show DV.toArray.size = 32 by rw [List.size_toArray, HDL.out])
  rw [hDV] at HEQ
  clear hDV
  go_enter Tryz.func58, Tryz.ntmps58
  go_upto_region 1 with fail
  have hbx := HBX.out
  clear HBX
  generalize (w.alloc (.cells X 113)).alloc (.cells OV 76) = w1 at hbx ⊢
  obtain ⟨hb1, hx, ho⟩ := hbx
  have k0 : w1.cell? ⟨w.heap.size + 1, 0, none⟩ = some (I 6) := by rw [cell_of_row _ _ _ _ _ _ ho]; exact HOV.out.1
  have k14 : w1.cell? ⟨w.heap.size + 1, 14, none⟩ = some (Sv s) := by rw [cell_of_row _ _ _ _ _ _ ho]; exact HOV.out.2
  have hs1 : w.heap.size + 1 < w1.heap.size := (Array.getElem?_eq_some_iff.1 ho).1
  have HB1 := hide hb1
  have HO := hide ho
  have HK1 := hide (HKT.out.below hb1)
  clear hb1 hx ho
  go_wp2_with fail
  refine (HDP.out w1 HK1.out).mono ?_
  rintro _ w2 ⟨rfl, hb2⟩
  have hb12 : Below w.heap.size w w2 := HB1.out.trans (hb2.mono HB1.out.size)
  have hs2 := hb2.size
  have hb3' := fun o => (Below.refl w2.heap.size w2).alloc (Nat.le_refl _) o
  have hr3' := heap_alloc_new w2
  have HO2 := hide ((hb2.block (w.heap.size + 1) hs1).trans HO.out)
  clear hb2 k0 k14 HO
  go_upto_region 13 with (refine wpList_store_rowTo rfl 39 (.tmp 11) (.tmp 55) rfl rfl w2.heap.size DV.toArray rfl rfl 39 _ (heap_alloc_new w2 _) HDI.out (by rw [HDS.out]; rfl) HD1.out ?_; rw [World.setRow_alloc_new])
  generalize hW : World.alloc w2 _ = w3
  have hb3 : Below w2.heap.size w2 w3 := by rw [← hW]; exact hb3' _
  have hr3 : w3.heap[w2.heap.size]? = some (.cells DV.toArray 39 (0, 0)) := by rw [← hW]; exact hr3' _
  clear hb3' hr3' hW
  have hs3 : w2.heap.size < w3.heap.size := (Array.getElem?_eq_some_iff.1 hr3).1
  have hb13 : Below w.heap.size w w3 := hb12.trans (hb3.mono hb12.size)
  have hL3 := (HH.out.below hb13).inv.law
  have hRC : w3.rangeAt W0 2 constV := fun k v hv => by
    rw [cell_of_row _ _ _ _ _ _ hL3.row, List.getElem?_toArray, Nat.add_comm 2 k]
    exact hv
  have hc14 : w3.cell? ⟨w.heap.size + 1, 14, none⟩ = some (Sv s) := by rw [cell_of_row _ _ _ _ _ _ ((hb3.block (w.heap.size + 1) (by omega)).trans HO2.out)]; exact HOV.out.2
  have HB13 := hide hb13
  have HR3 := hide hr3
  have hW3 : W0 < w3.heap.size := by omega
  have hw3 : w.heap.size + 1 < w3.heap.size := by omega
  clear hb3 hr3 hb13 hb12 HO2 hL3 HDP
  go_cut [12] from 56 to 62 (fun v12 wx => ∃ gd, v12 = .pointer (some ⟨gd, 0, none⟩) ∧ w3.heap.size ≤ gd ∧ gd < wx.heap.size ∧ wx.rangeAt gd 0 DV ∧ Below w3.heap.size w3 wx)
  case first =>
    have hS : w3.drew.rangeAt W0 2 constV ∧ w3.drew.cell? ⟨w.heap.size + 1, 14, none⟩ = some (Sv s) := ⟨fun k v hv => hRC k v hv, by simpa using hc14⟩
    have hIC : (Tryz.prog.info? 67).map (·.size) = some constV.length := by rw [constV_len]; exact Tryz.infoConst
    have HCA := hide (fun (W W' : World) (hb : Below W.heap.size W W') (hw : w3.heap.size ≤ W.heap.size) (h : W.rangeAt W0 2 constV ∧ W.cell? ⟨w.heap.size + 1, 14, none⟩ = some (Sv s)) => show W'.rangeAt W0 2 constV ∧ W'.cell? ⟨w.heap.size + 1, 14, none⟩ = some (Sv s) from ⟨fun k v hv => (hb.cell (p := ⟨W0, 2 + k, none⟩) (by show W0 < _; omega)).trans (h.1 k v hv), (hb.cell (p := ⟨w.heap.size + 1, 14, none⟩) (by show w.heap.size + 1 < _; omega)).trans h.2⟩)
    refine wp_region_L 8 (fun W => W.rangeAt W0 2 constV ∧ W.cell? ⟨w.heap.size + 1, 14, none⟩ = some (Sv s)) (by kernel_rfl) hS (fun hH => ?_)
    clear hS hRC
    refine wpAnyL_take (i := 0) (v := ?_) rfl (by kernel_rfl) (by kernel_rfl) (by kernel_rfl) (by kernel_rfl) (by kernel_rfl) (fun _ _ _ h => h) (Or.inl ⟨by rfl, ?_⟩) hH ?_
    rotate_left
    · intro W hSW
      obtain ⟨zc, zs⟩ := hSW
      go_simp
      try with_reducible rfl
    try go_simp
    refine wpAnyL_take (i := 1) (v := ?_) rfl (by kernel_rfl) (by kernel_rfl) (by kernel_rfl) (by kernel_rfl) (by kernel_rfl) (fun _ _ _ h => h) (Or.inl ⟨by rfl, ?_⟩) hH ?_
    rotate_left
    · intro W hSW
      obtain ⟨zc, zs⟩ := hSW
      go_simp
      try with_reducible rfl
    try go_simp
    refine wpAnyL_take (i := 2) (v := ?_) rfl (by kernel_rfl) (by kernel_rfl) (by kernel_rfl) (by kernel_rfl) (by kernel_rfl) (fun _ _ _ h => h) (Or.inl ⟨by rfl, ?_⟩) hH ?_
    rotate_left
    · intro W hSW
      obtain ⟨zc, zs⟩ := hSW
      go_simp
      try with_reducible rfl
    try go_simp
    refine wpAnyL_take (i := 3) (v := .agg constV.toArray) rfl (by kernel_rfl) (by kernel_rfl) (by kernel_rfl) (by kernel_rfl) (by kernel_rfl) (fun _ _ _ h => h) (yieldsIf_load_mid (by rfl) _ _ rfl W0 2 rfl constV _ (fun W hW => hW.1) Tryz.underlying67 rfl hIC) hH ?_
    generalize constV.toArray = CA at *
    try go_simp
    refine wpAnyL_take (i := 4) (v := ?_) rfl (by kernel_rfl) (by kernel_rfl) (by kernel_rfl) (by kernel_rfl) (by kernel_rfl) (fun _ _ _ h => h) (Or.inl ⟨by rfl, ?_⟩) hH ?_
    rotate_left
    · intro W hSW
      obtain ⟨zc, zs⟩ := hSW
      go_simp
      try with_reducible rfl
    try go_simp
    refine wpAnyL_take (i := 5) (v := ?_) rfl (by kernel_rfl) (by kernel_rfl) (by kernel_rfl) (by kernel_rfl) (by kernel_rfl) (fun _ _ _ h => h) (Or.inl ⟨by rfl, ?_⟩) hH ?_
    rotate_left
    · intro W hSW
      obtain ⟨zc, zs⟩ := hSW
      go_simp
      try with_reducible rfl
    try go_simp
    have hD32 : DV.toArray.size = 32 := by rw [List.size_toArray, HDL.out]
    have hD1 : DV.toArray.all (·.oneCell') = true := by
      rw [List.all_toArray, List.all_eq_true]
      intro v hv
      rw [HDY.out] at hv
      obtain ⟨x, _, rfl⟩ := List.mem_map.1 hv
      rfl
    refine wpAnyL_two (i := 6) (j := 7) (by kernel_rfl) rfl rfl (fun K hK => ?_) (fun K hK => ?_)
    · go_simp
      refine (HDG.out _).mono ?_
      rintro _ w7 ⟨rfl, hb7⟩
      have hb67 : Below w3.heap.size w3 w7 := (show Below w3.heap.size w3 w3.drew from (Below.refl _ _).drew).trans hb7
      have hs7 : w3.heap.size ≤ w7.heap.size := hb67.size
      have hH7 := HCA.out _ _ hb7 (Nat.le_refl _) hH
      refine hK.out _ _ (fun _ => hH7) ?_
      clear hK K
      try go_simp
      refine wpAnyL_one (i := 7) (by kernel_rfl) rfl (fun K hK => ?_)
      go_simp
      have hn8 := heap_alloc_new w7
      have hb8 := fun o => (Below.refl w7.heap.size w7).alloc (Nat.le_refl _) o
      generalize hW : World.alloc w7 _ = w8
      obtain ⟨zz, hz32, hz8⟩ : ∃ zz : Array Value, zz.size = 32 ∧ w8.heap[w7.heap.size]? = some (.cells zz 39 (0, 0)) := by rw [← hW]; exact ⟨_, rfl, hn8 _⟩
      have hb78 : Below w7.heap.size w7 w8 := by rw [← hW]; exact hb8 _
      clear hW hn8 hb8
      refine hK.out _ _ (fun _ => HCA.out _ _ hb78 hs7 hH7) ?_
      clear hK K
      try go_simp
      refine wpAnyL_one (i := 8) (by kernel_rfl) rfl (fun K hK => ?_)
      rw [if_pos (by rfl)]
      refine wp_store_mid _ _ _ rfl w7.heap.size 0 DV.toArray rfl rfl (by rw [hD32]; exact there_of_row hz8 hz32) (by rw [hD32]; exact Tryz.info22) hD1 ?_
      refine hK.out _ _ (fun h => absurd rfl h) ?_
      clear hK K
      refine wpAnyL_done (by kernel_rfl) ?_ _
      have hs8 : w7.heap.size < w8.heap.size := (Array.getElem?_eq_some_iff.1 hz8).1
      have hbF : Below w3.heap.size w3 (w8.setCells w7.heap.size 0 DV.toArray.toList) := below_setCellsN hs7 _ _ _ (hb67.trans (hb78.mono hs7))
      have hsF : w7.heap.size < (w8.setCells w7.heap.size 0 DV.toArray.toList).heap.size := Nat.lt_of_lt_of_le hs8 (below_setCellsN (Nat.le_refl _) _ _ _ (Below.refl w7.heap.size w8)).size
      have hrF : (w8.setCells w7.heap.size 0 DV.toArray.toList).rangeAt w7.heap.size 0 DV := World.rangeAt_setCells_same _ _ _ _ (by rw [HDL.out]; exact there_of_row hz8 hz32)
      go_wp2_with fail
      go_meet
      exact ⟨w7.heap.size, rfl, hs7, hsF, hrF, hbF⟩
    · go_simp
      have hn8 := heap_alloc_new w3
      have hb8 := fun o => ((Below.refl w3.heap.size w3).alloc (Nat.le_refl _) o).drew
      have hH6 : w3.rangeAt W0 2 constV ∧ w3.cell? ⟨w.heap.size + 1, 14, none⟩ = some (Sv s) := ⟨fun k v hv => by simpa using hH.1 k v hv, by simpa using hH.2⟩
      generalize hW : World.drew (World.alloc w3 _) = w7
      obtain ⟨zz, hz32, hz7⟩ : ∃ zz : Array Value, zz.size = 32 ∧ w7.heap[w3.heap.size]? = some (.cells zz 39 (0, 0)) := by rw [← hW]; exact ⟨_, rfl, hn8 _⟩
      have hb67 : Below w3.heap.size w3 w7 := by rw [← hW]; exact hb8 _
      clear hW hn8 hb8
      have hs7 : w3.heap.size < w7.heap.size := (Array.getElem?_eq_some_iff.1 hz7).1
      have hH7 := HCA.out _ _ hb67 (Nat.le_refl _) hH6
      refine hK.out _ _ (fun _ => hH7) ?_
      clear hK K
      try go_simp
      refine wpAnyL_one (i := 6) (by kernel_rfl) rfl (fun K hK => ?_)
      go_simp
      refine (HDG.out _).mono ?_
      rintro _ w8 ⟨rfl, hb8⟩
      have hz8 := (hb8.block w3.heap.size hs7).trans hz7
      refine hK.out _ _ (fun _ => HCA.out _ _ hb8 (Nat.le_of_lt hs7) hH7) ?_
      clear hK K
      try go_simp
      refine wpAnyL_one (i := 8) (by kernel_rfl) rfl (fun K hK => ?_)
      rw [if_pos (by rfl)]
      refine wp_store_mid _ _ _ rfl w3.heap.size 0 DV.toArray rfl rfl (by rw [hD32]; exact there_of_row hz8 hz32) (by rw [hD32]; exact Tryz.info22) hD1 ?_
      refine hK.out _ _ (fun h => absurd rfl h) ?_
      clear hK K
      refine wpAnyL_done (by kernel_rfl) ?_ _
      have hs8 : w3.heap.size < w8.heap.size := (Array.getElem?_eq_some_iff.1 hz8).1
      have hbF : Below w3.heap.size w3 (w8.setCells w3.heap.size 0 DV.toArray.toList) := below_setCellsN (Nat.le_refl _) _ _ _ (hb67.trans (hb8.mono (Nat.le_of_lt hs7)))
      have hsF : w3.heap.size < (w8.setCells w3.heap.size 0 DV.toArray.toList).heap.size := Nat.lt_of_lt_of_le hs8 (below_setCellsN (Nat.le_refl _) _ _ _ (Below.refl w3.heap.size w8)).size
      have hrF : (w8.setCells w3.heap.size 0 DV.toArray.toList).rangeAt w3.heap.size 0 DV := World.rangeAt_setCells_same _ _ _ _ (by rw [HDL.out]; exact there_of_row hz8 hz32)
      go_wp2_with fail
      go_meet
      exact ⟨w3.heap.size, rfl, (Nat.le_refl _), hsF, hrF, hbF⟩
  case rest =>
    obtain ⟨gd, rfl, hgd0, hgd, hrd, hb4⟩ := hcut
    have HR4 := hide ((hb4.block w2.heap.size hs3).trans HR3.out)
    have HE := hide ((HH.out.below (HB13.out.trans (hb4.mono HB13.out.size))).invE)
    have HRD := hide hrd
    have HID := hide (show (Tryz.prog.info? 39).map (·.size) = some DV.length by rw [HDL.out]; exact Tryz.info22)
    have hE := HEQ.out
    clear hb4 hrd hRC hc14
    generalize wc = w4 at *
    go_wp2_with (first | (refine wpList_load_row rfl 39 (.tmp 11) rfl w2.heap.size rfl 39 DV.toArray (0, 0) _ HR4.out Tryz.underlying39 rfl HDI.out ?_) | (refine wpList_load_mid rfl 39 (.tmp 12) rfl gd 0 rfl DV _ HRD.out Tryz.underlying39 rfl HID.out ?_))
    go_ret
    exact ⟨rfl, HE.out⟩
end Go.Proofs.YtenaelkbgkpllaaGreatDoor
/- The law's step, for the kinds up to Prove. -/
namespace Go.Proofs.YtenaelkbgkpllaaGreatDoor
open Go.RowKit

theorem boxed1 (w : World) (Z : Array Value) (b : TypeId) : Below w.heap.size w (w.alloc (.cells Z b)) ∧ (w.alloc (.cells Z b)).heap[w.heap.size]? = some (.cells Z b (0, 0)) := ⟨(Below.refl w.heap.size w).alloc (Nat.le_refl _) _, heap_alloc_new w _⟩
theorem Tryz.sizeOp : (Tryz.prog.info? 76).map (·.size) = some 48 := by kernel_rfl
/-- which map is meant -/
def pickI (M : Int) (N : Nat) : Nat := ((M.tmod N + N).tmod N).toNat
theorem pick_lt {M : Int} {N : Nat} (h : 0 < N) : 0 ≤ (M.tmod N + N).tmod N ∧ (M.tmod N + N).tmod N < N ∧ -(N : Int) < M.tmod N ∧ M.tmod N < N := by
  have hN : (0 : Int) < N := by omega
  have h2 : M.tmod N < N := Int.tmod_lt_of_pos _ hN
  have h1 : -(N : Int) < M.tmod N := by
    have h3 : (-M).tmod N < N := Int.tmod_lt_of_pos _ hN
    rw [Int.neg_tmod] at h3
    omega
  exact ⟨Int.tmod_nonneg _ (by omega), Int.tmod_lt_of_pos _ hN, h1, h2⟩
set_option maxRecDepth 100000 in
set_option maxHeartbeats 4000000 in
theorem step_law {w0 w : World} {ow : Nat → Nat} {W0 n : Nat} {vp vh : Value} {ps : List Pr} {hs : List Nat} (o : Opn) (hF : o.Fit) (hk : o.kind ≤ 8) (hk1 : o.kind ≠ 1) (h : Stands w0 w ow W0 n vp vh ps hs (pickI o.m ps.length))
    (m r : Nat) (v u : Value) (L : List Ward.Pt) (hm : ps[pickI o.m ps.length]? = some ⟨m, v, r, u, L, L⟩)
    (hA : 4 ≤ o.kind → ∀ w', Below w.heap.size w w' → Calls Tryz.prog 58 #[.pointer (some ⟨W0, 0, none⟩), .agg #[.pointer (some ⟨m, 0, none⟩), .pointer (some ⟨r, 0, none⟩)], .agg (opV o).toArray] w' fun e w'' => e = .returned (.bool true) ∧ InvE w0 w'' W0 (n + 1)) :
    Calls Tryz.prog 28 #[.pointer (some ⟨W0, 0, none⟩), .agg (opV o).toArray] w fun e w' => e = .returned (.bool true) ∧ InvE w0 w' W0 (n + 1) := by
  obtain ⟨g, c, evp, hnc, hcell⟩ := h.inv.law.pair_at h.ne
  have hN : 0 < ps.length := List.length_pos_iff.2 h.ne
  have hNs : ps.length ≤ 1000000000000 := Nat.le_trans h.pn h.small
  have hjl := h.lt
  obtain ⟨hp1, hp2, hp3, hp4⟩ := pick_lt (M := o.m) hN
  have hMb := hF.m
  obtain ⟨j, hj⟩ : ∃ j, pickI o.m ps.length = j := ⟨_, rfl⟩
  have hjt : ((o.m.tmod ps.length + ps.length).tmod ps.length).toNat = j := hj
  rw [hj] at h hm hjl
  have HH := hide h
  have HOV := hide (show (opV o).toArray[0]? = some (I o.kind) ∧ (opV o).toArray[1]? = some (I o.m) from ⟨rfl, rfl⟩)
  have HOP := hide (show (opV o).toArray[2]? = some (I o.a) ∧ (opV o).toArray[3]? = some (I o.p.id) ∧ (opV o).toArray[4]? = some (I o.p.x) ∧ (opV o).toArray[5]? = some (I o.p.y) ∧ (opV o).toArray.size = 48 from ⟨rfl, rfl, rfl, rfl, by rw [List.size_toArray]; exact opV_len hF.root⟩)
  have HCL := hide (fun w' hb => And.intro (hcell w' hb).1 ((hcell w' hb).2 j hjl))
  have HEM := hide (show ps[j] = ⟨m, v, r, u, L, L⟩ from (List.getElem?_eq_some_iff.1 hm).2)
  obtain ⟨OV, hOV⟩ : ∃ OV, (opV o).toArray = OV := ⟨_, rfl⟩
  rw [hOV] at HOV HOP hA ⊢
  have HA := hide hA
  clear hA
  have HBX := hide (boxed1 w OV 76)
  clear h hcell
  go_enter Tryz.func28, Tryz.ntmps28
  go_upto_region 1 with fail
  have hbx := HBX.out
  clear HBX
  generalize w.alloc (.cells OV 76) = w1 at hbx ⊢
  obtain ⟨hb1, hx⟩ := hbx
  have k0 : w1.cell? ⟨w.heap.size, 0, none⟩ = some (I o.kind) := by rw [cell_of_row _ _ _ _ _ _ hx]; exact HOV.out.1
  have k1 : w1.cell? ⟨w.heap.size, 1, none⟩ = some (I o.m) := by rw [cell_of_row _ _ _ _ _ _ hx]; exact HOV.out.2
  obtain ⟨q0, q1', q2'⟩ := HCL.out w1 hb1
  have q1 : w1.cell? ⟨g, j * 2, none⟩ = some (.pointer (some ⟨m, 0, none⟩)) := by rw [q1', HEM.out]
  have q2 : w1.cell? ⟨g, j * 2 + 1, none⟩ = some (.pointer (some ⟨r, 0, none⟩)) := by rw [q2', HEM.out]
  clear q1' q2'
  subst evp
  have hs1 : w.heap.size < w1.heap.size := (Array.getElem?_eq_some_iff.1 hx).1
  have HB1 := hide hb1
  have HX := hide hx
  clear hb1 hx HCL
  obtain ⟨kd, hk0⟩ : ∃ kd, o.kind = kd := ⟨_, rfl⟩
  rw [hk0] at hk hk1 k0 HOV
  generalize o.m = M at *
  have hkb : (kd == 1) = false := by simpa using hk1
  go_upto_region 4 with fail
  have hne : ¬ ps = [] := fun e => by rw [e] at hN; simp at hN
  have hwr : IntKind.i64.wrap (M.tmod ↑ps.length + ↑ps.length) = M.tmod ↑ps.length + ↑ps.length := by rw [IntKind.wrap_i64]; omega
  go_cut [6] from 24 to 37 (fun v6 wx => ∃ gx, v6 = .pointer (some ⟨gx, 0, none⟩) ∧ w1.heap.size ≤ gx ∧ wx.heap[gx]? = some (.cells #[.pointer (some ⟨m, 0, none⟩), .pointer (some ⟨r, 0, none⟩)] 113 (0, 0)) ∧ Below w1.heap.size w1 wx)
  case first =>
    have hS : w1.drew.cell? ⟨W0, 0, none⟩ = some (.slice (some ⟨g, 0, none⟩) ps.length c) ∧ w1.drew.cell? ⟨w.heap.size, 1, none⟩ = some (I M) ∧ w1.drew.cell? ⟨g, j * 2, none⟩ = some (.pointer (some ⟨m, 0, none⟩)) ∧ w1.drew.cell? ⟨g, j * 2 + 1, none⟩ = some (.pointer (some ⟨r, 0, none⟩)) := ⟨by simpa using q0, by simpa using k1, by simpa using q1, by simpa using q2⟩
    refine wp_region_L 15 (fun W => W.cell? ⟨W0, 0, none⟩ = some (.slice (some ⟨g, 0, none⟩) ps.length c) ∧ W.cell? ⟨w.heap.size, 1, none⟩ = some (I M) ∧ W.cell? ⟨g, j * 2, none⟩ = some (.pointer (some ⟨m, 0, none⟩)) ∧ W.cell? ⟨g, j * 2 + 1, none⟩ = some (.pointer (some ⟨r, 0, none⟩))) (by kernel_rfl) hS (fun hH => ?_)
    clear hS
    refine wpAnyL_take (i := 0) (v := ?_) rfl (by kernel_rfl) (by kernel_rfl) (by kernel_rfl) (by kernel_rfl) (by kernel_rfl) (fun _ _ _ h => h) (Or.inl ⟨by rfl, ?_⟩) hH ?_
    rotate_left
    · intro W hSW
      obtain ⟨zp, zm, z0, z1⟩ := hSW
      go_simp
      try with_reducible rfl
    try go_simp
    refine wpAnyL_take (i := 1) (v := ?_) rfl (by kernel_rfl) (by kernel_rfl) (by kernel_rfl) (by kernel_rfl) (by kernel_rfl) (fun _ _ _ h => h) (Or.inl ⟨by rfl, ?_⟩) hH ?_
    rotate_left
    · intro W hSW
      obtain ⟨zp, zm, z0, z1⟩ := hSW
      go_simp
      try with_reducible rfl
    try go_simp
    refine wpAnyL_take (i := 2) (v := ?_) rfl (by kernel_rfl) (by kernel_rfl) (by kernel_rfl) (by kernel_rfl) (by kernel_rfl) (fun _ _ _ h => h) (Or.inl ⟨by rfl, ?_⟩) hH ?_
    rotate_left
    · intro W hSW
      obtain ⟨zp, zm, z0, z1⟩ := hSW
      go_simp
      try with_reducible rfl
    try go_simp
    refine wpAnyL_take (i := 3) (v := ?_) rfl (by kernel_rfl) (by kernel_rfl) (by kernel_rfl) (by kernel_rfl) (by kernel_rfl) (fun _ _ _ h => h) (Or.inl ⟨by rfl, ?_⟩) hH ?_
    rotate_left
    · intro W hSW
      obtain ⟨zp, zm, z0, z1⟩ := hSW
      go_simp
      try with_reducible rfl
    try go_simp
    refine wpAnyL_take (i := 4) (v := ?_) rfl (by kernel_rfl) (by kernel_rfl) (by kernel_rfl) (by kernel_rfl) (by kernel_rfl) (fun _ _ _ h => h) (Or.inl ⟨by rfl, ?_⟩) hH ?_
    rotate_left
    · intro W hSW
      obtain ⟨zp, zm, z0, z1⟩ := hSW
      go_simp
      try with_reducible rfl
    try go_simp
    refine wpAnyL_take (i := 5) (v := ?_) rfl (by kernel_rfl) (by kernel_rfl) (by kernel_rfl) (by kernel_rfl) (by kernel_rfl) (fun _ _ _ h => h) (Or.inl ⟨by rfl, ?_⟩) hH ?_
    rotate_left
    · intro W hSW
      obtain ⟨zp, zm, z0, z1⟩ := hSW
      go_simp
      try with_reducible rfl
    try go_simp
    refine wpAnyL_take (i := 6) (v := ?_) rfl (by kernel_rfl) (by kernel_rfl) (by kernel_rfl) (by kernel_rfl) (by kernel_rfl) (fun _ _ _ h => h) (Or.inl ⟨by rfl, ?_⟩) hH ?_
    rotate_left
    · intro W hSW
      obtain ⟨zp, zm, z0, z1⟩ := hSW
      go_simp
      try with_reducible rfl
    try go_simp
    refine wpAnyL_take (i := 7) (v := ?_) rfl (by kernel_rfl) (by kernel_rfl) (by kernel_rfl) (by kernel_rfl) (by kernel_rfl) (fun _ _ _ h => h) (Or.inl ⟨by rfl, ?_⟩) hH ?_
    rotate_left
    · intro W hSW
      obtain ⟨zp, zm, z0, z1⟩ := hSW
      go_simp
      try with_reducible rfl
    try go_simp
    refine wpAnyL_take (i := 8) (v := ?_) rfl (by kernel_rfl) (by kernel_rfl) (by kernel_rfl) (by kernel_rfl) (by kernel_rfl) (fun _ _ _ h => h) (Or.inl ⟨by rfl, ?_⟩) hH ?_
    rotate_left
    · intro W hSW
      obtain ⟨zp, zm, z0, z1⟩ := hSW
      go_simp
      try with_reducible rfl
    try go_simp
    refine wpAnyL_take (i := 9) (v := ?_) rfl (by kernel_rfl) (by kernel_rfl) (by kernel_rfl) (by kernel_rfl) (by kernel_rfl) (fun _ _ _ h => h) (Or.inl ⟨by rfl, ?_⟩) hH ?_
    rotate_left
    · intro W hSW
      obtain ⟨zp, zm, z0, z1⟩ := hSW
      go_simp
      try with_reducible rfl
    try go_simp
    refine wpAnyL_take (i := 10) (v := ?_) rfl (by kernel_rfl) (by kernel_rfl) (by kernel_rfl) (by kernel_rfl) (by kernel_rfl) (fun _ _ _ h => h) (Or.inl ⟨by rfl, ?_⟩) hH ?_
    rotate_left
    · intro W hSW
      obtain ⟨zp, zm, z0, z1⟩ := hSW
      go_simp
      try with_reducible rfl
    try go_simp
    refine wpAnyL_take (i := 11) (v := ?_) rfl (by kernel_rfl) (by kernel_rfl) (by kernel_rfl) (by kernel_rfl) (by kernel_rfl) (fun _ _ _ h => h) (Or.inl ⟨by rfl, ?_⟩) hH ?_
    rotate_left
    · intro W hSW
      obtain ⟨zp, zm, z0, z1⟩ := hSW
      go_simp
      try with_reducible rfl
    try go_simp
    refine wpAnyL_take (i := 12) (v := ?_) rfl (by kernel_rfl) (by kernel_rfl) (by kernel_rfl) (by kernel_rfl) (by kernel_rfl) (fun _ _ _ h => h) (Or.inl ⟨by rfl, ?_⟩) hH ?_
    rotate_left
    · intro W hSW
      obtain ⟨zp, zm, z0, z1⟩ := hSW
      go_simp
      try with_reducible rfl
    try go_simp
    refine wpAnyL_take (i := 13) (v := ?_) rfl (by kernel_rfl) (by kernel_rfl) (by kernel_rfl) (by kernel_rfl) (by kernel_rfl) (fun _ _ _ h => h) (Or.inl ⟨by rfl, ?_⟩) hH ?_
    rotate_left
    · intro W hSW
      obtain ⟨zp, zm, z0, z1⟩ := hSW
      go_simp
      try with_reducible rfl
    try go_simp
    refine wpAnyL_one (i := 14) (by kernel_rfl) rfl (fun K hK => ?_)
    go_simp
    have hn2 := heap_alloc_new w1
    have hb2' := fun o => ((Below.refl w1.heap.size w1).alloc (Nat.le_refl _) o).drew
    refine hK.out _ _ (fun _ => ?_) ?_
    · obtain ⟨z1, z2, z3, z4⟩ := hH
      have hb3 := hb2' (.cells #[.pointer none, .pointer none] 113)
      exact ⟨(hb3.cell (p := ⟨W0, 0, none⟩) (block_lt_of_cell q0)).trans q0, (hb3.cell (p := ⟨w.heap.size, 1, none⟩) (block_lt_of_cell k1)).trans k1, (hb3.cell (p := ⟨g, j * 2, none⟩) (block_lt_of_cell q1)).trans q1, (hb3.cell (p := ⟨g, j * 2 + 1, none⟩) (block_lt_of_cell q2)).trans q2⟩
    clear hK K
    try go_simp
    refine wpAnyL_one (i := 15) (by kernel_rfl) rfl (fun K hK => ?_)
    go_simp
    refine hK.out _ _ (fun h => absurd rfl h) ?_
    clear hK K
    refine wpAnyL_done (by kernel_rfl) ?_ _
    go_wp2_with fail
    go_meet
    exact ⟨w1.heap.size, rfl, Nat.le_refl _, hn2 _, hb2' _⟩
  case rest =>
    obtain ⟨gx, rfl, hgx, hrx, hb2⟩ := hcut
    generalize wc = w2 at *
    have HBW := hide (HB1.out.trans (hb2.mono HB1.out.size))
    have HS2 := hide (HH.out.below HBW.out)
    have HML := hide (show ∀ k, Mine m v k → k < w.heap.size from fun k hk => (HH.out.pair hm).1.mine_lt hk)
    have hro := (hb2.block w.heap.size hs1).trans HX.out
    have HRO := hide hro
    have k2 : w2.cell? ⟨w.heap.size, 0, none⟩ = some (I kd) := by rw [cell_of_row _ _ _ _ _ _ hro]; exact HOV.out.1
    have x0 : w2.cell? ⟨gx, 0, none⟩ = some (.pointer (some ⟨m, 0, none⟩)) := by rw [cell_of_row _ _ _ _ _ _ hrx]; rfl
    have x1 : w2.cell? ⟨gx, 1, none⟩ = some (.pointer (some ⟨r, 0, none⟩)) := by rw [cell_of_row _ _ _ _ _ _ hrx]; rfl
    have HRX := hide hrx
    clear q0 q1 q2 k0 k1 hp1 hp2 hp3 hp4 hjt hwr hMb hb2 hro hrx HX hN hne
    by_cases e2 : kd = 2
    · subst e2
      obtain ⟨hM, hR, hG⟩ := HS2.out.pair hm
      have y3 : w2.cell? ⟨w.heap.size, 3, none⟩ = some (I o.p.id) := by rw [cell_of_row _ _ _ _ _ _ HRO.out]; exact HOP.out.2.1
      have y4 : w2.cell? ⟨w.heap.size, 4, none⟩ = some (I o.p.x) := by rw [cell_of_row _ _ _ _ _ _ HRO.out]; exact HOP.out.2.2.1
      have y5 : w2.cell? ⟨w.heap.size, 5, none⟩ = some (I o.p.y) := by rw [cell_of_row _ _ _ _ _ _ HRO.out]; exact HOP.out.2.2.2.1
      have HIN := hide (mapInsert_any m v L o.p w2 hM hG)
      have HIR := hide (fun w3 (hr : RMap w3 r u L) => insert_ref r u L o.p w3 hr hG)
      have HGI := hide (hG.insert o.p)
      generalize o.p = p at *
      obtain ⟨pi, px, py⟩ := p
      clear hM hR hG
      go_wp2_with fail
      refine HIN.out.mono ?_
      rintro _ w3 ⟨rfl, v', hm3, hf3, hk3⟩
      have hx3 : w3.heap[gx]? = w2.heap[gx]? := hk3.block gx ((Array.getElem?_eq_some_iff.1 HRX.out).1) (fun e => by have := HML.out gx e; omega)
      have ho3 : w3.heap[w.heap.size]? = w2.heap[w.heap.size]? := hk3.block w.heap.size ((Array.getElem?_eq_some_iff.1 HRO.out).1) (fun e => by have := HML.out _ e; omega)
      have x1' : w3.cell? ⟨gx, 1, none⟩ = some (.pointer (some ⟨r, 0, none⟩)) := by rw [World.cell?_of_block (a := ⟨gx, 1, none⟩) hx3]; exact x1
      have z3 : w3.cell? ⟨w.heap.size, 3, none⟩ = some (I pi) := by rw [World.cell?_of_block (a := ⟨w.heap.size, 3, none⟩) ho3]; exact y3
      have z4 : w3.cell? ⟨w.heap.size, 4, none⟩ = some (I px) := by rw [World.cell?_of_block (a := ⟨w.heap.size, 4, none⟩) ho3]; exact y4
      have z5 : w3.cell? ⟨w.heap.size, 5, none⟩ = some (I py) := by rw [World.cell?_of_block (a := ⟨w.heap.size, 5, none⟩) ho3]; exact y5
      have HI3 := hide (HIR.out w3 (HS2.out.half hm hk3))
      have H1 := hide (show ∃ v', IsMap w3 m v' (insList L ⟨pi, px, py⟩) ∧ Fresh w2 v v' ∧ Keeps (Mine m v) w2 w3 from ⟨v', hm3, hf3, hk3⟩)
      generalize insCode L ⟨pi, px, py⟩ = code at *
      clear hm3 hf3 hk3 hx3 ho3 y3 y4 y5 x0 x1 k2 HIN HIR
      go_wp2_with fail
      refine HI3.out.mono ?_
      rintro _ w4 ⟨rfl, hu⟩
      have HE := hide (HS2.out.two hm HGI.out H1.out hu)
      clear hu z3 z4 z5 x1'
      go_wp2_with fail
      go_ret
      exact ⟨rfl, HE.out⟩
    · by_cases e3 : kd = 3
      · subst e3
        obtain ⟨hM, hR, hG⟩ := HS2.out.pair hm
        have y2 : w2.cell? ⟨w.heap.size, 2, none⟩ = some (I o.a) := by rw [cell_of_row _ _ _ _ _ _ HRO.out]; exact HOP.out.1
        have hl150 := hG.many
        have HDE := hide (show Calls Tryz.prog 19 #[.pointer (some ⟨m, 0, none⟩), I o.a] w2 fun e w3 => ∃ c L', Good L' ∧ (∃ v', IsMap w3 m v' L' ∧ Fresh w2 v v' ∧ Keeps (Mine m v) w2 w3) ∧ e = .returned (I c) ∧ ∀ w3, RMap w3 r u L → Calls Tryz.prog 57 #[.pointer (some ⟨r, 0, none⟩), I o.a] w3 fun e w4 => InsertedR w3 r u L' c e w4 from by
          by_cases hid : ∃ q ∈ L, q.id = o.a
          · refine (mapDelete_any m v L o.a w2 hM (by omega) hid).mono ?_
            rintro e w3 ⟨rfl, v', i, hi, hii, hm3, hf3, hk3⟩
            refine ⟨0, L.eraseIdx i, good_erase hG i, ⟨v', hm3, hf3, hk3⟩, rfl, fun w3 hr3 => ?_⟩
            refine (rdelete_yes r u L o.a w3 hr3 (by omega) hid).mono ?_
            rintro e w4 ⟨i', hi', hii', h4⟩
            have : i = i' := Ward.ids_index hG.ids hi hi' (hii.trans hii'.symm)
            subst this
            exact h4
          · refine (mapDelete_no m v L o.a w2 hM (by omega) hid).mono ?_
            rintro e w3 ⟨rfl, h3⟩
            exact ⟨4, L, hG, h3, rfl, fun w3 hr3 => rdelete_no r u L o.a w3 hr3 (by omega) hid⟩)
        generalize o.a = aa at *
        clear hM hR hG
        go_wp2_with fail
        refine HDE.out.mono ?_
        rintro _ w3 ⟨code, L', hG', ⟨v', hm3, hf3, hk3⟩, rfl, hrd⟩
        have hx3 : w3.heap[gx]? = w2.heap[gx]? := hk3.block gx ((Array.getElem?_eq_some_iff.1 HRX.out).1) (fun e => by have := HML.out gx e; omega)
        have ho3 : w3.heap[w.heap.size]? = w2.heap[w.heap.size]? := hk3.block w.heap.size ((Array.getElem?_eq_some_iff.1 HRO.out).1) (fun e => by have := HML.out _ e; omega)
        have x1' : w3.cell? ⟨gx, 1, none⟩ = some (.pointer (some ⟨r, 0, none⟩)) := by rw [World.cell?_of_block (a := ⟨gx, 1, none⟩) hx3]; exact x1
        have z2 : w3.cell? ⟨w.heap.size, 2, none⟩ = some (I aa) := by rw [World.cell?_of_block (a := ⟨w.heap.size, 2, none⟩) ho3]; exact y2
        have HI3 := hide (hrd w3 (HS2.out.half hm hk3))
        have H1 := hide (show ∃ v', IsMap w3 m v' L' ∧ Fresh w2 v v' ∧ Keeps (Mine m v) w2 w3 from ⟨v', hm3, hf3, hk3⟩)
        have HGI := hide hG'
        clear hm3 hf3 hk3 hx3 ho3 y2 x0 x1 k2 HDE hrd hG'
        go_wp2_with fail
        refine HI3.out.mono ?_
        rintro _ w4 ⟨rfl, hu⟩
        have HE := hide (HS2.out.two hm HGI.out H1.out hu)
        clear hu z2 x1'
        go_wp2_with fail
        go_ret
        exact ⟨rfl, HE.out⟩
      · by_cases e4 : kd = 4
        · subst e4
          have HAK := hide (HA.out (by omega) w2 HBW.out)
          have HSZ := hide (show (Tryz.prog.info? 76).map (·.size) = some OV.size by rw [HOP.out.2.2.2.2]; exact Tryz.sizeOp)
          go_wp2_with (refine wpList_load_row rfl 76 (.tmp 3) rfl w.heap.size rfl 76 OV (0, 0) _ HRO.out Tryz.underlying76 rfl HSZ.out ?_)
          refine HAK.out.mono ?_
          rintro _ w3 ⟨rfl, hE⟩
          have HE := hide hE
          clear hE x0 x1 k2
          go_wp2_with fail
          go_ret
          exact ⟨rfl, HE.out⟩
        · by_cases e5 : kd = 5
          · subst e5
            have HAK := hide (HA.out (by omega) w2 HBW.out)
            have HSZ := hide (show (Tryz.prog.info? 76).map (·.size) = some OV.size by rw [HOP.out.2.2.2.2]; exact Tryz.sizeOp)
            go_wp2_with (refine wpList_load_row rfl 76 (.tmp 3) rfl w.heap.size rfl 76 OV (0, 0) _ HRO.out Tryz.underlying76 rfl HSZ.out ?_)
            refine HAK.out.mono ?_
            rintro _ w3 ⟨rfl, hE⟩
            have HE := hide hE
            clear hE x0 x1 k2
            go_wp2_with fail
            go_ret
            exact ⟨rfl, HE.out⟩
          · by_cases e6 : kd = 6
            · subst e6
              have HAK := hide (HA.out (by omega) w2 HBW.out)
              have HSZ := hide (show (Tryz.prog.info? 76).map (·.size) = some OV.size by rw [HOP.out.2.2.2.2]; exact Tryz.sizeOp)
              go_wp2_with (refine wpList_load_row rfl 76 (.tmp 3) rfl w.heap.size rfl 76 OV (0, 0) _ HRO.out Tryz.underlying76 rfl HSZ.out ?_)
              refine HAK.out.mono ?_
              rintro _ w3 ⟨rfl, hE⟩
              have HE := hide hE
              clear hE x0 x1 k2
              go_wp2_with fail
              go_ret
              exact ⟨rfl, HE.out⟩
            · by_cases e7 : kd = 7
              · subst e7
                have HAK := hide (HA.out (by omega) w2 HBW.out)
                have HSZ := hide (show (Tryz.prog.info? 76).map (·.size) = some OV.size by rw [HOP.out.2.2.2.2]; exact Tryz.sizeOp)
                go_wp2_with (refine wpList_load_row rfl 76 (.tmp 3) rfl w.heap.size rfl 76 OV (0, 0) _ HRO.out Tryz.underlying76 rfl HSZ.out ?_)
                refine HAK.out.mono ?_
                rintro _ w3 ⟨rfl, hE⟩
                have HE := hide hE
                clear hE x0 x1 k2
                go_wp2_with fail
                go_ret
                exact ⟨rfl, HE.out⟩
              · by_cases e8 : kd = 8
                · subst e8
                  have HAK := hide (HA.out (by omega) w2 HBW.out)
                  have HSZ := hide (show (Tryz.prog.info? 76).map (·.size) = some OV.size by rw [HOP.out.2.2.2.2]; exact Tryz.sizeOp)
                  go_wp2_with (refine wpList_load_row rfl 76 (.tmp 3) rfl w.heap.size rfl 76 OV (0, 0) _ HRO.out Tryz.underlying76 rfl HSZ.out ?_)
                  refine HAK.out.mono ?_
                  rintro _ w3 ⟨rfl, hE⟩
                  have HE := hide hE
                  clear hE x0 x1 k2
                  go_wp2_with fail
                  go_ret
                  exact ⟨rfl, HE.out⟩
                · have e9 : ¬ kd = 9 := by omega
                  have e10 : ¬ kd = 10 := by omega
                  have e11 : ¬ kd = 11 := by omega
                  have HE := hide HS2.out.invE
                  go_wp2_with fail
                  go_ret
                  exact ⟨rfl, HE.out⟩
end Go.Proofs.YtenaelkbgkpllaaGreatDoor
/- The law's step at New; every step of a kind up to Digest. -/
namespace Go.Proofs.YtenaelkbgkpllaaGreatDoor
open Go.RowKit

set_option maxRecDepth 100000 in
set_option maxHeartbeats 4000000 in
theorem step_new {w0 w : World} {W0 n : Nat} (o : Opn) (hk : o.kind = 1) (hI : InvE w0 w W0 n) (hn : n ≤ 1000000000000) :
    Calls Tryz.prog 28 #[.pointer (some ⟨W0, 0, none⟩), .agg (opV o).toArray] w fun e w' => e = .returned (.bool true) ∧ InvE w0 w' W0 (n + 1) := by
  obtain ⟨ow, vp, vh, ps, hs, hI, hne, hE, hpn, hhn⟩ := hI
  have HOV := hide (show (opV o).toArray[0]? = some (I 1) by rw [← hk]; rfl)
  generalize (opV o).toArray = OV at *
  have HI := hide hI
  have HE := hide hE
  have HBX := hide (boxed1 w OV 76)
  clear hI hE hk hne
  go_enter Tryz.func28, Tryz.ntmps28
  go_upto_region 1 with fail
  have hbx := HBX.out
  clear HBX
  generalize w.alloc (.cells OV 76) = w1 at hbx ⊢
  obtain ⟨hb1, hx⟩ := hbx
  have k0 : w1.cell? ⟨w.heap.size, 0, none⟩ = some (I 1) := by rw [cell_of_row _ _ _ _ _ _ hx]; exact HOV.out
  have HI1 := hide (HI.out.below hb1)
  have HBG := hide (begin_law W0 vp vh ps hs w1 HI1.out.law (by omega))
  clear hb1 hx HOV HI
  go_wp2_with fail
  refine HBG.out.mono ?_
  rintro _ w2 ⟨rfl, vp', p, hB⟩
  have HF := hide (HI1.out.begun HE.out hpn hhn hB)
  clear hB k0
  go_wp2_with fail
  go_ret
  exact ⟨rfl, HF.out⟩
/-- every step of a kind up to Digest -/
theorem step_kept {w0 w : World} {W0 n : Nat} (o : Opn) (hF : o.Fit) (hk : o.kind ≤ 6) (hKT : KT w0) (hI : InvE w0 w W0 n) (hn : n ≤ 1000000000000) :
    Calls Tryz.prog 28 #[.pointer (some ⟨W0, 0, none⟩), .agg (opV o).toArray] w fun e w' => e = .returned (.bool true) ∧ InvE w0 w' W0 (n + 1) := by
  by_cases h1 : o.kind = 1
  · exact step_new o h1 hI hn
  · obtain ⟨ow, vp, vh, ps, hs, hI, hne, hE, hpn, hhn⟩ := hI
    have hN : 0 < ps.length := List.length_pos_iff.2 hne
    obtain ⟨hp1, hp2, _, _⟩ := pick_lt (M := o.m) hN
    have hj : pickI o.m ps.length < ps.length := by unfold pickI; omega
    have hS : Stands w0 w ow W0 n vp vh ps hs (pickI o.m ps.length) := ⟨hI, hj, hE, hpn, hhn, hn⟩
    obtain ⟨⟨m, v, r, u, L, K⟩, hp⟩ : ∃ p, ps[pickI o.m ps.length] = p := ⟨_, rfl⟩
    have hLK : L = K := by
      have := hE _ (List.getElem_mem hj)
      rw [hp] at this
      exact this
    subst hLK
    have hm : ps[pickI o.m ps.length]? = some ⟨m, v, r, u, L, L⟩ := by rw [List.getElem?_eq_getElem hj, hp]
    refine step_law o hF (by omega) h1 hS m r v u L hm (fun h4 w' hb => ?_)
    rcases (show o.kind = 4 ∨ o.kind = 5 ∨ o.kind = 6 by omega) with h | h | h
    · exact asks_points (hS.below hb) m r v u L hm o h
    · exact asks_commit (hS.below hb) hKT m r v u L hm o h
    · exact asks_digest (hS.below hb) hKT _ o h hF.s
end Go.Proofs.YtenaelkbgkpllaaGreatDoor
/- The law's asks at Prove; every step of a kind up to it. -/
namespace Go.Proofs.YtenaelkbgkpllaaGreatDoor
open Go.RowKit

/-- Prove, whatever the query -/
theorem prove_all (q : Ward.Qr) (m : Nat) (v : Value) (L : List Ward.Pt) (w : World) (hm : IsMap w m v L) (hG : Good L) (hKT : KT w) :
    Calls Tryz.prog 17 #[.pointer (some ⟨m, 0, none⟩), Qv q] w fun e w' => e = .returned (.tuple #[Sv (if Ward.mayBe q = true then Ward.proofText q L else []), I (if Ward.mayBe q = true then 0 else 6)]) ∧ Below w.heap.size w w' := by
  by_cases h : Ward.mayBe q = true
  · rw [if_pos h, if_pos h]
    exact prove_any m v L w h hm hG hKT
  · rw [if_neg h, if_neg h]
    exact prove_no m w (by simpa using h)
set_option maxRecDepth 100000 in
set_option maxHeartbeats 4000000 in
theorem asks_prove {w0 w : World} {ow : Nat → Nat} {W0 n : Nat} {vp vh : Value} {ps : List Pr} {hs : List Nat} {i : Nat} (h : Stands w0 w ow W0 n vp vh ps hs i) (hKT : KT w0) (m r : Nat) (v u : Value) (L : List Ward.Pt) (hm : ps[i]? = some ⟨m, v, r, u, L, L⟩) (o : Opn) (hk : o.kind = 8) :
    Calls Tryz.prog 58 #[.pointer (some ⟨W0, 0, none⟩), .agg #[.pointer (some ⟨m, 0, none⟩), .pointer (some ⟨r, 0, none⟩)], .agg (opV o).toArray] w fun e w' => e = .returned (.bool true) ∧ InvE w0 w' W0 (n + 1) := by
  have HH := hide h
  have HOV := hide (show (opV o).toArray[0]? = some (I 8) ∧ (opV o).toArray[6]? = some (I o.q.kind) ∧ (opV o).toArray[7]? = some (I o.q.a) ∧ (opV o).toArray[8]? = some (I o.q.b) ∧ (opV o).toArray[9]? = some (I o.q.c) ∧ (opV o).toArray[10]? = some (I o.q.d) ∧ (opV o).toArray[11]? = some (I o.q.x) ∧ (opV o).toArray[12]? = some (I o.q.y) ∧ (opV o).toArray[13]? = some (I o.q.k) from ⟨by rw [← hk]; rfl, rfl, rfl, rfl, rfl, rfl, rfl, rfl, rfl⟩)
  have HPA := hide (fun w' (hb : Below w.heap.size w w') => (h.below hb).pair hm)
  have HKT := hide (show KT w from hKT.le h.inv.base hKT.lt)
  generalize (opV o).toArray = OV at *
  generalize o.q = q at *
  have HBX := hide (boxed w #[.pointer (some ⟨m, 0, none⟩), .pointer (some ⟨r, 0, none⟩)] OV 113 76)
  have HAP := hide (fun W (hb : Below w.heap.size w W) => prove_all q m v L W (HPA.out W hb).1 (HPA.out W hb).2.2 (HKT.out.below hb))
  have HAR := hide (fun W (hb : Below w.heap.size w W) => prove_ref r u L q W (HPA.out W hb).2.1 (HPA.out W hb).2.2)
  clear h hm hk hKT
  obtain ⟨kd, qa, qb, qc, qd, qx, qy, qk⟩ := q
  generalize (if Ward.mayBe ⟨kd, qa, qb, qc, qd, qx, qy, qk⟩ = true then Ward.proofText ⟨kd, qa, qb, qc, qd, qx, qy, qk⟩ L else []) = R at *
  generalize (if Ward.mayBe ⟨kd, qa, qb, qc, qd, qx, qy, qk⟩ = true then (0 : Int) else 6) = code at *
  simp only at *
  go_enter Tryz.func58, Tryz.ntmps58
  go_upto_region 1 with fail
  have hbx := HBX.out
  clear HBX
  generalize (w.alloc (.cells #[.pointer (some ⟨m, 0, none⟩), .pointer (some ⟨r, 0, none⟩)] 113)).alloc (.cells OV 76) = w1 at hbx ⊢
  obtain ⟨hb1, hx, ho⟩ := hbx
  have HC := hide (fun (W : World) (hro : W.heap[w.heap.size + 1]? = some (.cells OV 76 (0, 0))) => show W.cell? ⟨w.heap.size + 1, 0, none⟩ = some (I 8) ∧ W.cell? ⟨w.heap.size + 1, 6, none⟩ = some (I kd) ∧ W.cell? ⟨w.heap.size + 1, 7, none⟩ = some (I qa) ∧ W.cell? ⟨w.heap.size + 1, 8, none⟩ = some (I qb) ∧ W.cell? ⟨w.heap.size + 1, 9, none⟩ = some (I qc) ∧ W.cell? ⟨w.heap.size + 1, 10, none⟩ = some (I qd) ∧ W.cell? ⟨w.heap.size + 1, 11, none⟩ = some (I qx) ∧ W.cell? ⟨w.heap.size + 1, 12, none⟩ = some (I qy) ∧ W.cell? ⟨w.heap.size + 1, 13, none⟩ = some (I qk) from by
    have e := fun k => cell_of_row W (w.heap.size + 1) k OV 76 (0, 0) hro
    rw [e, e, e, e, e, e, e, e, e]
    exact HOV.out)
  obtain ⟨k0, k6, k7, k8, k9, k10, k11, k12, k13⟩ := HC.out w1 ho
  have x0 : w1.cell? ⟨w.heap.size, 0, none⟩ = some (.pointer (some ⟨m, 0, none⟩)) := by rw [cell_of_row _ _ _ _ _ _ hx]; rfl
  have hs1 : w.heap.size + 1 < w1.heap.size := (Array.getElem?_eq_some_iff.1 ho).1
  have HB1 := hide hb1
  have HX := hide hx
  have HO := hide ho
  have HAP1 := hide (HAP.out w1 hb1)
  clear hb1 hx ho HOV HAP
  go_wp2_with fail
  refine HAP1.out.mono ?_
  rintro _ w2 ⟨rfl, hb2⟩
  have hb12 : Below w.heap.size w w2 := HB1.out.trans (hb2.mono HB1.out.size)
  have x1 : w2.cell? ⟨w.heap.size, 1, none⟩ = some (.pointer (some ⟨r, 0, none⟩)) := by
    rw [cell_of_row _ _ _ _ _ _ ((hb2.block w.heap.size (by omega)).trans HX.out)]; rfl
  clear k0 k6 k7 k8 k9 k10 k11 k12 k13 x0
  obtain ⟨-, k6, k7, k8, k9, k10, k11, k12, k13⟩ := HC.out w2 ((hb2.block (w.heap.size + 1) hs1).trans HO.out)
  have HAR2 := hide (HAR.out w2 hb12)
  have HB12 := hide hb12
  clear hb2 hb12 HAP1 HAR HX HO HC
  go_wp2_with fail
  refine HAR2.out.mono ?_
  rintro _ w3 ⟨rfl, hb3⟩
  have HE := hide ((HH.out.below (HB12.out.trans (hb3.mono HB12.out.size))).invE)
  clear hb3 k6 k7 k8 k9 k10 k11 k12 k13 x1 HAR2
  go_wp2_with fail
  go_ret
  exact ⟨rfl, HE.out⟩
/-- every step of a kind up to Prove -/
theorem step_proven {w0 w : World} {W0 n : Nat} (o : Opn) (hF : o.Fit) (hk : o.kind ≤ 8) (hKT : KT w0) (hI : InvE w0 w W0 n) (hn : n ≤ 1000000000000) :
    Calls Tryz.prog 28 #[.pointer (some ⟨W0, 0, none⟩), .agg (opV o).toArray] w fun e w' => e = .returned (.bool true) ∧ InvE w0 w' W0 (n + 1) := by
  by_cases h1 : o.kind = 1
  · exact step_new o h1 hI hn
  · obtain ⟨ow, vp, vh, ps, hs, hI, hne, hE, hpn, hhn⟩ := hI
    have hN : 0 < ps.length := List.length_pos_iff.2 hne
    obtain ⟨hp1, hp2, _, _⟩ := pick_lt (M := o.m) hN
    have hj : pickI o.m ps.length < ps.length := by unfold pickI; omega
    have hS : Stands w0 w ow W0 n vp vh ps hs (pickI o.m ps.length) := ⟨hI, hj, hE, hpn, hhn, hn⟩
    obtain ⟨⟨m, v, r, u, L, K⟩, hp⟩ : ∃ p, ps[pickI o.m ps.length] = p := ⟨_, rfl⟩
    have hLK : L = K := by
      have := hE _ (List.getElem_mem hj)
      rw [hp] at this
      exact this
    subst hLK
    have hm : ps[pickI o.m ps.length]? = some ⟨m, v, r, u, L, L⟩ := by rw [List.getElem?_eq_getElem hj, hp]
    refine step_law o hF (by omega) h1 hS m r v u L hm (fun h4 w' hb => ?_)
    rcases (show o.kind = 4 ∨ o.kind = 5 ∨ o.kind = 6 ∨ o.kind = 7 ∨ o.kind = 8 by omega) with h | h | h | h | h
    · exact asks_points (hS.below hb) m r v u L hm o h
    · exact asks_commit (hS.below hb) hKT m r v u L hm o h
    · exact asks_digest (hS.below hb) hKT _ o h hF.s
    · exact asks_answer (hS.below hb) hKT m r v u L hm o h
    · exact asks_prove (hS.below hb) hKT m r v u L hm o h
end Go.Proofs.YtenaelkbgkpllaaGreatDoor
/- The law's verifies: the program's Verify and the document's. -/
namespace Go.Proofs.YtenaelkbgkpllaaGreatDoor
open Go.RowKit

theorem verify_short (root : List UInt8) (count : Int) (q : Ward.Qr) (s : List UInt8) : (Ward.verify root count q s).1.length ≤ 600 := by
  unfold Ward.verify
  split
  · simp
  · cases hp : Ward.parse s with
    | none => simp
    | some t =>
      simp only
      by_cases hb : Ward.everyN Ward.boxHolds 7 t = false
      · rw [if_pos hb]; simp
      · rw [if_neg hb]
        have hb' : Ward.everyN Ward.boxHolds 7 t = true := by simpa using hb
        have h6 := (Ward.parse_holds hp hb').2
        have hs := ans_short (q := q) (K := Ward.allN 7 t)
        split
        · simp
        · split
          · simp
          · split
            · simp
            · show (Ward.ans q (Ward.allN 7 t)).length ≤ 600
              omega
set_option maxRecDepth 100000 in
set_option maxHeartbeats 8000000 in
theorem verifies_law {w0 w : World} {ow : Nat → Nat} {W0 n : Nat} {vp vh : Value} {ps : List Pr} {hs : List Nat} {i : Nat} (h : Stands w0 w ow W0 n vp vh ps hs i) (hKT : KT w0) (root : List UInt8) (count : Int) (q : Ward.Qr) (s : List UInt8) (hroot : root.length = 32) (hsl : s.length ≤ 140737488355328) :
    Calls Tryz.prog 59 #[.pointer (some ⟨W0, 0, none⟩), .agg (rootV root count).toArray, Qv q, Sv s] w fun e w' => e = .returned (.bool true) ∧ InvE w0 w' W0 (n + 1) := by
  have HH := hide h
  have HKT := hide (show KT w from hKT.le h.inv.base hKT.lt)
  have hW0 := h.inv.law.lt
  have HAP := hide (fun W (hK : KT W) => verify_any root count q s W hroot hK)
  have HAR := hide (fun W => rverify_any root count q s W hroot hsl)
  have HVS := hide (verify_short root count q s)
  have HRL := hide (show (rootV root count).length = 33 from rootV_len _ _ hroot)
  obtain ⟨RV, hRV⟩ : ∃ RV : List Value, rootV root count = RV := ⟨_, rfl⟩
  obtain ⟨CV, hCV⟩ : ∃ CV : List Value, constV = CV := ⟨_, rfl⟩
  have HCV := hide hCV
  rw [hRV] at HAP HAR HRL ⊢
  rw [hCV] at HAR
  have HN0 := hide (fun a b => And.intro (heap_alloc2_old w a b) (heap_alloc2_new w a b))
  have HA0 := hide (fun o o' => ((Below.refl w.heap.size w).alloc (Nat.le_refl _) o).alloc (by simp) o')
  have HRS := hide (show RV.toArray.size = 33 by rw [List.size_toArray]; exact HRL.out)
  clear h hKT hroot hsl hRV hCV
  go_enter Tryz.func59, Tryz.ntmps59
  go_upto_region 1 with fail
  generalize hW : World.alloc (World.alloc w _) _ = w1
  have HB1 := hide (show Below w.heap.size w w1 by rw [← hW]; exact HA0.out _ _)
  have HC1 := hide (show w1.heap[w.heap.size]? = some (.cells RV.toArray 41 (0, 0)) by rw [← hW]; exact (HN0.out _ _).1)
  have HQ1 := hide (show w1.heap[w.heap.size + 1]? = some (.cells #[I q.kind, I q.a, I q.b, I q.c, I q.d, I q.x, I q.y, I q.k] 46 (0, 0)) by rw [← hW]; exact (HN0.out _ _).2)
  clear hW HN0 HA0
  have hs1 : w.heap.size + 1 < w1.heap.size := (Array.getElem?_eq_some_iff.1 HQ1.out).1
  obtain ⟨k0, k1, k2, k3, k4, k5, k6, k7⟩ := rowQ8 HQ1.out
  have HAP1 := hide (HAP.out w1 (HKT.out.below HB1.out))
  go_wp2_with (refine wpList_load_row rfl 41 (.tmp 5) rfl w.heap.size rfl 41 RV.toArray (0, 0) _ HC1.out Tryz.underlying41 rfl (by rw [HRS.out]; exact Tryz.infoCommit) ?_)
  refine HAP1.out.mono ?_
  rintro _ w2 ⟨va, rfl, hoa, hb2⟩
  obtain ⟨P, hP⟩ : ∃ P, (Ward.verify root count q s).1 = P := ⟨_, rfl⟩
  obtain ⟨code, hcode⟩ : ∃ c, (Ward.verify root count q s).2 = c := ⟨_, rfl⟩
  have HAR2 := hide (fun W => show Calls Tryz.prog 99 #[.agg CV.toArray, .agg RV.toArray, Qv q, Sv s] W (fun e w' => ∃ v, e = .returned (.tuple #[v, I code]) ∧ Own w' W.heap.size v P ∧ Below W.heap.size W w') by
    have := HAR.out W
    unfold Verified at this
    rw [hP, hcode] at this
    exact this)
  rw [hP] at hoa HVS
  rw [hcode]
  have hPl := HVS.out
  obtain ⟨aa, ca, ea⟩ := hoa.slice
  subst ea
  have HOA := hide hoa
  have HB2 := hide hb2
  have hs2 := hb2.size
  have HB12 := hide (HB1.out.trans (hb2.mono HB1.out.size))
  have HC2 := hide ((hb2.block w.heap.size (by omega)).trans HC1.out)
  have HQ2 := hide ((hb2.block (w.heap.size + 1) (by omega)).trans HQ1.out)
  clear hoa hb2 k0 k1 k2 k3 k4 k5 k6 k7 HAP HAP1 HAR HVS hP hcode HC1 HQ1
  obtain ⟨k0, k1, k2, k3, k4, k5, k6, k7⟩ := rowQ8 HQ2.out
  have hL2 := (HH.out.below HB12.out).inv.law
  have hRC : w2.rangeAt W0 2 CV := fun k v hv => by
    rw [cell_of_row _ _ _ _ _ _ hL2.row, List.getElem?_toArray, Nat.add_comm 2 k]
    rw [← HCV.out] at hv
    exact hv
  have hRR : w2.rangeAt w.heap.size 0 RV := fun k v hv => by
    rw [cell_of_row _ _ _ _ _ _ HC2.out, Nat.zero_add, List.getElem?_toArray]
    exact hv
  have hIC : (Tryz.prog.info? 67).map (·.size) = some CV.length := by rw [← HCV.out, constV_len]; exact Tryz.infoConst
  have hIR : (Tryz.prog.info? 41).map (·.size) = some RV.length := by rw [HRL.out]; exact Tryz.infoCommit
  clear hL2
  go_upto_region 2 with fail
  go_cut [11, 12] from 21 to 31 (fun v11 v12 wx => v12 = I code ∧ Own wx w2.heap.size v11 P ∧ Below w2.heap.size w2 wx)
  case first =>
    have hS : w2.drew.rangeAt W0 2 CV ∧ w2.drew.rangeAt w.heap.size 0 RV ∧ w2.drew.cell? ⟨w.heap.size + 1, 0, none⟩ = some (I q.kind) ∧ w2.drew.cell? ⟨w.heap.size + 1, 1, none⟩ = some (I q.a) ∧ w2.drew.cell? ⟨w.heap.size + 1, 2, none⟩ = some (I q.b) ∧ w2.drew.cell? ⟨w.heap.size + 1, 3, none⟩ = some (I q.c) ∧ w2.drew.cell? ⟨w.heap.size + 1, 4, none⟩ = some (I q.d) ∧ w2.drew.cell? ⟨w.heap.size + 1, 5, none⟩ = some (I q.x) ∧ w2.drew.cell? ⟨w.heap.size + 1, 6, none⟩ = some (I q.y) ∧ w2.drew.cell? ⟨w.heap.size + 1, 7, none⟩ = some (I q.k) := ⟨fun k v hv => hRC k v hv, fun k v hv => hRR k v hv, by simpa using k0, by simpa using k1, by simpa using k2, by simpa using k3, by simpa using k4, by simpa using k5, by simpa using k6, by simpa using k7⟩
    refine wp_region_L 12 (fun W => W.rangeAt W0 2 CV ∧ W.rangeAt w.heap.size 0 RV ∧ W.cell? ⟨w.heap.size + 1, 0, none⟩ = some (I q.kind) ∧ W.cell? ⟨w.heap.size + 1, 1, none⟩ = some (I q.a) ∧ W.cell? ⟨w.heap.size + 1, 2, none⟩ = some (I q.b) ∧ W.cell? ⟨w.heap.size + 1, 3, none⟩ = some (I q.c) ∧ W.cell? ⟨w.heap.size + 1, 4, none⟩ = some (I q.d) ∧ W.cell? ⟨w.heap.size + 1, 5, none⟩ = some (I q.x) ∧ W.cell? ⟨w.heap.size + 1, 6, none⟩ = some (I q.y) ∧ W.cell? ⟨w.heap.size + 1, 7, none⟩ = some (I q.k)) (by kernel_rfl) hS (fun hH => ?_)
    clear hS
    refine wpAnyL_take (i := 0) (v := ?_) rfl (by kernel_rfl) (by kernel_rfl) (by kernel_rfl) (by kernel_rfl) (by kernel_rfl) (fun _ _ _ h => h) (Or.inl ⟨by rfl, ?_⟩) hH ?_
    rotate_left
    · intro W hSW
      obtain ⟨zc, zr, z0, z1, z2, z3, z4, z5, z6, z7⟩ := hSW
      go_simp
      try with_reducible rfl
    try go_simp
    refine wpAnyL_take (i := 1) (v := ?_) rfl (by kernel_rfl) (by kernel_rfl) (by kernel_rfl) (by kernel_rfl) (by kernel_rfl) (fun _ _ _ h => h) (Or.inl ⟨by rfl, ?_⟩) hH ?_
    rotate_left
    · intro W hSW
      obtain ⟨zc, zr, z0, z1, z2, z3, z4, z5, z6, z7⟩ := hSW
      go_simp
      try with_reducible rfl
    try go_simp
    refine wpAnyL_take (i := 2) (v := ?_) rfl (by kernel_rfl) (by kernel_rfl) (by kernel_rfl) (by kernel_rfl) (by kernel_rfl) (fun _ _ _ h => h) (Or.inl ⟨by rfl, ?_⟩) hH ?_
    rotate_left
    · intro W hSW
      obtain ⟨zc, zr, z0, z1, z2, z3, z4, z5, z6, z7⟩ := hSW
      go_simp
      try with_reducible rfl
    try go_simp
    refine wpAnyL_take (i := 3) (v := .agg CV.toArray) rfl (by kernel_rfl) (by kernel_rfl) (by kernel_rfl) (by kernel_rfl) (by kernel_rfl) (fun _ _ _ h => h) (yieldsIf_load_mid (by rfl) _ _ rfl W0 2 rfl CV _ (fun W hW => hW.1) Tryz.underlying67 rfl hIC) hH ?_
    try go_simp
    refine wpAnyL_take (i := 4) (v := .agg RV.toArray) rfl (by kernel_rfl) (by kernel_rfl) (by kernel_rfl) (by kernel_rfl) (by kernel_rfl) (fun _ _ _ h => h) (yieldsIf_load_mid (by rfl) _ _ rfl w.heap.size 0 rfl RV _ (fun W hW => hW.2.1) Tryz.underlying41 rfl hIR) hH ?_
    try go_simp
    refine wpAnyL_take (i := 5) (v := ?_) rfl (by kernel_rfl) (by kernel_rfl) (by kernel_rfl) (by kernel_rfl) (by kernel_rfl) (fun _ _ _ h => h) (Or.inl ⟨by rfl, ?_⟩) hH ?_
    rotate_left
    · intro W hSW
      obtain ⟨zc, zr, z0, z1, z2, z3, z4, z5, z6, z7⟩ := hSW
      go_simp
      try with_reducible rfl
    try go_simp
    refine wpAnyL_take (i := 6) (v := ?_) rfl (by kernel_rfl) (by kernel_rfl) (by kernel_rfl) (by kernel_rfl) (by kernel_rfl) (fun _ _ _ h => h) (Or.inl ⟨by rfl, ?_⟩) hH ?_
    rotate_left
    · intro W hSW
      obtain ⟨zc, zr, z0, z1, z2, z3, z4, z5, z6, z7⟩ := hSW
      go_simp
      try with_reducible rfl
    try go_simp
    refine wpAnyL_one (i := 7) (by kernel_rfl) rfl (fun K hK => ?_)
    go_simp
    refine (HAR2.out _).mono ?_
    rintro _ w3 ⟨vb, rfl, hob, hb3⟩
    have hB3 : Below w2.heap.size w2 w3 := (show Below w2.heap.size w2 w2.drew from (Below.refl _ _).drew).trans hb3
    have hS3 : w3.rangeAt W0 2 CV ∧ w3.rangeAt w.heap.size 0 RV ∧ w3.cell? ⟨w.heap.size + 1, 0, none⟩ = some (I q.kind) ∧ w3.cell? ⟨w.heap.size + 1, 1, none⟩ = some (I q.a) ∧ w3.cell? ⟨w.heap.size + 1, 2, none⟩ = some (I q.b) ∧ w3.cell? ⟨w.heap.size + 1, 3, none⟩ = some (I q.c) ∧ w3.cell? ⟨w.heap.size + 1, 4, none⟩ = some (I q.d) ∧ w3.cell? ⟨w.heap.size + 1, 5, none⟩ = some (I q.x) ∧ w3.cell? ⟨w.heap.size + 1, 6, none⟩ = some (I q.y) ∧ w3.cell? ⟨w.heap.size + 1, 7, none⟩ = some (I q.k) := by
      have c1 := fun k => hB3.cell (p := ⟨w.heap.size + 1, k, none⟩) (by show w.heap.size + 1 < _; omega)
      exact ⟨fun k v hv => (hB3.cell (p := ⟨W0, 2 + k, none⟩) (by show W0 < _; omega)).trans (hRC k v hv), fun k v hv => (hB3.cell (p := ⟨w.heap.size, 0 + k, none⟩) (by show w.heap.size < _; omega)).trans (hRR k v hv), (c1 _).trans k0, (c1 _).trans k1, (c1 _).trans k2, (c1 _).trans k3, (c1 _).trans k4, (c1 _).trans k5, (c1 _).trans k6, (c1 _).trans k7⟩
    refine hK.out _ _ (fun _ => hS3) ?_
    clear hK K hb3
    try go_simp
    refine wpAnyL_take (i := 8) (v := ?_) rfl (by kernel_rfl) (by kernel_rfl) (by kernel_rfl) (by kernel_rfl) (by kernel_rfl) (fun _ _ _ h => h) (Or.inl ⟨by rfl, ?_⟩) hS3 ?_
    rotate_left
    · intro W hSW
      obtain ⟨zc, zr, z0, z1, z2, z3, z4, z5, z6, z7⟩ := hSW
      go_simp
      try with_reducible rfl
    try go_simp
    refine wpAnyL_take (i := 9) (v := ?_) rfl (by kernel_rfl) (by kernel_rfl) (by kernel_rfl) (by kernel_rfl) (by kernel_rfl) (fun _ _ _ h => h) (Or.inl ⟨by rfl, ?_⟩) hS3 ?_
    rotate_left
    · intro W hSW
      obtain ⟨zc, zr, z0, z1, z2, z3, z4, z5, z6, z7⟩ := hSW
      go_simp
      try with_reducible rfl
    try go_simp
    refine wpAnyL_take (i := 10) (v := ?_) rfl (by kernel_rfl) (by kernel_rfl) (by kernel_rfl) (by kernel_rfl) (by kernel_rfl) (fun _ _ _ h => h) (Or.inl ⟨by rfl, ?_⟩) hS3 ?_
    rotate_left
    · intro W hSW
      obtain ⟨zc, zr, z0, z1, z2, z3, z4, z5, z6, z7⟩ := hSW
      go_simp
      try with_reducible rfl
    try go_simp
    refine wpAnyL_take (i := 11) (v := ?_) rfl (by kernel_rfl) (by kernel_rfl) (by kernel_rfl) (by kernel_rfl) (by kernel_rfl) (fun _ _ _ h => h) (Or.inl ⟨by rfl, ?_⟩) hS3 ?_
    rotate_left
    · intro W hSW
      obtain ⟨zc, zr, z0, z1, z2, z3, z4, z5, z6, z7⟩ := hSW
      go_simp
      try with_reducible rfl
    try go_simp
    refine wpAnyL_one (i := 12) (by kernel_rfl) rfl (fun K hK => ?_)
    go_simp
    refine hK.out _ _ (fun h => absurd rfl h) ?_
    clear hK K
    refine wpAnyL_done (by kernel_rfl) ?_ _
    go_wp2_with fail
    go_meet
    exact ⟨rfl, hob, hB3⟩
  case rest =>
    obtain ⟨rfl, hob, hb3⟩ := hcut
    have hb23 : Below w1.heap.size w1 wc := HB2.out.trans (hb3.mono hs2)
    have hoa := HOA.out.below hb3
    have hs3 := hb3.size
    obtain ⟨ab, cb, eb⟩ := hob.slice
    subst eb
    have HSM := hide (same_law (.slice aa P.length ca) (.slice ab P.length cb) P P wc hoa.reads hob.reads (by omega))
    have HOA3 := hide hoa
    have HB23 := hide hb23
    clear hb3 hob hoa hb23 HB2 k0 k1 k2 k3 k4 k5 k6 k7 HAR2 hRC hRR HOA
    go_wp2_with fail
    refine HSM.out.mono ?_
    rintro _ w4 ⟨⟨b, rfl, hb⟩, hb4⟩
    have hbt : b = true := by simpa using hb
    subst hbt
    have hb14 : Below w1.heap.size w1 w4 := HB23.out.trans (hb4.mono HB23.out.size)
    have hOW4 : Own w4 w1.heap.size (.slice aa P.length ca) P := HOA3.out.below hb4
    have hA1 := HH.out.below HB1.out
    have HKL := hide (keep_law W0 vp vh ps hs w4 w1.heap.size (.slice aa P.length ca) P (hA1.inv.below hb14).law hOW4 (by omega) (Nat.le_trans hA1.hn hA1.small) (hA1.inv.lists hOW4))
    have HF := hide (fun w' (vh' : Value) (x : Nat) (hl : Laid w4 w' W0 (.slice aa P.length ca) vp vh ps hs vh' x) => hA1.inv.kept hA1.ne hA1.eq hA1.pn hA1.hn hb14 hOW4 hl)
    clear hb hb4 hb14 hOW4 hA1 HSM HOA3 HB23
    go_wp2_with fail
    refine HKL.out.mono ?_
    rintro _ w5 ⟨rfl, vh', x, hl⟩
    have HE := hide (HF.out w5 vh' x hl)
    clear hl HF HKL
    go_wp2_with fail
    go_ret
    exact ⟨rfl, HE.out⟩
end Go.Proofs.YtenaelkbgkpllaaGreatDoor
/- The law's turned: some text comes out. -/
namespace Go.Proofs.YtenaelkbgkpllaaGreatDoor
open Go.RowKit

/-- a text came out, not too long -/
def TextOut (w : World) (m : Nat) (e : Ending) (w' : World) : Prop := (∃ t : List UInt8, e = .returned (Sv t) ∧ t.length ≤ m) ∧ Below w.heap.size w w'
set_option maxRecDepth 100000 in
set_option maxHeartbeats 2000000 in
theorem turned_nil (a : Int) (w : World) : Calls Tryz.prog 62 #[Sv [], I a] w fun e w' => TextOut w 0 e w' := by
  go_enter Tryz.func62, Tryz.ntmps62
  go_wp2_with fail
  go_ret
  exact ⟨⟨[], rfl, Nat.le_refl _⟩, Below.refl _ _⟩
end Go.Proofs.YtenaelkbgkpllaaGreatDoor
/- The law's turned: what a text's beginning and end are. -/
namespace Go.Proofs.YtenaelkbgkpllaaGreatDoor
open Go.RowKit

theorem slice_to (x : List UInt8) (i : Nat) (hb : i ≤ x.length) (W : World) : (Instr.slice 9 (Sv x) none (some (.int .i64 (i : Int))) none).run Tryz.prog W = .ok (Sv (x.take i)) W := by
  have e : (⟨x.toArray⟩ : ByteArray).size = x.length := by show x.toArray.size = _; rw [List.size_toArray]
  have h1 : (Instr.slice 9 (.string ⟨x.toArray⟩) none (some (.int .i64 (i : Int))) none).run Tryz.prog W = .ok (.string ((⟨x.toArray⟩ : ByteArray).extract 0 (i : Int).toNat)) W := run_slice_string_h W 9 ⟨x.toArray⟩ Tryz.underlying9 .i64 (i : Int) (by omega) (by rw [e]; omega)
  rw [Int.toNat_natCast, ext_str, List.drop_zero, Nat.sub_zero] at h1
  exact h1
theorem slice_from (x : List UInt8) (i : Nat) (hb : i ≤ x.length) (W : World) : (Instr.slice 9 (Sv x) (some (.int .i64 (i : Int))) none none).run Tryz.prog W = .ok (Sv (x.drop i)) W := by
  have e : (⟨x.toArray⟩ : ByteArray).size = x.length := by show x.toArray.size = _; rw [List.size_toArray]
  have h1 : (Instr.slice 9 (.string ⟨x.toArray⟩) (some (.int .i64 (i : Int))) none none).run Tryz.prog W = .ok (.string ((⟨x.toArray⟩ : ByteArray).extract (i : Int).toNat (⟨x.toArray⟩ : ByteArray).size)) W := run_slice_string_l W 9 ⟨x.toArray⟩ Tryz.underlying9 .i64 (i : Int) (by omega) (by rw [e]; omega)
  rw [Int.toNat_natCast, e, ext_str, List.take_of_length_le (by rw [List.length_drop]; exact Nat.le_refl _)] at h1
  exact h1
set_option maxRecDepth 100000 in
set_option maxHeartbeats 2000000 in
theorem turned_pos (s : List UInt8) (a : Int) (w : World) (hs : s ≠ []) (hl : s.length ≤ 1000000000000) (a1 : 0 ≤ a) (a2 : a ≤ 9223372036854775807) (h8 : a % 8 = 0 ∨ a % 8 = 1 ∨ a % 8 = 3) : Calls Tryz.prog 62 #[Sv s, I a] w fun e w' => TextOut w (2 * s.length + 1) e w' := by
  have hz : (⟨s.toArray⟩ : ByteArray).size = s.length := by show s.toArray.size = _; rw [List.size_toArray]
  have hn : 0 < s.length := List.length_pos_iff.2 hs
  have hne : ¬ (s.length : Int) = 0 := by omega
  have ha : ¬ a < 0 := by omega
  have hnb : ((s.length : Int) == 0) = false := by simpa using hne
  have hab : decide (a < 0) = false := by simpa using a1
  go_enter Tryz.func62, Tryz.ntmps62
  go_upto_region 8 with fail
  have hm0 := Int.emod_nonneg (a / 8) hne
  have hm1 := Int.emod_lt_of_pos (a / 8) (show (0 : Int) < (s.length : Int) by omega)
  obtain ⟨i, hi⟩ : ∃ i : Nat, a / 8 % (s.length : Int) = (i : Int) := ⟨(a / 8 % (s.length : Int)).toNat, by omega⟩
  rw [hi] at hm0 hm1 ⊢
  have hil : i < s.length := by omega
  generalize (wrap64 (1 + (a / 8 / (s.length : Int)).tmod 255) % 256) = vv
  generalize (a / 8 / (s.length : Int)) = qq
  have hs1 := slice_to s i (by omega)
  have hs2 := slice_from s i (by omega)
  have hs3 : ∀ W, (Instr.slice 9 (Sv s) (some (.int .i64 ((i : Int) + 1))) none none).run Tryz.prog W = .ok (Sv (s.drop (i + 1))) W := fun W => by
    have h := slice_from s (i + 1) (by omega) W
    have e : ((i + 1 : Nat) : Int) = (i : Int) + 1 := by omega
    rw [e] at h
    exact h
  have l1 : (s.take i).length ≤ s.length := by rw [List.length_take]; omega
  have l2 : (s.drop i).length ≤ s.length := by rw [List.length_drop]; omega
  have l3 : (s.drop (i + 1)).length ≤ s.length := by rw [List.length_drop]; omega
  have hwi : IntKind.i64.wrap ((i : Int) + 1) = (i : Int) + 1 := by rw [IntKind.wrap_i64]; omega
  rcases h8 with h8 | h8 | h8
  · rw [h8]
    go_wp2_with fail
    go_ret
    exact ⟨⟨_, rfl, by omega⟩, Below.refl _ _⟩
  · rw [h8]
    have ha1 := add_str (s.take i) (s.drop (i + 1)) (by omega)
    go_wp2_with fail
    go_quiet (fail)
    generalize hW : World.drewN w nq = w9
    have HB := hide (show Below w.heap.size w w9 by rw [← hW]; exact ⟨rfl, rfl, rfl, Nat.le_refl _, fun _ _ => rfl⟩)
    clear hW
    go_wp2_with fail
    go_ret
    exact ⟨⟨s.take i ++ s.drop (i + 1), rfl, by rw [List.length_append]; omega⟩, HB.out⟩
  · rw [h8]
    have ha1 := add_str s (s.drop i) (by omega)
    go_wp2_with fail
    go_ret
    exact ⟨⟨s ++ s.drop i, rfl, by rw [List.length_append]; omega⟩, Below.refl _ _⟩
end Go.Proofs.YtenaelkbgkpllaaGreatDoor
/- The law's turned: a byte put in. -/
namespace Go.Proofs.YtenaelkbgkpllaaGreatDoor
open Go.RowKit

set_option maxRecDepth 100000 in
set_option maxHeartbeats 2000000 in
theorem turned_two (s : List UInt8) (a : Int) (w : World) (hs : s ≠ []) (hl : s.length ≤ 1000000000000) (a1 : 0 ≤ a) (a2 : a ≤ 9223372036854775807) (h8 : a % 8 = 2) : Calls Tryz.prog 62 #[Sv s, I a] w fun e w' => TextOut w (2 * s.length + 1) e w' := by
  have hz : (⟨s.toArray⟩ : ByteArray).size = s.length := by show s.toArray.size = _; rw [List.size_toArray]
  have hn : 0 < s.length := List.length_pos_iff.2 hs
  have hne : ¬ (s.length : Int) = 0 := by omega
  have ha : ¬ a < 0 := by omega
  have hnb : ((s.length : Int) == 0) = false := by simpa using hne
  have hab : decide (a < 0) = false := by simpa using a1
  go_enter Tryz.func62, Tryz.ntmps62
  go_upto_region 8 with fail
  have hm0 := Int.emod_nonneg (a / 8) hne
  have hm1 := Int.emod_lt_of_pos (a / 8) (show (0 : Int) < (s.length : Int) by omega)
  obtain ⟨i, hi⟩ : ∃ i : Nat, a / 8 % (s.length : Int) = (i : Int) := ⟨(a / 8 % (s.length : Int)).toNat, by omega⟩
  rw [hi] at hm0 hm1 ⊢
  have hil : i < s.length := by omega
  have hv0 : 0 ≤ wrap64 (1 + (a / 8 / (s.length : Int)).tmod 255) % 256 := Int.emod_nonneg _ (by decide)
  have hv1 : wrap64 (1 + (a / 8 / (s.length : Int)).tmod 255) % 256 < 256 := Int.emod_lt_of_pos _ (by decide)
  generalize (wrap64 (1 + (a / 8 / (s.length : Int)).tmod 255) % 256) = vv at *
  obtain ⟨bv, hbv⟩ : ∃ bv : UInt8, vv = (bv.toNat : Int) := ⟨UInt8.ofNat vv.toNat, by simp; omega⟩
  subst hbv
  generalize (a / 8 / (s.length : Int)) = qq
  have hs1 := slice_to s i (by omega)
  have hs2 := slice_from s i (by omega)
  have hs3 : ∀ W, (Instr.slice 9 (Sv s) (some (.int .i64 ((i : Int) + 1))) none none).run Tryz.prog W = .ok (Sv (s.drop (i + 1))) W := fun W => by
    have h := slice_from s (i + 1) (by omega) W
    have e : ((i + 1 : Nat) : Int) = (i : Int) + 1 := by omega
    rw [e] at h
    exact h
  have l1 : (s.take i).length ≤ s.length := by rw [List.length_take]; omega
  have l2 : (s.drop i).length ≤ s.length := by rw [List.length_drop]; omega
  have l3 : (s.drop (i + 1)).length ≤ s.length := by rw [List.length_drop]; omega
  have hwi : IntKind.i64.wrap ((i : Int) + 1) = (i : Int) + 1 := by rw [IntKind.wrap_i64]; omega
  rw [h8]
  have ha1 := add_str (s.take i) [bv] (by simp; omega)
  have ha2 := add_str (s.take i ++ [bv]) (s.drop i) (by simp; omega)
  have hcv : (convert 59 9 (.slice (some ⟨w.heap.size, 0, none⟩) 1 1)).run Tryz.prog ((w.alloc (.cells #[.int .u8 (bv.toNat : Int)] 5)).drew) = .ok (Sv [bv]) ((w.alloc (.cells #[.int .u8 (bv.toNat : Int)] 5)).drew) := conv_bytes w.heap.size 1 1 [bv] rfl _ (fun j u hj => by
    match j, hj with
    | 0, hj => simp at hj; subst hj; exact (cell_of_row ((w.alloc (.cells #[.int .u8 (bv.toNat : Int)] 5)).drew) w.heap.size 0 #[.int .u8 (bv.toNat : Int)] 5 (0, 0) (heap_alloc_new w _)).trans rfl)
  go_upto_region 13 with fail
  refine wp_region_L 11 (fun _ => True) (by kernel_rfl) trivial (fun hH => ?_)
  refine wpAnyL_take (i := 0) (v := ?_) rfl (by kernel_rfl) (by kernel_rfl) (by kernel_rfl) (by kernel_rfl) (by kernel_rfl) (fun _ _ _ h => h) (Or.inl ⟨by rfl, ?_⟩) hH ?_
  rotate_left
  · intro W hSW
    clear hSW
    go_simp
    try with_reducible rfl
  try go_simp
  refine wpAnyL_take (i := 1) (v := ?_) rfl (by kernel_rfl) (by kernel_rfl) (by kernel_rfl) (by kernel_rfl) (by kernel_rfl) (fun _ _ _ h => h) (Or.inl ⟨by rfl, ?_⟩) hH ?_
  rotate_left
  · intro W hSW
    clear hSW
    go_simp
    try with_reducible rfl
  try go_simp
  refine wpAnyL_take (i := 2) (v := ?_) rfl (by kernel_rfl) (by kernel_rfl) (by kernel_rfl) (by kernel_rfl) (by kernel_rfl) (fun _ _ _ h => h) (Or.inl ⟨by rfl, ?_⟩) hH ?_
  rotate_left
  · intro W hSW
    clear hSW
    go_simp
    try with_reducible rfl
  try go_simp
  refine wpAnyL_take (i := 3) (v := ?_) rfl (by kernel_rfl) (by kernel_rfl) (by kernel_rfl) (by kernel_rfl) (by kernel_rfl) (fun _ _ _ h => h) (Or.inl ⟨by rfl, ?_⟩) hH ?_
  rotate_left
  · intro W hSW
    clear hSW
    go_simp
    try with_reducible rfl
  try go_simp
  refine wpAnyL_take (i := 7) (v := ?_) rfl (by kernel_rfl) (by kernel_rfl) (by kernel_rfl) (by kernel_rfl) (by kernel_rfl) (fun _ _ _ h => h) (Or.inl ⟨by rfl, ?_⟩) hH ?_
  rotate_left
  · intro W hSW
    clear hSW
    go_simp
    try with_reducible rfl
  try go_simp
  refine wpAnyL_take (i := 8) (v := ?_) rfl (by kernel_rfl) (by kernel_rfl) (by kernel_rfl) (by kernel_rfl) (by kernel_rfl) (fun _ _ _ h => h) (Or.inl ⟨by rfl, ?_⟩) hH ?_
  rotate_left
  · intro W hSW
    clear hSW
    go_simp
    try with_reducible rfl
  try go_simp
  refine wpAnyL_take (i := 9) (v := ?_) rfl (by kernel_rfl) (by kernel_rfl) (by kernel_rfl) (by kernel_rfl) (by kernel_rfl) (fun _ _ _ h => h) (Or.inl ⟨by rfl, ?_⟩) hH ?_
  rotate_left
  · intro W hSW
    clear hSW
    go_simp
    try with_reducible rfl
  try go_simp
  refine wpAnyL_one (i := 4) (by kernel_rfl) rfl (fun K hK => ?_)
  go_simp
  refine hK.out _ _ (fun _ => trivial) ?_
  clear hK K
  try go_simp
  refine wpAnyL_one (i := 5) (by kernel_rfl) rfl (fun K hK => ?_)
  go_simp
  refine hK.out _ _ (fun _ => trivial) ?_
  clear hK K
  try go_simp
  refine wpAnyL_one (i := 6) (by kernel_rfl) rfl (fun K hK => ?_)
  go_simp
  refine hK.out _ _ (fun _ => trivial) ?_
  clear hK K
  try go_simp
  refine wpAnyL_one (i := 10) (by kernel_rfl) rfl (fun K hK => ?_)
  go_simp
  refine hK.out _ _ (fun _ => trivial) ?_
  clear hK K
  try go_simp
  refine wpAnyL_one (i := 11) (by kernel_rfl) rfl (fun K hK => ?_)
  go_simp
  refine hK.out _ _ (fun h => absurd rfl h) ?_
  clear hK K
  refine wpAnyL_done (by kernel_rfl) ?_ _
  have hb9 := ((Below.refl w.heap.size w).alloc (Nat.le_refl _) (.cells #[.int .u8 (bv.toNat : Int)] 5)).drew
  generalize (w.alloc (.cells #[.int .u8 (bv.toNat : Int)] 5)).drew = w9 at *
  have HB := hide hb9
  clear hb9 hcv
  go_wp2_with fail
  go_ret
  exact ⟨⟨s.take i ++ [bv] ++ s.drop i, by simp, by simp; omega⟩, HB.out⟩
end Go.Proofs.YtenaelkbgkpllaaGreatDoor
