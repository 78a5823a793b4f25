/- The document's commitment. -/
import Derived.Test.YtenaelkbgkpllaaGreatDoorAll25
import Derived.Test.YtenaelkbgkpllaaGreatDoorAll24
namespace Go.Proofs.YtenaelkbgkpllaaGreatDoor
open Go.RowKit

/-- the document's digest of a text, by the constants as they lie -/
theorem digest_const (tt : List UInt8) (DV : List Value) (W : World) (h : tt.length ≤ 140737488351232) (hDV : (Sha.sha tt).map Y = DV) :
    Calls Tryz.prog 97 #[.agg constV.toArray, Sv tt] W fun e w' => e = .returned (.agg DV.toArray) ∧ Below W.heap.size W w' :=
  digest_ref constV.toArray ⟨tt.toArray⟩ DV W (by rw [show (⟨tt.toArray⟩ : ByteArray).data.toList = tt from rfl]; exact hDV) (by show tt.toArray.size ≤ _; rw [List.size_toArray]; exact h) (by rw [List.size_toArray]; exact constV_len) constV_at (fun j v hv => by
    rw [List.getElem?_toArray]
    unfold constV
    rw [List.map_append, List.getElem?_append_left (by have := (List.getElem?_eq_some_iff.1 hv).1; exact this)]
    exact hv)
/-- the last level holds the root alone -/
theorem AllAt.root {w : World} {B : Nat} {v v3 : Value} {K : List Ward.Pt} {n : Nat} {t : Ward.T n} (h : AllAt w B v v3 K n) (ht : Ward.lev K n = [t]) :
    ∃ ga ca g3 c3 x, v = .slice (some ⟨ga, 0, none⟩) (n + 1) ca ∧ B ≤ ga ∧ ga < w.heap.size ∧ n + 1 ≤ ca ∧ w.cell? ⟨ga, n, none⟩ = some (.slice (some ⟨g3, 0, none⟩) 1 c3) ∧ 1 ≤ c3 ∧ B ≤ g3 ∧ g3 < w.heap.size ∧ w.rangeAt g3 0 (partL n t 0 x) := by
  have hl : (Ward.lev K n).length = 1 := by rw [ht]; rfl
  obtain ⟨g3, c3, x, e3, hB3, hg3, hc3, _, hr⟩ := h.now.at 0 (by rw [hl]; decide)
  obtain ⟨vs, h1, h2, h3, h4⟩ := h
  rw [hl] at e3 hc3
  rcases h3.2 with ⟨_, h0⟩ | ⟨ga, ca, cur, e, hb, hg, hcap, _⟩
  · omega
  subst e
  refine ⟨ga, ca, g3, c3, x, rfl, hb, (Array.getElem?_eq_some_iff.1 hg).1, hcap, ?_, hc3, hB3, hg3, ?_⟩
  · have hc := h3.cells (g := ga) rfl n (vs n) (by rw [List.getElem?_map, List.getElem?_range (by omega)]; rfl)
    rw [Addr.add_lit, Nat.zero_add, h2, e3] at hc
    exact hc
  · have e0 : (Ward.lev K n)[0]'(by rw [hl]; decide) = t := by simp only [ht, List.getElem_cons_zero]
    rw [e0, Nat.zero_mul] at hr
    exact hr
theorem yields_built {P : Program} {ops : Array Oper} {S : World → Prop} {op : Oper} {a : Act} (hw : Region.wanted op (yielded ops a.tmps) = true) (t : TypeId) (parts : Array (Nat × Operand)) (ho : op.op = .build t parts)
    (cells : Array Value) (l : List (Nat × Value)) (hl : parts.toList.map (fun (i, x) => (i, a.eval x)) = l) (hb : P.built t l = some cells) : YieldsIf P ops S op (.agg cells) a :=
  .inl ⟨hw, fun w _ => by
    unfold execOp
    simp only [ho, Sem.run_bind, run_build w t _ cells (by rw [Array.toList_map, hl]; exact hb), Result.andThen_ok, Sem.run_pure]⟩
theorem rootText_of {K : List Ward.Pt} {n : Nat} {t : Ward.T n} (h : Ward.tree K = ⟨n, t⟩) : Ward.rootText Sha.sha K = Ward.text Sha.sha n t := by
  unfold Ward.rootText
  rw [h]
set_option maxRecDepth 100000 in
set_option maxHeartbeats 4000000 in
theorem commitment_ref (r : Nat) (u : Value) (K : List Ward.Pt) (w : World) (hm : RMap w r u K) (hG : Good K) :
    Calls Tryz.prog 60 #[.pointer (some ⟨r, 0, none⟩)] w fun e w' => e = .returned (.agg (commitV K).toArray) ∧ Below w.heap.size w w' := by
  have hrlt := hm.lt
  have HM := hide hm
  have HG := hide hG
  have hr0' := heap_alloc_new w
  have hb0' := fun o => (Below.refl w.heap.size w).alloc (Nat.le_refl _) o
  have HCO := hide (com_of K)
  have HBC := hide (show Tryz.prog.built 41 [(0, .agg ((Sha.sha (Ward.rootText Sha.sha K)).map Y).toArray), (1, I (K.length : Nat))] = some (commitV K).toArray from built_commit ((Sha.sha (Ward.rootText Sha.sha K)).map Y) (by rw [List.length_map]; rfl) (K.length : Nat))
  clear hm
  go_enter Tryz.func60, Tryz.ntmps60
  go_upto_region 1 with fail
  generalize hW : World.alloc w _ = w0
  have hb0 : Below w.heap.size w w0 := by rw [← hW]; exact hb0' _
  have hr0 : w0.heap[w.heap.size]? = some (.cells (List.replicate 32 (Value.int .u8 0) ++ [I 0]).toArray 41 (0, 0)) := by rw [← hW]; exact hr0' _
  clear hb0' hr0' hW
  have HR0 := hide hr0
  have HB0 := hide hb0
  have hs0 : w.heap.size < w0.heap.size := (Array.getElem?_eq_some_iff.1 hr0).1
  have HLV := hide (levels_ref r u K w0 (HM.out.below hb0) hG)
  clear hr0 hb0
  go_wp2_with fail
  refine HLV.out.mono ?_
  rintro _ w1 ⟨v, v3, n, rfl, hall, ⟨t, ht, htr⟩, hb1⟩
  obtain ⟨ga, ca, g3, c3, x, rfl, hga0, hga, hca, hcell, hc3, hg30, hg3, hrow⟩ := hall.root ht
  have hc5 := (PtCells.of hrow).c5
  rw [Nat.zero_add] at hc5
  rw [← rootText_of htr] at hc5
  have hsmall : (Ward.rootText Sha.sha K).length ≤ 210 := by
    rw [rootText_of htr]
    exact Ward.text_small (dig := Sha.sha) (fun _ => rfl) n t (Ward.lev_small HG.out.ok n t (by rw [ht]; exact List.mem_singleton.2 rfl))
  have hn9 : n ≤ 3 := by
    have h9 := Ward.tree_depth (l := K) (by have := HG.out.many; omega)
    rw [htr] at h9
    exact h9
  obtain ⟨tt, htt⟩ : ∃ tt, Ward.rootText Sha.sha K = tt := ⟨_, rfl⟩
  rw [htt] at hc5 hsmall HBC
  obtain ⟨DV, hDV⟩ : ∃ DV, (Sha.sha tt).map Y = DV := ⟨_, rfl⟩
  have HDL := hide (show DV.length = 32 by rw [← hDV, List.length_map]; rfl)
  have HDG := hide (fun W => digest_const tt DV W (by omega) hDV)
  have HDY := hide (show DV = (Sha.sha tt).map Y from hDV.symm)
  rw [hDV] at HBC
  have HM1 := hide (show RMap w1 r u K from (HM.out.below HB0.out).below hb1)
  have hRC : w1.rangeAt r 1 constV := fun k v hv => by
    rw [cell_of_row _ _ _ _ _ _ HM1.out.row, List.getElem?_toArray, Nat.add_comm 1 k, List.getElem?_cons_succ]
    exact hv
  have HR1 := hide ((hb1.block w.heap.size hs0).trans HR0.out)
  have HB1 := hide (HB0.out.trans (hb1.mono (Nat.le_of_lt hs0)))
  have hs1 : w0.heap.size ≤ w1.heap.size := hb1.size
  have hrl1 : r < w1.heap.size := by omega
  have hnl := HG.out.many
  obtain ⟨au, cu, hu⟩ := HM1.out.own.slice
  clear hDV hall ht htr hb1 htt hrow HLV HR0
  have hn0 : (0 : Int) ≤ (n : Int) := by omega
  have hn1 : ((n : Int) + 1) - 1 = (n : Int) := by omega
  have hn2 : (n : Int) < (n : Int) + 1 := by omega
  have hn3 : (n : Int) ≤ 3 := by omega
  have hwn : IntKind.i64.wrap (n : Int) = (n : Int) := wrap_small _ (by omega) (by omega)
  have htn : ((n : Int)).toNat = n := by omega
  go_upto_region 2 with fail
  go_cut [4] from 7 to 20 (fun v4 wx => ∃ gd, v4 = .pointer (some ⟨gd, 0, none⟩) ∧ w1.heap.size ≤ gd ∧ gd < wx.heap.size ∧ wx.rangeAt gd 0 DV ∧ Below w1.heap.size w1 wx)
  case first =>
    have hS : w1.drew.rangeAt r 1 constV ∧ w1.drew.cell? ⟨ga, n, none⟩ = some (.slice (some ⟨g3, 0, none⟩) 1 c3) ∧ w1.drew.cell? ⟨g3, 5, none⟩ = some (Sv tt) := ⟨fun k v hv => hRC k v hv, by simpa using hcell, by simpa using hc5⟩
    have hIC : (Tryz.prog.info? 67).map (·.size) = some constV.length := by rw [constV_len]; exact Tryz.infoConst
    have HCA := hide (fun (W W' : World) (hb : Below W.heap.size W W') (hw : w1.heap.size ≤ W.heap.size) (h : W.rangeAt r 1 constV ∧ W.cell? ⟨ga, n, none⟩ = some (.slice (some ⟨g3, 0, none⟩) 1 c3) ∧ W.cell? ⟨g3, 5, none⟩ = some (Sv tt)) => show W'.rangeAt r 1 constV ∧ W'.cell? ⟨ga, n, none⟩ = some (.slice (some ⟨g3, 0, none⟩) 1 c3) ∧ W'.cell? ⟨g3, 5, none⟩ = some (Sv tt) from ⟨fun k v hv => (hb.cell (p := ⟨r, 1 + k, none⟩) (by show r < _; omega)).trans (h.1 k v hv), (hb.cell (p := ⟨ga, n, none⟩) (by show ga < _; omega)).trans h.2.1, (hb.cell (p := ⟨g3, 5, none⟩) (by show g3 < _; omega)).trans h.2.2⟩)
    refine wp_region_L 15 (fun W => W.rangeAt r 1 constV ∧ W.cell? ⟨ga, n, none⟩ = some (.slice (some ⟨g3, 0, none⟩) 1 c3) ∧ W.cell? ⟨g3, 5, none⟩ = some (Sv tt)) (by kernel_rfl) hS (fun hH => ?_)
    clear hS hRC
    refine wpAnyL_take (i := 0) (v := ?_) rfl (by kernel_rfl) (by kernel_rfl) (by kernel_rfl) (by kernel_rfl) (by kernel_rfl) (fun _ _ _ h => h) (Or.inl ⟨by rfl, ?_⟩) hH ?_
    rotate_left
    · intro W hSW
      obtain ⟨zc, z3, zt⟩ := hSW
      go_simp
      try with_reducible rfl
    try go_simp
    refine wpAnyL_take (i := 1) (v := ?_) rfl (by kernel_rfl) (by kernel_rfl) (by kernel_rfl) (by kernel_rfl) (by kernel_rfl) (fun _ _ _ h => h) (Or.inl ⟨by rfl, ?_⟩) hH ?_
    rotate_left
    · intro W hSW
      obtain ⟨zc, z3, zt⟩ := hSW
      go_simp
      try with_reducible rfl
    try go_simp
    refine wpAnyL_take (i := 2) (v := ?_) rfl (by kernel_rfl) (by kernel_rfl) (by kernel_rfl) (by kernel_rfl) (by kernel_rfl) (fun _ _ _ h => h) (Or.inl ⟨by rfl, ?_⟩) hH ?_
    rotate_left
    · intro W hSW
      obtain ⟨zc, z3, zt⟩ := hSW
      go_simp
      try with_reducible rfl
    try go_simp
    refine wpAnyL_take (i := 3) (v := .agg constV.toArray) rfl (by kernel_rfl) (by kernel_rfl) (by kernel_rfl) (by kernel_rfl) (by kernel_rfl) (fun _ _ _ h => h) (yieldsIf_load_mid (by rfl) _ _ rfl r 1 rfl constV _ (fun W hW => hW.1) Tryz.underlying67 rfl hIC) hH ?_
    generalize constV.toArray = CA at *
    try go_simp
    refine wpAnyL_take (i := 4) (v := ?_) rfl (by kernel_rfl) (by kernel_rfl) (by kernel_rfl) (by kernel_rfl) (by kernel_rfl) (fun _ _ _ h => h) (Or.inl ⟨by rfl, ?_⟩) hH ?_
    rotate_left
    · intro W hSW
      obtain ⟨zc, z3, zt⟩ := hSW
      go_simp
      try with_reducible rfl
    try go_simp
    refine wpAnyL_take (i := 5) (v := ?_) rfl (by kernel_rfl) (by kernel_rfl) (by kernel_rfl) (by kernel_rfl) (by kernel_rfl) (fun _ _ _ h => h) (Or.inl ⟨by rfl, ?_⟩) hH ?_
    rotate_left
    · intro W hSW
      obtain ⟨zc, z3, zt⟩ := hSW
      go_simp
      try with_reducible rfl
    try go_simp
    refine wpAnyL_take (i := 6) (v := ?_) rfl (by kernel_rfl) (by kernel_rfl) (by kernel_rfl) (by kernel_rfl) (by kernel_rfl) (fun _ _ _ h => h) (Or.inl ⟨by rfl, ?_⟩) hH ?_
    rotate_left
    · intro W hSW
      obtain ⟨zc, z3, zt⟩ := hSW
      go_simp
      try with_reducible rfl
    try go_simp
    refine wpAnyL_take (i := 7) (v := ?_) rfl (by kernel_rfl) (by kernel_rfl) (by kernel_rfl) (by kernel_rfl) (by kernel_rfl) (fun _ _ _ h => h) (Or.inl ⟨by rfl, ?_⟩) hH ?_
    rotate_left
    · intro W hSW
      obtain ⟨zc, z3, zt⟩ := hSW
      go_simp
      try with_reducible rfl
    try go_simp
    refine wpAnyL_take (i := 8) (v := ?_) rfl (by kernel_rfl) (by kernel_rfl) (by kernel_rfl) (by kernel_rfl) (by kernel_rfl) (fun _ _ _ h => h) (Or.inl ⟨by rfl, ?_⟩) hH ?_
    rotate_left
    · intro W hSW
      obtain ⟨zc, z3, zt⟩ := hSW
      go_simp
      try with_reducible rfl
    try go_simp
    refine wpAnyL_take (i := 9) (v := ?_) rfl (by kernel_rfl) (by kernel_rfl) (by kernel_rfl) (by kernel_rfl) (by kernel_rfl) (fun _ _ _ h => h) (Or.inl ⟨by rfl, ?_⟩) hH ?_
    rotate_left
    · intro W hSW
      obtain ⟨zc, z3, zt⟩ := hSW
      go_simp
      try with_reducible rfl
    try go_simp
    refine wpAnyL_take (i := 10) (v := ?_) rfl (by kernel_rfl) (by kernel_rfl) (by kernel_rfl) (by kernel_rfl) (by kernel_rfl) (fun _ _ _ h => h) (Or.inl ⟨by rfl, ?_⟩) hH ?_
    rotate_left
    · intro W hSW
      obtain ⟨zc, z3, zt⟩ := hSW
      go_simp
      try with_reducible rfl
    try go_simp
    refine wpAnyL_take (i := 11) (v := ?_) rfl (by kernel_rfl) (by kernel_rfl) (by kernel_rfl) (by kernel_rfl) (by kernel_rfl) (fun _ _ _ h => h) (Or.inl ⟨by rfl, ?_⟩) hH ?_
    rotate_left
    · intro W hSW
      obtain ⟨zc, z3, zt⟩ := hSW
      go_simp
      try with_reducible rfl
    try go_simp
    refine wpAnyL_take (i := 12) (v := ?_) rfl (by kernel_rfl) (by kernel_rfl) (by kernel_rfl) (by kernel_rfl) (by kernel_rfl) (fun _ _ _ h => h) (Or.inl ⟨by rfl, ?_⟩) hH ?_
    rotate_left
    · intro W hSW
      obtain ⟨zc, z3, zt⟩ := hSW
      go_simp
      try with_reducible rfl
    try go_simp
    have hD32 : DV.toArray.size = 32 := by rw [List.size_toArray, HDL.out]
    have hD1 : DV.toArray.all (·.oneCell') = true := by
      rw [List.all_toArray, List.all_eq_true]
      intro v hv
      rw [HDY.out] at hv
      obtain ⟨x, _, rfl⟩ := List.mem_map.1 hv
      rfl
    refine wpAnyL_two (i := 13) (j := 14) (by kernel_rfl) rfl rfl (fun K hK => ?_) (fun K hK => ?_)
    · go_simp
      refine (HDG.out _).mono ?_
      rintro _ w7 ⟨rfl, hb7⟩
      have hb67 : Below w1.heap.size w1 w7 := (show Below w1.heap.size w1 w1.drew from (Below.refl _ _).drew).trans hb7
      have hs7 : w1.heap.size ≤ w7.heap.size := hb67.size
      have hH7 := HCA.out _ _ hb7 (Nat.le_refl _) hH
      refine hK.out _ _ (fun _ => hH7) ?_
      clear hK K
      try go_simp
      refine wpAnyL_one (i := 14) (by kernel_rfl) rfl (fun K hK => ?_)
      go_simp
      have hn8 := heap_alloc_new w7
      have hb8 := fun o => (Below.refl w7.heap.size w7).alloc (Nat.le_refl _) o
      generalize hW : World.alloc w7 _ = w8
      obtain ⟨zz, hz32, hz8⟩ : ∃ zz : Array Value, zz.size = 32 ∧ w8.heap[w7.heap.size]? = some (.cells zz 39 (0, 0)) := by rw [← hW]; exact ⟨_, rfl, hn8 _⟩
      have hb78 : Below w7.heap.size w7 w8 := by rw [← hW]; exact hb8 _
      clear hW hn8 hb8
      refine hK.out _ _ (fun _ => HCA.out _ _ hb78 hs7 hH7) ?_
      clear hK K
      try go_simp
      refine wpAnyL_one (i := 15) (by kernel_rfl) rfl (fun K hK => ?_)
      rw [if_pos (by rfl)]
      refine wp_store_mid _ _ _ rfl w7.heap.size 0 DV.toArray rfl rfl (by rw [hD32]; exact there_of_row hz8 hz32) (by rw [hD32]; exact Tryz.info22) hD1 ?_
      refine hK.out _ _ (fun h => absurd rfl h) ?_
      clear hK K
      refine wpAnyL_done (by kernel_rfl) ?_ _
      have hs8 : w7.heap.size < w8.heap.size := (Array.getElem?_eq_some_iff.1 hz8).1
      have hbF : Below w1.heap.size w1 (w8.setCells w7.heap.size 0 DV.toArray.toList) := below_setCellsN hs7 _ _ _ (hb67.trans (hb78.mono hs7))
      have hsF : w7.heap.size < (w8.setCells w7.heap.size 0 DV.toArray.toList).heap.size := Nat.lt_of_lt_of_le hs8 (below_setCellsN (Nat.le_refl _) _ _ _ (Below.refl w7.heap.size w8)).size
      have hrF : (w8.setCells w7.heap.size 0 DV.toArray.toList).rangeAt w7.heap.size 0 DV := World.rangeAt_setCells_same _ _ _ _ (by rw [HDL.out]; exact there_of_row hz8 hz32)
      go_wp2_with fail
      go_meet
      exact ⟨w7.heap.size, rfl, hs7, hsF, hrF, hbF⟩
    · go_simp
      have hn8 := heap_alloc_new w1
      have hb8 := fun o => ((Below.refl w1.heap.size w1).alloc (Nat.le_refl _) o).drew
      have hH6 : w1.rangeAt r 1 constV ∧ w1.cell? ⟨ga, n, none⟩ = some (.slice (some ⟨g3, 0, none⟩) 1 c3) ∧ w1.cell? ⟨g3, 5, none⟩ = some (Sv tt) := ⟨fun k v hv => by simpa using hH.1 k v hv, by simpa using hH.2.1, by simpa using hH.2.2⟩
      generalize hW : World.drew (World.alloc w1 _) = w7
      obtain ⟨zz, hz32, hz7⟩ : ∃ zz : Array Value, zz.size = 32 ∧ w7.heap[w1.heap.size]? = some (.cells zz 39 (0, 0)) := by rw [← hW]; exact ⟨_, rfl, hn8 _⟩
      have hb67 : Below w1.heap.size w1 w7 := by rw [← hW]; exact hb8 _
      clear hW hn8 hb8
      have hs7 : w1.heap.size < w7.heap.size := (Array.getElem?_eq_some_iff.1 hz7).1
      have hH7 := HCA.out _ _ hb67 (Nat.le_refl _) hH6
      refine hK.out _ _ (fun _ => hH7) ?_
      clear hK K
      try go_simp
      refine wpAnyL_one (i := 13) (by kernel_rfl) rfl (fun K hK => ?_)
      go_simp
      refine (HDG.out _).mono ?_
      rintro _ w8 ⟨rfl, hb8⟩
      have hz8 := (hb8.block w1.heap.size hs7).trans hz7
      refine hK.out _ _ (fun _ => HCA.out _ _ hb8 (Nat.le_of_lt hs7) hH7) ?_
      clear hK K
      try go_simp
      refine wpAnyL_one (i := 15) (by kernel_rfl) rfl (fun K hK => ?_)
      rw [if_pos (by rfl)]
      refine wp_store_mid _ _ _ rfl w1.heap.size 0 DV.toArray rfl rfl (by rw [hD32]; exact there_of_row hz8 hz32) (by rw [hD32]; exact Tryz.info22) hD1 ?_
      refine hK.out _ _ (fun h => absurd rfl h) ?_
      clear hK K
      refine wpAnyL_done (by kernel_rfl) ?_ _
      have hs8 : w1.heap.size < w8.heap.size := (Array.getElem?_eq_some_iff.1 hz8).1
      have hbF : Below w1.heap.size w1 (w8.setCells w1.heap.size 0 DV.toArray.toList) := below_setCellsN (Nat.le_refl _) _ _ _ (hb67.trans (hb8.mono (Nat.le_of_lt hs7)))
      have hsF : w1.heap.size < (w8.setCells w1.heap.size 0 DV.toArray.toList).heap.size := Nat.lt_of_lt_of_le hs8 (below_setCellsN (Nat.le_refl _) _ _ _ (Below.refl w1.heap.size w8)).size
      have hrF : (w8.setCells w1.heap.size 0 DV.toArray.toList).rangeAt w1.heap.size 0 DV := World.rangeAt_setCells_same _ _ _ _ (by rw [HDL.out]; exact there_of_row hz8 hz32)
      go_wp2_with fail
      go_meet
      exact ⟨w1.heap.size, rfl, (Nat.le_refl _), hsF, hrF, hbF⟩
  case rest =>
    obtain ⟨gd, rfl, hgd0, hgd, hrd, hb2⟩ := hcut
    have HR2 := hide ((hb2.block w.heap.size (by omega)).trans HR1.out)
    have HB2 := hide (HB1.out.trans (hb2.mono (show w.heap.size ≤ w1.heap.size by omega)))
    have hs2 : w1.heap.size ≤ wc.heap.size := hb2.size
    have hcr := (HM1.out.below hb2).cell
    subst hu
    clear hb2 hRC hcell hc5 HM1 HR1 HB1 HDG
    generalize wc = w2 at *
    have HID := hide (show (Tryz.prog.info? 39).map (·.size) = some DV.length by rw [HDL.out]; exact Tryz.infoDig)
    have hS : w2.drew.rangeAt gd 0 DV ∧ w2.drew.cell? ⟨r, 0, none⟩ = some (.slice au K.length cu) := ⟨fun k v hv => hrd k v hv, by simpa using hcr⟩
    have HSE := hide (show (List.replicate 32 (Value.int .u8 0) ++ [I 0]).toArray.size = (commitV K).toArray.size by rw [HCO.out.size]; rfl)
    have HKC := hide (show w2.drew.heap[w.heap.size]? = some (.cells (List.replicate 32 (Value.int .u8 0) ++ [I 0]).toArray 41 (0, 0)) from HR2.out)
    have HBD := hide (show Below w.heap.size w w2.drew from HB2.out.drew)
    generalize hCL : commitV K = C at *
    have HCL := hide hCL
    clear hCL
    go_upto_region 3 with fail
    refine wp_region_L 7 (fun W => W.rangeAt gd 0 DV ∧ W.cell? ⟨r, 0, none⟩ = some (.slice au K.length cu)) (by kernel_rfl) hS (fun hH => ?_)
    clear hS hrd hcr
    refine wpAnyL_take (i := 0) (v := .agg DV.toArray) rfl (by kernel_rfl) (by kernel_rfl) (by kernel_rfl) (by kernel_rfl) (by kernel_rfl) (fun _ _ _ h => h) (yieldsIf_load_mid (by rfl) _ _ rfl gd 0 rfl DV _ (fun W hW => hW.1) Tryz.underlying39 rfl HID.out) hH ?_
    try go_simp
    refine wpAnyL_take (i := 1) (v := ?_) rfl (by kernel_rfl) (by kernel_rfl) (by kernel_rfl) (by kernel_rfl) (by kernel_rfl) (fun _ _ _ h => h) (Or.inl ⟨by rfl, ?_⟩) hH ?_
    rotate_left
    · intro W hSW
      obtain ⟨zd, zr⟩ := hSW
      go_simp
      try with_reducible rfl
    try go_simp
    refine wpAnyL_take (i := 2) (v := ?_) rfl (by kernel_rfl) (by kernel_rfl) (by kernel_rfl) (by kernel_rfl) (by kernel_rfl) (fun _ _ _ h => h) (Or.inl ⟨by rfl, ?_⟩) hH ?_
    rotate_left
    · intro W hSW
      obtain ⟨zd, zr⟩ := hSW
      go_simp
      try with_reducible rfl
    try go_simp
    refine wpAnyL_take (i := 3) (v := ?_) rfl (by kernel_rfl) (by kernel_rfl) (by kernel_rfl) (by kernel_rfl) (by kernel_rfl) (fun _ _ _ h => h) (Or.inl ⟨by rfl, ?_⟩) hH ?_
    rotate_left
    · intro W hSW
      obtain ⟨zd, zr⟩ := hSW
      go_simp
      try with_reducible rfl
    try go_simp
    refine wpAnyL_take (i := 4) (v := ?_) rfl (by kernel_rfl) (by kernel_rfl) (by kernel_rfl) (by kernel_rfl) (by kernel_rfl) (fun _ _ _ h => h) (Or.inl ⟨by rfl, ?_⟩) hH ?_
    rotate_left
    · intro W hSW
      obtain ⟨zd, zr⟩ := hSW
      go_simp
      try with_reducible rfl
    try go_simp
    refine wpAnyL_take (i := 5) (v := ?_) rfl (by kernel_rfl) (by kernel_rfl) (by kernel_rfl) (by kernel_rfl) (by kernel_rfl) (fun _ _ _ h => h) (Or.inl ⟨by rfl, ?_⟩) hH ?_
    rotate_left
    · intro W hSW
      obtain ⟨zd, zr⟩ := hSW
      go_simp
      try with_reducible rfl
    try go_simp
    refine wpAnyL_take (i := 6) (v := .agg C.toArray) rfl (by kernel_rfl) (by kernel_rfl) (by kernel_rfl) (by kernel_rfl) (by kernel_rfl) (fun _ _ _ h => h) (yields_built (by rfl) 41 _ rfl C.toArray [(0, .agg DV.toArray), (1, I (K.length : Nat))] rfl HBC.out) hH ?_
    try go_simp
    refine wpAnyL_one (i := 7) (by kernel_rfl) rfl (fun K hK => ?_)
    rw [if_pos (by rfl)]
    refine wp_store_row 41 (.tmp 2) (.tmp 27) rfl w.heap.size C.toArray rfl rfl 41 _ HKC.out HCO.out.info HSE.out HCO.out.one ?_
    refine hK.out _ _ (fun h => absurd rfl h) ?_
    clear hK K
    refine wpAnyL_done (by kernel_rfl) ?_ _
    go_wp2_with fail
    refine bodyPost_ret (v := .agg C.toArray) ?_ rfl ⟨by rw [HCL.out], below_setRow HBD.out (Nat.le_refl _) _⟩
    exact results_cell_row rfl _ _ w.heap.size 41 C.toArray (0, 0) _ rfl (setRow_heap _ _ _ _ _ _ HKC.out) Tryz.underlying41 rfl HCO.out.info
end Go.Proofs.YtenaelkbgkpllaaGreatDoor
/- The document's Answer. -/
namespace Go.Proofs.YtenaelkbgkpllaaGreatDoor
open Go.RowKit

/-- a map's points and a query that are read -/
def RdMQ (W : World) (r k : Nat) (u : Value) (q : Ward.Qr) : Prop := W.cell? ⟨r, 0, none⟩ = some u ∧ W.cell? ⟨k, 0, none⟩ = some (I q.kind) ∧ W.cell? ⟨k, 1, none⟩ = some (I q.a) ∧ W.cell? ⟨k, 2, none⟩ = some (I q.b) ∧ W.cell? ⟨k, 3, none⟩ = some (I q.c) ∧ W.cell? ⟨k, 4, none⟩ = some (I q.d) ∧ W.cell? ⟨k, 5, none⟩ = some (I q.x) ∧ W.cell? ⟨k, 6, none⟩ = some (I q.y) ∧ W.cell? ⟨k, 7, none⟩ = some (I q.k)
theorem RdMQ.below {W W' : World} {r k B : Nat} {u : Value} {q : Ward.Qr} (h : RdMQ W r k u q) (hb : Below B W W') (hg : r < B) (hk : k < B) : RdMQ W' r k u q := by
  obtain ⟨q0, p0, p1, p2, p3, p4, p5, p6, p7⟩ := h
  have ck := fun i => hb.cell (p := ⟨k, i, none⟩) hk
  exact ⟨(hb.cell (p := ⟨r, 0, none⟩) hg).trans q0, (ck _).trans p0, (ck _).trans p1, (ck _).trans p2, (ck _).trans p3, (ck _).trans p4, (ck _).trans p5, (ck _).trans p6, (ck _).trans p7⟩
theorem RdMQ.drew {W : World} {r k : Nat} {u : Value} {q : Ward.Qr} (h : RdMQ W r k u q) : RdMQ W.drew r k u q := by simpa [RdMQ] using h
theorem may_parts {q : Ward.Qr} (h : Ward.mayBe q = true) : (q.kind = 0) ∨ (q.kind = 1 ∧ 1 ≤ q.k ∧ q.k ≤ 20 ∧ Co q.x ∧ Co q.y) := by
  unfold Ward.mayBe at h
  by_cases h0 : q.kind = 0
  · exact .inl h0
  · rw [if_neg h0] at h
    by_cases h1 : q.kind = 1
    · rw [if_pos h1] at h
      simp only [Ward.coordOk, Bool.and_eq_true, decide_eq_true_eq] at h
      exact .inr ⟨h1, h.1.2, h.2, h.1.1.1, h.1.1.2⟩
    · rw [if_neg h1] at h
      cases h
theorem answered_ref (q : Ward.Qr) (va : Value) (L : List Ward.Pt) (w : World) (hm : Ward.mayBe q = true) (hr : Reads w va L) (hI : Ward.Ids L) (hC : ∀ p ∈ L, Co p.x ∧ Co p.y) (hl : L.length ≤ 30000) :
    Calls Tryz.prog 103 #[va, Qv q] w fun e w' => ∃ v', e = .returned v' ∧ Own w' w.heap.size v' (Ward.ans q L) ∧ Below w.heap.size w w' := by
  rcases may_parts hm with h | ⟨h1, h2, h3, h4, h5⟩
  · exact answered_window q va L w h hr hI hl
  · exact answered_near q va L w h1 h2 h3 h4 h5 hr hI hC hl
theorem good_co {L : List Ward.Pt} (h : Good L) : ∀ p ∈ L, Co p.x ∧ Co p.y := fun p hp => by
  have := h.ok p hp
  exact ⟨⟨this.x1, this.x2⟩, ⟨this.y1, this.y2⟩⟩
set_option maxRecDepth 100000 in
set_option maxHeartbeats 2000000 in
theorem answer_ref (r : Nat) (u : Value) (K : List Ward.Pt) (q : Ward.Qr) (w : World) (hm : RMap w r u K) (hG : Good K) :
    Calls Tryz.prog 98 #[.pointer (some ⟨r, 0, none⟩), Qv q] w fun e w' => ∃ v', e = .returned (.tuple #[v', I (if Ward.mayBe q = true then 0 else 6)]) ∧ Own w' w.heap.size v' (if Ward.mayBe q = true then Ward.ans q K else []) ∧ Below w.heap.size w w' := by
  have HM := hide hm
  have hrl := hm.lt
  have HMY := hide (may_ref q)
  have HAW := hide (fun (h : Ward.mayBe q = true) W (hr : Reads W u K) => answered_ref q u K W h hr hG.ids (good_co hG) (by have := hG.many; omega))
  have HTR := hide (show Below w.heap.size w (w.alloc (.cells #[I q.kind, I q.a, I q.b, I q.c, I q.d, I q.x, I q.y, I q.k] 46)) ∧ (w.alloc (.cells #[I q.kind, I q.a, I q.b, I q.c, I q.d, I q.x, I q.y, I q.k] 46)).heap[w.heap.size]? = some (.cells #[I q.kind, I q.a, I q.b, I q.c, I q.d, I q.x, I q.y, I q.k] 46 (0, 0)) from ⟨(Below.refl w.heap.size w).alloc (Nat.le_refl _) _, heap_alloc_new w _⟩)
  generalize Ward.ans q K = res at *
  generalize Ward.mayBe q = may at *
  obtain ⟨kd, qa, qb, qc, qd, qx, qy, qk⟩ := q
  simp only at *
  clear hm hG
  go_enter Tryz.func98, Tryz.ntmps98
  go_upto_region 1 with fail
  have htr := HTR.out
  clear HTR
  generalize w.alloc (.cells #[I kd, I qa, I qb, I qc, I qd, I qx, I qy, I qk] 46) = w1 at htr ⊢
  obtain ⟨hb1, hr1⟩ := htr
  have HB1 := hide hb1
  have hs1 : w.heap.size < w1.heap.size := (Array.getElem?_eq_some_iff.1 hr1).1
  obtain ⟨y0, y1, y2, y3, y4, y5, y6, y7⟩ := rowQ8 hr1
  have HR1 := hide hr1
  clear hb1 hr1
  go_wp2_with fail
  refine (HMY.out _).mono ?_
  rintro _ w2 ⟨rfl, hb2⟩
  have HB2 := hide (HB1.out.trans (hb2.mono HB1.out.size))
  have hs2 := hb2.size
  have HR2 := hide ((hb2.block w.heap.size hs1).trans HR1.out)
  clear hb2 y0 y1 y2 y3 y4 y5 y6 y7 HMY HR1
  cases may with
  | false =>
    have HFB := hide HB2.out
    go_wp2_with fail
    go_ret2
    exact ⟨_, rfl, World.ownsRow_nil _ _ _ _, HFB.out⟩
  | true =>
    have hM2 := HM.out.below HB2.out
    have hcr := hM2.cell
    have HAN := hide (HAW.out rfl)
    have hrd := hM2.own.reads
    obtain ⟨au, cu, eu⟩ := hM2.own.slice
    subst eu
    obtain ⟨y0, y1, y2, y3, y4, y5, y6, y7⟩ := rowQ8 HR2.out
    have hrl2 : r < w2.heap.size := by omega
    have hwl2 : w.heap.size < w2.heap.size := by omega
    have HRD := hide hrd
    clear hM2 hrd HAW
    go_upto_region 4 with fail
    have hS : RdMQ w2 r w.heap.size (.slice au K.length cu) ⟨kd, qa, qb, qc, qd, qx, qy, qk⟩ := ⟨hcr, y0, y1, y2, y3, y4, y5, y6, y7⟩
    go_cut [7] from 12 to 17 (fun v7 wx => Own wx w2.heap.size v7 res ∧ Below w2.heap.size w2 wx)
    case first =>
      have HAD := hide (fun W (hb : Below w2.heap.size w2 W) => HAN.out W (HRD.out.below hb))
      obtain ⟨s0, t0, t1, t2, t3, t4, t5, t6, t7⟩ := id hS
      go_region_held3 (fun W => W.cell? ⟨r, 0, none⟩ = some (.slice au K.length cu) ∧ W.cell? ⟨w.heap.size, 0, none⟩ = some (I kd) ∧ W.cell? ⟨w.heap.size, 1, none⟩ = some (I qa) ∧ W.cell? ⟨w.heap.size, 2, none⟩ = some (I qb) ∧ W.cell? ⟨w.heap.size, 3, none⟩ = some (I qc) ∧ W.cell? ⟨w.heap.size, 4, none⟩ = some (I qd) ∧ W.cell? ⟨w.heap.size, 5, none⟩ = some (I qx) ∧ W.cell? ⟨w.heap.size, 6, none⟩ = some (I qy) ∧ W.cell? ⟨w.heap.size, 7, none⟩ = some (I qk)) (first | assumption | exact hS | exact hS.drew | exact hS6) ((go_at_call 103; refine (HAD.out _ ((Below.refl _ _).drew)).mono ?_; rintro _ w6 ⟨v6, rfl, ho6, hb6⟩; have hS6 := hS.drew.below hb6 (by simpa using hrl2) (by simpa using hwl2); have hB6 : Below w2.heap.size w2 w6 := (show Below w2.heap.size w2 w2.drew from (Below.refl _ _).drew).trans hb6))
      all_goals
        go_wp2_with fail
        go_meet
        exact ⟨ho6, hB6⟩
    case rest =>
      obtain ⟨ho, hbc⟩ := hcut
      have HO := hide (own_base ho (show w.heap.size ≤ w2.heap.size by omega))
      have HFB := hide (HB2.out.trans (hbc.mono (by omega)))
      obtain ⟨a9, c9, e9⟩ := ho.slice
      subst e9
      clear ho hbc hS y0 y1 y2 y3 y4 y5 y6 y7 hcr
      go_wp2_with fail
      go_ret2
      exact ⟨_, rfl, HO.out, HFB.out⟩
end Go.Proofs.YtenaelkbgkpllaaGreatDoor
/- The document's Must. -/
namespace Go.Proofs.YtenaelkbgkpllaaGreatDoor
open Go.RowKit

theorem must_near_is {q : Ward.Qr} {a : List Ward.Pt} {b : Ward.Box} (hk : q.kind = 1) (h2 : ¬ (a.length : Int) < q.k) (hl : a.length - 1 < a.length) : Ward.must q a b = decide (Ward.dist b q.x q.y ≤ Ward.distP a[a.length - 1] q.x q.y) := by
  unfold Ward.must
  rw [if_neg (by rw [hk]; decide), if_neg h2, List.getLast?_eq_getElem?, List.getElem?_eq_getElem hl]
set_option maxRecDepth 100000 in
set_option maxHeartbeats 4000000 in
theorem must_ref (b : Ward.Box) (q : Ward.Qr) (va : Value) (a : List Ward.Pt) (w : World) (hm : Ward.mayBe q = true) (hb : b.In) (hu : b.up) (hr : Reads w va a) (hC : ∀ p ∈ a, Co p.x ∧ Co p.y) (hl : a.length ≤ 30000) :
    Calls Tryz.prog 133 #[Bxr b, Qv q, va] w fun e w' => e = .returned (.bool (Ward.must q a b)) ∧ Below w.heap.size w w' := by
  obtain ⟨aa, ca, ea, -⟩ := id hr
  subst ea
  have HTR := hide (two_rows w #[I b.a, I b.b, I b.c, I b.d] #[I q.kind, I q.a, I q.b, I q.c, I q.d, I q.x, I q.y, I q.k] 148 46)
  have HRD := hide hr.point.2
  rcases may_parts hm with hk | ⟨hk, hk1, hk2, hqx, hqy⟩
  · have HM := hide (show Ward.must q a b = (decide (q.a ≤ b.c) && decide (b.a ≤ q.c) && decide (q.b ≤ b.d) && decide (b.b ≤ q.d)) by unfold Ward.must; rw [if_pos hk]; rfl)
    generalize Ward.must q a b = res at *
    obtain ⟨ba, bb, bc, bd⟩ := b
    obtain ⟨kd, qa, qb, qc, qd, qx, qy, qk⟩ := q
    simp only at *
    subst hk
    clear hr hC hm hb hu
    go_enter Tryz.func133, Tryz.ntmps133
    go_upto_region 1 with fail
    have htr := HTR.out
    clear HTR
    generalize (w.alloc (.cells #[I ba, I bb, I bc, I bd] 148)).alloc (.cells #[I 0, I qa, I qb, I qc, I qd, I qx, I qy, I qk] 46) = w1 at htr ⊢
    obtain ⟨hb1, hr1, hr2⟩ := htr
    have z0 : w1.cell? ⟨w.heap.size, 0, none⟩ = some (I ba) := by rw [cell_of_row _ _ _ _ _ _ hr1]; rfl
    have z1 : w1.cell? ⟨w.heap.size, 1, none⟩ = some (I bb) := by rw [cell_of_row _ _ _ _ _ _ hr1]; rfl
    have z2 : w1.cell? ⟨w.heap.size, 2, none⟩ = some (I bc) := by rw [cell_of_row _ _ _ _ _ _ hr1]; rfl
    have z3 : w1.cell? ⟨w.heap.size, 3, none⟩ = some (I bd) := by rw [cell_of_row _ _ _ _ _ _ hr1]; rfl
    obtain ⟨y0, y1, y2, y3, y4, y5, y6, y7⟩ := rowQ8 hr2
    have HB1 := hide hb1
    clear hb1 hr1 hr2
    by_cases c1 : ba ≤ qc
    · by_cases c2 : qa ≤ bc
      · by_cases c3 : bb ≤ qd
        · by_cases c4 : qb ≤ bd
          · have hres : res = true := by rw [HM.out]; simp [c1, c2, c3, c4]
            subst hres
            go_wp2_with fail
            go_ret
            exact ⟨rfl, HB1.out⟩
          · have hres : res = false := by rw [HM.out]; simp [c4]
            subst hres
            go_wp2_with fail
            go_ret
            exact ⟨rfl, HB1.out⟩
        · have hres : res = false := by rw [HM.out]; simp [c3]
          subst hres
          go_wp2_with fail
          go_ret
          exact ⟨rfl, HB1.out⟩
      · have hres : res = false := by rw [HM.out]; simp [c2]
        subst hres
        go_wp2_with fail
        go_ret
        exact ⟨rfl, HB1.out⟩
    · have hres : res = false := by rw [HM.out]; simp [c1]
      subst hres
      go_wp2_with fail
      go_ret
      exact ⟨rfl, HB1.out⟩
  · by_cases hlen : (a.length : Int) < q.k
    · have HM := hide (show Ward.must q a b = true by unfold Ward.must; rw [if_neg (by rw [hk]; decide), if_pos hlen])
      generalize Ward.must q a b = res at *
      obtain ⟨ba, bb, bc, bd⟩ := b
      obtain ⟨kd, qa, qb, qc, qd, qx, qy, qk⟩ := q
      simp only at *
      subst hk
      have hres : res = true := HM.out
      subst hres
      clear hr hC hm hb hu HM
      go_enter Tryz.func133, Tryz.ntmps133
      go_upto_region 1 with fail
      have htr := HTR.out
      clear HTR
      generalize (w.alloc (.cells #[I ba, I bb, I bc, I bd] 148)).alloc (.cells #[I 1, I qa, I qb, I qc, I qd, I qx, I qy, I qk] 46) = w1 at htr ⊢
      obtain ⟨hb1, hr1, hr2⟩ := htr
      obtain ⟨y0, y1, y2, y3, y4, y5, y6, y7⟩ := rowQ8 hr2
      have HB1 := hide hb1
      clear hb1 hr1 hr2
      go_wp2_with fail
      go_ret
      exact ⟨rfl, HB1.out⟩
    · have hal : a.length - 1 < a.length := by omega
      have HM := hide (must_near_is (b := b) hk hlen hal)
      have hmem : a[a.length - 1] ∈ a := List.getElem_mem hal
      have HFA := hide (fun W => far_ref b q W hb hu hqx hqy)
      have HDI := hide (fun W => distance_ref a[a.length - 1] q W (hC _ hmem).1 (hC _ hmem).2 hqx hqy)
      obtain ⟨g, o, rfl, hp⟩ := HRD.out _ hal
      have HP := hide hp
      generalize Ward.must q a b = res at *
      generalize Ward.dist b q.x q.y = df at *
      generalize Ward.distP a[a.length - 1] q.x q.y = dd at *
      generalize a[a.length - 1] = pp at *
      have hq : ∃ n1, a.length = n1 + 1 := ⟨a.length - 1, by omega⟩
      obtain ⟨n1, hn1⟩ := hq
      rw [hn1] at hlen hl HP ⊢
      rw [show n1 + 1 - 1 = n1 by omega] at HP
      obtain ⟨pi, px, py⟩ := pp
      obtain ⟨ba, bb, bc, bd⟩ := b
      obtain ⟨kd, qa, qb, qc, qd, qx, qy, qk⟩ := q
      simp only at *
      subst hk
      clear hr hC hm hb hu HRD hp hmem hal hn1
      go_enter Tryz.func133, Tryz.ntmps133
      go_upto_region 1 with fail
      have htr := HTR.out
      clear HTR
      generalize (w.alloc (.cells #[I ba, I bb, I bc, I bd] 148)).alloc (.cells #[I 1, I qa, I qb, I qc, I qd, I qx, I qy, I qk] 46) = w1 at htr ⊢
      obtain ⟨hb1, hr1, hr2⟩ := htr
      have z0 : w1.cell? ⟨w.heap.size, 0, none⟩ = some (I ba) := by rw [cell_of_row _ _ _ _ _ _ hr1]; rfl
      have z1 : w1.cell? ⟨w.heap.size, 1, none⟩ = some (I bb) := by rw [cell_of_row _ _ _ _ _ _ hr1]; rfl
      have z2 : w1.cell? ⟨w.heap.size, 2, none⟩ = some (I bc) := by rw [cell_of_row _ _ _ _ _ _ hr1]; rfl
      have z3 : w1.cell? ⟨w.heap.size, 3, none⟩ = some (I bd) := by rw [cell_of_row _ _ _ _ _ _ hr1]; rfl
      have hs1 : w.heap.size + 1 < w1.heap.size := (Array.getElem?_eq_some_iff.1 hr2).1
      obtain ⟨y0, y1, y2, y3, y4, y5, y6, y7⟩ := rowQ8 hr2
      have HB1 := hide hb1
      have HR2 := hide hr2
      clear hb1 hr1 hr2
      go_wp2_with fail
      refine (HFA.out _).mono ?_
      rintro _ w2 ⟨rfl, hb2⟩
      have hs2 := hb2.size
      have HB2 := hide (HB1.out.trans (hb2.mono HB1.out.size))
      have hp2 := HP.out w2 HB2.out
      have hq2 := rowQ8 ((hb2.block (w.heap.size + 1) hs1).trans HR2.out)
      have hS : RdPQ w2 g (o + n1 * 3) (w.heap.size + 1) ⟨pi, px, py⟩ ⟨1, qa, qb, qc, qd, qx, qy, qk⟩ := ⟨hp2, hq2⟩
      have hg2 : g < w2.heap.size := block_lt_of_cell hp2.1
      have hw2 : w.heap.size + 1 < w2.heap.size := by omega
      have hn0 : (0 : Int) ≤ (n1 : Int) := by omega
      have hn2 : (n1 : Int) < (n1 : Int) + 1 := by omega
      have hnw : IntKind.i64.wrap (n1 : Int) = (n1 : Int) := wrap_small _ (by omega) (by omega)
      have hnt : ((n1 : Int)).toNat = n1 := by omega
      have hnm : ((n1 : Int) + 1) - 1 = (n1 : Int) := by omega
      clear hb2 y0 y1 y2 y3 y4 y5 y6 y7 z0 z1 z2 z3 hp2 hq2
      go_upto_region 6 with fail
      go_cut [8] from 46 to 53 (fun v8 wx => v8 = I dd ∧ Below w2.heap.size w2 wx)
      case first =>
        obtain ⟨⟨s1, s2, s3⟩, t0, t1, t2, t3, t4, t5, t6, t7⟩ := id hS
        go_region_held3 (fun W => (W.cell? ⟨g, o + n1 * 3, none⟩ = some (I pi) ∧ W.cell? ⟨g, o + n1 * 3 + 1, none⟩ = some (I px) ∧ W.cell? ⟨g, o + n1 * 3 + 2, none⟩ = some (I py)) ∧ W.cell? ⟨w.heap.size + 1, 0, none⟩ = some (I 1) ∧ W.cell? ⟨w.heap.size + 1, 1, none⟩ = some (I qa) ∧ W.cell? ⟨w.heap.size + 1, 2, none⟩ = some (I qb) ∧ W.cell? ⟨w.heap.size + 1, 3, none⟩ = some (I qc) ∧ W.cell? ⟨w.heap.size + 1, 4, none⟩ = some (I qd) ∧ W.cell? ⟨w.heap.size + 1, 5, none⟩ = some (I qx) ∧ W.cell? ⟨w.heap.size + 1, 6, none⟩ = some (I qy) ∧ W.cell? ⟨w.heap.size + 1, 7, none⟩ = some (I qk)) (first | assumption | exact hS | exact hS.drew | exact hS6) ((go_at_call 138; refine (HDI.out _).mono ?_; rintro _ w6 ⟨rfl, hb6⟩; have hS6 := hS.drew.below hb6 (by simpa using hg2) (by simpa using hw2); have hB6 : Below w2.heap.size w2 w6 := (show Below w2.heap.size w2 w2.drew from (Below.refl _ _).drew).trans hb6))
        all_goals
          go_wp2_with fail
          go_meet
          exact ⟨rfl, hB6⟩
      case rest =>
        obtain ⟨rfl, hbc⟩ := hcut
        have HFB := hide (HB2.out.trans (hbc.mono HB2.out.size))
        have HRE := hide (show res = decide (df ≤ dd) from HM.out)
        clear hbc hS HM
        generalize wc = w5 at *
        by_cases hc : df ≤ dd
        · have hres : res = true := by rw [HRE.out]; exact decide_eq_true hc
          subst hres
          go_wp2_with fail
          go_ret
          exact ⟨rfl, HFB.out⟩
        · have hres : res = false := by rw [HRE.out]; exact decide_eq_false hc
          subst hres
          go_wp2_with fail
          go_ret
          exact ⟨rfl, HFB.out⟩
end Go.Proofs.YtenaelkbgkpllaaGreatDoor
/- The document's proof: a level's parts as they lie. -/
namespace Go.Proofs.YtenaelkbgkpllaaGreatDoor
open Go.RowKit

theorem AllAt.part {w : World} {B : Nat} {v v3 : Value} {K : List Ward.Pt} {N : Nat} (h : AllAt w B v v3 K N) {l : Nat} (hl : l ≤ N) : ∃ ga ca gl cl, v = .slice (some ⟨ga, 0, none⟩) (N + 1) ca ∧ N + 1 ≤ ca ∧ ga < w.heap.size ∧ w.cell? ⟨ga, l, none⟩ = some (.slice (some ⟨gl, 0, none⟩) (Ward.lev K l).length cl) ∧ gl < w.heap.size ∧ (Ward.lev K l).length ≤ cl ∧ ∀ j, (hj : j < (Ward.lev K l).length) → ∃ x, x.oneCell' = true ∧ w.rangeAt gl (j * 9) (partL l (Ward.lev K l)[j] j x) := by
  obtain ⟨vs, h1, h2, h3, h4⟩ := h
  have h0 : 0 < (Ward.lev K l).length := List.length_pos_iff.2 (Ward.lev_ne K l)
  obtain ⟨gl, cl, x0, e0, -, hgl, hcl, -, -⟩ := (h4 l hl).at 0 h0
  rcases h3.2 with ⟨_, h0⟩ | ⟨ga, ca, cur, e, hb, hg, hcap, _⟩
  · omega
  subst e
  refine ⟨ga, ca, gl, cl, rfl, hcap, (Array.getElem?_eq_some_iff.1 hg).1, ?_, hgl, hcl, fun j hj => ?_⟩
  · have hc := h3.cells (g := ga) rfl l (vs l) (by rw [List.getElem?_map, List.getElem?_range (by omega)]; rfl)
    rw [Addr.add_lit, Nat.zero_add, e0] at hc
    exact hc
  · obtain ⟨g', c', x, e', -, -, -, hx, hr⟩ := (h4 l hl).at j hj
    rw [e0] at e'
    injection e' with e1
    injection e1 with e1
    injection e1 with e1
    subst e1
    exact ⟨x, hx, hr⟩
end Go.Proofs.YtenaelkbgkpllaaGreatDoor
/- The document's proof of a part of a level. -/
namespace Go.Proofs.YtenaelkbgkpllaaGreatDoor
open Go.RowKit

theorem ext_str (x : List UInt8) (a b : Nat) : (⟨x.toArray⟩ : ByteArray).extract a b = ⟨((x.drop a).take (b - a)).toArray⟩ := by
  apply ByteArray.ext
  apply Array.ext'
  rw [cut_list]
theorem slice_str (x : List UInt8) (a b : Nat) (h : a ≤ b) (hb : b ≤ x.length) (W : World) : (Instr.slice 9 (Sv x) (some (.int .i64 (a : Int))) (some (.int .i64 (b : Int))) none).run Tryz.prog W = .ok (Sv ((x.drop a).take (b - a))) W := by
  have e : (⟨x.toArray⟩ : ByteArray).size = x.length := by show x.toArray.size = _; rw [List.size_toArray]
  have h1 := run_slice_string W 9 ⟨x.toArray⟩ .i64 .i64 (a : Int) (b : Int) Tryz.underlying9 (by omega) (by omega) (by rw [e]; omega)
  rw [Int.toNat_natCast, Int.toNat_natCast, ext_str] at h1
  exact h1
/-- what is known of a query's eight cells -/
def Q8 (W : World) (k : Nat) (q : Ward.Qr) : Prop := W.cell? ⟨k, 0, none⟩ = some (I q.kind) ∧ W.cell? ⟨k, 1, none⟩ = some (I q.a) ∧ W.cell? ⟨k, 2, none⟩ = some (I q.b) ∧ W.cell? ⟨k, 3, none⟩ = some (I q.c) ∧ W.cell? ⟨k, 4, none⟩ = some (I q.d) ∧ W.cell? ⟨k, 5, none⟩ = some (I q.x) ∧ W.cell? ⟨k, 6, none⟩ = some (I q.y) ∧ W.cell? ⟨k, 7, none⟩ = some (I q.k)
set_option maxRecDepth 100000 in
set_option maxHeartbeats 4000000 in
theorem proof_leaf (q : Ward.Qr) (va : Value) (a : List Ward.Pt) (K : List Ward.Pt) (N : Nat) (v v3 : Value) (B i : Nat) (hi : i < (Ward.lev K 0).length) (w : World) (hA : AllAt w B v v3 K N) :
    Calls Tryz.prog 102 #[v, I 0, I i, Qv q, va] w fun e w' => e = .returned (Sv (Ward.proof Sha.sha (Ward.must q a) 0 (Ward.lev K 0)[i])) ∧ Below w.heap.size w w' := by
  rw [Ward.proof_zero]
  obtain ⟨ga, ca, gl, cl, rfl, hca, hgal, hcell, hgll, hcl, hparts⟩ := hA.part (l := 0) (Nat.zero_le _)
  obtain ⟨x, hx, hrp⟩ := hparts i hi
  have HON := hide (show (partL 0 (Ward.lev K 0)[i] i x).toArray.all (·.oneCell') = true from partV_one _ _ _ _ _ x hx)
  have HTX := hide (show (partL 0 (Ward.lev K 0)[i] i x)[5]? = some (Sv (Ward.text Sha.sha 0 (Ward.lev K 0)[i])) from rfl)
  have HLN := hide (partL_len 0 (Ward.lev K 0)[i] i x)
  clear hparts
  generalize Ward.text Sha.sha 0 (Ward.lev K 0)[i] = tt at *
  generalize partL 0 (Ward.lev K 0)[i] i x = PL at *
  generalize (Ward.lev K 0).length = nl at *
  have HTR := hide (show Below w.heap.size w (w.alloc (.cells #[I q.kind, I q.a, I q.b, I q.c, I q.d, I q.x, I q.y, I q.k] 46)) ∧ (w.alloc (.cells #[I q.kind, I q.a, I q.b, I q.c, I q.d, I q.x, I q.y, I q.k] 46)).heap[w.heap.size]? = some (.cells #[I q.kind, I q.a, I q.b, I q.c, I q.d, I q.x, I q.y, I q.k] 46 (0, 0)) from ⟨(Below.refl w.heap.size w).alloc (Nat.le_refl _) _, heap_alloc_new w _⟩)
  obtain ⟨kd, qa, qb, qc, qd, qx, qy, qk⟩ := q
  simp only at *
  have HRP := hide hrp
  clear hA hrp
  go_enter Tryz.func102, Tryz.ntmps102
  go_upto_region 1 with fail
  have htr := HTR.out
  clear HTR
  generalize w.alloc (.cells #[I kd, I qa, I qb, I qc, I qd, I qx, I qy, I qk] 46) = w1 at htr ⊢
  obtain ⟨hb1, hr1⟩ := htr
  have hc1 : w1.cell? ⟨ga, 0, none⟩ = some (.slice (some ⟨gl, 0, none⟩) nl cl) := (hb1.cell (p := ⟨ga, 0, none⟩) hgal).trans hcell
  have HRP1 := hide (show w1.rangeAt gl (i * 9) PL from fun k u hu => (hb1.cell (p := ⟨gl, i * 9 + k, none⟩) hgll).trans (HRP.out k u hu))
  have HB1 := hide hb1
  have HIP := hide (show (Tryz.prog.info? 150).map (·.size) = some PL.length by rw [HLN.out]; exact Tryz.infoPart)
  have HIA := hide (show (Tryz.prog.info? 150).map (·.size) = some PL.toArray.size by rw [List.size_toArray]; exact HIP.out)
  have HSA := hide (show PL.toArray.size = 9 by rw [List.size_toArray]; exact HLN.out)
  have hb2' := fun o => (Below.refl w1.heap.size w1).alloc (Nat.le_refl _) o
  have hr2' := heap_alloc_new w1
  have hi1 : (i : Int) < (nl : Int) := by omega
  clear hb1 hr1 hcell HRP
  go_upto_region 2 with (first | (refine wpList_load_mid rfl 150 (.tmp 20) rfl gl (i * 9) rfl PL _ HRP1.out Tryz.underlying150 rfl HIP.out ?_) | (refine wpList_store_rowTo rfl 150 (.tmp 11) (.tmp 21) rfl rfl w1.heap.size PL.toArray rfl rfl 150 _ (heap_alloc_new w1 _) HIA.out (by rw [HSA.out]; rfl) HON.out ?_; rw [World.setRow_alloc_new]))
  generalize hW : World.alloc w1 _ = w2
  have hb2 : Below w1.heap.size w1 w2 := by rw [← hW]; exact hb2' _
  have hr2 : w2.heap[w1.heap.size]? = some (.cells PL.toArray 150 (0, 0)) := by rw [← hW]; exact hr2' _
  clear hW hb2' hr2'
  have ht : w2.cell? ⟨w1.heap.size, 5, none⟩ = some (Sv tt) := by rw [cell_of_row _ _ _ _ _ _ hr2, List.getElem?_toArray]; exact HTX.out
  have HB2 := hide (HB1.out.trans (hb2.mono HB1.out.size))
  clear hb2 hr2 hc1
  go_wp2_with fail
  go_ret
  exact ⟨rfl, HB2.out⟩
end Go.Proofs.YtenaelkbgkpllaaGreatDoor
/- The document's proof of a node of a level, its children's proofs given. -/
namespace Go.Proofs.YtenaelkbgkpllaaGreatDoor
open Go.RowKit

theorem slice_two (x : List UInt8) (hb : 2 ≤ x.length) (W : World) : (Instr.slice 9 (Sv x) none (some (.int .i64 2)) none).run Tryz.prog W = .ok (Sv (x.take 2)) W := by
  have e : (⟨x.toArray⟩ : ByteArray).size = x.length := by show x.toArray.size = _; rw [List.size_toArray]
  have h1 : (Instr.slice 9 (.string ⟨x.toArray⟩) none (some (.int .i64 2)) none).run Tryz.prog W = .ok (.string ((⟨x.toArray⟩ : ByteArray).extract 0 (2 : Int).toNat)) W := run_slice_string_h W 9 ⟨x.toArray⟩ Tryz.underlying9 .i64 2 (by decide) (by rw [e]; omega)
  rw [show (2 : Int).toNat = 2 from rfl, ext_str, List.drop_zero] at h1
  exact h1
/-- what is read ahead of Must -/
def RdMk (W : World) (ga n : Nat) (vl : Value) (gp : Nat) (f : Int) (gn o : Nat) (b : Ward.Box) (k : Nat) (q : Ward.Qr) : Prop := W.cell? ⟨ga, n, none⟩ = some vl ∧ W.cell? ⟨gp, 6, none⟩ = some (I f) ∧ (W.cell? ⟨gn, o, none⟩ = some (I b.a) ∧ W.cell? ⟨gn, o + 1, none⟩ = some (I b.b) ∧ W.cell? ⟨gn, o + 2, none⟩ = some (I b.c) ∧ W.cell? ⟨gn, o + 3, none⟩ = some (I b.d)) ∧ W.cell? ⟨k, 0, none⟩ = some (I q.kind) ∧ W.cell? ⟨k, 1, none⟩ = some (I q.a) ∧ W.cell? ⟨k, 2, none⟩ = some (I q.b) ∧ W.cell? ⟨k, 3, none⟩ = some (I q.c) ∧ W.cell? ⟨k, 4, none⟩ = some (I q.d) ∧ W.cell? ⟨k, 5, none⟩ = some (I q.x) ∧ W.cell? ⟨k, 6, none⟩ = some (I q.y) ∧ W.cell? ⟨k, 7, none⟩ = some (I q.k)
theorem RdMk.below {W W' : World} {ga n gp gn o k B : Nat} {vl : Value} {f : Int} {b : Ward.Box} {q : Ward.Qr} (h : RdMk W ga n vl gp f gn o b k q) (hb : Below B W W') (h1 : ga < B) (h2 : gp < B) (h3 : gn < B) (h4 : k < B) : RdMk W' ga n vl gp f gn o b k q := by
  obtain ⟨a0, b0, ⟨c0, c1, c2, c3⟩, p0, p1, p2, p3, p4, p5, p6, p7⟩ := h
  have cg := fun i => hb.cell (p := ⟨gn, i, none⟩) h3
  have ck := fun i => hb.cell (p := ⟨k, i, none⟩) h4
  exact ⟨(hb.cell (p := ⟨ga, n, none⟩) h1).trans a0, (hb.cell (p := ⟨gp, 6, none⟩) h2).trans b0, ⟨(cg _).trans c0, (cg _).trans c1, (cg _).trans c2, (cg _).trans c3⟩, (ck _).trans p0, (ck _).trans p1, (ck _).trans p2, (ck _).trans p3, (ck _).trans p4, (ck _).trans p5, (ck _).trans p6, (ck _).trans p7⟩
theorem RdMk.drew {W : World} {ga n gp gn o k : Nat} {vl : Value} {f : Int} {b : Ward.Box} {q : Ward.Qr} (h : RdMk W ga n vl gp f gn o b k q) : RdMk W.drew ga n vl gp f gn o b k q := by simpa [RdMk] using h
theorem level_kid (K : List Ward.Pt) (n i k : Nat) (hi : i < (Ward.lev K (n + 1)).length) (hk : k < List.length ((Ward.lev K (n + 1))[i] : List (Ward.T n))) : 4 * i + k < (Ward.lev K n).length := by
  have := (Ward.lev_few K n i hi).2
  omega
set_option maxRecDepth 100000 in
set_option maxHeartbeats 4000000 in
theorem proof_node (q : Ward.Qr) (va : Value) (a : List Ward.Pt) (K : List Ward.Pt) (N n : Nat) (v v3 : Value) (B i : Nat) (hq : Ward.mayBe q = true) (hCa : ∀ p ∈ a, Co p.x ∧ Co p.y) (hla : a.length ≤ 1000) (hG : Good K) (hn : n + 1 ≤ N) (hN : N ≤ 10) (hi : i < (Ward.lev K (n + 1)).length) (w : World) (hA : AllAt w B v v3 K N) (hra : Reads w va a)
    (hIH : ∀ j, (hj : j < (Ward.lev K n).length) → ∀ W, Below w.heap.size w W → Calls Tryz.prog 102 #[v, I n, I j, Qv q, va] W fun e w' => e = .returned (Sv (Ward.proof Sha.sha (Ward.must q a) n (Ward.lev K n)[j])) ∧ Below W.heap.size W w') :
    Calls Tryz.prog 102 #[v, .int .i64 ((n : Int) + 1), I i, Qv q, va] w fun e w' => e = .returned (Sv (Ward.proof Sha.sha (Ward.must q a) (n + 1) (Ward.lev K (n + 1))[i])) ∧ Below w.heap.size w w' := by
  have hll := Ward.lev_len K (by have := hG.many; omega) (n + 1)
  have hll0 := Ward.lev_len K (by have := hG.many; omega) n
  obtain ⟨ga, ca, gl, cl, rfl, hca, hgal, hcell, hgll, hcl, hparts⟩ := hA.part (l := n + 1) hn
  obtain ⟨ga', ca', gn, cn, ev, -, -, hcelln, hgnl, hcn, hpartn⟩ := hA.part (l := n) (by omega)
  injection ev with ev1 ev2 ev3
  injection ev1 with ev1
  injection ev1 with ev1
  subst ev1 ev3
  clear ev2
  obtain ⟨x, hx, hrp⟩ := hparts i hi
  have hsm := Ward.lev_small hG.ok (n + 1) _ (List.getElem_mem hi)
  obtain ⟨cs, hcs⟩ : ∃ cs : List (Ward.T n), (Ward.lev K (n + 1))[i] = cs := ⟨_, rfl⟩
  have HLK := hide (show ∀ k, k < cs.length → 4 * i + k < (Ward.lev K n).length from fun k hk => level_kid K n i k hi (by rw [hcs]; exact hk))
  have HKD := hide (show ∀ k, (hk : k < cs.length) → cs[k] = (Ward.lev K n)[4 * i + k]'(HLK.out k hk) from fun k hk => by
    subst hcs
    exact Ward.lev_kid K n i k hi hk (HLK.out k hk))
  rw [hcs] at hsm hrp ⊢
  have HPN := hide (show ∀ k, (hk : k < cs.length) → ∃ x : Value, w.rangeAt gn ((4 * i + k) * 9) (partL n cs[k] (4 * i + k) x) from fun k hk => by
    obtain ⟨x, -, h⟩ := hpartn (4 * i + k) (HLK.out k hk)
    rw [← HKD.out k hk] at h
    exact ⟨x, h⟩)
  have HIH := hide (show ∀ k, (hk : k < cs.length) → ∀ W, Below w.heap.size w W → Calls Tryz.prog 102 #[.slice (some ⟨ga, 0, none⟩) (N + 1) ca, I n, .int .i64 (4 * (i : Int) + (k : Int)), Qv q, va] W fun e w' => e = .returned (Sv (Ward.proof Sha.sha (Ward.must q a) n cs[k])) ∧ Below W.heap.size W w' from fun k hk W hb => by
    have h := hIH (4 * i + k) (HLK.out k hk) W hb
    rw [← HKD.out k hk] at h
    have e : (((4 * i + k : Nat)) : Int) = 4 * (i : Int) + (k : Int) := by omega
    rw [← e]
    exact h)
  clear hIH hparts hpartn hcs hA
  have HMU := hide (fun k (hk : k < cs.length) W (hr : Reads W va a) => must_ref (Ward.box n cs[k]) q va a W hq (Ward.box_in n _ (hsm.2 _ (List.getElem_mem hk))) (Ward.box_up n _) hr hCa (Nat.le_trans hla (by decide)))
  have HSP := hide (fun k (hk : k < cs.length) => Ward.proof_len (dig := Sha.sha) (Ward.must q a) (fun _ => rfl) n cs[k] (hsm.2 _ (List.getElem_mem hk)))
  have h4 : cs.length ≤ 4 := hsm.1
  have HON := hide (show (partL (n + 1) (cs : Ward.T (n + 1)) i x).toArray.all (·.oneCell') = true from partV_one _ _ _ _ _ x hx)
  have HTX := hide (show (partL (n + 1) (cs : Ward.T (n + 1)) i x)[5]? = some (Sv (Ward.text Sha.sha (n + 1) (cs : Ward.T (n + 1)))) ∧ (partL (n + 1) (cs : Ward.T (n + 1)) i x)[6]? = some (I (4 * (i : Int))) ∧ (partL (n + 1) (cs : Ward.T (n + 1)) i x)[7]? = some (I (cs.length : Nat)) from ⟨rfl, rfl, rfl⟩)
  have HLN := hide (partL_len (n + 1) (cs : Ward.T (n + 1)) i x)
  have HTL := hide (Ward.text_len (dig := Sha.sha) (fun _ => rfl) n cs)
  have HTH := hide (fun k (hk : k < cs.length) => Ward.text_head (dig := Sha.sha) (fun _ => rfl) n cs k hk)
  have HT2 := hide (Ward.text_two (dig := Sha.sha) n cs)
  have HPS := hide (Ward.proof_succ Sha.sha (Ward.must q a) n cs)
  generalize Ward.text Sha.sha (n + 1) (cs : Ward.T (n + 1)) = tt at *
  generalize partL (n + 1) (cs : Ward.T (n + 1)) i x = PL at *
  have hres : (Ward.proof Sha.sha (Ward.must q a) (n + 1) (cs : Ward.T (n + 1))).length ≤ 20000000000 := by
    have h := Ward.proof_len (dig := Sha.sha) (Ward.must q a) (fun _ => rfl) (n + 1) (cs : Ward.T (n + 1)) hsm
    have h5 : 5 ^ (n + 1) ≤ 5 ^ 11 := Nat.pow_le_pow_right (by decide) (by omega)
    have h6 : (5 : Nat) ^ 11 = 48828125 := by decide
    omega
  generalize Ward.proof Sha.sha (Ward.must q a) (n + 1) (cs : Ward.T (n + 1)) = res at *
  have HTR := hide (show Below w.heap.size w (w.alloc (.cells #[I q.kind, I q.a, I q.b, I q.c, I q.d, I q.x, I q.y, I q.k] 46)) ∧ (w.alloc (.cells #[I q.kind, I q.a, I q.b, I q.c, I q.d, I q.x, I q.y, I q.k] 46)).heap[w.heap.size]? = some (.cells #[I q.kind, I q.a, I q.b, I q.c, I q.d, I q.x, I q.y, I q.k] 46 (0, 0)) from ⟨(Below.refl w.heap.size w).alloc (Nat.le_refl _) _, heap_alloc_new w _⟩)
  have hsl2 := slice_two tt (by rw [HTL.out]; omega)
  rw [HT2.out] at hsl2
  generalize Ward.must q a = mu at *
  obtain ⟨kd, qa, qb, qc, qd, qx, qy, qk⟩ := q
  obtain ⟨aa, cap, ea, -⟩ := id hra
  subst ea
  have HRA := hide hra
  have HRP := hide hrp
  clear HKD
  generalize (Ward.lev K (n + 1)).length = nl at *
  generalize hml : (Ward.lev K n).length = ml at *
  have HML := hide hml
  simp only at *
  clear hrp hq hCa hG hsm hra hml
  have hi1 : (i : Int) < (nl : Int) := by omega
  have hn1 : (0 : Int) ≤ (n : Int) + 1 := by omega
  have hn2 : (n : Int) + 1 < (N : Int) + 1 := by omega
  have hn3 : IntKind.i64.wrap ((n : Int) + 1) = (n : Int) + 1 := wrap_small _ (by omega) (by omega)
  have hn4 : ((n : Int) + 1).toNat = n + 1 := by omega
  have hn5 : ((n : Int) + 1 == 0) = false := by simp; omega
  go_enter Tryz.func102, Tryz.ntmps102
  go_upto_region 1 with fail
  have htr := HTR.out
  clear HTR
  generalize w.alloc (.cells #[I kd, I qa, I qb, I qc, I qd, I qx, I qy, I qk] 46) = w1 at htr ⊢
  obtain ⟨hb1, hr1⟩ := htr
  have hc1 : w1.cell? ⟨ga, n + 1, none⟩ = some (.slice (some ⟨gl, 0, none⟩) nl cl) := (hb1.cell (p := ⟨ga, n + 1, none⟩) hgal).trans hcell
  have HRP1 := hide (show w1.rangeAt gl (i * 9) PL from fun k u hu => (hb1.cell (p := ⟨gl, i * 9 + k, none⟩) hgll).trans (HRP.out k u hu))
  have HB1 := hide hb1
  have HQ1 := hide hr1
  have hs1 : w.heap.size < w1.heap.size := (Array.getElem?_eq_some_iff.1 hr1).1
  have HIP := hide (show (Tryz.prog.info? 150).map (·.size) = some PL.length by rw [HLN.out]; exact Tryz.infoPart)
  have HIA := hide (show (Tryz.prog.info? 150).map (·.size) = some PL.toArray.size by rw [List.size_toArray]; exact HIP.out)
  have HSA := hide (show PL.toArray.size = 9 by rw [List.size_toArray]; exact HLN.out)
  have hb2' := fun o => (Below.refl w1.heap.size w1).alloc (Nat.le_refl _) o
  have hr2' := heap_alloc_new w1
  clear hb1 hr1 HRP
  go_upto_region 2 with (first | (refine wpList_load_mid rfl 150 (.tmp 20) rfl gl (i * 9) rfl PL _ HRP1.out Tryz.underlying150 rfl HIP.out ?_) | (refine wpList_store_rowTo rfl 150 (.tmp 11) (.tmp 21) rfl rfl w1.heap.size PL.toArray rfl rfl 150 _ (heap_alloc_new w1 _) HIA.out (by rw [HSA.out]; rfl) HON.out ?_; rw [World.setRow_alloc_new]))
  generalize hW : World.alloc w1 _ = w2
  have hb2 : Below w1.heap.size w1 w2 := by rw [← hW]; exact hb2' _
  have hr2 : w2.heap[w1.heap.size]? = some (.cells PL.toArray 150 (0, 0)) := by rw [← hW]; exact hr2' _
  clear hW hb2' hr2' hc1 hcell
  have hs2 : w1.heap.size < w2.heap.size := (Array.getElem?_eq_some_iff.1 hr2).1
  have ht : w2.cell? ⟨w1.heap.size, 5, none⟩ = some (Sv tt) := by rw [cell_of_row _ _ _ _ _ _ hr2, List.getElem?_toArray]; exact HTX.out.1
  have HB2 := hide (HB1.out.trans (hb2.mono HB1.out.size))
  have HQ2 := hide ((hb2.block w.heap.size hs1).trans HQ1.out)
  have HR2 := hide hr2
  clear hb2 hr2 HQ1 HRP1
  generalize w1.heap.size = gp at *
  generalize hPF : [(2 : UInt8), UInt8.ofNat cs.length] = pf at *
  go_wp2_with fail
  have HPL := hide (show ∀ k, (pf ++ (cs.take k).flatMap (Ward.showK Sha.sha mu n)).length ≤ 20000000000 from fun k => by
    have h := HPS.out
    have h7 : ((cs.take k).flatMap (Ward.showK Sha.sha mu n)).length ≤ (cs.flatMap (Ward.showK Sha.sha mu n)).length := by
      have e : cs.flatMap (Ward.showK Sha.sha mu n) = (cs.take k).flatMap (Ward.showK Sha.sha mu n) ++ (cs.drop k).flatMap (Ward.showK Sha.sha mu n) := by rw [← List.flatMap_append, List.take_append_drop]
      rw [e, List.length_append]
      omega
    have h8 := congrArg List.length h
    rw [← hPF]
    simp only [List.length_cons, List.length_append, List.length_nil] at h8 ⊢
    omega)
  have HRES := hide (show res = pf ++ cs.flatMap (Ward.showK Sha.sha mu n) by rw [HPS.out, ← hPF]; rfl)
  clear hPF HPS hsl2 ht
  go_loopw [12, 13] (fun v12 v13 wq => ∃ k : Nat, k ≤ cs.length ∧ v13 = I k ∧ v12 = Sv (pf ++ (cs.take k).flatMap (Ward.showK Sha.sha mu n)) ∧ Below w2.heap.size w2 wq)
    (fun _ v13 _ => cs.length - (intOf v13).toNat)
  case atStart => exact ⟨0, by omega, rfl, by simp, Below.refl _ _⟩
  case round =>
    obtain ⟨k, hk, rfl, rfl, hb⟩ := hrel
    have HB := hide hb
    have hszr : w2.heap.size ≤ wr.heap.size := hb.size
    have hrp := (hb.block gp hs2).trans HR2.out
    have g5 : wr.cell? ⟨gp, 5, none⟩ = some (Sv tt) := by rw [cell_of_row _ _ _ _ _ _ hrp, List.getElem?_toArray]; exact HTX.out.1
    have g6 : wr.cell? ⟨gp, 6, none⟩ = some (I (4 * (i : Int))) := by rw [cell_of_row _ _ _ _ _ _ hrp, List.getElem?_toArray]; exact HTX.out.2.1
    have g7 : wr.cell? ⟨gp, 7, none⟩ = some (I (cs.length : Nat)) := by rw [cell_of_row _ _ _ _ _ _ hrp, List.getElem?_toArray]; exact HTX.out.2.2
    have hSTl := HPL.out k
    by_cases hlt : k < cs.length
    · have HNX := hide (Ward.take_flat (Ward.showK Sha.sha mu n) cs k hlt)
      have HSK := hide (show Ward.showK Sha.sha mu n cs[k] = Ward.head Sha.sha n cs[k] ++ (if mu (Ward.box n cs[k]) then 1 :: Ward.proof Sha.sha mu n cs[k] else [0]) from rfl)
      have hhl : (Ward.head Sha.sha n cs[k]).length = 52 := Ward.head_len (fun _ => rfl) n cs[k]
      have hth := HTH.out k hlt
      have hsl : ∀ W, (Instr.slice 9 (Sv tt) (some (.int .i64 (2 + 52 * (k : Int)))) (some (.int .i64 (2 + 52 * ((k : Int) + 1)))) none).run Tryz.prog W = .ok (Sv (Ward.head Sha.sha n cs[k])) W := fun W => by
        have h1 := slice_str tt (2 + 52 * k) (2 + 52 * (k + 1)) (by omega) (by rw [HTL.out]; omega) W
        rw [show 2 + 52 * (k + 1) - (2 + 52 * k) = 52 by omega, hth] at h1
        have e1 : ((2 + 52 * k : Nat) : Int) = 2 + 52 * (k : Int) := by omega
        have e2 : ((2 + 52 * (k + 1) : Nat) : Int) = 2 + 52 * ((k : Int) + 1) := by omega
        rw [e1, e2] at h1
        exact h1
      have HPLn := hide (HSP.out k hlt)
      have HMK := hide (HMU.out k hlt)
      have HIK := hide (HIH.out k hlt)
      obtain ⟨xk, hrk⟩ := HPN.out k hlt
      have HPC := hide (PtCells.of hrk)
      have hj := HLK.out k hlt
      generalize Ward.box n cs[k] = bx at *
      generalize Ward.proof Sha.sha mu n cs[k] = pk at *
      generalize Ward.head Sha.sha n cs[k] = hd at *
      generalize Ward.showK Sha.sha mu n cs[k] = sk at *
      obtain ⟨ST, hST⟩ : ∃ ST, pf ++ (cs.take k).flatMap (Ward.showK Sha.sha mu n) = ST := ⟨_, rfl⟩
      have HSN := hide (show pf ++ (cs.take (k + 1)).flatMap (Ward.showK Sha.sha mu n) = ST ++ sk by rw [HNX.out, ← List.append_assoc, hST])
      rw [hST] at hSTl ⊢
      have ha1 := add_str ST hd (by omega)
      have hk1 : (k : Int) < (cs.length : Int) := by omega
      clear hST hth hrk
      go_upto_region 9 with fail
      obtain ⟨ob, hob⟩ : ∃ ob, (4 * i + k) * 9 = ob := ⟨_, rfl⟩
      rw [hob] at HPC
      have hBw : Below w.heap.size w wr := HB2.out.trans (hb.mono (by have := HB2.out.size; omega))
      have hw0 : w.heap.size ≤ w2.heap.size := HB2.out.size
      have hpc := HPC.out.below hBw hgnl
      have hS : RdMk wr ga n (.slice (some ⟨gn, 0, none⟩) ml cn) gp (4 * (i : Int)) gn ob bx w.heap.size ⟨kd, qa, qb, qc, qd, qx, qy, qk⟩ := ⟨(hBw.cell (p := ⟨ga, n, none⟩) hgal).trans hcelln, g6, ⟨hpc.c0, hpc.c1, hpc.c2, hpc.c3⟩, rowQ8 ((hb.block w.heap.size (by omega)).trans HQ2.out)⟩
      have HRW := hide (fun W (hbW : Below wr.heap.size wr W) => HRA.out.below (hBw.trans (hbW.mono hBw.size)))
      have HBWr := hide hBw
      obtain ⟨ba, bb, bc, bd⟩ := bx
      have m0 : (0 : Int) ≤ (n : Int) := by omega
      have m1 : (n : Int) < (N : Int) + 1 := by omega
      have m2 : ((n : Int) + 1) - 1 = (n : Int) := by omega
      have m3 : IntKind.i64.wrap (n : Int) = (n : Int) := wrap_small _ (by omega) (by omega)
      have m4 : ((n : Int)).toNat = n := by omega
      have j0 : (0 : Int) ≤ 4 * (i : Int) + (k : Int) := by omega
      have j1 : 4 * (i : Int) + (k : Int) < (ml : Int) := by omega
      have j2 : IntKind.i64.wrap (4 * (i : Int) + (k : Int)) = 4 * (i : Int) + (k : Int) := wrap_small _ (by omega) (by omega)
      have j3 : (4 * (i : Int) + (k : Int)).toNat = 4 * i + k := by omega
      have l1 : ga < wr.heap.size := by omega
      have l2 : gp < wr.heap.size := by omega
      have l3 : gn < wr.heap.size := by omega
      have l4 : w.heap.size < wr.heap.size := by omega
      clear hpc hBw hb hrp g5 g6 g7 hsl ha1
      go_cut [14] from 47 to 61 (fun v14 wx => v14 = .bool (mu ⟨ba, bb, bc, bd⟩) ∧ Below wr.heap.size wr wx)
      case first =>
        obtain ⟨s0, s1, ⟨s2, s3, s4, s5⟩, t0, t1, t2, t3, t4, t5, t6, t7⟩ := id hS
        go_region_held3 (fun W => W.cell? ⟨ga, n, none⟩ = some (.slice (some ⟨gn, 0, none⟩) ml cn) ∧ W.cell? ⟨gp, 6, none⟩ = some (I (4 * (i : Int))) ∧ (W.cell? ⟨gn, ob, none⟩ = some (I ba) ∧ W.cell? ⟨gn, ob + 1, none⟩ = some (I bb) ∧ W.cell? ⟨gn, ob + 2, none⟩ = some (I bc) ∧ W.cell? ⟨gn, ob + 3, none⟩ = some (I bd)) ∧ W.cell? ⟨w.heap.size, 0, none⟩ = some (I kd) ∧ W.cell? ⟨w.heap.size, 1, none⟩ = some (I qa) ∧ W.cell? ⟨w.heap.size, 2, none⟩ = some (I qb) ∧ W.cell? ⟨w.heap.size, 3, none⟩ = some (I qc) ∧ W.cell? ⟨w.heap.size, 4, none⟩ = some (I qd) ∧ W.cell? ⟨w.heap.size, 5, none⟩ = some (I qx) ∧ W.cell? ⟨w.heap.size, 6, none⟩ = some (I qy) ∧ W.cell? ⟨w.heap.size, 7, none⟩ = some (I qk)) (first | assumption | exact hS | exact hS.drew | exact hS6) ((go_at_call 133; refine (HMK.out _ (HRW.out _ ((Below.refl _ _).drew))).mono ?_; rintro _ w6 ⟨rfl, hb6⟩; have hS6 := hS.drew.below hb6 (by simpa using l1) (by simpa using l2) (by simpa using l3) (by simpa using l4); have hB6 : Below wr.heap.size wr w6 := (show Below wr.heap.size wr wr.drew from (Below.refl _ _).drew).trans hb6))
        all_goals
          go_wp2_with fail
          go_meet
          exact ⟨rfl, hB6⟩
      case rest =>
        obtain ⟨rfl, hbc⟩ := hcut
        have hS5 := hS.below hbc l1 l2 l3 l4
        obtain ⟨-, s1, -, t0, t1, t2, t3, t4, t5, t6, t7⟩ := hS5
        have HB5 := hide (HB.out.trans (hbc.mono hszr))
        have HBW5 := hide (HBWr.out.trans (hbc.mono HBWr.out.size))
        have hpkl : pk.length ≤ 20000000000 := by
          have h := HPLn.out
          have h5 : 5 ^ n ≤ 5 ^ 10 := Nat.pow_le_pow_right (by decide) (by omega)
          have h6 : (5 : Nat) ^ 10 = 9765625 := by decide
          omega
        have ha2 : ∀ W, (Op.stringOp .add ⟨(ST ++ hd).toArray⟩ ⟨#[1]⟩).run Tryz.prog W = .ok (.string ⟨(ST ++ (hd ++ [1])).toArray⟩) W := by rw [← List.append_assoc]; exact add_str (ST ++ hd) [1] (by simp; omega)
        have ha0 : ∀ W, (Op.stringOp .add ⟨(ST ++ hd).toArray⟩ ⟨#[0]⟩).run Tryz.prog W = .ok (.string ⟨(ST ++ (hd ++ [0])).toArray⟩) W := by rw [← List.append_assoc]; exact add_str (ST ++ hd) [0] (by simp; omega)
        have ha3 : ∀ W, (Op.stringOp .add ⟨(ST ++ (hd ++ [1])).toArray⟩ ⟨pk.toArray⟩).run Tryz.prog W = .ok (.string ⟨(ST ++ (hd ++ 1 :: pk)).toArray⟩) W := by
          have h := add_str (ST ++ (hd ++ [1])) pk (by simp; omega)
          rw [show ST ++ (hd ++ [1]) ++ pk = ST ++ (hd ++ 1 :: pk) by simp] at h
          exact h
        generalize wc = w5 at *
        clear hbc hS HMK HRW HPC
        generalize mu ⟨ba, bb, bc, bd⟩ = mb at *
        cases mb with
        | true =>
          have HV := hide (show Sv (ST ++ (hd ++ 1 :: pk)) = Sv (pf ++ (cs.take (k + 1)).flatMap (Ward.showK Sha.sha mu n)) by rw [HSN.out, HSK.out]; simp)
          have HIW := hide (HIK.out w5 HBW5.out)
          go_wp2_with fail
          refine HIW.out.mono ?_
          rintro _ w7 ⟨rfl, hb7⟩
          have HB7 := hide (HB5.out.trans (hb7.mono HB5.out.size))
          clear hb7 s1 t0 t1 t2 t3 t4 t5 t6 t7
          go_wp2_with fail
          go_roundw
          case rel => exact ⟨k + 1, hlt, by go_num, HV.out, HB7.out⟩
          case measure => simp [intOf]; omega
        | false =>
          have HV := hide (show Sv (ST ++ (hd ++ [0])) = Sv (pf ++ (cs.take (k + 1)).flatMap (Ward.showK Sha.sha mu n)) by rw [HSN.out, HSK.out]; simp)
          go_wp2_with fail
          go_roundw
          case rel => exact ⟨k + 1, hlt, by go_num, HV.out, HB5.out⟩
          case measure => simp [intOf]; omega
    · have ek : k = cs.length := by omega
      subst ek
      have HFB := hide (HB2.out.trans (hb.mono (by have := HB2.out.size; omega)))
      rw [List.take_length, ← HRES.out]
      clear hb hrp
      go_wp2_with fail
      go_ret
      exact ⟨rfl, HFB.out⟩
end Go.Proofs.YtenaelkbgkpllaaGreatDoor
/- The document's proof, of any part; its Prove. -/
namespace Go.Proofs.YtenaelkbgkpllaaGreatDoor
open Go.RowKit

theorem proof_ref (q : Ward.Qr) (va : Value) (a : List Ward.Pt) (K : List Ward.Pt) (N : Nat) (v v3 : Value) (B : Nat) (hq : Ward.mayBe q = true) (hCa : ∀ p ∈ a, Co p.x ∧ Co p.y) (hla : a.length ≤ 1000) (hG : Good K) (hN : N ≤ 10) :
    ∀ n, n ≤ N → ∀ i, (hi : i < (Ward.lev K n).length) → ∀ w, AllAt w B v v3 K N → Reads w va a → Calls Tryz.prog 102 #[v, I n, I i, Qv q, va] w fun e w' => e = .returned (Sv (Ward.proof Sha.sha (Ward.must q a) n (Ward.lev K n)[i])) ∧ Below w.heap.size w w' := by
  intro n
  induction n with
  | zero => exact fun _ i hi w hA _ => proof_leaf q va a K N v v3 B i hi w hA
  | succ n ih =>
    intro hn i hi w hA hra
    have h := proof_node q va a K N n v v3 B i hq hCa hla hG hn hN hi w hA hra (fun j hj W hb => ih (by omega) j hj W (hA.below hb) (hra.below hb))
    have e : (((n + 1 : Nat)) : Int) = (n : Int) + 1 := by omega
    show Calls Tryz.prog 102 #[v, .int .i64 ((n + 1 : Nat) : Int), I i, Qv q, va] w _
    rw [e]
    exact h
theorem ans_co {q : Ward.Qr} {K : List Ward.Pt} (h : ∀ p ∈ K, Co p.x ∧ Co p.y) : ∀ p ∈ Ward.ans q K, Co p.x ∧ Co p.y := fun p hp => by
  refine h p ?_
  unfold Ward.ans at hp
  split at hp
  · exact (Ward.sortN_perm _ _ _).mem_iff.1 (List.mem_of_mem_take hp)
  · exact (List.mem_filter.1 ((Ward.sortP_perm _).mem_iff.1 hp)).1
theorem ans_short {q : Ward.Qr} {K : List Ward.Pt} : (Ward.ans q K).length ≤ K.length := by
  unfold Ward.ans
  split
  · rw [List.length_take, Ward.sortN_length]; omega
  · rw [(Ward.sortP_perm _).length_eq]; exact List.length_filter_le _ _
set_option maxRecDepth 100000 in
set_option maxHeartbeats 4000000 in
theorem prove_ref (r : Nat) (u : Value) (K : List Ward.Pt) (q : Ward.Qr) (w : World) (hm : RMap w r u K) (hG : Good K) :
    Calls Tryz.prog 61 #[.pointer (some ⟨r, 0, none⟩), Qv q] w fun e w' => e = .returned (.tuple #[Sv (if Ward.mayBe q = true then Ward.proofText q K else []), I (if Ward.mayBe q = true then 0 else 6)]) ∧ Below w.heap.size w w' := by
  have HM := hide hm
  have hrl := hm.lt
  have hlk := hG.many
  have HMY := hide (may_ref q)
  have HAW := hide (fun (h : Ward.mayBe q = true) W (hr : Reads W u K) => answered_ref q u K W h hr hG.ids (good_co hG) (by omega))
  have HPF := hide (fun (h : Ward.mayBe q = true) va N v v3 B (hN : N ≤ 10) W (hi : 0 < (Ward.lev K N).length) (hA : AllAt W B v v3 K N) (hr : Reads W va (Ward.ans q K)) => proof_ref q va (Ward.ans q K) K N v v3 B h (ans_co (good_co hG)) (by have := ans_short (q := q) (K := K); omega) hG hN N (Nat.le_refl _) 0 hi W hA hr)
  have HLV := hide (fun W (hM : RMap W r u K) => levels_ref r u K W hM hG)
  have HDP := hide (show (Ward.tree K).1 ≤ 3 from Ward.tree_depth (by omega))
  have HTR := hide (show Below w.heap.size w (w.alloc (.cells #[I q.kind, I q.a, I q.b, I q.c, I q.d, I q.x, I q.y, I q.k] 46)) ∧ (w.alloc (.cells #[I q.kind, I q.a, I q.b, I q.c, I q.d, I q.x, I q.y, I q.k] 46)).heap[w.heap.size]? = some (.cells #[I q.kind, I q.a, I q.b, I q.c, I q.d, I q.x, I q.y, I q.k] 46 (0, 0)) from ⟨(Below.refl w.heap.size w).alloc (Nat.le_refl _) _, heap_alloc_new w _⟩)
  have HPT := hide (fun n t (ht : Ward.lev K n = [t]) (htr : Ward.tree K = ⟨n, t⟩) (hi : 0 < (Ward.lev K n).length) => show Ward.proof Sha.sha (Ward.must q (Ward.ans q K)) n (Ward.lev K n)[0] = Ward.proofText q K from by
    unfold Ward.proofText
    rw [htr]
    have e0 : (Ward.lev K n)[0] = t := by simp only [ht, List.getElem_cons_zero]
    rw [e0])
  generalize hPTe : Ward.proofText q K = ptx at *
  generalize hAE : Ward.ans q K = res at *
  generalize hMe : Ward.mayBe q = may at *
  obtain ⟨kd, qa, qb, qc, qd, qx, qy, qk⟩ := q
  simp only at *
  clear hm hG hPTe hAE hMe
  go_enter Tryz.func61, Tryz.ntmps61
  go_upto_region 1 with fail
  have htr := HTR.out
  clear HTR
  generalize w.alloc (.cells #[I kd, I qa, I qb, I qc, I qd, I qx, I qy, I qk] 46) = w1 at htr ⊢
  obtain ⟨hb1, hr1⟩ := htr
  have HB1 := hide hb1
  have hs1 : w.heap.size < w1.heap.size := (Array.getElem?_eq_some_iff.1 hr1).1
  obtain ⟨y0, y1, y2, y3, y4, y5, y6, y7⟩ := rowQ8 hr1
  have HR1 := hide hr1
  clear hb1 hr1
  go_wp2_with fail
  refine (HMY.out _).mono ?_
  rintro _ w2 ⟨rfl, hb2⟩
  have HB2 := hide (HB1.out.trans (hb2.mono HB1.out.size))
  have hs2 := hb2.size
  have HR2 := hide ((hb2.block w.heap.size hs1).trans HR1.out)
  clear hb2 y0 y1 y2 y3 y4 y5 y6 y7 HMY HR1
  cases may with
  | false =>
    have HFB := hide HB2.out
    go_wp2_with fail
    go_ret2
    exact ⟨rfl, HFB.out⟩
  | true =>
    have HLW := hide (HLV.out w2 (HM.out.below HB2.out))
    go_wp2_with fail
    refine HLW.out.mono ?_
    rintro _ w3 ⟨va, v3, n, rfl, hall, ⟨t, ht, htr⟩, hb3⟩
    have hn3 : n ≤ 3 := by have h := HDP.out; rw [htr] at h; exact h
    have hi0 : 0 < (Ward.lev K n).length := by rw [ht]; exact Nat.zero_lt_one
    have HPX := hide (HPT.out n t ht htr hi0)
    obtain ⟨ga, ca, gl, cl, rfl, hca, -, -, -, -, -⟩ := hall.part (l := n) (Nat.le_refl _)
    have HAL := hide hall
    have HB3 := hide (HB2.out.trans (hb3.mono (by omega)))
    have hs3 := hb3.size
    have hM3 := HM.out.below HB3.out
    have hcr := hM3.cell
    have HRD := hide hM3.own.reads
    obtain ⟨au, cu, eu⟩ := hM3.own.slice
    subst eu
    obtain ⟨y0, y1, y2, y3, y4, y5, y6, y7⟩ := rowQ8 ((hb3.block w.heap.size (by omega)).trans HR2.out)
    have hrl3 : r < w3.heap.size := by omega
    have hwl3 : w.heap.size < w3.heap.size := by omega
    have hS : RdMQ w3 r w.heap.size (.slice au K.length cu) ⟨kd, qa, qb, qc, qd, qx, qy, qk⟩ := ⟨hcr, y0, y1, y2, y3, y4, y5, y6, y7⟩
    have HAN := hide (fun W (hb : Below w3.heap.size w3 W) => HAW.out trivial W (HRD.out.below hb))
    have HPN := hide (fun vv W (hb : Below w3.heap.size w3 W) (hr : Reads W vv res) => HPF.out trivial vv n _ v3 _ (by omega) W hi0 (HAL.out.below hb) hr)
    simp only [HPX.out] at HPN
    have m0 : (0 : Int) ≤ (n : Int) := by omega
    have m2 : ((n : Int) + 1) - 1 = (n : Int) := by omega
    have m3 : IntKind.i64.wrap (n : Int) = (n : Int) := wrap_small _ (by omega) (by omega)
    clear hall ht htr hb3 hM3 HAW HPF HLV HLW HPT HDP HPX hi0 HM
    go_upto_region 5 with fail
    go_cut [8] from 15 to 26 (fun v8 wx => v8 = Sv ptx ∧ Below w3.heap.size w3 wx)
    case first =>
      obtain ⟨s0, t0, t1, t2, t3, t4, t5, t6, t7⟩ := id hS
      go_region_held3 (fun W => W.cell? ⟨r, 0, none⟩ = some (.slice au K.length cu) ∧ W.cell? ⟨w.heap.size, 0, none⟩ = some (I kd) ∧ W.cell? ⟨w.heap.size, 1, none⟩ = some (I qa) ∧ W.cell? ⟨w.heap.size, 2, none⟩ = some (I qb) ∧ W.cell? ⟨w.heap.size, 3, none⟩ = some (I qc) ∧ W.cell? ⟨w.heap.size, 4, none⟩ = some (I qd) ∧ W.cell? ⟨w.heap.size, 5, none⟩ = some (I qx) ∧ W.cell? ⟨w.heap.size, 6, none⟩ = some (I qy) ∧ W.cell? ⟨w.heap.size, 7, none⟩ = some (I qk)) (first | assumption | exact hS | exact hS.drew | exact hS6 | exact hS7) ((first | (go_at_call 103; refine (HAN.out _ ((Below.refl _ _).drew)).mono ?_; rintro _ w6 ⟨v6, rfl, ho6, hb6⟩; have hS6 := hS.drew.below hb6 (by simpa using hrl3) (by simpa using hwl3); have hB6 : Below w3.heap.size w3 w6 := (show Below w3.heap.size w3 w3.drew from (Below.refl _ _).drew).trans hb6) | (go_at_call 102; refine (HPN.out _ _ hB6 ho6.reads).mono ?_; rintro _ w7 ⟨rfl, hb7⟩; have hS7 := hS6.below hb7 (Nat.lt_of_lt_of_le hrl3 hB6.size) (Nat.lt_of_lt_of_le hwl3 hB6.size); have hB7 : Below w3.heap.size w3 w7 := hB6.trans (hb7.mono hB6.size))))
      all_goals
        go_wp2_with fail
        go_meet
        exact ⟨rfl, hB7⟩
    case rest =>
      obtain ⟨rfl, hbc⟩ := hcut
      have HFB := hide (HB3.out.trans (hbc.mono HB3.out.size))
      clear hbc hS y0 y1 y2 y3 y4 y5 y6 y7 hcr
      go_wp2_with fail
      go_ret2
      exact ⟨rfl, HFB.out⟩
end Go.Proofs.YtenaelkbgkpllaaGreatDoor
