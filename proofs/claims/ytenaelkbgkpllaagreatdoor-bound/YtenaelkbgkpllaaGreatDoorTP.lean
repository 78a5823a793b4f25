/- A map's commitment. -/
import Derived.Test.YtenaelkbgkpllaaGreatDoorTO
namespace Go.Proofs.YtenaelkbgkpllaaGreatDoor
open Go.RowKit

theorem fill_root (cells : Array Value) (hc : cells.size = 33) (D : List Value) (hD : D.length = 32) (x : Value) (hx : x.cells = #[x]) (place : Nat → Option (Nat × Nat)) (h0 : place 0 = some (0, 32)) (h1 : place 1 = some (32, 1)) :
    Instr.fill place cells [(0, .agg D.toArray), (1, x)] = some (D ++ [x]).toArray := by
  obtain ⟨g1, g2⟩ := Great.foldl_set 0 D 0 cells
  have e0 : Value.cells (.agg D.toArray) = D.toArray := rfl
  have ef : (D.toArray.zipIdx.foldl (fun cs (y : Value × Nat) => cs.setIfInBounds (0 + y.2) y.1) cells) = ((D.zipIdx 0).foldl (fun cs (y : Value × Nat) => cs.setIfInBounds (0 + y.2) y.1) cells) := by
    rw [← Array.foldl_toList, Array.toList_zipIdx]
  unfold Instr.fill
  simp only [h0, e0]
  rw [if_neg (by simp [hD, hc]), ef]
  generalize (D.zipIdx 0).foldl (fun cs (y : Value × Nat) => cs.setIfInBounds (0 + y.2) y.1) cells = r at *
  unfold Instr.fill
  simp only [h1, hx]
  rw [if_neg (by simp [hc, g1])]
  unfold Instr.fill
  congr 1
  apply Array.ext_getElem?
  intro k
  have es : (#[x].zipIdx.foldl (fun cs (y : Value × Nat) => cs.setIfInBounds (32 + y.2) y.1) r) = r.setIfInBounds 32 x := by
    rw [← Array.foldl_toList, Array.toList_zipIdx]; rfl
  have eR : (D ++ [x]).toArray[k]? = (D ++ [x])[k]? := List.getElem?_toArray
  rw [es, eR]
  by_cases hk : k = 32
  · subst hk
    rw [Array.getElem?_setIfInBounds_self, if_pos (by rw [g1, hc]; decide), List.getElem?_append_right (by omega), hD]
    rfl
  · rw [Array.getElem?_setIfInBounds_ne (by omega), g2 k]
    by_cases hl : k < 32
    · rw [if_pos (by omega), List.getElem?_append_left (by omega)]
      simp
    · rw [if_neg (by omega), Array.getElem?_eq_none (by omega), List.getElem?_eq_none (by simp; omega)]
theorem Tryz.infoCommitZ : (Tryz.prog.info? 41).bind (fun i => i.zero.map (·.cells.size)) = some 33 := by kernel_rfl
theorem Tryz.placesCommit : ((Tryz.prog.fieldsOf 41).toList.mapM (fun f => (Tryz.prog.info? f.type).map fun i => (f.offset, i.size))) = some [(0, 32), (32, 1)] := by kernel_rfl
theorem built_commit (D : List Value) (hD : D.length = 32) (n : Int) : Tryz.prog.built 41 [(0, .agg D.toArray), (1, I n)] = some (D ++ [I n]).toArray := by
  have hS : Tryz.prog.underlying 41 = some (.struct (Tryz.prog.fieldsOf 41)) := by kernel_rfl
  have hz := Tryz.infoCommitZ
  have hp := Tryz.placesCommit
  unfold Program.built
  cases hi : Tryz.prog.info? 41 with
  | none => rw [hi] at hz; cases hz
  | some it =>
    rw [hi] at hz
    cases hz0 : it.zero with
    | none => simp [hz0] at hz
    | some z =>
      simp [hz0] at hz
      rw [hS]
      simp only [hz0, hp]
      exact fill_root z.cells hz D hD (I n) rfl _ rfl rfl
theorem wpList_built {P : Program} {ops : Array Oper} {rest : List Oper} {o : Oper} {a : Act} {w : World} {Q : Exit → Act → World → Prop} (hg : o.guard = none) (t : TypeId) (parts : Array (Nat × Operand)) (ho : o.op = .build t parts)
    (cells : Array Value) (l : List (Nat × Value)) (hl : parts.toList.map (fun (i, x) => (i, a.eval x)) = l) (hb : P.built t l = some cells)
    (h : wpList P ops Q rest (a.put o.dst (.agg cells)) w) : wpList P ops Q (o :: rest) a w :=
  wpList_build hg t parts ho (by rw [Array.toList_map, hl, hb]; rfl) (by rw [Array.toList_map, hl, hb]; exact h)
theorem range_dig {w : World} {g : Nat} {vp vc : Value} {b : Ward.Box} {n : Int} {t : List Value} {ty : Nat} (h : w.heap[g]? = some (.cells (nodeV vp vc b n t).toArray ty (0, 0))) : w.rangeAt g 7 t := fun j v hv => by
  rw [cell_of_row _ _ _ _ _ _ h, Nat.add_comm 7 j]
  simpa [nodeV] using hv
theorem Tryz.infoDig : (Tryz.prog.info? 39).map (·.size) = some 32 := by kernel_rfl
set_option maxRecDepth 100000 in
set_option maxHeartbeats 1000000 in
theorem commitmentTo_any (vp vc : Value) (b : Ward.Box) (n : Int) (D : List UInt8) (w : World) (hD : D.length = 32) :
    Calls Tryz.prog 37 #[.agg (nodeV vp vc b n (D.map Y)).toArray] w fun e w' => e = .returned (.agg (rootV D n).toArray) ∧ Below w.heap.size w w' := by
  have hb2 := fun o o' => ((Below.refl w.heap.size w).alloc (Nat.le_refl _) o).alloc (by simp) o'
  have hr2 := heap_alloc2_new w
  have hr1 := heap_alloc2_old w
  have HBC := hide (show Tryz.prog.built 41 [(0, .agg (D.map Y).toArray), (1, I n)] = some (rootV D n).toArray from built_commit (D.map Y) (by simpa using hD) n)
  have HC33 := hide (rootV_len D n hD)
  have HONE := hide (rootV_one D n)
  have HINF := hide (show (Tryz.prog.info? 41).map (·.size) = some (rootV D n).toArray.size by rw [List.size_toArray, rootV_len D n hD]; exact Tryz.infoCommit)
  have HID := hide (show (Tryz.prog.info? 39).map (·.size) = some (D.map Y).length by rw [List.length_map, hD]; exact Tryz.infoDig)
  generalize hM : nodeV vp vc b n (D.map Y) = M at *
  have HM := hide hM
  clear hM
  go_enter Tryz.func37, Tryz.ntmps37
  go_upto_region 1 with fail
  generalize hW : World.alloc (World.alloc w _) _ = w1
  have hb1 : Below w.heap.size w w1 := by rw [← hW]; exact hb2 _ _
  have hn1 : w1.heap[w.heap.size]? = some (.cells (nodeV vp vc b n (D.map Y)).toArray 90 (0, 0)) := by rw [← hW, HM.out]; exact hr1 _ _
  have hc1 : w1.heap[w.heap.size + 1]? = some (.cells (List.replicate 32 (Value.int .u8 0) ++ [I 0]).toArray 41 (0, 0)) := by rw [← hW]; exact hr2 _ _
  clear hb2 hr1 hr2 hW
  obtain ⟨-, -, c6⟩ := node_cells hn1
  have HD := hide (range_dig hn1)
  have HB1 := hide hb1
  have HC1 := hide hc1
  have HS := hide (show (List.replicate 32 (Value.int .u8 0) ++ [I 0]).toArray.size = (rootV D n).toArray.size by rw [List.size_toArray, List.size_toArray, HC33.out]; rfl)
  clear hn1 hb1 hc1
  generalize D.map Y = DV at *
  generalize hR : rootV D n = R at *
  have HRE := hide hR
  clear hR
  go_wp2_with (first | (refine wpList_load_mid rfl 39 (.tmp 3) rfl w.heap.size 7 rfl DV _ HD.out Tryz.underlying39 rfl HID.out ?_) | (refine wpList_built rfl 41 #[(0, .tmp 4), (1, .tmp 6)] rfl R.toArray [(0, .agg DV.toArray), (1, I n)] rfl HBC.out ?_) | (refine wpList_store_row rfl 41 (.tmp 2) (.tmp 7) rfl (w.heap.size + 1) R.toArray rfl rfl 41 _ HC1.out HINF.out HS.out HONE.out ?_))
  refine bodyPost_ret (v := .agg R.toArray) ?_ rfl ⟨by rw [HRE.out], below_setRow HB1.out (by simp) _⟩
  exact results_cell_row rfl _ _ (w.heap.size + 1) 41 R.toArray (0, 0) _ rfl (setRow_heap _ _ _ _ _ _ HC1.out) Tryz.underlying41 rfl HINF.out
theorem Own.caps {w : World} {B : Nat} {v : Value} {L : List Ward.Pt} (h : Own w B v L) : ∃ a c, v = .slice a L.length c ∧ L.length ≤ c ∧ c ≤ maxLen := by
  rcases h.2 with ⟨rfl, h0⟩ | ⟨g, cap, cur, rfl, _, _, h1, h2, _⟩
  · exact ⟨none, 0, by rw [h0], by omega, by decide⟩
  · exact ⟨_, cap, rfl, h1, h2⟩
theorem Own.readsS {w : World} {B : Nat} {v : Value} {L : List Ward.Pt} (h : Own w B v L) : ReadsS w (fun g => g < w.heap.size) v L := by
  obtain ⟨a, c, rfl, hr⟩ := h.reads
  refine ⟨a, c, rfl, fun hne => ?_⟩
  obtain ⟨g, o, e, hp⟩ := hr hne
  exact ⟨g, o, e, (hp 0 (List.length_pos_iff.2 hne)).lt, hp⟩
/-- the tree of a map's points -/
theorem build_map (m : Nat) (v : Value) (L : List Ward.Pt) (w : World) (hm : IsMap w m v L) (hG : Good L) (hKT : KT w) : Calls Tryz.prog 38 #[v] w fun e w' => Built w L e w' :=
  build_any v L w hG.many hm.own.caps hm.own.readsS hKT
theorem tree_num {L : List Ward.Pt} (hG : Good L) : Ward.numN ((Ward.tree L).1 + 1) (Ward.mk Sha.sha (Ward.tree L).1 (Ward.tree L).2) = L.length := by
  rw [Ward.mk_num, Ward.count_pts, (Ward.tree_small hG.ok).2]
set_option maxRecDepth 100000 in
set_option maxHeartbeats 1000000 in
theorem commitment_any (m : Nat) (v : Value) (L : List Ward.Pt) (w : World) (hm : IsMap w m v L) (hG : Good L) (hKT : KT w) :
    Calls Tryz.prog 16 #[.pointer (some ⟨m, 0, none⟩)] w fun e w' => e = .returned (.agg (commitV L).toArray) ∧ Below w.heap.size w w' := by
  have hmlt := hm.lt
  have HM := hide hm
  have HG := hide hG
  have HK := hide hKT
  have HCO := hide (com_of L)
  have hr0' := heap_alloc_new w
  have hb0' := fun o => (Below.refl w.heap.size w).alloc (Nat.le_refl _) o
  have hs0' := fun o => show (w.alloc o).heap.size = w.heap.size + 1 by simp
  clear hm hKT
  go_enter Tryz.func16, Tryz.ntmps16
  go_upto_region 1 with fail
  generalize hW : World.alloc w _ = w0
  have hb0 : Below w.heap.size w w0 := by rw [← hW]; exact hb0' _
  have hr0 : w0.heap[w.heap.size]? = some (.cells (List.replicate 32 (Value.int .u8 0) ++ [I 0]).toArray 41 (0, 0)) := by rw [← hW]; exact hr0' _
  have hs0 : w0.heap.size = w.heap.size + 1 := by rw [← hW]; exact hs0' _
  clear hb0' hr0' hs0' hW
  have hm0 := HM.out.below hb0
  have hc0 := hm0.cell
  have HM0 := hide hm0
  have HB0 := hide hb0
  have HR0 := hide hr0
  have HS0 := hide hs0
  have HBM := hide (build_map m v L w0 hm0 hG (HK.out.below hb0))
  clear hm0 hb0 hr0 hs0
  go_wp2_with fail
  refine HBM.out.mono ?_
  rintro _ w1 ⟨V, rfl, hn1, hb1⟩
  obtain ⟨a1, l1, c1, a2, l2, c2, hV, hd⟩ := hn1.cells
  have HCT := hide (commitmentTo_any (.slice a1 l1 c1) (.slice a2 l2 c2) (Ward.boxN _ (Ward.mk Sha.sha (Ward.tree L).1 (Ward.tree L).2)) (Ward.numN _ (Ward.mk Sha.sha (Ward.tree L).1 (Ward.tree L).2)) _ w1 hd)
  rw [← hV, tree_num HG.out, Ward.mk_dig] at HCT
  have HCT := hide (show Calls Tryz.prog 37 #[.agg V.toArray] w1 fun e w' => e = .returned (.agg (commitV L).toArray) ∧ Below w1.heap.size w1 w' from HCT.out)
  have hr1 := (hb1.block w.heap.size (by have := HS0.out; omega)).trans HR0.out
  have HR1 := hide hr1
  have HB1 := hide hb1
  clear hn1 hb1 hr1 hV hd
  generalize hCL : commitV L = C at *
  have HCL := hide hCL
  clear hCL
  go_wp2_with fail
  refine HCT.out.mono ?_
  rintro _ w2 ⟨rfl, hb2⟩
  have hr2 := (hb2.block w.heap.size (Array.getElem?_eq_some_iff.1 HR1.out).1).trans HR1.out
  have HR2 := hide hr2
  have HB2 := hide hb2
  have HSE := hide (show (List.replicate 32 (Value.int .u8 0) ++ [I 0]).toArray.size = C.toArray.size by rw [HCO.out.size]; rfl)
  clear hr2 hb2
  go_wp2_with (refine wpList_store_row rfl 41 (.tmp 2) (.tmp 8) rfl w.heap.size C.toArray rfl rfl 41 _ HR2.out HCO.out.info HSE.out HCO.out.one ?_)
  have hbw := HB0.out.trans ((HB1.out.mono HB0.out.size).trans (HB2.out.mono (Nat.le_trans HB0.out.size HB1.out.size)))
  refine bodyPost_ret (v := .agg C.toArray) ?_ rfl ⟨by rw [HCL.out], below_setRow hbw (Nat.le_refl _) _⟩
  exact results_cell_row rfl _ _ w.heap.size 41 C.toArray (0, 0) _ rfl (setRow_heap _ _ _ _ _ _ HR2.out) Tryz.underlying41 rfl HCO.out.info
end Go.Proofs.YtenaelkbgkpllaaGreatDoor
