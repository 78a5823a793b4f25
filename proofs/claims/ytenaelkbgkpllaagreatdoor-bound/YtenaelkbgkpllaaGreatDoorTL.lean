/- A node made of children. -/
import Derived.Test.YtenaelkbgkpllaaGreatDoorTK
namespace Go.Proofs.YtenaelkbgkpllaaGreatDoor
open Go.RowKit

theorem node_num {w : World} {g : Nat} {vp vc : Value} {b : Ward.Box} {n : Int} {t : List Value} {ty : Nat} (c : Int) (h : w.heap[g]? = some (.cells (nodeV vp vc b n t).toArray ty (0, 0))) :
    (w.setCell ⟨g, 6, none⟩ (I c)).heap[g]? = some (.cells (nodeV vp vc b c t).toArray ty (0, 0)) := by
  have h1 := heap_setCell_same w g 6 _ ty (I c) h
  rw [List.setIfInBounds_toArray] at h1
  exact h1
theorem range_box {w : World} {g o : Nat} {vp vc : Value} {b : Ward.Box} {n : Int} {t : List Value} (h : w.rangeAt g o (nodeV vp vc b n t)) : w.rangeAt g (o + 2) [I b.a, I b.b, I b.c, I b.d] := fun j v hv => by
  rw [Nat.add_assoc]
  refine h (2 + j) v ?_
  match j, hv with
  | 0, hv => exact hv
  | 1, hv => exact hv
  | 2, hv => exact hv
  | 3, hv => exact hv
theorem sum_le {l : List Int} (h : ∀ x ∈ l, 0 ≤ x ∧ x ≤ 1000000) : 0 ≤ l.sum ∧ l.sum ≤ 1000000 * l.length := by
  induction l with
  | nil => simp
  | cons x l ih =>
    have h1 := h x (by simp)
    have h2 := ih fun y hy => h y (by simp [hy])
    rw [List.sum_cons, List.length_cons]
    omega
theorem sum_step (l : List Int) (i : Nat) (h : i < l.length) : (l.take (i + 1)).sum = (l.take i).sum + l[i] := by
  rw [List.take_succ_eq_append_getElem h, List.sum_append]; simp
theorem boxes_other {w : World} {g k : Nat} {c : Ward.Box} {m : Int} (h : k ≠ g) : (((((w.setCell ⟨g, 2, none⟩ (I c.a)).setCell ⟨g, 3, none⟩ (I c.b)).setCell ⟨g, 4, none⟩ (I c.c)).setCell ⟨g, 5, none⟩ (I c.d)).setCell ⟨g, 6, none⟩ (I m)).heap[k]? = w.heap[k]? := by
  rw [Below.heap_setCell _ _ _ _ h, box_other h]
set_option maxRecDepth 100000 in
set_option maxHeartbeats 4000000 in
theorem nodeOf_any (vc : Value) (n : Nat) (K : List (Ward.NT n)) (w : World) (S : Nat → Prop) (hS : ∀ g, S g → g < w.heap.size) (h0 : K ≠ []) (hK : K.length ≤ 4) (hk : RowsAt (NodeIs w S n) w S vc K) (hnum : ∀ t ∈ K, 0 ≤ Ward.numN n t ∧ Ward.numN n t ≤ 1000000) (hKT : KT w) :
    Calls Tryz.prog 113 #[vc] w fun e w' => e = .returned (.agg (nodeV (.slice none 0 0) vc (Ward.boxL (K.map (Ward.boxN n))) ((K.map (Ward.numN n)).sum) ((Sha.sha (Ward.textK n K)).map Y)).toArray) ∧ Below w.heap.size w w' := by
  have HP := hide hk
  have HK := hide hKT
  obtain ⟨ap, cp, rfl, hrd⟩ := hk
  obtain ⟨g, o, rfl, hgS, hrows⟩ := hrd h0
  have hgB := hS g hgS
  have HSS := hide hS
  clear hgS hS
  have HRD := hide hrows
  have h1 : 0 < K.length := List.length_pos_iff.2 h0
  have hrow0 := hrows 0 h1
  rw [Nat.zero_mul, Nat.add_zero] at hrow0
  obtain ⟨U0, hU0, hc0⟩ := hrow0
  have hq := fun i => sum_le (l := (K.map (Ward.numN n)).take i) (fun x hx => by
    obtain ⟨t, ht, rfl⟩ := List.mem_map.1 (List.mem_of_mem_take hx)
    exact hnum t ht)
  have HQ := hide hq
  have HNUM := hide hnum
  have HE0 := hide (show accBox (K.map (Ward.boxN n)) 0 = Ward.boxN n K[0] by
    obtain ⟨q, K', rfl⟩ : ∃ q K', K = q :: K' := by cases K with | nil => exact absurd rfl h0 | cons q K' => exact ⟨q, K', rfl⟩
    rfl)
  obtain ⟨a1, l1, c1, a2, l2, c2, hV, hd⟩ := hU0.cells
  subst hV
  have HC0 := hide (range_box hc0)
  clear hU0 hc0 hd hrows hrd hKT hq hnum
  generalize hb0 : Ward.boxN n K[0] = b0 at *
  have HB0 := hide hb0
  clear hb0
  obtain ⟨fs, hu⟩ := underNode
  have HU := hide hu
  clear hu
  go_enter Tryz.func113, Tryz.ntmps113
  go_upto_region 1 with fail
  have HC1 := hide (fun ob => rangeAt_below HC0.out ((Below.refl w.heap.size w).alloc (Nat.le_refl _) ob) hgB)
  go_upto_region 2 with (first | (refine wpList_load_mid rfl 88 (.tmp 9) rfl g (o + 2) rfl [I b0.a, I b0.b, I b0.c, I b0.d] _ (HC1.out _) Tryz.underlying88 rfl Tryz.infoBox ?_) | (refine wpList_store_row rfl 90 (.tmp 3) (.tmp 11) rfl (w.heap.size + 1) (nodeV (.slice none 0 0) (.slice (some ⟨g, o, none⟩) K.length cp) b0 0 zero32).toArray rfl rfl 90 _ (heap_alloc2_new w _ _) Tryz.infoNode rfl (nodeV_one rfl rfl zero32_one) ?_))
  rw [setRow_alloc2]
  have hb2 := fun o o' => ((Below.refl w.heap.size w).alloc (Nat.le_refl _) o).alloc (by simp) o'
  have hr2 := heap_alloc2_new w
  have hr1 := heap_alloc2_old w
  generalize hW : World.alloc (World.alloc w _) _ = w1
  have hb1 : Below w.heap.size w w1 := by rw [← hW]; exact hb2 _ _
  have hz1 : w1.heap[w.heap.size]? = some (.cells (nodeV (.slice none 0 0) (.slice none 0 0) ⟨0, 0, 0, 0⟩ 0 zero32).toArray 90 (0, 0)) := by rw [← hW]; exact hr1 _ _
  have hn1 : w1.heap[w.heap.size + 1]? = some (.cells (nodeV (.slice none 0 0) (.slice (some ⟨g, o, none⟩) K.length cp) b0 0 zero32).toArray 90 (0, 0)) := by rw [← hW]; exact hr2 _ _
  clear hb2 hr2 hr1 hW HC1 HC0
  generalize Value.agg _ = x10
  generalize Value.agg _ = x11
  have HZ1 := hide hz1
  have HN1 := hide hn1
  have HB1 := hide hb1
  clear hz1 hn1 hb1
  have hlb : (K.length : Int) ≤ 4 := by omega
  go_wp2_with fail
  go_loopg [14] K.length (fun gk v14 wq => ∃ i : Nat, gk = K.length - i ∧ v14 = I i ∧ i ≤ K.length ∧ wq.heap[w.heap.size]? = some (.cells (nodeV (.slice none 0 0) (.slice none 0 0) ⟨0, 0, 0, 0⟩ 0 zero32).toArray 90 (0, 0)) ∧ wq.heap[w.heap.size + 1]? = some (.cells (nodeV (.slice none 0 0) (.slice (some ⟨g, o, none⟩) K.length cp) (accBox (K.map (Ward.boxN n)) i) (((K.map (Ward.numN n)).take i).sum) zero32).toArray 90 (0, 0)) ∧ Below w.heap.size w wq)
  case atStart => exact ⟨0, by omega, rfl, by omega, HZ1.out, by rw [HE0.out]; exact HN1.out, HB1.out⟩
  case round =>
    clear HZ1 HN1 HB1 HE0
    obtain ⟨i, hgk, rfl, hi, hz, hn, hb⟩ := hrel
    have HGK := hide hgk
    have HZ := hide hz
    have HN := hide hn
    have HB := hide hb
    clear hgk hz hn hb
    by_cases hlt : i < K.length
    · obtain ⟨U, hU, hc⟩ := HRD.out i hlt
      have HC := hide (rangeAt_below hc HB.out hgB)
      obtain ⟨a3, l3, c3, a4, l4, c4, hV, hd⟩ := hU.cells
      have HR := hide (show Row39 U by rw [hV]; exact nodeV_row hd)
      have HE := hide (show accBox (K.map (Ward.boxN n)) (i + 1) = Ward.join (accBox (K.map (Ward.boxN n)) i) (Ward.boxN n K[i]) by
        rw [accBox_step _ _ (by simpa using hlt), List.getElem_map])
      have HS := hide (show ((K.map (Ward.numN n)).take (i + 1)).sum = ((K.map (Ward.numN n)).take i).sum + Ward.numN n K[i] by
        rw [sum_step _ _ (by simpa using hlt), List.getElem_map])
      obtain ⟨hs1, hs2'⟩ := HQ.out i
      have hs2 : ((K.map (Ward.numN n)).take i).sum ≤ 4000000 := by
        have : (((K.map (Ward.numN n)).take i).length : Int) ≤ 4 := by rw [List.length_take, List.length_map]; omega
        omega
      obtain ⟨hx1, hx2⟩ := HNUM.out K[i] (List.getElem_mem hlt)
      have HV := hide hV
      generalize Ward.numN n K[i] = x at *
      generalize Ward.boxN n K[i] = bi at *
      generalize (Ward.digN n K[i]).map Y = Di at *
      generalize ((K.map (Ward.numN n)).take i).sum = s at *
      generalize accBox (K.map (Ward.boxN n)) i = b at *
      clear hV hd hc hU hs2'
      go_upto_region 5 with (first | (refine wpList_load_mid rfl 90 (.tmp 16) rfl g (o + i * 39) rfl U (.struct fs) HC.out HU.out rfl HR.out.infl ?_) | (refine wpList_store_row rfl 90 (.tmp 5) (.tmp 17) rfl wr.heap.size U.toArray rfl rfl 90 _ (heap_alloc_new wr _) HR.out.info (by rw [HR.out.size]; rfl) HR.out.one ?_; rw [World.setRow_alloc_new]))
      have hb5' := (Below.refl wr.heap.size wr).alloc (Nat.le_refl _) (.cells U.toArray 90)
      have hr5' := heap_alloc_new wr (.cells U.toArray 90)
      have hs5' : (wr.alloc (.cells U.toArray 90)).heap.size = wr.heap.size + 1 := by simp
      generalize wr.alloc (.cells U.toArray 90) = w5 at *
      rw [HV.out] at hr5'
      have hnlt : w.heap.size + 1 < wr.heap.size := (Array.getElem?_eq_some_iff.1 HN.out).1
      have hn5 := (hb5'.block (w.heap.size + 1) hnlt).trans HN.out
      have HZ5 := hide ((hb5'.block w.heap.size (by omega)).trans HZ.out)
      have HB5 := hide (HB.out.trans (hb5'.mono (by omega)))
      have HN5 := hide hn5
      have HR5 := hide hr5'
      have HS5 := hide hs5'
      obtain ⟨-, ⟨a1, a2, a3, a4⟩, -⟩ := node_cells hn5
      obtain ⟨-, ⟨e1, e2, e3, e4⟩, -⟩ := node_cells hr5'
      clear hn5 hr5' hb5' hs5'
      go_wp2_with fail
      refine (join_any2 b bi _).mono ?_
      rintro _ w6 ⟨rfl, hb6⟩
      have hs6 := hb6.size
      have hs5 := HS5.out
      have hn6 := (hb6.block (w.heap.size + 1) (by omega)).trans HN5.out
      have hr6 := (hb6.block wr.heap.size (by omega)).trans HR5.out
      have HZ6 := hide ((hb6.block w.heap.size (by omega)).trans HZ5.out)
      have HB6 := hide (HB5.out.trans (hb6.mono (by omega)))
      obtain ⟨-, ⟨n1, n2, n3, n4⟩, -⟩ := node_cells hn6
      have f1 : w6.frozen? ⟨w.heap.size + 1, 2, none⟩ = false := frozen_of_row _ _ _ _ _ hn6
      have f2 : w6.frozen? ⟨w.heap.size + 1, 3, none⟩ = false := frozen_of_row _ _ _ _ _ hn6
      have f3 : w6.frozen? ⟨w.heap.size + 1, 4, none⟩ = false := frozen_of_row _ _ _ _ _ hn6
      have f4 : w6.frozen? ⟨w.heap.size + 1, 5, none⟩ = false := frozen_of_row _ _ _ _ _ hn6
      have HN6 := hide hn6
      have HR6 := hide hr6
      have HL := hide hnlt
      clear hn6 hr6 hb6 hs6 hs5 hnlt
      unfold Bx
      go_upto_region 6 with fail
      have hn7' := node_box (Ward.join b bi) HN6.out
      have hr7' := (box_other (w := w6) (g := w.heap.size + 1) (k := wr.heap.size) (c := Ward.join b bi) (by have := HL.out; omega)).trans HR6.out
      have hz7' := (box_other (w := w6) (g := w.heap.size + 1) (k := w.heap.size) (c := Ward.join b bi) (by omega)).trans HZ6.out
      have hb7' : Below w.heap.size w ((((w6.setCell ⟨w.heap.size + 1, 2, none⟩ (I (Ward.join b bi).a)).setCell ⟨w.heap.size + 1, 3, none⟩ (I (Ward.join b bi).b)).setCell ⟨w.heap.size + 1, 4, none⟩ (I (Ward.join b bi).c)).setCell ⟨w.heap.size + 1, 5, none⟩ (I (Ward.join b bi).d)) := (((HB6.out.setCell (by simp) _).setCell (by simp) _).setCell (by simp) _).setCell (by simp) _
      generalize ((((w6.setCell ⟨w.heap.size + 1, 2, none⟩ (I (Ward.join b bi).a)).setCell ⟨w.heap.size + 1, 3, none⟩ (I (Ward.join b bi).b)).setCell ⟨w.heap.size + 1, 4, none⟩ (I (Ward.join b bi).c)).setCell ⟨w.heap.size + 1, 5, none⟩ (I (Ward.join b bi).d)) = w7 at *
      obtain ⟨-, -, m1⟩ := node_cells hn7'
      obtain ⟨-, -, m2⟩ := node_cells hr7'
      have f5 : w7.frozen? ⟨w.heap.size + 1, 6, none⟩ = false := frozen_of_row _ _ _ _ _ hn7'
      have HN7 := hide hn7'
      have HZ7 := hide hz7'
      have HB7 := hide hb7'
      clear hn7' hr7' hz7' hb7' a1 a2 a3 a4 e1 e2 e3 e4 n1 n2 n3 n4 f1 f2 f3 f4
      go_wp2_with fail
      go_roundg (K.length - (i + 1))
      case measure => have := HGK.out; omega
      case rel =>
        refine ⟨i + 1, rfl, by go_num, hlt, (Below.heap_setCell _ _ _ _ (show w.heap.size ≠ w.heap.size + 1 by omega)).trans HZ7.out, ?_, HB7.out.setCell (by simp) _⟩
        rw [HE.out, HS.out]
        exact node_num (s + x) HN7.out
    · have ei : i = K.length := by omega
      subst ei
      have HE := hide (show accBox (K.map (Ward.boxN n)) K.length = Ward.boxL (K.map (Ward.boxN n)) by
        have h := accBox_all (K.map (Ward.boxN n))
        rw [List.length_map] at h
        exact h)
      have HS := hide (show (K.map (Ward.numN n)).take K.length = K.map (Ward.numN n) by
        rw [List.take_of_length_le (by simp)])
      rw [HE.out, HS.out] at HN
      have hnlt : w.heap.size + 1 < wr.heap.size := (Array.getElem?_eq_some_iff.1 HN.out).1
      have hsame : Same S w wr := below_same HB.out HSS.out
      have HRR := hide (show RowsAt (NodeIs wr S n) wr S (.slice (some ⟨g, o, none⟩) K.length cp) K from HP.out.keep hsame (fun _ h => h) (NodeIs.keep hsame (fun _ h => h) n))
      clear hsame
      have HD := hide (dig_of (Ward.textK n K))
      have HTL := hide (show (⟨(Ward.textK n K).toArray⟩ : ByteArray).size ≤ 140737488355327 by
        show (Ward.textK n K).toArray.size ≤ _
        have h := take_said_len (K := K) (fun j hj => ⟨_, (HRD.out j hj).choose_spec.1⟩) K.length
        rw [List.take_length] at h
        rw [List.size_toArray, textK_two, List.length_append]
        show 2 + _ ≤ _
        omega)
      generalize hBx : Ward.boxL (K.map (Ward.boxN n)) = b at *
      generalize hSm : (K.map (Ward.numN n)).sum = s at *
      have HBX := hide hBx
      have HSM := hide hSm
      clear HE HS HP hBx hSm HQ HNUM
      go_wp2_with fail
      refine (nodeText_any _ n K _ S (fun g hg => Nat.lt_of_lt_of_le (HSS.out g hg) HB.out.size) hK HRR.out).mono ?_
      rintro _ w2 ⟨rfl, hb2⟩
      have HB2 := hide hb2
      have hs2 := hb2.size
      clear hb2
      go_wp2_with fail
      refine (of_any _ _ HTL.out (HK.out.below (HB.out.trans (HB2.out.mono (by omega))))).mono ?_
      rintro _ w3 ⟨rfl, hb3⟩
      rw [show (⟨(Ward.textK n K).toArray⟩ : ByteArray).data.toList = Ward.textK n K from rfl]
      generalize hDe : (Sha.sha (Ward.textK n K)).map Y = D at *
      have HDE := hide hDe
      clear hDe
      have hs3 := hb3.size
      have hn3 := (hb3.block (w.heap.size + 1) (by omega)).trans ((HB2.out.block (w.heap.size + 1) (by omega)).trans HN.out)
      have HZ3 := hide ((hb3.block w.heap.size (by omega)).trans ((HB2.out.block w.heap.size (by omega)).trans HZ.out))
      have HB3 := hide ((HB.out.trans (HB2.out.mono (by omega))).trans (hb3.mono (by omega)))
      have HN3 := hide hn3
      clear hb3 hn3
      have HT := hide (there_row HN3.out 7 D.toArray.size (by rw [HD.out.size, nodeV_size (by rfl)]; decide))
      have HN4 := hide (show (w3.setCells (w.heap.size + 1) 7 D).heap[w.heap.size + 1]? = some (.cells (nodeV (.slice none 0 0) (.slice (some ⟨g, o, none⟩) K.length cp) b s D).toArray 90 (0, 0)) from node_digest (by rfl) HD.out.len HN3.out)
      have HZ4 := hide ((setCells_other (show w.heap.size ≠ w.heap.size + 1 by omega) D 7 w3).trans HZ3.out)
      have HB4 := hide (below_setCellsN (show w.heap.size ≤ w.heap.size + 1 by omega) D 7 w3 HB3.out)
      have HO := hide (nodeV_one (vp := .slice none 0 0) (vc := .slice (some ⟨g, o, none⟩) K.length cp) (b := b) (n := s) (t := D) rfl rfl (fun v hv => (Array.all_eq_true_iff_forall_mem.1 HD.out.one) v (by simpa using hv)))
      have HI := hide (nodeV_info (vp := .slice none 0 0) (vc := .slice (some ⟨g, o, none⟩) K.length cp) (b := b) (n := s) HD.out.len)
      have HS := hide (show (nodeV (.slice none 0 0) (.slice none 0 0) ⟨0, 0, 0, 0⟩ 0 zero32).toArray.size = (nodeV (.slice none 0 0) (.slice (some ⟨g, o, none⟩) K.length cp) b s D).toArray.size by rw [nodeV_size HD.out.len, nodeV_size (by rfl)])
      have HI22 := hide HD.out.info
      have HO22 := hide HD.out.one
      generalize hM : (nodeV (.slice none 0 0) (.slice (some ⟨g, o, none⟩) K.length cp) b s D).toArray = M at *
      have HM := hide hM
      clear hM
      go_wp2_with (first | (refine wpList_store_mid rfl 39 (.tmp 34) (.tmp 33) rfl (w.heap.size + 1) 7 D.toArray rfl rfl HT.out HI22.out HO22.out ?_) | (refine wpList_load_row rfl 90 (.tmp 3) rfl (w.heap.size + 1) rfl 90 M (0, 0) (.struct fs) HN4.out HU.out rfl HI.out ?_) | (refine wpList_store_row rfl 90 (.tmp 2) (.tmp 35) rfl w.heap.size M rfl rfl 90 _ HZ4.out HI.out HS.out HO.out ?_))
      refine bodyPost_ret (v := .agg M) ?_ rfl ⟨by rw [← HM.out, ← HBX.out, ← HSM.out, ← HDE.out], below_setRow HB4.out (Nat.le_refl _) _⟩
      exact results_cell_row rfl _ _ w.heap.size 90 M (0, 0) (.struct fs) rfl (setRow_heap _ _ _ _ _ _ HZ4.out) HU.out rfl HI.out
end Go.Proofs.YtenaelkbgkpllaaGreatDoor
