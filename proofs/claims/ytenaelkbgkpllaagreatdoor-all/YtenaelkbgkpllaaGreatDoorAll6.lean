/- A node made of children. -/
import Derived.Test.YtenaelkbgkpllaaGreatDoorAll5
import Derived.Test.YtenaelkbgkpllaaGreatDoorAll4
import Derived.Great.BuildSlice
import Derived.Deep.AppendLies
namespace Go.Proofs.YtenaelkbgkpllaaGreatDoor
open Go.RowKit

theorem node_num {w : World} {g : Nat} {vp vc : Value} {b : Ward.Box} {n : Int} {t : List Value} {ty : Nat} (c : Int) (h : w.heap[g]? = some (.cells (nodeV vp vc b n t).toArray ty (0, 0))) :
    (w.setCell ⟨g, 6, none⟩ (I c)).heap[g]? = some (.cells (nodeV vp vc b c t).toArray ty (0, 0)) := by
  have h1 := heap_setCell_same w g 6 _ ty (I c) h
  rw [List.setIfInBounds_toArray] at h1
  exact h1
theorem range_box {w : World} {g o : Nat} {vp vc : Value} {b : Ward.Box} {n : Int} {t : List Value} (h : w.rangeAt g o (nodeV vp vc b n t)) : w.rangeAt g (o + 2) [I b.a, I b.b, I b.c, I b.d] := fun j v hv => by
  rw [Nat.add_assoc]
  refine h (2 + j) v ?_
  match j, hv with
  | 0, hv => exact hv
  | 1, hv => exact hv
  | 2, hv => exact hv
  | 3, hv => exact hv
theorem sum_le {l : List Int} (h : ∀ x ∈ l, 0 ≤ x ∧ x ≤ 1000000) : 0 ≤ l.sum ∧ l.sum ≤ 1000000 * l.length := by
  induction l with
  | nil => simp
  | cons x l ih =>
    have h1 := h x (by simp)
    have h2 := ih fun y hy => h y (by simp [hy])
    rw [List.sum_cons, List.length_cons]
    omega
theorem sum_step (l : List Int) (i : Nat) (h : i < l.length) : (l.take (i + 1)).sum = (l.take i).sum + l[i] := by
  rw [List.take_succ_eq_append_getElem h, List.sum_append]; simp
theorem boxes_other {w : World} {g k : Nat} {c : Ward.Box} {m : Int} (h : k ≠ g) : (((((w.setCell ⟨g, 2, none⟩ (I c.a)).setCell ⟨g, 3, none⟩ (I c.b)).setCell ⟨g, 4, none⟩ (I c.c)).setCell ⟨g, 5, none⟩ (I c.d)).setCell ⟨g, 6, none⟩ (I m)).heap[k]? = w.heap[k]? := by
  rw [Below.heap_setCell _ _ _ _ h, box_other h]
set_option maxRecDepth 100000 in
set_option maxHeartbeats 4000000 in
theorem nodeOf_any (vc : Value) (n : Nat) (K : List (Ward.NT n)) (w : World) (S : Nat → Prop) (hS : ∀ g, S g → g < w.heap.size) (h0 : K ≠ []) (hK : K.length ≤ 4) (hk : RowsAt (NodeIs w S n) w S vc K) (hnum : ∀ t ∈ K, 0 ≤ Ward.numN n t ∧ Ward.numN n t ≤ 1000000) (hKT : KT w) :
    Calls Tryz.prog 113 #[vc] w fun e w' => e = .returned (.agg (nodeV (.slice none 0 0) vc (Ward.boxL (K.map (Ward.boxN n))) ((K.map (Ward.numN n)).sum) ((Sha.sha (Ward.textK n K)).map Y)).toArray) ∧ Below w.heap.size w w' := by
  have HP := hide hk
  have HK := hide hKT
  obtain ⟨ap, cp, rfl, hrd⟩ := hk
  obtain ⟨g, o, rfl, hgS, hrows⟩ := hrd h0
  have hgB := hS g hgS
  have HSS := hide hS
  clear hgS hS
  have HRD := hide hrows
  have h1 : 0 < K.length := List.length_pos_iff.2 h0
  have hrow0 := hrows 0 h1
  rw [Nat.zero_mul, Nat.add_zero] at hrow0
  obtain ⟨U0, hU0, hc0⟩ := hrow0
  have hq := fun i => sum_le (l := (K.map (Ward.numN n)).take i) (fun x hx => by
    obtain ⟨t, ht, rfl⟩ := List.mem_map.1 (List.mem_of_mem_take hx)
    exact hnum t ht)
  have HQ := hide hq
  have HNUM := hide hnum
  have HE0 := hide (show accBox (K.map (Ward.boxN n)) 0 = Ward.boxN n K[0] by
    obtain ⟨q, K', rfl⟩ : ∃ q K', K = q :: K' := by cases K with | nil => exact absurd rfl h0 | cons q K' => exact ⟨q, K', rfl⟩
    rfl)
  obtain ⟨a1, l1, c1, a2, l2, c2, hV, hd⟩ := hU0.cells
  subst hV
  have HC0 := hide (range_box hc0)
  clear hU0 hc0 hd hrows hrd hKT hq hnum
  generalize hb0 : Ward.boxN n K[0] = b0 at *
  have HB0 := hide hb0
  clear hb0
  obtain ⟨fs, hu⟩ := underNode
  have HU := hide hu
  clear hu
  go_enter Tryz.func113, Tryz.ntmps113
  go_upto_region 1 with fail
  have HC1 := hide (fun ob => rangeAt_below HC0.out ((Below.refl w.heap.size w).alloc (Nat.le_refl _) ob) hgB)
  go_upto_region 2 with (first | (refine wpList_load_mid rfl 88 (.tmp 9) rfl g (o + 2) rfl [I b0.a, I b0.b, I b0.c, I b0.d] _ (HC1.out _) Tryz.underlying88 rfl Tryz.infoBox ?_) | (refine wpList_store_row rfl 90 (.tmp 3) (.tmp 11) rfl (w.heap.size + 1) (nodeV (.slice none 0 0) (.slice (some ⟨g, o, none⟩) K.length cp) b0 0 zero32).toArray rfl rfl 90 _ (heap_alloc2_new w _ _) Tryz.infoNode rfl (nodeV_one rfl rfl zero32_one) ?_))
  rw [setRow_alloc2]
  have hb2 := fun o o' => ((Below.refl w.heap.size w).alloc (Nat.le_refl _) o).alloc (by simp) o'
  have hr2 := heap_alloc2_new w
  have hr1 := heap_alloc2_old w
  generalize hW : World.alloc (World.alloc w _) _ = w1
  have hb1 : Below w.heap.size w w1 := by rw [← hW]; exact hb2 _ _
  have hz1 : w1.heap[w.heap.size]? = some (.cells (nodeV (.slice none 0 0) (.slice none 0 0) ⟨0, 0, 0, 0⟩ 0 zero32).toArray 90 (0, 0)) := by rw [← hW]; exact hr1 _ _
  have hn1 : w1.heap[w.heap.size + 1]? = some (.cells (nodeV (.slice none 0 0) (.slice (some ⟨g, o, none⟩) K.length cp) b0 0 zero32).toArray 90 (0, 0)) := by rw [← hW]; exact hr2 _ _
  clear hb2 hr2 hr1 hW HC1 HC0
  generalize Value.agg _ = x10
  generalize Value.agg _ = x11
  have HZ1 := hide hz1
  have HN1 := hide hn1
  have HB1 := hide hb1
  clear hz1 hn1 hb1
  have hlb : (K.length : Int) ≤ 4 := by omega
  go_wp2_with fail
  go_loopg [14] K.length (fun gk v14 wq => ∃ i : Nat, gk = K.length - i ∧ v14 = I i ∧ i ≤ K.length ∧ wq.heap[w.heap.size]? = some (.cells (nodeV (.slice none 0 0) (.slice none 0 0) ⟨0, 0, 0, 0⟩ 0 zero32).toArray 90 (0, 0)) ∧ wq.heap[w.heap.size + 1]? = some (.cells (nodeV (.slice none 0 0) (.slice (some ⟨g, o, none⟩) K.length cp) (accBox (K.map (Ward.boxN n)) i) (((K.map (Ward.numN n)).take i).sum) zero32).toArray 90 (0, 0)) ∧ Below w.heap.size w wq)
  case atStart => exact ⟨0, by omega, rfl, by omega, HZ1.out, by rw [HE0.out]; exact HN1.out, HB1.out⟩
  case round =>
    clear HZ1 HN1 HB1 HE0
    obtain ⟨i, hgk, rfl, hi, hz, hn, hb⟩ := hrel
    have HGK := hide hgk
    have HZ := hide hz
    have HN := hide hn
    have HB := hide hb
    clear hgk hz hn hb
    by_cases hlt : i < K.length
    · obtain ⟨U, hU, hc⟩ := HRD.out i hlt
      have HC := hide (rangeAt_below hc HB.out hgB)
      obtain ⟨a3, l3, c3, a4, l4, c4, hV, hd⟩ := hU.cells
      have HR := hide (show Row39 U by rw [hV]; exact nodeV_row hd)
      have HE := hide (show accBox (K.map (Ward.boxN n)) (i + 1) = Ward.join (accBox (K.map (Ward.boxN n)) i) (Ward.boxN n K[i]) by
        rw [accBox_step _ _ (by simpa using hlt), List.getElem_map])
      have HS := hide (show ((K.map (Ward.numN n)).take (i + 1)).sum = ((K.map (Ward.numN n)).take i).sum + Ward.numN n K[i] by
        rw [sum_step _ _ (by simpa using hlt), List.getElem_map])
      obtain ⟨hs1, hs2'⟩ := HQ.out i
      have hs2 : ((K.map (Ward.numN n)).take i).sum ≤ 4000000 := by
        have : (((K.map (Ward.numN n)).take i).length : Int) ≤ 4 := by rw [List.length_take, List.length_map]; omega
        omega
      obtain ⟨hx1, hx2⟩ := HNUM.out K[i] (List.getElem_mem hlt)
      have HV := hide hV
      generalize Ward.numN n K[i] = x at *
      generalize Ward.boxN n K[i] = bi at *
      generalize (Ward.digN n K[i]).map Y = Di at *
      generalize ((K.map (Ward.numN n)).take i).sum = s at *
      generalize accBox (K.map (Ward.boxN n)) i = b at *
      clear hV hd hc hU hs2'
      go_upto_region 5 with (first | (refine wpList_load_mid rfl 90 (.tmp 16) rfl g (o + i * 39) rfl U (.struct fs) HC.out HU.out rfl HR.out.infl ?_) | (refine wpList_store_row rfl 90 (.tmp 5) (.tmp 17) rfl wr.heap.size U.toArray rfl rfl 90 _ (heap_alloc_new wr _) HR.out.info (by rw [HR.out.size]; rfl) HR.out.one ?_; rw [World.setRow_alloc_new]))
      have hb5' := (Below.refl wr.heap.size wr).alloc (Nat.le_refl _) (.cells U.toArray 90)
      have hr5' := heap_alloc_new wr (.cells U.toArray 90)
      have hs5' : (wr.alloc (.cells U.toArray 90)).heap.size = wr.heap.size + 1 := by simp
      generalize wr.alloc (.cells U.toArray 90) = w5 at *
      rw [HV.out] at hr5'
      have hnlt : w.heap.size + 1 < wr.heap.size := (Array.getElem?_eq_some_iff.1 HN.out).1
      have hn5 := (hb5'.block (w.heap.size + 1) hnlt).trans HN.out
      have HZ5 := hide ((hb5'.block w.heap.size (by omega)).trans HZ.out)
      have HB5 := hide (HB.out.trans (hb5'.mono (by omega)))
      have HN5 := hide hn5
      have HR5 := hide hr5'
      have HS5 := hide hs5'
      obtain ⟨-, ⟨a1, a2, a3, a4⟩, -⟩ := node_cells hn5
      obtain ⟨-, ⟨e1, e2, e3, e4⟩, -⟩ := node_cells hr5'
      clear hn5 hr5' hb5' hs5'
      go_wp2_with fail
      refine (join_any2 b bi _).mono ?_
      rintro _ w6 ⟨rfl, hb6⟩
      have hs6 := hb6.size
      have hs5 := HS5.out
      have hn6 := (hb6.block (w.heap.size + 1) (by omega)).trans HN5.out
      have hr6 := (hb6.block wr.heap.size (by omega)).trans HR5.out
      have HZ6 := hide ((hb6.block w.heap.size (by omega)).trans HZ5.out)
      have HB6 := hide (HB5.out.trans (hb6.mono (by omega)))
      obtain ⟨-, ⟨n1, n2, n3, n4⟩, -⟩ := node_cells hn6
      have f1 : w6.frozen? ⟨w.heap.size + 1, 2, none⟩ = false := frozen_of_row _ _ _ _ _ hn6
      have f2 : w6.frozen? ⟨w.heap.size + 1, 3, none⟩ = false := frozen_of_row _ _ _ _ _ hn6
      have f3 : w6.frozen? ⟨w.heap.size + 1, 4, none⟩ = false := frozen_of_row _ _ _ _ _ hn6
      have f4 : w6.frozen? ⟨w.heap.size + 1, 5, none⟩ = false := frozen_of_row _ _ _ _ _ hn6
      have HN6 := hide hn6
      have HR6 := hide hr6
      have HL := hide hnlt
      clear hn6 hr6 hb6 hs6 hs5 hnlt
      unfold Bx
      go_upto_region 6 with fail
      have hn7' := node_box (Ward.join b bi) HN6.out
      have hr7' := (box_other (w := w6) (g := w.heap.size + 1) (k := wr.heap.size) (c := Ward.join b bi) (by have := HL.out; omega)).trans HR6.out
      have hz7' := (box_other (w := w6) (g := w.heap.size + 1) (k := w.heap.size) (c := Ward.join b bi) (by omega)).trans HZ6.out
      have hb7' : Below w.heap.size w ((((w6.setCell ⟨w.heap.size + 1, 2, none⟩ (I (Ward.join b bi).a)).setCell ⟨w.heap.size + 1, 3, none⟩ (I (Ward.join b bi).b)).setCell ⟨w.heap.size + 1, 4, none⟩ (I (Ward.join b bi).c)).setCell ⟨w.heap.size + 1, 5, none⟩ (I (Ward.join b bi).d)) := (((HB6.out.setCell (by simp) _).setCell (by simp) _).setCell (by simp) _).setCell (by simp) _
      generalize ((((w6.setCell ⟨w.heap.size + 1, 2, none⟩ (I (Ward.join b bi).a)).setCell ⟨w.heap.size + 1, 3, none⟩ (I (Ward.join b bi).b)).setCell ⟨w.heap.size + 1, 4, none⟩ (I (Ward.join b bi).c)).setCell ⟨w.heap.size + 1, 5, none⟩ (I (Ward.join b bi).d)) = w7 at *
      obtain ⟨-, -, m1⟩ := node_cells hn7'
      obtain ⟨-, -, m2⟩ := node_cells hr7'
      have f5 : w7.frozen? ⟨w.heap.size + 1, 6, none⟩ = false := frozen_of_row _ _ _ _ _ hn7'
      have HN7 := hide hn7'
      have HZ7 := hide hz7'
      have HB7 := hide hb7'
      clear hn7' hr7' hz7' hb7' a1 a2 a3 a4 e1 e2 e3 e4 n1 n2 n3 n4 f1 f2 f3 f4
      go_wp2_with fail
      go_roundg (K.length - (i + 1))
      case measure => have := HGK.out; omega
      case rel =>
        refine ⟨i + 1, rfl, by go_num, hlt, (Below.heap_setCell _ _ _ _ (show w.heap.size ≠ w.heap.size + 1 by omega)).trans HZ7.out, ?_, HB7.out.setCell (by simp) _⟩
        rw [HE.out, HS.out]
        exact node_num (s + x) HN7.out
    · have ei : i = K.length := by omega
      subst ei
      have HE := hide (show accBox (K.map (Ward.boxN n)) K.length = Ward.boxL (K.map (Ward.boxN n)) by
        have h := accBox_all (K.map (Ward.boxN n))
        rw [List.length_map] at h
        exact h)
      have HS := hide (show (K.map (Ward.numN n)).take K.length = K.map (Ward.numN n) by
        rw [List.take_of_length_le (by simp)])
      rw [HE.out, HS.out] at HN
      have hnlt : w.heap.size + 1 < wr.heap.size := (Array.getElem?_eq_some_iff.1 HN.out).1
      have hsame : Same S w wr := below_same HB.out HSS.out
      have HRR := hide (show RowsAt (NodeIs wr S n) wr S (.slice (some ⟨g, o, none⟩) K.length cp) K from HP.out.keep hsame (fun _ h => h) (NodeIs.keep hsame (fun _ h => h) n))
      clear hsame
      have HD := hide (dig_of (Ward.textK n K))
      have HTL := hide (show (⟨(Ward.textK n K).toArray⟩ : ByteArray).size ≤ 140737488355327 by
        show (Ward.textK n K).toArray.size ≤ _
        have h := take_said_len (K := K) (fun j hj => ⟨_, (HRD.out j hj).choose_spec.1⟩) K.length
        rw [List.take_length] at h
        rw [List.size_toArray, textK_two, List.length_append]
        show 2 + _ ≤ _
        omega)
      generalize hBx : Ward.boxL (K.map (Ward.boxN n)) = b at *
      generalize hSm : (K.map (Ward.numN n)).sum = s at *
      have HBX := hide hBx
      have HSM := hide hSm
      clear HE HS HP hBx hSm HQ HNUM
      go_wp2_with fail
      refine (nodeText_any _ n K _ S (fun g hg => Nat.lt_of_lt_of_le (HSS.out g hg) HB.out.size) hK HRR.out).mono ?_
      rintro _ w2 ⟨rfl, hb2⟩
      have HB2 := hide hb2
      have hs2 := hb2.size
      clear hb2
      go_wp2_with fail
      refine (of_any _ _ HTL.out (HK.out.below (HB.out.trans (HB2.out.mono (by omega))))).mono ?_
      rintro _ w3 ⟨rfl, hb3⟩
      rw [show (⟨(Ward.textK n K).toArray⟩ : ByteArray).data.toList = Ward.textK n K from rfl]
      generalize hDe : (Sha.sha (Ward.textK n K)).map Y = D at *
      have HDE := hide hDe
      clear hDe
      have hs3 := hb3.size
      have hn3 := (hb3.block (w.heap.size + 1) (by omega)).trans ((HB2.out.block (w.heap.size + 1) (by omega)).trans HN.out)
      have HZ3 := hide ((hb3.block w.heap.size (by omega)).trans ((HB2.out.block w.heap.size (by omega)).trans HZ.out))
      have HB3 := hide ((HB.out.trans (HB2.out.mono (by omega))).trans (hb3.mono (by omega)))
      have HN3 := hide hn3
      clear hb3 hn3
      have HT := hide (there_row HN3.out 7 D.toArray.size (by rw [HD.out.size, nodeV_size (by rfl)]; decide))
      have HN4 := hide (show (w3.setCells (w.heap.size + 1) 7 D).heap[w.heap.size + 1]? = some (.cells (nodeV (.slice none 0 0) (.slice (some ⟨g, o, none⟩) K.length cp) b s D).toArray 90 (0, 0)) from node_digest (by rfl) HD.out.len HN3.out)
      have HZ4 := hide ((setCells_other (show w.heap.size ≠ w.heap.size + 1 by omega) D 7 w3).trans HZ3.out)
      have HB4 := hide (below_setCellsN (show w.heap.size ≤ w.heap.size + 1 by omega) D 7 w3 HB3.out)
      have HO := hide (nodeV_one (vp := .slice none 0 0) (vc := .slice (some ⟨g, o, none⟩) K.length cp) (b := b) (n := s) (t := D) rfl rfl (fun v hv => (Array.all_eq_true_iff_forall_mem.1 HD.out.one) v (by simpa using hv)))
      have HI := hide (nodeV_info (vp := .slice none 0 0) (vc := .slice (some ⟨g, o, none⟩) K.length cp) (b := b) (n := s) HD.out.len)
      have HS := hide (show (nodeV (.slice none 0 0) (.slice none 0 0) ⟨0, 0, 0, 0⟩ 0 zero32).toArray.size = (nodeV (.slice none 0 0) (.slice (some ⟨g, o, none⟩) K.length cp) b s D).toArray.size by rw [nodeV_size HD.out.len, nodeV_size (by rfl)])
      have HI22 := hide HD.out.info
      have HO22 := hide HD.out.one
      generalize hM : (nodeV (.slice none 0 0) (.slice (some ⟨g, o, none⟩) K.length cp) b s D).toArray = M at *
      have HM := hide hM
      clear hM
      go_wp2_with (first | (refine wpList_store_mid rfl 39 (.tmp 34) (.tmp 33) rfl (w.heap.size + 1) 7 D.toArray rfl rfl HT.out HI22.out HO22.out ?_) | (refine wpList_load_row rfl 90 (.tmp 3) rfl (w.heap.size + 1) rfl 90 M (0, 0) (.struct fs) HN4.out HU.out rfl HI.out ?_) | (refine wpList_store_row rfl 90 (.tmp 2) (.tmp 35) rfl w.heap.size M rfl rfl 90 _ HZ4.out HI.out HS.out HO.out ?_))
      refine bodyPost_ret (v := .agg M) ?_ rfl ⟨by rw [← HM.out, ← HBX.out, ← HSM.out, ← HDE.out], below_setRow HB4.out (Nat.le_refl _) _⟩
      exact results_cell_row rfl _ _ w.heap.size 90 M (0, 0) (.struct fs) rfl (setRow_heap _ _ _ _ _ _ HZ4.out) HU.out rfl HI.out
end Go.Proofs.YtenaelkbgkpllaaGreatDoor
/- Two texts of one digest, looked for. -/
namespace Go.Proofs.YtenaelkbgkpllaaGreatDoor
open Go.RowKit

theorem byte_at (l : List UInt8) (j : Nat) (h : j < l.length) : (l.map Y).toArray[j]? = some (.int .u8 (l.getD j 0).toNat) := by
  rw [List.getElem?_toArray, List.getElem?_map, List.getElem?_eq_getElem h, List.getD_eq_getElem?_getD, List.getElem?_eq_getElem h]
  rfl
theorem eqItems_two (d : Nat) (l m : List UInt8) (hl : l.length = 32) (hm : m.length = 32) (w : World) : ∀ is : List Nat, (∀ j ∈ is, j < 32) → (Op.eqItems (d + 1) 5 1 (l.map Y).toArray (m.map Y).toArray is).run Tryz.prog w = .ok (is.all fun j => l.getD j 0 == m.getD j 0) w
  | [], _ => by simp [Op.eqItems]
  | j :: is, h => by
    have hj := h j (by simp)
    have ih := eqItems_two d l m hl hm w is (fun k hk => h k (by simp [hk]))
    have e : ∀ a b : Nat, (Op.equalIn (d + 1) 5 (.int .u8 a) (.int .u8 b)).run Tryz.prog w = .ok ((a : Int) == (b : Int)) w := fun a b => run_equalIn_int w d 5 .u8 .u8 a b Tryz.underlying5
    have hp : ∀ (A : Array Value) (v : Value), A[j]? = some v → (part 5 A j).run Tryz.prog w = .ok v w := fun A v h => by simp [part, Sem.run_bind, h]
    have hb : (((l.getD j 0).toNat : Int) == ((m.getD j 0).toNat : Int)) = (l.getD j 0 == m.getD j 0) := by
      rw [Bool.eq_iff_iff, beq_iff_eq, beq_iff_eq, ← UInt8.toNat_inj]
      omega
    simp only [Op.eqItems, Sem.run_bind, Nat.mul_one, hp _ _ (byte_at l j (by omega)), hp _ _ (byte_at m j (by omega)), Result.andThen_ok, e, hb, List.all_cons]
    cases l.getD j 0 == m.getD j 0
    · simp
    · simp [ih]
theorem all_eq {l m : List UInt8} (hl : l.length = 32) (hm : m.length = 32) : ((List.range 32).all fun j => l.getD j 0 == m.getD j 0) = decide (l = m) := by
  rw [Bool.eq_iff_iff, List.all_eq_true, decide_eq_true_eq]
  refine ⟨fun h => ?_, fun h => by subst h; simp⟩
  refine List.ext_getElem (by omega) fun i h1 h2 => ?_
  have := h i (List.mem_range.2 (by omega))
  rw [beq_iff_eq, List.getD_eq_getElem?_getD, List.getD_eq_getElem?_getD, List.getElem?_eq_getElem h1, List.getElem?_eq_getElem h2] at this
  exact this
theorem eqArrD (d : Nat) (l m : List UInt8) (hl : l.length = 32) (hm : m.length = 32) (w : World) :
    (Op.equalIn (d + 2) 39 (.agg (l.map Y).toArray) (.agg (m.map Y).toArray)).run Tryz.prog w = .ok (decide (l = m)) w := by
  obtain ⟨i0, hi, -⟩ := info_parts Tryz.info5
  rw [run_equalIn_array w (d + 1) _ _ Tryz.under22 hi, Tryz.cells5, ← all_eq hl hm]
  exact eqItems_two d l m hl hm w _ (fun j hj => List.mem_range.1 hj)
theorem eqArr (l m : List UInt8) (hl : l.length = 32) (hm : m.length = 32) (w : World) :
    (Op.equalIn 10000 39 (.agg (l.map Y).toArray) (.agg (m.map Y).toArray)).run Tryz.prog w = .ok (decide (l = m)) w := eqArrD 9998 l m hl hm w
theorem binArr (l m : List UInt8) (hl : l.length = 32) (hm : m.length = 32) (w : World) :
    (binOp .eql 39 (.agg (l.map Y).toArray) (.agg (m.map Y).toArray)).run Tryz.prog w = .ok (.bool (decide (l = m))) w := by
  rw [run_eql_struct, eqArr l m hl hm w]; rfl
end Go.Proofs.YtenaelkbgkpllaaGreatDoor
/- Two texts of one digest, looked for: the call. -/
namespace Go.Proofs.YtenaelkbgkpllaaGreatDoor
open Go.RowKit

/-- a list of texts, read -/
def Texts (w : World) (v : Value) (ls : List (List UInt8)) : Prop := ∃ (a : Option Addr) (c : Nat), v = .slice a ls.length c ∧ (ls ≠ [] → ∃ g, a = some ⟨g, 0, none⟩ ∧ ∀ i (h : i < ls.length), w.cell? ⟨g, i, none⟩ = some (Sv ls[i]))
theorem OwnS.texts {w : World} {B : Nat} {v : Value} {ls : List (List UInt8)} (h : OwnS w B v ls) : Texts w v ls := by
  rcases h.2 with ⟨rfl, h0⟩ | ⟨g, c, cur, rfl, _⟩
  · have e : ls = [] := by simpa using h0
    subst e
    exact ⟨none, 0, rfl, fun k => absurd rfl k⟩
  · refine ⟨_, c, rfl, fun _ => ⟨g, rfl, fun i hi => ?_⟩⟩
    have hc := h.cells (g := g) rfl i (Sv ls[i]) (by rw [List.getElem?_map, List.getElem?_eq_getElem hi]; rfl)
    rw [Addr.add_lit, Nat.zero_add] at hc
    exact hc
theorem Texts.below {w w' : World} {v : Value} {ls : List (List UInt8)} (h : Texts w v ls) (hb : Below w.heap.size w w') : Texts w' v ls := by
  obtain ⟨a, c, rfl, hc⟩ := h
  refine ⟨a, c, rfl, fun hne => ?_⟩
  obtain ⟨g, rfl, hp⟩ := hc hne
  exact ⟨g, rfl, fun i hi => (hb.cell (p := ⟨g, i, none⟩) (block_lt_of_cell (hp i hi))).trans (hp i hi)⟩
theorem dig_text (a : List UInt8) (L : List Value) (w : World) (h : a.length ≤ 300) (hK : KT w) (hL : (Sha.sha a).map Y = L) :
    Calls Tryz.prog 30 #[Sv a] w fun e w' => e = .returned (.agg L.toArray) ∧ Below w.heap.size w w' :=
  digest_any ⟨a.toArray⟩ L w (by show a.toArray.size ≤ _; rw [List.size_toArray]; omega) hK (by show (Sha.sha a.toArray.toList).map Y = L; rw [List.toList_toArray]; exact hL)
theorem below_drewN {B : Nat} {w w' : World} (h : Below B w w') (n : Nat) : Below B w (w'.drewN n) := ⟨h.os, h.tape, h.output, h.size, h.block⟩
/-- none of the first so many has the digest of another -/
def Clear (A Bs : List (List UInt8)) (n : Nat) : Prop := ∀ i (h : i < A.length), i < n → ∀ b ∈ Bs, A[i] ≠ b → Sha.sha A[i] ≠ Sha.sha b

set_option maxRecDepth 100000 in
set_option maxHeartbeats 2000000 in
theorem collide_any (s t : ByteArray) (n m : Nat) (S1 : Ward.PT n) (S2 : Ward.PT m) (w : World) (h1 : Ward.WF n S1) (h2 : Ward.WF m S2) (hs : s.data.toList = Ward.shows n S1) (ht : t.data.toList = Ward.shows m S2) (hn : n ≤ 6) (hm : m ≤ 6) (hA : (Ward.alls n S1).length ≤ 50000) (hB : (Ward.alls m S2).length ≤ 50000) (hsz : s.size ≤ 140737488355328) (htz : t.size ≤ 140737488355328) (hK : KT w) :
    Calls Tryz.prog 18 #[.string s, .string t] w fun e w' => ∃ r : Bool, e = .returned (.bool r) ∧ (r = false → ∀ a ∈ Ward.alls n S1, ∀ b ∈ Ward.alls m S2, a ≠ b → Sha.sha a ≠ Sha.sha b) ∧ Below w.heap.size w w' := by
  have hl1 : (Ward.shows n S1).length = s.size := by rw [← hs]; simp
  have hl2 : (Ward.shows m S2).length = t.size := by rw [← ht]; simp
  have H1 := hide (texts_any s w.heap.size hsz n S1 0 1 (.slice none 0 0) [] w h1 ⟨[], by simp [hs]⟩ (by omega) (World.ownsRow_nil _ _ _ _) (Nat.le_refl _) (by simp; omega))
  have sa := Ward.alls_small n S1 h1
  have sb := Ward.alls_small m S2 h2
  rw [hl1] at H1
  generalize Ward.alls n S1 = LA at *
  generalize Ward.own n S1 = OA at *
  have H2 := hide (fun w1 (hw : w.heap.size ≤ w1.heap.size) => texts_any t w.heap.size htz m S2 0 1 (.slice none 0 0) [] w1 h2 ⟨[], by simp [ht]⟩ (by omega) (World.ownsRow_nil _ _ _ _) hw (by simp; omega))
  rw [hl2] at H2
  generalize Ward.alls m S2 = LB at *
  generalize Ward.own m S2 = OB at *
  have HK := hide hK
  have HSA := hide sa
  have HSB := hide sb
  clear hK sa sb hs ht hl1 hl2 h1 h2
  go_enter Tryz.func18, Tryz.ntmps18
  go_wp2_with fail
  refine (H1.out).mono ?_
  rintro e w1 ⟨va, rfl, ho1, hg1, -⟩
  rw [List.nil_append] at ho1
  have hb1 : Below w.heap.size w w1 := ⟨hg1.os, hg1.tape, hg1.output, hg1.size, fun k hk => hg1.block k hk (by simp [Value.ownBlock])⟩
  go_wp2_with fail
  refine (H2.out w1 hb1.size).mono ?_
  rintro e w2 ⟨vb, rfl, ho2, hg2, -⟩
  rw [List.nil_append] at ho2
  have hb2 : Below w1.heap.size w1 w2 := ⟨hg2.os, hg2.tape, hg2.output, hg2.size, fun k hk => hg2.block k hk (by simp [Value.ownBlock])⟩
  have HTA := hide (ho1.below hb2).texts
  have HTB := hide ho2.texts
  have HBW := hide (hb1.trans (hb2.mono hb1.size))
  obtain ⟨aa, ca, rfl, -⟩ := HTA.out
  obtain ⟨ab, cb, rfl, -⟩ := HTB.out
  clear ho1 hg1 ho2 hg2 hb1 hb2 H1 H2
  go_wp2_with fail
  go_loopw [11] (fun vn wq => ∃ k : Nat, vn = I k ∧ k ≤ LA.length ∧ Clear LA LB k ∧ Below w2.heap.size w2 wq) (fun vn _ => LA.length - (intOf vn).toNat)
  case atStart => exact ⟨0, rfl, by omega, fun _ _ h => absurd h (by omega), Below.refl _ _⟩
  case round =>
    obtain ⟨k, rfl, hk, hcl, hbq⟩ := hrel
    have HCL := hide hcl
    have HBQ := hide hbq
    clear hcl hbq
    by_cases hlt : k < LA.length
    · go_wp2_with fail
      go_loopw [12] (fun vm wq => ∃ j : Nat, vm = I j ∧ j ≤ LB.length ∧ (∀ i (h : i < LB.length), i < j → LA[k] ≠ LB[i] → Sha.sha LA[k] ≠ Sha.sha LB[i]) ∧ Below w2.heap.size w2 wq) (fun vm _ => LB.length - (intOf vm).toNat)
      case atStart => exact ⟨0, rfl, by omega, fun _ _ h => absurd h (by omega), HBQ.out⟩
      case round =>
        clear HBQ
        obtain ⟨j, rfl, hj, hcj, hbr⟩ := hrel
        have HCJ := hide hcj
        have HBR := hide hbr
        clear hcj hbr
        by_cases hltj : j < LB.length
        · have hta := HTA.out.below HBR.out
          have htb := HTB.out.below HBR.out
          obtain ⟨a', c', e', hga⟩ := hta
          obtain ⟨ga, e2, hca⟩ := hga (fun e => by subst e; simp at hlt)
          obtain ⟨a2', c2', e3, hgb⟩ := htb
          obtain ⟨gb, e4, hcb⟩ := hgb (fun e => by subst e; simp at hltj)
          injection e' with e5 e6 e7
          injection e3 with e8 e9 e10
          rw [e2] at e5
          rw [e4] at e8
          subst e5 e8
          have ka := hca k hlt
          have kb := hcb j hltj
          have la := HSA.out _ (List.getElem_mem hlt)
          have lb := HSB.out _ (List.getElem_mem hltj)
          generalize hAk : LA[k] = TA at *
          generalize hBj : LB[j] = TB at *
          have HAk := hide hAk
          have HBj := hide hBj
          clear hca hcb hga hgb e2 e4 e6 e7 e9 e10 hAk hBj
          by_cases hab : TA = TB
          · subst hab
            go_wp2_with fail
            go_quiet (fail)
            go_wp2_with fail
            refine ⟨⟨j + 1, by go_num, by omega, fun i hi hij hne => ?_, below_drewN HBR.out _⟩, by simp [intOf]; omega⟩
            rcases Nat.lt_or_ge i j with h | h
            · exact HCJ.out i hi h hne
            · have e : i = j := by omega
              subst e
              exact absurd HBj.out.symm hne
          · have hne : (TA == TB) = false := by simpa using hab
            obtain ⟨DA, hDA⟩ : ∃ L, (Sha.sha TA).map Y = L := ⟨_, rfl⟩
            obtain ⟨DB, hDB⟩ : ∃ L, (Sha.sha TB).map Y = L := ⟨_, rfl⟩
            have dA : Dig DA := hDA ▸ dig_of _
            have dB : Dig DB := hDB ▸ dig_of _
            have hEq := eqArr (Sha.sha TA) (Sha.sha TB) rfl rfl
            rw [hDA, hDB] at hEq
            have HEq := hide hEq
            have HDA := hide hDA
            have HDB := hide hDB
            clear hDA hDB hEq
            go_wp2_with fail
            go_quiet (fail)
            generalize hW : World.drewN _ _ = w3
            have hb3 : Below w2.heap.size w2 w3 := by rw [← hW]; exact below_drewN HBR.out _
            have ka3 : w3.cell? ⟨ga, k, none⟩ = some (Sv TA) := by rw [← hW]; exact ka
            have kb3 : w3.cell? ⟨gb, j, none⟩ = some (Sv TB) := by rw [← hW]; exact kb
            have hK3 : KT w3 := HK.out.below (HBW.out.trans (hb3.mono HBW.out.size))
            have HB3 := hide hb3
            have HK3 := hide hK3
            clear hW ka kb hb3 hK3
            go_wp2_with fail
            refine (dig_text TA DA w3 la HK3.out HDA.out).mono ?_
            rintro e w4 ⟨rfl, hb4⟩
            have HK4 := hide (HK3.out.below hb4)
            have kb4 := fun o => (World.cell?_alloc_lt w4 o ⟨gb, j, none⟩ (Nat.lt_of_lt_of_le (block_lt_of_cell kb3) hb4.size)).trans ((hb4.cell (p := ⟨gb, j, none⟩) (block_lt_of_cell kb3)).trans kb3)
            go_wp2_with (refine wpList_store_row rfl 39 (.tmp 13) (.tmp 64) rfl w4.heap.size DA.toArray rfl rfl 39 _ (heap_alloc_new w4 _) dA.info (by rw [dA.size]; rfl) dA.one ?_; rw [World.setRow_alloc_new])
            refine (dig_text TB DB _ lb (HK4.out.below ((Below.refl _ _).alloc (Nat.le_refl _) _)) HDB.out).mono ?_
            rintro e w5 ⟨rfl, hb5⟩
            have z4 : w4.heap.size < w5.heap.size := by have := hb5.size; simp at this; omega
            have rA : ∀ o, (w5.alloc o).heap[w4.heap.size]? = some (.cells DA.toArray 39 (0, 0)) := fun o => (Below.heap_alloc _ _ _ z4).trans ((hb5.block w4.heap.size (by simp)).trans (heap_alloc_new w4 _))
            have HRA := hide rA
            have HB5 := hide (fun o => ((HB3.out.trans (hb4.mono HB3.out.size)).alloc (Nat.le_trans HB3.out.size hb4.size) _).trans (hb5.mono (by simp; exact Nat.le_succ_of_le (Nat.le_trans HB3.out.size hb4.size))) |>.alloc (by
              have h1 := HB3.out.size
              have h2 := hb4.size
              omega) o)
            clear rA hb4 hb5 ka3 kb3 kb4
            by_cases hsh : Sha.sha TA = Sha.sha TB
            · have hE : ∀ W, (Op.equalIn 10000 39 (.agg DA.toArray) (.agg DB.toArray)).run Tryz.prog W = .ok true W := fun W => by rw [HEq.out W, decide_eq_true hsh]
              go_wp2_with (first | (refine wpList_store_row rfl 39 (.tmp 14) (.tmp 69) rfl w5.heap.size DB.toArray rfl rfl 39 _ (heap_alloc_new w5 _) dB.info (by rw [dB.size]; rfl) dB.one ?_; rw [World.setRow_alloc_new]) | (refine wpList_load_row rfl 39 (.tmp 13) rfl w4.heap.size rfl 39 DA.toArray (0, 0) _ (HRA.out _) Tryz.underlying39 rfl dA.info ?_) | (refine wpList_load_row rfl 39 (.tmp 14) rfl w5.heap.size rfl 39 DB.toArray (0, 0) _ (heap_alloc_new w5 _) Tryz.underlying39 rfl dB.info ?_))
              go_ret
              exact ⟨true, rfl, fun h => absurd h (by decide), HBW.out.trans ((HB5.out _).mono HBW.out.size)⟩
            · have hE : ∀ W, (Op.equalIn 10000 39 (.agg DA.toArray) (.agg DB.toArray)).run Tryz.prog W = .ok false W := fun W => by rw [HEq.out W, decide_eq_false hsh]
              go_wp2_with (first | (refine wpList_store_row rfl 39 (.tmp 14) (.tmp 69) rfl w5.heap.size DB.toArray rfl rfl 39 _ (heap_alloc_new w5 _) dB.info (by rw [dB.size]; rfl) dB.one ?_; rw [World.setRow_alloc_new]) | (refine wpList_load_row rfl 39 (.tmp 13) rfl w4.heap.size rfl 39 DA.toArray (0, 0) _ (HRA.out _) Tryz.underlying39 rfl dA.info ?_) | (refine wpList_load_row rfl 39 (.tmp 14) rfl w5.heap.size rfl 39 DB.toArray (0, 0) _ (heap_alloc_new w5 _) Tryz.underlying39 rfl dB.info ?_))
              refine ⟨⟨j + 1, by go_num, by omega, fun i hi hij hne => ?_, HB5.out _⟩, by simp [intOf]; omega⟩
              rcases Nat.lt_or_ge i j with h | h
              · exact HCJ.out i hi h hne
              · have e : i = j := by omega
                subst e
                rw [HBj.out]
                exact hsh
        · have ej : j = LB.length := by omega
          subst ej
          go_wp2_with fail
          refine ⟨⟨k + 1, by go_num, by omega, fun i hi hik b hb hne => ?_, HBR.out⟩, by simp [intOf]; omega⟩
          rcases Nat.lt_or_ge i k with h | h
          · exact HCL.out i hi h b hb hne
          · have e : i = k := by omega
            subst e
            obtain ⟨q, hq, rfl⟩ := List.getElem_of_mem hb
            exact HCJ.out q hq hq hne
    · have ek : k = LA.length := by omega
      subst ek
      go_wp2
      go_ret
      refine ⟨false, rfl, fun _ a ha b hb hne => ?_, HBW.out.trans (HBQ.out.mono HBW.out.size)⟩
      obtain ⟨q, hq, rfl⟩ := List.getElem_of_mem ha
      exact HCL.out q hq hq b hb hne
end Go.Proofs.YtenaelkbgkpllaaGreatDoor
/- A map filled beside others. -/
namespace Go.Proofs.YtenaelkbgkpllaaGreatDoor
open Go.RowKit

theorem Own.zero {w : World} {B : Nat} {v : Value} {L : List Ward.Pt} (h : Own w B v L) : Own w 0 v L := by
  refine ⟨h.1, ?_⟩
  rcases h.2 with h0 | ⟨g, cap, cur, rfl, hb, r⟩
  · exact .inl h0
  · exact .inr ⟨g, cap, cur, rfl, Nat.zero_le _, r⟩
/-- a map and a list, made anew, all else as it was -/
structure Fill (w w' : World) (m : Nat) (v : Value) (L : List Ward.Pt) (vl : Value) (l : List Ward.Pt) : Prop where
  map : IsMap w' m v L
  good : Good L
  list : Own w' w.heap.size vl l
  newm : w.heap.size ≤ m
  newv : ∀ g, v.ownBlock = some g → w.heap.size ≤ g
  apart : ∀ g, vl.ownBlock = some g → ¬ Mine m v g
  keeps : Below w.heap.size w w'
section
variable {w w' w'' : World} {m : Nat} {v v' vl vl' : Value} {L L' l l' : List Ward.Pt}
theorem Fill.below (h : Fill w w' m v L vl l) (hb : Below w'.heap.size w' w'') : Fill w w'' m v L vl l :=
  ⟨h.map.below hb, h.good, h.list.below hb, h.newm, h.newv, h.apart, h.keeps.trans (hb.mono h.keeps.size)⟩
theorem keeps_new {S : Nat → Prop} (h : Below w.heap.size w w') (hk : Keeps S w' w'') (hS : ∀ j, S j → w.heap.size ≤ j) : Below w.heap.size w w'' :=
  ⟨hk.os.trans h.os, hk.tape.trans h.tape, hk.output.trans h.output, Nat.le_trans h.size hk.size, fun j hj => (hk.block j (Nat.lt_of_lt_of_le hj h.size) (fun e => by have := hS j e; omega)).trans (h.block j hj)⟩
theorem Fill.insert (h : Fill w w' m v L vl l) (hm : IsMap w'' m v' L') (hG : Good L') (hf : Fresh w' v v') (hk : Keeps (Mine m v) w' w'') : Fill w w'' m v' L' vl l := by
  have h2 := h.keeps.size
  refine ⟨hm, hG, h.list.keeps hk h.apart, h.newm, fun g hg => ?_, fun g hg e => ?_, keeps_new h.keeps hk (fun j e => ?_)⟩
  · rcases hf with hf | ⟨g', hf, hg'⟩
    · exact h.newv g (by rw [← hf]; exact hg)
    · rw [hg] at hf; injection hf with hf; omega
  · rcases e with rfl | e
    · exact h.apart g hg (.inl rfl)
    · rcases hf with hf | ⟨g', hf, hg'⟩
      · exact h.apart g hg (.inr (by rw [← hf]; exact e))
      · rw [← e] at hf
        injection hf with hf
        have := h.list.lt hg
        omega
  · rcases e with rfl | e
    · exact h.newm
    · exact h.newv j e.symm
theorem Fill.append (h : Fill w w' m v L vl l) (ho : Own w'' w.heap.size vl' l') (hg : w'.grownBy w'' vl.ownBlock) (hf : Fresh w' vl vl') : Fill w w'' m v L vl' l' := by
  have hk := Keeps.of_grown hg
  refine ⟨h.map.keeps hk (fun j hj e => h.apart j e.symm hj), h.good, ho, h.newm, h.newv, fun g hg' e => ?_, keeps_new h.keeps hk (fun j e => h.list.ge e.symm)⟩
  rcases hf with hf | ⟨g', hf, hg''⟩
  · exact h.apart g (by rw [← hf]; exact hg') e
  · rw [hg'] at hf
    injection hf with hf
    have hlt : g < w'.heap.size := by
      rcases e with rfl | e
      · exact h.map.lt
      · exact h.map.own.lt e.symm
    omega
end
/-- the query that has all shown, where it is laid -/
def WT (w : World) : Prop := w.cell? ⟨0, 0, none⟩ = some (I 0) ∧ w.cell? ⟨0, 1, none⟩ = some (I (-1000000)) ∧ w.cell? ⟨0, 2, none⟩ = some (I (-1000000)) ∧ w.cell? ⟨0, 3, none⟩ = some (I 1000000) ∧ w.cell? ⟨0, 4, none⟩ = some (I 1000000) ∧ w.cell? ⟨0, 5, none⟩ = some (I 0) ∧ w.cell? ⟨0, 6, none⟩ = some (I 0) ∧ w.cell? ⟨0, 7, none⟩ = some (I 0)
theorem WT.below {w w' : World} (h : WT w) (hb : Below w.heap.size w w') : WT w' := by
  obtain ⟨h0, h1, h2, h3, h4, h5, h6, h7⟩ := h
  have hl : 0 < w.heap.size := block_lt_of_cell h0
  exact ⟨(hb.cell (p := ⟨0, 0, none⟩) hl).trans h0, (hb.cell (p := ⟨0, 1, none⟩) hl).trans h1, (hb.cell (p := ⟨0, 2, none⟩) hl).trans h2, (hb.cell (p := ⟨0, 3, none⟩) hl).trans h3, (hb.cell (p := ⟨0, 4, none⟩) hl).trans h4, (hb.cell (p := ⟨0, 5, none⟩) hl).trans h5, (hb.cell (p := ⟨0, 6, none⟩) hl).trans h6, (hb.cell (p := ⟨0, 7, none⟩) hl).trans h7⟩
/-- two maps and lists of their points -/
structure Pair (w : World) (m : Nat) (v : Value) (L : List Ward.Pt) (vl : Value) (l : List Ward.Pt) : Prop where
  map : IsMap w m v L
  good : Good L
  list : Own w 0 vl l
  perm : L.Perm l
theorem Pair.below {w w' : World} {m : Nat} {v vl : Value} {L l : List Ward.Pt} (h : Pair w m v L vl l) (hb : Below w.heap.size w w') : Pair w' m v L vl l := ⟨h.map.below hb, h.good, h.list.below hb, h.perm⟩
theorem Held.pair {B : Nat} {w w' : World} {d k m : Nat} {code : List Int} {v vl : Value} {L l : List Ward.Pt} (h : Held B w w' d code k m v L vl l) (hp : L.Perm l) : Pair w' m v L vl l := ⟨h.map, h.good, h.list.zero, hp⟩
theorem Fill.pair {w w' : World} {m : Nat} {v vl : Value} {L l : List Ward.Pt} (h : Fill w w' m v L vl l) (hp : L.Perm l) : Pair w' m v L vl l := ⟨h.map, h.good, h.list.zero, hp⟩
/-- the dice as they are laid -/
theorem dice_new {w : World} {a : Option Addr} {c : Nat} {code : List Int} (hlen : code.length ≤ 140737488355328) (hfit : ∀ x ∈ code, -9223372036854775808 ≤ x ∧ x ≤ 9223372036854775807) (hcells : code ≠ [] → ∃ g o, a = some ⟨g, o, none⟩ ∧ ∀ i (h : i < code.length), w.cell? ⟨g, o + i, none⟩ = some (I code[i])) :
    Dice (w.alloc (.cells #[.slice a code.length c, I 0] 32)) (w.heap.size + 1) w.heap.size code 0 := by
  refine ⟨a, c, heap_alloc_new w _, Nat.zero_le _, Nat.lt_succ_self _, hlen, hfit, fun hne => ?_⟩
  obtain ⟨g, o, rfl, hc⟩ := hcells hne
  have hg : g < w.heap.size := block_lt_of_cell (hc 0 (by have : code.length ≠ 0 := fun e => hne (List.length_eq_zero_iff.1 e); omega))
  exact ⟨g, o, rfl, by omega, by omega, fun i hi => (World.cell?_alloc_lt w _ ⟨g, o + i, none⟩ hg).trans (hc i hi)⟩
end Go.Proofs.YtenaelkbgkpllaaGreatDoor
/- Commitments compared. -/
namespace Go.Proofs.YtenaelkbgkpllaaGreatDoor
open Go.RowKit

/-- a digest and a number as values -/
def rootV (l : List UInt8) (n : Int) : List Value := l.map Y ++ [I n]
theorem Tryz.infoCommit : (Tryz.prog.info? 41).map (·.size) = some 33 := by kernel_rfl
theorem rootV_len (l : List UInt8) (n : Int) (h : l.length = 32) : (rootV l n).length = 33 := by simp [rootV, h]
theorem rootV_one (l : List UInt8) (n : Int) : (rootV l n).toArray.all (·.oneCell') = true := by
  rw [List.all_toArray, List.all_eq_true]
  intro v hv
  rcases List.mem_append.1 hv with hv | hv
  · obtain ⟨b, _, rfl⟩ := List.mem_map.1 hv; rfl
  · rw [List.mem_singleton.1 hv]; rfl
theorem part_root (l : List UInt8) (n : Int) (h : l.length = 32) (W : World) : (part 39 (rootV l n).toArray 0).run Tryz.prog W = .ok (.agg (l.map Y).toArray) W := by
  have a := Tryz.isAgg39 W
  have e : List.take 32 (rootV l n) = List.map Y l := by
    rw [rootV, List.take_append_of_le_length (by simp [h]), List.take_of_length_le (by simp [h])]
  simp [part, Sem.run_bind, a, e]
theorem part_count (l : List UInt8) (n : Int) (h : l.length = 32) (W : World) : (part 3 (rootV l n).toArray 32).run Tryz.prog W = .ok (I n) W := by
  have e : (rootV l n).toArray[32]? = some (I n) := by
    rw [List.getElem?_toArray, rootV, List.getElem?_append_right (by simp [h])]
    simp [h]
  simp [part, Sem.run_bind, Tryz.isAgg3, e]
theorem eqCommit (l m : List UInt8) (a b : Int) (hl : l.length = 32) (hm : m.length = 32) (W : World) :
    (Op.equalIn 10000 41 (.agg (rootV l a).toArray) (.agg (rootV m b).toArray)).run Tryz.prog W = .ok (decide (l = m) && (a == b)) W := by
  have hS : Tryz.prog.underlying 41 = some (.struct (Tryz.prog.fieldsOf 41)) := by kernel_rfl
  have hp : Tryz.prog.stoodInHeld 41 = false := by kernel_rfl
  rw [show (10000 : Nat) = 9999 + 1 from rfl, run_equalIn_agg W 9999 41 _ _ hS hp]
  simp only [Program.fieldsOf, Tryz.underlying41]
  have e2 : (Op.equalIn 9999 3 (I a) (I b)).run Tryz.prog W = .ok (a == b) W := run_equalIn_int W 9998 3 .i64 .i64 a b Tryz.underlying3
  simp only [Op.eqFields, Sem.run_bind, Sem.run_ite, part_root l a hl, part_root m b hm, part_count l a hl, part_count m b hm, Result.andThen_ok, eqArrD 9997 l m hl hm W, e2]
  cases decide (l = m) <;> cases a == b <;> simp
/-- what a commitment is as values -/
def commitV (L : List Ward.Pt) : List Value := rootV (Sha.sha (Ward.rootText Sha.sha L)) L.length
/-- a commitment's values, kept shut -/
structure Com (C : List Value) : Prop where
  size : C.toArray.size = 33
  one : C.toArray.all (·.oneCell') = true
  info : (Tryz.prog.info? 41).map (·.size) = some C.toArray.size
theorem com_of (L : List Ward.Pt) : Com (commitV L) := by
  have h : (commitV L).toArray.size = 33 := by rw [List.size_toArray]; exact rootV_len _ _ rfl
  exact ⟨h, rootV_one _ _, by rw [h]; exact Tryz.infoCommit⟩
theorem eqCom (L L' : List Ward.Pt) (W : World) : (Op.equalIn 10000 41 (.agg (commitV L).toArray) (.agg (commitV L').toArray)).run Tryz.prog W = .ok (decide (Sha.sha (Ward.rootText Sha.sha L) = Sha.sha (Ward.rootText Sha.sha L')) && ((L.length : Int) == (L'.length : Int))) W := eqCommit _ _ _ _ rfl rfl W
theorem sha_len (l : List UInt8) : (Sha.sha l).length = 32 := rfl
theorem WT.cells {w : World} (h : WT w) : w.cell? ⟨0, 0, none⟩ = some (I 0) ∧ w.cell? ⟨0, 1, none⟩ = some (I (-1000000)) ∧ w.cell? ⟨0, 2, none⟩ = some (I (-1000000)) ∧ w.cell? ⟨0, 3, none⟩ = some (I 1000000) ∧ w.cell? ⟨0, 4, none⟩ = some (I 1000000) ∧ w.cell? ⟨0, 5, none⟩ = some (I 0) ∧ w.cell? ⟨0, 6, none⟩ = some (I 0) ∧ w.cell? ⟨0, 7, none⟩ = some (I 0) := h
/-- of two maps that are not alike, with one commitment, two texts of one digest are found -/
theorem found_of {L L' : List Ward.Pt} {r : Bool} (h : Good L) (h' : Good L') (hne : L ≠ L') (e : Sha.sha (Ward.rootText Sha.sha L) = Sha.sha (Ward.rootText Sha.sha L'))
    (hr : r = false → ∀ a ∈ Ward.alls _ (Ward.rootShow Sha.sha L), ∀ b ∈ Ward.alls _ (Ward.rootShow Sha.sha L'), a ≠ b → Sha.sha a ≠ Sha.sha b) : r = true := by
  cases r with
  | true => rfl
  | false =>
    obtain ⟨a, ha, b, hb, h1, h2⟩ := Ward.root_found sha_len h.ok h'.ok hne e
    exact absurd h2 (hr rfl a ha b hb h1)
/-- collide of two whole proofs -/
theorem collide_of (L L' : List Ward.Pt) (w : World) (h : Good L) (h' : Good L') (hK : KT w) :
    Calls Tryz.prog 18 #[Sv (Ward.fullText Sha.sha L), Sv (Ward.fullText Sha.sha L')] w fun e w' => ∃ r : Bool, e = .returned (.bool r) ∧ (r = false → ∀ a ∈ Ward.alls _ (Ward.rootShow Sha.sha L), ∀ b ∈ Ward.alls _ (Ward.rootShow Sha.sha L'), a ≠ b → Sha.sha a ≠ Sha.sha b) ∧ Below w.heap.size w w' := by
  have h1 := Nat.le_trans h.many (show 150 ≤ 256 by decide)
  have h2 := Nat.le_trans h'.many (show 150 ≤ 256 by decide)
  have d1 := Ward.tree_depth h1
  have d2 := Ward.tree_depth h2
  have l1 := Ward.fullText_len sha_len h.ok h1
  have l2 := Ward.fullText_len sha_len h'.ok h2
  exact collide_any ⟨(Ward.fullText Sha.sha L).toArray⟩ ⟨(Ward.fullText Sha.sha L').toArray⟩ _ _ (Ward.rootShow Sha.sha L) (Ward.rootShow Sha.sha L') w (Ward.root_wf sha_len h.ok) (Ward.root_wf sha_len h'.ok)
    (by show (Ward.fullText Sha.sha L).toArray.toList = _; rw [List.toList_toArray, Ward.root_shows]) (by show (Ward.fullText Sha.sha L').toArray.toList = _; rw [List.toList_toArray, Ward.root_shows]) (by omega) (by omega)
    (Nat.le_trans (Ward.root_few Sha.sha h.ok h1) (by decide)) (Nat.le_trans (Ward.root_few Sha.sha h'.ok h2) (by decide))
    (by show (Ward.fullText Sha.sha L).toArray.size ≤ _; rw [List.size_toArray]; omega) (by show (Ward.fullText Sha.sha L').toArray.size ≤ _; rw [List.size_toArray]; omega) hK
theorem fulls_eq {L L' : List Ward.Pt} {al : Bool} (h : Good L) (h' : Good L') (hal : al = true ↔ L = L') : (Ward.fullText Sha.sha L == Ward.fullText Sha.sha L') = al := by
  rw [Bool.eq_iff_iff, beq_iff_eq, hal]
  exact ⟨fun e => Ward.fullText_inj sha_len h.ok h'.ok e, fun e => by rw [e]⟩
theorem full_some (L : List Ward.Pt) : Ward.fullText Sha.sha L ≠ [] := Ward.full_ne _ _ _
end Go.Proofs.YtenaelkbgkpllaaGreatDoor
/- One level of nodes above another: the parts. -/
namespace Go.Proofs.YtenaelkbgkpllaaGreatDoor
open Go.RowKit

def zeroNode : Value := .agg (nodeV (.slice none 0 0) (.slice none 0 0) ⟨0, 0, 0, 0⟩ 0 zero32).toArray
theorem Tryz.infoNodeZ : (Tryz.prog.info? 90).map (fun i => (i.zero, i.size, i.bytes)) = some (some zeroNode, 39, 120) := by kernel_rfl
theorem fill_one {s : Nat} (hs : 0 < s) (M cells : Array Value) (hM : M.size = s) (hc : cells.size = s) : Instr.fill (fun i => some (i * s, s)) cells [(0, .agg M)] = some M := by
  obtain ⟨r, hr, hsz, hk⟩ := Great.fill_dense hs [.agg M] 0 cells (fun v hv => by rw [List.mem_singleton.1 hv]; exact hM) (by simp; omega)
  have e : r = M := by
    apply Array.ext_getElem?
    intro k
    rw [hk k]
    by_cases h : k < s
    · rw [if_pos (by simp; omega), Nat.div_eq_of_lt h, Nat.mod_eq_of_lt h]; rfl
    · rw [if_neg (by simp; omega), Array.getElem?_eq_none (by omega), Array.getElem?_eq_none (by omega)]
  subst e
  exact hr
theorem ownsRow_below {w w' : World} {B e size n : Nat} {v : Value} {xs : List Value} (h : w.ownsRow B e size v n xs) (hb : Below w.heap.size w w') : w'.ownsRow B e size v n xs := by
  refine ⟨h.1, ?_⟩
  rcases h.2 with h0 | ⟨g, cap, cur, rfl, hB, hg, r⟩
  · exact .inl h0
  · exact .inr ⟨g, cap, cur, rfl, hB, (hb.block g (Array.getElem?_eq_some_iff.1 hg).1).trans hg, r⟩
/-- a node put behind others -/
theorem append_node {w : World} {B : Nat} {v : Value} {n : Nat} {xs : List Value} (M : List Value) (hM : Row39 M) (hown : w.ownsRow B 90 39 v n xs) (hB : B ≤ w.heap.size) (hn : n ≤ 1000) :
    ∃ v' w', (Builtin.append_ #[86, 86] 86 #[v, .slice (some ⟨w.heap.size, 0, none⟩) 1 1]).run Tryz.prog (w.alloc (.cells M.toArray 90)) = .ok v' w' ∧ w'.ownsRow B 90 39 v' (n + 1) (xs ++ M) ∧ w.grownBy w' v.ownBlock ∧ Fresh w v v' := by
  obtain ⟨i0, hi0, hz0, hz1, hz2⟩ := info_parts Tryz.infoNodeZ
  obtain ⟨v', w', hr, ho, hg, hf⟩ := run_append_own2 (P := Tryz.prog) (w.alloc (.cells M.toArray 90)) B 86 86 90 i0 zeroNode 39 120 Tryz.underlying86 hi0 hz0 hz1 hz2 (nodeV_size (by rfl)) (by decide) v n xs (hown.alloc _) ⟨w.heap.size, 0, none⟩ 1 1 M (by rw [hM.len])
    (fun j u hj => by rw [Addr.add_lit, Nat.zero_add, cell_of_row _ _ _ _ _ _ (heap_alloc_new w _), List.getElem?_toArray]; exact hj)
    (fun u hu => Array.all_eq_true_iff_forall_mem.1 hM.one u (by simpa using hu)) (by unfold maxLen; omega) (by omega) (by simp; omega)
  refine ⟨v', w', hr, ho, ⟨hg.os, hg.tape, hg.output, Nat.le_trans (by simp) hg.size, fun j hj hne => (hg.block j (by simp; omega) hne).trans (Below.heap_alloc w _ j hj)⟩, ?_⟩
  rcases hf with hf | ⟨g, hf, hgs⟩
  · exact .inl hf
  · exact .inr ⟨g, hf, Nat.le_trans (by simp) hgs⟩
theorem flat_get {c : Nat} : ∀ (Us : List (List Value)) (j i : Nat), (∀ U ∈ Us, U.length = c) → i < c → Us.flatten[j * c + i]? = (Us[j]?).bind (fun U => U[i]?)
  | [], j, i, _, _ => by simp
  | U :: Us, 0, i, h, hi => by
    rw [List.flatten_cons, Nat.zero_mul, Nat.zero_add, List.getElem?_append_left (by rw [h U (by simp)]; exact hi)]
    rfl
  | U :: Us, j + 1, i, h, hi => by
    have hU := h U (by simp)
    have e : (j + 1) * c + i = c + (j * c + i) := by rw [Nat.succ_mul]; omega
    rw [List.flatten_cons, e, List.getElem?_append_right (by omega), hU, Nat.add_sub_cancel_left, flat_get Us j i (fun V hV => h V (by simp [hV])) hi]
    rfl
/-- a level of the tree: nodes in a row -/
def Level (w : World) (S : Nat → Prop) (v : Value) (n : Nat) (K : List (Ward.NT n)) : Prop := RowsAt (NodeIs w S n) w S v K ∧ ∃ a c, v = .slice a K.length c ∧ K.length ≤ c ∧ c ≤ maxLen
theorem level_of_own {w : World} {S : Nat → Prop} {B n m : Nat} {v : Value} {K : List (Ward.NT n)} {f : Nat → List Value} (ho : w.ownsRow B 90 39 v m ((List.range m).flatMap f)) (hK : K.length = m) (hm : 0 < m) (h39 : ∀ j, j < m → (f j).length = 39) (hn : ∀ j (h : j < K.length), NodeIs w S n K[j] (f j)) (hS : ∀ g, B ≤ g → g < w.heap.size → S g) : Level w S v n K := by
  have ho' := ho
  rcases ho.2 with ⟨_, h0⟩ | ⟨g, cap, cur, rfl, hB, hg, hcap, hmax, hcs, htake⟩
  · omega
  · subst hK
    refine ⟨⟨some ⟨g, 0, none⟩, cap, rfl, fun _ => ⟨g, 0, rfl, hS g hB (Array.getElem?_eq_some_iff.1 hg).1, fun j hj => ⟨f j, hn j hj, fun i u hu => ?_⟩⟩⟩, _, _, rfl, hcap, hmax⟩
    have hi : i < 39 := by rw [← h39 j hj]; exact (List.getElem?_eq_some_iff.1 hu).1
    have h := ho'.cells (g := g) rfl (j * 39 + i) u (by
      rw [List.flatMap_def, flat_get _ j i (fun U hU => by
        obtain ⟨k, hk, rfl⟩ := List.mem_map.1 hU
        exact h39 k (List.mem_range.1 hk)) hi]
      rw [List.getElem?_map, List.getElem?_range hj]
      exact hu)
    rw [Addr.add_lit] at h
    rw [Nat.zero_add] at h ⊢
    exact h
namespace Ward
/-- a node above these -/
def upN (n : Nat) (G : List (NT n)) : NT (n + 1) := ⟨[], G, boxL (G.map (boxN n)), (G.map (numN n)).sum, Sha.sha (textK n G)⟩
theorem sum_nat : ∀ (l : List Nat), (l.map (fun (x : Nat) => (x : Int))).sum = (l.sum : Nat)
  | [] => rfl
  | x :: l => by rw [List.map_cons, List.sum_cons, List.sum_cons, sum_nat l]; omega
theorem up_mk (n : Nat) (G : List (T n)) : upN (n + 1) (G.map (mk Sha.sha n)) = mk Sha.sha (n + 1) G := by
  have h1 : (G.map (mk Sha.sha n)).map (boxN (n + 1)) = G.map (box n) := by
    rw [List.map_map]; exact List.map_congr_left fun c _ => mk_box Sha.sha n c
  have h2 : ((G.map (mk Sha.sha n)).map (numN (n + 1))).sum = ((G.map (count n)).sum : Nat) := by
    rw [← sum_nat, List.map_map, List.map_map]
    congr 1
    exact List.map_congr_left fun c _ => mk_num Sha.sha n c
  unfold upN
  rw [h1, h2, mk_text]
  rfl
theorem fours_map {α β : Type} (f : α → β) (l : List α) : fours (l.map f) = (fours l).map (List.map f) := by
  simp [fours, List.map_drop, List.map_take]
end Ward
/-- the cells of a node above a group -/
def upV (g o n : Nat) (K : List (Ward.NT n)) (j : Nat) : List Value := nodeV (.slice none 0 0) (groupV 39 g o K.length j) (Ward.boxL (((K.drop (4 * j)).take 4).map (Ward.boxN n))) ((((K.drop (4 * j)).take 4).map (Ward.numN n)).sum) ((Sha.sha (Ward.textK n ((K.drop (4 * j)).take 4))).map Y)
theorem upV_row (g o n : Nat) (K : List (Ward.NT n)) (j : Nat) : Row39 (upV g o n K j) := nodeV_row (sha_len _)
theorem group_rows {w : World} {S : Nat → Prop} {g o n : Nat} {K : List (Ward.NT n)} {P : Ward.NT n → List Value → Prop} (hB : S g) (h : ∀ i (h : i < K.length), ∃ U, P K[i] U ∧ w.rangeAt g (o + i * 39) U) (j : Nat) :
    RowsAt P w S (groupV 39 g o K.length j) ((K.drop (4 * j)).take 4) := by
  have hl : ((K.drop (4 * j)).take 4).length = min 4 (K.length - 4 * j) := by simp
  refine ⟨some ⟨g, o + 4 * j * 39, none⟩, min 4 (K.length - 4 * j), by rw [hl]; rfl, fun _ => ⟨g, o + 4 * j * 39, rfl, hB, fun i hi => ?_⟩⟩
  rw [hl] at hi
  obtain ⟨U, hU, hr⟩ := h (4 * j + i) (by omega)
  refine ⟨U, ?_, ?_⟩
  · rw [List.getElem_take, List.getElem_drop]
    exact hU
  · rw [show o + 4 * j * 39 + i * 39 = o + (4 * j + i) * 39 by omega]
    exact hr
end Go.Proofs.YtenaelkbgkpllaaGreatDoor
/- One level of nodes above another: the call. -/
namespace Go.Proofs.YtenaelkbgkpllaaGreatDoor
open Go.RowKit

theorem range_flat_step (f : Nat → List Value) (i : Nat) : (List.range (i + 1)).flatMap f = (List.range i).flatMap f ++ f i := by
  rw [List.range_succ, List.flatMap_append]; simp
theorem up_is {w : World} {S : Nat → Prop} {g o n : Nat} {K : List (Ward.NT n)} (hB : S g) (h : ∀ i (h : i < K.length), ∃ U, NodeIs w S n K[i] U ∧ w.rangeAt g (o + i * 39) U) (j : Nat) (hj : j < ((Ward.fours K).map (Ward.upN n)).length) :
    NodeIs w S (n + 1) ((Ward.fours K).map (Ward.upN n))[j] (upV g o n K j) := by
  rw [List.getElem_map, Ward.fours_get]
  exact ⟨.slice none 0 0, groupV 39 g o K.length j, rfl, sha_len _, ⟨none, 0, rfl, fun e => absurd rfl e⟩, group_rows hB h j⟩
set_option maxRecDepth 100000 in
set_option maxHeartbeats 4000000 in
theorem above_any (v : Value) (n : Nat) (K : List (Ward.NT n)) (w : World) (S : Nat → Prop) (hS : ∀ g, S g → g < w.heap.size) (h0 : K ≠ []) (hK : K.length ≤ 1000) (hk : Level w S v n K) (hnum : ∀ t ∈ K, 0 ≤ Ward.numN n t ∧ Ward.numN n t ≤ 1000000) (hKT : KT w) :
    Calls Tryz.prog 72 #[v] w fun e w' => ∃ v', e = .returned v' ∧ Level w' (fun g => S g ∨ w.heap.size ≤ g ∧ g < w'.heap.size) v' (n + 1) ((Ward.fours K).map (Ward.upN n)) ∧ Below w.heap.size w w' := by
  obtain ⟨⟨a, c, rfl, hrd⟩, ⟨a', c', e', hc1, hc2⟩⟩ := hk
  injection e' with e1 e2 e3
  subst e1 e3
  clear e2
  obtain ⟨g, o, rfl, hgS, hrows⟩ := hrd h0
  have hgB := hS g hgS
  have HSS := hide hS
  have HGS := hide hgS
  clear hS hgS
  have HRD := hide hrows
  have HNUM := hide hnum
  have HK := hide hKT
  have hp : 0 < K.length := List.length_pos_iff.2 h0
  obtain ⟨i0, hi0, hz0, hz1, hz2⟩ := info_parts Tryz.infoNodeZ
  have HZ1 := hide hz1
  clear hrd hrows hnum hKT
  go_enter Tryz.func72, Tryz.ntmps72
  go_wp2_with fail
  refine (foursNode_any g o K.length c w hK hc1 hc2).mono ?_
  rintro _ w1 ⟨v7, rfl, ho7, hb1⟩
  obtain ⟨gg, cg, rfl, hgg, hggl⟩ := ho7.form (by omega)
  have HO7 := hide ho7
  have HB1 := hide hb1
  have hm4 : (K.length + 3) / 4 ≤ 1000 := by omega
  have hm0 : 0 < (K.length + 3) / 4 := by omega
  have HM := hide (show (K.length + 3) / 4 ≤ 1000 ∧ 0 < (K.length + 3) / 4 from ⟨hm4, hm0⟩)
  have HML := hide (show ∀ j, j < (K.length + 3) / 4 → 4 * j < K.length from fun j hj => by omega)
  clear ho7 hb1 hm4 hm0
  generalize hmm : (K.length + 3) / 4 = m at *
  have HMM := hide hmm
  clear hmm
  go_wp2_with fail
  go_loopg [3, 9] m (fun gk v3 v9 wq => ∃ i : Nat, gk = m - i ∧ v9 = I i ∧ i ≤ m ∧ wq.ownsRow w1.heap.size 90 39 v3 i ((List.range i).flatMap (upV g o n K)) ∧ Below w1.heap.size w1 wq)
  case atStart => exact ⟨0, by omega, rfl, by omega, World.ownsRow_nil _ _ _ _, Below.refl _ _⟩
  case round =>
    obtain ⟨i, hgk, rfl, hi, ho, hb⟩ := hrel
    have HGK := hide hgk
    have HO := hide ho
    have HB := hide hb
    have hs := hb.size
    clear hgk ho hb
    by_cases hlt : i < m
    · have hm1 := HM.out.1
      have hci : wr.cell? ⟨gg, i, none⟩ = some (groupV 39 g o K.length i) := by
        refine (HB.out.cell (p := ⟨gg, i, none⟩) hggl).trans ?_
        rw [HO7.out.cellAt i (by omega)]
        simp [groupsV, hlt]
      have h4 := HML.out i hlt
      have HBW := hide (HB1.out.trans (HB.out.mono HB1.out.size))
      have hG0 : (K.drop (4 * i)).take 4 ≠ [] := fun e => by
        have := congrArg List.length e
        simp at this
        omega
      have hG4 : ((K.drop (4 * i)).take 4).length ≤ 4 := by simp; omega
      have hGR := group_rows (w := wr) (S := S) (o := o) (K := K) (P := NodeIs wr S n) (g := g) HGS.out (fun j hj => by
        obtain ⟨U, hU, hr⟩ := HRD.out j hj
        exact ⟨U, NodeIs.keep (below_same HBW.out HSS.out) (fun _ h => h) n _ _ hU, rangeAt_below hr HBW.out hgB⟩) i
      have HN := hide (nodeOf_any (groupV 39 g o K.length i) n ((K.drop (4 * i)).take 4) wr S (fun g hg => Nat.lt_of_lt_of_le (HSS.out g hg) HBW.out.size) hG0 hG4 hGR (fun t ht => HNUM.out t (List.mem_of_mem_drop (List.mem_of_mem_take ht))) (HK.out.below HBW.out))
      have HN := hide (show Calls Tryz.prog 113 #[groupV 39 g o K.length i] wr fun e w' => e = .returned (.agg (upV g o n K i).toArray) ∧ Below wr.heap.size wr w' from HN.out)
      have HR := hide (upV_row g o n K i)
      have HST := hide (range_flat_step (upV g o n K) i)
      generalize groupV 39 g o K.length i = gv at *
      generalize upV g o n K i = M at *
      clear hGR hG0 hG4 h4
      go_wp2_with fail
      refine HN.out.mono ?_
      rintro _ w2 ⟨rfl, hb2⟩
      have hs2 := hb2.size
      obtain ⟨v3, w3, h3, ho3, hg3, hf3⟩ := append_node (w := w2) M HR.out (ownsRow_below HO.out hb2) (by omega) (by have := HM.out; omega)
      have HO3 := hide (show w3.ownsRow w1.heap.size 90 39 v3 (i + 1) ((List.range (i + 1)).flatMap (upV g o n K)) by rw [HST.out]; exact ho3)
      have HB3 := hide ((HB.out.trans (hb2.mono hs)).grown hg3 (by omega) (fun k hk => (HO.out.lt k hk).1))
      have HF := hide (fun (cells : Array Value) (hc : cells.size = i0.size) => fill_one (s := i0.size) (by rw [HZ1.out]; decide) M.toArray cells (by rw [HZ1.out, HR.out.size]) hc)
      obtain ⟨a3, c3, e3⟩ : ∃ a c, u3 = .slice a i c := by
        rcases HO.out.2 with ⟨e, h⟩ | ⟨g', c', _, e, _⟩
        · exact ⟨none, 0, by rw [e, h]⟩
        · exact ⟨_, c', e⟩
      subst e3
      clear ho3 hg3 hf3 hb2 HN
      go_wp2_with (first | (refine wpList_buildSlice rfl 86 90 1 #[(0, .tmp 15)] rfl M.toArray i0 zeroNode Tryz.underlying86 hi0 hz0 (by rw [HZ1.out]; decide) (by rw [HZ1.out]; decide) (by rw [Array.toList_map]; exact HF.out _ (by simp)) ?_) | (at_builtin; refine Lib.wpList_append_run _ rfl (.tmp 13) (.tmp 16) 86 86 rfl _ _ rfl rfl _ _ h3 ?_))
      go_roundg (m - (i + 1))
      case measure => have := HGK.out; omega
      case rel => exact ⟨i + 1, rfl, by go_num, by omega, HO3.out, HB3.out⟩
    · have ei : i = m := by omega
      subst ei
      go_wp2
      go_ret
      have hBW := HB1.out.trans (HB.out.mono HB1.out.size)
      refine ⟨_, rfl, level_of_own HO.out (by rw [List.length_map, Ward.fours_length]; exact HMM.out) HM.out.2 (fun j _ => (upV_row g o n K j).len) (fun j hj => ?_) (fun g h1 h2 => .inr ⟨Nat.le_trans HB1.out.size h1, h2⟩), hBW⟩
      exact up_is (.inl HGS.out) (fun j hj => by
        obtain ⟨U, hU, hr⟩ := HRD.out j hj
        exact ⟨U, NodeIs.keep (below_same hBW HSS.out) (fun _ h => .inl h) n _ _ hU, rangeAt_below hr hBW hgB⟩) j hj
end Go.Proofs.YtenaelkbgkpllaaGreatDoor
/- The tree of points. -/
namespace Go.Proofs.YtenaelkbgkpllaaGreatDoor
open Go.RowKit

/-- the cells of a leaf of a group -/
def leafV (g o : Nat) (L : List Ward.Pt) (j : Nat) : List Value := nodeV (groupV 3 g o L.length j) (.slice none 0 0) (Ward.box 0 ((L.drop (4 * j)).take 4)) (((L.drop (4 * j)).take 4).length : Nat) ((Sha.sha (Ward.leafText ((L.drop (4 * j)).take 4))).map Y)
theorem leafV_row (g o : Nat) (L : List Ward.Pt) (j : Nat) : Row39 (leafV g o L j) := nodeV_row (sha_len _)
theorem group_pts {w : World} {S : Nat → Prop} {g o : Nat} {L : List Ward.Pt} (hB : S g) (h : ∀ i (h : i < L.length), PtAt w g (o + i * 3) L[i]) (j : Nat) :
    ReadsS w S (groupV 3 g o L.length j) ((L.drop (4 * j)).take 4) := by
  have hl : ((L.drop (4 * j)).take 4).length = min 4 (L.length - 4 * j) := by simp
  refine ⟨some ⟨g, o + 4 * j * 3, none⟩, min 4 (L.length - 4 * j), by rw [hl]; rfl, fun _ => ⟨g, o + 4 * j * 3, rfl, hB, fun i hi => ?_⟩⟩
  rw [hl] at hi
  have hr := h (4 * j + i) (by omega)
  rw [List.getElem_take, List.getElem_drop, show o + 4 * j * 3 + i * 3 = o + (4 * j + i) * 3 by omega]
  exact hr
theorem leaf_is {w : World} {S : Nat → Prop} {g o : Nat} {L : List Ward.Pt} (hB : S g) (h : ∀ i (h : i < L.length), PtAt w g (o + i * 3) L[i]) (j : Nat) (hj : j < ((Ward.fours L).map (Ward.mk Sha.sha 0)).length) :
    NodeIs w S 1 ((Ward.fours L).map (Ward.mk Sha.sha 0))[j] (leafV g o L j) := by
  rw [List.getElem_map, Ward.fours_get]
  exact ⟨groupV 3 g o L.length j, .slice none 0 0, rfl, sha_len _, group_pts hB h j, ⟨none, 0, rfl, fun e => absurd rfl e⟩⟩
theorem up_level (n : Nat) (ls : List (Ward.T n)) : (Ward.fours (ls.map (Ward.mk Sha.sha n))).map (Ward.upN (n + 1)) = (Ward.fours ls).map (Ward.mk Sha.sha (n + 1)) := by
  rw [Ward.fours_map, List.map_map]
  exact List.map_congr_left fun G _ => Ward.up_mk n G
theorem Level.mono {w : World} {S S' : Nat → Prop} {v : Value} {n : Nat} {K : List (Ward.NT n)} (h : Level w S v n K) (hS : ∀ g, S g → S' g) : Level w S' v n K :=
  ⟨h.1.keep (fun _ _ => rfl) hS (NodeIs.keep (fun _ _ => rfl) hS n), h.2⟩
/-- what Build leaves -/
def Built (w : World) (L : List Ward.Pt) (e : Ending) (w' : World) : Prop :=
  ∃ V, e = .returned (.agg V.toArray) ∧ NodeIs w' (fun g => g < w'.heap.size) ((Ward.tree L).1 + 1) (Ward.mk Sha.sha (Ward.tree L).1 (Ward.tree L).2) V ∧ Below w.heap.size w w'
theorem count_le {n : Nat} {ls : List (Ward.T n)} {L : List Ward.Pt} (h : Ward.ptsL n ls = L) : ∀ t ∈ ls.map (Ward.mk Sha.sha n), 0 ≤ Ward.numN (n + 1) t ∧ Ward.numN (n + 1) t ≤ L.length := by
  intro t ht
  obtain ⟨u, hu, rfl⟩ := List.mem_map.1 ht
  rw [Ward.mk_num, Ward.count_pts]
  have h1 : (Ward.pts n u).length ≤ L.length := by
    rw [← h]
    unfold Ward.ptsL
    have := List.sublist_flatten_of_mem (List.mem_map_of_mem (f := Ward.pts n) hu)
    rw [← List.flatMap_def] at this
    exact this.length_le
  omega
set_option maxRecDepth 100000 in
set_option maxHeartbeats 4000000 in
theorem build_any (v : Value) (L : List Ward.Pt) (w : World) (hL : L.length ≤ 150) (hcap : ∃ a c, v = .slice a L.length c ∧ L.length ≤ c ∧ c ≤ maxLen) (hp : ReadsS w (fun g => g < w.heap.size) v L) (hKT : KT w) :
    Calls Tryz.prog 38 #[v] w fun e w' => Built w L e w' := by
  obtain ⟨a, c, rfl, hc1, hc2⟩ := hcap
  obtain ⟨a', c', e', hrd⟩ := hp
  injection e' with e1 e2 e3
  subst e1 e3
  clear e2
  have HRD := hide hrd
  have HK := hide hKT
  clear hrd hKT
  obtain ⟨fs, hu⟩ := underNode
  have HU := hide hu
  clear hu
  obtain ⟨i0, hi0, hz0, hz1, hz2⟩ := info_parts Tryz.infoNodeZ
  have HZ1 := hide hz1
  have HSZ := hide (show (nodeV (.slice none 0 0) (.slice none 0 0) ⟨0, 0, 0, 0⟩ 0 zero32).toArray.size = 39 from nodeV_size (by rfl))
  clear hz1
  go_enter Tryz.func38, Tryz.ntmps38
  go_upto_region 1 with fail
  have hb0' := fun o => (Below.refl w.heap.size w).alloc (Nat.le_refl _) o
  have hr0' := heap_alloc_new w
  have hs0' := fun o => show (w.alloc o).heap.size = w.heap.size + 1 by simp
  generalize hW : World.alloc w _ = w0
  have hb0 : Below w.heap.size w w0 := by rw [← hW]; exact hb0' _
  have hr0 : w0.heap[w.heap.size]? = some (.cells (nodeV (.slice none 0 0) (.slice none 0 0) ⟨0, 0, 0, 0⟩ 0 zero32).toArray 90 (0, 0)) := by rw [← hW]; exact hr0' _
  have hs0 : w0.heap.size = w.heap.size + 1 := by rw [← hW]; exact hs0' _
  clear hb0' hr0' hs0' hW
  have HB0 := hide hb0
  have HR0 := hide hr0
  have HS0 := hide hs0
  clear hb0 hr0 hs0
  by_cases hne : L = []
  · obtain ⟨E, hE⟩ : ∃ E : List Ward.Pt, E = [] := ⟨[], rfl⟩
    have HT := hide (show Ward.tree L = ⟨0, E⟩ by rw [hE, hne]; rfl)
    have HLF := hide (fun W hK => leafOf_any (.slice none 0 0) E W (by rw [hE]; simp) ⟨none, 0, by rw [hE]; rfl, fun e => absurd hE e⟩ hK)
    have HR := hide (show Row39 (nodeV (.slice none 0 0) (.slice none 0 0) (Ward.box 0 E) ((E.length : Nat) : Int) ((Sha.sha (Ward.leafText E)).map Y)) from nodeV_row (sha_len _))
    have HN := hide (show ∀ W S, NodeIs W S 1 (Ward.mk Sha.sha 0 E) (nodeV (.slice none 0 0) (.slice none 0 0) (Ward.box 0 E) ((E.length : Nat) : Int) ((Sha.sha (Ward.leafText E)).map Y)) from fun W S => ⟨.slice none 0 0, .slice none 0 0, rfl, sha_len _, ⟨none, 0, by rw [show Ward.Nd.pts (Ward.mk Sha.sha 0 E) = E from rfl, hE]; rfl, fun e => absurd hE e⟩, ⟨none, 0, rfl, fun e => absurd rfl e⟩⟩)
    generalize nodeV (.slice none 0 0) (.slice none 0 0) (Ward.box 0 E) ((E.length : Nat) : Int) ((Sha.sha (Ward.leafText E)).map Y) = M at *
    have h0 : L.length = 0 := by rw [hne]; rfl
    clear hne hE
    rw [h0]
    go_wp2_with fail
    refine (HLF.out _ (HK.out.below HB0.out)).mono ?_
    rintro _ w1 ⟨rfl, hb1⟩
    have hr1 := (hb1.block w.heap.size (by have := HS0.out; omega)).trans HR0.out
    have HB1 := hide hb1
    have HR1 := hide hr1
    have HSE := hide (show (nodeV (.slice none 0 0) (.slice none 0 0) ⟨0, 0, 0, 0⟩ 0 zero32).toArray.size = M.toArray.size by rw [HSZ.out, HR.out.size])
    clear hb1 hr1
    go_wp2_with (refine wpList_store_row rfl 90 (.tmp 2) (.tmp 9) rfl w.heap.size M.toArray rfl rfl 90 _ HR1.out HR.out.info HSE.out HR.out.one ?_)
    refine bodyPost_ret (v := .agg M.toArray) ?_ rfl ⟨M, rfl, by rw [HT.out]; exact HN.out _ _, below_setRow (HB0.out.trans (HB1.out.mono HB0.out.size)) (Nat.le_refl _) _⟩
    exact results_cell_row rfl _ _ w.heap.size 90 M.toArray (0, 0) (.struct fs) rfl (setRow_heap _ _ _ _ _ _ HR1.out) HU.out rfl HR.out.info
  · obtain ⟨g, o, rfl, hgB, hpts⟩ := HRD.out hne
    have HPT := hide hpts
    have hp0 : 0 < L.length := List.length_pos_iff.2 hne
    have hp1 : ¬ (L.length : Int) = 0 := by omega
    clear hpts
    go_wp2_with fail
    refine (foursPt_any g o L.length c w0 (by omega) hc1 hc2).mono ?_
    rintro _ w1 ⟨v7, rfl, ho7, hb1⟩
    obtain ⟨gg, cg, rfl, hgg, hggl⟩ := ho7.form (by omega)
    have HO7 := hide ho7
    have HB1 := hide hb1
    have HM := hide (show (L.length + 3) / 4 ≤ 1000 ∧ 0 < (L.length + 3) / 4 by omega)
    have HML := hide (show ∀ j, j < (L.length + 3) / 4 → 4 * j < L.length from fun j hj => by omega)
    clear ho7 hb1 hp1
    generalize hmm : (L.length + 3) / 4 = m at *
    have HMM := hide hmm
    clear hmm
    go_wp2_with fail
    go_loopg [3, 13] m (fun gk v3 v13 wq => ∃ i : Nat, gk = m - i ∧ v13 = I i ∧ i ≤ m ∧ wq.ownsRow w1.heap.size 90 39 v3 i ((List.range i).flatMap (leafV g o L)) ∧ Below w1.heap.size w1 wq)
    case atStart => exact ⟨0, by omega, rfl, by omega, World.ownsRow_nil _ _ _ _, Below.refl _ _⟩
    case round =>
      obtain ⟨i, hgk, rfl, hi, ho, hb⟩ := hrel
      have HGK := hide hgk
      have HO := hide ho
      have HB := hide hb
      have hs := hb.size
      clear hgk ho hb
      have HBW := hide (HB0.out.trans ((HB1.out.mono HB0.out.size).trans (HB.out.mono (Nat.le_trans HB0.out.size HB1.out.size))))
      by_cases hlt : i < m
      · have hm1 := HM.out.1
        have hci : wr.cell? ⟨gg, i, none⟩ = some (groupV 3 g o L.length i) := by
          refine (HB.out.cell (p := ⟨gg, i, none⟩) hggl).trans ?_
          rw [HO7.out.cellAt i (by omega)]
          simp [groupsV, hlt]
        have hG4 : ((L.drop (4 * i)).take 4).length ≤ 4 := by simp; omega
        have hGR := group_pts (w := wr) (S := fun g => g < wr.heap.size) (o := o) (L := L) (g := g) (by have := HBW.out.size; show g < wr.heap.size; omega) (fun j hj => (HPT.out j hj).below HBW.out hgB) i
        have HN := hide (leafOf_any (groupV 3 g o L.length i) ((L.drop (4 * i)).take 4) wr hG4 (hGR.low (fun _ h => h)) (HK.out.below HBW.out))
        have HN := hide (show Calls Tryz.prog 70 #[groupV 3 g o L.length i] wr fun e w' => e = .returned (.agg (leafV g o L i).toArray) ∧ Below wr.heap.size wr w' from HN.out)
        have HR := hide (leafV_row g o L i)
        have HST := hide (range_flat_step (leafV g o L) i)
        generalize groupV 3 g o L.length i = gv at *
        generalize leafV g o L i = M at *
        clear hGR hG4
        go_wp2_with fail
        refine HN.out.mono ?_
        rintro _ w2 ⟨rfl, hb2⟩
        have hs2 := hb2.size
        obtain ⟨v3, w3, h3, ho3, hg3, hf3⟩ := append_node (w := w2) M HR.out (ownsRow_below HO.out hb2) (by omega) (by have := HM.out; omega)
        have HO3 := hide (show w3.ownsRow w1.heap.size 90 39 v3 (i + 1) ((List.range (i + 1)).flatMap (leafV g o L)) by rw [HST.out]; exact ho3)
        have HB3 := hide ((HB.out.trans (hb2.mono hs)).grown hg3 (by omega) (fun k hk => (HO.out.lt k hk).1))
        have HF := hide (fun (cells : Array Value) (hc : cells.size = i0.size) => fill_one (s := i0.size) (by rw [HZ1.out]; decide) M.toArray cells (by rw [HZ1.out, HR.out.size]) hc)
        obtain ⟨a3, c3, e3⟩ : ∃ a c, u3 = .slice a i c := by
          rcases HO.out.2 with ⟨e, h⟩ | ⟨g', c', _, e, _⟩
          · exact ⟨none, 0, by rw [e, h]⟩
          · exact ⟨_, c', e⟩
        subst e3
        clear ho3 hg3 hf3 hb2 HN
        go_wp2_with (first | (refine wpList_buildSlice rfl 86 90 1 #[(0, .tmp 19)] rfl M.toArray i0 zeroNode Tryz.underlying86 hi0 hz0 (by rw [HZ1.out]; decide) (by rw [HZ1.out]; decide) (by rw [Array.toList_map]; exact HF.out _ (by simp)) ?_) | (at_builtin; refine Lib.wpList_append_run _ rfl (.tmp 17) (.tmp 20) 86 86 rfl _ _ rfl rfl _ _ h3 ?_))
        go_roundg (m - (i + 1))
        case measure => have := HGK.out; omega
        case rel => exact ⟨i + 1, rfl, by go_num, by omega, HO3.out, HB3.out⟩
      · have ei : i = m := by omega
        subst ei
        have hlev : Level wr (fun g => g ≠ w.heap.size ∧ g < wr.heap.size) u3 1 ((Ward.fours L).map (Ward.mk Sha.sha 0)) := level_of_own HO.out (by rw [List.length_map, Ward.fours_length]; exact HMM.out) HM.out.2 (fun j _ => (leafV_row g o L j).len) (fun j hj => leaf_is (by have := HBW.out.size; show g ≠ w.heap.size ∧ g < wr.heap.size; omega) (fun j hj => (HPT.out j hj).below HBW.out hgB) j hj) (fun g h1 h2 => by have := HB1.out.size; have := HS0.out; omega)
        have HLV := hide hlev
        have HBA := hide (show Below w0.heap.size w0 wr from HB1.out.trans (HB.out.mono HB1.out.size))
        clear hlev
        go_wp2_with fail
        go_loopg [3] i (fun gk v3 wq => ∃ (n : Nat) (ls : List (Ward.T n)) (k : Nat), gk = ls.length ∧ ls ≠ [] ∧ ls.length < k ∧ ls.length ≤ 150 ∧ Ward.climb k n ls = Ward.tree L ∧ Ward.ptsL n ls = L ∧ Level wq (fun g => g ≠ w.heap.size ∧ g < wq.heap.size) v3 (n + 1) (ls.map (Ward.mk Sha.sha n)) ∧ Below w0.heap.size w0 wq)
        case atStart =>
          refine ⟨0, Ward.fours L, L.length + 2, by rw [Ward.fours_length]; exact HMM.out.symm, fun e => by have h := congrArg List.length e; rw [Ward.fours_length, HMM.out] at h; have := HM.out; simp at h; omega, by rw [Ward.fours_length]; omega, by rw [Ward.fours_length]; omega, ?_, ?_, HLV.out, HBA.out⟩
          · rw [Ward.tree, Ward.leaves, if_neg (by omega)]
          · have h := Ward.leaves_pts L
            rw [Ward.leaves, if_neg (by omega)] at h
            exact h
        case round =>
          clear HLV HBA HB HO HO7 HBW HGK HM HML HMM HB1 HRD HPT
          obtain ⟨n, ls, k, hgk, hls, hk, h150, hcl, hpt, hlev, hb⟩ := hrel
          have HGK := hide hgk
          have HLS := hide hls
          have HLK := hide hk
          have HCL := hide hcl
          have HPT := hide hpt
          have HLV := hide hlev
          have HB := hide hb
          obtain ⟨-, a3, c3, e3, hc3, hc4⟩ := hlev
          rw [List.length_map] at e3
          subst e3
          have hsz := HB.out.size
          have hs0 := HS0.out
          have HSL := hide hsz
          have hrr := (HB.out.block w.heap.size (by omega)).trans HR0.out
          have HRR := hide hrr
          clear hgk hls hk hcl hpt hb hrr hs0 hsz
          by_cases h1 : ls.length = 1
          · obtain ⟨t, rfl⟩ := List.length_eq_one_iff.1 h1
            have hT : Ward.tree L = ⟨n, t⟩ := by
              have h := HCL.out
              obtain ⟨k', rfl⟩ : ∃ k', k = k' + 1 := ⟨k - 1, by have := HLK.out; omega⟩
              rw [Ward.climb_one] at h
              exact h.symm
            obtain ⟨a5, c5, e5, hrows⟩ := HLV.out.1
            obtain ⟨g5, o5, rfl, hS5, hr5⟩ := hrows (by simp)
            injection e5 with e6 e7 e8
            subst e6 e8
            clear e7
            obtain ⟨U, hU, hc⟩ := hr5 0 (by simp)
            rw [Nat.zero_mul, Nat.add_zero] at hc
            have hU' : NodeIs wr (fun g => g ≠ w.heap.size ∧ g < wr.heap.size) (n + 1) (Ward.mk Sha.sha n t) U := hU
            have HUU := hide hU'
            have HC := hide hc
            obtain ⟨b1, l1, d1, b2, l2, d2, hV, hd⟩ := hU'.cells
            have HR := hide (show Row39 U by rw [hV]; exact nodeV_row hd)
            have HSE := hide (show (nodeV (.slice none 0 0) (.slice none 0 0) ⟨0, 0, 0, 0⟩ 0 zero32).toArray.size = U.toArray.size by rw [HSZ.out, HR.out.size])
            have HT := hide hT
            clear hT hV hd hU hU' hc hr5 hrows h1
            go_wp2_with (first | (refine wpList_load_mid rfl 90 (.tmp 29) rfl g5 o5 rfl U (.struct fs) HC.out HU.out rfl HR.out.infl ?_) | (refine wpList_store_row rfl 90 (.tmp 2) (.tmp 30) rfl w.heap.size U.toArray rfl rfl 90 _ HRR.out HR.out.info HSE.out HR.out.one ?_))
            have hbw := HB0.out.trans (HB.out.mono HB0.out.size)
            refine bodyPost_ret (v := .agg U.toArray) ?_ rfl ⟨U, rfl, ?_, below_setRow hbw (Nat.le_refl _) _⟩
            · exact results_cell_row rfl _ _ w.heap.size 90 U.toArray (0, 0) (.struct fs) rfl (setRow_heap _ _ _ _ _ _ HRR.out) HU.out rfl HR.out.info
            · rw [HT.out]
              exact NodeIs.keep (fun g hg => setRow_other _ _ _ _ hg.1) (fun g hg => by have := hg.2; show g < _; rw [setRow_size]; exact this) (n + 1) _ U HUU.out
          · have h2 : (1 : Int) < (ls.length : Int) := by
              have h : ls.length ≠ 0 := fun e => HLS.out (List.length_eq_zero_iff.1 e)
              omega
            have HAB := hide (above_any (.slice a3 ls.length c3) (n + 1) (ls.map (Ward.mk Sha.sha n)) wr (fun g => g ≠ w.heap.size ∧ g < wr.heap.size) (fun _ h => h.2) (fun e => HLS.out (List.map_eq_nil_iff.1 e)) (by rw [List.length_map]; omega) HLV.out (fun t ht => by
              obtain ⟨h3, h4⟩ := count_le HPT.out t ht
              exact ⟨h3, by omega⟩) (HK.out.below (HB0.out.trans (HB.out.mono HB0.out.size))))
            go_wp2_with fail
            refine HAB.out.mono ?_
            rintro _ w2 ⟨v2, rfl, hlev2, hb2⟩
            rw [up_level] at hlev2
            have HLV2 := hide hlev2
            have HB2 := hide hb2
            clear hlev2 hb2 HAB
            go_wp2_with fail
            go_roundg (Ward.fours ls).length
            case measure => have := HGK.out; rw [Ward.fours_length]; omega
            case rel =>
              have hfl := Ward.fours_length ls
              obtain ⟨k', ek⟩ : ∃ k', k = k' + 1 := ⟨k - 1, by have := HLK.out; omega⟩
              refine ⟨n + 1, Ward.fours ls, k', rfl, fun e => by rw [e] at hfl; simp at hfl; omega, by have := HLK.out; omega, by omega, ?_, ?_, HLV2.out.mono (fun g hg => ?_), HB.out.trans (HB2.out.mono HB.out.size)⟩
              · rw [← HCL.out, ek, Ward.climb_more _ _ _ h1]
              · rw [Ward.ptsL_fours]; exact HPT.out
              · have h3 := HB2.out.size
                have h4 := HSL.out
                have h5 := HS0.out
                rcases hg with hg | hg
                · exact ⟨hg.1, Nat.lt_of_lt_of_le hg.2 h3⟩
                · exact ⟨by omega, hg.2⟩
end Go.Proofs.YtenaelkbgkpllaaGreatDoor
