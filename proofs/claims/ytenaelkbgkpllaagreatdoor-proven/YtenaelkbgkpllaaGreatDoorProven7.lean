/- A node made of children. -/
import Derived.Test.YtenaelkbgkpllaaGreatDoorProven6
import Derived.Test.YtenaelkbgkpllaaGreatDoorProven5
import Derived.Test.YtenaelkbgkpllaaGreatDoorProven1
import Derived.Great.BuildSlice
import Derived.Deep.AppendLies
namespace Go.Proofs.YtenaelkbgkpllaaGreatDoor
open Go.RowKit

theorem node_num {w : World} {g : Nat} {vp vc : Value} {b : Ward.Box} {n : Int} {t : List Value} {ty : Nat} (c : Int) (h : w.heap[g]? = some (.cells (nodeV vp vc b n t).toArray ty (0, 0))) :
    (w.setCell ⟨g, 6, none⟩ (I c)).heap[g]? = some (.cells (nodeV vp vc b c t).toArray ty (0, 0)) := by
  have h1 := heap_setCell_same w g 6 _ ty (I c) h
  rw [List.setIfInBounds_toArray] at h1
  exact h1
theorem range_box {w : World} {g o : Nat} {vp vc : Value} {b : Ward.Box} {n : Int} {t : List Value} (h : w.rangeAt g o (nodeV vp vc b n t)) : w.rangeAt g (o + 2) [I b.a, I b.b, I b.c, I b.d] := fun j v hv => by
  rw [Nat.add_assoc]
  refine h (2 + j) v ?_
  match j, hv with
  | 0, hv => exact hv
  | 1, hv => exact hv
  | 2, hv => exact hv
  | 3, hv => exact hv
theorem sum_le {l : List Int} (h : ∀ x ∈ l, 0 ≤ x ∧ x ≤ 1000000) : 0 ≤ l.sum ∧ l.sum ≤ 1000000 * l.length := by
  induction l with
  | nil => simp
  | cons x l ih =>
    have h1 := h x (by simp)
    have h2 := ih fun y hy => h y (by simp [hy])
    rw [List.sum_cons, List.length_cons]
    omega
theorem sum_step (l : List Int) (i : Nat) (h : i < l.length) : (l.take (i + 1)).sum = (l.take i).sum + l[i] := by
  rw [List.take_succ_eq_append_getElem h, List.sum_append]; simp
theorem boxes_other {w : World} {g k : Nat} {c : Ward.Box} {m : Int} (h : k ≠ g) : (((((w.setCell ⟨g, 2, none⟩ (I c.a)).setCell ⟨g, 3, none⟩ (I c.b)).setCell ⟨g, 4, none⟩ (I c.c)).setCell ⟨g, 5, none⟩ (I c.d)).setCell ⟨g, 6, none⟩ (I m)).heap[k]? = w.heap[k]? := by
  rw [Below.heap_setCell _ _ _ _ h, box_other h]
set_option maxRecDepth 100000 in
set_option maxHeartbeats 4000000 in
theorem nodeOf_any (vc : Value) (n : Nat) (K : List (Ward.NT n)) (w : World) (S : Nat → Prop) (hS : ∀ g, S g → g < w.heap.size) (h0 : K ≠ []) (hK : K.length ≤ 4) (hk : RowsAt (NodeIs w S n) w S vc K) (hnum : ∀ t ∈ K, 0 ≤ Ward.numN n t ∧ Ward.numN n t ≤ 1000000) (hKT : KT w) :
    Calls Tryz.prog 113 #[vc] w fun e w' => e = .returned (.agg (nodeV (.slice none 0 0) vc (Ward.boxL (K.map (Ward.boxN n))) ((K.map (Ward.numN n)).sum) ((Sha.sha (Ward.textK n K)).map Y)).toArray) ∧ Below w.heap.size w w' := by
  have HP := hide hk
  have HK := hide hKT
  obtain ⟨ap, cp, rfl, hrd⟩ := hk
  obtain ⟨g, o, rfl, hgS, hrows⟩ := hrd h0
  have hgB := hS g hgS
  have HSS := hide hS
  clear hgS hS
  have HRD := hide hrows
  have h1 : 0 < K.length := List.length_pos_iff.2 h0
  have hrow0 := hrows 0 h1
  rw [Nat.zero_mul, Nat.add_zero] at hrow0
  obtain ⟨U0, hU0, hc0⟩ := hrow0
  have hq := fun i => sum_le (l := (K.map (Ward.numN n)).take i) (fun x hx => by
    obtain ⟨t, ht, rfl⟩ := List.mem_map.1 (List.mem_of_mem_take hx)
    exact hnum t ht)
  have HQ := hide hq
  have HNUM := hide hnum
  have HE0 := hide (show accBox (K.map (Ward.boxN n)) 0 = Ward.boxN n K[0] by
    obtain ⟨q, K', rfl⟩ : ∃ q K', K = q :: K' := by cases K with | nil => exact absurd rfl h0 | cons q K' => exact ⟨q, K', rfl⟩
    rfl)
  obtain ⟨a1, l1, c1, a2, l2, c2, hV, hd⟩ := hU0.cells
  subst hV
  have HC0 := hide (range_box hc0)
  clear hU0 hc0 hd hrows hrd hKT hq hnum
  generalize hb0 : Ward.boxN n K[0] = b0 at *
  have HB0 := hide hb0
  clear hb0
  obtain ⟨fs, hu⟩ := underNode
  have HU := hide hu
  clear hu
  go_enter Tryz.func113, Tryz.ntmps113
  go_upto_region 1 with fail
  have HC1 := hide (fun ob => rangeAt_below HC0.out ((Below.refl w.heap.size w).alloc (Nat.le_refl _) ob) hgB)
  go_upto_region 2 with (first | (refine wpList_load_mid rfl 88 (.tmp 9) rfl g (o + 2) rfl [I b0.a, I b0.b, I b0.c, I b0.d] _ (HC1.out _) Tryz.underlying88 rfl Tryz.infoBox ?_) | (refine wpList_store_row rfl 90 (.tmp 3) (.tmp 11) rfl (w.heap.size + 1) (nodeV (.slice none 0 0) (.slice (some ⟨g, o, none⟩) K.length cp) b0 0 zero32).toArray rfl rfl 90 _ (heap_alloc2_new w _ _) Tryz.infoNode rfl (nodeV_one rfl rfl zero32_one) ?_))
  rw [setRow_alloc2]
  have hb2 := fun o o' => ((Below.refl w.heap.size w).alloc (Nat.le_refl _) o).alloc (by simp) o'
  have hr2 := heap_alloc2_new w
  have hr1 := heap_alloc2_old w
  generalize hW : World.alloc (World.alloc w _) _ = w1
  have hb1 : Below w.heap.size w w1 := by rw [← hW]; exact hb2 _ _
  have hz1 : w1.heap[w.heap.size]? = some (.cells (nodeV (.slice none 0 0) (.slice none 0 0) ⟨0, 0, 0, 0⟩ 0 zero32).toArray 90 (0, 0)) := by rw [← hW]; exact hr1 _ _
  have hn1 : w1.heap[w.heap.size + 1]? = some (.cells (nodeV (.slice none 0 0) (.slice (some ⟨g, o, none⟩) K.length cp) b0 0 zero32).toArray 90 (0, 0)) := by rw [← hW]; exact hr2 _ _
  clear hb2 hr2 hr1 hW HC1 HC0
  generalize Value.agg _ = x10
  generalize Value.agg _ = x11
  have HZ1 := hide hz1
  have HN1 := hide hn1
  have HB1 := hide hb1
  clear hz1 hn1 hb1
  have hlb : (K.length : Int) ≤ 4 := by omega
  go_wp2_with fail
  go_loopg [14] K.length (fun gk v14 wq => ∃ i : Nat, gk = K.length - i ∧ v14 = I i ∧ i ≤ K.length ∧ wq.heap[w.heap.size]? = some (.cells (nodeV (.slice none 0 0) (.slice none 0 0) ⟨0, 0, 0, 0⟩ 0 zero32).toArray 90 (0, 0)) ∧ wq.heap[w.heap.size + 1]? = some (.cells (nodeV (.slice none 0 0) (.slice (some ⟨g, o, none⟩) K.length cp) (accBox (K.map (Ward.boxN n)) i) (((K.map (Ward.numN n)).take i).sum) zero32).toArray 90 (0, 0)) ∧ Below w.heap.size w wq)
  case atStart => exact ⟨0, by omega, rfl, by omega, HZ1.out, by rw [HE0.out]; exact HN1.out, HB1.out⟩
  case round =>
    clear HZ1 HN1 HB1 HE0
    obtain ⟨i, hgk, rfl, hi, hz, hn, hb⟩ := hrel
    have HGK := hide hgk
    have HZ := hide hz
    have HN := hide hn
    have HB := hide hb
    clear hgk hz hn hb
    by_cases hlt : i < K.length
    · obtain ⟨U, hU, hc⟩ := HRD.out i hlt
      have HC := hide (rangeAt_below hc HB.out hgB)
      obtain ⟨a3, l3, c3, a4, l4, c4, hV, hd⟩ := hU.cells
      have HR := hide (show Row39 U by rw [hV]; exact nodeV_row hd)
      have HE := hide (show accBox (K.map (Ward.boxN n)) (i + 1) = Ward.join (accBox (K.map (Ward.boxN n)) i) (Ward.boxN n K[i]) by
        rw [accBox_step _ _ (by simpa using hlt), List.getElem_map])
      have HS := hide (show ((K.map (Ward.numN n)).take (i + 1)).sum = ((K.map (Ward.numN n)).take i).sum + Ward.numN n K[i] by
        rw [sum_step _ _ (by simpa using hlt), List.getElem_map])
      obtain ⟨hs1, hs2'⟩ := HQ.out i
      have hs2 : ((K.map (Ward.numN n)).take i).sum ≤ 4000000 := by
        have : (((K.map (Ward.numN n)).take i).length : Int) ≤ 4 := by rw [List.length_take, List.length_map]; omega
        omega
      obtain ⟨hx1, hx2⟩ := HNUM.out K[i] (List.getElem_mem hlt)
      have HV := hide hV
      generalize Ward.numN n K[i] = x at *
      generalize Ward.boxN n K[i] = bi at *
      generalize (Ward.digN n K[i]).map Y = Di at *
      generalize ((K.map (Ward.numN n)).take i).sum = s at *
      generalize accBox (K.map (Ward.boxN n)) i = b at *
      clear hV hd hc hU hs2'
      go_upto_region 5 with (first | (refine wpList_load_mid rfl 90 (.tmp 16) rfl g (o + i * 39) rfl U (.struct fs) HC.out HU.out rfl HR.out.infl ?_) | (refine wpList_store_row rfl 90 (.tmp 5) (.tmp 17) rfl wr.heap.size U.toArray rfl rfl 90 _ (heap_alloc_new wr _) HR.out.info (by rw [HR.out.size]; rfl) HR.out.one ?_; rw [World.setRow_alloc_new]))
      have hb5' := (Below.refl wr.heap.size wr).alloc (Nat.le_refl _) (.cells U.toArray 90)
      have hr5' := heap_alloc_new wr (.cells U.toArray 90)
      have hs5' : (wr.alloc (.cells U.toArray 90)).heap.size = wr.heap.size + 1 := by simp
      generalize wr.alloc (.cells U.toArray 90) = w5 at *
      rw [HV.out] at hr5'
      have hnlt : w.heap.size + 1 < wr.heap.size := (Array.getElem?_eq_some_iff.1 HN.out).1
      have hn5 := (hb5'.block (w.heap.size + 1) hnlt).trans HN.out
      have HZ5 := hide ((hb5'.block w.heap.size (by omega)).trans HZ.out)
      have HB5 := hide (HB.out.trans (hb5'.mono (by omega)))
      have HN5 := hide hn5
      have HR5 := hide hr5'
      have HS5 := hide hs5'
      obtain ⟨-, ⟨a1, a2, a3, a4⟩, -⟩ := node_cells hn5
      obtain ⟨-, ⟨e1, e2, e3, e4⟩, -⟩ := node_cells hr5'
      clear hn5 hr5' hb5' hs5'
      go_wp2_with fail
      refine (join_any2 b bi _).mono ?_
      rintro _ w6 ⟨rfl, hb6⟩
      have hs6 := hb6.size
      have hs5 := HS5.out
      have hn6 := (hb6.block (w.heap.size + 1) (by omega)).trans HN5.out
      have hr6 := (hb6.block wr.heap.size (by omega)).trans HR5.out
      have HZ6 := hide ((hb6.block w.heap.size (by omega)).trans HZ5.out)
      have HB6 := hide (HB5.out.trans (hb6.mono (by omega)))
      obtain ⟨-, ⟨n1, n2, n3, n4⟩, -⟩ := node_cells hn6
      have f1 : w6.frozen? ⟨w.heap.size + 1, 2, none⟩ = false := frozen_of_row _ _ _ _ _ hn6
      have f2 : w6.frozen? ⟨w.heap.size + 1, 3, none⟩ = false := frozen_of_row _ _ _ _ _ hn6
      have f3 : w6.frozen? ⟨w.heap.size + 1, 4, none⟩ = false := frozen_of_row _ _ _ _ _ hn6
      have f4 : w6.frozen? ⟨w.heap.size + 1, 5, none⟩ = false := frozen_of_row _ _ _ _ _ hn6
      have HN6 := hide hn6
      have HR6 := hide hr6
      have HL := hide hnlt
      clear hn6 hr6 hb6 hs6 hs5 hnlt
      unfold Bx
      go_upto_region 6 with fail
      have hn7' := node_box (Ward.join b bi) HN6.out
      have hr7' := (box_other (w := w6) (g := w.heap.size + 1) (k := wr.heap.size) (c := Ward.join b bi) (by have := HL.out; omega)).trans HR6.out
      have hz7' := (box_other (w := w6) (g := w.heap.size + 1) (k := w.heap.size) (c := Ward.join b bi) (by omega)).trans HZ6.out
      have hb7' : Below w.heap.size w ((((w6.setCell ⟨w.heap.size + 1, 2, none⟩ (I (Ward.join b bi).a)).setCell ⟨w.heap.size + 1, 3, none⟩ (I (Ward.join b bi).b)).setCell ⟨w.heap.size + 1, 4, none⟩ (I (Ward.join b bi).c)).setCell ⟨w.heap.size + 1, 5, none⟩ (I (Ward.join b bi).d)) := (((HB6.out.setCell (by simp) _).setCell (by simp) _).setCell (by simp) _).setCell (by simp) _
      generalize ((((w6.setCell ⟨w.heap.size + 1, 2, none⟩ (I (Ward.join b bi).a)).setCell ⟨w.heap.size + 1, 3, none⟩ (I (Ward.join b bi).b)).setCell ⟨w.heap.size + 1, 4, none⟩ (I (Ward.join b bi).c)).setCell ⟨w.heap.size + 1, 5, none⟩ (I (Ward.join b bi).d)) = w7 at *
      obtain ⟨-, -, m1⟩ := node_cells hn7'
      obtain ⟨-, -, m2⟩ := node_cells hr7'
      have f5 : w7.frozen? ⟨w.heap.size + 1, 6, none⟩ = false := frozen_of_row _ _ _ _ _ hn7'
      have HN7 := hide hn7'
      have HZ7 := hide hz7'
      have HB7 := hide hb7'
      clear hn7' hr7' hz7' hb7' a1 a2 a3 a4 e1 e2 e3 e4 n1 n2 n3 n4 f1 f2 f3 f4
      go_wp2_with fail
      go_roundg (K.length - (i + 1))
      case measure => have := HGK.out; omega
      case rel =>
        refine ⟨i + 1, rfl, by go_num, hlt, (Below.heap_setCell _ _ _ _ (show w.heap.size ≠ w.heap.size + 1 by omega)).trans HZ7.out, ?_, HB7.out.setCell (by simp) _⟩
        rw [HE.out, HS.out]
        exact node_num (s + x) HN7.out
    · have ei : i = K.length := by omega
      subst ei
      have HE := hide (show accBox (K.map (Ward.boxN n)) K.length = Ward.boxL (K.map (Ward.boxN n)) by
        have h := accBox_all (K.map (Ward.boxN n))
        rw [List.length_map] at h
        exact h)
      have HS := hide (show (K.map (Ward.numN n)).take K.length = K.map (Ward.numN n) by
        rw [List.take_of_length_le (by simp)])
      rw [HE.out, HS.out] at HN
      have hnlt : w.heap.size + 1 < wr.heap.size := (Array.getElem?_eq_some_iff.1 HN.out).1
      have hsame : Same S w wr := below_same HB.out HSS.out
      have HRR := hide (show RowsAt (NodeIs wr S n) wr S (.slice (some ⟨g, o, none⟩) K.length cp) K from HP.out.keep hsame (fun _ h => h) (NodeIs.keep hsame (fun _ h => h) n))
      clear hsame
      have HD := hide (dig_of (Ward.textK n K))
      have HTL := hide (show (⟨(Ward.textK n K).toArray⟩ : ByteArray).size ≤ 140737488355327 by
        show (Ward.textK n K).toArray.size ≤ _
        have h := take_said_len (K := K) (fun j hj => ⟨_, (HRD.out j hj).choose_spec.1⟩) K.length
        rw [List.take_length] at h
        rw [List.size_toArray, textK_two, List.length_append]
        show 2 + _ ≤ _
        omega)
      generalize hBx : Ward.boxL (K.map (Ward.boxN n)) = b at *
      generalize hSm : (K.map (Ward.numN n)).sum = s at *
      have HBX := hide hBx
      have HSM := hide hSm
      clear HE HS HP hBx hSm HQ HNUM
      go_wp2_with fail
      refine (nodeText_any _ n K _ S (fun g hg => Nat.lt_of_lt_of_le (HSS.out g hg) HB.out.size) hK HRR.out).mono ?_
      rintro _ w2 ⟨rfl, hb2⟩
      have HB2 := hide hb2
      have hs2 := hb2.size
      clear hb2
      go_wp2_with fail
      refine (of_any _ _ HTL.out (HK.out.below (HB.out.trans (HB2.out.mono (by omega))))).mono ?_
      rintro _ w3 ⟨rfl, hb3⟩
      rw [show (⟨(Ward.textK n K).toArray⟩ : ByteArray).data.toList = Ward.textK n K from rfl]
      generalize hDe : (Sha.sha (Ward.textK n K)).map Y = D at *
      have HDE := hide hDe
      clear hDe
      have hs3 := hb3.size
      have hn3 := (hb3.block (w.heap.size + 1) (by omega)).trans ((HB2.out.block (w.heap.size + 1) (by omega)).trans HN.out)
      have HZ3 := hide ((hb3.block w.heap.size (by omega)).trans ((HB2.out.block w.heap.size (by omega)).trans HZ.out))
      have HB3 := hide ((HB.out.trans (HB2.out.mono (by omega))).trans (hb3.mono (by omega)))
      have HN3 := hide hn3
      clear hb3 hn3
      have HT := hide (there_row HN3.out 7 D.toArray.size (by rw [HD.out.size, nodeV_size (by rfl)]; decide))
      have HN4 := hide (show (w3.setCells (w.heap.size + 1) 7 D).heap[w.heap.size + 1]? = some (.cells (nodeV (.slice none 0 0) (.slice (some ⟨g, o, none⟩) K.length cp) b s D).toArray 90 (0, 0)) from node_digest (by rfl) HD.out.len HN3.out)
      have HZ4 := hide ((setCells_other (show w.heap.size ≠ w.heap.size + 1 by omega) D 7 w3).trans HZ3.out)
      have HB4 := hide (below_setCellsN (show w.heap.size ≤ w.heap.size + 1 by omega) D 7 w3 HB3.out)
      have HO := hide (nodeV_one (vp := .slice none 0 0) (vc := .slice (some ⟨g, o, none⟩) K.length cp) (b := b) (n := s) (t := D) rfl rfl (fun v hv => (Array.all_eq_true_iff_forall_mem.1 HD.out.one) v (by simpa using hv)))
      have HI := hide (nodeV_info (vp := .slice none 0 0) (vc := .slice (some ⟨g, o, none⟩) K.length cp) (b := b) (n := s) HD.out.len)
      have HS := hide (show (nodeV (.slice none 0 0) (.slice none 0 0) ⟨0, 0, 0, 0⟩ 0 zero32).toArray.size = (nodeV (.slice none 0 0) (.slice (some ⟨g, o, none⟩) K.length cp) b s D).toArray.size by rw [nodeV_size HD.out.len, nodeV_size (by rfl)])
      have HI22 := hide HD.out.info
      have HO22 := hide HD.out.one
      generalize hM : (nodeV (.slice none 0 0) (.slice (some ⟨g, o, none⟩) K.length cp) b s D).toArray = M at *
      have HM := hide hM
      clear hM
      go_wp2_with (first | (refine wpList_store_mid rfl 39 (.tmp 34) (.tmp 33) rfl (w.heap.size + 1) 7 D.toArray rfl rfl HT.out HI22.out HO22.out ?_) | (refine wpList_load_row rfl 90 (.tmp 3) rfl (w.heap.size + 1) rfl 90 M (0, 0) (.struct fs) HN4.out HU.out rfl HI.out ?_) | (refine wpList_store_row rfl 90 (.tmp 2) (.tmp 35) rfl w.heap.size M rfl rfl 90 _ HZ4.out HI.out HS.out HO.out ?_))
      refine bodyPost_ret (v := .agg M) ?_ rfl ⟨by rw [← HM.out, ← HBX.out, ← HSM.out, ← HDE.out], below_setRow HB4.out (Nat.le_refl _) _⟩
      exact results_cell_row rfl _ _ w.heap.size 90 M (0, 0) (.struct fs) rfl (setRow_heap _ _ _ _ _ _ HZ4.out) HU.out rfl HI.out
end Go.Proofs.YtenaelkbgkpllaaGreatDoor
/- Two texts of one digest, looked for. -/
namespace Go.Proofs.YtenaelkbgkpllaaGreatDoor
open Go.RowKit

theorem byte_at (l : List UInt8) (j : Nat) (h : j < l.length) : (l.map Y).toArray[j]? = some (.int .u8 (l.getD j 0).toNat) := by
  rw [List.getElem?_toArray, List.getElem?_map, List.getElem?_eq_getElem h, List.getD_eq_getElem?_getD, List.getElem?_eq_getElem h]
  rfl
theorem eqItems_two (d : Nat) (l m : List UInt8) (hl : l.length = 32) (hm : m.length = 32) (w : World) : ∀ is : List Nat, (∀ j ∈ is, j < 32) → (Op.eqItems (d + 1) 5 1 (l.map Y).toArray (m.map Y).toArray is).run Tryz.prog w = .ok (is.all fun j => l.getD j 0 == m.getD j 0) w
  | [], _ => by simp [Op.eqItems]
  | j :: is, h => by
    have hj := h j (by simp)
    have ih := eqItems_two d l m hl hm w is (fun k hk => h k (by simp [hk]))
    have e : ∀ a b : Nat, (Op.equalIn (d + 1) 5 (.int .u8 a) (.int .u8 b)).run Tryz.prog w = .ok ((a : Int) == (b : Int)) w := fun a b => run_equalIn_int w d 5 .u8 .u8 a b Tryz.underlying5
    have hp : ∀ (A : Array Value) (v : Value), A[j]? = some v → (part 5 A j).run Tryz.prog w = .ok v w := fun A v h => by simp [part, Sem.run_bind, h]
    have hb : (((l.getD j 0).toNat : Int) == ((m.getD j 0).toNat : Int)) = (l.getD j 0 == m.getD j 0) := by
      rw [Bool.eq_iff_iff, beq_iff_eq, beq_iff_eq, ← UInt8.toNat_inj]
      omega
    simp only [Op.eqItems, Sem.run_bind, Nat.mul_one, hp _ _ (byte_at l j (by omega)), hp _ _ (byte_at m j (by omega)), Result.andThen_ok, e, hb, List.all_cons]
    cases l.getD j 0 == m.getD j 0
    · simp
    · simp [ih]
theorem all_eq {l m : List UInt8} (hl : l.length = 32) (hm : m.length = 32) : ((List.range 32).all fun j => l.getD j 0 == m.getD j 0) = decide (l = m) := by
  rw [Bool.eq_iff_iff, List.all_eq_true, decide_eq_true_eq]
  refine ⟨fun h => ?_, fun h => by subst h; simp⟩
  refine List.ext_getElem (by omega) fun i h1 h2 => ?_
  have := h i (List.mem_range.2 (by omega))
  rw [beq_iff_eq, List.getD_eq_getElem?_getD, List.getD_eq_getElem?_getD, List.getElem?_eq_getElem h1, List.getElem?_eq_getElem h2] at this
  exact this
theorem eqArrD (d : Nat) (l m : List UInt8) (hl : l.length = 32) (hm : m.length = 32) (w : World) :
    (Op.equalIn (d + 2) 39 (.agg (l.map Y).toArray) (.agg (m.map Y).toArray)).run Tryz.prog w = .ok (decide (l = m)) w := by
  obtain ⟨i0, hi, -⟩ := info_parts Tryz.info5
  rw [run_equalIn_array w (d + 1) _ _ Tryz.under22 hi, Tryz.cells5, ← all_eq hl hm]
  exact eqItems_two d l m hl hm w _ (fun j hj => List.mem_range.1 hj)
theorem eqArr (l m : List UInt8) (hl : l.length = 32) (hm : m.length = 32) (w : World) :
    (Op.equalIn 10000 39 (.agg (l.map Y).toArray) (.agg (m.map Y).toArray)).run Tryz.prog w = .ok (decide (l = m)) w := eqArrD 9998 l m hl hm w
theorem binArr (l m : List UInt8) (hl : l.length = 32) (hm : m.length = 32) (w : World) :
    (binOp .eql 39 (.agg (l.map Y).toArray) (.agg (m.map Y).toArray)).run Tryz.prog w = .ok (.bool (decide (l = m))) w := by
  rw [run_eql_struct, eqArr l m hl hm w]; rfl
end Go.Proofs.YtenaelkbgkpllaaGreatDoor
/- Two texts of one digest, looked for: the call. -/
namespace Go.Proofs.YtenaelkbgkpllaaGreatDoor
open Go.RowKit

/-- a list of texts, read -/
def Texts (w : World) (v : Value) (ls : List (List UInt8)) : Prop := ∃ (a : Option Addr) (c : Nat), v = .slice a ls.length c ∧ (ls ≠ [] → ∃ g, a = some ⟨g, 0, none⟩ ∧ ∀ i (h : i < ls.length), w.cell? ⟨g, i, none⟩ = some (Sv ls[i]))
theorem OwnS.texts {w : World} {B : Nat} {v : Value} {ls : List (List UInt8)} (h : OwnS w B v ls) : Texts w v ls := by
  rcases h.2 with ⟨rfl, h0⟩ | ⟨g, c, cur, rfl, _⟩
  · have e : ls = [] := by simpa using h0
    subst e
    exact ⟨none, 0, rfl, fun k => absurd rfl k⟩
  · refine ⟨_, c, rfl, fun _ => ⟨g, rfl, fun i hi => ?_⟩⟩
    have hc := h.cells (g := g) rfl i (Sv ls[i]) (by rw [List.getElem?_map, List.getElem?_eq_getElem hi]; rfl)
    rw [Addr.add_lit, Nat.zero_add] at hc
    exact hc
theorem Texts.below {w w' : World} {v : Value} {ls : List (List UInt8)} (h : Texts w v ls) (hb : Below w.heap.size w w') : Texts w' v ls := by
  obtain ⟨a, c, rfl, hc⟩ := h
  refine ⟨a, c, rfl, fun hne => ?_⟩
  obtain ⟨g, rfl, hp⟩ := hc hne
  exact ⟨g, rfl, fun i hi => (hb.cell (p := ⟨g, i, none⟩) (block_lt_of_cell (hp i hi))).trans (hp i hi)⟩
theorem dig_text (a : List UInt8) (L : List Value) (w : World) (h : a.length ≤ 300) (hK : KT w) (hL : (Sha.sha a).map Y = L) :
    Calls Tryz.prog 30 #[Sv a] w fun e w' => e = .returned (.agg L.toArray) ∧ Below w.heap.size w w' :=
  digest_any ⟨a.toArray⟩ L w (by show a.toArray.size ≤ _; rw [List.size_toArray]; omega) hK (by show (Sha.sha a.toArray.toList).map Y = L; rw [List.toList_toArray]; exact hL)
theorem below_drewN {B : Nat} {w w' : World} (h : Below B w w') (n : Nat) : Below B w (w'.drewN n) := ⟨h.os, h.tape, h.output, h.size, h.block⟩
/-- none of the first so many has the digest of another -/
def Clear (A Bs : List (List UInt8)) (n : Nat) : Prop := ∀ i (h : i < A.length), i < n → ∀ b ∈ Bs, A[i] ≠ b → Sha.sha A[i] ≠ Sha.sha b

set_option maxRecDepth 100000 in
set_option maxHeartbeats 2000000 in
theorem collide_any (s t : ByteArray) (n m : Nat) (S1 : Ward.PT n) (S2 : Ward.PT m) (w : World) (h1 : Ward.WF n S1) (h2 : Ward.WF m S2) (hs : s.data.toList = Ward.shows n S1) (ht : t.data.toList = Ward.shows m S2) (hn : n ≤ 6) (hm : m ≤ 6) (hA : (Ward.alls n S1).length ≤ 50000) (hB : (Ward.alls m S2).length ≤ 50000) (hsz : s.size ≤ 140737488355328) (htz : t.size ≤ 140737488355328) (hK : KT w) :
    Calls Tryz.prog 18 #[.string s, .string t] w fun e w' => ∃ r : Bool, e = .returned (.bool r) ∧ (r = false → ∀ a ∈ Ward.alls n S1, ∀ b ∈ Ward.alls m S2, a ≠ b → Sha.sha a ≠ Sha.sha b) ∧ Below w.heap.size w w' := by
  have hl1 : (Ward.shows n S1).length = s.size := by rw [← hs]; simp
  have hl2 : (Ward.shows m S2).length = t.size := by rw [← ht]; simp
  have H1 := hide (texts_any s w.heap.size hsz n S1 0 1 (.slice none 0 0) [] w h1 ⟨[], by simp [hs]⟩ (by omega) (World.ownsRow_nil _ _ _ _) (Nat.le_refl _) (by simp; omega))
  have sa := Ward.alls_small n S1 h1
  have sb := Ward.alls_small m S2 h2
  rw [hl1] at H1
  generalize Ward.alls n S1 = LA at *
  generalize Ward.own n S1 = OA at *
  have H2 := hide (fun w1 (hw : w.heap.size ≤ w1.heap.size) => texts_any t w.heap.size htz m S2 0 1 (.slice none 0 0) [] w1 h2 ⟨[], by simp [ht]⟩ (by omega) (World.ownsRow_nil _ _ _ _) hw (by simp; omega))
  rw [hl2] at H2
  generalize Ward.alls m S2 = LB at *
  generalize Ward.own m S2 = OB at *
  have HK := hide hK
  have HSA := hide sa
  have HSB := hide sb
  clear hK sa sb hs ht hl1 hl2 h1 h2
  go_enter Tryz.func18, Tryz.ntmps18
  go_wp2_with fail
  refine (H1.out).mono ?_
  rintro e w1 ⟨va, rfl, ho1, hg1, -⟩
  rw [List.nil_append] at ho1
  have hb1 : Below w.heap.size w w1 := ⟨hg1.os, hg1.tape, hg1.output, hg1.size, fun k hk => hg1.block k hk (by simp [Value.ownBlock])⟩
  go_wp2_with fail
  refine (H2.out w1 hb1.size).mono ?_
  rintro e w2 ⟨vb, rfl, ho2, hg2, -⟩
  rw [List.nil_append] at ho2
  have hb2 : Below w1.heap.size w1 w2 := ⟨hg2.os, hg2.tape, hg2.output, hg2.size, fun k hk => hg2.block k hk (by simp [Value.ownBlock])⟩
  have HTA := hide (ho1.below hb2).texts
  have HTB := hide ho2.texts
  have HBW := hide (hb1.trans (hb2.mono hb1.size))
  obtain ⟨aa, ca, rfl, -⟩ := HTA.out
  obtain ⟨ab, cb, rfl, -⟩ := HTB.out
  clear ho1 hg1 ho2 hg2 hb1 hb2 H1 H2
  go_wp2_with fail
  go_loopw [11] (fun vn wq => ∃ k : Nat, vn = I k ∧ k ≤ LA.length ∧ Clear LA LB k ∧ Below w2.heap.size w2 wq) (fun vn _ => LA.length - (intOf vn).toNat)
  case atStart => exact ⟨0, rfl, by omega, fun _ _ h => absurd h (by omega), Below.refl _ _⟩
  case round =>
    obtain ⟨k, rfl, hk, hcl, hbq⟩ := hrel
    have HCL := hide hcl
    have HBQ := hide hbq
    clear hcl hbq
    by_cases hlt : k < LA.length
    · go_wp2_with fail
      go_loopw [12] (fun vm wq => ∃ j : Nat, vm = I j ∧ j ≤ LB.length ∧ (∀ i (h : i < LB.length), i < j → LA[k] ≠ LB[i] → Sha.sha LA[k] ≠ Sha.sha LB[i]) ∧ Below w2.heap.size w2 wq) (fun vm _ => LB.length - (intOf vm).toNat)
      case atStart => exact ⟨0, rfl, by omega, fun _ _ h => absurd h (by omega), HBQ.out⟩
      case round =>
        clear HBQ
        obtain ⟨j, rfl, hj, hcj, hbr⟩ := hrel
        have HCJ := hide hcj
        have HBR := hide hbr
        clear hcj hbr
        by_cases hltj : j < LB.length
        · have hta := HTA.out.below HBR.out
          have htb := HTB.out.below HBR.out
          obtain ⟨a', c', e', hga⟩ := hta
          obtain ⟨ga, e2, hca⟩ := hga (fun e => by subst e; simp at hlt)
          obtain ⟨a2', c2', e3, hgb⟩ := htb
          obtain ⟨gb, e4, hcb⟩ := hgb (fun e => by subst e; simp at hltj)
          injection e' with e5 e6 e7
          injection e3 with e8 e9 e10
          rw [e2] at e5
          rw [e4] at e8
          subst e5 e8
          have ka := hca k hlt
          have kb := hcb j hltj
          have la := HSA.out _ (List.getElem_mem hlt)
          have lb := HSB.out _ (List.getElem_mem hltj)
          generalize hAk : LA[k] = TA at *
          generalize hBj : LB[j] = TB at *
          have HAk := hide hAk
          have HBj := hide hBj
          clear hca hcb hga hgb e2 e4 e6 e7 e9 e10 hAk hBj
          by_cases hab : TA = TB
          · subst hab
            go_wp2_with fail
            go_quiet (fail)
            go_wp2_with fail
            refine ⟨⟨j + 1, by go_num, by omega, fun i hi hij hne => ?_, below_drewN HBR.out _⟩, by simp [intOf]; omega⟩
            rcases Nat.lt_or_ge i j with h | h
            · exact HCJ.out i hi h hne
            · have e : i = j := by omega
              subst e
              exact absurd HBj.out.symm hne
          · have hne : (TA == TB) = false := by simpa using hab
            obtain ⟨DA, hDA⟩ : ∃ L, (Sha.sha TA).map Y = L := ⟨_, rfl⟩
            obtain ⟨DB, hDB⟩ : ∃ L, (Sha.sha TB).map Y = L := ⟨_, rfl⟩
            have dA : Dig DA := hDA ▸ dig_of _
            have dB : Dig DB := hDB ▸ dig_of _
            have hEq := eqArr (Sha.sha TA) (Sha.sha TB) rfl rfl
            rw [hDA, hDB] at hEq
            have HEq := hide hEq
            have HDA := hide hDA
            have HDB := hide hDB
            clear hDA hDB hEq
            go_wp2_with fail
            go_quiet (fail)
            generalize hW : World.drewN _ _ = w3
            have hb3 : Below w2.heap.size w2 w3 := by rw [← hW]; exact below_drewN HBR.out _
            have ka3 : w3.cell? ⟨ga, k, none⟩ = some (Sv TA) := by rw [← hW]; exact ka
            have kb3 : w3.cell? ⟨gb, j, none⟩ = some (Sv TB) := by rw [← hW]; exact kb
            have hK3 : KT w3 := HK.out.below (HBW.out.trans (hb3.mono HBW.out.size))
            have HB3 := hide hb3
            have HK3 := hide hK3
            clear hW ka kb hb3 hK3
            go_wp2_with fail
            refine (dig_text TA DA w3 la HK3.out HDA.out).mono ?_
            rintro e w4 ⟨rfl, hb4⟩
            have HK4 := hide (HK3.out.below hb4)
            have kb4 := fun o => (World.cell?_alloc_lt w4 o ⟨gb, j, none⟩ (Nat.lt_of_lt_of_le (block_lt_of_cell kb3) hb4.size)).trans ((hb4.cell (p := ⟨gb, j, none⟩) (block_lt_of_cell kb3)).trans kb3)
            go_wp2_with (refine wpList_store_row rfl 39 (.tmp 13) (.tmp 64) rfl w4.heap.size DA.toArray rfl rfl 39 _ (heap_alloc_new w4 _) dA.info (by rw [dA.size]; rfl) dA.one ?_; rw [World.setRow_alloc_new])
            refine (dig_text TB DB _ lb (HK4.out.below ((Below.refl _ _).alloc (Nat.le_refl _) _)) HDB.out).mono ?_
            rintro e w5 ⟨rfl, hb5⟩
            have z4 : w4.heap.size < w5.heap.size := by have := hb5.size; simp at this; omega
            have rA : ∀ o, (w5.alloc o).heap[w4.heap.size]? = some (.cells DA.toArray 39 (0, 0)) := fun o => (Below.heap_alloc _ _ _ z4).trans ((hb5.block w4.heap.size (by simp)).trans (heap_alloc_new w4 _))
            have HRA := hide rA
            have HB5 := hide (fun o => ((HB3.out.trans (hb4.mono HB3.out.size)).alloc (Nat.le_trans HB3.out.size hb4.size) _).trans (hb5.mono (by simp; exact Nat.le_succ_of_le (Nat.le_trans HB3.out.size hb4.size))) |>.alloc (by
              have h1 := HB3.out.size
              have h2 := hb4.size
              omega) o)
            clear rA hb4 hb5 ka3 kb3 kb4
            by_cases hsh : Sha.sha TA = Sha.sha TB
            · have hE : ∀ W, (Op.equalIn 10000 39 (.agg DA.toArray) (.agg DB.toArray)).run Tryz.prog W = .ok true W := fun W => by rw [HEq.out W, decide_eq_true hsh]
              go_wp2_with (first | (refine wpList_store_row rfl 39 (.tmp 14) (.tmp 69) rfl w5.heap.size DB.toArray rfl rfl 39 _ (heap_alloc_new w5 _) dB.info (by rw [dB.size]; rfl) dB.one ?_; rw [World.setRow_alloc_new]) | (refine wpList_load_row rfl 39 (.tmp 13) rfl w4.heap.size rfl 39 DA.toArray (0, 0) _ (HRA.out _) Tryz.underlying39 rfl dA.info ?_) | (refine wpList_load_row rfl 39 (.tmp 14) rfl w5.heap.size rfl 39 DB.toArray (0, 0) _ (heap_alloc_new w5 _) Tryz.underlying39 rfl dB.info ?_))
              go_ret
              exact ⟨true, rfl, fun h => absurd h (by decide), HBW.out.trans ((HB5.out _).mono HBW.out.size)⟩
            · have hE : ∀ W, (Op.equalIn 10000 39 (.agg DA.toArray) (.agg DB.toArray)).run Tryz.prog W = .ok false W := fun W => by rw [HEq.out W, decide_eq_false hsh]
              go_wp2_with (first | (refine wpList_store_row rfl 39 (.tmp 14) (.tmp 69) rfl w5.heap.size DB.toArray rfl rfl 39 _ (heap_alloc_new w5 _) dB.info (by rw [dB.size]; rfl) dB.one ?_; rw [World.setRow_alloc_new]) | (refine wpList_load_row rfl 39 (.tmp 13) rfl w4.heap.size rfl 39 DA.toArray (0, 0) _ (HRA.out _) Tryz.underlying39 rfl dA.info ?_) | (refine wpList_load_row rfl 39 (.tmp 14) rfl w5.heap.size rfl 39 DB.toArray (0, 0) _ (heap_alloc_new w5 _) Tryz.underlying39 rfl dB.info ?_))
              refine ⟨⟨j + 1, by go_num, by omega, fun i hi hij hne => ?_, HB5.out _⟩, by simp [intOf]; omega⟩
              rcases Nat.lt_or_ge i j with h | h
              · exact HCJ.out i hi h hne
              · have e : i = j := by omega
                subst e
                rw [HBj.out]
                exact hsh
        · have ej : j = LB.length := by omega
          subst ej
          go_wp2_with fail
          refine ⟨⟨k + 1, by go_num, by omega, fun i hi hik b hb hne => ?_, HBR.out⟩, by simp [intOf]; omega⟩
          rcases Nat.lt_or_ge i k with h | h
          · exact HCL.out i hi h b hb hne
          · have e : i = k := by omega
            subst e
            obtain ⟨q, hq, rfl⟩ := List.getElem_of_mem hb
            exact HCJ.out q hq hq hne
    · have ek : k = LA.length := by omega
      subst ek
      go_wp2
      go_ret
      refine ⟨false, rfl, fun _ a ha b hb hne => ?_, HBW.out.trans (HBQ.out.mono HBW.out.size)⟩
      obtain ⟨q, hq, rfl⟩ := List.getElem_of_mem ha
      exact HCL.out q hq hq b hb hne
end Go.Proofs.YtenaelkbgkpllaaGreatDoor
/- A map filled beside others. -/
namespace Go.Proofs.YtenaelkbgkpllaaGreatDoor
open Go.RowKit

theorem Own.zero {w : World} {B : Nat} {v : Value} {L : List Ward.Pt} (h : Own w B v L) : Own w 0 v L := by
  refine ⟨h.1, ?_⟩
  rcases h.2 with h0 | ⟨g, cap, cur, rfl, hb, r⟩
  · exact .inl h0
  · exact .inr ⟨g, cap, cur, rfl, Nat.zero_le _, r⟩
/-- a map and a list, made anew, all else as it was -/
structure Fill (w w' : World) (m : Nat) (v : Value) (L : List Ward.Pt) (vl : Value) (l : List Ward.Pt) : Prop where
  map : IsMap w' m v L
  good : Good L
  list : Own w' w.heap.size vl l
  newm : w.heap.size ≤ m
  newv : ∀ g, v.ownBlock = some g → w.heap.size ≤ g
  apart : ∀ g, vl.ownBlock = some g → ¬ Mine m v g
  keeps : Below w.heap.size w w'
section
variable {w w' w'' : World} {m : Nat} {v v' vl vl' : Value} {L L' l l' : List Ward.Pt}
theorem Fill.below (h : Fill w w' m v L vl l) (hb : Below w'.heap.size w' w'') : Fill w w'' m v L vl l :=
  ⟨h.map.below hb, h.good, h.list.below hb, h.newm, h.newv, h.apart, h.keeps.trans (hb.mono h.keeps.size)⟩
theorem keeps_new {S : Nat → Prop} (h : Below w.heap.size w w') (hk : Keeps S w' w'') (hS : ∀ j, S j → w.heap.size ≤ j) : Below w.heap.size w w'' :=
  ⟨hk.os.trans h.os, hk.tape.trans h.tape, hk.output.trans h.output, Nat.le_trans h.size hk.size, fun j hj => (hk.block j (Nat.lt_of_lt_of_le hj h.size) (fun e => by have := hS j e; omega)).trans (h.block j hj)⟩
theorem Fill.insert (h : Fill w w' m v L vl l) (hm : IsMap w'' m v' L') (hG : Good L') (hf : Fresh w' v v') (hk : Keeps (Mine m v) w' w'') : Fill w w'' m v' L' vl l := by
  have h2 := h.keeps.size
  refine ⟨hm, hG, h.list.keeps hk h.apart, h.newm, fun g hg => ?_, fun g hg e => ?_, keeps_new h.keeps hk (fun j e => ?_)⟩
  · rcases hf with hf | ⟨g', hf, hg'⟩
    · exact h.newv g (by rw [← hf]; exact hg)
    · rw [hg] at hf; injection hf with hf; omega
  · rcases e with rfl | e
    · exact h.apart g hg (.inl rfl)
    · rcases hf with hf | ⟨g', hf, hg'⟩
      · exact h.apart g hg (.inr (by rw [← hf]; exact e))
      · rw [← e] at hf
        injection hf with hf
        have := h.list.lt hg
        omega
  · rcases e with rfl | e
    · exact h.newm
    · exact h.newv j e.symm
theorem Fill.append (h : Fill w w' m v L vl l) (ho : Own w'' w.heap.size vl' l') (hg : w'.grownBy w'' vl.ownBlock) (hf : Fresh w' vl vl') : Fill w w'' m v L vl' l' := by
  have hk := Keeps.of_grown hg
  refine ⟨h.map.keeps hk (fun j hj e => h.apart j e.symm hj), h.good, ho, h.newm, h.newv, fun g hg' e => ?_, keeps_new h.keeps hk (fun j e => h.list.ge e.symm)⟩
  rcases hf with hf | ⟨g', hf, hg''⟩
  · exact h.apart g (by rw [← hf]; exact hg') e
  · rw [hg'] at hf
    injection hf with hf
    have hlt : g < w'.heap.size := by
      rcases e with rfl | e
      · exact h.map.lt
      · exact h.map.own.lt e.symm
    omega
end
/-- the query that has all shown, where it is laid -/
def WT (w : World) : Prop := w.cell? ⟨0, 0, none⟩ = some (I 0) ∧ w.cell? ⟨0, 1, none⟩ = some (I (-1000000)) ∧ w.cell? ⟨0, 2, none⟩ = some (I (-1000000)) ∧ w.cell? ⟨0, 3, none⟩ = some (I 1000000) ∧ w.cell? ⟨0, 4, none⟩ = some (I 1000000) ∧ w.cell? ⟨0, 5, none⟩ = some (I 0) ∧ w.cell? ⟨0, 6, none⟩ = some (I 0) ∧ w.cell? ⟨0, 7, none⟩ = some (I 0)
theorem WT.below {w w' : World} (h : WT w) (hb : Below w.heap.size w w') : WT w' := by
  obtain ⟨h0, h1, h2, h3, h4, h5, h6, h7⟩ := h
  have hl : 0 < w.heap.size := block_lt_of_cell h0
  exact ⟨(hb.cell (p := ⟨0, 0, none⟩) hl).trans h0, (hb.cell (p := ⟨0, 1, none⟩) hl).trans h1, (hb.cell (p := ⟨0, 2, none⟩) hl).trans h2, (hb.cell (p := ⟨0, 3, none⟩) hl).trans h3, (hb.cell (p := ⟨0, 4, none⟩) hl).trans h4, (hb.cell (p := ⟨0, 5, none⟩) hl).trans h5, (hb.cell (p := ⟨0, 6, none⟩) hl).trans h6, (hb.cell (p := ⟨0, 7, none⟩) hl).trans h7⟩
/-- two maps and lists of their points -/
structure Pair (w : World) (m : Nat) (v : Value) (L : List Ward.Pt) (vl : Value) (l : List Ward.Pt) : Prop where
  map : IsMap w m v L
  good : Good L
  list : Own w 0 vl l
  perm : L.Perm l
theorem Pair.below {w w' : World} {m : Nat} {v vl : Value} {L l : List Ward.Pt} (h : Pair w m v L vl l) (hb : Below w.heap.size w w') : Pair w' m v L vl l := ⟨h.map.below hb, h.good, h.list.below hb, h.perm⟩
theorem Held.pair {B : Nat} {w w' : World} {d k m : Nat} {code : List Int} {v vl : Value} {L l : List Ward.Pt} (h : Held B w w' d code k m v L vl l) (hp : L.Perm l) : Pair w' m v L vl l := ⟨h.map, h.good, h.list.zero, hp⟩
theorem Fill.pair {w w' : World} {m : Nat} {v vl : Value} {L l : List Ward.Pt} (h : Fill w w' m v L vl l) (hp : L.Perm l) : Pair w' m v L vl l := ⟨h.map, h.good, h.list.zero, hp⟩
/-- the dice as they are laid -/
theorem dice_new {w : World} {a : Option Addr} {c : Nat} {code : List Int} (hlen : code.length ≤ 140737488355328) (hfit : ∀ x ∈ code, -9223372036854775808 ≤ x ∧ x ≤ 9223372036854775807) (hcells : code ≠ [] → ∃ g o, a = some ⟨g, o, none⟩ ∧ ∀ i (h : i < code.length), w.cell? ⟨g, o + i, none⟩ = some (I code[i])) :
    Dice (w.alloc (.cells #[.slice a code.length c, I 0] 32)) (w.heap.size + 1) w.heap.size code 0 := by
  refine ⟨a, c, heap_alloc_new w _, Nat.zero_le _, Nat.lt_succ_self _, hlen, hfit, fun hne => ?_⟩
  obtain ⟨g, o, rfl, hc⟩ := hcells hne
  have hg : g < w.heap.size := block_lt_of_cell (hc 0 (by have : code.length ≠ 0 := fun e => hne (List.length_eq_zero_iff.1 e); omega))
  exact ⟨g, o, rfl, by omega, by omega, fun i hi => (World.cell?_alloc_lt w _ ⟨g, o + i, none⟩ hg).trans (hc i hi)⟩
end Go.Proofs.YtenaelkbgkpllaaGreatDoor
/- Commitments compared. -/
namespace Go.Proofs.YtenaelkbgkpllaaGreatDoor
open Go.RowKit

/-- a digest and a number as values -/
def rootV (l : List UInt8) (n : Int) : List Value := l.map Y ++ [I n]
theorem Tryz.infoCommit : (Tryz.prog.info? 41).map (·.size) = some 33 := by kernel_rfl
theorem rootV_len (l : List UInt8) (n : Int) (h : l.length = 32) : (rootV l n).length = 33 := by simp [rootV, h]
theorem rootV_one (l : List UInt8) (n : Int) : (rootV l n).toArray.all (·.oneCell') = true := by
  rw [List.all_toArray, List.all_eq_true]
  intro v hv
  rcases List.mem_append.1 hv with hv | hv
  · obtain ⟨b, _, rfl⟩ := List.mem_map.1 hv; rfl
  · rw [List.mem_singleton.1 hv]; rfl
theorem part_root (l : List UInt8) (n : Int) (h : l.length = 32) (W : World) : (part 39 (rootV l n).toArray 0).run Tryz.prog W = .ok (.agg (l.map Y).toArray) W := by
  have a := Tryz.isAgg39 W
  have e : List.take 32 (rootV l n) = List.map Y l := by
    rw [rootV, List.take_append_of_le_length (by simp [h]), List.take_of_length_le (by simp [h])]
  simp [part, Sem.run_bind, a, e]
theorem part_count (l : List UInt8) (n : Int) (h : l.length = 32) (W : World) : (part 3 (rootV l n).toArray 32).run Tryz.prog W = .ok (I n) W := by
  have e : (rootV l n).toArray[32]? = some (I n) := by
    rw [List.getElem?_toArray, rootV, List.getElem?_append_right (by simp [h])]
    simp [h]
  simp [part, Sem.run_bind, Tryz.isAgg3, e]
theorem eqCommit (l m : List UInt8) (a b : Int) (hl : l.length = 32) (hm : m.length = 32) (W : World) :
    (Op.equalIn 10000 41 (.agg (rootV l a).toArray) (.agg (rootV m b).toArray)).run Tryz.prog W = .ok (decide (l = m) && (a == b)) W := by
  have hS : Tryz.prog.underlying 41 = some (.struct (Tryz.prog.fieldsOf 41)) := by kernel_rfl
  have hp : Tryz.prog.stoodInHeld 41 = false := by kernel_rfl
  rw [show (10000 : Nat) = 9999 + 1 from rfl, run_equalIn_agg W 9999 41 _ _ hS hp]
  simp only [Program.fieldsOf, Tryz.underlying41]
  have e2 : (Op.equalIn 9999 3 (I a) (I b)).run Tryz.prog W = .ok (a == b) W := run_equalIn_int W 9998 3 .i64 .i64 a b Tryz.underlying3
  simp only [Op.eqFields, Sem.run_bind, Sem.run_ite, part_root l a hl, part_root m b hm, part_count l a hl, part_count m b hm, Result.andThen_ok, eqArrD 9997 l m hl hm W, e2]
  cases decide (l = m) <;> cases a == b <;> simp
/-- what a commitment is as values -/
def commitV (L : List Ward.Pt) : List Value := rootV (Sha.sha (Ward.rootText Sha.sha L)) L.length
/-- a commitment's values, kept shut -/
structure Com (C : List Value) : Prop where
  size : C.toArray.size = 33
  one : C.toArray.all (·.oneCell') = true
  info : (Tryz.prog.info? 41).map (·.size) = some C.toArray.size
theorem com_of (L : List Ward.Pt) : Com (commitV L) := by
  have h : (commitV L).toArray.size = 33 := by rw [List.size_toArray]; exact rootV_len _ _ rfl
  exact ⟨h, rootV_one _ _, by rw [h]; exact Tryz.infoCommit⟩
theorem eqCom (L L' : List Ward.Pt) (W : World) : (Op.equalIn 10000 41 (.agg (commitV L).toArray) (.agg (commitV L').toArray)).run Tryz.prog W = .ok (decide (Sha.sha (Ward.rootText Sha.sha L) = Sha.sha (Ward.rootText Sha.sha L')) && ((L.length : Int) == (L'.length : Int))) W := eqCommit _ _ _ _ rfl rfl W
theorem sha_len (l : List UInt8) : (Sha.sha l).length = 32 := rfl
theorem WT.cells {w : World} (h : WT w) : w.cell? ⟨0, 0, none⟩ = some (I 0) ∧ w.cell? ⟨0, 1, none⟩ = some (I (-1000000)) ∧ w.cell? ⟨0, 2, none⟩ = some (I (-1000000)) ∧ w.cell? ⟨0, 3, none⟩ = some (I 1000000) ∧ w.cell? ⟨0, 4, none⟩ = some (I 1000000) ∧ w.cell? ⟨0, 5, none⟩ = some (I 0) ∧ w.cell? ⟨0, 6, none⟩ = some (I 0) ∧ w.cell? ⟨0, 7, none⟩ = some (I 0) := h
/-- of two maps that are not alike, with one commitment, two texts of one digest are found -/
theorem found_of {L L' : List Ward.Pt} {r : Bool} (h : Good L) (h' : Good L') (hne : L ≠ L') (e : Sha.sha (Ward.rootText Sha.sha L) = Sha.sha (Ward.rootText Sha.sha L'))
    (hr : r = false → ∀ a ∈ Ward.alls _ (Ward.rootShow Sha.sha L), ∀ b ∈ Ward.alls _ (Ward.rootShow Sha.sha L'), a ≠ b → Sha.sha a ≠ Sha.sha b) : r = true := by
  cases r with
  | true => rfl
  | false =>
    obtain ⟨a, ha, b, hb, h1, h2⟩ := Ward.root_found sha_len h.ok h'.ok hne e
    exact absurd h2 (hr rfl a ha b hb h1)
/-- collide of two whole proofs -/
theorem collide_of (L L' : List Ward.Pt) (w : World) (h : Good L) (h' : Good L') (hK : KT w) :
    Calls Tryz.prog 18 #[Sv (Ward.fullText Sha.sha L), Sv (Ward.fullText Sha.sha L')] w fun e w' => ∃ r : Bool, e = .returned (.bool r) ∧ (r = false → ∀ a ∈ Ward.alls _ (Ward.rootShow Sha.sha L), ∀ b ∈ Ward.alls _ (Ward.rootShow Sha.sha L'), a ≠ b → Sha.sha a ≠ Sha.sha b) ∧ Below w.heap.size w w' := by
  have h1 := Nat.le_trans h.many (show 150 ≤ 256 by decide)
  have h2 := Nat.le_trans h'.many (show 150 ≤ 256 by decide)
  have d1 := Ward.tree_depth h1
  have d2 := Ward.tree_depth h2
  have l1 := Ward.fullText_len sha_len h.ok h1
  have l2 := Ward.fullText_len sha_len h'.ok h2
  exact collide_any ⟨(Ward.fullText Sha.sha L).toArray⟩ ⟨(Ward.fullText Sha.sha L').toArray⟩ _ _ (Ward.rootShow Sha.sha L) (Ward.rootShow Sha.sha L') w (Ward.root_wf sha_len h.ok) (Ward.root_wf sha_len h'.ok)
    (by show (Ward.fullText Sha.sha L).toArray.toList = _; rw [List.toList_toArray, Ward.root_shows]) (by show (Ward.fullText Sha.sha L').toArray.toList = _; rw [List.toList_toArray, Ward.root_shows]) (by omega) (by omega)
    (Nat.le_trans (Ward.root_few Sha.sha h.ok h1) (by decide)) (Nat.le_trans (Ward.root_few Sha.sha h'.ok h2) (by decide))
    (by show (Ward.fullText Sha.sha L).toArray.size ≤ _; rw [List.size_toArray]; omega) (by show (Ward.fullText Sha.sha L').toArray.size ≤ _; rw [List.size_toArray]; omega) hK
theorem fulls_eq {L L' : List Ward.Pt} {al : Bool} (h : Good L) (h' : Good L') (hal : al = true ↔ L = L') : (Ward.fullText Sha.sha L == Ward.fullText Sha.sha L') = al := by
  rw [Bool.eq_iff_iff, beq_iff_eq, hal]
  exact ⟨fun e => Ward.fullText_inj sha_len h.ok h'.ok e, fun e => by rw [e]⟩
theorem full_some (L : List Ward.Pt) : Ward.fullText Sha.sha L ≠ [] := Ward.full_ne _ _ _
end Go.Proofs.YtenaelkbgkpllaaGreatDoor
/- One level of nodes above another: the parts. -/
namespace Go.Proofs.YtenaelkbgkpllaaGreatDoor
open Go.RowKit

def zeroNode : Value := .agg (nodeV (.slice none 0 0) (.slice none 0 0) ⟨0, 0, 0, 0⟩ 0 zero32).toArray
theorem Tryz.infoNodeZ : (Tryz.prog.info? 90).map (fun i => (i.zero, i.size, i.bytes)) = some (some zeroNode, 39, 120) := by kernel_rfl
theorem fill_one {s : Nat} (hs : 0 < s) (M cells : Array Value) (hM : M.size = s) (hc : cells.size = s) : Instr.fill (fun i => some (i * s, s)) cells [(0, .agg M)] = some M := by
  obtain ⟨r, hr, hsz, hk⟩ := Great.fill_dense hs [.agg M] 0 cells (fun v hv => by rw [List.mem_singleton.1 hv]; exact hM) (by simp; omega)
  have e : r = M := by
    apply Array.ext_getElem?
    intro k
    rw [hk k]
    by_cases h : k < s
    · rw [if_pos (by simp; omega), Nat.div_eq_of_lt h, Nat.mod_eq_of_lt h]; rfl
    · rw [if_neg (by simp; omega), Array.getElem?_eq_none (by omega), Array.getElem?_eq_none (by omega)]
  subst e
  exact hr
theorem ownsRow_below {w w' : World} {B e size n : Nat} {v : Value} {xs : List Value} (h : w.ownsRow B e size v n xs) (hb : Below w.heap.size w w') : w'.ownsRow B e size v n xs := by
  refine ⟨h.1, ?_⟩
  rcases h.2 with h0 | ⟨g, cap, cur, rfl, hB, hg, r⟩
  · exact .inl h0
  · exact .inr ⟨g, cap, cur, rfl, hB, (hb.block g (Array.getElem?_eq_some_iff.1 hg).1).trans hg, r⟩
/-- a node put behind others -/
theorem append_node {w : World} {B : Nat} {v : Value} {n : Nat} {xs : List Value} (M : List Value) (hM : Row39 M) (hown : w.ownsRow B 90 39 v n xs) (hB : B ≤ w.heap.size) (hn : n ≤ 1000) :
    ∃ v' w', (Builtin.append_ #[86, 86] 86 #[v, .slice (some ⟨w.heap.size, 0, none⟩) 1 1]).run Tryz.prog (w.alloc (.cells M.toArray 90)) = .ok v' w' ∧ w'.ownsRow B 90 39 v' (n + 1) (xs ++ M) ∧ w.grownBy w' v.ownBlock ∧ Fresh w v v' := by
  obtain ⟨i0, hi0, hz0, hz1, hz2⟩ := info_parts Tryz.infoNodeZ
  obtain ⟨v', w', hr, ho, hg, hf⟩ := run_append_own2 (P := Tryz.prog) (w.alloc (.cells M.toArray 90)) B 86 86 90 i0 zeroNode 39 120 Tryz.underlying86 hi0 hz0 hz1 hz2 (nodeV_size (by rfl)) (by decide) v n xs (hown.alloc _) ⟨w.heap.size, 0, none⟩ 1 1 M (by rw [hM.len])
    (fun j u hj => by rw [Addr.add_lit, Nat.zero_add, cell_of_row _ _ _ _ _ _ (heap_alloc_new w _), List.getElem?_toArray]; exact hj)
    (fun u hu => Array.all_eq_true_iff_forall_mem.1 hM.one u (by simpa using hu)) (by unfold maxLen; omega) (by omega) (by simp; omega)
  refine ⟨v', w', hr, ho, ⟨hg.os, hg.tape, hg.output, Nat.le_trans (by simp) hg.size, fun j hj hne => (hg.block j (by simp; omega) hne).trans (Below.heap_alloc w _ j hj)⟩, ?_⟩
  rcases hf with hf | ⟨g, hf, hgs⟩
  · exact .inl hf
  · exact .inr ⟨g, hf, Nat.le_trans (by simp) hgs⟩
theorem flat_get {c : Nat} : ∀ (Us : List (List Value)) (j i : Nat), (∀ U ∈ Us, U.length = c) → i < c → Us.flatten[j * c + i]? = (Us[j]?).bind (fun U => U[i]?)
  | [], j, i, _, _ => by simp
  | U :: Us, 0, i, h, hi => by
    rw [List.flatten_cons, Nat.zero_mul, Nat.zero_add, List.getElem?_append_left (by rw [h U (by simp)]; exact hi)]
    rfl
  | U :: Us, j + 1, i, h, hi => by
    have hU := h U (by simp)
    have e : (j + 1) * c + i = c + (j * c + i) := by rw [Nat.succ_mul]; omega
    rw [List.flatten_cons, e, List.getElem?_append_right (by omega), hU, Nat.add_sub_cancel_left, flat_get Us j i (fun V hV => h V (by simp [hV])) hi]
    rfl
/-- a level of the tree: nodes in a row -/
def Level (w : World) (S : Nat → Prop) (v : Value) (n : Nat) (K : List (Ward.NT n)) : Prop := RowsAt (NodeIs w S n) w S v K ∧ ∃ a c, v = .slice a K.length c ∧ K.length ≤ c ∧ c ≤ maxLen
theorem level_of_own {w : World} {S : Nat → Prop} {B n m : Nat} {v : Value} {K : List (Ward.NT n)} {f : Nat → List Value} (ho : w.ownsRow B 90 39 v m ((List.range m).flatMap f)) (hK : K.length = m) (hm : 0 < m) (h39 : ∀ j, j < m → (f j).length = 39) (hn : ∀ j (h : j < K.length), NodeIs w S n K[j] (f j)) (hS : ∀ g, B ≤ g → g < w.heap.size → S g) : Level w S v n K := by
  have ho' := ho
  rcases ho.2 with ⟨_, h0⟩ | ⟨g, cap, cur, rfl, hB, hg, hcap, hmax, hcs, htake⟩
  · omega
  · subst hK
    refine ⟨⟨some ⟨g, 0, none⟩, cap, rfl, fun _ => ⟨g, 0, rfl, hS g hB (Array.getElem?_eq_some_iff.1 hg).1, fun j hj => ⟨f j, hn j hj, fun i u hu => ?_⟩⟩⟩, _, _, rfl, hcap, hmax⟩
    have hi : i < 39 := by rw [← h39 j hj]; exact (List.getElem?_eq_some_iff.1 hu).1
    have h := ho'.cells (g := g) rfl (j * 39 + i) u (by
      rw [List.flatMap_def, flat_get _ j i (fun U hU => by
        obtain ⟨k, hk, rfl⟩ := List.mem_map.1 hU
        exact h39 k (List.mem_range.1 hk)) hi]
      rw [List.getElem?_map, List.getElem?_range hj]
      exact hu)
    rw [Addr.add_lit] at h
    rw [Nat.zero_add] at h ⊢
    exact h
namespace Ward
/-- a node above these -/
def upN (n : Nat) (G : List (NT n)) : NT (n + 1) := ⟨[], G, boxL (G.map (boxN n)), (G.map (numN n)).sum, Sha.sha (textK n G)⟩
theorem sum_nat : ∀ (l : List Nat), (l.map (fun (x : Nat) => (x : Int))).sum = (l.sum : Nat)
  | [] => rfl
  | x :: l => by rw [List.map_cons, List.sum_cons, List.sum_cons, sum_nat l]; omega
theorem up_mk (n : Nat) (G : List (T n)) : upN (n + 1) (G.map (mk Sha.sha n)) = mk Sha.sha (n + 1) G := by
  have h1 : (G.map (mk Sha.sha n)).map (boxN (n + 1)) = G.map (box n) := by
    rw [List.map_map]; exact List.map_congr_left fun c _ => mk_box Sha.sha n c
  have h2 : ((G.map (mk Sha.sha n)).map (numN (n + 1))).sum = ((G.map (count n)).sum : Nat) := by
    rw [← sum_nat, List.map_map, List.map_map]
    congr 1
    exact List.map_congr_left fun c _ => mk_num Sha.sha n c
  unfold upN
  rw [h1, h2, mk_text]
  rfl
theorem fours_map {α β : Type} (f : α → β) (l : List α) : fours (l.map f) = (fours l).map (List.map f) := by
  simp [fours, List.map_drop, List.map_take]
end Ward
/-- the cells of a node above a group -/
def upV (g o n : Nat) (K : List (Ward.NT n)) (j : Nat) : List Value := nodeV (.slice none 0 0) (groupV 39 g o K.length j) (Ward.boxL (((K.drop (4 * j)).take 4).map (Ward.boxN n))) ((((K.drop (4 * j)).take 4).map (Ward.numN n)).sum) ((Sha.sha (Ward.textK n ((K.drop (4 * j)).take 4))).map Y)
theorem upV_row (g o n : Nat) (K : List (Ward.NT n)) (j : Nat) : Row39 (upV g o n K j) := nodeV_row (sha_len _)
theorem group_rows {w : World} {S : Nat → Prop} {g o n : Nat} {K : List (Ward.NT n)} {P : Ward.NT n → List Value → Prop} (hB : S g) (h : ∀ i (h : i < K.length), ∃ U, P K[i] U ∧ w.rangeAt g (o + i * 39) U) (j : Nat) :
    RowsAt P w S (groupV 39 g o K.length j) ((K.drop (4 * j)).take 4) := by
  have hl : ((K.drop (4 * j)).take 4).length = min 4 (K.length - 4 * j) := by simp
  refine ⟨some ⟨g, o + 4 * j * 39, none⟩, min 4 (K.length - 4 * j), by rw [hl]; rfl, fun _ => ⟨g, o + 4 * j * 39, rfl, hB, fun i hi => ?_⟩⟩
  rw [hl] at hi
  obtain ⟨U, hU, hr⟩ := h (4 * j + i) (by omega)
  refine ⟨U, ?_, ?_⟩
  · rw [List.getElem_take, List.getElem_drop]
    exact hU
  · rw [show o + 4 * j * 39 + i * 39 = o + (4 * j + i) * 39 by omega]
    exact hr
end Go.Proofs.YtenaelkbgkpllaaGreatDoor
/- The points of a window. -/
namespace Go.Proofs.YtenaelkbgkpllaaGreatDoor
open Go.RowKit

/-- a point put behind others -/
theorem append_pt {w : World} {B : Nat} {v : Value} {l : List Ward.Pt} (p : Ward.Pt) (hown : Own w B v l) (hB : B ≤ w.heap.size) (hn : l.length ≤ 100000) :
    ∃ v' w', (Builtin.append_ #[27, 27] 27 #[v, .slice (some ⟨w.heap.size, 0, none⟩) 1 1]).run Tryz.prog (w.alloc (.cells #[I p.id, I p.x, I p.y] 36)) = .ok v' w' ∧ Own w' B v' (l ++ [p]) ∧ w.grownBy w' v.ownBlock ∧ Fresh w v v' := by
  obtain ⟨i0, hi0, hz0, hz1, hz2⟩ := info_parts Tryz.infoPt
  have hown' : (w.alloc (.cells #[I p.id, I p.x, I p.y] 36)).ownsRow B 36 3 v l.length (l.flatMap P3) := World.ownsRow.alloc hown _
  obtain ⟨v', w', hr, ho, hg, hf⟩ := run_append_own2 (P := Tryz.prog) (w.alloc (.cells #[I p.id, I p.x, I p.y] 36)) B 27 27 36 i0 (.agg #[I 0, I 0, I 0]) 3 24 Tryz.underlying27 hi0 hz0 hz1 hz2 rfl (by decide) v l.length (l.flatMap P3) hown' ⟨w.heap.size, 0, none⟩ 1 1 (P3 p) rfl
    (fun j u hj => by
      rw [Addr.add_lit, Nat.zero_add, cell_of_row _ _ _ _ _ _ (heap_alloc_new w _)]
      rw [List.getElem?_toArray]
      exact hj)
    (fun u hu => cells_one (L := [p]) u (by simpa using hu)) (by unfold maxLen; omega) (by omega) (by simp; omega)
  refine ⟨v', w', hr, ?_, ⟨hg.os, hg.tape, hg.output, Nat.le_trans (by simp) hg.size, fun j hj hne => (hg.block j (by simp; omega) hne).trans (Below.heap_alloc w _ j hj)⟩, ?_⟩
  · unfold Own
    rw [List.length_append, List.flatMap_append]
    have e : [p].flatMap P3 = P3 p := by simp
    rw [e]
    exact ho
  · rcases hf with hf | ⟨g, hf, hgs⟩
    · exact .inl hf
    · exact .inr ⟨g, hf, Nat.le_trans (by simp) hgs⟩
/-- what putting points behind others leaves -/
def PutP (w : World) (B : Nat) (v : Value) (l more : List Ward.Pt) (e : Ending) (w' : World) : Prop := ∃ v', e = .returned v' ∧ Own w' B v' (l ++ more) ∧ w.grownBy w' v.ownBlock ∧ Fresh w v v'
theorem Own.slice {w : World} {B : Nat} {v : Value} {L : List Ward.Pt} (h : Own w B v L) : ∃ a c, v = .slice a L.length c := by
  rcases h.2 with ⟨rfl, h0⟩ | ⟨g, cap, cur, rfl, _⟩
  · exact ⟨none, 0, by rw [h0]⟩
  · exact ⟨_, cap, rfl⟩
theorem grown_of_below {w w' : World} {r : Option Nat} (h : Below w.heap.size w w') : w.grownBy w' r := ⟨h.os, h.tape, h.output, h.size, fun j hj _ => h.block j hj⟩
theorem grown_same {S : Nat → Prop} {w w' : World} {B : Nat} {v : Value} {L : List Ward.Pt} (h : w.grownBy w' v.ownBlock) (ho : Own w B v L) (hS : ∀ g, S g → g < B) (hB : B ≤ w.heap.size) : Same S w w' := fun g hg => h.block g (Nat.lt_of_lt_of_le (hS g hg) hB) (fun e => by have := ho.ge e.symm; have := hS g hg; omega)
theorem grown_lift {w w2 w' : World} {r : Option Nat} (hb : Below w.heap.size w w2) (hg : w2.grownBy w' r) : w.grownBy w' r := ⟨hg.os.trans hb.os, hg.tape.trans hb.tape, hg.output.trans hb.output, Nat.le_trans hb.size hg.size, fun j hj hne => (hg.block j (Nat.lt_of_lt_of_le hj hb.size) hne).trans (hb.block j hj)⟩
theorem fresh_lift {w w2 : World} {v v' : Value} (hs : w.heap.size ≤ w2.heap.size) (hf : Fresh w2 v v') : Fresh w v v' := by
  rcases hf with hf | ⟨g, hf, hgs⟩
  · exact .inl hf
  · exact .inr ⟨g, hf, Nat.le_trans hs hgs⟩
/-- of a child, by its box -/
def kidW (b : Ward.Box) (n : Nat) (c : Ward.NT n) : List Ward.Pt := if Ward.meets b (Ward.boxN n c) then Ward.withinN b n c else []
theorem kidW_len (b : Ward.Box) (n : Nat) : ∀ (K : List (Ward.NT n)) (i : Nat) (h : i < K.length), ((K.take i).flatMap (kidW b n)).length + (Ward.allN n K[i]).length ≤ (K.flatMap (Ward.allN n)).length
  | c :: K, 0, _ => by
    rw [List.flatMap_cons, List.length_append]
    show 0 + (Ward.allN n c).length ≤ _
    omega
  | c :: K, i + 1, h => by
    have ih := kidW_len b n K i (by simpa using h)
    rw [List.flatMap_cons, List.length_append, List.take_succ_cons, List.flatMap_cons, List.length_append]
    have h1 : (kidW b n c).length ≤ (Ward.allN n c).length := by
      unfold kidW
      split
      · exact Ward.within_le b n c
      · exact Nat.zero_le _
    rw [List.getElem_cons_succ]
    omega
/-- a box and a point as they lie -/
def BoxPt (w : World) (g k : Nat) (b : Ward.Box) (q : Ward.Pt) : Prop :=
  (w.cell? ⟨g, 0, none⟩ = some (I b.a) ∧ w.cell? ⟨g, 1, none⟩ = some (I b.b) ∧ w.cell? ⟨g, 2, none⟩ = some (I b.c) ∧ w.cell? ⟨g, 3, none⟩ = some (I b.d)) ∧
  w.cell? ⟨k, 0, none⟩ = some (I q.id) ∧ w.cell? ⟨k, 1, none⟩ = some (I q.x) ∧ w.cell? ⟨k, 2, none⟩ = some (I q.y)
theorem BoxPt.below {w w' : World} {g k : Nat} {b : Ward.Box} {q : Ward.Pt} {B : Nat} (h : BoxPt w g k b q) (hb : Below B w w') (hg : g < B) (hk : k < B) : BoxPt w' g k b q :=
  ⟨⟨(hb.cell (p := ⟨g, 0, none⟩) hg).trans h.1.1, (hb.cell (p := ⟨g, 1, none⟩) hg).trans h.1.2.1, (hb.cell (p := ⟨g, 2, none⟩) hg).trans h.1.2.2.1, (hb.cell (p := ⟨g, 3, none⟩) hg).trans h.1.2.2.2⟩,
   (hb.cell (p := ⟨k, 0, none⟩) hk).trans h.2.1, (hb.cell (p := ⟨k, 1, none⟩) hk).trans h.2.2.1, (hb.cell (p := ⟨k, 2, none⟩) hk).trans h.2.2.2⟩
theorem BoxPt.drew {w : World} {g k : Nat} {b : Ward.Box} {q : Ward.Pt} (h : BoxPt w g k b q) : BoxPt w.drew g k b q := by simpa [BoxPt] using h
theorem row4 {w : World} {g t : Nat} {a b c d : Value} (h : w.heap[g]? = some (.cells #[a, b, c, d] t (0, 0))) : w.cell? ⟨g, 0, none⟩ = some a ∧ w.cell? ⟨g, 1, none⟩ = some b ∧ w.cell? ⟨g, 2, none⟩ = some c ∧ w.cell? ⟨g, 3, none⟩ = some d := by
  refine ⟨?_, ?_, ?_, ?_⟩ <;> rw [cell_of_row _ _ _ _ _ _ h] <;> rfl
theorem filter_step (P : Ward.Pt → Bool) (L : List Ward.Pt) (i : Nat) (h : i < L.length) : (L.take (i + 1)).filter P = (L.take i).filter P ++ (if P L[i] then [L[i]] else []) := by
  rw [List.take_succ_eq_append_getElem h, List.filter_append]
  congr 1
  cases hp : P L[i] <;> simp [hp]
set_option maxRecDepth 100000 in
set_option maxHeartbeats 4000000 in
theorem appendWithin_any : ∀ (n : Nat) (t : Ward.NT n) (v : Value) (l : List Ward.Pt) (V : List Value) (b : Ward.Box) (w : World) (B : Nat) (S : Nat → Prop) (_ : ∀ g, S g → g < B) (_ : B ≤ w.heap.size) (_ : l.length + (Ward.allN n t).length ≤ 1000) (_ : Ward.Few n t) (_ : NodeIs w S n t V) (_ : Own w B v l),
    Calls Tryz.prog 76 #[v, .agg V.toArray, Bx b] w fun e w' => PutP w B v l (Ward.withinN b n t) e w' := by
  intro n
  induction n with
  | zero => intro t; exact nomatch t
  | succ n ih =>
    intro t v l V b w B S hS hB hlen hfew hN hown
    have HFEW := hide hfew
    clear hfew
    have IH := hide ih
    clear ih
    obtain ⟨a1, l1, c1, a2, l2, c2, hV, hd⟩ := hN.cells
    have HR := hide (show Row39 V by rw [hV]; exact nodeV_row hd)
    obtain ⟨vp, vc, hVe, -, ⟨ap, cp, rfl, hpts⟩, ⟨ac, cc, rfl, hkids⟩⟩ := hN
    have HVE := hide hVe
    have HPT := hide hpts
    have HKD := hide hkids
    have HO := hide hown
    have HS := hide hS
    have HLEN := hide hlen
    have HVB := hide (fun g (hg : v.ownBlock = some g) => And.intro (hown.ge hg) (hown.lt hg))
    obtain ⟨fs, hu⟩ := underNode
    have HU := hide hu
    clear hu hV hd hVe hpts hkids hown hS hlen
    have hb2 := fun o o' => ((Below.refl w.heap.size w).alloc (Nat.le_refl _) o).alloc (by simp) o'
    have hr2 := heap_alloc2_new w
    have hr1 := heap_alloc2_old w
    have hs2 := fun o o' => show ((w.alloc o).alloc o').heap.size = w.heap.size + 2 by simp
    go_enter Tryz.func76, Tryz.ntmps76
    go_upto_region 1 with fail
    generalize hW : World.alloc (World.alloc w _) _ = w1
    have hb1 : Below w.heap.size w w1 := by rw [← hW]; exact hb2 _ _
    have hn1 : w1.heap[w.heap.size]? = some (.cells V.toArray 90 (0, 0)) := by rw [← hW]; exact hr1 _ _
    have hx1 : w1.heap[w.heap.size + 1]? = some (.cells #[I b.a, I b.b, I b.c, I b.d] 88 (0, 0)) := by rw [← hW]; exact hr2 _ _
    have hs1 : w1.heap.size = w.heap.size + 2 := by rw [← hW]; exact hs2 _ _
    clear hb2 hr1 hr2 hs2 hW
    have HB1 := hide hb1
    have HX1 := hide hx1
    have HS1 := hide hs1
    have HN1 := hide (show w1.heap[w.heap.size]? = some (.cells (nodeV (.slice ap (Ward.Nd.pts t).length cp) (.slice ac (Ward.Nd.kids t).length cc) (Ward.Nd.box t) (Ward.Nd.n t) ((Ward.Nd.dig t).map Y)).toArray 90 (0, 0)) by rw [hn1, HVE.out])
    obtain ⟨⟨k0, k1⟩, -, -⟩ := node_cells HN1.out
    clear hb1 hn1 hx1 hs1
    go_wp2_with fail
    go_loopg [0, 14] (Ward.Nd.pts t).length (fun gk v0 v14 wq => ∃ i : Nat, gk = (Ward.Nd.pts t).length - i ∧ v14 = I i ∧ i ≤ (Ward.Nd.pts t).length ∧ Own wq B v0 (l ++ ((Ward.Nd.pts t).take i).filter (Ward.inB b)) ∧ w1.grownBy wq v.ownBlock ∧ Fresh w1 v v0)
    case atStart => exact ⟨0, by omega, rfl, by omega, by simpa using HO.out.below HB1.out, grown_of_below (Below.refl _ _), .inl rfl⟩
    case round =>
      obtain ⟨i, hgk, rfl, hi, ho, hgr, hf⟩ := hrel
      have HGK := hide hgk
      have HG := hide hgr
      have HF := hide hf
      have HOI := hide ho
      have hsz := hgr.size
      clear hgk hgr hf ho
      have hbx := (HG.out.block (w.heap.size + 1) (by have := HS1.out; omega) (fun e => by have := (HVB.out _ e.symm).2; omega)).trans HX1.out
      have HBX := hide hbx
      have hnd := (HG.out.block w.heap.size (by have := HS1.out; omega) (fun e => by have := (HVB.out _ e.symm).2; omega)).trans HN1.out
      have HND := hide hnd
      have HSZ := hide (show w.heap.size + 2 ≤ wr.heap.size by have := HS1.out; omega)
      clear hbx hnd
      by_cases hlt : i < (Ward.Nd.pts t).length
      · obtain ⟨g, o, rfl, hgS, hpts⟩ := HPT.out (fun e => by rw [e] at hlt; simp at hlt)
        have hgB := HS.out g hgS
        have hpi := ((hpts i hlt).below HB1.out (by omega)).block (w' := wr) (HG.out.block g (by have := HS1.out; omega) (fun e => by have := (HVB.out _ e.symm).1; omega))
        have HT := hide (filter_step (Ward.inB b) (Ward.Nd.pts t) i hlt)
        have hNl : (((Ward.Nd.pts t).take i).filter (Ward.inB b)).length ≤ (Ward.Nd.pts t).length := Nat.le_trans (List.length_filter_le _ _) (by rw [List.length_take]; omega)
        have hpl : (Ward.Nd.pts t).length ≤ (Ward.allN (n + 1) t).length := by
          show _ ≤ (Ward.Nd.pts t ++ _).length
          rw [List.length_append]; omega
        have HL := hide (show (l ++ ((Ward.Nd.pts t).take i).filter (Ward.inB b)).length ≤ 1000 by rw [List.length_append]; have := HLEN.out; omega)
        have hp1000 : (Ward.Nd.pts t).length ≤ 1000 := by have := HLEN.out; omega
        clear hpts hNl hpl
        generalize (Ward.Nd.pts t)[i] = q at *
        generalize ((Ward.Nd.pts t).take i).filter (Ward.inB b) = N at *
        obtain ⟨p1, p2, p3⟩ := hpi
        go_upto_region 4 with fail
        have hb5' := fun o => (Below.refl wr.heap.size wr).alloc (Nat.le_refl _) o
        have hr5' := heap_alloc_new wr
        have hs5' := fun o => show (wr.alloc o).heap.size = wr.heap.size + 1 by simp
        generalize hW : World.alloc wr _ = w5
        have hb5 : Below wr.heap.size wr w5 := by rw [← hW]; exact hb5' _
        have hr5 : w5.heap[wr.heap.size]? = some (.cells #[I q.id, I q.x, I q.y] 36 (0, 0)) := by rw [← hW]; exact hr5' _
        have hs5 : w5.heap.size = wr.heap.size + 1 := by rw [← hW]; exact hs5' _
        clear hb5' hr5' hs5' hW
        have H7 := hide (show BoxPt w5 (w.heap.size + 1) wr.heap.size b q from ⟨row4 ((hb5.block (w.heap.size + 1) (by have := HSZ.out; omega)).trans HBX.out), row3 hr5⟩)
        have HB5 := hide hb5
        have HR5 := hide hr5
        have hws := HSZ.out
        obtain ⟨⟨a1, a2, a3, a4⟩, a5, a6, a7⟩ := H7.out
        clear hb5 hr5 p1 p2 p3
        have HMT := hide (fun W => meets_any b (Ward.boxOf q) W)
        have HRW := hide (show Ward.inB b q = Ward.meets b (Ward.boxOf q) from rfl)
        generalize Ward.meets b (Ward.boxOf q) = r at *
        go_region_with (first | (go_at_call 79; go_must (refine (boxOf_any q w5.drew).mono ?_; rintro _ w6 ⟨rfl, hb6⟩; have hs6 := hb6.size; have H76 := hide (H7.out.drew.below hb6 (by simp; omega) (by simp; omega)); obtain ⟨⟨k1, k2, k3, k4⟩, k5, k6, k7⟩ := H76.out; have HB6 := hide hb6; clear hb6)) | (go_at_call 78; go_must (refine (HMT.out w6).mono ?_; rintro _ w7 ⟨rfl, hb7⟩; have hs7 := hb7.size; have H77 := hide (H76.out.below hb7 (by simp at hs6; omega) (by simp at hs6; omega)); obtain ⟨⟨m1, m2, m3, m4⟩, m5, m6, m7⟩ := H77.out; have HB7 := hide hb7; clear hb7)))
        all_goals
          have hd : w5.drew.heap.size = w5.heap.size := by simp
          rw [hd] at hs6
          have HBA := hide (show Below wr.heap.size wr w7 from ((HB5.out.drew.trans (HB6.out.mono (by omega))).trans (HB7.out.mono (by omega))))
          clear H7 H76 a1 a2 a3 a4 a5 a6 a7 k1 k2 k3 k4 k5 k6 k7 hd
          cases r with
          | false =>
            go_wp2_with fail
            go_roundg ((Ward.Nd.pts t).length - (i + 1))
            case measure => have := HGK.out; omega
            case rel =>
              refine ⟨i + 1, rfl, by go_num, hlt, ?_, ?_, HF.out⟩
              · rw [HT.out, HRW.out, if_neg (by simp), List.append_nil]
                exact HOI.out.below HBA.out
              · exact grown_trans HG.out HF.out (grown_of_below HBA.out)
          | true =>
            obtain ⟨v8, w8, h8, ho8, hg8, hf8⟩ := append_pt q (HOI.out.below HBA.out) (by omega) (by have := HL.out; omega)
            obtain ⟨au, cu, eu⟩ := HOI.out.slice
            subst eu
            have HO8 := hide ho8
            have HG8 := hide hg8
            have HF8 := hide hf8
            clear ho8 hg8 hf8
            go_wp2_with (at_builtin; refine Lib.wpList_append_run _ rfl (.tmp 22) (.tmp 24) 27 27 rfl _ _ rfl rfl _ _ h8 ?_)
            go_roundg ((Ward.Nd.pts t).length - (i + 1))
            case measure => have := HGK.out; omega
            case rel =>
              refine ⟨i + 1, rfl, by go_num, hlt, ?_, grown_trans HG.out HF.out (grown_lift HBA.out HG8.out), fresh_trans HF.out HG.out.size (fresh_lift HBA.out.size HF8.out)⟩
              rw [HT.out, HRW.out, if_pos rfl, ← List.append_assoc]
              exact HO8.out
      · have ei : i = (Ward.Nd.pts t).length := by omega
        subst ei
        rw [List.take_length] at HOI
        obtain ⟨⟨k0', k1'⟩, -, -⟩ := node_cells HND.out
        have HFN := hide (show l ++ Ward.withinN b (n + 1) t = (l ++ (Ward.Nd.pts t).filter (Ward.inB b)) ++ (Ward.Nd.kids t).flatMap (kidW b n) by rw [List.append_assoc]; rfl)
        have HNL := hide (show (l ++ (Ward.Nd.pts t).filter (Ward.inB b)).length + ((Ward.Nd.kids t).flatMap (Ward.allN n)).length ≤ 1000 by
          have h1 := HLEN.out
          have h2 := List.length_filter_le (Ward.inB b) (Ward.Nd.pts t)
          have h3 : (Ward.allN (n + 1) t).length = (Ward.Nd.pts t).length + ((Ward.Nd.kids t).flatMap (Ward.allN n)).length := by
            show (Ward.Nd.pts t ++ _).length = _
            rw [List.length_append]
          rw [List.length_append]; omega)
        generalize l ++ (Ward.Nd.pts t).filter (Ward.inB b) = M at *
        have HSM := hide (show Same S w wr from fun g hg => ((grown_same HG.out (HO.out.below HB1.out) HS.out (by have := HS1.out; omega)) g hg).trans (HB1.out.block g (by have := HS.out g hg; omega)))
        clear HN1 HX1 HPT HR HVE hsz hi hlt
        obtain ⟨wx, hwx⟩ : ∃ wx, wx = wr := ⟨_, rfl⟩
        subst hwx
        obtain ⟨vx, hvx⟩ : ∃ vx, vx = u0 := ⟨_, rfl⟩
        subst hvx
        go_wp2_with fail
        go_loopg [0, 30] (Ward.Nd.kids t).length (fun gk v0 v30 wq => ∃ i : Nat, gk = (Ward.Nd.kids t).length - i ∧ v30 = I i ∧ i ≤ (Ward.Nd.kids t).length ∧ Own wq B v0 (M ++ ((Ward.Nd.kids t).take i).flatMap (kidW b n)) ∧ wx.grownBy wq vx.ownBlock ∧ Fresh wx vx v0)
        case atStart => exact ⟨0, by omega, rfl, by omega, by simpa using HOI.out, grown_of_below (Below.refl _ _), .inl rfl⟩
        case round =>
          clear HGK
          obtain ⟨i, hgk, rfl, hi, ho2, hgr2, hf2⟩ := hrel
          have HGK := hide hgk
          have HG2 := hide hgr2
          have HF2 := hide hf2
          have HO2 := hide ho2
          have hxb := hgr2.size
          have HVX := hide (fun g (hg : vx.ownBlock = some g) => And.intro (HOI.out.ge hg) (HOI.out.lt hg))
          have HNV := hide (show ∀ g, vx.ownBlock = some g → g ≠ w.heap.size ∧ g ≠ w.heap.size + 1 from fun g hg => by
            rcases HF.out with h | ⟨g', h, hg'⟩
            · have := (HVB.out g (by rw [← h]; exact hg)).2
              omega
            · rw [hg] at h
              injection h with h
              have := HS1.out
              omega)
          have hbx := (HG2.out.block (w.heap.size + 1) (by have := HSZ.out; omega) (fun e => (HNV.out _ e.symm).2 rfl)).trans HBX.out
          have HBX2 := hide hbx
          have HSM2 := hide (show Same S w wr from fun g hg => (HG2.out.block g (by have := HS.out g hg; have := HSZ.out; omega) (fun e => by have := (HVX.out _ e.symm).1; have := HS.out g hg; omega)).trans (HSM.out g hg))
          clear hgk hgr2 hf2 ho2 hbx
          by_cases hlt : i < (Ward.Nd.kids t).length
          · obtain ⟨g, o, rfl, hgS, hrows⟩ := HKD.out (fun e => by rw [e] at hlt; simp at hlt)
            obtain ⟨U, hU, hc⟩ := hrows i hlt
            have HU2 := hide (NodeIs.keep HSM2.out (fun _ h => h) n _ U hU)
            have HC := hide (rangeAt_block hc (HSM2.out g hgS))
            have HT := hide (flat_step (kidW b n) (Ward.Nd.kids t) i hlt)
            have hml : (((Ward.Nd.kids t).take i).flatMap (kidW b n)).length + (Ward.allN n (Ward.Nd.kids t)[i]).length ≤ ((Ward.Nd.kids t).flatMap (Ward.allN n)).length := kidW_len b n _ i hlt
            have HL := hide (show (M ++ ((Ward.Nd.kids t).take i).flatMap (kidW b n)).length + (Ward.allN n (Ward.Nd.kids t)[i]).length ≤ 1000 by rw [List.length_append]; have := HNL.out; omega)
            have hk1000 : (Ward.Nd.kids t).length ≤ 4 := HFEW.out.2.1
            have HFC := hide (HFEW.out.2.2 _ (List.getElem_mem hlt))
            obtain ⟨d1, m1, e1, d2, m2, e2, hV, hd⟩ := HU2.out.cells
            have HR := hide (show Row39 U by rw [hV]; exact nodeV_row hd)
            have HVE := hide hV
            clear hV hd hc hU hrows hml
            generalize (Ward.Nd.kids t)[i] = c at *
            go_upto_region 10 with (first | (refine wpList_load_mid rfl 90 (.tmp 32) rfl g (o + i * 39) rfl U (.struct fs) HC.out HU.out rfl HR.out.infl ?_) | (refine wpList_store_row rfl 90 (.tmp 10) (.tmp 33) rfl wr.heap.size U.toArray rfl rfl 90 _ (heap_alloc_new wr _) HR.out.info (by rw [HR.out.size]; rfl) HR.out.one ?_; rw [World.setRow_alloc_new]))
            have hb5' := fun o => (Below.refl wr.heap.size wr).alloc (Nat.le_refl _) o
            have hr5' := heap_alloc_new wr
            have hs5' := fun o => show (wr.alloc o).heap.size = wr.heap.size + 1 by simp
            generalize hW : World.alloc wr _ = w5
            have hb5 : Below wr.heap.size wr w5 := by rw [← hW]; exact hb5' _
            have hr5 : w5.heap[wr.heap.size]? = some (.cells U.toArray 90 (0, 0)) := by rw [← hW]; exact hr5' _
            have hs5 : w5.heap.size = wr.heap.size + 1 := by rw [← hW]; exact hs5' _
            clear hb5' hr5' hs5' hW
            have HB5 := hide hb5
            have HR5 := hide hr5
            have hxx := HSZ.out
            obtain ⟨a1, a2, a3, a4⟩ := row4 ((hb5.block (w.heap.size + 1) (by omega)).trans HBX2.out)
            rw [HVE.out] at hr5
            obtain ⟨-, ⟨f1, f2, f3, f4⟩, -⟩ := node_cells hr5
            have HMT := hide (fun W => meets_any b (Ward.boxN n c) W)
            have HRW := hide (show kidW b n c = if Ward.meets b (Ward.boxN n c) then Ward.withinN b n c else [] from rfl)
            clear hb5 hr5
            generalize Ward.meets b (Ward.boxN n c) = r at *
            generalize Ward.boxN n c = bc at *
            go_wp2_with fail
            refine (HMT.out _).mono ?_
            rintro _ w6 ⟨rfl, hb6⟩
            have hs6 := hb6.size
            have HB6 := hide hb6
            have HBA := hide (show Below wr.heap.size wr w6 from HB5.out.trans (hb6.mono (by omega)))
            obtain ⟨q1, q2, q3, q4⟩ := row4 ((HBA.out.block (w.heap.size + 1) (by omega)).trans HBX2.out)
            have HR6 := hide ((hb6.block wr.heap.size (by omega)).trans HR5.out)
            clear hb6 a1 a2 a3 a4 f1 f2 f3 f4 HR5
            cases r with
            | false =>
              go_wp2_with fail
              go_roundg ((Ward.Nd.kids t).length - (i + 1))
              case measure => have := HGK.out; omega
              case rel =>
                refine ⟨i + 1, rfl, by go_num, hlt, ?_, grown_trans HG2.out HF2.out (grown_of_below HBA.out), HF2.out⟩
                rw [HT.out, HRW.out, if_neg (by simp), List.append_nil]
                exact HO2.out.below HBA.out
            | true =>
              have HIH := hide (IH.out c u0 (M ++ ((Ward.Nd.kids t).take i).flatMap (kidW b n)) U b w6 B S HS.out (by omega) HL.out HFC.out (NodeIs.keep (below_same HBA.out (fun g hg => by have := HS.out g hg; omega)) (fun _ h => h) n _ U HU2.out) (HO2.out.below HBA.out))
              generalize ((Ward.Nd.kids t).take i).flatMap (kidW b n) = N at *
              go_wp2_with (refine wpList_load_row rfl 90 (.tmp 10) rfl wr.heap.size rfl 90 U.toArray (0, 0) (.struct fs) HR6.out HU.out rfl HR.out.info ?_)
              refine HIH.out.mono ?_
              rintro _ w7 ⟨v7, rfl, ho7, hg7, hf7⟩
              have HO7 := hide ho7
              have HG7 := hide hg7
              have HF7 := hide hf7
              clear ho7 hg7 hf7
              go_wp2_with fail
              go_roundg ((Ward.Nd.kids t).length - (i + 1))
              case measure => have := HGK.out; omega
              case rel =>
                refine ⟨i + 1, rfl, by go_num, hlt, ?_, grown_trans HG2.out HF2.out (grown_lift HBA.out HG7.out), fresh_trans HF2.out HG2.out.size (fresh_lift HBA.out.size HF7.out)⟩
                rw [HT.out, HRW.out, if_pos trivial, ← List.append_assoc]
                exact HO7.out
          · have ei : i = (Ward.Nd.kids t).length := by omega
            subst ei
            rw [List.take_length, ← HFN.out] at HO2
            go_wp2
            go_ret
            refine ⟨_, rfl, HO2.out, grown_lift HB1.out (grown_trans HG.out HF.out HG2.out), fresh_lift HB1.out.size (fresh_trans HF.out HG.out.size HF2.out)⟩
end Go.Proofs.YtenaelkbgkpllaaGreatDoor
/- How far a box is; which children must be shown. -/
namespace Go.Proofs.YtenaelkbgkpllaaGreatDoor
open Go.RowKit

theorem gap_le {lo hi x : Int} (h1 : -1000000 ≤ lo) (h2 : lo ≤ 1000000) (h3 : -1000000 ≤ hi) (h4 : hi ≤ 1000000) (h5 : -1000000 ≤ x) (h6 : x ≤ 1000000) : Ward.gap lo hi x ≤ 2000000 := by
  unfold Ward.gap; omega
theorem sq_le {u : Int} (h0 : 0 ≤ u) (h1 : u ≤ 2000000) : 0 ≤ u * u ∧ u * u ≤ 4000000000000 :=
  ⟨Int.mul_nonneg h0 h0, Int.le_trans (Int.mul_le_mul h1 h1 h0 (by decide)) (by decide)⟩
theorem gap_if (lo hi x : Int) : (if (if lo - x < 0 then 0 else lo - x) < x - hi then x - hi else if lo - x < 0 then 0 else lo - x) = Ward.gap lo hi x := by
  unfold Ward.gap
  (repeat' split) <;> omega
set_option maxRecDepth 100000 in
set_option maxHeartbeats 2000000 in
theorem distance_any (b : Ward.Box) (x y : Int) (w : World) (hb : b.In) (hx : -1000000 ≤ x ∧ x ≤ 1000000) (hy : -1000000 ≤ y ∧ y ≤ 1000000) :
    Calls Tryz.prog 80 #[Bx b, I x, I y] w fun e w' => e = .returned (I (Ward.dist b x y)) ∧ Below w.heap.size w w' := by
  obtain ⟨a1, a2, b1, b2, c1, c2, d1, d2⟩ := hb
  obtain ⟨x1, x2⟩ := hx
  obtain ⟨y1, y2⟩ := hy
  have HD := hide (show Ward.dist b x y = Ward.gap b.a b.c x * Ward.gap b.a b.c x + Ward.gap b.b b.d y * Ward.gap b.b b.d y from rfl)
  have HGX := hide (gap_if b.a b.c x)
  have HGY := hide (gap_if b.b b.d y)
  have u0 := Ward.gap_nonneg b.a b.c x
  have u1 := gap_le a1 a2 c1 c2 x1 x2
  have v0 := Ward.gap_nonneg b.b b.d y
  have v1 := gap_le b1 b2 d1 d2 y1 y2
  obtain ⟨s0, s1⟩ := sq_le u0 u1
  obtain ⟨t0, t1⟩ := sq_le v0 v1
  obtain ⟨ba, bb, bc, bd⟩ := b
  simp only at *
  go_enter Tryz.func80, Tryz.ntmps80
  go_upto_region 3 with fail
  rw [HGX.out, HGY.out]
  generalize Ward.gap ba bc x = u at *
  generalize Ward.gap bb bd y = v at *
  go_wp2
  go_ret
  exact ⟨by rw [HD.out]; rfl, (Below.refl w.heap.size w).alloc (Nat.le_refl _) _⟩
theorem must_window {q : Ward.Qr} (h : q.kind = 0) (a : List Ward.Pt) (b : Ward.Box) : Ward.must q a b = Ward.meets (Ward.window q) b := by unfold Ward.must; rw [if_pos h]
/-- a query and a box as they lie -/
def QryBox (w : World) (g k : Nat) (q : Ward.Qr) (b : Ward.Box) : Prop :=
  w.heap[g]? = some (.cells #[I q.kind, I q.a, I q.b, I q.c, I q.d, I q.x, I q.y, I q.k] 46 (0, 0)) ∧ w.heap[k]? = some (.cells #[I b.a, I b.b, I b.c, I b.d] 88 (0, 0))
theorem QryBox.below {w w' : World} {g k B : Nat} {q : Ward.Qr} {b : Ward.Box} (h : QryBox w g k q b) (hb : Below B w w') (hg : g < B) (hk : k < B) : QryBox w' g k q b := ⟨(hb.block g hg).trans h.1, (hb.block k hk).trans h.2⟩
theorem rowQ8 {w : World} {g t : Nat} {a b c d e f h i : Value} (hr : w.heap[g]? = some (.cells #[a, b, c, d, e, f, h, i] t (0, 0))) : w.cell? ⟨g, 0, none⟩ = some a ∧ w.cell? ⟨g, 1, none⟩ = some b ∧ w.cell? ⟨g, 2, none⟩ = some c ∧ w.cell? ⟨g, 3, none⟩ = some d ∧ w.cell? ⟨g, 4, none⟩ = some e ∧ w.cell? ⟨g, 5, none⟩ = some f ∧ w.cell? ⟨g, 6, none⟩ = some h ∧ w.cell? ⟨g, 7, none⟩ = some i := by
  refine ⟨?_, ?_, ?_, ?_, ?_, ?_, ?_, ?_⟩ <;> rw [cell_of_row _ _ _ _ _ _ hr] <;> rfl
set_option maxRecDepth 100000 in
set_option maxHeartbeats 4000000 in
theorem mustShow_window (q : Ward.Qr) (v : Value) (b : Ward.Box) (w : World) (hk : q.kind = 0) :
    Calls Tryz.prog 42 #[Qv q, v, Bx b] w fun e w' => e = .returned (.bool (Ward.meets (Ward.window q) b)) ∧ Below w.heap.size w w' := by
  have HWI := hide (fun W => windowOf_any q W)
  generalize Ward.window q = wq at *
  have HMT := hide (fun W => meets_any wq b W)
  generalize Ward.meets wq b = r at *
  obtain ⟨qk, qa, qb, qc, qd, qx, qy, qn⟩ := q
  simp only at hk
  subst hk
  have hb2 := fun o o' => ((Below.refl w.heap.size w).alloc (Nat.le_refl _) o).alloc (by simp) o'
  have hr2 := heap_alloc2_new w
  have hr1 := heap_alloc2_old w
  have hs2 := fun o o' => show ((w.alloc o).alloc o').heap.size = w.heap.size + 2 by simp
  go_enter Tryz.func42, Tryz.ntmps42
  go_upto_region 2 with fail
  generalize hW : World.alloc (World.alloc w _) _ = w1
  have hb1 : Below w.heap.size w w1 := by rw [← hW]; exact hb2 _ _
  have h1 : QryBox w1 w.heap.size (w.heap.size + 1) ⟨0, qa, qb, qc, qd, qx, qy, qn⟩ b := by rw [← hW]; exact ⟨hr1 _ _, hr2 _ _⟩
  have hs1 : w.heap.size + 2 ≤ w1.heap.size := by rw [← hW, hs2]; exact Nat.le_refl _
  clear hb2 hr1 hr2 hs2 hW
  have HB1 := hide hb1
  have H1 := hide h1
  obtain ⟨k0, k1, k2, k3, k4, k5, k6, k7⟩ := rowQ8 h1.1
  obtain ⟨c1, c2, c3, c4⟩ := row4 h1.2
  clear hb1 h1
  go_region_with (first | (go_at_call 73; go_must (refine (HWI.out w1.drew).mono ?_; rintro _ w6 ⟨rfl, hb6⟩; have hs6 := hb6.size; have H6 := hide (QryBox.below (w := w1.drew) H1.out hb6 (by simp; omega) (by simp; omega)); obtain ⟨e1, e2, e3, e4⟩ := row4 H6.out.2; have HB6 := hide hb6; clear hb6)) | (go_at_call 78; go_must (refine (HMT.out w6).mono ?_; rintro _ w7 ⟨rfl, hb7⟩; have HB7 := hide hb7; have hs7 := hb7.size; clear hb7)))
  all_goals
    go_wp2
    go_ret
    have hd : w1.drew.heap.size = w1.heap.size := by simp
    rw [hd] at hs6
    exact ⟨rfl, (HB1.out.drew.trans (HB6.out.mono (by simp; omega))).trans (HB7.out.mono (by omega))⟩
end Go.Proofs.YtenaelkbgkpllaaGreatDoor
