/- A leaf made of points: the call. -/
import Derived.Test.YtenaelkbgkpllaaGreatDoorTG
import Derived.Test.YtenaelkbgkpllaaGreatDoorDDig
import Derived.Deep.RegionWith
import Derived.Deep.DeepCutAuto
namespace Go.Proofs.YtenaelkbgkpllaaGreatDoor
open Go.RowKit

/-- the box of the first i of some boxes -/
def accBox (l : List Ward.Box) (i : Nat) : Ward.Box := (l.take i).foldl Ward.join (l.headD ⟨0, 0, 0, 0⟩)
theorem accBox_step (l : List Ward.Box) (i : Nat) (h : i < l.length) : accBox l (i + 1) = Ward.join (accBox l i) l[i] := by
  rw [accBox, List.take_succ_eq_append_getElem h, List.foldl_append]; rfl
theorem accBox_all (l : List Ward.Box) : accBox l l.length = Ward.boxL l := by rw [accBox, List.take_length]; rfl
def zero32 : List Value := List.replicate 32 (.int .u8 0)
theorem nodeV_one {vp vc : Value} {b : Ward.Box} {n : Int} {t : List Value} (h1 : vp.oneCell' = true) (h2 : vc.oneCell' = true) (ht : ∀ v ∈ t, v.oneCell' = true) : (nodeV vp vc b n t).toArray.all (·.oneCell') = true := by
  refine all_oneCell_toArray fun v hv => ?_
  simp only [nodeV, List.mem_cons] at hv
  rcases hv with rfl | rfl | rfl | rfl | rfl | rfl | rfl | hv
  · exact h1
  · exact h2
  · rfl
  · rfl
  · rfl
  · rfl
  · rfl
  · exact ht v hv
theorem zero32_one : ∀ v ∈ zero32, v.oneCell' = true := fun v hv => by
  rw [List.eq_of_mem_replicate hv]; rfl

theorem box_other {w : World} {g k : Nat} {c : Ward.Box} (h : k ≠ g) : ((((w.setCell ⟨g, 2, none⟩ (I c.a)).setCell ⟨g, 3, none⟩ (I c.b)).setCell ⟨g, 4, none⟩ (I c.c)).setCell ⟨g, 5, none⟩ (I c.d)).heap[k]? = w.heap[k]? := by
  rw [Below.heap_setCell _ _ _ _ h, Below.heap_setCell _ _ _ _ h, Below.heap_setCell _ _ _ _ h, Below.heap_setCell _ _ _ _ h]
/-- what the round of a box reads: the box in a node, a point -/
def Seven (w : World) (n p : Nat) (b : Ward.Box) (q : Ward.Pt) : Prop :=
  (w.cell? ⟨n, 2, none⟩ = some (I b.a) ∧ w.cell? ⟨n, 3, none⟩ = some (I b.b) ∧ w.cell? ⟨n, 4, none⟩ = some (I b.c) ∧ w.cell? ⟨n, 5, none⟩ = some (I b.d)) ∧
  (w.frozen? ⟨n, 2, none⟩ = false ∧ w.frozen? ⟨n, 3, none⟩ = false ∧ w.frozen? ⟨n, 4, none⟩ = false ∧ w.frozen? ⟨n, 5, none⟩ = false) ∧
  w.cell? ⟨p, 0, none⟩ = some (I q.id) ∧ w.cell? ⟨p, 1, none⟩ = some (I q.x) ∧ w.cell? ⟨p, 2, none⟩ = some (I q.y)
theorem Seven.below {w w' : World} {n p : Nat} {b : Ward.Box} {q : Ward.Pt} {B : Nat} (h : Seven w n p b q) (hb : Below B w w') (hn : n < B) (hp : p < B) : Seven w' n p b q :=
  ⟨⟨(hb.cell (p := ⟨n, 2, none⟩) hn).trans h.1.1, (hb.cell (p := ⟨n, 3, none⟩) hn).trans h.1.2.1, (hb.cell (p := ⟨n, 4, none⟩) hn).trans h.1.2.2.1, (hb.cell (p := ⟨n, 5, none⟩) hn).trans h.1.2.2.2⟩,
   ⟨(hb.frozen (p := ⟨n, 2, none⟩) hn).trans h.2.1.1, (hb.frozen (p := ⟨n, 3, none⟩) hn).trans h.2.1.2.1, (hb.frozen (p := ⟨n, 4, none⟩) hn).trans h.2.1.2.2.1, (hb.frozen (p := ⟨n, 5, none⟩) hn).trans h.2.1.2.2.2⟩,
   (hb.cell (p := ⟨p, 0, none⟩) hp).trans h.2.2.1, (hb.cell (p := ⟨p, 1, none⟩) hp).trans h.2.2.2.1, (hb.cell (p := ⟨p, 2, none⟩) hp).trans h.2.2.2.2⟩
theorem Seven.drew {w : World} {n p : Nat} {b : Ward.Box} {q : Ward.Pt} (h : Seven w n p b q) : Seven w.drew n p b q := by simpa [Seven] using h
theorem setCells_other {g k : Nat} (h : k ≠ g) : ∀ (vs : List Value) (o : Nat) (w : World), (w.setCells g o vs).heap[k]? = w.heap[k]?
  | [], _, _ => rfl
  | v :: vs, o, w => by rw [World.setCells, setCells_other h vs (o + 1) _, Below.heap_setCell _ _ _ _ h]
theorem below_setCellsN {B g : Nat} {a : World} (hg : B ≤ g) : ∀ (vs : List Value) (o : Nat) (w : World), Below B a w → Below B a (w.setCells g o vs)
  | [], _, _, h => h
  | v :: vs, o, w, h => by rw [World.setCells]; exact below_setCellsN hg vs (o + 1) _ (h.setCell hg v)
theorem there_row {w : World} {g : Nat} {C : Array Value} {t : TypeId} (h : w.heap[g]? = some (.cells C t (0, 0))) (o n : Nat) (hn : o + n ≤ C.size) : w.there g o n := fun j hj =>
  ⟨by rw [cell_of_row _ _ _ _ _ _ h, Array.getElem?_eq_getElem (by omega)]; rfl, frozen_of_row _ _ _ _ _ h⟩
theorem nodeV_size {vp vc : Value} {b : Ward.Box} {n : Int} {t : List Value} (ht : t.length = 32) : (nodeV vp vc b n t).toArray.size = 39 := by simp [nodeV, ht]
theorem nodeV_info {vp vc : Value} {b : Ward.Box} {n : Int} {t : List Value} (ht : t.length = 32) : (Tryz.prog.info? 90).map (·.size) = some (nodeV vp vc b n t).toArray.size := by rw [nodeV_size ht]; exact Tryz.infoNode
theorem underNode : ∃ fs, Tryz.prog.underlying 90 = some (.struct fs) := by
  have h : (Tryz.prog.underlying 90).map (fun d => match d with | .struct _ => true | _ => false) = some true := by kernel_rfl
  cases e : Tryz.prog.underlying 90 with
  | none => rw [e] at h; cases h
  | some d =>
    rw [e] at h
    cases d <;> first | exact ⟨_, rfl⟩ | cases h
theorem setRow_alloc2 (w : World) (o : Obj) (c c' : Array Value) (t : TypeId) : ((w.alloc o).alloc (.cells c t)).setRow (w.heap.size + 1) c' = (w.alloc o).alloc (.cells c' t) := by
  have h := World.setRow_alloc_new (w.alloc o) c c' t
  rwa [show (w.alloc o).heap.size = w.heap.size + 1 by simp] at h
set_option maxRecDepth 100000 in
set_option maxHeartbeats 2000000 in
theorem leafOf_any (vp : Value) (L : List Ward.Pt) (w : World) (hL : L.length ≤ 4) (hp : ReadsB w w.heap.size vp L) (hK : KT w) :
    Calls Tryz.prog 70 #[vp] w fun e w' => e = .returned (.agg (nodeV vp (.slice none 0 0) (Ward.box 0 L) L.length ((Sha.sha (Ward.leafText L)).map Y)).toArray) ∧ Below w.heap.size w w' := by
  have HP := hide hp
  have HK := hide hK
  obtain ⟨ap, cp, rfl, hrd⟩ := hp
  have HRD := hide hrd
  clear hrd hK
  go_enter Tryz.func70, Tryz.ntmps70
  go_upto_region 1 with fail
  go_upto_region 2 with (refine wpList_store_row rfl 90 (.tmp 3) (.tmp 9) rfl (w.heap.size + 1) (nodeV (.slice ap L.length cp) (.slice none 0 0) ⟨0, 0, 0, 0⟩ L.length zero32).toArray rfl rfl 90 _ (heap_alloc2_new w _ _) Tryz.infoNode rfl (nodeV_one rfl rfl zero32_one) ?_)
  rw [setRow_alloc2]
  have hb2 := fun o o' => ((Below.refl w.heap.size w).alloc (Nat.le_refl _) o).alloc (by simp) o'
  have hr2 := heap_alloc2_new w
  have hr1 := heap_alloc2_old w
  generalize hW : World.alloc (World.alloc w _) _ = w1
  have hb1 : Below w.heap.size w w1 := by rw [← hW]; exact hb2 _ _
  have hz1 : w1.heap[w.heap.size]? = some (.cells (nodeV (.slice none 0 0) (.slice none 0 0) ⟨0, 0, 0, 0⟩ 0 zero32).toArray 90 (0, 0)) := by rw [← hW]; exact hr1 _ _
  have hn1 : w1.heap[w.heap.size + 1]? = some (.cells (nodeV (.slice ap L.length cp) (.slice none 0 0) ⟨0, 0, 0, 0⟩ L.length zero32).toArray 90 (0, 0)) := by rw [← hW]; exact hr2 _ _
  clear hb2 hr2 hr1 hW
  generalize Value.agg _ = x9
  have HZ1 := hide hz1
  have HN1 := hide hn1
  have HB1 := hide hb1
  clear hz1 hn1 hb1
  have hlb : (L.length : Int) ≤ 4 := by omega
  go_upto_if 12 with fail
  go_cut [] (fun wx => wx.heap[w.heap.size]? = some (.cells (nodeV (.slice none 0 0) (.slice none 0 0) ⟨0, 0, 0, 0⟩ 0 zero32).toArray 90 (0, 0)) ∧ wx.heap[w.heap.size + 1]? = some (.cells (nodeV (.slice ap L.length cp) (.slice none 0 0) (accBox (L.map Ward.boxOf) 0) L.length zero32).toArray 90 (0, 0)) ∧ Below w.heap.size w wx)
  case first =>
    by_cases h0 : 0 < L.length
    · obtain ⟨g, o, rfl, hgB, hpts⟩ := HRD.out (fun e => by subst e; simp at h0)
      have hp0 := (hpts 0 h0).below HB1.out hgB
      have HE := hide (show accBox (L.map Ward.boxOf) 0 = Ward.boxOf L[0] by
        obtain ⟨q, L', rfl⟩ : ∃ q L', L = q :: L' := by cases L with | nil => simp at h0 | cons q L' => exact ⟨q, L', rfl⟩
        rfl)
      generalize L[0] = q at *
      rw [Nat.zero_mul, Nat.add_zero] at hp0
      obtain ⟨c1, c2, c3⟩ := hp0
      clear hpts
      have h0' : (0 : Int) < L.length := by omega
      have hnlt : w.heap.size + 1 < w1.heap.size := (Array.getElem?_eq_some_iff.1 HN1.out).1
      go_wp2_with fail
      refine (boxOf_any q _).mono ?_
      rintro _ w2 ⟨rfl, hb2⟩
      have hn2 := (hb2.block (w.heap.size + 1) hnlt).trans HN1.out
      have HZ2 := hide ((hb2.block w.heap.size (by omega)).trans HZ1.out)
      obtain ⟨-, ⟨n1, n2, n3, n4⟩, -⟩ := node_cells hn2
      have f1 : w2.frozen? ⟨w.heap.size + 1, 2, none⟩ = false := frozen_of_row _ _ _ _ _ hn2
      have f2 : w2.frozen? ⟨w.heap.size + 1, 3, none⟩ = false := frozen_of_row _ _ _ _ _ hn2
      have f3 : w2.frozen? ⟨w.heap.size + 1, 4, none⟩ = false := frozen_of_row _ _ _ _ _ hn2
      have f4 : w2.frozen? ⟨w.heap.size + 1, 5, none⟩ = false := frozen_of_row _ _ _ _ _ hn2
      have HN2 := hide hn2
      have HB2 := hide (HB1.out.trans (hb2.mono (by omega)))
      clear hn2 hb2 hnlt
      unfold Bx
      go_wp2_with fail
      go_meet
      refine ⟨?_, ?_, ?_⟩
      · exact (box_other (c := Ward.boxOf q) (by omega)).trans HZ2.out
      · rw [HE.out]
        exact node_box (Ward.boxOf q) HN2.out
      · exact (((HB2.out.setCell (by simp) _).setCell (by simp) _).setCell (by simp) _).setCell (by simp) _
    · obtain rfl : L = [] := List.eq_nil_of_length_eq_zero (by omega)
      go_wp2_with fail
      go_meet
      exact ⟨HZ1.out, HN1.out, HB1.out⟩
  case rest =>
    clear HZ1 HN1 HB1
    obtain ⟨hz1, hn1, hb1⟩ := hcut
    have HZ1 := hide hz1
    have HN1 := hide hn1
    have HB1 := hide hb1
    clear hz1 hn1 hb1
    go_wp2_with fail
    go_loopg [20] L.length (fun gk v20 wq => ∃ i : Nat, gk = L.length - i ∧ v20 = I i ∧ i ≤ L.length ∧ wq.heap[w.heap.size]? = some (.cells (nodeV (.slice none 0 0) (.slice none 0 0) ⟨0, 0, 0, 0⟩ 0 zero32).toArray 90 (0, 0)) ∧ wq.heap[w.heap.size + 1]? = some (.cells (nodeV (.slice ap L.length cp) (.slice none 0 0) (accBox (L.map Ward.boxOf) i) L.length zero32).toArray 90 (0, 0)) ∧ Below w.heap.size w wq)
    case atStart => exact ⟨0, by omega, rfl, by omega, HZ1.out, HN1.out, HB1.out⟩
    case round =>
      clear HZ1 HN1 HB1
      obtain ⟨i, hgk, rfl, hi, hz, hn, hb⟩ := hrel
      have HGK := hide hgk
      have HZ := hide hz
      have HN := hide hn
      have HB := hide hb
      clear hgk hz hn hb
      by_cases hlt : i < L.length
      · obtain ⟨g, o, rfl, hgB, hpts⟩ := HRD.out (fun e => by subst e; simp at hlt)
        have hpi := (hpts i hlt).below HB.out hgB
        have HE := hide (show accBox (L.map Ward.boxOf) (i + 1) = Ward.join (accBox (L.map Ward.boxOf) i) (Ward.boxOf L[i]) by
          rw [accBox_step _ _ (by simpa using hlt), List.getElem_map])
        generalize L[i] = q at *
        generalize accBox (L.map Ward.boxOf) i = b at *
        obtain ⟨p1, p2, p3⟩ := hpi
        clear hpts
        go_upto_region 7 with fail
        have hb5' := fun o => (Below.refl wr.heap.size wr).alloc (Nat.le_refl _) o
        have hr5' := heap_alloc_new wr
        have hs5' := fun o => show (wr.alloc o).heap.size = wr.heap.size + 1 by simp
        generalize hW : World.alloc wr _ = w5
        have hb5 : Below wr.heap.size wr w5 := by rw [← hW]; exact hb5' _
        have hr5 : w5.heap[wr.heap.size]? = some (.cells #[I q.id, I q.x, I q.y] 36 (0, 0)) := by rw [← hW]; exact hr5' _
        have hs5 : w5.heap.size = wr.heap.size + 1 := by rw [← hW]; exact hs5' _
        clear hb5' hr5' hs5' hW
        have hnlt : w.heap.size + 1 < wr.heap.size := (Array.getElem?_eq_some_iff.1 HN.out).1
        have hn5 := (hb5.block (w.heap.size + 1) hnlt).trans HN.out
        have HZ5 := hide ((hb5.block w.heap.size (by omega)).trans HZ.out)
        have HB5 := hide (HB.out.trans (hb5.mono (by omega)))
        have H7 := hide (show Seven w5 (w.heap.size + 1) wr.heap.size b q from ⟨(node_cells hn5).2.1, ⟨frozen_of_row _ _ _ _ _ hn5, frozen_of_row _ _ _ _ _ hn5, frozen_of_row _ _ _ _ _ hn5, frozen_of_row _ _ _ _ _ hn5⟩, row3 hr5⟩)
        have HN5 := hide hn5
        obtain ⟨⟨a1, a2, a3, a4⟩, ⟨e1, e2, e3, e4⟩, a5, a6, a7⟩ := H7.out
        clear hn5 hr5 hb5 p1 p2 p3
        go_region_with (first | (go_at_call 79; go_must (refine (boxOf_any q w5.drew).mono ?_; rintro _ w6 ⟨rfl, hb6⟩; have hs6 := hb6.size; have H76 := hide (H7.out.drew.below hb6 (by simp; omega) (by simp; omega)); obtain ⟨⟨k1, k2, k3, k4⟩, ⟨l1, l2, l3, l4⟩, k5, k6, k7⟩ := H76.out; have HB6 := hide hb6; clear hb6)) | (go_at_call 110; go_must (refine (join_any2 b (Ward.boxOf q) w6).mono ?_; rintro _ w7 ⟨rfl, hb7⟩; have hs7 := hb7.size; have H77 := hide (H76.out.below hb7 (by simp at hs6; omega) (by simp at hs6; omega)); obtain ⟨⟨m1, m2, m3, m4⟩, ⟨o1, o2, o3, o4⟩, m5, m6, m7⟩ := H77.out; have HB7 := hide hb7; clear hb7; unfold Bx)))
        all_goals
          go_wp2_with fail
          go_roundg (L.length - (i + 1))
          case measure => have := HGK.out; omega
          case rel =>
            have hd : w5.drew.heap.size = w5.heap.size := by simp
            rw [hd] at hs6
            have hn7 := (HB7.out.block (w.heap.size + 1) (by omega)).trans ((HB6.out.block (w.heap.size + 1) (by omega)).trans HN5.out)
            have hz7 := (HB7.out.block w.heap.size (by omega)).trans ((HB6.out.block w.heap.size (by omega)).trans HZ5.out)
            refine ⟨i + 1, rfl, by go_num, hlt, (box_other (c := Ward.join b (Ward.boxOf q)) (by omega)).trans hz7, ?_, ?_⟩
            · rw [HE.out]
              exact node_box (Ward.join b (Ward.boxOf q)) hn7
            · exact (((((HB5.out.drew.trans (HB6.out.mono (by omega))).trans (HB7.out.mono (by omega))).setCell (by simp) _).setCell (by simp) _).setCell (by simp) _).setCell (by simp) _
      · have ei : i = L.length := by omega
        subst ei
        have HE := hide (show accBox (L.map Ward.boxOf) L.length = Ward.box 0 L by
          have h := accBox_all (L.map Ward.boxOf)
          rw [List.length_map] at h
          exact h)
        rw [HE.out] at HN
        have hnlt : w.heap.size + 1 < wr.heap.size := (Array.getElem?_eq_some_iff.1 HN.out).1
        have HRR := hide (show ReadsB wr wr.heap.size (.slice ap L.length cp) L from ⟨ap, cp, rfl, fun hne => by
          obtain ⟨g, o, e, hg, hp⟩ := HRD.out hne
          exact ⟨g, o, e, by omega, fun j hj => (hp j hj).below HB.out hg⟩⟩)
        have HD := hide (dig_of (Ward.leafText L))
        have HTL := hide (show (⟨(Ward.leafText L).toArray⟩ : ByteArray).size ≤ 140737488355327 by
          show (Ward.leafText L).toArray.size ≤ _
          rw [List.size_toArray, leafText_two, List.length_append, Ward.pts_len]
          show 2 + _ ≤ _
          omega)
        generalize hBx : Ward.box 0 L = b at *
        have HBX := hide hBx
        clear HE HP hBx
        go_wp2_with fail
        refine (leafText_any _ L _ hL HRR.out).mono ?_
        rintro _ w2 ⟨rfl, hb2⟩
        have HB2 := hide hb2
        have hs2 := hb2.size
        clear hb2
        go_wp2_with fail
        refine (of_any _ _ HTL.out (HK.out.below (HB.out.trans (HB2.out.mono (by omega))))).mono ?_
        rintro _ w3 ⟨rfl, hb3⟩
        rw [show (⟨(Ward.leafText L).toArray⟩ : ByteArray).data.toList = Ward.leafText L from rfl]
        generalize hDe : (Sha.sha (Ward.leafText L)).map Y = D at *
        have HDE := hide hDe
        clear hDe
        have hs3 := hb3.size
        have hn3 := (hb3.block (w.heap.size + 1) (by omega)).trans ((HB2.out.block (w.heap.size + 1) (by omega)).trans HN.out)
        have HZ3 := hide ((hb3.block w.heap.size (by omega)).trans ((HB2.out.block w.heap.size (by omega)).trans HZ.out))
        have HB3 := hide ((HB.out.trans (HB2.out.mono (by omega))).trans (hb3.mono (by omega)))
        have HN3 := hide hn3
        clear hb3 hn3
        obtain ⟨fs, hu⟩ := underNode
        have HU := hide hu
        have HT := hide (there_row HN3.out 7 D.toArray.size (by rw [HD.out.size, nodeV_size (by rfl)]; decide))
        have HN4 := hide (show (w3.setCells (w.heap.size + 1) 7 D).heap[w.heap.size + 1]? = some (.cells (nodeV (.slice ap L.length cp) (.slice none 0 0) b L.length D).toArray 90 (0, 0)) from node_digest (by rfl) HD.out.len HN3.out)
        have HZ4 := hide ((setCells_other (show w.heap.size ≠ w.heap.size + 1 by omega) D 7 w3).trans HZ3.out)
        have HB4 := hide (below_setCellsN (show w.heap.size ≤ w.heap.size + 1 by omega) D 7 w3 HB3.out)
        have HO := hide (nodeV_one (vp := .slice ap L.length cp) (vc := .slice none 0 0) (b := b) (n := L.length) (t := D) rfl rfl (fun v hv => (Array.all_eq_true_iff_forall_mem.1 HD.out.one) v (by simpa using hv)))
        have HI := hide (nodeV_info (vp := .slice ap L.length cp) (vc := .slice none 0 0) (b := b) (n := L.length) HD.out.len)
        have HS := hide (show (nodeV (.slice none 0 0) (.slice none 0 0) ⟨0, 0, 0, 0⟩ 0 zero32).toArray.size = (nodeV (.slice ap L.length cp) (.slice none 0 0) b L.length D).toArray.size by rw [nodeV_size HD.out.len, nodeV_size (by rfl)])
        have HI22 := hide HD.out.info
        have HO22 := hide HD.out.one
        clear hu
        generalize hM : (nodeV (.slice ap L.length cp) (.slice none 0 0) b L.length D).toArray = M at *
        have HM := hide hM
        clear hM
        go_wp2_with (first | (refine wpList_store_mid rfl 39 (.tmp 34) (.tmp 33) rfl (w.heap.size + 1) 7 D.toArray rfl rfl HT.out HI22.out HO22.out ?_) | (refine wpList_load_row rfl 90 (.tmp 3) rfl (w.heap.size + 1) rfl 90 M (0, 0) (.struct fs) HN4.out HU.out rfl HI.out ?_) | (refine wpList_store_row rfl 90 (.tmp 2) (.tmp 35) rfl w.heap.size M rfl rfl 90 _ HZ4.out HI.out HS.out HO.out ?_))
        refine bodyPost_ret (v := .agg M) ?_ rfl ⟨by rw [← HM.out, ← HBX.out, ← HDE.out], below_setRow HB4.out (Nat.le_refl _) _⟩
        exact results_cell_row rfl _ _ w.heap.size 90 M (0, 0) (.struct fs) rfl (setRow_heap _ _ _ _ _ _ HZ4.out) HU.out rfl HI.out
end Go.Proofs.YtenaelkbgkpllaaGreatDoor
