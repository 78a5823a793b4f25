/- Nodes cut into groups of four. -/
import Derived.Test.YtenaelkbgkpllaaGreatDoorBound6
import Derived.Test.YtenaelkbgkpllaaGreatDoorBound2
import Derived.Test.YtenaelkbgkpllaaGreatDoorBound5
import Derived.Deep.MidRow
import Derived.Deep.RegionWith
import Derived.Deep.DeepCutAuto
import Derived.Test.YtenaelkbgkpllaaGreatDoorBound1
namespace Go.Proofs.YtenaelkbgkpllaaGreatDoor
open Go.RowKit

theorem Tryz.infoNodes : (Tryz.prog.info? 86).map (fun i => (i.zero, i.size, i.bytes)) = some (some (.slice none 0 0), 1, 24) := by kernel_rfl
set_option maxRecDepth 100000 in
set_option maxHeartbeats 1000000 in
theorem foursNode_any (g o n c : Nat) (w : World) (hn : n ≤ 1000) (hc : n ≤ c) (hcm : c ≤ maxLen) :
    Calls Tryz.prog 112 #[.slice (some ⟨g, o, none⟩) n c] w fun e w' => ∃ v', e = .returned v' ∧ w'.ownsRow w.heap.size 86 1 v' ((n + 3) / 4) (groupsV 39 g o n ((n + 3) / 4)) ∧ Below w.heap.size w w' := by
  obtain ⟨i0, hi0, hz0, hz1, hz2⟩ := info_parts Tryz.infoNodes
  unfold maxLen at hcm
  go_enter Tryz.func112, Tryz.ntmps112
  go_wp2_with fail
  go_loopg [3, 4] ((n + 3) / 4) (fun gk v3 v4 wq => ∃ i : Nat, gk = (n + 3) / 4 - i ∧ v4 = I (4 * (i : Int)) ∧ i ≤ (n + 3) / 4 ∧ wq.ownsRow w.heap.size 86 1 v3 i (groupsV 39 g o n i) ∧ Below w.heap.size w wq)
  case atStart => exact ⟨0, by omega, by go_num, by omega, World.ownsRow_nil _ _ _ _, Below.refl _ _⟩
  case round =>
    obtain ⟨i, hgk, rfl, hi, ho, hb⟩ := hrel
    have HGK := hide hgk
    have HO := hide ho
    have HB := hide hb
    have hs := hb.size
    clear hgk ho hb
    by_cases hlt : i < (n + 3) / 4
    · have h4 : 4 * (i : Int) < (n : Int) := by omega
      obtain ⟨m, hm⟩ : ∃ m, m = min 4 (n - 4 * i) := ⟨_, rfl⟩
      have hmin : min (4 * (i : Int) + 4) (n : Int) = 4 * (i : Int) + (m : Int) := by omega
      have hm1 : 0 < m ∧ m ≤ 4 ∧ 4 * i + m ≤ n := by omega
      have HV := hide (show groupV 39 g o n i = .slice (some ⟨g, o + 4 * i * 39, none⟩) m m by rw [groupV, ← hm])
      have HM := hide hm
      clear hm
      have hw4 : IntKind.i64.wrap (4 * (i : Int) + 4) = 4 * (i : Int) + 4 := by rw [IntKind.wrap_i64]; omega
      have ht1 : (4 * (i : Int)).toNat = 4 * i := by omega
      have ht2 : (4 * (i : Int) + (m : Int)).toNat = 4 * i + m := by omega
      have HO2 := hide (fun ob => HO.out.alloc ob)
      have HLT := hide (fun b (e : (u3 : Value).ownBlock = some b) => (HO.out.lt b e).1)
      have HNW := hide (one_cell (w := wr) (t := 86) (x := .slice (some ⟨g, o + 4 * i * 39, none⟩) m m))
      go_wp2_with (at_builtin; refine wpList_append_own2 _ rfl (.tmp 17) (.tmp 23) 160 rfl w.heap.size 86 i0 (.slice none 0 0) 1 24 Tryz.underlying160 hi0 hz0 hz1 hz2 rfl (by decide) _ i (groupsV 39 g o n i) rfl (HO2.out _) ⟨wr.heap.size, 0, none⟩ 1 1 [.slice (some ⟨g, o + 4 * i * 39, none⟩) m m] rfl rfl HNW.out (fun u hu => by rw [List.mem_singleton.1 hu]; rfl) (by unfold maxLen; omega) (by omega) (by simp; omega) ?_)
      intro v' w1 hown' hgrow _
      rw [← HV.out, ← groupsV_succ] at hown'
      have hb1 : Below w.heap.size w w1 := (HB.out.alloc hs _).grown hgrow (by simp; omega) (fun k hk => HLT.out k hk)
      have HO1 := hide hown'
      have HB1 := hide hb1
      clear hown' hgrow hb1 HO2 HNW HLT
      go_wp2_with fail
      go_roundg ((n + 3) / 4 - (i + 1))
      case measure => have := HGK.out; omega
      case rel => exact ⟨i + 1, rfl, by go_num, by omega, HO1.out, HB1.out⟩
    · have ei : i = (n + 3) / 4 := by omega
      have h4 : ¬ (4 * (i : Int) < (n : Int)) := by omega
      subst ei
      go_wp2
      go_ret
      exact ⟨_, rfl, HO.out, HB.out⟩
end Go.Proofs.YtenaelkbgkpllaaGreatDoor
/- Boxes. -/
namespace Go.Proofs.YtenaelkbgkpllaaGreatDoor
open Go.RowKit

/-- a box as a value -/
abbrev Bx (b : Ward.Box) : Value := .agg #[I b.a, I b.b, I b.c, I b.d]
theorem Tryz.infoBox : (Tryz.prog.info? 88).map (·.size) = some 4 := by kernel_rfl
theorem heap_alloc3_new (w : World) (a b c : Obj) : (((w.alloc a).alloc b).alloc c).heap[w.heap.size + 1 + 1]? = some c := by
  have e : ((w.alloc a).alloc b).heap.size = w.heap.size + 1 + 1 := by simp
  rw [← e]
  exact heap_alloc_new _ _
set_option maxHeartbeats 400000 in
theorem boxOf_any (p : Ward.Pt) (w : World) :
    Calls Tryz.prog 79 #[.agg #[I p.id, I p.x, I p.y]] w fun e w' => e = .returned (Bx (Ward.boxOf p)) ∧ Below w.heap.size w w' := by
  go_enter Tryz.func79, Tryz.ntmps79
  go_wp2
  refine bodyPost_ret (v := Bx (Ward.boxOf p)) ?_ rfl ⟨rfl, ((Below.refl w.heap.size w).alloc (Nat.le_refl _) _).alloc (by simp) _⟩
  exact results_cell_row rfl _ _ (w.heap.size + 1) 88 _ (0, 0) _ rfl (heap_alloc2_new w _ _) Tryz.underlying88 rfl Tryz.infoBox
set_option maxHeartbeats 1000000 in
theorem join_any2 (p q : Ward.Box) (w : World) :
    Calls Tryz.prog 110 #[Bx p, Bx q] w fun e w' => e = .returned (Bx (Ward.join p q)) ∧ Below w.heap.size w w' := by
  obtain ⟨pa, pb, pc, pd⟩ := p
  obtain ⟨qa, qb, qc, qd⟩ := q
  go_enter Tryz.func110, Tryz.ntmps110
  go_wp2
  refine bodyPost_ret (v := .agg #[I (min pa qa), I (min pb qb), I (max pc qc), I (max pd qd)]) ?_ rfl ⟨rfl, (((Below.refl w.heap.size w).alloc (Nat.le_refl _) _).alloc (by simp) _).alloc (by simp; omega) _⟩
  exact results_cell_row rfl _ _ (w.heap.size + 1 + 1) 88 #[I (min pa qa), I (min pb qb), I (max pc qc), I (max pd qd)] (0, 0) _ rfl (heap_alloc3_new w _ _ _) Tryz.underlying88 rfl Tryz.infoBox
end Go.Proofs.YtenaelkbgkpllaaGreatDoor
/- A leaf made of points. -/
namespace Go.Proofs.YtenaelkbgkpllaaGreatDoor
open Go.RowKit

/-- a node's cells -/
def nodeV (vp vc : Value) (b : Ward.Box) (n : Int) (t : List Value) : List Value := vp :: vc :: I b.a :: I b.b :: I b.c :: I b.d :: I n :: t
theorem Tryz.infoNode : (Tryz.prog.info? 90).map (·.size) = some 39 := by kernel_rfl
theorem node_cells {w : World} {g : Nat} {vp vc : Value} {b : Ward.Box} {n : Int} {t : List Value} {ty : Nat} (h : w.heap[g]? = some (.cells (nodeV vp vc b n t).toArray ty (0, 0))) :
    (w.cell? ⟨g, 0, none⟩ = some vp ∧ w.cell? ⟨g, 1, none⟩ = some vc) ∧ (w.cell? ⟨g, 2, none⟩ = some (I b.a) ∧ w.cell? ⟨g, 3, none⟩ = some (I b.b) ∧ w.cell? ⟨g, 4, none⟩ = some (I b.c) ∧ w.cell? ⟨g, 5, none⟩ = some (I b.d)) ∧ w.cell? ⟨g, 6, none⟩ = some (I n) := by
  refine ⟨⟨?_, ?_⟩, ⟨?_, ?_, ?_, ?_⟩, ?_⟩ <;> rw [cell_of_row _ _ _ _ _ _ h] <;> rfl
theorem node_box {w : World} {g : Nat} {vp vc : Value} {b : Ward.Box} {n : Int} {t : List Value} {ty : Nat} (c : Ward.Box) (h : w.heap[g]? = some (.cells (nodeV vp vc b n t).toArray ty (0, 0))) :
    ((((w.setCell ⟨g, 2, none⟩ (I c.a)).setCell ⟨g, 3, none⟩ (I c.b)).setCell ⟨g, 4, none⟩ (I c.c)).setCell ⟨g, 5, none⟩ (I c.d)).heap[g]? = some (.cells (nodeV vp vc c n t).toArray ty (0, 0)) := by
  have h1 := heap_setCell_same w g 2 _ ty (I c.a) h
  rw [List.setIfInBounds_toArray] at h1
  have h2 := heap_setCell_same _ g 3 _ ty (I c.b) h1
  rw [List.setIfInBounds_toArray] at h2
  have h3 := heap_setCell_same _ g 4 _ ty (I c.c) h2
  rw [List.setIfInBounds_toArray] at h3
  have h4 := heap_setCell_same _ g 5 _ ty (I c.d) h3
  rw [List.setIfInBounds_toArray] at h4
  exact h4
/-- several cells of a row set -/
theorem setCells_row {g ty : Nat} : ∀ (vs : List Value) (o : Nat) (cur : List Value) (w : World), w.heap[g]? = some (.cells cur.toArray ty (0, 0)) → o + vs.length ≤ cur.length → (w.setCells g o vs).heap[g]? = some (.cells (over cur o vs).toArray ty (0, 0))
  | [], o, cur, w, h, _ => by simpa [World.setCells, over] using h
  | v :: vs, o, cur, w, h, hl => by
    have h1 := heap_setCell_same w g o _ ty v h
    rw [List.setIfInBounds_toArray] at h1
    have ih := setCells_row vs (o + 1) (cur.set o v) (w.setCell ⟨g, o, none⟩ v) h1 (by simp at hl ⊢; omega)
    have e : over (cur.set o v) (o + 1) vs = over cur o (v :: vs) := by
      have := list_seg_step cur o v vs (by simp at hl; omega)
      simpa [over, Nat.add_assoc, Nat.add_comm, Nat.add_left_comm] using this
    rw [e] at ih
    exact ih
theorem node_digest {w : World} {g : Nat} {vp vc : Value} {b : Ward.Box} {n : Int} {t d : List Value} {ty : Nat} (ht : t.length = 32) (hd : d.length = 32) (h : w.heap[g]? = some (.cells (nodeV vp vc b n t).toArray ty (0, 0))) :
    (w.setCells g 7 d).heap[g]? = some (.cells (nodeV vp vc b n d).toArray ty (0, 0)) := by
  rw [setCells_row d 7 (nodeV vp vc b n t) w h (by simp [nodeV, ht, hd])]
  have : over (nodeV vp vc b n t) 7 d = nodeV vp vc b n d := by
    simp [over, nodeV, hd, ht, List.drop_eq_nil_of_le]
  rw [this]
end Go.Proofs.YtenaelkbgkpllaaGreatDoor
/- A leaf made of points: the call. -/
namespace Go.Proofs.YtenaelkbgkpllaaGreatDoor
open Go.RowKit

/-- the box of the first i of some boxes -/
def accBox (l : List Ward.Box) (i : Nat) : Ward.Box := (l.take i).foldl Ward.join (l.headD ⟨0, 0, 0, 0⟩)
theorem accBox_step (l : List Ward.Box) (i : Nat) (h : i < l.length) : accBox l (i + 1) = Ward.join (accBox l i) l[i] := by
  rw [accBox, List.take_succ_eq_append_getElem h, List.foldl_append]; rfl
theorem accBox_all (l : List Ward.Box) : accBox l l.length = Ward.boxL l := by rw [accBox, List.take_length]; rfl
def zero32 : List Value := List.replicate 32 (.int .u8 0)
theorem nodeV_one {vp vc : Value} {b : Ward.Box} {n : Int} {t : List Value} (h1 : vp.oneCell' = true) (h2 : vc.oneCell' = true) (ht : ∀ v ∈ t, v.oneCell' = true) : (nodeV vp vc b n t).toArray.all (·.oneCell') = true := by
  refine all_oneCell_toArray fun v hv => ?_
  simp only [nodeV, List.mem_cons] at hv
  rcases hv with rfl | rfl | rfl | rfl | rfl | rfl | rfl | hv
  · exact h1
  · exact h2
  · rfl
  · rfl
  · rfl
  · rfl
  · rfl
  · exact ht v hv
theorem zero32_one : ∀ v ∈ zero32, v.oneCell' = true := fun v hv => by
  rw [List.eq_of_mem_replicate hv]; rfl

theorem box_other {w : World} {g k : Nat} {c : Ward.Box} (h : k ≠ g) : ((((w.setCell ⟨g, 2, none⟩ (I c.a)).setCell ⟨g, 3, none⟩ (I c.b)).setCell ⟨g, 4, none⟩ (I c.c)).setCell ⟨g, 5, none⟩ (I c.d)).heap[k]? = w.heap[k]? := by
  rw [Below.heap_setCell _ _ _ _ h, Below.heap_setCell _ _ _ _ h, Below.heap_setCell _ _ _ _ h, Below.heap_setCell _ _ _ _ h]
/-- what the round of a box reads: the box in a node, a point -/
def Seven (w : World) (n p : Nat) (b : Ward.Box) (q : Ward.Pt) : Prop :=
  (w.cell? ⟨n, 2, none⟩ = some (I b.a) ∧ w.cell? ⟨n, 3, none⟩ = some (I b.b) ∧ w.cell? ⟨n, 4, none⟩ = some (I b.c) ∧ w.cell? ⟨n, 5, none⟩ = some (I b.d)) ∧
  (w.frozen? ⟨n, 2, none⟩ = false ∧ w.frozen? ⟨n, 3, none⟩ = false ∧ w.frozen? ⟨n, 4, none⟩ = false ∧ w.frozen? ⟨n, 5, none⟩ = false) ∧
  w.cell? ⟨p, 0, none⟩ = some (I q.id) ∧ w.cell? ⟨p, 1, none⟩ = some (I q.x) ∧ w.cell? ⟨p, 2, none⟩ = some (I q.y)
theorem Seven.below {w w' : World} {n p : Nat} {b : Ward.Box} {q : Ward.Pt} {B : Nat} (h : Seven w n p b q) (hb : Below B w w') (hn : n < B) (hp : p < B) : Seven w' n p b q :=
  ⟨⟨(hb.cell (p := ⟨n, 2, none⟩) hn).trans h.1.1, (hb.cell (p := ⟨n, 3, none⟩) hn).trans h.1.2.1, (hb.cell (p := ⟨n, 4, none⟩) hn).trans h.1.2.2.1, (hb.cell (p := ⟨n, 5, none⟩) hn).trans h.1.2.2.2⟩,
   ⟨(hb.frozen (p := ⟨n, 2, none⟩) hn).trans h.2.1.1, (hb.frozen (p := ⟨n, 3, none⟩) hn).trans h.2.1.2.1, (hb.frozen (p := ⟨n, 4, none⟩) hn).trans h.2.1.2.2.1, (hb.frozen (p := ⟨n, 5, none⟩) hn).trans h.2.1.2.2.2⟩,
   (hb.cell (p := ⟨p, 0, none⟩) hp).trans h.2.2.1, (hb.cell (p := ⟨p, 1, none⟩) hp).trans h.2.2.2.1, (hb.cell (p := ⟨p, 2, none⟩) hp).trans h.2.2.2.2⟩
theorem Seven.drew {w : World} {n p : Nat} {b : Ward.Box} {q : Ward.Pt} (h : Seven w n p b q) : Seven w.drew n p b q := by simpa [Seven] using h
theorem setCells_other {g k : Nat} (h : k ≠ g) : ∀ (vs : List Value) (o : Nat) (w : World), (w.setCells g o vs).heap[k]? = w.heap[k]?
  | [], _, _ => rfl
  | v :: vs, o, w => by rw [World.setCells, setCells_other h vs (o + 1) _, Below.heap_setCell _ _ _ _ h]
theorem below_setCellsN {B g : Nat} {a : World} (hg : B ≤ g) : ∀ (vs : List Value) (o : Nat) (w : World), Below B a w → Below B a (w.setCells g o vs)
  | [], _, _, h => h
  | v :: vs, o, w, h => by rw [World.setCells]; exact below_setCellsN hg vs (o + 1) _ (h.setCell hg v)
theorem there_row {w : World} {g : Nat} {C : Array Value} {t : TypeId} (h : w.heap[g]? = some (.cells C t (0, 0))) (o n : Nat) (hn : o + n ≤ C.size) : w.there g o n := fun j hj =>
  ⟨by rw [cell_of_row _ _ _ _ _ _ h, Array.getElem?_eq_getElem (by omega)]; rfl, frozen_of_row _ _ _ _ _ h⟩
theorem nodeV_size {vp vc : Value} {b : Ward.Box} {n : Int} {t : List Value} (ht : t.length = 32) : (nodeV vp vc b n t).toArray.size = 39 := by simp [nodeV, ht]
theorem nodeV_info {vp vc : Value} {b : Ward.Box} {n : Int} {t : List Value} (ht : t.length = 32) : (Tryz.prog.info? 90).map (·.size) = some (nodeV vp vc b n t).toArray.size := by rw [nodeV_size ht]; exact Tryz.infoNode
theorem underNode : ∃ fs, Tryz.prog.underlying 90 = some (.struct fs) := by
  have h : (Tryz.prog.underlying 90).map (fun d => match d with | .struct _ => true | _ => false) = some true := by kernel_rfl
  cases e : Tryz.prog.underlying 90 with
  | none => rw [e] at h; cases h
  | some d =>
    rw [e] at h
    cases d <;> first | exact ⟨_, rfl⟩ | cases h
theorem setRow_alloc2 (w : World) (o : Obj) (c c' : Array Value) (t : TypeId) : ((w.alloc o).alloc (.cells c t)).setRow (w.heap.size + 1) c' = (w.alloc o).alloc (.cells c' t) := by
  have h := World.setRow_alloc_new (w.alloc o) c c' t
  rwa [show (w.alloc o).heap.size = w.heap.size + 1 by simp] at h
set_option maxRecDepth 100000 in
set_option maxHeartbeats 2000000 in
theorem leafOf_any (vp : Value) (L : List Ward.Pt) (w : World) (hL : L.length ≤ 4) (hp : ReadsB w w.heap.size vp L) (hK : KT w) :
    Calls Tryz.prog 70 #[vp] w fun e w' => e = .returned (.agg (nodeV vp (.slice none 0 0) (Ward.box 0 L) L.length ((Sha.sha (Ward.leafText L)).map Y)).toArray) ∧ Below w.heap.size w w' := by
  have HP := hide hp
  have HK := hide hK
  obtain ⟨ap, cp, rfl, hrd⟩ := hp
  have HRD := hide hrd
  clear hrd hK
  go_enter Tryz.func70, Tryz.ntmps70
  go_upto_region 1 with fail
  go_upto_region 2 with (refine wpList_store_row rfl 90 (.tmp 3) (.tmp 9) rfl (w.heap.size + 1) (nodeV (.slice ap L.length cp) (.slice none 0 0) ⟨0, 0, 0, 0⟩ L.length zero32).toArray rfl rfl 90 _ (heap_alloc2_new w _ _) Tryz.infoNode rfl (nodeV_one rfl rfl zero32_one) ?_)
  rw [setRow_alloc2]
  have hb2 := fun o o' => ((Below.refl w.heap.size w).alloc (Nat.le_refl _) o).alloc (by simp) o'
  have hr2 := heap_alloc2_new w
  have hr1 := heap_alloc2_old w
  generalize hW : World.alloc (World.alloc w _) _ = w1
  have hb1 : Below w.heap.size w w1 := by rw [← hW]; exact hb2 _ _
  have hz1 : w1.heap[w.heap.size]? = some (.cells (nodeV (.slice none 0 0) (.slice none 0 0) ⟨0, 0, 0, 0⟩ 0 zero32).toArray 90 (0, 0)) := by rw [← hW]; exact hr1 _ _
  have hn1 : w1.heap[w.heap.size + 1]? = some (.cells (nodeV (.slice ap L.length cp) (.slice none 0 0) ⟨0, 0, 0, 0⟩ L.length zero32).toArray 90 (0, 0)) := by rw [← hW]; exact hr2 _ _
  clear hb2 hr2 hr1 hW
  generalize Value.agg _ = x9
  have HZ1 := hide hz1
  have HN1 := hide hn1
  have HB1 := hide hb1
  clear hz1 hn1 hb1
  have hlb : (L.length : Int) ≤ 4 := by omega
  go_upto_if 12 with fail
  go_cut [] (fun wx => wx.heap[w.heap.size]? = some (.cells (nodeV (.slice none 0 0) (.slice none 0 0) ⟨0, 0, 0, 0⟩ 0 zero32).toArray 90 (0, 0)) ∧ wx.heap[w.heap.size + 1]? = some (.cells (nodeV (.slice ap L.length cp) (.slice none 0 0) (accBox (L.map Ward.boxOf) 0) L.length zero32).toArray 90 (0, 0)) ∧ Below w.heap.size w wx)
  case first =>
    by_cases h0 : 0 < L.length
    · obtain ⟨g, o, rfl, hgB, hpts⟩ := HRD.out (fun e => by subst e; simp at h0)
      have hp0 := (hpts 0 h0).below HB1.out hgB
      have HE := hide (show accBox (L.map Ward.boxOf) 0 = Ward.boxOf L[0] by
        obtain ⟨q, L', rfl⟩ : ∃ q L', L = q :: L' := by cases L with | nil => simp at h0 | cons q L' => exact ⟨q, L', rfl⟩
        rfl)
      generalize L[0] = q at *
      rw [Nat.zero_mul, Nat.add_zero] at hp0
      obtain ⟨c1, c2, c3⟩ := hp0
      clear hpts
      have h0' : (0 : Int) < L.length := by omega
      have hnlt : w.heap.size + 1 < w1.heap.size := (Array.getElem?_eq_some_iff.1 HN1.out).1
      go_wp2_with fail
      refine (boxOf_any q _).mono ?_
      rintro _ w2 ⟨rfl, hb2⟩
      have hn2 := (hb2.block (w.heap.size + 1) hnlt).trans HN1.out
      have HZ2 := hide ((hb2.block w.heap.size (by omega)).trans HZ1.out)
      obtain ⟨-, ⟨n1, n2, n3, n4⟩, -⟩ := node_cells hn2
      have f1 : w2.frozen? ⟨w.heap.size + 1, 2, none⟩ = false := frozen_of_row _ _ _ _ _ hn2
      have f2 : w2.frozen? ⟨w.heap.size + 1, 3, none⟩ = false := frozen_of_row _ _ _ _ _ hn2
      have f3 : w2.frozen? ⟨w.heap.size + 1, 4, none⟩ = false := frozen_of_row _ _ _ _ _ hn2
      have f4 : w2.frozen? ⟨w.heap.size + 1, 5, none⟩ = false := frozen_of_row _ _ _ _ _ hn2
      have HN2 := hide hn2
      have HB2 := hide (HB1.out.trans (hb2.mono (by omega)))
      clear hn2 hb2 hnlt
      unfold Bx
      go_wp2_with fail
      go_meet
      refine ⟨?_, ?_, ?_⟩
      · exact (box_other (c := Ward.boxOf q) (by omega)).trans HZ2.out
      · rw [HE.out]
        exact node_box (Ward.boxOf q) HN2.out
      · exact (((HB2.out.setCell (by simp) _).setCell (by simp) _).setCell (by simp) _).setCell (by simp) _
    · obtain rfl : L = [] := List.eq_nil_of_length_eq_zero (by omega)
      go_wp2_with fail
      go_meet
      exact ⟨HZ1.out, HN1.out, HB1.out⟩
  case rest =>
    clear HZ1 HN1 HB1
    obtain ⟨hz1, hn1, hb1⟩ := hcut
    have HZ1 := hide hz1
    have HN1 := hide hn1
    have HB1 := hide hb1
    clear hz1 hn1 hb1
    go_wp2_with fail
    go_loopg [20] L.length (fun gk v20 wq => ∃ i : Nat, gk = L.length - i ∧ v20 = I i ∧ i ≤ L.length ∧ wq.heap[w.heap.size]? = some (.cells (nodeV (.slice none 0 0) (.slice none 0 0) ⟨0, 0, 0, 0⟩ 0 zero32).toArray 90 (0, 0)) ∧ wq.heap[w.heap.size + 1]? = some (.cells (nodeV (.slice ap L.length cp) (.slice none 0 0) (accBox (L.map Ward.boxOf) i) L.length zero32).toArray 90 (0, 0)) ∧ Below w.heap.size w wq)
    case atStart => exact ⟨0, by omega, rfl, by omega, HZ1.out, HN1.out, HB1.out⟩
    case round =>
      clear HZ1 HN1 HB1
      obtain ⟨i, hgk, rfl, hi, hz, hn, hb⟩ := hrel
      have HGK := hide hgk
      have HZ := hide hz
      have HN := hide hn
      have HB := hide hb
      clear hgk hz hn hb
      by_cases hlt : i < L.length
      · obtain ⟨g, o, rfl, hgB, hpts⟩ := HRD.out (fun e => by subst e; simp at hlt)
        have hpi := (hpts i hlt).below HB.out hgB
        have HE := hide (show accBox (L.map Ward.boxOf) (i + 1) = Ward.join (accBox (L.map Ward.boxOf) i) (Ward.boxOf L[i]) by
          rw [accBox_step _ _ (by simpa using hlt), List.getElem_map])
        generalize L[i] = q at *
        generalize accBox (L.map Ward.boxOf) i = b at *
        obtain ⟨p1, p2, p3⟩ := hpi
        clear hpts
        go_upto_region 7 with fail
        have hb5' := fun o => (Below.refl wr.heap.size wr).alloc (Nat.le_refl _) o
        have hr5' := heap_alloc_new wr
        have hs5' := fun o => show (wr.alloc o).heap.size = wr.heap.size + 1 by simp
        generalize hW : World.alloc wr _ = w5
        have hb5 : Below wr.heap.size wr w5 := by rw [← hW]; exact hb5' _
        have hr5 : w5.heap[wr.heap.size]? = some (.cells #[I q.id, I q.x, I q.y] 36 (0, 0)) := by rw [← hW]; exact hr5' _
        have hs5 : w5.heap.size = wr.heap.size + 1 := by rw [← hW]; exact hs5' _
        clear hb5' hr5' hs5' hW
        have hnlt : w.heap.size + 1 < wr.heap.size := (Array.getElem?_eq_some_iff.1 HN.out).1
        have hn5 := (hb5.block (w.heap.size + 1) hnlt).trans HN.out
        have HZ5 := hide ((hb5.block w.heap.size (by omega)).trans HZ.out)
        have HB5 := hide (HB.out.trans (hb5.mono (by omega)))
        have H7 := hide (show Seven w5 (w.heap.size + 1) wr.heap.size b q from ⟨(node_cells hn5).2.1, ⟨frozen_of_row _ _ _ _ _ hn5, frozen_of_row _ _ _ _ _ hn5, frozen_of_row _ _ _ _ _ hn5, frozen_of_row _ _ _ _ _ hn5⟩, row3 hr5⟩)
        have HN5 := hide hn5
        obtain ⟨⟨a1, a2, a3, a4⟩, ⟨e1, e2, e3, e4⟩, a5, a6, a7⟩ := H7.out
        clear hn5 hr5 hb5 p1 p2 p3
        go_region_with (first | (go_at_call 79; go_must (refine (boxOf_any q w5.drew).mono ?_; rintro _ w6 ⟨rfl, hb6⟩; have hs6 := hb6.size; have H76 := hide (H7.out.drew.below hb6 (by simp; omega) (by simp; omega)); obtain ⟨⟨k1, k2, k3, k4⟩, ⟨l1, l2, l3, l4⟩, k5, k6, k7⟩ := H76.out; have HB6 := hide hb6; clear hb6)) | (go_at_call 110; go_must (refine (join_any2 b (Ward.boxOf q) w6).mono ?_; rintro _ w7 ⟨rfl, hb7⟩; have hs7 := hb7.size; have H77 := hide (H76.out.below hb7 (by simp at hs6; omega) (by simp at hs6; omega)); obtain ⟨⟨m1, m2, m3, m4⟩, ⟨o1, o2, o3, o4⟩, m5, m6, m7⟩ := H77.out; have HB7 := hide hb7; clear hb7; unfold Bx)))
        all_goals
          go_wp2_with fail
          go_roundg (L.length - (i + 1))
          case measure => have := HGK.out; omega
          case rel =>
            have hd : w5.drew.heap.size = w5.heap.size := by simp
            rw [hd] at hs6
            have hn7 := (HB7.out.block (w.heap.size + 1) (by omega)).trans ((HB6.out.block (w.heap.size + 1) (by omega)).trans HN5.out)
            have hz7 := (HB7.out.block w.heap.size (by omega)).trans ((HB6.out.block w.heap.size (by omega)).trans HZ5.out)
            refine ⟨i + 1, rfl, by go_num, hlt, (box_other (c := Ward.join b (Ward.boxOf q)) (by omega)).trans hz7, ?_, ?_⟩
            · rw [HE.out]
              exact node_box (Ward.join b (Ward.boxOf q)) hn7
            · exact (((((HB5.out.drew.trans (HB6.out.mono (by omega))).trans (HB7.out.mono (by omega))).setCell (by simp) _).setCell (by simp) _).setCell (by simp) _).setCell (by simp) _
      · have ei : i = L.length := by omega
        subst ei
        have HE := hide (show accBox (L.map Ward.boxOf) L.length = Ward.box 0 L by
          have h := accBox_all (L.map Ward.boxOf)
          rw [List.length_map] at h
          exact h)
        rw [HE.out] at HN
        have hnlt : w.heap.size + 1 < wr.heap.size := (Array.getElem?_eq_some_iff.1 HN.out).1
        have HRR := hide (show ReadsB wr wr.heap.size (.slice ap L.length cp) L from ⟨ap, cp, rfl, fun hne => by
          obtain ⟨g, o, e, hg, hp⟩ := HRD.out hne
          exact ⟨g, o, e, by omega, fun j hj => (hp j hj).below HB.out hg⟩⟩)
        have HD := hide (dig_of (Ward.leafText L))
        have HTL := hide (show (⟨(Ward.leafText L).toArray⟩ : ByteArray).size ≤ 140737488355327 by
          show (Ward.leafText L).toArray.size ≤ _
          rw [List.size_toArray, leafText_two, List.length_append, Ward.pts_len]
          show 2 + _ ≤ _
          omega)
        generalize hBx : Ward.box 0 L = b at *
        have HBX := hide hBx
        clear HE HP hBx
        go_wp2_with fail
        refine (leafText_any _ L _ hL HRR.out).mono ?_
        rintro _ w2 ⟨rfl, hb2⟩
        have HB2 := hide hb2
        have hs2 := hb2.size
        clear hb2
        go_wp2_with fail
        refine (of_any _ _ HTL.out (HK.out.below (HB.out.trans (HB2.out.mono (by omega))))).mono ?_
        rintro _ w3 ⟨rfl, hb3⟩
        rw [show (⟨(Ward.leafText L).toArray⟩ : ByteArray).data.toList = Ward.leafText L from rfl]
        generalize hDe : (Sha.sha (Ward.leafText L)).map Y = D at *
        have HDE := hide hDe
        clear hDe
        have hs3 := hb3.size
        have hn3 := (hb3.block (w.heap.size + 1) (by omega)).trans ((HB2.out.block (w.heap.size + 1) (by omega)).trans HN.out)
        have HZ3 := hide ((hb3.block w.heap.size (by omega)).trans ((HB2.out.block w.heap.size (by omega)).trans HZ.out))
        have HB3 := hide ((HB.out.trans (HB2.out.mono (by omega))).trans (hb3.mono (by omega)))
        have HN3 := hide hn3
        clear hb3 hn3
        obtain ⟨fs, hu⟩ := underNode
        have HU := hide hu
        have HT := hide (there_row HN3.out 7 D.toArray.size (by rw [HD.out.size, nodeV_size (by rfl)]; decide))
        have HN4 := hide (show (w3.setCells (w.heap.size + 1) 7 D).heap[w.heap.size + 1]? = some (.cells (nodeV (.slice ap L.length cp) (.slice none 0 0) b L.length D).toArray 90 (0, 0)) from node_digest (by rfl) HD.out.len HN3.out)
        have HZ4 := hide ((setCells_other (show w.heap.size ≠ w.heap.size + 1 by omega) D 7 w3).trans HZ3.out)
        have HB4 := hide (below_setCellsN (show w.heap.size ≤ w.heap.size + 1 by omega) D 7 w3 HB3.out)
        have HO := hide (nodeV_one (vp := .slice ap L.length cp) (vc := .slice none 0 0) (b := b) (n := L.length) (t := D) rfl rfl (fun v hv => (Array.all_eq_true_iff_forall_mem.1 HD.out.one) v (by simpa using hv)))
        have HI := hide (nodeV_info (vp := .slice ap L.length cp) (vc := .slice none 0 0) (b := b) (n := L.length) HD.out.len)
        have HS := hide (show (nodeV (.slice none 0 0) (.slice none 0 0) ⟨0, 0, 0, 0⟩ 0 zero32).toArray.size = (nodeV (.slice ap L.length cp) (.slice none 0 0) b L.length D).toArray.size by rw [nodeV_size HD.out.len, nodeV_size (by rfl)])
        have HI22 := hide HD.out.info
        have HO22 := hide HD.out.one
        clear hu
        generalize hM : (nodeV (.slice ap L.length cp) (.slice none 0 0) b L.length D).toArray = M at *
        have HM := hide hM
        clear hM
        go_wp2_with (first | (refine wpList_store_mid rfl 39 (.tmp 34) (.tmp 33) rfl (w.heap.size + 1) 7 D.toArray rfl rfl HT.out HI22.out HO22.out ?_) | (refine wpList_load_row rfl 90 (.tmp 3) rfl (w.heap.size + 1) rfl 90 M (0, 0) (.struct fs) HN4.out HU.out rfl HI.out ?_) | (refine wpList_store_row rfl 90 (.tmp 2) (.tmp 35) rfl w.heap.size M rfl rfl 90 _ HZ4.out HI.out HS.out HO.out ?_))
        refine bodyPost_ret (v := .agg M) ?_ rfl ⟨by rw [← HM.out, ← HBX.out, ← HDE.out], below_setRow HB4.out (Nat.le_refl _) _⟩
        exact results_cell_row rfl _ _ w.heap.size 90 M (0, 0) (.struct fs) rfl (setRow_heap _ _ _ _ _ _ HZ4.out) HU.out rfl HI.out
end Go.Proofs.YtenaelkbgkpllaaGreatDoor
/- What a node says of a child. -/
namespace Go.Proofs.YtenaelkbgkpllaaGreatDoor
open Go.RowKit

/-- what a node says of a child: its box, its count, its digest -/
def childT (b : Ward.Box) (n : Int) (D : List UInt8) : List UInt8 := nums [b.a, b.b, b.c, b.d, n] ++ D

set_option maxRecDepth 100000 in
set_option maxHeartbeats 2000000 in
theorem appendChild_any (v : Value) (l : List UInt8) (vp vc : Value) (b : Ward.Box) (n : Int) (D : List UInt8) (w : World) (B : Nat) (hB : B ≤ w.heap.size) (hx : l.length ≤ 700000) (hD : D.length = 32) (hown : OwnB w B v l) :
    Calls Tryz.prog 120 #[v, .agg (nodeV vp vc b n (D.map Y)).toArray] w fun e w' => Put w B v l (childT b n D) e w' := by
  have HO := hide hown
  obtain ⟨a, c, rfl⟩ := hown.slice
  have HI := hide (nodeV_info (vp := vp) (vc := vc) (b := b) (n := n) (t := D.map Y) (by simpa using hD))
  generalize hM : (nodeV vp vc b n (D.map Y)).toArray = M at *
  have HM := hide hM
  clear hM hown
  go_enter Tryz.func120, Tryz.ntmps120
  go_upto_region 1 with fail
  have hb1' := (Below.refl w.heap.size w).alloc (Nat.le_refl _) (.cells M 90)
  have hr1' := heap_alloc_new w (.cells M 90)
  have hs1 : (w.alloc (.cells M 90)).heap.size = w.heap.size + 1 := by simp
  generalize w.alloc (.cells M 90) = w1 at *
  have hn1 : w1.heap[w.heap.size]? = some (.cells (nodeV vp vc b n (D.map Y)).toArray 90 (0, 0)) := by rw [HM.out]; exact hr1'
  obtain ⟨-, ⟨c1, c2, c3, c4⟩, c5⟩ := node_cells hn1
  have HN1 := hide hn1
  have HB1 := hide hb1'
  have HS1 := hide hs1
  clear hb1' hr1' hn1 hs1
  have hlt1 : w.heap.size < w1.heap.size := by have := HS1.out; omega
  have c6 : ∀ o, (w1.alloc o).cell? ⟨w.heap.size, 6, none⟩ = some (I n) := fun o => ((((Below.refl w1.heap.size w1).alloc (Nat.le_refl _) o)).cell (p := ⟨w.heap.size, 6, none⟩) hlt1).trans c5
  go_wp2_with fail
  have hb2 := fun o o' => ((Below.refl w1.heap.size w1).alloc (Nat.le_refl _) o).alloc (by simp) o'
  have hr2 := heap_alloc2_new w1
  have hs2' := fun o o' => show ((w1.alloc o).alloc o').heap.size = w1.heap.size + 2 by simp
  generalize hW : World.alloc (World.alloc w1 _) _ = w2
  have hb : Below w1.heap.size w1 w2 := by rw [← hW]; exact hb2 _ _
  have hrow : w2.heap[w1.heap.size + 1]? = some (.cells #[I b.a, I b.b, I b.c, I b.d, I n] 3 (0, 0)) := by rw [← hW]; exact hr2 _ _
  clear hb2 hr2 hs2' hW
  have HBB := hide (HB1.out.trans (hb.mono (by omega)))
  have hN2 := (hb.block w.heap.size (by omega)).trans HN1.out
  have hcs : ∀ i (h : i < [b.a, b.b, b.c, b.d, n].length), w2.cell? ⟨w1.heap.size + 1, i, none⟩ = some (I [b.a, b.b, b.c, b.d, n][i]) := fun i h => by
    rw [cell_of_row _ _ _ _ _ _ hrow]
    match i, h with
    | 0, _ => rfl
    | 1, _ => rfl
    | 2, _ => rfl
    | 3, _ => rfl
    | 4, _ => rfl
  have hn := appendNumbers_any (.slice a l.length c) l [b.a, b.b, b.c, b.d, n] (w1.heap.size + 1) w2 B (Nat.le_trans hB HBB.out.size) (by omega) (by simp) (HO.out.old (by have := HS1.out; omega)) hcs (by simp) (HO.out.below HBB.out)
  refine hn.mono ?_
  rintro e w3 ⟨v3, rfl, ho3, hg3, hf3⟩
  clear hn hcs hrow
  have HB2 := hide hb
  have HP3 := hide (Put.lift HBB.out ⟨v3, rfl, ho3, hg3, hf3⟩)
  have hn3 : w3.heap[w.heap.size]? = some (.cells (nodeV vp vc b n (D.map Y)).toArray 90 (0, 0)) := (hg3.block w.heap.size (by have := hb.size; omega) (fun e => HO.out.old (Nat.le_refl _) e.symm)).trans hN2
  obtain ⟨v4, w4, h4, ho4, hg4, hf4⟩ := append_bytes (w := w3) D ⟨w.heap.size, 7, none⟩ 32 ho3 (Nat.le_trans (Nat.le_trans hB HBB.out.size) hg3.size) (by simp [nums_len]; omega) (fun j x hj => by
    rw [Addr.add_mid, cell_of_row _ _ _ _ _ _ hn3]
    rw [show 7 + j = j + 7 by omega]
    simp [nodeV, hj])
  rw [hD] at h4
  obtain ⟨v3', e3, ho3', hg3', hf3'⟩ := HP3.out
  obtain rfl : v3 = v3' := by cases e3; rfl
  have HP4 := hide (show Put w B (.slice a l.length c) l (childT b n D) (.returned v4) w4 from ⟨v4, rfl, by rw [childT, ← List.append_assoc]; exact ho4, grown_trans hg3' hf3' hg4, fresh_trans hf3' hg3'.size hf4⟩)
  obtain ⟨a3, k3, rfl⟩ := ho3.slice
  generalize hl3 : (l ++ nums [b.a, b.b, b.c, b.d, n]).length = n3 at *
  clear hl3 ho3 hg3 hf3 ho3' hg3' hf3' e3 ho4 hg4 hf4 hn3 hN2 hb HP3
  go_wp2_with (at_builtin; refine Lib.wpList_append_run _ rfl (.tmp 21) (.tmp 23) 59 59 rfl _ _ rfl rfl _ _ h4 ?_)
  go_ret
  exact HP4.out
end Go.Proofs.YtenaelkbgkpllaaGreatDoor
/- Nodes as they lie: their points, their children, what is said of them. -/
namespace Go.Proofs.YtenaelkbgkpllaaGreatDoor
open Go.RowKit

theorem childT_said (b : Ward.Box) (n : Int) (D : List UInt8) : childT b n D = Ward.boxText b ++ Ward.fourI n ++ D := by
  simp [childT, nums, Ward.boxText]
/-- a list of rows of 39 cells, each as P says, in a block of S -/
def RowsAt {α : Type} (P : α → List Value → Prop) (w : World) (S : Nat → Prop) (v : Value) (K : List α) : Prop :=
  ∃ (a : Option Addr) (c : Nat), v = .slice a K.length c ∧ (K ≠ [] → ∃ g o, a = some ⟨g, o, none⟩ ∧ S g ∧ ∀ i (h : i < K.length), ∃ U, P K[i] U ∧ w.rangeAt g (o + i * 39) U)
/-- points that are read, in a block of S -/
def ReadsS (w : World) (S : Nat → Prop) (v : Value) (L : List Ward.Pt) : Prop := ∃ (a : Option Addr) (c : Nat), v = .slice a L.length c ∧ (L ≠ [] → ∃ g o, a = some ⟨g, o, none⟩ ∧ S g ∧ ∀ i (h : i < L.length), PtAt w g (o + i * 3) L[i])
/-- the cells are those of this node, all that it reaches in blocks of S -/
def NodeIs (w : World) (S : Nat → Prop) : (n : Nat) → Ward.NT n → List Value → Prop
  | 0, t, _ => nomatch t
  | n + 1, t, V => ∃ vp vc, V = nodeV vp vc (Ward.Nd.box t) (Ward.Nd.n t) ((Ward.Nd.dig t).map Y) ∧ (Ward.Nd.dig t).length = 32 ∧ ReadsS w S vp (Ward.Nd.pts t) ∧ RowsAt (NodeIs w S n) w S vc (Ward.Nd.kids t)
theorem rangeAt_block {w w' : World} {g o : Nat} {U : List Value} (h : w.rangeAt g o U) (hb : w'.heap[g]? = w.heap[g]?) : w'.rangeAt g o U := fun j v hv =>
  (World.cell?_of_block (w := w) (a := ⟨g, o + j, none⟩) hb).trans (h j v hv)
theorem rangeAt_below {w w' : World} {B g o : Nat} {U : List Value} (h : w.rangeAt g o U) (hb : Below B w w') (hg : g < B) : w'.rangeAt g o U := rangeAt_block h (hb.block g hg)
/-- blocks of S are as they were -/
def Same (S : Nat → Prop) (w w' : World) : Prop := ∀ g, S g → w'.heap[g]? = w.heap[g]?
theorem below_same {w w' : World} {B : Nat} {S : Nat → Prop} (h : Below B w w') (hS : ∀ g, S g → g < B) : Same S w w' := fun g hg => h.block g (hS g hg)
theorem ReadsS.keep {w w' : World} {S S' : Nat → Prop} {v : Value} {L : List Ward.Pt} (h : ReadsS w S v L) (hk : Same S w w') (hS : ∀ g, S g → S' g) : ReadsS w' S' v L := by
  obtain ⟨a, c, rfl, hr⟩ := h
  refine ⟨a, c, rfl, fun hne => ?_⟩
  obtain ⟨g, o, e, hg, hp⟩ := hr hne
  exact ⟨g, o, e, hS g hg, fun i hi => (hp i hi).block (hk g hg)⟩
theorem ReadsS.low {w : World} {S : Nat → Prop} {B : Nat} {v : Value} {L : List Ward.Pt} (h : ReadsS w S v L) (hS : ∀ g, S g → g < B) : ReadsB w B v L := by
  obtain ⟨a, c, rfl, hr⟩ := h
  refine ⟨a, c, rfl, fun hne => ?_⟩
  obtain ⟨g, o, e, hg, hp⟩ := hr hne
  exact ⟨g, o, e, hS g hg, hp⟩
theorem RowsAt.keep {α : Type} {P Q : α → List Value → Prop} {w w' : World} {S S' : Nat → Prop} {v : Value} {K : List α} (h : RowsAt P w S v K) (hk : Same S w w') (hS : ∀ g, S g → S' g) (hP : ∀ t U, P t U → Q t U) : RowsAt Q w' S' v K := by
  obtain ⟨a, c, rfl, hr⟩ := h
  refine ⟨a, c, rfl, fun hne => ?_⟩
  obtain ⟨g, o, e, hg, hp⟩ := hr hne
  exact ⟨g, o, e, hS g hg, fun i hi => by
    obtain ⟨U, hU, hc⟩ := hp i hi
    exact ⟨U, hP _ _ hU, rangeAt_block hc (hk g hg)⟩⟩
theorem NodeIs.keep {w w' : World} {S S' : Nat → Prop} (hk : Same S w w') (hS : ∀ g, S g → S' g) : ∀ (n : Nat) (t : Ward.NT n) (V : List Value), NodeIs w S n t V → NodeIs w' S' n t V
  | 0, t, _, _ => nomatch t
  | n + 1, t, V, h => by
    obtain ⟨vp, vc, rfl, hd, hp, hc⟩ := h
    exact ⟨vp, vc, rfl, hd, hp.keep hk hS, hc.keep hk hS (NodeIs.keep hk hS n)⟩
/-- the cells of a node, whatever it is -/
theorem NodeIs.cells {w : World} {S : Nat → Prop} {n : Nat} {t : Ward.NT n} {V : List Value} (h : NodeIs w S n t V) : ∃ a l c a' l' c', V = nodeV (.slice a l c) (.slice a' l' c') (Ward.boxN n t) (Ward.numN n t) ((Ward.digN n t).map Y) ∧ (Ward.digN n t).length = 32 := by
  cases n with
  | zero => exact nomatch t
  | succ n =>
    obtain ⟨vp, vc, rfl, hd, ⟨a, c, rfl, -⟩, ⟨a', c', rfl, -⟩⟩ := h
    exact ⟨a, _, c, a', _, c', rfl, hd⟩
end Go.Proofs.YtenaelkbgkpllaaGreatDoor
/- Windows, boxes that may be, queries that may be. -/
namespace Go.Proofs.YtenaelkbgkpllaaGreatDoor
open Go.RowKit

/-- a query as a value -/
abbrev Qv (q : Ward.Qr) : Value := .agg #[I q.kind, I q.a, I q.b, I q.c, I q.d, I q.x, I q.y, I q.k]
theorem Tryz.infoQuery : (Tryz.prog.info? 46).map (·.size) = some 8 := by kernel_rfl

set_option maxHeartbeats 2000000 in
theorem meets_any (p q : Ward.Box) (w : World) :
    Calls Tryz.prog 78 #[Bx p, Bx q] w fun e w' => e = .returned (.bool (Ward.meets p q)) ∧ Below w.heap.size w w' := by
  obtain ⟨pa, pb, pc, pd⟩ := p
  obtain ⟨qa, qb, qc, qd⟩ := q
  by_cases h1 : pa ≤ qc
  · by_cases h2 : qa ≤ pc
    · by_cases h3 : pb ≤ qd
      · by_cases h4 : qb ≤ pd
        · rw [show Ward.meets ⟨pa, pb, pc, pd⟩ ⟨qa, qb, qc, qd⟩ = true by simp [Ward.meets, h1, h2, h3, h4]]
          go_enter Tryz.func78, Tryz.ntmps78
          go_wp2
          go_ret
          exact ⟨rfl, ((Below.refl w.heap.size w).alloc (Nat.le_refl _) _).alloc (by simp) _⟩
        · rw [show Ward.meets ⟨pa, pb, pc, pd⟩ ⟨qa, qb, qc, qd⟩ = false by simp [Ward.meets, h1, h2, h3, h4]]
          go_enter Tryz.func78, Tryz.ntmps78
          go_wp2
          go_ret
          exact ⟨rfl, ((Below.refl w.heap.size w).alloc (Nat.le_refl _) _).alloc (by simp) _⟩
      · rw [show Ward.meets ⟨pa, pb, pc, pd⟩ ⟨qa, qb, qc, qd⟩ = false by simp [Ward.meets, h1, h2, h3]]
        go_enter Tryz.func78, Tryz.ntmps78
        go_wp2
        go_ret
        exact ⟨rfl, ((Below.refl w.heap.size w).alloc (Nat.le_refl _) _).alloc (by simp) _⟩
    · rw [show Ward.meets ⟨pa, pb, pc, pd⟩ ⟨qa, qb, qc, qd⟩ = false by simp [Ward.meets, h1, h2]]
      go_enter Tryz.func78, Tryz.ntmps78
      go_wp2
      go_ret
      exact ⟨rfl, ((Below.refl w.heap.size w).alloc (Nat.le_refl _) _).alloc (by simp) _⟩
  · rw [show Ward.meets ⟨pa, pb, pc, pd⟩ ⟨qa, qb, qc, qd⟩ = false by simp [Ward.meets, h1]]
    go_enter Tryz.func78, Tryz.ntmps78
    go_wp2
    go_ret
    exact ⟨rfl, ((Below.refl w.heap.size w).alloc (Nat.le_refl _) _).alloc (by simp) _⟩
set_option maxHeartbeats 1000000 in
theorem windowOf_any (q : Ward.Qr) (w : World) :
    Calls Tryz.prog 73 #[Qv q] w fun e w' => e = .returned (Bx (Ward.window q)) ∧ Below w.heap.size w w' := by
  go_enter Tryz.func73, Tryz.ntmps73
  go_wp2
  refine bodyPost_ret (v := Bx (Ward.window q)) ?_ rfl ⟨rfl, ((Below.refl w.heap.size w).alloc (Nat.le_refl _) _).alloc (by simp) _⟩
  exact results_cell_row rfl _ _ (w.heap.size + 1) 88 _ (0, 0) _ rfl (heap_alloc2_new w _ _) Tryz.underlying88 rfl Tryz.infoBox
set_option maxHeartbeats 4000000 in
theorem boxMay_any (p : Ward.Box) (w : World) :
    Calls Tryz.prog 74 #[Bx p] w fun e w' => e = .returned (.bool (Ward.boxMay p)) ∧ Below w.heap.size w w' := by
  obtain ⟨pa, pb, pc, pd⟩ := p
  by_cases h1 : -1000000 ≤ pa ∧ pa ≤ 1000000
  · by_cases h2 : -1000000 ≤ pb ∧ pb ≤ 1000000
    · by_cases h3 : -1000000 ≤ pc ∧ pc ≤ 1000000
      · by_cases h4 : -1000000 ≤ pd ∧ pd ≤ 1000000
        · by_cases h5 : pa ≤ pc
          · by_cases h6 : pb ≤ pd
            · rw [show Ward.boxMay ⟨pa, pb, pc, pd⟩ = true by rw [Ward.boxMay, Ward.coord_yes h1, Ward.coord_yes h2, Ward.coord_yes h3, Ward.coord_yes h4, decide_eq_true h5, decide_eq_true h6]; rfl]
              have H1 := hide h1
              have H2 := hide h2
              have H3 := hide h3
              have H4 := hide h4
              clear h1 h2 h3 h4
              go_enter Tryz.func74, Tryz.ntmps74
              go_wp2_with (first | (go_at_call_of 32 (I pa); refine (isCoord_yes pa _ H1.out).mono ?_; rintro _ _ ⟨rfl, rfl⟩) | (go_at_call_of 32 (I pb); refine (isCoord_yes pb _ H2.out).mono ?_; rintro _ _ ⟨rfl, rfl⟩) | (go_at_call_of 32 (I pc); refine (isCoord_yes pc _ H3.out).mono ?_; rintro _ _ ⟨rfl, rfl⟩) | (go_at_call_of 32 (I pd); refine (isCoord_yes pd _ H4.out).mono ?_; rintro _ _ ⟨rfl, rfl⟩))
              go_ret
              exact ⟨rfl, (Below.refl w.heap.size w).alloc (Nat.le_refl _) _⟩
            · rw [show Ward.boxMay ⟨pa, pb, pc, pd⟩ = false by rw [Ward.boxMay, Ward.coord_yes h1, Ward.coord_yes h2, Ward.coord_yes h3, Ward.coord_yes h4, decide_eq_true h5, decide_eq_false h6]; rfl]
              have H1 := hide h1
              have H2 := hide h2
              have H3 := hide h3
              have H4 := hide h4
              clear h1 h2 h3 h4
              go_enter Tryz.func74, Tryz.ntmps74
              go_wp2_with (first | (go_at_call_of 32 (I pa); refine (isCoord_yes pa _ H1.out).mono ?_; rintro _ _ ⟨rfl, rfl⟩) | (go_at_call_of 32 (I pb); refine (isCoord_yes pb _ H2.out).mono ?_; rintro _ _ ⟨rfl, rfl⟩) | (go_at_call_of 32 (I pc); refine (isCoord_yes pc _ H3.out).mono ?_; rintro _ _ ⟨rfl, rfl⟩) | (go_at_call_of 32 (I pd); refine (isCoord_yes pd _ H4.out).mono ?_; rintro _ _ ⟨rfl, rfl⟩))
              go_ret
              exact ⟨congrArg (fun b => Ending.returned (Value.bool b)) (decide_eq_false (Int.not_le.2 h6)), (Below.refl w.heap.size w).alloc (Nat.le_refl _) _⟩
          · rw [show Ward.boxMay ⟨pa, pb, pc, pd⟩ = false by rw [Ward.boxMay, Ward.coord_yes h1, Ward.coord_yes h2, Ward.coord_yes h3, Ward.coord_yes h4, decide_eq_false h5]; rfl]
            have H1 := hide h1
            have H2 := hide h2
            have H3 := hide h3
            have H4 := hide h4
            clear h1 h2 h3 h4
            go_enter Tryz.func74, Tryz.ntmps74
            go_wp2_with (first | (go_at_call_of 32 (I pa); refine (isCoord_yes pa _ H1.out).mono ?_; rintro _ _ ⟨rfl, rfl⟩) | (go_at_call_of 32 (I pb); refine (isCoord_yes pb _ H2.out).mono ?_; rintro _ _ ⟨rfl, rfl⟩) | (go_at_call_of 32 (I pc); refine (isCoord_yes pc _ H3.out).mono ?_; rintro _ _ ⟨rfl, rfl⟩) | (go_at_call_of 32 (I pd); refine (isCoord_yes pd _ H4.out).mono ?_; rintro _ _ ⟨rfl, rfl⟩))
            go_ret
            exact ⟨rfl, (Below.refl w.heap.size w).alloc (Nat.le_refl _) _⟩
        · rw [show Ward.boxMay ⟨pa, pb, pc, pd⟩ = false by rw [Ward.boxMay, Ward.coord_yes h1, Ward.coord_yes h2, Ward.coord_yes h3, Ward.coord_no h4]; rfl]
          have H1 := hide h1
          have H2 := hide h2
          have H3 := hide h3
          have H4 := hide h4
          clear h1 h2 h3 h4
          go_enter Tryz.func74, Tryz.ntmps74
          go_wp2_with (first | (go_at_call_of 32 (I pa); refine (isCoord_yes pa _ H1.out).mono ?_; rintro _ _ ⟨rfl, rfl⟩) | (go_at_call_of 32 (I pb); refine (isCoord_yes pb _ H2.out).mono ?_; rintro _ _ ⟨rfl, rfl⟩) | (go_at_call_of 32 (I pc); refine (isCoord_yes pc _ H3.out).mono ?_; rintro _ _ ⟨rfl, rfl⟩) | (go_at_call_of 32 (I pd); refine (isCoord_no pd _ H4.out).mono ?_; rintro _ _ ⟨rfl, rfl⟩))
          go_ret
          exact ⟨rfl, (Below.refl w.heap.size w).alloc (Nat.le_refl _) _⟩
      · rw [show Ward.boxMay ⟨pa, pb, pc, pd⟩ = false by rw [Ward.boxMay, Ward.coord_yes h1, Ward.coord_yes h2, Ward.coord_no h3]; rfl]
        have H1 := hide h1
        have H2 := hide h2
        have H3 := hide h3
        clear h1 h2 h3
        go_enter Tryz.func74, Tryz.ntmps74
        go_wp2_with (first | (go_at_call_of 32 (I pa); refine (isCoord_yes pa _ H1.out).mono ?_; rintro _ _ ⟨rfl, rfl⟩) | (go_at_call_of 32 (I pb); refine (isCoord_yes pb _ H2.out).mono ?_; rintro _ _ ⟨rfl, rfl⟩) | (go_at_call_of 32 (I pc); refine (isCoord_no pc _ H3.out).mono ?_; rintro _ _ ⟨rfl, rfl⟩))
        go_ret
        exact ⟨rfl, (Below.refl w.heap.size w).alloc (Nat.le_refl _) _⟩
    · rw [show Ward.boxMay ⟨pa, pb, pc, pd⟩ = false by rw [Ward.boxMay, Ward.coord_yes h1, Ward.coord_no h2]; rfl]
      have H1 := hide h1
      have H2 := hide h2
      clear h1 h2
      go_enter Tryz.func74, Tryz.ntmps74
      go_wp2_with (first | (go_at_call_of 32 (I pa); refine (isCoord_yes pa _ H1.out).mono ?_; rintro _ _ ⟨rfl, rfl⟩) | (go_at_call_of 32 (I pb); refine (isCoord_no pb _ H2.out).mono ?_; rintro _ _ ⟨rfl, rfl⟩))
      go_ret
      exact ⟨rfl, (Below.refl w.heap.size w).alloc (Nat.le_refl _) _⟩
  · rw [show Ward.boxMay ⟨pa, pb, pc, pd⟩ = false by rw [Ward.boxMay, Ward.coord_no h1]; rfl]
    have H1 := hide h1
    clear h1
    go_enter Tryz.func74, Tryz.ntmps74
    go_wp2_with (first | (go_at_call_of 32 (I pa); refine (isCoord_no pa _ H1.out).mono ?_; rintro _ _ ⟨rfl, rfl⟩))
    go_ret
    exact ⟨rfl, (Below.refl w.heap.size w).alloc (Nat.le_refl _) _⟩
set_option maxHeartbeats 4000000 in
theorem mayBe_any (q : Ward.Qr) (w : World) :
    Calls Tryz.prog 39 #[Qv q] w fun e w' => e = .returned (.bool (Ward.mayBe q)) ∧ Below w.heap.size w w' := by
  by_cases hk : q.kind = 0
  · rw [show Ward.mayBe q = Ward.boxMay (Ward.window q) by simp [Ward.mayBe, hk]]
    obtain ⟨qk, qa, qb, qc, qd, qx, qy, qn⟩ := q
    simp only at hk
    subst hk
    generalize hW : Ward.window ⟨0, qa, qb, qc, qd, qx, qy, qn⟩ = W
    have HW := hide hW
    clear hW
    go_enter Tryz.func39, Tryz.ntmps39
    go_wp2_with fail
    refine (windowOf_any ⟨0, qa, qb, qc, qd, qx, qy, qn⟩ _).mono ?_
    rintro _ w1 ⟨rfl, hb1⟩
    rw [HW.out]
    have HB1 := hide hb1
    clear hb1
    go_wp2_with fail
    refine (boxMay_any W _).mono ?_
    rintro _ w2 ⟨rfl, hb2⟩
    have HB2 := hide hb2
    clear hb2
    go_wp2
    go_ret
    have h1 : Below w.heap.size w w1 := ((Below.refl w.heap.size w).alloc (Nat.le_refl _) _).trans (HB1.out.mono (by simp))
    exact ⟨rfl, h1.trans (HB2.out.mono h1.size)⟩
  · by_cases hk1 : q.kind = 1
    · obtain ⟨qk, qa, qb, qc, qd, qx, qy, qn⟩ := q
      simp only at hk hk1
      subst hk1
      clear hk
      by_cases h1 : -1000000 ≤ qx ∧ qx ≤ 1000000
      · by_cases h2 : -1000000 ≤ qy ∧ qy ≤ 1000000
        · by_cases h3 : 1 ≤ qn
          · by_cases h4 : qn ≤ 20
            · rw [show Ward.mayBe ⟨1, qa, qb, qc, qd, qx, qy, qn⟩ = true by rw [Ward.mayBe, if_neg (show ¬ (1 : Int) = 0 by decide), if_pos rfl]; rw [Ward.coord_yes h1, Ward.coord_yes h2, decide_eq_true h3, decide_eq_true h4]; rfl]
              have H1 := hide h1
              have H2 := hide h2
              clear h1 h2
              go_enter Tryz.func39, Tryz.ntmps39
              go_wp2_with (first | (go_at_call_of 32 (I qx); refine (isCoord_yes qx _ H1.out).mono ?_; rintro _ _ ⟨rfl, rfl⟩) | (go_at_call_of 32 (I qy); refine (isCoord_yes qy _ H2.out).mono ?_; rintro _ _ ⟨rfl, rfl⟩))
              go_ret
              exact ⟨rfl, (Below.refl w.heap.size w).alloc (Nat.le_refl _) _⟩
            · rw [show Ward.mayBe ⟨1, qa, qb, qc, qd, qx, qy, qn⟩ = false by rw [Ward.mayBe, if_neg (show ¬ (1 : Int) = 0 by decide), if_pos rfl]; rw [Ward.coord_yes h1, Ward.coord_yes h2, decide_eq_true h3, decide_eq_false h4]; rfl]
              have H1 := hide h1
              have H2 := hide h2
              clear h1 h2
              go_enter Tryz.func39, Tryz.ntmps39
              go_wp2_with (first | (go_at_call_of 32 (I qx); refine (isCoord_yes qx _ H1.out).mono ?_; rintro _ _ ⟨rfl, rfl⟩) | (go_at_call_of 32 (I qy); refine (isCoord_yes qy _ H2.out).mono ?_; rintro _ _ ⟨rfl, rfl⟩))
              go_ret
              exact ⟨congrArg (fun b => Ending.returned (Value.bool b)) (decide_eq_false (Int.not_le.2 h4)), (Below.refl w.heap.size w).alloc (Nat.le_refl _) _⟩
          · rw [show Ward.mayBe ⟨1, qa, qb, qc, qd, qx, qy, qn⟩ = false by rw [Ward.mayBe, if_neg (show ¬ (1 : Int) = 0 by decide), if_pos rfl]; rw [Ward.coord_yes h1, Ward.coord_yes h2, decide_eq_false h3]; rfl]
            have H1 := hide h1
            have H2 := hide h2
            clear h1 h2
            go_enter Tryz.func39, Tryz.ntmps39
            go_wp2_with (first | (go_at_call_of 32 (I qx); refine (isCoord_yes qx _ H1.out).mono ?_; rintro _ _ ⟨rfl, rfl⟩) | (go_at_call_of 32 (I qy); refine (isCoord_yes qy _ H2.out).mono ?_; rintro _ _ ⟨rfl, rfl⟩))
            go_ret
            exact ⟨rfl, (Below.refl w.heap.size w).alloc (Nat.le_refl _) _⟩
        · rw [show Ward.mayBe ⟨1, qa, qb, qc, qd, qx, qy, qn⟩ = false by rw [Ward.mayBe, if_neg (show ¬ (1 : Int) = 0 by decide), if_pos rfl]; rw [Ward.coord_yes h1, Ward.coord_no h2]; rfl]
          have H1 := hide h1
          have H2 := hide h2
          clear h1 h2
          go_enter Tryz.func39, Tryz.ntmps39
          go_wp2_with (first | (go_at_call_of 32 (I qx); refine (isCoord_yes qx _ H1.out).mono ?_; rintro _ _ ⟨rfl, rfl⟩) | (go_at_call_of 32 (I qy); refine (isCoord_no qy _ H2.out).mono ?_; rintro _ _ ⟨rfl, rfl⟩))
          go_ret
          exact ⟨rfl, (Below.refl w.heap.size w).alloc (Nat.le_refl _) _⟩
      · rw [show Ward.mayBe ⟨1, qa, qb, qc, qd, qx, qy, qn⟩ = false by rw [Ward.mayBe, if_neg (show ¬ (1 : Int) = 0 by decide), if_pos rfl]; rw [Ward.coord_no h1]; rfl]
        have H1 := hide h1
        clear h1
        go_enter Tryz.func39, Tryz.ntmps39
        go_wp2_with (first | (go_at_call_of 32 (I qx); refine (isCoord_no qx _ H1.out).mono ?_; rintro _ _ ⟨rfl, rfl⟩))
        go_ret
        exact ⟨rfl, (Below.refl w.heap.size w).alloc (Nat.le_refl _) _⟩
    · rw [show Ward.mayBe q = false by simp [Ward.mayBe, hk, hk1]]
      go_enter Tryz.func39, Tryz.ntmps39
      go_wp2
      go_ret
      exact ⟨rfl, (Below.refl w.heap.size w).alloc (Nat.le_refl _) _⟩
end Go.Proofs.YtenaelkbgkpllaaGreatDoor
/- What the boxes of a tree hold; the points of a window by the boxes; the nodes as what stands below them makes them. -/
namespace Go.Proofs.YtenaelkbgkpllaaGreatDoor
namespace Ward
theorem has_refl (b : Box) : b.has b := ⟨Int.le_refl _, Int.le_refl _, Int.le_refl _, Int.le_refl _⟩
theorem has_trans {a b c : Box} (h : a.has b) (k : b.has c) : a.has c := by
  obtain ⟨_, _, _, _⟩ := h
  obtain ⟨_, _, _, _⟩ := k
  exact ⟨by omega, by omega, by omega, by omega⟩
theorem join_left (a b : Box) : (join a b).has a := by
  refine ⟨?_, ?_, ?_, ?_⟩ <;> simp only [join] <;> omega
theorem join_right (a b : Box) : (join a b).has b := by
  refine ⟨?_, ?_, ?_, ?_⟩ <;> simp only [join] <;> omega
theorem fold_has_start : ∀ (l : List Box) (b : Box), (l.foldl join b).has b
  | [], b => has_refl b
  | c :: l, b => has_trans (fold_has_start l (join b c)) (join_left b c)
theorem fold_has : ∀ (l : List Box) (b : Box), ∀ c ∈ l, (l.foldl join b).has c
  | d :: l, b, c, hc => by
    rcases List.mem_cons.1 hc with rfl | hc
    · exact has_trans (fold_has_start l (join b c)) (join_right b c)
    · exact fold_has l (join b d) c hc
theorem boxL_has {l : List Box} {c : Box} (h : c ∈ l) : (boxL l).has c := fold_has l _ c h
theorem meets_mono {a b c : Box} (h : b.has c) (hm : meets a c = true) : meets a b = true := by
  obtain ⟨h1, h2, h3, h4⟩ := h
  simp only [meets, Bool.and_eq_true, decide_eq_true_eq] at hm ⊢
  omega
theorem all_mk (dig : List UInt8 → List UInt8) : ∀ (n : Nat) (t : T n), allN (n + 1) (mk dig n t) = pts n t
  | 0, l => by simp [allN, mk, pts]
  | n + 1, cs => by
    show [] ++ List.flatMap (allN (n + 1)) (List.map (mk dig n) cs) = List.flatMap (pts n) cs
    rw [List.nil_append, List.flatMap_map]
    exact flatMap_congr fun c _ => all_mk dig n c
theorem box_has : ∀ (n : Nat) (t : T n), ∀ p ∈ pts n t, (box n t).has (boxOf p)
  | 0, l, p, hp => boxL_has (List.mem_map_of_mem hp)
  | n + 1, cs, p, hp => by
    obtain ⟨c, hc, hp⟩ := List.mem_flatMap.1 hp
    exact has_trans (boxL_has (List.mem_map_of_mem hc)) (box_has n c p hp)
theorem encl_mk (dig : List UInt8 → List UInt8) : ∀ (n : Nat) (t : T n), Encl (n + 1) (mk dig n t)
  | 0, l => ⟨fun p hp => box_has 0 l p hp, fun c hc => by simp [mk] at hc⟩
  | n + 1, cs => by
    refine ⟨fun p hp => by simp [mk] at hp, fun c hc => ?_⟩
    obtain ⟨t, _, rfl⟩ := List.mem_map.1 (show c ∈ List.map (mk dig n) cs from hc)
    exact ⟨fun p hp => by rw [all_mk] at hp; rw [mk_box]; exact box_has n t p hp, encl_mk dig n t⟩
theorem filter_none {b : Box} {c : Box} {l : List Pt} (h : ∀ p ∈ l, c.has (boxOf p)) (hm : meets b c = false) : l.filter (inB b) = [] := by
  rw [List.filter_eq_nil_iff]
  intro p hp he
  have := meets_mono (h p hp) he
  rw [hm] at this
  cases this
theorem filter_flatMap {α : Type} (f : α → List Pt) (P : Pt → Bool) : ∀ (l : List α), (l.flatMap f).filter P = l.flatMap fun x => (f x).filter P
  | [] => rfl
  | x :: l => by rw [List.flatMap_cons, List.filter_append, filter_flatMap f P l, List.flatMap_cons]
/-- by the boxes no point of a window is passed by -/
theorem within_all {b : Box} : ∀ (n : Nat) (t : NT n), Encl n t → withinN b n t = (allN n t).filter (inB b)
  | 0, t, _ => nomatch t
  | n + 1, t, h => by
    show (Nd.pts t).filter (inB b) ++ ((Nd.kids t).flatMap fun c => if meets b (boxN n c) then withinN b n c else []) = (Nd.pts t ++ (Nd.kids t).flatMap (allN n)).filter (inB b)
    rw [List.filter_append, filter_flatMap]
    congr 1
    refine flatMap_congr fun c hc => ?_
    obtain ⟨h1, h2⟩ := h.2 c hc
    by_cases hm : meets b (boxN n c) = true
    · rw [if_pos hm, within_all n c h2]
    · have hm' : meets b (boxN n c) = false := by simpa using hm
      rw [if_neg hm, filter_none h1 hm']
theorem tree_encl (dig : List UInt8 → List UInt8) (L : List Pt) : Encl ((tree L).1 + 1) (mk dig (tree L).1 (tree L).2) := encl_mk dig _ _
theorem tree_all (dig : List UInt8 → List UInt8) {L : List Pt} (h : ∀ p ∈ L, p.Ok) : allN ((tree L).1 + 1) (mk dig (tree L).1 (tree L).2) = L := by
  rw [all_mk, (tree_small h).2]
/-- how many points lie below -/
theorem within_le (b : Box) : ∀ (n : Nat) (t : NT n), (withinN b n t).length ≤ (allN n t).length
  | 0, t => nomatch t
  | n + 1, t => by
    have key : ∀ (l : List (NT n)), (l.flatMap fun c => if meets b (boxN n c) then withinN b n c else []).length ≤ (l.flatMap (allN n)).length := by
      intro l
      induction l with
      | nil => simp
      | cons c l ih =>
        rw [List.flatMap_cons, List.flatMap_cons, List.length_append, List.length_append]
        have := within_le b n c
        have h1 : (if meets b (boxN n c) then withinN b n c else []).length ≤ (allN n c).length := by
          split
          · exact this
          · exact Nat.zero_le _
        omega
    show ((Nd.pts t).filter _ ++ ((Nd.kids t).flatMap fun c => if meets b (boxN n c) then withinN b n c else [])).length ≤ (Nd.pts t ++ (Nd.kids t).flatMap (allN n)).length
    rw [List.length_append, List.length_append]
    have h1 := List.length_filter_le (fun p => meets b (boxOf p)) (Nd.pts t)
    have h2 := key (Nd.kids t)
    omega
/-- at most four of each kind below every node -/
def Few : (n : Nat) → NT n → Prop
  | 0, t => nomatch t
  | n + 1, t => (Nd.pts t).length ≤ 4 ∧ (Nd.kids t).length ≤ 4 ∧ ∀ c ∈ Nd.kids t, Few n c
theorem few_mk (dig : List UInt8 → List UInt8) : ∀ (n : Nat) (t : T n), Small n t → Few (n + 1) (mk dig n t)
  | 0, _, h => ⟨h.1, by simp [mk], fun c hc => by simp [mk] at hc⟩
  | n + 1, cs, h => by
    refine ⟨by simp [mk], by show (List.map (mk dig n) cs).length ≤ 4; rw [List.length_map]; exact h.1, fun c hc => ?_⟩
    obtain ⟨t, ht, rfl⟩ := List.mem_map.1 (show c ∈ List.map (mk dig n) cs from hc)
    exact few_mk dig n t (h.2 t ht)
/-- what is said of the boxes of children lies within bounds -/
def InN : (n : Nat) → NT n → Prop
  | 0, t => nomatch t
  | n + 1, t => ∀ c ∈ Nd.kids t, (boxN n c).In ∧ InN n c
theorem in_mk (dig : List UInt8 → List UInt8) : ∀ (n : Nat) (t : T n), Small n t → InN (n + 1) (mk dig n t)
  | 0, _, _ => fun c hc => by simp [mk] at hc
  | n + 1, cs, h => fun c hc => by
    obtain ⟨t, ht, rfl⟩ := List.mem_map.1 (show c ∈ List.map (mk dig n) cs from hc)
    exact ⟨by rw [mk_box]; exact box_in n t (h.2 t ht), in_mk dig n t (h.2 t ht)⟩
end Ward
end Go.Proofs.YtenaelkbgkpllaaGreatDoor
