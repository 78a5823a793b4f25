/- A node as what stands right below it makes it. -/
import Derived.Test.YtenaelkbgkpllaaGreatDoorVerified18
import Derived.Test.YtenaelkbgkpllaaGreatDoorVerified14
import Derived.Test.YtenaelkbgkpllaaGreatDoorVerified15
import Derived.Test.YtenaelkbgkpllaaGreatDoorVerified10
import Derived.Shelf.SlSortCmp.WholeK
import Derived.Test.YtenaelkbgkpllaaGreatDoorRows
import Derived.Shelf.SlSortCmp.NoneTotal
namespace Go.Proofs.YtenaelkbgkpllaaGreatDoor
open Go.RowKit

theorem leaf_made {w w' : World} {S : Nat → Prop} {vp : Value} {L : List Ward.Pt} (n : Nat) (h : ReadsS w S vp L) (hb : Below w.heap.size w w') (hS : ∀ g, S g → g < w.heap.size) :
    NodeIs w' S (n + 1) (⟨L, [], Ward.boxL (L.map Ward.boxOf), (L.length : Nat), Sha.sha (Ward.leafText L)⟩ : Ward.NT (n + 1)) (nodeV vp (.slice none 0 0) (Ward.box 0 L) L.length ((Sha.sha (Ward.leafText L)).map Y)) :=
  ⟨vp, .slice none 0 0, rfl, sha_len _, h.keep (below_same hb hS) (fun _ h => h), none, 0, rfl, fun e => absurd rfl e⟩
theorem node_made {w w' : World} {S : Nat → Prop} {vc : Value} (n : Nat) {K : List (Ward.NT n)} (h : RowsAt (NodeIs w S n) w S vc K) (hb : Below w.heap.size w w') (hS : ∀ g, S g → g < w.heap.size) :
    NodeIs w' S (n + 1) (⟨[], K, Ward.boxL (K.map (Ward.boxN n)), (K.map (Ward.numN n)).sum, Sha.sha (Ward.textK n K)⟩ : Ward.NT (n + 1)) (nodeV (.slice none 0 0) vc (Ward.boxL (K.map (Ward.boxN n))) ((K.map (Ward.numN n)).sum) ((Sha.sha (Ward.textK n K)).map Y)) :=
  ⟨.slice none 0 0, vc, rfl, sha_len _, ⟨none, 0, rfl, fun e => absurd rfl e⟩, h.keep (below_same hb hS) (fun _ h => h) (NodeIs.keep (below_same hb hS) (fun _ h => h) n)⟩
set_option maxRecDepth 100000 in
set_option maxHeartbeats 4000000 in
theorem made_any (n : Nat) (t : Ward.NT (n + 1)) (V : List Value) (w : World) (S : Nat → Prop) (hS : ∀ g, S g → g < w.heap.size) (hN : NodeIs w S (n + 1) t V) (hfew : Ward.Few (n + 1) t) (hnum : ∀ c ∈ Ward.Nd.kids t, 0 ≤ Ward.numN n c ∧ Ward.numN n c ≤ 1000000) (hK : KT w) :
    Calls Tryz.prog 83 #[.agg V.toArray] w fun e w' => ∃ V', e = .returned (.agg V'.toArray) ∧ NodeIs w' S (n + 1) (Ward.madeN (n + 1) t) V' ∧ Below w.heap.size w w' := by
  obtain ⟨vp, vc, hV, -, hp, hk⟩ := hN
  obtain ⟨ac, cc, evc, hkr⟩ := hk
  obtain ⟨ap, cp, evp, hpr⟩ := hp
  have hp4 : (Ward.Nd.pts t).length ≤ 4 := hfew.1
  have hk4 : (Ward.Nd.kids t).length ≤ 4 := hfew.2.1
  have HP := hide (show ReadsS w S vp (Ward.Nd.pts t) from ⟨ap, cp, evp, hpr⟩)
  have HKD := hide (show RowsAt (NodeIs w S n) w S vc (Ward.Nd.kids t) from ⟨ac, cc, evc, hkr⟩)
  have hv0 : V[0]? = some vp := by rw [hV]; rfl
  have hv1 : V[1]? = some vc := by rw [hV]; rfl
  have HLF := hide (fun (W : World) (hb : Below w.heap.size w W) => leafOf_any vp (Ward.Nd.pts t) W hp4 ((HP.out.keep (below_same hb hS) (fun _ h => h)).low (fun g hg => Nat.lt_of_lt_of_le (hS g hg) hb.size)) (hK.below hb))
  have HND := hide (fun (W : World) (hb : Below w.heap.size w W) (h0 : Ward.Nd.kids t ≠ []) => nodeOf_any vc n (Ward.Nd.kids t) W S (fun g hg => Nat.lt_of_lt_of_le (hS g hg) hb.size) h0 hk4 (HKD.out.keep (below_same hb hS) (fun _ h => h) (NodeIs.keep (below_same hb hS) (fun _ h => h) n)) hnum (hK.below hb))
  obtain ⟨fs, hu⟩ := underNode
  have HU := hide hu
  have HS := hide hS
  have hb1' := fun o o' => ((Below.refl w.heap.size w).alloc (Nat.le_refl _) o).alloc (by simp) o'
  have hr1' := heap_alloc2_old w
  have hr2' := heap_alloc2_new w
  have hs1' := fun o o' => show ((w.alloc o).alloc o').heap.size = w.heap.size + 2 by simp
  have HMD := hide (show Ward.madeN (n + 1) t = if (Ward.Nd.kids t).length = 0 then ⟨Ward.Nd.pts t, [], Ward.boxL ((Ward.Nd.pts t).map Ward.boxOf), ((Ward.Nd.pts t).length : Nat), Sha.sha (Ward.leafText (Ward.Nd.pts t))⟩ else ⟨[], Ward.Nd.kids t, Ward.boxL ((Ward.Nd.kids t).map (Ward.boxN n)), ((Ward.Nd.kids t).map (Ward.numN n)).sum, Sha.sha (Ward.textK n (Ward.Nd.kids t))⟩ from rfl)
  clear hV hfew hnum hK hu hS hkr hpr
  subst evp evc
  go_enter Tryz.func83, Tryz.ntmps83
  go_upto_region 1 with fail
  generalize hW : World.alloc (World.alloc w _) _ = w1
  have hb1 : Below w.heap.size w w1 := by rw [← hW]; exact hb1' _ _
  have hr1 : w1.heap[w.heap.size]? = some (.cells V.toArray 90 (0, 0)) := by rw [← hW]; exact hr1' _ _
  have hr2 : ∃ Z : Array Value, Z.size = 39 ∧ w1.heap[w.heap.size + 1]? = some (.cells Z 90 (0, 0)) := by rw [← hW]; exact ⟨_, rfl, hr2' _ _⟩
  have hs1 : w.heap.size + 2 ≤ w1.heap.size := by rw [← hW, hs1']; exact Nat.le_refl _
  clear hb1' hr1' hr2' hs1' hW
  obtain ⟨Z, hZ, hr2⟩ := hr2
  have c0 : w1.cell? ⟨w.heap.size, 0, none⟩ = some (.slice ap (Ward.Nd.pts t).length cp) := by rw [cell_of_row _ _ _ _ _ _ hr1, List.getElem?_toArray]; exact hv0
  have c1 : w1.cell? ⟨w.heap.size, 1, none⟩ = some (.slice ac (Ward.Nd.kids t).length cc) := by rw [cell_of_row _ _ _ _ _ _ hr1, List.getElem?_toArray]; exact hv1
  have HB1 := hide hb1
  have HZ := hide hZ
  have HR2 := hide hr2
  clear hb1 hr1 hr2 hZ hv0 hv1
  by_cases h0 : (Ward.Nd.kids t).length = 0
  · rw [if_pos h0] at HMD
    have HX := hide (HLF.out w1 HB1.out)
    have HROW := hide (show Row39 (nodeV (.slice ap (Ward.Nd.pts t).length cp) (.slice none 0 0) (Ward.box 0 (Ward.Nd.pts t)) (Ward.Nd.pts t).length ((Sha.sha (Ward.leafText (Ward.Nd.pts t))).map Y)) from nodeV_row (sha_len _))
    have HRES := hide (fun (W : World) (hb : Below w.heap.size w W) => leaf_made n HP.out hb HS.out)
    generalize nodeV (.slice ap (Ward.Nd.pts t).length cp) (.slice none 0 0) (Ward.box 0 (Ward.Nd.pts t)) (Ward.Nd.pts t).length ((Sha.sha (Ward.leafText (Ward.Nd.pts t))).map Y) = R at *
    go_wp2_with fail
    refine HX.out.mono ?_
    rintro _ w2 ⟨rfl, hb2⟩
    have HB2 := hide (HB1.out.trans (hb2.mono (by omega)))
    have HZ2 := hide ((hb2.block (w.heap.size + 1) (by omega)).trans HR2.out)
    clear hb2
    go_wp2_with (refine wpList_store_row rfl 90 (.tmp 2) (.tmp 9) rfl (w.heap.size + 1) R.toArray rfl rfl 90 _ HZ2.out HROW.out.info (by rw [HROW.out.size, HZ.out]) HROW.out.one ?_)
    refine bodyPost_ret (v := .agg R.toArray) (results_cell_row rfl _ _ (w.heap.size + 1) 90 R.toArray (0, 0) (.struct fs) rfl (setRow_heap _ _ _ _ _ _ HZ2.out) HU.out rfl HROW.out.info) rfl ⟨R, rfl, ?_, below_setRow HB2.out (by omega) _⟩
    rw [HMD.out]
    exact HRES.out _ (below_setRow HB2.out (by omega) _)
  · rw [if_neg h0] at HMD
    have HX := hide (HND.out w1 HB1.out (fun e => h0 (by rw [e]; rfl)))
    have HROW := hide (show Row39 (nodeV (.slice none 0 0) (.slice ac (Ward.Nd.kids t).length cc) (Ward.boxL ((Ward.Nd.kids t).map (Ward.boxN n))) (((Ward.Nd.kids t).map (Ward.numN n)).sum) ((Sha.sha (Ward.textK n (Ward.Nd.kids t))).map Y)) from nodeV_row (sha_len _))
    have HRES := hide (fun (W : World) (hb : Below w.heap.size w W) => node_made n HKD.out hb HS.out)
    generalize nodeV (.slice none 0 0) (.slice ac (Ward.Nd.kids t).length cc) (Ward.boxL ((Ward.Nd.kids t).map (Ward.boxN n))) (((Ward.Nd.kids t).map (Ward.numN n)).sum) ((Sha.sha (Ward.textK n (Ward.Nd.kids t))).map Y) = R at *
    go_wp2_with fail
    refine HX.out.mono ?_
    rintro _ w2 ⟨rfl, hb2⟩
    have HB2 := hide (HB1.out.trans (hb2.mono (by omega)))
    have HZ2 := hide ((hb2.block (w.heap.size + 1) (by omega)).trans HR2.out)
    clear hb2
    go_wp2_with (refine wpList_store_row rfl 90 (.tmp 2) (.tmp 12) rfl (w.heap.size + 1) R.toArray rfl rfl 90 _ HZ2.out HROW.out.info (by rw [HROW.out.size, HZ.out]) HROW.out.one ?_)
    refine bodyPost_ret (v := .agg R.toArray) (results_cell_row rfl _ _ (w.heap.size + 1) 90 R.toArray (0, 0) (.struct fs) rfl (setRow_heap _ _ _ _ _ _ HZ2.out) HU.out rfl HROW.out.info) rfl ⟨R, rfl, ?_, below_setRow HB2.out (by omega) _⟩
    rw [HMD.out]
    exact HRES.out _ (below_setRow HB2.out (by omega) _)
end Go.Proofs.YtenaelkbgkpllaaGreatDoor
/- The boxes of a child that is hidden. -/
namespace Go.Proofs.YtenaelkbgkpllaaGreatDoor
open Go.RowKit

set_option maxRecDepth 100000 in
set_option maxHeartbeats 4000000 in
theorem boxHold_hidden (n : Nat) (t : Ward.NT n) (V : List Value) (w : World) (S : Nat → Prop) (hS : ∀ g, S g → g < w.heap.size) (hN : NodeIs w S n t V) (hfew : Ward.Few n t) (hs : Ward.shownN n t = false) :
    Calls Tryz.prog 85 #[.agg V.toArray] w fun e w' => e = .returned (.bool (Ward.boxHolds n t)) ∧ Below w.heap.size w w' := by
  have HE := hide (show Ward.boxHolds n t = true by unfold Ward.boxHolds; rw [hs]; rfl)
  rw [HE.out]
  have HX := hide (fun (W : World) (hb : Below w.heap.size w W) => isShown_any n t V W S (NodeIs.keep (below_same hb hS) (fun _ h => h) n t V hN) hfew)
  rw [hs] at HX
  obtain ⟨fs, hu⟩ := underNode
  have HU := hide hu
  obtain ⟨a1, l1, c1, a2, l2, c2, hV, hd⟩ := hN.cells
  have HR := hide (show Row39 V by rw [hV]; exact nodeV_row hd)
  have hb1' := fun o => (Below.refl w.heap.size w).alloc (Nat.le_refl _) o
  have hr1' := heap_alloc_new w
  clear hN hfew hs hS hu hV hd HE
  go_enter Tryz.func85, Tryz.ntmps85
  go_upto_region 1 with fail
  generalize hW : World.alloc w _ = w1
  have hb1 : Below w.heap.size w w1 := by rw [← hW]; exact hb1' _
  have hr1 : w1.heap[w.heap.size]? = some (.cells V.toArray 90 (0, 0)) := by rw [← hW]; exact hr1' _
  clear hb1' hr1' hW
  have hs1 := hb1.size
  have HN1 := hide hr1
  have HB1 := hide hb1
  have HXX := hide (HX.out w1 hb1)
  clear hb1 hr1
  go_wp2_with (refine wpList_load_row rfl 90 (.tmp 1) rfl w.heap.size rfl 90 V.toArray (0, 0) (.struct fs) HN1.out HU.out rfl HR.out.info ?_)
  refine HXX.out.mono ?_
  rintro _ w2 ⟨rfl, hb2⟩
  have HB2 := hide (HB1.out.trans (hb2.mono hs1))
  clear hb2
  go_wp2_with fail
  go_ret
  exact ⟨rfl, HB2.out⟩
end Go.Proofs.YtenaelkbgkpllaaGreatDoor
/- Two boxes held against each other. -/
namespace Go.Proofs.YtenaelkbgkpllaaGreatDoor
open Go.RowKit

theorem eqBox (b c : Ward.Box) (W : World) : (Op.equalIn 10000 88 (.agg #[I b.a, I b.b, I b.c, I b.d]) (.agg #[I c.a, I c.b, I c.c, I c.d])).run Tryz.prog W = .ok (Ward.boxEq b c) W := by
  have u3 := Tryz.underlying3
  have a3 := Tryz.isAgg3
  have z3 := Tryz.sizeOf3
  have hS : Tryz.prog.underlying 88 = some (.struct (Tryz.prog.fieldsOf 88)) := by kernel_rfl
  have hp : Tryz.prog.stoodInHeld 88 = false := by kernel_rfl
  rw [show (10000 : Nat) = 9999 + 1 from rfl, run_equalIn_agg W 9999 88 _ _ hS hp]
  simp only [Program.fieldsOf, Tryz.underlying88]
  go_simp
  unfold Ward.boxEq
  by_cases h1 : b.a = c.a <;> by_cases h2 : b.b = c.b <;> by_cases h3 : b.c = c.c <;> by_cases h4 : b.d = c.d <;> simp [h1, h2, h3, h4]
end Go.Proofs.YtenaelkbgkpllaaGreatDoor
/- The boxes of a child that is shown. -/
namespace Go.Proofs.YtenaelkbgkpllaaGreatDoor
open Go.RowKit

/-- the box and the number, as they lie in a node's row -/
theorem box_cells {w : World} {g n : Nat} {t : Ward.NT n} {V : List Value} {W : World} {S : Nat → Prop} (hN : NodeIs W S n t V) (hr : w.heap[g]? = some (.cells V.toArray 90 (0, 0))) : w.cell? ⟨g, 2, none⟩ = some (I (Ward.boxN n t).a) ∧ w.cell? ⟨g, 3, none⟩ = some (I (Ward.boxN n t).b) ∧ w.cell? ⟨g, 4, none⟩ = some (I (Ward.boxN n t).c) ∧ w.cell? ⟨g, 5, none⟩ = some (I (Ward.boxN n t).d) ∧ w.cell? ⟨g, 6, none⟩ = some (I (Ward.numN n t)) := by
  obtain ⟨a1, l1, c1, a2, l2, c2, hV, hd⟩ := hN.cells
  subst hV
  refine ⟨?_, ?_, ?_, ?_, ?_⟩ <;> (rw [cell_of_row _ _ _ _ _ _ hr, List.getElem?_toArray]; rfl)
set_option maxRecDepth 100000 in
set_option maxHeartbeats 4000000 in
theorem boxHold_shown (n : Nat) (t : Ward.NT (n + 1)) (V : List Value) (w : World) (S : Nat → Prop) (hS : ∀ g, S g → g < w.heap.size) (hN : NodeIs w S (n + 1) t V) (hfew : Ward.Few (n + 1) t) (hnum : ∀ c ∈ Ward.Nd.kids t, 0 ≤ Ward.numN n c ∧ Ward.numN n c ≤ 1000000) (hK : KT w) (hs : Ward.shownN (n + 1) t = true) :
    Calls Tryz.prog 85 #[.agg V.toArray] w fun e w' => e = .returned (.bool (Ward.boxHolds (n + 1) t)) ∧ Below w.heap.size w w' := by
  have HE := hide (show Ward.boxHolds (n + 1) t = (Ward.boxEq (Ward.boxN (n + 1) t) (Ward.boxN (n + 1) (Ward.madeN (n + 1) t)) && decide (Ward.numN (n + 1) t = Ward.numN (n + 1) (Ward.madeN (n + 1) t))) by unfold Ward.boxHolds; rw [hs]; rfl)
  rw [HE.out]
  have HNK := hide (fun (W : World) (hb : Below w.heap.size w W) => NodeIs.keep (S' := S) (below_same hb hS) (fun _ h => h) (n + 1) t V hN)
  have HX := hide (fun (W : World) (hb : Below w.heap.size w W) => isShown_any (n + 1) t V W S (HNK.out W hb) hfew)
  rw [hs] at HX
  have HMD := hide (fun (W : World) (hb : Below w.heap.size w W) => made_any n t V W S (fun g hg => Nat.lt_of_lt_of_le (hS g hg) hb.size) (HNK.out W hb) hfew hnum (hK.below hb))
  generalize hmt : Ward.madeN (n + 1) t = mt at *
  obtain ⟨fs, hu⟩ := underNode
  have HU := hide hu
  obtain ⟨a1, l1, c1, a2, l2, c2, hV, hd⟩ := hN.cells
  have HR := hide (show Row39 V by rw [hV]; exact nodeV_row hd)
  have HN := hide hN
  have hb1' := fun o => (Below.refl w.heap.size w).alloc (Nat.le_refl _) o
  have hr1' := heap_alloc_new w
  clear hN hfew hs hS hu hV hd HE hmt hnum hK
  go_enter Tryz.func85, Tryz.ntmps85
  go_upto_region 1 with fail
  generalize hW : World.alloc w _ = w1
  have hb1 : Below w.heap.size w w1 := by rw [← hW]; exact hb1' _
  have hr1 : w1.heap[w.heap.size]? = some (.cells V.toArray 90 (0, 0)) := by rw [← hW]; exact hr1' _
  clear hb1' hr1' hW
  have hs1 : w.heap.size < w1.heap.size := (Array.getElem?_eq_some_iff.1 hr1).1
  have HN1 := hide hr1
  have HB1 := hide hb1
  have HXX := hide (HX.out w1 hb1)
  clear hb1 hr1
  go_wp2_with (refine wpList_load_row rfl 90 (.tmp 1) rfl w.heap.size rfl 90 V.toArray (0, 0) (.struct fs) HN1.out HU.out rfl HR.out.info ?_)
  refine HXX.out.mono ?_
  rintro _ w2 ⟨rfl, hb2⟩
  have hs2 := hb2.size
  have HB2 := hide (HB1.out.trans (hb2.mono (by omega)))
  have HN2 := hide ((hb2.block w.heap.size hs1).trans HN1.out)
  have HMX := hide (HMD.out w2 HB2.out)
  clear hb2
  go_wp2_with (refine wpList_load_row rfl 90 (.tmp 1) rfl w.heap.size rfl 90 V.toArray (0, 0) (.struct fs) HN2.out HU.out rfl HR.out.info ?_)
  refine HMX.out.mono ?_
  rintro _ w3 ⟨V', rfl, hn3, hb3⟩
  have hs3 := hb3.size
  have HB3 := hide (HB2.out.trans (hb3.mono (by omega)))
  have HN3 := hide ((hb3.block w.heap.size (by omega)).trans HN2.out)
  have HM3 := hide hn3
  have HR' := hide (show Row39 V' by
    obtain ⟨a1, l1, c1, a2, l2, c2, hV, hd⟩ := hn3.cells
    rw [hV]; exact nodeV_row hd)
  clear hb3 hn3
  have hb4' := fun o => (Below.refl w3.heap.size w3).alloc (Nat.le_refl _) o
  have hr4' := heap_alloc_new w3
  go_upto_region 4 with (refine wpList_store_row rfl 90 (.tmp 3) (.tmp 8) rfl w3.heap.size V'.toArray rfl rfl 90 _ (heap_alloc_new w3 _) HR'.out.info (by rw [HR'.out.size]; rfl) HR'.out.one ?_; rw [World.setRow_alloc_new])
  generalize hW : World.alloc w3 _ = w4
  have hb4 : Below w3.heap.size w3 w4 := by rw [← hW]; exact hb4' _
  have hr4 : w4.heap[w3.heap.size]? = some (.cells V'.toArray 90 (0, 0)) := by rw [← hW]; exact hr4' _
  clear hb4' hr4' hW
  have HB4 := hide (HB3.out.trans (hb4.mono (by omega)))
  obtain ⟨k2, k3, k4, k5, k6⟩ := box_cells HN.out ((hb4.block w.heap.size (by omega)).trans HN3.out)
  obtain ⟨m2, m3, m4, m5, m6⟩ := box_cells HM3.out hr4
  have heq := eqBox (Ward.boxN (n + 1) t) (Ward.boxN (n + 1) mt)
  obtain ⟨r, hr⟩ : ∃ r, Ward.boxEq (Ward.boxN (n + 1) t) (Ward.boxN (n + 1) mt) = r := ⟨_, rfl⟩
  rw [hr] at heq
  have HRR := hide hr
  clear hb4 hr4 hr
  cases r
  all_goals
    go_wp2
    go_ret
    refine ⟨?_, HB4.out⟩
    rw [HRR.out]
    first | rfl | simp
end Go.Proofs.YtenaelkbgkpllaaGreatDoor
/- What waits in the heap: points, and nodes whose points are still to come. -/
namespace Go.Proofs.YtenaelkbgkpllaaGreatDoor
open Go.RowKit

/-- how many entries a node makes -/
def sizeN : (n : Nat) → Ward.NT n → Nat
  | 0, t => nomatch t
  | n + 1, t => 1 + ((Ward.Nd.pts t).length + ((Ward.Nd.kids t).map (sizeN n)).sum)
/-- what waits -/
inductive Gh where
  | pt (p : Ward.Pt)
  | nd (g o n : Nat) (t : Ward.NT n) (d : Int)
def Gh.en (x y : Int) : Gh → En
  | .pt p => ptEn x y p
  | .nd g o _ _ d => ⟨d, Option.some ⟨g, o, none⟩, ⟨0, 0, 0⟩⟩
def Gh.pts : Gh → List Ward.Pt
  | .pt p => [p]
  | .nd _ _ n t _ => Ward.allN n t
def Gh.size : Gh → Nat
  | .pt _ => 1
  | .nd _ _ n t _ => sizeN n t
def Gh.Ok (w : World) (S : Nat → Prop) (x y : Int) : Gh → Prop
  | .pt p => p.Ok
  | .nd g o n t d => S g ∧ (∃ V, NodeIs w S n t V ∧ w.rangeAt g o V) ∧ Ward.Few n t ∧ Ward.InN n t ∧ Ward.Encl n t ∧ (∀ p ∈ Ward.allN n t, p.Ok) ∧ ∀ p ∈ Ward.allN n t, d ≤ Ward.distP p x y
def sizeL (L : List Gh) : Nat := (L.map Gh.size).sum
def ptsL (L : List Gh) : List Ward.Pt := L.flatMap Gh.pts
theorem Gh.size_pos : ∀ G : Gh, 1 ≤ G.size
  | .pt _ => Nat.le_refl _
  | .nd _ _ 0 t _ => nomatch t
  | .nd _ _ (n + 1) t _ => by show 1 ≤ sizeN (n + 1) t; unfold sizeN; omega
theorem sizeL_cons (G : Gh) (L : List Gh) : sizeL (G :: L) = G.size + sizeL L := by unfold sizeL; simp
theorem sizeL_append (L M : List Gh) : sizeL (L ++ M) = sizeL L + sizeL M := by unfold sizeL; simp
theorem length_le_size : ∀ L : List Gh, L.length ≤ sizeL L
  | [] => Nat.zero_le _
  | G :: L => by
    have h1 := length_le_size L
    have h2 := G.size_pos
    rw [sizeL_cons, List.length_cons]; omega
theorem sizeL_perm {L M : List Gh} (h : L.Perm M) : sizeL L = sizeL M := (h.map Gh.size).sum_nat
theorem ptsL_perm {L M : List Gh} (h : L.Perm M) : (ptsL L).Perm (ptsL M) := h.flatMap_right Gh.pts
/-- the children -/
def kidsG (x y : Int) (g o n : Nat) (K : List (Ward.NT n)) : List Gh := K.mapIdx (fun i c => Gh.nd g (o + i * 39) n c (Ward.dist (Ward.boxN n c) x y))
theorem kidsG_en (x y : Int) (g o n : Nat) (K : List (Ward.NT n)) : (kidsG x y g o n K).map (Gh.en x y) = kidsEn x y g o n K := by
  refine List.ext_getElem (by simp [kidsG, kidsEn]) fun i h1 h2 => ?_
  simp [kidsG, kidsEn, Gh.en, kidEn]
theorem kidsG_pts (x y : Int) (g o n : Nat) (K : List (Ward.NT n)) : ptsL (kidsG x y g o n K) = K.flatMap (Ward.allN n) := by
  unfold ptsL
  rw [List.flatMap_def, List.flatMap_def]
  congr 1
  refine List.ext_getElem (by simp [kidsG]) fun i h1 h2 => ?_
  simp [kidsG, Gh.pts]
theorem kidsG_size (x y : Int) (g o n : Nat) (K : List (Ward.NT n)) : sizeL (kidsG x y g o n K) = (K.map (sizeN n)).sum := by
  unfold sizeL
  congr 1
  refine List.ext_getElem (by simp [kidsG]) fun i h1 h2 => ?_
  simp [kidsG, Gh.size]
theorem ptsG_pts (P : List Ward.Pt) : ptsL (P.map Gh.pt) = P := by
  unfold ptsL
  induction P with
  | nil => rfl
  | cons p P ih => rw [List.map_cons, List.flatMap_cons, ih]; rfl
theorem ptsG_size (P : List Ward.Pt) : sizeL (P.map Gh.pt) = P.length := by
  induction P with
  | nil => rfl
  | cons p P ih => rw [List.map_cons, sizeL_cons, ih, List.length_cons]; show 1 + _ = _; omega
theorem ptsG_en (x y : Int) (P : List Ward.Pt) : (P.map Gh.pt).map (Gh.en x y) = P.map (ptEn x y) := by rw [List.map_map]; rfl
/-- what is taken off was waiting -/
theorem ghost_pop {x y : Int} {L : List Gh} {l l' : List En} {e : En} (hL : l.Perm (L.map (Gh.en x y))) (hp : l.Perm (e :: l')) : ∃ G L', L.Perm (G :: L') ∧ Gh.en x y G = e ∧ l'.Perm (L'.map (Gh.en x y)) := by
  have he : e ∈ L.map (Gh.en x y) := hL.mem_iff.1 (hp.mem_iff.2 List.mem_cons_self)
  obtain ⟨G, hG, rfl⟩ := List.mem_map.1 he
  obtain ⟨s, t, rfl⟩ := List.append_of_mem hG
  refine ⟨G, s ++ t, List.perm_middle, rfl, ?_⟩
  have h1 := (hp.symm.trans hL).trans ((List.perm_middle (a := G) (l₁ := s) (l₂ := t)).map (Gh.en x y))
  exact List.Perm.cons_inv h1
/-- a point that comes off is the next -/
theorem pop_pt {w : World} {S : Nat → Prop} {x y : Int} {L L' : List Gh} {p : Ward.Pt} {l' : List En} (hL : L.Perm (.pt p :: L')) (hI : Ward.Ids (ptsL L)) (hok : ∀ G ∈ L, G.Ok w S x y) (hle : ∀ e ∈ l', ¬ enLt e (ptEn x y p)) (hl : l'.Perm (L'.map (Gh.en x y))) : Ward.sortN x y (ptsL L) = p :: Ward.sortN x y (ptsL L') ∧ Ward.Ids (ptsL L') := by
  have hP : (ptsL L).Perm (p :: ptsL L') := ptsL_perm hL
  have hI' : Ward.Ids (p :: ptsL L') := (Ward.ids_perm hP).1 hI
  have hpo : p.Ok := hok _ (hL.mem_iff.2 List.mem_cons_self)
  obtain ⟨h1, h2⟩ := List.pairwise_cons.1 hI'
  refine ⟨Ward.sortN_head hP hI fun q hq => ?_, h2⟩
  have hne := h1 q hq
  obtain ⟨G, hG, hqG⟩ := List.mem_flatMap.1 hq
  have hG' := hok G (hL.mem_iff.2 (List.mem_cons_of_mem _ hG))
  have hlt := hle _ (hl.mem_iff.2 (List.mem_map.2 ⟨G, hG, rfl⟩))
  have hid := hpo.id1
  cases G with
  | pt r =>
    have e : q = r := by simpa [Gh.pts] using hqG
    subst e
    unfold enLt Gh.en ptEn at hlt
    simp only at hlt
    unfold Ward.nr
    omega
  | nd g o n t d =>
    have hd := hG'.2.2.2.2.2.2 q hqG
    unfold enLt Gh.en ptEn at hlt
    simp only at hlt
    unfold Ward.nr
    omega
/-- what stands below a node in its place -/
theorem pop_nd {x y : Int} {L L' : List Gh} {g o n gc oc : Nat} {t : Ward.NT (n + 1)} {d : Int} (hL : L.Perm (.nd g o (n + 1) t d :: L')) : (ptsL (L' ++ ((Ward.Nd.pts t).map Gh.pt ++ kidsG x y gc oc n (Ward.Nd.kids t)))).Perm (ptsL L) ∧ sizeL (L' ++ ((Ward.Nd.pts t).map Gh.pt ++ kidsG x y gc oc n (Ward.Nd.kids t))) + 1 = sizeL L := by
  constructor
  · have h1 : ptsL (L' ++ ((Ward.Nd.pts t).map Gh.pt ++ kidsG x y gc oc n (Ward.Nd.kids t))) = ptsL L' ++ Ward.allN (n + 1) t := by
      have h2 := ptsG_pts (Ward.Nd.pts t)
      have h3 := kidsG_pts x y gc oc n (Ward.Nd.kids t)
      unfold ptsL at *
      rw [List.flatMap_append, List.flatMap_append, h2, h3]
      rfl
    rw [h1]
    exact List.perm_append_comm.trans (ptsL_perm hL).symm
  · rw [sizeL_perm hL, sizeL_cons, sizeL_append, sizeL_append, ptsG_size, kidsG_size]
    show _ = sizeN (n + 1) t + _
    unfold sizeN
    omega
/-- what is said of it holds -/
theorem ok_nd {w w' : World} {S : Nat → Prop} {x y : Int} {gc oc g o n : Nat} {t : Ward.NT (n + 1)} {d : Int} (hG : Gh.Ok w S x y (.nd g o (n + 1) t d)) (hs : Same S w w') (hgc : Ward.Nd.kids t ≠ [] → S gc) (hr : ∀ i (h : i < (Ward.Nd.kids t).length), ∃ V, NodeIs w' S n (Ward.Nd.kids t)[i] V ∧ w'.rangeAt gc (oc + i * 39) V) :
    ∀ G ∈ (Ward.Nd.pts t).map Gh.pt ++ kidsG x y gc oc n (Ward.Nd.kids t), G.Ok w S x y := fun G hm => by
  obtain ⟨-, -, hfew, hin, hen, hpo, -⟩ := hG
  rcases List.mem_append.1 hm with hm | hm
  · obtain ⟨p, hp, rfl⟩ := List.mem_map.1 hm
    exact hpo p (List.mem_append_left _ hp)
  · unfold kidsG at hm
    obtain ⟨i, hi, rfl⟩ := List.mem_mapIdx.1 hm
    have hc : (Ward.Nd.kids t)[i] ∈ Ward.Nd.kids t := List.getElem_mem hi
    have hS := hgc (fun e => by rw [e] at hi; simp at hi)
    obtain ⟨V, hV, hc2⟩ := hr i hi
    have hsub : ∀ p ∈ Ward.allN n (Ward.Nd.kids t)[i], p ∈ Ward.allN (n + 1) t := fun p hp => List.mem_append_right _ (List.mem_flatMap.2 ⟨_, hc, hp⟩)
    exact ⟨hS, ⟨V, NodeIs.keep (fun g hg => (hs g hg).symm) (fun _ h => h) n _ V hV, rangeAt_block hc2 (hs gc hS).symm⟩, hfew.2.2 _ hc, (hin _ hc).2, (hen.2 _ hc).2, fun p hp => hpo p (hsub p hp), fun p hp => Ward.dist_mono ((hen.2 _ hc).1 p hp) x y⟩
/-- the answer lies apart from the heap -/
theorem own_apart {w : World} {h B B' : Nat} {v va : Value} {l : List En} {a : List Ward.Pt} (H : HeapAt w h B v l) (ho : Own w B' va a) : ∀ g, va.ownBlock = some g → ¬ Heaps h v g := fun g hg e => by
  rcases ho.2 with ⟨rfl, _⟩ | ⟨g', cap, cur, rfl, _, hg', _⟩
  · cases hg
  · injection hg with hg
    have eg : g' = g := hg
    subst eg
    rcases e with e | e
    · rw [e, H.row] at hg'
      injection hg' with hg'
      injection hg' with _ h2 _
      exact absurd h2 (by decide)
    · exact ownE_other H.own hg' (by decide) e.symm
theorem HeapAt.grown {w w' : World} {h B B' : Nat} {v va : Value} {l : List En} {a : List Ward.Pt} (H : HeapAt w h B v l) (ho : Own w B' va a) (hg : w.grownBy w' va.ownBlock) : HeapAt w' h B v l :=
  ⟨(hg.block h H.lt (fun e => own_apart H ho h e.symm (.inl rfl))).trans H.row, H.own.keeps (S := fun k => Option.some k = va.ownBlock) ⟨hg.os, hg.tape, hg.output, hg.size, fun k hk hn => hg.block k hk hn⟩ (fun g hgv e => own_apart H ho g e.symm (.inr hgv.symm)), H.apart⟩
theorem keeps_low {w w' : World} {h B : Nat} {v : Value} {l : List En} (hk : Keeps (Heaps h v) w w') (H : HeapAt w h B v l) (hh : B ≤ h) (hB : B ≤ w.heap.size) : Below B w w' := ⟨hk.os, hk.tape, hk.output, hk.size, fun j hj => hk.block j (Nat.lt_of_lt_of_le hj hB) (fun e => by
  rcases e with e | e
  · omega
  · have := (H.own.lt e.symm).1; omega)⟩
theorem grown_low {w w' : World} {B : Nat} {va : Value} {a : List Ward.Pt} (hg : w.grownBy w' va.ownBlock) (ho : Own w B va a) (hB : B ≤ w.heap.size) : Below B w w' := ⟨hg.os, hg.tape, hg.output, hg.size, fun j hj => hg.block j (Nat.lt_of_lt_of_le hj hB) (fun e => by have := ho.ge e.symm; omega)⟩
/-- how it stands before a round -/
structure NearInv (w1 wq : World) (S : Nat → Prop) (h B : Nat) (x y : Int) (P : List Ward.Pt) (k : Int) (va v : Value) (L : List Gh) (a : List Ward.Pt) (l : List En) : Prop where
  heap : HeapAt wq h B v l
  perm : l.Perm (L.map (Gh.en x y))
  ok : Heap.Ok enLt (Heap.at' l) l.length
  own : Own wq B va a
  sort : Ward.sortN x y P = a ++ Ward.sortN x y (ptsL L)
  ids : Ward.Ids (ptsL L)
  gh : ∀ G ∈ L, G.Ok w1 S x y
  low : Below B w1 wq
  few : (a.length : Int) ≤ k
  size : sizeL L ≤ 80000
theorem NearInv.len {w1 wq : World} {S : Nat → Prop} {h B : Nat} {x y : Int} {P : List Ward.Pt} {k : Int} {va v : Value} {L : List Gh} {a : List Ward.Pt} {l : List En} (H : NearInv w1 wq S h B x y P k va v L a l) : l.length = L.length ∧ l.length ≤ 80000 := by
  have h1 := H.perm.length_eq
  rw [List.length_map] at h1
  have h2 := length_le_size L
  have h3 := H.size
  omega
theorem NearInv.done {w1 wq : World} {S : Nat → Prop} {h B : Nat} {x y : Int} {P : List Ward.Pt} {k : Int} {va v : Value} {L : List Gh} {a : List Ward.Pt} {l : List En} (H : NearInv w1 wq S h B x y P k va v L a l) (hd : l.length = 0 ∨ k ≤ a.length) : (Ward.sortN x y P).take k.toNat = a := by
  have h1 := H.few
  have h2 := H.len.1
  rw [H.sort]
  rcases hd with hd | hd
  · have e : L = [] := List.length_eq_zero_iff.1 (by omega)
    subst e
    rw [show ptsL [] = [] from rfl, show Ward.sortN x y [] = [] from rfl, List.append_nil]
    exact List.take_of_length_le (by omega)
  · rw [List.take_left' (by omega)]
/-- a round that took a point -/
theorem NearInv.point {w1 wq w2 w3 w4 : World} {S : Nat → Prop} {h B : Nat} {x y : Int} {P : List Ward.Pt} {k : Int} {va v v2 va4 : Value} {L L' : List Gh} {a : List Ward.Pt} {l l2 : List En} {p : Ward.Pt} (H : NearInv w1 wq S h B x y P k va v L a l) (hh : B ≤ h) (hB : B ≤ wq.heap.size) (hL : L.Perm (.pt p :: L')) (hl : l2.Perm (L'.map (Gh.en x y))) (hle : ∀ e ∈ l2, ¬ enLt e (ptEn x y p)) (hH : HeapAt w2 h B v2 l2) (hok : Heap.Ok enLt (Heap.at' l2) l2.length) (hk : Keeps (Heaps h v) wq w2) (hb : Below w2.heap.size w2 w3) (ho : Own w4 B va4 (a ++ [p])) (hg : w3.grownBy w4 va.ownBlock) (ha : (a.length : Int) < k) : NearInv w1 w4 S h B x y P k va4 v2 L' (a ++ [p]) l2 ∧ sizeL L' < sizeL L := by
  obtain ⟨h1, h2⟩ := pop_pt hL H.ids H.gh hle hl
  have hs := sizeL_perm hL
  rw [sizeL_cons] at hs
  have hs' : sizeL L = 1 + sizeL L' := hs
  have ho2 := H.own.keeps hk (own_apart H.heap H.own)
  have hsz := hk.size
  have ho3 := ho2.below hb
  refine ⟨⟨(hH.below hb).grown ho3 hg, hl, hok, ho, ?_, h2, fun G hG => H.gh G (hL.mem_iff.2 (List.mem_cons_of_mem _ hG)), ((H.low.trans (keeps_low hk H.heap hh hB)).trans (hb.mono (by omega))).trans (grown_low hg ho3 (by have := hb.size; omega)), ?_, ?_⟩, by omega⟩
  · rw [H.sort, h1]; simp
  · rw [List.length_append, List.length_singleton]; omega
  · have := H.size; omega
/-- a round that opened a node -/
theorem NearInv.node {w1 wq w2 w3 w4 : World} {S : Nat → Prop} {h B : Nat} {x y : Int} {P : List Ward.Pt} {k : Int} {va v v2 v4 : Value} {L L' : List Gh} {a : List Ward.Pt} {l l2 l4 : List En} {g o n gc oc : Nat} {t : Ward.NT (n + 1)} {d : Int} (H : NearInv w1 wq S h B x y P k va v L a l) (hS : ∀ g, S g → g < B) (hh : B ≤ h) (hB : B ≤ wq.heap.size) (hL : L.Perm (.nd g o (n + 1) t d :: L')) (hl : l2.Perm (L'.map (Gh.en x y))) (hH : HeapAt w2 h B v2 l2) (hk : Keeps (Heaps h v) wq w2) (hb : Below w2.heap.size w2 w3) (hgr : Grew w3 w4 h B v2 v4 (l2 ++ ((Ward.Nd.pts t).map (ptEn x y) ++ kidsEn x y gc oc n (Ward.Nd.kids t))) l4) (hgc : Ward.Nd.kids t ≠ [] → S gc) (hr : ∀ i (h : i < (Ward.Nd.kids t).length), ∃ V, NodeIs w3 S n (Ward.Nd.kids t)[i] V ∧ w3.rangeAt gc (oc + i * 39) V) :
    ∃ L4, NearInv w1 w4 S h B x y P k va v4 L4 a l4 ∧ sizeL L4 < sizeL L := by
  have hG := H.gh _ (hL.mem_iff.2 List.mem_cons_self)
  obtain ⟨hp, hs⟩ := pop_nd (x := x) (y := y) (gc := gc) (oc := oc) hL
  have hsz := hk.size
  have hsz3 := hb.size
  have hH3 := hH.below hb
  have ho2 := H.own.keeps hk (own_apart H.heap H.own)
  have ho3 := ho2.below hb
  have hlow3 := (H.low.trans (keeps_low hk H.heap hh hB)).trans (hb.mono (show B ≤ w2.heap.size by omega))
  have hI := (Ward.ids_perm hp).2 H.ids
  refine ⟨_, ⟨hgr.at', ?_, hgr.ok, ho3.keeps hgr.keeps (own_apart hH3 ho3), ?_, hI, fun G hm => ?_, hlow3.trans (keeps_low hgr.keeps hH3 hh (by omega)), H.few, ?_⟩, ?_⟩
  · refine hgr.perm.trans ?_
    rw [List.map_append, List.map_append, ptsG_en, kidsG_en]
    exact hl.append_right _
  · rw [H.sort, Ward.sortN_congr hp H.ids]
  · rcases List.mem_append.1 hm with hm | hm
    · exact H.gh G (hL.mem_iff.2 (List.mem_cons_of_mem _ hm))
    · exact ok_nd hG (below_same hlow3 hS) hgc hr G hm
  · have := H.size; omega
  · omega
end Go.Proofs.YtenaelkbgkpllaaGreatDoor
/- The nearest, taken off the heap. -/
namespace Go.Proofs.YtenaelkbgkpllaaGreatDoor
open Go.RowKit

theorem own_mono {w : World} {B B' : Nat} {v : Value} {l : List Ward.Pt} (h : Own w B v l) (hb : B' ≤ B) : Own w B' v l := by
  refine ⟨h.1, ?_⟩
  rcases h.2 with h0 | ⟨g, cap, cur, e, hB, r⟩
  · exact .inl h0
  · exact .inr ⟨g, cap, cur, e, Nat.le_trans hb hB, r⟩
theorem rowE5 {w : World} {g t : Nat} {a b c d e : Value} (hr : w.heap[g]? = some (.cells #[a, b, c, d, e] t (0, 0))) : w.cell? ⟨g, 1, none⟩ = some b ∧ w.cell? ⟨g, 2, none⟩ = some c ∧ w.cell? ⟨g, 3, none⟩ = some d ∧ w.cell? ⟨g, 4, none⟩ = some e := by
  refine ⟨?_, ?_, ?_, ?_⟩ <;> (rw [cell_of_row _ _ _ _ _ _ hr]; rfl)
theorem alloc4 (w : World) (a b c d : Obj) : Below w.heap.size w ((((w.alloc a).alloc b).alloc c).alloc d) ∧ (((((w.alloc a).alloc b).alloc c).alloc d).heap.size = w.heap.size + 4) ∧ ((((w.alloc a).alloc b).alloc c).alloc d).heap[w.heap.size]? = some a ∧ ((((w.alloc a).alloc b).alloc c).alloc d).heap[w.heap.size + 1]? = some b ∧ ((((w.alloc a).alloc b).alloc c).alloc d).heap[w.heap.size + 2]? = some c ∧ ((((w.alloc a).alloc b).alloc c).alloc d).heap[w.heap.size + 3]? = some d := by
  have s1 : (w.alloc a).heap.size = w.heap.size + 1 := by simp
  have s2 : ((w.alloc a).alloc b).heap.size = w.heap.size + 2 := by simp
  have s3 : (((w.alloc a).alloc b).alloc c).heap.size = w.heap.size + 3 := by simp
  refine ⟨((((Below.refl w.heap.size w).alloc (Nat.le_refl _) a).alloc (by simp) b).alloc (by simp; omega) c).alloc (by simp; omega) d, by simp, ?_, ?_, ?_, ?_⟩
  · rw [Below.heap_alloc _ _ _ (by omega), Below.heap_alloc _ _ _ (by omega), Below.heap_alloc _ _ _ (by omega)]; exact heap_alloc_new w a
  · rw [Below.heap_alloc _ _ _ (by omega), Below.heap_alloc _ _ _ (by omega), ← s1]; exact heap_alloc_new _ b
  · rw [Below.heap_alloc _ _ _ (by omega), ← s2]; exact heap_alloc_new _ c
  · rw [← s3]; exact heap_alloc_new _ d
/-- how it begins -/
theorem near_start {w w1 : World} {x y : Int} {n : Nat} {t : Ward.NT n} {V : List Value} {k : Int} (hN : NodeIs w (fun g => g < w.heap.size) n t V) (hfew : Ward.Few n t) (hin : Ward.InN n t) (hen : Ward.Encl n t) (hpo : ∀ p ∈ Ward.allN n t, p.Ok) (hids : Ward.Ids (Ward.allN n t)) (hsz : sizeN n t ≤ 80000) (hk : 0 ≤ k) (hb : Below w.heap.size w w1)
    (h0 : w1.heap[w.heap.size]? = some (.cells V.toArray 90 (0, 0))) (h2 : w1.heap[w.heap.size + 2]? = some (.cells #[I 0, .pointer (some ⟨w.heap.size, 0, none⟩), I 0, I 0, I 0] 166 (0, 0))) (h3 : w1.heap[w.heap.size + 3]? = some (.cells #[.slice (some ⟨w.heap.size + 2, 0, none⟩) 1 1] 168 (0, 0))) :
    NearInv w1 w1 (fun g => g < w.heap.size + 2) (w.heap.size + 3) (w.heap.size + 2) x y (Ward.allN n t) k (.slice none 0 0) (.slice (some ⟨w.heap.size + 2, 0, none⟩) 1 1) [Gh.nd w.heap.size 0 n t 0] [] [⟨0, some ⟨w.heap.size, 0, none⟩, ⟨0, 0, 0⟩⟩] := by
  refine ⟨⟨h3, ⟨rfl, .inr ⟨w.heap.size + 2, 1, _, rfl, Nat.le_refl _, h2, Nat.le_refl _, by unfold maxLen; omega, rfl, rfl⟩⟩, fun e => ?_⟩, List.Perm.refl _, fun k hk h0 => ?_, World.ownsRow_nil _ _ _ _, ?_, ?_, fun G hG => ?_, Below.refl _ _, hk, ?_⟩
  · injection e with e
    have e' : w.heap.size + 2 = w.heap.size + 3 := e
    omega
  · simp only [List.length_singleton] at hk; omega
  · show _ = [] ++ Ward.sortN x y (Ward.allN n t ++ [])
    rw [List.append_nil, List.nil_append]
  · show Ward.Ids (Ward.allN n t ++ [])
    rw [List.append_nil]; exact hids
  · rw [List.mem_singleton] at hG
    subst hG
    refine ⟨by show w.heap.size < w.heap.size + 2; omega, ⟨V, NodeIs.keep (below_same hb (fun _ h => h)) (fun g h => by show g < w.heap.size + 2; have : g < w.heap.size := h; omega) n t V hN, fun j v hv => ?_⟩, hfew, hin, hen, hpo, fun p _ => Ward.dist_nonneg _ _ _⟩
    rw [cell_of_row _ _ _ _ _ _ h0, List.getElem?_toArray, Nat.zero_add]
    exact hv
  · rw [sizeL_cons]
    show sizeN n t + 0 ≤ 80000
    omega
set_option maxRecDepth 100000 in
set_option maxHeartbeats 4000000 in
theorem nearest_any (q : Ward.Qr) (n : Nat) (t : Ward.NT n) (V : List Value) (w : World) (hN : NodeIs w (fun g => g < w.heap.size) n t V) (hfew : Ward.Few n t) (hin : Ward.InN n t) (hen : Ward.Encl n t) (hpo : ∀ p ∈ Ward.allN n t, p.Ok) (hids : Ward.Ids (Ward.allN n t)) (hsz : sizeN n t ≤ 80000) (hx : -1000000 ≤ q.x ∧ q.x ≤ 1000000) (hy : -1000000 ≤ q.y ∧ q.y ≤ 1000000) (hk : 0 ≤ q.k) (hk2 : q.k ≤ 1000) :
    Calls Tryz.prog 75 #[.agg V.toArray, Qv q] w fun e w' => ∃ v, e = .returned v ∧ Own w' w.heap.size v ((Ward.sortN q.x q.y (Ward.allN n t)).take q.k.toNat) ∧ Below w.heap.size w w' := by
  have HST := hide (fun (w1 : World) => near_start (w := w) (w1 := w1) (x := q.x) (y := q.y) hN hfew hin hen hpo hids hsz hk)
  have HOP := hide (fun h v l g o n t U w B S hS hhB hB H hok hN hg hU hfew hin hpt hl => open_any h v l g o n t U q w B S hS hhB hB H hok hN hg hU hfew hin hpt hl hx hy)
  clear hN hx hy hfew hin hen hpo hids hsz
  obtain ⟨qk, qa, qb, qc, qd, qx, qy, qn⟩ := q
  simp only at HOP HST hk hk2 ⊢
  have h4 := alloc4 w
  go_enter Tryz.func75, Tryz.ntmps75
  go_upto_region 3 with fail
  generalize hW : World.alloc (World.alloc (World.alloc (World.alloc w _) _) _) _ = w1
  have hb1 : Below w.heap.size w w1 := by rw [← hW]; exact (h4 _ _ _ _).1
  have hs1 : w.heap.size + 4 ≤ w1.heap.size := by rw [← hW]; exact Nat.le_of_eq (h4 _ _ _ _).2.1.symm
  have r0 : w1.heap[w.heap.size]? = some (.cells V.toArray 90 (0, 0)) := by rw [← hW]; exact (h4 _ _ _ _).2.2.1
  have r1 : w1.heap[w.heap.size + 1]? = some (.cells #[I qk, I qa, I qb, I qc, I qd, I qx, I qy, I qn] 46 (0, 0)) := by rw [← hW]; exact (h4 _ _ _ _).2.2.2.1
  have r2 : w1.heap[w.heap.size + 2]? = some (.cells #[I 0, .pointer (some ⟨w.heap.size, 0, none⟩), I 0, I 0, I 0] 166 (0, 0)) := by rw [← hW]; exact (h4 _ _ _ _).2.2.2.2.1
  have r3 : w1.heap[w.heap.size + 3]? = some (.cells #[.slice (some ⟨w.heap.size + 2, 0, none⟩) 1 1] 168 (0, 0)) := by rw [← hW]; exact (h4 _ _ _ _).2.2.2.2.2
  rw [show w.heap.size + 1 + 1 + 1 = w.heap.size + 3 from rfl]
  clear h4 hW
  have HB1 := hide hb1
  have HR1 := hide r1
  have HI0 := hide (HST.out w1 hb1 r0 r2 r3)
  clear hb1 r0 r1 r2 r3 HST
  go_loopg [6] (sizeN n t) (fun gk v6 wq => ∃ (v : Value) (L : List Gh) (a : List Ward.Pt) (l : List En), gk = sizeL L ∧ NearInv w1 wq (fun g => g < w.heap.size + 2) (w.heap.size + 3) (w.heap.size + 2) qx qy (Ward.allN n t) qn v6 v L a l)
  case atStart => exact ⟨_, _, _, _, rfl, HI0.out⟩
  case round =>
    clear HI0
    obtain ⟨v, L, a, l, hgk, hI⟩ := hrel
    have HGK := hide hgk
    have HI := hide hI
    have hc := hI.heap.cell
    obtain ⟨av, cv, ev⟩ := hI.heap.own.slice
    rw [ev] at hc
    obtain ⟨aa, ca, ea⟩ := hI.own.slice
    have HRQ := hide ((hI.low.block (w.heap.size + 1) (by omega)).trans HR1.out)
    obtain ⟨-, -, -, -, -, -, -, k7⟩ := rowQ8 HRQ.out
    have hwr : w.heap.size + 4 ≤ wr.heap.size := Nat.le_trans hs1 hI.low.size
    have hlen := hI.len.2
    have halen : a.length ≤ 1000 := by have := hI.few; omega
    have HLN := hide (lenE_any av l.length cv wr)
    have HOWN := hide (show (Ward.sortN qx qy (Ward.allN n t)).take qn.toNat = a → Own wr w.heap.size (.slice aa a.length ca) ((Ward.sortN qx qy (Ward.allN n t)).take qn.toNat) ∧ Below w.heap.size w wr from fun e => ⟨by rw [e, ← ea]; exact own_mono hI.own (by omega), HB1.out.trans (hI.low.mono (by omega))⟩)
    clear hgk hI ev
    subst ea
    by_cases hl0 : l.length = 0
    · have HE := hide (HOWN.out (HI.out.done (.inl hl0)))
      rw [hl0] at HLN
      go_wp2_with fail
      refine HLN.out.mono ?_
      rintro _ w0 ⟨rfl, hw0⟩
      rw [hw0]
      clear hw0
      go_wp2_with fail
      go_ret
      exact ⟨_, rfl, HE.out⟩
    · by_cases ha : (a.length : Int) < qn
      · obtain ⟨m, hm⟩ : ∃ m, l.length = m + 1 := ⟨l.length - 1, by omega⟩
        have HPO := hide (heapPop_any _ v l m wr _ HI.out.heap hm (by omega) HI.out.ok)
        rw [hm] at HLN
        go_wp2_with fail
        refine HLN.out.mono ?_
        rintro _ w0 ⟨rfl, hw0⟩
        rw [hw0]
        clear hw0
        go_wp2_with fail
        refine HPO.out.mono ?_
        rintro _ w2 ⟨⟨ed, en, ⟨ei, ex, ey⟩⟩, v2, l2, rfl, hp2, hle2, hH2, hok2, hk2', hb2⟩
        have HP2 := hide hp2
        obtain ⟨G, L', hL, hen, hl2⟩ := ghost_pop HI.out.perm hp2
        have hl2l : l2.length ≤ 80000 := by have := hp2.length_eq; rw [List.length_cons] at this; omega
        have HL := hide hL
        have HL2 := hide hl2
        have HLE := hide hle2
        have HH2 := hide hH2
        have HOK2 := hide hok2
        have HK2 := hide hk2'
        have hs2 := hk2'.size
        clear hp2 hL hl2 hle2 hH2 hok2 hk2' hb2 HPO HLN HP2 hc
        have hta := ta_en (Ev ⟨ed, en, ⟨ei, ex, ey⟩⟩)
        have hb3' := fun o => (Below.refl w2.heap.size w2).alloc (Nat.le_refl _) o
        have hr3' := heap_alloc_new w2
        go_upto_region 5 with fail
        generalize hW : World.alloc w2 _ = w3
        have hb3 : Below w2.heap.size w2 w3 := by rw [← hW]; exact hb3' _
        have hr3 : w3.heap[w2.heap.size]? = some (.cells #[I ed, .pointer en, I ei, I ex, I ey] 166 (0, 0)) := by rw [← hW]; exact hr3' _
        clear hb3' hr3' hW hta
        have hs3 := hb3.size
        have HB3 := hide hb3
        have HRW3 := hide hr3
        have HO3 := hide ((HI.out.own.keeps HK2.out (own_apart HI.out.heap HI.out.own)).below hb3)
        have HLOW := hide ((HI.out.low.trans (keeps_low HK2.out HI.out.heap (by omega) (by omega))).trans (hb3.mono (by omega)))
        clear hb3 hr3
        cases G with
        | pt p =>
          injection hen with h1 h2 h3
          subst h1 h2 h3
          obtain ⟨e1, e2, e3, e4⟩ := rowE5 HRW3.out
          obtain ⟨v4, w4, h4, ho4, hg4, hf4⟩ := append_pt ⟨ei, ex, ey⟩ HO3.out (by omega) (by omega)
          have HI4 := hide (HI.out.point (by omega) (by omega) HL.out HL2.out HLE.out HH2.out HOK2.out HK2.out HB3.out ho4 hg4 ha)
          clear ho4 hg4 hf4 k7
          go_wp2_with (at_builtin; refine Lib.wpList_append_run _ rfl (.tmp 30) (.tmp 33) 27 27 rfl _ _ rfl rfl _ _ h4 ?_)
          go_roundg (sizeL L')
          case measure => have := HGK.out; have := HI4.out.2; omega
          case rel => exact ⟨v2, L', _, l2, rfl, HI4.out.1⟩
        | nd g o n' t' d =>
          cases n' with
          | zero => exact nomatch t'
          | succ n' =>
            injection hen with h1 h2 h3
            injection h3 with h31 h32 h33
            subst h1 h2 h31 h32 h33
            obtain ⟨e1, -, -, -⟩ := rowE5 HRW3.out
            obtain ⟨k0, k1, k2, k3, k4, k5, k6, k7'⟩ := rowQ8 ((HLOW.out.block (w.heap.size + 1) (by omega)).trans HR1.out)
            obtain ⟨hSg, ⟨U, hU, hUr⟩, hfew, hin, -, hpo, -⟩ := HI.out.gh _ (HL.out.mem_iff.2 List.mem_cons_self)
            have HOX := hide (HOP.out (w.heap.size + 3) v2 l2 g o n' t' U w3 (w.heap.size + 2) (fun g => g < w.heap.size + 2) (fun _ h => h) (by omega) (by omega) (HH2.out.below HB3.out) HOK2.out (NodeIs.keep (below_same HLOW.out (fun _ h => h)) (fun _ h => h) _ _ U hU) hSg (rangeAt_block hUr (HLOW.out.block g hSg)) hfew hin (fun p hp => hpo p (List.mem_append_left _ hp)) hl2l)
            clear hSg hU hUr hfew hin hpo k7
            go_wp2_with fail
            refine HOX.out.mono ?_
            rintro _ w4 ⟨rfl, v4, l4, gc, oc, hgr, hgc, hr⟩
            obtain ⟨L4, hI4, hs4⟩ := HI.out.node (fun _ h => h) (by omega) (by omega) HL.out HL2.out HH2.out HK2.out HB3.out hgr hgc hr
            have HI4 := hide hI4
            clear hI4 hgr hgc hr HOX e1 k0 k1 k2 k3 k4 k5 k6 k7'
            go_wp2_with fail
            go_roundg (sizeL L4)
            case measure => have := HGK.out; omega
            case rel => exact ⟨v4, L4, a, l4, rfl, HI4.out⟩
      · have HE := hide (HOWN.out (HI.out.done (.inr (by omega))))
        go_wp2_with fail
        refine HLN.out.mono ?_
        rintro _ w0 ⟨rfl, hw0⟩
        rw [hw0]
        clear hw0
        go_wp2_with fail
        go_ret
        exact ⟨_, rfl, HE.out⟩
end Go.Proofs.YtenaelkbgkpllaaGreatDoor
/- The text of a proof. -/
namespace Go.Proofs.YtenaelkbgkpllaaGreatDoor
open Go.RowKit

/-- what a proof has of a child -/
def kidP (m : Ward.Box → Bool) (n : Nat) (c : Ward.NT n) : List UInt8 := Ward.saidN n c ++ (if m (Ward.boxN n c) = true then 1 :: Ward.proofN m n c else [0])
theorem proofN_kids (m : Ward.Box → Bool) (n : Nat) (t : Ward.NT (n + 1)) (h : ¬ (Ward.Nd.kids t).length = 0) : Ward.proofN m (n + 1) t = [2, UInt8.ofNat (Ward.Nd.kids t).length] ++ (Ward.Nd.kids t).flatMap (kidP m n) := by
  show (if (Ward.Nd.kids t).length = 0 then _ else _) = _
  rw [if_neg h]
  rfl
theorem proofN_leaf (m : Ward.Box → Bool) (n : Nat) (t : Ward.NT (n + 1)) (h : (Ward.Nd.kids t).length = 0) : Ward.proofN m (n + 1) t = Ward.leafText (Ward.Nd.pts t) := by
  show (if (Ward.Nd.kids t).length = 0 then _ else _) = _
  rw [if_pos h]
theorem flat_part {α β : Type} (f : α → List β) : ∀ (K : List α) (i : Nat) (h : i < K.length), ((K.take i).flatMap f).length + (f K[i]).length ≤ (K.flatMap f).length
  | c :: K, 0, _ => by
    rw [List.flatMap_cons, List.length_append]
    show 0 + (f c).length ≤ _
    omega
  | c :: K, i + 1, h => by
    have ih := flat_part f K i (by simpa using h)
    rw [List.flatMap_cons, List.length_append, List.take_succ_cons, List.flatMap_cons, List.length_append, List.getElem_cons_succ]
    omega
/-- one byte put behind a text -/
theorem append_byte {w : World} {B : Nat} {v : Value} {l : List UInt8} (b : UInt8) (x : Int) (hx : ((b.toNat : Nat) : Int) = x) (hown : OwnB w B v l) (hB : B ≤ w.heap.size) (hl : l.length ≤ 900000) :
    ∃ v' w', (Builtin.append_ #[59, 59] 59 #[v, .slice (some ⟨w.heap.size, 0, none⟩) 1 1]).run Tryz.prog (w.alloc (.cells #[.int .u8 x] 5)) = .ok v' w' ∧ OwnB w' B v' (l ++ [b]) ∧ w.grownBy w' v.ownBlock ∧ Fresh w v v' := by
  subst hx
  obtain ⟨v1, w1, h1, ho1, hg1, hf1⟩ := append_bytes (w := w.alloc (.cells #[.int .u8 b.toNat] 5)) [b] ⟨w.heap.size, 0, none⟩ 1 (hown.below ((Below.refl w.heap.size w).alloc (Nat.le_refl _) _)) (by simp; omega) (by simp; omega) (fun j c hj => by
    rw [Addr.add_lit, Nat.zero_add, cell_of_row _ _ _ _ _ _ (heap_alloc_new w _)]
    match j, hj with
    | 0, hj => simp at hj; subst hj; rfl)
  exact ⟨v1, w1, h1, ho1, grown_lift ((Below.refl w.heap.size w).alloc (Nat.le_refl _) _) hg1, fresh_lift (by simp) hf1⟩
theorem append_two {w : World} {B : Nat} {v : Value} {l : List UInt8} (n : Nat) (hn : n ≤ 4) (hown : OwnB w B v l) (hB : B ≤ w.heap.size) (hl : l.length ≤ 900000) :
    ∃ v' w', (Builtin.append_ #[59, 59] 59 #[v, .slice (some ⟨w.heap.size, 0, none⟩) 2 2]).run Tryz.prog (w.alloc (.cells #[.int .u8 2, .int .u8 n] 5)) = .ok v' w' ∧ OwnB w' B v' (l ++ [2, UInt8.ofNat n]) ∧ w.grownBy w' v.ownBlock ∧ Fresh w v v' := by
  obtain ⟨v1, w1, h1, ho1, hg1, hf1⟩ := append_bytes (w := w.alloc (.cells #[.int .u8 2, .int .u8 n] 5)) [2, UInt8.ofNat n] ⟨w.heap.size, 0, none⟩ 2 (hown.below ((Below.refl w.heap.size w).alloc (Nat.le_refl _) _)) (by simp; omega) (by simp; omega) (fun j b hj => by
    have hkk : (UInt8.ofNat n).toNat = n := by rw [UInt8.toNat_ofNat']; omega
    rw [Addr.add_lit, Nat.zero_add, cell_of_row _ _ _ _ _ _ (heap_alloc_new w _)]
    match j, hj with
    | 0, hj => simp at hj; subst hj; rfl
    | 1, hj => simp at hj; subst hj; show some (Value.int .u8 (n : Int)) = some (Y (UInt8.ofNat n)); rw [Y, hkk])
  exact ⟨v1, w1, h1, ho1, grown_lift ((Below.refl w.heap.size w).alloc (Nat.le_refl _) _) hg1, fresh_lift (by simp) hf1⟩
/-- of the closure: which boxes must be shown -/
def MustIs (w : World) (B kq ka : Nat) (m : Ward.Box → Bool) : Prop := ∀ (W : World) (b : Ward.Box), b.In → Below B w W → Calls Tryz.prog 41 #[Bx b, .pointer (some ⟨kq, 0, none⟩), .pointer (some ⟨ka, 0, none⟩)] W fun e w' => e = .returned (.bool (m b)) ∧ Below W.heap.size W w'
theorem MustIs.below {w w' : World} {B kq ka : Nat} {m : Ward.Box → Bool} (h : MustIs w B kq ka m) (hb : Below B w w') : MustIs w' B kq ka m := fun W b hi hW => h W b hi (hb.trans hW)
theorem below_of_grown {w w' : World} {B : Nat} {v : Value} {l : List UInt8} (h : w.grownBy w' v.ownBlock) (ho : OwnB w B v l) (hB : B ≤ w.heap.size) : Below B w w' := ⟨h.os, h.tape, h.output, h.size, fun j hj => h.block j (by omega) (fun e => by have := (ho.lt e.symm).1; omega)⟩
set_option maxRecDepth 100000 in
set_option maxHeartbeats 4000000 in
theorem appendProof_any (m : Ward.Box → Bool) (kq ka : Nat) : ∀ (n : Nat) (t : Ward.NT n) (v : Value) (l : List UInt8) (V : List Value) (w : World) (B : Nat) (S : Nat → Prop) (_ : ∀ g, S g → g < B) (_ : B ≤ w.heap.size) (_ : l.length + (Ward.proofN m n t).length ≤ 600000) (_ : Ward.Few n t) (_ : Ward.InN n t) (_ : NodeIs w S n t V) (_ : OwnB w B v l) (_ : MustIs w B kq ka m),
    Calls Tryz.prog 81 #[v, .agg V.toArray, .func (.func 41) #[] #[.pointer (some ⟨kq, 0, none⟩), .pointer (some ⟨ka, 0, none⟩)]] w fun e w' => Put w B v l (Ward.proofN m n t) e w' := by
  intro n
  induction n with
  | zero => intro t; exact nomatch t
  | succ n ih =>
    intro t v l V w B S hS hB hlen hfew hin hN hown hmu
    have HIN := hide hin
    clear hin
    have IH := hide ih
    have HFEW := hide hfew
    have HMU := hide hmu
    clear ih hfew hmu
    obtain ⟨a1, l1, c1, a2, l2, c2, hV, hd⟩ := hN.cells
    have HR := hide (show Row39 V by rw [hV]; exact nodeV_row hd)
    obtain ⟨vp, vc, hVe, -, hrp, ⟨ac, cc, rfl, hkids⟩⟩ := hN
    have HVE := hide hVe
    have HRP := hide hrp
    have HKD := hide hkids
    have HO := hide hown
    have HS := hide hS
    have HLEN := hide hlen
    have HVB := hide (fun g (hg : v.ownBlock = some g) => OwnB.lt hown hg)
    have hk4 : (Ward.Nd.kids t).length ≤ 4 := HFEW.out.2.1
    have hp4 : (Ward.Nd.pts t).length ≤ 4 := HFEW.out.1
    obtain ⟨fs, hu⟩ := underNode
    have HU := hide hu
    obtain ⟨av, cv, rfl⟩ := hown.slice
    clear hu hV hd hVe hrp hkids hown hS hlen
    have hb2 := fun o => (Below.refl w.heap.size w).alloc (Nat.le_refl _) o
    have hr2 := heap_alloc_new w
    have hs2 := fun o => show (w.alloc o).heap.size = w.heap.size + 1 by simp
    go_enter Tryz.func81, Tryz.ntmps81
    go_upto_region 1 with fail
    generalize hW : World.alloc w _ = w1
    have hb1 : Below w.heap.size w w1 := by rw [← hW]; exact hb2 _
    have hn1 : w1.heap[w.heap.size]? = some (.cells V.toArray 90 (0, 0)) := by rw [← hW]; exact hr2 _
    have hs1 : w1.heap.size = w.heap.size + 1 := by rw [← hW]; exact hs2 _
    clear hb2 hr2 hs2 hW
    have HB1 := hide hb1
    have HS1 := hide hs1
    have HN1 := hide (show w1.heap[w.heap.size]? = some (.cells (nodeV vp (.slice ac (Ward.Nd.kids t).length cc) (Ward.Nd.box t) (Ward.Nd.n t) ((Ward.Nd.dig t).map Y)).toArray 90 (0, 0)) by rw [hn1, HVE.out])
    obtain ⟨⟨k0, k1⟩, -, -⟩ := node_cells HN1.out
    clear hb1 hn1 hs1
    by_cases h0 : (Ward.Nd.kids t).length = 0
    · have HPR := hide (proofN_leaf m n t h0)
      have HRB := hide (show ReadsB w1 B vp (Ward.Nd.pts t) from (HRP.out.keep (below_same HB1.out (fun g hg => by have := HS.out g hg; omega)) (fun _ h => h)).low HS.out)
      have HAL := hide (appendLeaf_any (.slice av l.length cv) l vp (Ward.Nd.pts t) w1 B (by have := HS1.out; omega) (by have := HLEN.out; omega) hp4 HRB.out (HO.out.below HB1.out))
      rw [h0] at k1
      go_wp2_with fail
      refine HAL.out.mono ?_
      rintro _ w2 ⟨v2, rfl, ho2, hg2, hf2⟩
      have HP := hide (show Put w B (.slice av l.length cv) l (Ward.proofN m (n + 1) t) (.returned v2) w2 from ⟨v2, rfl, by rw [HPR.out]; exact ho2, grown_lift HB1.out hg2, fresh_lift HB1.out.size hf2⟩)
      clear ho2 hg2 hf2
      go_wp2
      go_ret
      exact HP.out
    · have HPR := hide (proofN_kids m n t h0)
      have h0' : ¬ ((Ward.Nd.kids t).length : Int) = 0 := by omega
      obtain ⟨v2, w2, h2, ho2, hg2, hf2⟩ := append_two (w := w1) (Ward.Nd.kids t).length hk4 (HO.out.below HB1.out) (by have := HS1.out; omega) (by have := HLEN.out; omega)
      have HO2 := hide ho2
      have HG2 := hide hg2
      have HF2 := hide hf2
      have hn2 := (hg2.block w.heap.size (by have := HS1.out; omega) (fun e => by have := (HVB.out _ e.symm).2; omega)).trans HN1.out
      have HN2 := hide hn2
      obtain ⟨⟨k2, k3⟩, -, -⟩ := node_cells hn2
      clear ho2 hg2 hf2 hn2
      go_wp2_with (at_builtin; refine Lib.wpList_append_run _ rfl (.tmp 17) (.tmp 22) 59 59 rfl _ _ rfl rfl _ _ h2 ?_)
      go_loopg [0, 27] (Ward.Nd.kids t).length (fun gk v0 v27 wq => ∃ i : Nat, gk = (Ward.Nd.kids t).length - i ∧ v27 = I i ∧ i ≤ (Ward.Nd.kids t).length ∧ OwnB wq B v0 (l ++ ([2, UInt8.ofNat (Ward.Nd.kids t).length] ++ ((Ward.Nd.kids t).take i).flatMap (kidP m n))) ∧ w1.grownBy wq (Value.slice av l.length cv).ownBlock ∧ Fresh w1 (.slice av l.length cv) v0)
      case atStart => exact ⟨0, by omega, rfl, by omega, by simpa using HO2.out, HG2.out, HF2.out⟩
      case round =>
        clear h2 HO2 HG2 HF2
        obtain ⟨i, hgk, rfl, hi, ho, hgr, hf⟩ := hrel
        have HGK := hide hgk
        have HG := hide hgr
        have HF := hide hf
        have HOI := hide ho
        have hsz := hgr.size
        clear hgk hgr hf ho
        have HSM := hide (show Same S w wr from fun g hg => (HG.out.block g (by have := HS.out g hg; have := HS1.out; omega) (fun e => by have := (HVB.out _ e.symm).1; have := HS.out g hg; omega)).trans (HB1.out.block g (by have := HS.out g hg; omega)))
        have HMW := hide (show MustIs wr B kq ka m from HMU.out.below ((HB1.out.mono hB).trans (below_of_grown HG.out (HO.out.below HB1.out) (by have := HS1.out; omega))))
        by_cases hlt : i < (Ward.Nd.kids t).length
        · obtain ⟨g, o, rfl, hgS, hrows⟩ := HKD.out (fun e => by rw [e] at hlt; simp at hlt)
          obtain ⟨U, hU, hc⟩ := hrows i hlt
          have HU2 := hide (NodeIs.keep HSM.out (fun _ h => h) n _ U hU)
          have HC := hide (rangeAt_block hc (HSM.out g hgS))
          have HT := hide (flat_step (kidP m n) (Ward.Nd.kids t) i hlt)
          have hfp := flat_part (kidP m n) (Ward.Nd.kids t) i hlt
          have HL := hide (show (l ++ ([2, UInt8.ofNat (Ward.Nd.kids t).length] ++ ((Ward.Nd.kids t).take i).flatMap (kidP m n))).length + (kidP m n (Ward.Nd.kids t)[i]).length ≤ 600000 by
            have h1 := HLEN.out
            rw [HPR.out, List.length_append] at h1
            rw [List.length_append, List.length_append]
            omega)
          have HFC := hide (HFEW.out.2.2 _ (List.getElem_mem hlt))
          have HIC := hide (HIN.out _ (List.getElem_mem hlt))
          have HAS := hide (show l ++ ([2, UInt8.ofNat (Ward.Nd.kids t).length] ++ ((Ward.Nd.kids t).take (i + 1)).flatMap (kidP m n)) = (l ++ ([2, UInt8.ofNat (Ward.Nd.kids t).length] ++ ((Ward.Nd.kids t).take i).flatMap (kidP m n))) ++ kidP m n (Ward.Nd.kids t)[i] by rw [HT.out]; simp only [List.append_assoc])
          obtain ⟨d1, m1, e1, d2, m2, e2, hV, hd⟩ := HU2.out.cells
          have HR2 := hide (show Row39 U by rw [hV]; exact nodeV_row hd)
          have HVE2 := hide hV
          clear hc hU hrows hfp HT
          generalize (Ward.Nd.kids t)[i] = c at *
          generalize l ++ ([2, UInt8.ofNat (Ward.Nd.kids t).length] ++ ((Ward.Nd.kids t).take i).flatMap (kidP m n)) = M at *
          have hs : Ward.saidN n c = childT (Ward.boxN n c) (Ward.numN n c) (Ward.digN n c) := (childT_said _ _ _).symm
          have HKP := hide (show kidP m n c = Ward.saidN n c ++ (if m (Ward.boxN n c) = true then 1 :: Ward.proofN m n c else [0]) from rfl)
          have HSL := hide (said_len HU2.out)
          have hM : M.length ≤ 600000 := by have := HL.out; omega
          have HA := hide (fun (w2 : World) (hB : B ≤ w2.heap.size) (hown : OwnB w2 B u0 M) => by
            have h := appendChild_any u0 M (.slice d1 m1 e1) (.slice d2 m2 e2) (Ward.boxN n c) (Ward.numN n c) (Ward.digN n c) w2 B hB (by omega) hd hown
            rw [← hV, ← hs] at h
            exact h)
          clear hs hV hd
          go_upto_region 7 with (first | (refine wpList_load_mid rfl 90 (.tmp 29) rfl g (o + i * 39) rfl U (.struct fs) HC.out HU.out rfl HR2.out.infl ?_) | (refine wpList_store_row rfl 90 (.tmp 8) (.tmp 30) rfl wr.heap.size U.toArray rfl rfl 90 _ (heap_alloc_new wr _) HR2.out.info (by rw [HR2.out.size]; rfl) HR2.out.one ?_; rw [World.setRow_alloc_new]))
          have hb5' := fun o => (Below.refl wr.heap.size wr).alloc (Nat.le_refl _) o
          have hr5' := heap_alloc_new wr
          have hs5' := fun o => show (wr.alloc o).heap.size = wr.heap.size + 1 by simp
          generalize hW : World.alloc wr _ = w5
          have hb5 : Below wr.heap.size wr w5 := by rw [← hW]; exact hb5' _
          have hr5 : w5.heap[wr.heap.size]? = some (.cells U.toArray 90 (0, 0)) := by rw [← hW]; exact hr5' _
          have hs5 : w5.heap.size = wr.heap.size + 1 := by rw [← hW]; exact hs5' _
          clear hb5' hr5' hs5' hW
          have HB5 := hide hb5
          have HR5 := hide hr5
          have hs1 : w.heap.size + 1 ≤ w1.heap.size := by have := HS1.out; omega
          have hs5i : wr.heap.size + 1 ≤ w5.heap.size := by omega
          clear hb5 hr5 hs5
          go_wp2_with (refine wpList_load_row rfl 90 (.tmp 8) rfl wr.heap.size rfl 90 U.toArray (0, 0) (.struct fs) HR5.out HU.out rfl HR2.out.info ?_)
          refine (HA.out w5 (by omega) (HOI.out.below HB5.out)).mono ?_
          rintro _ w6 ⟨v6, rfl, ho6, hg6, hf6⟩
          have hs6 := hg6.size
          have hr6 := (hg6.block wr.heap.size (by omega) (fun e => by have := (HOI.out.lt e.symm).2; omega)).trans HR5.out
          have HO6 := hide ho6
          have HG6 := hide (grown_lift HB5.out hg6)
          have HF6 := hide (fresh_lift HB5.out.size hf6)
          have HF5 := hide hf6
          have HR6 := hide hr6
          rw [HVE2.out] at hr6
          obtain ⟨-, ⟨f1, f2, f3, f4⟩, -⟩ := node_cells hr6
          have HMB := hide (HMW.out w6 (Ward.boxN n c) HIC.out.1 (below_of_grown HG6.out HOI.out (by omega)))
          clear ho6 hg6 hf6 hr6
          generalize m (Ward.boxN n c) = r at *
          generalize Ward.boxN n c = bc at *
          go_wp2_with fail
          refine HMB.out.mono ?_
          rintro _ w7 ⟨rfl, hb7⟩
          have hs7 := hb7.size
          have HB7 := hide hb7
          have HO7 := hide (HO6.out.below hb7)
          have HR7 := hide ((hb7.block wr.heap.size (by omega)).trans HR6.out)
          have HG7 := hide (grown_trans HG6.out HF6.out (grown_of_below (r := v6.ownBlock) hb7))
          have hM2 : (M ++ Ward.saidN n c).length ≤ 700000 := by rw [List.length_append]; have := HSL.out; omega
          generalize hME : M ++ Ward.saidN n c = M2 at *
          have HME := hide hME
          clear hME
          obtain ⟨a6, c6, e6⟩ := HO6.out.slice
          subst e6
          clear hb7 f1 f2 f3 f4 HMB HR6
          cases r with
          | false =>
            obtain ⟨v8, w8, h8, ho8, hg8, hf8⟩ := append_byte 0 0 (by decide) HO7.out (by omega) (by omega)
            have HO8 := hide ho8
            have HG8 := hide hg8
            have HF8 := hide hf8
            clear ho8 hg8 hf8
            go_wp2_with (at_builtin; refine Lib.wpList_append_run _ rfl (.tmp 39) (.tmp 40) 59 59 rfl _ _ rfl rfl _ _ h8 ?_)
            go_roundg ((Ward.Nd.kids t).length - (i + 1))
            case measure => have := HGK.out; omega
            case rel =>
              refine ⟨i + 1, rfl, by go_num, hlt, ?_, grown_trans HG.out HF.out (grown_trans HG7.out HF6.out HG8.out), fresh_trans HF.out HG.out.size (fresh_trans HF6.out HG7.out.size HF8.out)⟩
              rw [HAS.out, HKP.out, if_neg (by simp), ← List.append_assoc, HME.out]
              exact HO8.out
          | true =>
            obtain ⟨v8, w8, h8, ho8, hg8, hf8⟩ := append_byte 1 1 (by decide) HO7.out (by omega) (by omega)
            have hs8 := hg8.size
            have hr8 := (hg8.block wr.heap.size (by omega) (fun e => by
              rcases HF5.out with h | ⟨g', h, hg'⟩
              · rw [h] at e
                have := (HOI.out.lt e.symm).2
                omega
              · rw [← e] at h
                injection h with h
                omega)).trans HR7.out
            have HR8 := hide hr8
            have HO8 := hide ho8
            have HG8 := hide (grown_trans HG7.out HF6.out hg8)
            have HF8 := hide (fresh_trans HF6.out HG7.out.size hf8)
            clear hr8 ho8 hg8 hf8
            have HBB := hide (below_of_grown HG8.out HOI.out (by omega))
            have HIH := hide (IH.out c v8 (M2 ++ [1]) U w8 B S HS.out (by omega) (by
              have h := HL.out
              rw [HKP.out, if_pos rfl, List.length_append, List.length_cons] at h
              rw [← HME.out, List.length_append, List.length_append, List.length_singleton]
              omega) HFC.out HIC.out.2 (NodeIs.keep (fun g hg => HBB.out.block g (HS.out g hg)) (fun _ h => h) n _ U HU2.out) HO8.out (HMW.out.below HBB.out))
            generalize hM3 : M2 ++ [1] = M3 at *
            have HM3 := hide hM3
            clear hM3
            obtain ⟨a8, c8, e8⟩ := HO8.out.slice
            subst e8
            go_wp2_with (first | (at_builtin; refine Lib.wpList_append_run _ rfl (.tmp 42) (.tmp 43) 59 59 rfl _ _ rfl rfl _ _ h8 ?_) | (refine wpList_load_row rfl 90 (.tmp 8) rfl wr.heap.size rfl 90 U.toArray (0, 0) (.struct fs) HR8.out HU.out rfl HR2.out.info ?_))
            refine HIH.out.mono ?_
            rintro _ w9 ⟨v9, rfl, ho9, hg9, hf9⟩
            have HO9 := hide ho9
            have HG9 := hide (grown_trans HG8.out HF8.out hg9)
            have HF9 := hide (fresh_trans HF8.out HG8.out.size hf9)
            clear ho9 hg9 hf9 h8
            go_wp2_with fail
            go_roundg ((Ward.Nd.kids t).length - (i + 1))
            case measure => have := HGK.out; omega
            case rel =>
              refine ⟨i + 1, rfl, by go_num, hlt, ?_, grown_trans HG.out HF.out HG9.out, fresh_trans HF.out HG.out.size HF9.out⟩
              rw [HAS.out, HKP.out, if_pos trivial]
              have h := HO9.out
              rw [← HM3.out, ← HME.out] at h
              simp only [List.append_assoc, List.cons_append, List.nil_append] at h ⊢
              exact h
        · have ei : i = (Ward.Nd.kids t).length := by omega
          subst ei
          rw [List.take_length] at HOI
          go_wp2
          go_ret
          refine ⟨_, rfl, ?_, grown_lift HB1.out HG.out, fresh_lift HB1.out.size HF.out⟩
          rw [HPR.out]
          exact HOI.out
end Go.Proofs.YtenaelkbgkpllaaGreatDoor
/- The library's contract of slices.SortFunc, laid at this program. -/
namespace Go.Proofs.YtenaelkbgkpllaaGreatDoor
open Go.Shelf
def Tryz.sortPt_ren : Go.Shelf.Ren := ⟨fun | 6 => 77 | 15 => 118 | 14 => 117 | 28 => 154 | 29 => 155 | 20 => 146 | 21 => 147 | 22 => 148 | 23 => 149 | 24 => 150 | 25 => 151 | 26 => 152 | 27 => 153 | 46 => 176 | 47 => 177 | 48 => 178 | 49 => 179 | 50 => 180 | 57 => 192 | n => n, fun | 22 => 27 | 24 => 36 | 25 => 83 | 3 => 3 | 39 => 123 | 0 => 0 | 53 => 63 | 55 => 142 | 4 => 4 | 46 => 212 | 45 => 211 | 50 => 81 | 5 => 5 | 9 => 9 | 66 => 243 | 70 => 247 | 76 => 255 | 77 => 256 | n => n, fun | n => n⟩
theorem Tryz.sortPt : Go.Proofs.SlLaysF0.n6 Tryz.prog Tryz.sortPt_ren := {
  mixed := by kernel_rfl
  f6 := ⟨Tryz.f77.name, by decide, Tryz.func77.trans (congrArg some (by kernel_rfl))⟩
  f14 := ⟨Tryz.f117.name, by decide, Tryz.func117.trans (congrArg some (by kernel_rfl))⟩
  f15 := Tryz.func118.trans (congrArg some (by kernel_rfl))
  f20 := ⟨Tryz.f146.name, by decide, Tryz.func146.trans (congrArg some (by kernel_rfl))⟩
  f21 := ⟨Tryz.f147.name, by decide, Tryz.func147.trans (congrArg some (by kernel_rfl))⟩
  f22 := ⟨Tryz.f148.name, by decide, Tryz.func148.trans (congrArg some (by kernel_rfl))⟩
  f23 := ⟨Tryz.f149.name, by decide, Tryz.func149.trans (congrArg some (by kernel_rfl))⟩
  f24 := ⟨Tryz.f150.name, by decide, Tryz.func150.trans (congrArg some (by kernel_rfl))⟩
  f25 := ⟨Tryz.f151.name, by decide, Tryz.func151.trans (congrArg some (by kernel_rfl))⟩
  f26 := ⟨Tryz.f152.name, by decide, Tryz.func152.trans (congrArg some (by kernel_rfl))⟩
  f27 := ⟨Tryz.f153.name, by decide, Tryz.func153.trans (congrArg some (by kernel_rfl))⟩
  f28 := Tryz.func154.trans (congrArg some (by kernel_rfl))
  f29 := Tryz.func155.trans (congrArg some (by kernel_rfl))
  f46 := ⟨Tryz.f176.name, by decide, Tryz.func176.trans (congrArg some (by kernel_rfl))⟩
  f47 := Tryz.func177.trans (congrArg some (by kernel_rfl))
  f48 := Tryz.func178.trans (congrArg some (by kernel_rfl))
  f49 := ⟨Tryz.f179.name, by decide, Tryz.func179.trans (congrArg some (by kernel_rfl))⟩
  f50 := ⟨Tryz.f180.name, by decide, Tryz.func180.trans (congrArg some (by kernel_rfl))⟩
  f57 := ⟨Tryz.f192.name, by decide, Tryz.func192.trans (congrArg some (by kernel_rfl))⟩
  t0 := Tryz.underlying0
  a0 := Tryz.isAgg0
  z0 := Tryz.sizeOf0
  v0 := Tryz.zeroValue0
  t3 := Tryz.underlying3
  a3 := Tryz.isAgg3
  z3 := Tryz.sizeOf3
  v3 := Tryz.zeroValue3
  t4 := Tryz.underlying4
  a4 := Tryz.isAgg4
  z4 := Tryz.sizeOf4
  v4 := Tryz.zeroValue4
  t5 := Tryz.underlying5
  a5 := Tryz.isAgg5
  z5 := Tryz.sizeOf5
  v5 := Tryz.zeroValue5
  t9 := Tryz.underlying9
  a9 := Tryz.isAgg9
  z9 := Tryz.sizeOf9
  v9 := Tryz.zeroValue9
  t22 := Tryz.underlying27
  a22 := Tryz.isAgg27
  z22 := Tryz.sizeOf27
  v22 := Tryz.zeroValue27
  t25 := Tryz.underlying83
  a25 := Tryz.isAgg83
  z25 := Tryz.sizeOf83
  v25 := Tryz.zeroValue83
  t39 := Tryz.underlying123
  a39 := Tryz.isAgg123
  z39 := Tryz.sizeOf123
  v39 := Tryz.zeroValue123
  t45 := Tryz.underlying211
  a45 := Tryz.isAgg211
  z45 := Tryz.sizeOf211
  v45 := Tryz.zeroValue211
  t46 := Tryz.underlying212
  a46 := Tryz.isAgg212
  z46 := Tryz.sizeOf212
  v46 := Tryz.zeroValue212
  t50 := Tryz.underlying81
  a50 := Tryz.isAgg81
  z50 := Tryz.sizeOf81
  v50 := Tryz.zeroValue81
  t53 := Tryz.underlying63
  a53 := Tryz.isAgg63
  z53 := Tryz.sizeOf63
  v53 := Tryz.zeroValue63
  t55 := Tryz.underlying142
  a55 := Tryz.isAgg142
  z55 := Tryz.sizeOf142
  v55 := Tryz.zeroValue142
  t66 := Tryz.underlying243
  a66 := Tryz.isAgg243
  z66 := Tryz.sizeOf243
  v66 := Tryz.zeroValue243
  t70 := Tryz.underlying247
  a70 := Tryz.isAgg247
  z70 := Tryz.sizeOf247
  v70 := Tryz.zeroValue247
  t76 := Tryz.underlying255
  a76 := Tryz.isAgg255
  z76 := Tryz.sizeOf255
  v76 := Tryz.zeroValue255
  t77 := Tryz.underlying256
  a77 := Tryz.isAgg256
  z77 := Tryz.sizeOf256
  v77 := Tryz.zeroValue256 }

end Go.Proofs.YtenaelkbgkpllaaGreatDoor
/- Points sorted. -/
namespace Go.Proofs.YtenaelkbgkpllaaGreatDoor
open Go.RowKit

instance : Inhabited Ward.Pt := ⟨⟨0, 0, 0⟩⟩
set_option maxHeartbeats 1000000 in
/-- how two points compare, with all that it lays -/
theorem compare_grow (p q : Ward.Pt) (w : World) :
    Calls Tryz.prog 35 #[.agg #[I p.id, I p.x, I p.y], .agg #[I q.id, I q.x, I q.y]] w fun e w' => e = .returned (I (cmpP p q)) ∧ ∃ n os, w' = Go.Sort.grow (w.drewN n) os := by
  obtain ⟨pi, px, py⟩ := p
  obtain ⟨qi, qx, qy⟩ := q
  have HE := hide (show cmpP ⟨pi, px, py⟩ ⟨qi, qx, qy⟩ = orI (cmpI px qx) (cmpI py qy) (cmpI pi qi) from rfl)
  go_enter Tryz.func35, Tryz.ntmps35
  go_wp2_with fail
  have hz1 := heap_alloc2_old w
  have hz2 := heap_alloc2_new w
  have hgr := fun o o' o'' => show (((w.alloc o).alloc o').alloc o'').drew = Go.Sort.grow (w.drewN 1) #[o, o', o''] by
    rw [Go.Sort.alloc_eq_grow, Go.Sort.alloc_eq_grow, Go.Sort.alloc_eq_grow, Go.Sort.grow_grow, Go.Sort.grow_grow]
    rfl
  generalize hW : World.alloc _ _ = w0
  have r1 : w0.heap[w.heap.size]? = some (.cells #[I pi, I px, I py] 36 (0, 0)) := by rw [← hW]; exact hz1 _ _
  have r2 : w0.heap[w.heap.size + 1]? = some (.cells #[I qi, I qx, I qy] 36 (0, 0)) := by rw [← hW]; exact hz2 _ _
  have hz0 : w0.heap.size = w.heap.size + 2 := by rw [← hW]; simp
  have HG := hide (show ∀ o, ∃ os, (w0.alloc o).drew = Go.Sort.grow (w.drewN 1) os from fun o => ⟨_, by rw [← hW]; exact hgr _ _ o⟩)
  clear hz1 hz2 hgr hW
  obtain ⟨c1, c2, c3⟩ := row3 r1
  obtain ⟨d1, d2, d3⟩ := row3 r2
  have hS : Two w.heap.size (w.heap.size + 1) ⟨pi, px, py⟩ ⟨qi, qx, qy⟩ w0 := ⟨⟨c1, c2, c3⟩, d1, d2, d3⟩
  have HZ := hide hz0
  have HN := hide (show ∀ o, ((w0.alloc o).drew).heap[w0.heap.size]? = some o from fun o => heap_alloc_new w0 o)
  clear r1 r2 c1 c2 c3 d1 d2 d3 hz0
  go_region_held3 (fun W => (W.cell? ⟨w.heap.size, 0, none⟩ = some (I pi) ∧ W.cell? ⟨w.heap.size, 1, none⟩ = some (I px) ∧ W.cell? ⟨w.heap.size, 2, none⟩ = some (I py)) ∧ W.cell? ⟨w.heap.size + 1, 0, none⟩ = some (I qi) ∧ W.cell? ⟨w.heap.size + 1, 1, none⟩ = some (I qx) ∧ W.cell? ⟨w.heap.size + 1, 2, none⟩ = some (I qy)) (first | assumption | exact hS | exact Two.below hS (((Below.refl _ _).alloc (Nat.le_refl _) _).drew) (by have := HZ.out; omega) (by have := HZ.out; omega)) (first | (go_at_call 67; refine (cmpInt_any _ _ _).mono ?_; rintro _ _ ⟨rfl, rfl⟩) | (go_at_call 66; refine (or_any _ (cmpI px qx) (cmpI py qy) (cmpI pi qi) _ (row3 (HN.out _)).1 (row3 (HN.out _)).2.1 (row3 (HN.out _)).2.2).mono ?_; rintro _ _ ⟨rfl, rfl⟩))
  go_wp2
  go_ret
  obtain ⟨os, hos⟩ := HG.out (.cells #[I (cmpI px qx), I (cmpI py qy), I (cmpI pi qi)] 3)
  exact ⟨by rw [HE.out]; rfl, 1, os, hos⟩
theorem ltP (p q : Ward.Pt) : ltOf cmpP p q = decide (Ward.lt p q) := by
  unfold ltOf
  rw [Bool.eq_iff_iff, decide_eq_true_eq, decide_eq_true_eq]
  exact cmpP_lt p q
theorem swoP : Go.Sort.SWO (ltOf cmpP) := by
  refine ⟨fun x => ?_, fun x y z h1 h2 => ?_, fun x y z h1 h2 => ?_⟩
  · rw [ltP]; exact decide_eq_false (Ward.lt_irrefl x)
  · rw [ltP, decide_eq_true_eq] at *
    exact Ward.lt_trans h1 h2
  · rw [ltP, decide_eq_false_iff_not] at *
    unfold Ward.lt at *
    omega
theorem flatK_get (L : List Ward.Pt) : ∀ t, t < L.length * 3 → (L.flatMap P3)[t]? = some ((P3 (L.toArray[t / 3]!))[t % 3]!) := by
  intro t ht
  have hi : t / 3 < L.length := by omega
  obtain ⟨h0, h1, h2⟩ := P3_at L (t / 3) hi
  have e : L.toArray[t / 3]! = L[t / 3] := by
    rw [getElem!_pos L.toArray (t / 3) (by simpa using hi)]
    exact List.getElem_toArray _
  rw [e]
  have hm : t = t / 3 * 3 + t % 3 := by omega
  have hlt : t % 3 < 3 := Nat.mod_lt _ (by decide)
  rcases (show t % 3 = 0 ∨ t % 3 = 1 ∨ t % 3 = 2 by omega) with h | h | h
  · rw [h]; rw [h, Nat.add_zero] at hm; exact (congrArg (fun k => (L.flatMap P3)[k]?) hm).trans h0
  · rw [h]; rw [h] at hm; exact (congrArg (fun k => (L.flatMap P3)[k]?) hm).trans h1
  · rw [h]; rw [h] at hm; exact (congrArg (fun k => (L.flatMap P3)[k]?) hm).trans h2
theorem flatK_eq (L : List Ward.Pt) : Go.Sort.flatK P3 3 L.toArray = (L.flatMap P3).toArray := by
  have hs : (Go.Sort.flatK P3 3 L.toArray).size = (L.flatMap P3).toArray.size := by rw [Go.Sort.size_flatK, List.size_toArray, List.size_toArray, cells_len]
  refine Array.ext hs fun t h1 h2 => ?_
  have ht : t < L.length * 3 := by rw [Go.Sort.size_flatK, List.size_toArray] at h1; exact h1
  have hg := Go.Sort.get_flatK P3 3 L.toArray t (by rw [List.size_toArray]; exact ht)
  rw [getElem!_pos _ t h1] at hg
  rw [hg, List.getElem_toArray]
  have h := flatK_get L t ht
  rw [List.getElem?_eq_getElem (by rw [cells_len]; exact ht)] at h
  injection h with h
  exact h.symm
theorem own_holds {w : World} {B g c : Nat} {L : List Ward.Pt} (h : Own w B (.slice (some ⟨g, 0, none⟩) L.length c) L) : Go.Sort.HoldsK P3 3 w g 0 L.toArray := by
  unfold Go.Sort.HoldsK
  rw [flatK_eq]
  rcases h.2 with ⟨e, _⟩ | ⟨g', cap, cur, e, hB, hg, hcap, hmax, hcs, htake⟩
  · cases e
  · injection e with e1 e2 e3
    injection e1 with e1
    injection e1 with e1
    subst e1
    intro j hj
    rw [List.size_toArray] at hj
    refine ⟨?_, frozen_of_row _ _ _ _ _ hg⟩
    rw [cell_of_row _ _ _ _ _ _ hg, Nat.zero_add]
    have hj' : j < L.length * 3 := by rw [cells_len] at hj; exact hj
    have ht : (cur.toList.take (L.length * 3))[j]? = (L.flatMap P3)[j]? := by rw [htake]
    rw [List.getElem?_take, if_pos hj'] at ht
    rw [← Array.getElem?_toList, ht, List.getElem?_eq_getElem hj, getElem!_pos _ j (by simpa using hj)]
    simp
end Go.Proofs.YtenaelkbgkpllaaGreatDoor
/- Points sorted: the call. -/
namespace Go.Proofs.YtenaelkbgkpllaaGreatDoor
open Go.RowKit

theorem heap_mapBlock {w : World} {g : Nat} {f : Array Value → Array Value} {c : Array Value} {e : TypeId} {fr : Nat × Nat} (h : w.heap[g]? = some (.cells c e fr)) : (Go.Sort.mapBlock w g f).heap[g]? = some (.cells (f c) e fr) := by
  show (w.heap.modify g (Go.Sort.onCells f))[g]? = _
  rw [Array.getElem?_modify, if_pos rfl, h]
  rfl
theorem heap_mapBlock_other {w : World} {g k : Nat} {f : Array Value → Array Value} (h : g ≠ k) : (Go.Sort.mapBlock w g f).heap[k]? = w.heap[k]? := by
  show (w.heap.modify g (Go.Sort.onCells f))[k]? = _
  rw [Array.getElem?_modify, if_neg h]
theorem putCells_size (F cur : Array Value) : (Go.Sort.putCells id 0 F cur).size = cur.size := by
  unfold Go.Sort.putCells
  exact Array.size_mapIdx
theorem putCells_take (F : List Value) (cur : Array Value) (h : F.length ≤ cur.size) : (Go.Sort.putCells id 0 F.toArray cur).toList.take F.length = F := by
  apply List.ext_getElem?
  intro k
  rw [List.getElem?_take]
  by_cases hk : k < F.length
  · rw [if_pos hk, Array.getElem?_toList]
    unfold Go.Sort.putCells
    rw [Array.getElem?_mapIdx, Array.getElem?_eq_getElem (by omega), Option.map_some, if_pos (by rw [List.size_toArray]; omega), List.getElem?_eq_getElem hk, Nat.sub_zero, getElem!_pos _ k (by simpa using hk), List.getElem_toArray]
    rfl
  · rw [if_neg hk, List.getElem?_eq_none (by omega)]
theorem perm_of_in {d d' : Array Ward.Pt} (h : Go.Sort.PermIn 0 d.size d d') : d'.toList.Perm d.toList := by
  obtain ⟨h1, -, h3⟩ := h
  have e1 : d'.extract 0 d.size = d' := by rw [← h1]; exact Array.extract_size
  have e2 : d.extract 0 d.size = d := Array.extract_size
  rw [e1, e2] at h3
  exact h3
theorem sorted_of_in {d : Array Ward.Pt} (h : Go.Sort.SortedIn (ltOf cmpP) 0 d.size d) (hi : Ward.Ids d.toList) : Ward.Sorted d.toList := by
  refine List.pairwise_iff_getElem.2 fun i j hi' hj hij => ?_
  have hj' : j < d.size := by simpa using hj
  have h1 := h i j (Nat.zero_le _) hij hj'
  rw [ltP, decide_eq_false_iff_not, getElem!_pos d j hj', getElem!_pos d i (by omega)] at h1
  have hne := List.pairwise_iff_getElem.1 hi i j hi' hj hij
  simp only [Array.getElem_toList] at hne ⊢
  exact Ward.lt_tot (Ne.symm hne) h1
theorem sort_own {w : World} {B g c n : Nat} {L : List Ward.Pt} {d' : Array Ward.Pt} {os : Array Obj} (h : Own w B (.slice (some ⟨g, 0, none⟩) L.length c) L) (hs : d'.size = L.length) :
    Own (sortWorldK P3 3 w g 0 n d' os) B (.slice (some ⟨g, 0, none⟩) L.length c) d'.toList ∧ w.grownBy (sortWorldK P3 3 w g 0 n d' os) (some g) := by
  have hlt : g < w.heap.size := h.lt rfl
  have hl : d'.toList.length = L.length := by simpa using hs
  rcases h.2 with ⟨e, _⟩ | ⟨g', cap, cur, e, hB, hg, hcap, hmax, hcs, htake⟩
  · cases e
  · injection e with e1 e2 e3
    injection e1 with e1
    injection e1 with e1
    subst e1 e3
    have hr : (sortWorldK P3 3 w g 0 n d' os).heap[g]? = some (.cells (Go.Sort.putCells id 0 (Go.Sort.flatK P3 3 d') cur) 36 (0, 0)) := by
      unfold sortWorldK
      rw [Go.Sort.heap_grow_old _ _ (by rw [Go.Sort.size_putRowK]; exact hlt)]
      exact heap_mapBlock (w := Go.Sort.ahead w n) hg
    have hf : Go.Sort.flatK P3 3 d' = (d'.toList.flatMap P3).toArray := by
      have := flatK_eq d'.toList
      rw [Array.toArray_toList] at this
      exact this
    refine ⟨⟨by rw [cells_len], .inr ⟨g, c, _, by rw [hl], hB, hr, by rw [hl]; exact hcap, hmax, by rw [putCells_size]; exact hcs, ?_⟩⟩, ⟨rfl, rfl, rfl, ?_, fun k hk hne => ?_⟩⟩
    · rw [hf]
      have h2 := putCells_take (d'.toList.flatMap P3) cur (by rw [cells_len, hl, hcs]; exact Nat.mul_le_mul_right _ hcap)
      rw [cells_len] at h2
      exact h2
    · unfold sortWorldK
      rw [Go.Sort.size_grow, Go.Sort.size_putRowK]
      exact Nat.le_add_right _ _
    · unfold sortWorldK
      rw [Go.Sort.heap_grow_old _ _ (by rw [Go.Sort.size_putRowK]; exact hk)]
      exact heap_mapBlock_other (w := Go.Sort.ahead w n) (fun e => hne (by rw [e]))
/-- the points of a row, put in order -/
theorem sort_any (v : Value) (l : List Ward.Pt) (w : World) (B : Nat) (hown : Own w B v l) (hl : l.length ≤ 100000) (hi : Ward.Ids l) :
    Calls Tryz.prog 77 #[v, .func (.func 35) #[] #[]] w fun e w' => e = .returned (.tuple #[]) ∧ Own w' B v (Ward.sortP l) ∧ w.grownBy w' v.ownBlock := by
  rcases hown.2 with ⟨rfl, h0⟩ | ⟨g, cap, cur, rfl, _⟩
  · have hn : l = [] := List.length_eq_zero_iff.1 h0
    subst hn
    refine (AnyF.slices_SortFunc_none Tryz.sortPt none 0 (.func (.func 35) #[] #[]) w).mono ?_
    rintro _ _ ⟨rfl, rfl⟩
    exact ⟨rfl, World.ownsRow_nil _ _ _ _, grown_of_below (Below.refl _ _)⟩
  · have eg : ∀ args w, (callFunc 35 args).run Tryz.prog w = .ok (.enter 35 args) w := enters_of Tryz.func35 (by kernel_rfl) rfl
    have hcon := AnyQ.slices_SortFunc Tryz.sortPt 3 Tryz.isAgg36 Tryz.sizeOf36 P3 (fun _ => rfl) (fun x v hv => cells_one (L := [x]) v (by simpa using hv)) cmpP swoP 35 #[] g 0 cap l.toArray w eg (fun _ _ _ _ x y => compare_grow x y _) (own_holds hown) (hown.lt rfl) (by rw [List.size_toArray]; omega)
    rw [List.size_toArray] at hcon
    refine Calls.mono hcon ?_
    rintro _ _ ⟨rfl, d', n, os, hp, hs, rfl⟩
    have hsz : d'.size = l.length := by have := hp.1; rw [List.size_toArray] at this; exact this
    have hp' : d'.toList.Perm l := by
      have := perm_of_in (d := l.toArray) (by rw [List.size_toArray]; exact hp)
      simpa using this
    have hids : Ward.Ids d'.toList := (Ward.ids_perm hp').2 hi
    have e : Ward.sortP l = d'.toList := Ward.sortP_eq (sorted_of_in (by rw [hsz]; exact hs) hids) hp' hi
    obtain ⟨h1, h2⟩ := sort_own (n := n) (os := os) hown hsz
    rw [e]
    exact ⟨rfl, h1, h2⟩
end Go.Proofs.YtenaelkbgkpllaaGreatDoor
