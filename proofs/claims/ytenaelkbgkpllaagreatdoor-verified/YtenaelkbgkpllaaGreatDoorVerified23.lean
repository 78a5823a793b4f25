/- A test of every child. -/
import Derived.Test.YtenaelkbgkpllaaGreatDoorVerified22
import Derived.Test.YtenaelkbgkpllaaGreatDoorVerified20
import Derived.Test.YtenaelkbgkpllaaGreatDoorVerified19
import Derived.Test.YtenaelkbgkpllaaGreatDoorVerified21
import Derived.Deep.CutRange
import Derived.Test.YtenaelkbgkpllaaGreatDoorVerified15
import Derived.BigQuiet
import Derived.Test.YtenaelkbgkpllaaGreatDoorVerified18
namespace Go.Proofs.YtenaelkbgkpllaaGreatDoor
open Go.RowKit

/-- of a test of children: what it says -/
def Holdsd (w : World) (kq ka : Nat) (P : (n : Nat) → Ward.NT n → Bool) : Prop := ∀ (W : World) (n : Nat) (t : Ward.NT n) (V : List Value) (S : Nat → Prop), (∀ g, S g → g < W.heap.size) → NodeIs W S n t V → Ward.Few n t → Ward.NumsN n t → (Ward.boxN n t).In → Below w.heap.size w W → Calls Tryz.prog 89 #[.agg V.toArray, .pointer (some ⟨kq, 0, none⟩), .pointer (some ⟨ka, 0, none⟩)] W fun e w' => e = .returned (.bool (P n t)) ∧ Below W.heap.size W w'
theorem Holdsd.below {w w' : World} {kq ka : Nat} {P : (n : Nat) → Ward.NT n → Bool} (h : Holdsd w kq ka P) (hb : Below w.heap.size w w') : Holdsd w' kq ka P := fun W n t V S hS hN h1 h2 h3 hW => h W n t V S hS hN h1 h2 h3 (hb.trans (hW.mono hb.size))
attribute [local go_sem ↓] Go.wp_at_zero Go.wp_at_succ wp_load_nodeG
set_option maxRecDepth 100000 in
set_option maxHeartbeats 4000000 in
theorem every_d (kq ka : Nat) (P : (n : Nat) → Ward.NT n → Bool) : ∀ (n : Nat) (t : Ward.NT n) (V : List Value) (w : World) (S : Nat → Prop) (_ : ∀ g, S g → g < w.heap.size) (_ : NodeIs w S n t V) (_ : Ward.Few n t) (_ : Ward.NumsN n t) (_ : Ward.InN n t) (_ : Holdsd w kq ka P),
    Calls Tryz.prog 84 #[.agg V.toArray, .func (.func 89) #[] #[.pointer (some ⟨kq, 0, none⟩), .pointer (some ⟨ka, 0, none⟩)]] w fun e w' => e = .returned (.bool (Ward.everyN P n t)) ∧ Below w.heap.size w w' := by
  intro n
  induction n with
  | zero => intro t; exact nomatch t
  | succ n ih =>
    intro t V w S hS hN hfew hnum hin hho
    have HEV := hide (every_step P n t)
    have IH := hide ih
    have HFEW := hide hfew
    have HNUM := hide hnum
    have HIN := hide hin
    have HHO := hide hho
    obtain ⟨a1, l1, c1, a2, l2, c2, hV, hd⟩ := hN.cells
    have HR := hide (show Row39 V by rw [hV]; exact nodeV_row hd)
    obtain ⟨vp, vc, hVe, -, hrp, ⟨ac, cc, rfl, hkids⟩⟩ := hN
    have HVE := hide hVe
    have HKD := hide hkids
    have HS := hide hS
    have hk4 : (Ward.Nd.kids t).length ≤ 4 := HFEW.out.2.1
    obtain ⟨fs, hu⟩ := underNode
    have HU := hide hu
    clear hu hV hd hVe hrp hkids hS ih hfew hnum hin hho
    have hb2 := fun o => (Below.refl w.heap.size w).alloc (Nat.le_refl _) o
    have hr2 := heap_alloc_new w
    go_enter Tryz.func84, Tryz.ntmps84
    go_upto_region 1 with fail
    generalize hW : World.alloc w _ = w1
    have hb1 : Below w.heap.size w w1 := by rw [← hW]; exact hb2 _
    have hn1 : w1.heap[w.heap.size]? = some (.cells V.toArray 90 (0, 0)) := by rw [← hW]; exact hr2 _
    clear hb2 hr2 hW
    have hs1 : w.heap.size < w1.heap.size := (Array.getElem?_eq_some_iff.1 hn1).1
    have HB1 := hide hb1
    have HN1 := hide (show w1.heap[w.heap.size]? = some (.cells (nodeV vp (.slice ac (Ward.Nd.kids t).length cc) (Ward.Nd.box t) (Ward.Nd.n t) ((Ward.Nd.dig t).map Y)).toArray 90 (0, 0)) by rw [hn1, HVE.out])
    obtain ⟨⟨k0, k1⟩, -, -⟩ := node_cells HN1.out
    clear hb1 hn1
    go_wp2_with fail
    go_loopg [10] (Ward.Nd.kids t).length (fun gk v10 wq => ∃ i : Nat, gk = (Ward.Nd.kids t).length - i ∧ v10 = I i ∧ i ≤ (Ward.Nd.kids t).length ∧ Below w.heap.size w wq ∧ ((Ward.Nd.kids t).take i).all (fun c => P n c && Ward.everyN P n c) = true)
    case atStart => exact ⟨0, by omega, rfl, by omega, HB1.out, rfl⟩
    case round =>
      obtain ⟨i, hgk, rfl, hi, hb, ha⟩ := hrel
      have HGK := hide hgk
      have HB := hide hb
      have HA := hide ha
      have hsz := hb.size
      clear hgk hb ha
      by_cases hlt : i < (Ward.Nd.kids t).length
      · obtain ⟨g, o, rfl, hgS, hrows⟩ := HKD.out (fun e => by rw [e] at hlt; simp at hlt)
        obtain ⟨U, hU, hc⟩ := hrows i hlt
        have hgl := HS.out g hgS
        have HC := hide (rangeAt_block hc (HB.out.block g hgl))
        have HU2 := hide (NodeIs.keep (S' := S) (below_same HB.out HS.out) (fun _ h => h) n _ U hU)
        obtain ⟨d1, m1, e1, d2, m2, e2, hV, hd⟩ := HU2.out.cells
        have HR2 := hide (show Row39 U by rw [hV]; exact nodeV_row hd)
        have HST := hide (all_take (fun c => P n c && Ward.everyN P n c) (Ward.Nd.kids t) i hlt HA.out)
        have HHX := hide (fun (W : World) (hb : Below wr.heap.size wr W) => HHO.out W n _ U S (fun j hj => by have := HS.out j hj; have := hb.size; omega) (NodeIs.keep (S' := S) (below_same hb (fun j hj => by have := HS.out j hj; omega)) (fun _ h => h) n _ U HU2.out) (HFEW.out.2.2 _ (List.getElem_mem hlt)) (HNUM.out _ (List.getElem_mem hlt)).2 (HIN.out _ (List.getElem_mem hlt)).1 (HB.out.trans (hb.mono hsz)))
        have HIX := hide (fun (W : World) (hb : Below wr.heap.size wr W) => IH.out _ U W S (fun j hj => by have := HS.out j hj; have := hb.size; omega) (NodeIs.keep (S' := S) (below_same hb (fun j hj => by have := HS.out j hj; omega)) (fun _ h => h) n _ U HU2.out) (HFEW.out.2.2 _ (List.getElem_mem hlt)) (HNUM.out _ (List.getElem_mem hlt)).2 (HIN.out _ (List.getElem_mem hlt)).2 (HHO.out.below (HB.out.trans (hb.mono hsz))))
        clear hc hU hrows hV hd
        generalize (Ward.Nd.kids t)[i] = c at *
        go_upto_region 4 with (first | (refine wpList_load_mid rfl 90 (.tmp 12) rfl g (o + i * 39) rfl U (.struct fs) HC.out HU.out rfl HR2.out.infl ?_) | (refine wpList_store_row rfl 90 (.tmp 6) (.tmp 13) rfl wr.heap.size U.toArray rfl rfl 90 _ (heap_alloc_new wr _) HR2.out.info (by rw [HR2.out.size]; rfl) HR2.out.one ?_; rw [World.setRow_alloc_new]))
        have hb5' := fun o => (Below.refl wr.heap.size wr).alloc (Nat.le_refl _) o
        have hr5' := heap_alloc_new wr
        generalize hW : World.alloc wr _ = w5
        have hb5 : Below wr.heap.size wr w5 := by rw [← hW]; exact hb5' _
        have hr5 : w5.heap[wr.heap.size]? = some (.cells U.toArray 90 (0, 0)) := by rw [← hW]; exact hr5' _
        clear hb5' hr5' hW
        have hs5 : wr.heap.size < w5.heap.size := (Array.getElem?_eq_some_iff.1 hr5).1
        have HB5 := hide hb5
        have HR5 := hide hr5
        clear hb5 hr5
        have HX := hide (HHX.out w5 HB5.out)
        generalize P n c = r at *
        go_wp2_with (refine wpList_load_row rfl 90 (.tmp 6) rfl wr.heap.size rfl 90 U.toArray (0, 0) (.struct fs) HR5.out HU.out rfl HR2.out.info ?_)
        refine HX.out.mono ?_
        rintro _ w6 ⟨rfl, hb6⟩
        have hs6 := hb6.size
        have HB6 := hide (HB5.out.trans (hb6.mono (by omega)))
        have HR6 := hide ((hb6.block wr.heap.size hs5).trans HR5.out)
        clear hb6
        cases r with
        | false =>
          go_wp2_with fail
          go_ret
          refine ⟨?_, HB.out.trans (HB6.out.mono (by omega))⟩
          rw [HEV.out, HST.out.2 rfl]; rfl
        | true =>
          have HY := hide (HIX.out w6 HB6.out)
          generalize Ward.everyN P n c = r2 at *
          have n6 : NodeRow w6 (.pointer (some ⟨wr.heap.size, 0, none⟩)) := nodeRow_of HR6.out HR2.out.size
          have l6 : loadVal w6 (.pointer (some ⟨wr.heap.size, 0, none⟩)) = .agg U.toArray := loadVal_row HR6.out
          go_wp2_with fail
          refine HY.out.mono ?_
          rintro _ w7 ⟨rfl, hb7⟩
          have HB7 := hide (HB6.out.trans (hb7.mono (by omega)))
          clear hb7 n6 l6
          cases r2 with
          | false =>
            go_wp2_with fail
            go_ret
            refine ⟨?_, HB.out.trans (HB7.out.mono (by omega))⟩
            rw [HEV.out, HST.out.2 rfl]; rfl
          | true =>
            go_wp2_with fail
            go_roundg ((Ward.Nd.kids t).length - (i + 1))
            case measure => have := HGK.out; omega
            case rel => exact ⟨i + 1, rfl, by go_num, hlt, HB.out.trans (HB7.out.mono (by omega)), HST.out.1 rfl⟩
      · have ei : i = (Ward.Nd.kids t).length := by omega
        subst ei
        rw [List.take_length] at HA
        go_wp2_with fail
        go_ret
        refine ⟨?_, HB.out⟩
        rw [HEV.out, HA.out]; rfl
end Go.Proofs.YtenaelkbgkpllaaGreatDoor
/- BoxesHold, DigestsHold; what LacksNone and WastesNone ask of a child. -/
namespace Go.Proofs.YtenaelkbgkpllaaGreatDoor
open Go.RowKit

set_option maxRecDepth 100000 in
set_option maxHeartbeats 4000000 in
theorem boxesHold_any (n : Nat) (t : Ward.NT n) (V : List Value) (w : World) (hN : NodeIs w (fun j => j < w.heap.size) n t V) (hF : Ward.Fine n t) (hK : KT w) :
    Calls Tryz.prog 47 #[.agg V.toArray] w fun e w' => e = .returned (.bool (Ward.everyN Ward.boxHolds n t)) ∧ Below w.heap.size w w' := by
  have HX := hide (fun (W : World) (hb : Below w.heap.size w W) => every_a Ward.boxHolds n t V W (fun j => j < w.heap.size) (fun g hg => Nat.lt_of_lt_of_le hg hb.size) (NodeIs.keep (below_same hb (fun _ h => h)) (fun _ h => h) n t V hN) hF.few hF.nums hF.inn (fun W2 n2 t2 V2 S2 hS2 hN2 hf2 hn2 _ hb2 => boxHold_any n2 t2 V2 W2 S2 hS2 hN2 hf2 hn2 ((hK.below hb).below hb2)))
  have HR := hide hN.shape.row
  obtain ⟨fs, hu⟩ := underNode
  have HU := hide hu
  have hb1' := fun o => (Below.refl w.heap.size w).alloc (Nat.le_refl _) o
  have hr1' := heap_alloc_new w
  clear hN hF hK hu
  go_enter Tryz.func47, Tryz.ntmps47
  go_upto_region 1 with fail
  generalize hW : World.alloc w _ = w1
  have hb1 : Below w.heap.size w w1 := by rw [← hW]; exact hb1' _
  have hr1 : w1.heap[w.heap.size]? = some (.cells V.toArray 90 (0, 0)) := by rw [← hW]; exact hr1' _
  clear hb1' hr1' hW
  have hs1 := hb1.size
  have HN1 := hide hr1
  have HB1 := hide hb1
  have HXX := hide (HX.out w1 hb1)
  clear hb1 hr1
  go_wp2_with (refine wpList_load_row rfl 90 (.tmp 1) rfl w.heap.size rfl 90 V.toArray (0, 0) (.struct fs) HN1.out HU.out rfl HR.out.info ?_)
  refine HXX.out.mono ?_
  rintro _ w2 ⟨rfl, hb2⟩
  have HB2 := hide (HB1.out.trans (hb2.mono hs1))
  clear hb2
  go_wp2_with fail
  go_ret
  exact ⟨rfl, HB2.out⟩
set_option maxRecDepth 100000 in
set_option maxHeartbeats 4000000 in
theorem digestsHold_any (n : Nat) (t : Ward.NT n) (V : List Value) (w : World) (hN : NodeIs w (fun j => j < w.heap.size) n t V) (hF : Ward.Fine n t) (hK : KT w) :
    Calls Tryz.prog 48 #[.agg V.toArray] w fun e w' => e = .returned (.bool (Ward.everyN Ward.digHolds n t)) ∧ Below w.heap.size w w' := by
  have HX := hide (fun (W : World) (hb : Below w.heap.size w W) => every_b Ward.digHolds n t V W (fun j => j < w.heap.size) (fun g hg => Nat.lt_of_lt_of_le hg hb.size) (NodeIs.keep (below_same hb (fun _ h => h)) (fun _ h => h) n t V hN) hF.few hF.nums hF.inn (fun W2 n2 t2 V2 S2 hS2 hN2 hf2 hn2 _ hb2 => digHold_any n2 t2 V2 W2 S2 hS2 hN2 hf2 hn2 ((hK.below hb).below hb2)))
  have HR := hide hN.shape.row
  obtain ⟨fs, hu⟩ := underNode
  have HU := hide hu
  have hb1' := fun o => (Below.refl w.heap.size w).alloc (Nat.le_refl _) o
  have hr1' := heap_alloc_new w
  clear hN hF hK hu
  go_enter Tryz.func48, Tryz.ntmps48
  go_upto_region 1 with fail
  generalize hW : World.alloc w _ = w1
  have hb1 : Below w.heap.size w w1 := by rw [← hW]; exact hb1' _
  have hr1 : w1.heap[w.heap.size]? = some (.cells V.toArray 90 (0, 0)) := by rw [← hW]; exact hr1' _
  clear hb1' hr1' hW
  have hs1 := hb1.size
  have HN1 := hide hr1
  have HB1 := hide hb1
  have HXX := hide (HX.out w1 hb1)
  clear hb1 hr1
  go_wp2_with (refine wpList_load_row rfl 90 (.tmp 1) rfl w.heap.size rfl 90 V.toArray (0, 0) (.struct fs) HN1.out HU.out rfl HR.out.info ?_)
  refine HXX.out.mono ?_
  rintro _ w2 ⟨rfl, hb2⟩
  have HB2 := hide (HB1.out.trans (hb2.mono hs1))
  clear hb2
  go_wp2_with fail
  go_ret
  exact ⟨rfl, HB2.out⟩
set_option maxRecDepth 100000 in
set_option maxHeartbeats 4000000 in
theorem lack_closure {q : Ward.Qr} (hq : Ward.mayBe q = true) {P : List Ward.Pt} (hP : ∀ p ∈ P, p.Ok) (w : World) (kq ka B : Nat) (v : Value) (hqr : w.heap[kq]? = some (.cells #[I q.kind, I q.a, I q.b, I q.c, I q.d, I q.x, I q.y, I q.k] 46 (0, 0))) (ha : w.heap[ka]? = some (.cells #[v] 27 (0, 0))) (hv : Own w B v (Ward.ans q P)) : Holdsc w kq ka (Ward.lackN q (Ward.ans q P)) := by
  intro W n t V S hS hN hfew hnum hi hW
  have hq0 := (Array.getElem?_eq_some_iff.1 hqr).1
  have ha0 := (Array.getElem?_eq_some_iff.1 ha).1
  have hb2 := fun o => (Below.refl W.heap.size W).alloc (Nat.le_refl _) o
  have hr2 := heap_alloc_new W
  have HNN := hide hN
  have HM := hide (fun (W' : World) (hb : Below w.heap.size w W') => mustShow_any hq hP W' B v (Ward.boxN n t) hi (hv.below hb))
  have HX := hide (fun (W' : World) (hb : Below W.heap.size W W') => isShown_any n t V W' S (NodeIs.keep (below_same hb hS) (fun _ h => h) n t V hN) hfew)
  have HR := hide hN.shape.row
  have HE := hide (show Ward.lackN q (Ward.ans q P) n t = (Ward.shownN n t || !Ward.must q (Ward.ans q P) (Ward.boxN n t)) from rfl)
  rw [HE.out]
  obtain ⟨fs, hu⟩ := underNode
  have HU := hide hu
  obtain ⟨av, cv, rfl⟩ := hv.slice
  generalize Ward.must q (Ward.ans q P) (Ward.boxN n t) = r at *
  generalize Ward.shownN n t = sh at *
  clear hv hN hfew hnum hi hS HE hu
  generalize (Ward.ans q P).length = al at *
  go_enter Tryz.func88, Tryz.ntmps88
  go_upto_region 1 with fail
  generalize hE : World.alloc W _ = w1
  have hb1 : Below W.heap.size W w1 := by rw [← hE]; exact hb2 _
  have hx1 : w1.heap[W.heap.size]? = some (.cells V.toArray 90 (0, 0)) := by rw [← hE]; exact hr2 _
  clear hb2 hr2 hE
  have hs1 : W.heap.size < w1.heap.size := (Array.getElem?_eq_some_iff.1 hx1).1
  have HB1 := hide hb1
  have HX1 := hide hx1
  have HQR := hide hqr
  have HAR := hide ha
  have HWW := hide hW
  have HXX := hide (HX.out w1 hb1)
  clear hb1 hx1 hqr ha hW
  go_wp2_with (refine wpList_load_row rfl 90 (.tmp 3) rfl W.heap.size rfl 90 V.toArray (0, 0) (.struct fs) HX1.out HU.out rfl HR.out.info ?_)
  refine HXX.out.mono ?_
  rintro _ w2 ⟨rfl, hb2⟩
  have hs2 := hb2.size
  have HB2 := hide (HB1.out.trans (hb2.mono (by omega)))
  have HX2 := hide ((hb2.block W.heap.size hs1).trans HX1.out)
  clear hb2
  have HBW := hide (show Below w.heap.size w w2 from HWW.out.trans (HB2.out.mono HWW.out.size))
  cases sh with
  | true =>
    go_wp2_with fail
    go_ret
    exact ⟨rfl, HB2.out⟩
  | false =>
    obtain ⟨k0, k1, k2, k3, k4, k5, k6, k7⟩ := rowQ8 ((HBW.out.block kq hq0).trans HQR.out)
    have j0 : w2.cell? ⟨ka, 0, none⟩ = some (.slice av al cv) := by rw [cell_of_row _ _ _ _ _ _ ((HBW.out.block ka ha0).trans HAR.out)]; rfl
    obtain ⟨c1, c2, c3, c4, -⟩ := box_cells HNN.out HX2.out
    go_wp2_with fail
    refine (HM.out w2 HBW.out).mono ?_
    rintro _ w3 ⟨rfl, hb3⟩
    have HB3 := hide (HB2.out.trans (hb3.mono (by omega)))
    clear hb3
    go_wp2_with fail
    go_ret
    refine ⟨?_, HB3.out⟩
    first | rfl | simp
set_option maxRecDepth 100000 in
set_option maxHeartbeats 4000000 in
theorem waste_closure {q : Ward.Qr} (hq : Ward.mayBe q = true) {P : List Ward.Pt} (hP : ∀ p ∈ P, p.Ok) (w : World) (kq ka B : Nat) (v : Value) (hqr : w.heap[kq]? = some (.cells #[I q.kind, I q.a, I q.b, I q.c, I q.d, I q.x, I q.y, I q.k] 46 (0, 0))) (ha : w.heap[ka]? = some (.cells #[v] 27 (0, 0))) (hv : Own w B v (Ward.ans q P)) : Holdsd w kq ka (Ward.wasteN q (Ward.ans q P)) := by
  intro W n t V S hS hN hfew hnum hi hW
  have hq0 := (Array.getElem?_eq_some_iff.1 hqr).1
  have ha0 := (Array.getElem?_eq_some_iff.1 ha).1
  have hb2 := fun o => (Below.refl W.heap.size W).alloc (Nat.le_refl _) o
  have hr2 := heap_alloc_new W
  have HNN := hide hN
  have HM := hide (fun (W' : World) (hb : Below w.heap.size w W') => mustShow_any hq hP W' B v (Ward.boxN n t) hi (hv.below hb))
  have HX := hide (fun (W' : World) (hb : Below W.heap.size W W') => isShown_any n t V W' S (NodeIs.keep (below_same hb hS) (fun _ h => h) n t V hN) hfew)
  have HR := hide hN.shape.row
  have HE := hide (show Ward.wasteN q (Ward.ans q P) n t = (!Ward.shownN n t || Ward.must q (Ward.ans q P) (Ward.boxN n t)) from rfl)
  rw [HE.out]
  obtain ⟨fs, hu⟩ := underNode
  have HU := hide hu
  obtain ⟨av, cv, rfl⟩ := hv.slice
  generalize Ward.must q (Ward.ans q P) (Ward.boxN n t) = r at *
  generalize Ward.shownN n t = sh at *
  clear hv hN hfew hnum hi hS HE hu
  generalize (Ward.ans q P).length = al at *
  go_enter Tryz.func89, Tryz.ntmps89
  go_upto_region 1 with fail
  generalize hE : World.alloc W _ = w1
  have hb1 : Below W.heap.size W w1 := by rw [← hE]; exact hb2 _
  have hx1 : w1.heap[W.heap.size]? = some (.cells V.toArray 90 (0, 0)) := by rw [← hE]; exact hr2 _
  clear hb2 hr2 hE
  have hs1 : W.heap.size < w1.heap.size := (Array.getElem?_eq_some_iff.1 hx1).1
  have HB1 := hide hb1
  have HX1 := hide hx1
  have HQR := hide hqr
  have HAR := hide ha
  have HWW := hide hW
  have HXX := hide (HX.out w1 hb1)
  clear hb1 hx1 hqr ha hW
  go_wp2_with (refine wpList_load_row rfl 90 (.tmp 3) rfl W.heap.size rfl 90 V.toArray (0, 0) (.struct fs) HX1.out HU.out rfl HR.out.info ?_)
  refine HXX.out.mono ?_
  rintro _ w2 ⟨rfl, hb2⟩
  have hs2 := hb2.size
  have HB2 := hide (HB1.out.trans (hb2.mono (by omega)))
  have HX2 := hide ((hb2.block W.heap.size hs1).trans HX1.out)
  clear hb2
  have HBW := hide (show Below w.heap.size w w2 from HWW.out.trans (HB2.out.mono HWW.out.size))
  cases sh with
  | false =>
    go_wp2_with fail
    go_ret
    exact ⟨rfl, HB2.out⟩
  | true =>
    obtain ⟨k0, k1, k2, k3, k4, k5, k6, k7⟩ := rowQ8 ((HBW.out.block kq hq0).trans HQR.out)
    have j0 : w2.cell? ⟨ka, 0, none⟩ = some (.slice av al cv) := by rw [cell_of_row _ _ _ _ _ _ ((HBW.out.block ka ha0).trans HAR.out)]; rfl
    obtain ⟨c1, c2, c3, c4, -⟩ := box_cells HNN.out HX2.out
    go_wp2_with fail
    refine (HM.out w2 HBW.out).mono ?_
    rintro _ w3 ⟨rfl, hb3⟩
    have HB3 := hide (HB2.out.trans (hb3.mono (by omega)))
    clear hb3
    go_wp2_with fail
    go_ret
    refine ⟨?_, HB3.out⟩
    first | rfl | simp
end Go.Proofs.YtenaelkbgkpllaaGreatDoor
/- LacksNone, WastesNone. -/
namespace Go.Proofs.YtenaelkbgkpllaaGreatDoor
open Go.RowKit

set_option maxRecDepth 100000 in
set_option maxHeartbeats 4000000 in
theorem lacks_any {q : Ward.Qr} (hq : Ward.mayBe q = true) {P : List Ward.Pt} (hP : ∀ p ∈ P, p.Ok) (n : Nat) (t : Ward.NT n) (V : List Value) (v : Value) (w : World) (B : Nat) (hN : NodeIs w (fun j => j < w.heap.size) n t V) (hF : Ward.Fine n t) (hv : Own w B v (Ward.ans q P)) :
    Calls Tryz.prog 49 #[.agg V.toArray, Qv q, v] w fun e w' => e = .returned (.bool (Ward.everyN (Ward.lackN q (Ward.ans q P)) n t)) ∧ Below w.heap.size w w' := by
  have HX := hide (fun (W : World) (hb : Below w.heap.size w W) (hqr : W.heap[w.heap.size + 1]? = some (.cells #[I q.kind, I q.a, I q.b, I q.c, I q.d, I q.x, I q.y, I q.k] 46 (0, 0))) (ha : W.heap[w.heap.size + 2]? = some (.cells #[v] 27 (0, 0))) => every_c (w.heap.size + 1) (w.heap.size + 2) (Ward.lackN q (Ward.ans q P)) n t V W (fun j => j < w.heap.size) (fun g hg => Nat.lt_of_lt_of_le hg hb.size) (NodeIs.keep (below_same hb (fun _ h => h)) (fun _ h => h) n t V hN) hF.few hF.nums hF.inn (lack_closure hq hP W (w.heap.size + 1) (w.heap.size + 2) B v hqr ha (hv.below hb)))
  have HR := hide hN.shape.row
  obtain ⟨fs, hu⟩ := underNode
  have HU := hide hu
  obtain ⟨av, cv, ev⟩ := hv.slice
  subst ev
  generalize Ward.everyN (Ward.lackN q (Ward.ans q P)) n t = r at *
  have hb1' := below3 w
  have hr1' := heap3 w
  clear hN hF hu hv
  generalize (Ward.ans q P).length = al at *
  go_enter Tryz.func49, Tryz.ntmps49
  go_upto_region 1 with fail
  generalize hW : World.alloc (World.alloc (World.alloc w _) _) _ = w1
  have hb1 : Below w.heap.size w w1 := by rw [← hW]; exact hb1' _ _ _
  have hr1 : w1.heap[w.heap.size]? = some (.cells V.toArray 90 (0, 0)) := by rw [← hW]; exact (hr1' _ _ _).1
  have hq1 : w1.heap[w.heap.size + 1]? = some (.cells #[I q.kind, I q.a, I q.b, I q.c, I q.d, I q.x, I q.y, I q.k] 46 (0, 0)) := by rw [← hW]; exact (hr1' _ _ _).2.1
  have ha1 : w1.heap[w.heap.size + 2]? = some (.cells #[.slice av al cv] 27 (0, 0)) := by rw [← hW]; exact (hr1' _ _ _).2.2.1
  clear hb1' hr1' hW
  have hs1 := hb1.size
  have HN1 := hide hr1
  have HB1 := hide hb1
  have HXX := hide (HX.out w1 hb1 hq1 ha1)
  clear hb1 hr1 hq1 ha1
  go_wp2_with (refine wpList_load_row rfl 90 (.tmp 3) rfl w.heap.size rfl 90 V.toArray (0, 0) (.struct fs) HN1.out HU.out rfl HR.out.info ?_)
  refine HXX.out.mono ?_
  rintro _ w2 ⟨rfl, hb2⟩
  have HB2 := hide (HB1.out.trans (hb2.mono hs1))
  clear hb2
  go_wp2_with fail
  go_ret
  exact ⟨rfl, HB2.out⟩
set_option maxRecDepth 100000 in
set_option maxHeartbeats 4000000 in
theorem wastes_any {q : Ward.Qr} (hq : Ward.mayBe q = true) {P : List Ward.Pt} (hP : ∀ p ∈ P, p.Ok) (n : Nat) (t : Ward.NT n) (V : List Value) (v : Value) (w : World) (B : Nat) (hN : NodeIs w (fun j => j < w.heap.size) n t V) (hF : Ward.Fine n t) (hv : Own w B v (Ward.ans q P)) :
    Calls Tryz.prog 50 #[.agg V.toArray, Qv q, v] w fun e w' => e = .returned (.bool (Ward.everyN (Ward.wasteN q (Ward.ans q P)) n t)) ∧ Below w.heap.size w w' := by
  have HX := hide (fun (W : World) (hb : Below w.heap.size w W) (hqr : W.heap[w.heap.size + 1]? = some (.cells #[I q.kind, I q.a, I q.b, I q.c, I q.d, I q.x, I q.y, I q.k] 46 (0, 0))) (ha : W.heap[w.heap.size + 2]? = some (.cells #[v] 27 (0, 0))) => every_d (w.heap.size + 1) (w.heap.size + 2) (Ward.wasteN q (Ward.ans q P)) n t V W (fun j => j < w.heap.size) (fun g hg => Nat.lt_of_lt_of_le hg hb.size) (NodeIs.keep (below_same hb (fun _ h => h)) (fun _ h => h) n t V hN) hF.few hF.nums hF.inn (waste_closure hq hP W (w.heap.size + 1) (w.heap.size + 2) B v hqr ha (hv.below hb)))
  have HR := hide hN.shape.row
  obtain ⟨fs, hu⟩ := underNode
  have HU := hide hu
  obtain ⟨av, cv, ev⟩ := hv.slice
  subst ev
  generalize Ward.everyN (Ward.wasteN q (Ward.ans q P)) n t = r at *
  have hb1' := below3 w
  have hr1' := heap3 w
  clear hN hF hu hv
  generalize (Ward.ans q P).length = al at *
  go_enter Tryz.func50, Tryz.ntmps50
  go_upto_region 1 with fail
  generalize hW : World.alloc (World.alloc (World.alloc w _) _) _ = w1
  have hb1 : Below w.heap.size w w1 := by rw [← hW]; exact hb1' _ _ _
  have hr1 : w1.heap[w.heap.size]? = some (.cells V.toArray 90 (0, 0)) := by rw [← hW]; exact (hr1' _ _ _).1
  have hq1 : w1.heap[w.heap.size + 1]? = some (.cells #[I q.kind, I q.a, I q.b, I q.c, I q.d, I q.x, I q.y, I q.k] 46 (0, 0)) := by rw [← hW]; exact (hr1' _ _ _).2.1
  have ha1 : w1.heap[w.heap.size + 2]? = some (.cells #[.slice av al cv] 27 (0, 0)) := by rw [← hW]; exact (hr1' _ _ _).2.2.1
  clear hb1' hr1' hW
  have hs1 := hb1.size
  have HN1 := hide hr1
  have HB1 := hide hb1
  have HXX := hide (HX.out w1 hb1 hq1 ha1)
  clear hb1 hr1 hq1 ha1
  go_wp2_with (refine wpList_load_row rfl 90 (.tmp 3) rfl w.heap.size rfl 90 V.toArray (0, 0) (.struct fs) HN1.out HU.out rfl HR.out.info ?_)
  refine HXX.out.mono ?_
  rintro _ w2 ⟨rfl, hb2⟩
  have HB2 := hide (HB1.out.trans (hb2.mono hs1))
  clear hb2
  go_wp2_with fail
  go_ret
  exact ⟨rfl, HB2.out⟩
end Go.Proofs.YtenaelkbgkpllaaGreatDoor
/- Verify. -/
namespace Go.Proofs.YtenaelkbgkpllaaGreatDoor
open Go.RowKit

/-- a pointer to a row of a commitment's cells -/
def ComRow (w : World) (v : Value) : Prop := ∃ g cs t fr, v = .pointer (some ⟨g, 0, none⟩) ∧ w.heap[g]? = some (.cells cs t fr) ∧ cs.size = 33
theorem comRow_of {w : World} {g t : Nat} {cs : Array Value} {fr : Nat × Nat} (h : w.heap[g]? = some (.cells cs t fr)) (hs : cs.size = 33) : ComRow w (.pointer (some ⟨g, 0, none⟩)) := ⟨g, cs, t, fr, rfl, h, hs⟩
theorem underCom : ∃ fs, Tryz.prog.underlying 41 = some (.struct fs) := by
  have h : Tryz.prog.underlying 41 = some (.struct (Tryz.prog.fieldsOf 41)) := by kernel_rfl
  exact ⟨_, h⟩
theorem wp_load_com {d : Option Tmp} {x : Operand} {tt : TypeId} {ps : String} {af : Array Edge} {gd : Option (Nat × Bool)} {a : Act} {w : World} {K : Act → World → Prop} {Q : Exit → Act → World → Prop} (h : ComRow w (a.eval x)) :
    Oper.wp Tryz.prog { dst := d, op := .load 41 x, type := tt, pos := ps, after := af, guard := gd } a w K Q = K (a.put d (loadVal w (a.eval x))) w := by
  obtain ⟨g, cs, t, fr, hv, hg, hs⟩ := h
  obtain ⟨fs, hu⟩ := underCom
  have hr := run_loadVar_row (P := Tryz.prog) w g t 41 cs fr (.struct fs) hg hu rfl (by rw [hs]; exact Tryz.infoCommit)
  rw [hv, loadVal_row hg]
  unfold Oper.wp execOp
  simp only [hv, Instr.loadAt, Instr.sureAddr, Sem.run_bind, Sem.run_pure, Result.andThen_ok, hr]
  rfl
theorem own_nil (w : World) (B : Nat) : Own w B (.slice none 0 0) [] := World.ownsRow_nil _ _ _ _
/-- what Verify leaves -/
def Verified (w : World) (root : List UInt8) (count : Int) (q : Ward.Qr) (s : List UInt8) (e : Ending) (w' : World) : Prop := ∃ v, e = .returned (.tuple #[v, I (Ward.verify root count q s).2]) ∧ Own w' w.heap.size v (Ward.verify root count q s).1 ∧ Below w.heap.size w w'
theorem verified_nil {w w' : World} {root : List UInt8} {count : Int} {q : Ward.Qr} {s : List UInt8} {k : Int} (h : Ward.verify root count q s = ([], k)) (hb : Below w.heap.size w w') : Verified w root count q s (.returned (.tuple #[.slice none 0 0, I k])) w' := by
  unfold Verified
  rw [h]
  exact ⟨_, rfl, own_nil _ _, hb⟩
theorem heap2 (w : World) (a b : Obj) : ((w.alloc a).alloc b).heap[w.heap.size]? = some a ∧ ((w.alloc a).alloc b).heap[w.heap.size + 1]? = some b ∧ ((w.alloc a).alloc b).heap.size = w.heap.size + 2 := ⟨heap_alloc2_old w a b, heap_alloc2_new w a b, by simp⟩
attribute [local go_sem ↓] Go.wp_at_zero Go.wp_at_succ wp_load_nodeG wp_load_com
set_option maxRecDepth 100000 in
set_option maxHeartbeats 8000000 in
theorem verify_any (root : List UInt8) (count : Int) (q : Ward.Qr) (s : List UInt8) (w : World) (hroot : root.length = 32) (hK : KT w) :
    Calls Tryz.prog 22 #[.agg (rootV root count).toArray, Qv q, Sv s] w (Verified w root count q s) := by
  have HKT := hide hK
  have HRL := hide hroot
  have HMB := hide (fun W => mayBe_any q W)
  have hb1' := fun o o' => ((Below.refl w.heap.size w).alloc (Nat.le_refl _) o).alloc (by simp) o'
  have hr1' := heap2 w
  obtain ⟨fs, hu⟩ := underNode
  have HU := hide hu
  have HCS := hide (show (rootV root count).toArray.size = 33 by rw [List.size_toArray]; exact rootV_len _ _ hroot)
  have HEC := hide (fun (D : List UInt8) (m : Int) (hD : D.length = 32) (W : World) => eqCommit D root m count hD hroot W)
  generalize hRV : rootV root count = RV at *
  have HRV := hide hRV
  clear hK hroot hu hRV
  go_enter Tryz.func22, Tryz.ntmps22
  go_upto_region 1 with fail
  generalize hW : World.alloc (World.alloc w _) _ = w1
  have hb1 : Below w.heap.size w w1 := by rw [← hW]; exact hb1' _ _
  have hc1 : w1.heap[w.heap.size]? = some (.cells RV.toArray 41 (0, 0)) := by rw [← hW]; exact (hr1' _ _).1
  have hq1 : w1.heap[w.heap.size + 1]? = some (.cells #[I q.kind, I q.a, I q.b, I q.c, I q.d, I q.x, I q.y, I q.k] 46 (0, 0)) := by rw [← hW]; exact (hr1' _ _).2.1
  clear hb1' hr1' hW
  have hs1 : w.heap.size + 1 < w1.heap.size := (Array.getElem?_eq_some_iff.1 hq1).1
  obtain ⟨k0, k1, k2, k3, k4, k5, k6, k7⟩ := rowQ8 hq1
  have HB1 := hide hb1
  have HC1 := hide hc1
  have HQ1 := hide hq1
  clear hb1 hc1 hq1
  have HMR := hide (show ∃ r, Ward.mayBe q = r from ⟨_, rfl⟩)
  obtain ⟨r, hr⟩ := HMR.out
  rw [hr] at HMB
  go_wp2_with fail
  refine (HMB.out w1).mono ?_
  rintro _ w2 ⟨rfl, hb2⟩
  have hs2 := hb2.size
  have HB2 := hide (HB1.out.trans (hb2.mono (by omega)))
  have HC2 := hide ((hb2.block w.heap.size (by omega)).trans HC1.out)
  have HQ2 := hide ((hb2.block (w.heap.size + 1) (by omega)).trans HQ1.out)
  have HMY := hide hr
  clear hb2 hr k0 k1 k2 k3 k4 k5 k6 k7
  cases r with
  | false =>
    have HF := hide (show Ward.verify root count q s = ([], 6) by unfold Ward.verify; rw [if_pos HMY.out])
    go_wp2_with fail
    go_ret2
    exact verified_nil HF.out HB2.out
  | true =>
    have HRD := hide (read_any s w2 (HKT.out.below HB2.out))
    go_wp2_with fail
    refine HRD.out.mono ?_
    rintro e w3 ⟨hb3, hm3⟩
    have hs3 := hb3.size
    have HB3 := hide (HB2.out.trans (hb3.mono (by omega)))
    have HC3 := hide ((hb3.block w.heap.size (by omega)).trans HC2.out)
    have HQ3 := hide ((hb3.block (w.heap.size + 1) (by omega)).trans HQ2.out)
    clear hb3 HRD
    have hb4' := fun o => (Below.refl w3.heap.size w3).alloc (Nat.le_refl _) o
    have hr4' := heap_alloc_new w3
    cases hp : Ward.parse s with
    | none =>
      rw [hp] at hm3
      obtain ⟨V, hV, rfl⟩ := hm3
      have HV := hide hV.row
      have HF := hide (show Ward.verify root count q s = ([], 7) by unfold Ward.verify; rw [if_neg (by rw [HMY.out]; decide), hp])
      clear hV hp
      go_wp2_with (refine wpList_store_row rfl 90 (.tmp 8) (.tmp 17) rfl w3.heap.size V.toArray rfl rfl 90 _ (heap_alloc_new w3 _) HV.out.info (by rw [HV.out.size]; rfl) HV.out.one ?_; rw [World.setRow_alloc_new])
      go_ret2
      exact verified_nil HF.out (HB3.out.trans ((hb4' _).mono (by omega)))
    | some t =>
      rw [hp] at hm3
      obtain ⟨V, rfl, hN3⟩ := hm3
      have HV := hide hN3.shape.row
      have HN3 := hide hN3
      have HP := hide hp
      obtain ⟨hfine, hids⟩ := Ward.parse_fine hp
      have HFI := hide hfine
      have HID := hide hids
      obtain ⟨x1, l1, c1, x2, l2, c2, hVe, hdl⟩ := hN3.cells
      have HDL := hide hdl
      have HCM := hide (fun (W : World) => show Calls Tryz.prog 37 #[.agg V.toArray] W fun e w' => e = .returned (.agg (rootV (Ward.digN 7 t) (Ward.numN 7 t)).toArray) ∧ Below W.heap.size W w' by rw [hVe]; exact commitmentTo_any _ _ _ _ _ W hdl)
      clear hN3 hp hfine hids hVe hdl
      go_upto_region 4 with (refine wpList_store_row rfl 90 (.tmp 8) (.tmp 17) rfl w3.heap.size V.toArray rfl rfl 90 _ (heap_alloc_new w3 _) HV.out.info (by rw [HV.out.size]; rfl) HV.out.one ?_; rw [World.setRow_alloc_new])
      generalize hW : World.alloc w3 _ = w4
      have hb4 : Below w3.heap.size w3 w4 := by rw [← hW]; exact hb4' _
      have hr4 : w4.heap[w3.heap.size]? = some (.cells V.toArray 90 (0, 0)) := by rw [← hW]; exact hr4' _
      clear hb4' hr4' hW
      have hs4 : w3.heap.size < w4.heap.size := (Array.getElem?_eq_some_iff.1 hr4).1
      have HB4 := hide (HB3.out.trans (hb4.mono (by omega)))
      have HC4 := hide ((hb4.block w.heap.size (by omega)).trans HC3.out)
      have HQ4 := hide ((hb4.block (w.heap.size + 1) (by omega)).trans HQ3.out)
      have HR4 := hide hr4
      have HNW := hide (fun (W : World) (hb : Below w4.heap.size w4 W) => show NodeIs W (fun j => j < W.heap.size) 7 t V from NodeIs.keep (fun j hj => (hb.block j (Nat.lt_trans hj hs4)).trans (hb4.block j hj)) (fun j (hj : j < w3.heap.size) => show j < W.heap.size by have := hb.size; omega) 7 t V HN3.out)
      clear hb4 hr4
      have HBH := hide (boxesHold_any 7 t V w4 (HNW.out w4 (Below.refl _ _)) HFI.out (HKT.out.below HB4.out))
      have HBR := hide (show ∃ r, Ward.everyN Ward.boxHolds 7 t = r from ⟨_, rfl⟩)
      obtain ⟨r1, hr1⟩ := HBR.out
      rw [hr1] at HBH
      have HR1 := hide hr1
      clear hr1 HBR
      go_wp2_with (refine wpList_load_row rfl 90 (.tmp 8) rfl w3.heap.size rfl 90 V.toArray (0, 0) (.struct fs) HR4.out HU.out rfl HV.out.info ?_)
      refine HBH.out.mono ?_
      rintro _ w5 ⟨rfl, hb5⟩
      have hs5 := hb5.size
      have HB45 := hide hb5
      have HB5 := hide (HB4.out.trans (hb5.mono (by omega)))
      have HC5 := hide ((hb5.block w.heap.size (by omega)).trans HC4.out)
      have HQ5 := hide ((hb5.block (w.heap.size + 1) (by omega)).trans HQ4.out)
      have HR5 := hide ((hb5.block w3.heap.size hs4).trans HR4.out)
      clear hb5
      cases r1 with
      | false =>
        have HF := hide (show Ward.verify root count q s = ([], 8) by unfold Ward.verify; rw [if_neg (by rw [HMY.out]; decide), HP.out]; simp only; rw [if_pos HR1.out])
        go_wp2_with fail
        go_ret2
        exact verified_nil HF.out HB5.out
      | true =>
        have HDH := hide (digestsHold_any 7 t V w5.drew (show NodeIs w5.drew _ 7 t V from NodeIs.keep (fun _ _ => rfl) (fun _ h => h) 7 t V (HNW.out w5 HB45.out)) HFI.out ((HKT.out.below HB5.out).below (Below.refl _ _).drew))
        have HDR := hide (show ∃ r, Ward.everyN Ward.digHolds 7 t = r from ⟨_, rfl⟩)
        obtain ⟨r2, hr2⟩ := HDR.out
        rw [hr2] at HDH
        have HR2 := hide hr2
        clear hr2 HDR
        have hnr5 : NodeRow w5.drew (.pointer (some ⟨w3.heap.size, 0, none⟩)) := nodeRow_of (w := w5.drew) HR5.out HV.out.size
        have hlv5 : loadVal w5.drew (.pointer (some ⟨w3.heap.size, 0, none⟩)) = .agg V.toArray := loadVal_row (w := w5.drew) HR5.out
        go_upto_region 8 with fail
        cases r2 with
        | false =>
          have HF := hide (show Ward.verify root count q s = ([], 9) by unfold Ward.verify; rw [if_neg (by rw [HMY.out]; decide), HP.out]; simp only; rw [if_neg (by rw [HR1.out]; decide), if_pos (Or.inl HR2.out)])
          first | go_region_with (go_at_call 48; go_must (refine HDH.out.mono ?_; rintro _ w6 ⟨rfl, hb6⟩; have HB6 := hide (HB5.out.drew.trans (hb6.mono (by simp; omega))); clear hb6)) | fail
          all_goals
            go_wp2_with fail
            go_ret2
            exact verified_nil HF.out HB6.out
        | true =>
          obtain ⟨rc, hrc⟩ : ∃ rc, (decide (Ward.digN 7 t = root) && (Ward.numN 7 t == count)) = rc := ⟨_, rfl⟩
          have heq := HEC.out (Ward.digN 7 t) (Ward.numN 7 t) HDL.out
          rw [hrc] at heq
          have HRC := hide hrc
          generalize rootV (Ward.digN 7 t) (Ward.numN 7 t) = RT at *
          clear hrc
          go_cut [26] from 27 to 35 (fun v26 wx => v26 = .bool (!rc) ∧ Below w5.heap.size w5 wx)
          case first =>
            first | go_region_with (first
              | (go_at_call 48; go_must (refine HDH.out.mono ?_; rintro _ w6 ⟨rfl, hb6⟩; have hs6 := hb6.size; have HB6 := hide ((Below.refl w5.heap.size w5).drew.trans (hb6.mono (Nat.le_refl _))); have HR6 := hide ((HB6.out.block w3.heap.size (by omega)).trans HR5.out); have HC6 := hide ((HB6.out.block w.heap.size (by omega)).trans HC5.out); have hnr6 := nodeRow_of HR6.out HV.out.size; have hlv6 := loadVal_row HR6.out; have hcr6 := comRow_of HC6.out HCS.out; have hcv6 := loadVal_row HC6.out; clear hb6))
              | (go_at_call 37; go_must (refine (HCM.out w6).mono ?_; rintro _ w7 ⟨rfl, hb7⟩; have HB7 := hide (HB6.out.trans (hb7.mono HB6.out.size)); have HC7 := hide ((HB7.out.block w.heap.size (by omega)).trans HC5.out); have hcr7 := comRow_of HC7.out HCS.out; have hcv7 := loadVal_row HC7.out; clear hb7))) | fail
            all_goals
              go_wp2_with fail
              go_meet
              exact ⟨rfl, HB7.out⟩
          case rest =>
            obtain ⟨rfl, hb8⟩ := hcut
            clear hnr5 hlv5 heq
            generalize wc = w8 at *
            have hs8 := hb8.size
            have HB8 := hide (HB5.out.trans (hb8.mono (by omega)))
            have HQ8 := hide ((hb8.block (w.heap.size + 1) (by omega)).trans HQ5.out)
            have HR8 := hide ((hb8.block w3.heap.size (by omega)).trans HR5.out)
            have HB48 := hide (HB45.out.trans (hb8.mono hs5))
            clear hb8
            cases rc with
            | false =>
              have HF := hide (show Ward.verify root count q s = ([], 9) by
                unfold Ward.verify
                rw [if_neg (by rw [HMY.out]; decide), HP.out]
                simp only
                rw [if_neg (by rw [HR1.out]; decide), if_pos (Or.inr (fun h => by
                  have h2 := HRC.out
                  rw [decide_eq_true h.1, h.2] at h2
                  simp at h2))])
              go_wp2_with fail
              go_ret2
              exact verified_nil HF.out HB8.out
            | true =>
              have HCE := hide (show Ward.digN 7 t = root ∧ Ward.numN 7 t = count by
                have h2 := HRC.out
                simp only [Bool.and_eq_true, decide_eq_true_eq, beq_iff_eq] at h2
                exact h2)
              have HEN := hide (Ward.parse_holds HP.out HR1.out)
              have HAN := hide (answer_tree HMY.out t V w8 (HNW.out w8 HB48.out) HFI.out HEN.out.1 HID.out HEN.out.2)
              obtain ⟨k0, k1, k2, k3, k4, k5, k6, k7⟩ := rowQ8 HQ8.out
              go_wp2_with (refine wpList_load_row rfl 90 (.tmp 8) rfl w3.heap.size rfl 90 V.toArray (0, 0) (.struct fs) HR8.out HU.out rfl HV.out.info ?_)
              refine HAN.out.mono ?_
              rintro _ w9 ⟨v9, rfl, ho9, hb9⟩
              have hs9 := hb9.size
              have HO9 := hide ho9
              have HB9 := hide (HB8.out.trans (hb9.mono (by omega)))
              have HQ9 := hide ((hb9.block (w.heap.size + 1) (by omega)).trans HQ8.out)
              have HR9 := hide ((hb9.block w3.heap.size (by omega)).trans HR8.out)
              have HB49 := hide (HB48.out.trans (hb9.mono (by omega)))
              clear hb9 ho9 k0 k1 k2 k3 k4 k5 k6 k7
              have HLK := hide (lacks_any HMY.out HFI.out.ok 7 t V v9 w9 _ (HNW.out w9 HB49.out) HFI.out HO9.out)
              obtain ⟨r3, hr3⟩ : ∃ r, Ward.everyN (Ward.lackN q (Ward.ans q (Ward.allN 7 t))) 7 t = r := ⟨_, rfl⟩
              rw [hr3] at HLK
              have HR3 := hide hr3
              clear hr3
              obtain ⟨k0, k1, k2, k3, k4, k5, k6, k7⟩ := rowQ8 HQ9.out
              go_wp2_with (refine wpList_load_row rfl 90 (.tmp 8) rfl w3.heap.size rfl 90 V.toArray (0, 0) (.struct fs) HR9.out HU.out rfl HV.out.info ?_)
              refine HLK.out.mono ?_
              rintro _ w10 ⟨rfl, hb10⟩
              have hs10 := hb10.size
              have HO10 := hide (HO9.out.below hb10)
              have HB10 := hide (HB9.out.trans (hb10.mono (by omega)))
              have HQ10 := hide ((hb10.block (w.heap.size + 1) (by omega)).trans HQ9.out)
              have HR10 := hide ((hb10.block w3.heap.size (by omega)).trans HR9.out)
              have HB410 := hide (HB49.out.trans (hb10.mono (by omega)))
              clear hb10 k0 k1 k2 k3 k4 k5 k6 k7
              cases r3 with
              | false =>
                have HF := hide (show Ward.verify root count q s = ([], 10) by
                  unfold Ward.verify
                  rw [if_neg (by rw [HMY.out]; decide), HP.out]
                  simp only
                  rw [if_neg (by rw [HR1.out]; decide), if_neg (fun h => by
                    rcases h with h | h
                    · rw [HR2.out] at h; cases h
                    · exact h HCE.out), if_pos HR3.out])
                go_wp2_with fail
                go_ret2
                exact verified_nil HF.out HB10.out
              | true =>
                have HWK := hide (wastes_any HMY.out HFI.out.ok 7 t V v9 w10 _ (HNW.out w10 HB410.out) HFI.out HO10.out)
                obtain ⟨r4, hr4⟩ : ∃ r, Ward.everyN (Ward.wasteN q (Ward.ans q (Ward.allN 7 t))) 7 t = r := ⟨_, rfl⟩
                rw [hr4] at HWK
                have HR4' := hide hr4
                clear hr4
                obtain ⟨k0, k1, k2, k3, k4, k5, k6, k7⟩ := rowQ8 HQ10.out
                go_wp2_with (refine wpList_load_row rfl 90 (.tmp 8) rfl w3.heap.size rfl 90 V.toArray (0, 0) (.struct fs) HR10.out HU.out rfl HV.out.info ?_)
                refine HWK.out.mono ?_
                rintro _ w11 ⟨rfl, hb11⟩
                have HO11 := hide (own_mono (B' := w.heap.size) (HO10.out.below hb11) (by omega))
                have HB11 := hide (HB10.out.trans (hb11.mono (by omega)))
                clear hb11 k0 k1 k2 k3 k4 k5 k6 k7
                have HF := hide (show Ward.verify root count q s = if Ward.everyN (Ward.wasteN q (Ward.ans q (Ward.allN 7 t))) 7 t = false then ([], 11) else (Ward.ans q (Ward.allN 7 t), 0) by
                  unfold Ward.verify
                  rw [if_neg (by rw [HMY.out]; decide), HP.out]
                  simp only
                  rw [if_neg (by rw [HR1.out]; decide), if_neg (fun h => by
                    rcases h with h | h
                    · rw [HR2.out] at h; cases h
                    · exact h HCE.out), if_neg (by rw [HR3.out]; decide)])
                cases r4 with
                | false =>
                  rw [if_pos HR4'.out] at HF
                  go_wp2_with fail
                  go_ret2
                  exact verified_nil HF.out HB11.out
                | true =>
                  rw [if_neg (by rw [HR4'.out]; decide)] at HF
                  go_wp2_with fail
                  go_ret2
                  unfold Verified
                  rw [HF.out]
                  exact ⟨v9, rfl, HO11.out, HB11.out⟩
end Go.Proofs.YtenaelkbgkpllaaGreatDoor
/- What makes an answer right, whatever order the points stand in. -/
namespace Go.Proofs.YtenaelkbgkpllaaGreatDoor
namespace Ward
structure RightIs (q : Qr) (a l : List Pt) : Prop where
  mem : ∀ p ∈ a, p ∈ l
  win : q.kind = 0 → a.Pairwise lt ∧ ∀ p ∈ l, (p ∈ a ↔ inB (window q) p = true)
  near : q.kind = 1 → a.Pairwise (nr q.x q.y) ∧ (∀ p ∈ l, p ∉ a → ∀ z, a.getLast? = some z → nr q.x q.y z p) ∧ (a.length : Int) = min (l.length : Int) q.k
theorem right_ans {q : Qr} {L l : List Pt} (hq : mayBe q = true) (h : L.Perm l) (hi : Ids L) : RightIs q (ans q L) l := by
  have hk : q.kind = 0 ∨ q.kind = 1 := by
    unfold mayBe at hq
    by_cases h0 : q.kind = 0
    · exact .inl h0
    · by_cases h1 : q.kind = 1
      · exact .inr h1
      · rw [if_neg h0, if_neg h1] at hq; cases hq
  rcases hk with hk | hk
  · have e : ans q L = sortP (L.filter (inB (window q))) := by unfold ans; rw [if_neg (by omega)]
    have hm : ∀ p, p ∈ ans q L ↔ p ∈ L ∧ inB (window q) p = true := fun p => by
      rw [e, (sortP_perm _).mem_iff, List.mem_filter]
    refine ⟨fun p hp => h.mem_iff.1 ((hm p).1 hp).1, fun _ => ⟨?_, fun p hp => ?_⟩, fun h1 => by omega⟩
    · rw [e]; exact sortP_sorted (ids_sub List.filter_sublist hi)
    · rw [hm]
      exact ⟨fun h => h.2, fun k => ⟨h.mem_iff.2 hp, k⟩⟩
  · have e : ans q L = (sortN q.x q.y L).take q.k.toNat := by unfold ans; rw [if_pos hk]
    have hkk : 1 ≤ q.k := by
      unfold mayBe at hq
      rw [if_neg (by omega), if_pos hk] at hq
      simp only [Bool.and_eq_true, decide_eq_true_eq] at hq
      exact hq.1.2
    refine ⟨fun p hp => ?_, fun h0 => by omega, fun _ => ⟨?_, fun p hp hn z hz => ?_, ?_⟩⟩
    · rw [e] at hp
      exact h.mem_iff.1 ((sortN_perm q.x q.y L).mem_iff.1 (List.mem_of_mem_take hp))
    · rw [e]; exact (sortN_sorted hi).sublist (List.take_sublist _ _)
    · rw [e] at hn hz
      exact behind hi q.k.toNat (h.mem_iff.2 hp) hn z (List.mem_of_getLast? hz)
    · rw [e, List.length_take, (sortN_perm q.x q.y L).length_eq, h.length_eq]
      omega
/-- how far, as a statement reckons it -/
def far (p : Pt) (x y : Int) : Int := (p.x - x) * (p.x - x) + (p.y - y) * (p.y - y)
theorem gap_sq (a x : Int) : gap a a x * gap a a x = (a - x) * (a - x) := by
  unfold gap
  by_cases h : x ≤ a
  · rw [show max (max (a - x) 0) (x - a) = a - x by omega]
  · rw [show max (max (a - x) 0) (x - a) = -(a - x) by omega, Int.neg_mul_neg]
theorem far_dist (p : Pt) (x y : Int) : distP p x y = far p x y := by
  show gap p.x p.x x * gap p.x p.x x + gap p.y p.y y * gap p.y p.y y = _
  rw [gap_sq, gap_sq]
  rfl
end Ward
end Go.Proofs.YtenaelkbgkpllaaGreatDoor
/- in, far, inOrder, same, dice.query. -/
namespace Go.Proofs.YtenaelkbgkpllaaGreatDoor
open Go.RowKit

theorem row3' {w : World} {g t : Nat} {a b c : Value} (h : w.heap[g]? = some (.cells #[a, b, c] t (0, 0))) : w.cell? ⟨g, 0, none⟩ = some a ∧ w.cell? ⟨g, 1, none⟩ = some b ∧ w.cell? ⟨g, 2, none⟩ = some c := row3 h
set_option maxRecDepth 100000 in
set_option maxHeartbeats 2000000 in
theorem in_any (p : Ward.Pt) (q : Ward.Qr) (w : World) :
    Calls Tryz.prog 53 #[.agg #[I p.id, I p.x, I p.y], Qv q] w fun e w' => e = .returned (.bool (Ward.inB (Ward.window q) p)) ∧ Below w.heap.size w w' := by
  obtain ⟨r, hr⟩ : ∃ r, (decide (q.a ≤ p.x) && decide (p.x ≤ q.c) && decide (q.b ≤ p.y) && decide (p.y ≤ q.d)) = r := ⟨_, rfl⟩
  rw [show Ward.inB (Ward.window q) p = (decide (q.a ≤ p.x) && decide (p.x ≤ q.c) && decide (q.b ≤ p.y) && decide (p.y ≤ q.d)) from rfl, hr]
  have HE := hide hr
  clear hr
  have hb2 := fun o o' => ((Below.refl w.heap.size w).alloc (Nat.le_refl _) o).alloc (by simp) o'
  have hr2 := heap2 w
  go_enter Tryz.func53, Tryz.ntmps53
  go_upto_region 1 with fail
  generalize hW : World.alloc (World.alloc w _) _ = w1
  have hb1 : Below w.heap.size w w1 := by rw [← hW]; exact hb2 _ _
  have hp1 : w1.heap[w.heap.size]? = some (.cells #[I p.id, I p.x, I p.y] 36 (0, 0)) := by rw [← hW]; exact (hr2 _ _).1
  have hq1 : w1.heap[w.heap.size + 1]? = some (.cells #[I q.kind, I q.a, I q.b, I q.c, I q.d, I q.x, I q.y, I q.k] 46 (0, 0)) := by rw [← hW]; exact (hr2 _ _).2.1
  clear hb2 hr2 hW
  obtain ⟨e0, e1, e2⟩ := row3 hp1
  obtain ⟨k0, k1, k2, k3, k4, k5, k6, k7⟩ := rowQ8 hq1
  have HB1 := hide hb1
  clear hb1 hp1 hq1
  by_cases h1 : q.a ≤ p.x
  · by_cases h2 : p.x ≤ q.c
    · by_cases h3 : q.b ≤ p.y
      · go_wp2_with fail
        go_ret
        refine ⟨?_, HB1.out⟩
        rw [← HE.out, decide_eq_true (show q.a ≤ p.x by omega), decide_eq_true (show p.x ≤ q.c by omega), decide_eq_true (show q.b ≤ p.y by omega)]
        rfl
      · go_wp2_with fail
        go_ret
        refine ⟨?_, HB1.out⟩
        rw [← HE.out, decide_eq_true (show q.a ≤ p.x by omega), decide_eq_true (show p.x ≤ q.c by omega), decide_eq_false (show ¬ q.b ≤ p.y by omega)]
        rfl
    · go_wp2_with fail
      go_ret
      refine ⟨?_, HB1.out⟩
      rw [← HE.out, decide_eq_true (show q.a ≤ p.x by omega), decide_eq_false (show ¬ p.x ≤ q.c by omega)]
      rfl
  · go_wp2_with fail
    go_ret
    refine ⟨?_, HB1.out⟩
    rw [← HE.out, decide_eq_false (show ¬ q.a ≤ p.x by omega)]
    rfl
theorem sq_fits {u : Int} (h0 : -2000000 ≤ u) (h1 : u ≤ 2000000) : 0 ≤ u * u ∧ u * u ≤ 4000000000000 := by
  by_cases h : 0 ≤ u
  · exact sq_le h h1
  · have := sq_le (u := -u) (by omega) (by omega)
    rw [Int.neg_mul_neg] at this
    exact this
set_option maxRecDepth 100000 in
set_option maxHeartbeats 2000000 in
theorem far_any (p : Ward.Pt) (q : Ward.Qr) (w : World) (hp : p.Ok) (hx : -1000000 ≤ q.x ∧ q.x ≤ 1000000) (hy : -1000000 ≤ q.y ∧ q.y ≤ 1000000) :
    Calls Tryz.prog 52 #[.agg #[I p.id, I p.x, I p.y], Qv q] w fun e w' => e = .returned (I (Ward.far p q.x q.y)) ∧ Below w.heap.size w w' := by
  obtain ⟨i1, i2, x1, x2, y1, y2⟩ := hp
  obtain ⟨s0, s1⟩ := sq_fits (u := p.x - q.x) (by omega) (by omega)
  obtain ⟨t0, t1⟩ := sq_fits (u := p.y - q.y) (by omega) (by omega)
  have HD := hide (show Ward.far p q.x q.y = (p.x - q.x) * (p.x - q.x) + (p.y - q.y) * (p.y - q.y) from rfl)
  have hb2 := fun o o' => ((Below.refl w.heap.size w).alloc (Nat.le_refl _) o).alloc (by simp) o'
  have hr2 := heap2 w
  go_enter Tryz.func52, Tryz.ntmps52
  go_upto_region 1 with fail
  generalize hW : World.alloc (World.alloc w _) _ = w1
  have hb1 : Below w.heap.size w w1 := by rw [← hW]; exact hb2 _ _
  have hp1 : w1.heap[w.heap.size]? = some (.cells #[I p.id, I p.x, I p.y] 36 (0, 0)) := by rw [← hW]; exact (hr2 _ _).1
  have hq1 : w1.heap[w.heap.size + 1]? = some (.cells #[I q.kind, I q.a, I q.b, I q.c, I q.d, I q.x, I q.y, I q.k] 46 (0, 0)) := by rw [← hW]; exact (hr2 _ _).2.1
  clear hb2 hr2 hW
  obtain ⟨e0, e1, e2⟩ := row3 hp1
  obtain ⟨k0, k1, k2, k3, k4, k5, k6, k7⟩ := rowQ8 hq1
  have HB1 := hide hb1
  clear hb1 hp1 hq1
  go_wp2_with fail
  go_ret
  exact ⟨by rw [HD.out]; rfl, HB1.out⟩
theorem lt_cases (p r : Ward.Pt) : decide (Ward.lt p r) = if p.x ≠ r.x then decide (p.x < r.x) else if p.y ≠ r.y then decide (p.y < r.y) else decide (p.id < r.id) := by
  by_cases h1 : p.x = r.x
  · rw [if_neg (fun h => h h1)]
    by_cases h2 : p.y = r.y
    · rw [if_neg (fun h => h h2)]
      apply decide_eq_decide.2
      unfold Ward.lt
      omega
    · rw [if_pos h2]
      apply decide_eq_decide.2
      unfold Ward.lt
      omega
  · rw [if_pos h1]
    apply decide_eq_decide.2
    unfold Ward.lt
    omega
set_option maxRecDepth 100000 in
set_option maxHeartbeats 2000000 in
theorem inOrder_any (p r : Ward.Pt) (w : World) :
    Calls Tryz.prog 51 #[.agg #[I p.id, I p.x, I p.y], .agg #[I r.id, I r.x, I r.y]] w fun e w' => e = .returned (.bool (decide (Ward.lt p r))) ∧ Below w.heap.size w w' := by
  obtain ⟨b, hb⟩ : ∃ b, decide (Ward.lt p r) = b := ⟨_, rfl⟩
  have HE := hide ((lt_cases p r).symm.trans hb)
  rw [hb]
  clear hb
  have hb2 := fun o o' => ((Below.refl w.heap.size w).alloc (Nat.le_refl _) o).alloc (by simp) o'
  have hr2 := heap2 w
  go_enter Tryz.func51, Tryz.ntmps51
  go_upto_region 1 with fail
  generalize hW : World.alloc (World.alloc w _) _ = w1
  have hb1 : Below w.heap.size w w1 := by rw [← hW]; exact hb2 _ _
  have hp1 : w1.heap[w.heap.size]? = some (.cells #[I p.id, I p.x, I p.y] 36 (0, 0)) := by rw [← hW]; exact (hr2 _ _).1
  have hq1 : w1.heap[w.heap.size + 1]? = some (.cells #[I r.id, I r.x, I r.y] 36 (0, 0)) := by rw [← hW]; exact (hr2 _ _).2.1
  clear hb2 hr2 hW
  obtain ⟨e0, e1, e2⟩ := row3 hp1
  obtain ⟨k0, k1, k2⟩ := row3 hq1
  have HB1 := hide hb1
  clear hb1 hp1 hq1
  by_cases h1 : p.x = r.x
  · by_cases h2 : p.y = r.y
    · go_wp2_with fail
      go_ret
      refine ⟨?_, HB1.out⟩
      rw [← HE.out, if_neg (fun h => h (by omega)), if_neg (fun h => h (by omega))]
      rfl
    · go_wp2_with fail
      go_ret
      refine ⟨?_, HB1.out⟩
      rw [← HE.out, if_neg (fun h => h (by omega)), if_pos (by omega)]
      rfl
  · go_wp2_with fail
    go_ret
    refine ⟨?_, HB1.out⟩
    rw [← HE.out, if_pos (by omega)]
    rfl
end Go.Proofs.YtenaelkbgkpllaaGreatDoor
/- same; a query out of raw numbers. -/
namespace Go.Proofs.YtenaelkbgkpllaaGreatDoor
open Go.RowKit

theorem Reads.point {w : World} {a : Option Addr} {n c : Nat} {L : List Ward.Pt} (h : Reads w (.slice a n c) L) : n = L.length ∧ (∀ i (hi : i < L.length), ∃ g o, a = some ⟨g, o, none⟩ ∧ ∀ w', Below w.heap.size w w' → PtAt w' g (o + i * 3) L[i]) := by
  obtain ⟨a', c', e, hr⟩ := h
  injection e with e1 e2 e3
  refine ⟨e2, fun i hi => ?_⟩
  obtain ⟨g, o, rfl, hp⟩ := hr (fun e => by subst e; simp at hi)
  exact ⟨g, o, e1, fun w' hb => (hp i hi).below hb (hp i hi).lt⟩
theorem take_step {α : Type} (A B : List α) (i : Nat) (ha : i < A.length) (hb : i < B.length) (h : A.take i = B.take i) (he : A[i] = B[i]) : A.take (i + 1) = B.take (i + 1) := by
  rw [List.take_succ_eq_append_getElem ha, List.take_succ_eq_append_getElem hb, h, he]
set_option maxRecDepth 100000 in
set_option maxHeartbeats 4000000 in
theorem same_any (va vb : Value) (A B : List Ward.Pt) (w : World) (ha : Reads w va A) (hb : Reads w vb B) (hl : A.length ≤ 1000) :
    Calls Tryz.prog 24 #[va, vb] w fun e w' => (∃ r : Bool, e = .returned (.bool r) ∧ (r = true ↔ A = B)) ∧ Below w.heap.size w w' := by
  obtain ⟨aa, ca, ea, -⟩ := id ha
  obtain ⟨ab, cb, eb, -⟩ := id hb
  subst ea eb
  have HA := hide ha.point.2
  have HB := hide hb.point.2
  clear ha hb
  go_enter Tryz.func24, Tryz.ntmps24
  by_cases hlen : A.length = B.length
  · have hlen' : (A.length : Int) = (B.length : Int) := by omega
    have HLN := hide hlen
    clear hlen
    go_wp2_with fail
    clear hlen'
    go_loopg [5] A.length (fun gk v5 wq => ∃ i : Nat, gk = A.length - i ∧ v5 = I i ∧ i ≤ A.length ∧ A.take i = B.take i ∧ Below w.heap.size w wq)
    case atStart => exact ⟨0, by omega, rfl, by omega, rfl, Below.refl _ _⟩
    case round =>
      obtain ⟨i, hgk, rfl, hi, ht, hbl⟩ := hrel
      have HGK := hide hgk
      have HT := hide ht
      have HBL := hide hbl
      clear hgk ht hbl
      by_cases hlt : i < A.length
      · have hlt2 : i < B.length := by rw [← HLN.out]; exact hlt
        obtain ⟨g, o, rfl, hp⟩ := HA.out i hlt
        obtain ⟨g2, o2, rfl, hq⟩ := HB.out i hlt2
        have hp0 := hp wr HBL.out
        have hq0 := hq wr HBL.out
        have HST := hide (take_step A B i hlt hlt2 HT.out)
        have HNE := hide (show A[i] ≠ B[i] → A ≠ B from fun h e => h (by subst e; rfl))
        have hE := eqPt A[i] B[i]
        have HEQ := hide (ptEq_iff A[i] B[i])
        generalize A[i] = p at *
        generalize B[i] = q at *
        obtain ⟨p1, p2, p3⟩ := hp0
        obtain ⟨q1, q2, q3⟩ := hq0
        generalize ptEq p q = b3 at *
        clear hp hq
        go_wp2_with fail
        go_quiet (fail)
        have HBQ := hide (show Below w.heap.size w (wr.drewN nq) from HBL.out.trans ⟨rfl, rfl, rfl, Nat.le_refl _, fun _ _ => rfl⟩)
        generalize World.drewN wr nq = w9 at *
        cases b3 with
        | true =>
          go_wp2_with fail
          go_roundg (A.length - (i + 1))
          case measure => have := HGK.out; omega
          case rel => exact ⟨i + 1, rfl, by go_num, hlt, HST.out (HEQ.out.1 (by trivial)), HBQ.out⟩
        | false =>
          go_wp2_with fail
          go_ret
          exact ⟨⟨false, rfl, ⟨fun h => (by cases h), fun h => absurd h (HNE.out (fun e => by have := HEQ.out.2 e; simp at this))⟩⟩, HBQ.out⟩
      · have ei : i = A.length := by omega
        subst ei
        go_wp2_with fail
        go_ret
        refine ⟨⟨true, rfl, ⟨fun _ => ?_, fun _ => rfl⟩⟩, HBL.out⟩
        have h := HT.out
        rw [List.take_length, HLN.out, List.take_length] at h
        exact h
  · have hlen' : ¬ (A.length : Int) = (B.length : Int) := by omega
    go_wp2_with fail
    go_ret
    exact ⟨⟨false, rfl, ⟨fun h => (by cases h), fun h => absurd (by rw [h]) hlen⟩⟩, Below.refl _ _⟩
/-- what query makes: a query that may be, of small numbers -/
def SmallQ (q : Ward.Qr) : Prop := Ward.mayBe q = true ∧ (-8 ≤ q.x ∧ q.x ≤ 8) ∧ (-8 ≤ q.y ∧ q.y ≤ 8)
theorem window_may {a b c d : Int} (ha : -8 ≤ a ∧ a ≤ 8) (hb : -8 ≤ b ∧ b ≤ 8) (hc : 0 ≤ c ∧ c < 9) (hd : 0 ≤ d ∧ d < 9) : SmallQ ⟨0, a, b, a + c, b + d, 0, 0, 0⟩ := by
  refine ⟨?_, (show (-8 : Int) ≤ 0 ∧ (0 : Int) ≤ 8 by decide), (show (-8 : Int) ≤ 0 ∧ (0 : Int) ≤ 8 by decide)⟩
  show Ward.boxMay ⟨a, b, a + c, b + d⟩ = true
  simp only [Ward.boxMay, Ward.coordOk, Bool.and_eq_true, decide_eq_true_eq]
  omega
theorem near_may {a b c : Int} (ha : -8 ≤ a ∧ a ≤ 8) (hb : -8 ≤ b ∧ b ≤ 8) (hc : 0 ≤ c ∧ c < 20) : SmallQ ⟨1, 0, 0, 0, 0, a, b, 1 + c⟩ := by
  refine ⟨?_, ha, hb⟩
  show (Ward.coordOk a && Ward.coordOk b && decide (1 ≤ 1 + c) && decide (1 + c ≤ 20)) = true
  simp only [Ward.coordOk, Bool.and_eq_true, decide_eq_true_eq]
  omega
theorem underQ : ∃ fs, Tryz.prog.underlying 46 = some (.struct fs) := by
  have h : Tryz.prog.underlying 46 = some (.struct (Tryz.prog.fieldsOf 46)) := by kernel_rfl
  exact ⟨_, h⟩
theorem sizeQ : (Tryz.prog.info? 46).map (·.size) = some 8 := by kernel_rfl
theorem one8 (a b c d e f g h : Int) : (#[I a, I b, I c, I d, I e, I f, I g, I h] : Array Value).all (·.oneCell') = true := all_oneCell_toArray (cs := [I a, I b, I c, I d, I e, I f, I g, I h]) (fun v hv => by
  simp only [List.mem_cons, List.not_mem_nil, or_false] at hv
  rcases hv with rfl | rfl | rfl | rfl | rfl | rfl | rfl | rfl <;> rfl)
set_option maxRecDepth 100000 in
set_option maxHeartbeats 4000000 in
theorem query_any (B d : Nat) (code : List Int) (k : Nat) (w : World) (hd : Dice w B d code k) (hB : B ≤ w.heap.size) :
    Calls Tryz.prog 20 #[.pointer (some ⟨d, 0, none⟩)] w fun e w' => ∃ q k', e = .returned (Qv q) ∧ SmallQ q ∧ Dice w' B d code k' ∧ Keeps (fun j => j = d) w w' := by
  have hdlt := hd.low
  have HD := hide hd
  have hb1' := fun o => (Below.refl w.heap.size w).alloc (Nat.le_refl _) o
  have hr1' := heap_alloc_new w
  obtain ⟨fs, hu⟩ := underQ
  have HU := hide hu
  clear hd hu
  go_enter Tryz.func20, Tryz.ntmps20
  go_upto_region 1 with fail
  generalize hW : World.alloc w _ = w1
  have hb1 : Below w.heap.size w w1 := by rw [← hW]; exact hb1' _
  have hr1 : w1.heap[w.heap.size]? = some (.cells #[I 0, I 0, I 0, I 0, I 0, I 0, I 0, I 0] 46 (0, 0)) := by rw [← hW]; exact hr1' _
  clear hb1' hr1' hW
  have hs1 : w.heap.size < w1.heap.size := (Array.getElem?_eq_some_iff.1 hr1).1
  have HR1 := hide hr1
  have HD1 := hide (HD.out.below hb1)
  have HK1 := hide (show Keeps (fun j => j = d) w w1 from Keeps.of_below hb1)
  clear hb1 hr1
  go_wp2_with fail
  refine (next_any B d code k 17 w1 HD1.out (by decide) (by decide)).mono ?_
  rintro _ w2 ⟨r1, j1, rfl, a1, a2, hd2, hk2⟩
  have hs2 := hk2.size
  have HD2 := hide hd2
  have HR2 := hide ((hk2.block w.heap.size (by omega) (by omega)).trans HR1.out)
  have HK2 := hide (HK1.out.trans hk2 (fun _ _ h => h))
  clear hd2 hk2
  go_wp2_with fail
  refine (next_any B d code j1 17 w2 HD2.out (by decide) (by decide)).mono ?_
  rintro _ w3 ⟨r2, j2, rfl, b1, b2, hd3, hk3⟩
  have hs3 := hk3.size
  have HD3 := hide hd3
  have HR3 := hide ((hk3.block w.heap.size (by omega) (by omega)).trans HR2.out)
  have HK3 := hide (HK2.out.trans hk3 (fun _ _ h => h))
  clear hd3 hk3
  go_wp2_with fail
  refine (next_any B d code j2 2 w3 HD3.out (by decide) (by decide)).mono ?_
  rintro _ w4 ⟨r3, j3, rfl, c1, c2, hd4, hk4⟩
  have hs4 := hk4.size
  have HD4 := hide hd4
  have HR4 := hide ((hk4.block w.heap.size (by omega) (by omega)).trans HR3.out)
  have HK4 := hide (HK3.out.trans hk4 (fun _ _ h => h))
  clear hd4 hk4
  by_cases h0 : r3 = 0
  · go_wp2_with fail
    refine (next_any B d code j3 9 w4 HD4.out (by decide) (by decide)).mono ?_
    rintro _ w5 ⟨r4, j4, rfl, d1, d2, hd5, hk5⟩
    have hs5 := hk5.size
    have HD5 := hide hd5
    have HR5 := hide ((hk5.block w.heap.size (by omega) (by omega)).trans HR4.out)
    have HK5 := hide (HK4.out.trans hk5 (fun _ _ h => h))
    clear hd5 hk5
    go_wp2_with fail
    refine (next_any B d code j4 9 w5 HD5.out (by decide) (by decide)).mono ?_
    rintro _ w6 ⟨r5, j5, rfl, e1, e2, hd6, hk6⟩
    have hs6 := hk6.size
    have HD6 := hide hd6
    have HR6 := hide ((hk6.block w.heap.size (by omega) (by omega)).trans HR5.out)
    have HK6 := hide (HK5.out.trans hk6 (fun _ _ h => h))
    clear hd6 hk6
    have HQ := hide (window_may (a := r1 - 8) (b := r2 - 8) (c := r4) (d := r5) (by omega) (by omega) (by omega) (by omega))
    go_wp2_with (refine wpList_store_row rfl 46 (.tmp 2) (.tmp 24) rfl w.heap.size #[I 0, I (r1 - 8), I (r2 - 8), I (r1 - 8 + r4), I (r2 - 8 + r5), I 0, I 0, I 0] rfl rfl 46 _ HR6.out sizeQ rfl (one8 _ _ _ _ _ _ _ _) ?_)
    refine bodyPost_ret (results_cell_row rfl _ _ w.heap.size 46 #[I 0, I (r1 - 8), I (r2 - 8), I (r1 - 8 + r4), I (r2 - 8 + r5), I 0, I 0, I 0] (0, 0) (.struct fs) rfl (setRow_heap _ _ _ _ _ _ HR6.out) HU.out rfl sizeQ) rfl ?_
    exact ⟨⟨0, r1 - 8, r2 - 8, r1 - 8 + r4, r2 - 8 + r5, 0, 0, 0⟩, j5, rfl, HQ.out, HD6.out.keeps (keeps_setRow _ _ _) (fun j hj e => by omega), HK6.out.low (below_setRow (Below.refl _ _) (Nat.le_refl _) _)⟩
  · go_wp2_with fail
    refine (next_any B d code j3 20 w4 HD4.out (by decide) (by decide)).mono ?_
    rintro _ w5 ⟨r4, j4, rfl, d1, d2, hd5, hk5⟩
    have hs5 := hk5.size
    have HD5 := hide hd5
    have HR5 := hide ((hk5.block w.heap.size (by omega) (by omega)).trans HR4.out)
    have HK5 := hide (HK4.out.trans hk5 (fun _ _ h => h))
    clear hd5 hk5
    have HQ := hide (near_may (a := r1 - 8) (b := r2 - 8) (c := r4) (by omega) (by omega) (by omega))
    go_wp2_with (refine wpList_store_row rfl 46 (.tmp 2) (.tmp 30) rfl w.heap.size #[I 1, I 0, I 0, I 0, I 0, I (r1 - 8), I (r2 - 8), I (1 + r4)] rfl rfl 46 _ HR5.out sizeQ rfl (one8 _ _ _ _ _ _ _ _) ?_)
    refine bodyPost_ret (results_cell_row rfl _ _ w.heap.size 46 #[I 1, I 0, I 0, I 0, I 0, I (r1 - 8), I (r2 - 8), I (1 + r4)] (0, 0) (.struct fs) rfl (setRow_heap _ _ _ _ _ _ HR5.out) HU.out rfl sizeQ) rfl ?_
    exact ⟨⟨1, 0, 0, 0, 0, r1 - 8, r2 - 8, 1 + r4⟩, j4, rfl, HQ.out, HD5.out.keeps (keeps_setRow _ _ _) (fun j hj e => by omega), HK5.out.low (below_setRow (Below.refl _ _) (Nat.le_refl _) _)⟩
end Go.Proofs.YtenaelkbgkpllaaGreatDoor
/- The document's Answered, of a window. -/
namespace Go.Proofs.YtenaelkbgkpllaaGreatDoor
open Go.RowKit

theorem inB_is (q : Ward.Qr) (p : Ward.Pt) : Ward.inB (Ward.window q) p = (decide (q.a ≤ p.x) && decide (p.x ≤ q.c) && decide (q.b ≤ p.y) && decide (p.y ≤ q.d)) := rfl
theorem ans_window {q : Ward.Qr} (h : q.kind = 0) (L : List Ward.Pt) : Ward.ans q L = Ward.sortP (L.filter (Ward.inB (Ward.window q))) := by
  unfold Ward.ans
  rw [if_neg (by rw [h]; decide)]
theorem own_base {w : World} {B B' : Nat} {v : Value} {L : List Ward.Pt} (h : Own w B v L) (hB : B' ≤ B) : Own w B' v L := by
  refine ⟨h.1, ?_⟩
  rcases h.2 with h0 | ⟨g, c, cur, e, hb, r⟩
  · exact .inl h0
  · exact .inr ⟨g, c, cur, e, Nat.le_trans hB hb, r⟩
set_option maxRecDepth 100000 in
set_option maxHeartbeats 4000000 in
theorem answered_window (q : Ward.Qr) (va : Value) (L : List Ward.Pt) (w : World) (hk : q.kind = 0) (hr : Reads w va L) (hI : Ward.Ids L) (hl : L.length ≤ 30000) :
    Calls Tryz.prog 103 #[va, Qv q] w fun e w' => ∃ v', e = .returned v' ∧ Own w' w.heap.size v' (Ward.ans q L) ∧ Below w.heap.size w w' := by
  obtain ⟨aa, ca, ea, -⟩ := id hr
  subst ea
  have HRD := hide hr.point.2
  have HI := hide hI
  have HAN := hide (ans_window hk L)
  have HIB := hide (inB_is q)
  generalize Ward.window q = bx at *
  generalize Ward.ans q L = res at *
  have HTR := hide (show Below w.heap.size w (w.alloc (.cells #[I q.kind, I q.a, I q.b, I q.c, I q.d, I q.x, I q.y, I q.k] 46)) ∧ (w.alloc (.cells #[I q.kind, I q.a, I q.b, I q.c, I q.d, I q.x, I q.y, I q.k] 46)).heap[w.heap.size]? = some (.cells #[I q.kind, I q.a, I q.b, I q.c, I q.d, I q.x, I q.y, I q.k] 46 (0, 0)) from ⟨(Below.refl w.heap.size w).alloc (Nat.le_refl _) _, heap_alloc_new w _⟩)
  obtain ⟨kd, qa, qb, qc, qd, qx, qy, qk⟩ := q
  simp only at *
  subst hk
  clear hr hI
  go_enter Tryz.func103, Tryz.ntmps103
  go_upto_region 2 with fail
  have htr := HTR.out
  clear HTR
  generalize w.alloc (.cells #[I 0, I qa, I qb, I qc, I qd, I qx, I qy, I qk] 46) = w1 at htr ⊢
  obtain ⟨hb1, hr1⟩ := htr
  have HB1 := hide hb1
  have hs1 : w.heap.size < w1.heap.size := (Array.getElem?_eq_some_iff.1 hr1).1
  have HQ := hide (fun wq (hb : Below w1.heap.size w1 wq) => rowQ8 ((hb.block w.heap.size hs1).trans hr1))
  have z0 : w1.cell? ⟨w.heap.size, 0, none⟩ = some (I 0) := by rw [cell_of_row _ _ _ _ _ _ hr1]; rfl
  clear hb1 hr1
  go_wp2_with fail
  go_loopw [5, 6] (fun v5 v6 wq => ∃ i : Nat, i ≤ L.length ∧ v6 = I i ∧ Own wq w1.heap.size v5 (Ward.sortP ((L.take i).filter (Ward.inB bx))) ∧ Below w1.heap.size w1 wq)
    (fun _ v6 _ => L.length - (intOf v6).toNat)
  case atStart => exact ⟨0, by omega, rfl, World.ownsRow_nil _ _ _ _, Below.refl _ _⟩
  case round =>
    obtain ⟨i, hi, rfl, hown, hb⟩ := hrel
    have HO := hide hown
    have HB := hide hb
    obtain ⟨av, cv, ev⟩ := hown.slice
    subst ev
    obtain ⟨y0, y1, y2, y3, y4, y5, y6, y7⟩ := HQ.out wr hb
    have hszr : w1.heap.size ≤ wr.heap.size := hb.size
    clear hown hb z0
    by_cases hlt : i < L.length
    · obtain ⟨g, o, rfl, hp⟩ := HRD.out i hlt
      have hp0 := hp wr (HB1.out.trans (HB.out.mono HB1.out.size))
      have HIN := hide (HIB.out L[i])
      have HWI := hide (fun (k : Nat) (h1 : Ward.inB bx L[i] = true) (h2 : Ward.Parts L[i] (Ward.sortP ((L.take i).filter (Ward.inB bx))) k) => Ward.within_in HI.out hlt h1 h2)
      have HWO := hide (fun (h1 : Ward.inB bx L[i] = false) => Ward.within_out hlt h1)
      have HFR := hide (Ward.within_fresh (b := bx) HI.out hlt)
      have HSO := hide (Ward.sortP_sorted (Ward.within_ids (b := bx) HI.out i))
      have hnl := Ward.within_len (b := bx) (L := L) i
      generalize Ward.inB bx L[i] = isIn at *
      generalize L[i] = p at *
      generalize Ward.sortP ((L.take i).filter (Ward.inB bx)) = S at *
      obtain ⟨S', hS'⟩ : ∃ S', Ward.sortP ((L.take (i + 1)).filter (Ward.inB bx)) = S' := ⟨_, rfl⟩
      rw [hS'] at HWO
      simp only [hS'] at HWI
      have HSE := hide hS'
      clear hS'
      obtain ⟨pi, px, py⟩ := p
      obtain ⟨p0, p1, p2⟩ := hp0
      have hb2' := fun o => (Below.refl wr.heap.size wr).alloc (Nat.le_refl _) o
      have hr2' := heap_alloc_new wr
      clear hp
      go_upto_region 7 with fail
      generalize hW : World.alloc wr _ = w2
      have hb2 : Below wr.heap.size wr w2 := by rw [← hW]; exact hb2' _
      have hr2 : w2.heap[wr.heap.size]? = some (.cells #[I pi, I px, I py] 36 (0, 0)) := by rw [← hW]; exact hr2' _
      clear hW hb2' hr2'
      have hs2 : wr.heap.size < w2.heap.size := (Array.getElem?_eq_some_iff.1 hr2).1
      have hB2 : Below w1.heap.size w1 w2 := HB.out.trans (hb2.mono hszr)
      have HB2 := hide hB2
      have HO2 := hide (HO.out.below hb2)
      have HVL := hide (fun g (hg : (Value.slice av S.length cv).ownBlock = some g) => HO.out.lt hg)
      obtain ⟨r0, r1, r2⟩ := row3 hr2
      have HR2 := hide hr2
      clear y0 y1 y2 y3 y4 y5 y6 y7 p0 p1 p2 hb2 hr2 HO
      obtain ⟨y0, y1, y2, y3, y4, y5, y6, y7⟩ := HQ.out w2 hB2
      clear hB2
      by_cases c1 : qa ≤ px
      · by_cases c2 : px ≤ qc
        · by_cases c3 : qb ≤ py
          · by_cases c4 : py ≤ qd
            · have hii : isIn = true := by rw [HIN.out]; simp [c1, c2, c3, c4]
              have HW1 := hide (fun k h2 => HWI.out k hii h2)
              obtain ⟨v1, w3, hap1, ho1, hg1, hf1⟩ := append_pt ⟨pi, px, py⟩ HO2.out (by omega) (by omega)
              have hap1' : (Builtin.append_ #[27, 27] 27 #[.slice av S.length cv, .slice (some ⟨w2.heap.size, 0, none⟩) 1 1]).run Tryz.prog (w2.alloc (.cells #[I pi, I px, I py] 36)) = .ok v1 w3 := hap1
              obtain ⟨go, co, hv1, hgB, hgl, hgc, -, -⟩ := ho1.open' (by simp)
              subst hv1
              have hb3 : Below w1.heap.size w1 w3 := HB2.out.trans ⟨hg1.os, hg1.tape, hg1.output, hg1.size, fun j hj => hg1.block j (by omega) (fun e => by have := HO2.out.ge e.symm; omega)⟩
              have hr3 : w3.heap[wr.heap.size]? = some (.cells #[I pi, I px, I py] 36 (0, 0)) := (hg1.block _ hs2 (fun e => by have := HVL.out _ e.symm; omega)).trans HR2.out
              have hgp : go ≠ wr.heap.size := fun e => by
                rcases hf1 with h | ⟨g', h, hge⟩
                · have := HVL.out go (h.symm.trans rfl)
                  omega
                · have e2 : some go = some g' := h
                  injection e2 with e2
                  omega
              have hln : (S ++ [(⟨pi, px, py⟩ : Ward.Pt)]).length = S.length + 1 := by simp
              rw [hln] at hap1' ho1 hgc
              have HO3 := hide (show Own w3 w1.heap.size (.slice (some ⟨go, 0, none⟩) (S.length + 1) co) (Ward.slid S ⟨pi, px, py⟩ S.length) by rw [Ward.slid_end]; exact ho1)
              have HB3 := hide hb3
              have HR3 := hide hr3
              clear hap1 ho1 hg1 hf1 hb3 hr3 hln
              go_upto_region 10 with (at_builtin; refine Lib.wpList_append_run _ rfl (.tmp 57) (.tmp 59) 27 27 rfl _ _ rfl rfl _ _ hap1' ?_)
              have HPT := hide (fun k (hk : k ≤ S.length) (hh : ∀ j, (h : j < S.length) → k ≤ j → Ward.lt ⟨pi, px, py⟩ S[j]) (hlw : ∀ j, (h : j < S.length) → j + 1 = k → ¬ Ward.lt ⟨pi, px, py⟩ S[j]) => HW1.out k (Ward.slid_parts HSO.out HFR.out hk hh hlw))
              have hgpl : wr.heap.size < w3.heap.size := (Array.getElem?_eq_some_iff.1 HR3.out).1
              clear y0 y1 y2 y3 y4 y5 y6 y7 r0 r1 r2 HVL HO2 HB2 HR2 HW1 HWI HWO HIN HFR HSO HB hap1'
              generalize wr.heap.size = gp at *
              go_loopw [8] (fun v8 wq => ∃ k : Nat, k ≤ S.length ∧ v8 = .int .i64 k ∧ Own wq w1.heap.size (.slice (some ⟨go, 0, none⟩) (S.length + 1) co) (Ward.slid S ⟨pi, px, py⟩ k) ∧ (∀ j, (h : j < S.length) → k ≤ j → Ward.lt ⟨pi, px, py⟩ S[j]) ∧ wq.heap[gp]? = some (.cells #[I pi, I px, I py] 36 (0, 0)) ∧ Below w1.heap.size w1 wq)
                (fun v8 _ => (intOf v8).toNat)
              case atStart => exact ⟨S.length, Nat.le_refl _, rfl, HO3.out, fun j h hj => absurd h (by omega), HR3.out, HB3.out⟩
              case round =>
                obtain ⟨k, hk, rfl, hown, hhi, hrow, hb⟩ := hrel
                have HOK := hide hown
                have HHI := hide hhi
                have HRW := hide hrow
                have HBK := hide hb
                have hszk : w1.heap.size ≤ wr.heap.size := hb.size
                have y0 := (HQ.out wr hb).1
                clear hown hhi hrow hb HO3 HB3 HR3
                cases k with
                | zero =>
                  have HE := hide (HPT.out 0 (by omega) HHI.out (fun j h e => by omega))
                  go_wp2_with fail
                  go_roundw
                  case rel => exact ⟨i + 1, hlt, by go_num, by rw [HSE.out, HE.out]; exact HOK.out, HBK.out⟩
                  case measure => simp [intOf]; omega
                | succ k =>
                  have hks : k < S.length := by omega
                  have hl1 : k < (Ward.slid S ⟨pi, px, py⟩ (k + 1)).length := by rw [Ward.slid_len]; omega
                  have hl2 : k + 1 < (Ward.slid S ⟨pi, px, py⟩ (k + 1)).length := by rw [Ward.slid_len]; omega
                  obtain ⟨go', co', ev, -, hgol, -, hfz, hpt⟩ := HOK.out.open' (by omega)
                  injection ev with ev1 ev2 ev3
                  injection ev1 with ev1
                  injection ev1 with ev1
                  subst ev1
                  clear ev2 ev3
                  have hpk := hpt k hl1
                  rw [Ward.slid_get (by omega)] at hpk
                  have HLO := hide (fun (h : ¬ Ward.lt ⟨pi, px, py⟩ S[k]) => HPT.out (k + 1) hk HHI.out (fun j hj e => by
                    have ej : j = k := by omega
                    subst ej
                    exact h))
                  have HHK := hide (fun (h : Ward.lt ⟨pi, px, py⟩ S[k]) => show ∀ j, (h : j < S.length) → k ≤ j → Ward.lt ⟨pi, px, py⟩ S[j] from fun j hj hkj => by
                    by_cases e : j = k
                    · subst e; exact h
                    · exact HHI.out j hj (by omega))
                  have HSET := hide (Ward.slid_set (S := S) (p := ⟨pi, px, py⟩) hk)
                  obtain ⟨sk, hsk⟩ : ∃ sk, S[k] = sk := ⟨_, rfl⟩
                  rw [hsk] at hpk HLO HHK HSET
                  clear hsk hpt
                  have hS : RdPt wr w.heap.size go (k * 3) gp (I 0) sk ⟨pi, px, py⟩ := ⟨y0, hpk, row3 HRW.out⟩
                  have HBF := hide (fun W => before_ref ⟨pi, px, py⟩ sk W)
                  obtain ⟨si, sx, sy⟩ := sk
                  have hwl : w.heap.size < wr.heap.size := by omega
                  have hgp2 : gp < wr.heap.size := (Array.getElem?_eq_some_iff.1 HRW.out).1
                  have hk0 : (0 : Int) ≤ (k : Int) := by omega
                  have hk1 : (k : Int) < (S.length : Int) + 1 := by omega
                  have hk2 : (k : Int) + 1 < (S.length : Int) + 1 := by omega
                  have hwk : IntKind.i64.wrap (k : Int) = (k : Int) := wrap_small _ (by omega) (by omega)
                  have htk : ((k : Int)).toNat = k := by omega
                  go_upto_region 11 with fail
                  go_cut [9] from 63 to 69 (fun v9 wx => v9 = .bool (decide (Ward.lt ⟨pi, px, py⟩ ⟨si, sx, sy⟩)) ∧ Below wr.heap.size wr wx)
                  case first =>
                    obtain ⟨s0, ⟨s1, s2, s3⟩, s4, s5, s6⟩ := id hS
                    go_region_held3 (fun W => W.cell? ⟨w.heap.size, 0, none⟩ = some (I 0) ∧ (W.cell? ⟨go, k * 3, none⟩ = some (I si) ∧ W.cell? ⟨go, k * 3 + 1, none⟩ = some (I sx) ∧ W.cell? ⟨go, k * 3 + 2, none⟩ = some (I sy)) ∧ W.cell? ⟨gp, 0, none⟩ = some (I pi) ∧ W.cell? ⟨gp, 1, none⟩ = some (I px) ∧ W.cell? ⟨gp, 2, none⟩ = some (I py)) (first | assumption | exact hS | exact hS.drew | exact hS6) ((go_at_call 93; refine (HBF.out _).mono ?_; rintro _ w6 ⟨rfl, hb6⟩; have hS6 := hS.drew.below hb6 (by simpa using hwl) (by simpa using hgol) (by simpa using hgp2); have hB6 : Below wr.heap.size wr w6 := (show Below wr.heap.size wr wr.drew from (Below.refl _ _).drew).trans hb6))
                    all_goals
                      go_wp2_with fail
                      go_meet
                      exact ⟨rfl, hB6⟩
                  case rest =>
                    obtain ⟨rfl, hbc⟩ := hcut
                    generalize wc = w5 at *
                    have hOc := HOK.out.below hbc
                    have HBc := hide (HBK.out.trans (hbc.mono hszk))
                    have HRc := hide ((hbc.block gp hgp2).trans HRW.out)
                    have hpc := row3 HRc.out
                    have hqc : PtAt w5 go (k * 3) ⟨si, sx, sy⟩ := PtAt.block hpk (hbc.block go hgol)
                    by_cases hq : Ward.lt ⟨pi, px, py⟩ ⟨si, sx, sy⟩
                    · rw [decide_eq_true hq]
                      obtain ⟨g5, c5, ev, -, -, -, hfc, hptc⟩ := hOc.open' (by omega)
                      injection ev with ev1 ev2 ev3
                      injection ev1 with ev1
                      injection ev1 with ev1
                      subst ev1
                      clear ev2 ev3
                      have hb1 := hptc (k + 1) hl2
                      obtain ⟨t1, tg1⟩ := ownP_set hOc (k + 1) hl2 ⟨si, sx, sy⟩
                      obtain ⟨t2, tg2⟩ := ownP_set t1 k (by rw [List.length_set]; omega) ⟨pi, px, py⟩
                      rw [HSET.out] at t2
                      have HT2 := hide t2
                      have HG2 := hide (grown_grown tg1 tg2)
                      have HK2 := hide (HHK.out hq)
                      clear t1 t2 tg1 tg2 hptc hOc hbc hpk hS y0 HOK HHI HRW HBK HHK HLO HBF
                      generalize (Ward.slid S ⟨pi, px, py⟩ (k + 1))[k + 1] = old at *
                      obtain ⟨m0, m1, m2⟩ := hb1
                      obtain ⟨n0, n1, n2⟩ := hqc
                      obtain ⟨o0, o1, o2⟩ := hpc
                      have f0 := hfc ((k + 1) * 3)
                      have f1 := hfc ((k + 1) * 3 + 1)
                      have f2 := hfc ((k + 1) * 3 + 2)
                      have f3 := hfc (k * 3)
                      have f4 := hfc (k * 3 + 1)
                      have f5 := hfc (k * 3 + 2)
                      have hgp' : gp ≠ go := fun e => hgp e.symm
                      clear hfc
                      go_wp2_with fail
                      refine ⟨⟨k, by omega, rfl, HT2.out, HK2.out, (HG2.out.block gp (Array.getElem?_eq_some_iff.1 HRc.out).1 (fun e => hgp' (by injection e))).trans HRc.out, HBc.out.trans ⟨HG2.out.os, HG2.out.tape, HG2.out.output, HG2.out.size, fun j hj => HG2.out.block j (Nat.lt_of_lt_of_le hj HBc.out.size) (fun e => by injection e with e; omega)⟩⟩, ?_⟩
                      simp [intOf]
                    · rw [decide_eq_false hq]
                      have HE := hide (HLO.out hq)
                      have HOc := hide hOc
                      clear hOc hbc hpk hS y0 HOK HHI HRW HBK HHK HLO HBF
                      go_wp2_with fail
                      go_roundw
                      case rel => exact ⟨i + 1, hlt, by go_num, by rw [HSE.out, HE.out]; exact HOc.out, HBc.out⟩
                      case measure => simp [intOf]; omega
            · have hio : isIn = false := by rw [HIN.out]; simp [c4]
              have HE := hide (HWO.out hio)
              go_wp2_with fail
              go_roundw
              case rel => exact ⟨i + 1, hlt, by go_num, by rw [HSE.out, HE.out]; exact HO2.out, HB2.out⟩
              case measure => simp [intOf]; omega
          · have hio : isIn = false := by rw [HIN.out]; simp [c3]
            have HE := hide (HWO.out hio)
            go_wp2_with fail
            go_roundw
            case rel => exact ⟨i + 1, hlt, by go_num, by rw [HSE.out, HE.out]; exact HO2.out, HB2.out⟩
            case measure => simp [intOf]; omega
        · have hio : isIn = false := by rw [HIN.out]; simp [c2]
          have HE := hide (HWO.out hio)
          go_wp2_with fail
          go_roundw
          case rel => exact ⟨i + 1, hlt, by go_num, by rw [HSE.out, HE.out]; exact HO2.out, HB2.out⟩
          case measure => simp [intOf]; omega
      · have hio : isIn = false := by rw [HIN.out]; simp [c1]
        have HE := hide (HWO.out hio)
        go_wp2_with fail
        go_roundw
        case rel => exact ⟨i + 1, hlt, by go_num, by rw [HSE.out, HE.out]; exact HO2.out, HB2.out⟩
        case measure => simp [intOf]; omega
    · have ei : i = L.length := by omega
      subst ei
      have HRES := hide (show ∃ v', Value.slice av (Ward.sortP ((L.take L.length).filter (Ward.inB bx))).length cv = v' ∧ Own wr w.heap.size v' res from by
        have h := HO.out
        rw [List.take_length] at h ⊢
        rw [HAN.out]
        exact ⟨_, rfl, own_base h (by omega)⟩)
      obtain ⟨v', ev, hres⟩ := HRES.out
      have HRS := hide hres
      have HFB := hide (HB1.out.trans (HB.out.mono (Nat.le_of_lt hs1)))
      rw [ev]
      clear hres HO HRES
      subst ev
      generalize (Ward.sortP ((L.take L.length).filter (Ward.inB bx))).length = nn at *
      go_wp2_with fail
      go_ret
      exact ⟨_, rfl, HRS.out, HFB.out⟩
end Go.Proofs.YtenaelkbgkpllaaGreatDoor
