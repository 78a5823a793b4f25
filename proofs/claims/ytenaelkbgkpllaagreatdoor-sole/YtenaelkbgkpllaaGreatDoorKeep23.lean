/- Part 23 of what the claims on Bound, Small, Right and Sole rest on. -/
import Derived.Test.YtenaelkbgkpllaaGreatDoorKeep22
/- A proof taken apart. -/
namespace Go.Proofs.YtenaelkbgkpllaaGreatDoor
open Go.RowKit

theorem set_new (w : World) : SetIs (w.alloc (.map #[] 0)) w.heap.size 0 [] := ⟨.map [], World.ownsMap_made w Tryz.prog 3 unitElem, fun x => by rfl⟩
/-- what Read leaves -/
def ReadIs (w : World) (l : List UInt8) (e : Ending) (w' : World) : Prop := Below w.heap.size w w' ∧
  match Ward.parse l with
  | none => ∃ V : List Value, Shape V ∧ e = .returned (.tuple #[.agg V.toArray, .bool false])
  | some t => ∃ V : List Value, e = .returned (.tuple #[.agg V.toArray, .bool true]) ∧ NodeIs w' (fun j => j < w'.heap.size) 7 t V
theorem parse_of_none {l : List UInt8} (h : Ward.rdNode 6 true (l, []) = none) : Ward.parse l = none := by unfold Ward.parse; rw [h]
theorem parse_of_some {l : List UInt8} {t : Ward.NT 7} {s : Ward.Sta} (h : Ward.rdNode 6 true (l, []) = some (t, s)) : Ward.parse l = if s.1 = [] then some (Ward.madeN 7 t) else none := by
  unfold Ward.parse
  rw [h]
  obtain ⟨s1, s2⟩ := s
  cases s1 with
  | nil => rfl
  | cons a l => rw [if_neg (by simp)]
set_option maxRecDepth 100000 in
set_option maxHeartbeats 8000000 in
theorem read_any (l : List UInt8) (w : World) (hK : KT w) : Calls Tryz.prog 46 #[Sv l] w (ReadIs w l) := by
  have hb1' := below3 w
  have hr1' := heap3 w
  have HKT := hide hK
  obtain ⟨fs, hu⟩ := underNode
  have HU := hide hu
  have hmm := @run_makeMap Tryz.prog
  have HS1' := hide (fun (a c : Obj) => (set_new (w.alloc a)).block (w' := ((w.alloc a).alloc (.map #[] 0)).alloc c) (Below.heap_alloc _ c _ (by simp)))
  clear hK hu
  go_enter Tryz.func46, Tryz.ntmps46
  go_upto_region 2 with fail
  generalize hW : World.alloc (World.alloc (World.alloc w _) _) _ = w1
  have hb1 : Below w.heap.size w w1 := by rw [← hW]; exact hb1' _ _ _
  have hr1 : w1.heap[w.heap.size]? = some (.cells zeroV.toArray 90 (0, 0)) := by rw [← hW]; exact (hr1' _ _ _).1
  have hg1 : w1.heap[w.heap.size + 2]? = some (.cells #[Sv l, .map (some (w.heap.size + 1))] 137 (0, 0)) := by rw [← hW]; exact (hr1' _ _ _).2.2.1
  have hm1 : SetIs w1 (w.heap.size + 1) 0 [] := by
    rw [← hW]
    have h := HS1'.out (Obj.cells zeroV.toArray 90 (0, 0)) (Obj.cells #[Sv l, .map (some (w.heap.size + 1))] 137 (0, 0))
    rw [show (w.alloc (Obj.cells zeroV.toArray 90 (0, 0))).heap.size = w.heap.size + 1 by simp] at h
    exact h
  clear hb1' hr1' HS1' hW hmm
  have hs1 : w.heap.size + 2 < w1.heap.size := (Array.getElem?_eq_some_iff.1 hg1).1
  have HR1 := hide hr1
  have HB1 := hide hb1
  have HNA := hide (node_any 6 (by omega) (w.heap.size + 2) (w.heap.size + 1) 0 (l, []) w1 ⟨hg1, hm1⟩ (by decide))
  rw [decide_eq_true (show 6 = 6 from rfl), show ((7 - 6 : Nat) : Int) = 1 from rfl] at HNA
  clear hb1 hr1 hg1 hm1
  go_wp2_with fail
  refine HNA.out.mono ?_
  rintro e w2 h2
  obtain ⟨V, ok, hV, rfl⟩ := h2.shape
  have HV := hide hV.row
  have hs2 := h2.1.size
  have HR2 := hide ((h2.1.block w.heap.size (by omega) (by rintro (e | e) <;> omega)).trans HR1.out)
  have HB2 := hide (show Below w.heap.size w w2 from ⟨h2.1.os.trans HB1.out.os, h2.1.tape.trans HB1.out.tape, h2.1.output.trans HB1.out.output, by omega, fun j hj => (h2.1.block j (by omega) (by rintro (e | e) <;> omega)).trans (HB1.out.block j hj)⟩)
  have h22 := h2.2
  clear h2 hV HNA
  have hr3' := setRow_heap w2 w.heap.size _ V.toArray 90 (0, 0) HR2.out
  have hb3' := below_setRow HB2.out (Nat.le_refl w.heap.size) V.toArray
  have hk3' := keeps_setRow w2 w.heap.size V.toArray
  go_upto_region 3 with (refine wpList_store_row rfl 90 (.tmp 2) (.tmp 12) rfl w.heap.size V.toArray rfl rfl 90 _ HR2.out HV.out.info (by rw [HV.out.size]; rfl) HV.out.one ?_)
  generalize World.setRow w2 w.heap.size V.toArray = w3 at *
  have hs3 := hk3'.size
  have HR3 := hide hr3'
  have HB3 := hide hb3'
  have HK3 := hide hk3'
  clear hr3' hb3' hk3'
  cases hrb : Ward.rdNode 6 true (l, []) with
  | none =>
    rw [hrb] at h22
    obtain ⟨Vx, -, he⟩ := h22
    obtain ⟨-, hok⟩ := tup_inj he
    subst hok
    have HP := hide (parse_of_none hrb)
    clear he
    go_wp2_with (refine wpList_store_row rfl 90 (.tmp 2) (.tmp 23) rfl w.heap.size zeroV.toArray rfl rfl 90 _ HR3.out zeroV_row.info (by rw [HV.out.size]; rfl) zeroV_row.one ?_)
    refine bodyPost_ret (results_row_tmp (p := 2) (u := 3) (ty := 90) rfl _ _ w.heap.size 90 zeroV.toArray (0, 0) (.struct fs) rfl (setRow_heap _ _ _ _ _ _ HR3.out) HU.out rfl zeroV_row.info) rfl ?_
    unfold ReadIs
    rw [HP.out]
    exact ⟨below_setRow HB3.out (Nat.le_refl _) _, zeroV, zeroV_shape, rfl⟩
  | some ps =>
    obtain ⟨t, s⟩ := ps
    rw [hrb] at h22
    obtain ⟨Vx, n2, he, hNx, -, hRx⟩ := h22
    obtain ⟨hVx, hok⟩ := tup_inj he
    subst hok
    have hVe : V = Vx := by
      simp only [Value.agg.injEq] at hVx
      exact congrArg Array.toList hVx
    subst hVe
    have HPS := hide (parse_of_some hrb)
    have c3 : w3.cell? ⟨w.heap.size + 2, 0, none⟩ = some (Sv s.1) := by rw [cell_of_row _ _ _ _ _ _ ((HK3.out.block (w.heap.size + 2) (by omega) (by omega)).trans hRx.row)]; rfl
    have HFN := hide (Ward.form_fine 6 true t (Ward.rdNode_sound 6 true _ t s hrb).1.1)
    have HN3 := hide (show NodeIs w3 (fun j => w1.heap.size ≤ j ∧ j < w3.heap.size) 7 t V from NodeIs.keep (fun j hj => HK3.out.block j hj.2 (by have := hj.1; omega)) (fun j hj => ⟨hj.1, by have := hj.2; omega⟩) _ _ _ hNx)
    clear hRx he hVx hNx hrb
    by_cases hz : s.1 = []
    · rw [if_pos hz] at HPS
      rw [hz] at c3
      have HMD := hide (made_any 6 t V w3 (fun j => w1.heap.size ≤ j ∧ j < w3.heap.size) (fun _ h => h.2) HN3.out HFN.out.few (fun c hc => (HFN.out.nums c hc).1) (HKT.out.below HB3.out))
      go_wp2_with (refine wpList_load_row rfl 90 (.tmp 2) rfl w.heap.size rfl 90 V.toArray (0, 0) (.struct fs) HR3.out HU.out rfl HV.out.info ?_)
      refine HMD.out.mono ?_
      rintro _ w4 ⟨V4, rfl, hn4, hb4⟩
      have hs4 := hb4.size
      have HV4 := hide hn4.shape.row
      have HR4 := hide ((hb4.block w.heap.size (by omega)).trans HR3.out)
      have HB4 := hide (HB3.out.trans (hb4.mono (by omega)))
      have HN4 := hide hn4
      clear hb4 hn4
      go_wp2_with (refine wpList_store_row rfl 90 (.tmp 2) (.tmp 25) rfl w.heap.size V4.toArray rfl rfl 90 _ HR4.out HV4.out.info (by rw [HV4.out.size, HV.out.size]) HV4.out.one ?_)
      refine bodyPost_ret (results_row_tmp (p := 2) (u := 3) (ty := 90) rfl _ _ w.heap.size 90 V4.toArray (0, 0) (.struct fs) rfl (setRow_heap _ _ _ _ _ _ HR4.out) HU.out rfl HV4.out.info) rfl ?_
      unfold ReadIs
      rw [HPS.out]
      exact ⟨below_setRow HB4.out (Nat.le_refl _) _, V4, rfl, NodeIs.keep (fun j hj => setRow_other _ _ _ _ (by have := hj.1; omega)) (fun j hj => show j < (w4.setRow w.heap.size V4.toArray).heap.size by rw [size_setRow]; have := hj.2; omega) _ _ _ HN4.out⟩
    · rw [if_neg hz] at HPS
      have HP := HPS
      have hie : s.1.isEmpty = false := by
        cases hh : s.1 with
        | nil => exact absurd hh hz
        | cons a l => rfl
      go_wp2_with (refine wpList_store_row rfl 90 (.tmp 2) (.tmp 23) rfl w.heap.size zeroV.toArray rfl rfl 90 _ HR3.out zeroV_row.info (by rw [HV.out.size]; rfl) zeroV_row.one ?_)
      refine bodyPost_ret (results_row_tmp (p := 2) (u := 3) (ty := 90) rfl _ _ w.heap.size 90 zeroV.toArray (0, 0) (.struct fs) rfl (setRow_heap _ _ _ _ _ _ HR3.out) HU.out rfl zeroV_row.info) rfl ?_
      unfold ReadIs
      rw [HP.out]
      exact ⟨below_setRow HB3.out (Nat.le_refl _) _, zeroV, zeroV_shape, rfl⟩
end Go.Proofs.YtenaelkbgkpllaaGreatDoor
/- A test of every child. -/
namespace Go.Proofs.YtenaelkbgkpllaaGreatDoor
open Go.RowKit

/-- of a test of children: what it says -/
def Holdsb (w : World) (P : (n : Nat) → Ward.NT n → Bool) : Prop := ∀ (W : World) (n : Nat) (t : Ward.NT n) (V : List Value) (S : Nat → Prop), (∀ g, S g → g < W.heap.size) → NodeIs W S n t V → Ward.Few n t → Ward.NumsN n t → (Ward.boxN n t).In → Below w.heap.size w W → Calls Tryz.prog 87 #[.agg V.toArray] W fun e w' => e = .returned (.bool (P n t)) ∧ Below W.heap.size W w'
theorem Holdsb.below {w w' : World} {P : (n : Nat) → Ward.NT n → Bool} (h : Holdsb w P) (hb : Below w.heap.size w w') : Holdsb w' P := fun W n t V S hS hN h1 h2 h3 hW => h W n t V S hS hN h1 h2 h3 (hb.trans (hW.mono hb.size))
attribute [local go_sem ↓] Go.wp_at_zero Go.wp_at_succ wp_load_nodeG
set_option maxRecDepth 100000 in
set_option maxHeartbeats 4000000 in
theorem every_b (P : (n : Nat) → Ward.NT n → Bool) : ∀ (n : Nat) (t : Ward.NT n) (V : List Value) (w : World) (S : Nat → Prop) (_ : ∀ g, S g → g < w.heap.size) (_ : NodeIs w S n t V) (_ : Ward.Few n t) (_ : Ward.NumsN n t) (_ : Ward.InN n t) (_ : Holdsb w P),
    Calls Tryz.prog 84 #[.agg V.toArray, .func (.func 87) #[] #[]] w fun e w' => e = .returned (.bool (Ward.everyN P n t)) ∧ Below w.heap.size w w' := by
  intro n
  induction n with
  | zero => intro t; exact nomatch t
  | succ n ih =>
    intro t V w S hS hN hfew hnum hin hho
    have HEV := hide (every_step P n t)
    have IH := hide ih
    have HFEW := hide hfew
    have HNUM := hide hnum
    have HIN := hide hin
    have HHO := hide hho
    obtain ⟨a1, l1, c1, a2, l2, c2, hV, hd⟩ := hN.cells
    have HR := hide (show Row39 V by rw [hV]; exact nodeV_row hd)
    obtain ⟨vp, vc, hVe, -, hrp, ⟨ac, cc, rfl, hkids⟩⟩ := hN
    have HVE := hide hVe
    have HKD := hide hkids
    have HS := hide hS
    have hk4 : (Ward.Nd.kids t).length ≤ 4 := HFEW.out.2.1
    obtain ⟨fs, hu⟩ := underNode
    have HU := hide hu
    clear hu hV hd hVe hrp hkids hS ih hfew hnum hin hho
    have hb2 := fun o => (Below.refl w.heap.size w).alloc (Nat.le_refl _) o
    have hr2 := heap_alloc_new w
    go_enter Tryz.func84, Tryz.ntmps84
    go_upto_region 1 with fail
    generalize hW : World.alloc w _ = w1
    have hb1 : Below w.heap.size w w1 := by rw [← hW]; exact hb2 _
    have hn1 : w1.heap[w.heap.size]? = some (.cells V.toArray 90 (0, 0)) := by rw [← hW]; exact hr2 _
    clear hb2 hr2 hW
    have hs1 : w.heap.size < w1.heap.size := (Array.getElem?_eq_some_iff.1 hn1).1
    have HB1 := hide hb1
    have HN1 := hide (show w1.heap[w.heap.size]? = some (.cells (nodeV vp (.slice ac (Ward.Nd.kids t).length cc) (Ward.Nd.box t) (Ward.Nd.n t) ((Ward.Nd.dig t).map Y)).toArray 90 (0, 0)) by rw [hn1, HVE.out])
    obtain ⟨⟨k0, k1⟩, -, -⟩ := node_cells HN1.out
    clear hb1 hn1
    go_wp2_with fail
    go_loopg [10] (Ward.Nd.kids t).length (fun gk v10 wq => ∃ i : Nat, gk = (Ward.Nd.kids t).length - i ∧ v10 = I i ∧ i ≤ (Ward.Nd.kids t).length ∧ Below w.heap.size w wq ∧ ((Ward.Nd.kids t).take i).all (fun c => P n c && Ward.everyN P n c) = true)
    case atStart => exact ⟨0, by omega, rfl, by omega, HB1.out, rfl⟩
    case round =>
      obtain ⟨i, hgk, rfl, hi, hb, ha⟩ := hrel
      have HGK := hide hgk
      have HB := hide hb
      have HA := hide ha
      have hsz := hb.size
      clear hgk hb ha
      by_cases hlt : i < (Ward.Nd.kids t).length
      · obtain ⟨g, o, rfl, hgS, hrows⟩ := HKD.out (fun e => by rw [e] at hlt; simp at hlt)
        obtain ⟨U, hU, hc⟩ := hrows i hlt
        have hgl := HS.out g hgS
        have HC := hide (rangeAt_block hc (HB.out.block g hgl))
        have HU2 := hide (NodeIs.keep (S' := S) (below_same HB.out HS.out) (fun _ h => h) n _ U hU)
        obtain ⟨d1, m1, e1, d2, m2, e2, hV, hd⟩ := HU2.out.cells
        have HR2 := hide (show Row39 U by rw [hV]; exact nodeV_row hd)
        have HST := hide (all_take (fun c => P n c && Ward.everyN P n c) (Ward.Nd.kids t) i hlt HA.out)
        have HHX := hide (fun (W : World) (hb : Below wr.heap.size wr W) => HHO.out W n _ U S (fun j hj => by have := HS.out j hj; have := hb.size; omega) (NodeIs.keep (S' := S) (below_same hb (fun j hj => by have := HS.out j hj; omega)) (fun _ h => h) n _ U HU2.out) (HFEW.out.2.2 _ (List.getElem_mem hlt)) (HNUM.out _ (List.getElem_mem hlt)).2 (HIN.out _ (List.getElem_mem hlt)).1 (HB.out.trans (hb.mono hsz)))
        have HIX := hide (fun (W : World) (hb : Below wr.heap.size wr W) => IH.out _ U W S (fun j hj => by have := HS.out j hj; have := hb.size; omega) (NodeIs.keep (S' := S) (below_same hb (fun j hj => by have := HS.out j hj; omega)) (fun _ h => h) n _ U HU2.out) (HFEW.out.2.2 _ (List.getElem_mem hlt)) (HNUM.out _ (List.getElem_mem hlt)).2 (HIN.out _ (List.getElem_mem hlt)).2 (HHO.out.below (HB.out.trans (hb.mono hsz))))
        clear hc hU hrows hV hd
        generalize (Ward.Nd.kids t)[i] = c at *
        go_upto_region 4 with (first | (refine wpList_load_mid rfl 90 (.tmp 12) rfl g (o + i * 39) rfl U (.struct fs) HC.out HU.out rfl HR2.out.infl ?_) | (refine wpList_store_row rfl 90 (.tmp 6) (.tmp 13) rfl wr.heap.size U.toArray rfl rfl 90 _ (heap_alloc_new wr _) HR2.out.info (by rw [HR2.out.size]; rfl) HR2.out.one ?_; rw [World.setRow_alloc_new]))
        have hb5' := fun o => (Below.refl wr.heap.size wr).alloc (Nat.le_refl _) o
        have hr5' := heap_alloc_new wr
        generalize hW : World.alloc wr _ = w5
        have hb5 : Below wr.heap.size wr w5 := by rw [← hW]; exact hb5' _
        have hr5 : w5.heap[wr.heap.size]? = some (.cells U.toArray 90 (0, 0)) := by rw [← hW]; exact hr5' _
        clear hb5' hr5' hW
        have hs5 : wr.heap.size < w5.heap.size := (Array.getElem?_eq_some_iff.1 hr5).1
        have HB5 := hide hb5
        have HR5 := hide hr5
        clear hb5 hr5
        have HX := hide (HHX.out w5 HB5.out)
        generalize P n c = r at *
        go_wp2_with (refine wpList_load_row rfl 90 (.tmp 6) rfl wr.heap.size rfl 90 U.toArray (0, 0) (.struct fs) HR5.out HU.out rfl HR2.out.info ?_)
        refine HX.out.mono ?_
        rintro _ w6 ⟨rfl, hb6⟩
        have hs6 := hb6.size
        have HB6 := hide (HB5.out.trans (hb6.mono (by omega)))
        have HR6 := hide ((hb6.block wr.heap.size hs5).trans HR5.out)
        clear hb6
        cases r with
        | false =>
          go_wp2_with fail
          go_ret
          refine ⟨?_, HB.out.trans (HB6.out.mono (by omega))⟩
          rw [HEV.out, HST.out.2 rfl]; rfl
        | true =>
          have HY := hide (HIX.out w6 HB6.out)
          generalize Ward.everyN P n c = r2 at *
          have n6 : NodeRow w6 (.pointer (some ⟨wr.heap.size, 0, none⟩)) := nodeRow_of HR6.out HR2.out.size
          have l6 : loadVal w6 (.pointer (some ⟨wr.heap.size, 0, none⟩)) = .agg U.toArray := loadVal_row HR6.out
          go_wp2_with fail
          refine HY.out.mono ?_
          rintro _ w7 ⟨rfl, hb7⟩
          have HB7 := hide (HB6.out.trans (hb7.mono (by omega)))
          clear hb7 n6 l6
          cases r2 with
          | false =>
            go_wp2_with fail
            go_ret
            refine ⟨?_, HB.out.trans (HB7.out.mono (by omega))⟩
            rw [HEV.out, HST.out.2 rfl]; rfl
          | true =>
            go_wp2_with fail
            go_roundg ((Ward.Nd.kids t).length - (i + 1))
            case measure => have := HGK.out; omega
            case rel => exact ⟨i + 1, rfl, by go_num, hlt, HB.out.trans (HB7.out.mono (by omega)), HST.out.1 rfl⟩
      · have ei : i = (Ward.Nd.kids t).length := by omega
        subst ei
        rw [List.take_length] at HA
        go_wp2_with fail
        go_ret
        refine ⟨?_, HB.out⟩
        rw [HEV.out, HA.out]; rfl
end Go.Proofs.YtenaelkbgkpllaaGreatDoor
/- A test of every child. -/
namespace Go.Proofs.YtenaelkbgkpllaaGreatDoor
open Go.RowKit

/-- of a test of children: what it says -/
def Holdsc (w : World) (kq ka : Nat) (P : (n : Nat) → Ward.NT n → Bool) : Prop := ∀ (W : World) (n : Nat) (t : Ward.NT n) (V : List Value) (S : Nat → Prop), (∀ g, S g → g < W.heap.size) → NodeIs W S n t V → Ward.Few n t → Ward.NumsN n t → (Ward.boxN n t).In → Below w.heap.size w W → Calls Tryz.prog 88 #[.agg V.toArray, .pointer (some ⟨kq, 0, none⟩), .pointer (some ⟨ka, 0, none⟩)] W fun e w' => e = .returned (.bool (P n t)) ∧ Below W.heap.size W w'
theorem Holdsc.below {w w' : World} {kq ka : Nat} {P : (n : Nat) → Ward.NT n → Bool} (h : Holdsc w kq ka P) (hb : Below w.heap.size w w') : Holdsc w' kq ka P := fun W n t V S hS hN h1 h2 h3 hW => h W n t V S hS hN h1 h2 h3 (hb.trans (hW.mono hb.size))
attribute [local go_sem ↓] Go.wp_at_zero Go.wp_at_succ wp_load_nodeG
set_option maxRecDepth 100000 in
set_option maxHeartbeats 4000000 in
theorem every_c (kq ka : Nat) (P : (n : Nat) → Ward.NT n → Bool) : ∀ (n : Nat) (t : Ward.NT n) (V : List Value) (w : World) (S : Nat → Prop) (_ : ∀ g, S g → g < w.heap.size) (_ : NodeIs w S n t V) (_ : Ward.Few n t) (_ : Ward.NumsN n t) (_ : Ward.InN n t) (_ : Holdsc w kq ka P),
    Calls Tryz.prog 84 #[.agg V.toArray, .func (.func 88) #[] #[.pointer (some ⟨kq, 0, none⟩), .pointer (some ⟨ka, 0, none⟩)]] w fun e w' => e = .returned (.bool (Ward.everyN P n t)) ∧ Below w.heap.size w w' := by
  intro n
  induction n with
  | zero => intro t; exact nomatch t
  | succ n ih =>
    intro t V w S hS hN hfew hnum hin hho
    have HEV := hide (every_step P n t)
    have IH := hide ih
    have HFEW := hide hfew
    have HNUM := hide hnum
    have HIN := hide hin
    have HHO := hide hho
    obtain ⟨a1, l1, c1, a2, l2, c2, hV, hd⟩ := hN.cells
    have HR := hide (show Row39 V by rw [hV]; exact nodeV_row hd)
    obtain ⟨vp, vc, hVe, -, hrp, ⟨ac, cc, rfl, hkids⟩⟩ := hN
    have HVE := hide hVe
    have HKD := hide hkids
    have HS := hide hS
    have hk4 : (Ward.Nd.kids t).length ≤ 4 := HFEW.out.2.1
    obtain ⟨fs, hu⟩ := underNode
    have HU := hide hu
    clear hu hV hd hVe hrp hkids hS ih hfew hnum hin hho
    have hb2 := fun o => (Below.refl w.heap.size w).alloc (Nat.le_refl _) o
    have hr2 := heap_alloc_new w
    go_enter Tryz.func84, Tryz.ntmps84
    go_upto_region 1 with fail
    generalize hW : World.alloc w _ = w1
    have hb1 : Below w.heap.size w w1 := by rw [← hW]; exact hb2 _
    have hn1 : w1.heap[w.heap.size]? = some (.cells V.toArray 90 (0, 0)) := by rw [← hW]; exact hr2 _
    clear hb2 hr2 hW
    have hs1 : w.heap.size < w1.heap.size := (Array.getElem?_eq_some_iff.1 hn1).1
    have HB1 := hide hb1
    have HN1 := hide (show w1.heap[w.heap.size]? = some (.cells (nodeV vp (.slice ac (Ward.Nd.kids t).length cc) (Ward.Nd.box t) (Ward.Nd.n t) ((Ward.Nd.dig t).map Y)).toArray 90 (0, 0)) by rw [hn1, HVE.out])
    obtain ⟨⟨k0, k1⟩, -, -⟩ := node_cells HN1.out
    clear hb1 hn1
    go_wp2_with fail
    go_loopg [10] (Ward.Nd.kids t).length (fun gk v10 wq => ∃ i : Nat, gk = (Ward.Nd.kids t).length - i ∧ v10 = I i ∧ i ≤ (Ward.Nd.kids t).length ∧ Below w.heap.size w wq ∧ ((Ward.Nd.kids t).take i).all (fun c => P n c && Ward.everyN P n c) = true)
    case atStart => exact ⟨0, by omega, rfl, by omega, HB1.out, rfl⟩
    case round =>
      obtain ⟨i, hgk, rfl, hi, hb, ha⟩ := hrel
      have HGK := hide hgk
      have HB := hide hb
      have HA := hide ha
      have hsz := hb.size
      clear hgk hb ha
      by_cases hlt : i < (Ward.Nd.kids t).length
      · obtain ⟨g, o, rfl, hgS, hrows⟩ := HKD.out (fun e => by rw [e] at hlt; simp at hlt)
        obtain ⟨U, hU, hc⟩ := hrows i hlt
        have hgl := HS.out g hgS
        have HC := hide (rangeAt_block hc (HB.out.block g hgl))
        have HU2 := hide (NodeIs.keep (S' := S) (below_same HB.out HS.out) (fun _ h => h) n _ U hU)
        obtain ⟨d1, m1, e1, d2, m2, e2, hV, hd⟩ := HU2.out.cells
        have HR2 := hide (show Row39 U by rw [hV]; exact nodeV_row hd)
        have HST := hide (all_take (fun c => P n c && Ward.everyN P n c) (Ward.Nd.kids t) i hlt HA.out)
        have HHX := hide (fun (W : World) (hb : Below wr.heap.size wr W) => HHO.out W n _ U S (fun j hj => by have := HS.out j hj; have := hb.size; omega) (NodeIs.keep (S' := S) (below_same hb (fun j hj => by have := HS.out j hj; omega)) (fun _ h => h) n _ U HU2.out) (HFEW.out.2.2 _ (List.getElem_mem hlt)) (HNUM.out _ (List.getElem_mem hlt)).2 (HIN.out _ (List.getElem_mem hlt)).1 (HB.out.trans (hb.mono hsz)))
        have HIX := hide (fun (W : World) (hb : Below wr.heap.size wr W) => IH.out _ U W S (fun j hj => by have := HS.out j hj; have := hb.size; omega) (NodeIs.keep (S' := S) (below_same hb (fun j hj => by have := HS.out j hj; omega)) (fun _ h => h) n _ U HU2.out) (HFEW.out.2.2 _ (List.getElem_mem hlt)) (HNUM.out _ (List.getElem_mem hlt)).2 (HIN.out _ (List.getElem_mem hlt)).2 (HHO.out.below (HB.out.trans (hb.mono hsz))))
        clear hc hU hrows hV hd
        generalize (Ward.Nd.kids t)[i] = c at *
        go_upto_region 4 with (first | (refine wpList_load_mid rfl 90 (.tmp 12) rfl g (o + i * 39) rfl U (.struct fs) HC.out HU.out rfl HR2.out.infl ?_) | (refine wpList_store_row rfl 90 (.tmp 6) (.tmp 13) rfl wr.heap.size U.toArray rfl rfl 90 _ (heap_alloc_new wr _) HR2.out.info (by rw [HR2.out.size]; rfl) HR2.out.one ?_; rw [World.setRow_alloc_new]))
        have hb5' := fun o => (Below.refl wr.heap.size wr).alloc (Nat.le_refl _) o
        have hr5' := heap_alloc_new wr
        generalize hW : World.alloc wr _ = w5
        have hb5 : Below wr.heap.size wr w5 := by rw [← hW]; exact hb5' _
        have hr5 : w5.heap[wr.heap.size]? = some (.cells U.toArray 90 (0, 0)) := by rw [← hW]; exact hr5' _
        clear hb5' hr5' hW
        have hs5 : wr.heap.size < w5.heap.size := (Array.getElem?_eq_some_iff.1 hr5).1
        have HB5 := hide hb5
        have HR5 := hide hr5
        clear hb5 hr5
        have HX := hide (HHX.out w5 HB5.out)
        generalize P n c = r at *
        go_wp2_with (refine wpList_load_row rfl 90 (.tmp 6) rfl wr.heap.size rfl 90 U.toArray (0, 0) (.struct fs) HR5.out HU.out rfl HR2.out.info ?_)
        refine HX.out.mono ?_
        rintro _ w6 ⟨rfl, hb6⟩
        have hs6 := hb6.size
        have HB6 := hide (HB5.out.trans (hb6.mono (by omega)))
        have HR6 := hide ((hb6.block wr.heap.size hs5).trans HR5.out)
        clear hb6
        cases r with
        | false =>
          go_wp2_with fail
          go_ret
          refine ⟨?_, HB.out.trans (HB6.out.mono (by omega))⟩
          rw [HEV.out, HST.out.2 rfl]; rfl
        | true =>
          have HY := hide (HIX.out w6 HB6.out)
          generalize Ward.everyN P n c = r2 at *
          have n6 : NodeRow w6 (.pointer (some ⟨wr.heap.size, 0, none⟩)) := nodeRow_of HR6.out HR2.out.size
          have l6 : loadVal w6 (.pointer (some ⟨wr.heap.size, 0, none⟩)) = .agg U.toArray := loadVal_row HR6.out
          go_wp2_with fail
          refine HY.out.mono ?_
          rintro _ w7 ⟨rfl, hb7⟩
          have HB7 := hide (HB6.out.trans (hb7.mono (by omega)))
          clear hb7 n6 l6
          cases r2 with
          | false =>
            go_wp2_with fail
            go_ret
            refine ⟨?_, HB.out.trans (HB7.out.mono (by omega))⟩
            rw [HEV.out, HST.out.2 rfl]; rfl
          | true =>
            go_wp2_with fail
            go_roundg ((Ward.Nd.kids t).length - (i + 1))
            case measure => have := HGK.out; omega
            case rel => exact ⟨i + 1, rfl, by go_num, hlt, HB.out.trans (HB7.out.mono (by omega)), HST.out.1 rfl⟩
      · have ei : i = (Ward.Nd.kids t).length := by omega
        subst ei
        rw [List.take_length] at HA
        go_wp2_with fail
        go_ret
        refine ⟨?_, HB.out⟩
        rw [HEV.out, HA.out]; rfl
end Go.Proofs.YtenaelkbgkpllaaGreatDoor
/- A test of every child. -/
namespace Go.Proofs.YtenaelkbgkpllaaGreatDoor
open Go.RowKit

/-- of a test of children: what it says -/
def Holdsd (w : World) (kq ka : Nat) (P : (n : Nat) → Ward.NT n → Bool) : Prop := ∀ (W : World) (n : Nat) (t : Ward.NT n) (V : List Value) (S : Nat → Prop), (∀ g, S g → g < W.heap.size) → NodeIs W S n t V → Ward.Few n t → Ward.NumsN n t → (Ward.boxN n t).In → Below w.heap.size w W → Calls Tryz.prog 89 #[.agg V.toArray, .pointer (some ⟨kq, 0, none⟩), .pointer (some ⟨ka, 0, none⟩)] W fun e w' => e = .returned (.bool (P n t)) ∧ Below W.heap.size W w'
theorem Holdsd.below {w w' : World} {kq ka : Nat} {P : (n : Nat) → Ward.NT n → Bool} (h : Holdsd w kq ka P) (hb : Below w.heap.size w w') : Holdsd w' kq ka P := fun W n t V S hS hN h1 h2 h3 hW => h W n t V S hS hN h1 h2 h3 (hb.trans (hW.mono hb.size))
attribute [local go_sem ↓] Go.wp_at_zero Go.wp_at_succ wp_load_nodeG
set_option maxRecDepth 100000 in
set_option maxHeartbeats 4000000 in
theorem every_d (kq ka : Nat) (P : (n : Nat) → Ward.NT n → Bool) : ∀ (n : Nat) (t : Ward.NT n) (V : List Value) (w : World) (S : Nat → Prop) (_ : ∀ g, S g → g < w.heap.size) (_ : NodeIs w S n t V) (_ : Ward.Few n t) (_ : Ward.NumsN n t) (_ : Ward.InN n t) (_ : Holdsd w kq ka P),
    Calls Tryz.prog 84 #[.agg V.toArray, .func (.func 89) #[] #[.pointer (some ⟨kq, 0, none⟩), .pointer (some ⟨ka, 0, none⟩)]] w fun e w' => e = .returned (.bool (Ward.everyN P n t)) ∧ Below w.heap.size w w' := by
  intro n
  induction n with
  | zero => intro t; exact nomatch t
  | succ n ih =>
    intro t V w S hS hN hfew hnum hin hho
    have HEV := hide (every_step P n t)
    have IH := hide ih
    have HFEW := hide hfew
    have HNUM := hide hnum
    have HIN := hide hin
    have HHO := hide hho
    obtain ⟨a1, l1, c1, a2, l2, c2, hV, hd⟩ := hN.cells
    have HR := hide (show Row39 V by rw [hV]; exact nodeV_row hd)
    obtain ⟨vp, vc, hVe, -, hrp, ⟨ac, cc, rfl, hkids⟩⟩ := hN
    have HVE := hide hVe
    have HKD := hide hkids
    have HS := hide hS
    have hk4 : (Ward.Nd.kids t).length ≤ 4 := HFEW.out.2.1
    obtain ⟨fs, hu⟩ := underNode
    have HU := hide hu
    clear hu hV hd hVe hrp hkids hS ih hfew hnum hin hho
    have hb2 := fun o => (Below.refl w.heap.size w).alloc (Nat.le_refl _) o
    have hr2 := heap_alloc_new w
    go_enter Tryz.func84, Tryz.ntmps84
    go_upto_region 1 with fail
    generalize hW : World.alloc w _ = w1
    have hb1 : Below w.heap.size w w1 := by rw [← hW]; exact hb2 _
    have hn1 : w1.heap[w.heap.size]? = some (.cells V.toArray 90 (0, 0)) := by rw [← hW]; exact hr2 _
    clear hb2 hr2 hW
    have hs1 : w.heap.size < w1.heap.size := (Array.getElem?_eq_some_iff.1 hn1).1
    have HB1 := hide hb1
    have HN1 := hide (show w1.heap[w.heap.size]? = some (.cells (nodeV vp (.slice ac (Ward.Nd.kids t).length cc) (Ward.Nd.box t) (Ward.Nd.n t) ((Ward.Nd.dig t).map Y)).toArray 90 (0, 0)) by rw [hn1, HVE.out])
    obtain ⟨⟨k0, k1⟩, -, -⟩ := node_cells HN1.out
    clear hb1 hn1
    go_wp2_with fail
    go_loopg [10] (Ward.Nd.kids t).length (fun gk v10 wq => ∃ i : Nat, gk = (Ward.Nd.kids t).length - i ∧ v10 = I i ∧ i ≤ (Ward.Nd.kids t).length ∧ Below w.heap.size w wq ∧ ((Ward.Nd.kids t).take i).all (fun c => P n c && Ward.everyN P n c) = true)
    case atStart => exact ⟨0, by omega, rfl, by omega, HB1.out, rfl⟩
    case round =>
      obtain ⟨i, hgk, rfl, hi, hb, ha⟩ := hrel
      have HGK := hide hgk
      have HB := hide hb
      have HA := hide ha
      have hsz := hb.size
      clear hgk hb ha
      by_cases hlt : i < (Ward.Nd.kids t).length
      · obtain ⟨g, o, rfl, hgS, hrows⟩ := HKD.out (fun e => by rw [e] at hlt; simp at hlt)
        obtain ⟨U, hU, hc⟩ := hrows i hlt
        have hgl := HS.out g hgS
        have HC := hide (rangeAt_block hc (HB.out.block g hgl))
        have HU2 := hide (NodeIs.keep (S' := S) (below_same HB.out HS.out) (fun _ h => h) n _ U hU)
        obtain ⟨d1, m1, e1, d2, m2, e2, hV, hd⟩ := HU2.out.cells
        have HR2 := hide (show Row39 U by rw [hV]; exact nodeV_row hd)
        have HST := hide (all_take (fun c => P n c && Ward.everyN P n c) (Ward.Nd.kids t) i hlt HA.out)
        have HHX := hide (fun (W : World) (hb : Below wr.heap.size wr W) => HHO.out W n _ U S (fun j hj => by have := HS.out j hj; have := hb.size; omega) (NodeIs.keep (S' := S) (below_same hb (fun j hj => by have := HS.out j hj; omega)) (fun _ h => h) n _ U HU2.out) (HFEW.out.2.2 _ (List.getElem_mem hlt)) (HNUM.out _ (List.getElem_mem hlt)).2 (HIN.out _ (List.getElem_mem hlt)).1 (HB.out.trans (hb.mono hsz)))
        have HIX := hide (fun (W : World) (hb : Below wr.heap.size wr W) => IH.out _ U W S (fun j hj => by have := HS.out j hj; have := hb.size; omega) (NodeIs.keep (S' := S) (below_same hb (fun j hj => by have := HS.out j hj; omega)) (fun _ h => h) n _ U HU2.out) (HFEW.out.2.2 _ (List.getElem_mem hlt)) (HNUM.out _ (List.getElem_mem hlt)).2 (HIN.out _ (List.getElem_mem hlt)).2 (HHO.out.below (HB.out.trans (hb.mono hsz))))
        clear hc hU hrows hV hd
        generalize (Ward.Nd.kids t)[i] = c at *
        go_upto_region 4 with (first | (refine wpList_load_mid rfl 90 (.tmp 12) rfl g (o + i * 39) rfl U (.struct fs) HC.out HU.out rfl HR2.out.infl ?_) | (refine wpList_store_row rfl 90 (.tmp 6) (.tmp 13) rfl wr.heap.size U.toArray rfl rfl 90 _ (heap_alloc_new wr _) HR2.out.info (by rw [HR2.out.size]; rfl) HR2.out.one ?_; rw [World.setRow_alloc_new]))
        have hb5' := fun o => (Below.refl wr.heap.size wr).alloc (Nat.le_refl _) o
        have hr5' := heap_alloc_new wr
        generalize hW : World.alloc wr _ = w5
        have hb5 : Below wr.heap.size wr w5 := by rw [← hW]; exact hb5' _
        have hr5 : w5.heap[wr.heap.size]? = some (.cells U.toArray 90 (0, 0)) := by rw [← hW]; exact hr5' _
        clear hb5' hr5' hW
        have hs5 : wr.heap.size < w5.heap.size := (Array.getElem?_eq_some_iff.1 hr5).1
        have HB5 := hide hb5
        have HR5 := hide hr5
        clear hb5 hr5
        have HX := hide (HHX.out w5 HB5.out)
        generalize P n c = r at *
        go_wp2_with (refine wpList_load_row rfl 90 (.tmp 6) rfl wr.heap.size rfl 90 U.toArray (0, 0) (.struct fs) HR5.out HU.out rfl HR2.out.info ?_)
        refine HX.out.mono ?_
        rintro _ w6 ⟨rfl, hb6⟩
        have hs6 := hb6.size
        have HB6 := hide (HB5.out.trans (hb6.mono (by omega)))
        have HR6 := hide ((hb6.block wr.heap.size hs5).trans HR5.out)
        clear hb6
        cases r with
        | false =>
          go_wp2_with fail
          go_ret
          refine ⟨?_, HB.out.trans (HB6.out.mono (by omega))⟩
          rw [HEV.out, HST.out.2 rfl]; rfl
        | true =>
          have HY := hide (HIX.out w6 HB6.out)
          generalize Ward.everyN P n c = r2 at *
          have n6 : NodeRow w6 (.pointer (some ⟨wr.heap.size, 0, none⟩)) := nodeRow_of HR6.out HR2.out.size
          have l6 : loadVal w6 (.pointer (some ⟨wr.heap.size, 0, none⟩)) = .agg U.toArray := loadVal_row HR6.out
          go_wp2_with fail
          refine HY.out.mono ?_
          rintro _ w7 ⟨rfl, hb7⟩
          have HB7 := hide (HB6.out.trans (hb7.mono (by omega)))
          clear hb7 n6 l6
          cases r2 with
          | false =>
            go_wp2_with fail
            go_ret
            refine ⟨?_, HB.out.trans (HB7.out.mono (by omega))⟩
            rw [HEV.out, HST.out.2 rfl]; rfl
          | true =>
            go_wp2_with fail
            go_roundg ((Ward.Nd.kids t).length - (i + 1))
            case measure => have := HGK.out; omega
            case rel => exact ⟨i + 1, rfl, by go_num, hlt, HB.out.trans (HB7.out.mono (by omega)), HST.out.1 rfl⟩
      · have ei : i = (Ward.Nd.kids t).length := by omega
        subst ei
        rw [List.take_length] at HA
        go_wp2_with fail
        go_ret
        refine ⟨?_, HB.out⟩
        rw [HEV.out, HA.out]; rfl
end Go.Proofs.YtenaelkbgkpllaaGreatDoor
/- BoxesHold, DigestsHold; what LacksNone and WastesNone ask of a child. -/
namespace Go.Proofs.YtenaelkbgkpllaaGreatDoor
open Go.RowKit

set_option maxRecDepth 100000 in
set_option maxHeartbeats 4000000 in
theorem boxesHold_any (n : Nat) (t : Ward.NT n) (V : List Value) (w : World) (hN : NodeIs w (fun j => j < w.heap.size) n t V) (hF : Ward.Fine n t) (hK : KT w) :
    Calls Tryz.prog 47 #[.agg V.toArray] w fun e w' => e = .returned (.bool (Ward.everyN Ward.boxHolds n t)) ∧ Below w.heap.size w w' := by
  have HX := hide (fun (W : World) (hb : Below w.heap.size w W) => every_a Ward.boxHolds n t V W (fun j => j < w.heap.size) (fun g hg => Nat.lt_of_lt_of_le hg hb.size) (NodeIs.keep (below_same hb (fun _ h => h)) (fun _ h => h) n t V hN) hF.few hF.nums hF.inn (fun W2 n2 t2 V2 S2 hS2 hN2 hf2 hn2 _ hb2 => boxHold_any n2 t2 V2 W2 S2 hS2 hN2 hf2 hn2 ((hK.below hb).below hb2)))
  have HR := hide hN.shape.row
  obtain ⟨fs, hu⟩ := underNode
  have HU := hide hu
  have hb1' := fun o => (Below.refl w.heap.size w).alloc (Nat.le_refl _) o
  have hr1' := heap_alloc_new w
  clear hN hF hK hu
  go_enter Tryz.func47, Tryz.ntmps47
  go_upto_region 1 with fail
  generalize hW : World.alloc w _ = w1
  have hb1 : Below w.heap.size w w1 := by rw [← hW]; exact hb1' _
  have hr1 : w1.heap[w.heap.size]? = some (.cells V.toArray 90 (0, 0)) := by rw [← hW]; exact hr1' _
  clear hb1' hr1' hW
  have hs1 := hb1.size
  have HN1 := hide hr1
  have HB1 := hide hb1
  have HXX := hide (HX.out w1 hb1)
  clear hb1 hr1
  go_wp2_with (refine wpList_load_row rfl 90 (.tmp 1) rfl w.heap.size rfl 90 V.toArray (0, 0) (.struct fs) HN1.out HU.out rfl HR.out.info ?_)
  refine HXX.out.mono ?_
  rintro _ w2 ⟨rfl, hb2⟩
  have HB2 := hide (HB1.out.trans (hb2.mono hs1))
  clear hb2
  go_wp2_with fail
  go_ret
  exact ⟨rfl, HB2.out⟩
set_option maxRecDepth 100000 in
set_option maxHeartbeats 4000000 in
theorem digestsHold_any (n : Nat) (t : Ward.NT n) (V : List Value) (w : World) (hN : NodeIs w (fun j => j < w.heap.size) n t V) (hF : Ward.Fine n t) (hK : KT w) :
    Calls Tryz.prog 48 #[.agg V.toArray] w fun e w' => e = .returned (.bool (Ward.everyN Ward.digHolds n t)) ∧ Below w.heap.size w w' := by
  have HX := hide (fun (W : World) (hb : Below w.heap.size w W) => every_b Ward.digHolds n t V W (fun j => j < w.heap.size) (fun g hg => Nat.lt_of_lt_of_le hg hb.size) (NodeIs.keep (below_same hb (fun _ h => h)) (fun _ h => h) n t V hN) hF.few hF.nums hF.inn (fun W2 n2 t2 V2 S2 hS2 hN2 hf2 hn2 _ hb2 => digHold_any n2 t2 V2 W2 S2 hS2 hN2 hf2 hn2 ((hK.below hb).below hb2)))
  have HR := hide hN.shape.row
  obtain ⟨fs, hu⟩ := underNode
  have HU := hide hu
  have hb1' := fun o => (Below.refl w.heap.size w).alloc (Nat.le_refl _) o
  have hr1' := heap_alloc_new w
  clear hN hF hK hu
  go_enter Tryz.func48, Tryz.ntmps48
  go_upto_region 1 with fail
  generalize hW : World.alloc w _ = w1
  have hb1 : Below w.heap.size w w1 := by rw [← hW]; exact hb1' _
  have hr1 : w1.heap[w.heap.size]? = some (.cells V.toArray 90 (0, 0)) := by rw [← hW]; exact hr1' _
  clear hb1' hr1' hW
  have hs1 := hb1.size
  have HN1 := hide hr1
  have HB1 := hide hb1
  have HXX := hide (HX.out w1 hb1)
  clear hb1 hr1
  go_wp2_with (refine wpList_load_row rfl 90 (.tmp 1) rfl w.heap.size rfl 90 V.toArray (0, 0) (.struct fs) HN1.out HU.out rfl HR.out.info ?_)
  refine HXX.out.mono ?_
  rintro _ w2 ⟨rfl, hb2⟩
  have HB2 := hide (HB1.out.trans (hb2.mono hs1))
  clear hb2
  go_wp2_with fail
  go_ret
  exact ⟨rfl, HB2.out⟩
set_option maxRecDepth 100000 in
set_option maxHeartbeats 4000000 in
theorem lack_closure {q : Ward.Qr} (hq : Ward.mayBe q = true) {P : List Ward.Pt} (hP : ∀ p ∈ P, p.Ok) (w : World) (kq ka B : Nat) (v : Value) (hqr : w.heap[kq]? = some (.cells #[I q.kind, I q.a, I q.b, I q.c, I q.d, I q.x, I q.y, I q.k] 46 (0, 0))) (ha : w.heap[ka]? = some (.cells #[v] 27 (0, 0))) (hv : Own w B v (Ward.ans q P)) : Holdsc w kq ka (Ward.lackN q (Ward.ans q P)) := by
  intro W n t V S hS hN hfew hnum hi hW
  have hq0 := (Array.getElem?_eq_some_iff.1 hqr).1
  have ha0 := (Array.getElem?_eq_some_iff.1 ha).1
  have hb2 := fun o => (Below.refl W.heap.size W).alloc (Nat.le_refl _) o
  have hr2 := heap_alloc_new W
  have HNN := hide hN
  have HM := hide (fun (W' : World) (hb : Below w.heap.size w W') => mustShow_any hq hP W' B v (Ward.boxN n t) hi (hv.below hb))
  have HX := hide (fun (W' : World) (hb : Below W.heap.size W W') => isShown_any n t V W' S (NodeIs.keep (below_same hb hS) (fun _ h => h) n t V hN) hfew)
  have HR := hide hN.shape.row
  have HE := hide (show Ward.lackN q (Ward.ans q P) n t = (Ward.shownN n t || !Ward.must q (Ward.ans q P) (Ward.boxN n t)) from rfl)
  rw [HE.out]
  obtain ⟨fs, hu⟩ := underNode
  have HU := hide hu
  obtain ⟨av, cv, rfl⟩ := hv.slice
  generalize Ward.must q (Ward.ans q P) (Ward.boxN n t) = r at *
  generalize Ward.shownN n t = sh at *
  clear hv hN hfew hnum hi hS HE hu
  generalize (Ward.ans q P).length = al at *
  go_enter Tryz.func88, Tryz.ntmps88
  go_upto_region 1 with fail
  generalize hE : World.alloc W _ = w1
  have hb1 : Below W.heap.size W w1 := by rw [← hE]; exact hb2 _
  have hx1 : w1.heap[W.heap.size]? = some (.cells V.toArray 90 (0, 0)) := by rw [← hE]; exact hr2 _
  clear hb2 hr2 hE
  have hs1 : W.heap.size < w1.heap.size := (Array.getElem?_eq_some_iff.1 hx1).1
  have HB1 := hide hb1
  have HX1 := hide hx1
  have HQR := hide hqr
  have HAR := hide ha
  have HWW := hide hW
  have HXX := hide (HX.out w1 hb1)
  clear hb1 hx1 hqr ha hW
  go_wp2_with (refine wpList_load_row rfl 90 (.tmp 3) rfl W.heap.size rfl 90 V.toArray (0, 0) (.struct fs) HX1.out HU.out rfl HR.out.info ?_)
  refine HXX.out.mono ?_
  rintro _ w2 ⟨rfl, hb2⟩
  have hs2 := hb2.size
  have HB2 := hide (HB1.out.trans (hb2.mono (by omega)))
  have HX2 := hide ((hb2.block W.heap.size hs1).trans HX1.out)
  clear hb2
  have HBW := hide (show Below w.heap.size w w2 from HWW.out.trans (HB2.out.mono HWW.out.size))
  cases sh with
  | true =>
    go_wp2_with fail
    go_ret
    exact ⟨rfl, HB2.out⟩
  | false =>
    obtain ⟨k0, k1, k2, k3, k4, k5, k6, k7⟩ := rowQ8 ((HBW.out.block kq hq0).trans HQR.out)
    have j0 : w2.cell? ⟨ka, 0, none⟩ = some (.slice av al cv) := by rw [cell_of_row _ _ _ _ _ _ ((HBW.out.block ka ha0).trans HAR.out)]; rfl
    obtain ⟨c1, c2, c3, c4, -⟩ := box_cells HNN.out HX2.out
    go_wp2_with fail
    refine (HM.out w2 HBW.out).mono ?_
    rintro _ w3 ⟨rfl, hb3⟩
    have HB3 := hide (HB2.out.trans (hb3.mono (by omega)))
    clear hb3
    go_wp2_with fail
    go_ret
    refine ⟨?_, HB3.out⟩
    first | rfl | simp
set_option maxRecDepth 100000 in
set_option maxHeartbeats 4000000 in
theorem waste_closure {q : Ward.Qr} (hq : Ward.mayBe q = true) {P : List Ward.Pt} (hP : ∀ p ∈ P, p.Ok) (w : World) (kq ka B : Nat) (v : Value) (hqr : w.heap[kq]? = some (.cells #[I q.kind, I q.a, I q.b, I q.c, I q.d, I q.x, I q.y, I q.k] 46 (0, 0))) (ha : w.heap[ka]? = some (.cells #[v] 27 (0, 0))) (hv : Own w B v (Ward.ans q P)) : Holdsd w kq ka (Ward.wasteN q (Ward.ans q P)) := by
  intro W n t V S hS hN hfew hnum hi hW
  have hq0 := (Array.getElem?_eq_some_iff.1 hqr).1
  have ha0 := (Array.getElem?_eq_some_iff.1 ha).1
  have hb2 := fun o => (Below.refl W.heap.size W).alloc (Nat.le_refl _) o
  have hr2 := heap_alloc_new W
  have HNN := hide hN
  have HM := hide (fun (W' : World) (hb : Below w.heap.size w W') => mustShow_any hq hP W' B v (Ward.boxN n t) hi (hv.below hb))
  have HX := hide (fun (W' : World) (hb : Below W.heap.size W W') => isShown_any n t V W' S (NodeIs.keep (below_same hb hS) (fun _ h => h) n t V hN) hfew)
  have HR := hide hN.shape.row
  have HE := hide (show Ward.wasteN q (Ward.ans q P) n t = (!Ward.shownN n t || Ward.must q (Ward.ans q P) (Ward.boxN n t)) from rfl)
  rw [HE.out]
  obtain ⟨fs, hu⟩ := underNode
  have HU := hide hu
  obtain ⟨av, cv, rfl⟩ := hv.slice
  generalize Ward.must q (Ward.ans q P) (Ward.boxN n t) = r at *
  generalize Ward.shownN n t = sh at *
  clear hv hN hfew hnum hi hS HE hu
  generalize (Ward.ans q P).length = al at *
  go_enter Tryz.func89, Tryz.ntmps89
  go_upto_region 1 with fail
  generalize hE : World.alloc W _ = w1
  have hb1 : Below W.heap.size W w1 := by rw [← hE]; exact hb2 _
  have hx1 : w1.heap[W.heap.size]? = some (.cells V.toArray 90 (0, 0)) := by rw [← hE]; exact hr2 _
  clear hb2 hr2 hE
  have hs1 : W.heap.size < w1.heap.size := (Array.getElem?_eq_some_iff.1 hx1).1
  have HB1 := hide hb1
  have HX1 := hide hx1
  have HQR := hide hqr
  have HAR := hide ha
  have HWW := hide hW
  have HXX := hide (HX.out w1 hb1)
  clear hb1 hx1 hqr ha hW
  go_wp2_with (refine wpList_load_row rfl 90 (.tmp 3) rfl W.heap.size rfl 90 V.toArray (0, 0) (.struct fs) HX1.out HU.out rfl HR.out.info ?_)
  refine HXX.out.mono ?_
  rintro _ w2 ⟨rfl, hb2⟩
  have hs2 := hb2.size
  have HB2 := hide (HB1.out.trans (hb2.mono (by omega)))
  have HX2 := hide ((hb2.block W.heap.size hs1).trans HX1.out)
  clear hb2
  have HBW := hide (show Below w.heap.size w w2 from HWW.out.trans (HB2.out.mono HWW.out.size))
  cases sh with
  | false =>
    go_wp2_with fail
    go_ret
    exact ⟨rfl, HB2.out⟩
  | true =>
    obtain ⟨k0, k1, k2, k3, k4, k5, k6, k7⟩ := rowQ8 ((HBW.out.block kq hq0).trans HQR.out)
    have j0 : w2.cell? ⟨ka, 0, none⟩ = some (.slice av al cv) := by rw [cell_of_row _ _ _ _ _ _ ((HBW.out.block ka ha0).trans HAR.out)]; rfl
    obtain ⟨c1, c2, c3, c4, -⟩ := box_cells HNN.out HX2.out
    go_wp2_with fail
    refine (HM.out w2 HBW.out).mono ?_
    rintro _ w3 ⟨rfl, hb3⟩
    have HB3 := hide (HB2.out.trans (hb3.mono (by omega)))
    clear hb3
    go_wp2_with fail
    go_ret
    refine ⟨?_, HB3.out⟩
    first | rfl | simp
end Go.Proofs.YtenaelkbgkpllaaGreatDoor
/- LacksNone, WastesNone. -/
namespace Go.Proofs.YtenaelkbgkpllaaGreatDoor
open Go.RowKit

set_option maxRecDepth 100000 in
set_option maxHeartbeats 4000000 in
theorem lacks_any {q : Ward.Qr} (hq : Ward.mayBe q = true) {P : List Ward.Pt} (hP : ∀ p ∈ P, p.Ok) (n : Nat) (t : Ward.NT n) (V : List Value) (v : Value) (w : World) (B : Nat) (hN : NodeIs w (fun j => j < w.heap.size) n t V) (hF : Ward.Fine n t) (hv : Own w B v (Ward.ans q P)) :
    Calls Tryz.prog 49 #[.agg V.toArray, Qv q, v] w fun e w' => e = .returned (.bool (Ward.everyN (Ward.lackN q (Ward.ans q P)) n t)) ∧ Below w.heap.size w w' := by
  have HX := hide (fun (W : World) (hb : Below w.heap.size w W) (hqr : W.heap[w.heap.size + 1]? = some (.cells #[I q.kind, I q.a, I q.b, I q.c, I q.d, I q.x, I q.y, I q.k] 46 (0, 0))) (ha : W.heap[w.heap.size + 2]? = some (.cells #[v] 27 (0, 0))) => every_c (w.heap.size + 1) (w.heap.size + 2) (Ward.lackN q (Ward.ans q P)) n t V W (fun j => j < w.heap.size) (fun g hg => Nat.lt_of_lt_of_le hg hb.size) (NodeIs.keep (below_same hb (fun _ h => h)) (fun _ h => h) n t V hN) hF.few hF.nums hF.inn (lack_closure hq hP W (w.heap.size + 1) (w.heap.size + 2) B v hqr ha (hv.below hb)))
  have HR := hide hN.shape.row
  obtain ⟨fs, hu⟩ := underNode
  have HU := hide hu
  obtain ⟨av, cv, ev⟩ := hv.slice
  subst ev
  generalize Ward.everyN (Ward.lackN q (Ward.ans q P)) n t = r at *
  have hb1' := below3 w
  have hr1' := heap3 w
  clear hN hF hu hv
  generalize (Ward.ans q P).length = al at *
  go_enter Tryz.func49, Tryz.ntmps49
  go_upto_region 1 with fail
  generalize hW : World.alloc (World.alloc (World.alloc w _) _) _ = w1
  have hb1 : Below w.heap.size w w1 := by rw [← hW]; exact hb1' _ _ _
  have hr1 : w1.heap[w.heap.size]? = some (.cells V.toArray 90 (0, 0)) := by rw [← hW]; exact (hr1' _ _ _).1
  have hq1 : w1.heap[w.heap.size + 1]? = some (.cells #[I q.kind, I q.a, I q.b, I q.c, I q.d, I q.x, I q.y, I q.k] 46 (0, 0)) := by rw [← hW]; exact (hr1' _ _ _).2.1
  have ha1 : w1.heap[w.heap.size + 2]? = some (.cells #[.slice av al cv] 27 (0, 0)) := by rw [← hW]; exact (hr1' _ _ _).2.2.1
  clear hb1' hr1' hW
  have hs1 := hb1.size
  have HN1 := hide hr1
  have HB1 := hide hb1
  have HXX := hide (HX.out w1 hb1 hq1 ha1)
  clear hb1 hr1 hq1 ha1
  go_wp2_with (refine wpList_load_row rfl 90 (.tmp 3) rfl w.heap.size rfl 90 V.toArray (0, 0) (.struct fs) HN1.out HU.out rfl HR.out.info ?_)
  refine HXX.out.mono ?_
  rintro _ w2 ⟨rfl, hb2⟩
  have HB2 := hide (HB1.out.trans (hb2.mono hs1))
  clear hb2
  go_wp2_with fail
  go_ret
  exact ⟨rfl, HB2.out⟩
set_option maxRecDepth 100000 in
set_option maxHeartbeats 4000000 in
theorem wastes_any {q : Ward.Qr} (hq : Ward.mayBe q = true) {P : List Ward.Pt} (hP : ∀ p ∈ P, p.Ok) (n : Nat) (t : Ward.NT n) (V : List Value) (v : Value) (w : World) (B : Nat) (hN : NodeIs w (fun j => j < w.heap.size) n t V) (hF : Ward.Fine n t) (hv : Own w B v (Ward.ans q P)) :
    Calls Tryz.prog 50 #[.agg V.toArray, Qv q, v] w fun e w' => e = .returned (.bool (Ward.everyN (Ward.wasteN q (Ward.ans q P)) n t)) ∧ Below w.heap.size w w' := by
  have HX := hide (fun (W : World) (hb : Below w.heap.size w W) (hqr : W.heap[w.heap.size + 1]? = some (.cells #[I q.kind, I q.a, I q.b, I q.c, I q.d, I q.x, I q.y, I q.k] 46 (0, 0))) (ha : W.heap[w.heap.size + 2]? = some (.cells #[v] 27 (0, 0))) => every_d (w.heap.size + 1) (w.heap.size + 2) (Ward.wasteN q (Ward.ans q P)) n t V W (fun j => j < w.heap.size) (fun g hg => Nat.lt_of_lt_of_le hg hb.size) (NodeIs.keep (below_same hb (fun _ h => h)) (fun _ h => h) n t V hN) hF.few hF.nums hF.inn (waste_closure hq hP W (w.heap.size + 1) (w.heap.size + 2) B v hqr ha (hv.below hb)))
  have HR := hide hN.shape.row
  obtain ⟨fs, hu⟩ := underNode
  have HU := hide hu
  obtain ⟨av, cv, ev⟩ := hv.slice
  subst ev
  generalize Ward.everyN (Ward.wasteN q (Ward.ans q P)) n t = r at *
  have hb1' := below3 w
  have hr1' := heap3 w
  clear hN hF hu hv
  generalize (Ward.ans q P).length = al at *
  go_enter Tryz.func50, Tryz.ntmps50
  go_upto_region 1 with fail
  generalize hW : World.alloc (World.alloc (World.alloc w _) _) _ = w1
  have hb1 : Below w.heap.size w w1 := by rw [← hW]; exact hb1' _ _ _
  have hr1 : w1.heap[w.heap.size]? = some (.cells V.toArray 90 (0, 0)) := by rw [← hW]; exact (hr1' _ _ _).1
  have hq1 : w1.heap[w.heap.size + 1]? = some (.cells #[I q.kind, I q.a, I q.b, I q.c, I q.d, I q.x, I q.y, I q.k] 46 (0, 0)) := by rw [← hW]; exact (hr1' _ _ _).2.1
  have ha1 : w1.heap[w.heap.size + 2]? = some (.cells #[.slice av al cv] 27 (0, 0)) := by rw [← hW]; exact (hr1' _ _ _).2.2.1
  clear hb1' hr1' hW
  have hs1 := hb1.size
  have HN1 := hide hr1
  have HB1 := hide hb1
  have HXX := hide (HX.out w1 hb1 hq1 ha1)
  clear hb1 hr1 hq1 ha1
  go_wp2_with (refine wpList_load_row rfl 90 (.tmp 3) rfl w.heap.size rfl 90 V.toArray (0, 0) (.struct fs) HN1.out HU.out rfl HR.out.info ?_)
  refine HXX.out.mono ?_
  rintro _ w2 ⟨rfl, hb2⟩
  have HB2 := hide (HB1.out.trans (hb2.mono hs1))
  clear hb2
  go_wp2_with fail
  go_ret
  exact ⟨rfl, HB2.out⟩
end Go.Proofs.YtenaelkbgkpllaaGreatDoor
