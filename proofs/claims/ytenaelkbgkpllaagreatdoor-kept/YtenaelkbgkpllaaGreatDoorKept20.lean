/- A proof taken apart. -/
import Derived.Test.YtenaelkbgkpllaaGreatDoorKept19
import Derived.Test.YtenaelkbgkpllaaGreatDoorKept18
import Derived.Test.YtenaelkbgkpllaaGreatDoorKept16
import Derived.Deep.CutRange
import Derived.Test.YtenaelkbgkpllaaGreatDoorKept17
namespace Go.Proofs.YtenaelkbgkpllaaGreatDoor
open Go.RowKit

theorem set_new (w : World) : SetIs (w.alloc (.map #[] 0)) w.heap.size 0 [] := ⟨.map [], World.ownsMap_made w Tryz.prog 3 unitElem, fun x => by rfl⟩
/-- what Read leaves -/
def ReadIs (w : World) (l : List UInt8) (e : Ending) (w' : World) : Prop := Below w.heap.size w w' ∧
  match Ward.parse l with
  | none => ∃ V : List Value, Shape V ∧ e = .returned (.tuple #[.agg V.toArray, .bool false])
  | some t => ∃ V : List Value, e = .returned (.tuple #[.agg V.toArray, .bool true]) ∧ NodeIs w' (fun j => j < w'.heap.size) 7 t V
theorem parse_of_none {l : List UInt8} (h : Ward.rdNode 6 true (l, []) = none) : Ward.parse l = none := by unfold Ward.parse; rw [h]
theorem parse_of_some {l : List UInt8} {t : Ward.NT 7} {s : Ward.Sta} (h : Ward.rdNode 6 true (l, []) = some (t, s)) : Ward.parse l = if s.1 = [] then some (Ward.madeN 7 t) else none := by
  unfold Ward.parse
  rw [h]
  obtain ⟨s1, s2⟩ := s
  cases s1 with
  | nil => rfl
  | cons a l => rw [if_neg (by simp)]
set_option maxRecDepth 100000 in
set_option maxHeartbeats 8000000 in
theorem read_any (l : List UInt8) (w : World) (hK : KT w) : Calls Tryz.prog 46 #[Sv l] w (ReadIs w l) := by
  have hb1' := below3 w
  have hr1' := heap3 w
  have HKT := hide hK
  obtain ⟨fs, hu⟩ := underNode
  have HU := hide hu
  have hmm := @run_makeMap Tryz.prog
  have HS1' := hide (fun (a c : Obj) => (set_new (w.alloc a)).block (w' := ((w.alloc a).alloc (.map #[] 0)).alloc c) (Below.heap_alloc _ c _ (by simp)))
  clear hK hu
  go_enter Tryz.func46, Tryz.ntmps46
  go_upto_region 2 with fail
  generalize hW : World.alloc (World.alloc (World.alloc w _) _) _ = w1
  have hb1 : Below w.heap.size w w1 := by rw [← hW]; exact hb1' _ _ _
  have hr1 : w1.heap[w.heap.size]? = some (.cells zeroV.toArray 90 (0, 0)) := by rw [← hW]; exact (hr1' _ _ _).1
  have hg1 : w1.heap[w.heap.size + 2]? = some (.cells #[Sv l, .map (some (w.heap.size + 1))] 137 (0, 0)) := by rw [← hW]; exact (hr1' _ _ _).2.2.1
  have hm1 : SetIs w1 (w.heap.size + 1) 0 [] := by
    rw [← hW]
    have h := HS1'.out (Obj.cells zeroV.toArray 90 (0, 0)) (Obj.cells #[Sv l, .map (some (w.heap.size + 1))] 137 (0, 0))
    rw [show (w.alloc (Obj.cells zeroV.toArray 90 (0, 0))).heap.size = w.heap.size + 1 by simp] at h
    exact h
  clear hb1' hr1' HS1' hW hmm
  have hs1 : w.heap.size + 2 < w1.heap.size := (Array.getElem?_eq_some_iff.1 hg1).1
  have HR1 := hide hr1
  have HB1 := hide hb1
  have HNA := hide (node_any 6 (by omega) (w.heap.size + 2) (w.heap.size + 1) 0 (l, []) w1 ⟨hg1, hm1⟩ (by decide))
  rw [decide_eq_true (show 6 = 6 from rfl), show ((7 - 6 : Nat) : Int) = 1 from rfl] at HNA
  clear hb1 hr1 hg1 hm1
  go_wp2_with fail
  refine HNA.out.mono ?_
  rintro e w2 h2
  obtain ⟨V, ok, hV, rfl⟩ := h2.shape
  have HV := hide hV.row
  have hs2 := h2.1.size
  have HR2 := hide ((h2.1.block w.heap.size (by omega) (by rintro (e | e) <;> omega)).trans HR1.out)
  have HB2 := hide (show Below w.heap.size w w2 from ⟨h2.1.os.trans HB1.out.os, h2.1.tape.trans HB1.out.tape, h2.1.output.trans HB1.out.output, by omega, fun j hj => (h2.1.block j (by omega) (by rintro (e | e) <;> omega)).trans (HB1.out.block j hj)⟩)
  have h22 := h2.2
  clear h2 hV HNA
  have hr3' := setRow_heap w2 w.heap.size _ V.toArray 90 (0, 0) HR2.out
  have hb3' := below_setRow HB2.out (Nat.le_refl w.heap.size) V.toArray
  have hk3' := keeps_setRow w2 w.heap.size V.toArray
  go_upto_region 3 with (refine wpList_store_row rfl 90 (.tmp 2) (.tmp 12) rfl w.heap.size V.toArray rfl rfl 90 _ HR2.out HV.out.info (by rw [HV.out.size]; rfl) HV.out.one ?_)
  generalize World.setRow w2 w.heap.size V.toArray = w3 at *
  have hs3 := hk3'.size
  have HR3 := hide hr3'
  have HB3 := hide hb3'
  have HK3 := hide hk3'
  clear hr3' hb3' hk3'
  cases hrb : Ward.rdNode 6 true (l, []) with
  | none =>
    rw [hrb] at h22
    obtain ⟨Vx, -, he⟩ := h22
    obtain ⟨-, hok⟩ := tup_inj he
    subst hok
    have HP := hide (parse_of_none hrb)
    clear he
    go_wp2_with (refine wpList_store_row rfl 90 (.tmp 2) (.tmp 23) rfl w.heap.size zeroV.toArray rfl rfl 90 _ HR3.out zeroV_row.info (by rw [HV.out.size]; rfl) zeroV_row.one ?_)
    refine bodyPost_ret (results_row_tmp (p := 2) (u := 3) (ty := 90) rfl _ _ w.heap.size 90 zeroV.toArray (0, 0) (.struct fs) rfl (setRow_heap _ _ _ _ _ _ HR3.out) HU.out rfl zeroV_row.info) rfl ?_
    unfold ReadIs
    rw [HP.out]
    exact ⟨below_setRow HB3.out (Nat.le_refl _) _, zeroV, zeroV_shape, rfl⟩
  | some ps =>
    obtain ⟨t, s⟩ := ps
    rw [hrb] at h22
    obtain ⟨Vx, n2, he, hNx, -, hRx⟩ := h22
    obtain ⟨hVx, hok⟩ := tup_inj he
    subst hok
    have hVe : V = Vx := by
      simp only [Value.agg.injEq] at hVx
      exact congrArg Array.toList hVx
    subst hVe
    have HPS := hide (parse_of_some hrb)
    have c3 : w3.cell? ⟨w.heap.size + 2, 0, none⟩ = some (Sv s.1) := by rw [cell_of_row _ _ _ _ _ _ ((HK3.out.block (w.heap.size + 2) (by omega) (by omega)).trans hRx.row)]; rfl
    have HFN := hide (Ward.form_fine 6 true t (Ward.rdNode_sound 6 true _ t s hrb).1.1)
    have HN3 := hide (show NodeIs w3 (fun j => w1.heap.size ≤ j ∧ j < w3.heap.size) 7 t V from NodeIs.keep (fun j hj => HK3.out.block j hj.2 (by have := hj.1; omega)) (fun j hj => ⟨hj.1, by have := hj.2; omega⟩) _ _ _ hNx)
    clear hRx he hVx hNx hrb
    by_cases hz : s.1 = []
    · rw [if_pos hz] at HPS
      rw [hz] at c3
      have HMD := hide (made_any 6 t V w3 (fun j => w1.heap.size ≤ j ∧ j < w3.heap.size) (fun _ h => h.2) HN3.out HFN.out.few (fun c hc => (HFN.out.nums c hc).1) (HKT.out.below HB3.out))
      go_wp2_with (refine wpList_load_row rfl 90 (.tmp 2) rfl w.heap.size rfl 90 V.toArray (0, 0) (.struct fs) HR3.out HU.out rfl HV.out.info ?_)
      refine HMD.out.mono ?_
      rintro _ w4 ⟨V4, rfl, hn4, hb4⟩
      have hs4 := hb4.size
      have HV4 := hide hn4.shape.row
      have HR4 := hide ((hb4.block w.heap.size (by omega)).trans HR3.out)
      have HB4 := hide (HB3.out.trans (hb4.mono (by omega)))
      have HN4 := hide hn4
      clear hb4 hn4
      go_wp2_with (refine wpList_store_row rfl 90 (.tmp 2) (.tmp 25) rfl w.heap.size V4.toArray rfl rfl 90 _ HR4.out HV4.out.info (by rw [HV4.out.size, HV.out.size]) HV4.out.one ?_)
      refine bodyPost_ret (results_row_tmp (p := 2) (u := 3) (ty := 90) rfl _ _ w.heap.size 90 V4.toArray (0, 0) (.struct fs) rfl (setRow_heap _ _ _ _ _ _ HR4.out) HU.out rfl HV4.out.info) rfl ?_
      unfold ReadIs
      rw [HPS.out]
      exact ⟨below_setRow HB4.out (Nat.le_refl _) _, V4, rfl, NodeIs.keep (fun j hj => setRow_other _ _ _ _ (by have := hj.1; omega)) (fun j hj => show j < (w4.setRow w.heap.size V4.toArray).heap.size by rw [size_setRow]; have := hj.2; omega) _ _ _ HN4.out⟩
    · rw [if_neg hz] at HPS
      have HP := HPS
      have hie : s.1.isEmpty = false := by
        cases hh : s.1 with
        | nil => exact absurd hh hz
        | cons a l => rfl
      go_wp2_with (refine wpList_store_row rfl 90 (.tmp 2) (.tmp 23) rfl w.heap.size zeroV.toArray rfl rfl 90 _ HR3.out zeroV_row.info (by rw [HV.out.size]; rfl) zeroV_row.one ?_)
      refine bodyPost_ret (results_row_tmp (p := 2) (u := 3) (ty := 90) rfl _ _ w.heap.size 90 zeroV.toArray (0, 0) (.struct fs) rfl (setRow_heap _ _ _ _ _ _ HR3.out) HU.out rfl zeroV_row.info) rfl ?_
      unfold ReadIs
      rw [HP.out]
      exact ⟨below_setRow HB3.out (Nat.le_refl _) _, zeroV, zeroV_shape, rfl⟩
end Go.Proofs.YtenaelkbgkpllaaGreatDoor
/- A test of every child. -/
namespace Go.Proofs.YtenaelkbgkpllaaGreatDoor
open Go.RowKit

/-- of a test of children: what it says -/
def Holdsb (w : World) (P : (n : Nat) → Ward.NT n → Bool) : Prop := ∀ (W : World) (n : Nat) (t : Ward.NT n) (V : List Value) (S : Nat → Prop), (∀ g, S g → g < W.heap.size) → NodeIs W S n t V → Ward.Few n t → Ward.NumsN n t → (Ward.boxN n t).In → Below w.heap.size w W → Calls Tryz.prog 87 #[.agg V.toArray] W fun e w' => e = .returned (.bool (P n t)) ∧ Below W.heap.size W w'
theorem Holdsb.below {w w' : World} {P : (n : Nat) → Ward.NT n → Bool} (h : Holdsb w P) (hb : Below w.heap.size w w') : Holdsb w' P := fun W n t V S hS hN h1 h2 h3 hW => h W n t V S hS hN h1 h2 h3 (hb.trans (hW.mono hb.size))
attribute [local go_sem ↓] Go.wp_at_zero Go.wp_at_succ wp_load_nodeG
set_option maxRecDepth 100000 in
set_option maxHeartbeats 4000000 in
theorem every_b (P : (n : Nat) → Ward.NT n → Bool) : ∀ (n : Nat) (t : Ward.NT n) (V : List Value) (w : World) (S : Nat → Prop) (_ : ∀ g, S g → g < w.heap.size) (_ : NodeIs w S n t V) (_ : Ward.Few n t) (_ : Ward.NumsN n t) (_ : Ward.InN n t) (_ : Holdsb w P),
    Calls Tryz.prog 84 #[.agg V.toArray, .func (.func 87) #[] #[]] w fun e w' => e = .returned (.bool (Ward.everyN P n t)) ∧ Below w.heap.size w w' := by
  intro n
  induction n with
  | zero => intro t; exact nomatch t
  | succ n ih =>
    intro t V w S hS hN hfew hnum hin hho
    have HEV := hide (every_step P n t)
    have IH := hide ih
    have HFEW := hide hfew
    have HNUM := hide hnum
    have HIN := hide hin
    have HHO := hide hho
    obtain ⟨a1, l1, c1, a2, l2, c2, hV, hd⟩ := hN.cells
    have HR := hide (show Row39 V by rw [hV]; exact nodeV_row hd)
    obtain ⟨vp, vc, hVe, -, hrp, ⟨ac, cc, rfl, hkids⟩⟩ := hN
    have HVE := hide hVe
    have HKD := hide hkids
    have HS := hide hS
    have hk4 : (Ward.Nd.kids t).length ≤ 4 := HFEW.out.2.1
    obtain ⟨fs, hu⟩ := underNode
    have HU := hide hu
    clear hu hV hd hVe hrp hkids hS ih hfew hnum hin hho
    have hb2 := fun o => (Below.refl w.heap.size w).alloc (Nat.le_refl _) o
    have hr2 := heap_alloc_new w
    go_enter Tryz.func84, Tryz.ntmps84
    go_upto_region 1 with fail
    generalize hW : World.alloc w _ = w1
    have hb1 : Below w.heap.size w w1 := by rw [← hW]; exact hb2 _
    have hn1 : w1.heap[w.heap.size]? = some (.cells V.toArray 90 (0, 0)) := by rw [← hW]; exact hr2 _
    clear hb2 hr2 hW
    have hs1 : w.heap.size < w1.heap.size := (Array.getElem?_eq_some_iff.1 hn1).1
    have HB1 := hide hb1
    have HN1 := hide (show w1.heap[w.heap.size]? = some (.cells (nodeV vp (.slice ac (Ward.Nd.kids t).length cc) (Ward.Nd.box t) (Ward.Nd.n t) ((Ward.Nd.dig t).map Y)).toArray 90 (0, 0)) by rw [hn1, HVE.out])
    obtain ⟨⟨k0, k1⟩, -, -⟩ := node_cells HN1.out
    clear hb1 hn1
    go_wp2_with fail
    go_loopg [10] (Ward.Nd.kids t).length (fun gk v10 wq => ∃ i : Nat, gk = (Ward.Nd.kids t).length - i ∧ v10 = I i ∧ i ≤ (Ward.Nd.kids t).length ∧ Below w.heap.size w wq ∧ ((Ward.Nd.kids t).take i).all (fun c => P n c && Ward.everyN P n c) = true)
    case atStart => exact ⟨0, by omega, rfl, by omega, HB1.out, rfl⟩
    case round =>
      obtain ⟨i, hgk, rfl, hi, hb, ha⟩ := hrel
      have HGK := hide hgk
      have HB := hide hb
      have HA := hide ha
      have hsz := hb.size
      clear hgk hb ha
      by_cases hlt : i < (Ward.Nd.kids t).length
      · obtain ⟨g, o, rfl, hgS, hrows⟩ := HKD.out (fun e => by rw [e] at hlt; simp at hlt)
        obtain ⟨U, hU, hc⟩ := hrows i hlt
        have hgl := HS.out g hgS
        have HC := hide (rangeAt_block hc (HB.out.block g hgl))
        have HU2 := hide (NodeIs.keep (S' := S) (below_same HB.out HS.out) (fun _ h => h) n _ U hU)
        obtain ⟨d1, m1, e1, d2, m2, e2, hV, hd⟩ := HU2.out.cells
        have HR2 := hide (show Row39 U by rw [hV]; exact nodeV_row hd)
        have HST := hide (all_take (fun c => P n c && Ward.everyN P n c) (Ward.Nd.kids t) i hlt HA.out)
        have HHX := hide (fun (W : World) (hb : Below wr.heap.size wr W) => HHO.out W n _ U S (fun j hj => by have := HS.out j hj; have := hb.size; omega) (NodeIs.keep (S' := S) (below_same hb (fun j hj => by have := HS.out j hj; omega)) (fun _ h => h) n _ U HU2.out) (HFEW.out.2.2 _ (List.getElem_mem hlt)) (HNUM.out _ (List.getElem_mem hlt)).2 (HIN.out _ (List.getElem_mem hlt)).1 (HB.out.trans (hb.mono hsz)))
        have HIX := hide (fun (W : World) (hb : Below wr.heap.size wr W) => IH.out _ U W S (fun j hj => by have := HS.out j hj; have := hb.size; omega) (NodeIs.keep (S' := S) (below_same hb (fun j hj => by have := HS.out j hj; omega)) (fun _ h => h) n _ U HU2.out) (HFEW.out.2.2 _ (List.getElem_mem hlt)) (HNUM.out _ (List.getElem_mem hlt)).2 (HIN.out _ (List.getElem_mem hlt)).2 (HHO.out.below (HB.out.trans (hb.mono hsz))))
        clear hc hU hrows hV hd
        generalize (Ward.Nd.kids t)[i] = c at *
        go_upto_region 4 with (first | (refine wpList_load_mid rfl 90 (.tmp 12) rfl g (o + i * 39) rfl U (.struct fs) HC.out HU.out rfl HR2.out.infl ?_) | (refine wpList_store_row rfl 90 (.tmp 6) (.tmp 13) rfl wr.heap.size U.toArray rfl rfl 90 _ (heap_alloc_new wr _) HR2.out.info (by rw [HR2.out.size]; rfl) HR2.out.one ?_; rw [World.setRow_alloc_new]))
        have hb5' := fun o => (Below.refl wr.heap.size wr).alloc (Nat.le_refl _) o
        have hr5' := heap_alloc_new wr
        generalize hW : World.alloc wr _ = w5
        have hb5 : Below wr.heap.size wr w5 := by rw [← hW]; exact hb5' _
        have hr5 : w5.heap[wr.heap.size]? = some (.cells U.toArray 90 (0, 0)) := by rw [← hW]; exact hr5' _
        clear hb5' hr5' hW
        have hs5 : wr.heap.size < w5.heap.size := (Array.getElem?_eq_some_iff.1 hr5).1
        have HB5 := hide hb5
        have HR5 := hide hr5
        clear hb5 hr5
        have HX := hide (HHX.out w5 HB5.out)
        generalize P n c = r at *
        go_wp2_with (refine wpList_load_row rfl 90 (.tmp 6) rfl wr.heap.size rfl 90 U.toArray (0, 0) (.struct fs) HR5.out HU.out rfl HR2.out.info ?_)
        refine HX.out.mono ?_
        rintro _ w6 ⟨rfl, hb6⟩
        have hs6 := hb6.size
        have HB6 := hide (HB5.out.trans (hb6.mono (by omega)))
        have HR6 := hide ((hb6.block wr.heap.size hs5).trans HR5.out)
        clear hb6
        cases r with
        | false =>
          go_wp2_with fail
          go_ret
          refine ⟨?_, HB.out.trans (HB6.out.mono (by omega))⟩
          rw [HEV.out, HST.out.2 rfl]; rfl
        | true =>
          have HY := hide (HIX.out w6 HB6.out)
          generalize Ward.everyN P n c = r2 at *
          have n6 : NodeRow w6 (.pointer (some ⟨wr.heap.size, 0, none⟩)) := nodeRow_of HR6.out HR2.out.size
          have l6 : loadVal w6 (.pointer (some ⟨wr.heap.size, 0, none⟩)) = .agg U.toArray := loadVal_row HR6.out
          go_wp2_with fail
          refine HY.out.mono ?_
          rintro _ w7 ⟨rfl, hb7⟩
          have HB7 := hide (HB6.out.trans (hb7.mono (by omega)))
          clear hb7 n6 l6
          cases r2 with
          | false =>
            go_wp2_with fail
            go_ret
            refine ⟨?_, HB.out.trans (HB7.out.mono (by omega))⟩
            rw [HEV.out, HST.out.2 rfl]; rfl
          | true =>
            go_wp2_with fail
            go_roundg ((Ward.Nd.kids t).length - (i + 1))
            case measure => have := HGK.out; omega
            case rel => exact ⟨i + 1, rfl, by go_num, hlt, HB.out.trans (HB7.out.mono (by omega)), HST.out.1 rfl⟩
      · have ei : i = (Ward.Nd.kids t).length := by omega
        subst ei
        rw [List.take_length] at HA
        go_wp2_with fail
        go_ret
        refine ⟨?_, HB.out⟩
        rw [HEV.out, HA.out]; rfl
end Go.Proofs.YtenaelkbgkpllaaGreatDoor
/- A test of every child. -/
namespace Go.Proofs.YtenaelkbgkpllaaGreatDoor
open Go.RowKit

/-- of a test of children: what it says -/
def Holdsc (w : World) (kq ka : Nat) (P : (n : Nat) → Ward.NT n → Bool) : Prop := ∀ (W : World) (n : Nat) (t : Ward.NT n) (V : List Value) (S : Nat → Prop), (∀ g, S g → g < W.heap.size) → NodeIs W S n t V → Ward.Few n t → Ward.NumsN n t → (Ward.boxN n t).In → Below w.heap.size w W → Calls Tryz.prog 88 #[.agg V.toArray, .pointer (some ⟨kq, 0, none⟩), .pointer (some ⟨ka, 0, none⟩)] W fun e w' => e = .returned (.bool (P n t)) ∧ Below W.heap.size W w'
theorem Holdsc.below {w w' : World} {kq ka : Nat} {P : (n : Nat) → Ward.NT n → Bool} (h : Holdsc w kq ka P) (hb : Below w.heap.size w w') : Holdsc w' kq ka P := fun W n t V S hS hN h1 h2 h3 hW => h W n t V S hS hN h1 h2 h3 (hb.trans (hW.mono hb.size))
attribute [local go_sem ↓] Go.wp_at_zero Go.wp_at_succ wp_load_nodeG
set_option maxRecDepth 100000 in
set_option maxHeartbeats 4000000 in
theorem every_c (kq ka : Nat) (P : (n : Nat) → Ward.NT n → Bool) : ∀ (n : Nat) (t : Ward.NT n) (V : List Value) (w : World) (S : Nat → Prop) (_ : ∀ g, S g → g < w.heap.size) (_ : NodeIs w S n t V) (_ : Ward.Few n t) (_ : Ward.NumsN n t) (_ : Ward.InN n t) (_ : Holdsc w kq ka P),
    Calls Tryz.prog 84 #[.agg V.toArray, .func (.func 88) #[] #[.pointer (some ⟨kq, 0, none⟩), .pointer (some ⟨ka, 0, none⟩)]] w fun e w' => e = .returned (.bool (Ward.everyN P n t)) ∧ Below w.heap.size w w' := by
  intro n
  induction n with
  | zero => intro t; exact nomatch t
  | succ n ih =>
    intro t V w S hS hN hfew hnum hin hho
    have HEV := hide (every_step P n t)
    have IH := hide ih
    have HFEW := hide hfew
    have HNUM := hide hnum
    have HIN := hide hin
    have HHO := hide hho
    obtain ⟨a1, l1, c1, a2, l2, c2, hV, hd⟩ := hN.cells
    have HR := hide (show Row39 V by rw [hV]; exact nodeV_row hd)
    obtain ⟨vp, vc, hVe, -, hrp, ⟨ac, cc, rfl, hkids⟩⟩ := hN
    have HVE := hide hVe
    have HKD := hide hkids
    have HS := hide hS
    have hk4 : (Ward.Nd.kids t).length ≤ 4 := HFEW.out.2.1
    obtain ⟨fs, hu⟩ := underNode
    have HU := hide hu
    clear hu hV hd hVe hrp hkids hS ih hfew hnum hin hho
    have hb2 := fun o => (Below.refl w.heap.size w).alloc (Nat.le_refl _) o
    have hr2 := heap_alloc_new w
    go_enter Tryz.func84, Tryz.ntmps84
    go_upto_region 1 with fail
    generalize hW : World.alloc w _ = w1
    have hb1 : Below w.heap.size w w1 := by rw [← hW]; exact hb2 _
    have hn1 : w1.heap[w.heap.size]? = some (.cells V.toArray 90 (0, 0)) := by rw [← hW]; exact hr2 _
    clear hb2 hr2 hW
    have hs1 : w.heap.size < w1.heap.size := (Array.getElem?_eq_some_iff.1 hn1).1
    have HB1 := hide hb1
    have HN1 := hide (show w1.heap[w.heap.size]? = some (.cells (nodeV vp (.slice ac (Ward.Nd.kids t).length cc) (Ward.Nd.box t) (Ward.Nd.n t) ((Ward.Nd.dig t).map Y)).toArray 90 (0, 0)) by rw [hn1, HVE.out])
    obtain ⟨⟨k0, k1⟩, -, -⟩ := node_cells HN1.out
    clear hb1 hn1
    go_wp2_with fail
    go_loopg [10] (Ward.Nd.kids t).length (fun gk v10 wq => ∃ i : Nat, gk = (Ward.Nd.kids t).length - i ∧ v10 = I i ∧ i ≤ (Ward.Nd.kids t).length ∧ Below w.heap.size w wq ∧ ((Ward.Nd.kids t).take i).all (fun c => P n c && Ward.everyN P n c) = true)
    case atStart => exact ⟨0, by omega, rfl, by omega, HB1.out, rfl⟩
    case round =>
      obtain ⟨i, hgk, rfl, hi, hb, ha⟩ := hrel
      have HGK := hide hgk
      have HB := hide hb
      have HA := hide ha
      have hsz := hb.size
      clear hgk hb ha
      by_cases hlt : i < (Ward.Nd.kids t).length
      · obtain ⟨g, o, rfl, hgS, hrows⟩ := HKD.out (fun e => by rw [e] at hlt; simp at hlt)
        obtain ⟨U, hU, hc⟩ := hrows i hlt
        have hgl := HS.out g hgS
        have HC := hide (rangeAt_block hc (HB.out.block g hgl))
        have HU2 := hide (NodeIs.keep (S' := S) (below_same HB.out HS.out) (fun _ h => h) n _ U hU)
        obtain ⟨d1, m1, e1, d2, m2, e2, hV, hd⟩ := HU2.out.cells
        have HR2 := hide (show Row39 U by rw [hV]; exact nodeV_row hd)
        have HST := hide (all_take (fun c => P n c && Ward.everyN P n c) (Ward.Nd.kids t) i hlt HA.out)
        have HHX := hide (fun (W : World) (hb : Below wr.heap.size wr W) => HHO.out W n _ U S (fun j hj => by have := HS.out j hj; have := hb.size; omega) (NodeIs.keep (S' := S) (below_same hb (fun j hj => by have := HS.out j hj; omega)) (fun _ h => h) n _ U HU2.out) (HFEW.out.2.2 _ (List.getElem_mem hlt)) (HNUM.out _ (List.getElem_mem hlt)).2 (HIN.out _ (List.getElem_mem hlt)).1 (HB.out.trans (hb.mono hsz)))
        have HIX := hide (fun (W : World) (hb : Below wr.heap.size wr W) => IH.out _ U W S (fun j hj => by have := HS.out j hj; have := hb.size; omega) (NodeIs.keep (S' := S) (below_same hb (fun j hj => by have := HS.out j hj; omega)) (fun _ h => h) n _ U HU2.out) (HFEW.out.2.2 _ (List.getElem_mem hlt)) (HNUM.out _ (List.getElem_mem hlt)).2 (HIN.out _ (List.getElem_mem hlt)).2 (HHO.out.below (HB.out.trans (hb.mono hsz))))
        clear hc hU hrows hV hd
        generalize (Ward.Nd.kids t)[i] = c at *
        go_upto_region 4 with (first | (refine wpList_load_mid rfl 90 (.tmp 12) rfl g (o + i * 39) rfl U (.struct fs) HC.out HU.out rfl HR2.out.infl ?_) | (refine wpList_store_row rfl 90 (.tmp 6) (.tmp 13) rfl wr.heap.size U.toArray rfl rfl 90 _ (heap_alloc_new wr _) HR2.out.info (by rw [HR2.out.size]; rfl) HR2.out.one ?_; rw [World.setRow_alloc_new]))
        have hb5' := fun o => (Below.refl wr.heap.size wr).alloc (Nat.le_refl _) o
        have hr5' := heap_alloc_new wr
        generalize hW : World.alloc wr _ = w5
        have hb5 : Below wr.heap.size wr w5 := by rw [← hW]; exact hb5' _
        have hr5 : w5.heap[wr.heap.size]? = some (.cells U.toArray 90 (0, 0)) := by rw [← hW]; exact hr5' _
        clear hb5' hr5' hW
        have hs5 : wr.heap.size < w5.heap.size := (Array.getElem?_eq_some_iff.1 hr5).1
        have HB5 := hide hb5
        have HR5 := hide hr5
        clear hb5 hr5
        have HX := hide (HHX.out w5 HB5.out)
        generalize P n c = r at *
        go_wp2_with (refine wpList_load_row rfl 90 (.tmp 6) rfl wr.heap.size rfl 90 U.toArray (0, 0) (.struct fs) HR5.out HU.out rfl HR2.out.info ?_)
        refine HX.out.mono ?_
        rintro _ w6 ⟨rfl, hb6⟩
        have hs6 := hb6.size
        have HB6 := hide (HB5.out.trans (hb6.mono (by omega)))
        have HR6 := hide ((hb6.block wr.heap.size hs5).trans HR5.out)
        clear hb6
        cases r with
        | false =>
          go_wp2_with fail
          go_ret
          refine ⟨?_, HB.out.trans (HB6.out.mono (by omega))⟩
          rw [HEV.out, HST.out.2 rfl]; rfl
        | true =>
          have HY := hide (HIX.out w6 HB6.out)
          generalize Ward.everyN P n c = r2 at *
          have n6 : NodeRow w6 (.pointer (some ⟨wr.heap.size, 0, none⟩)) := nodeRow_of HR6.out HR2.out.size
          have l6 : loadVal w6 (.pointer (some ⟨wr.heap.size, 0, none⟩)) = .agg U.toArray := loadVal_row HR6.out
          go_wp2_with fail
          refine HY.out.mono ?_
          rintro _ w7 ⟨rfl, hb7⟩
          have HB7 := hide (HB6.out.trans (hb7.mono (by omega)))
          clear hb7 n6 l6
          cases r2 with
          | false =>
            go_wp2_with fail
            go_ret
            refine ⟨?_, HB.out.trans (HB7.out.mono (by omega))⟩
            rw [HEV.out, HST.out.2 rfl]; rfl
          | true =>
            go_wp2_with fail
            go_roundg ((Ward.Nd.kids t).length - (i + 1))
            case measure => have := HGK.out; omega
            case rel => exact ⟨i + 1, rfl, by go_num, hlt, HB.out.trans (HB7.out.mono (by omega)), HST.out.1 rfl⟩
      · have ei : i = (Ward.Nd.kids t).length := by omega
        subst ei
        rw [List.take_length] at HA
        go_wp2_with fail
        go_ret
        refine ⟨?_, HB.out⟩
        rw [HEV.out, HA.out]; rfl
end Go.Proofs.YtenaelkbgkpllaaGreatDoor
/- A test of every child. -/
namespace Go.Proofs.YtenaelkbgkpllaaGreatDoor
open Go.RowKit

/-- of a test of children: what it says -/
def Holdsd (w : World) (kq ka : Nat) (P : (n : Nat) → Ward.NT n → Bool) : Prop := ∀ (W : World) (n : Nat) (t : Ward.NT n) (V : List Value) (S : Nat → Prop), (∀ g, S g → g < W.heap.size) → NodeIs W S n t V → Ward.Few n t → Ward.NumsN n t → (Ward.boxN n t).In → Below w.heap.size w W → Calls Tryz.prog 89 #[.agg V.toArray, .pointer (some ⟨kq, 0, none⟩), .pointer (some ⟨ka, 0, none⟩)] W fun e w' => e = .returned (.bool (P n t)) ∧ Below W.heap.size W w'
theorem Holdsd.below {w w' : World} {kq ka : Nat} {P : (n : Nat) → Ward.NT n → Bool} (h : Holdsd w kq ka P) (hb : Below w.heap.size w w') : Holdsd w' kq ka P := fun W n t V S hS hN h1 h2 h3 hW => h W n t V S hS hN h1 h2 h3 (hb.trans (hW.mono hb.size))
attribute [local go_sem ↓] Go.wp_at_zero Go.wp_at_succ wp_load_nodeG
set_option maxRecDepth 100000 in
set_option maxHeartbeats 4000000 in
theorem every_d (kq ka : Nat) (P : (n : Nat) → Ward.NT n → Bool) : ∀ (n : Nat) (t : Ward.NT n) (V : List Value) (w : World) (S : Nat → Prop) (_ : ∀ g, S g → g < w.heap.size) (_ : NodeIs w S n t V) (_ : Ward.Few n t) (_ : Ward.NumsN n t) (_ : Ward.InN n t) (_ : Holdsd w kq ka P),
    Calls Tryz.prog 84 #[.agg V.toArray, .func (.func 89) #[] #[.pointer (some ⟨kq, 0, none⟩), .pointer (some ⟨ka, 0, none⟩)]] w fun e w' => e = .returned (.bool (Ward.everyN P n t)) ∧ Below w.heap.size w w' := by
  intro n
  induction n with
  | zero => intro t; exact nomatch t
  | succ n ih =>
    intro t V w S hS hN hfew hnum hin hho
    have HEV := hide (every_step P n t)
    have IH := hide ih
    have HFEW := hide hfew
    have HNUM := hide hnum
    have HIN := hide hin
    have HHO := hide hho
    obtain ⟨a1, l1, c1, a2, l2, c2, hV, hd⟩ := hN.cells
    have HR := hide (show Row39 V by rw [hV]; exact nodeV_row hd)
    obtain ⟨vp, vc, hVe, -, hrp, ⟨ac, cc, rfl, hkids⟩⟩ := hN
    have HVE := hide hVe
    have HKD := hide hkids
    have HS := hide hS
    have hk4 : (Ward.Nd.kids t).length ≤ 4 := HFEW.out.2.1
    obtain ⟨fs, hu⟩ := underNode
    have HU := hide hu
    clear hu hV hd hVe hrp hkids hS ih hfew hnum hin hho
    have hb2 := fun o => (Below.refl w.heap.size w).alloc (Nat.le_refl _) o
    have hr2 := heap_alloc_new w
    go_enter Tryz.func84, Tryz.ntmps84
    go_upto_region 1 with fail
    generalize hW : World.alloc w _ = w1
    have hb1 : Below w.heap.size w w1 := by rw [← hW]; exact hb2 _
    have hn1 : w1.heap[w.heap.size]? = some (.cells V.toArray 90 (0, 0)) := by rw [← hW]; exact hr2 _
    clear hb2 hr2 hW
    have hs1 : w.heap.size < w1.heap.size := (Array.getElem?_eq_some_iff.1 hn1).1
    have HB1 := hide hb1
    have HN1 := hide (show w1.heap[w.heap.size]? = some (.cells (nodeV vp (.slice ac (Ward.Nd.kids t).length cc) (Ward.Nd.box t) (Ward.Nd.n t) ((Ward.Nd.dig t).map Y)).toArray 90 (0, 0)) by rw [hn1, HVE.out])
    obtain ⟨⟨k0, k1⟩, -, -⟩ := node_cells HN1.out
    clear hb1 hn1
    go_wp2_with fail
    go_loopg [10] (Ward.Nd.kids t).length (fun gk v10 wq => ∃ i : Nat, gk = (Ward.Nd.kids t).length - i ∧ v10 = I i ∧ i ≤ (Ward.Nd.kids t).length ∧ Below w.heap.size w wq ∧ ((Ward.Nd.kids t).take i).all (fun c => P n c && Ward.everyN P n c) = true)
    case atStart => exact ⟨0, by omega, rfl, by omega, HB1.out, rfl⟩
    case round =>
      obtain ⟨i, hgk, rfl, hi, hb, ha⟩ := hrel
      have HGK := hide hgk
      have HB := hide hb
      have HA := hide ha
      have hsz := hb.size
      clear hgk hb ha
      by_cases hlt : i < (Ward.Nd.kids t).length
      · obtain ⟨g, o, rfl, hgS, hrows⟩ := HKD.out (fun e => by rw [e] at hlt; simp at hlt)
        obtain ⟨U, hU, hc⟩ := hrows i hlt
        have hgl := HS.out g hgS
        have HC := hide (rangeAt_block hc (HB.out.block g hgl))
        have HU2 := hide (NodeIs.keep (S' := S) (below_same HB.out HS.out) (fun _ h => h) n _ U hU)
        obtain ⟨d1, m1, e1, d2, m2, e2, hV, hd⟩ := HU2.out.cells
        have HR2 := hide (show Row39 U by rw [hV]; exact nodeV_row hd)
        have HST := hide (all_take (fun c => P n c && Ward.everyN P n c) (Ward.Nd.kids t) i hlt HA.out)
        have HHX := hide (fun (W : World) (hb : Below wr.heap.size wr W) => HHO.out W n _ U S (fun j hj => by have := HS.out j hj; have := hb.size; omega) (NodeIs.keep (S' := S) (below_same hb (fun j hj => by have := HS.out j hj; omega)) (fun _ h => h) n _ U HU2.out) (HFEW.out.2.2 _ (List.getElem_mem hlt)) (HNUM.out _ (List.getElem_mem hlt)).2 (HIN.out _ (List.getElem_mem hlt)).1 (HB.out.trans (hb.mono hsz)))
        have HIX := hide (fun (W : World) (hb : Below wr.heap.size wr W) => IH.out _ U W S (fun j hj => by have := HS.out j hj; have := hb.size; omega) (NodeIs.keep (S' := S) (below_same hb (fun j hj => by have := HS.out j hj; omega)) (fun _ h => h) n _ U HU2.out) (HFEW.out.2.2 _ (List.getElem_mem hlt)) (HNUM.out _ (List.getElem_mem hlt)).2 (HIN.out _ (List.getElem_mem hlt)).2 (HHO.out.below (HB.out.trans (hb.mono hsz))))
        clear hc hU hrows hV hd
        generalize (Ward.Nd.kids t)[i] = c at *
        go_upto_region 4 with (first | (refine wpList_load_mid rfl 90 (.tmp 12) rfl g (o + i * 39) rfl U (.struct fs) HC.out HU.out rfl HR2.out.infl ?_) | (refine wpList_store_row rfl 90 (.tmp 6) (.tmp 13) rfl wr.heap.size U.toArray rfl rfl 90 _ (heap_alloc_new wr _) HR2.out.info (by rw [HR2.out.size]; rfl) HR2.out.one ?_; rw [World.setRow_alloc_new]))
        have hb5' := fun o => (Below.refl wr.heap.size wr).alloc (Nat.le_refl _) o
        have hr5' := heap_alloc_new wr
        generalize hW : World.alloc wr _ = w5
        have hb5 : Below wr.heap.size wr w5 := by rw [← hW]; exact hb5' _
        have hr5 : w5.heap[wr.heap.size]? = some (.cells U.toArray 90 (0, 0)) := by rw [← hW]; exact hr5' _
        clear hb5' hr5' hW
        have hs5 : wr.heap.size < w5.heap.size := (Array.getElem?_eq_some_iff.1 hr5).1
        have HB5 := hide hb5
        have HR5 := hide hr5
        clear hb5 hr5
        have HX := hide (HHX.out w5 HB5.out)
        generalize P n c = r at *
        go_wp2_with (refine wpList_load_row rfl 90 (.tmp 6) rfl wr.heap.size rfl 90 U.toArray (0, 0) (.struct fs) HR5.out HU.out rfl HR2.out.info ?_)
        refine HX.out.mono ?_
        rintro _ w6 ⟨rfl, hb6⟩
        have hs6 := hb6.size
        have HB6 := hide (HB5.out.trans (hb6.mono (by omega)))
        have HR6 := hide ((hb6.block wr.heap.size hs5).trans HR5.out)
        clear hb6
        cases r with
        | false =>
          go_wp2_with fail
          go_ret
          refine ⟨?_, HB.out.trans (HB6.out.mono (by omega))⟩
          rw [HEV.out, HST.out.2 rfl]; rfl
        | true =>
          have HY := hide (HIX.out w6 HB6.out)
          generalize Ward.everyN P n c = r2 at *
          have n6 : NodeRow w6 (.pointer (some ⟨wr.heap.size, 0, none⟩)) := nodeRow_of HR6.out HR2.out.size
          have l6 : loadVal w6 (.pointer (some ⟨wr.heap.size, 0, none⟩)) = .agg U.toArray := loadVal_row HR6.out
          go_wp2_with fail
          refine HY.out.mono ?_
          rintro _ w7 ⟨rfl, hb7⟩
          have HB7 := hide (HB6.out.trans (hb7.mono (by omega)))
          clear hb7 n6 l6
          cases r2 with
          | false =>
            go_wp2_with fail
            go_ret
            refine ⟨?_, HB.out.trans (HB7.out.mono (by omega))⟩
            rw [HEV.out, HST.out.2 rfl]; rfl
          | true =>
            go_wp2_with fail
            go_roundg ((Ward.Nd.kids t).length - (i + 1))
            case measure => have := HGK.out; omega
            case rel => exact ⟨i + 1, rfl, by go_num, hlt, HB.out.trans (HB7.out.mono (by omega)), HST.out.1 rfl⟩
      · have ei : i = (Ward.Nd.kids t).length := by omega
        subst ei
        rw [List.take_length] at HA
        go_wp2_with fail
        go_ret
        refine ⟨?_, HB.out⟩
        rw [HEV.out, HA.out]; rfl
end Go.Proofs.YtenaelkbgkpllaaGreatDoor
/- BoxesHold, DigestsHold; what LacksNone and WastesNone ask of a child. -/
namespace Go.Proofs.YtenaelkbgkpllaaGreatDoor
open Go.RowKit

set_option maxRecDepth 100000 in
set_option maxHeartbeats 4000000 in
theorem boxesHold_any (n : Nat) (t : Ward.NT n) (V : List Value) (w : World) (hN : NodeIs w (fun j => j < w.heap.size) n t V) (hF : Ward.Fine n t) (hK : KT w) :
    Calls Tryz.prog 47 #[.agg V.toArray] w fun e w' => e = .returned (.bool (Ward.everyN Ward.boxHolds n t)) ∧ Below w.heap.size w w' := by
  have HX := hide (fun (W : World) (hb : Below w.heap.size w W) => every_a Ward.boxHolds n t V W (fun j => j < w.heap.size) (fun g hg => Nat.lt_of_lt_of_le hg hb.size) (NodeIs.keep (below_same hb (fun _ h => h)) (fun _ h => h) n t V hN) hF.few hF.nums hF.inn (fun W2 n2 t2 V2 S2 hS2 hN2 hf2 hn2 _ hb2 => boxHold_any n2 t2 V2 W2 S2 hS2 hN2 hf2 hn2 ((hK.below hb).below hb2)))
  have HR := hide hN.shape.row
  obtain ⟨fs, hu⟩ := underNode
  have HU := hide hu
  have hb1' := fun o => (Below.refl w.heap.size w).alloc (Nat.le_refl _) o
  have hr1' := heap_alloc_new w
  clear hN hF hK hu
  go_enter Tryz.func47, Tryz.ntmps47
  go_upto_region 1 with fail
  generalize hW : World.alloc w _ = w1
  have hb1 : Below w.heap.size w w1 := by rw [← hW]; exact hb1' _
  have hr1 : w1.heap[w.heap.size]? = some (.cells V.toArray 90 (0, 0)) := by rw [← hW]; exact hr1' _
  clear hb1' hr1' hW
  have hs1 := hb1.size
  have HN1 := hide hr1
  have HB1 := hide hb1
  have HXX := hide (HX.out w1 hb1)
  clear hb1 hr1
  go_wp2_with (refine wpList_load_row rfl 90 (.tmp 1) rfl w.heap.size rfl 90 V.toArray (0, 0) (.struct fs) HN1.out HU.out rfl HR.out.info ?_)
  refine HXX.out.mono ?_
  rintro _ w2 ⟨rfl, hb2⟩
  have HB2 := hide (HB1.out.trans (hb2.mono hs1))
  clear hb2
  go_wp2_with fail
  go_ret
  exact ⟨rfl, HB2.out⟩
set_option maxRecDepth 100000 in
set_option maxHeartbeats 4000000 in
theorem digestsHold_any (n : Nat) (t : Ward.NT n) (V : List Value) (w : World) (hN : NodeIs w (fun j => j < w.heap.size) n t V) (hF : Ward.Fine n t) (hK : KT w) :
    Calls Tryz.prog 48 #[.agg V.toArray] w fun e w' => e = .returned (.bool (Ward.everyN Ward.digHolds n t)) ∧ Below w.heap.size w w' := by
  have HX := hide (fun (W : World) (hb : Below w.heap.size w W) => every_b Ward.digHolds n t V W (fun j => j < w.heap.size) (fun g hg => Nat.lt_of_lt_of_le hg hb.size) (NodeIs.keep (below_same hb (fun _ h => h)) (fun _ h => h) n t V hN) hF.few hF.nums hF.inn (fun W2 n2 t2 V2 S2 hS2 hN2 hf2 hn2 _ hb2 => digHold_any n2 t2 V2 W2 S2 hS2 hN2 hf2 hn2 ((hK.below hb).below hb2)))
  have HR := hide hN.shape.row
  obtain ⟨fs, hu⟩ := underNode
  have HU := hide hu
  have hb1' := fun o => (Below.refl w.heap.size w).alloc (Nat.le_refl _) o
  have hr1' := heap_alloc_new w
  clear hN hF hK hu
  go_enter Tryz.func48, Tryz.ntmps48
  go_upto_region 1 with fail
  generalize hW : World.alloc w _ = w1
  have hb1 : Below w.heap.size w w1 := by rw [← hW]; exact hb1' _
  have hr1 : w1.heap[w.heap.size]? = some (.cells V.toArray 90 (0, 0)) := by rw [← hW]; exact hr1' _
  clear hb1' hr1' hW
  have hs1 := hb1.size
  have HN1 := hide hr1
  have HB1 := hide hb1
  have HXX := hide (HX.out w1 hb1)
  clear hb1 hr1
  go_wp2_with (refine wpList_load_row rfl 90 (.tmp 1) rfl w.heap.size rfl 90 V.toArray (0, 0) (.struct fs) HN1.out HU.out rfl HR.out.info ?_)
  refine HXX.out.mono ?_
  rintro _ w2 ⟨rfl, hb2⟩
  have HB2 := hide (HB1.out.trans (hb2.mono hs1))
  clear hb2
  go_wp2_with fail
  go_ret
  exact ⟨rfl, HB2.out⟩
set_option maxRecDepth 100000 in
set_option maxHeartbeats 4000000 in
theorem lack_closure {q : Ward.Qr} (hq : Ward.mayBe q = true) {P : List Ward.Pt} (hP : ∀ p ∈ P, p.Ok) (w : World) (kq ka B : Nat) (v : Value) (hqr : w.heap[kq]? = some (.cells #[I q.kind, I q.a, I q.b, I q.c, I q.d, I q.x, I q.y, I q.k] 46 (0, 0))) (ha : w.heap[ka]? = some (.cells #[v] 27 (0, 0))) (hv : Own w B v (Ward.ans q P)) : Holdsc w kq ka (Ward.lackN q (Ward.ans q P)) := by
  intro W n t V S hS hN hfew hnum hi hW
  have hq0 := (Array.getElem?_eq_some_iff.1 hqr).1
  have ha0 := (Array.getElem?_eq_some_iff.1 ha).1
  have hb2 := fun o => (Below.refl W.heap.size W).alloc (Nat.le_refl _) o
  have hr2 := heap_alloc_new W
  have HNN := hide hN
  have HM := hide (fun (W' : World) (hb : Below w.heap.size w W') => mustShow_any hq hP W' B v (Ward.boxN n t) hi (hv.below hb))
  have HX := hide (fun (W' : World) (hb : Below W.heap.size W W') => isShown_any n t V W' S (NodeIs.keep (below_same hb hS) (fun _ h => h) n t V hN) hfew)
  have HR := hide hN.shape.row
  have HE := hide (show Ward.lackN q (Ward.ans q P) n t = (Ward.shownN n t || !Ward.must q (Ward.ans q P) (Ward.boxN n t)) from rfl)
  rw [HE.out]
  obtain ⟨fs, hu⟩ := underNode
  have HU := hide hu
  obtain ⟨av, cv, rfl⟩ := hv.slice
  generalize Ward.must q (Ward.ans q P) (Ward.boxN n t) = r at *
  generalize Ward.shownN n t = sh at *
  clear hv hN hfew hnum hi hS HE hu
  generalize (Ward.ans q P).length = al at *
  go_enter Tryz.func88, Tryz.ntmps88
  go_upto_region 1 with fail
  generalize hE : World.alloc W _ = w1
  have hb1 : Below W.heap.size W w1 := by rw [← hE]; exact hb2 _
  have hx1 : w1.heap[W.heap.size]? = some (.cells V.toArray 90 (0, 0)) := by rw [← hE]; exact hr2 _
  clear hb2 hr2 hE
  have hs1 : W.heap.size < w1.heap.size := (Array.getElem?_eq_some_iff.1 hx1).1
  have HB1 := hide hb1
  have HX1 := hide hx1
  have HQR := hide hqr
  have HAR := hide ha
  have HWW := hide hW
  have HXX := hide (HX.out w1 hb1)
  clear hb1 hx1 hqr ha hW
  go_wp2_with (refine wpList_load_row rfl 90 (.tmp 3) rfl W.heap.size rfl 90 V.toArray (0, 0) (.struct fs) HX1.out HU.out rfl HR.out.info ?_)
  refine HXX.out.mono ?_
  rintro _ w2 ⟨rfl, hb2⟩
  have hs2 := hb2.size
  have HB2 := hide (HB1.out.trans (hb2.mono (by omega)))
  have HX2 := hide ((hb2.block W.heap.size hs1).trans HX1.out)
  clear hb2
  have HBW := hide (show Below w.heap.size w w2 from HWW.out.trans (HB2.out.mono HWW.out.size))
  cases sh with
  | true =>
    go_wp2_with fail
    go_ret
    exact ⟨rfl, HB2.out⟩
  | false =>
    obtain ⟨k0, k1, k2, k3, k4, k5, k6, k7⟩ := rowQ8 ((HBW.out.block kq hq0).trans HQR.out)
    have j0 : w2.cell? ⟨ka, 0, none⟩ = some (.slice av al cv) := by rw [cell_of_row _ _ _ _ _ _ ((HBW.out.block ka ha0).trans HAR.out)]; rfl
    obtain ⟨c1, c2, c3, c4, -⟩ := box_cells HNN.out HX2.out
    go_wp2_with fail
    refine (HM.out w2 HBW.out).mono ?_
    rintro _ w3 ⟨rfl, hb3⟩
    have HB3 := hide (HB2.out.trans (hb3.mono (by omega)))
    clear hb3
    go_wp2_with fail
    go_ret
    refine ⟨?_, HB3.out⟩
    first | rfl | simp
set_option maxRecDepth 100000 in
set_option maxHeartbeats 4000000 in
theorem waste_closure {q : Ward.Qr} (hq : Ward.mayBe q = true) {P : List Ward.Pt} (hP : ∀ p ∈ P, p.Ok) (w : World) (kq ka B : Nat) (v : Value) (hqr : w.heap[kq]? = some (.cells #[I q.kind, I q.a, I q.b, I q.c, I q.d, I q.x, I q.y, I q.k] 46 (0, 0))) (ha : w.heap[ka]? = some (.cells #[v] 27 (0, 0))) (hv : Own w B v (Ward.ans q P)) : Holdsd w kq ka (Ward.wasteN q (Ward.ans q P)) := by
  intro W n t V S hS hN hfew hnum hi hW
  have hq0 := (Array.getElem?_eq_some_iff.1 hqr).1
  have ha0 := (Array.getElem?_eq_some_iff.1 ha).1
  have hb2 := fun o => (Below.refl W.heap.size W).alloc (Nat.le_refl _) o
  have hr2 := heap_alloc_new W
  have HNN := hide hN
  have HM := hide (fun (W' : World) (hb : Below w.heap.size w W') => mustShow_any hq hP W' B v (Ward.boxN n t) hi (hv.below hb))
  have HX := hide (fun (W' : World) (hb : Below W.heap.size W W') => isShown_any n t V W' S (NodeIs.keep (below_same hb hS) (fun _ h => h) n t V hN) hfew)
  have HR := hide hN.shape.row
  have HE := hide (show Ward.wasteN q (Ward.ans q P) n t = (!Ward.shownN n t || Ward.must q (Ward.ans q P) (Ward.boxN n t)) from rfl)
  rw [HE.out]
  obtain ⟨fs, hu⟩ := underNode
  have HU := hide hu
  obtain ⟨av, cv, rfl⟩ := hv.slice
  generalize Ward.must q (Ward.ans q P) (Ward.boxN n t) = r at *
  generalize Ward.shownN n t = sh at *
  clear hv hN hfew hnum hi hS HE hu
  generalize (Ward.ans q P).length = al at *
  go_enter Tryz.func89, Tryz.ntmps89
  go_upto_region 1 with fail
  generalize hE : World.alloc W _ = w1
  have hb1 : Below W.heap.size W w1 := by rw [← hE]; exact hb2 _
  have hx1 : w1.heap[W.heap.size]? = some (.cells V.toArray 90 (0, 0)) := by rw [← hE]; exact hr2 _
  clear hb2 hr2 hE
  have hs1 : W.heap.size < w1.heap.size := (Array.getElem?_eq_some_iff.1 hx1).1
  have HB1 := hide hb1
  have HX1 := hide hx1
  have HQR := hide hqr
  have HAR := hide ha
  have HWW := hide hW
  have HXX := hide (HX.out w1 hb1)
  clear hb1 hx1 hqr ha hW
  go_wp2_with (refine wpList_load_row rfl 90 (.tmp 3) rfl W.heap.size rfl 90 V.toArray (0, 0) (.struct fs) HX1.out HU.out rfl HR.out.info ?_)
  refine HXX.out.mono ?_
  rintro _ w2 ⟨rfl, hb2⟩
  have hs2 := hb2.size
  have HB2 := hide (HB1.out.trans (hb2.mono (by omega)))
  have HX2 := hide ((hb2.block W.heap.size hs1).trans HX1.out)
  clear hb2
  have HBW := hide (show Below w.heap.size w w2 from HWW.out.trans (HB2.out.mono HWW.out.size))
  cases sh with
  | false =>
    go_wp2_with fail
    go_ret
    exact ⟨rfl, HB2.out⟩
  | true =>
    obtain ⟨k0, k1, k2, k3, k4, k5, k6, k7⟩ := rowQ8 ((HBW.out.block kq hq0).trans HQR.out)
    have j0 : w2.cell? ⟨ka, 0, none⟩ = some (.slice av al cv) := by rw [cell_of_row _ _ _ _ _ _ ((HBW.out.block ka ha0).trans HAR.out)]; rfl
    obtain ⟨c1, c2, c3, c4, -⟩ := box_cells HNN.out HX2.out
    go_wp2_with fail
    refine (HM.out w2 HBW.out).mono ?_
    rintro _ w3 ⟨rfl, hb3⟩
    have HB3 := hide (HB2.out.trans (hb3.mono (by omega)))
    clear hb3
    go_wp2_with fail
    go_ret
    refine ⟨?_, HB3.out⟩
    first | rfl | simp
end Go.Proofs.YtenaelkbgkpllaaGreatDoor
/- LacksNone, WastesNone. -/
namespace Go.Proofs.YtenaelkbgkpllaaGreatDoor
open Go.RowKit

set_option maxRecDepth 100000 in
set_option maxHeartbeats 4000000 in
theorem lacks_any {q : Ward.Qr} (hq : Ward.mayBe q = true) {P : List Ward.Pt} (hP : ∀ p ∈ P, p.Ok) (n : Nat) (t : Ward.NT n) (V : List Value) (v : Value) (w : World) (B : Nat) (hN : NodeIs w (fun j => j < w.heap.size) n t V) (hF : Ward.Fine n t) (hv : Own w B v (Ward.ans q P)) :
    Calls Tryz.prog 49 #[.agg V.toArray, Qv q, v] w fun e w' => e = .returned (.bool (Ward.everyN (Ward.lackN q (Ward.ans q P)) n t)) ∧ Below w.heap.size w w' := by
  have HX := hide (fun (W : World) (hb : Below w.heap.size w W) (hqr : W.heap[w.heap.size + 1]? = some (.cells #[I q.kind, I q.a, I q.b, I q.c, I q.d, I q.x, I q.y, I q.k] 46 (0, 0))) (ha : W.heap[w.heap.size + 2]? = some (.cells #[v] 27 (0, 0))) => every_c (w.heap.size + 1) (w.heap.size + 2) (Ward.lackN q (Ward.ans q P)) n t V W (fun j => j < w.heap.size) (fun g hg => Nat.lt_of_lt_of_le hg hb.size) (NodeIs.keep (below_same hb (fun _ h => h)) (fun _ h => h) n t V hN) hF.few hF.nums hF.inn (lack_closure hq hP W (w.heap.size + 1) (w.heap.size + 2) B v hqr ha (hv.below hb)))
  have HR := hide hN.shape.row
  obtain ⟨fs, hu⟩ := underNode
  have HU := hide hu
  obtain ⟨av, cv, ev⟩ := hv.slice
  subst ev
  generalize Ward.everyN (Ward.lackN q (Ward.ans q P)) n t = r at *
  have hb1' := below3 w
  have hr1' := heap3 w
  clear hN hF hu hv
  generalize (Ward.ans q P).length = al at *
  go_enter Tryz.func49, Tryz.ntmps49
  go_upto_region 1 with fail
  generalize hW : World.alloc (World.alloc (World.alloc w _) _) _ = w1
  have hb1 : Below w.heap.size w w1 := by rw [← hW]; exact hb1' _ _ _
  have hr1 : w1.heap[w.heap.size]? = some (.cells V.toArray 90 (0, 0)) := by rw [← hW]; exact (hr1' _ _ _).1
  have hq1 : w1.heap[w.heap.size + 1]? = some (.cells #[I q.kind, I q.a, I q.b, I q.c, I q.d, I q.x, I q.y, I q.k] 46 (0, 0)) := by rw [← hW]; exact (hr1' _ _ _).2.1
  have ha1 : w1.heap[w.heap.size + 2]? = some (.cells #[.slice av al cv] 27 (0, 0)) := by rw [← hW]; exact (hr1' _ _ _).2.2.1
  clear hb1' hr1' hW
  have hs1 := hb1.size
  have HN1 := hide hr1
  have HB1 := hide hb1
  have HXX := hide (HX.out w1 hb1 hq1 ha1)
  clear hb1 hr1 hq1 ha1
  go_wp2_with (refine wpList_load_row rfl 90 (.tmp 3) rfl w.heap.size rfl 90 V.toArray (0, 0) (.struct fs) HN1.out HU.out rfl HR.out.info ?_)
  refine HXX.out.mono ?_
  rintro _ w2 ⟨rfl, hb2⟩
  have HB2 := hide (HB1.out.trans (hb2.mono hs1))
  clear hb2
  go_wp2_with fail
  go_ret
  exact ⟨rfl, HB2.out⟩
set_option maxRecDepth 100000 in
set_option maxHeartbeats 4000000 in
theorem wastes_any {q : Ward.Qr} (hq : Ward.mayBe q = true) {P : List Ward.Pt} (hP : ∀ p ∈ P, p.Ok) (n : Nat) (t : Ward.NT n) (V : List Value) (v : Value) (w : World) (B : Nat) (hN : NodeIs w (fun j => j < w.heap.size) n t V) (hF : Ward.Fine n t) (hv : Own w B v (Ward.ans q P)) :
    Calls Tryz.prog 50 #[.agg V.toArray, Qv q, v] w fun e w' => e = .returned (.bool (Ward.everyN (Ward.wasteN q (Ward.ans q P)) n t)) ∧ Below w.heap.size w w' := by
  have HX := hide (fun (W : World) (hb : Below w.heap.size w W) (hqr : W.heap[w.heap.size + 1]? = some (.cells #[I q.kind, I q.a, I q.b, I q.c, I q.d, I q.x, I q.y, I q.k] 46 (0, 0))) (ha : W.heap[w.heap.size + 2]? = some (.cells #[v] 27 (0, 0))) => every_d (w.heap.size + 1) (w.heap.size + 2) (Ward.wasteN q (Ward.ans q P)) n t V W (fun j => j < w.heap.size) (fun g hg => Nat.lt_of_lt_of_le hg hb.size) (NodeIs.keep (below_same hb (fun _ h => h)) (fun _ h => h) n t V hN) hF.few hF.nums hF.inn (waste_closure hq hP W (w.heap.size + 1) (w.heap.size + 2) B v hqr ha (hv.below hb)))
  have HR := hide hN.shape.row
  obtain ⟨fs, hu⟩ := underNode
  have HU := hide hu
  obtain ⟨av, cv, ev⟩ := hv.slice
  subst ev
  generalize Ward.everyN (Ward.wasteN q (Ward.ans q P)) n t = r at *
  have hb1' := below3 w
  have hr1' := heap3 w
  clear hN hF hu hv
  generalize (Ward.ans q P).length = al at *
  go_enter Tryz.func50, Tryz.ntmps50
  go_upto_region 1 with fail
  generalize hW : World.alloc (World.alloc (World.alloc w _) _) _ = w1
  have hb1 : Below w.heap.size w w1 := by rw [← hW]; exact hb1' _ _ _
  have hr1 : w1.heap[w.heap.size]? = some (.cells V.toArray 90 (0, 0)) := by rw [← hW]; exact (hr1' _ _ _).1
  have hq1 : w1.heap[w.heap.size + 1]? = some (.cells #[I q.kind, I q.a, I q.b, I q.c, I q.d, I q.x, I q.y, I q.k] 46 (0, 0)) := by rw [← hW]; exact (hr1' _ _ _).2.1
  have ha1 : w1.heap[w.heap.size + 2]? = some (.cells #[.slice av al cv] 27 (0, 0)) := by rw [← hW]; exact (hr1' _ _ _).2.2.1
  clear hb1' hr1' hW
  have hs1 := hb1.size
  have HN1 := hide hr1
  have HB1 := hide hb1
  have HXX := hide (HX.out w1 hb1 hq1 ha1)
  clear hb1 hr1 hq1 ha1
  go_wp2_with (refine wpList_load_row rfl 90 (.tmp 3) rfl w.heap.size rfl 90 V.toArray (0, 0) (.struct fs) HN1.out HU.out rfl HR.out.info ?_)
  refine HXX.out.mono ?_
  rintro _ w2 ⟨rfl, hb2⟩
  have HB2 := hide (HB1.out.trans (hb2.mono hs1))
  clear hb2
  go_wp2_with fail
  go_ret
  exact ⟨rfl, HB2.out⟩
end Go.Proofs.YtenaelkbgkpllaaGreatDoor
/- Verify. -/
namespace Go.Proofs.YtenaelkbgkpllaaGreatDoor
open Go.RowKit

/-- a pointer to a row of a commitment's cells -/
def ComRow (w : World) (v : Value) : Prop := ∃ g cs t fr, v = .pointer (some ⟨g, 0, none⟩) ∧ w.heap[g]? = some (.cells cs t fr) ∧ cs.size = 33
theorem comRow_of {w : World} {g t : Nat} {cs : Array Value} {fr : Nat × Nat} (h : w.heap[g]? = some (.cells cs t fr)) (hs : cs.size = 33) : ComRow w (.pointer (some ⟨g, 0, none⟩)) := ⟨g, cs, t, fr, rfl, h, hs⟩
theorem underCom : ∃ fs, Tryz.prog.underlying 41 = some (.struct fs) := by
  have h : Tryz.prog.underlying 41 = some (.struct (Tryz.prog.fieldsOf 41)) := by kernel_rfl
  exact ⟨_, h⟩
theorem wp_load_com {d : Option Tmp} {x : Operand} {tt : TypeId} {ps : String} {af : Array Edge} {gd : Option (Nat × Bool)} {a : Act} {w : World} {K : Act → World → Prop} {Q : Exit → Act → World → Prop} (h : ComRow w (a.eval x)) :
    Oper.wp Tryz.prog { dst := d, op := .load 41 x, type := tt, pos := ps, after := af, guard := gd } a w K Q = K (a.put d (loadVal w (a.eval x))) w := by
  obtain ⟨g, cs, t, fr, hv, hg, hs⟩ := h
  obtain ⟨fs, hu⟩ := underCom
  have hr := run_loadVar_row (P := Tryz.prog) w g t 41 cs fr (.struct fs) hg hu rfl (by rw [hs]; exact Tryz.infoCommit)
  rw [hv, loadVal_row hg]
  unfold Oper.wp execOp
  simp only [hv, Instr.loadAt, Instr.sureAddr, Sem.run_bind, Sem.run_pure, Result.andThen_ok, hr]
  rfl
theorem own_nil (w : World) (B : Nat) : Own w B (.slice none 0 0) [] := World.ownsRow_nil _ _ _ _
/-- what Verify leaves -/
def Verified (w : World) (root : List UInt8) (count : Int) (q : Ward.Qr) (s : List UInt8) (e : Ending) (w' : World) : Prop := ∃ v, e = .returned (.tuple #[v, I (Ward.verify root count q s).2]) ∧ Own w' w.heap.size v (Ward.verify root count q s).1 ∧ Below w.heap.size w w'
theorem verified_nil {w w' : World} {root : List UInt8} {count : Int} {q : Ward.Qr} {s : List UInt8} {k : Int} (h : Ward.verify root count q s = ([], k)) (hb : Below w.heap.size w w') : Verified w root count q s (.returned (.tuple #[.slice none 0 0, I k])) w' := by
  unfold Verified
  rw [h]
  exact ⟨_, rfl, own_nil _ _, hb⟩
theorem heap2 (w : World) (a b : Obj) : ((w.alloc a).alloc b).heap[w.heap.size]? = some a ∧ ((w.alloc a).alloc b).heap[w.heap.size + 1]? = some b ∧ ((w.alloc a).alloc b).heap.size = w.heap.size + 2 := ⟨heap_alloc2_old w a b, heap_alloc2_new w a b, by simp⟩
attribute [local go_sem ↓] Go.wp_at_zero Go.wp_at_succ wp_load_nodeG wp_load_com
set_option maxRecDepth 100000 in
set_option maxHeartbeats 8000000 in
theorem verify_any (root : List UInt8) (count : Int) (q : Ward.Qr) (s : List UInt8) (w : World) (hroot : root.length = 32) (hK : KT w) :
    Calls Tryz.prog 22 #[.agg (rootV root count).toArray, Qv q, Sv s] w (Verified w root count q s) := by
  have HKT := hide hK
  have HRL := hide hroot
  have HMB := hide (fun W => mayBe_any q W)
  have hb1' := fun o o' => ((Below.refl w.heap.size w).alloc (Nat.le_refl _) o).alloc (by simp) o'
  have hr1' := heap2 w
  obtain ⟨fs, hu⟩ := underNode
  have HU := hide hu
  have HCS := hide (show (rootV root count).toArray.size = 33 by rw [List.size_toArray]; exact rootV_len _ _ hroot)
  have HEC := hide (fun (D : List UInt8) (m : Int) (hD : D.length = 32) (W : World) => eqCommit D root m count hD hroot W)
  generalize hRV : rootV root count = RV at *
  have HRV := hide hRV
  clear hK hroot hu hRV
  go_enter Tryz.func22, Tryz.ntmps22
  go_upto_region 1 with fail
  generalize hW : World.alloc (World.alloc w _) _ = w1
  have hb1 : Below w.heap.size w w1 := by rw [← hW]; exact hb1' _ _
  have hc1 : w1.heap[w.heap.size]? = some (.cells RV.toArray 41 (0, 0)) := by rw [← hW]; exact (hr1' _ _).1
  have hq1 : w1.heap[w.heap.size + 1]? = some (.cells #[I q.kind, I q.a, I q.b, I q.c, I q.d, I q.x, I q.y, I q.k] 46 (0, 0)) := by rw [← hW]; exact (hr1' _ _).2.1
  clear hb1' hr1' hW
  have hs1 : w.heap.size + 1 < w1.heap.size := (Array.getElem?_eq_some_iff.1 hq1).1
  obtain ⟨k0, k1, k2, k3, k4, k5, k6, k7⟩ := rowQ8 hq1
  have HB1 := hide hb1
  have HC1 := hide hc1
  have HQ1 := hide hq1
  clear hb1 hc1 hq1
  have HMR := hide (show ∃ r, Ward.mayBe q = r from ⟨_, rfl⟩)
  obtain ⟨r, hr⟩ := HMR.out
  rw [hr] at HMB
  go_wp2_with fail
  refine (HMB.out w1).mono ?_
  rintro _ w2 ⟨rfl, hb2⟩
  have hs2 := hb2.size
  have HB2 := hide (HB1.out.trans (hb2.mono (by omega)))
  have HC2 := hide ((hb2.block w.heap.size (by omega)).trans HC1.out)
  have HQ2 := hide ((hb2.block (w.heap.size + 1) (by omega)).trans HQ1.out)
  have HMY := hide hr
  clear hb2 hr k0 k1 k2 k3 k4 k5 k6 k7
  cases r with
  | false =>
    have HF := hide (show Ward.verify root count q s = ([], 6) by unfold Ward.verify; rw [if_pos HMY.out])
    go_wp2_with fail
    go_ret2
    exact verified_nil HF.out HB2.out
  | true =>
    have HRD := hide (read_any s w2 (HKT.out.below HB2.out))
    go_wp2_with fail
    refine HRD.out.mono ?_
    rintro e w3 ⟨hb3, hm3⟩
    have hs3 := hb3.size
    have HB3 := hide (HB2.out.trans (hb3.mono (by omega)))
    have HC3 := hide ((hb3.block w.heap.size (by omega)).trans HC2.out)
    have HQ3 := hide ((hb3.block (w.heap.size + 1) (by omega)).trans HQ2.out)
    clear hb3 HRD
    have hb4' := fun o => (Below.refl w3.heap.size w3).alloc (Nat.le_refl _) o
    have hr4' := heap_alloc_new w3
    cases hp : Ward.parse s with
    | none =>
      rw [hp] at hm3
      obtain ⟨V, hV, rfl⟩ := hm3
      have HV := hide hV.row
      have HF := hide (show Ward.verify root count q s = ([], 7) by unfold Ward.verify; rw [if_neg (by rw [HMY.out]; decide), hp])
      clear hV hp
      go_wp2_with (refine wpList_store_row rfl 90 (.tmp 8) (.tmp 17) rfl w3.heap.size V.toArray rfl rfl 90 _ (heap_alloc_new w3 _) HV.out.info (by rw [HV.out.size]; rfl) HV.out.one ?_; rw [World.setRow_alloc_new])
      go_ret2
      exact verified_nil HF.out (HB3.out.trans ((hb4' _).mono (by omega)))
    | some t =>
      rw [hp] at hm3
      obtain ⟨V, rfl, hN3⟩ := hm3
      have HV := hide hN3.shape.row
      have HN3 := hide hN3
      have HP := hide hp
      obtain ⟨hfine, hids⟩ := Ward.parse_fine hp
      have HFI := hide hfine
      have HID := hide hids
      obtain ⟨x1, l1, c1, x2, l2, c2, hVe, hdl⟩ := hN3.cells
      have HDL := hide hdl
      have HCM := hide (fun (W : World) => show Calls Tryz.prog 37 #[.agg V.toArray] W fun e w' => e = .returned (.agg (rootV (Ward.digN 7 t) (Ward.numN 7 t)).toArray) ∧ Below W.heap.size W w' by rw [hVe]; exact commitmentTo_any _ _ _ _ _ W hdl)
      clear hN3 hp hfine hids hVe hdl
      go_upto_region 4 with (refine wpList_store_row rfl 90 (.tmp 8) (.tmp 17) rfl w3.heap.size V.toArray rfl rfl 90 _ (heap_alloc_new w3 _) HV.out.info (by rw [HV.out.size]; rfl) HV.out.one ?_; rw [World.setRow_alloc_new])
      generalize hW : World.alloc w3 _ = w4
      have hb4 : Below w3.heap.size w3 w4 := by rw [← hW]; exact hb4' _
      have hr4 : w4.heap[w3.heap.size]? = some (.cells V.toArray 90 (0, 0)) := by rw [← hW]; exact hr4' _
      clear hb4' hr4' hW
      have hs4 : w3.heap.size < w4.heap.size := (Array.getElem?_eq_some_iff.1 hr4).1
      have HB4 := hide (HB3.out.trans (hb4.mono (by omega)))
      have HC4 := hide ((hb4.block w.heap.size (by omega)).trans HC3.out)
      have HQ4 := hide ((hb4.block (w.heap.size + 1) (by omega)).trans HQ3.out)
      have HR4 := hide hr4
      have HNW := hide (fun (W : World) (hb : Below w4.heap.size w4 W) => show NodeIs W (fun j => j < W.heap.size) 7 t V from NodeIs.keep (fun j hj => (hb.block j (Nat.lt_trans hj hs4)).trans (hb4.block j hj)) (fun j (hj : j < w3.heap.size) => show j < W.heap.size by have := hb.size; omega) 7 t V HN3.out)
      clear hb4 hr4
      have HBH := hide (boxesHold_any 7 t V w4 (HNW.out w4 (Below.refl _ _)) HFI.out (HKT.out.below HB4.out))
      have HBR := hide (show ∃ r, Ward.everyN Ward.boxHolds 7 t = r from ⟨_, rfl⟩)
      obtain ⟨r1, hr1⟩ := HBR.out
      rw [hr1] at HBH
      have HR1 := hide hr1
      clear hr1 HBR
      go_wp2_with (refine wpList_load_row rfl 90 (.tmp 8) rfl w3.heap.size rfl 90 V.toArray (0, 0) (.struct fs) HR4.out HU.out rfl HV.out.info ?_)
      refine HBH.out.mono ?_
      rintro _ w5 ⟨rfl, hb5⟩
      have hs5 := hb5.size
      have HB45 := hide hb5
      have HB5 := hide (HB4.out.trans (hb5.mono (by omega)))
      have HC5 := hide ((hb5.block w.heap.size (by omega)).trans HC4.out)
      have HQ5 := hide ((hb5.block (w.heap.size + 1) (by omega)).trans HQ4.out)
      have HR5 := hide ((hb5.block w3.heap.size hs4).trans HR4.out)
      clear hb5
      cases r1 with
      | false =>
        have HF := hide (show Ward.verify root count q s = ([], 8) by unfold Ward.verify; rw [if_neg (by rw [HMY.out]; decide), HP.out]; simp only; rw [if_pos HR1.out])
        go_wp2_with fail
        go_ret2
        exact verified_nil HF.out HB5.out
      | true =>
        have HDH := hide (digestsHold_any 7 t V w5.drew (show NodeIs w5.drew _ 7 t V from NodeIs.keep (fun _ _ => rfl) (fun _ h => h) 7 t V (HNW.out w5 HB45.out)) HFI.out ((HKT.out.below HB5.out).below (Below.refl _ _).drew))
        have HDR := hide (show ∃ r, Ward.everyN Ward.digHolds 7 t = r from ⟨_, rfl⟩)
        obtain ⟨r2, hr2⟩ := HDR.out
        rw [hr2] at HDH
        have HR2 := hide hr2
        clear hr2 HDR
        have hnr5 : NodeRow w5.drew (.pointer (some ⟨w3.heap.size, 0, none⟩)) := nodeRow_of (w := w5.drew) HR5.out HV.out.size
        have hlv5 : loadVal w5.drew (.pointer (some ⟨w3.heap.size, 0, none⟩)) = .agg V.toArray := loadVal_row (w := w5.drew) HR5.out
        go_upto_region 8 with fail
        cases r2 with
        | false =>
          have HF := hide (show Ward.verify root count q s = ([], 9) by unfold Ward.verify; rw [if_neg (by rw [HMY.out]; decide), HP.out]; simp only; rw [if_neg (by rw [HR1.out]; decide), if_pos (Or.inl HR2.out)])
          first | go_region_with (go_at_call 48; go_must (refine HDH.out.mono ?_; rintro _ w6 ⟨rfl, hb6⟩; have HB6 := hide (HB5.out.drew.trans (hb6.mono (by simp; omega))); clear hb6)) | fail
          all_goals
            go_wp2_with fail
            go_ret2
            exact verified_nil HF.out HB6.out
        | true =>
          obtain ⟨rc, hrc⟩ : ∃ rc, (decide (Ward.digN 7 t = root) && (Ward.numN 7 t == count)) = rc := ⟨_, rfl⟩
          have heq := HEC.out (Ward.digN 7 t) (Ward.numN 7 t) HDL.out
          rw [hrc] at heq
          have HRC := hide hrc
          generalize rootV (Ward.digN 7 t) (Ward.numN 7 t) = RT at *
          clear hrc
          go_cut [26] from 27 to 35 (fun v26 wx => v26 = .bool (!rc) ∧ Below w5.heap.size w5 wx)
          case first =>
            first | go_region_with (first
              | (go_at_call 48; go_must (refine HDH.out.mono ?_; rintro _ w6 ⟨rfl, hb6⟩; have hs6 := hb6.size; have HB6 := hide ((Below.refl w5.heap.size w5).drew.trans (hb6.mono (Nat.le_refl _))); have HR6 := hide ((HB6.out.block w3.heap.size (by omega)).trans HR5.out); have HC6 := hide ((HB6.out.block w.heap.size (by omega)).trans HC5.out); have hnr6 := nodeRow_of HR6.out HV.out.size; have hlv6 := loadVal_row HR6.out; have hcr6 := comRow_of HC6.out HCS.out; have hcv6 := loadVal_row HC6.out; clear hb6))
              | (go_at_call 37; go_must (refine (HCM.out w6).mono ?_; rintro _ w7 ⟨rfl, hb7⟩; have HB7 := hide (HB6.out.trans (hb7.mono HB6.out.size)); have HC7 := hide ((HB7.out.block w.heap.size (by omega)).trans HC5.out); have hcr7 := comRow_of HC7.out HCS.out; have hcv7 := loadVal_row HC7.out; clear hb7))) | fail
            all_goals
              go_wp2_with fail
              go_meet
              exact ⟨rfl, HB7.out⟩
          case rest =>
            obtain ⟨rfl, hb8⟩ := hcut
            clear hnr5 hlv5 heq
            generalize wc = w8 at *
            have hs8 := hb8.size
            have HB8 := hide (HB5.out.trans (hb8.mono (by omega)))
            have HQ8 := hide ((hb8.block (w.heap.size + 1) (by omega)).trans HQ5.out)
            have HR8 := hide ((hb8.block w3.heap.size (by omega)).trans HR5.out)
            have HB48 := hide (HB45.out.trans (hb8.mono hs5))
            clear hb8
            cases rc with
            | false =>
              have HF := hide (show Ward.verify root count q s = ([], 9) by
                unfold Ward.verify
                rw [if_neg (by rw [HMY.out]; decide), HP.out]
                simp only
                rw [if_neg (by rw [HR1.out]; decide), if_pos (Or.inr (fun h => by
                  have h2 := HRC.out
                  rw [decide_eq_true h.1, h.2] at h2
                  simp at h2))])
              go_wp2_with fail
              go_ret2
              exact verified_nil HF.out HB8.out
            | true =>
              have HCE := hide (show Ward.digN 7 t = root ∧ Ward.numN 7 t = count by
                have h2 := HRC.out
                simp only [Bool.and_eq_true, decide_eq_true_eq, beq_iff_eq] at h2
                exact h2)
              have HEN := hide (Ward.parse_holds HP.out HR1.out)
              have HAN := hide (answer_tree HMY.out t V w8 (HNW.out w8 HB48.out) HFI.out HEN.out.1 HID.out HEN.out.2)
              obtain ⟨k0, k1, k2, k3, k4, k5, k6, k7⟩ := rowQ8 HQ8.out
              go_wp2_with (refine wpList_load_row rfl 90 (.tmp 8) rfl w3.heap.size rfl 90 V.toArray (0, 0) (.struct fs) HR8.out HU.out rfl HV.out.info ?_)
              refine HAN.out.mono ?_
              rintro _ w9 ⟨v9, rfl, ho9, hb9⟩
              have hs9 := hb9.size
              have HO9 := hide ho9
              have HB9 := hide (HB8.out.trans (hb9.mono (by omega)))
              have HQ9 := hide ((hb9.block (w.heap.size + 1) (by omega)).trans HQ8.out)
              have HR9 := hide ((hb9.block w3.heap.size (by omega)).trans HR8.out)
              have HB49 := hide (HB48.out.trans (hb9.mono (by omega)))
              clear hb9 ho9 k0 k1 k2 k3 k4 k5 k6 k7
              have HLK := hide (lacks_any HMY.out HFI.out.ok 7 t V v9 w9 _ (HNW.out w9 HB49.out) HFI.out HO9.out)
              obtain ⟨r3, hr3⟩ : ∃ r, Ward.everyN (Ward.lackN q (Ward.ans q (Ward.allN 7 t))) 7 t = r := ⟨_, rfl⟩
              rw [hr3] at HLK
              have HR3 := hide hr3
              clear hr3
              obtain ⟨k0, k1, k2, k3, k4, k5, k6, k7⟩ := rowQ8 HQ9.out
              go_wp2_with (refine wpList_load_row rfl 90 (.tmp 8) rfl w3.heap.size rfl 90 V.toArray (0, 0) (.struct fs) HR9.out HU.out rfl HV.out.info ?_)
              refine HLK.out.mono ?_
              rintro _ w10 ⟨rfl, hb10⟩
              have hs10 := hb10.size
              have HO10 := hide (HO9.out.below hb10)
              have HB10 := hide (HB9.out.trans (hb10.mono (by omega)))
              have HQ10 := hide ((hb10.block (w.heap.size + 1) (by omega)).trans HQ9.out)
              have HR10 := hide ((hb10.block w3.heap.size (by omega)).trans HR9.out)
              have HB410 := hide (HB49.out.trans (hb10.mono (by omega)))
              clear hb10 k0 k1 k2 k3 k4 k5 k6 k7
              cases r3 with
              | false =>
                have HF := hide (show Ward.verify root count q s = ([], 10) by
                  unfold Ward.verify
                  rw [if_neg (by rw [HMY.out]; decide), HP.out]
                  simp only
                  rw [if_neg (by rw [HR1.out]; decide), if_neg (fun h => by
                    rcases h with h | h
                    · rw [HR2.out] at h; cases h
                    · exact h HCE.out), if_pos HR3.out])
                go_wp2_with fail
                go_ret2
                exact verified_nil HF.out HB10.out
              | true =>
                have HWK := hide (wastes_any HMY.out HFI.out.ok 7 t V v9 w10 _ (HNW.out w10 HB410.out) HFI.out HO10.out)
                obtain ⟨r4, hr4⟩ : ∃ r, Ward.everyN (Ward.wasteN q (Ward.ans q (Ward.allN 7 t))) 7 t = r := ⟨_, rfl⟩
                rw [hr4] at HWK
                have HR4' := hide hr4
                clear hr4
                obtain ⟨k0, k1, k2, k3, k4, k5, k6, k7⟩ := rowQ8 HQ10.out
                go_wp2_with (refine wpList_load_row rfl 90 (.tmp 8) rfl w3.heap.size rfl 90 V.toArray (0, 0) (.struct fs) HR10.out HU.out rfl HV.out.info ?_)
                refine HWK.out.mono ?_
                rintro _ w11 ⟨rfl, hb11⟩
                have HO11 := hide (own_mono (B' := w.heap.size) (HO10.out.below hb11) (by omega))
                have HB11 := hide (HB10.out.trans (hb11.mono (by omega)))
                clear hb11 k0 k1 k2 k3 k4 k5 k6 k7
                have HF := hide (show Ward.verify root count q s = if Ward.everyN (Ward.wasteN q (Ward.ans q (Ward.allN 7 t))) 7 t = false then ([], 11) else (Ward.ans q (Ward.allN 7 t), 0) by
                  unfold Ward.verify
                  rw [if_neg (by rw [HMY.out]; decide), HP.out]
                  simp only
                  rw [if_neg (by rw [HR1.out]; decide), if_neg (fun h => by
                    rcases h with h | h
                    · rw [HR2.out] at h; cases h
                    · exact h HCE.out), if_neg (by rw [HR3.out]; decide)])
                cases r4 with
                | false =>
                  rw [if_pos HR4'.out] at HF
                  go_wp2_with fail
                  go_ret2
                  exact verified_nil HF.out HB11.out
                | true =>
                  rw [if_neg (by rw [HR4'.out]; decide)] at HF
                  go_wp2_with fail
                  go_ret2
                  unfold Verified
                  rw [HF.out]
                  exact ⟨v9, rfl, HO11.out, HB11.out⟩
end Go.Proofs.YtenaelkbgkpllaaGreatDoor
/- A point taken out of a list. -/
namespace Go.Proofs.YtenaelkbgkpllaaGreatDoor
open Go.RowKit

theorem zeroPt (w : World) : (zeroValue 36).run Tryz.prog w = .ok (.agg #[I 0, I 0, I 0]) w := by kernel_rfl
/-- clear, of one point of a row -/
theorem clear_pt (w : World) (g o c : Nat) (cur : Array Value) (ty : TypeId) (hg : w.heap[g]? = some (.cells cur 36 (0, 0))) (hfit : o + 3 ≤ cur.size) :
    (Builtin.clear_ #[27] ty #[.slice (some ⟨g, o, none⟩) 1 c]).run Tryz.prog w = .ok (.tuple #[]) (w.setRow g (cur.toList.take o ++ [I 0, I 0, I 0] ++ cur.toList.drop (o + 3)).toArray) := by
  have hst := run_storeCells_at Tryz.prog g o 36 [I 0, I 0, I 0] 0 cur w hg (by simpa using hfit) (fun v hv => by
    simp only [List.mem_cons, List.not_mem_nil, or_false] at hv
    rcases hv with rfl | rfl | rfl <;> rfl)
  simp only [Nat.add_zero] at hst
  have hzc : (Builtin.zeroCells (Value.agg #[I 0, I 0, I 0]).cells 1).toList = [I 0, I 0, I 0] := by
    simp [Builtin.zeroCells, Value.cells]
    rfl
  have hz := zeroPt
  simp [Builtin.clear_, run_underlying Tryz.underlying27, hz, hzc, hst]
set_option maxRecDepth 100000 in
set_option maxHeartbeats 4000000 in
theorem delete_any (g c pos m : Nat) (cur : Array Value) (L : List Ward.Pt) (w : World) (hg : w.heap[g]? = some (.cells cur 36 (0, 0))) (hcur : cur.toList.take (L.length * 3) = L.flatMap P3) (hcs : cur.size = c * 3) (hL : L.length = pos + m + 1) (hc : pos + m + 1 ≤ c) (hcm : c ≤ maxLen) :
    Calls Tryz.prog 45 #[.slice (some ⟨g, 0, none⟩) (pos + m + 1) c, I pos, I ((pos : Int) + 1)] w fun e w' => e = .returned (.slice (some ⟨g, 0, none⟩) (pos + m) c) ∧ (∃ cur' : Array Value, w'.heap[g]? = some (.cells cur' 36 (0, 0)) ∧ cur'.size = cur.size ∧ cur'.toList.take ((pos + m) * 3) = (L.eraseIdx pos).flatMap P3) ∧ Keeps (fun j => j = g) w w' := by
  unfold maxLen at hcm
  have HG := hide hg
  have HCU := hide hcur
  have HCS := hide hcs
  have HLL := hide hL
  have h1 : (pos : Int) + 1 ≤ (pos : Int) + (m : Int) + 1 := by omega
  have h2 : (pos : Int) + (m : Int) + 1 ≤ (c : Int) := by omega
  have h3 : (0 : Int) ≤ (pos : Int) + 1 := by omega
  have h4 : (pos : Int) ≤ (c : Int) := by omega
  have h5 : (pos : Int) + 1 ≤ (c : Int) := by omega
  clear hg hcur hcs hL
  go_enter Tryz.func45, Tryz.ntmps45
  obtain ⟨R1, hR1⟩ : ∃ R1, (cur.toList.take (pos * 3) ++ (L.drop (pos + 1)).flatMap P3 ++ cur.toList.drop (pos * 3 + m * 3)) = R1 := ⟨_, rfl⟩
  have hap : ∀ (cc : Nat), (Builtin.append_ #[27, 27] 27 #[.slice (some ⟨g, 0, none⟩) pos c, .slice (if c = pos + 1 then some ⟨g, 0, none⟩ else some ⟨g, (pos + 1) * 3, none⟩) m cc]).run Tryz.prog w.drew = .ok (.slice (some ⟨g, 0, none⟩) (pos + m) c) (w.drew.setRow g (cur.toList.take (pos * 3) ++ (L.drop (pos + 1)).flatMap P3 ++ cur.toList.drop (pos * 3 + m * 3)).toArray) := by
    intro cc
    obtain ⟨i0, hi, hz0, hz1, hz2⟩ := info_parts Tryz.infoPt
    have hdl : ((L.drop (pos + 1)).flatMap P3).length = m * 3 := by
      rw [cells_len, List.length_drop, HLL.out]
      congr 1
      omega
    have key : ∀ a : Addr, (∀ j u, ((L.drop (pos + 1)).flatMap P3)[j]? = some u → w.cell? (a.add j) = some u) → (Builtin.append_ #[27, 27] 27 #[.slice (some ⟨g, 0, none⟩) pos c, .slice (some a) m cc]).run Tryz.prog w.drew = .ok (.slice (some ⟨g, 0, none⟩) (pos + m) c) (w.drew.setRow g (cur.toList.take (pos * 3) ++ (L.drop (pos + 1)).flatMap P3 ++ cur.toList.drop (pos * 3 + m * 3)).toArray) := fun a hn => by
      have h := run_append_room (P := Tryz.prog) w.drew 27 27 36 i0 Tryz.underlying27 hi g pos c cur HG.out a m cc ((L.drop (pos + 1)).flatMap P3) (by rw [hz1]; exact hdl) hn (fun u hu => cells_one u hu) (by omega) (by rw [hz1, hdl, HCS.out]; omega)
      rw [hz1, hdl] at h
      exact h
    by_cases hcp : c = pos + 1
    · rw [if_pos hcp]
      refine key _ (fun j u hj => ?_)
      have hm0 : m = 0 := by omega
      rw [List.getElem?_eq_none (by rw [hdl, hm0]; omega)] at hj
      cases hj
    · rw [if_neg hcp]
      refine key _ (fun j u hj => ?_)
      have hjl : j < m * 3 := by rw [← hdl]; exact (List.getElem?_eq_some_iff.1 hj).1
      rw [Addr.add_lit, cell_of_row _ _ _ _ _ _ HG.out, ← Array.getElem?_toList]
      have h0 : (cur.toList.take (L.length * 3))[(pos + 1) * 3 + j]? = (L.flatMap P3)[(pos + 1) * 3 + j]? := by rw [HCU.out]
      rw [List.getElem?_take_of_lt (by rw [HLL.out]; omega)] at h0
      rw [h0]
      have h1 : L.flatMap P3 = (L.take (pos + 1)).flatMap P3 ++ (L.drop (pos + 1)).flatMap P3 := by rw [← List.flatMap_append, List.take_append_drop]
      rw [h1, List.getElem?_append_right (by rw [cells_len, List.length_take, HLL.out]; omega)]
      rw [cells_len, List.length_take, HLL.out, show (pos + 1) * 3 + j - min (pos + 1) (pos + m + 1) * 3 = j by rw [Nat.min_eq_left (by omega)]; omega]
      exact hj
  have hl1 : R1.length = c * 3 := by
    have hdl : ((L.drop (pos + 1)).flatMap P3).length = m * 3 := by
      rw [cells_len, List.length_drop, HLL.out]
      congr 1
      omega
    rw [← hR1, List.length_append, List.length_append, hdl, List.length_take, List.length_drop, Array.length_toList, HCS.out]
    omega
  have ht1 : R1.take ((pos + m) * 3) = (L.eraseIdx pos).flatMap P3 := by
    have hdl : ((L.drop (pos + 1)).flatMap P3).length = m * 3 := by
      rw [cells_len, List.length_drop, HLL.out]
      congr 1
      omega
    have htk : cur.toList.take (pos * 3) = (L.take pos).flatMap P3 := by
      have h0 := congrArg (List.take (pos * 3)) HCU.out
      rw [List.take_take, Nat.min_eq_left (by rw [HLL.out]; omega)] at h0
      rw [h0]
      have h1 : L.flatMap P3 = (L.take pos).flatMap P3 ++ (L.drop pos).flatMap P3 := by rw [← List.flatMap_append, List.take_append_drop]
      rw [h1, List.take_append_of_le_length (by rw [cells_len, List.length_take, HLL.out]; omega), List.take_of_length_le (by rw [cells_len, List.length_take]; omega)]
    rw [← hR1, htk, List.take_append_of_le_length (by rw [List.length_append, hdl, cells_len, List.length_take, HLL.out]; omega), List.take_of_length_le (by rw [List.length_append, hdl, cells_len, List.length_take]; omega), ← List.flatMap_append, List.eraseIdx_eq_take_drop_succ]
  have HT1 := hide ht1
  have HL1 := hide hl1
  have hg1 := setRow_heap w.drew g cur R1.toArray 36 (0, 0) HG.out
  have hk1 : Keeps (fun j => j = g) w (w.drew.setRow g R1.toArray) := ⟨rfl, rfl, rfl, by simp, fun j _ hn => setRow_other w.drew g j _ hn⟩
  rw [hR1] at hap
  generalize World.setRow w.drew g R1.toArray = w1 at *
  have HK1 := hide hk1
  have HG1 := hide hg1
  clear hR1 hl1 ht1 hg1 hk1
  go_upto_region 5 with fail
  go_region_law (refine step_append_run rfl _ _ 27 27 rfl (.slice (some ⟨g, 0, none⟩) pos c) (.slice (if c = pos + 1 then some ⟨g, 0, none⟩ else some ⟨g, (pos + 1) * 3, none⟩) m (c - (pos + 1))) rfl rfl (hap _) ?_)
  clear hap
  generalize (if c = pos + 1 then some (⟨g, 0, none⟩ : Addr) else some ⟨g, (pos + 1) * 3, none⟩) = src
  obtain ⟨R2, hR2⟩ : ∃ R2, (R1.take ((pos + m) * 3) ++ [I 0, I 0, I 0] ++ R1.drop ((pos + m) * 3 + 3)) = R2 := ⟨_, rfl⟩
  have hcl := fun (ty : TypeId) (cc : Nat) => clear_pt w1 g ((pos + m) * 3) cc R1.toArray ty HG1.out (by rw [List.size_toArray, HL1.out]; omega)
  have hl2 : R2.length = c * 3 := by
    rw [← hR2]
    simp only [List.length_append, List.length_take, List.length_drop, List.length_cons, List.length_nil, HL1.out]
    omega
  have ht2 : R2.take ((pos + m) * 3) = (L.eraseIdx pos).flatMap P3 := by
    rw [← hR2, List.append_assoc, List.take_append_of_le_length (by rw [List.length_take, HL1.out]; omega), List.take_take, Nat.min_self]
    exact HT1.out
  simp only [hR2] at hcl
  have HG2 := hide (setRow_heap w1 g R1.toArray R2.toArray 36 (0, 0) HG1.out)
  have HK2 := hide (HK1.out.trans (keeps_setRow w1 g R2.toArray) (fun _ _ h => h))
  have HL2 := hide hl2
  have HT2 := hide ht2
  generalize World.setRow w1 g R2.toArray = w2 at *
  have h6 : ¬ c = pos + m := by omega
  have h7 : (pos : Int) + (m : Int) ≤ (pos : Int) + (m : Int) + 1 := by omega
  clear hR2 hl2 ht2
  go_wp2_with fail
  go_ret
  exact ⟨rfl, ⟨R2.toArray, HG2.out, by rw [List.size_toArray, HL2.out, HCS.out], HT2.out⟩, HK2.out⟩
end Go.Proofs.YtenaelkbgkpllaaGreatDoor
/- A map's Delete. -/
namespace Go.Proofs.YtenaelkbgkpllaaGreatDoor
open Go.RowKit

set_option maxRecDepth 100000 in
set_option maxHeartbeats 4000000 in
theorem mapDelete_any (m : Nat) (v : Value) (L : List Ward.Pt) (id : Int) (w : World) (hm : IsMap w m v L) (hn : L.length ≤ 1000) (hid : ∃ q ∈ L, q.id = id) :
    Calls Tryz.prog 19 #[.pointer (some ⟨m, 0, none⟩), I id] w fun e w' => e = .returned (I 0) ∧ ∃ v' i, ∃ h : i < L.length, L[i].id = id ∧ IsMap w' m v' (L.eraseIdx i) ∧ Fresh w v v' ∧ Keeps (Mine m v) w w' := by
  have HFI := hide (find_any m v L id w hm.cell hm.own.reads hn)
  have HM := hide hm
  have HID := hide hid
  have hmlt := hm.lt
  clear hm hid
  go_enter Tryz.func19, Tryz.ntmps19
  go_wp2_with fail
  refine HFI.out.mono ?_
  rintro _ w1 ⟨r, rfl, hpl, hb1⟩
  rcases hpl with ⟨-, hno⟩ | ⟨i, hi, rfl, hii⟩
  · obtain ⟨q, hq, e⟩ := HID.out
    exact absurd e (hno q hq)
  · have HII := hide hii
    have hM1 := HM.out.below hb1
    have HB1 := hide hb1
    have hs1 := hb1.size
    obtain ⟨m2, hm2⟩ : ∃ m2, L.length = i + m2 + 1 := ⟨L.length - i - 1, by omega⟩
    have HM2 := hide hm2
    obtain ⟨-, ho⟩ := hM1.own
    rcases ho with ⟨-, h0⟩ | ⟨g, c, cur, ev, -, hg, hc, hcm, hcs, htk⟩
    · omega
    · have hap := hM1.apart
      rw [hm2] at ev hc
      subst ev
      have hgm : g ≠ m := fun e => hap (by rw [e]; rfl)
      have hc1 := hM1.cell
      have HCS := hide hcs
      have HD := hide (delete_any g c i m2 cur L w1 hg htk hcs hm2 hc hcm)
      have HMR := hide hM1.row
      have hglt : g < w1.heap.size := (Array.getElem?_eq_some_iff.1 hg).1
      clear hii hb1 hM1 hm2 hap hg htk hcs HFI
      unfold maxLen at hcm
      have hi9 : (i : Int) ≤ 1000 := by omega
      go_wp2_with fail
      refine HD.out.mono ?_
      rintro _ w2 ⟨rfl, ⟨cur', hg2, hs2', ht2⟩, hk2⟩
      have hs2 := hk2.size
      have hmr2 := (hk2.block m (by omega) (fun e => hgm e.symm)).trans HMR.out
      have hc2 : w2.cell? ⟨m, 0, none⟩ = some (.slice (some ⟨g, 0, none⟩) (i + m2 + 1) c) := by rw [cell_of_row _ _ _ _ _ _ hmr2]; rfl
      have hf2 := frozen_node hmr2 0
      have HR3 := hide (heap_setCell_same w2 m 0 _ 79 (.slice (some ⟨g, 0, none⟩) (i + m2) c) hmr2)
      have HG3 := hide ((Below.heap_setCell w2 ⟨m, 0, none⟩ (.slice (some ⟨g, 0, none⟩) (i + m2) c) g (fun e => hgm e)).trans hg2)
      have HK3 := hide (show Keeps (Mine m (.slice (some ⟨g, 0, none⟩) (i + m2 + 1) c)) w (w2.setCell ⟨m, 0, none⟩ (.slice (some ⟨g, 0, none⟩) (i + m2) c)) from ⟨hk2.os.trans HB1.out.os, hk2.tape.trans HB1.out.tape, hk2.output.trans HB1.out.output, by simp; omega, fun j hj hn => (Below.heap_setCell _ _ _ _ (fun e => hn (Or.inl e))).trans ((hk2.block j (by omega) (fun e => hn (Or.inr (by rw [e]; rfl)))).trans (HB1.out.block j hj))⟩)
      have HT := hide ht2
      have HSZ := hide hs2'
      have HCC := hide hc
      clear hk2 hg2 ht2 hmr2 hs2'
      go_wp2_with fail
      go_ret
      have hel : (L.eraseIdx i).length = i + m2 := by rw [List.length_eraseIdx_of_lt hi, HM2.out]; rfl
      refine ⟨rfl, _, i, hi, HII.out, ⟨HR3.out, ⟨cells_len _, Or.inr ⟨g, c, cur', by rw [hel], Nat.zero_le _, HG3.out, by rw [hel]; omega, by unfold maxLen; omega, ?_, by rw [hel]; exact HT.out⟩⟩, fun e => hgm (by injection e)⟩, Or.inl rfl, HK3.out⟩
      rw [HSZ.out, HCS.out]
end Go.Proofs.YtenaelkbgkpllaaGreatDoor
