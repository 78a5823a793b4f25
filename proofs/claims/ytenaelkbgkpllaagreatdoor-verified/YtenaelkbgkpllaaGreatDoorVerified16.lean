/- The document's Look: a leaf. -/
import Derived.Test.YtenaelkbgkpllaaGreatDoorVerified15
namespace Go.Proofs.YtenaelkbgkpllaaGreatDoor
open Go.RowKit

theorem all_cells {s : List UInt8} {i k : Nat} : Ward.ptAt (s.drop i) k = ⟨Ward.signed (Sha.word s (i + 12 * k)), Ward.signed (Sha.word s (i + 12 * k + 4)), Ward.signed (Sha.word s (i + 12 * k + 8))⟩ := by
  have e : ∀ j, Ward.numAt (s.drop i) j = Ward.signed (Sha.word s (i + 4 * j)) := fun j => by
    unfold Ward.numAt
    rw [Ward.word_drop (s.drop i), List.drop_drop, ← Ward.word_drop]
  unfold Ward.ptAt
  rw [e, e, e, show i + 4 * (3 * k) = i + 12 * k by omega, show i + 4 * (3 * k + 1) = i + 12 * k + 4 by omega, show i + 4 * (3 * k + 2) = i + 12 * k + 8 by omega]
theorem row_pt {w : World} {g : Nat} {a b c : Int} (h : w.heap[g]? = some (.cells #[I a, I b, I c] 36 (0, 0))) : w.cell? ⟨g, 0, none⟩ = some (I a) ∧ w.cell? ⟨g, 1, none⟩ = some (I b) ∧ w.cell? ⟨g, 2, none⟩ = some (I c) ∧ ∀ k, w.frozen? ⟨g, k, none⟩ = false := ⟨(row3 h).1, (row3 h).2.1, (row3 h).2.2, fun _ => frozen_of_row _ _ _ _ _ h⟩
/-- one step of the id's of Look.leaf -/
theorem Ward.fresh_step (L own : List Ward.Pt) (a : Nat) (h : a < own.length) : Ward.freshAll (L.map Ward.Pt.id).reverse (own.take (a + 1)) = (Ward.freshAll (L.map Ward.Pt.id).reverse (own.take a) && !((L ++ own.take a).any fun p => decide (p.id = own[a].id))) := by
  rw [List.take_succ_eq_append_getElem h, Ward.fresh_snoc, ← Ward.ids_more]
  congr 2
  rw [Bool.eq_iff_iff, Ward.ids_mem, List.any_eq_true]
  constructor
  · rintro ⟨k, hk, e⟩
    exact ⟨_, List.getElem_mem hk, by simpa using e⟩
  · rintro ⟨p, hp, e⟩
    obtain ⟨k, hk, ek⟩ := List.getElem_of_mem hp
    exact ⟨k, hk, by rw [ek]; simpa using e⟩
theorem own_open {w : World} {B : Nat} {v : Value} {l : List Ward.Pt} (h : Own w B v l) (hl : 0 < l.length) : ∃ g c, v = .slice (some ⟨g, 0, none⟩) l.length c ∧ B ≤ g ∧ g < w.heap.size ∧ ∀ i (hi : i < l.length), PtAt w g (i * 3) l[i] := by
  obtain ⟨a, c, e, hr⟩ := h.reads
  obtain ⟨g, o, rfl, hp⟩ := hr (by intro e; subst e; simp at hl)
  rcases h.2 with ⟨e', _⟩ | ⟨g', cap, cur, e', hB, hg', _⟩
  · rw [e] at e'; cases e'
  · rw [e] at e'
    injection e' with e1 e2 e3
    injection e1 with e1
    injection e1 with e1 e4 _
    subst e1 e4
    exact ⟨g, c, e, hB, (Array.getElem?_eq_some_iff.1 hg').1, fun i hi => by have := hp i hi; rwa [Nat.zero_add] at this⟩
theorem any_take {M : List Ward.Pt} {q : Nat} (h : q < M.length) (f : Ward.Pt → Bool) : (M.take (q + 1)).any f = ((M.take q).any f || f M[q]) := by
  rw [List.take_succ_eq_append_getElem h, List.any_append]
  simp
/-- while a point is read -/
structure PtSt (w : World) (B l : Nat) (s : List UInt8) (j : Nat) (bad : Bool) (vL vK : Value) (L : List Ward.Pt) (K : List Ward.Chd) (ov : Value) (O : List Ward.Pt) (gp : Nat) (cs : Array Value) (wq : World) : Prop where
  look : LookAt wq B l s j bad vL vK L K
  row : wq.heap[gp]? = some (.cells cs 36 (0, 0))
  own : Own wq (w.heap.size + 1) ov O
  tw : LookTo w l vL vK wq vL vK
  res : ∃ z : Array Value, z.size = 9 ∧ wq.heap[w.heap.size]? = some (.cells z 150 (0, 0))
  low : w.heap.size + 1 ≤ gp
  ap : ov.ownBlock ≠ some gp
section
variable {w wq w' : World} {B l : Nat} {s : List UInt8} {j j' : Nat} {bad bad' : Bool} {vL vK : Value} {L : List Ward.Pt} {K : List Ward.Chd} {ov : Value} {O : List Ward.Pt} {gp : Nat} {cs : Array Value}
theorem PtSt.lt (h : PtSt w B l s j bad vL vK L K ov O gp cs wq) : gp < wq.heap.size := (Array.getElem?_eq_some_iff.1 h.row).1
theorem PtSt.moved (h : PtSt w B l s j bad vL vK L K ov O gp cs wq) (hl : l < w.heap.size) (hr : LookRow w' l s j' bad' vL vK) (hk : Keeps (fun k => k = l) wq w') : PtSt w B l s j' bad' vL vK L K ov O gp cs w' := by
  have hlt := h.lt
  have hlow := h.low
  obtain ⟨z, hz, hzr⟩ := h.res
  exact ⟨h.look.to hk hr, (hk.block _ hlt (by omega)).trans h.row, h.own.keeps hk (fun g hg e => by have := h.own.ge hg; omega), h.tw.step hk, ⟨z, hz, (hk.block w.heap.size (by omega) (by omega)).trans hzr⟩, h.low, h.ap⟩
theorem PtSt.wrote (h : PtSt w B l s j bad vL vK L K ov O gp cs wq) (hw : ¬ LS l vL vK gp) (k : Nat) (v : Value) : PtSt w B l s j bad vL vK L K ov O gp (cs.setIfInBounds k v) (wq.setCell ⟨gp, k, none⟩ v) := by
  have hk : Keeps (fun j => j = gp) wq (wq.setCell ⟨gp, k, none⟩ v) := ⟨rfl, rfl, rfl, by simp, fun j _ hj => heap_setCell_other wq ⟨gp, k, none⟩ j v hj⟩
  have hlt := h.lt
  have hlow := h.low
  obtain ⟨z, hz, hzr⟩ := h.res
  exact ⟨h.look.keep hk (fun g hg e => hw (e ▸ hg)), heap_setCell_same _ _ _ _ _ _ h.row, h.own.keeps hk (fun g hg e => h.ap (e ▸ hg)), h.tw.more hk (fun g hg e => by omega), ⟨z, hz, (hk.block w.heap.size (by omega) (by omega)).trans hzr⟩, h.low, h.ap⟩
end
/-- where the loop of points stands -/
structure LeafOwn (w : World) (B l : Nat) (s : List UInt8) (j : Nat) (bad : Bool) (vL vK : Value) (L : List Ward.Pt) (K : List Ward.Chd) (ov : Value) (O : List Ward.Pt) (wq : World) : Prop where
  look : LookAt wq B l s j bad vL vK L K
  own : Own wq (w.heap.size + 1) ov O
  res : ∃ z : Array Value, z.size = 9 ∧ wq.heap[w.heap.size]? = some (.cells z 150 (0, 0))
theorem LeafOwn.lt {w wq : World} {B l : Nat} {s : List UInt8} {j : Nat} {bad : Bool} {vL vK : Value} {L : List Ward.Pt} {K : List Ward.Chd} {ov : Value} {O : List Ward.Pt} (h : LeafOwn w B l s j bad vL vK L K ov O wq) : w.heap.size < wq.heap.size := by
  obtain ⟨z, _, h⟩ := h.res
  exact (Array.getElem?_eq_some_iff.1 h).1
/-- a point more -/
theorem PtSt.push {w wq w' : World} {B l : Nat} {s : List UInt8} {j : Nat} {bad : Bool} {vL vK : Value} {L : List Ward.Pt} {K : List Ward.Chd} {ov ov' : Value} {O O' : List Ward.Pt} {gp : Nat} {cs : Array Value} (h : PtSt w B l s j bad vL vK L K ov O gp cs wq) (hnew : ∀ g, w.heap.size ≤ g → ¬ LS l vL vK g) (hg : wq.grownBy w' ov.ownBlock) (ho : Own w' (w.heap.size + 1) ov' O') : LeafOwn w B l s j bad vL vK L K ov' O' w' ∧ LookTo w l vL vK w' vL vK := by
  have hk := Keeps.of_grown hg
  have hlt := h.lt
  have hlow := h.low
  obtain ⟨z, hz, hzr⟩ := h.res
  refine ⟨⟨h.look.keep hk (fun g hg' e => hnew g (by have := h.own.ge e.symm; omega) hg'), ho, ⟨z, hz, (hk.block w.heap.size (by omega) (fun e => by have := h.own.ge e.symm; omega)).trans hzr⟩⟩, h.tw.more hk (fun g hg' e => by have := h.own.ge e.symm; omega)⟩
set_option maxRecDepth 100000 in
set_option maxHeartbeats 8000000 in
theorem look_leaf (m : Nat) (hm : m ≤ 4) {w : World} {B l : Nat} {s : List UInt8} {i : Nat} {vL vK : Value} {L : List Ward.Pt} {K : List Ward.Chd} (h : LookAt w B l s i false vL vK L K) (hB : B ≤ w.heap.size) (hi : i ≤ s.length) (hs : s.length ≤ 140737488355328) (hL : L.length ≤ 29000) :
    Calls Tryz.prog 161 #[.pointer (some ⟨l, 0, none⟩), I m] w (PartOut w B l s vL vK (L.length + 4) K.length (Ward.leafOk s i m L = false) (fun i' L' K' b n x => Ward.leafOk s i m L = true ∧ i' = i + 12 * m ∧ L' = L ++ Ward.ptsAt (s.drop i) m ∧ K' = K ∧ b = Ward.boxL ((Ward.ptsAt (s.drop i) m).map Ward.boxOf) ∧ n = ((Ward.ptsAt (s.drop i) m).length : Nat) ∧ x = Ward.leafText (Ward.ptsAt (s.drop i) m))) := by
  have HH := hide h
  have hlt := h.lt
  have HNEW := hide (show ∀ g, w.heap.size ≤ g → ¬ LS l vL vK g from fun g hg => h.new hg)
  have HA0 := hide (fun o => (Below.refl w.heap.size w).alloc (Nat.le_refl _) o)
  have HN0 := hide (heap_alloc_new w)
  have HHA := hide (fun W (hW : LookRow W l s i false vL vK) => has_ref l s i (12 * m) false vL vK W hW hi hs)
  rw [show ((12 * m : Nat) : Int) = 12 * (m : Int) by omega] at HHA
  have HSG := hide (fun W j bad (hW : LookRow W l s j bad vL vK) (hj : j + 4 ≤ s.length) => lsigned_ref l s j bad vL vK W hW hj hs)
  clear h
  go_enter Tryz.func161, Tryz.ntmps161
  go_upto_region 1 with fail
  generalize hW : World.alloc w _ = w1
  have hb1 : Below w.heap.size w w1 := by rw [← hW]; exact HA0.out _
  obtain ⟨z1, hz1, hr1⟩ : ∃ z : Array Value, z.size = 9 ∧ w1.heap[w.heap.size]? = some (.cells z 150 (0, 0)) := by rw [← hW]; exact ⟨_, rfl, HN0.out _⟩
  clear hW HA0 HN0
  have hs1 : w.heap.size < w1.heap.size := (Array.getElem?_eq_some_iff.1 hr1).1
  have HL1 := hide (HH.out.below hb1)
  have HB1 := hide hb1
  have HC := hide (HHA.out w1 HL1.out.row)
  have hmi : (m : Int) ≤ 4 := by omega
  clear hb1 HHA
  go_wp2_with fail
  refine HC.out.mono ?_
  rintro _ w2 ⟨rfl, hrow2, hk2⟩
  rw [Bool.false_or] at hrow2 ⊢
  have HL2 := hide (HL1.out.to hk2 hrow2)
  have HT2 := hide (((LookTo.below (l := l) vL vK HB1.out).step hk2))
  have hr2 := (hk2.block w.heap.size hs1 (fun e => by omega)).trans hr1
  have hs2 : w.heap.size < w2.heap.size := Nat.lt_of_lt_of_le hs1 hk2.size
  clear hrow2 hk2 HC HL1 HB1 hr1 hs1
  by_cases hc : s.length < i + 12 * m
  · rw [decide_eq_true hc] at HL2 ⊢
    have HF := hide (show Ward.leafOk s i m L = false by
      unfold Ward.leafOk
      rw [decide_eq_false (by omega)]
      rfl)
    have HM9 := hide (show (partV ⟨0, 0, 0, 0⟩ 0 [] 0 0 (.slice none 0 0)).size = 9 from rfl)
    have HM1 := hide (partV_one ⟨0, 0, 0, 0⟩ 0 [] 0 0 (.slice none 0 0) rfl)
    have HME := hide (show zeroPart = .agg (partV ⟨0, 0, 0, 0⟩ 0 [] 0 0 (.slice none 0 0)) from rfl)
    have HZ := hide hz1
    have H0 := hide hr2
    have HPO := hide (show PartOut w B l s vL vK (L.length + 4) K.length (Ward.leafOk s i m L = false) (fun i' L' K' b n x => Ward.leafOk s i m L = true ∧ i' = i + 12 * m ∧ L' = L ++ Ward.ptsAt (s.drop i) m ∧ K' = K ∧ b = Ward.boxL ((Ward.ptsAt (s.drop i) m).map Ward.boxOf) ∧ n = ((Ward.ptsAt (s.drop i) m).length : Nat) ∧ x = Ward.leafText (Ward.ptsAt (s.drop i) m)) (.returned (.agg (partV ⟨0, 0, 0, 0⟩ 0 [] 0 0 (.slice none 0 0)))) (w2.setRow w.heap.size (partV ⟨0, 0, 0, 0⟩ 0 [] 0 0 (.slice none 0 0))) from by
      have k := keeps_rowTo w2 w.heap.size (partV ⟨0, 0, 0, 0⟩ 0 [] 0 0 (.slice none 0 0))
      exact ⟨_, _, _, _, _, _, _, _, i, true, rfl, rfl, by simp, HL2.out.keep k (fun g hg e => HNEW.out g (by omega) hg), HT2.out.more k (fun g hg e => by omega), hi, by omega, Nat.le_refl _, .inl ⟨rfl, HF.out⟩⟩)
    generalize partV ⟨0, 0, 0, 0⟩ 0 [] 0 0 (.slice none 0 0) = M at *
    clear hr2 hz1
    go_wp2_with (refine wpList_store_row rfl 150 (.tmp 4) (.tmp 19) rfl w.heap.size M rfl HME.out 150 z1 H0.out (by rw [HM9.out]; exact Tryz.infoPart) (by rw [HM9.out, HZ.out]) HM1.out ?_)
    refine bodyPost_ret (v := .agg M) ?_ rfl HPO.out
    exact results_cell_row rfl _ _ w.heap.size 150 M (0, 0) _ rfl (setRow_heap _ _ _ _ _ _ H0.out) Tryz.underlying150 rfl (by rw [HM9.out]; exact Tryz.infoPart)
  · rw [decide_eq_false hc] at HL2 ⊢
    have hc' : i + 12 * m ≤ s.length := by omega
    clear hc
    go_upto_region 6 with fail
    go_loopw [6, 7] (fun v6 v7 wq => ∃ (k : Nat) (av : Option Addr) (cv : Nat), k ≤ m ∧ v7 = .int .i64 k ∧ v6 = .slice av k cv ∧ LeafOwn w B l s (i + 12 * k) (!(Ward.ptsAt (s.drop i) k).all Ward.ptOk) vL vK L K (.slice av k cv) (Ward.ptsAt (s.drop i) k) wq ∧ LookTo w l vL vK wq vL vK) (fun _ v7 _ => m - (intOf v7).toNat)
    case atStart => exact ⟨0, none, 0, by omega, rfl, rfl, ⟨HL2.out, World.ownsRow_nil _ _ _ _, ⟨z1, hz1, hr2⟩⟩, HT2.out⟩
    case round =>
      obtain ⟨k, av, cv, hk, rfl, rfl, hlo, hto⟩ := hrel
      have HLO := hide hlo
      have HTO := hide hto
      clear hlo hto HL2 HT2 hr2
      by_cases hlt2 : k < m
      · have hltI : (k : Int) < (m : Int) := by omega
        have HSN := hide (Ward.ptsAt_snoc (s.drop i) k)
        have HAT := hide (all_cells (s := s) (i := i) (k := k))
        have HN3 := hide (heap_alloc_new wr)
        have HB3 := hide (fun o => (Below.refl wr.heap.size wr).alloc (Nat.le_refl _) o)
        obtain ⟨n1, hn1⟩ : ∃ n, Ward.signed (Sha.word s (i + 12 * k)) = n := ⟨_, rfl⟩
        obtain ⟨n2, hn2⟩ : ∃ n, Ward.signed (Sha.word s (i + 12 * k + 4)) = n := ⟨_, rfl⟩
        obtain ⟨n3, hn3⟩ : ∃ n, Ward.signed (Sha.word s (i + 12 * k + 8)) = n := ⟨_, rfl⟩
        rw [hn1, hn2, hn3] at HAT
        have HN1 := hide hn1
        have HN2 := hide hn2
        have HN3' := hide hn3
        clear hn1 hn2 hn3
        go_upto_region 9 with fail
        generalize hW : World.alloc wr _ = w3
        have HS3 := hide (show PtSt w B l s (i + 12 * k) (!(Ward.ptsAt (s.drop i) k).all Ward.ptOk) vL vK L K (.slice av k cv) (Ward.ptsAt (s.drop i) k) wr.heap.size #[I 0, I 0, I 0] w3 from by
          have hb : Below wr.heap.size wr w3 := by rw [← hW]; exact HB3.out _
          obtain ⟨z, hz, hzr⟩ := HLO.out.res
          have := HLO.out.lt
          exact ⟨HLO.out.look.below hb, by rw [← hW]; exact HN3.out _, HLO.out.own.below hb, HTO.out.more (Keeps.of_below (S := fun _ => False) hb) (fun _ _ e => e), ⟨z, hz, (hb.block _ this).trans hzr⟩, by omega, fun e => by have := HLO.out.own.lt e; omega⟩)
        have hgn : ¬ LS l vL vK wr.heap.size := HNEW.out _ (Nat.le_of_lt HLO.out.lt)
        obtain ⟨gp, hgp⟩ : ∃ gp, wr.heap.size = gp := ⟨_, rfl⟩
        rw [hgp] at HS3 hgn ⊢
        clear hW HN3 HB3 hgp HLO HTO
        obtain ⟨bd, hbd⟩ : ∃ b, (!(Ward.ptsAt (s.drop i) k).all Ward.ptOk) = b := ⟨_, rfl⟩
        rw [hbd] at HS3
        have HBD := hide hbd
        clear hbd
        have C1 := hide (HSG.out w3 (i + 12 * k) bd HS3.out.look.row (by omega))
        rw [HN1.out] at C1
        go_wp2_with fail
        refine C1.out.mono ?_
        rintro _ w4 ⟨rfl, hrow4, hk4⟩
        have HS4 := hide (HS3.out.moved hlt hrow4 hk4)
        obtain ⟨q0, q1, q2, qf⟩ := row_pt HS4.out.row
        clear hrow4 hk4 C1 HS3
        go_upto_region 10 with fail
        have HS5 : Hid (PtSt w B l s (i + 12 * k + 4) bd vL vK L K (.slice av k cv) (Ward.ptsAt (s.drop i) k) gp #[I n1, I 0, I 0] (w4.setCell ⟨gp, 0, none⟩ (I n1))) := hide (HS4.out.wrote hgn 0 (I n1))
        generalize w4.setCell ⟨gp, 0, none⟩ (I n1) = w5 at HS5 ⊢
        clear q0 q1 q2 qf HS4
        have C2 := hide (HSG.out w5 (i + 12 * k + 4) bd HS5.out.look.row (by omega))
        rw [HN2.out] at C2
        go_wp2_with fail
        refine C2.out.mono ?_
        rintro _ w6 ⟨rfl, hrow6, hk6⟩
        have HS6 := hide (HS5.out.moved hlt hrow6 hk6)
        obtain ⟨q0, q1, q2, qf⟩ := row_pt HS6.out.row
        clear hrow6 hk6 C2 HS5
        go_upto_region 11 with fail
        have HS7 : Hid (PtSt w B l s (i + 12 * k + 4 + 4) bd vL vK L K (.slice av k cv) (Ward.ptsAt (s.drop i) k) gp #[I n1, I n2, I 0] (w6.setCell ⟨gp, 1, none⟩ (I n2))) := hide (HS6.out.wrote hgn 1 (I n2))
        generalize w6.setCell ⟨gp, 1, none⟩ (I n2) = w7 at HS7 ⊢
        clear q0 q1 q2 qf HS6
        have C3 := hide (HSG.out w7 (i + 12 * k + 8) bd HS7.out.look.row (by omega))
        rw [HN3'.out] at C3
        go_wp2_with fail
        refine C3.out.mono ?_
        rintro _ w8 ⟨rfl, hrow8, hk8⟩
        have HS8 := hide (HS7.out.moved hlt hrow8 hk8)
        obtain ⟨q0, q1, q2, qf⟩ := row_pt HS8.out.row
        clear hrow8 hk8 C3 HS7
        go_upto_region 12 with fail
        have HS9 : Hid (PtSt w B l s (i + 12 * k + 8 + 4) bd vL vK L K (.slice av k cv) (Ward.ptsAt (s.drop i) k) gp #[I n1, I n2, I n3] (w8.setCell ⟨gp, 2, none⟩ (I n3))) := hide (HS8.out.wrote hgn 2 (I n3))
        generalize w8.setCell ⟨gp, 2, none⟩ (I n3) = w9 at HS9 ⊢
        clear q0 q1 q2 qf HS8
        obtain ⟨q0, q1, q2, -⟩ := row_pt HS9.out.row
        have HCX := hide (coord_ref n2 w9)
        have HCY := hide (coord_ref n3 w9)
        have HOK := hide (show Ward.ptOk ⟨n1, n2, n3⟩ = (decide (1 ≤ n1 ∧ n1 ≤ 1000000) && Ward.coordOk n2 && Ward.coordOk n3) from rfl)
        generalize Ward.coordOk n2 = bx at *
        generalize Ward.coordOk n3 = bY at *
        go_wp2_with fail
        refine HCX.out.mono ?_
        rintro _ wz ⟨rfl, hz⟩
        have hz' := hz.symm
        clear hz
        subst hz'
        go_wp2_with fail
        refine HCY.out.mono ?_
        rintro _ wz ⟨rfl, hz⟩
        have hz' := hz.symm
        clear hz
        subst hz'
        go_upto_region 14 with fail
        clear HCX HCY
        have y2 : w9.cell? ⟨l, 2, none⟩ = some (.bool bd) := by rw [cell_of_row _ _ _ _ _ _ HS9.out.look.row]; rfl
        have yf : w9.frozen? ⟨l, 2, none⟩ = false := frozen_of_row _ _ _ _ _ HS9.out.look.row
        obtain ⟨ok, hok⟩ : ∃ b, Ward.ptOk ⟨n1, n2, n3⟩ = b := ⟨_, rfl⟩
        rw [hok] at HOK
        have HOKP := hide hok
        clear hok
        go_cut [] from 40 to 64 (fun wx => wx = w9.setCell ⟨l, 2, none⟩ (.bool (bd || !ok)))
        case first =>
          cases bd with
          | true =>
            go_wp2_with fail
            go_meet
            rfl
          | false =>
            by_cases h1 : n1 < 1
            · have HE := hide (show ok = false by rw [HOK.out, decide_eq_false (by omega)]; rfl)
              go_wp2_with fail
              go_meet
              rw [HE.out]; rfl
            · by_cases h2 : 1000000 < n1
              · have HE := hide (show ok = false by rw [HOK.out, decide_eq_false (by omega)]; rfl)
                go_wp2_with fail
                go_meet
                rw [HE.out]; rfl
              · have HE := hide (show ok = (bx && bY) by rw [HOK.out, decide_eq_true (by omega)]; rfl)
                cases bx with
                | false =>
                  go_wp2_with fail
                  go_meet
                  rw [HE.out]; rfl
                | true =>
                  go_wp2_with fail
                  go_meet
                  rw [HE.out]; rfl
        case rest =>
          subst hcut
          have HS10 := hide (HS9.out.moved hlt (HS9.out.look.badTo (bd || !ok)).1.row (HS9.out.look.badTo (bd || !ok)).2)
          generalize w9.setCell ⟨l, 2, none⟩ (.bool (bd || !ok)) = w10 at HS10 ⊢
          obtain ⟨q0, q1, q2, -⟩ := row_pt HS10.out.row
          have hlow := HS10.out.low
          have hgl := HS10.out.lt
          obtain ⟨v', w11, hr, ho, hg, hf⟩ := append_pt ⟨n1, n2, n3⟩ HS10.out.own (by omega) (by rw [Ward.ptsAt_len]; omega)
          obtain ⟨a', c', ev⟩ := ho.slice
          rw [List.length_append, Ward.ptsAt_len, List.length_singleton] at ev
          subst ev
          have hr' : (Builtin.append_ #[27, 27] 27 #[.slice av k cv, .slice (some ⟨w10.heap.size, 0, none⟩) 1 1]).run Tryz.prog (w10.alloc (.cells #[I n1, I n2, I n3] 36)) = .ok (.slice a' (k + 1) c') w11 := hr
          have HEND := hide (HS10.out.push HNEW.out hg ho)
          clear hr ho hg hf y2 yf HS9
          go_wp2_with (at_builtin; refine Lib.wpList_append_run _ rfl (.tmp 65) (.tmp 67) 27 27 rfl _ _ rfl rfl _ _ hr' ?_)
          go_roundw
          case rel =>
            refine ⟨k + 1, a', c', hlt2, by go_num, rfl, ?_, HEND.out.2⟩
            have HE := HEND.out.1
            rw [← HBD.out, ← HOKP.out, ← Bool.not_and, ← Ward.all_snoc, ← HAT.out, ← HSN.out, show i + 12 * k + 8 + 4 = i + 12 * (k + 1) by omega] at HE
            exact HE
          case measure => simp [intOf]; omega
      · obtain rfl : k = m := by omega
        have HOL := hide (Ward.ptsAt_len (s.drop i) k)
        have HLF := hide (show Ward.leafOk s i k L = ((Ward.ptsAt (s.drop i) k).all Ward.ptOk && Ward.freshAll (L.map Ward.Pt.id).reverse (Ward.ptsAt (s.drop i) k)) by
          unfold Ward.leafOk
          rw [decide_eq_true hc', Bool.true_and])
        obtain ⟨O, hO⟩ : ∃ O, Ward.ptsAt (s.drop i) k = O := ⟨_, rfl⟩
        rw [hO] at HLO HOL HLF
        have HOE := hide hO
        clear hO
        have hOl : O.length = k := HOL.out
        go_upto_region 17 with fail
        go_loopw [11] (fun v11 wq => ∃ (a : Nat) (aL : Option Addr) (cL : Nat), a ≤ k ∧ v11 = .int .i64 a ∧ LeafOwn w B l s (i + 12 * k) (!O.all Ward.ptOk || !Ward.freshAll (L.map Ward.Pt.id).reverse (O.take a)) (.slice aL (L.length + a) cL) vK (L ++ O.take a) K (.slice av k cv) O wq ∧ LookTo w l vL vK wq (.slice aL (L.length + a) cL) vK ∧ ∀ g, (Value.slice aL (L.length + a) cL).ownBlock = some g → (Value.slice av k cv).ownBlock ≠ some g) (fun v11 _ => k - (intOf v11).toNat)
        case atStart =>
          obtain ⟨aL, cL, eL⟩ := HH.out.pts.slice
          refine ⟨0, aL, cL, by omega, rfl, ?_, ?_, ?_⟩
          · rw [Nat.add_zero, ← eL, List.take_zero, List.append_nil]
            have e : (!O.all Ward.ptOk || !Ward.freshAll (L.map Ward.Pt.id).reverse []) = (!O.all Ward.ptOk) := by simp [Ward.freshAll]
            rw [e]
            exact HLO.out
          · rw [Nat.add_zero, ← eL]
            exact HTO.out
          · rw [Nat.add_zero, ← eL]
            intro g h1 h2
            have := HH.out.pts.lt h1
            have := HLO.out.own.ge h2
            omega
        case round =>
          obtain ⟨a, aL, cL, ha, rfl, hlo, hto, hap⟩ := hrel
          have HL2 := hide hlo
          have HT2 := hide hto
          have HAP := hide hap
          clear hap
          clear hlo hto HLO HTO
          by_cases hlt2 : a < k
          · have hltI : (a : Int) < (k : Int) := by omega
            have haO : a < O.length := by omega
            have HFS := hide (Ward.fresh_step L O a haO)
            have HTK := hide (List.take_succ_eq_append_getElem haO)
            obtain ⟨go, co, ego, hgo1, hgo2, hgo4⟩ := own_open HL2.out.own (by omega)
            injection ego with ego1 ego2 ego3
            subst ego1
            obtain ⟨oa, hoa⟩ : ∃ p, O[a] = p := ⟨_, rfl⟩
            have hpo := hgo4 a haO
            rw [hoa] at hpo HFS HTK
            clear hoa hgo4 ego2 ego3
            obtain ⟨bd, hbd⟩ : ∃ b, (!O.all Ward.ptOk || !Ward.freshAll (L.map Ward.Pt.id).reverse (O.take a)) = b := ⟨_, rfl⟩
            have HBD := hide hbd
            rw [hbd] at HL2
            have hML : (L ++ O.take a).length = L.length + a := by rw [List.length_append, List.length_take]; omega
            obtain ⟨M, hM⟩ : ∃ M, L ++ O.take a = M := ⟨_, rfl⟩
            rw [hM] at HL2 HFS hML
            have HM := hide hM
            obtain ⟨n, hn⟩ : ∃ n, L.length + a = n := ⟨_, rfl⟩
            have HNE := hide hn
            have hnb : n ≤ 29004 := by omega
            rw [hn] at HL2 HT2 hML HAP
            clear hbd hM hn
            obtain ⟨x2, y2, y3⟩ := oa
            go_upto_region 20 with fail
            obtain ⟨wo, hwo⟩ : ∃ wo, wo = wr := ⟨_, rfl⟩
            subst hwo
            go_loopw [12] (fun v12 wq => ∃ q : Nat, q ≤ n ∧ v12 = .int .i64 q ∧ LookAt wq B l s (i + 12 * k) (bd || (M.take q).any (fun p => decide (p.id = x2))) (.slice aL n cL) vK M K ∧ Keeps (fun k => k = l) wo wq) (fun v12 _ => n - (intOf v12).toNat)
            case atStart => exact ⟨0, by omega, rfl, (by rw [List.take_zero, List.any_nil, Bool.or_false]; exact HL2.out.look), Keeps.refl _ _⟩
            case round =>
              obtain ⟨q, hq, rfl, hla, hkp⟩ := hrel
              have HLA := hide hla
              have HKP := hide hkp
              have hgl : go ≠ l := by omega
              have cy : wr.cell? ⟨go, a * 3, none⟩ = some (I x2) := hkp.cell hgl hpo.1
              have cy1 : wr.cell? ⟨go, a * 3 + 1, none⟩ = some (I y2) := hkp.cell hgl hpo.2.1
              have cy2 : wr.cell? ⟨go, a * 3 + 2, none⟩ = some (I y3) := hkp.cell hgl hpo.2.2
              by_cases hq2 : q < n
              · have hqI : (q : Int) < (n : Int) := by omega
                have hqM : q < M.length := by omega
                have HAN := hide (show (bd || (M.take (q + 1)).any fun p => decide (p.id = x2)) = ((bd || (M.take q).any fun p => decide (p.id = x2)) || decide (M[q].id = x2)) by rw [any_take hqM, Bool.or_assoc])
                obtain ⟨ga, cg, ega, -, -, hga4⟩ := own_open hla.pts (by omega)
                injection ega with ega1 ega2 ega3
                subst ega1
                have hpq := hga4 q hqM
                obtain ⟨bq, hbq⟩ : ∃ b, (bd || (M.take q).any fun p => decide (p.id = x2)) = b := ⟨_, rfl⟩
                rw [hbq] at HLA HAN
                have cx := hpq.1
                generalize M[q].id = x1 at *
                have c2 : wr.cell? ⟨l, 2, none⟩ = some (.bool bq) := by rw [cell_of_row _ _ _ _ _ _ HLA.out.row]; rfl
                have c3 : wr.cell? ⟨l, 3, none⟩ = some (.slice (some ⟨ga, 0, none⟩) n cL) := by rw [cell_of_row _ _ _ _ _ _ HLA.out.row]; rfl
                have cf : wr.frozen? ⟨l, 2, none⟩ = false := frozen_of_row _ _ _ _ _ HLA.out.row
                have HSET := hide (fun b => show LookAt ((wr.setCell ⟨l, 2, none⟩ (.bool b)).drew) B l s (i + 12 * k) b (.slice (some ⟨ga, 0, none⟩) n cL) vK M K ∧ Keeps (fun k => k = l) wo ((wr.setCell ⟨l, 2, none⟩ (.bool b)).drew) from
                  ⟨(HLA.out.badTo b).1.below ((Below.refl _ _).drew), keeps_drew (HKP.out.trans (HLA.out.badTo b).2 (fun _ _ e => e))⟩)
                clear hla hkp hpo hpq hbq hga4 ega2 ega3
                cases bq with
                | true =>
                  have HN22 := hide (show LookAt ((wr.setCell ⟨l, 2, none⟩ (.bool true)).drew) B l s (i + 12 * k) (bd || (M.take (q + 1)).any fun p => decide (p.id = x2)) (.slice (some ⟨ga, 0, none⟩) n cL) vK M K ∧ Keeps (fun k => k = l) wo ((wr.setCell ⟨l, 2, none⟩ (.bool true)).drew) by
                    rw [HAN.out, Bool.true_or]; exact HSET.out true)
                  clear HSET HAN HLA
                  go_upto_region 22 with fail
                  have hS : wr.drew.cell? ⟨l, 2, none⟩ = some (.bool true) ∧ wr.drew.cell? ⟨l, 3, none⟩ = some (.slice (some ⟨ga, 0, none⟩) n cL) ∧ wr.drew.cell? ⟨ga, q * 3, none⟩ = some (I x1) ∧ wr.drew.cell? ⟨go, a * 3, none⟩ = some (I x2) := ⟨by simpa using c2, by simpa using c3, by simpa using cx, by simpa using cy⟩
                  refine wp_region_L 23 (fun W => W.cell? ⟨l, 2, none⟩ = some (.bool true) ∧ W.cell? ⟨l, 3, none⟩ = some (.slice (some ⟨ga, 0, none⟩) n cL) ∧ W.cell? ⟨ga, q * 3, none⟩ = some (I x1) ∧ W.cell? ⟨go, a * 3, none⟩ = some (I x2)) (by kernel_rfl) hS (fun hH => ?_)
                  clear hS
                  refine wpAnyL_take (i := 0) (v := ?_) rfl (by kernel_rfl) (by kernel_rfl) (by kernel_rfl) (by kernel_rfl) (by kernel_rfl) (fun _ _ _ h => h) (Or.inl ⟨by rfl, ?_⟩) hH ?_
                  rotate_left
                  · intro W hSW
                    obtain ⟨z0, z1, z2, z3⟩ := hSW
                    go_simp
                    try with_reducible rfl
                  try go_simp
                  refine wpAnyL_take (i := 1) (v := ?_) rfl (by kernel_rfl) (by kernel_rfl) (by kernel_rfl) (by kernel_rfl) (by kernel_rfl) (fun _ _ _ h => h) (Or.inl ⟨by rfl, ?_⟩) hH ?_
                  rotate_left
                  · intro W hSW
                    obtain ⟨z0, z1, z2, z3⟩ := hSW
                    go_simp
                    try with_reducible rfl
                  try go_simp
                  refine wpAnyL_take (i := 2) (v := ?_) rfl (by kernel_rfl) (by kernel_rfl) (by kernel_rfl) (by kernel_rfl) (by kernel_rfl) (fun _ _ _ h => h) (Or.inl ⟨by rfl, ?_⟩) hH ?_
                  rotate_left
                  · intro W hSW
                    obtain ⟨z0, z1, z2, z3⟩ := hSW
                    go_simp
                    try with_reducible rfl
                  try go_simp
                  refine wpAnyL_take (i := 3) (v := ?_) rfl (by kernel_rfl) (by kernel_rfl) (by kernel_rfl) (by kernel_rfl) (by kernel_rfl) (fun _ _ _ h => h) (Or.inl ⟨by rfl, ?_⟩) hH ?_
                  rotate_left
                  · intro W hSW
                    obtain ⟨z0, z1, z2, z3⟩ := hSW
                    go_simp
                    try with_reducible rfl
                  try go_simp
                  refine wpAnyL_take (i := 4) (v := ?_) rfl (by kernel_rfl) (by kernel_rfl) (by kernel_rfl) (by kernel_rfl) (by kernel_rfl) (fun _ _ _ h => h) (Or.inl ⟨by rfl, ?_⟩) hH ?_
                  rotate_left
                  · intro W hSW
                    obtain ⟨z0, z1, z2, z3⟩ := hSW
                    go_simp
                    try with_reducible rfl
                  try go_simp
                  refine wpAnyL_take (i := 5) (v := ?_) rfl (by kernel_rfl) (by kernel_rfl) (by kernel_rfl) (by kernel_rfl) (by kernel_rfl) (fun _ _ _ h => h) (Or.inl ⟨by rfl, ?_⟩) hH ?_
                  rotate_left
                  · intro W hSW
                    obtain ⟨z0, z1, z2, z3⟩ := hSW
                    go_simp
                    try with_reducible rfl
                  try go_simp
                  refine wpAnyL_take (i := 6) (v := undef) rfl (by kernel_rfl) (by kernel_rfl) (by kernel_rfl) (by kernel_rfl) (by kernel_rfl) (fun _ _ _ h => h) (Or.inr ⟨by rfl, rfl⟩) hH ?_
                  try go_simp
                  refine wpAnyL_take (i := 7) (v := undef) rfl (by kernel_rfl) (by kernel_rfl) (by kernel_rfl) (by kernel_rfl) (by kernel_rfl) (fun _ _ _ h => h) (Or.inr ⟨by rfl, rfl⟩) hH ?_
                  try go_simp
                  refine wpAnyL_take (i := 8) (v := undef) rfl (by kernel_rfl) (by kernel_rfl) (by kernel_rfl) (by kernel_rfl) (by kernel_rfl) (fun _ _ _ h => h) (Or.inr ⟨by rfl, rfl⟩) hH ?_
                  try go_simp
                  refine wpAnyL_take (i := 9) (v := undef) rfl (by kernel_rfl) (by kernel_rfl) (by kernel_rfl) (by kernel_rfl) (by kernel_rfl) (fun _ _ _ h => h) (Or.inr ⟨by rfl, rfl⟩) hH ?_
                  try go_simp
                  refine wpAnyL_take (i := 10) (v := undef) rfl (by kernel_rfl) (by kernel_rfl) (by kernel_rfl) (by kernel_rfl) (by kernel_rfl) (fun _ _ _ h => h) (Or.inr ⟨by rfl, rfl⟩) hH ?_
                  try go_simp
                  refine wpAnyL_take (i := 11) (v := undef) rfl (by kernel_rfl) (by kernel_rfl) (by kernel_rfl) (by kernel_rfl) (by kernel_rfl) (fun _ _ _ h => h) (Or.inr ⟨by rfl, rfl⟩) hH ?_
                  try go_simp
                  refine wpAnyL_take (i := 12) (v := undef) rfl (by kernel_rfl) (by kernel_rfl) (by kernel_rfl) (by kernel_rfl) (by kernel_rfl) (fun _ _ _ h => h) (Or.inr ⟨by rfl, rfl⟩) hH ?_
                  try go_simp
                  refine wpAnyL_take (i := 13) (v := undef) rfl (by kernel_rfl) (by kernel_rfl) (by kernel_rfl) (by kernel_rfl) (by kernel_rfl) (fun _ _ _ h => h) (Or.inr ⟨by rfl, rfl⟩) hH ?_
                  try go_simp
                  refine wpAnyL_take (i := 14) (v := undef) rfl (by kernel_rfl) (by kernel_rfl) (by kernel_rfl) (by kernel_rfl) (by kernel_rfl) (fun _ _ _ h => h) (Or.inr ⟨by rfl, rfl⟩) hH ?_
                  try go_simp
                  refine wpAnyL_take (i := 15) (v := undef) rfl (by kernel_rfl) (by kernel_rfl) (by kernel_rfl) (by kernel_rfl) (by kernel_rfl) (fun _ _ _ h => h) (Or.inr ⟨by rfl, rfl⟩) hH ?_
                  try go_simp
                  refine wpAnyL_take (i := 16) (v := undef) rfl (by kernel_rfl) (by kernel_rfl) (by kernel_rfl) (by kernel_rfl) (by kernel_rfl) (fun _ _ _ h => h) (Or.inr ⟨by rfl, rfl⟩) hH ?_
                  try go_simp
                  refine wpAnyL_take (i := 17) (v := undef) rfl (by kernel_rfl) (by kernel_rfl) (by kernel_rfl) (by kernel_rfl) (by kernel_rfl) (fun _ _ _ h => h) (Or.inr ⟨by rfl, rfl⟩) hH ?_
                  try go_simp
                  refine wpAnyL_take (i := 18) (v := undef) rfl (by kernel_rfl) (by kernel_rfl) (by kernel_rfl) (by kernel_rfl) (by kernel_rfl) (fun _ _ _ h => h) (Or.inr ⟨by rfl, rfl⟩) hH ?_
                  try go_simp
                  refine wpAnyL_take (i := 19) (v := undef) rfl (by kernel_rfl) (by kernel_rfl) (by kernel_rfl) (by kernel_rfl) (by kernel_rfl) (fun _ _ _ h => h) (Or.inr ⟨by rfl, rfl⟩) hH ?_
                  try go_simp
                  refine wpAnyL_take (i := 20) (v := ?_) rfl (by kernel_rfl) (by kernel_rfl) (by kernel_rfl) (by kernel_rfl) (by kernel_rfl) (fun _ _ _ h => h) (Or.inl ⟨by rfl, ?_⟩) hH ?_
                  rotate_left
                  · intro W hSW
                    obtain ⟨z0, z1, z2, z3⟩ := hSW
                    go_simp
                    try with_reducible rfl
                  try go_simp
                  refine wpAnyL_one (i := 21) (by kernel_rfl) rfl (fun K hK => ?_)
                  go_simp
                  refine hK.out _ _ (fun _ => hH) ?_
                  clear hK K
                  try go_simp
                  refine wpAnyL_one (i := 22) (by kernel_rfl) rfl (fun K hK => ?_)
                  go_simp
                  refine hK.out _ _ (fun _ => hH) ?_
                  clear hK K
                  try go_simp
                  refine wpAnyL_one (i := 23) (by kernel_rfl) rfl (fun K hK => ?_)
                  go_simp
                  refine hK.out _ _ (fun h => absurd rfl h) ?_
                  clear hK K
                  refine wpAnyL_done (by kernel_rfl) ?_ _
                  go_wp2_with fail
                  go_roundw
                  case rel => exact ⟨q + 1, hq2, by go_num, HN22.out⟩
                  case measure => simp [intOf]; omega
                | false =>
                  by_cases hx : x1 = x2
                  · have HN22 := hide (show LookAt ((wr.setCell ⟨l, 2, none⟩ (.bool true)).drew) B l s (i + 12 * k) (bd || (M.take (q + 1)).any fun p => decide (p.id = x2)) (.slice (some ⟨ga, 0, none⟩) n cL) vK M K ∧ Keeps (fun k => k = l) wo ((wr.setCell ⟨l, 2, none⟩ (.bool true)).drew) by
                      rw [HAN.out, decide_eq_true hx]; exact HSET.out true)
                    clear HSET HAN HLA
                    subst hx
                    go_upto_region 22 with fail
                    have hS : wr.drew.cell? ⟨l, 2, none⟩ = some (.bool false) ∧ wr.drew.cell? ⟨l, 3, none⟩ = some (.slice (some ⟨ga, 0, none⟩) n cL) ∧ wr.drew.cell? ⟨ga, q * 3, none⟩ = some (I x1) ∧ wr.drew.cell? ⟨go, a * 3, none⟩ = some (I x1) := ⟨by simpa using c2, by simpa using c3, by simpa using cx, by simpa using cy⟩
                    refine wp_region_L 23 (fun W => W.cell? ⟨l, 2, none⟩ = some (.bool false) ∧ W.cell? ⟨l, 3, none⟩ = some (.slice (some ⟨ga, 0, none⟩) n cL) ∧ W.cell? ⟨ga, q * 3, none⟩ = some (I x1) ∧ W.cell? ⟨go, a * 3, none⟩ = some (I x1)) (by kernel_rfl) hS (fun hH => ?_)
                    clear hS
                    refine wpAnyL_take (i := 0) (v := ?_) rfl (by kernel_rfl) (by kernel_rfl) (by kernel_rfl) (by kernel_rfl) (by kernel_rfl) (fun _ _ _ h => h) (Or.inl ⟨by rfl, ?_⟩) hH ?_
                    rotate_left
                    · intro W hSW
                      obtain ⟨z0, z1, z2, z3⟩ := hSW
                      go_simp
                      try with_reducible rfl
                    try go_simp
                    refine wpAnyL_take (i := 1) (v := ?_) rfl (by kernel_rfl) (by kernel_rfl) (by kernel_rfl) (by kernel_rfl) (by kernel_rfl) (fun _ _ _ h => h) (Or.inl ⟨by rfl, ?_⟩) hH ?_
                    rotate_left
                    · intro W hSW
                      obtain ⟨z0, z1, z2, z3⟩ := hSW
                      go_simp
                      try with_reducible rfl
                    try go_simp
                    refine wpAnyL_take (i := 2) (v := ?_) rfl (by kernel_rfl) (by kernel_rfl) (by kernel_rfl) (by kernel_rfl) (by kernel_rfl) (fun _ _ _ h => h) (Or.inl ⟨by rfl, ?_⟩) hH ?_
                    rotate_left
                    · intro W hSW
                      obtain ⟨z0, z1, z2, z3⟩ := hSW
                      go_simp
                      try with_reducible rfl
                    try go_simp
                    refine wpAnyL_take (i := 3) (v := ?_) rfl (by kernel_rfl) (by kernel_rfl) (by kernel_rfl) (by kernel_rfl) (by kernel_rfl) (fun _ _ _ h => h) (Or.inl ⟨by rfl, ?_⟩) hH ?_
                    rotate_left
                    · intro W hSW
                      obtain ⟨z0, z1, z2, z3⟩ := hSW
                      go_simp
                      try with_reducible rfl
                    try go_simp
                    refine wpAnyL_take (i := 4) (v := ?_) rfl (by kernel_rfl) (by kernel_rfl) (by kernel_rfl) (by kernel_rfl) (by kernel_rfl) (fun _ _ _ h => h) (Or.inl ⟨by rfl, ?_⟩) hH ?_
                    rotate_left
                    · intro W hSW
                      obtain ⟨z0, z1, z2, z3⟩ := hSW
                      go_simp
                      try with_reducible rfl
                    try go_simp
                    refine wpAnyL_take (i := 5) (v := ?_) rfl (by kernel_rfl) (by kernel_rfl) (by kernel_rfl) (by kernel_rfl) (by kernel_rfl) (fun _ _ _ h => h) (Or.inl ⟨by rfl, ?_⟩) hH ?_
                    rotate_left
                    · intro W hSW
                      obtain ⟨z0, z1, z2, z3⟩ := hSW
                      go_simp
                      try with_reducible rfl
                    try go_simp
                    refine wpAnyL_take (i := 6) (v := ?_) rfl (by kernel_rfl) (by kernel_rfl) (by kernel_rfl) (by kernel_rfl) (by kernel_rfl) (fun _ _ _ h => h) (Or.inl ⟨by rfl, ?_⟩) hH ?_
                    rotate_left
                    · intro W hSW
                      obtain ⟨z0, z1, z2, z3⟩ := hSW
                      go_simp
                      try with_reducible rfl
                    try go_simp
                    refine wpAnyL_take (i := 7) (v := ?_) rfl (by kernel_rfl) (by kernel_rfl) (by kernel_rfl) (by kernel_rfl) (by kernel_rfl) (fun _ _ _ h => h) (Or.inl ⟨by rfl, ?_⟩) hH ?_
                    rotate_left
                    · intro W hSW
                      obtain ⟨z0, z1, z2, z3⟩ := hSW
                      go_simp
                      try with_reducible rfl
                    try go_simp
                    refine wpAnyL_take (i := 8) (v := ?_) rfl (by kernel_rfl) (by kernel_rfl) (by kernel_rfl) (by kernel_rfl) (by kernel_rfl) (fun _ _ _ h => h) (Or.inl ⟨by rfl, ?_⟩) hH ?_
                    rotate_left
                    · intro W hSW
                      obtain ⟨z0, z1, z2, z3⟩ := hSW
                      go_simp
                      try with_reducible rfl
                    try go_simp
                    refine wpAnyL_take (i := 9) (v := ?_) rfl (by kernel_rfl) (by kernel_rfl) (by kernel_rfl) (by kernel_rfl) (by kernel_rfl) (fun _ _ _ h => h) (Or.inl ⟨by rfl, ?_⟩) hH ?_
                    rotate_left
                    · intro W hSW
                      obtain ⟨z0, z1, z2, z3⟩ := hSW
                      go_simp
                      try with_reducible rfl
                    try go_simp
                    refine wpAnyL_take (i := 10) (v := ?_) rfl (by kernel_rfl) (by kernel_rfl) (by kernel_rfl) (by kernel_rfl) (by kernel_rfl) (fun _ _ _ h => h) (Or.inl ⟨by rfl, ?_⟩) hH ?_
                    rotate_left
                    · intro W hSW
                      obtain ⟨z0, z1, z2, z3⟩ := hSW
                      go_simp
                      try with_reducible rfl
                    try go_simp
                    refine wpAnyL_take (i := 11) (v := ?_) rfl (by kernel_rfl) (by kernel_rfl) (by kernel_rfl) (by kernel_rfl) (by kernel_rfl) (fun _ _ _ h => h) (Or.inl ⟨by rfl, ?_⟩) hH ?_
                    rotate_left
                    · intro W hSW
                      obtain ⟨z0, z1, z2, z3⟩ := hSW
                      go_simp
                      try with_reducible rfl
                    try go_simp
                    refine wpAnyL_take (i := 12) (v := ?_) rfl (by kernel_rfl) (by kernel_rfl) (by kernel_rfl) (by kernel_rfl) (by kernel_rfl) (fun _ _ _ h => h) (Or.inl ⟨by rfl, ?_⟩) hH ?_
                    rotate_left
                    · intro W hSW
                      obtain ⟨z0, z1, z2, z3⟩ := hSW
                      go_simp
                      try with_reducible rfl
                    try go_simp
                    refine wpAnyL_take (i := 13) (v := ?_) rfl (by kernel_rfl) (by kernel_rfl) (by kernel_rfl) (by kernel_rfl) (by kernel_rfl) (fun _ _ _ h => h) (Or.inl ⟨by rfl, ?_⟩) hH ?_
                    rotate_left
                    · intro W hSW
                      obtain ⟨z0, z1, z2, z3⟩ := hSW
                      go_simp
                      try with_reducible rfl
                    try go_simp
                    refine wpAnyL_take (i := 14) (v := ?_) rfl (by kernel_rfl) (by kernel_rfl) (by kernel_rfl) (by kernel_rfl) (by kernel_rfl) (fun _ _ _ h => h) (Or.inl ⟨by rfl, ?_⟩) hH ?_
                    rotate_left
                    · intro W hSW
                      obtain ⟨z0, z1, z2, z3⟩ := hSW
                      go_simp
                      try with_reducible rfl
                    try go_simp
                    refine wpAnyL_take (i := 15) (v := ?_) rfl (by kernel_rfl) (by kernel_rfl) (by kernel_rfl) (by kernel_rfl) (by kernel_rfl) (fun _ _ _ h => h) (Or.inl ⟨by rfl, ?_⟩) hH ?_
                    rotate_left
                    · intro W hSW
                      obtain ⟨z0, z1, z2, z3⟩ := hSW
                      go_simp
                      try with_reducible rfl
                    try go_simp
                    refine wpAnyL_take (i := 16) (v := ?_) rfl (by kernel_rfl) (by kernel_rfl) (by kernel_rfl) (by kernel_rfl) (by kernel_rfl) (fun _ _ _ h => h) (Or.inl ⟨by rfl, ?_⟩) hH ?_
                    rotate_left
                    · intro W hSW
                      obtain ⟨z0, z1, z2, z3⟩ := hSW
                      go_simp
                      try with_reducible rfl
                    try go_simp
                    refine wpAnyL_take (i := 17) (v := ?_) rfl (by kernel_rfl) (by kernel_rfl) (by kernel_rfl) (by kernel_rfl) (by kernel_rfl) (fun _ _ _ h => h) (Or.inl ⟨by rfl, ?_⟩) hH ?_
                    rotate_left
                    · intro W hSW
                      obtain ⟨z0, z1, z2, z3⟩ := hSW
                      go_simp
                      try with_reducible rfl
                    try go_simp
                    refine wpAnyL_take (i := 18) (v := ?_) rfl (by kernel_rfl) (by kernel_rfl) (by kernel_rfl) (by kernel_rfl) (by kernel_rfl) (fun _ _ _ h => h) (Or.inl ⟨by rfl, ?_⟩) hH ?_
                    rotate_left
                    · intro W hSW
                      obtain ⟨z0, z1, z2, z3⟩ := hSW
                      go_simp
                      try with_reducible rfl
                    try go_simp
                    refine wpAnyL_take (i := 19) (v := ?_) rfl (by kernel_rfl) (by kernel_rfl) (by kernel_rfl) (by kernel_rfl) (by kernel_rfl) (fun _ _ _ h => h) (Or.inl ⟨by rfl, ?_⟩) hH ?_
                    rotate_left
                    · intro W hSW
                      obtain ⟨z0, z1, z2, z3⟩ := hSW
                      go_simp
                      try with_reducible rfl
                    try go_simp
                    refine wpAnyL_take (i := 20) (v := ?_) rfl (by kernel_rfl) (by kernel_rfl) (by kernel_rfl) (by kernel_rfl) (by kernel_rfl) (fun _ _ _ h => h) (Or.inl ⟨by rfl, ?_⟩) hH ?_
                    rotate_left
                    · intro W hSW
                      obtain ⟨z0, z1, z2, z3⟩ := hSW
                      go_simp
                      try with_reducible rfl
                    try go_simp
                    refine wpAnyL_one (i := 21) (by kernel_rfl) rfl (fun K hK => ?_)
                    go_simp
                    refine hK.out _ _ (fun _ => hH) ?_
                    clear hK K
                    try go_simp
                    refine wpAnyL_one (i := 22) (by kernel_rfl) rfl (fun K hK => ?_)
                    go_simp
                    refine hK.out _ _ (fun _ => hH) ?_
                    clear hK K
                    try go_simp
                    refine wpAnyL_one (i := 23) (by kernel_rfl) rfl (fun K hK => ?_)
                    go_simp
                    refine hK.out _ _ (fun h => absurd rfl h) ?_
                    clear hK K
                    refine wpAnyL_done (by kernel_rfl) ?_ _
                    go_wp2_with fail
                    go_roundw
                    case rel => exact ⟨q + 1, hq2, by go_num, HN22.out⟩
                    case measure => simp [intOf]; omega
                  · have HN22 := hide (show LookAt ((wr.setCell ⟨l, 2, none⟩ (.bool false)).drew) B l s (i + 12 * k) (bd || (M.take (q + 1)).any fun p => decide (p.id = x2)) (.slice (some ⟨ga, 0, none⟩) n cL) vK M K ∧ Keeps (fun k => k = l) wo ((wr.setCell ⟨l, 2, none⟩ (.bool false)).drew) by
                      rw [HAN.out, decide_eq_false hx]; exact HSET.out false)
                    clear HSET HAN HLA
                    have hxb : (x1 == x2) = false := by simpa using hx
                    go_upto_region 22 with fail
                    have hS : wr.drew.cell? ⟨l, 2, none⟩ = some (.bool false) ∧ wr.drew.cell? ⟨l, 3, none⟩ = some (.slice (some ⟨ga, 0, none⟩) n cL) ∧ wr.drew.cell? ⟨ga, q * 3, none⟩ = some (I x1) ∧ wr.drew.cell? ⟨go, a * 3, none⟩ = some (I x2) := ⟨by simpa using c2, by simpa using c3, by simpa using cx, by simpa using cy⟩
                    refine wp_region_L 23 (fun W => W.cell? ⟨l, 2, none⟩ = some (.bool false) ∧ W.cell? ⟨l, 3, none⟩ = some (.slice (some ⟨ga, 0, none⟩) n cL) ∧ W.cell? ⟨ga, q * 3, none⟩ = some (I x1) ∧ W.cell? ⟨go, a * 3, none⟩ = some (I x2)) (by kernel_rfl) hS (fun hH => ?_)
                    clear hS
                    refine wpAnyL_take (i := 0) (v := ?_) rfl (by kernel_rfl) (by kernel_rfl) (by kernel_rfl) (by kernel_rfl) (by kernel_rfl) (fun _ _ _ h => h) (Or.inl ⟨by rfl, ?_⟩) hH ?_
                    rotate_left
                    · intro W hSW
                      obtain ⟨z0, z1, z2, z3⟩ := hSW
                      go_simp
                      try with_reducible rfl
                    try go_simp
                    refine wpAnyL_take (i := 1) (v := ?_) rfl (by kernel_rfl) (by kernel_rfl) (by kernel_rfl) (by kernel_rfl) (by kernel_rfl) (fun _ _ _ h => h) (Or.inl ⟨by rfl, ?_⟩) hH ?_
                    rotate_left
                    · intro W hSW
                      obtain ⟨z0, z1, z2, z3⟩ := hSW
                      go_simp
                      try with_reducible rfl
                    try go_simp
                    refine wpAnyL_take (i := 2) (v := ?_) rfl (by kernel_rfl) (by kernel_rfl) (by kernel_rfl) (by kernel_rfl) (by kernel_rfl) (fun _ _ _ h => h) (Or.inl ⟨by rfl, ?_⟩) hH ?_
                    rotate_left
                    · intro W hSW
                      obtain ⟨z0, z1, z2, z3⟩ := hSW
                      go_simp
                      try with_reducible rfl
                    try go_simp
                    refine wpAnyL_take (i := 3) (v := ?_) rfl (by kernel_rfl) (by kernel_rfl) (by kernel_rfl) (by kernel_rfl) (by kernel_rfl) (fun _ _ _ h => h) (Or.inl ⟨by rfl, ?_⟩) hH ?_
                    rotate_left
                    · intro W hSW
                      obtain ⟨z0, z1, z2, z3⟩ := hSW
                      go_simp
                      try with_reducible rfl
                    try go_simp
                    refine wpAnyL_take (i := 4) (v := ?_) rfl (by kernel_rfl) (by kernel_rfl) (by kernel_rfl) (by kernel_rfl) (by kernel_rfl) (fun _ _ _ h => h) (Or.inl ⟨by rfl, ?_⟩) hH ?_
                    rotate_left
                    · intro W hSW
                      obtain ⟨z0, z1, z2, z3⟩ := hSW
                      go_simp
                      try with_reducible rfl
                    try go_simp
                    refine wpAnyL_take (i := 5) (v := ?_) rfl (by kernel_rfl) (by kernel_rfl) (by kernel_rfl) (by kernel_rfl) (by kernel_rfl) (fun _ _ _ h => h) (Or.inl ⟨by rfl, ?_⟩) hH ?_
                    rotate_left
                    · intro W hSW
                      obtain ⟨z0, z1, z2, z3⟩ := hSW
                      go_simp
                      try with_reducible rfl
                    try go_simp
                    refine wpAnyL_take (i := 6) (v := ?_) rfl (by kernel_rfl) (by kernel_rfl) (by kernel_rfl) (by kernel_rfl) (by kernel_rfl) (fun _ _ _ h => h) (Or.inl ⟨by rfl, ?_⟩) hH ?_
                    rotate_left
                    · intro W hSW
                      obtain ⟨z0, z1, z2, z3⟩ := hSW
                      go_simp
                      try with_reducible rfl
                    try go_simp
                    refine wpAnyL_take (i := 7) (v := ?_) rfl (by kernel_rfl) (by kernel_rfl) (by kernel_rfl) (by kernel_rfl) (by kernel_rfl) (fun _ _ _ h => h) (Or.inl ⟨by rfl, ?_⟩) hH ?_
                    rotate_left
                    · intro W hSW
                      obtain ⟨z0, z1, z2, z3⟩ := hSW
                      go_simp
                      try with_reducible rfl
                    try go_simp
                    refine wpAnyL_take (i := 8) (v := ?_) rfl (by kernel_rfl) (by kernel_rfl) (by kernel_rfl) (by kernel_rfl) (by kernel_rfl) (fun _ _ _ h => h) (Or.inl ⟨by rfl, ?_⟩) hH ?_
                    rotate_left
                    · intro W hSW
                      obtain ⟨z0, z1, z2, z3⟩ := hSW
                      go_simp
                      try with_reducible rfl
                    try go_simp
                    refine wpAnyL_take (i := 9) (v := ?_) rfl (by kernel_rfl) (by kernel_rfl) (by kernel_rfl) (by kernel_rfl) (by kernel_rfl) (fun _ _ _ h => h) (Or.inl ⟨by rfl, ?_⟩) hH ?_
                    rotate_left
                    · intro W hSW
                      obtain ⟨z0, z1, z2, z3⟩ := hSW
                      go_simp
                      try with_reducible rfl
                    try go_simp
                    refine wpAnyL_take (i := 10) (v := ?_) rfl (by kernel_rfl) (by kernel_rfl) (by kernel_rfl) (by kernel_rfl) (by kernel_rfl) (fun _ _ _ h => h) (Or.inl ⟨by rfl, ?_⟩) hH ?_
                    rotate_left
                    · intro W hSW
                      obtain ⟨z0, z1, z2, z3⟩ := hSW
                      go_simp
                      try with_reducible rfl
                    try go_simp
                    refine wpAnyL_take (i := 11) (v := ?_) rfl (by kernel_rfl) (by kernel_rfl) (by kernel_rfl) (by kernel_rfl) (by kernel_rfl) (fun _ _ _ h => h) (Or.inl ⟨by rfl, ?_⟩) hH ?_
                    rotate_left
                    · intro W hSW
                      obtain ⟨z0, z1, z2, z3⟩ := hSW
                      go_simp
                      try with_reducible rfl
                    try go_simp
                    refine wpAnyL_take (i := 12) (v := ?_) rfl (by kernel_rfl) (by kernel_rfl) (by kernel_rfl) (by kernel_rfl) (by kernel_rfl) (fun _ _ _ h => h) (Or.inl ⟨by rfl, ?_⟩) hH ?_
                    rotate_left
                    · intro W hSW
                      obtain ⟨z0, z1, z2, z3⟩ := hSW
                      go_simp
                      try with_reducible rfl
                    try go_simp
                    refine wpAnyL_take (i := 13) (v := ?_) rfl (by kernel_rfl) (by kernel_rfl) (by kernel_rfl) (by kernel_rfl) (by kernel_rfl) (fun _ _ _ h => h) (Or.inl ⟨by rfl, ?_⟩) hH ?_
                    rotate_left
                    · intro W hSW
                      obtain ⟨z0, z1, z2, z3⟩ := hSW
                      go_simp
                      try with_reducible rfl
                    try go_simp
                    refine wpAnyL_take (i := 14) (v := ?_) rfl (by kernel_rfl) (by kernel_rfl) (by kernel_rfl) (by kernel_rfl) (by kernel_rfl) (fun _ _ _ h => h) (Or.inl ⟨by rfl, ?_⟩) hH ?_
                    rotate_left
                    · intro W hSW
                      obtain ⟨z0, z1, z2, z3⟩ := hSW
                      go_simp
                      try with_reducible rfl
                    try go_simp
                    refine wpAnyL_take (i := 15) (v := ?_) rfl (by kernel_rfl) (by kernel_rfl) (by kernel_rfl) (by kernel_rfl) (by kernel_rfl) (fun _ _ _ h => h) (Or.inl ⟨by rfl, ?_⟩) hH ?_
                    rotate_left
                    · intro W hSW
                      obtain ⟨z0, z1, z2, z3⟩ := hSW
                      go_simp
                      try with_reducible rfl
                    try go_simp
                    refine wpAnyL_take (i := 16) (v := ?_) rfl (by kernel_rfl) (by kernel_rfl) (by kernel_rfl) (by kernel_rfl) (by kernel_rfl) (fun _ _ _ h => h) (Or.inl ⟨by rfl, ?_⟩) hH ?_
                    rotate_left
                    · intro W hSW
                      obtain ⟨z0, z1, z2, z3⟩ := hSW
                      go_simp
                      try with_reducible rfl
                    try go_simp
                    refine wpAnyL_take (i := 17) (v := ?_) rfl (by kernel_rfl) (by kernel_rfl) (by kernel_rfl) (by kernel_rfl) (by kernel_rfl) (fun _ _ _ h => h) (Or.inl ⟨by rfl, ?_⟩) hH ?_
                    rotate_left
                    · intro W hSW
                      obtain ⟨z0, z1, z2, z3⟩ := hSW
                      go_simp
                      try with_reducible rfl
                    try go_simp
                    refine wpAnyL_take (i := 18) (v := ?_) rfl (by kernel_rfl) (by kernel_rfl) (by kernel_rfl) (by kernel_rfl) (by kernel_rfl) (fun _ _ _ h => h) (Or.inl ⟨by rfl, ?_⟩) hH ?_
                    rotate_left
                    · intro W hSW
                      obtain ⟨z0, z1, z2, z3⟩ := hSW
                      go_simp
                      try with_reducible rfl
                    try go_simp
                    refine wpAnyL_take (i := 19) (v := ?_) rfl (by kernel_rfl) (by kernel_rfl) (by kernel_rfl) (by kernel_rfl) (by kernel_rfl) (fun _ _ _ h => h) (Or.inl ⟨by rfl, ?_⟩) hH ?_
                    rotate_left
                    · intro W hSW
                      obtain ⟨z0, z1, z2, z3⟩ := hSW
                      go_simp
                      try with_reducible rfl
                    try go_simp
                    refine wpAnyL_take (i := 20) (v := ?_) rfl (by kernel_rfl) (by kernel_rfl) (by kernel_rfl) (by kernel_rfl) (by kernel_rfl) (fun _ _ _ h => h) (Or.inl ⟨by rfl, ?_⟩) hH ?_
                    rotate_left
                    · intro W hSW
                      obtain ⟨z0, z1, z2, z3⟩ := hSW
                      go_simp
                      try with_reducible rfl
                    try go_simp
                    refine wpAnyL_one (i := 21) (by kernel_rfl) rfl (fun K hK => ?_)
                    go_simp
                    refine hK.out _ _ (fun _ => hH) ?_
                    clear hK K
                    try go_simp
                    refine wpAnyL_one (i := 22) (by kernel_rfl) rfl (fun K hK => ?_)
                    go_simp
                    refine hK.out _ _ (fun _ => hH) ?_
                    clear hK K
                    try go_simp
                    refine wpAnyL_one (i := 23) (by kernel_rfl) rfl (fun K hK => ?_)
                    go_simp
                    refine hK.out _ _ (fun h => absurd rfl h) ?_
                    clear hK K
                    refine wpAnyL_done (by kernel_rfl) ?_ _
                    go_wp2_with fail
                    go_roundw
                    case rel => exact ⟨q + 1, hq2, by go_num, HN22.out⟩
                    case measure => simp [intOf]; omega
              · have HLB := hide (show LookAt wr B l s (i + 12 * k) (bd || M.any fun p => decide (p.id = x2)) (.slice aL n cL) vK M K by
                  have := HLA.out
                  rwa [List.take_of_length_le (by omega)] at this)
                have c3 : wr.cell? ⟨l, 3, none⟩ = some (.slice aL n cL) := by rw [cell_of_row _ _ _ _ _ _ HLA.out.row]; rfl
                have hLd : LookAt wr.drew B l s (i + 12 * k) (bd || M.any fun p => decide (p.id = x2)) (.slice aL n cL) vK M K := HLB.out.below ((Below.refl _ _).drew)
                have hszw := HKP.out.size
                have hlw := HL2.out.lt
                obtain ⟨v', w4, hr, ho, hg, hf⟩ := append_pt (w := wr.drew) ⟨x2, y2, y3⟩ hLd.pts (by show B ≤ wr.heap.size; omega) (by omega)
                obtain ⟨a', c', ev⟩ := ho.slice
                rw [List.length_append, hML, List.length_singleton] at ev
                subst ev
                have hr' : (Builtin.append_ #[27, 27] 27 #[.slice aL n cL, .slice (some ⟨wr.heap.size, 0, none⟩) 1 1]).run Tryz.prog ((wr.alloc (.cells #[I x2, I y2, I y3] 36)).drew) = .ok (.slice a' (n + 1) c') w4 := hr
                have hgon : some go ≠ (Value.slice aL n cL).ownBlock := fun e => HAP.out go e.symm rfl
                have hgw : go < wr.heap.size := by omega
                have HPT := hide (hLd.pointed hg ho hf)
                have f3 : w4.frozen? ⟨l, 3, none⟩ = false := frozen_of_row _ _ _ _ _ ((hg.block l (by show l < wr.heap.size; omega) (fun e => hLd.apartL e.symm)).trans hLd.row)
                have H9 := hide (show ((wr.alloc (.cells #[I x2, I y2, I y3] 36)).drew).cell? ⟨l, 3, none⟩ = some (.slice aL n cL) ∧ ((wr.alloc (.cells #[I x2, I y2, I y3] 36)).drew).cell? ⟨go, a * 3, none⟩ = some (I x2) ∧ ((wr.alloc (.cells #[I x2, I y2, I y3] 36)).drew).cell? ⟨go, a * 3 + 1, none⟩ = some (I y2) ∧ ((wr.alloc (.cells #[I x2, I y2, I y3] 36)).drew).cell? ⟨go, a * 3 + 2, none⟩ = some (I y3) from by
                  have hb := ((Below.refl wr.heap.size wr).alloc (Nat.le_refl _) (.cells #[I x2, I y2, I y3] 36)).drew
                  exact ⟨(hb.cell (p := ⟨l, 3, none⟩) (by show l < _; omega)).trans c3, (hb.cell (p := ⟨go, a * 3, none⟩) hgw).trans cy, (hb.cell (p := ⟨go, a * 3 + 1, none⟩) hgw).trans cy1, (hb.cell (p := ⟨go, a * 3 + 2, none⟩) hgw).trans cy2⟩)
                have H23 := hide (show w4.cell? ⟨l, 3, none⟩ = some (.slice aL n cL) ∧ w4.cell? ⟨go, a * 3, none⟩ = some (I x2) ∧ w4.cell? ⟨go, a * 3 + 1, none⟩ = some (I y2) ∧ w4.cell? ⟨go, a * 3 + 2, none⟩ = some (I y3) from by
                  have e1 := hg.block l (by show l < wr.heap.size; omega) (fun e => hLd.apartL e.symm)
                  have e2 := hg.block go (by show go < wr.heap.size; omega) hgon
                  exact ⟨(World.cell?_of_block (a := ⟨l, 3, none⟩) e1).trans c3, (World.cell?_of_block (a := ⟨go, a * 3, none⟩) e2).trans cy, (World.cell?_of_block (a := ⟨go, a * 3 + 1, none⟩) e2).trans cy1, (World.cell?_of_block (a := ⟨go, a * 3 + 2, none⟩) e2).trans cy2⟩)
                have g3 : w4.cell? ⟨l, 3, none⟩ = some (.slice aL n cL) := H23.out.1
                have HEND := hide (show LeafOwn w B l s (i + 12 * k) (!O.all Ward.ptOk || !Ward.freshAll (L.map Ward.Pt.id).reverse (O.take (a + 1))) (.slice a' (L.length + (a + 1)) c') vK (L ++ O.take (a + 1)) K (.slice (some ⟨go, 0, none⟩) k cv) O (w4.setCell ⟨l, 3, none⟩ (.slice a' (n + 1) c')) ∧ LookTo w l vL vK (w4.setCell ⟨l, 3, none⟩ (.slice a' (n + 1) c')) (.slice a' (L.length + (a + 1)) c') vK ∧ ∀ g, (Value.slice a' (L.length + (a + 1)) c').ownBlock = some g → (Value.slice (some ⟨go, 0, none⟩) k cv).ownBlock ≠ some g from by
                  have en : L.length + (a + 1) = n + 1 := by have := HNE.out; omega
                  have eL : L ++ O.take (a + 1) = M ++ [⟨x2, y2, y3⟩] := by rw [HTK.out, ← List.append_assoc, HM.out]
                  have eb : (!O.all Ward.ptOk || !Ward.freshAll (L.map Ward.Pt.id).reverse (O.take (a + 1))) = (bd || M.any fun p => decide (p.id = x2)) := by rw [HFS.out, Bool.not_and, Bool.not_not, ← Bool.or_assoc, HBD.out]
                  rw [en, eL, eb]
                  have hkK : ∀ g, vK.ownBlock = some g → g < w.heap.size := fun g e => (HH.out.kids.lt e).2
                  have k1 : Keeps (LS l (.slice aL n cL) vK) wr (w4.setCell ⟨l, 3, none⟩ (.slice a' (n + 1) c')) := ⟨HPT.out.2.keeps.os, HPT.out.2.keeps.tape, HPT.out.2.keeps.output, HPT.out.2.keeps.size, HPT.out.2.keeps.block⟩
                  refine ⟨⟨HPT.out.1, ?_, ?_⟩, ((HT2.out.step HKP.out).more (keeps_drew (Keeps.refl (fun _ => False) wr)) (fun _ _ e => e)).trans HPT.out.2, ?_⟩
                  · refine (HL2.out.own.keeps HKP.out (fun g hg' e => ?_)).keeps k1 (fun g hg' e => ?_)
                    · injection hg' with hg'
                      have e1 : go = g := hg'
                      omega
                    · injection hg' with hg'
                      have e1 : go = g := hg'
                      subst e1
                      rcases e with e | e | e
                      · omega
                      · exact hgon e.symm
                      · have := hkK go e; omega
                  · obtain ⟨z, hz, hzr⟩ := HL2.out.res
                    have r1 := (HKP.out.block w.heap.size (by omega) (by omega)).trans hzr
                    refine ⟨z, hz, (k1.block w.heap.size (by omega) (fun e => ?_)).trans r1⟩
                    rcases e with e | e | e
                    · omega
                    · exact ownsRow_other HLB.out.pts r1 (by decide) e
                    · have := hkK _ e; omega
                  · intro g h1 h2
                    have h2' : go = g := by injection h2
                    subst h2'
                    rcases hf with e | ⟨g', e, hgs⟩
                    · exact hgon (by rw [← e, h1])
                    · rw [e] at h1
                      injection h1 with h1
                      have : wr.heap.size ≤ g' := hgs
                      omega)
                clear hr ho hg hf hLd HLB HLA HKP HPT hla hkp
                go_upto_region 23 with fail
                have hS : wr.drew.cell? ⟨l, 3, none⟩ = some (.slice aL n cL) ∧ wr.drew.cell? ⟨go, a * 3, none⟩ = some (I x2) ∧ wr.drew.cell? ⟨go, a * 3 + 1, none⟩ = some (I y2) ∧ wr.drew.cell? ⟨go, a * 3 + 2, none⟩ = some (I y3) := ⟨by simpa using c3, by simpa using cy, by simpa using cy1, by simpa using cy2⟩
                refine wp_region_L 13 (fun W => W.cell? ⟨l, 3, none⟩ = some (.slice aL n cL) ∧ W.cell? ⟨go, a * 3, none⟩ = some (I x2) ∧ W.cell? ⟨go, a * 3 + 1, none⟩ = some (I y2) ∧ W.cell? ⟨go, a * 3 + 2, none⟩ = some (I y3)) (by kernel_rfl) hS (fun hH => ?_)
                clear hS
                refine wpAnyL_take (i := 0) (v := ?_) rfl (by kernel_rfl) (by kernel_rfl) (by kernel_rfl) (by kernel_rfl) (by kernel_rfl) (fun _ _ _ h => h) (Or.inl ⟨by rfl, ?_⟩) hH ?_
                rotate_left
                · intro W hSW
                  obtain ⟨z0, z1, z2, z3⟩ := hSW
                  go_simp
                  try with_reducible rfl
                try go_simp
                refine wpAnyL_take (i := 1) (v := ?_) rfl (by kernel_rfl) (by kernel_rfl) (by kernel_rfl) (by kernel_rfl) (by kernel_rfl) (fun _ _ _ h => h) (Or.inl ⟨by rfl, ?_⟩) hH ?_
                rotate_left
                · intro W hSW
                  obtain ⟨z0, z1, z2, z3⟩ := hSW
                  go_simp
                  try with_reducible rfl
                try go_simp
                refine wpAnyL_take (i := 2) (v := ?_) rfl (by kernel_rfl) (by kernel_rfl) (by kernel_rfl) (by kernel_rfl) (by kernel_rfl) (fun _ _ _ h => h) (Or.inl ⟨by rfl, ?_⟩) hH ?_
                rotate_left
                · intro W hSW
                  obtain ⟨z0, z1, z2, z3⟩ := hSW
                  go_simp
                  try with_reducible rfl
                try go_simp
                refine wpAnyL_take (i := 3) (v := ?_) rfl (by kernel_rfl) (by kernel_rfl) (by kernel_rfl) (by kernel_rfl) (by kernel_rfl) (fun _ _ _ h => h) (Or.inl ⟨by rfl, ?_⟩) hH ?_
                rotate_left
                · intro W hSW
                  obtain ⟨z0, z1, z2, z3⟩ := hSW
                  go_simp
                  try with_reducible rfl
                try go_simp
                refine wpAnyL_take (i := 4) (v := ?_) rfl (by kernel_rfl) (by kernel_rfl) (by kernel_rfl) (by kernel_rfl) (by kernel_rfl) (fun _ _ _ h => h) (Or.inl ⟨by rfl, ?_⟩) hH ?_
                rotate_left
                · intro W hSW
                  obtain ⟨z0, z1, z2, z3⟩ := hSW
                  go_simp
                  try with_reducible rfl
                try go_simp
                refine wpAnyL_take (i := 5) (v := ?_) rfl (by kernel_rfl) (by kernel_rfl) (by kernel_rfl) (by kernel_rfl) (by kernel_rfl) (fun _ _ _ h => h) (Or.inl ⟨by rfl, ?_⟩) hH ?_
                rotate_left
                · intro W hSW
                  obtain ⟨z0, z1, z2, z3⟩ := hSW
                  go_simp
                  try with_reducible rfl
                try go_simp
                refine wpAnyL_take (i := 6) (v := ?_) rfl (by kernel_rfl) (by kernel_rfl) (by kernel_rfl) (by kernel_rfl) (by kernel_rfl) (fun _ _ _ h => h) (Or.inl ⟨by rfl, ?_⟩) hH ?_
                rotate_left
                · intro W hSW
                  obtain ⟨z0, z1, z2, z3⟩ := hSW
                  go_simp
                  try with_reducible rfl
                try go_simp
                refine wpAnyL_take (i := 7) (v := ?_) rfl (by kernel_rfl) (by kernel_rfl) (by kernel_rfl) (by kernel_rfl) (by kernel_rfl) (fun _ _ _ h => h) (Or.inl ⟨by rfl, ?_⟩) hH ?_
                rotate_left
                · intro W hSW
                  obtain ⟨z0, z1, z2, z3⟩ := hSW
                  go_simp
                  try with_reducible rfl
                try go_simp
                refine wpAnyL_take (i := 8) (v := ?_) rfl (by kernel_rfl) (by kernel_rfl) (by kernel_rfl) (by kernel_rfl) (by kernel_rfl) (fun _ _ _ h => h) (Or.inl ⟨by rfl, ?_⟩) hH ?_
                rotate_left
                · intro W hSW
                  obtain ⟨z0, z1, z2, z3⟩ := hSW
                  go_simp
                  try with_reducible rfl
                try go_simp
                refine wpAnyL_one (i := 9) (by kernel_rfl) rfl (fun K hK => ?_)
                go_simp
                refine hK.out _ _ (fun _ => H9.out) ?_
                clear hK K
                try go_simp
                refine wpAnyL_one (i := 10) (by kernel_rfl) rfl (fun K hK => ?_)
                rw [if_pos (by rfl)]
                refine Lib.wp_append_run _ _ _ 27 27 rfl _ _ rfl rfl _ _ hr' ?_
                refine hK.out _ _ (fun _ => H23.out) ?_
                clear hK K hr'
                try go_simp
                refine wpAnyL_one (i := 11) (by kernel_rfl) rfl (fun K hK => ?_)
                go_simp
                refine hK.out _ _ (fun _ => H23.out) ?_
                clear hK K
                try go_simp
                refine wpAnyL_one (i := 12) (by kernel_rfl) rfl (fun K hK => ?_)
                go_simp
                refine hK.out _ _ (fun _ => H23.out) ?_
                clear hK K
                try go_simp
                refine wpAnyL_one (i := 13) (by kernel_rfl) rfl (fun K hK => ?_)
                go_simp
                refine hK.out _ _ (fun h => absurd rfl h) ?_
                clear hK K
                refine wpAnyL_done (by kernel_rfl) ?_ _
                go_wp2_with fail
                go_roundw
                case rel => exact ⟨a + 1, a', c', hlt2, by go_num, HEND.out⟩
                case measure => simp [intOf]; omega
          · obtain rfl : a = k := by omega
            have HLR := hide (leaf_ref (.slice av a cv) O wr HL2.out.own.reads (by omega))
            obtain ⟨z, hz, hzr⟩ := HL2.out.res
            have hlw := HL2.out.lt
            have HZ := hide hz
            have HZR := hide hzr
            clear hzr hz
            go_wp2_with fail
            refine HLR.out.mono ?_
            rintro _ w5 ⟨rfl, hb5⟩
            have H0 := hide ((hb5.block w.heap.size hlw).trans HZR.out)
            have HM9 := hide (show (partV (Ward.boxL (O.map Ward.boxOf)) O.length (Ward.leafText O) 0 0 (.slice av a cv)).size = 9 from rfl)
            have HM1 := hide (partV_one (Ward.boxL (O.map Ward.boxOf)) O.length (Ward.leafText O) 0 0 (.slice av a cv) rfl)
            have HPO := hide (show PartOut w B l s vL vK (L.length + 4) K.length (Ward.leafOk s i a L = false) (fun i' L' K' b n x => Ward.leafOk s i a L = true ∧ i' = i + 12 * a ∧ L' = L ++ Ward.ptsAt (s.drop i) a ∧ K' = K ∧ b = Ward.boxL ((Ward.ptsAt (s.drop i) a).map Ward.boxOf) ∧ n = ((Ward.ptsAt (s.drop i) a).length : Nat) ∧ x = Ward.leafText (Ward.ptsAt (s.drop i) a)) (.returned (.agg (partV (Ward.boxL (O.map Ward.boxOf)) O.length (Ward.leafText O) 0 0 (.slice av a cv)))) (w5.setRow w.heap.size (partV (Ward.boxL (O.map Ward.boxOf)) O.length (Ward.leafText O) 0 0 (.slice av a cv))) from by
              have k := keeps_rowTo w5 w.heap.size (partV (Ward.boxL (O.map Ward.boxOf)) O.length (Ward.leafText O) 0 0 (.slice av a cv))
              have hl5 := HL2.out.look.below hb5
              rw [List.take_of_length_le (by omega)] at hl5
              have ht5 := HT2.out.more (Keeps.of_below (S := fun _ => False) hb5) (fun _ _ e => e)
              have hl6 := hl5.keep k (fun g hg e => by
                subst e
                rcases hg with e | e | e
                · omega
                · exact ownsRow_other hl5.pts H0.out (by decide) e
                · have := (HH.out.kids.lt e).2; omega)
              have hx : (Ward.leafText O).length ≤ 250 := by
                have := Ward.flat_len_le Ward.ptText 12 O (fun p _ => by rw [Ward.ptText_len]; omega)
                show (1 :: UInt8.ofNat O.length :: O.flatMap Ward.ptText).length ≤ 250
                simp only [List.length_cons]
                omega
              refine ⟨_, _, _, _, _, _, _, _, _, _, rfl, rfl, hx, hl6, ht5.more k (fun g hg e => by omega), hc', by rw [List.length_append]; omega, Nat.le_refl _, ?_⟩
              rw [HOE.out, HLF.out]
              generalize Ward.freshAll (L.map Ward.Pt.id).reverse O = F
              generalize O.all Ward.ptOk = A
              cases A <;> cases F <;> simp)
            generalize partV (Ward.boxL (O.map Ward.boxOf)) O.length (Ward.leafText O) 0 0 (.slice av a cv) = M at *
            clear hb5 HZR
            go_wp2_with (refine wpList_store_row rfl 150 (.tmp 4) (.tmp 121) rfl w.heap.size M rfl rfl 150 z H0.out (by rw [HM9.out]; exact Tryz.infoPart) (by rw [HM9.out, HZ.out]) HM1.out ?_)
            refine bodyPost_ret (v := .agg M) ?_ rfl HPO.out
            exact results_cell_row rfl _ _ w.heap.size 150 M (0, 0) _ rfl (setRow_heap _ _ _ _ _ _ H0.out) Tryz.underlying150 rfl (by rw [HM9.out]; exact Tryz.infoPart)
end Go.Proofs.YtenaelkbgkpllaaGreatDoor
