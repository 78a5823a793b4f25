/- Part 13 of what the claims on Bound, Small, Right and Sole rest on. -/
import Derived.Test.YtenaelkbgkpllaaGreatDoorKeep02
import Derived.Test.YtenaelkbgkpllaaGreatDoorKeep12
import Derived.Shelf.SlSortCmp.NoneTotal
import Derived.Shelf.SlSortCmp.WholeK
/- The points of a window. -/
namespace Go.Proofs.YtenaelkbgkpllaaGreatDoor
open Go.RowKit

/-- a point put behind others -/
theorem append_pt {w : World} {B : Nat} {v : Value} {l : List Ward.Pt} (p : Ward.Pt) (hown : Own w B v l) (hB : B ≤ w.heap.size) (hn : l.length ≤ 100000) :
    ∃ v' w', (Builtin.append_ #[27, 27] 27 #[v, .slice (some ⟨w.heap.size, 0, none⟩) 1 1]).run Tryz.prog (w.alloc (.cells #[I p.id, I p.x, I p.y] 36)) = .ok v' w' ∧ Own w' B v' (l ++ [p]) ∧ w.grownBy w' v.ownBlock ∧ Fresh w v v' := by
  obtain ⟨i0, hi0, hz0, hz1, hz2⟩ := info_parts Tryz.infoPt
  have hown' : (w.alloc (.cells #[I p.id, I p.x, I p.y] 36)).ownsRow B 36 3 v l.length (l.flatMap P3) := World.ownsRow.alloc hown _
  obtain ⟨v', w', hr, ho, hg, hf⟩ := run_append_own2 (P := Tryz.prog) (w.alloc (.cells #[I p.id, I p.x, I p.y] 36)) B 27 27 36 i0 (.agg #[I 0, I 0, I 0]) 3 24 Tryz.underlying27 hi0 hz0 hz1 hz2 rfl (by decide) v l.length (l.flatMap P3) hown' ⟨w.heap.size, 0, none⟩ 1 1 (P3 p) rfl
    (fun j u hj => by
      rw [Addr.add_lit, Nat.zero_add, cell_of_row _ _ _ _ _ _ (heap_alloc_new w _)]
      rw [List.getElem?_toArray]
      exact hj)
    (fun u hu => cells_one (L := [p]) u (by simpa using hu)) (by unfold maxLen; omega) (by omega) (by simp; omega)
  refine ⟨v', w', hr, ?_, ⟨hg.os, hg.tape, hg.output, Nat.le_trans (by simp) hg.size, fun j hj hne => (hg.block j (by simp; omega) hne).trans (Below.heap_alloc w _ j hj)⟩, ?_⟩
  · unfold Own
    rw [List.length_append, List.flatMap_append]
    have e : [p].flatMap P3 = P3 p := by simp
    rw [e]
    exact ho
  · rcases hf with hf | ⟨g, hf, hgs⟩
    · exact .inl hf
    · exact .inr ⟨g, hf, Nat.le_trans (by simp) hgs⟩
/-- what putting points behind others leaves -/
def PutP (w : World) (B : Nat) (v : Value) (l more : List Ward.Pt) (e : Ending) (w' : World) : Prop := ∃ v', e = .returned v' ∧ Own w' B v' (l ++ more) ∧ w.grownBy w' v.ownBlock ∧ Fresh w v v'
theorem Own.slice {w : World} {B : Nat} {v : Value} {L : List Ward.Pt} (h : Own w B v L) : ∃ a c, v = .slice a L.length c := by
  rcases h.2 with ⟨rfl, h0⟩ | ⟨g, cap, cur, rfl, _⟩
  · exact ⟨none, 0, by rw [h0]⟩
  · exact ⟨_, cap, rfl⟩
theorem grown_of_below {w w' : World} {r : Option Nat} (h : Below w.heap.size w w') : w.grownBy w' r := ⟨h.os, h.tape, h.output, h.size, fun j hj _ => h.block j hj⟩
theorem grown_same {S : Nat → Prop} {w w' : World} {B : Nat} {v : Value} {L : List Ward.Pt} (h : w.grownBy w' v.ownBlock) (ho : Own w B v L) (hS : ∀ g, S g → g < B) (hB : B ≤ w.heap.size) : Same S w w' := fun g hg => h.block g (Nat.lt_of_lt_of_le (hS g hg) hB) (fun e => by have := ho.ge e.symm; have := hS g hg; omega)
theorem grown_lift {w w2 w' : World} {r : Option Nat} (hb : Below w.heap.size w w2) (hg : w2.grownBy w' r) : w.grownBy w' r := ⟨hg.os.trans hb.os, hg.tape.trans hb.tape, hg.output.trans hb.output, Nat.le_trans hb.size hg.size, fun j hj hne => (hg.block j (Nat.lt_of_lt_of_le hj hb.size) hne).trans (hb.block j hj)⟩
theorem fresh_lift {w w2 : World} {v v' : Value} (hs : w.heap.size ≤ w2.heap.size) (hf : Fresh w2 v v') : Fresh w v v' := by
  rcases hf with hf | ⟨g, hf, hgs⟩
  · exact .inl hf
  · exact .inr ⟨g, hf, Nat.le_trans hs hgs⟩
/-- of a child, by its box -/
def kidW (b : Ward.Box) (n : Nat) (c : Ward.NT n) : List Ward.Pt := if Ward.meets b (Ward.boxN n c) then Ward.withinN b n c else []
theorem kidW_len (b : Ward.Box) (n : Nat) : ∀ (K : List (Ward.NT n)) (i : Nat) (h : i < K.length), ((K.take i).flatMap (kidW b n)).length + (Ward.allN n K[i]).length ≤ (K.flatMap (Ward.allN n)).length
  | c :: K, 0, _ => by
    rw [List.flatMap_cons, List.length_append]
    show 0 + (Ward.allN n c).length ≤ _
    omega
  | c :: K, i + 1, h => by
    have ih := kidW_len b n K i (by simpa using h)
    rw [List.flatMap_cons, List.length_append, List.take_succ_cons, List.flatMap_cons, List.length_append]
    have h1 : (kidW b n c).length ≤ (Ward.allN n c).length := by
      unfold kidW
      split
      · exact Ward.within_le b n c
      · exact Nat.zero_le _
    rw [List.getElem_cons_succ]
    omega
/-- a box and a point as they lie -/
def BoxPt (w : World) (g k : Nat) (b : Ward.Box) (q : Ward.Pt) : Prop :=
  (w.cell? ⟨g, 0, none⟩ = some (I b.a) ∧ w.cell? ⟨g, 1, none⟩ = some (I b.b) ∧ w.cell? ⟨g, 2, none⟩ = some (I b.c) ∧ w.cell? ⟨g, 3, none⟩ = some (I b.d)) ∧
  w.cell? ⟨k, 0, none⟩ = some (I q.id) ∧ w.cell? ⟨k, 1, none⟩ = some (I q.x) ∧ w.cell? ⟨k, 2, none⟩ = some (I q.y)
theorem BoxPt.below {w w' : World} {g k : Nat} {b : Ward.Box} {q : Ward.Pt} {B : Nat} (h : BoxPt w g k b q) (hb : Below B w w') (hg : g < B) (hk : k < B) : BoxPt w' g k b q :=
  ⟨⟨(hb.cell (p := ⟨g, 0, none⟩) hg).trans h.1.1, (hb.cell (p := ⟨g, 1, none⟩) hg).trans h.1.2.1, (hb.cell (p := ⟨g, 2, none⟩) hg).trans h.1.2.2.1, (hb.cell (p := ⟨g, 3, none⟩) hg).trans h.1.2.2.2⟩,
   (hb.cell (p := ⟨k, 0, none⟩) hk).trans h.2.1, (hb.cell (p := ⟨k, 1, none⟩) hk).trans h.2.2.1, (hb.cell (p := ⟨k, 2, none⟩) hk).trans h.2.2.2⟩
theorem BoxPt.drew {w : World} {g k : Nat} {b : Ward.Box} {q : Ward.Pt} (h : BoxPt w g k b q) : BoxPt w.drew g k b q := by simpa [BoxPt] using h
theorem row4 {w : World} {g t : Nat} {a b c d : Value} (h : w.heap[g]? = some (.cells #[a, b, c, d] t (0, 0))) : w.cell? ⟨g, 0, none⟩ = some a ∧ w.cell? ⟨g, 1, none⟩ = some b ∧ w.cell? ⟨g, 2, none⟩ = some c ∧ w.cell? ⟨g, 3, none⟩ = some d := by
  refine ⟨?_, ?_, ?_, ?_⟩ <;> rw [cell_of_row _ _ _ _ _ _ h] <;> rfl
theorem filter_step (P : Ward.Pt → Bool) (L : List Ward.Pt) (i : Nat) (h : i < L.length) : (L.take (i + 1)).filter P = (L.take i).filter P ++ (if P L[i] then [L[i]] else []) := by
  rw [List.take_succ_eq_append_getElem h, List.filter_append]
  congr 1
  cases hp : P L[i] <;> simp [hp]
set_option maxRecDepth 100000 in
set_option maxHeartbeats 4000000 in
theorem appendWithin_any : ∀ (n : Nat) (t : Ward.NT n) (v : Value) (l : List Ward.Pt) (V : List Value) (b : Ward.Box) (w : World) (B : Nat) (S : Nat → Prop) (_ : ∀ g, S g → g < B) (_ : B ≤ w.heap.size) (_ : l.length + (Ward.allN n t).length ≤ 1000) (_ : Ward.Few n t) (_ : NodeIs w S n t V) (_ : Own w B v l),
    Calls Tryz.prog 76 #[v, .agg V.toArray, Bx b] w fun e w' => PutP w B v l (Ward.withinN b n t) e w' := by
  intro n
  induction n with
  | zero => intro t; exact nomatch t
  | succ n ih =>
    intro t v l V b w B S hS hB hlen hfew hN hown
    have HFEW := hide hfew
    clear hfew
    have IH := hide ih
    clear ih
    obtain ⟨a1, l1, c1, a2, l2, c2, hV, hd⟩ := hN.cells
    have HR := hide (show Row39 V by rw [hV]; exact nodeV_row hd)
    obtain ⟨vp, vc, hVe, -, ⟨ap, cp, rfl, hpts⟩, ⟨ac, cc, rfl, hkids⟩⟩ := hN
    have HVE := hide hVe
    have HPT := hide hpts
    have HKD := hide hkids
    have HO := hide hown
    have HS := hide hS
    have HLEN := hide hlen
    have HVB := hide (fun g (hg : v.ownBlock = some g) => And.intro (hown.ge hg) (hown.lt hg))
    obtain ⟨fs, hu⟩ := underNode
    have HU := hide hu
    clear hu hV hd hVe hpts hkids hown hS hlen
    have hb2 := fun o o' => ((Below.refl w.heap.size w).alloc (Nat.le_refl _) o).alloc (by simp) o'
    have hr2 := heap_alloc2_new w
    have hr1 := heap_alloc2_old w
    have hs2 := fun o o' => show ((w.alloc o).alloc o').heap.size = w.heap.size + 2 by simp
    go_enter Tryz.func76, Tryz.ntmps76
    go_upto_region 1 with fail
    generalize hW : World.alloc (World.alloc w _) _ = w1
    have hb1 : Below w.heap.size w w1 := by rw [← hW]; exact hb2 _ _
    have hn1 : w1.heap[w.heap.size]? = some (.cells V.toArray 90 (0, 0)) := by rw [← hW]; exact hr1 _ _
    have hx1 : w1.heap[w.heap.size + 1]? = some (.cells #[I b.a, I b.b, I b.c, I b.d] 88 (0, 0)) := by rw [← hW]; exact hr2 _ _
    have hs1 : w1.heap.size = w.heap.size + 2 := by rw [← hW]; exact hs2 _ _
    clear hb2 hr1 hr2 hs2 hW
    have HB1 := hide hb1
    have HX1 := hide hx1
    have HS1 := hide hs1
    have HN1 := hide (show w1.heap[w.heap.size]? = some (.cells (nodeV (.slice ap (Ward.Nd.pts t).length cp) (.slice ac (Ward.Nd.kids t).length cc) (Ward.Nd.box t) (Ward.Nd.n t) ((Ward.Nd.dig t).map Y)).toArray 90 (0, 0)) by rw [hn1, HVE.out])
    obtain ⟨⟨k0, k1⟩, -, -⟩ := node_cells HN1.out
    clear hb1 hn1 hx1 hs1
    go_wp2_with fail
    go_loopg [0, 14] (Ward.Nd.pts t).length (fun gk v0 v14 wq => ∃ i : Nat, gk = (Ward.Nd.pts t).length - i ∧ v14 = I i ∧ i ≤ (Ward.Nd.pts t).length ∧ Own wq B v0 (l ++ ((Ward.Nd.pts t).take i).filter (Ward.inB b)) ∧ w1.grownBy wq v.ownBlock ∧ Fresh w1 v v0)
    case atStart => exact ⟨0, by omega, rfl, by omega, by simpa using HO.out.below HB1.out, grown_of_below (Below.refl _ _), .inl rfl⟩
    case round =>
      obtain ⟨i, hgk, rfl, hi, ho, hgr, hf⟩ := hrel
      have HGK := hide hgk
      have HG := hide hgr
      have HF := hide hf
      have HOI := hide ho
      have hsz := hgr.size
      clear hgk hgr hf ho
      have hbx := (HG.out.block (w.heap.size + 1) (by have := HS1.out; omega) (fun e => by have := (HVB.out _ e.symm).2; omega)).trans HX1.out
      have HBX := hide hbx
      have hnd := (HG.out.block w.heap.size (by have := HS1.out; omega) (fun e => by have := (HVB.out _ e.symm).2; omega)).trans HN1.out
      have HND := hide hnd
      have HSZ := hide (show w.heap.size + 2 ≤ wr.heap.size by have := HS1.out; omega)
      clear hbx hnd
      by_cases hlt : i < (Ward.Nd.pts t).length
      · obtain ⟨g, o, rfl, hgS, hpts⟩ := HPT.out (fun e => by rw [e] at hlt; simp at hlt)
        have hgB := HS.out g hgS
        have hpi := ((hpts i hlt).below HB1.out (by omega)).block (w' := wr) (HG.out.block g (by have := HS1.out; omega) (fun e => by have := (HVB.out _ e.symm).1; omega))
        have HT := hide (filter_step (Ward.inB b) (Ward.Nd.pts t) i hlt)
        have hNl : (((Ward.Nd.pts t).take i).filter (Ward.inB b)).length ≤ (Ward.Nd.pts t).length := Nat.le_trans (List.length_filter_le _ _) (by rw [List.length_take]; omega)
        have hpl : (Ward.Nd.pts t).length ≤ (Ward.allN (n + 1) t).length := by
          show _ ≤ (Ward.Nd.pts t ++ _).length
          rw [List.length_append]; omega
        have HL := hide (show (l ++ ((Ward.Nd.pts t).take i).filter (Ward.inB b)).length ≤ 1000 by rw [List.length_append]; have := HLEN.out; omega)
        have hp1000 : (Ward.Nd.pts t).length ≤ 1000 := by have := HLEN.out; omega
        clear hpts hNl hpl
        generalize (Ward.Nd.pts t)[i] = q at *
        generalize ((Ward.Nd.pts t).take i).filter (Ward.inB b) = N at *
        obtain ⟨p1, p2, p3⟩ := hpi
        go_upto_region 4 with fail
        have hb5' := fun o => (Below.refl wr.heap.size wr).alloc (Nat.le_refl _) o
        have hr5' := heap_alloc_new wr
        have hs5' := fun o => show (wr.alloc o).heap.size = wr.heap.size + 1 by simp
        generalize hW : World.alloc wr _ = w5
        have hb5 : Below wr.heap.size wr w5 := by rw [← hW]; exact hb5' _
        have hr5 : w5.heap[wr.heap.size]? = some (.cells #[I q.id, I q.x, I q.y] 36 (0, 0)) := by rw [← hW]; exact hr5' _
        have hs5 : w5.heap.size = wr.heap.size + 1 := by rw [← hW]; exact hs5' _
        clear hb5' hr5' hs5' hW
        have H7 := hide (show BoxPt w5 (w.heap.size + 1) wr.heap.size b q from ⟨row4 ((hb5.block (w.heap.size + 1) (by have := HSZ.out; omega)).trans HBX.out), row3 hr5⟩)
        have HB5 := hide hb5
        have HR5 := hide hr5
        have hws := HSZ.out
        obtain ⟨⟨a1, a2, a3, a4⟩, a5, a6, a7⟩ := H7.out
        clear hb5 hr5 p1 p2 p3
        have HMT := hide (fun W => meets_any b (Ward.boxOf q) W)
        have HRW := hide (show Ward.inB b q = Ward.meets b (Ward.boxOf q) from rfl)
        generalize Ward.meets b (Ward.boxOf q) = r at *
        go_region_with (first | (go_at_call 79; go_must (refine (boxOf_any q w5.drew).mono ?_; rintro _ w6 ⟨rfl, hb6⟩; have hs6 := hb6.size; have H76 := hide (H7.out.drew.below hb6 (by simp; omega) (by simp; omega)); obtain ⟨⟨k1, k2, k3, k4⟩, k5, k6, k7⟩ := H76.out; have HB6 := hide hb6; clear hb6)) | (go_at_call 78; go_must (refine (HMT.out w6).mono ?_; rintro _ w7 ⟨rfl, hb7⟩; have hs7 := hb7.size; have H77 := hide (H76.out.below hb7 (by simp at hs6; omega) (by simp at hs6; omega)); obtain ⟨⟨m1, m2, m3, m4⟩, m5, m6, m7⟩ := H77.out; have HB7 := hide hb7; clear hb7)))
        all_goals
          have hd : w5.drew.heap.size = w5.heap.size := by simp
          rw [hd] at hs6
          have HBA := hide (show Below wr.heap.size wr w7 from ((HB5.out.drew.trans (HB6.out.mono (by omega))).trans (HB7.out.mono (by omega))))
          clear H7 H76 a1 a2 a3 a4 a5 a6 a7 k1 k2 k3 k4 k5 k6 k7 hd
          cases r with
          | false =>
            go_wp2_with fail
            go_roundg ((Ward.Nd.pts t).length - (i + 1))
            case measure => have := HGK.out; omega
            case rel =>
              refine ⟨i + 1, rfl, by go_num, hlt, ?_, ?_, HF.out⟩
              · rw [HT.out, HRW.out, if_neg (by simp), List.append_nil]
                exact HOI.out.below HBA.out
              · exact grown_trans HG.out HF.out (grown_of_below HBA.out)
          | true =>
            obtain ⟨v8, w8, h8, ho8, hg8, hf8⟩ := append_pt q (HOI.out.below HBA.out) (by omega) (by have := HL.out; omega)
            obtain ⟨au, cu, eu⟩ := HOI.out.slice
            subst eu
            have HO8 := hide ho8
            have HG8 := hide hg8
            have HF8 := hide hf8
            clear ho8 hg8 hf8
            go_wp2_with (at_builtin; refine Lib.wpList_append_run _ rfl (.tmp 22) (.tmp 24) 27 27 rfl _ _ rfl rfl _ _ h8 ?_)
            go_roundg ((Ward.Nd.pts t).length - (i + 1))
            case measure => have := HGK.out; omega
            case rel =>
              refine ⟨i + 1, rfl, by go_num, hlt, ?_, grown_trans HG.out HF.out (grown_lift HBA.out HG8.out), fresh_trans HF.out HG.out.size (fresh_lift HBA.out.size HF8.out)⟩
              rw [HT.out, HRW.out, if_pos rfl, ← List.append_assoc]
              exact HO8.out
      · have ei : i = (Ward.Nd.pts t).length := by omega
        subst ei
        rw [List.take_length] at HOI
        obtain ⟨⟨k0', k1'⟩, -, -⟩ := node_cells HND.out
        have HFN := hide (show l ++ Ward.withinN b (n + 1) t = (l ++ (Ward.Nd.pts t).filter (Ward.inB b)) ++ (Ward.Nd.kids t).flatMap (kidW b n) by rw [List.append_assoc]; rfl)
        have HNL := hide (show (l ++ (Ward.Nd.pts t).filter (Ward.inB b)).length + ((Ward.Nd.kids t).flatMap (Ward.allN n)).length ≤ 1000 by
          have h1 := HLEN.out
          have h2 := List.length_filter_le (Ward.inB b) (Ward.Nd.pts t)
          have h3 : (Ward.allN (n + 1) t).length = (Ward.Nd.pts t).length + ((Ward.Nd.kids t).flatMap (Ward.allN n)).length := by
            show (Ward.Nd.pts t ++ _).length = _
            rw [List.length_append]
          rw [List.length_append]; omega)
        generalize l ++ (Ward.Nd.pts t).filter (Ward.inB b) = M at *
        have HSM := hide (show Same S w wr from fun g hg => ((grown_same HG.out (HO.out.below HB1.out) HS.out (by have := HS1.out; omega)) g hg).trans (HB1.out.block g (by have := HS.out g hg; omega)))
        clear HN1 HX1 HPT HR HVE hsz hi hlt
        obtain ⟨wx, hwx⟩ : ∃ wx, wx = wr := ⟨_, rfl⟩
        subst hwx
        obtain ⟨vx, hvx⟩ : ∃ vx, vx = u0 := ⟨_, rfl⟩
        subst hvx
        go_wp2_with fail
        go_loopg [0, 30] (Ward.Nd.kids t).length (fun gk v0 v30 wq => ∃ i : Nat, gk = (Ward.Nd.kids t).length - i ∧ v30 = I i ∧ i ≤ (Ward.Nd.kids t).length ∧ Own wq B v0 (M ++ ((Ward.Nd.kids t).take i).flatMap (kidW b n)) ∧ wx.grownBy wq vx.ownBlock ∧ Fresh wx vx v0)
        case atStart => exact ⟨0, by omega, rfl, by omega, by simpa using HOI.out, grown_of_below (Below.refl _ _), .inl rfl⟩
        case round =>
          clear HGK
          obtain ⟨i, hgk, rfl, hi, ho2, hgr2, hf2⟩ := hrel
          have HGK := hide hgk
          have HG2 := hide hgr2
          have HF2 := hide hf2
          have HO2 := hide ho2
          have hxb := hgr2.size
          have HVX := hide (fun g (hg : vx.ownBlock = some g) => And.intro (HOI.out.ge hg) (HOI.out.lt hg))
          have HNV := hide (show ∀ g, vx.ownBlock = some g → g ≠ w.heap.size ∧ g ≠ w.heap.size + 1 from fun g hg => by
            rcases HF.out with h | ⟨g', h, hg'⟩
            · have := (HVB.out g (by rw [← h]; exact hg)).2
              omega
            · rw [hg] at h
              injection h with h
              have := HS1.out
              omega)
          have hbx := (HG2.out.block (w.heap.size + 1) (by have := HSZ.out; omega) (fun e => (HNV.out _ e.symm).2 rfl)).trans HBX.out
          have HBX2 := hide hbx
          have HSM2 := hide (show Same S w wr from fun g hg => (HG2.out.block g (by have := HS.out g hg; have := HSZ.out; omega) (fun e => by have := (HVX.out _ e.symm).1; have := HS.out g hg; omega)).trans (HSM.out g hg))
          clear hgk hgr2 hf2 ho2 hbx
          by_cases hlt : i < (Ward.Nd.kids t).length
          · obtain ⟨g, o, rfl, hgS, hrows⟩ := HKD.out (fun e => by rw [e] at hlt; simp at hlt)
            obtain ⟨U, hU, hc⟩ := hrows i hlt
            have HU2 := hide (NodeIs.keep HSM2.out (fun _ h => h) n _ U hU)
            have HC := hide (rangeAt_block hc (HSM2.out g hgS))
            have HT := hide (flat_step (kidW b n) (Ward.Nd.kids t) i hlt)
            have hml : (((Ward.Nd.kids t).take i).flatMap (kidW b n)).length + (Ward.allN n (Ward.Nd.kids t)[i]).length ≤ ((Ward.Nd.kids t).flatMap (Ward.allN n)).length := kidW_len b n _ i hlt
            have HL := hide (show (M ++ ((Ward.Nd.kids t).take i).flatMap (kidW b n)).length + (Ward.allN n (Ward.Nd.kids t)[i]).length ≤ 1000 by rw [List.length_append]; have := HNL.out; omega)
            have hk1000 : (Ward.Nd.kids t).length ≤ 4 := HFEW.out.2.1
            have HFC := hide (HFEW.out.2.2 _ (List.getElem_mem hlt))
            obtain ⟨d1, m1, e1, d2, m2, e2, hV, hd⟩ := HU2.out.cells
            have HR := hide (show Row39 U by rw [hV]; exact nodeV_row hd)
            have HVE := hide hV
            clear hV hd hc hU hrows hml
            generalize (Ward.Nd.kids t)[i] = c at *
            go_upto_region 10 with (first | (refine wpList_load_mid rfl 90 (.tmp 32) rfl g (o + i * 39) rfl U (.struct fs) HC.out HU.out rfl HR.out.infl ?_) | (refine wpList_store_row rfl 90 (.tmp 10) (.tmp 33) rfl wr.heap.size U.toArray rfl rfl 90 _ (heap_alloc_new wr _) HR.out.info (by rw [HR.out.size]; rfl) HR.out.one ?_; rw [World.setRow_alloc_new]))
            have hb5' := fun o => (Below.refl wr.heap.size wr).alloc (Nat.le_refl _) o
            have hr5' := heap_alloc_new wr
            have hs5' := fun o => show (wr.alloc o).heap.size = wr.heap.size + 1 by simp
            generalize hW : World.alloc wr _ = w5
            have hb5 : Below wr.heap.size wr w5 := by rw [← hW]; exact hb5' _
            have hr5 : w5.heap[wr.heap.size]? = some (.cells U.toArray 90 (0, 0)) := by rw [← hW]; exact hr5' _
            have hs5 : w5.heap.size = wr.heap.size + 1 := by rw [← hW]; exact hs5' _
            clear hb5' hr5' hs5' hW
            have HB5 := hide hb5
            have HR5 := hide hr5
            have hxx := HSZ.out
            obtain ⟨a1, a2, a3, a4⟩ := row4 ((hb5.block (w.heap.size + 1) (by omega)).trans HBX2.out)
            rw [HVE.out] at hr5
            obtain ⟨-, ⟨f1, f2, f3, f4⟩, -⟩ := node_cells hr5
            have HMT := hide (fun W => meets_any b (Ward.boxN n c) W)
            have HRW := hide (show kidW b n c = if Ward.meets b (Ward.boxN n c) then Ward.withinN b n c else [] from rfl)
            clear hb5 hr5
            generalize Ward.meets b (Ward.boxN n c) = r at *
            generalize Ward.boxN n c = bc at *
            go_wp2_with fail
            refine (HMT.out _).mono ?_
            rintro _ w6 ⟨rfl, hb6⟩
            have hs6 := hb6.size
            have HB6 := hide hb6
            have HBA := hide (show Below wr.heap.size wr w6 from HB5.out.trans (hb6.mono (by omega)))
            obtain ⟨q1, q2, q3, q4⟩ := row4 ((HBA.out.block (w.heap.size + 1) (by omega)).trans HBX2.out)
            have HR6 := hide ((hb6.block wr.heap.size (by omega)).trans HR5.out)
            clear hb6 a1 a2 a3 a4 f1 f2 f3 f4 HR5
            cases r with
            | false =>
              go_wp2_with fail
              go_roundg ((Ward.Nd.kids t).length - (i + 1))
              case measure => have := HGK.out; omega
              case rel =>
                refine ⟨i + 1, rfl, by go_num, hlt, ?_, grown_trans HG2.out HF2.out (grown_of_below HBA.out), HF2.out⟩
                rw [HT.out, HRW.out, if_neg (by simp), List.append_nil]
                exact HO2.out.below HBA.out
            | true =>
              have HIH := hide (IH.out c u0 (M ++ ((Ward.Nd.kids t).take i).flatMap (kidW b n)) U b w6 B S HS.out (by omega) HL.out HFC.out (NodeIs.keep (below_same HBA.out (fun g hg => by have := HS.out g hg; omega)) (fun _ h => h) n _ U HU2.out) (HO2.out.below HBA.out))
              generalize ((Ward.Nd.kids t).take i).flatMap (kidW b n) = N at *
              go_wp2_with (refine wpList_load_row rfl 90 (.tmp 10) rfl wr.heap.size rfl 90 U.toArray (0, 0) (.struct fs) HR6.out HU.out rfl HR.out.info ?_)
              refine HIH.out.mono ?_
              rintro _ w7 ⟨v7, rfl, ho7, hg7, hf7⟩
              have HO7 := hide ho7
              have HG7 := hide hg7
              have HF7 := hide hf7
              clear ho7 hg7 hf7
              go_wp2_with fail
              go_roundg ((Ward.Nd.kids t).length - (i + 1))
              case measure => have := HGK.out; omega
              case rel =>
                refine ⟨i + 1, rfl, by go_num, hlt, ?_, grown_trans HG2.out HF2.out (grown_lift HBA.out HG7.out), fresh_trans HF2.out HG2.out.size (fresh_lift HBA.out.size HF7.out)⟩
                rw [HT.out, HRW.out, if_pos trivial, ← List.append_assoc]
                exact HO7.out
          · have ei : i = (Ward.Nd.kids t).length := by omega
            subst ei
            rw [List.take_length, ← HFN.out] at HO2
            go_wp2
            go_ret
            refine ⟨_, rfl, HO2.out, grown_lift HB1.out (grown_trans HG.out HF.out HG2.out), fresh_lift HB1.out.size (fresh_trans HF.out HG.out.size HF2.out)⟩
end Go.Proofs.YtenaelkbgkpllaaGreatDoor
/- The text of a proof. -/
namespace Go.Proofs.YtenaelkbgkpllaaGreatDoor
open Go.RowKit

/-- what a proof has of a child -/
def kidP (m : Ward.Box → Bool) (n : Nat) (c : Ward.NT n) : List UInt8 := Ward.saidN n c ++ (if m (Ward.boxN n c) = true then 1 :: Ward.proofN m n c else [0])
theorem proofN_kids (m : Ward.Box → Bool) (n : Nat) (t : Ward.NT (n + 1)) (h : ¬ (Ward.Nd.kids t).length = 0) : Ward.proofN m (n + 1) t = [2, UInt8.ofNat (Ward.Nd.kids t).length] ++ (Ward.Nd.kids t).flatMap (kidP m n) := by
  show (if (Ward.Nd.kids t).length = 0 then _ else _) = _
  rw [if_neg h]
  rfl
theorem proofN_leaf (m : Ward.Box → Bool) (n : Nat) (t : Ward.NT (n + 1)) (h : (Ward.Nd.kids t).length = 0) : Ward.proofN m (n + 1) t = Ward.leafText (Ward.Nd.pts t) := by
  show (if (Ward.Nd.kids t).length = 0 then _ else _) = _
  rw [if_pos h]
theorem flat_part {α β : Type} (f : α → List β) : ∀ (K : List α) (i : Nat) (h : i < K.length), ((K.take i).flatMap f).length + (f K[i]).length ≤ (K.flatMap f).length
  | c :: K, 0, _ => by
    rw [List.flatMap_cons, List.length_append]
    show 0 + (f c).length ≤ _
    omega
  | c :: K, i + 1, h => by
    have ih := flat_part f K i (by simpa using h)
    rw [List.flatMap_cons, List.length_append, List.take_succ_cons, List.flatMap_cons, List.length_append, List.getElem_cons_succ]
    omega
/-- one byte put behind a text -/
theorem append_byte {w : World} {B : Nat} {v : Value} {l : List UInt8} (b : UInt8) (x : Int) (hx : ((b.toNat : Nat) : Int) = x) (hown : OwnB w B v l) (hB : B ≤ w.heap.size) (hl : l.length ≤ 900000) :
    ∃ v' w', (Builtin.append_ #[59, 59] 59 #[v, .slice (some ⟨w.heap.size, 0, none⟩) 1 1]).run Tryz.prog (w.alloc (.cells #[.int .u8 x] 5)) = .ok v' w' ∧ OwnB w' B v' (l ++ [b]) ∧ w.grownBy w' v.ownBlock ∧ Fresh w v v' := by
  subst hx
  obtain ⟨v1, w1, h1, ho1, hg1, hf1⟩ := append_bytes (w := w.alloc (.cells #[.int .u8 b.toNat] 5)) [b] ⟨w.heap.size, 0, none⟩ 1 (hown.below ((Below.refl w.heap.size w).alloc (Nat.le_refl _) _)) (by simp; omega) (by simp; omega) (fun j c hj => by
    rw [Addr.add_lit, Nat.zero_add, cell_of_row _ _ _ _ _ _ (heap_alloc_new w _)]
    match j, hj with
    | 0, hj => simp at hj; subst hj; rfl)
  exact ⟨v1, w1, h1, ho1, grown_lift ((Below.refl w.heap.size w).alloc (Nat.le_refl _) _) hg1, fresh_lift (by simp) hf1⟩
theorem append_two {w : World} {B : Nat} {v : Value} {l : List UInt8} (n : Nat) (hn : n ≤ 4) (hown : OwnB w B v l) (hB : B ≤ w.heap.size) (hl : l.length ≤ 900000) :
    ∃ v' w', (Builtin.append_ #[59, 59] 59 #[v, .slice (some ⟨w.heap.size, 0, none⟩) 2 2]).run Tryz.prog (w.alloc (.cells #[.int .u8 2, .int .u8 n] 5)) = .ok v' w' ∧ OwnB w' B v' (l ++ [2, UInt8.ofNat n]) ∧ w.grownBy w' v.ownBlock ∧ Fresh w v v' := by
  obtain ⟨v1, w1, h1, ho1, hg1, hf1⟩ := append_bytes (w := w.alloc (.cells #[.int .u8 2, .int .u8 n] 5)) [2, UInt8.ofNat n] ⟨w.heap.size, 0, none⟩ 2 (hown.below ((Below.refl w.heap.size w).alloc (Nat.le_refl _) _)) (by simp; omega) (by simp; omega) (fun j b hj => by
    have hkk : (UInt8.ofNat n).toNat = n := by rw [UInt8.toNat_ofNat']; omega
    rw [Addr.add_lit, Nat.zero_add, cell_of_row _ _ _ _ _ _ (heap_alloc_new w _)]
    match j, hj with
    | 0, hj => simp at hj; subst hj; rfl
    | 1, hj => simp at hj; subst hj; show some (Value.int .u8 (n : Int)) = some (Y (UInt8.ofNat n)); rw [Y, hkk])
  exact ⟨v1, w1, h1, ho1, grown_lift ((Below.refl w.heap.size w).alloc (Nat.le_refl _) _) hg1, fresh_lift (by simp) hf1⟩
/-- of the closure: which boxes must be shown -/
def MustIs (w : World) (B kq ka : Nat) (m : Ward.Box → Bool) : Prop := ∀ (W : World) (b : Ward.Box), b.In → Below B w W → Calls Tryz.prog 41 #[Bx b, .pointer (some ⟨kq, 0, none⟩), .pointer (some ⟨ka, 0, none⟩)] W fun e w' => e = .returned (.bool (m b)) ∧ Below W.heap.size W w'
theorem MustIs.below {w w' : World} {B kq ka : Nat} {m : Ward.Box → Bool} (h : MustIs w B kq ka m) (hb : Below B w w') : MustIs w' B kq ka m := fun W b hi hW => h W b hi (hb.trans hW)
theorem below_of_grown {w w' : World} {B : Nat} {v : Value} {l : List UInt8} (h : w.grownBy w' v.ownBlock) (ho : OwnB w B v l) (hB : B ≤ w.heap.size) : Below B w w' := ⟨h.os, h.tape, h.output, h.size, fun j hj => h.block j (by omega) (fun e => by have := (ho.lt e.symm).1; omega)⟩
set_option maxRecDepth 100000 in
set_option maxHeartbeats 4000000 in
theorem appendProof_any (m : Ward.Box → Bool) (kq ka : Nat) : ∀ (n : Nat) (t : Ward.NT n) (v : Value) (l : List UInt8) (V : List Value) (w : World) (B : Nat) (S : Nat → Prop) (_ : ∀ g, S g → g < B) (_ : B ≤ w.heap.size) (_ : l.length + (Ward.proofN m n t).length ≤ 600000) (_ : Ward.Few n t) (_ : Ward.InN n t) (_ : NodeIs w S n t V) (_ : OwnB w B v l) (_ : MustIs w B kq ka m),
    Calls Tryz.prog 81 #[v, .agg V.toArray, .func (.func 41) #[] #[.pointer (some ⟨kq, 0, none⟩), .pointer (some ⟨ka, 0, none⟩)]] w fun e w' => Put w B v l (Ward.proofN m n t) e w' := by
  intro n
  induction n with
  | zero => intro t; exact nomatch t
  | succ n ih =>
    intro t v l V w B S hS hB hlen hfew hin hN hown hmu
    have HIN := hide hin
    clear hin
    have IH := hide ih
    have HFEW := hide hfew
    have HMU := hide hmu
    clear ih hfew hmu
    obtain ⟨a1, l1, c1, a2, l2, c2, hV, hd⟩ := hN.cells
    have HR := hide (show Row39 V by rw [hV]; exact nodeV_row hd)
    obtain ⟨vp, vc, hVe, -, hrp, ⟨ac, cc, rfl, hkids⟩⟩ := hN
    have HVE := hide hVe
    have HRP := hide hrp
    have HKD := hide hkids
    have HO := hide hown
    have HS := hide hS
    have HLEN := hide hlen
    have HVB := hide (fun g (hg : v.ownBlock = some g) => OwnB.lt hown hg)
    have hk4 : (Ward.Nd.kids t).length ≤ 4 := HFEW.out.2.1
    have hp4 : (Ward.Nd.pts t).length ≤ 4 := HFEW.out.1
    obtain ⟨fs, hu⟩ := underNode
    have HU := hide hu
    obtain ⟨av, cv, rfl⟩ := hown.slice
    clear hu hV hd hVe hrp hkids hown hS hlen
    have hb2 := fun o => (Below.refl w.heap.size w).alloc (Nat.le_refl _) o
    have hr2 := heap_alloc_new w
    have hs2 := fun o => show (w.alloc o).heap.size = w.heap.size + 1 by simp
    go_enter Tryz.func81, Tryz.ntmps81
    go_upto_region 1 with fail
    generalize hW : World.alloc w _ = w1
    have hb1 : Below w.heap.size w w1 := by rw [← hW]; exact hb2 _
    have hn1 : w1.heap[w.heap.size]? = some (.cells V.toArray 90 (0, 0)) := by rw [← hW]; exact hr2 _
    have hs1 : w1.heap.size = w.heap.size + 1 := by rw [← hW]; exact hs2 _
    clear hb2 hr2 hs2 hW
    have HB1 := hide hb1
    have HS1 := hide hs1
    have HN1 := hide (show w1.heap[w.heap.size]? = some (.cells (nodeV vp (.slice ac (Ward.Nd.kids t).length cc) (Ward.Nd.box t) (Ward.Nd.n t) ((Ward.Nd.dig t).map Y)).toArray 90 (0, 0)) by rw [hn1, HVE.out])
    obtain ⟨⟨k0, k1⟩, -, -⟩ := node_cells HN1.out
    clear hb1 hn1 hs1
    by_cases h0 : (Ward.Nd.kids t).length = 0
    · have HPR := hide (proofN_leaf m n t h0)
      have HRB := hide (show ReadsB w1 B vp (Ward.Nd.pts t) from (HRP.out.keep (below_same HB1.out (fun g hg => by have := HS.out g hg; omega)) (fun _ h => h)).low HS.out)
      have HAL := hide (appendLeaf_any (.slice av l.length cv) l vp (Ward.Nd.pts t) w1 B (by have := HS1.out; omega) (by have := HLEN.out; omega) hp4 HRB.out (HO.out.below HB1.out))
      rw [h0] at k1
      go_wp2_with fail
      refine HAL.out.mono ?_
      rintro _ w2 ⟨v2, rfl, ho2, hg2, hf2⟩
      have HP := hide (show Put w B (.slice av l.length cv) l (Ward.proofN m (n + 1) t) (.returned v2) w2 from ⟨v2, rfl, by rw [HPR.out]; exact ho2, grown_lift HB1.out hg2, fresh_lift HB1.out.size hf2⟩)
      clear ho2 hg2 hf2
      go_wp2
      go_ret
      exact HP.out
    · have HPR := hide (proofN_kids m n t h0)
      have h0' : ¬ ((Ward.Nd.kids t).length : Int) = 0 := by omega
      obtain ⟨v2, w2, h2, ho2, hg2, hf2⟩ := append_two (w := w1) (Ward.Nd.kids t).length hk4 (HO.out.below HB1.out) (by have := HS1.out; omega) (by have := HLEN.out; omega)
      have HO2 := hide ho2
      have HG2 := hide hg2
      have HF2 := hide hf2
      have hn2 := (hg2.block w.heap.size (by have := HS1.out; omega) (fun e => by have := (HVB.out _ e.symm).2; omega)).trans HN1.out
      have HN2 := hide hn2
      obtain ⟨⟨k2, k3⟩, -, -⟩ := node_cells hn2
      clear ho2 hg2 hf2 hn2
      go_wp2_with (at_builtin; refine Lib.wpList_append_run _ rfl (.tmp 17) (.tmp 22) 59 59 rfl _ _ rfl rfl _ _ h2 ?_)
      go_loopg [0, 27] (Ward.Nd.kids t).length (fun gk v0 v27 wq => ∃ i : Nat, gk = (Ward.Nd.kids t).length - i ∧ v27 = I i ∧ i ≤ (Ward.Nd.kids t).length ∧ OwnB wq B v0 (l ++ ([2, UInt8.ofNat (Ward.Nd.kids t).length] ++ ((Ward.Nd.kids t).take i).flatMap (kidP m n))) ∧ w1.grownBy wq (Value.slice av l.length cv).ownBlock ∧ Fresh w1 (.slice av l.length cv) v0)
      case atStart => exact ⟨0, by omega, rfl, by omega, by simpa using HO2.out, HG2.out, HF2.out⟩
      case round =>
        clear h2 HO2 HG2 HF2
        obtain ⟨i, hgk, rfl, hi, ho, hgr, hf⟩ := hrel
        have HGK := hide hgk
        have HG := hide hgr
        have HF := hide hf
        have HOI := hide ho
        have hsz := hgr.size
        clear hgk hgr hf ho
        have HSM := hide (show Same S w wr from fun g hg => (HG.out.block g (by have := HS.out g hg; have := HS1.out; omega) (fun e => by have := (HVB.out _ e.symm).1; have := HS.out g hg; omega)).trans (HB1.out.block g (by have := HS.out g hg; omega)))
        have HMW := hide (show MustIs wr B kq ka m from HMU.out.below ((HB1.out.mono hB).trans (below_of_grown HG.out (HO.out.below HB1.out) (by have := HS1.out; omega))))
        by_cases hlt : i < (Ward.Nd.kids t).length
        · obtain ⟨g, o, rfl, hgS, hrows⟩ := HKD.out (fun e => by rw [e] at hlt; simp at hlt)
          obtain ⟨U, hU, hc⟩ := hrows i hlt
          have HU2 := hide (NodeIs.keep HSM.out (fun _ h => h) n _ U hU)
          have HC := hide (rangeAt_block hc (HSM.out g hgS))
          have HT := hide (flat_step (kidP m n) (Ward.Nd.kids t) i hlt)
          have hfp := flat_part (kidP m n) (Ward.Nd.kids t) i hlt
          have HL := hide (show (l ++ ([2, UInt8.ofNat (Ward.Nd.kids t).length] ++ ((Ward.Nd.kids t).take i).flatMap (kidP m n))).length + (kidP m n (Ward.Nd.kids t)[i]).length ≤ 600000 by
            have h1 := HLEN.out
            rw [HPR.out, List.length_append] at h1
            rw [List.length_append, List.length_append]
            omega)
          have HFC := hide (HFEW.out.2.2 _ (List.getElem_mem hlt))
          have HIC := hide (HIN.out _ (List.getElem_mem hlt))
          have HAS := hide (show l ++ ([2, UInt8.ofNat (Ward.Nd.kids t).length] ++ ((Ward.Nd.kids t).take (i + 1)).flatMap (kidP m n)) = (l ++ ([2, UInt8.ofNat (Ward.Nd.kids t).length] ++ ((Ward.Nd.kids t).take i).flatMap (kidP m n))) ++ kidP m n (Ward.Nd.kids t)[i] by rw [HT.out]; simp only [List.append_assoc])
          obtain ⟨d1, m1, e1, d2, m2, e2, hV, hd⟩ := HU2.out.cells
          have HR2 := hide (show Row39 U by rw [hV]; exact nodeV_row hd)
          have HVE2 := hide hV
          clear hc hU hrows hfp HT
          generalize (Ward.Nd.kids t)[i] = c at *
          generalize l ++ ([2, UInt8.ofNat (Ward.Nd.kids t).length] ++ ((Ward.Nd.kids t).take i).flatMap (kidP m n)) = M at *
          have hs : Ward.saidN n c = childT (Ward.boxN n c) (Ward.numN n c) (Ward.digN n c) := (childT_said _ _ _).symm
          have HKP := hide (show kidP m n c = Ward.saidN n c ++ (if m (Ward.boxN n c) = true then 1 :: Ward.proofN m n c else [0]) from rfl)
          have HSL := hide (said_len HU2.out)
          have hM : M.length ≤ 600000 := by have := HL.out; omega
          have HA := hide (fun (w2 : World) (hB : B ≤ w2.heap.size) (hown : OwnB w2 B u0 M) => by
            have h := appendChild_any u0 M (.slice d1 m1 e1) (.slice d2 m2 e2) (Ward.boxN n c) (Ward.numN n c) (Ward.digN n c) w2 B hB (by omega) hd hown
            rw [← hV, ← hs] at h
            exact h)
          clear hs hV hd
          go_upto_region 7 with (first | (refine wpList_load_mid rfl 90 (.tmp 29) rfl g (o + i * 39) rfl U (.struct fs) HC.out HU.out rfl HR2.out.infl ?_) | (refine wpList_store_row rfl 90 (.tmp 8) (.tmp 30) rfl wr.heap.size U.toArray rfl rfl 90 _ (heap_alloc_new wr _) HR2.out.info (by rw [HR2.out.size]; rfl) HR2.out.one ?_; rw [World.setRow_alloc_new]))
          have hb5' := fun o => (Below.refl wr.heap.size wr).alloc (Nat.le_refl _) o
          have hr5' := heap_alloc_new wr
          have hs5' := fun o => show (wr.alloc o).heap.size = wr.heap.size + 1 by simp
          generalize hW : World.alloc wr _ = w5
          have hb5 : Below wr.heap.size wr w5 := by rw [← hW]; exact hb5' _
          have hr5 : w5.heap[wr.heap.size]? = some (.cells U.toArray 90 (0, 0)) := by rw [← hW]; exact hr5' _
          have hs5 : w5.heap.size = wr.heap.size + 1 := by rw [← hW]; exact hs5' _
          clear hb5' hr5' hs5' hW
          have HB5 := hide hb5
          have HR5 := hide hr5
          have hs1 : w.heap.size + 1 ≤ w1.heap.size := by have := HS1.out; omega
          have hs5i : wr.heap.size + 1 ≤ w5.heap.size := by omega
          clear hb5 hr5 hs5
          go_wp2_with (refine wpList_load_row rfl 90 (.tmp 8) rfl wr.heap.size rfl 90 U.toArray (0, 0) (.struct fs) HR5.out HU.out rfl HR2.out.info ?_)
          refine (HA.out w5 (by omega) (HOI.out.below HB5.out)).mono ?_
          rintro _ w6 ⟨v6, rfl, ho6, hg6, hf6⟩
          have hs6 := hg6.size
          have hr6 := (hg6.block wr.heap.size (by omega) (fun e => by have := (HOI.out.lt e.symm).2; omega)).trans HR5.out
          have HO6 := hide ho6
          have HG6 := hide (grown_lift HB5.out hg6)
          have HF6 := hide (fresh_lift HB5.out.size hf6)
          have HF5 := hide hf6
          have HR6 := hide hr6
          rw [HVE2.out] at hr6
          obtain ⟨-, ⟨f1, f2, f3, f4⟩, -⟩ := node_cells hr6
          have HMB := hide (HMW.out w6 (Ward.boxN n c) HIC.out.1 (below_of_grown HG6.out HOI.out (by omega)))
          clear ho6 hg6 hf6 hr6
          generalize m (Ward.boxN n c) = r at *
          generalize Ward.boxN n c = bc at *
          go_wp2_with fail
          refine HMB.out.mono ?_
          rintro _ w7 ⟨rfl, hb7⟩
          have hs7 := hb7.size
          have HB7 := hide hb7
          have HO7 := hide (HO6.out.below hb7)
          have HR7 := hide ((hb7.block wr.heap.size (by omega)).trans HR6.out)
          have HG7 := hide (grown_trans HG6.out HF6.out (grown_of_below (r := v6.ownBlock) hb7))
          have hM2 : (M ++ Ward.saidN n c).length ≤ 700000 := by rw [List.length_append]; have := HSL.out; omega
          generalize hME : M ++ Ward.saidN n c = M2 at *
          have HME := hide hME
          clear hME
          obtain ⟨a6, c6, e6⟩ := HO6.out.slice
          subst e6
          clear hb7 f1 f2 f3 f4 HMB HR6
          cases r with
          | false =>
            obtain ⟨v8, w8, h8, ho8, hg8, hf8⟩ := append_byte 0 0 (by decide) HO7.out (by omega) (by omega)
            have HO8 := hide ho8
            have HG8 := hide hg8
            have HF8 := hide hf8
            clear ho8 hg8 hf8
            go_wp2_with (at_builtin; refine Lib.wpList_append_run _ rfl (.tmp 39) (.tmp 40) 59 59 rfl _ _ rfl rfl _ _ h8 ?_)
            go_roundg ((Ward.Nd.kids t).length - (i + 1))
            case measure => have := HGK.out; omega
            case rel =>
              refine ⟨i + 1, rfl, by go_num, hlt, ?_, grown_trans HG.out HF.out (grown_trans HG7.out HF6.out HG8.out), fresh_trans HF.out HG.out.size (fresh_trans HF6.out HG7.out.size HF8.out)⟩
              rw [HAS.out, HKP.out, if_neg (by simp), ← List.append_assoc, HME.out]
              exact HO8.out
          | true =>
            obtain ⟨v8, w8, h8, ho8, hg8, hf8⟩ := append_byte 1 1 (by decide) HO7.out (by omega) (by omega)
            have hs8 := hg8.size
            have hr8 := (hg8.block wr.heap.size (by omega) (fun e => by
              rcases HF5.out with h | ⟨g', h, hg'⟩
              · rw [h] at e
                have := (HOI.out.lt e.symm).2
                omega
              · rw [← e] at h
                injection h with h
                omega)).trans HR7.out
            have HR8 := hide hr8
            have HO8 := hide ho8
            have HG8 := hide (grown_trans HG7.out HF6.out hg8)
            have HF8 := hide (fresh_trans HF6.out HG7.out.size hf8)
            clear hr8 ho8 hg8 hf8
            have HBB := hide (below_of_grown HG8.out HOI.out (by omega))
            have HIH := hide (IH.out c v8 (M2 ++ [1]) U w8 B S HS.out (by omega) (by
              have h := HL.out
              rw [HKP.out, if_pos rfl, List.length_append, List.length_cons] at h
              rw [← HME.out, List.length_append, List.length_append, List.length_singleton]
              omega) HFC.out HIC.out.2 (NodeIs.keep (fun g hg => HBB.out.block g (HS.out g hg)) (fun _ h => h) n _ U HU2.out) HO8.out (HMW.out.below HBB.out))
            generalize hM3 : M2 ++ [1] = M3 at *
            have HM3 := hide hM3
            clear hM3
            obtain ⟨a8, c8, e8⟩ := HO8.out.slice
            subst e8
            go_wp2_with (first | (at_builtin; refine Lib.wpList_append_run _ rfl (.tmp 42) (.tmp 43) 59 59 rfl _ _ rfl rfl _ _ h8 ?_) | (refine wpList_load_row rfl 90 (.tmp 8) rfl wr.heap.size rfl 90 U.toArray (0, 0) (.struct fs) HR8.out HU.out rfl HR2.out.info ?_))
            refine HIH.out.mono ?_
            rintro _ w9 ⟨v9, rfl, ho9, hg9, hf9⟩
            have HO9 := hide ho9
            have HG9 := hide (grown_trans HG8.out HF8.out hg9)
            have HF9 := hide (fresh_trans HF8.out HG8.out.size hf9)
            clear ho9 hg9 hf9 h8
            go_wp2_with fail
            go_roundg ((Ward.Nd.kids t).length - (i + 1))
            case measure => have := HGK.out; omega
            case rel =>
              refine ⟨i + 1, rfl, by go_num, hlt, ?_, grown_trans HG.out HF.out HG9.out, fresh_trans HF.out HG.out.size HF9.out⟩
              rw [HAS.out, HKP.out, if_pos trivial]
              have h := HO9.out
              rw [← HM3.out, ← HME.out] at h
              simp only [List.append_assoc, List.cons_append, List.nil_append] at h ⊢
              exact h
        · have ei : i = (Ward.Nd.kids t).length := by omega
          subst ei
          rw [List.take_length] at HOI
          go_wp2
          go_ret
          refine ⟨_, rfl, ?_, grown_lift HB1.out HG.out, fresh_lift HB1.out.size HF.out⟩
          rw [HPR.out]
          exact HOI.out
end Go.Proofs.YtenaelkbgkpllaaGreatDoor
/- The library's contract of slices.SortFunc, laid at this program. -/
namespace Go.Proofs.YtenaelkbgkpllaaGreatDoor
open Go.Shelf
def Tryz.sortPt_ren : Go.Shelf.Ren := ⟨fun | 6 => 77 | 15 => 118 | 14 => 117 | 28 => 154 | 29 => 155 | 20 => 146 | 21 => 147 | 22 => 148 | 23 => 149 | 24 => 150 | 25 => 151 | 26 => 152 | 27 => 153 | 46 => 176 | 47 => 177 | 48 => 178 | 49 => 179 | 50 => 180 | 57 => 192 | n => n, fun | 22 => 27 | 24 => 36 | 25 => 83 | 3 => 3 | 39 => 123 | 0 => 0 | 53 => 63 | 55 => 142 | 4 => 4 | 46 => 212 | 45 => 211 | 50 => 81 | 5 => 5 | 9 => 9 | 66 => 243 | 70 => 247 | 76 => 255 | 77 => 256 | n => n, fun | n => n⟩
theorem Tryz.sortPt : Go.Proofs.SlLaysF0.n6 Tryz.prog Tryz.sortPt_ren := {
  mixed := by kernel_rfl
  f6 := ⟨Tryz.f77.name, by decide, Tryz.func77.trans (congrArg some (by kernel_rfl))⟩
  f14 := ⟨Tryz.f117.name, by decide, Tryz.func117.trans (congrArg some (by kernel_rfl))⟩
  f15 := Tryz.func118.trans (congrArg some (by kernel_rfl))
  f20 := ⟨Tryz.f146.name, by decide, Tryz.func146.trans (congrArg some (by kernel_rfl))⟩
  f21 := ⟨Tryz.f147.name, by decide, Tryz.func147.trans (congrArg some (by kernel_rfl))⟩
  f22 := ⟨Tryz.f148.name, by decide, Tryz.func148.trans (congrArg some (by kernel_rfl))⟩
  f23 := ⟨Tryz.f149.name, by decide, Tryz.func149.trans (congrArg some (by kernel_rfl))⟩
  f24 := ⟨Tryz.f150.name, by decide, Tryz.func150.trans (congrArg some (by kernel_rfl))⟩
  f25 := ⟨Tryz.f151.name, by decide, Tryz.func151.trans (congrArg some (by kernel_rfl))⟩
  f26 := ⟨Tryz.f152.name, by decide, Tryz.func152.trans (congrArg some (by kernel_rfl))⟩
  f27 := ⟨Tryz.f153.name, by decide, Tryz.func153.trans (congrArg some (by kernel_rfl))⟩
  f28 := Tryz.func154.trans (congrArg some (by kernel_rfl))
  f29 := Tryz.func155.trans (congrArg some (by kernel_rfl))
  f46 := ⟨Tryz.f176.name, by decide, Tryz.func176.trans (congrArg some (by kernel_rfl))⟩
  f47 := Tryz.func177.trans (congrArg some (by kernel_rfl))
  f48 := Tryz.func178.trans (congrArg some (by kernel_rfl))
  f49 := ⟨Tryz.f179.name, by decide, Tryz.func179.trans (congrArg some (by kernel_rfl))⟩
  f50 := ⟨Tryz.f180.name, by decide, Tryz.func180.trans (congrArg some (by kernel_rfl))⟩
  f57 := ⟨Tryz.f192.name, by decide, Tryz.func192.trans (congrArg some (by kernel_rfl))⟩
  t0 := Tryz.underlying0
  a0 := Tryz.isAgg0
  z0 := Tryz.sizeOf0
  v0 := Tryz.zeroValue0
  t3 := Tryz.underlying3
  a3 := Tryz.isAgg3
  z3 := Tryz.sizeOf3
  v3 := Tryz.zeroValue3
  t4 := Tryz.underlying4
  a4 := Tryz.isAgg4
  z4 := Tryz.sizeOf4
  v4 := Tryz.zeroValue4
  t5 := Tryz.underlying5
  a5 := Tryz.isAgg5
  z5 := Tryz.sizeOf5
  v5 := Tryz.zeroValue5
  t9 := Tryz.underlying9
  a9 := Tryz.isAgg9
  z9 := Tryz.sizeOf9
  v9 := Tryz.zeroValue9
  t22 := Tryz.underlying27
  a22 := Tryz.isAgg27
  z22 := Tryz.sizeOf27
  v22 := Tryz.zeroValue27
  t25 := Tryz.underlying83
  a25 := Tryz.isAgg83
  z25 := Tryz.sizeOf83
  v25 := Tryz.zeroValue83
  t39 := Tryz.underlying123
  a39 := Tryz.isAgg123
  z39 := Tryz.sizeOf123
  v39 := Tryz.zeroValue123
  t45 := Tryz.underlying211
  a45 := Tryz.isAgg211
  z45 := Tryz.sizeOf211
  v45 := Tryz.zeroValue211
  t46 := Tryz.underlying212
  a46 := Tryz.isAgg212
  z46 := Tryz.sizeOf212
  v46 := Tryz.zeroValue212
  t50 := Tryz.underlying81
  a50 := Tryz.isAgg81
  z50 := Tryz.sizeOf81
  v50 := Tryz.zeroValue81
  t53 := Tryz.underlying63
  a53 := Tryz.isAgg63
  z53 := Tryz.sizeOf63
  v53 := Tryz.zeroValue63
  t55 := Tryz.underlying142
  a55 := Tryz.isAgg142
  z55 := Tryz.sizeOf142
  v55 := Tryz.zeroValue142
  t66 := Tryz.underlying243
  a66 := Tryz.isAgg243
  z66 := Tryz.sizeOf243
  v66 := Tryz.zeroValue243
  t70 := Tryz.underlying247
  a70 := Tryz.isAgg247
  z70 := Tryz.sizeOf247
  v70 := Tryz.zeroValue247
  t76 := Tryz.underlying255
  a76 := Tryz.isAgg255
  z76 := Tryz.sizeOf255
  v76 := Tryz.zeroValue255
  t77 := Tryz.underlying256
  a77 := Tryz.isAgg256
  z77 := Tryz.sizeOf256
  v77 := Tryz.zeroValue256 }

end Go.Proofs.YtenaelkbgkpllaaGreatDoor
/- Points sorted. -/
namespace Go.Proofs.YtenaelkbgkpllaaGreatDoor
open Go.RowKit

instance : Inhabited Ward.Pt := ⟨⟨0, 0, 0⟩⟩
set_option maxHeartbeats 1000000 in
/-- how two points compare, with all that it lays -/
theorem compare_grow (p q : Ward.Pt) (w : World) :
    Calls Tryz.prog 35 #[.agg #[I p.id, I p.x, I p.y], .agg #[I q.id, I q.x, I q.y]] w fun e w' => e = .returned (I (cmpP p q)) ∧ ∃ n os, w' = Go.Sort.grow (w.drewN n) os := by
  obtain ⟨pi, px, py⟩ := p
  obtain ⟨qi, qx, qy⟩ := q
  have HE := hide (show cmpP ⟨pi, px, py⟩ ⟨qi, qx, qy⟩ = orI (cmpI px qx) (cmpI py qy) (cmpI pi qi) from rfl)
  go_enter Tryz.func35, Tryz.ntmps35
  go_wp2_with fail
  have hz1 := heap_alloc2_old w
  have hz2 := heap_alloc2_new w
  have hgr := fun o o' o'' => show (((w.alloc o).alloc o').alloc o'').drew = Go.Sort.grow (w.drewN 1) #[o, o', o''] by
    rw [Go.Sort.alloc_eq_grow, Go.Sort.alloc_eq_grow, Go.Sort.alloc_eq_grow, Go.Sort.grow_grow, Go.Sort.grow_grow]
    rfl
  generalize hW : World.alloc _ _ = w0
  have r1 : w0.heap[w.heap.size]? = some (.cells #[I pi, I px, I py] 36 (0, 0)) := by rw [← hW]; exact hz1 _ _
  have r2 : w0.heap[w.heap.size + 1]? = some (.cells #[I qi, I qx, I qy] 36 (0, 0)) := by rw [← hW]; exact hz2 _ _
  have hz0 : w0.heap.size = w.heap.size + 2 := by rw [← hW]; simp
  have HG := hide (show ∀ o, ∃ os, (w0.alloc o).drew = Go.Sort.grow (w.drewN 1) os from fun o => ⟨_, by rw [← hW]; exact hgr _ _ o⟩)
  clear hz1 hz2 hgr hW
  obtain ⟨c1, c2, c3⟩ := row3 r1
  obtain ⟨d1, d2, d3⟩ := row3 r2
  have hS : Two w.heap.size (w.heap.size + 1) ⟨pi, px, py⟩ ⟨qi, qx, qy⟩ w0 := ⟨⟨c1, c2, c3⟩, d1, d2, d3⟩
  have HZ := hide hz0
  have HN := hide (show ∀ o, ((w0.alloc o).drew).heap[w0.heap.size]? = some o from fun o => heap_alloc_new w0 o)
  clear r1 r2 c1 c2 c3 d1 d2 d3 hz0
  go_region_held3 (fun W => (W.cell? ⟨w.heap.size, 0, none⟩ = some (I pi) ∧ W.cell? ⟨w.heap.size, 1, none⟩ = some (I px) ∧ W.cell? ⟨w.heap.size, 2, none⟩ = some (I py)) ∧ W.cell? ⟨w.heap.size + 1, 0, none⟩ = some (I qi) ∧ W.cell? ⟨w.heap.size + 1, 1, none⟩ = some (I qx) ∧ W.cell? ⟨w.heap.size + 1, 2, none⟩ = some (I qy)) (first | assumption | exact hS | exact Two.below hS (((Below.refl _ _).alloc (Nat.le_refl _) _).drew) (by have := HZ.out; omega) (by have := HZ.out; omega)) (first | (go_at_call 67; refine (cmpInt_any _ _ _).mono ?_; rintro _ _ ⟨rfl, rfl⟩) | (go_at_call 66; refine (or_any _ (cmpI px qx) (cmpI py qy) (cmpI pi qi) _ (row3 (HN.out _)).1 (row3 (HN.out _)).2.1 (row3 (HN.out _)).2.2).mono ?_; rintro _ _ ⟨rfl, rfl⟩))
  go_wp2
  go_ret
  obtain ⟨os, hos⟩ := HG.out (.cells #[I (cmpI px qx), I (cmpI py qy), I (cmpI pi qi)] 3)
  exact ⟨by rw [HE.out]; rfl, 1, os, hos⟩
theorem ltP (p q : Ward.Pt) : ltOf cmpP p q = decide (Ward.lt p q) := by
  unfold ltOf
  rw [Bool.eq_iff_iff, decide_eq_true_eq, decide_eq_true_eq]
  exact cmpP_lt p q
theorem swoP : Go.Sort.SWO (ltOf cmpP) := by
  refine ⟨fun x => ?_, fun x y z h1 h2 => ?_, fun x y z h1 h2 => ?_⟩
  · rw [ltP]; exact decide_eq_false (Ward.lt_irrefl x)
  · rw [ltP, decide_eq_true_eq] at *
    exact Ward.lt_trans h1 h2
  · rw [ltP, decide_eq_false_iff_not] at *
    unfold Ward.lt at *
    omega
theorem flatK_get (L : List Ward.Pt) : ∀ t, t < L.length * 3 → (L.flatMap P3)[t]? = some ((P3 (L.toArray[t / 3]!))[t % 3]!) := by
  intro t ht
  have hi : t / 3 < L.length := by omega
  obtain ⟨h0, h1, h2⟩ := P3_at L (t / 3) hi
  have e : L.toArray[t / 3]! = L[t / 3] := by
    rw [getElem!_pos L.toArray (t / 3) (by simpa using hi)]
    exact List.getElem_toArray _
  rw [e]
  have hm : t = t / 3 * 3 + t % 3 := by omega
  have hlt : t % 3 < 3 := Nat.mod_lt _ (by decide)
  rcases (show t % 3 = 0 ∨ t % 3 = 1 ∨ t % 3 = 2 by omega) with h | h | h
  · rw [h]; rw [h, Nat.add_zero] at hm; exact (congrArg (fun k => (L.flatMap P3)[k]?) hm).trans h0
  · rw [h]; rw [h] at hm; exact (congrArg (fun k => (L.flatMap P3)[k]?) hm).trans h1
  · rw [h]; rw [h] at hm; exact (congrArg (fun k => (L.flatMap P3)[k]?) hm).trans h2
theorem flatK_eq (L : List Ward.Pt) : Go.Sort.flatK P3 3 L.toArray = (L.flatMap P3).toArray := by
  have hs : (Go.Sort.flatK P3 3 L.toArray).size = (L.flatMap P3).toArray.size := by rw [Go.Sort.size_flatK, List.size_toArray, List.size_toArray, cells_len]
  refine Array.ext hs fun t h1 h2 => ?_
  have ht : t < L.length * 3 := by rw [Go.Sort.size_flatK, List.size_toArray] at h1; exact h1
  have hg := Go.Sort.get_flatK P3 3 L.toArray t (by rw [List.size_toArray]; exact ht)
  rw [getElem!_pos _ t h1] at hg
  rw [hg, List.getElem_toArray]
  have h := flatK_get L t ht
  rw [List.getElem?_eq_getElem (by rw [cells_len]; exact ht)] at h
  injection h with h
  exact h.symm
theorem own_holds {w : World} {B g c : Nat} {L : List Ward.Pt} (h : Own w B (.slice (some ⟨g, 0, none⟩) L.length c) L) : Go.Sort.HoldsK P3 3 w g 0 L.toArray := by
  unfold Go.Sort.HoldsK
  rw [flatK_eq]
  rcases h.2 with ⟨e, _⟩ | ⟨g', cap, cur, e, hB, hg, hcap, hmax, hcs, htake⟩
  · cases e
  · injection e with e1 e2 e3
    injection e1 with e1
    injection e1 with e1
    subst e1
    intro j hj
    rw [List.size_toArray] at hj
    refine ⟨?_, frozen_of_row _ _ _ _ _ hg⟩
    rw [cell_of_row _ _ _ _ _ _ hg, Nat.zero_add]
    have hj' : j < L.length * 3 := by rw [cells_len] at hj; exact hj
    have ht : (cur.toList.take (L.length * 3))[j]? = (L.flatMap P3)[j]? := by rw [htake]
    rw [List.getElem?_take, if_pos hj'] at ht
    rw [← Array.getElem?_toList, ht, List.getElem?_eq_getElem hj, getElem!_pos _ j (by simpa using hj)]
    simp
end Go.Proofs.YtenaelkbgkpllaaGreatDoor
/- Points sorted: the call. -/
namespace Go.Proofs.YtenaelkbgkpllaaGreatDoor
open Go.RowKit

theorem heap_mapBlock {w : World} {g : Nat} {f : Array Value → Array Value} {c : Array Value} {e : TypeId} {fr : Nat × Nat} (h : w.heap[g]? = some (.cells c e fr)) : (Go.Sort.mapBlock w g f).heap[g]? = some (.cells (f c) e fr) := by
  show (w.heap.modify g (Go.Sort.onCells f))[g]? = _
  rw [Array.getElem?_modify, if_pos rfl, h]
  rfl
theorem heap_mapBlock_other {w : World} {g k : Nat} {f : Array Value → Array Value} (h : g ≠ k) : (Go.Sort.mapBlock w g f).heap[k]? = w.heap[k]? := by
  show (w.heap.modify g (Go.Sort.onCells f))[k]? = _
  rw [Array.getElem?_modify, if_neg h]
theorem putCells_size (F cur : Array Value) : (Go.Sort.putCells id 0 F cur).size = cur.size := by
  unfold Go.Sort.putCells
  exact Array.size_mapIdx
theorem putCells_take (F : List Value) (cur : Array Value) (h : F.length ≤ cur.size) : (Go.Sort.putCells id 0 F.toArray cur).toList.take F.length = F := by
  apply List.ext_getElem?
  intro k
  rw [List.getElem?_take]
  by_cases hk : k < F.length
  · rw [if_pos hk, Array.getElem?_toList]
    unfold Go.Sort.putCells
    rw [Array.getElem?_mapIdx, Array.getElem?_eq_getElem (by omega), Option.map_some, if_pos (by rw [List.size_toArray]; omega), List.getElem?_eq_getElem hk, Nat.sub_zero, getElem!_pos _ k (by simpa using hk), List.getElem_toArray]
    rfl
  · rw [if_neg hk, List.getElem?_eq_none (by omega)]
theorem perm_of_in {d d' : Array Ward.Pt} (h : Go.Sort.PermIn 0 d.size d d') : d'.toList.Perm d.toList := by
  obtain ⟨h1, -, h3⟩ := h
  have e1 : d'.extract 0 d.size = d' := by rw [← h1]; exact Array.extract_size
  have e2 : d.extract 0 d.size = d := Array.extract_size
  rw [e1, e2] at h3
  exact h3
theorem sorted_of_in {d : Array Ward.Pt} (h : Go.Sort.SortedIn (ltOf cmpP) 0 d.size d) (hi : Ward.Ids d.toList) : Ward.Sorted d.toList := by
  refine List.pairwise_iff_getElem.2 fun i j hi' hj hij => ?_
  have hj' : j < d.size := by simpa using hj
  have h1 := h i j (Nat.zero_le _) hij hj'
  rw [ltP, decide_eq_false_iff_not, getElem!_pos d j hj', getElem!_pos d i (by omega)] at h1
  have hne := List.pairwise_iff_getElem.1 hi i j hi' hj hij
  simp only [Array.getElem_toList] at hne ⊢
  exact Ward.lt_tot (Ne.symm hne) h1
theorem sort_own {w : World} {B g c n : Nat} {L : List Ward.Pt} {d' : Array Ward.Pt} {os : Array Obj} (h : Own w B (.slice (some ⟨g, 0, none⟩) L.length c) L) (hs : d'.size = L.length) :
    Own (sortWorldK P3 3 w g 0 n d' os) B (.slice (some ⟨g, 0, none⟩) L.length c) d'.toList ∧ w.grownBy (sortWorldK P3 3 w g 0 n d' os) (some g) := by
  have hlt : g < w.heap.size := h.lt rfl
  have hl : d'.toList.length = L.length := by simpa using hs
  rcases h.2 with ⟨e, _⟩ | ⟨g', cap, cur, e, hB, hg, hcap, hmax, hcs, htake⟩
  · cases e
  · injection e with e1 e2 e3
    injection e1 with e1
    injection e1 with e1
    subst e1 e3
    have hr : (sortWorldK P3 3 w g 0 n d' os).heap[g]? = some (.cells (Go.Sort.putCells id 0 (Go.Sort.flatK P3 3 d') cur) 36 (0, 0)) := by
      unfold sortWorldK
      rw [Go.Sort.heap_grow_old _ _ (by rw [Go.Sort.size_putRowK]; exact hlt)]
      exact heap_mapBlock (w := Go.Sort.ahead w n) hg
    have hf : Go.Sort.flatK P3 3 d' = (d'.toList.flatMap P3).toArray := by
      have := flatK_eq d'.toList
      rw [Array.toArray_toList] at this
      exact this
    refine ⟨⟨by rw [cells_len], .inr ⟨g, c, _, by rw [hl], hB, hr, by rw [hl]; exact hcap, hmax, by rw [putCells_size]; exact hcs, ?_⟩⟩, ⟨rfl, rfl, rfl, ?_, fun k hk hne => ?_⟩⟩
    · rw [hf]
      have h2 := putCells_take (d'.toList.flatMap P3) cur (by rw [cells_len, hl, hcs]; exact Nat.mul_le_mul_right _ hcap)
      rw [cells_len] at h2
      exact h2
    · unfold sortWorldK
      rw [Go.Sort.size_grow, Go.Sort.size_putRowK]
      exact Nat.le_add_right _ _
    · unfold sortWorldK
      rw [Go.Sort.heap_grow_old _ _ (by rw [Go.Sort.size_putRowK]; exact hk)]
      exact heap_mapBlock_other (w := Go.Sort.ahead w n) (fun e => hne (by rw [e]))
/-- the points of a row, put in order -/
theorem sort_any (v : Value) (l : List Ward.Pt) (w : World) (B : Nat) (hown : Own w B v l) (hl : l.length ≤ 100000) (hi : Ward.Ids l) :
    Calls Tryz.prog 77 #[v, .func (.func 35) #[] #[]] w fun e w' => e = .returned (.tuple #[]) ∧ Own w' B v (Ward.sortP l) ∧ w.grownBy w' v.ownBlock := by
  rcases hown.2 with ⟨rfl, h0⟩ | ⟨g, cap, cur, rfl, _⟩
  · have hn : l = [] := List.length_eq_zero_iff.1 h0
    subst hn
    refine (AnyF.slices_SortFunc_none Tryz.sortPt none 0 (.func (.func 35) #[] #[]) w).mono ?_
    rintro _ _ ⟨rfl, rfl⟩
    exact ⟨rfl, World.ownsRow_nil _ _ _ _, grown_of_below (Below.refl _ _)⟩
  · have eg : ∀ args w, (callFunc 35 args).run Tryz.prog w = .ok (.enter 35 args) w := enters_of Tryz.func35 (by kernel_rfl) rfl
    have hcon := AnyQ.slices_SortFunc Tryz.sortPt 3 Tryz.isAgg36 Tryz.sizeOf36 P3 (fun _ => rfl) (fun x v hv => cells_one (L := [x]) v (by simpa using hv)) cmpP swoP 35 #[] g 0 cap l.toArray w eg (fun _ _ _ _ x y => compare_grow x y _) (own_holds hown) (hown.lt rfl) (by rw [List.size_toArray]; omega)
    rw [List.size_toArray] at hcon
    refine Calls.mono hcon ?_
    rintro _ _ ⟨rfl, d', n, os, hp, hs, rfl⟩
    have hsz : d'.size = l.length := by have := hp.1; rw [List.size_toArray] at this; exact this
    have hp' : d'.toList.Perm l := by
      have := perm_of_in (d := l.toArray) (by rw [List.size_toArray]; exact hp)
      simpa using this
    have hids : Ward.Ids d'.toList := (Ward.ids_perm hp').2 hi
    have e : Ward.sortP l = d'.toList := Ward.sortP_eq (sorted_of_in (by rw [hsz]; exact hs) hids) hp' hi
    obtain ⟨h1, h2⟩ := sort_own (n := n) (os := os) hown hsz
    rw [e]
    exact ⟨rfl, h1, h2⟩
end Go.Proofs.YtenaelkbgkpllaaGreatDoor
