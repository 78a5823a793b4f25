/- The points of a window. -/
import Derived.Test.YtenaelkbgkpllaaGreatDoorSole6
import Derived.Deep.DrawnRows
import Derived.Test.YtenaelkbgkpllaaGreatDoorSole2
import Derived.Maps.OwnSet
namespace Go.Proofs.YtenaelkbgkpllaaGreatDoor
open Go.RowKit

/-- a point put behind others -/
theorem append_pt {w : World} {B : Nat} {v : Value} {l : List Ward.Pt} (p : Ward.Pt) (hown : Own w B v l) (hB : B ≤ w.heap.size) (hn : l.length ≤ 100000) :
    ∃ v' w', (Builtin.append_ #[27, 27] 27 #[v, .slice (some ⟨w.heap.size, 0, none⟩) 1 1]).run Tryz.prog (w.alloc (.cells #[I p.id, I p.x, I p.y] 36)) = .ok v' w' ∧ Own w' B v' (l ++ [p]) ∧ w.grownBy w' v.ownBlock ∧ Fresh w v v' := by
  obtain ⟨i0, hi0, hz0, hz1, hz2⟩ := info_parts Tryz.infoPt
  have hown' : (w.alloc (.cells #[I p.id, I p.x, I p.y] 36)).ownsRow B 36 3 v l.length (l.flatMap P3) := World.ownsRow.alloc hown _
  obtain ⟨v', w', hr, ho, hg, hf⟩ := run_append_own2 (P := Tryz.prog) (w.alloc (.cells #[I p.id, I p.x, I p.y] 36)) B 27 27 36 i0 (.agg #[I 0, I 0, I 0]) 3 24 Tryz.underlying27 hi0 hz0 hz1 hz2 rfl (by decide) v l.length (l.flatMap P3) hown' ⟨w.heap.size, 0, none⟩ 1 1 (P3 p) rfl
    (fun j u hj => by
      rw [Addr.add_lit, Nat.zero_add, cell_of_row _ _ _ _ _ _ (heap_alloc_new w _)]
      rw [List.getElem?_toArray]
      exact hj)
    (fun u hu => cells_one (L := [p]) u (by simpa using hu)) (by unfold maxLen; omega) (by omega) (by simp; omega)
  refine ⟨v', w', hr, ?_, ⟨hg.os, hg.tape, hg.output, Nat.le_trans (by simp) hg.size, fun j hj hne => (hg.block j (by simp; omega) hne).trans (Below.heap_alloc w _ j hj)⟩, ?_⟩
  · unfold Own
    rw [List.length_append, List.flatMap_append]
    have e : [p].flatMap P3 = P3 p := by simp
    rw [e]
    exact ho
  · rcases hf with hf | ⟨g, hf, hgs⟩
    · exact .inl hf
    · exact .inr ⟨g, hf, Nat.le_trans (by simp) hgs⟩
/-- what putting points behind others leaves -/
def PutP (w : World) (B : Nat) (v : Value) (l more : List Ward.Pt) (e : Ending) (w' : World) : Prop := ∃ v', e = .returned v' ∧ Own w' B v' (l ++ more) ∧ w.grownBy w' v.ownBlock ∧ Fresh w v v'
theorem Own.slice {w : World} {B : Nat} {v : Value} {L : List Ward.Pt} (h : Own w B v L) : ∃ a c, v = .slice a L.length c := by
  rcases h.2 with ⟨rfl, h0⟩ | ⟨g, cap, cur, rfl, _⟩
  · exact ⟨none, 0, by rw [h0]⟩
  · exact ⟨_, cap, rfl⟩
theorem grown_of_below {w w' : World} {r : Option Nat} (h : Below w.heap.size w w') : w.grownBy w' r := ⟨h.os, h.tape, h.output, h.size, fun j hj _ => h.block j hj⟩
theorem grown_same {S : Nat → Prop} {w w' : World} {B : Nat} {v : Value} {L : List Ward.Pt} (h : w.grownBy w' v.ownBlock) (ho : Own w B v L) (hS : ∀ g, S g → g < B) (hB : B ≤ w.heap.size) : Same S w w' := fun g hg => h.block g (Nat.lt_of_lt_of_le (hS g hg) hB) (fun e => by have := ho.ge e.symm; have := hS g hg; omega)
theorem grown_lift {w w2 w' : World} {r : Option Nat} (hb : Below w.heap.size w w2) (hg : w2.grownBy w' r) : w.grownBy w' r := ⟨hg.os.trans hb.os, hg.tape.trans hb.tape, hg.output.trans hb.output, Nat.le_trans hb.size hg.size, fun j hj hne => (hg.block j (Nat.lt_of_lt_of_le hj hb.size) hne).trans (hb.block j hj)⟩
theorem fresh_lift {w w2 : World} {v v' : Value} (hs : w.heap.size ≤ w2.heap.size) (hf : Fresh w2 v v') : Fresh w v v' := by
  rcases hf with hf | ⟨g, hf, hgs⟩
  · exact .inl hf
  · exact .inr ⟨g, hf, Nat.le_trans hs hgs⟩
/-- of a child, by its box -/
def kidW (b : Ward.Box) (n : Nat) (c : Ward.NT n) : List Ward.Pt := if Ward.meets b (Ward.boxN n c) then Ward.withinN b n c else []
theorem kidW_len (b : Ward.Box) (n : Nat) : ∀ (K : List (Ward.NT n)) (i : Nat) (h : i < K.length), ((K.take i).flatMap (kidW b n)).length + (Ward.allN n K[i]).length ≤ (K.flatMap (Ward.allN n)).length
  | c :: K, 0, _ => by
    rw [List.flatMap_cons, List.length_append]
    show 0 + (Ward.allN n c).length ≤ _
    omega
  | c :: K, i + 1, h => by
    have ih := kidW_len b n K i (by simpa using h)
    rw [List.flatMap_cons, List.length_append, List.take_succ_cons, List.flatMap_cons, List.length_append]
    have h1 : (kidW b n c).length ≤ (Ward.allN n c).length := by
      unfold kidW
      split
      · exact Ward.within_le b n c
      · exact Nat.zero_le _
    rw [List.getElem_cons_succ]
    omega
/-- a box and a point as they lie -/
def BoxPt (w : World) (g k : Nat) (b : Ward.Box) (q : Ward.Pt) : Prop :=
  (w.cell? ⟨g, 0, none⟩ = some (I b.a) ∧ w.cell? ⟨g, 1, none⟩ = some (I b.b) ∧ w.cell? ⟨g, 2, none⟩ = some (I b.c) ∧ w.cell? ⟨g, 3, none⟩ = some (I b.d)) ∧
  w.cell? ⟨k, 0, none⟩ = some (I q.id) ∧ w.cell? ⟨k, 1, none⟩ = some (I q.x) ∧ w.cell? ⟨k, 2, none⟩ = some (I q.y)
theorem BoxPt.below {w w' : World} {g k : Nat} {b : Ward.Box} {q : Ward.Pt} {B : Nat} (h : BoxPt w g k b q) (hb : Below B w w') (hg : g < B) (hk : k < B) : BoxPt w' g k b q :=
  ⟨⟨(hb.cell (p := ⟨g, 0, none⟩) hg).trans h.1.1, (hb.cell (p := ⟨g, 1, none⟩) hg).trans h.1.2.1, (hb.cell (p := ⟨g, 2, none⟩) hg).trans h.1.2.2.1, (hb.cell (p := ⟨g, 3, none⟩) hg).trans h.1.2.2.2⟩,
   (hb.cell (p := ⟨k, 0, none⟩) hk).trans h.2.1, (hb.cell (p := ⟨k, 1, none⟩) hk).trans h.2.2.1, (hb.cell (p := ⟨k, 2, none⟩) hk).trans h.2.2.2⟩
theorem BoxPt.drew {w : World} {g k : Nat} {b : Ward.Box} {q : Ward.Pt} (h : BoxPt w g k b q) : BoxPt w.drew g k b q := by simpa [BoxPt] using h
theorem row4 {w : World} {g t : Nat} {a b c d : Value} (h : w.heap[g]? = some (.cells #[a, b, c, d] t (0, 0))) : w.cell? ⟨g, 0, none⟩ = some a ∧ w.cell? ⟨g, 1, none⟩ = some b ∧ w.cell? ⟨g, 2, none⟩ = some c ∧ w.cell? ⟨g, 3, none⟩ = some d := by
  refine ⟨?_, ?_, ?_, ?_⟩ <;> rw [cell_of_row _ _ _ _ _ _ h] <;> rfl
theorem filter_step (P : Ward.Pt → Bool) (L : List Ward.Pt) (i : Nat) (h : i < L.length) : (L.take (i + 1)).filter P = (L.take i).filter P ++ (if P L[i] then [L[i]] else []) := by
  rw [List.take_succ_eq_append_getElem h, List.filter_append]
  congr 1
  cases hp : P L[i] <;> simp [hp]
set_option maxRecDepth 100000 in
set_option maxHeartbeats 4000000 in
theorem appendWithin_any : ∀ (n : Nat) (t : Ward.NT n) (v : Value) (l : List Ward.Pt) (V : List Value) (b : Ward.Box) (w : World) (B : Nat) (S : Nat → Prop) (_ : ∀ g, S g → g < B) (_ : B ≤ w.heap.size) (_ : l.length + (Ward.allN n t).length ≤ 1000) (_ : Ward.Few n t) (_ : NodeIs w S n t V) (_ : Own w B v l),
    Calls Tryz.prog 76 #[v, .agg V.toArray, Bx b] w fun e w' => PutP w B v l (Ward.withinN b n t) e w' := by
  intro n
  induction n with
  | zero => intro t; exact nomatch t
  | succ n ih =>
    intro t v l V b w B S hS hB hlen hfew hN hown
    have HFEW := hide hfew
    clear hfew
    have IH := hide ih
    clear ih
    obtain ⟨a1, l1, c1, a2, l2, c2, hV, hd⟩ := hN.cells
    have HR := hide (show Row39 V by rw [hV]; exact nodeV_row hd)
    obtain ⟨vp, vc, hVe, -, ⟨ap, cp, rfl, hpts⟩, ⟨ac, cc, rfl, hkids⟩⟩ := hN
    have HVE := hide hVe
    have HPT := hide hpts
    have HKD := hide hkids
    have HO := hide hown
    have HS := hide hS
    have HLEN := hide hlen
    have HVB := hide (fun g (hg : v.ownBlock = some g) => And.intro (hown.ge hg) (hown.lt hg))
    obtain ⟨fs, hu⟩ := underNode
    have HU := hide hu
    clear hu hV hd hVe hpts hkids hown hS hlen
    have hb2 := fun o o' => ((Below.refl w.heap.size w).alloc (Nat.le_refl _) o).alloc (by simp) o'
    have hr2 := heap_alloc2_new w
    have hr1 := heap_alloc2_old w
    have hs2 := fun o o' => show ((w.alloc o).alloc o').heap.size = w.heap.size + 2 by simp
    go_enter Tryz.func76, Tryz.ntmps76
    go_upto_region 1 with fail
    generalize hW : World.alloc (World.alloc w _) _ = w1
    have hb1 : Below w.heap.size w w1 := by rw [← hW]; exact hb2 _ _
    have hn1 : w1.heap[w.heap.size]? = some (.cells V.toArray 90 (0, 0)) := by rw [← hW]; exact hr1 _ _
    have hx1 : w1.heap[w.heap.size + 1]? = some (.cells #[I b.a, I b.b, I b.c, I b.d] 88 (0, 0)) := by rw [← hW]; exact hr2 _ _
    have hs1 : w1.heap.size = w.heap.size + 2 := by rw [← hW]; exact hs2 _ _
    clear hb2 hr1 hr2 hs2 hW
    have HB1 := hide hb1
    have HX1 := hide hx1
    have HS1 := hide hs1
    have HN1 := hide (show w1.heap[w.heap.size]? = some (.cells (nodeV (.slice ap (Ward.Nd.pts t).length cp) (.slice ac (Ward.Nd.kids t).length cc) (Ward.Nd.box t) (Ward.Nd.n t) ((Ward.Nd.dig t).map Y)).toArray 90 (0, 0)) by rw [hn1, HVE.out])
    obtain ⟨⟨k0, k1⟩, -, -⟩ := node_cells HN1.out
    clear hb1 hn1 hx1 hs1
    go_wp2_with fail
    go_loopg [0, 14] (Ward.Nd.pts t).length (fun gk v0 v14 wq => ∃ i : Nat, gk = (Ward.Nd.pts t).length - i ∧ v14 = I i ∧ i ≤ (Ward.Nd.pts t).length ∧ Own wq B v0 (l ++ ((Ward.Nd.pts t).take i).filter (Ward.inB b)) ∧ w1.grownBy wq v.ownBlock ∧ Fresh w1 v v0)
    case atStart => exact ⟨0, by omega, rfl, by omega, by simpa using HO.out.below HB1.out, grown_of_below (Below.refl _ _), .inl rfl⟩
    case round =>
      obtain ⟨i, hgk, rfl, hi, ho, hgr, hf⟩ := hrel
      have HGK := hide hgk
      have HG := hide hgr
      have HF := hide hf
      have HOI := hide ho
      have hsz := hgr.size
      clear hgk hgr hf ho
      have hbx := (HG.out.block (w.heap.size + 1) (by have := HS1.out; omega) (fun e => by have := (HVB.out _ e.symm).2; omega)).trans HX1.out
      have HBX := hide hbx
      have hnd := (HG.out.block w.heap.size (by have := HS1.out; omega) (fun e => by have := (HVB.out _ e.symm).2; omega)).trans HN1.out
      have HND := hide hnd
      have HSZ := hide (show w.heap.size + 2 ≤ wr.heap.size by have := HS1.out; omega)
      clear hbx hnd
      by_cases hlt : i < (Ward.Nd.pts t).length
      · obtain ⟨g, o, rfl, hgS, hpts⟩ := HPT.out (fun e => by rw [e] at hlt; simp at hlt)
        have hgB := HS.out g hgS
        have hpi := ((hpts i hlt).below HB1.out (by omega)).block (w' := wr) (HG.out.block g (by have := HS1.out; omega) (fun e => by have := (HVB.out _ e.symm).1; omega))
        have HT := hide (filter_step (Ward.inB b) (Ward.Nd.pts t) i hlt)
        have hNl : (((Ward.Nd.pts t).take i).filter (Ward.inB b)).length ≤ (Ward.Nd.pts t).length := Nat.le_trans (List.length_filter_le _ _) (by rw [List.length_take]; omega)
        have hpl : (Ward.Nd.pts t).length ≤ (Ward.allN (n + 1) t).length := by
          show _ ≤ (Ward.Nd.pts t ++ _).length
          rw [List.length_append]; omega
        have HL := hide (show (l ++ ((Ward.Nd.pts t).take i).filter (Ward.inB b)).length ≤ 1000 by rw [List.length_append]; have := HLEN.out; omega)
        have hp1000 : (Ward.Nd.pts t).length ≤ 1000 := by have := HLEN.out; omega
        clear hpts hNl hpl
        generalize (Ward.Nd.pts t)[i] = q at *
        generalize ((Ward.Nd.pts t).take i).filter (Ward.inB b) = N at *
        obtain ⟨p1, p2, p3⟩ := hpi
        go_upto_region 4 with fail
        have hb5' := fun o => (Below.refl wr.heap.size wr).alloc (Nat.le_refl _) o
        have hr5' := heap_alloc_new wr
        have hs5' := fun o => show (wr.alloc o).heap.size = wr.heap.size + 1 by simp
        generalize hW : World.alloc wr _ = w5
        have hb5 : Below wr.heap.size wr w5 := by rw [← hW]; exact hb5' _
        have hr5 : w5.heap[wr.heap.size]? = some (.cells #[I q.id, I q.x, I q.y] 36 (0, 0)) := by rw [← hW]; exact hr5' _
        have hs5 : w5.heap.size = wr.heap.size + 1 := by rw [← hW]; exact hs5' _
        clear hb5' hr5' hs5' hW
        have H7 := hide (show BoxPt w5 (w.heap.size + 1) wr.heap.size b q from ⟨row4 ((hb5.block (w.heap.size + 1) (by have := HSZ.out; omega)).trans HBX.out), row3 hr5⟩)
        have HB5 := hide hb5
        have HR5 := hide hr5
        have hws := HSZ.out
        obtain ⟨⟨a1, a2, a3, a4⟩, a5, a6, a7⟩ := H7.out
        clear hb5 hr5 p1 p2 p3
        have HMT := hide (fun W => meets_any b (Ward.boxOf q) W)
        have HRW := hide (show Ward.inB b q = Ward.meets b (Ward.boxOf q) from rfl)
        generalize Ward.meets b (Ward.boxOf q) = r at *
        go_region_with (first | (go_at_call 79; go_must (refine (boxOf_any q w5.drew).mono ?_; rintro _ w6 ⟨rfl, hb6⟩; have hs6 := hb6.size; have H76 := hide (H7.out.drew.below hb6 (by simp; omega) (by simp; omega)); obtain ⟨⟨k1, k2, k3, k4⟩, k5, k6, k7⟩ := H76.out; have HB6 := hide hb6; clear hb6)) | (go_at_call 78; go_must (refine (HMT.out w6).mono ?_; rintro _ w7 ⟨rfl, hb7⟩; have hs7 := hb7.size; have H77 := hide (H76.out.below hb7 (by simp at hs6; omega) (by simp at hs6; omega)); obtain ⟨⟨m1, m2, m3, m4⟩, m5, m6, m7⟩ := H77.out; have HB7 := hide hb7; clear hb7)))
        all_goals
          have hd : w5.drew.heap.size = w5.heap.size := by simp
          rw [hd] at hs6
          have HBA := hide (show Below wr.heap.size wr w7 from ((HB5.out.drew.trans (HB6.out.mono (by omega))).trans (HB7.out.mono (by omega))))
          clear H7 H76 a1 a2 a3 a4 a5 a6 a7 k1 k2 k3 k4 k5 k6 k7 hd
          cases r with
          | false =>
            go_wp2_with fail
            go_roundg ((Ward.Nd.pts t).length - (i + 1))
            case measure => have := HGK.out; omega
            case rel =>
              refine ⟨i + 1, rfl, by go_num, hlt, ?_, ?_, HF.out⟩
              · rw [HT.out, HRW.out, if_neg (by simp), List.append_nil]
                exact HOI.out.below HBA.out
              · exact grown_trans HG.out HF.out (grown_of_below HBA.out)
          | true =>
            obtain ⟨v8, w8, h8, ho8, hg8, hf8⟩ := append_pt q (HOI.out.below HBA.out) (by omega) (by have := HL.out; omega)
            obtain ⟨au, cu, eu⟩ := HOI.out.slice
            subst eu
            have HO8 := hide ho8
            have HG8 := hide hg8
            have HF8 := hide hf8
            clear ho8 hg8 hf8
            go_wp2_with (at_builtin; refine Lib.wpList_append_run _ rfl (.tmp 22) (.tmp 24) 27 27 rfl _ _ rfl rfl _ _ h8 ?_)
            go_roundg ((Ward.Nd.pts t).length - (i + 1))
            case measure => have := HGK.out; omega
            case rel =>
              refine ⟨i + 1, rfl, by go_num, hlt, ?_, grown_trans HG.out HF.out (grown_lift HBA.out HG8.out), fresh_trans HF.out HG.out.size (fresh_lift HBA.out.size HF8.out)⟩
              rw [HT.out, HRW.out, if_pos rfl, ← List.append_assoc]
              exact HO8.out
      · have ei : i = (Ward.Nd.pts t).length := by omega
        subst ei
        rw [List.take_length] at HOI
        obtain ⟨⟨k0', k1'⟩, -, -⟩ := node_cells HND.out
        have HFN := hide (show l ++ Ward.withinN b (n + 1) t = (l ++ (Ward.Nd.pts t).filter (Ward.inB b)) ++ (Ward.Nd.kids t).flatMap (kidW b n) by rw [List.append_assoc]; rfl)
        have HNL := hide (show (l ++ (Ward.Nd.pts t).filter (Ward.inB b)).length + ((Ward.Nd.kids t).flatMap (Ward.allN n)).length ≤ 1000 by
          have h1 := HLEN.out
          have h2 := List.length_filter_le (Ward.inB b) (Ward.Nd.pts t)
          have h3 : (Ward.allN (n + 1) t).length = (Ward.Nd.pts t).length + ((Ward.Nd.kids t).flatMap (Ward.allN n)).length := by
            show (Ward.Nd.pts t ++ _).length = _
            rw [List.length_append]
          rw [List.length_append]; omega)
        generalize l ++ (Ward.Nd.pts t).filter (Ward.inB b) = M at *
        have HSM := hide (show Same S w wr from fun g hg => ((grown_same HG.out (HO.out.below HB1.out) HS.out (by have := HS1.out; omega)) g hg).trans (HB1.out.block g (by have := HS.out g hg; omega)))
        clear HN1 HX1 HPT HR HVE hsz hi hlt
        obtain ⟨wx, hwx⟩ : ∃ wx, wx = wr := ⟨_, rfl⟩
        subst hwx
        obtain ⟨vx, hvx⟩ : ∃ vx, vx = u0 := ⟨_, rfl⟩
        subst hvx
        go_wp2_with fail
        go_loopg [0, 30] (Ward.Nd.kids t).length (fun gk v0 v30 wq => ∃ i : Nat, gk = (Ward.Nd.kids t).length - i ∧ v30 = I i ∧ i ≤ (Ward.Nd.kids t).length ∧ Own wq B v0 (M ++ ((Ward.Nd.kids t).take i).flatMap (kidW b n)) ∧ wx.grownBy wq vx.ownBlock ∧ Fresh wx vx v0)
        case atStart => exact ⟨0, by omega, rfl, by omega, by simpa using HOI.out, grown_of_below (Below.refl _ _), .inl rfl⟩
        case round =>
          clear HGK
          obtain ⟨i, hgk, rfl, hi, ho2, hgr2, hf2⟩ := hrel
          have HGK := hide hgk
          have HG2 := hide hgr2
          have HF2 := hide hf2
          have HO2 := hide ho2
          have hxb := hgr2.size
          have HVX := hide (fun g (hg : vx.ownBlock = some g) => And.intro (HOI.out.ge hg) (HOI.out.lt hg))
          have HNV := hide (show ∀ g, vx.ownBlock = some g → g ≠ w.heap.size ∧ g ≠ w.heap.size + 1 from fun g hg => by
            rcases HF.out with h | ⟨g', h, hg'⟩
            · have := (HVB.out g (by rw [← h]; exact hg)).2
              omega
            · rw [hg] at h
              injection h with h
              have := HS1.out
              omega)
          have hbx := (HG2.out.block (w.heap.size + 1) (by have := HSZ.out; omega) (fun e => (HNV.out _ e.symm).2 rfl)).trans HBX.out
          have HBX2 := hide hbx
          have HSM2 := hide (show Same S w wr from fun g hg => (HG2.out.block g (by have := HS.out g hg; have := HSZ.out; omega) (fun e => by have := (HVX.out _ e.symm).1; have := HS.out g hg; omega)).trans (HSM.out g hg))
          clear hgk hgr2 hf2 ho2 hbx
          by_cases hlt : i < (Ward.Nd.kids t).length
          · obtain ⟨g, o, rfl, hgS, hrows⟩ := HKD.out (fun e => by rw [e] at hlt; simp at hlt)
            obtain ⟨U, hU, hc⟩ := hrows i hlt
            have HU2 := hide (NodeIs.keep HSM2.out (fun _ h => h) n _ U hU)
            have HC := hide (rangeAt_block hc (HSM2.out g hgS))
            have HT := hide (flat_step (kidW b n) (Ward.Nd.kids t) i hlt)
            have hml : (((Ward.Nd.kids t).take i).flatMap (kidW b n)).length + (Ward.allN n (Ward.Nd.kids t)[i]).length ≤ ((Ward.Nd.kids t).flatMap (Ward.allN n)).length := kidW_len b n _ i hlt
            have HL := hide (show (M ++ ((Ward.Nd.kids t).take i).flatMap (kidW b n)).length + (Ward.allN n (Ward.Nd.kids t)[i]).length ≤ 1000 by rw [List.length_append]; have := HNL.out; omega)
            have hk1000 : (Ward.Nd.kids t).length ≤ 4 := HFEW.out.2.1
            have HFC := hide (HFEW.out.2.2 _ (List.getElem_mem hlt))
            obtain ⟨d1, m1, e1, d2, m2, e2, hV, hd⟩ := HU2.out.cells
            have HR := hide (show Row39 U by rw [hV]; exact nodeV_row hd)
            have HVE := hide hV
            clear hV hd hc hU hrows hml
            generalize (Ward.Nd.kids t)[i] = c at *
            go_upto_region 10 with (first | (refine wpList_load_mid rfl 90 (.tmp 32) rfl g (o + i * 39) rfl U (.struct fs) HC.out HU.out rfl HR.out.infl ?_) | (refine wpList_store_row rfl 90 (.tmp 10) (.tmp 33) rfl wr.heap.size U.toArray rfl rfl 90 _ (heap_alloc_new wr _) HR.out.info (by rw [HR.out.size]; rfl) HR.out.one ?_; rw [World.setRow_alloc_new]))
            have hb5' := fun o => (Below.refl wr.heap.size wr).alloc (Nat.le_refl _) o
            have hr5' := heap_alloc_new wr
            have hs5' := fun o => show (wr.alloc o).heap.size = wr.heap.size + 1 by simp
            generalize hW : World.alloc wr _ = w5
            have hb5 : Below wr.heap.size wr w5 := by rw [← hW]; exact hb5' _
            have hr5 : w5.heap[wr.heap.size]? = some (.cells U.toArray 90 (0, 0)) := by rw [← hW]; exact hr5' _
            have hs5 : w5.heap.size = wr.heap.size + 1 := by rw [← hW]; exact hs5' _
            clear hb5' hr5' hs5' hW
            have HB5 := hide hb5
            have HR5 := hide hr5
            have hxx := HSZ.out
            obtain ⟨a1, a2, a3, a4⟩ := row4 ((hb5.block (w.heap.size + 1) (by omega)).trans HBX2.out)
            rw [HVE.out] at hr5
            obtain ⟨-, ⟨f1, f2, f3, f4⟩, -⟩ := node_cells hr5
            have HMT := hide (fun W => meets_any b (Ward.boxN n c) W)
            have HRW := hide (show kidW b n c = if Ward.meets b (Ward.boxN n c) then Ward.withinN b n c else [] from rfl)
            clear hb5 hr5
            generalize Ward.meets b (Ward.boxN n c) = r at *
            generalize Ward.boxN n c = bc at *
            go_wp2_with fail
            refine (HMT.out _).mono ?_
            rintro _ w6 ⟨rfl, hb6⟩
            have hs6 := hb6.size
            have HB6 := hide hb6
            have HBA := hide (show Below wr.heap.size wr w6 from HB5.out.trans (hb6.mono (by omega)))
            obtain ⟨q1, q2, q3, q4⟩ := row4 ((HBA.out.block (w.heap.size + 1) (by omega)).trans HBX2.out)
            have HR6 := hide ((hb6.block wr.heap.size (by omega)).trans HR5.out)
            clear hb6 a1 a2 a3 a4 f1 f2 f3 f4 HR5
            cases r with
            | false =>
              go_wp2_with fail
              go_roundg ((Ward.Nd.kids t).length - (i + 1))
              case measure => have := HGK.out; omega
              case rel =>
                refine ⟨i + 1, rfl, by go_num, hlt, ?_, grown_trans HG2.out HF2.out (grown_of_below HBA.out), HF2.out⟩
                rw [HT.out, HRW.out, if_neg (by simp), List.append_nil]
                exact HO2.out.below HBA.out
            | true =>
              have HIH := hide (IH.out c u0 (M ++ ((Ward.Nd.kids t).take i).flatMap (kidW b n)) U b w6 B S HS.out (by omega) HL.out HFC.out (NodeIs.keep (below_same HBA.out (fun g hg => by have := HS.out g hg; omega)) (fun _ h => h) n _ U HU2.out) (HO2.out.below HBA.out))
              generalize ((Ward.Nd.kids t).take i).flatMap (kidW b n) = N at *
              go_wp2_with (refine wpList_load_row rfl 90 (.tmp 10) rfl wr.heap.size rfl 90 U.toArray (0, 0) (.struct fs) HR6.out HU.out rfl HR.out.info ?_)
              refine HIH.out.mono ?_
              rintro _ w7 ⟨v7, rfl, ho7, hg7, hf7⟩
              have HO7 := hide ho7
              have HG7 := hide hg7
              have HF7 := hide hf7
              clear ho7 hg7 hf7
              go_wp2_with fail
              go_roundg ((Ward.Nd.kids t).length - (i + 1))
              case measure => have := HGK.out; omega
              case rel =>
                refine ⟨i + 1, rfl, by go_num, hlt, ?_, grown_trans HG2.out HF2.out (grown_lift HBA.out HG7.out), fresh_trans HF2.out HG2.out.size (fresh_lift HBA.out.size HF7.out)⟩
                rw [HT.out, HRW.out, if_pos trivial, ← List.append_assoc]
                exact HO7.out
          · have ei : i = (Ward.Nd.kids t).length := by omega
            subst ei
            rw [List.take_length, ← HFN.out] at HO2
            go_wp2
            go_ret
            refine ⟨_, rfl, HO2.out, grown_lift HB1.out (grown_trans HG.out HF.out HG2.out), fresh_lift HB1.out.size (fresh_trans HF.out HG.out.size HF2.out)⟩
end Go.Proofs.YtenaelkbgkpllaaGreatDoor
/- One level of nodes above another: the call. -/
namespace Go.Proofs.YtenaelkbgkpllaaGreatDoor
open Go.RowKit

theorem range_flat_step (f : Nat → List Value) (i : Nat) : (List.range (i + 1)).flatMap f = (List.range i).flatMap f ++ f i := by
  rw [List.range_succ, List.flatMap_append]; simp
theorem up_is {w : World} {S : Nat → Prop} {g o n : Nat} {K : List (Ward.NT n)} (hB : S g) (h : ∀ i (h : i < K.length), ∃ U, NodeIs w S n K[i] U ∧ w.rangeAt g (o + i * 39) U) (j : Nat) (hj : j < ((Ward.fours K).map (Ward.upN n)).length) :
    NodeIs w S (n + 1) ((Ward.fours K).map (Ward.upN n))[j] (upV g o n K j) := by
  rw [List.getElem_map, Ward.fours_get]
  exact ⟨.slice none 0 0, groupV 39 g o K.length j, rfl, sha_len _, ⟨none, 0, rfl, fun e => absurd rfl e⟩, group_rows hB h j⟩
set_option maxRecDepth 100000 in
set_option maxHeartbeats 4000000 in
theorem above_any (v : Value) (n : Nat) (K : List (Ward.NT n)) (w : World) (S : Nat → Prop) (hS : ∀ g, S g → g < w.heap.size) (h0 : K ≠ []) (hK : K.length ≤ 1000) (hk : Level w S v n K) (hnum : ∀ t ∈ K, 0 ≤ Ward.numN n t ∧ Ward.numN n t ≤ 1000000) (hKT : KT w) :
    Calls Tryz.prog 72 #[v] w fun e w' => ∃ v', e = .returned v' ∧ Level w' (fun g => S g ∨ w.heap.size ≤ g ∧ g < w'.heap.size) v' (n + 1) ((Ward.fours K).map (Ward.upN n)) ∧ Below w.heap.size w w' := by
  obtain ⟨⟨a, c, rfl, hrd⟩, ⟨a', c', e', hc1, hc2⟩⟩ := hk
  injection e' with e1 e2 e3
  subst e1 e3
  clear e2
  obtain ⟨g, o, rfl, hgS, hrows⟩ := hrd h0
  have hgB := hS g hgS
  have HSS := hide hS
  have HGS := hide hgS
  clear hS hgS
  have HRD := hide hrows
  have HNUM := hide hnum
  have HK := hide hKT
  have hp : 0 < K.length := List.length_pos_iff.2 h0
  obtain ⟨i0, hi0, hz0, hz1, hz2⟩ := info_parts Tryz.infoNodeZ
  have HZ1 := hide hz1
  clear hrd hrows hnum hKT
  go_enter Tryz.func72, Tryz.ntmps72
  go_wp2_with fail
  refine (foursNode_any g o K.length c w hK hc1 hc2).mono ?_
  rintro _ w1 ⟨v7, rfl, ho7, hb1⟩
  obtain ⟨gg, cg, rfl, hgg, hggl⟩ := ho7.form (by omega)
  have HO7 := hide ho7
  have HB1 := hide hb1
  have hm4 : (K.length + 3) / 4 ≤ 1000 := by omega
  have hm0 : 0 < (K.length + 3) / 4 := by omega
  have HM := hide (show (K.length + 3) / 4 ≤ 1000 ∧ 0 < (K.length + 3) / 4 from ⟨hm4, hm0⟩)
  have HML := hide (show ∀ j, j < (K.length + 3) / 4 → 4 * j < K.length from fun j hj => by omega)
  clear ho7 hb1 hm4 hm0
  generalize hmm : (K.length + 3) / 4 = m at *
  have HMM := hide hmm
  clear hmm
  go_wp2_with fail
  go_loopg [3, 9] m (fun gk v3 v9 wq => ∃ i : Nat, gk = m - i ∧ v9 = I i ∧ i ≤ m ∧ wq.ownsRow w1.heap.size 90 39 v3 i ((List.range i).flatMap (upV g o n K)) ∧ Below w1.heap.size w1 wq)
  case atStart => exact ⟨0, by omega, rfl, by omega, World.ownsRow_nil _ _ _ _, Below.refl _ _⟩
  case round =>
    obtain ⟨i, hgk, rfl, hi, ho, hb⟩ := hrel
    have HGK := hide hgk
    have HO := hide ho
    have HB := hide hb
    have hs := hb.size
    clear hgk ho hb
    by_cases hlt : i < m
    · have hm1 := HM.out.1
      have hci : wr.cell? ⟨gg, i, none⟩ = some (groupV 39 g o K.length i) := by
        refine (HB.out.cell (p := ⟨gg, i, none⟩) hggl).trans ?_
        rw [HO7.out.cellAt i (by omega)]
        simp [groupsV, hlt]
      have h4 := HML.out i hlt
      have HBW := hide (HB1.out.trans (HB.out.mono HB1.out.size))
      have hG0 : (K.drop (4 * i)).take 4 ≠ [] := fun e => by
        have := congrArg List.length e
        simp at this
        omega
      have hG4 : ((K.drop (4 * i)).take 4).length ≤ 4 := by simp; omega
      have hGR := group_rows (w := wr) (S := S) (o := o) (K := K) (P := NodeIs wr S n) (g := g) HGS.out (fun j hj => by
        obtain ⟨U, hU, hr⟩ := HRD.out j hj
        exact ⟨U, NodeIs.keep (below_same HBW.out HSS.out) (fun _ h => h) n _ _ hU, rangeAt_below hr HBW.out hgB⟩) i
      have HN := hide (nodeOf_any (groupV 39 g o K.length i) n ((K.drop (4 * i)).take 4) wr S (fun g hg => Nat.lt_of_lt_of_le (HSS.out g hg) HBW.out.size) hG0 hG4 hGR (fun t ht => HNUM.out t (List.mem_of_mem_drop (List.mem_of_mem_take ht))) (HK.out.below HBW.out))
      have HN := hide (show Calls Tryz.prog 113 #[groupV 39 g o K.length i] wr fun e w' => e = .returned (.agg (upV g o n K i).toArray) ∧ Below wr.heap.size wr w' from HN.out)
      have HR := hide (upV_row g o n K i)
      have HST := hide (range_flat_step (upV g o n K) i)
      generalize groupV 39 g o K.length i = gv at *
      generalize upV g o n K i = M at *
      clear hGR hG0 hG4 h4
      go_wp2_with fail
      refine HN.out.mono ?_
      rintro _ w2 ⟨rfl, hb2⟩
      have hs2 := hb2.size
      obtain ⟨v3, w3, h3, ho3, hg3, hf3⟩ := append_node (w := w2) M HR.out (ownsRow_below HO.out hb2) (by omega) (by have := HM.out; omega)
      have HO3 := hide (show w3.ownsRow w1.heap.size 90 39 v3 (i + 1) ((List.range (i + 1)).flatMap (upV g o n K)) by rw [HST.out]; exact ho3)
      have HB3 := hide ((HB.out.trans (hb2.mono hs)).grown hg3 (by omega) (fun k hk => (HO.out.lt k hk).1))
      have HF := hide (fun (cells : Array Value) (hc : cells.size = i0.size) => fill_one (s := i0.size) (by rw [HZ1.out]; decide) M.toArray cells (by rw [HZ1.out, HR.out.size]) hc)
      obtain ⟨a3, c3, e3⟩ : ∃ a c, u3 = .slice a i c := by
        rcases HO.out.2 with ⟨e, h⟩ | ⟨g', c', _, e, _⟩
        · exact ⟨none, 0, by rw [e, h]⟩
        · exact ⟨_, c', e⟩
      subst e3
      clear ho3 hg3 hf3 hb2 HN
      go_wp2_with (first | (refine wpList_buildSlice rfl 86 90 1 #[(0, .tmp 15)] rfl M.toArray i0 zeroNode Tryz.underlying86 hi0 hz0 (by rw [HZ1.out]; decide) (by rw [HZ1.out]; decide) (by rw [Array.toList_map]; exact HF.out _ (by simp)) ?_) | (at_builtin; refine Lib.wpList_append_run _ rfl (.tmp 13) (.tmp 16) 86 86 rfl _ _ rfl rfl _ _ h3 ?_))
      go_roundg (m - (i + 1))
      case measure => have := HGK.out; omega
      case rel => exact ⟨i + 1, rfl, by go_num, by omega, HO3.out, HB3.out⟩
    · have ei : i = m := by omega
      subst ei
      go_wp2
      go_ret
      have hBW := HB1.out.trans (HB.out.mono HB1.out.size)
      refine ⟨_, rfl, level_of_own HO.out (by rw [List.length_map, Ward.fours_length]; exact HMM.out) HM.out.2 (fun j _ => (upV_row g o n K j).len) (fun j hj => ?_) (fun g h1 h2 => .inr ⟨Nat.le_trans HB1.out.size h1, h2⟩), hBW⟩
      exact up_is (.inl HGS.out) (fun j hj => by
        obtain ⟨U, hU, hr⟩ := HRD.out j hj
        exact ⟨U, NodeIs.keep (below_same hBW HSS.out) (fun _ h => .inl h) n _ _ hU, rangeAt_below hr hBW hgB⟩) j hj
end Go.Proofs.YtenaelkbgkpllaaGreatDoor
/- The tree of points. -/
namespace Go.Proofs.YtenaelkbgkpllaaGreatDoor
open Go.RowKit

/-- the cells of a leaf of a group -/
def leafV (g o : Nat) (L : List Ward.Pt) (j : Nat) : List Value := nodeV (groupV 3 g o L.length j) (.slice none 0 0) (Ward.box 0 ((L.drop (4 * j)).take 4)) (((L.drop (4 * j)).take 4).length : Nat) ((Sha.sha (Ward.leafText ((L.drop (4 * j)).take 4))).map Y)
theorem leafV_row (g o : Nat) (L : List Ward.Pt) (j : Nat) : Row39 (leafV g o L j) := nodeV_row (sha_len _)
theorem group_pts {w : World} {S : Nat → Prop} {g o : Nat} {L : List Ward.Pt} (hB : S g) (h : ∀ i (h : i < L.length), PtAt w g (o + i * 3) L[i]) (j : Nat) :
    ReadsS w S (groupV 3 g o L.length j) ((L.drop (4 * j)).take 4) := by
  have hl : ((L.drop (4 * j)).take 4).length = min 4 (L.length - 4 * j) := by simp
  refine ⟨some ⟨g, o + 4 * j * 3, none⟩, min 4 (L.length - 4 * j), by rw [hl]; rfl, fun _ => ⟨g, o + 4 * j * 3, rfl, hB, fun i hi => ?_⟩⟩
  rw [hl] at hi
  have hr := h (4 * j + i) (by omega)
  rw [List.getElem_take, List.getElem_drop, show o + 4 * j * 3 + i * 3 = o + (4 * j + i) * 3 by omega]
  exact hr
theorem leaf_is {w : World} {S : Nat → Prop} {g o : Nat} {L : List Ward.Pt} (hB : S g) (h : ∀ i (h : i < L.length), PtAt w g (o + i * 3) L[i]) (j : Nat) (hj : j < ((Ward.fours L).map (Ward.mk Sha.sha 0)).length) :
    NodeIs w S 1 ((Ward.fours L).map (Ward.mk Sha.sha 0))[j] (leafV g o L j) := by
  rw [List.getElem_map, Ward.fours_get]
  exact ⟨groupV 3 g o L.length j, .slice none 0 0, rfl, sha_len _, group_pts hB h j, ⟨none, 0, rfl, fun e => absurd rfl e⟩⟩
theorem up_level (n : Nat) (ls : List (Ward.T n)) : (Ward.fours (ls.map (Ward.mk Sha.sha n))).map (Ward.upN (n + 1)) = (Ward.fours ls).map (Ward.mk Sha.sha (n + 1)) := by
  rw [Ward.fours_map, List.map_map]
  exact List.map_congr_left fun G _ => Ward.up_mk n G
theorem Level.mono {w : World} {S S' : Nat → Prop} {v : Value} {n : Nat} {K : List (Ward.NT n)} (h : Level w S v n K) (hS : ∀ g, S g → S' g) : Level w S' v n K :=
  ⟨h.1.keep (fun _ _ => rfl) hS (NodeIs.keep (fun _ _ => rfl) hS n), h.2⟩
/-- what Build leaves -/
def Built (w : World) (L : List Ward.Pt) (e : Ending) (w' : World) : Prop :=
  ∃ V, e = .returned (.agg V.toArray) ∧ NodeIs w' (fun g => g < w'.heap.size) ((Ward.tree L).1 + 1) (Ward.mk Sha.sha (Ward.tree L).1 (Ward.tree L).2) V ∧ Below w.heap.size w w'
theorem count_le {n : Nat} {ls : List (Ward.T n)} {L : List Ward.Pt} (h : Ward.ptsL n ls = L) : ∀ t ∈ ls.map (Ward.mk Sha.sha n), 0 ≤ Ward.numN (n + 1) t ∧ Ward.numN (n + 1) t ≤ L.length := by
  intro t ht
  obtain ⟨u, hu, rfl⟩ := List.mem_map.1 ht
  rw [Ward.mk_num, Ward.count_pts]
  have h1 : (Ward.pts n u).length ≤ L.length := by
    rw [← h]
    unfold Ward.ptsL
    have := List.sublist_flatten_of_mem (List.mem_map_of_mem (f := Ward.pts n) hu)
    rw [← List.flatMap_def] at this
    exact this.length_le
  omega
set_option maxRecDepth 100000 in
set_option maxHeartbeats 4000000 in
theorem build_any (v : Value) (L : List Ward.Pt) (w : World) (hL : L.length ≤ 150) (hcap : ∃ a c, v = .slice a L.length c ∧ L.length ≤ c ∧ c ≤ maxLen) (hp : ReadsS w (fun g => g < w.heap.size) v L) (hKT : KT w) :
    Calls Tryz.prog 38 #[v] w fun e w' => Built w L e w' := by
  obtain ⟨a, c, rfl, hc1, hc2⟩ := hcap
  obtain ⟨a', c', e', hrd⟩ := hp
  injection e' with e1 e2 e3
  subst e1 e3
  clear e2
  have HRD := hide hrd
  have HK := hide hKT
  clear hrd hKT
  obtain ⟨fs, hu⟩ := underNode
  have HU := hide hu
  clear hu
  obtain ⟨i0, hi0, hz0, hz1, hz2⟩ := info_parts Tryz.infoNodeZ
  have HZ1 := hide hz1
  have HSZ := hide (show (nodeV (.slice none 0 0) (.slice none 0 0) ⟨0, 0, 0, 0⟩ 0 zero32).toArray.size = 39 from nodeV_size (by rfl))
  clear hz1
  go_enter Tryz.func38, Tryz.ntmps38
  go_upto_region 1 with fail
  have hb0' := fun o => (Below.refl w.heap.size w).alloc (Nat.le_refl _) o
  have hr0' := heap_alloc_new w
  have hs0' := fun o => show (w.alloc o).heap.size = w.heap.size + 1 by simp
  generalize hW : World.alloc w _ = w0
  have hb0 : Below w.heap.size w w0 := by rw [← hW]; exact hb0' _
  have hr0 : w0.heap[w.heap.size]? = some (.cells (nodeV (.slice none 0 0) (.slice none 0 0) ⟨0, 0, 0, 0⟩ 0 zero32).toArray 90 (0, 0)) := by rw [← hW]; exact hr0' _
  have hs0 : w0.heap.size = w.heap.size + 1 := by rw [← hW]; exact hs0' _
  clear hb0' hr0' hs0' hW
  have HB0 := hide hb0
  have HR0 := hide hr0
  have HS0 := hide hs0
  clear hb0 hr0 hs0
  by_cases hne : L = []
  · obtain ⟨E, hE⟩ : ∃ E : List Ward.Pt, E = [] := ⟨[], rfl⟩
    have HT := hide (show Ward.tree L = ⟨0, E⟩ by rw [hE, hne]; rfl)
    have HLF := hide (fun W hK => leafOf_any (.slice none 0 0) E W (by rw [hE]; simp) ⟨none, 0, by rw [hE]; rfl, fun e => absurd hE e⟩ hK)
    have HR := hide (show Row39 (nodeV (.slice none 0 0) (.slice none 0 0) (Ward.box 0 E) ((E.length : Nat) : Int) ((Sha.sha (Ward.leafText E)).map Y)) from nodeV_row (sha_len _))
    have HN := hide (show ∀ W S, NodeIs W S 1 (Ward.mk Sha.sha 0 E) (nodeV (.slice none 0 0) (.slice none 0 0) (Ward.box 0 E) ((E.length : Nat) : Int) ((Sha.sha (Ward.leafText E)).map Y)) from fun W S => ⟨.slice none 0 0, .slice none 0 0, rfl, sha_len _, ⟨none, 0, by rw [show Ward.Nd.pts (Ward.mk Sha.sha 0 E) = E from rfl, hE]; rfl, fun e => absurd hE e⟩, ⟨none, 0, rfl, fun e => absurd rfl e⟩⟩)
    generalize nodeV (.slice none 0 0) (.slice none 0 0) (Ward.box 0 E) ((E.length : Nat) : Int) ((Sha.sha (Ward.leafText E)).map Y) = M at *
    have h0 : L.length = 0 := by rw [hne]; rfl
    clear hne hE
    rw [h0]
    go_wp2_with fail
    refine (HLF.out _ (HK.out.below HB0.out)).mono ?_
    rintro _ w1 ⟨rfl, hb1⟩
    have hr1 := (hb1.block w.heap.size (by have := HS0.out; omega)).trans HR0.out
    have HB1 := hide hb1
    have HR1 := hide hr1
    have HSE := hide (show (nodeV (.slice none 0 0) (.slice none 0 0) ⟨0, 0, 0, 0⟩ 0 zero32).toArray.size = M.toArray.size by rw [HSZ.out, HR.out.size])
    clear hb1 hr1
    go_wp2_with (refine wpList_store_row rfl 90 (.tmp 2) (.tmp 9) rfl w.heap.size M.toArray rfl rfl 90 _ HR1.out HR.out.info HSE.out HR.out.one ?_)
    refine bodyPost_ret (v := .agg M.toArray) ?_ rfl ⟨M, rfl, by rw [HT.out]; exact HN.out _ _, below_setRow (HB0.out.trans (HB1.out.mono HB0.out.size)) (Nat.le_refl _) _⟩
    exact results_cell_row rfl _ _ w.heap.size 90 M.toArray (0, 0) (.struct fs) rfl (setRow_heap _ _ _ _ _ _ HR1.out) HU.out rfl HR.out.info
  · obtain ⟨g, o, rfl, hgB, hpts⟩ := HRD.out hne
    have HPT := hide hpts
    have hp0 : 0 < L.length := List.length_pos_iff.2 hne
    have hp1 : ¬ (L.length : Int) = 0 := by omega
    clear hpts
    go_wp2_with fail
    refine (foursPt_any g o L.length c w0 (by omega) hc1 hc2).mono ?_
    rintro _ w1 ⟨v7, rfl, ho7, hb1⟩
    obtain ⟨gg, cg, rfl, hgg, hggl⟩ := ho7.form (by omega)
    have HO7 := hide ho7
    have HB1 := hide hb1
    have HM := hide (show (L.length + 3) / 4 ≤ 1000 ∧ 0 < (L.length + 3) / 4 by omega)
    have HML := hide (show ∀ j, j < (L.length + 3) / 4 → 4 * j < L.length from fun j hj => by omega)
    clear ho7 hb1 hp1
    generalize hmm : (L.length + 3) / 4 = m at *
    have HMM := hide hmm
    clear hmm
    go_wp2_with fail
    go_loopg [3, 13] m (fun gk v3 v13 wq => ∃ i : Nat, gk = m - i ∧ v13 = I i ∧ i ≤ m ∧ wq.ownsRow w1.heap.size 90 39 v3 i ((List.range i).flatMap (leafV g o L)) ∧ Below w1.heap.size w1 wq)
    case atStart => exact ⟨0, by omega, rfl, by omega, World.ownsRow_nil _ _ _ _, Below.refl _ _⟩
    case round =>
      obtain ⟨i, hgk, rfl, hi, ho, hb⟩ := hrel
      have HGK := hide hgk
      have HO := hide ho
      have HB := hide hb
      have hs := hb.size
      clear hgk ho hb
      have HBW := hide (HB0.out.trans ((HB1.out.mono HB0.out.size).trans (HB.out.mono (Nat.le_trans HB0.out.size HB1.out.size))))
      by_cases hlt : i < m
      · have hm1 := HM.out.1
        have hci : wr.cell? ⟨gg, i, none⟩ = some (groupV 3 g o L.length i) := by
          refine (HB.out.cell (p := ⟨gg, i, none⟩) hggl).trans ?_
          rw [HO7.out.cellAt i (by omega)]
          simp [groupsV, hlt]
        have hG4 : ((L.drop (4 * i)).take 4).length ≤ 4 := by simp; omega
        have hGR := group_pts (w := wr) (S := fun g => g < wr.heap.size) (o := o) (L := L) (g := g) (by have := HBW.out.size; show g < wr.heap.size; omega) (fun j hj => (HPT.out j hj).below HBW.out hgB) i
        have HN := hide (leafOf_any (groupV 3 g o L.length i) ((L.drop (4 * i)).take 4) wr hG4 (hGR.low (fun _ h => h)) (HK.out.below HBW.out))
        have HN := hide (show Calls Tryz.prog 70 #[groupV 3 g o L.length i] wr fun e w' => e = .returned (.agg (leafV g o L i).toArray) ∧ Below wr.heap.size wr w' from HN.out)
        have HR := hide (leafV_row g o L i)
        have HST := hide (range_flat_step (leafV g o L) i)
        generalize groupV 3 g o L.length i = gv at *
        generalize leafV g o L i = M at *
        clear hGR hG4
        go_wp2_with fail
        refine HN.out.mono ?_
        rintro _ w2 ⟨rfl, hb2⟩
        have hs2 := hb2.size
        obtain ⟨v3, w3, h3, ho3, hg3, hf3⟩ := append_node (w := w2) M HR.out (ownsRow_below HO.out hb2) (by omega) (by have := HM.out; omega)
        have HO3 := hide (show w3.ownsRow w1.heap.size 90 39 v3 (i + 1) ((List.range (i + 1)).flatMap (leafV g o L)) by rw [HST.out]; exact ho3)
        have HB3 := hide ((HB.out.trans (hb2.mono hs)).grown hg3 (by omega) (fun k hk => (HO.out.lt k hk).1))
        have HF := hide (fun (cells : Array Value) (hc : cells.size = i0.size) => fill_one (s := i0.size) (by rw [HZ1.out]; decide) M.toArray cells (by rw [HZ1.out, HR.out.size]) hc)
        obtain ⟨a3, c3, e3⟩ : ∃ a c, u3 = .slice a i c := by
          rcases HO.out.2 with ⟨e, h⟩ | ⟨g', c', _, e, _⟩
          · exact ⟨none, 0, by rw [e, h]⟩
          · exact ⟨_, c', e⟩
        subst e3
        clear ho3 hg3 hf3 hb2 HN
        go_wp2_with (first | (refine wpList_buildSlice rfl 86 90 1 #[(0, .tmp 19)] rfl M.toArray i0 zeroNode Tryz.underlying86 hi0 hz0 (by rw [HZ1.out]; decide) (by rw [HZ1.out]; decide) (by rw [Array.toList_map]; exact HF.out _ (by simp)) ?_) | (at_builtin; refine Lib.wpList_append_run _ rfl (.tmp 17) (.tmp 20) 86 86 rfl _ _ rfl rfl _ _ h3 ?_))
        go_roundg (m - (i + 1))
        case measure => have := HGK.out; omega
        case rel => exact ⟨i + 1, rfl, by go_num, by omega, HO3.out, HB3.out⟩
      · have ei : i = m := by omega
        subst ei
        have hlev : Level wr (fun g => g ≠ w.heap.size ∧ g < wr.heap.size) u3 1 ((Ward.fours L).map (Ward.mk Sha.sha 0)) := level_of_own HO.out (by rw [List.length_map, Ward.fours_length]; exact HMM.out) HM.out.2 (fun j _ => (leafV_row g o L j).len) (fun j hj => leaf_is (by have := HBW.out.size; show g ≠ w.heap.size ∧ g < wr.heap.size; omega) (fun j hj => (HPT.out j hj).below HBW.out hgB) j hj) (fun g h1 h2 => by have := HB1.out.size; have := HS0.out; omega)
        have HLV := hide hlev
        have HBA := hide (show Below w0.heap.size w0 wr from HB1.out.trans (HB.out.mono HB1.out.size))
        clear hlev
        go_wp2_with fail
        go_loopg [3] i (fun gk v3 wq => ∃ (n : Nat) (ls : List (Ward.T n)) (k : Nat), gk = ls.length ∧ ls ≠ [] ∧ ls.length < k ∧ ls.length ≤ 150 ∧ Ward.climb k n ls = Ward.tree L ∧ Ward.ptsL n ls = L ∧ Level wq (fun g => g ≠ w.heap.size ∧ g < wq.heap.size) v3 (n + 1) (ls.map (Ward.mk Sha.sha n)) ∧ Below w0.heap.size w0 wq)
        case atStart =>
          refine ⟨0, Ward.fours L, L.length + 2, by rw [Ward.fours_length]; exact HMM.out.symm, fun e => by have h := congrArg List.length e; rw [Ward.fours_length, HMM.out] at h; have := HM.out; simp at h; omega, by rw [Ward.fours_length]; omega, by rw [Ward.fours_length]; omega, ?_, ?_, HLV.out, HBA.out⟩
          · rw [Ward.tree, Ward.leaves, if_neg (by omega)]
          · have h := Ward.leaves_pts L
            rw [Ward.leaves, if_neg (by omega)] at h
            exact h
        case round =>
          clear HLV HBA HB HO HO7 HBW HGK HM HML HMM HB1 HRD HPT
          obtain ⟨n, ls, k, hgk, hls, hk, h150, hcl, hpt, hlev, hb⟩ := hrel
          have HGK := hide hgk
          have HLS := hide hls
          have HLK := hide hk
          have HCL := hide hcl
          have HPT := hide hpt
          have HLV := hide hlev
          have HB := hide hb
          obtain ⟨-, a3, c3, e3, hc3, hc4⟩ := hlev
          rw [List.length_map] at e3
          subst e3
          have hsz := HB.out.size
          have hs0 := HS0.out
          have HSL := hide hsz
          have hrr := (HB.out.block w.heap.size (by omega)).trans HR0.out
          have HRR := hide hrr
          clear hgk hls hk hcl hpt hb hrr hs0 hsz
          by_cases h1 : ls.length = 1
          · obtain ⟨t, rfl⟩ := List.length_eq_one_iff.1 h1
            have hT : Ward.tree L = ⟨n, t⟩ := by
              have h := HCL.out
              obtain ⟨k', rfl⟩ : ∃ k', k = k' + 1 := ⟨k - 1, by have := HLK.out; omega⟩
              rw [Ward.climb_one] at h
              exact h.symm
            obtain ⟨a5, c5, e5, hrows⟩ := HLV.out.1
            obtain ⟨g5, o5, rfl, hS5, hr5⟩ := hrows (by simp)
            injection e5 with e6 e7 e8
            subst e6 e8
            clear e7
            obtain ⟨U, hU, hc⟩ := hr5 0 (by simp)
            rw [Nat.zero_mul, Nat.add_zero] at hc
            have hU' : NodeIs wr (fun g => g ≠ w.heap.size ∧ g < wr.heap.size) (n + 1) (Ward.mk Sha.sha n t) U := hU
            have HUU := hide hU'
            have HC := hide hc
            obtain ⟨b1, l1, d1, b2, l2, d2, hV, hd⟩ := hU'.cells
            have HR := hide (show Row39 U by rw [hV]; exact nodeV_row hd)
            have HSE := hide (show (nodeV (.slice none 0 0) (.slice none 0 0) ⟨0, 0, 0, 0⟩ 0 zero32).toArray.size = U.toArray.size by rw [HSZ.out, HR.out.size])
            have HT := hide hT
            clear hT hV hd hU hU' hc hr5 hrows h1
            go_wp2_with (first | (refine wpList_load_mid rfl 90 (.tmp 29) rfl g5 o5 rfl U (.struct fs) HC.out HU.out rfl HR.out.infl ?_) | (refine wpList_store_row rfl 90 (.tmp 2) (.tmp 30) rfl w.heap.size U.toArray rfl rfl 90 _ HRR.out HR.out.info HSE.out HR.out.one ?_))
            have hbw := HB0.out.trans (HB.out.mono HB0.out.size)
            refine bodyPost_ret (v := .agg U.toArray) ?_ rfl ⟨U, rfl, ?_, below_setRow hbw (Nat.le_refl _) _⟩
            · exact results_cell_row rfl _ _ w.heap.size 90 U.toArray (0, 0) (.struct fs) rfl (setRow_heap _ _ _ _ _ _ HRR.out) HU.out rfl HR.out.info
            · rw [HT.out]
              exact NodeIs.keep (fun g hg => setRow_other _ _ _ _ hg.1) (fun g hg => by have := hg.2; show g < _; rw [setRow_size]; exact this) (n + 1) _ U HUU.out
          · have h2 : (1 : Int) < (ls.length : Int) := by
              have h : ls.length ≠ 0 := fun e => HLS.out (List.length_eq_zero_iff.1 e)
              omega
            have HAB := hide (above_any (.slice a3 ls.length c3) (n + 1) (ls.map (Ward.mk Sha.sha n)) wr (fun g => g ≠ w.heap.size ∧ g < wr.heap.size) (fun _ h => h.2) (fun e => HLS.out (List.map_eq_nil_iff.1 e)) (by rw [List.length_map]; omega) HLV.out (fun t ht => by
              obtain ⟨h3, h4⟩ := count_le HPT.out t ht
              exact ⟨h3, by omega⟩) (HK.out.below (HB0.out.trans (HB.out.mono HB0.out.size))))
            go_wp2_with fail
            refine HAB.out.mono ?_
            rintro _ w2 ⟨v2, rfl, hlev2, hb2⟩
            rw [up_level] at hlev2
            have HLV2 := hide hlev2
            have HB2 := hide hb2
            clear hlev2 hb2 HAB
            go_wp2_with fail
            go_roundg (Ward.fours ls).length
            case measure => have := HGK.out; rw [Ward.fours_length]; omega
            case rel =>
              have hfl := Ward.fours_length ls
              obtain ⟨k', ek⟩ : ∃ k', k = k' + 1 := ⟨k - 1, by have := HLK.out; omega⟩
              refine ⟨n + 1, Ward.fours ls, k', rfl, fun e => by rw [e] at hfl; simp at hfl; omega, by have := HLK.out; omega, by omega, ?_, ?_, HLV2.out.mono (fun g hg => ?_), HB.out.trans (HB2.out.mono HB.out.size)⟩
              · rw [← HCL.out, ek, Ward.climb_more _ _ _ h1]
              · rw [Ward.ptsL_fours]; exact HPT.out
              · have h3 := HB2.out.size
                have h4 := HSL.out
                have h5 := HS0.out
                rcases hg with hg | hg
                · exact ⟨hg.1, Nat.lt_of_lt_of_le hg.2 h3⟩
                · exact ⟨by omega, hg.2⟩
end Go.Proofs.YtenaelkbgkpllaaGreatDoor
/- A map's commitment. -/
namespace Go.Proofs.YtenaelkbgkpllaaGreatDoor
open Go.RowKit

theorem fill_root (cells : Array Value) (hc : cells.size = 33) (D : List Value) (hD : D.length = 32) (x : Value) (hx : x.cells = #[x]) (place : Nat → Option (Nat × Nat)) (h0 : place 0 = some (0, 32)) (h1 : place 1 = some (32, 1)) :
    Instr.fill place cells [(0, .agg D.toArray), (1, x)] = some (D ++ [x]).toArray := by
  obtain ⟨g1, g2⟩ := Great.foldl_set 0 D 0 cells
  have e0 : Value.cells (.agg D.toArray) = D.toArray := rfl
  have ef : (D.toArray.zipIdx.foldl (fun cs (y : Value × Nat) => cs.setIfInBounds (0 + y.2) y.1) cells) = ((D.zipIdx 0).foldl (fun cs (y : Value × Nat) => cs.setIfInBounds (0 + y.2) y.1) cells) := by
    rw [← Array.foldl_toList, Array.toList_zipIdx]
  unfold Instr.fill
  simp only [h0, e0]
  rw [if_neg (by simp [hD, hc]), ef]
  generalize (D.zipIdx 0).foldl (fun cs (y : Value × Nat) => cs.setIfInBounds (0 + y.2) y.1) cells = r at *
  unfold Instr.fill
  simp only [h1, hx]
  rw [if_neg (by simp [hc, g1])]
  unfold Instr.fill
  congr 1
  apply Array.ext_getElem?
  intro k
  have es : (#[x].zipIdx.foldl (fun cs (y : Value × Nat) => cs.setIfInBounds (32 + y.2) y.1) r) = r.setIfInBounds 32 x := by
    rw [← Array.foldl_toList, Array.toList_zipIdx]; rfl
  have eR : (D ++ [x]).toArray[k]? = (D ++ [x])[k]? := List.getElem?_toArray
  rw [es, eR]
  by_cases hk : k = 32
  · subst hk
    rw [Array.getElem?_setIfInBounds_self, if_pos (by rw [g1, hc]; decide), List.getElem?_append_right (by omega), hD]
    rfl
  · rw [Array.getElem?_setIfInBounds_ne (by omega), g2 k]
    by_cases hl : k < 32
    · rw [if_pos (by omega), List.getElem?_append_left (by omega)]
      simp
    · rw [if_neg (by omega), Array.getElem?_eq_none (by omega), List.getElem?_eq_none (by simp; omega)]
theorem Tryz.infoCommitZ : (Tryz.prog.info? 41).bind (fun i => i.zero.map (·.cells.size)) = some 33 := by kernel_rfl
theorem Tryz.placesCommit : ((Tryz.prog.fieldsOf 41).toList.mapM (fun f => (Tryz.prog.info? f.type).map fun i => (f.offset, i.size))) = some [(0, 32), (32, 1)] := by kernel_rfl
theorem built_commit (D : List Value) (hD : D.length = 32) (n : Int) : Tryz.prog.built 41 [(0, .agg D.toArray), (1, I n)] = some (D ++ [I n]).toArray := by
  have hS : Tryz.prog.underlying 41 = some (.struct (Tryz.prog.fieldsOf 41)) := by kernel_rfl
  have hz := Tryz.infoCommitZ
  have hp := Tryz.placesCommit
  unfold Program.built
  cases hi : Tryz.prog.info? 41 with
  | none => rw [hi] at hz; cases hz
  | some it =>
    rw [hi] at hz
    cases hz0 : it.zero with
    | none => simp [hz0] at hz
    | some z =>
      simp [hz0] at hz
      rw [hS]
      simp only [hz0, hp]
      exact fill_root z.cells hz D hD (I n) rfl _ rfl rfl
theorem wpList_built {P : Program} {ops : Array Oper} {rest : List Oper} {o : Oper} {a : Act} {w : World} {Q : Exit → Act → World → Prop} (hg : o.guard = none) (t : TypeId) (parts : Array (Nat × Operand)) (ho : o.op = .build t parts)
    (cells : Array Value) (l : List (Nat × Value)) (hl : parts.toList.map (fun (i, x) => (i, a.eval x)) = l) (hb : P.built t l = some cells)
    (h : wpList P ops Q rest (a.put o.dst (.agg cells)) w) : wpList P ops Q (o :: rest) a w :=
  wpList_build hg t parts ho (by rw [Array.toList_map, hl, hb]; rfl) (by rw [Array.toList_map, hl, hb]; exact h)
theorem range_dig {w : World} {g : Nat} {vp vc : Value} {b : Ward.Box} {n : Int} {t : List Value} {ty : Nat} (h : w.heap[g]? = some (.cells (nodeV vp vc b n t).toArray ty (0, 0))) : w.rangeAt g 7 t := fun j v hv => by
  rw [cell_of_row _ _ _ _ _ _ h, Nat.add_comm 7 j]
  simpa [nodeV] using hv
theorem Tryz.infoDig : (Tryz.prog.info? 39).map (·.size) = some 32 := by kernel_rfl
set_option maxRecDepth 100000 in
set_option maxHeartbeats 1000000 in
theorem commitmentTo_any (vp vc : Value) (b : Ward.Box) (n : Int) (D : List UInt8) (w : World) (hD : D.length = 32) :
    Calls Tryz.prog 37 #[.agg (nodeV vp vc b n (D.map Y)).toArray] w fun e w' => e = .returned (.agg (rootV D n).toArray) ∧ Below w.heap.size w w' := by
  have hb2 := fun o o' => ((Below.refl w.heap.size w).alloc (Nat.le_refl _) o).alloc (by simp) o'
  have hr2 := heap_alloc2_new w
  have hr1 := heap_alloc2_old w
  have HBC := hide (show Tryz.prog.built 41 [(0, .agg (D.map Y).toArray), (1, I n)] = some (rootV D n).toArray from built_commit (D.map Y) (by simpa using hD) n)
  have HC33 := hide (rootV_len D n hD)
  have HONE := hide (rootV_one D n)
  have HINF := hide (show (Tryz.prog.info? 41).map (·.size) = some (rootV D n).toArray.size by rw [List.size_toArray, rootV_len D n hD]; exact Tryz.infoCommit)
  have HID := hide (show (Tryz.prog.info? 39).map (·.size) = some (D.map Y).length by rw [List.length_map, hD]; exact Tryz.infoDig)
  generalize hM : nodeV vp vc b n (D.map Y) = M at *
  have HM := hide hM
  clear hM
  go_enter Tryz.func37, Tryz.ntmps37
  go_upto_region 1 with fail
  generalize hW : World.alloc (World.alloc w _) _ = w1
  have hb1 : Below w.heap.size w w1 := by rw [← hW]; exact hb2 _ _
  have hn1 : w1.heap[w.heap.size]? = some (.cells (nodeV vp vc b n (D.map Y)).toArray 90 (0, 0)) := by rw [← hW, HM.out]; exact hr1 _ _
  have hc1 : w1.heap[w.heap.size + 1]? = some (.cells (List.replicate 32 (Value.int .u8 0) ++ [I 0]).toArray 41 (0, 0)) := by rw [← hW]; exact hr2 _ _
  clear hb2 hr1 hr2 hW
  obtain ⟨-, -, c6⟩ := node_cells hn1
  have HD := hide (range_dig hn1)
  have HB1 := hide hb1
  have HC1 := hide hc1
  have HS := hide (show (List.replicate 32 (Value.int .u8 0) ++ [I 0]).toArray.size = (rootV D n).toArray.size by rw [List.size_toArray, List.size_toArray, HC33.out]; rfl)
  clear hn1 hb1 hc1
  generalize D.map Y = DV at *
  generalize hR : rootV D n = R at *
  have HRE := hide hR
  clear hR
  go_wp2_with (first | (refine wpList_load_mid rfl 39 (.tmp 3) rfl w.heap.size 7 rfl DV _ HD.out Tryz.underlying39 rfl HID.out ?_) | (refine wpList_built rfl 41 #[(0, .tmp 4), (1, .tmp 6)] rfl R.toArray [(0, .agg DV.toArray), (1, I n)] rfl HBC.out ?_) | (refine wpList_store_row rfl 41 (.tmp 2) (.tmp 7) rfl (w.heap.size + 1) R.toArray rfl rfl 41 _ HC1.out HINF.out HS.out HONE.out ?_))
  refine bodyPost_ret (v := .agg R.toArray) ?_ rfl ⟨by rw [HRE.out], below_setRow HB1.out (by simp) _⟩
  exact results_cell_row rfl _ _ (w.heap.size + 1) 41 R.toArray (0, 0) _ rfl (setRow_heap _ _ _ _ _ _ HC1.out) Tryz.underlying41 rfl HINF.out
theorem Own.caps {w : World} {B : Nat} {v : Value} {L : List Ward.Pt} (h : Own w B v L) : ∃ a c, v = .slice a L.length c ∧ L.length ≤ c ∧ c ≤ maxLen := by
  rcases h.2 with ⟨rfl, h0⟩ | ⟨g, cap, cur, rfl, _, _, h1, h2, _⟩
  · exact ⟨none, 0, by rw [h0], by omega, by decide⟩
  · exact ⟨_, cap, rfl, h1, h2⟩
theorem Own.readsS {w : World} {B : Nat} {v : Value} {L : List Ward.Pt} (h : Own w B v L) : ReadsS w (fun g => g < w.heap.size) v L := by
  obtain ⟨a, c, rfl, hr⟩ := h.reads
  refine ⟨a, c, rfl, fun hne => ?_⟩
  obtain ⟨g, o, e, hp⟩ := hr hne
  exact ⟨g, o, e, (hp 0 (List.length_pos_iff.2 hne)).lt, hp⟩
/-- the tree of a map's points -/
theorem build_map (m : Nat) (v : Value) (L : List Ward.Pt) (w : World) (hm : IsMap w m v L) (hG : Good L) (hKT : KT w) : Calls Tryz.prog 38 #[v] w fun e w' => Built w L e w' :=
  build_any v L w hG.many hm.own.caps hm.own.readsS hKT
theorem tree_num {L : List Ward.Pt} (hG : Good L) : Ward.numN ((Ward.tree L).1 + 1) (Ward.mk Sha.sha (Ward.tree L).1 (Ward.tree L).2) = L.length := by
  rw [Ward.mk_num, Ward.count_pts, (Ward.tree_small hG.ok).2]
set_option maxRecDepth 100000 in
set_option maxHeartbeats 1000000 in
theorem commitment_any (m : Nat) (v : Value) (L : List Ward.Pt) (w : World) (hm : IsMap w m v L) (hG : Good L) (hKT : KT w) :
    Calls Tryz.prog 16 #[.pointer (some ⟨m, 0, none⟩)] w fun e w' => e = .returned (.agg (commitV L).toArray) ∧ Below w.heap.size w w' := by
  have hmlt := hm.lt
  have HM := hide hm
  have HG := hide hG
  have HK := hide hKT
  have HCO := hide (com_of L)
  have hr0' := heap_alloc_new w
  have hb0' := fun o => (Below.refl w.heap.size w).alloc (Nat.le_refl _) o
  have hs0' := fun o => show (w.alloc o).heap.size = w.heap.size + 1 by simp
  clear hm hKT
  go_enter Tryz.func16, Tryz.ntmps16
  go_upto_region 1 with fail
  generalize hW : World.alloc w _ = w0
  have hb0 : Below w.heap.size w w0 := by rw [← hW]; exact hb0' _
  have hr0 : w0.heap[w.heap.size]? = some (.cells (List.replicate 32 (Value.int .u8 0) ++ [I 0]).toArray 41 (0, 0)) := by rw [← hW]; exact hr0' _
  have hs0 : w0.heap.size = w.heap.size + 1 := by rw [← hW]; exact hs0' _
  clear hb0' hr0' hs0' hW
  have hm0 := HM.out.below hb0
  have hc0 := hm0.cell
  have HM0 := hide hm0
  have HB0 := hide hb0
  have HR0 := hide hr0
  have HS0 := hide hs0
  have HBM := hide (build_map m v L w0 hm0 hG (HK.out.below hb0))
  clear hm0 hb0 hr0 hs0
  go_wp2_with fail
  refine HBM.out.mono ?_
  rintro _ w1 ⟨V, rfl, hn1, hb1⟩
  obtain ⟨a1, l1, c1, a2, l2, c2, hV, hd⟩ := hn1.cells
  have HCT := hide (commitmentTo_any (.slice a1 l1 c1) (.slice a2 l2 c2) (Ward.boxN _ (Ward.mk Sha.sha (Ward.tree L).1 (Ward.tree L).2)) (Ward.numN _ (Ward.mk Sha.sha (Ward.tree L).1 (Ward.tree L).2)) _ w1 hd)
  rw [← hV, tree_num HG.out, Ward.mk_dig] at HCT
  have HCT := hide (show Calls Tryz.prog 37 #[.agg V.toArray] w1 fun e w' => e = .returned (.agg (commitV L).toArray) ∧ Below w1.heap.size w1 w' from HCT.out)
  have hr1 := (hb1.block w.heap.size (by have := HS0.out; omega)).trans HR0.out
  have HR1 := hide hr1
  have HB1 := hide hb1
  clear hn1 hb1 hr1 hV hd
  generalize hCL : commitV L = C at *
  have HCL := hide hCL
  clear hCL
  go_wp2_with fail
  refine HCT.out.mono ?_
  rintro _ w2 ⟨rfl, hb2⟩
  have hr2 := (hb2.block w.heap.size (Array.getElem?_eq_some_iff.1 HR1.out).1).trans HR1.out
  have HR2 := hide hr2
  have HB2 := hide hb2
  have HSE := hide (show (List.replicate 32 (Value.int .u8 0) ++ [I 0]).toArray.size = C.toArray.size by rw [HCO.out.size]; rfl)
  clear hr2 hb2
  go_wp2_with (refine wpList_store_row rfl 41 (.tmp 2) (.tmp 8) rfl w.heap.size C.toArray rfl rfl 41 _ HR2.out HCO.out.info HSE.out HCO.out.one ?_)
  have hbw := HB0.out.trans ((HB1.out.mono HB0.out.size).trans (HB2.out.mono (Nat.le_trans HB0.out.size HB1.out.size)))
  refine bodyPost_ret (v := .agg C.toArray) ?_ rfl ⟨by rw [HCL.out], below_setRow hbw (Nat.le_refl _) _⟩
  exact results_cell_row rfl _ _ w.heap.size 41 C.toArray (0, 0) _ rfl (setRow_heap _ _ _ _ _ _ HR2.out) Tryz.underlying41 rfl HCO.out.info
end Go.Proofs.YtenaelkbgkpllaaGreatDoor
/- A whole node read where the order is drawn. -/
namespace Go.Proofs.YtenaelkbgkpllaaGreatDoor
open Go.RowKit

/-- the whole row that a pointer leads to -/
def loadVal (w : World) : Value → Value
  | .pointer (some ⟨g, 0, none⟩) => match w.heap[g]? with | some (.cells cs _ _) => .agg cs | _ => undef
  | _ => undef
/-- a pointer to a row of a node's cells -/
def NodeRow (w : World) (v : Value) : Prop := ∃ g cs t fr, v = .pointer (some ⟨g, 0, none⟩) ∧ w.heap[g]? = some (.cells cs t fr) ∧ cs.size = 39
theorem loadVal_row {w : World} {g t : Nat} {cs : Array Value} {fr : Nat × Nat} (h : w.heap[g]? = some (.cells cs t fr)) : loadVal w (.pointer (some ⟨g, 0, none⟩)) = .agg cs := by
  show (match w.heap[g]? with | some (.cells cs _ _) => Value.agg cs | _ => undef) = _
  rw [h]
theorem nodeRow_of {w : World} {g t : Nat} {cs : Array Value} {fr : Nat × Nat} (h : w.heap[g]? = some (.cells cs t fr)) (hs : cs.size = 39) : NodeRow w (.pointer (some ⟨g, 0, none⟩)) := ⟨g, cs, t, fr, rfl, h, hs⟩
theorem wp_load_node {d : Option Tmp} {x : Operand} {tt : TypeId} {ps : String} {af : Array Edge} {a : Act} {w : World} {K : Act → World → Prop} {Q : Exit → Act → World → Prop} (h : NodeRow w (a.eval x)) :
    Oper.wp Tryz.prog { dst := d, op := .load 90 x, type := tt, pos := ps, after := af, guard := none } a w K Q = K (a.put d (loadVal w (a.eval x))) w := by
  obtain ⟨g, cs, t, fr, hv, hg, hs⟩ := h
  obtain ⟨fs, hu⟩ := underNode
  have hr := run_loadVar_row (P := Tryz.prog) w g t 90 cs fr (.struct fs) hg hu rfl (by rw [hs]; exact Tryz.infoNode)
  rw [hv, loadVal_row hg]
  unfold Oper.wp execOp
  simp only [hv, Instr.loadAt, Instr.sureAddr, Sem.run_bind, Sem.run_pure, Result.andThen_ok, hr]
  rfl
end Go.Proofs.YtenaelkbgkpllaaGreatDoor
/- A proof taken apart: the text's numbers, points, children, nodes. -/
namespace Go.Proofs.YtenaelkbgkpllaaGreatDoor
namespace Ward
theorem or_add {a b k : Nat} (ha : a % 2 ^ k = 0) (hb : b < 2 ^ k) : a ||| b = a + b := by
  have h : a = 2 ^ k * (a / 2 ^ k) := by
    have := Nat.div_add_mod a (2 ^ k)
    omega
  rw [h, ← Nat.two_pow_add_eq_or_of_lt hb]
/-- four bytes as a number -/
theorem word_add (l : List UInt8) (i : Nat) : Sha.word l i = Sha.byteAt l i * 16777216 + Sha.byteAt l (i + 1) * 65536 + Sha.byteAt l (i + 2) * 256 + Sha.byteAt l (i + 3) := by
  have h0 : Sha.byteAt l i < 256 := (l.getD i 0).toNat_lt
  have h1 : Sha.byteAt l (i + 1) < 256 := (l.getD (i + 1) 0).toNat_lt
  have h2 : Sha.byteAt l (i + 2) < 256 := (l.getD (i + 2) 0).toNat_lt
  have h3 : Sha.byteAt l (i + 3) < 256 := (l.getD (i + 3) 0).toNat_lt
  unfold Sha.word
  rw [or_add (a := Sha.byteAt l i * 16777216) (k := 24) (by omega) (by omega), or_add (a := Sha.byteAt l i * 16777216 + Sha.byteAt l (i + 1) * 65536) (k := 16) (by omega) (by omega), or_add (k := 8) (by omega) (by omega)]
theorem word_lt (l : List UInt8) (i : Nat) : Sha.word l i < 4294967296 := by
  have h0 : Sha.byteAt l i < 256 := (l.getD i 0).toNat_lt
  have h1 : Sha.byteAt l (i + 1) < 256 := (l.getD (i + 1) 0).toNat_lt
  have h2 : Sha.byteAt l (i + 2) < 256 := (l.getD (i + 2) 0).toNat_lt
  have h3 : Sha.byteAt l (i + 3) < 256 := (l.getD (i + 3) 0).toNat_lt
  rw [word_add]
  omega
/-- a number of 32 bits with a sign -/
def signed (n : Nat) : Int := if n < 2147483648 then n else (n : Int) - 4294967296
theorem signed_four {n : Int} (h1 : -1000000 ≤ n) (h2 : n ≤ 1000000) : signed (n % 4294967296).toNat = n := by
  unfold signed
  split <;> omega
/-- the number of that place -/
def numAt (l : List UInt8) (k : Nat) : Int := signed (Sha.word l (4 * k))
theorem byteAt_app {l m : List UInt8} {i : Nat} (h : i < l.length) : Sha.byteAt (l ++ m) i = Sha.byteAt l i := by
  unfold Sha.byteAt
  rw [List.getD_eq_getElem?_getD, List.getD_eq_getElem?_getD, List.getElem?_append_left h]
theorem byteAt_right {l m : List UInt8} {i : Nat} : Sha.byteAt (l ++ m) (l.length + i) = Sha.byteAt m i := by
  unfold Sha.byteAt
  rw [List.getD_eq_getElem?_getD, List.getD_eq_getElem?_getD, List.getElem?_append_right (by omega), Nat.add_sub_cancel_left]
theorem word_app {l m : List UInt8} {i : Nat} (h : i + 4 ≤ l.length) : Sha.word (l ++ m) i = Sha.word l i := by
  rw [word_add, word_add, byteAt_app (by omega), byteAt_app (by omega), byteAt_app (by omega), byteAt_app (by omega)]
theorem word_right {l m : List UInt8} {i : Nat} : Sha.word (l ++ m) (l.length + i) = Sha.word m i := by
  rw [word_add, word_add, show l.length + i + 1 = l.length + (i + 1) by omega, show l.length + i + 2 = l.length + (i + 2) by omega, show l.length + i + 3 = l.length + (i + 3) by omega, byteAt_right, byteAt_right, byteAt_right, byteAt_right]
theorem word_four {n : Nat} (h : n < 4294967296) : Sha.word (four n) 0 = n := by
  rw [word_add]
  show (UInt8.ofNat (n / 16777216)).toNat * 16777216 + (UInt8.ofNat (n / 65536)).toNat * 65536 + (UInt8.ofNat (n / 256)).toNat * 256 + (UInt8.ofNat n).toNat = n
  simp only [UInt8.toNat_ofNat']
  omega
theorem numAt_zero {n : Int} (m : List UInt8) (h1 : -1000000 ≤ n) (h2 : n ≤ 1000000) : numAt (fourI n ++ m) 0 = n := by
  unfold numAt
  rw [Nat.mul_zero, word_app (by rw [fourI_len]; decide)]
  unfold fourI
  rw [word_four (by omega), signed_four h1 h2]
theorem numAt_succ (n : Int) (m : List UInt8) (k : Nat) : numAt (fourI n ++ m) (k + 1) = numAt m k := by
  unfold numAt
  rw [show 4 * (k + 1) = (fourI n).length + 4 * k by rw [fourI_len]; omega, word_right]
/-- a word tells its four bytes -/
theorem four_word {a b c d : UInt8} (m : List UInt8) : four (Sha.word (a :: b :: c :: d :: m) 0) = [a, b, c, d] := by
  rw [word_add]
  show four (a.toNat * 16777216 + b.toNat * 65536 + c.toNat * 256 + d.toNat) = _
  have ha := a.toNat_lt
  have hb := b.toNat_lt
  have hc := c.toNat_lt
  have hd := d.toNat_lt
  have key : ∀ (x : UInt8) (n : Nat), n % 256 = x.toNat → UInt8.ofNat n = x := fun x n h => by
    apply UInt8.toNat_inj.1
    rw [UInt8.toNat_ofNat']
    exact h
  unfold four
  rw [key a _ (by omega), key b _ (by omega), key c _ (by omega), key d _ (by omega)]
theorem fourI_signed {n : Nat} (h : n < 4294967296) : fourI (signed n) = four n := by
  have h' : (signed n % 4294967296).toNat = n := by
    unfold signed
    by_cases h2 : n < 2147483648
    · rw [if_pos h2]; omega
    · rw [if_neg h2]; omega
  unfold fourI
  rw [h']
theorem fourI_numAt {a b c d : UInt8} (m : List UInt8) : fourI (numAt (a :: b :: c :: d :: m) 0) = [a, b, c, d] := by
  unfold numAt
  rw [Nat.mul_zero, fourI_signed (word_lt _ _), four_word]
theorem word_drop (l : List UInt8) (k : Nat) : Sha.word l k = Sha.word (l.drop k) 0 := by
  by_cases h : k ≤ l.length
  · have e := word_right (l := l.take k) (m := l.drop k) (i := 0)
    rw [List.take_append_drop, List.length_take, Nat.min_eq_left h] at e
    exact e
  · have e : l.drop k = [] := List.drop_eq_nil_of_le (by omega)
    rw [e, word_add, word_add]
    unfold Sha.byteAt
    simp only [List.getD_eq_getElem?_getD]
    rw [List.getElem?_eq_none (by omega), List.getElem?_eq_none (by omega), List.getElem?_eq_none (by omega), List.getElem?_eq_none (by omega)]
    rfl
theorem numAt_drop (l : List UInt8) (k : Nat) : numAt l k = numAt (l.drop (4 * k)) 0 := by
  unfold numAt
  rw [word_drop, Nat.mul_zero]
/-- the bytes of a number at a place -/
theorem fourI_at {l : List UInt8} {k : Nat} (h : 4 * k + 4 ≤ l.length) : fourI (numAt l k) = (l.drop (4 * k)).take 4 := by
  rw [numAt_drop]
  have hl : 4 ≤ (l.drop (4 * k)).length := by rw [List.length_drop]; omega
  generalize l.drop (4 * k) = m at *
  match m, hl with
  | a :: b :: c :: d :: m, _ => rw [fourI_numAt]; rfl
/-- what is still to be read, and the ids that were -/
abbrev Sta : Type := List UInt8 × List Int
def idOk (n : Int) : Bool := decide (1 ≤ n ∧ n ≤ 1000000)
/-- a point of a leaf -/
def rdPt (s : Sta) : Option (Pt × Sta) :=
  if s.1.length < 12 then none else
    let p : Pt := ⟨numAt s.1 0, numAt s.1 1, numAt s.1 2⟩
    if idOk p.id && !(s.2.contains p.id) && coordOk p.x && coordOk p.y then some (p, (s.1.drop 12, p.id :: s.2)) else none
/-- as many of a kind -/
def rdMany {α : Type} (rd : Sta → Option (α × Sta)) : Nat → Sta → Option (List α × Sta)
  | 0, s => some ([], s)
  | k + 1, s => match rd s with
    | none => none
    | some (x, s') => match rdMany rd k s' with
      | none => none
      | some (l, s'') => some (x :: l, s'')
/-- a node of nothing -/
def bareN (n : Nat) : NT (n + 1) := ⟨[], [], ⟨0, 0, 0, 0⟩, 0, List.replicate 32 0⟩
/-- what a node says of a child, of 52 bytes -/
def headN (n : Nat) (l : List UInt8) : NT (n + 1) := ⟨[], [], ⟨numAt l 0, numAt l 1, numAt l 2, numAt l 3⟩, numAt l 4, (l.drop 20).take 32⟩
/-- a child, behind it what is shown of it -/
def rdKid (n : Nat) (below : Sta → Option (NT (n + 1) × Sta)) (s : Sta) : Option (NT (n + 1) × Sta) :=
  if s.1.length < 53 then none else
    let c := headN n s.1
    if boxMay (Nd.box c) && decide (1 ≤ Nd.n c) && decide (Nd.n c ≤ 150) then
      if s.1.getD 52 0 = 0 then some (c, (s.1.drop 53, s.2))
      else if s.1.getD 52 0 = 1 then match below (s.1.drop 53, s.2) with
        | none => none
        | some (b, s') => some ({ c with pts := Nd.pts b, kids := Nd.kids b }, s')
      else none
    else none
/-- a leaf or a node, so many may lie within one another -/
def rdNode : (d : Nat) → (root : Bool) → Sta → Option (NT (d + 1) × Sta)
  | 0, _, _ => none
  | d + 1, root, s =>
    if s.1.length < 2 then none else
      let mark := s.1.getD 0 0
      let size := (s.1.getD 1 0).toNat
      let s' : Sta := (s.1.drop 2, s.2)
      if 4 < size then none
      else if mark = 1 ∧ (0 < size ∨ root = true) then match rdMany rdPt size s' with
        | none => none
        | some (l, s'') => some ({ bareN (d + 1) with pts := l }, s'')
      else if mark = 2 ∧ 0 < size then match rdMany (rdKid d (rdNode d false)) size s' with
        | none => none
        | some (l, s'') => some ({ bareN (d + 1) with kids := l }, s'')
      else none
/-- a node as what stands right below it makes it -/
def madeN : (n : Nat) → NT n → NT n
  | 0, t => nomatch t
  | n + 1, t => if (Nd.kids t).length = 0 then ⟨Nd.pts t, [], boxL ((Nd.pts t).map boxOf), ((Nd.pts t).length : Nat), Sha.sha (leafText (Nd.pts t))⟩ else ⟨[], Nd.kids t, boxL ((Nd.kids t).map (boxN n)), ((Nd.kids t).map (numN n)).sum, Sha.sha (textK n (Nd.kids t))⟩
/-- a proof taken apart -/
def parse (l : List UInt8) : Option (NT 7) := match rdNode 6 true (l, []) with
  | some (t, ([], _)) => some (madeN 7 t)
  | _ => none
def shownN : (n : Nat) → NT n → Bool
  | 0, t => nomatch t
  | _ + 1, t => decide (0 < (Nd.pts t).length + (Nd.kids t).length)
/-- it holds of every child and of those below them -/
def everyN (P : (n : Nat) → NT n → Bool) : (n : Nat) → NT n → Bool
  | 0, t => nomatch t
  | n + 1, t => (Nd.kids t).all fun c => P n c && everyN P n c
def boxEq (a b : Box) : Bool := decide (a.a = b.a ∧ a.b = b.b ∧ a.c = b.c ∧ a.d = b.d)
def boxHolds (n : Nat) (c : NT n) : Bool := !shownN n c || (boxEq (boxN n c) (boxN n (madeN n c)) && decide (numN n c = numN n (madeN n c)))
def digHolds (n : Nat) (c : NT n) : Bool := !shownN n c || decide (digN n c = digN n (madeN n c))
def lackN (q : Qr) (a : List Pt) (n : Nat) (c : NT n) : Bool := shownN n c || !must q a (boxN n c)
def wasteN (q : Qr) (a : List Pt) (n : Nat) (c : NT n) : Bool := !shownN n c || must q a (boxN n c)
/-- what Verify answers: the points, the error -/
def verify (root : List UInt8) (count : Int) (q : Qr) (s : List UInt8) : List Pt × Int :=
  if mayBe q = false then ([], 6) else match parse s with
  | none => ([], 7)
  | some t =>
    if everyN boxHolds 7 t = false then ([], 8)
    else if everyN digHolds 7 t = false ∨ ¬ (digN 7 t = root ∧ numN 7 t = count) then ([], 9)
    else if everyN (lackN q (ans q (allN 7 t))) 7 t = false then ([], 10)
    else if everyN (wasteN q (ans q (allN 7 t))) 7 t = false then ([], 11)
    else (ans q (allN 7 t), 0)
end Ward
end Go.Proofs.YtenaelkbgkpllaaGreatDoor
/- Reading a proof: its numbers, its next bytes. -/
namespace Go.Proofs.YtenaelkbgkpllaaGreatDoor
open Go.RowKit

set_option maxRecDepth 100000 in
set_option maxHeartbeats 4000000 in
theorem numberOf_any (l : List UInt8) (k : Nat) (w : World) (hk : 4 * k + 4 ≤ l.length) (hl : l.length ≤ 1000) :
    Calls Tryz.prog 157 #[Sv l, I k] w fun e w' => e = .returned (I (Ward.numAt l k)) ∧ Below w.heap.size w w' := by
  go_enter Tryz.func157, Tryz.ntmps157
  go_wp2_with fail
  refine (at_anyI ⟨l.toArray⟩ (4 * k) (4 * k) w (by omega) (by simpa [ByteArray.size] using hk) (by simp [ByteArray.size]; unfold maxLen; omega)).mono ?_
  rintro _ w1 ⟨rfl, n, rfl⟩
  go_wp2_with fail
  go_ret
  have hw := Ward.word_lt l (4 * k)
  refine ⟨?_, below_drewN (Below.refl _ _) n⟩
  have e : wrap64 (wrap32 (Sha.word l (4 * k) : Nat)) = Ward.numAt l k := by
    unfold Ward.numAt Ward.signed wrap64 wrap32
    split <;> omega
  rw [e]
  rfl
theorem sv_size (l : List UInt8) : (⟨l.toArray⟩ : ByteArray).size = l.length := by simp [ByteArray.size]
theorem cut_to (l : List UInt8) (k : Nat) (h : k ≤ l.length) (W : World) : (Instr.slice 9 (Sv l) none (some (I k)) none).run Tryz.prog W = .ok (Sv (l.take k)) W := by
  rw [run_slice_string_to_if W 9 ⟨l.toArray⟩ .i64 _ Tryz.underlying9, if_pos (by rw [sv_size]; omega)]
  rw [ba_eq (s := (⟨l.toArray⟩ : ByteArray).extract 0 (k : Int).toNat) (l := l.take k) (by rw [cut_list]; simp)]
theorem cut_from (l : List UInt8) (k : Nat) (h : k ≤ l.length) (W : World) : (Instr.slice 9 (Sv l) (some (I k)) none none).run Tryz.prog W = .ok (Sv (l.drop k)) W := by
  rw [run_slice_string_from_if W 9 ⟨l.toArray⟩ .i64 _ Tryz.underlying9, if_pos (by rw [sv_size]; omega)]
  rw [ba_eq (s := (⟨l.toArray⟩ : ByteArray).extract (k : Int).toNat (⟨l.toArray⟩ : ByteArray).size) (l := l.drop k) (by rw [cut_list, sv_size]; exact List.take_of_length_le (by simp))]
set_option maxRecDepth 100000 in
set_option maxHeartbeats 4000000 in
theorem take_few (g k : Nat) (l : List UInt8) (m : Value) (w : World) (hr : w.heap[g]? = some (.cells #[Sv l, m] 137 (0, 0))) (hk : l.length < k) :
    Calls Tryz.prog 121 #[.pointer (some ⟨g, 0, none⟩), I k] w fun e w' => e = .returned (.tuple #[Sv [], .bool false]) ∧ w' = w := by
  have c0 : w.cell? ⟨g, 0, none⟩ = some (Sv l) := by rw [cell_of_row _ _ _ _ _ _ hr]; rfl
  clear hr
  go_enter Tryz.func121, Tryz.ntmps121
  go_wp2
  go_ret2
  exact ⟨rfl, rfl⟩
set_option maxRecDepth 100000 in
set_option maxHeartbeats 4000000 in
theorem take_many (g k : Nat) (l : List UInt8) (m : Value) (w : World) (hr : w.heap[g]? = some (.cells #[Sv l, m] 137 (0, 0))) (hk : k ≤ l.length) :
    Calls Tryz.prog 121 #[.pointer (some ⟨g, 0, none⟩), I k] w fun e w' => e = .returned (.tuple #[Sv (l.take k), .bool true]) ∧ w'.heap[g]? = some (.cells #[Sv (l.drop k), m] 137 (0, 0)) ∧ Keeps (fun j => j = g) w w' := by
  have c0 : w.cell? ⟨g, 0, none⟩ = some (Sv l) := by rw [cell_of_row _ _ _ _ _ _ hr]; rfl
  have hf : w.frozen? ⟨g, 0, none⟩ = false := frozen_of_row _ _ _ _ _ hr
  have HR := hide hr
  clear hr
  go_enter Tryz.func121, Tryz.ntmps121
  have s1 := cut_to l k hk
  have s2 := cut_from l k hk
  have HE := hide (show (w.setCell ⟨g, 0, none⟩ (Sv (l.drop k))).heap[g]? = some (.cells #[Sv (l.drop k), m] 137 (0, 0)) from heap_setCell_same w g 0 #[Sv l, m] 137 _ HR.out)
  go_upto_region 3 with fail
  go_region
  all_goals
    go_wp2
    go_ret2
    exact ⟨rfl, HE.out, rfl, rfl, rfl, by simp, fun j _ hn => Below.heap_setCell _ _ _ _ (fun e => hn e)⟩
end Go.Proofs.YtenaelkbgkpllaaGreatDoor
/- The ids that were read: a set of the program's own. -/
namespace Go.Proofs.YtenaelkbgkpllaaGreatDoor
open Go.RowKit

/-- the map of that block holds these ids -/
def SetIs (w : World) (b n : Nat) (ids : List Int) : Prop := ∃ D : DataW Unit, w.ownsMap Tryz.prog 3 unitElem b n D ∧ ∀ x, Maps.has D (.int .i64 x) = ids.contains x
theorem setKey : Maps.Keyed Tryz.prog 3 := Maps.int_keyed Tryz.underlying3
theorem setZero (w : World) : (zeroValue 222).run Tryz.prog w = .ok (.agg #[]) w := by kernel_rfl
theorem keyI {x : Int} (h : -9223372036854775808 ≤ x ∧ x < 9223372036854775808) : keyOf Tryz.prog 3 (I x) = some (.int .i64 x) := Maps.keyOf_int_mk Tryz.underlying3 (by
  simp [Lit.wf, IntKind.min, IntKind.max, IntKind.bits, IntKind.signed]
  omega)
theorem SetIs.block {w w' : World} {b n : Nat} {ids : List Int} (h : SetIs w b n ids) (hb : w'.heap[b]? = w.heap[b]?) : SetIs w' b n ids := by
  obtain ⟨D, ⟨es, clock, h1, h2⟩, hD⟩ := h
  exact ⟨D, ⟨es, clock, hb.trans h1, h2⟩, hD⟩
theorem SetIs.lt {w : World} {b n : Nat} {ids : List Int} (h : SetIs w b n ids) : b < w.heap.size := by
  obtain ⟨D, h, _⟩ := h
  exact h.lt
theorem SetIs.look {w : World} {b n : Nat} {ids : List Int} (h : SetIs w b n ids) {x : Int} (hx : -9223372036854775808 ≤ x ∧ x < 9223372036854775808) : (Instr.lookup 135 (.map (some b)) (I x) true).run Tryz.prog w = .ok (.tuple #[.agg #[], .bool (ids.contains x)]) w := by
  obtain ⟨D, h, hD⟩ := h
  obtain ⟨v, ps, hr, hv⟩ := h.look_ok setKey Tryz.underlying135 (setZero w) unitElem_mk (keyI hx)
  obtain ⟨rfl, _⟩ := unitElem_inv hv
  rw [hr, hD]
theorem SetIs.put {w : World} {b n : Nat} {ids : List Int} (h : SetIs w b n ids) (hn : n ≤ 1000000) {x : Int} (hx : -9223372036854775808 ≤ x ∧ x < 9223372036854775808) : ∃ w', (Instr.mapUpdate 135 (.map (some b)) (I x) (.agg #[])).run Tryz.prog w = .ok () w' ∧ SetIs w' b (n + 1) (x :: ids) ∧ w.grownBy w' (some b) := by
  obtain ⟨D, h, hD⟩ := h
  obtain ⟨w', hr, ho, hg⟩ := h.update setKey Tryz.underlying135 (by unfold maxLen; omega) (keyI hx) unitElem_mk
  refine ⟨w', hr, ⟨_, ho, fun y => ?_⟩, hg⟩
  by_cases e : y = x
  · subst e
    rw [Maps.has_put_same h.isMap (show WideAt.IsKeyLit (.int .i64 y) from trivial)]
    simp
  · rw [Maps.has_put_other (fun e2 => e (by injection e2)), hD]
    simp [e]
theorem look_small {x : Int} (hx : -2147483648 ≤ x ∧ x < 2147483648) : -9223372036854775808 ≤ x ∧ x < 9223372036854775808 := by omega
theorem look_drew {w : World} {b n : Nat} {ids : List Int} {x : Int} {r : Bool} (h : SetIs w b n ids) (hx : -2147483648 ≤ x ∧ x < 2147483648) (hr : ids.contains x = r) : (Instr.lookup 135 (.map (some b)) (I x) true).run Tryz.prog w.drew = .ok (.tuple #[.agg #[], .bool r]) w.drew := by
  rw [← hr]
  exact SetIs.look (w := w.drew) (h.block rfl) (look_small hx)
theorem look_alloc {w : World} {b n : Nat} {ids : List Int} {x : Int} {r : Bool} (h : SetIs w b n ids) (hx : -2147483648 ≤ x ∧ x < 2147483648) (hr : ids.contains x = r) (o : Obj) : (Instr.lookup 135 (.map (some b)) (I x) true).run Tryz.prog (w.alloc o).drew = .ok (.tuple #[.agg #[], .bool r]) (w.alloc o).drew := by
  have hb : (w.alloc o).heap[b]? = w.heap[b]? := Below.heap_alloc w o b h.lt
  exact look_drew (h.block hb) hx hr
end Go.Proofs.YtenaelkbgkpllaaGreatDoor
