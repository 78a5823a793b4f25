/- The points of a window. -/
import Derived.Test.YtenaelkbgkpllaaGreatDoorVerified9
import Derived.Test.YtenaelkbgkpllaaGreatDoorVerified8
import Derived.Test.YtenaelkbgkpllaaGreatDoorVerified6
namespace Go.Proofs.YtenaelkbgkpllaaGreatDoor
open Go.RowKit

/-- a point put behind others -/
theorem append_pt {w : World} {B : Nat} {v : Value} {l : List Ward.Pt} (p : Ward.Pt) (hown : Own w B v l) (hB : B ≤ w.heap.size) (hn : l.length ≤ 100000) :
    ∃ v' w', (Builtin.append_ #[27, 27] 27 #[v, .slice (some ⟨w.heap.size, 0, none⟩) 1 1]).run Tryz.prog (w.alloc (.cells #[I p.id, I p.x, I p.y] 36)) = .ok v' w' ∧ Own w' B v' (l ++ [p]) ∧ w.grownBy w' v.ownBlock ∧ Fresh w v v' := by
  obtain ⟨i0, hi0, hz0, hz1, hz2⟩ := info_parts Tryz.infoPt
  have hown' : (w.alloc (.cells #[I p.id, I p.x, I p.y] 36)).ownsRow B 36 3 v l.length (l.flatMap P3) := World.ownsRow.alloc hown _
  obtain ⟨v', w', hr, ho, hg, hf⟩ := run_append_own2 (P := Tryz.prog) (w.alloc (.cells #[I p.id, I p.x, I p.y] 36)) B 27 27 36 i0 (.agg #[I 0, I 0, I 0]) 3 24 Tryz.underlying27 hi0 hz0 hz1 hz2 rfl (by decide) v l.length (l.flatMap P3) hown' ⟨w.heap.size, 0, none⟩ 1 1 (P3 p) rfl
    (fun j u hj => by
      rw [Addr.add_lit, Nat.zero_add, cell_of_row _ _ _ _ _ _ (heap_alloc_new w _)]
      rw [List.getElem?_toArray]
      exact hj)
    (fun u hu => cells_one (L := [p]) u (by simpa using hu)) (by unfold maxLen; omega) (by omega) (by simp; omega)
  refine ⟨v', w', hr, ?_, ⟨hg.os, hg.tape, hg.output, Nat.le_trans (by simp) hg.size, fun j hj hne => (hg.block j (by simp; omega) hne).trans (Below.heap_alloc w _ j hj)⟩, ?_⟩
  · unfold Own
    rw [List.length_append, List.flatMap_append]
    have e : [p].flatMap P3 = P3 p := by simp
    rw [e]
    exact ho
  · rcases hf with hf | ⟨g, hf, hgs⟩
    · exact .inl hf
    · exact .inr ⟨g, hf, Nat.le_trans (by simp) hgs⟩
/-- what putting points behind others leaves -/
def PutP (w : World) (B : Nat) (v : Value) (l more : List Ward.Pt) (e : Ending) (w' : World) : Prop := ∃ v', e = .returned v' ∧ Own w' B v' (l ++ more) ∧ w.grownBy w' v.ownBlock ∧ Fresh w v v'
theorem Own.slice {w : World} {B : Nat} {v : Value} {L : List Ward.Pt} (h : Own w B v L) : ∃ a c, v = .slice a L.length c := by
  rcases h.2 with ⟨rfl, h0⟩ | ⟨g, cap, cur, rfl, _⟩
  · exact ⟨none, 0, by rw [h0]⟩
  · exact ⟨_, cap, rfl⟩
theorem grown_of_below {w w' : World} {r : Option Nat} (h : Below w.heap.size w w') : w.grownBy w' r := ⟨h.os, h.tape, h.output, h.size, fun j hj _ => h.block j hj⟩
theorem grown_same {S : Nat → Prop} {w w' : World} {B : Nat} {v : Value} {L : List Ward.Pt} (h : w.grownBy w' v.ownBlock) (ho : Own w B v L) (hS : ∀ g, S g → g < B) (hB : B ≤ w.heap.size) : Same S w w' := fun g hg => h.block g (Nat.lt_of_lt_of_le (hS g hg) hB) (fun e => by have := ho.ge e.symm; have := hS g hg; omega)
theorem grown_lift {w w2 w' : World} {r : Option Nat} (hb : Below w.heap.size w w2) (hg : w2.grownBy w' r) : w.grownBy w' r := ⟨hg.os.trans hb.os, hg.tape.trans hb.tape, hg.output.trans hb.output, Nat.le_trans hb.size hg.size, fun j hj hne => (hg.block j (Nat.lt_of_lt_of_le hj hb.size) hne).trans (hb.block j hj)⟩
theorem fresh_lift {w w2 : World} {v v' : Value} (hs : w.heap.size ≤ w2.heap.size) (hf : Fresh w2 v v') : Fresh w v v' := by
  rcases hf with hf | ⟨g, hf, hgs⟩
  · exact .inl hf
  · exact .inr ⟨g, hf, Nat.le_trans hs hgs⟩
/-- of a child, by its box -/
def kidW (b : Ward.Box) (n : Nat) (c : Ward.NT n) : List Ward.Pt := if Ward.meets b (Ward.boxN n c) then Ward.withinN b n c else []
theorem kidW_len (b : Ward.Box) (n : Nat) : ∀ (K : List (Ward.NT n)) (i : Nat) (h : i < K.length), ((K.take i).flatMap (kidW b n)).length + (Ward.allN n K[i]).length ≤ (K.flatMap (Ward.allN n)).length
  | c :: K, 0, _ => by
    rw [List.flatMap_cons, List.length_append]
    show 0 + (Ward.allN n c).length ≤ _
    omega
  | c :: K, i + 1, h => by
    have ih := kidW_len b n K i (by simpa using h)
    rw [List.flatMap_cons, List.length_append, List.take_succ_cons, List.flatMap_cons, List.length_append]
    have h1 : (kidW b n c).length ≤ (Ward.allN n c).length := by
      unfold kidW
      split
      · exact Ward.within_le b n c
      · exact Nat.zero_le _
    rw [List.getElem_cons_succ]
    omega
/-- a box and a point as they lie -/
def BoxPt (w : World) (g k : Nat) (b : Ward.Box) (q : Ward.Pt) : Prop :=
  (w.cell? ⟨g, 0, none⟩ = some (I b.a) ∧ w.cell? ⟨g, 1, none⟩ = some (I b.b) ∧ w.cell? ⟨g, 2, none⟩ = some (I b.c) ∧ w.cell? ⟨g, 3, none⟩ = some (I b.d)) ∧
  w.cell? ⟨k, 0, none⟩ = some (I q.id) ∧ w.cell? ⟨k, 1, none⟩ = some (I q.x) ∧ w.cell? ⟨k, 2, none⟩ = some (I q.y)
theorem BoxPt.below {w w' : World} {g k : Nat} {b : Ward.Box} {q : Ward.Pt} {B : Nat} (h : BoxPt w g k b q) (hb : Below B w w') (hg : g < B) (hk : k < B) : BoxPt w' g k b q :=
  ⟨⟨(hb.cell (p := ⟨g, 0, none⟩) hg).trans h.1.1, (hb.cell (p := ⟨g, 1, none⟩) hg).trans h.1.2.1, (hb.cell (p := ⟨g, 2, none⟩) hg).trans h.1.2.2.1, (hb.cell (p := ⟨g, 3, none⟩) hg).trans h.1.2.2.2⟩,
   (hb.cell (p := ⟨k, 0, none⟩) hk).trans h.2.1, (hb.cell (p := ⟨k, 1, none⟩) hk).trans h.2.2.1, (hb.cell (p := ⟨k, 2, none⟩) hk).trans h.2.2.2⟩
theorem BoxPt.drew {w : World} {g k : Nat} {b : Ward.Box} {q : Ward.Pt} (h : BoxPt w g k b q) : BoxPt w.drew g k b q := by simpa [BoxPt] using h
theorem row4 {w : World} {g t : Nat} {a b c d : Value} (h : w.heap[g]? = some (.cells #[a, b, c, d] t (0, 0))) : w.cell? ⟨g, 0, none⟩ = some a ∧ w.cell? ⟨g, 1, none⟩ = some b ∧ w.cell? ⟨g, 2, none⟩ = some c ∧ w.cell? ⟨g, 3, none⟩ = some d := by
  refine ⟨?_, ?_, ?_, ?_⟩ <;> rw [cell_of_row _ _ _ _ _ _ h] <;> rfl
theorem filter_step (P : Ward.Pt → Bool) (L : List Ward.Pt) (i : Nat) (h : i < L.length) : (L.take (i + 1)).filter P = (L.take i).filter P ++ (if P L[i] then [L[i]] else []) := by
  rw [List.take_succ_eq_append_getElem h, List.filter_append]
  congr 1
  cases hp : P L[i] <;> simp [hp]
set_option maxRecDepth 100000 in
set_option maxHeartbeats 4000000 in
theorem appendWithin_any : ∀ (n : Nat) (t : Ward.NT n) (v : Value) (l : List Ward.Pt) (V : List Value) (b : Ward.Box) (w : World) (B : Nat) (S : Nat → Prop) (_ : ∀ g, S g → g < B) (_ : B ≤ w.heap.size) (_ : l.length + (Ward.allN n t).length ≤ 1000) (_ : Ward.Few n t) (_ : NodeIs w S n t V) (_ : Own w B v l),
    Calls Tryz.prog 76 #[v, .agg V.toArray, Bx b] w fun e w' => PutP w B v l (Ward.withinN b n t) e w' := by
  intro n
  induction n with
  | zero => intro t; exact nomatch t
  | succ n ih =>
    intro t v l V b w B S hS hB hlen hfew hN hown
    have HFEW := hide hfew
    clear hfew
    have IH := hide ih
    clear ih
    obtain ⟨a1, l1, c1, a2, l2, c2, hV, hd⟩ := hN.cells
    have HR := hide (show Row39 V by rw [hV]; exact nodeV_row hd)
    obtain ⟨vp, vc, hVe, -, ⟨ap, cp, rfl, hpts⟩, ⟨ac, cc, rfl, hkids⟩⟩ := hN
    have HVE := hide hVe
    have HPT := hide hpts
    have HKD := hide hkids
    have HO := hide hown
    have HS := hide hS
    have HLEN := hide hlen
    have HVB := hide (fun g (hg : v.ownBlock = some g) => And.intro (hown.ge hg) (hown.lt hg))
    obtain ⟨fs, hu⟩ := underNode
    have HU := hide hu
    clear hu hV hd hVe hpts hkids hown hS hlen
    have hb2 := fun o o' => ((Below.refl w.heap.size w).alloc (Nat.le_refl _) o).alloc (by simp) o'
    have hr2 := heap_alloc2_new w
    have hr1 := heap_alloc2_old w
    have hs2 := fun o o' => show ((w.alloc o).alloc o').heap.size = w.heap.size + 2 by simp
    go_enter Tryz.func76, Tryz.ntmps76
    go_upto_region 1 with fail
    generalize hW : World.alloc (World.alloc w _) _ = w1
    have hb1 : Below w.heap.size w w1 := by rw [← hW]; exact hb2 _ _
    have hn1 : w1.heap[w.heap.size]? = some (.cells V.toArray 90 (0, 0)) := by rw [← hW]; exact hr1 _ _
    have hx1 : w1.heap[w.heap.size + 1]? = some (.cells #[I b.a, I b.b, I b.c, I b.d] 88 (0, 0)) := by rw [← hW]; exact hr2 _ _
    have hs1 : w1.heap.size = w.heap.size + 2 := by rw [← hW]; exact hs2 _ _
    clear hb2 hr1 hr2 hs2 hW
    have HB1 := hide hb1
    have HX1 := hide hx1
    have HS1 := hide hs1
    have HN1 := hide (show w1.heap[w.heap.size]? = some (.cells (nodeV (.slice ap (Ward.Nd.pts t).length cp) (.slice ac (Ward.Nd.kids t).length cc) (Ward.Nd.box t) (Ward.Nd.n t) ((Ward.Nd.dig t).map Y)).toArray 90 (0, 0)) by rw [hn1, HVE.out])
    obtain ⟨⟨k0, k1⟩, -, -⟩ := node_cells HN1.out
    clear hb1 hn1 hx1 hs1
    go_wp2_with fail
    go_loopg [0, 14] (Ward.Nd.pts t).length (fun gk v0 v14 wq => ∃ i : Nat, gk = (Ward.Nd.pts t).length - i ∧ v14 = I i ∧ i ≤ (Ward.Nd.pts t).length ∧ Own wq B v0 (l ++ ((Ward.Nd.pts t).take i).filter (Ward.inB b)) ∧ w1.grownBy wq v.ownBlock ∧ Fresh w1 v v0)
    case atStart => exact ⟨0, by omega, rfl, by omega, by simpa using HO.out.below HB1.out, grown_of_below (Below.refl _ _), .inl rfl⟩
    case round =>
      obtain ⟨i, hgk, rfl, hi, ho, hgr, hf⟩ := hrel
      have HGK := hide hgk
      have HG := hide hgr
      have HF := hide hf
      have HOI := hide ho
      have hsz := hgr.size
      clear hgk hgr hf ho
      have hbx := (HG.out.block (w.heap.size + 1) (by have := HS1.out; omega) (fun e => by have := (HVB.out _ e.symm).2; omega)).trans HX1.out
      have HBX := hide hbx
      have hnd := (HG.out.block w.heap.size (by have := HS1.out; omega) (fun e => by have := (HVB.out _ e.symm).2; omega)).trans HN1.out
      have HND := hide hnd
      have HSZ := hide (show w.heap.size + 2 ≤ wr.heap.size by have := HS1.out; omega)
      clear hbx hnd
      by_cases hlt : i < (Ward.Nd.pts t).length
      · obtain ⟨g, o, rfl, hgS, hpts⟩ := HPT.out (fun e => by rw [e] at hlt; simp at hlt)
        have hgB := HS.out g hgS
        have hpi := ((hpts i hlt).below HB1.out (by omega)).block (w' := wr) (HG.out.block g (by have := HS1.out; omega) (fun e => by have := (HVB.out _ e.symm).1; omega))
        have HT := hide (filter_step (Ward.inB b) (Ward.Nd.pts t) i hlt)
        have hNl : (((Ward.Nd.pts t).take i).filter (Ward.inB b)).length ≤ (Ward.Nd.pts t).length := Nat.le_trans (List.length_filter_le _ _) (by rw [List.length_take]; omega)
        have hpl : (Ward.Nd.pts t).length ≤ (Ward.allN (n + 1) t).length := by
          show _ ≤ (Ward.Nd.pts t ++ _).length
          rw [List.length_append]; omega
        have HL := hide (show (l ++ ((Ward.Nd.pts t).take i).filter (Ward.inB b)).length ≤ 1000 by rw [List.length_append]; have := HLEN.out; omega)
        have hp1000 : (Ward.Nd.pts t).length ≤ 1000 := by have := HLEN.out; omega
        clear hpts hNl hpl
        generalize (Ward.Nd.pts t)[i] = q at *
        generalize ((Ward.Nd.pts t).take i).filter (Ward.inB b) = N at *
        obtain ⟨p1, p2, p3⟩ := hpi
        go_upto_region 4 with fail
        have hb5' := fun o => (Below.refl wr.heap.size wr).alloc (Nat.le_refl _) o
        have hr5' := heap_alloc_new wr
        have hs5' := fun o => show (wr.alloc o).heap.size = wr.heap.size + 1 by simp
        generalize hW : World.alloc wr _ = w5
        have hb5 : Below wr.heap.size wr w5 := by rw [← hW]; exact hb5' _
        have hr5 : w5.heap[wr.heap.size]? = some (.cells #[I q.id, I q.x, I q.y] 36 (0, 0)) := by rw [← hW]; exact hr5' _
        have hs5 : w5.heap.size = wr.heap.size + 1 := by rw [← hW]; exact hs5' _
        clear hb5' hr5' hs5' hW
        have H7 := hide (show BoxPt w5 (w.heap.size + 1) wr.heap.size b q from ⟨row4 ((hb5.block (w.heap.size + 1) (by have := HSZ.out; omega)).trans HBX.out), row3 hr5⟩)
        have HB5 := hide hb5
        have HR5 := hide hr5
        have hws := HSZ.out
        obtain ⟨⟨a1, a2, a3, a4⟩, a5, a6, a7⟩ := H7.out
        clear hb5 hr5 p1 p2 p3
        have HMT := hide (fun W => meets_any b (Ward.boxOf q) W)
        have HRW := hide (show Ward.inB b q = Ward.meets b (Ward.boxOf q) from rfl)
        generalize Ward.meets b (Ward.boxOf q) = r at *
        go_region_with (first | (go_at_call 79; go_must (refine (boxOf_any q w5.drew).mono ?_; rintro _ w6 ⟨rfl, hb6⟩; have hs6 := hb6.size; have H76 := hide (H7.out.drew.below hb6 (by simp; omega) (by simp; omega)); obtain ⟨⟨k1, k2, k3, k4⟩, k5, k6, k7⟩ := H76.out; have HB6 := hide hb6; clear hb6)) | (go_at_call 78; go_must (refine (HMT.out w6).mono ?_; rintro _ w7 ⟨rfl, hb7⟩; have hs7 := hb7.size; have H77 := hide (H76.out.below hb7 (by simp at hs6; omega) (by simp at hs6; omega)); obtain ⟨⟨m1, m2, m3, m4⟩, m5, m6, m7⟩ := H77.out; have HB7 := hide hb7; clear hb7)))
        all_goals
          have hd : w5.drew.heap.size = w5.heap.size := by simp
          rw [hd] at hs6
          have HBA := hide (show Below wr.heap.size wr w7 from ((HB5.out.drew.trans (HB6.out.mono (by omega))).trans (HB7.out.mono (by omega))))
          clear H7 H76 a1 a2 a3 a4 a5 a6 a7 k1 k2 k3 k4 k5 k6 k7 hd
          cases r with
          | false =>
            go_wp2_with fail
            go_roundg ((Ward.Nd.pts t).length - (i + 1))
            case measure => have := HGK.out; omega
            case rel =>
              refine ⟨i + 1, rfl, by go_num, hlt, ?_, ?_, HF.out⟩
              · rw [HT.out, HRW.out, if_neg (by simp), List.append_nil]
                exact HOI.out.below HBA.out
              · exact grown_trans HG.out HF.out (grown_of_below HBA.out)
          | true =>
            obtain ⟨v8, w8, h8, ho8, hg8, hf8⟩ := append_pt q (HOI.out.below HBA.out) (by omega) (by have := HL.out; omega)
            obtain ⟨au, cu, eu⟩ := HOI.out.slice
            subst eu
            have HO8 := hide ho8
            have HG8 := hide hg8
            have HF8 := hide hf8
            clear ho8 hg8 hf8
            go_wp2_with (at_builtin; refine Lib.wpList_append_run _ rfl (.tmp 22) (.tmp 24) 27 27 rfl _ _ rfl rfl _ _ h8 ?_)
            go_roundg ((Ward.Nd.pts t).length - (i + 1))
            case measure => have := HGK.out; omega
            case rel =>
              refine ⟨i + 1, rfl, by go_num, hlt, ?_, grown_trans HG.out HF.out (grown_lift HBA.out HG8.out), fresh_trans HF.out HG.out.size (fresh_lift HBA.out.size HF8.out)⟩
              rw [HT.out, HRW.out, if_pos rfl, ← List.append_assoc]
              exact HO8.out
      · have ei : i = (Ward.Nd.pts t).length := by omega
        subst ei
        rw [List.take_length] at HOI
        obtain ⟨⟨k0', k1'⟩, -, -⟩ := node_cells HND.out
        have HFN := hide (show l ++ Ward.withinN b (n + 1) t = (l ++ (Ward.Nd.pts t).filter (Ward.inB b)) ++ (Ward.Nd.kids t).flatMap (kidW b n) by rw [List.append_assoc]; rfl)
        have HNL := hide (show (l ++ (Ward.Nd.pts t).filter (Ward.inB b)).length + ((Ward.Nd.kids t).flatMap (Ward.allN n)).length ≤ 1000 by
          have h1 := HLEN.out
          have h2 := List.length_filter_le (Ward.inB b) (Ward.Nd.pts t)
          have h3 : (Ward.allN (n + 1) t).length = (Ward.Nd.pts t).length + ((Ward.Nd.kids t).flatMap (Ward.allN n)).length := by
            show (Ward.Nd.pts t ++ _).length = _
            rw [List.length_append]
          rw [List.length_append]; omega)
        generalize l ++ (Ward.Nd.pts t).filter (Ward.inB b) = M at *
        have HSM := hide (show Same S w wr from fun g hg => ((grown_same HG.out (HO.out.below HB1.out) HS.out (by have := HS1.out; omega)) g hg).trans (HB1.out.block g (by have := HS.out g hg; omega)))
        clear HN1 HX1 HPT HR HVE hsz hi hlt
        obtain ⟨wx, hwx⟩ : ∃ wx, wx = wr := ⟨_, rfl⟩
        subst hwx
        obtain ⟨vx, hvx⟩ : ∃ vx, vx = u0 := ⟨_, rfl⟩
        subst hvx
        go_wp2_with fail
        go_loopg [0, 30] (Ward.Nd.kids t).length (fun gk v0 v30 wq => ∃ i : Nat, gk = (Ward.Nd.kids t).length - i ∧ v30 = I i ∧ i ≤ (Ward.Nd.kids t).length ∧ Own wq B v0 (M ++ ((Ward.Nd.kids t).take i).flatMap (kidW b n)) ∧ wx.grownBy wq vx.ownBlock ∧ Fresh wx vx v0)
        case atStart => exact ⟨0, by omega, rfl, by omega, by simpa using HOI.out, grown_of_below (Below.refl _ _), .inl rfl⟩
        case round =>
          clear HGK
          obtain ⟨i, hgk, rfl, hi, ho2, hgr2, hf2⟩ := hrel
          have HGK := hide hgk
          have HG2 := hide hgr2
          have HF2 := hide hf2
          have HO2 := hide ho2
          have hxb := hgr2.size
          have HVX := hide (fun g (hg : vx.ownBlock = some g) => And.intro (HOI.out.ge hg) (HOI.out.lt hg))
          have HNV := hide (show ∀ g, vx.ownBlock = some g → g ≠ w.heap.size ∧ g ≠ w.heap.size + 1 from fun g hg => by
            rcases HF.out with h | ⟨g', h, hg'⟩
            · have := (HVB.out g (by rw [← h]; exact hg)).2
              omega
            · rw [hg] at h
              injection h with h
              have := HS1.out
              omega)
          have hbx := (HG2.out.block (w.heap.size + 1) (by have := HSZ.out; omega) (fun e => (HNV.out _ e.symm).2 rfl)).trans HBX.out
          have HBX2 := hide hbx
          have HSM2 := hide (show Same S w wr from fun g hg => (HG2.out.block g (by have := HS.out g hg; have := HSZ.out; omega) (fun e => by have := (HVX.out _ e.symm).1; have := HS.out g hg; omega)).trans (HSM.out g hg))
          clear hgk hgr2 hf2 ho2 hbx
          by_cases hlt : i < (Ward.Nd.kids t).length
          · obtain ⟨g, o, rfl, hgS, hrows⟩ := HKD.out (fun e => by rw [e] at hlt; simp at hlt)
            obtain ⟨U, hU, hc⟩ := hrows i hlt
            have HU2 := hide (NodeIs.keep HSM2.out (fun _ h => h) n _ U hU)
            have HC := hide (rangeAt_block hc (HSM2.out g hgS))
            have HT := hide (flat_step (kidW b n) (Ward.Nd.kids t) i hlt)
            have hml : (((Ward.Nd.kids t).take i).flatMap (kidW b n)).length + (Ward.allN n (Ward.Nd.kids t)[i]).length ≤ ((Ward.Nd.kids t).flatMap (Ward.allN n)).length := kidW_len b n _ i hlt
            have HL := hide (show (M ++ ((Ward.Nd.kids t).take i).flatMap (kidW b n)).length + (Ward.allN n (Ward.Nd.kids t)[i]).length ≤ 1000 by rw [List.length_append]; have := HNL.out; omega)
            have hk1000 : (Ward.Nd.kids t).length ≤ 4 := HFEW.out.2.1
            have HFC := hide (HFEW.out.2.2 _ (List.getElem_mem hlt))
            obtain ⟨d1, m1, e1, d2, m2, e2, hV, hd⟩ := HU2.out.cells
            have HR := hide (show Row39 U by rw [hV]; exact nodeV_row hd)
            have HVE := hide hV
            clear hV hd hc hU hrows hml
            generalize (Ward.Nd.kids t)[i] = c at *
            go_upto_region 10 with (first | (refine wpList_load_mid rfl 90 (.tmp 32) rfl g (o + i * 39) rfl U (.struct fs) HC.out HU.out rfl HR.out.infl ?_) | (refine wpList_store_row rfl 90 (.tmp 10) (.tmp 33) rfl wr.heap.size U.toArray rfl rfl 90 _ (heap_alloc_new wr _) HR.out.info (by rw [HR.out.size]; rfl) HR.out.one ?_; rw [World.setRow_alloc_new]))
            have hb5' := fun o => (Below.refl wr.heap.size wr).alloc (Nat.le_refl _) o
            have hr5' := heap_alloc_new wr
            have hs5' := fun o => show (wr.alloc o).heap.size = wr.heap.size + 1 by simp
            generalize hW : World.alloc wr _ = w5
            have hb5 : Below wr.heap.size wr w5 := by rw [← hW]; exact hb5' _
            have hr5 : w5.heap[wr.heap.size]? = some (.cells U.toArray 90 (0, 0)) := by rw [← hW]; exact hr5' _
            have hs5 : w5.heap.size = wr.heap.size + 1 := by rw [← hW]; exact hs5' _
            clear hb5' hr5' hs5' hW
            have HB5 := hide hb5
            have HR5 := hide hr5
            have hxx := HSZ.out
            obtain ⟨a1, a2, a3, a4⟩ := row4 ((hb5.block (w.heap.size + 1) (by omega)).trans HBX2.out)
            rw [HVE.out] at hr5
            obtain ⟨-, ⟨f1, f2, f3, f4⟩, -⟩ := node_cells hr5
            have HMT := hide (fun W => meets_any b (Ward.boxN n c) W)
            have HRW := hide (show kidW b n c = if Ward.meets b (Ward.boxN n c) then Ward.withinN b n c else [] from rfl)
            clear hb5 hr5
            generalize Ward.meets b (Ward.boxN n c) = r at *
            generalize Ward.boxN n c = bc at *
            go_wp2_with fail
            refine (HMT.out _).mono ?_
            rintro _ w6 ⟨rfl, hb6⟩
            have hs6 := hb6.size
            have HB6 := hide hb6
            have HBA := hide (show Below wr.heap.size wr w6 from HB5.out.trans (hb6.mono (by omega)))
            obtain ⟨q1, q2, q3, q4⟩ := row4 ((HBA.out.block (w.heap.size + 1) (by omega)).trans HBX2.out)
            have HR6 := hide ((hb6.block wr.heap.size (by omega)).trans HR5.out)
            clear hb6 a1 a2 a3 a4 f1 f2 f3 f4 HR5
            cases r with
            | false =>
              go_wp2_with fail
              go_roundg ((Ward.Nd.kids t).length - (i + 1))
              case measure => have := HGK.out; omega
              case rel =>
                refine ⟨i + 1, rfl, by go_num, hlt, ?_, grown_trans HG2.out HF2.out (grown_of_below HBA.out), HF2.out⟩
                rw [HT.out, HRW.out, if_neg (by simp), List.append_nil]
                exact HO2.out.below HBA.out
            | true =>
              have HIH := hide (IH.out c u0 (M ++ ((Ward.Nd.kids t).take i).flatMap (kidW b n)) U b w6 B S HS.out (by omega) HL.out HFC.out (NodeIs.keep (below_same HBA.out (fun g hg => by have := HS.out g hg; omega)) (fun _ h => h) n _ U HU2.out) (HO2.out.below HBA.out))
              generalize ((Ward.Nd.kids t).take i).flatMap (kidW b n) = N at *
              go_wp2_with (refine wpList_load_row rfl 90 (.tmp 10) rfl wr.heap.size rfl 90 U.toArray (0, 0) (.struct fs) HR6.out HU.out rfl HR.out.info ?_)
              refine HIH.out.mono ?_
              rintro _ w7 ⟨v7, rfl, ho7, hg7, hf7⟩
              have HO7 := hide ho7
              have HG7 := hide hg7
              have HF7 := hide hf7
              clear ho7 hg7 hf7
              go_wp2_with fail
              go_roundg ((Ward.Nd.kids t).length - (i + 1))
              case measure => have := HGK.out; omega
              case rel =>
                refine ⟨i + 1, rfl, by go_num, hlt, ?_, grown_trans HG2.out HF2.out (grown_lift HBA.out HG7.out), fresh_trans HF2.out HG2.out.size (fresh_lift HBA.out.size HF7.out)⟩
                rw [HT.out, HRW.out, if_pos trivial, ← List.append_assoc]
                exact HO7.out
          · have ei : i = (Ward.Nd.kids t).length := by omega
            subst ei
            rw [List.take_length, ← HFN.out] at HO2
            go_wp2
            go_ret
            refine ⟨_, rfl, HO2.out, grown_lift HB1.out (grown_trans HG.out HF.out HG2.out), fresh_lift HB1.out.size (fresh_trans HF.out HG.out.size HF2.out)⟩
end Go.Proofs.YtenaelkbgkpllaaGreatDoor
/- What the law keeps: its maps in pairs, the lists that came out, whose block is whose. -/
namespace Go.Proofs.YtenaelkbgkpllaaGreatDoor
open Go.RowKit

theorem worked_const : ((Big.Hs ++ Big.Ks).map U) = constV := by
  have e : Big.Hs ++ Big.Ks = toL Sha.start ++ Sha.Ks := by kernel_rfl
  rw [constV, e]
/-- a row that is new, or the old one, or none -/
def FreshR (w : World) (u u' : Value) : Prop := ∀ k, u'.ownBlock = some k → u.ownBlock = some k ∨ w.heap.size ≤ k
/-- the document's map -/
structure RMap (w : World) (r : Nat) (u : Value) (L : List Ward.Pt) : Prop where
  row : w.heap[r]? = some (.cells (u :: constV).toArray 111 (0, 0))
  own : Own w 0 u L
  apart : u.ownBlock ≠ some r
theorem RMap.lt {w : World} {r : Nat} {u : Value} {L : List Ward.Pt} (h : RMap w r u L) : r < w.heap.size := (Array.getElem?_eq_some_iff.1 h.row).1
theorem RMap.keeps {S : Nat → Prop} {w w' : World} {r : Nat} {u : Value} {L : List Ward.Pt} (h : RMap w r u L) (hk : Keeps S w w') (hn : ∀ k, Mine r u k → ¬ S k) : RMap w' r u L :=
  ⟨(hk.block r h.lt (hn r (.inl rfl))).trans h.row, h.own.keeps hk (fun g hg => hn g (.inr hg.symm)), h.apart⟩
theorem RMap.mine_lt {w : World} {r : Nat} {u : Value} {L : List Ward.Pt} (h : RMap w r u L) {k : Nat} (hk : Mine r u k) : k < w.heap.size := by
  rcases hk with rfl | hk
  · exact h.lt
  · exact h.own.lt hk.symm
theorem IsMap.mine_lt {w : World} {m : Nat} {v : Value} {L : List Ward.Pt} (h : IsMap w m v L) {k : Nat} (hk : Mine m v k) : k < w.heap.size := by
  rcases hk with rfl | hk
  · exact h.lt
  · exact h.own.lt hk.symm
/-- the program's map, and the document's, with the points of both -/
structure Pr where
  m : Nat
  v : Value
  r : Nat
  u : Value
  L : List Ward.Pt
  K : List Ward.Pt
def prV (p : Pr) : List Value := [.pointer (some ⟨p.m, 0, none⟩), .pointer (some ⟨p.r, 0, none⟩)]
def hdV (h : Nat) : Value := .pointer (some ⟨h, 0, none⟩)
/-- the law's own blocks -/
structure LawAt (w : World) (W0 : Nat) (vp vh : Value) (ps : List Pr) (hs : List Nat) : Prop where
  row : w.heap[W0]? = some (.cells (vp :: vh :: constV).toArray 72 (0, 0))
  pairs : w.ownsRow 0 113 2 vp ps.length (ps.flatMap prV)
  holds : w.ownsRow 0 117 1 vh hs.length (hs.map hdV)
  apP : vp.ownBlock ≠ some W0
  apH : vh.ownBlock ≠ some W0
  apart : ∀ g, vp.ownBlock = some g → vh.ownBlock ≠ some g
def Lawn (W0 : Nat) (vp vh : Value) (k : Nat) : Prop := k = W0 ∨ some k = vp.ownBlock ∨ some k = vh.ownBlock
theorem LawAt.lt {w : World} {W0 : Nat} {vp vh : Value} {ps : List Pr} {hs : List Nat} (h : LawAt w W0 vp vh ps hs) : W0 < w.heap.size := (Array.getElem?_eq_some_iff.1 h.row).1
theorem LawAt.lawn_lt {w : World} {W0 : Nat} {vp vh : Value} {ps : List Pr} {hs : List Nat} (h : LawAt w W0 vp vh ps hs) {k : Nat} (hk : Lawn W0 vp vh k) : k < w.heap.size := by
  rcases hk with rfl | hk | hk
  · exact h.lt
  · exact (World.ownsRow.lt h.pairs k hk.symm).2
  · exact (World.ownsRow.lt h.holds k hk.symm).2
theorem ownsRow_keepsS {S : Nat → Prop} {w w' : World} {B e size n : Nat} {v : Value} {xs : List Value} (h : w.ownsRow B e size v n xs) (hk : Keeps S w w') (hn : ∀ g, v.ownBlock = some g → ¬ S g) : w'.ownsRow B e size v n xs := by
  refine ⟨h.1, ?_⟩
  rcases h.2 with h0 | ⟨g, cap, cur, rfl, hb, hg, r⟩
  · exact .inl h0
  · exact .inr ⟨g, cap, cur, rfl, hb, (hk.block g (Array.getElem?_eq_some_iff.1 hg).1 (hn g rfl)).trans hg, r⟩
theorem LawAt.keeps {S : Nat → Prop} {w w' : World} {W0 : Nat} {vp vh : Value} {ps : List Pr} {hs : List Nat} (h : LawAt w W0 vp vh ps hs) (hk : Keeps S w w') (hn : ∀ k, Lawn W0 vp vh k → ¬ S k) : LawAt w' W0 vp vh ps hs :=
  ⟨(hk.block W0 h.lt (hn W0 (.inl rfl))).trans h.row, ownsRow_keepsS h.pairs hk (fun g hg => hn g (.inr (.inl hg.symm))), ownsRow_keepsS h.holds hk (fun g hg => hn g (.inr (.inr hg.symm))), h.apP, h.apH, h.apart⟩
/-- the mark of a list's owner -/
def markP (m : Int) : Ward.Pt := ⟨m, 0, 0⟩
/-- a list that reads as its owner wrote it, in blocks of that kind -/
def Marked (T : Nat → Prop) (w : World) (m : Int) (s : Value) : Prop := ∃ a n c, s = .slice a n c ∧ n ≤ 100000 ∧ ∀ i, i < n → ∃ g o, a = some ⟨g, o, none⟩ ∧ T g ∧ PtAt w g (o + i * 3) (markP m)
theorem Marked.keeps {S T T' : Nat → Prop} {w w' : World} {m : Int} {s : Value} (h : Marked T w m s) (hk : Keeps S w w') (hn : ∀ k, k < w.heap.size → T k → ¬ S k ∧ T' k) : Marked T' w' m s := by
  obtain ⟨a, n, c, e, hn', hr⟩ := h
  refine ⟨a, n, c, e, hn', fun i hi => ?_⟩
  obtain ⟨g, o, ea, hT, hp⟩ := hr i hi
  have hg := hp.lt
  obtain ⟨h1, h2⟩ := hn g hg hT
  have hc := fun o' => World.cell?_of_block (w := w) (w' := w') (a := ⟨g, o', none⟩) (hk.block g hg h1)
  exact ⟨g, o, ea, h2, ⟨(hc _).trans hp.1, (hc _).trans hp.2.1, (hc _).trans hp.2.2⟩⟩
/-- a list that came out, as it is kept -/
def HoldIs (T : Nat → Prop) (w : World) (h : Nat) : Prop := T h ∧ ∃ (vp : Value) (m : Int) (sl : List Value), w.heap[h]? = some (.cells #[vp, I m] 120 (0, 0)) ∧ w.ownsRow 0 27 1 vp sl.length sl ∧ (∀ g, vp.ownBlock = some g → T g) ∧ sl.length ≤ 9 ∧ ∀ s ∈ sl, Marked T w m s
theorem HoldIs.keeps {S T T' : Nat → Prop} {w w' : World} {h : Nat} (hh : HoldIs T w h) (hk : Keeps S w w') (hn : ∀ k, k < w.heap.size → T k → ¬ S k ∧ T' k) : HoldIs T' w' h := by
  obtain ⟨hT, vp, m, sl, h1, h2, h3, h4, h5⟩ := hh
  have hlt : h < w.heap.size := (Array.getElem?_eq_some_iff.1 h1).1
  exact ⟨(hn h hlt hT).2, vp, m, sl, (hk.block h hlt (hn h hlt hT).1).trans h1, ownsRow_keepsS h2 hk (fun g hg => (hn g (World.ownsRow.lt h2 g hg).2 (h3 g hg)).1), fun g hg => (hn g (World.ownsRow.lt h2 g hg).2 (h3 g hg)).2, h4, fun s hs => (h5 s hs).keeps hk hn⟩
/-- one pair, its blocks of two kinds -/
structure PairIs (T R : Nat → Prop) (w : World) (p : Pr) : Prop where
  map : IsMap w p.m p.v p.L
  ref : RMap w p.r p.u p.K
  good : Good p.L
  mt : ∀ k, Mine p.m p.v k → T k
  rt : ∀ k, Mine p.r p.u k → R k
theorem PairIs.keeps {S T R T' R' : Nat → Prop} {w w' : World} {p : Pr} (h : PairIs T R w p) (hk : Keeps S w w') (ht : ∀ k, k < w.heap.size → T k → ¬ S k ∧ T' k) (hr : ∀ k, k < w.heap.size → R k → ¬ S k ∧ R' k) : PairIs T' R' w' p :=
  ⟨h.map.keeps hk (fun k hk => (ht k (h.map.mine_lt hk) (h.mt k hk)).1), h.ref.keeps hk (fun k hk => (hr k (h.ref.mine_lt hk) (h.rt k hk)).1), h.good, fun k hk => (ht k (h.map.mine_lt hk) (h.mt k hk)).2, fun k hk => (hr k (h.ref.mine_lt hk) (h.rt k hk)).2⟩
/-- all of it: ow tells whose a block is (1 the law's, 2 the lists', 3 + 2 i the i-th map's, 4 + 2 i the document's; 0 nobody's) -/
structure Inv (w0 : World) (ow : Nat → Nat) (w : World) (W0 : Nat) (vp vh : Value) (ps : List Pr) (hs : List Nat) : Prop where
  base : Below w0.heap.size w0 w
  low : ∀ k, k < w0.heap.size → ow k = 0
  law : LawAt w W0 vp vh ps hs
  own1 : ∀ k, Lawn W0 vp vh k → ow k = 1
  pair : ∀ i, (h : i < ps.length) → PairIs (fun k => ow k = 3 + 2 * i) (fun k => ow k = 4 + 2 * i) w ps[i]
  hold : ∀ h ∈ hs, HoldIs (fun k => ow k = 2) w h
/-- where nothing that is owned is changed -/
theorem Inv.keeps {w0 w w' : World} {ow ow' : Nat → Nat} {W0 : Nat} {vp vh : Value} {ps : List Pr} {hs : List Nat} {S : Nat → Prop} (h : Inv w0 ow w W0 vp vh ps hs) (hk : Keeps S w w') (hS : ∀ k, k < w.heap.size → S k → ow k = 0 ∧ w0.heap.size ≤ k) (ho : ∀ k, k < w.heap.size → ow k ≠ 0 → ow' k = ow k) (hl : ∀ k, k < w0.heap.size → ow' k = 0) : Inv w0 ow' w' W0 vp vh ps hs := by
  have hz : ∀ k, k < w.heap.size → ow k ≠ 0 → ¬ S k := fun k hk hne hs => hne (hS k hk hs).1
  refine ⟨⟨hk.os.trans h.base.os, hk.tape.trans h.base.tape, hk.output.trans h.base.output, Nat.le_trans h.base.size hk.size, fun j hj => ?_⟩, hl, ?_, ?_, fun i hi => ?_, fun x hx => ?_⟩
  · have h1 := h.base.size
    exact (hk.block j (by omega) (fun hs => by have := (hS j (by omega) hs).2; omega)).trans (h.base.block j hj)
  · exact h.law.keeps hk (fun k hk => hz k (h.law.lawn_lt hk) (by rw [h.own1 k hk]; decide))
  · exact fun k hk => (ho k (h.law.lawn_lt hk) (by rw [h.own1 k hk]; decide)).trans (h.own1 k hk)
  · exact (h.pair i hi).keeps hk (fun k hk e => ⟨hz k hk (by omega), (ho k hk (by omega)).trans e⟩) (fun k hk e => ⟨hz k hk (by omega), (ho k hk (by omega)).trans e⟩)
  · exact (h.hold x hx).keeps hk (fun k hk e => ⟨hz k hk (by omega), (ho k hk (by omega)).trans e⟩)
theorem Inv.below {w0 w w' : World} {ow : Nat → Nat} {W0 : Nat} {vp vh : Value} {ps : List Pr} {hs : List Nat} (h : Inv w0 ow w W0 vp vh ps hs) (hb : Below w.heap.size w w') : Inv w0 ow w' W0 vp vh ps hs :=
  h.keeps (S := fun _ => False) (Keeps.of_below hb) (fun _ _ h => h.elim) (fun _ _ _ => rfl) h.low
/-- what is new is nobody's -/
theorem Inv.clean {w0 w w' : World} {ow : Nat → Nat} {W0 : Nat} {vp vh : Value} {ps : List Pr} {hs : List Nat} (h : Inv w0 ow w W0 vp vh ps hs) (hb : Below w.heap.size w w') : Inv w0 (fun k => if k < w.heap.size then ow k else 0) w' W0 vp vh ps hs := by
  have hs := h.base.size
  exact h.keeps (S := fun _ => False) (Keeps.of_below hb) (fun _ _ h => h.elim) (fun k hk _ => if_pos hk) (fun k hk => (if_pos (by omega)).trans (h.low k hk))
theorem set_flat (ps : List Pr) (i : Nat) (hi : i < ps.length) (p : Pr) (h : prV p = prV ps[i]) : (ps.set i p).flatMap prV = ps.flatMap prV := by
  induction ps generalizing i with
  | nil => rfl
  | cons q l ih =>
    cases i with
    | zero => rw [List.set_cons_zero, List.flatMap_cons, List.flatMap_cons, h]; rfl
    | succ i => rw [List.set_cons_succ, List.flatMap_cons, List.flatMap_cons, ih i (by simpa using hi) (by simpa using h)]
/-- one owner's blocks have changed, and one pair has become another -/
theorem Inv.set {w0 w w' : World} {ow : Nat → Nat} {W0 : Nat} {vp vh : Value} {ps : List Pr} {hs : List Nat} (h : Inv w0 ow w W0 vp vh ps hs) (i : Nat) (hi : i < ps.length) (o : Nat) (ho : o = 3 + 2 * i ∨ o = 4 + 2 * i) {S : Nat → Prop}
    (hk : Keeps S w w') (hS : ∀ k, S k → ow k = o) (p : Pr) (hp : prV p = prV ps[i])
    (hP : PairIs (fun k => (if k < w.heap.size then ow k else o) = 3 + 2 * i) (fun k => (if k < w.heap.size then ow k else o) = 4 + 2 * i) w' p) : Inv w0 (fun k => if k < w.heap.size then ow k else o) w' W0 vp vh (ps.set i p) hs := by
  have hz : ∀ k, ow k ≠ o → ¬ S k := fun k hne hs => hne (hS k hs)
  have hs0 := h.base.size
  refine ⟨⟨hk.os.trans h.base.os, hk.tape.trans h.base.tape, hk.output.trans h.base.output, Nat.le_trans h.base.size hk.size, fun j hj => ?_⟩, fun k hk => (if_pos (by omega)).trans (h.low k hk), ?_, ?_, fun j hj => ?_, fun x hx => ?_⟩
  · exact (hk.block j (by omega) (hz j (by rw [h.low j hj]; omega))).trans (h.base.block j hj)
  · have h1 := h.law.keeps hk (fun k hk => hz k (by rw [h.own1 k hk]; omega))
    exact ⟨h1.row, by rw [List.length_set, set_flat ps i hi p hp]; exact h1.pairs, h1.holds, h1.apP, h1.apH, h1.apart⟩
  · exact fun k hk => (if_pos (h.law.lawn_lt hk)).trans (h.own1 k hk)
  · rw [List.length_set] at hj
    by_cases e : i = j
    · subst e
      rw [List.getElem_set_self]
      exact hP
    · rw [List.getElem_set_ne e]
      exact (h.pair j hj).keeps hk (fun k hk e => ⟨hz k (by omega), (if_pos hk).trans e⟩) (fun k hk e => ⟨hz k (by omega), (if_pos hk).trans e⟩)
  · exact (h.hold x hx).keeps hk (fun k hk e => ⟨hz k (by omega), (if_pos hk).trans e⟩)
/-- a map of the program has changed -/
theorem Inv.map {w0 w w' : World} {ow : Nat → Nat} {W0 : Nat} {vp vh : Value} {ps : List Pr} {hs : List Nat} (h : Inv w0 ow w W0 vp vh ps hs) (i : Nat) (hi : i < ps.length) {v' : Value} {L' : List Ward.Pt}
    (hk : Keeps (Mine ps[i].m ps[i].v) w w') (hm : IsMap w' ps[i].m v' L') (hf : Fresh w ps[i].v v') (hg : Good L') : Inv w0 (fun k => if k < w.heap.size then ow k else 3 + 2 * i) w' W0 vp vh (ps.set i { ps[i] with v := v', L := L' }) hs := by
  have hp := h.pair i hi
  refine h.set i hi (3 + 2 * i) (.inl rfl) hk (fun k hk => hp.mt k hk) _ rfl ⟨hm, ?_, hg, fun k hk' => ?_, fun k hk' => ?_⟩
  · exact hp.ref.keeps hk (fun k h1 h2 => by have := hp.mt k h2; have := hp.rt k h1; omega)
  · rcases hk' with rfl | hk'
    · exact (if_pos hp.map.lt).trans (hp.mt _ (.inl rfl))
    · rcases hf with hf | ⟨g, hf, hge⟩
      · rw [hf] at hk'
        exact (if_pos (hp.map.mine_lt (.inr hk'))).trans (hp.mt k (.inr hk'))
      · rw [hf] at hk'
        injection hk' with hk'
        exact if_neg (by omega)
  · exact (if_pos (hp.ref.mine_lt hk')).trans (hp.rt k hk')
/-- a map of the document has changed -/
theorem Inv.ref {w0 w w' : World} {ow : Nat → Nat} {W0 : Nat} {vp vh : Value} {ps : List Pr} {hs : List Nat} (h : Inv w0 ow w W0 vp vh ps hs) (i : Nat) (hi : i < ps.length) {u' : Value} {K' : List Ward.Pt}
    (hk : Keeps (Mine ps[i].r ps[i].u) w w') (hm : RMap w' ps[i].r u' K') (hf : FreshR w ps[i].u u') : Inv w0 (fun k => if k < w.heap.size then ow k else 4 + 2 * i) w' W0 vp vh (ps.set i { ps[i] with u := u', K := K' }) hs := by
  have hp := h.pair i hi
  refine h.set i hi (4 + 2 * i) (.inr rfl) hk (fun k hk => hp.rt k hk) _ rfl ⟨?_, hm, hp.good, fun k hk' => ?_, fun k hk' => ?_⟩
  · exact hp.map.keeps hk (fun k h1 h2 => by have := hp.rt k h2; have := hp.mt k h1; omega)
  · exact (if_pos (hp.map.mine_lt hk')).trans (hp.mt k hk')
  · rcases hk' with rfl | hk'
    · exact (if_pos hp.ref.lt).trans (hp.rt _ (.inl rfl))
    · rcases hf k hk'.symm with hk' | hge
      · exact (if_pos (hp.ref.mine_lt (.inr hk'.symm))).trans (hp.rt k (.inr hk'.symm))
      · exact if_neg (by omega)
/-- a pair more, of new blocks -/
theorem Inv.push {w0 w w' : World} {ow : Nat → Nat} {W0 : Nat} {vp vp' vh : Value} {ps : List Pr} {hs : List Nat} (h : Inv w0 ow w W0 vp vh ps hs) {S : Nat → Prop} (hk : Keeps S w w') (hS : ∀ k, k < w.heap.size → S k → k = W0 ∨ some k = vp.ownBlock) (p : Pr)
    (hl : LawAt w' W0 vp' vh (ps ++ [p]) hs) (hf : Fresh w vp vp') (hm : IsMap w' p.m p.v p.L) (hr : RMap w' p.r p.u p.K) (hg : Good p.L) (h1 : ∀ k, Mine p.m p.v k → w.heap.size ≤ k) (h2 : ∀ k, Mine p.r p.u k → w.heap.size ≤ k) (h3 : ∀ k, Mine p.m p.v k → ¬ Mine p.r p.u k)
    (h4 : ∀ k, vp'.ownBlock = some k → ¬ Mine p.m p.v k ∧ ¬ Mine p.r p.u k) : ∃ ow', Inv w0 ow' w' W0 vp' vh (ps ++ [p]) hs := by
  classical
  refine ⟨fun k => if k < w.heap.size then ow k else if Mine p.m p.v k then 3 + 2 * ps.length else if Mine p.r p.u k then 4 + 2 * ps.length else 1, ?_⟩
  have hz : ∀ k, k < w.heap.size → ow k ≠ 1 → ¬ S k := fun k hk hne hs => by
    rcases hS k hk hs with e | e
    · exact hne (h.own1 k (.inl e))
    · exact hne (h.own1 k (.inr (.inl e)))
  have hs0 := h.base.size
  refine ⟨⟨hk.os.trans h.base.os, hk.tape.trans h.base.tape, hk.output.trans h.base.output, Nat.le_trans h.base.size hk.size, fun j hj => ?_⟩, fun k hk => (if_pos (by omega)).trans (h.low k hk), hl, fun k hk => ?_, fun j hj => ?_, fun x hx => ?_⟩
  · exact (hk.block j (by omega) (hz j (by omega) (by rw [h.low j hj]; decide))).trans (h.base.block j hj)
  · have old : ∀ k, Lawn W0 vp vh k → (if k < w.heap.size then ow k else if Mine p.m p.v k then 3 + 2 * ps.length else if Mine p.r p.u k then 4 + 2 * ps.length else 1) = 1 := fun k hk => (if_pos (h.law.lawn_lt hk)).trans (h.own1 k hk)
    rcases hk with hk | hk | hk
    · exact old k (.inl hk)
    · rcases hf with hf | ⟨g, hf, hge⟩
      · exact old k (.inr (.inl (by rw [← hf]; exact hk)))
      · have h5 := h4 k hk.symm
        rw [hf] at hk
        injection hk with hk
        rw [if_neg (by omega), if_neg h5.1, if_neg h5.2]
    · exact old k (.inr (.inr hk))
  · by_cases e : j < ps.length
    · rw [List.getElem_append_left e]
      exact (h.pair j e).keeps hk (fun k hk e => ⟨hz k hk (by omega), (if_pos hk).trans e⟩) (fun k hk e => ⟨hz k hk (by omega), (if_pos hk).trans e⟩)
    · have ej : j = ps.length := by simp at hj; omega
      subst ej
      rw [List.getElem_append_right (Nat.le_refl _)]
      simp only [Nat.sub_self, List.getElem_cons_zero]
      refine ⟨hm, hr, hg, fun k hk => ?_, fun k hk => ?_⟩
      · have := h1 k hk
        rw [if_neg (by omega), if_pos hk]
      · have := h2 k hk
        rw [if_neg (by omega), if_neg (fun e => h3 k e hk), if_pos hk]
  · exact (h.hold x hx).keeps hk (fun k hk e => ⟨hz k hk (by omega), (if_pos hk).trans e⟩)
/-- a list more, in a block that was nobody's and in new ones -/
theorem Inv.holdPush {w0 w w' : World} {ow : Nat → Nat} {W0 : Nat} {vp vh vh' : Value} {ps : List Pr} {hs : List Nat} (h : Inv w0 ow w W0 vp vh ps hs) {S : Nat → Prop} (hk : Keeps S w w') (O : Nat → Prop) (hO : ∀ k, k < w.heap.size → O k → ow k = 0 ∧ w0.heap.size ≤ k) (hS : ∀ k, k < w.heap.size → S k → k = W0 ∨ some k = vh.ownBlock ∨ O k) (x : Nat)
    (hl : LawAt w' W0 vp vh' ps (hs ++ [x])) (hf : Fresh w vh vh') (hh : HoldIs (fun k => (w.heap.size ≤ k ∨ O k) ∧ vh'.ownBlock ≠ some k) w' x) : ∃ ow', Inv w0 ow' w' W0 vp vh' ps (hs ++ [x]) := by
  classical
  refine ⟨fun k => if (w.heap.size ≤ k ∨ O k) ∧ vh'.ownBlock ≠ some k then 2 else if k < w.heap.size then ow k else 1, ?_⟩
  have hs0 := h.base.size
  have hz : ∀ k, k < w.heap.size → ow k ≠ 1 → ow k ≠ 0 → ¬ S k := fun k hk hne hn0 hs => by
    rcases hS k hk hs with e | e | e
    · exact hne (h.own1 k (.inl e))
    · exact hne (h.own1 k (.inr (.inr e)))
    · exact hn0 (hO k hk e).1
  have hold : ∀ k, k < w.heap.size → ow k ≠ 0 → (if (w.heap.size ≤ k ∨ O k) ∧ vh'.ownBlock ≠ some k then 2 else if k < w.heap.size then ow k else 1) = ow k := fun k hk hne => by
    rw [if_neg (fun e => by rcases e.1 with e | e; (· omega); exact hne (hO k hk e).1), if_pos hk]
  refine ⟨⟨hk.os.trans h.base.os, hk.tape.trans h.base.tape, hk.output.trans h.base.output, Nat.le_trans h.base.size hk.size, fun j hj => ?_⟩, fun k hk => ?_, hl, fun k hk => ?_, fun j hj => ?_, fun y hy => ?_⟩
  · refine (hk.block j (by omega) (fun hs => ?_)).trans (h.base.block j hj)
    rcases hS j (by omega) hs with e | e | e
    · have := h.own1 j (.inl e); rw [h.low j hj] at this; cases this
    · have := h.own1 j (.inr (.inr e)); rw [h.low j hj] at this; cases this
    · have := (hO j (by omega) e).2; omega
  · rw [if_neg (fun e => by rcases e.1 with e | e; (· omega); have := (hO k (by omega) e).2; omega), if_pos (by omega)]
    exact h.low k hk
  · have old : ∀ k, Lawn W0 vp vh k → (if (w.heap.size ≤ k ∨ O k) ∧ vh'.ownBlock ≠ some k then 2 else if k < w.heap.size then ow k else 1) = 1 := fun k hk => (hold k (h.law.lawn_lt hk) (by rw [h.own1 k hk]; decide)).trans (h.own1 k hk)
    rcases hk with hk | hk | hk
    · exact old k (.inl hk)
    · exact old k (.inr (.inl hk))
    · rcases hf with hf | ⟨g, hf, hge⟩
      · exact old k (.inr (.inr (by rw [← hf]; exact hk)))
      · have e := hk
        rw [hf] at hk
        injection hk with hk
        rw [if_neg (fun h => h.2 e.symm), if_neg (by omega)]
  · exact (h.pair j hj).keeps hk (fun k hk e => ⟨hz k hk (by omega) (by omega), (hold k hk (by omega)).trans e⟩) (fun k hk e => ⟨hz k hk (by omega) (by omega), (hold k hk (by omega)).trans e⟩)
  · rcases List.mem_append.1 hy with hy | hy
    · exact (h.hold y hy).keeps hk (fun k hk e => ⟨hz k hk (by omega) (by omega), (hold k hk (by omega)).trans e⟩)
    · rw [List.mem_singleton.1 hy]
      exact hh.keeps (S := fun _ => False) (Keeps.refl _ _) (fun k _ e => ⟨fun h => h, if_pos e⟩)
end Go.Proofs.YtenaelkbgkpllaaGreatDoor
/- The document's map: where an id stands; a point put in. -/
namespace Go.Proofs.YtenaelkbgkpllaaGreatDoor
open Go.RowKit

theorem RMap.cell {w : World} {r : Nat} {u : Value} {L : List Ward.Pt} (h : RMap w r u L) : w.cell? ⟨r, 0, none⟩ = some u := by
  rw [cell_of_row _ _ _ _ _ _ h.row]; rfl
theorem RMap.below {w w' : World} {r : Nat} {u : Value} {L : List Ward.Pt} (h : RMap w r u L) (hb : Below w.heap.size w w') : RMap w' r u L := h.keeps (S := fun _ => False) (Keeps.of_below hb) (fun _ _ h => h)
theorem RMap.slice {w : World} {r : Nat} {u : Value} {L : List Ward.Pt} (h : RMap w r u L) : ∃ a c, u = .slice a L.length c := by
  obtain ⟨a, c, rfl, _⟩ := h.own.reads
  exact ⟨a, c, rfl⟩
/-- points that lie somewhere, put behind others -/
theorem append_pts {w : World} {B : Nat} {v : Value} {l : List Ward.Pt} (T : List Ward.Pt) (g o c : Nat) (hown : Own w B v l) (hB : B ≤ w.heap.size) (hn : l.length + T.length ≤ 100000) (hT : ∀ j, (h : j < T.length) → PtAt w g (o + j * 3) T[j]) :
    ∃ v' w', (Builtin.append_ #[27, 27] 27 #[v, .slice (some ⟨g, o, none⟩) T.length c]).run Tryz.prog w = .ok v' w' ∧ Own w' B v' (l ++ T) ∧ w.grownBy w' v.ownBlock ∧ Fresh w v v' := by
  obtain ⟨i0, hi0, hz0, hz1, hz2⟩ := info_parts Tryz.infoPt
  obtain ⟨v', w', hr, ho, hg, hf⟩ := run_append_own2 (P := Tryz.prog) w B 27 27 36 i0 (.agg #[I 0, I 0, I 0]) 3 24 Tryz.underlying27 hi0 hz0 hz1 hz2 rfl (by decide) v l.length (l.flatMap P3) hown ⟨g, o, none⟩ T.length c (T.flatMap P3) (by rw [cells_len])
    (fun j u hj => by
      have hjl : j < T.length * 3 := by
        have := (List.getElem?_eq_some_iff.1 hj).1
        rwa [cells_len] at this
      have hi : j / 3 < T.length := by omega
      obtain ⟨h0, h1, h2⟩ := P3_at T (j / 3) hi
      obtain ⟨k0, k1, k2⟩ := hT (j / 3) hi
      rw [Addr.add_lit]
      have e3 : j = j / 3 * 3 ∨ j = j / 3 * 3 + 1 ∨ j = j / 3 * 3 + 2 := by omega
      generalize j / 3 = i at *
      rcases e3 with e3 | e3 | e3
      · rw [e3] at hj ⊢; rw [h0] at hj; rw [← hj]; exact k0
      · rw [e3] at hj ⊢; rw [h1] at hj; rw [← hj]; exact k1
      · rw [e3] at hj ⊢; rw [h2] at hj; rw [← hj]; exact k2)
    (fun u hu => cells_one u hu) (by unfold maxLen; omega) (by omega) hB
  refine ⟨v', w', hr, ?_, hg, hf⟩
  unfold Own
  rw [List.length_append, List.flatMap_append]
  exact ho
/-- nothing put behind points -/
theorem append_none {w : World} {g n cap : Nat} (hc : n ≤ cap) : (Builtin.append_ #[27, 27] 27 #[.slice (some ⟨g, 0, none⟩) n cap, .slice none 0 0]).run Tryz.prog w = .ok (.slice (some ⟨g, 0, none⟩) n cap) w := by
  obtain ⟨i0, hi0, hz0, hz1, hz2⟩ := info_parts Tryz.infoPt
  simp [Builtin.append_, run_underlying Tryz.underlying27, sizeOf, typeInfo, hi0, Builtin.lenOf, hc, run_firstCells_none, storeCells]
set_option maxHeartbeats 1000000 in
theorem place_ref (r : Nat) (u : Value) (K : List Ward.Pt) (id : Int) (w : World) (hm : RMap w r u K) (hl : K.length ≤ 1000) :
    Calls Tryz.prog 92 #[.pointer (some ⟨r, 0, none⟩), I id] w fun e w' => (∃ x, e = .returned (I x) ∧ Place id K x) ∧ w' = w := by
  have hc := hm.cell
  obtain ⟨a, c, rfl, hrd⟩ := hm.own.reads
  have HRD := hide hrd
  clear hm hrd
  go_enter Tryz.func92, Tryz.ntmps92
  go_wp2_with fail
  go_loopw [5] (fun iv wq => ∃ i : Nat, i ≤ K.length ∧ iv = .int .i64 i ∧ (∀ j, (h : j < K.length) → j < i → K[j].id ≠ id) ∧ wq = w) (fun iv _ => K.length - (intOf iv).toNat)
  case atStart => exact ⟨0, by omega, rfl, fun j _ h => absurd h (by omega), rfl⟩
  case round =>
    obtain ⟨i, hi, rfl, hno, rfl⟩ := hrel
    have HNO := hide hno
    clear hno
    by_cases hlt : i < K.length
    · obtain ⟨g, o, rfl, hp⟩ := HRD.out (fun e => by subst e; simp at hlt)
      have hpi := (hp i hlt).1
      have HX := hide (fun (h : K[i].id = id) => show Place id K i from .inr ⟨i, hlt, rfl, h⟩)
      have HN := hide (fun (h : K[i].id ≠ id) j (hj : j < K.length) (hji : j < i + 1) => show K[j].id ≠ id from by
        by_cases e : j = i
        · subst e; exact h
        · exact HNO.out j hj (by omega))
      generalize K[i].id = qi at *
      clear hp
      by_cases e : qi = id
      · go_wp2_with fail
        go_ret
        exact ⟨⟨i, rfl, HX.out e⟩, rfl⟩
      · go_wp2_with fail
        go_roundw
        case rel => exact ⟨i + 1, hlt, by go_num, HN.out e, trivial⟩
        case measure => simp [intOf]; omega
    · go_wp2_with fail
      go_ret
      refine ⟨⟨-1, rfl, .inl ⟨rfl, fun q hq e => ?_⟩⟩, rfl⟩
      obtain ⟨j, hj, rfl⟩ := List.getElem_of_mem hq
      exact HNO.out j hj (by omega) e
/-- what a call of the document's Insert leaves -/
def InsertedR (w : World) (r : Nat) (u : Value) (L : List Ward.Pt) (c : Int) (e : Ending) (w' : World) : Prop := e = .returned (I c) ∧ ∃ u', RMap w' r u' L ∧ FreshR w u u' ∧ Keeps (Mine r u) w w'
theorem InsertedR.none {w w' : World} {r : Nat} {u : Value} {L : List Ward.Pt} {c : Int} (h : RMap w r u L) (hb : Below w.heap.size w w') : InsertedR w r u L c (.returned (I c)) w' :=
  ⟨rfl, u, h.keeps (S := fun _ => False) (Keeps.of_below hb) (fun _ _ h => h), fun _ h => .inl h, Keeps.of_below hb⟩
/-- a new list is laid into the map -/
theorem own_low {w : World} {B : Nat} {v : Value} {L : List Ward.Pt} (h : Own w B v L) : Own w 0 v L := by
  refine ⟨h.1, ?_⟩
  rcases h.2 with h0 | ⟨g, cap, cur, e, _, r⟩
  · exact .inl h0
  · exact .inr ⟨g, cap, cur, e, Nat.zero_le _, r⟩
theorem insertedR_laid {w w2 : World} {r : Nat} {u v2 : Value} {K L : List Ward.Pt} (c : Int) (hM : RMap w r u K) (hb : Below w.heap.size w w2) (ho : Own w2 w.heap.size v2 L) : InsertedR w r u L c (.returned (I c)) (w2.setCell ⟨r, 0, none⟩ v2) := by
  have hr := hM.lt
  have hrow := (hb.block r hr).trans hM.row
  have k1 : Keeps (fun j => j = r) w2 (w2.setCell ⟨r, 0, none⟩ v2) := ⟨rfl, rfl, rfl, by simp, fun j _ hj => heap_setCell_other w2 ⟨r, 0, none⟩ j v2 hj⟩
  have hap : ∀ g, v2.ownBlock = some g → w.heap.size ≤ g := fun g hg => ho.ge hg
  refine ⟨rfl, v2, ⟨?_, ?_, fun e => by have := hap r e; omega⟩, fun k hk => .inr (hap k hk), (Keeps.of_below hb).trans k1 (fun j _ e => .inl e)⟩
  · rw [heap_setCell_same _ _ _ _ _ _ hrow]; rfl
  · exact own_low (ho.keeps k1 (fun g hg e => by have := hap g hg; omega))
section
variable (r : Nat) (u : Value) (K : List Ward.Pt) (pi px py : Int) (w : World)
set_option maxHeartbeats 1000000 in
theorem rinsert_id (hm : RMap w r u K) (h1 : ¬ (1 ≤ pi ∧ pi ≤ 1000000)) :
    Calls Tryz.prog 56 #[.pointer (some ⟨r, 0, none⟩), .agg #[I pi, I px, I py]] w fun e w' => InsertedR w r u K 1 e w' := by
  have HM := hide hm
  clear hm
  by_cases h2 : pi < 1
  · go_enter Tryz.func56, Tryz.ntmps56
    go_wp2_with (first | (go_at_call_of 91 (I px); refine (coord_ref px _).mono ?_; rintro _ _ ⟨rfl, rfl⟩) | (go_at_call_of 91 (I py); refine (coord_ref py _).mono ?_; rintro _ _ ⟨rfl, rfl⟩))
    go_ret
    exact InsertedR.none HM.out ((Below.refl w.heap.size w).alloc (Nat.le_refl _) _)
  · have h3 : 1000000 < pi := by omega
    go_enter Tryz.func56, Tryz.ntmps56
    go_wp2_with (first | (go_at_call_of 91 (I px); refine (coord_ref px _).mono ?_; rintro _ _ ⟨rfl, rfl⟩) | (go_at_call_of 91 (I py); refine (coord_ref py _).mono ?_; rintro _ _ ⟨rfl, rfl⟩))
    go_ret
    exact InsertedR.none HM.out ((Below.refl w.heap.size w).alloc (Nat.le_refl _) _)
set_option maxHeartbeats 1000000 in
theorem rinsert_xy (hm : RMap w r u K) (h1 : 1 ≤ pi) (h1' : pi ≤ 1000000) (h2 : Ward.coordOk px = false ∨ Ward.coordOk py = false) :
    Calls Tryz.prog 56 #[.pointer (some ⟨r, 0, none⟩), .agg #[I pi, I px, I py]] w fun e w' => InsertedR w r u K 2 e w' := by
  have HM := hide hm
  clear hm
  cases hx : Ward.coordOk px with
  | false =>
    go_enter Tryz.func56, Tryz.ntmps56
    go_wp2_with (first | (go_at_call_of 91 (I px); refine (coord_ref px _).mono ?_; rintro _ _ ⟨rfl, rfl⟩) | (go_at_call_of 91 (I py); refine (coord_ref py _).mono ?_; rintro _ _ ⟨rfl, rfl⟩))
    go_ret
    exact InsertedR.none HM.out ((Below.refl w.heap.size w).alloc (Nat.le_refl _) _)
  | true =>
    have hy : Ward.coordOk py = false := by
      rcases h2 with h2 | h2
      · rw [hx] at h2; cases h2
      · exact h2
    clear h2
    go_enter Tryz.func56, Tryz.ntmps56
    go_wp2_with (first | (go_at_call_of 91 (I px); refine (coord_ref px _).mono ?_; rintro _ _ ⟨rfl, rfl⟩) | (go_at_call_of 91 (I py); refine (coord_ref py _).mono ?_; rintro _ _ ⟨rfl, rfl⟩))
    go_ret
    exact InsertedR.none HM.out ((Below.refl w.heap.size w).alloc (Nat.le_refl _) _)
set_option maxHeartbeats 1000000 in
theorem rinsert_taken (hm : RMap w r u K) (hl : K.length ≤ 1000) (h1 : 1 ≤ pi) (h1' : pi ≤ 1000000) (hx : Ward.coordOk px = true) (hy : Ward.coordOk py = true) (h4 : ∃ q ∈ K, q.id = pi) :
    Calls Tryz.prog 56 #[.pointer (some ⟨r, 0, none⟩), .agg #[I pi, I px, I py]] w fun e w' => InsertedR w r u K 3 e w' := by
  have HM := hide hm
  have HP := hide (fun o => place_ref r u K pi (w.alloc o) (hm.below ((Below.refl w.heap.size w).alloc (Nat.le_refl _) _)) hl)
  clear hm
  go_enter Tryz.func56, Tryz.ntmps56
  go_wp2_with (first | (go_at_call_of 91 (I px); refine (coord_ref px _).mono ?_; rintro _ _ ⟨rfl, rfl⟩) | (go_at_call_of 91 (I py); refine (coord_ref py _).mono ?_; rintro _ _ ⟨rfl, rfl⟩) | (go_at_call 92; refine (HP.out _).mono ?_; rintro _ _ ⟨⟨x, rfl, hpl⟩, rfl⟩; have hx0 := place_yes hpl h4))
  go_ret
  exact InsertedR.none HM.out ((Below.refl w.heap.size w).alloc (Nat.le_refl _) _)
set_option maxRecDepth 100000 in
set_option maxHeartbeats 1000000 in
theorem rinsert_limit (hm : RMap w r u K) (hl : K.length ≤ 1000) (h1 : 1 ≤ pi) (h1' : pi ≤ 1000000) (hx : Ward.coordOk px = true) (hy : Ward.coordOk py = true) (h4 : ¬ ∃ q ∈ K, q.id = pi) (h5 : 150 ≤ K.length) :
    Calls Tryz.prog 56 #[.pointer (some ⟨r, 0, none⟩), .agg #[I pi, I px, I py]] w fun e w' => InsertedR w r u K 5 e w' := by
  have HM := hide hm
  have HP := hide (fun o => place_ref r u K pi (w.alloc o) (hm.below ((Below.refl w.heap.size w).alloc (Nat.le_refl _) _)) hl)
  obtain ⟨a, c, rfl⟩ := hm.slice
  have hcm := fun o => (hm.below ((Below.refl w.heap.size w).alloc (Nat.le_refl _) o)).cell
  clear hm
  go_enter Tryz.func56, Tryz.ntmps56
  go_wp2_with (first | (go_at_call_of 91 (I px); refine (coord_ref px _).mono ?_; rintro _ _ ⟨rfl, rfl⟩) | (go_at_call_of 91 (I py); refine (coord_ref py _).mono ?_; rintro _ _ ⟨rfl, rfl⟩) | (go_at_call 92; refine (HP.out _).mono ?_; rintro _ _ ⟨⟨x, rfl, hpl⟩, rfl⟩; have hx0 := place_no hpl h4; subst hx0))
  go_ret
  exact InsertedR.none HM.out ((Below.refl w.heap.size w).alloc (Nat.le_refl _) _)
end
end Go.Proofs.YtenaelkbgkpllaaGreatDoor
/- The document's Insert: the point put in at its place. -/
namespace Go.Proofs.YtenaelkbgkpllaaGreatDoor
open Go.RowKit

def RdPt (W : World) (r g o k : Nat) (u : Value) (q p : Ward.Pt) : Prop := W.cell? ⟨r, 0, none⟩ = some u ∧ (W.cell? ⟨g, o, none⟩ = some (I q.id) ∧ W.cell? ⟨g, o + 1, none⟩ = some (I q.x) ∧ W.cell? ⟨g, o + 2, none⟩ = some (I q.y)) ∧ W.cell? ⟨k, 0, none⟩ = some (I p.id) ∧ W.cell? ⟨k, 1, none⟩ = some (I p.x) ∧ W.cell? ⟨k, 2, none⟩ = some (I p.y)
theorem RdPt.below {W W' : World} {r g o k B : Nat} {u : Value} {q p : Ward.Pt} (h : RdPt W r g o k u q p) (hb : Below B W W') (hr : r < B) (hg : g < B) (hk : k < B) : RdPt W' r g o k u q p := by
  obtain ⟨h0, ⟨q0, q1, q2⟩, p0, p1, p2⟩ := h
  exact ⟨(hb.cell (p := ⟨r, 0, none⟩) hr).trans h0, ⟨(hb.cell (p := ⟨g, _, none⟩) hg).trans q0, (hb.cell (p := ⟨g, _, none⟩) hg).trans q1, (hb.cell (p := ⟨g, _, none⟩) hg).trans q2⟩, (hb.cell (p := ⟨k, _, none⟩) hk).trans p0, (hb.cell (p := ⟨k, _, none⟩) hk).trans p1, (hb.cell (p := ⟨k, _, none⟩) hk).trans p2⟩
theorem RdPt.drew {W : World} {r g o k : Nat} {u : Value} {q p : Ward.Pt} (h : RdPt W r g o k u q p) : RdPt W.drew r g o k u q p := by simpa [RdPt] using h
set_option maxRecDepth 100000 in
set_option maxHeartbeats 2000000 in
theorem rinsert_in (r : Nat) (u : Value) (K : List Ward.Pt) (pi px py : Int) (w : World) (hm : RMap w r u K) (hl : K.length ≤ 1000) (h1 : 1 ≤ pi) (h1' : pi ≤ 1000000) (hx : Ward.coordOk px = true) (hy : Ward.coordOk py = true) (h4 : ¬ ∃ q ∈ K, q.id = pi) (h5 : K.length < 150) (hS : Ward.Sorted K) :
    Calls Tryz.prog 56 #[.pointer (some ⟨r, 0, none⟩), .agg #[I pi, I px, I py]] w fun e w' => InsertedR w r u (Ward.ins ⟨pi, px, py⟩ K) 0 e w' := by
  have HM := hide hm
  have HP := hide (fun o => place_ref r u K pi (w.alloc o) (hm.below ((Below.refl w.heap.size w).alloc (Nat.le_refl _) _)) hl)
  have HRD := hide hm.own.reads
  have hrlt := hm.lt
  obtain ⟨a, c, rfl⟩ := hm.slice
  have hcm := fun o => (hm.below ((Below.refl w.heap.size w).alloc (Nat.le_refl _) o)).cell
  have hrow' := heap_alloc_new w
  have hb' := fun o => (Below.refl w.heap.size w).alloc (Nat.le_refl _) o
  have HSo := hide hS
  have hd1 : decide (pi < 1) = false := decide_eq_false (by omega)
  have hd2 : decide (1000000 < pi) = false := decide_eq_false (by omega)
  have hd3 : decide ((150 : Int) ≤ (K.length : Int)) = false := decide_eq_false (by omega)
  have HOWN := hide (show (Value.slice a K.length c = .slice none 0 0 ∧ K.length = 0) ∨ ∃ g cap, Value.slice a K.length c = .slice (some ⟨g, 0, none⟩) K.length cap ∧ K.length ≤ cap from by
    rcases hm.own.2 with h | ⟨g', cap', cur', e', _, _, hcc, _⟩
    · exact .inl h
    · exact .inr ⟨g', cap', e', hcc⟩)
  have HCAP := hide (show K = [] ∨ K.length ≤ c from by
    rcases hm.own.2 with ⟨_, h0⟩ | ⟨g', cap', cur', e', _, _, hcc, _⟩
    · exact .inl (List.length_eq_zero_iff.1 h0)
    · injection e' with _ _ e'; subst e'; exact .inr hcc)
  clear hm hS
  go_enter Tryz.func56, Tryz.ntmps56
  go_upto_region 13 with (first | (go_at_call_of 91 (I px); refine (coord_ref px _).mono ?_; rintro _ _ ⟨rfl, rfl⟩) | (go_at_call_of 91 (I py); refine (coord_ref py _).mono ?_; rintro _ _ ⟨rfl, rfl⟩) | (go_at_call 92; refine (HP.out _).mono ?_; rintro _ _ ⟨⟨x, rfl, hpl⟩, rfl⟩; have hx0 := place_no hpl h4; subst hx0))
  generalize hW : World.alloc w _ = w1
  have HR1 := hide (show w1.heap[w.heap.size]? = some (.cells #[I pi, I px, I py] 36 (0, 0)) by rw [← hW]; exact hrow' _)
  have HB1 := hide (show Below w.heap.size w w1 by rw [← hW]; exact hb' _)
  have hs1 : w.heap.size + 1 ≤ w1.heap.size := by rw [← hW]; simp
  clear hW hrow' hb' hcm HP hpl h1 h1' hx hy h4 hd1 hd2 hd3
  go_loopw [7, 8] (fun v7 v8 wq => ∃ i : Nat, i ≤ K.length ∧ v8 = .int .i64 i ∧ Own wq (w.heap.size + 1) v7 (K.take i) ∧ (∀ j, (h : j < K.length) → j < i → Ward.lt K[j] ⟨pi, px, py⟩) ∧ wq.heap[w.heap.size]? = some (.cells #[I pi, I px, I py] 36 (0, 0)) ∧ Below w.heap.size w wq ∧ w.heap.size + 1 ≤ wq.heap.size)
    (fun _ v8 _ => K.length - (intOf v8).toNat)
  case atStart => exact ⟨0, by omega, rfl, World.ownsRow_nil _ _ _ _, fun j _ h => absurd h (by omega), HR1.out, HB1.out, hs1⟩
  case round =>
    clear HR1 HB1 hs1
    obtain ⟨i, hi, rfl, hown, hlow, hrow, hb, hsz⟩ := hrel
    obtain ⟨av, cv, rfl⟩ := hown.slice
    have HO := hide hown
    have HLO := hide hlow
    have HRO := hide hrow
    have HB := hide hb
    have hcr := (HM.out.below hb).cell
    have hpt := row3 hrow
    have hlen : (K.take i).length = i := by rw [List.length_take]; omega
    rw [hlen]
    clear hown hlow hb hrow hlen
    by_cases hlt : i < K.length
    · obtain ⟨a0, c0, e0, hp⟩ := HRD.out
      obtain ⟨g, o, rfl, hpp⟩ := hp (fun e => by subst e; simp at hlt)
      injection e0 with e1 e2 e3
      subst e1
      clear e2 e3
      have hq0 := (hpp i hlt).below HB.out (hpp i hlt).lt
      have hg0 : g < wr.heap.size := hq0.lt
      have hrr : r < wr.heap.size := block_lt_of_cell hcr
      have HX := hide (fun (h : Ward.lt K[i] ⟨pi, px, py⟩) j (hj : j < K.length) (hji : j < i + 1) => show Ward.lt K[j] ⟨pi, px, py⟩ from by
        by_cases e : j = i
        · subst e; exact h
        · exact HLO.out j hj (by omega))
      have HTK := hide (show K.take (i + 1) = K.take i ++ [K[i]] from List.take_succ_eq_append_getElem hlt)
      have HHI := hide (fun (h : ¬ Ward.lt K[i] ⟨pi, px, py⟩) => show Ward.Parts ⟨pi, px, py⟩ K i from ⟨hi, HLO.out, fun j hj hij => by
        by_cases e : i = j
        · subst e; exact h
        · exact fun k => h (Ward.lt_trans ((List.pairwise_iff_getElem.1 HSo.out) i j hlt hj (by omega)) k)⟩)
      obtain ⟨q, hqe⟩ : ∃ q, K[i] = q := ⟨_, rfl⟩
      rw [hqe] at hq0 HX HTK HHI
      clear hqe hpp hp
      have hS : RdPt wr r g (o + i * 3) w.heap.size (.slice (some ⟨g, o, none⟩) K.length c) q ⟨pi, px, py⟩ := ⟨hcr, hq0, hpt⟩
      have hwr : w.heap.size < wr.heap.size := by omega
      have HBF := hide (fun W => before_ref q ⟨pi, px, py⟩ W)
      obtain ⟨qi, qx, qy⟩ := q
      go_upto_region 14 with fail
      go_cut [9] from 52 to 60 (fun v9 wx => v9 = .bool (decide (Ward.lt ⟨qi, qx, qy⟩ ⟨pi, px, py⟩)) ∧ Below wr.heap.size wr wx)
      case first =>
        obtain ⟨s0, ⟨s1, s2, s3⟩, s4, s5, s6⟩ := id hS
        go_region_held3 (fun W => W.cell? ⟨r, 0, none⟩ = some (.slice (some ⟨g, o, none⟩) K.length c) ∧ (W.cell? ⟨g, o + i * 3, none⟩ = some (I qi) ∧ W.cell? ⟨g, o + i * 3 + 1, none⟩ = some (I qx) ∧ W.cell? ⟨g, o + i * 3 + 2, none⟩ = some (I qy)) ∧ W.cell? ⟨w.heap.size, 0, none⟩ = some (I pi) ∧ W.cell? ⟨w.heap.size, 1, none⟩ = some (I px) ∧ W.cell? ⟨w.heap.size, 2, none⟩ = some (I py)) (first | assumption | exact hS | exact hS.drew | exact hS6) ((go_at_call 93; refine (HBF.out _).mono ?_; rintro _ w6 ⟨rfl, hb6⟩; have hS6 := hS.drew.below hb6 (by simpa using hrr) (by simpa using hg0) (by simpa using hwr); have hB6 : Below wr.heap.size wr w6 := (show Below wr.heap.size wr wr.drew from (Below.refl _ _).drew).trans hb6))
        all_goals
          go_wp2_with fail
          go_meet
          exact ⟨rfl, hB6⟩
      case rest =>
        obtain ⟨rfl, hbc⟩ := hcut
        generalize wc = w5 at *
        have HOc := hide (HO.out.below hbc)
        have HBc := hide (HB.out.trans (hbc.mono (show w.heap.size ≤ wr.heap.size by omega)))
        have HROc := hide ((hbc.block w.heap.size (by omega)).trans HRO.out)
        have hszc : w.heap.size + 1 ≤ w5.heap.size := Nat.le_trans hsz hbc.size
        have hlen : (K.take i).length = i := by rw [List.length_take]; omega
        have hcrc := (HM.out.below HBc.out).cell
        have hqc : PtAt w5 g (o + i * 3) ⟨qi, qx, qy⟩ := PtAt.block hq0 (hbc.block g hg0)
        clear hcr hpt hS HO HB HRO hbc hq0
        by_cases hq : Ward.lt ⟨qi, qx, qy⟩ ⟨pi, px, py⟩
        · rw [decide_eq_true hq]
          obtain ⟨v1, w1, hap1, ho1, hg1, hf1⟩ := append_pt ⟨qi, qx, qy⟩ HOc.out hszc (by rw [List.length_take]; omega)
          rw [hlen] at hap1
          have hap1' : (Builtin.append_ #[27, 27] 27 #[.slice av i cv, .slice (some ⟨w5.heap.size, 0, none⟩) 1 1]).run Tryz.prog (w5.alloc (.cells #[I qi, I qx, I qy] 36)) = .ok v1 w1 := hap1
          have hb1 : Below (w.heap.size + 1) w5 w1 := ⟨hg1.os, hg1.tape, hg1.output, hg1.size, fun j hj => hg1.block j (by omega) (fun e => by have := HOc.out.ge e.symm; omega)⟩
          have HO1 := hide (show Own w1 (w.heap.size + 1) v1 (K.take (i + 1)) by rw [HTK.out]; exact ho1)
          have HRO1 := hide ((hb1.block w.heap.size (by omega)).trans HROc.out)
          have HB1 := hide (show Below w.heap.size w w1 from HBc.out.trans (hb1.mono (by omega)))
          have hs1 : w.heap.size + 1 ≤ w1.heap.size := Nat.le_trans hszc hb1.size
          obtain ⟨q0, q1, q2⟩ := hqc
          have HS1 := hide hs1
          clear hap1 ho1 hg1 hf1 hb1 hlen hs1
          go_wp2_with (at_builtin; refine Lib.wpList_append_run _ rfl (.tmp 63) (.tmp 71) 27 27 rfl _ _ rfl rfl _ _ hap1' ?_)
          go_roundw
          case rel => exact ⟨i + 1, hlt, by go_num, HO1.out, HX.out hq, HRO1.out, HB1.out, HS1.out⟩
          case measure => simp [intOf]; omega
        · rw [decide_eq_false hq]
          have HPA := hide (HHI.out hq)
          have hcap : i < c := by
            rcases HCAP.out with h | h
            · subst h; simp at hlt
            · omega
          obtain ⟨v1, w1, hap1, ho1, hg1, hf1⟩ := append_pt ⟨pi, px, py⟩ HOc.out hszc (by rw [List.length_take]; omega)
          rw [hlen] at hap1
          have hap1' : (Builtin.append_ #[27, 27] 27 #[.slice av i cv, .slice (some ⟨w5.heap.size, 0, none⟩) 1 1]).run Tryz.prog (w5.alloc (.cells #[I pi, I px, I py] 36)) = .ok v1 w1 := hap1
          have hb1 : Below (w.heap.size + 1) w5 w1 := ⟨hg1.os, hg1.tape, hg1.output, hg1.size, fun j hj => hg1.block j (by omega) (fun e => by have := HOc.out.ge e.symm; omega)⟩
          have hbw1 : Below w.heap.size w w1 := HBc.out.trans (hb1.mono (by omega))
          have hM1 := HM.out.below hbw1
          have hcr1 := hM1.cell
          obtain ⟨p0, p1, p2⟩ := row3 HROc.out
          have hs1 : w.heap.size + 1 ≤ w1.heap.size := Nat.le_trans hszc hb1.size
          have hfz : w1.frozen? ⟨r, 0, none⟩ = false := frozen_of_row _ _ _ _ _ hM1.row
          obtain ⟨a0, c0, e0, hp⟩ := HRD.out
          obtain ⟨g9, o9, e9, hpp⟩ := hp (fun e => by subst e; simp at hlt)
          injection e0 with e1 e2 e3
          rw [e9] at e1
          injection e1 with e1
          injection e1 with e4 e5
          subst e4 e5
          clear e2 e3 e9
          have hdl : (K.drop i).length = K.length - i := List.length_drop
          obtain ⟨v2, w2, hap2, ho2, hg2, hf2⟩ := append_pts (K.drop i) g (o + i * 3) (c - i) ho1 hs1 (by rw [List.length_append, List.length_take, List.length_drop]; simp; omega) (fun j hj => by
            rw [List.length_drop] at hj
            have h := hpp (i + j) (by omega)
            rw [List.getElem_drop, show o + i * 3 + j * 3 = o + (i + j) * 3 by omega]
            exact h.below hbw1 h.lt)
          rw [hdl] at hap2
          obtain ⟨a2, c2, ev2⟩ := ho2.slice
          generalize (K.take i ++ [(⟨pi, px, py⟩ : Ward.Pt)] ++ K.drop i).length = n2 at ev2
          subst ev2
          have hb2 : Below (w.heap.size + 1) w1 w2 := ⟨hg2.os, hg2.tape, hg2.output, hg2.size, fun j hj => hg2.block j (by omega) (fun e => by have := ho1.ge e.symm; omega)⟩
          have hbw2 : Below w.heap.size w w2 := hbw1.trans (hb2.mono (by omega))
          have HFIN := hide (insertedR_laid (L := Ward.ins ⟨pi, px, py⟩ K) 0 HM.out hbw2 (by
            have e : K.take i ++ [⟨pi, px, py⟩] ++ K.drop i = Ward.ins ⟨pi, px, py⟩ K := by rw [HPA.out.ins]; simp
            rw [← e]
            refine ⟨ho2.1, ?_⟩
            rcases ho2.2 with h0 | ⟨g', cap', cur', e', hB', r'⟩
            · exact .inl h0
            · exact .inr ⟨g', cap', cur', e', by omega, r'⟩))
          have hcr2 := (HM.out.below hbw2).cell
          have hfz2 : w2.frozen? ⟨r, 0, none⟩ = false := frozen_of_row _ _ _ _ _ (HM.out.below hbw2).row
          clear hap1 ho1 hg1 hf1 hb1 hlen ho2 hg2 hf2 hb2 hbw1 hbw2 hM1 hpp hp hqc
          go_wp2_with (first | (at_builtin; refine Lib.wpList_append_run _ rfl (.tmp 75) (.tmp 77) 27 27 rfl _ _ rfl rfl _ _ hap1' ?_) | (at_builtin; refine Lib.wpList_append_run _ rfl (.tmp 80) (.tmp 86) 27 27 rfl _ _ rfl rfl _ _ hap2 ?_))
          go_ret
          exact HFIN.out
    · have ei : i = K.length := by omega
      have HPA := hide (show Ward.Parts ⟨pi, px, py⟩ K i from ⟨hi, HLO.out, fun j hj hij => absurd hj (by omega)⟩)
      have HKA := hide (show K.take i = K from List.take_of_length_le (by omega))
      obtain ⟨v1, w1, hap1, ho1, hg1, hf1⟩ := append_pt ⟨pi, px, py⟩ HO.out hsz (by rw [List.length_take]; omega)
      have hlen : (K.take i).length = i := by rw [List.length_take]; omega
      rw [hlen] at hap1
      have hap1' : (Builtin.append_ #[27, 27] 27 #[.slice av i cv, .slice (some ⟨wr.heap.size, 0, none⟩) 1 1]).run Tryz.prog (wr.alloc (.cells #[I pi, I px, I py] 36)) = .ok v1 w1 := hap1
      have hb1 : Below (w.heap.size + 1) wr w1 := ⟨hg1.os, hg1.tape, hg1.output, hg1.size, fun j hj => hg1.block j (by omega) (fun e => by have := HO.out.ge e.symm; omega)⟩
      have hbw1 : Below w.heap.size w w1 := HB.out.trans (hb1.mono (by omega))
      have hM1 := HM.out.below hbw1
      have hcr1 := hM1.cell
      obtain ⟨p0, p1, p2⟩ := row3 HRO.out
      have hs1 : w.heap.size + 1 ≤ w1.heap.size := Nat.le_trans hsz hb1.size
      have HFIN := hide (fun (v2 : Value) (w2 : World) (hb2 : Below (w.heap.size + 1) w1 w2) (ho2 : Own w2 (w.heap.size + 1) v2 (K.take i ++ [⟨pi, px, py⟩])) => insertedR_laid (L := Ward.ins ⟨pi, px, py⟩ K) 0 HM.out (hbw1.trans (hb2.mono (by omega))) (by
        have e : K.take i ++ [⟨pi, px, py⟩] = Ward.ins ⟨pi, px, py⟩ K := by rw [HPA.out.ins, List.drop_eq_nil_of_le (by omega)]
        rw [← e]
        refine ⟨ho2.1, ?_⟩
        rcases ho2.2 with h0 | ⟨g', cap', cur', e', hB', r'⟩
        · exact .inl h0
        · exact .inr ⟨g', cap', cur', e', by omega, r'⟩))
      have hfz : w1.frozen? ⟨r, 0, none⟩ = false := frozen_of_row _ _ _ _ _ hM1.row
      have HAP := hide (fun (g o : Nat) (cc : Nat) => append_pts (w := w1) [] g o cc ho1 hs1 (by rw [List.length_append, List.length_take]; simp; omega) (fun j hj => absurd hj (by simp)))
      have HO1 := hide ho1
      obtain ⟨g1, cap1, ev1, hc1, -⟩ : ∃ g1 cap1, v1 = .slice (some ⟨g1, 0, none⟩) (i + 1) cap1 ∧ i + 1 ≤ cap1 ∧ True := by
        have hl1 : (K.take i ++ [(⟨pi, px, py⟩ : Ward.Pt)]).length = i + 1 := by rw [List.length_append, hlen]; rfl
        rcases ho1.2 with ⟨_, h0⟩ | ⟨g', cap', cur', e', _, _, hcc, _⟩
        · rw [hl1] at h0; cases h0
        · rw [hl1] at e' hcc; exact ⟨g', cap', e', hcc, trivial⟩
      subst ev1
      have hap0 := append_none (w := w1) (g := g1) hc1
      clear ho1 hg1 hf1 hap1 hM1 hlen
      subst ei
      rcases HOWN.out with ⟨e, h0⟩ | ⟨g, cap, e, hcc⟩
      · injection e with e1 e2 e3
        subst e1 e3
        have HF := hide (HFIN.out _ w1 (Below.refl _ _) HO1.out)
        have eK : K = [] := List.length_eq_zero_iff.1 h0
        clear HFIN HAP hb1 hbw1 HOWN HCAP HRD e2 h0 HLO
        subst eK
        go_wp2_with (first | (at_builtin; refine Lib.wpList_append_run _ rfl (.tmp 75) (.tmp 77) 27 27 rfl _ _ rfl rfl _ _ hap1' ?_) | (at_builtin; refine Lib.wpList_append_run _ rfl (.tmp 80) (.tmp 86) 27 27 rfl _ _ rfl rfl _ _ hap0 ?_))
        go_ret
        exact HF.out
      · injection e with e1 e2 e3
        subst e1 e3
        clear e2
        by_cases hc : c = K.length
        · obtain ⟨v2, w2, hap2, ho2, hg2, hf2⟩ := HAP.out g 0 0
          rw [List.append_nil] at ho2
          obtain ⟨a2, c2, ev2⟩ := ho2.slice
          generalize (K.take K.length ++ [(⟨pi, px, py⟩ : Ward.Pt)]).length = n2 at ev2
          subst ev2
          have hb2 : Below (w.heap.size + 1) w1 w2 := ⟨hg2.os, hg2.tape, hg2.output, hg2.size, fun j hj => hg2.block j (by omega) (fun e => by have := HO1.out.ge e.symm; omega)⟩
          have HF := hide (HFIN.out _ w2 hb2 ho2)
          have hbw2 : Below w.heap.size w w2 := hbw1.trans (hb2.mono (by omega))
          have hcr2 := (HM.out.below hbw2).cell
          have hfz2 : w2.frozen? ⟨r, 0, none⟩ = false := frozen_of_row _ _ _ _ _ (HM.out.below hbw2).row
          have hap2' : (Builtin.append_ #[27, 27] 27 #[.slice (some ⟨g1, 0, none⟩) (K.length + 1) cap1, .slice (some ⟨g, 0, none⟩) 0 0]).run Tryz.prog w1 = .ok (.slice a2 n2 c2) w2 := hap2
          clear HFIN HAP hb1 hbw1 HOWN HCAP HRD HLO ho2 hg2 hf2 hb2 hbw2 hap2 hap0
          go_wp2_with (first | (at_builtin; refine Lib.wpList_append_run _ rfl (.tmp 75) (.tmp 77) 27 27 rfl _ _ rfl rfl _ _ hap1' ?_) | (at_builtin; refine Lib.wpList_append_run _ rfl (.tmp 80) (.tmp 86) 27 27 rfl _ _ rfl rfl _ _ hap2' ?_))
          go_ret
          exact HF.out
        · obtain ⟨v2, w2, hap2, ho2, hg2, hf2⟩ := HAP.out g (K.length * 3) (c - K.length)
          rw [List.append_nil] at ho2
          obtain ⟨a2, c2, ev2⟩ := ho2.slice
          generalize (K.take K.length ++ [(⟨pi, px, py⟩ : Ward.Pt)]).length = n2 at ev2
          subst ev2
          have hb2 : Below (w.heap.size + 1) w1 w2 := ⟨hg2.os, hg2.tape, hg2.output, hg2.size, fun j hj => hg2.block j (by omega) (fun e => by have := HO1.out.ge e.symm; omega)⟩
          have HF := hide (HFIN.out _ w2 hb2 ho2)
          have hbw2 : Below w.heap.size w w2 := hbw1.trans (hb2.mono (by omega))
          have hcr2 := (HM.out.below hbw2).cell
          have hfz2 : w2.frozen? ⟨r, 0, none⟩ = false := frozen_of_row _ _ _ _ _ (HM.out.below hbw2).row
          have hap2' : (Builtin.append_ #[27, 27] 27 #[.slice (some ⟨g1, 0, none⟩) (K.length + 1) cap1, .slice (some ⟨g, K.length * 3, none⟩) 0 (c - K.length)]).run Tryz.prog w1 = .ok (.slice a2 n2 c2) w2 := hap2
          have hcc2 : K.length < c := by omega
          clear HFIN HAP hb1 hbw1 HOWN HCAP HRD HLO ho2 hg2 hf2 hb2 hbw2 hap2 hap0 hc
          go_wp2_with (first | (at_builtin; refine Lib.wpList_append_run _ rfl (.tmp 75) (.tmp 77) 27 27 rfl _ _ rfl rfl _ _ hap1' ?_) | (at_builtin; refine Lib.wpList_append_run _ rfl (.tmp 80) (.tmp 86) 27 27 rfl _ _ rfl rfl _ _ hap2' ?_))
          go_ret
          exact HF.out
end Go.Proofs.YtenaelkbgkpllaaGreatDoor
