/- The points of a window. -/
import Derived.Test.YtenaelkbgkpllaaGreatDoorTQ
import Derived.Test.YtenaelkbgkpllaaGreatDoorWardF
import Derived.Test.YtenaelkbgkpllaaGreatDoorTM
namespace Go.Proofs.YtenaelkbgkpllaaGreatDoor
open Go.RowKit

/-- a point put behind others -/
theorem append_pt {w : World} {B : Nat} {v : Value} {l : List Ward.Pt} (p : Ward.Pt) (hown : Own w B v l) (hB : B ≤ w.heap.size) (hn : l.length ≤ 100000) :
    ∃ v' w', (Builtin.append_ #[27, 27] 27 #[v, .slice (some ⟨w.heap.size, 0, none⟩) 1 1]).run Tryz.prog (w.alloc (.cells #[I p.id, I p.x, I p.y] 36)) = .ok v' w' ∧ Own w' B v' (l ++ [p]) ∧ w.grownBy w' v.ownBlock ∧ Fresh w v v' := by
  obtain ⟨i0, hi0, hz0, hz1, hz2⟩ := info_parts Tryz.infoPt
  have hown' : (w.alloc (.cells #[I p.id, I p.x, I p.y] 36)).ownsRow B 36 3 v l.length (l.flatMap P3) := World.ownsRow.alloc hown _
  obtain ⟨v', w', hr, ho, hg, hf⟩ := run_append_own2 (P := Tryz.prog) (w.alloc (.cells #[I p.id, I p.x, I p.y] 36)) B 27 27 36 i0 (.agg #[I 0, I 0, I 0]) 3 24 Tryz.underlying27 hi0 hz0 hz1 hz2 rfl (by decide) v l.length (l.flatMap P3) hown' ⟨w.heap.size, 0, none⟩ 1 1 (P3 p) rfl
    (fun j u hj => by
      rw [Addr.add_lit, Nat.zero_add, cell_of_row _ _ _ _ _ _ (heap_alloc_new w _)]
      rw [List.getElem?_toArray]
      exact hj)
    (fun u hu => cells_one (L := [p]) u (by simpa using hu)) (by unfold maxLen; omega) (by omega) (by simp; omega)
  refine ⟨v', w', hr, ?_, ⟨hg.os, hg.tape, hg.output, Nat.le_trans (by simp) hg.size, fun j hj hne => (hg.block j (by simp; omega) hne).trans (Below.heap_alloc w _ j hj)⟩, ?_⟩
  · unfold Own
    rw [List.length_append, List.flatMap_append]
    have e : [p].flatMap P3 = P3 p := by simp
    rw [e]
    exact ho
  · rcases hf with hf | ⟨g, hf, hgs⟩
    · exact .inl hf
    · exact .inr ⟨g, hf, Nat.le_trans (by simp) hgs⟩
/-- what putting points behind others leaves -/
def PutP (w : World) (B : Nat) (v : Value) (l more : List Ward.Pt) (e : Ending) (w' : World) : Prop := ∃ v', e = .returned v' ∧ Own w' B v' (l ++ more) ∧ w.grownBy w' v.ownBlock ∧ Fresh w v v'
theorem Own.slice {w : World} {B : Nat} {v : Value} {L : List Ward.Pt} (h : Own w B v L) : ∃ a c, v = .slice a L.length c := by
  rcases h.2 with ⟨rfl, h0⟩ | ⟨g, cap, cur, rfl, _⟩
  · exact ⟨none, 0, by rw [h0]⟩
  · exact ⟨_, cap, rfl⟩
theorem grown_of_below {w w' : World} {r : Option Nat} (h : Below w.heap.size w w') : w.grownBy w' r := ⟨h.os, h.tape, h.output, h.size, fun j hj _ => h.block j hj⟩
theorem grown_same {S : Nat → Prop} {w w' : World} {B : Nat} {v : Value} {L : List Ward.Pt} (h : w.grownBy w' v.ownBlock) (ho : Own w B v L) (hS : ∀ g, S g → g < B) (hB : B ≤ w.heap.size) : Same S w w' := fun g hg => h.block g (Nat.lt_of_lt_of_le (hS g hg) hB) (fun e => by have := ho.ge e.symm; have := hS g hg; omega)
theorem grown_lift {w w2 w' : World} {r : Option Nat} (hb : Below w.heap.size w w2) (hg : w2.grownBy w' r) : w.grownBy w' r := ⟨hg.os.trans hb.os, hg.tape.trans hb.tape, hg.output.trans hb.output, Nat.le_trans hb.size hg.size, fun j hj hne => (hg.block j (Nat.lt_of_lt_of_le hj hb.size) hne).trans (hb.block j hj)⟩
theorem fresh_lift {w w2 : World} {v v' : Value} (hs : w.heap.size ≤ w2.heap.size) (hf : Fresh w2 v v') : Fresh w v v' := by
  rcases hf with hf | ⟨g, hf, hgs⟩
  · exact .inl hf
  · exact .inr ⟨g, hf, Nat.le_trans hs hgs⟩
/-- of a child, by its box -/
def kidW (b : Ward.Box) (n : Nat) (c : Ward.NT n) : List Ward.Pt := if Ward.meets b (Ward.boxN n c) then Ward.withinN b n c else []
theorem kidW_len (b : Ward.Box) (n : Nat) : ∀ (K : List (Ward.NT n)) (i : Nat) (h : i < K.length), ((K.take i).flatMap (kidW b n)).length + (Ward.allN n K[i]).length ≤ (K.flatMap (Ward.allN n)).length
  | c :: K, 0, _ => by
    rw [List.flatMap_cons, List.length_append]
    show 0 + (Ward.allN n c).length ≤ _
    omega
  | c :: K, i + 1, h => by
    have ih := kidW_len b n K i (by simpa using h)
    rw [List.flatMap_cons, List.length_append, List.take_succ_cons, List.flatMap_cons, List.length_append]
    have h1 : (kidW b n c).length ≤ (Ward.allN n c).length := by
      unfold kidW
      split
      · exact Ward.within_le b n c
      · exact Nat.zero_le _
    rw [List.getElem_cons_succ]
    omega
/-- a box and a point as they lie -/
def BoxPt (w : World) (g k : Nat) (b : Ward.Box) (q : Ward.Pt) : Prop :=
  (w.cell? ⟨g, 0, none⟩ = some (I b.a) ∧ w.cell? ⟨g, 1, none⟩ = some (I b.b) ∧ w.cell? ⟨g, 2, none⟩ = some (I b.c) ∧ w.cell? ⟨g, 3, none⟩ = some (I b.d)) ∧
  w.cell? ⟨k, 0, none⟩ = some (I q.id) ∧ w.cell? ⟨k, 1, none⟩ = some (I q.x) ∧ w.cell? ⟨k, 2, none⟩ = some (I q.y)
theorem BoxPt.below {w w' : World} {g k : Nat} {b : Ward.Box} {q : Ward.Pt} {B : Nat} (h : BoxPt w g k b q) (hb : Below B w w') (hg : g < B) (hk : k < B) : BoxPt w' g k b q :=
  ⟨⟨(hb.cell (p := ⟨g, 0, none⟩) hg).trans h.1.1, (hb.cell (p := ⟨g, 1, none⟩) hg).trans h.1.2.1, (hb.cell (p := ⟨g, 2, none⟩) hg).trans h.1.2.2.1, (hb.cell (p := ⟨g, 3, none⟩) hg).trans h.1.2.2.2⟩,
   (hb.cell (p := ⟨k, 0, none⟩) hk).trans h.2.1, (hb.cell (p := ⟨k, 1, none⟩) hk).trans h.2.2.1, (hb.cell (p := ⟨k, 2, none⟩) hk).trans h.2.2.2⟩
theorem BoxPt.drew {w : World} {g k : Nat} {b : Ward.Box} {q : Ward.Pt} (h : BoxPt w g k b q) : BoxPt w.drew g k b q := by simpa [BoxPt] using h
theorem row4 {w : World} {g t : Nat} {a b c d : Value} (h : w.heap[g]? = some (.cells #[a, b, c, d] t (0, 0))) : w.cell? ⟨g, 0, none⟩ = some a ∧ w.cell? ⟨g, 1, none⟩ = some b ∧ w.cell? ⟨g, 2, none⟩ = some c ∧ w.cell? ⟨g, 3, none⟩ = some d := by
  refine ⟨?_, ?_, ?_, ?_⟩ <;> rw [cell_of_row _ _ _ _ _ _ h] <;> rfl
theorem filter_step (P : Ward.Pt → Bool) (L : List Ward.Pt) (i : Nat) (h : i < L.length) : (L.take (i + 1)).filter P = (L.take i).filter P ++ (if P L[i] then [L[i]] else []) := by
  rw [List.take_succ_eq_append_getElem h, List.filter_append]
  congr 1
  cases hp : P L[i] <;> simp [hp]
set_option maxRecDepth 100000 in
set_option maxHeartbeats 4000000 in
theorem appendWithin_any : ∀ (n : Nat) (t : Ward.NT n) (v : Value) (l : List Ward.Pt) (V : List Value) (b : Ward.Box) (w : World) (B : Nat) (S : Nat → Prop) (_ : ∀ g, S g → g < B) (_ : B ≤ w.heap.size) (_ : l.length + (Ward.allN n t).length ≤ 1000) (_ : Ward.Few n t) (_ : NodeIs w S n t V) (_ : Own w B v l),
    Calls Tryz.prog 76 #[v, .agg V.toArray, Bx b] w fun e w' => PutP w B v l (Ward.withinN b n t) e w' := by
  intro n
  induction n with
  | zero => intro t; exact nomatch t
  | succ n ih =>
    intro t v l V b w B S hS hB hlen hfew hN hown
    have HFEW := hide hfew
    clear hfew
    have IH := hide ih
    clear ih
    obtain ⟨a1, l1, c1, a2, l2, c2, hV, hd⟩ := hN.cells
    have HR := hide (show Row39 V by rw [hV]; exact nodeV_row hd)
    obtain ⟨vp, vc, hVe, -, ⟨ap, cp, rfl, hpts⟩, ⟨ac, cc, rfl, hkids⟩⟩ := hN
    have HVE := hide hVe
    have HPT := hide hpts
    have HKD := hide hkids
    have HO := hide hown
    have HS := hide hS
    have HLEN := hide hlen
    have HVB := hide (fun g (hg : v.ownBlock = some g) => And.intro (hown.ge hg) (hown.lt hg))
    obtain ⟨fs, hu⟩ := underNode
    have HU := hide hu
    clear hu hV hd hVe hpts hkids hown hS hlen
    have hb2 := fun o o' => ((Below.refl w.heap.size w).alloc (Nat.le_refl _) o).alloc (by simp) o'
    have hr2 := heap_alloc2_new w
    have hr1 := heap_alloc2_old w
    have hs2 := fun o o' => show ((w.alloc o).alloc o').heap.size = w.heap.size + 2 by simp
    go_enter Tryz.func76, Tryz.ntmps76
    go_upto_region 1 with fail
    generalize hW : World.alloc (World.alloc w _) _ = w1
    have hb1 : Below w.heap.size w w1 := by rw [← hW]; exact hb2 _ _
    have hn1 : w1.heap[w.heap.size]? = some (.cells V.toArray 90 (0, 0)) := by rw [← hW]; exact hr1 _ _
    have hx1 : w1.heap[w.heap.size + 1]? = some (.cells #[I b.a, I b.b, I b.c, I b.d] 88 (0, 0)) := by rw [← hW]; exact hr2 _ _
    have hs1 : w1.heap.size = w.heap.size + 2 := by rw [← hW]; exact hs2 _ _
    clear hb2 hr1 hr2 hs2 hW
    have HB1 := hide hb1
    have HX1 := hide hx1
    have HS1 := hide hs1
    have HN1 := hide (show w1.heap[w.heap.size]? = some (.cells (nodeV (.slice ap (Ward.Nd.pts t).length cp) (.slice ac (Ward.Nd.kids t).length cc) (Ward.Nd.box t) (Ward.Nd.n t) ((Ward.Nd.dig t).map Y)).toArray 90 (0, 0)) by rw [hn1, HVE.out])
    obtain ⟨⟨k0, k1⟩, -, -⟩ := node_cells HN1.out
    clear hb1 hn1 hx1 hs1
    go_wp2_with fail
    go_loopg [0, 14] (Ward.Nd.pts t).length (fun gk v0 v14 wq => ∃ i : Nat, gk = (Ward.Nd.pts t).length - i ∧ v14 = I i ∧ i ≤ (Ward.Nd.pts t).length ∧ Own wq B v0 (l ++ ((Ward.Nd.pts t).take i).filter (Ward.inB b)) ∧ w1.grownBy wq v.ownBlock ∧ Fresh w1 v v0)
    case atStart => exact ⟨0, by omega, rfl, by omega, by simpa using HO.out.below HB1.out, grown_of_below (Below.refl _ _), .inl rfl⟩
    case round =>
      obtain ⟨i, hgk, rfl, hi, ho, hgr, hf⟩ := hrel
      have HGK := hide hgk
      have HG := hide hgr
      have HF := hide hf
      have HOI := hide ho
      have hsz := hgr.size
      clear hgk hgr hf ho
      have hbx := (HG.out.block (w.heap.size + 1) (by have := HS1.out; omega) (fun e => by have := (HVB.out _ e.symm).2; omega)).trans HX1.out
      have HBX := hide hbx
      have hnd := (HG.out.block w.heap.size (by have := HS1.out; omega) (fun e => by have := (HVB.out _ e.symm).2; omega)).trans HN1.out
      have HND := hide hnd
      have HSZ := hide (show w.heap.size + 2 ≤ wr.heap.size by have := HS1.out; omega)
      clear hbx hnd
      by_cases hlt : i < (Ward.Nd.pts t).length
      · obtain ⟨g, o, rfl, hgS, hpts⟩ := HPT.out (fun e => by rw [e] at hlt; simp at hlt)
        have hgB := HS.out g hgS
        have hpi := ((hpts i hlt).below HB1.out (by omega)).block (w' := wr) (HG.out.block g (by have := HS1.out; omega) (fun e => by have := (HVB.out _ e.symm).1; omega))
        have HT := hide (filter_step (Ward.inB b) (Ward.Nd.pts t) i hlt)
        have hNl : (((Ward.Nd.pts t).take i).filter (Ward.inB b)).length ≤ (Ward.Nd.pts t).length := Nat.le_trans (List.length_filter_le _ _) (by rw [List.length_take]; omega)
        have hpl : (Ward.Nd.pts t).length ≤ (Ward.allN (n + 1) t).length := by
          show _ ≤ (Ward.Nd.pts t ++ _).length
          rw [List.length_append]; omega
        have HL := hide (show (l ++ ((Ward.Nd.pts t).take i).filter (Ward.inB b)).length ≤ 1000 by rw [List.length_append]; have := HLEN.out; omega)
        have hp1000 : (Ward.Nd.pts t).length ≤ 1000 := by have := HLEN.out; omega
        clear hpts hNl hpl
        generalize (Ward.Nd.pts t)[i] = q at *
        generalize ((Ward.Nd.pts t).take i).filter (Ward.inB b) = N at *
        obtain ⟨p1, p2, p3⟩ := hpi
        go_upto_region 4 with fail
        have hb5' := fun o => (Below.refl wr.heap.size wr).alloc (Nat.le_refl _) o
        have hr5' := heap_alloc_new wr
        have hs5' := fun o => show (wr.alloc o).heap.size = wr.heap.size + 1 by simp
        generalize hW : World.alloc wr _ = w5
        have hb5 : Below wr.heap.size wr w5 := by rw [← hW]; exact hb5' _
        have hr5 : w5.heap[wr.heap.size]? = some (.cells #[I q.id, I q.x, I q.y] 36 (0, 0)) := by rw [← hW]; exact hr5' _
        have hs5 : w5.heap.size = wr.heap.size + 1 := by rw [← hW]; exact hs5' _
        clear hb5' hr5' hs5' hW
        have H7 := hide (show BoxPt w5 (w.heap.size + 1) wr.heap.size b q from ⟨row4 ((hb5.block (w.heap.size + 1) (by have := HSZ.out; omega)).trans HBX.out), row3 hr5⟩)
        have HB5 := hide hb5
        have HR5 := hide hr5
        have hws := HSZ.out
        obtain ⟨⟨a1, a2, a3, a4⟩, a5, a6, a7⟩ := H7.out
        clear hb5 hr5 p1 p2 p3
        have HMT := hide (fun W => meets_any b (Ward.boxOf q) W)
        have HRW := hide (show Ward.inB b q = Ward.meets b (Ward.boxOf q) from rfl)
        generalize Ward.meets b (Ward.boxOf q) = r at *
        go_region_with (first | (go_at_call 79; go_must (refine (boxOf_any q w5.drew).mono ?_; rintro _ w6 ⟨rfl, hb6⟩; have hs6 := hb6.size; have H76 := hide (H7.out.drew.below hb6 (by simp; omega) (by simp; omega)); obtain ⟨⟨k1, k2, k3, k4⟩, k5, k6, k7⟩ := H76.out; have HB6 := hide hb6; clear hb6)) | (go_at_call 78; go_must (refine (HMT.out w6).mono ?_; rintro _ w7 ⟨rfl, hb7⟩; have hs7 := hb7.size; have H77 := hide (H76.out.below hb7 (by simp at hs6; omega) (by simp at hs6; omega)); obtain ⟨⟨m1, m2, m3, m4⟩, m5, m6, m7⟩ := H77.out; have HB7 := hide hb7; clear hb7)))
        all_goals
          have hd : w5.drew.heap.size = w5.heap.size := by simp
          rw [hd] at hs6
          have HBA := hide (show Below wr.heap.size wr w7 from ((HB5.out.drew.trans (HB6.out.mono (by omega))).trans (HB7.out.mono (by omega))))
          clear H7 H76 a1 a2 a3 a4 a5 a6 a7 k1 k2 k3 k4 k5 k6 k7 hd
          cases r with
          | false =>
            go_wp2_with fail
            go_roundg ((Ward.Nd.pts t).length - (i + 1))
            case measure => have := HGK.out; omega
            case rel =>
              refine ⟨i + 1, rfl, by go_num, hlt, ?_, ?_, HF.out⟩
              · rw [HT.out, HRW.out, if_neg (by simp), List.append_nil]
                exact HOI.out.below HBA.out
              · exact grown_trans HG.out HF.out (grown_of_below HBA.out)
          | true =>
            obtain ⟨v8, w8, h8, ho8, hg8, hf8⟩ := append_pt q (HOI.out.below HBA.out) (by omega) (by have := HL.out; omega)
            obtain ⟨au, cu, eu⟩ := HOI.out.slice
            subst eu
            have HO8 := hide ho8
            have HG8 := hide hg8
            have HF8 := hide hf8
            clear ho8 hg8 hf8
            go_wp2_with (at_builtin; refine Lib.wpList_append_run _ rfl (.tmp 22) (.tmp 24) 27 27 rfl _ _ rfl rfl _ _ h8 ?_)
            go_roundg ((Ward.Nd.pts t).length - (i + 1))
            case measure => have := HGK.out; omega
            case rel =>
              refine ⟨i + 1, rfl, by go_num, hlt, ?_, grown_trans HG.out HF.out (grown_lift HBA.out HG8.out), fresh_trans HF.out HG.out.size (fresh_lift HBA.out.size HF8.out)⟩
              rw [HT.out, HRW.out, if_pos rfl, ← List.append_assoc]
              exact HO8.out
      · have ei : i = (Ward.Nd.pts t).length := by omega
        subst ei
        rw [List.take_length] at HOI
        obtain ⟨⟨k0', k1'⟩, -, -⟩ := node_cells HND.out
        have HFN := hide (show l ++ Ward.withinN b (n + 1) t = (l ++ (Ward.Nd.pts t).filter (Ward.inB b)) ++ (Ward.Nd.kids t).flatMap (kidW b n) by rw [List.append_assoc]; rfl)
        have HNL := hide (show (l ++ (Ward.Nd.pts t).filter (Ward.inB b)).length + ((Ward.Nd.kids t).flatMap (Ward.allN n)).length ≤ 1000 by
          have h1 := HLEN.out
          have h2 := List.length_filter_le (Ward.inB b) (Ward.Nd.pts t)
          have h3 : (Ward.allN (n + 1) t).length = (Ward.Nd.pts t).length + ((Ward.Nd.kids t).flatMap (Ward.allN n)).length := by
            show (Ward.Nd.pts t ++ _).length = _
            rw [List.length_append]
          rw [List.length_append]; omega)
        generalize l ++ (Ward.Nd.pts t).filter (Ward.inB b) = M at *
        have HSM := hide (show Same S w wr from fun g hg => ((grown_same HG.out (HO.out.below HB1.out) HS.out (by have := HS1.out; omega)) g hg).trans (HB1.out.block g (by have := HS.out g hg; omega)))
        clear HN1 HX1 HPT HR HVE hsz hi hlt
        obtain ⟨wx, hwx⟩ : ∃ wx, wx = wr := ⟨_, rfl⟩
        subst hwx
        obtain ⟨vx, hvx⟩ : ∃ vx, vx = u0 := ⟨_, rfl⟩
        subst hvx
        go_wp2_with fail
        go_loopg [0, 30] (Ward.Nd.kids t).length (fun gk v0 v30 wq => ∃ i : Nat, gk = (Ward.Nd.kids t).length - i ∧ v30 = I i ∧ i ≤ (Ward.Nd.kids t).length ∧ Own wq B v0 (M ++ ((Ward.Nd.kids t).take i).flatMap (kidW b n)) ∧ wx.grownBy wq vx.ownBlock ∧ Fresh wx vx v0)
        case atStart => exact ⟨0, by omega, rfl, by omega, by simpa using HOI.out, grown_of_below (Below.refl _ _), .inl rfl⟩
        case round =>
          clear HGK
          obtain ⟨i, hgk, rfl, hi, ho2, hgr2, hf2⟩ := hrel
          have HGK := hide hgk
          have HG2 := hide hgr2
          have HF2 := hide hf2
          have HO2 := hide ho2
          have hxb := hgr2.size
          have HVX := hide (fun g (hg : vx.ownBlock = some g) => And.intro (HOI.out.ge hg) (HOI.out.lt hg))
          have HNV := hide (show ∀ g, vx.ownBlock = some g → g ≠ w.heap.size ∧ g ≠ w.heap.size + 1 from fun g hg => by
            rcases HF.out with h | ⟨g', h, hg'⟩
            · have := (HVB.out g (by rw [← h]; exact hg)).2
              omega
            · rw [hg] at h
              injection h with h
              have := HS1.out
              omega)
          have hbx := (HG2.out.block (w.heap.size + 1) (by have := HSZ.out; omega) (fun e => (HNV.out _ e.symm).2 rfl)).trans HBX.out
          have HBX2 := hide hbx
          have HSM2 := hide (show Same S w wr from fun g hg => (HG2.out.block g (by have := HS.out g hg; have := HSZ.out; omega) (fun e => by have := (HVX.out _ e.symm).1; have := HS.out g hg; omega)).trans (HSM.out g hg))
          clear hgk hgr2 hf2 ho2 hbx
          by_cases hlt : i < (Ward.Nd.kids t).length
          · obtain ⟨g, o, rfl, hgS, hrows⟩ := HKD.out (fun e => by rw [e] at hlt; simp at hlt)
            obtain ⟨U, hU, hc⟩ := hrows i hlt
            have HU2 := hide (NodeIs.keep HSM2.out (fun _ h => h) n _ U hU)
            have HC := hide (rangeAt_block hc (HSM2.out g hgS))
            have HT := hide (flat_step (kidW b n) (Ward.Nd.kids t) i hlt)
            have hml : (((Ward.Nd.kids t).take i).flatMap (kidW b n)).length + (Ward.allN n (Ward.Nd.kids t)[i]).length ≤ ((Ward.Nd.kids t).flatMap (Ward.allN n)).length := kidW_len b n _ i hlt
            have HL := hide (show (M ++ ((Ward.Nd.kids t).take i).flatMap (kidW b n)).length + (Ward.allN n (Ward.Nd.kids t)[i]).length ≤ 1000 by rw [List.length_append]; have := HNL.out; omega)
            have hk1000 : (Ward.Nd.kids t).length ≤ 4 := HFEW.out.2.1
            have HFC := hide (HFEW.out.2.2 _ (List.getElem_mem hlt))
            obtain ⟨d1, m1, e1, d2, m2, e2, hV, hd⟩ := HU2.out.cells
            have HR := hide (show Row39 U by rw [hV]; exact nodeV_row hd)
            have HVE := hide hV
            clear hV hd hc hU hrows hml
            generalize (Ward.Nd.kids t)[i] = c at *
            go_upto_region 10 with (first | (refine wpList_load_mid rfl 90 (.tmp 32) rfl g (o + i * 39) rfl U (.struct fs) HC.out HU.out rfl HR.out.infl ?_) | (refine wpList_store_row rfl 90 (.tmp 10) (.tmp 33) rfl wr.heap.size U.toArray rfl rfl 90 _ (heap_alloc_new wr _) HR.out.info (by rw [HR.out.size]; rfl) HR.out.one ?_; rw [World.setRow_alloc_new]))
            have hb5' := fun o => (Below.refl wr.heap.size wr).alloc (Nat.le_refl _) o
            have hr5' := heap_alloc_new wr
            have hs5' := fun o => show (wr.alloc o).heap.size = wr.heap.size + 1 by simp
            generalize hW : World.alloc wr _ = w5
            have hb5 : Below wr.heap.size wr w5 := by rw [← hW]; exact hb5' _
            have hr5 : w5.heap[wr.heap.size]? = some (.cells U.toArray 90 (0, 0)) := by rw [← hW]; exact hr5' _
            have hs5 : w5.heap.size = wr.heap.size + 1 := by rw [← hW]; exact hs5' _
            clear hb5' hr5' hs5' hW
            have HB5 := hide hb5
            have HR5 := hide hr5
            have hxx := HSZ.out
            obtain ⟨a1, a2, a3, a4⟩ := row4 ((hb5.block (w.heap.size + 1) (by omega)).trans HBX2.out)
            rw [HVE.out] at hr5
            obtain ⟨-, ⟨f1, f2, f3, f4⟩, -⟩ := node_cells hr5
            have HMT := hide (fun W => meets_any b (Ward.boxN n c) W)
            have HRW := hide (show kidW b n c = if Ward.meets b (Ward.boxN n c) then Ward.withinN b n c else [] from rfl)
            clear hb5 hr5
            generalize Ward.meets b (Ward.boxN n c) = r at *
            generalize Ward.boxN n c = bc at *
            go_wp2_with fail
            refine (HMT.out _).mono ?_
            rintro _ w6 ⟨rfl, hb6⟩
            have hs6 := hb6.size
            have HB6 := hide hb6
            have HBA := hide (show Below wr.heap.size wr w6 from HB5.out.trans (hb6.mono (by omega)))
            obtain ⟨q1, q2, q3, q4⟩ := row4 ((HBA.out.block (w.heap.size + 1) (by omega)).trans HBX2.out)
            have HR6 := hide ((hb6.block wr.heap.size (by omega)).trans HR5.out)
            clear hb6 a1 a2 a3 a4 f1 f2 f3 f4 HR5
            cases r with
            | false =>
              go_wp2_with fail
              go_roundg ((Ward.Nd.kids t).length - (i + 1))
              case measure => have := HGK.out; omega
              case rel =>
                refine ⟨i + 1, rfl, by go_num, hlt, ?_, grown_trans HG2.out HF2.out (grown_of_below HBA.out), HF2.out⟩
                rw [HT.out, HRW.out, if_neg (by simp), List.append_nil]
                exact HO2.out.below HBA.out
            | true =>
              have HIH := hide (IH.out c u0 (M ++ ((Ward.Nd.kids t).take i).flatMap (kidW b n)) U b w6 B S HS.out (by omega) HL.out HFC.out (NodeIs.keep (below_same HBA.out (fun g hg => by have := HS.out g hg; omega)) (fun _ h => h) n _ U HU2.out) (HO2.out.below HBA.out))
              generalize ((Ward.Nd.kids t).take i).flatMap (kidW b n) = N at *
              go_wp2_with (refine wpList_load_row rfl 90 (.tmp 10) rfl wr.heap.size rfl 90 U.toArray (0, 0) (.struct fs) HR6.out HU.out rfl HR.out.info ?_)
              refine HIH.out.mono ?_
              rintro _ w7 ⟨v7, rfl, ho7, hg7, hf7⟩
              have HO7 := hide ho7
              have HG7 := hide hg7
              have HF7 := hide hf7
              clear ho7 hg7 hf7
              go_wp2_with fail
              go_roundg ((Ward.Nd.kids t).length - (i + 1))
              case measure => have := HGK.out; omega
              case rel =>
                refine ⟨i + 1, rfl, by go_num, hlt, ?_, grown_trans HG2.out HF2.out (grown_lift HBA.out HG7.out), fresh_trans HF2.out HG2.out.size (fresh_lift HBA.out.size HF7.out)⟩
                rw [HT.out, HRW.out, if_pos trivial, ← List.append_assoc]
                exact HO7.out
          · have ei : i = (Ward.Nd.kids t).length := by omega
            subst ei
            rw [List.take_length, ← HFN.out] at HO2
            go_wp2
            go_ret
            refine ⟨_, rfl, HO2.out, grown_lift HB1.out (grown_trans HG.out HF.out HG2.out), fresh_lift HB1.out.size (fresh_trans HF.out HG.out.size HF2.out)⟩
end Go.Proofs.YtenaelkbgkpllaaGreatDoor
