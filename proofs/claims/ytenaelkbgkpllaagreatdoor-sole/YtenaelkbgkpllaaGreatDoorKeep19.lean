/- Part 19 of what the claims on Bound, Small, Right and Sole rest on. -/
import Derived.Test.YtenaelkbgkpllaaGreatDoorKeep15
import Derived.Test.YtenaelkbgkpllaaGreatDoorKeep17
import Derived.Test.YtenaelkbgkpllaaGreatDoorKeep18
/- What stands right below a node, put onto the heap: the points. -/
namespace Go.Proofs.YtenaelkbgkpllaaGreatDoor
open Go.RowKit

/-- the entry of a point -/
def ptEn (x y : Int) (p : Ward.Pt) : En := ⟨Ward.distP p x y, none, p⟩
/-- the entry of a child -/
def kidEn (x y : Int) (g o : Nat) (n : Nat) (c : Ward.NT n) (i : Nat) : En := ⟨Ward.dist (Ward.boxN n c) x y, some ⟨g, o + i * 39, none⟩, ⟨0, 0, 0⟩⟩
/-- a heap with some more -/
structure Grew (w w' : World) (h B : Nat) (v v' : Value) (l l' : List En) : Prop where
  at' : HeapAt w' h B v' l'
  perm : l'.Perm l
  ok : Heap.Ok enLt (Heap.at' l') l'.length
  keeps : Keeps (Heaps h v) w w'
  fresh : Fresh w v v'
theorem Grew.below {w w' w'' : World} {h B : Nat} {v v' : Value} {l l' : List En} (H : Grew w w' h B v v' l l') (hb : Below w'.heap.size w' w'') : Grew w w'' h B v v' l l' := ⟨H.at'.below hb, H.perm, H.ok, H.keeps.trans (Keeps.of_below (S := Heaps h v) hb) (fun _ _ h => h), H.fresh⟩
theorem Grew.push {w w' w'' : World} {h B : Nat} {v v' v'' : Value} {l l' l'' : List En} {e : En} (H : Grew w w' h B v v' l l') (h1 : HeapAt w'' h B v'' l'') (h2 : l''.Perm (l' ++ [e])) (h3 : Heap.Ok enLt (Heap.at' l'') l''.length) (h4 : Keeps (Heaps h v') w' w'') (h5 : Fresh w' v' v'') : Grew w w'' h B v v'' (l ++ [e]) l'' :=
  ⟨h1, h2.trans (H.perm.append_right [e]), h3, H.keeps.trans h4 (fun j hj hh => heaps_fresh H.fresh j hj hh), fresh_trans H.fresh H.keeps.size h5⟩
/-- what the round of a point reads -/
def PtQry (w : World) (k g : Nat) (p : Ward.Pt) (x y : Int) : Prop := (w.cell? ⟨k, 0, none⟩ = some (I p.id) ∧ w.cell? ⟨k, 1, none⟩ = some (I p.x) ∧ w.cell? ⟨k, 2, none⟩ = some (I p.y)) ∧ w.cell? ⟨g, 5, none⟩ = some (I x) ∧ w.cell? ⟨g, 6, none⟩ = some (I y)
theorem PtQry.below {w w' : World} {k g B : Nat} {p : Ward.Pt} {x y : Int} (h : PtQry w k g p x y) (hb : Below B w w') (hk : k < B) (hg : g < B) : PtQry w' k g p x y :=
  ⟨⟨(hb.cell (p := ⟨k, 0, none⟩) hk).trans h.1.1, (hb.cell (p := ⟨k, 1, none⟩) hk).trans h.1.2.1, (hb.cell (p := ⟨k, 2, none⟩) hk).trans h.1.2.2⟩, (hb.cell (p := ⟨g, 5, none⟩) hg).trans h.2.1, (hb.cell (p := ⟨g, 6, none⟩) hg).trans h.2.2⟩
theorem PtQry.drew {w : World} {k g : Nat} {p : Ward.Pt} {x y : Int} (h : PtQry w k g p x y) : PtQry w.drew k g p x y := by simpa [PtQry] using h
theorem Keeps.cell {S : Nat → Prop} {w w' : World} (hk : Keeps S w w') {g o : Nat} {v : Value} (hg : ¬ S g) (hc : w.cell? ⟨g, o, none⟩ = some v) : w'.cell? ⟨g, o, none⟩ = some v :=
  (World.cell?_of_block (w := w) (a := ⟨g, o, none⟩) (hk.block g (block_lt_of_cell hc) hg)).trans hc
theorem PtQry.keeps {S : Nat → Prop} {w w' : World} {k g : Nat} {p : Ward.Pt} {x y : Int} (h : PtQry w k g p x y) (hk : Keeps S w w') (h1 : ¬ S k) (h2 : ¬ S g) : PtQry w' k g p x y :=
  ⟨⟨hk.cell h1 h.1.1, hk.cell h1 h.1.2.1, hk.cell h1 h.1.2.2⟩, hk.cell h2 h.2.1, hk.cell h2 h.2.2⟩
/-- what the round of a child reads -/
def KdQry (w : World) (k o g : Nat) (b : Ward.Box) (x y : Int) : Prop := (w.cell? ⟨k, o + 2, none⟩ = some (I b.a) ∧ w.cell? ⟨k, o + 3, none⟩ = some (I b.b) ∧ w.cell? ⟨k, o + 4, none⟩ = some (I b.c) ∧ w.cell? ⟨k, o + 5, none⟩ = some (I b.d)) ∧ w.cell? ⟨g, 5, none⟩ = some (I x) ∧ w.cell? ⟨g, 6, none⟩ = some (I y)
theorem KdQry.below {w w' : World} {k o g B : Nat} {b : Ward.Box} {x y : Int} (h : KdQry w k o g b x y) (hb : Below B w w') (hk : k < B) (hg : g < B) : KdQry w' k o g b x y :=
  ⟨⟨(hb.cell (p := ⟨k, o + 2, none⟩) hk).trans h.1.1, (hb.cell (p := ⟨k, o + 3, none⟩) hk).trans h.1.2.1, (hb.cell (p := ⟨k, o + 4, none⟩) hk).trans h.1.2.2.1, (hb.cell (p := ⟨k, o + 5, none⟩) hk).trans h.1.2.2.2⟩, (hb.cell (p := ⟨g, 5, none⟩) hg).trans h.2.1, (hb.cell (p := ⟨g, 6, none⟩) hg).trans h.2.2⟩
theorem KdQry.drew {w : World} {k o g : Nat} {b : Ward.Box} {x y : Int} (h : KdQry w k o g b x y) : KdQry w.drew k o g b x y := by simpa [KdQry] using h
theorem KdQry.keeps {S : Nat → Prop} {w w' : World} {k o g : Nat} {b : Ward.Box} {x y : Int} (h : KdQry w k o g b x y) (hk : Keeps S w w') (h1 : ¬ S k) (h2 : ¬ S g) : KdQry w' k o g b x y :=
  ⟨⟨hk.cell h1 h.1.1, hk.cell h1 h.1.2.1, hk.cell h1 h.1.2.2.1, hk.cell h1 h.1.2.2.2⟩, hk.cell h2 h.2.1, hk.cell h2 h.2.2⟩
theorem ownE_other {w : World} {B g : Nat} {v : Value} {l : List En} {c : Array Value} {ty : Nat} {fr : Nat × Nat} (h : OwnE w B v l) (hg : w.heap[g]? = some (Obj.cells c ty fr)) (ht : ty ≠ 166) : v.ownBlock ≠ some g := fun e => by
  rcases h.2 with ⟨rfl, _⟩ | ⟨g', cap, cur, rfl, _, hg', _⟩
  · cases e
  · injection e with e
    have e' : g' = g := e
    subst e'
    rw [hg] at hg'
    injection hg' with hg'
    injection hg' with _ h2 _
    exact ht h2
theorem built_en (d : Int) (p : Ward.Pt) : Tryz.prog.built 166 [(0, I d), (2, .agg #[I p.id, I p.x, I p.y])] = some #[I d, .pointer none, I p.id, I p.x, I p.y] := by kernel_rfl
/-- the entries of children -/
def kidsEn (x y : Int) (g o n : Nat) (K : List (Ward.NT n)) : List En := K.mapIdx (fun i c => kidEn x y g o n c i)
theorem kidsEn_step (x y : Int) (g o n : Nat) (K : List (Ward.NT n)) (i : Nat) (h : i < K.length) : kidsEn x y g o n (K.take (i + 1)) = kidsEn x y g o n (K.take i) ++ [kidEn x y g o n K[i] i] := by
  unfold kidsEn
  rw [List.take_succ_eq_append_getElem h, List.mapIdx_concat, List.length_take, Nat.min_eq_left (by omega)]
theorem range_cell {w : World} {g o : Nat} {U : List Value} (h : w.rangeAt g o U) {j : Nat} {v : Value} (hj : U[j]? = some v) : w.cell? ⟨g, o + j, none⟩ = some v := h j v hj
theorem Keeps.same {S : Nat → Prop} {w w' : World} {h B : Nat} {v : Value} {l : List En} (hk : Keeps (Heaps h v) w w') (hS : ∀ g, S g → g < B) (hhB : B ≤ h) (hB : B ≤ w.heap.size) (ho : OwnE w B v l) : Same S w w' := fun g hg => hk.block g (Nat.lt_of_lt_of_le (hS g hg) hB) (fun e => by
  have := hS g hg
  rcases e with e | e
  · omega
  · have := (ho.lt e.symm).1; omega)
set_option maxRecDepth 100000 in
set_option maxHeartbeats 4000000 in
theorem open_any (h : Nat) (v : Value) (l : List En) (g o n : Nat) (t : Ward.NT (n + 1)) (U : List Value) (q : Ward.Qr) (w : World) (B : Nat) (S : Nat → Prop) (hS : ∀ g, S g → g < B) (hhB : B ≤ h) (hB : B ≤ w.heap.size) (H : HeapAt w h B v l) (hok : Heap.Ok enLt (Heap.at' l) l.length)
    (hN : NodeIs w S (n + 1) t U) (hg : S g) (hU : w.rangeAt g o U) (hfew : Ward.Few (n + 1) t) (hin : Ward.InN (n + 1) t) (hpt : ∀ p ∈ Ward.Nd.pts t, p.Ok) (hl : l.length ≤ 80000) (hx : -1000000 ≤ q.x ∧ q.x ≤ 1000000) (hy : -1000000 ≤ q.y ∧ q.y ≤ 1000000) :
    Calls Tryz.prog 116 #[.pointer (some ⟨h, 0, none⟩), .pointer (some ⟨g, o, none⟩), Qv q] w fun r w' => r = .returned (.tuple #[]) ∧ ∃ v' l' gc oc, Grew w w' h B v v' (l ++ ((Ward.Nd.pts t).map (ptEn q.x q.y) ++ kidsEn q.x q.y gc oc n (Ward.Nd.kids t))) l' ∧ (Ward.Nd.kids t ≠ [] → S gc) ∧ ∀ i (h : i < (Ward.Nd.kids t).length), ∃ V, NodeIs w S n (Ward.Nd.kids t)[i] V ∧ w.rangeAt gc (oc + i * 39) V := by
  obtain ⟨vp, vc, hVe, -, ⟨ap, cp, rfl, hpts⟩, ⟨ac, cc, rfl, hkids⟩⟩ := hN
  have hp4 : (Ward.Nd.pts t).length ≤ 4 := hfew.1
  have hk4 : (Ward.Nd.kids t).length ≤ 4 := hfew.2.1
  have HU0 := hide (range_cell hU (j := 0) (v := .slice ap (Ward.Nd.pts t).length cp) (by rw [hVe]; rfl))
  have HU1 := hide (range_cell hU (j := 1) (v := .slice ac (Ward.Nd.kids t).length cc) (by rw [hVe]; rfl))
  have hgB := hS g hg
  have HS := hide hS
  have HPT := hide hpts
  have HKD := hide hkids
  have HPO := hide hpt
  have HIN := hide hin
  have HX := hide hx
  have HY := hide hy
  have HGS := hide hg
  have HH := hide H
  have HG0 := hide (show Grew w w h B v v l l from ⟨H, List.Perm.refl _, hok, Keeps.refl _ _, .inl rfl⟩)
  clear hVe hpts hkids hpt hin hU hS H hok hfew hx hy hg
  have hb2 := fun o => (Below.refl w.heap.size w).alloc (Nat.le_refl _) o
  have hr2 := heap_alloc_new w
  have hs2 := fun o => show (w.alloc o).heap.size = w.heap.size + 1 by simp
  obtain ⟨qk, qa, qb, qc, qd, qx, qy, qn⟩ := q
  simp only at HX HY ⊢
  go_enter Tryz.func116, Tryz.ntmps116
  go_upto_region 1 with fail
  generalize hW : World.alloc w _ = w1
  have hb1 : Below w.heap.size w w1 := by rw [← hW]; exact hb2 _
  have hr1 : w1.heap[w.heap.size]? = some (.cells #[I qk, I qa, I qb, I qc, I qd, I qx, I qy, I qn] 46 (0, 0)) := by rw [← hW]; exact hr2 _
  have hs1 : w.heap.size + 1 ≤ w1.heap.size := by rw [← hW, hs2]; exact Nat.le_refl _
  clear hb2 hr2 hs2 hW
  have HB1 := hide hb1
  have HR1 := hide hr1
  have HG1 := hide (HG0.out.below hb1)
  have c0 := (hb1.cell (p := ⟨g, o + 0, none⟩) (show g < w.heap.size by omega)).trans HU0.out
  simp only [Nat.add_zero] at c0
  clear hb1 hr1 HG0
  go_wp2_with fail
  go_loopg [15] (Ward.Nd.pts t).length (fun gk v15 wq => ∃ (i : Nat) (v' : Value) (l' : List En), gk = (Ward.Nd.pts t).length - i ∧ v15 = I i ∧ i ≤ (Ward.Nd.pts t).length ∧ Grew w wq h B v v' (l ++ ((Ward.Nd.pts t).take i).map (ptEn qx qy)) l' ∧ wq.heap[w.heap.size]? = some (.cells #[I qk, I qa, I qb, I qc, I qd, I qx, I qy, I qn] 46 (0, 0)))
  case atStart => exact ⟨0, v, l, rfl, rfl, by omega, by simpa using HG1.out, HR1.out⟩
  case round =>
    clear HG1 HR1 c0
    obtain ⟨i, v', l', hgk, rfl, hi, hG, hR⟩ := hrel
    have HGK := hide hgk
    have HG := hide hG
    have HR := hide hR
    have hwr := hG.keeps.size
    have hlw : w.heap.size < wr.heap.size := (Array.getElem?_eq_some_iff.1 hR).1
    have HSM := hide (Keeps.same hG.keeps HS.out hhB hB HH.out.own)
    have hl' : l'.length = l.length + i := by
      rw [hG.perm.length_eq, List.length_append, List.length_map, List.length_take]; omega
    clear hgk hG hR
    by_cases hlt : i < (Ward.Nd.pts t).length
    · obtain ⟨gp, op, rfl, hgpS, hpp⟩ := HPT.out (fun e => by rw [e] at hlt; simp at hlt)
      have hpi := (hpp i hlt).block (w' := wr) (HSM.out gp hgpS)
      have hpok := HPO.out _ (List.getElem_mem hlt)
      have HT := hide (show l ++ ((Ward.Nd.pts t).take (i + 1)).map (ptEn qx qy) = (l ++ ((Ward.Nd.pts t).take i).map (ptEn qx qy)) ++ [ptEn qx qy (Ward.Nd.pts t)[i]] by rw [List.take_succ_eq_append_getElem hlt, List.map_append, List.append_assoc]; rfl)
      clear hpp
      generalize (Ward.Nd.pts t)[i] = p at *
      generalize l ++ ((Ward.Nd.pts t).take i).map (ptEn qx qy) = M at *
      have hll : l'.length ≤ 80004 := by omega
      clear hl'
      obtain ⟨p1, p2, p3⟩ := hpi
      go_upto_region 4 with fail
      have hb5' := fun o => (Below.refl wr.heap.size wr).alloc (Nat.le_refl _) o
      have hr5' := heap_alloc_new wr
      have hs5' := fun o => show (wr.alloc o).heap.size = wr.heap.size + 1 by simp
      generalize hW : World.alloc wr _ = w5
      have hb5 : Below wr.heap.size wr w5 := by rw [← hW]; exact hb5' _
      have hr5 : w5.heap[wr.heap.size]? = some (.cells #[I p.id, I p.x, I p.y] 36 (0, 0)) := by rw [← hW]; exact hr5' _
      have hs5 : wr.heap.size + 1 ≤ w5.heap.size := by rw [← hW, hs5']; exact Nat.le_refl _
      clear hb5' hr5' hs5' hW
      have HG5 := hide (HG.out.below hb5)
      obtain ⟨-, -, -, -, -, q5, q6, -⟩ := rowQ8 ((hb5.block w.heap.size (by omega)).trans HR.out)
      have hS5 : PtQry w5 wr.heap.size w.heap.size p qx qy := ⟨row3 hr5, q5, q6⟩
      have HS5 := hide hS5
      have HR5 := hide ((hb5.block w.heap.size (by omega)).trans HR.out)
      have HDI := hide (fun W => distance_any (Ward.boxOf p) qx qy W (boxOf_in hpok) HX.out HY.out)
      have HPE := hide (show ptEn qx qy p = ⟨Ward.dist (Ward.boxOf p) qx qy, none, p⟩ from rfl)
      have HPU := hide (fun (W : World) (hb : Below w5.heap.size w5 W) => heapPush_any h v' l' (ptEn qx qy p) W B (HG5.out.at'.below hb) (by have := hb.size; omega) (by omega) HG5.out.ok)
      have HNA := hide (show ¬ Heaps h v' wr.heap.size ∧ ¬ Heaps h v' w.heap.size from ⟨fun e => by
        have hhw := HH.out.lt
        rcases e with e | e
        · omega
        · have := (HG.out.at'.own.lt e.symm).2; omega, fun e => by
        have hhw := HH.out.lt
        rcases e with e | e
        · omega
        · exact ownE_other HG.out.at'.own HR.out (by decide) e.symm⟩)
      clear hb5 hr5 q5 q6 p1 p2 p3
      rw [HPE.out] at HPU
      generalize Ward.dist (Ward.boxOf p) qx qy = dd at *
      have HBO := hide (fun W => boxOf_any p W)
      generalize Ward.boxOf p = bp at *
      obtain ⟨pi, px, py⟩ := p
      simp only at *
      go_region_held3 (fun W => (W.cell? ⟨wr.heap.size, 0, none⟩ = some (I pi) ∧ W.cell? ⟨wr.heap.size, 1, none⟩ = some (I px) ∧ W.cell? ⟨wr.heap.size, 2, none⟩ = some (I py)) ∧ W.cell? ⟨w.heap.size, 5, none⟩ = some (I qx) ∧ W.cell? ⟨w.heap.size, 6, none⟩ = some (I qy)) (first | assumption | exact hS5 | exact HS5.out.drew) ((first | (go_at_call 79; refine (HBO.out _).mono ?_; rintro _ w6 ⟨rfl, hb6⟩; have hs6 : w5.heap.size ≤ w6.heap.size := hb6.size; have hS6 := HS5.out.drew.below hb6 (by simp; omega) (by simp; omega)) | (go_at_call 80; refine (HDI.out _).mono ?_; rintro _ w7 ⟨rfl, hb7⟩; have hs7 := hb7.size; have hS7 := hS6.below hb7 (by omega) (by omega)) | (go_at_call 145; refine (HPU.out _ ((((Below.refl w5.heap.size w5).drew).trans hb6).trans (hb7.mono hs6))).mono ?_; rintro _ w8 ⟨rfl, v8, l8, hh8, hp8, ho8, hk8, hf8⟩; have hS8 := hS7.keeps hk8 HNA.out.1 HNA.out.2)))
      have HB7 := hide (show Below w5.heap.size w5 w7 from (((Below.refl w5.heap.size w5).drew).trans hb6).trans (hb7.mono hs6))
      have HR8 := hide ((hk8.block w.heap.size (by omega) HNA.out.2).trans ((HB7.out.block w.heap.size (by omega)).trans HR5.out))
      have HG8 := hide ((HG5.out.below HB7.out).push hh8 hp8 ho8 hk8 hf8)
      clear hb6 hb7 hh8 hp8 ho8 hk8 hf8 hS5 hS6 hS7 hS8 hs6 hs7
      go_wp2_with fail
      go_roundg ((Ward.Nd.pts t).length - (i + 1))
      case measure => have := HGK.out; omega
      case rel =>
        refine ⟨i + 1, v8, l8, rfl, by go_num, hlt, ?_, HR8.out⟩
        rw [HT.out, HPE.out]
        exact HG8.out
    · have ei : i = (Ward.Nd.pts t).length := by omega
      subst ei
      rw [List.take_length] at HG
      obtain ⟨wx, hwx⟩ : ∃ wx, wx = wr := ⟨_, rfl⟩
      subst hwx
      obtain ⟨vx, hvx⟩ : ∃ vx, vx = v' := ⟨_, rfl⟩
      subst hvx
      obtain ⟨lx, hlx⟩ : ∃ lx, lx = l' := ⟨_, rfl⟩
      subst hlx
      have HU1x := hide ((World.cell?_of_block (w := w) (a := ⟨g, o + 1, none⟩) (HSM.out g HGS.out)).trans HU1.out)
      generalize hME : l ++ (Ward.Nd.pts t).map (ptEn qx qy) = M at *
      have HME := hide hME
      have hlx' : lx.length ≤ 80004 := by omega
      clear hME hl' hi hlt HGK HPT
      have cx := HU1x.out
      have HKD2 := hide (show ∃ gc oc, (Ward.Nd.kids t ≠ [] → ac = some ⟨gc, oc, none⟩ ∧ S gc) ∧ ∀ i (h : i < (Ward.Nd.kids t).length), ∃ V, NodeIs w S n (Ward.Nd.kids t)[i] V ∧ w.rangeAt gc (oc + i * 39) V by
        by_cases hk0 : Ward.Nd.kids t = []
        · exact ⟨0, 0, fun e => absurd hk0 e, fun i h => by rw [hk0] at h; simp at h⟩
        · obtain ⟨gc, oc, e, hgcS, hrows⟩ := HKD.out hk0
          exact ⟨gc, oc, fun _ => ⟨e, hgcS⟩, hrows⟩)
      obtain ⟨gc, oc, hac, hrows⟩ := HKD2.out
      have HAC := hide hac
      have HRW := hide hrows
      clear hac hrows HKD HKD2
      go_wp2_with fail
      go_loopg [38] (Ward.Nd.kids t).length (fun gk v38 wq => ∃ (i : Nat) (v' : Value) (l' : List En), gk = (Ward.Nd.kids t).length - i ∧ v38 = I i ∧ i ≤ (Ward.Nd.kids t).length ∧ Grew w wq h B v v' (M ++ kidsEn qx qy gc oc n ((Ward.Nd.kids t).take i)) l' ∧ wq.heap[w.heap.size]? = some (.cells #[I qk, I qa, I qb, I qc, I qd, I qx, I qy, I qn] 46 (0, 0)))
      case atStart => exact ⟨0, vx, lx, rfl, rfl, by omega, by rw [List.take_zero]; show Grew w wx h B v vx (M ++ []) lx; rw [List.append_nil]; exact HG.out, HR.out⟩
      case round =>
        clear HG HR HSM HU1x cx hwr hlw hlx'
        obtain ⟨i, v', l', hgk, rfl, hi, hG, hR⟩ := hrel
        have HGK := hide hgk
        have HG := hide hG
        have HR := hide hR
        have hwr := hG.keeps.size
        have hlw : w.heap.size < wr.heap.size := (Array.getElem?_eq_some_iff.1 hR).1
        have HSM := hide (Keeps.same hG.keeps HS.out hhB hB HH.out.own)
        have hl' : l'.length ≤ 80008 := by
          rw [hG.perm.length_eq, List.length_append, ← HME.out, List.length_append, List.length_map]
          unfold kidsEn
          rw [List.length_mapIdx, List.length_take]; omega
        have cx := (World.cell?_of_block (w := w) (a := ⟨g, o + 1, none⟩) (HSM.out g HGS.out)).trans HU1.out
        clear hgk hG hR
        by_cases hlt : i < (Ward.Nd.kids t).length
        · obtain ⟨rfl, hgcS⟩ := HAC.out (fun e => by rw [e] at hlt; simp at hlt)
          obtain ⟨V, hV, hc⟩ := HRW.out i hlt
          have hcr := rangeAt_block hc (HSM.out gc hgcS)
          obtain ⟨d1, m1, e1, d2, m2, e2, hVV, hd⟩ := hV.cells
          have b0 := range_cell hcr (j := 2) (v := I (Ward.boxN n (Ward.Nd.kids t)[i]).a) (by rw [hVV]; rfl)
          have b1 := range_cell hcr (j := 3) (v := I (Ward.boxN n (Ward.Nd.kids t)[i]).b) (by rw [hVV]; rfl)
          have b2 := range_cell hcr (j := 4) (v := I (Ward.boxN n (Ward.Nd.kids t)[i]).c) (by rw [hVV]; rfl)
          have b3 := range_cell hcr (j := 5) (v := I (Ward.boxN n (Ward.Nd.kids t)[i]).d) (by rw [hVV]; rfl)
          have hbi := (HIN.out _ (List.getElem_mem hlt)).1
          have HT := hide (show M ++ kidsEn qx qy gc oc n ((Ward.Nd.kids t).take (i + 1)) = (M ++ kidsEn qx qy gc oc n ((Ward.Nd.kids t).take i)) ++ [kidEn qx qy gc oc n (Ward.Nd.kids t)[i] i] by rw [kidsEn_step _ _ _ _ _ _ _ hlt, List.append_assoc])
          have HKE := hide (show kidEn qx qy gc oc n (Ward.Nd.kids t)[i] i = ⟨Ward.dist (Ward.boxN n (Ward.Nd.kids t)[i]) qx qy, some ⟨gc, oc + i * 39, none⟩, ⟨0, 0, 0⟩⟩ from rfl)
          have hgcl : gc < w.heap.size := by have := HS.out gc hgcS; omega
          clear hVV hd hcr hV hc
          generalize kidEn qx qy gc oc n (Ward.Nd.kids t)[i] i = ke at *
          generalize Ward.boxN n (Ward.Nd.kids t)[i] = bk at *
          generalize M ++ kidsEn qx qy gc oc n ((Ward.Nd.kids t).take i) = N at *
          have HDI := hide (fun W => distance_any bk qx qy W hbi HX.out HY.out)
          have HPU := hide (fun (W : World) (hb : Below wr.heap.size wr W) => heapPush_any h v' l' ke W B (HG.out.at'.below hb) (by have := hb.size; omega) (by omega) HG.out.ok)
          rw [HKE.out] at HPU
          generalize Ward.dist bk qx qy = dd at *
          go_upto_region 10 with fail
          obtain ⟨-, -, -, -, -, q5, q6, -⟩ := rowQ8 HR.out
          have hS5 : KdQry wr gc (oc + i * 39) w.heap.size bk qx qy := ⟨⟨b0, b1, b2, b3⟩, q5, q6⟩
          have HS5 := hide hS5
          have HNA := hide (show ¬ Heaps h v' gc ∧ ¬ Heaps h v' w.heap.size from ⟨fun e => by
            have hhw := HS.out gc hgcS
            rcases e with e | e
            · omega
            · have := (HG.out.at'.own.lt e.symm).1; omega, fun e => by
            have hhw := HH.out.lt
            rcases e with e | e
            · omega
            · exact ownE_other HG.out.at'.own HR.out (by decide) e.symm⟩)
          clear q5 q6 b0 b1 b2 b3
          obtain ⟨ba, bb, bc, bd⟩ := bk
          simp only at *
          go_region_held3 (fun W => (W.cell? ⟨gc, oc + i * 39 + 2, none⟩ = some (I ba) ∧ W.cell? ⟨gc, oc + i * 39 + 3, none⟩ = some (I bb) ∧ W.cell? ⟨gc, oc + i * 39 + 4, none⟩ = some (I bc) ∧ W.cell? ⟨gc, oc + i * 39 + 5, none⟩ = some (I bd)) ∧ W.cell? ⟨w.heap.size, 5, none⟩ = some (I qx) ∧ W.cell? ⟨w.heap.size, 6, none⟩ = some (I qy)) (first | assumption | exact hS5 | exact HS5.out.drew) ((first | (go_at_call 80; refine (HDI.out _).mono ?_; rintro _ w7 ⟨rfl, hb7⟩; have hs7 : wr.heap.size ≤ w7.heap.size := hb7.size; have hS7 := HS5.out.drew.below hb7 (by simp; omega) (by simp; omega)) | (go_at_call 145; refine (HPU.out _ (((Below.refl wr.heap.size wr).drew).trans hb7)).mono ?_; rintro _ w8 ⟨rfl, v8, l8, hh8, hp8, ho8, hk8, hf8⟩; have hS8 := hS7.keeps hk8 HNA.out.1 HNA.out.2)))
          have HB7 := hide (show Below wr.heap.size wr w7 from ((Below.refl wr.heap.size wr).drew).trans hb7)
          have HR8 := hide ((hk8.block w.heap.size (by omega) HNA.out.2).trans ((HB7.out.block w.heap.size (by omega)).trans HR.out))
          have HG8 := hide ((HG.out.below HB7.out).push hh8 hp8 ho8 hk8 hf8)
          clear hb7 hh8 hp8 ho8 hk8 hf8 hS5 hS7 hS8 hs7
          go_wp2_with fail
          go_roundg ((Ward.Nd.kids t).length - (i + 1))
          case measure => have := HGK.out; omega
          case rel =>
            refine ⟨i + 1, v8, l8, rfl, by go_num, hlt, ?_, HR8.out⟩
            rw [HT.out, HKE.out]
            exact HG8.out
        · have ei : i = (Ward.Nd.kids t).length := by omega
          subst ei
          rw [List.take_length, ← HME.out, List.append_assoc] at HG
          go_wp2_with fail
          go_end0
          exact ⟨rfl, v', l', gc, oc, HG.out, fun e => (HAC.out e).2, HRW.out⟩
end Go.Proofs.YtenaelkbgkpllaaGreatDoor
/- What waits in the heap: points, and nodes whose points are still to come. -/
namespace Go.Proofs.YtenaelkbgkpllaaGreatDoor
open Go.RowKit

/-- how many entries a node makes -/
def sizeN : (n : Nat) → Ward.NT n → Nat
  | 0, t => nomatch t
  | n + 1, t => 1 + ((Ward.Nd.pts t).length + ((Ward.Nd.kids t).map (sizeN n)).sum)
/-- what waits -/
inductive Gh where
  | pt (p : Ward.Pt)
  | nd (g o n : Nat) (t : Ward.NT n) (d : Int)
def Gh.en (x y : Int) : Gh → En
  | .pt p => ptEn x y p
  | .nd g o _ _ d => ⟨d, Option.some ⟨g, o, none⟩, ⟨0, 0, 0⟩⟩
def Gh.pts : Gh → List Ward.Pt
  | .pt p => [p]
  | .nd _ _ n t _ => Ward.allN n t
def Gh.size : Gh → Nat
  | .pt _ => 1
  | .nd _ _ n t _ => sizeN n t
def Gh.Ok (w : World) (S : Nat → Prop) (x y : Int) : Gh → Prop
  | .pt p => p.Ok
  | .nd g o n t d => S g ∧ (∃ V, NodeIs w S n t V ∧ w.rangeAt g o V) ∧ Ward.Few n t ∧ Ward.InN n t ∧ Ward.Encl n t ∧ (∀ p ∈ Ward.allN n t, p.Ok) ∧ ∀ p ∈ Ward.allN n t, d ≤ Ward.distP p x y
def sizeL (L : List Gh) : Nat := (L.map Gh.size).sum
def ptsL (L : List Gh) : List Ward.Pt := L.flatMap Gh.pts
theorem Gh.size_pos : ∀ G : Gh, 1 ≤ G.size
  | .pt _ => Nat.le_refl _
  | .nd _ _ 0 t _ => nomatch t
  | .nd _ _ (n + 1) t _ => by show 1 ≤ sizeN (n + 1) t; unfold sizeN; omega
theorem sizeL_cons (G : Gh) (L : List Gh) : sizeL (G :: L) = G.size + sizeL L := by unfold sizeL; simp
theorem sizeL_append (L M : List Gh) : sizeL (L ++ M) = sizeL L + sizeL M := by unfold sizeL; simp
theorem length_le_size : ∀ L : List Gh, L.length ≤ sizeL L
  | [] => Nat.zero_le _
  | G :: L => by
    have h1 := length_le_size L
    have h2 := G.size_pos
    rw [sizeL_cons, List.length_cons]; omega
theorem sizeL_perm {L M : List Gh} (h : L.Perm M) : sizeL L = sizeL M := (h.map Gh.size).sum_nat
theorem ptsL_perm {L M : List Gh} (h : L.Perm M) : (ptsL L).Perm (ptsL M) := h.flatMap_right Gh.pts
/-- the children -/
def kidsG (x y : Int) (g o n : Nat) (K : List (Ward.NT n)) : List Gh := K.mapIdx (fun i c => Gh.nd g (o + i * 39) n c (Ward.dist (Ward.boxN n c) x y))
theorem kidsG_en (x y : Int) (g o n : Nat) (K : List (Ward.NT n)) : (kidsG x y g o n K).map (Gh.en x y) = kidsEn x y g o n K := by
  refine List.ext_getElem (by simp [kidsG, kidsEn]) fun i h1 h2 => ?_
  simp [kidsG, kidsEn, Gh.en, kidEn]
theorem kidsG_pts (x y : Int) (g o n : Nat) (K : List (Ward.NT n)) : ptsL (kidsG x y g o n K) = K.flatMap (Ward.allN n) := by
  unfold ptsL
  rw [List.flatMap_def, List.flatMap_def]
  congr 1
  refine List.ext_getElem (by simp [kidsG]) fun i h1 h2 => ?_
  simp [kidsG, Gh.pts]
theorem kidsG_size (x y : Int) (g o n : Nat) (K : List (Ward.NT n)) : sizeL (kidsG x y g o n K) = (K.map (sizeN n)).sum := by
  unfold sizeL
  congr 1
  refine List.ext_getElem (by simp [kidsG]) fun i h1 h2 => ?_
  simp [kidsG, Gh.size]
theorem ptsG_pts (P : List Ward.Pt) : ptsL (P.map Gh.pt) = P := by
  unfold ptsL
  induction P with
  | nil => rfl
  | cons p P ih => rw [List.map_cons, List.flatMap_cons, ih]; rfl
theorem ptsG_size (P : List Ward.Pt) : sizeL (P.map Gh.pt) = P.length := by
  induction P with
  | nil => rfl
  | cons p P ih => rw [List.map_cons, sizeL_cons, ih, List.length_cons]; show 1 + _ = _; omega
theorem ptsG_en (x y : Int) (P : List Ward.Pt) : (P.map Gh.pt).map (Gh.en x y) = P.map (ptEn x y) := by rw [List.map_map]; rfl
/-- what is taken off was waiting -/
theorem ghost_pop {x y : Int} {L : List Gh} {l l' : List En} {e : En} (hL : l.Perm (L.map (Gh.en x y))) (hp : l.Perm (e :: l')) : ∃ G L', L.Perm (G :: L') ∧ Gh.en x y G = e ∧ l'.Perm (L'.map (Gh.en x y)) := by
  have he : e ∈ L.map (Gh.en x y) := hL.mem_iff.1 (hp.mem_iff.2 List.mem_cons_self)
  obtain ⟨G, hG, rfl⟩ := List.mem_map.1 he
  obtain ⟨s, t, rfl⟩ := List.append_of_mem hG
  refine ⟨G, s ++ t, List.perm_middle, rfl, ?_⟩
  have h1 := (hp.symm.trans hL).trans ((List.perm_middle (a := G) (l₁ := s) (l₂ := t)).map (Gh.en x y))
  exact List.Perm.cons_inv h1
/-- a point that comes off is the next -/
theorem pop_pt {w : World} {S : Nat → Prop} {x y : Int} {L L' : List Gh} {p : Ward.Pt} {l' : List En} (hL : L.Perm (.pt p :: L')) (hI : Ward.Ids (ptsL L)) (hok : ∀ G ∈ L, G.Ok w S x y) (hle : ∀ e ∈ l', ¬ enLt e (ptEn x y p)) (hl : l'.Perm (L'.map (Gh.en x y))) : Ward.sortN x y (ptsL L) = p :: Ward.sortN x y (ptsL L') ∧ Ward.Ids (ptsL L') := by
  have hP : (ptsL L).Perm (p :: ptsL L') := ptsL_perm hL
  have hI' : Ward.Ids (p :: ptsL L') := (Ward.ids_perm hP).1 hI
  have hpo : p.Ok := hok _ (hL.mem_iff.2 List.mem_cons_self)
  obtain ⟨h1, h2⟩ := List.pairwise_cons.1 hI'
  refine ⟨Ward.sortN_head hP hI fun q hq => ?_, h2⟩
  have hne := h1 q hq
  obtain ⟨G, hG, hqG⟩ := List.mem_flatMap.1 hq
  have hG' := hok G (hL.mem_iff.2 (List.mem_cons_of_mem _ hG))
  have hlt := hle _ (hl.mem_iff.2 (List.mem_map.2 ⟨G, hG, rfl⟩))
  have hid := hpo.id1
  cases G with
  | pt r =>
    have e : q = r := by simpa [Gh.pts] using hqG
    subst e
    unfold enLt Gh.en ptEn at hlt
    simp only at hlt
    unfold Ward.nr
    omega
  | nd g o n t d =>
    have hd := hG'.2.2.2.2.2.2 q hqG
    unfold enLt Gh.en ptEn at hlt
    simp only at hlt
    unfold Ward.nr
    omega
/-- what stands below a node in its place -/
theorem pop_nd {x y : Int} {L L' : List Gh} {g o n gc oc : Nat} {t : Ward.NT (n + 1)} {d : Int} (hL : L.Perm (.nd g o (n + 1) t d :: L')) : (ptsL (L' ++ ((Ward.Nd.pts t).map Gh.pt ++ kidsG x y gc oc n (Ward.Nd.kids t)))).Perm (ptsL L) ∧ sizeL (L' ++ ((Ward.Nd.pts t).map Gh.pt ++ kidsG x y gc oc n (Ward.Nd.kids t))) + 1 = sizeL L := by
  constructor
  · have h1 : ptsL (L' ++ ((Ward.Nd.pts t).map Gh.pt ++ kidsG x y gc oc n (Ward.Nd.kids t))) = ptsL L' ++ Ward.allN (n + 1) t := by
      have h2 := ptsG_pts (Ward.Nd.pts t)
      have h3 := kidsG_pts x y gc oc n (Ward.Nd.kids t)
      unfold ptsL at *
      rw [List.flatMap_append, List.flatMap_append, h2, h3]
      rfl
    rw [h1]
    exact List.perm_append_comm.trans (ptsL_perm hL).symm
  · rw [sizeL_perm hL, sizeL_cons, sizeL_append, sizeL_append, ptsG_size, kidsG_size]
    show _ = sizeN (n + 1) t + _
    unfold sizeN
    omega
/-- what is said of it holds -/
theorem ok_nd {w w' : World} {S : Nat → Prop} {x y : Int} {gc oc g o n : Nat} {t : Ward.NT (n + 1)} {d : Int} (hG : Gh.Ok w S x y (.nd g o (n + 1) t d)) (hs : Same S w w') (hgc : Ward.Nd.kids t ≠ [] → S gc) (hr : ∀ i (h : i < (Ward.Nd.kids t).length), ∃ V, NodeIs w' S n (Ward.Nd.kids t)[i] V ∧ w'.rangeAt gc (oc + i * 39) V) :
    ∀ G ∈ (Ward.Nd.pts t).map Gh.pt ++ kidsG x y gc oc n (Ward.Nd.kids t), G.Ok w S x y := fun G hm => by
  obtain ⟨-, -, hfew, hin, hen, hpo, -⟩ := hG
  rcases List.mem_append.1 hm with hm | hm
  · obtain ⟨p, hp, rfl⟩ := List.mem_map.1 hm
    exact hpo p (List.mem_append_left _ hp)
  · unfold kidsG at hm
    obtain ⟨i, hi, rfl⟩ := List.mem_mapIdx.1 hm
    have hc : (Ward.Nd.kids t)[i] ∈ Ward.Nd.kids t := List.getElem_mem hi
    have hS := hgc (fun e => by rw [e] at hi; simp at hi)
    obtain ⟨V, hV, hc2⟩ := hr i hi
    have hsub : ∀ p ∈ Ward.allN n (Ward.Nd.kids t)[i], p ∈ Ward.allN (n + 1) t := fun p hp => List.mem_append_right _ (List.mem_flatMap.2 ⟨_, hc, hp⟩)
    exact ⟨hS, ⟨V, NodeIs.keep (fun g hg => (hs g hg).symm) (fun _ h => h) n _ V hV, rangeAt_block hc2 (hs gc hS).symm⟩, hfew.2.2 _ hc, (hin _ hc).2, (hen.2 _ hc).2, fun p hp => hpo p (hsub p hp), fun p hp => Ward.dist_mono ((hen.2 _ hc).1 p hp) x y⟩
/-- the answer lies apart from the heap -/
theorem own_apart {w : World} {h B B' : Nat} {v va : Value} {l : List En} {a : List Ward.Pt} (H : HeapAt w h B v l) (ho : Own w B' va a) : ∀ g, va.ownBlock = some g → ¬ Heaps h v g := fun g hg e => by
  rcases ho.2 with ⟨rfl, _⟩ | ⟨g', cap, cur, rfl, _, hg', _⟩
  · cases hg
  · injection hg with hg
    have eg : g' = g := hg
    subst eg
    rcases e with e | e
    · rw [e, H.row] at hg'
      injection hg' with hg'
      injection hg' with _ h2 _
      exact absurd h2 (by decide)
    · exact ownE_other H.own hg' (by decide) e.symm
theorem HeapAt.grown {w w' : World} {h B B' : Nat} {v va : Value} {l : List En} {a : List Ward.Pt} (H : HeapAt w h B v l) (ho : Own w B' va a) (hg : w.grownBy w' va.ownBlock) : HeapAt w' h B v l :=
  ⟨(hg.block h H.lt (fun e => own_apart H ho h e.symm (.inl rfl))).trans H.row, H.own.keeps (S := fun k => Option.some k = va.ownBlock) ⟨hg.os, hg.tape, hg.output, hg.size, fun k hk hn => hg.block k hk hn⟩ (fun g hgv e => own_apart H ho g e.symm (.inr hgv.symm)), H.apart⟩
theorem keeps_low {w w' : World} {h B : Nat} {v : Value} {l : List En} (hk : Keeps (Heaps h v) w w') (H : HeapAt w h B v l) (hh : B ≤ h) (hB : B ≤ w.heap.size) : Below B w w' := ⟨hk.os, hk.tape, hk.output, hk.size, fun j hj => hk.block j (Nat.lt_of_lt_of_le hj hB) (fun e => by
  rcases e with e | e
  · omega
  · have := (H.own.lt e.symm).1; omega)⟩
theorem grown_low {w w' : World} {B : Nat} {va : Value} {a : List Ward.Pt} (hg : w.grownBy w' va.ownBlock) (ho : Own w B va a) (hB : B ≤ w.heap.size) : Below B w w' := ⟨hg.os, hg.tape, hg.output, hg.size, fun j hj => hg.block j (Nat.lt_of_lt_of_le hj hB) (fun e => by have := ho.ge e.symm; omega)⟩
/-- how it stands before a round -/
structure NearInv (w1 wq : World) (S : Nat → Prop) (h B : Nat) (x y : Int) (P : List Ward.Pt) (k : Int) (va v : Value) (L : List Gh) (a : List Ward.Pt) (l : List En) : Prop where
  heap : HeapAt wq h B v l
  perm : l.Perm (L.map (Gh.en x y))
  ok : Heap.Ok enLt (Heap.at' l) l.length
  own : Own wq B va a
  sort : Ward.sortN x y P = a ++ Ward.sortN x y (ptsL L)
  ids : Ward.Ids (ptsL L)
  gh : ∀ G ∈ L, G.Ok w1 S x y
  low : Below B w1 wq
  few : (a.length : Int) ≤ k
  size : sizeL L ≤ 80000
theorem NearInv.len {w1 wq : World} {S : Nat → Prop} {h B : Nat} {x y : Int} {P : List Ward.Pt} {k : Int} {va v : Value} {L : List Gh} {a : List Ward.Pt} {l : List En} (H : NearInv w1 wq S h B x y P k va v L a l) : l.length = L.length ∧ l.length ≤ 80000 := by
  have h1 := H.perm.length_eq
  rw [List.length_map] at h1
  have h2 := length_le_size L
  have h3 := H.size
  omega
theorem NearInv.done {w1 wq : World} {S : Nat → Prop} {h B : Nat} {x y : Int} {P : List Ward.Pt} {k : Int} {va v : Value} {L : List Gh} {a : List Ward.Pt} {l : List En} (H : NearInv w1 wq S h B x y P k va v L a l) (hd : l.length = 0 ∨ k ≤ a.length) : (Ward.sortN x y P).take k.toNat = a := by
  have h1 := H.few
  have h2 := H.len.1
  rw [H.sort]
  rcases hd with hd | hd
  · have e : L = [] := List.length_eq_zero_iff.1 (by omega)
    subst e
    rw [show ptsL [] = [] from rfl, show Ward.sortN x y [] = [] from rfl, List.append_nil]
    exact List.take_of_length_le (by omega)
  · rw [List.take_left' (by omega)]
/-- a round that took a point -/
theorem NearInv.point {w1 wq w2 w3 w4 : World} {S : Nat → Prop} {h B : Nat} {x y : Int} {P : List Ward.Pt} {k : Int} {va v v2 va4 : Value} {L L' : List Gh} {a : List Ward.Pt} {l l2 : List En} {p : Ward.Pt} (H : NearInv w1 wq S h B x y P k va v L a l) (hh : B ≤ h) (hB : B ≤ wq.heap.size) (hL : L.Perm (.pt p :: L')) (hl : l2.Perm (L'.map (Gh.en x y))) (hle : ∀ e ∈ l2, ¬ enLt e (ptEn x y p)) (hH : HeapAt w2 h B v2 l2) (hok : Heap.Ok enLt (Heap.at' l2) l2.length) (hk : Keeps (Heaps h v) wq w2) (hb : Below w2.heap.size w2 w3) (ho : Own w4 B va4 (a ++ [p])) (hg : w3.grownBy w4 va.ownBlock) (ha : (a.length : Int) < k) : NearInv w1 w4 S h B x y P k va4 v2 L' (a ++ [p]) l2 ∧ sizeL L' < sizeL L := by
  obtain ⟨h1, h2⟩ := pop_pt hL H.ids H.gh hle hl
  have hs := sizeL_perm hL
  rw [sizeL_cons] at hs
  have hs' : sizeL L = 1 + sizeL L' := hs
  have ho2 := H.own.keeps hk (own_apart H.heap H.own)
  have hsz := hk.size
  have ho3 := ho2.below hb
  refine ⟨⟨(hH.below hb).grown ho3 hg, hl, hok, ho, ?_, h2, fun G hG => H.gh G (hL.mem_iff.2 (List.mem_cons_of_mem _ hG)), ((H.low.trans (keeps_low hk H.heap hh hB)).trans (hb.mono (by omega))).trans (grown_low hg ho3 (by have := hb.size; omega)), ?_, ?_⟩, by omega⟩
  · rw [H.sort, h1]; simp
  · rw [List.length_append, List.length_singleton]; omega
  · have := H.size; omega
/-- a round that opened a node -/
theorem NearInv.node {w1 wq w2 w3 w4 : World} {S : Nat → Prop} {h B : Nat} {x y : Int} {P : List Ward.Pt} {k : Int} {va v v2 v4 : Value} {L L' : List Gh} {a : List Ward.Pt} {l l2 l4 : List En} {g o n gc oc : Nat} {t : Ward.NT (n + 1)} {d : Int} (H : NearInv w1 wq S h B x y P k va v L a l) (hS : ∀ g, S g → g < B) (hh : B ≤ h) (hB : B ≤ wq.heap.size) (hL : L.Perm (.nd g o (n + 1) t d :: L')) (hl : l2.Perm (L'.map (Gh.en x y))) (hH : HeapAt w2 h B v2 l2) (hk : Keeps (Heaps h v) wq w2) (hb : Below w2.heap.size w2 w3) (hgr : Grew w3 w4 h B v2 v4 (l2 ++ ((Ward.Nd.pts t).map (ptEn x y) ++ kidsEn x y gc oc n (Ward.Nd.kids t))) l4) (hgc : Ward.Nd.kids t ≠ [] → S gc) (hr : ∀ i (h : i < (Ward.Nd.kids t).length), ∃ V, NodeIs w3 S n (Ward.Nd.kids t)[i] V ∧ w3.rangeAt gc (oc + i * 39) V) :
    ∃ L4, NearInv w1 w4 S h B x y P k va v4 L4 a l4 ∧ sizeL L4 < sizeL L := by
  have hG := H.gh _ (hL.mem_iff.2 List.mem_cons_self)
  obtain ⟨hp, hs⟩ := pop_nd (x := x) (y := y) (gc := gc) (oc := oc) hL
  have hsz := hk.size
  have hsz3 := hb.size
  have hH3 := hH.below hb
  have ho2 := H.own.keeps hk (own_apart H.heap H.own)
  have ho3 := ho2.below hb
  have hlow3 := (H.low.trans (keeps_low hk H.heap hh hB)).trans (hb.mono (show B ≤ w2.heap.size by omega))
  have hI := (Ward.ids_perm hp).2 H.ids
  refine ⟨_, ⟨hgr.at', ?_, hgr.ok, ho3.keeps hgr.keeps (own_apart hH3 ho3), ?_, hI, fun G hm => ?_, hlow3.trans (keeps_low hgr.keeps hH3 hh (by omega)), H.few, ?_⟩, ?_⟩
  · refine hgr.perm.trans ?_
    rw [List.map_append, List.map_append, ptsG_en, kidsG_en]
    exact hl.append_right _
  · rw [H.sort, Ward.sortN_congr hp H.ids]
  · rcases List.mem_append.1 hm with hm | hm
    · exact H.gh G (hL.mem_iff.2 (List.mem_cons_of_mem _ hm))
    · exact ok_nd hG (below_same hlow3 hS) hgc hr G hm
  · have := H.size; omega
  · omega
end Go.Proofs.YtenaelkbgkpllaaGreatDoor
/- The nearest, taken off the heap. -/
namespace Go.Proofs.YtenaelkbgkpllaaGreatDoor
open Go.RowKit

theorem own_mono {w : World} {B B' : Nat} {v : Value} {l : List Ward.Pt} (h : Own w B v l) (hb : B' ≤ B) : Own w B' v l := by
  refine ⟨h.1, ?_⟩
  rcases h.2 with h0 | ⟨g, cap, cur, e, hB, r⟩
  · exact .inl h0
  · exact .inr ⟨g, cap, cur, e, Nat.le_trans hb hB, r⟩
theorem rowE5 {w : World} {g t : Nat} {a b c d e : Value} (hr : w.heap[g]? = some (.cells #[a, b, c, d, e] t (0, 0))) : w.cell? ⟨g, 1, none⟩ = some b ∧ w.cell? ⟨g, 2, none⟩ = some c ∧ w.cell? ⟨g, 3, none⟩ = some d ∧ w.cell? ⟨g, 4, none⟩ = some e := by
  refine ⟨?_, ?_, ?_, ?_⟩ <;> (rw [cell_of_row _ _ _ _ _ _ hr]; rfl)
theorem alloc4 (w : World) (a b c d : Obj) : Below w.heap.size w ((((w.alloc a).alloc b).alloc c).alloc d) ∧ (((((w.alloc a).alloc b).alloc c).alloc d).heap.size = w.heap.size + 4) ∧ ((((w.alloc a).alloc b).alloc c).alloc d).heap[w.heap.size]? = some a ∧ ((((w.alloc a).alloc b).alloc c).alloc d).heap[w.heap.size + 1]? = some b ∧ ((((w.alloc a).alloc b).alloc c).alloc d).heap[w.heap.size + 2]? = some c ∧ ((((w.alloc a).alloc b).alloc c).alloc d).heap[w.heap.size + 3]? = some d := by
  have s1 : (w.alloc a).heap.size = w.heap.size + 1 := by simp
  have s2 : ((w.alloc a).alloc b).heap.size = w.heap.size + 2 := by simp
  have s3 : (((w.alloc a).alloc b).alloc c).heap.size = w.heap.size + 3 := by simp
  refine ⟨((((Below.refl w.heap.size w).alloc (Nat.le_refl _) a).alloc (by simp) b).alloc (by simp; omega) c).alloc (by simp; omega) d, by simp, ?_, ?_, ?_, ?_⟩
  · rw [Below.heap_alloc _ _ _ (by omega), Below.heap_alloc _ _ _ (by omega), Below.heap_alloc _ _ _ (by omega)]; exact heap_alloc_new w a
  · rw [Below.heap_alloc _ _ _ (by omega), Below.heap_alloc _ _ _ (by omega), ← s1]; exact heap_alloc_new _ b
  · rw [Below.heap_alloc _ _ _ (by omega), ← s2]; exact heap_alloc_new _ c
  · rw [← s3]; exact heap_alloc_new _ d
/-- how it begins -/
theorem near_start {w w1 : World} {x y : Int} {n : Nat} {t : Ward.NT n} {V : List Value} {k : Int} (hN : NodeIs w (fun g => g < w.heap.size) n t V) (hfew : Ward.Few n t) (hin : Ward.InN n t) (hen : Ward.Encl n t) (hpo : ∀ p ∈ Ward.allN n t, p.Ok) (hids : Ward.Ids (Ward.allN n t)) (hsz : sizeN n t ≤ 80000) (hk : 0 ≤ k) (hb : Below w.heap.size w w1)
    (h0 : w1.heap[w.heap.size]? = some (.cells V.toArray 90 (0, 0))) (h2 : w1.heap[w.heap.size + 2]? = some (.cells #[I 0, .pointer (some ⟨w.heap.size, 0, none⟩), I 0, I 0, I 0] 166 (0, 0))) (h3 : w1.heap[w.heap.size + 3]? = some (.cells #[.slice (some ⟨w.heap.size + 2, 0, none⟩) 1 1] 168 (0, 0))) :
    NearInv w1 w1 (fun g => g < w.heap.size + 2) (w.heap.size + 3) (w.heap.size + 2) x y (Ward.allN n t) k (.slice none 0 0) (.slice (some ⟨w.heap.size + 2, 0, none⟩) 1 1) [Gh.nd w.heap.size 0 n t 0] [] [⟨0, some ⟨w.heap.size, 0, none⟩, ⟨0, 0, 0⟩⟩] := by
  refine ⟨⟨h3, ⟨rfl, .inr ⟨w.heap.size + 2, 1, _, rfl, Nat.le_refl _, h2, Nat.le_refl _, by unfold maxLen; omega, rfl, rfl⟩⟩, fun e => ?_⟩, List.Perm.refl _, fun k hk h0 => ?_, World.ownsRow_nil _ _ _ _, ?_, ?_, fun G hG => ?_, Below.refl _ _, hk, ?_⟩
  · injection e with e
    have e' : w.heap.size + 2 = w.heap.size + 3 := e
    omega
  · simp only [List.length_singleton] at hk; omega
  · show _ = [] ++ Ward.sortN x y (Ward.allN n t ++ [])
    rw [List.append_nil, List.nil_append]
  · show Ward.Ids (Ward.allN n t ++ [])
    rw [List.append_nil]; exact hids
  · rw [List.mem_singleton] at hG
    subst hG
    refine ⟨by show w.heap.size < w.heap.size + 2; omega, ⟨V, NodeIs.keep (below_same hb (fun _ h => h)) (fun g h => by show g < w.heap.size + 2; have : g < w.heap.size := h; omega) n t V hN, fun j v hv => ?_⟩, hfew, hin, hen, hpo, fun p _ => Ward.dist_nonneg _ _ _⟩
    rw [cell_of_row _ _ _ _ _ _ h0, List.getElem?_toArray, Nat.zero_add]
    exact hv
  · rw [sizeL_cons]
    show sizeN n t + 0 ≤ 80000
    omega
set_option maxRecDepth 100000 in
set_option maxHeartbeats 4000000 in
theorem nearest_any (q : Ward.Qr) (n : Nat) (t : Ward.NT n) (V : List Value) (w : World) (hN : NodeIs w (fun g => g < w.heap.size) n t V) (hfew : Ward.Few n t) (hin : Ward.InN n t) (hen : Ward.Encl n t) (hpo : ∀ p ∈ Ward.allN n t, p.Ok) (hids : Ward.Ids (Ward.allN n t)) (hsz : sizeN n t ≤ 80000) (hx : -1000000 ≤ q.x ∧ q.x ≤ 1000000) (hy : -1000000 ≤ q.y ∧ q.y ≤ 1000000) (hk : 0 ≤ q.k) (hk2 : q.k ≤ 1000) :
    Calls Tryz.prog 75 #[.agg V.toArray, Qv q] w fun e w' => ∃ v, e = .returned v ∧ Own w' w.heap.size v ((Ward.sortN q.x q.y (Ward.allN n t)).take q.k.toNat) ∧ Below w.heap.size w w' := by
  have HST := hide (fun (w1 : World) => near_start (w := w) (w1 := w1) (x := q.x) (y := q.y) hN hfew hin hen hpo hids hsz hk)
  have HOP := hide (fun h v l g o n t U w B S hS hhB hB H hok hN hg hU hfew hin hpt hl => open_any h v l g o n t U q w B S hS hhB hB H hok hN hg hU hfew hin hpt hl hx hy)
  clear hN hx hy hfew hin hen hpo hids hsz
  obtain ⟨qk, qa, qb, qc, qd, qx, qy, qn⟩ := q
  simp only at HOP HST hk hk2 ⊢
  have h4 := alloc4 w
  go_enter Tryz.func75, Tryz.ntmps75
  go_upto_region 3 with fail
  generalize hW : World.alloc (World.alloc (World.alloc (World.alloc w _) _) _) _ = w1
  have hb1 : Below w.heap.size w w1 := by rw [← hW]; exact (h4 _ _ _ _).1
  have hs1 : w.heap.size + 4 ≤ w1.heap.size := by rw [← hW]; exact Nat.le_of_eq (h4 _ _ _ _).2.1.symm
  have r0 : w1.heap[w.heap.size]? = some (.cells V.toArray 90 (0, 0)) := by rw [← hW]; exact (h4 _ _ _ _).2.2.1
  have r1 : w1.heap[w.heap.size + 1]? = some (.cells #[I qk, I qa, I qb, I qc, I qd, I qx, I qy, I qn] 46 (0, 0)) := by rw [← hW]; exact (h4 _ _ _ _).2.2.2.1
  have r2 : w1.heap[w.heap.size + 2]? = some (.cells #[I 0, .pointer (some ⟨w.heap.size, 0, none⟩), I 0, I 0, I 0] 166 (0, 0)) := by rw [← hW]; exact (h4 _ _ _ _).2.2.2.2.1
  have r3 : w1.heap[w.heap.size + 3]? = some (.cells #[.slice (some ⟨w.heap.size + 2, 0, none⟩) 1 1] 168 (0, 0)) := by rw [← hW]; exact (h4 _ _ _ _).2.2.2.2.2
  rw [show w.heap.size + 1 + 1 + 1 = w.heap.size + 3 from rfl]
  clear h4 hW
  have HB1 := hide hb1
  have HR1 := hide r1
  have HI0 := hide (HST.out w1 hb1 r0 r2 r3)
  clear hb1 r0 r1 r2 r3 HST
  go_loopg [6] (sizeN n t) (fun gk v6 wq => ∃ (v : Value) (L : List Gh) (a : List Ward.Pt) (l : List En), gk = sizeL L ∧ NearInv w1 wq (fun g => g < w.heap.size + 2) (w.heap.size + 3) (w.heap.size + 2) qx qy (Ward.allN n t) qn v6 v L a l)
  case atStart => exact ⟨_, _, _, _, rfl, HI0.out⟩
  case round =>
    clear HI0
    obtain ⟨v, L, a, l, hgk, hI⟩ := hrel
    have HGK := hide hgk
    have HI := hide hI
    have hc := hI.heap.cell
    obtain ⟨av, cv, ev⟩ := hI.heap.own.slice
    rw [ev] at hc
    obtain ⟨aa, ca, ea⟩ := hI.own.slice
    have HRQ := hide ((hI.low.block (w.heap.size + 1) (by omega)).trans HR1.out)
    obtain ⟨-, -, -, -, -, -, -, k7⟩ := rowQ8 HRQ.out
    have hwr : w.heap.size + 4 ≤ wr.heap.size := Nat.le_trans hs1 hI.low.size
    have hlen := hI.len.2
    have halen : a.length ≤ 1000 := by have := hI.few; omega
    have HLN := hide (lenE_any av l.length cv wr)
    have HOWN := hide (show (Ward.sortN qx qy (Ward.allN n t)).take qn.toNat = a → Own wr w.heap.size (.slice aa a.length ca) ((Ward.sortN qx qy (Ward.allN n t)).take qn.toNat) ∧ Below w.heap.size w wr from fun e => ⟨by rw [e, ← ea]; exact own_mono hI.own (by omega), HB1.out.trans (hI.low.mono (by omega))⟩)
    clear hgk hI ev
    subst ea
    by_cases hl0 : l.length = 0
    · have HE := hide (HOWN.out (HI.out.done (.inl hl0)))
      rw [hl0] at HLN
      go_wp2_with fail
      refine HLN.out.mono ?_
      rintro _ w0 ⟨rfl, hw0⟩
      rw [hw0]
      clear hw0
      go_wp2_with fail
      go_ret
      exact ⟨_, rfl, HE.out⟩
    · by_cases ha : (a.length : Int) < qn
      · obtain ⟨m, hm⟩ : ∃ m, l.length = m + 1 := ⟨l.length - 1, by omega⟩
        have HPO := hide (heapPop_any _ v l m wr _ HI.out.heap hm (by omega) HI.out.ok)
        rw [hm] at HLN
        go_wp2_with fail
        refine HLN.out.mono ?_
        rintro _ w0 ⟨rfl, hw0⟩
        rw [hw0]
        clear hw0
        go_wp2_with fail
        refine HPO.out.mono ?_
        rintro _ w2 ⟨⟨ed, en, ⟨ei, ex, ey⟩⟩, v2, l2, rfl, hp2, hle2, hH2, hok2, hk2', hb2⟩
        have HP2 := hide hp2
        obtain ⟨G, L', hL, hen, hl2⟩ := ghost_pop HI.out.perm hp2
        have hl2l : l2.length ≤ 80000 := by have := hp2.length_eq; rw [List.length_cons] at this; omega
        have HL := hide hL
        have HL2 := hide hl2
        have HLE := hide hle2
        have HH2 := hide hH2
        have HOK2 := hide hok2
        have HK2 := hide hk2'
        have hs2 := hk2'.size
        clear hp2 hL hl2 hle2 hH2 hok2 hk2' hb2 HPO HLN HP2 hc
        have hta := ta_en (Ev ⟨ed, en, ⟨ei, ex, ey⟩⟩)
        have hb3' := fun o => (Below.refl w2.heap.size w2).alloc (Nat.le_refl _) o
        have hr3' := heap_alloc_new w2
        go_upto_region 5 with fail
        generalize hW : World.alloc w2 _ = w3
        have hb3 : Below w2.heap.size w2 w3 := by rw [← hW]; exact hb3' _
        have hr3 : w3.heap[w2.heap.size]? = some (.cells #[I ed, .pointer en, I ei, I ex, I ey] 166 (0, 0)) := by rw [← hW]; exact hr3' _
        clear hb3' hr3' hW hta
        have hs3 := hb3.size
        have HB3 := hide hb3
        have HRW3 := hide hr3
        have HO3 := hide ((HI.out.own.keeps HK2.out (own_apart HI.out.heap HI.out.own)).below hb3)
        have HLOW := hide ((HI.out.low.trans (keeps_low HK2.out HI.out.heap (by omega) (by omega))).trans (hb3.mono (by omega)))
        clear hb3 hr3
        cases G with
        | pt p =>
          injection hen with h1 h2 h3
          subst h1 h2 h3
          obtain ⟨e1, e2, e3, e4⟩ := rowE5 HRW3.out
          obtain ⟨v4, w4, h4, ho4, hg4, hf4⟩ := append_pt ⟨ei, ex, ey⟩ HO3.out (by omega) (by omega)
          have HI4 := hide (HI.out.point (by omega) (by omega) HL.out HL2.out HLE.out HH2.out HOK2.out HK2.out HB3.out ho4 hg4 ha)
          clear ho4 hg4 hf4 k7
          go_wp2_with (at_builtin; refine Lib.wpList_append_run _ rfl (.tmp 30) (.tmp 33) 27 27 rfl _ _ rfl rfl _ _ h4 ?_)
          go_roundg (sizeL L')
          case measure => have := HGK.out; have := HI4.out.2; omega
          case rel => exact ⟨v2, L', _, l2, rfl, HI4.out.1⟩
        | nd g o n' t' d =>
          cases n' with
          | zero => exact nomatch t'
          | succ n' =>
            injection hen with h1 h2 h3
            injection h3 with h31 h32 h33
            subst h1 h2 h31 h32 h33
            obtain ⟨e1, -, -, -⟩ := rowE5 HRW3.out
            obtain ⟨k0, k1, k2, k3, k4, k5, k6, k7'⟩ := rowQ8 ((HLOW.out.block (w.heap.size + 1) (by omega)).trans HR1.out)
            obtain ⟨hSg, ⟨U, hU, hUr⟩, hfew, hin, -, hpo, -⟩ := HI.out.gh _ (HL.out.mem_iff.2 List.mem_cons_self)
            have HOX := hide (HOP.out (w.heap.size + 3) v2 l2 g o n' t' U w3 (w.heap.size + 2) (fun g => g < w.heap.size + 2) (fun _ h => h) (by omega) (by omega) (HH2.out.below HB3.out) HOK2.out (NodeIs.keep (below_same HLOW.out (fun _ h => h)) (fun _ h => h) _ _ U hU) hSg (rangeAt_block hUr (HLOW.out.block g hSg)) hfew hin (fun p hp => hpo p (List.mem_append_left _ hp)) hl2l)
            clear hSg hU hUr hfew hin hpo k7
            go_wp2_with fail
            refine HOX.out.mono ?_
            rintro _ w4 ⟨rfl, v4, l4, gc, oc, hgr, hgc, hr⟩
            obtain ⟨L4, hI4, hs4⟩ := HI.out.node (fun _ h => h) (by omega) (by omega) HL.out HL2.out HH2.out HK2.out HB3.out hgr hgc hr
            have HI4 := hide hI4
            clear hI4 hgr hgc hr HOX e1 k0 k1 k2 k3 k4 k5 k6 k7'
            go_wp2_with fail
            go_roundg (sizeL L4)
            case measure => have := HGK.out; omega
            case rel => exact ⟨v4, L4, a, l4, rfl, HI4.out⟩
      · have HE := hide (HOWN.out (HI.out.done (.inr (by omega))))
        go_wp2_with fail
        refine HLN.out.mono ?_
        rintro _ w0 ⟨rfl, hw0⟩
        rw [hw0]
        clear hw0
        go_wp2_with fail
        go_ret
        exact ⟨_, rfl, HE.out⟩
end Go.Proofs.YtenaelkbgkpllaaGreatDoor
/- The answer to a nearest query; Prove for every query. -/
namespace Go.Proofs.YtenaelkbgkpllaaGreatDoor
open Go.RowKit

theorem size_few : ∀ (n : Nat) (t : Ward.NT n), Ward.Few n t → 3 * sizeN n t + 5 ≤ 5 * 4 ^ n
  | 0, t, _ => nomatch t
  | n + 1, t, h => by
    obtain ⟨h1, h2, h3⟩ := h
    have key : ∀ K : List (Ward.NT n), (∀ c ∈ K, Ward.Few n c) → 3 * (K.map (sizeN n)).sum + 5 * K.length ≤ K.length * (5 * 4 ^ n) := by
      intro K
      induction K with
      | nil => intro _; simp
      | cons c K ih =>
        intro hK
        have hc := size_few n c (hK c List.mem_cons_self)
        have hi := ih (fun d hd => hK d (List.mem_cons_of_mem _ hd))
        rw [List.map_cons, List.sum_cons, List.length_cons, Nat.add_mul, Nat.one_mul]
        omega
    have hk := key _ h3
    have h4 : (Ward.Nd.kids t).length * (5 * 4 ^ n) + 5 * 4 ≤ 4 * (5 * 4 ^ n) + 5 * (Ward.Nd.kids t).length := by
      have hp : 1 ≤ 4 ^ n := Nat.one_le_pow _ _ (by decide)
      have hx : (4 - (Ward.Nd.kids t).length) * 5 ≤ (4 - (Ward.Nd.kids t).length) * (5 * 4 ^ n) := Nat.mul_le_mul_left _ (by omega)
      rw [Nat.sub_mul, Nat.sub_mul] at hx
      have hy : (Ward.Nd.kids t).length * (5 * 4 ^ n) ≤ 4 * (5 * 4 ^ n) := Nat.mul_le_mul_right _ h2
      omega
    show 3 * sizeN (n + 1) t + 5 ≤ _
    unfold sizeN
    rw [Nat.pow_succ]
    omega
set_option maxRecDepth 100000 in
set_option maxHeartbeats 4000000 in
theorem answer_near (q : Ward.Qr) (n : Nat) (t : Ward.NT n) (V : List Value) (w : World) (hk : q.kind = 1) (hN : NodeIs w (fun g => g < w.heap.size) n t V) (hfew : Ward.Few n t) (hin : Ward.InN n t) (hen : Ward.Encl n t) (hpo : ∀ p ∈ Ward.allN n t, p.Ok) (hids : Ward.Ids (Ward.allN n t)) (hsz : sizeN n t ≤ 80000) (hx : -1000000 ≤ q.x ∧ q.x ≤ 1000000) (hy : -1000000 ≤ q.y ∧ q.y ≤ 1000000) (hk1 : 0 ≤ q.k) (hk2 : q.k ≤ 1000) :
    Calls Tryz.prog 40 #[.agg V.toArray, Qv q] w fun e w' => ∃ v, e = .returned v ∧ Own w' w.heap.size v (Ward.ans q (Ward.allN n t)) ∧ Below w.heap.size w w' := by
  have HNE := hide (fun (W : World) (hb : Below w.heap.size w W) => nearest_any q n t V W (NodeIs.keep (S' := fun g => g < W.heap.size) (below_same hb (fun _ h => h)) (fun g (h : g < w.heap.size) => Nat.lt_of_lt_of_le h hb.size) n t V hN) hfew hin hen hpo hids hsz hx hy hk1 hk2)
  have HA := hide (show Ward.ans q (Ward.allN n t) = (Ward.sortN q.x q.y (Ward.allN n t)).take q.k.toNat by unfold Ward.ans; rw [if_pos hk])
  obtain ⟨fs, hu⟩ := underNode
  have HU := hide hu
  obtain ⟨a1, l1, c1, a2, l2, c2, hV, hd⟩ := hN.cells
  have HR := hide (show Row39 V by rw [hV]; exact nodeV_row hd)
  clear hu hV hd hN hfew hin hen hpo hids hsz hx hy hk1 hk2
  obtain ⟨qk, qa, qb, qc, qd, qx, qy, qn⟩ := q
  simp only at hk
  subst hk
  rw [HA.out]
  simp only at HNE ⊢
  have hb2 := fun o o' => ((Below.refl w.heap.size w).alloc (Nat.le_refl _) o).alloc (by simp) o'
  have hr2 := heap_alloc2_new w
  have hr1 := heap_alloc2_old w
  have hs2 := fun o o' => show ((w.alloc o).alloc o').heap.size = w.heap.size + 2 by simp
  go_enter Tryz.func40, Tryz.ntmps40
  go_upto_region 2 with fail
  generalize hW : World.alloc (World.alloc w _) _ = w1
  have hb1 : Below w.heap.size w w1 := by rw [← hW]; exact hb2 _ _
  have hn1 : w1.heap[w.heap.size]? = some (.cells V.toArray 90 (0, 0)) := by rw [← hW]; exact hr1 _ _
  have hq1 : w1.heap[w.heap.size + 1]? = some (.cells #[I 1, I qa, I qb, I qc, I qd, I qx, I qy, I qn] 46 (0, 0)) := by rw [← hW]; exact hr2 _ _
  have hs1 : w.heap.size + 2 ≤ w1.heap.size := by rw [← hW, hs2]; exact Nat.le_refl _
  clear hb2 hr1 hr2 hs2 hW
  have HB1 := hide hb1
  have HN1 := hide hn1
  have HNX := hide (HNE.out w1 hb1)
  obtain ⟨k0, k1, k2, k3, k4, k5, k6, k7⟩ := rowQ8 hq1
  clear hb1 hn1 hq1 HNE
  go_wp2_with (refine wpList_load_row rfl 90 (.tmp 2) rfl w.heap.size rfl 90 V.toArray (0, 0) (.struct fs) HN1.out HU.out rfl HR.out.info ?_)
  refine HNX.out.mono ?_
  rintro _ w4 ⟨v4, rfl, ho4, hb4⟩
  have HO4 := hide (own_mono (B' := w.heap.size) ho4 (by omega))
  have HB4 := hide (HB1.out.trans (hb4.mono (by omega)))
  clear ho4 hb4 k0 k1 k2 k3 k4 k5 k6 k7
  go_wp2_with fail
  go_ret
  exact ⟨_, rfl, HO4.out, HB4.out⟩
/-- what is asked of what is nearest holds -/
theorem asks_near {q : Ward.Qr} {L : List Ward.Pt} (hk : q.kind = 1) (hq : Ward.mayBe q = true) (hG : Good L) : Asks q L := by
  have hTS := Ward.tree_small hG.ok
  have hall : Ward.allN ((Ward.tree L).1 + 1) (Ward.mk Sha.sha (Ward.tree L).1 (Ward.tree L).2) = L := Ward.tree_all Sha.sha hG.ok
  have hfew := Ward.few_mk Sha.sha _ _ hTS.1
  have hdep := Ward.tree_depth (l := L) (by have := hG.many; omega)
  have hsz : sizeN ((Ward.tree L).1 + 1) (Ward.mk Sha.sha (Ward.tree L).1 (Ward.tree L).2) ≤ 80000 := by
    have h1 := size_few _ _ hfew
    have h2 : 4 ^ ((Ward.tree L).1 + 1) ≤ 4 ^ 4 := Nat.pow_le_pow_right (by decide) (by omega)
    have h3 : 4 ^ 4 = 256 := by decide
    omega
  obtain ⟨hx, hy, hk1, hk2⟩ : (-1000000 ≤ q.x ∧ q.x ≤ 1000000) ∧ (-1000000 ≤ q.y ∧ q.y ≤ 1000000) ∧ 1 ≤ q.k ∧ q.k ≤ 20 := by
    unfold Ward.mayBe at hq
    rw [if_neg (by omega), if_pos hk] at hq
    simp only [Ward.coordOk, Bool.and_eq_true, decide_eq_true_eq] at hq
    omega
  have hans : Ward.ans q L = (Ward.sortN q.x q.y L).take q.k.toNat := by unfold Ward.ans; rw [if_pos hk]
  have hal : (Ward.ans q L).length ≤ 20 := by rw [hans, List.length_take]; omega
  refine ⟨fun w V hK hN => ?_, fun w B v b hi hv => ?_⟩
  · have h := answer_near q _ _ V w hk hN hfew (Ward.in_mk Sha.sha _ _ hTS.1) (Ward.tree_encl Sha.sha L) (by rw [hall]; exact hG.ok) (by rw [hall]; exact hG.ids) hsz hx hy (by omega) (by omega)
    rw [hall] at h
    exact h
  · obtain ⟨ad, c, ev, hrd⟩ := hv.readsS
    subst ev
    by_cases hl : ((Ward.ans q L).length : Int) < q.k
    · rw [must_few hk hl]
      exact mustShow_few q ad c _ b w hk hl
    · have hne : Ward.ans q L ≠ [] := fun e => by rw [e] at hl; simp at hl; omega
      have hpos : 0 < (Ward.ans q L).length := List.length_pos_iff.2 hne
      obtain ⟨g, o, rfl, -, hp⟩ := hrd hne
      have hlast : (Ward.ans q L).getLast? = some (Ward.ans q L)[(Ward.ans q L).length - 1] := by rw [List.getLast?_eq_getElem?, List.getElem?_eq_getElem (by omega)]
      have hmem : (Ward.ans q L)[(Ward.ans q L).length - 1] ∈ L := (Ward.sortN_perm q.x q.y L).mem_iff.1 (List.mem_of_mem_take (by rw [← hans]; exact List.getElem_mem _))
      rw [must_last hk hl hlast]
      exact mustShow_last q g o c _ _ b w hk hl hpos (by omega) (hp _ (by omega)) (hG.ok _ hmem) hi hx hy
theorem kind_two {q : Ward.Qr} (hq : Ward.mayBe q = true) : q.kind = 0 ∨ q.kind = 1 := by
  unfold Ward.mayBe at hq
  by_cases h0 : q.kind = 0
  · exact .inl h0
  · by_cases h1 : q.kind = 1
    · exact .inr h1
    · rw [if_neg h0, if_neg h1] at hq; cases hq
theorem asks_any {q : Ward.Qr} {L : List Ward.Pt} (hq : Ward.mayBe q = true) (hG : Good L) : Asks q L := by
  rcases kind_two hq with h | h
  · exact asks_window h hG
  · exact asks_near h hq hG
theorem prove_any {q : Ward.Qr} (m : Nat) (v : Value) (L : List Ward.Pt) (w : World) (hq : Ward.mayBe q = true) (hm : IsMap w m v L) (hG : Good L) (hKT : KT w) :
    Calls Tryz.prog 17 #[.pointer (some ⟨m, 0, none⟩), Qv q] w fun e w' => e = .returned (.tuple #[Sv (Ward.proofText q L), I 0]) ∧ Below w.heap.size w w' :=
  prove_of m v L w (asks_any hq hG) hq hm hG hKT
end Go.Proofs.YtenaelkbgkpllaaGreatDoor
