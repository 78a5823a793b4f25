/- The document's Answered, of what is nearest. -/
import Derived.Test.YtenaelkbgkpllaaGreatDoorVerified23
import Derived.Test.YtenaelkbgkpllaaGreatDoorVerified13
import Derived.Laws.OwnMore
namespace Go.Proofs.YtenaelkbgkpllaaGreatDoor
open Go.RowKit

/-- which are taken, as it lies -/
def Flags (w : World) (gu n : Nat) (U : Nat → Bool) : Prop := w.heap[gu]? = some (.cells ((List.range n).map (fun j => Value.bool (U j))).toArray 4 (0, 0))
theorem Flags.cell {w : World} {gu n : Nat} {U : Nat → Bool} (h : Flags w gu n U) {j : Nat} (hj : j < n) : w.cell? ⟨gu, j, none⟩ = some (.bool (U j)) := by
  rw [cell_of_row _ _ _ _ _ _ h, List.getElem?_toArray, List.getElem?_map, List.getElem?_range hj]
  rfl
theorem Flags.set {w : World} {gu n b : Nat} {U : Nat → Bool} (h : Flags w gu n U) : Flags (w.setCell ⟨gu, b, none⟩ (.bool true)) gu n (fun j => if j = b then true else U j) := by
  have := heap_setCell_same w gu b _ 4 (.bool true) h
  rw [List.setIfInBounds_toArray, Ward.flags_set] at this
  unfold Flags
  rw [this]
  congr 4
  funext j
  by_cases e : j = b <;> simp [e]
theorem flags_made {w : World} {B g n : Nat} (h : w.ownsRow B 4 1 (.slice (some ⟨g, 0, none⟩) n n) n (madeCells (Value.bool false).cells (n * 1)).toList) : Flags w g n (fun _ => false) := by
  rcases h.2 with ⟨e, _⟩ | ⟨g', c, cur, e, _, hg, _, _, hs, ht⟩
  · cases e
  · injection e with e1 _ e3
    injection e1 with e1
    injection e1 with e1
    subst e1 e3
    have e2 : (madeCells (Value.bool false).cells (n * 1)).toList = List.replicate n (Value.bool false) := by
      rw [Nat.mul_one]
      exact toList_madeCells_one (Value.bool false) n
    have e4 : cur.toList = List.replicate n (Value.bool false) := by
      rw [← e2, ← ht, List.take_of_length_le (by rw [Array.length_toList, hs]; exact Nat.le_refl _)]
    unfold Flags
    rw [hg]
    have e5 : cur = (List.replicate n (Value.bool false)).toArray := by rw [← e4]
    rw [e5]
    congr 3
    apply List.ext_getElem?
    intro k
    by_cases hk : k < n
    · simp [hk]
    · simp [hk]
/-- a point and a query that are read -/
def RdPQ (W : World) (g o k : Nat) (p : Ward.Pt) (q : Ward.Qr) : Prop := (W.cell? ⟨g, o, none⟩ = some (I p.id) ∧ W.cell? ⟨g, o + 1, none⟩ = some (I p.x) ∧ W.cell? ⟨g, o + 2, none⟩ = some (I p.y)) ∧ W.cell? ⟨k, 0, none⟩ = some (I q.kind) ∧ W.cell? ⟨k, 1, none⟩ = some (I q.a) ∧ W.cell? ⟨k, 2, none⟩ = some (I q.b) ∧ W.cell? ⟨k, 3, none⟩ = some (I q.c) ∧ W.cell? ⟨k, 4, none⟩ = some (I q.d) ∧ W.cell? ⟨k, 5, none⟩ = some (I q.x) ∧ W.cell? ⟨k, 6, none⟩ = some (I q.y) ∧ W.cell? ⟨k, 7, none⟩ = some (I q.k)
theorem RdPQ.below {W W' : World} {g o k B : Nat} {p : Ward.Pt} {q : Ward.Qr} (h : RdPQ W g o k p q) (hb : Below B W W') (hg : g < B) (hk : k < B) : RdPQ W' g o k p q := by
  obtain ⟨⟨q0, q1, q2⟩, p0, p1, p2, p3, p4, p5, p6, p7⟩ := h
  have cg := fun i => hb.cell (p := ⟨g, i, none⟩) hg
  have ck := fun i => hb.cell (p := ⟨k, i, none⟩) hk
  exact ⟨⟨(cg _).trans q0, (cg _).trans q1, (cg _).trans q2⟩, (ck _).trans p0, (ck _).trans p1, (ck _).trans p2, (ck _).trans p3, (ck _).trans p4, (ck _).trans p5, (ck _).trans p6, (ck _).trans p7⟩
theorem RdPQ.drew {W : World} {g o k : Nat} {p : Ward.Pt} {q : Ward.Qr} (h : RdPQ W g o k p q) : RdPQ W.drew g o k p q := by simpa [RdPQ] using h
theorem Tryz.infoBoolZ : (Tryz.prog.info? 4).map (fun i => (i.zero, i.size, i.bytes)) = some (some (.bool false), 1, 1) := by kernel_rfl
set_option maxRecDepth 100000 in
set_option maxHeartbeats 4000000 in
theorem answered_near (q : Ward.Qr) (va : Value) (L : List Ward.Pt) (w : World) (hk : q.kind = 1) (hk1 : 1 ≤ q.k) (hk2 : q.k ≤ 20) (hqx : Co q.x) (hqy : Co q.y) (hr : Reads w va L) (hI : Ward.Ids L) (hC : ∀ p ∈ L, Co p.x ∧ Co p.y) (hl : L.length ≤ 30000) :
    Calls Tryz.prog 103 #[va, Qv q] w fun e w' => ∃ v', e = .returned v' ∧ Own w' w.heap.size v' (Ward.ans q L) ∧ Below w.heap.size w w' := by
  obtain ⟨i0, hi, hz0, hz1, hz2⟩ := info_parts Tryz.infoBoolZ
  have hby : i0.bytes * L.length ≤ 281474976710656 := by rw [hz2]; omega
  obtain ⟨aa, ca, ea, -⟩ := id hr
  subst ea
  have HRD := hide hr.point.2
  have HI := hide hI
  have HAN := hide (show Ward.ans q L = (Ward.sortN q.x q.y L).take q.k.toNat by unfold Ward.ans; rw [if_pos hk])
  have HDS := hide (fun (p : Ward.Pt) (hp : p ∈ L) W => distance_ref p q W (hC p hp).1 (hC p hp).2 hqx hqy)
  have hsl := Ward.sortN_length q.x q.y L
  generalize Ward.ans q L = res at *
  have HTR := hide (show Below w.heap.size w (w.alloc (.cells #[I q.kind, I q.a, I q.b, I q.c, I q.d, I q.x, I q.y, I q.k] 46)) ∧ (w.alloc (.cells #[I q.kind, I q.a, I q.b, I q.c, I q.d, I q.x, I q.y, I q.k] 46)).heap[w.heap.size]? = some (.cells #[I q.kind, I q.a, I q.b, I q.c, I q.d, I q.x, I q.y, I q.k] 46 (0, 0)) from ⟨(Below.refl w.heap.size w).alloc (Nat.le_refl _) _, heap_alloc_new w _⟩)
  obtain ⟨kd, qa, qb, qc, qd, qx, qy, qk⟩ := q
  simp only at *
  subst hk
  clear hr hI hC
  go_enter Tryz.func103, Tryz.ntmps103
  go_upto_region 2 with fail
  have htr := HTR.out
  clear HTR
  generalize w.alloc (.cells #[I 1, I qa, I qb, I qc, I qd, I qx, I qy, I qk] 46) = w1 at htr ⊢
  obtain ⟨hb1, hr1⟩ := htr
  have HB1 := hide hb1
  have hs1 : w.heap.size < w1.heap.size := (Array.getElem?_eq_some_iff.1 hr1).1
  have HQ := hide (fun wq (hb : Below w1.heap.size w1 wq) => rowQ8 ((hb.block w.heap.size hs1).trans hr1))
  have z0 : w1.cell? ⟨w.heap.size, 0, none⟩ = some (I 1) := by rw [cell_of_row _ _ _ _ _ _ hr1]; rfl
  clear hb1 hr1
  go_upto_region 18 with (at_make; refine wpList_make_full w1 rfl (.tmp 89) (.tmp 89) 201 rfl w1.heap.size 4 i0 (.bool false) 1 Tryz.underlying201 hi hz0 hz1 .i64 .i64 _ _ L.length rfl rfl rfl rfl hby (by unfold maxLen; omega) (Nat.le_refl _) ?_; intro w2 hown hgrow)
  have HF2 := hide (flags_made hown)
  have HB2 := hide (show Below w1.heap.size w1 w2 from (Below.refl w1.heap.size w1).grown hgrow (Nat.le_refl _) (fun k hk => by cases hk))
  have hs2 : w1.heap.size < w2.heap.size := (Array.getElem?_eq_some_iff.1 HF2.out).1
  clear hown hgrow z0
  generalize w1.heap.size = gu at *
  obtain ⟨B, hBe⟩ : ∃ B, gu + 1 = B := ⟨_, rfl⟩
  have hBw : B ≤ w2.heap.size := by omega
  go_loopg [5] L.length (fun gk v5 wq => ∃ (n : Nat) (U : Nat → Bool), gk = L.length - n ∧ n ≤ L.length ∧ (n : Int) ≤ qk ∧ Own wq B v5 ((Ward.sortN qx qy L).take n) ∧ Flags wq gu L.length U ∧ (∀ j, (h : j < L.length) → (U j = true ↔ L[j] ∈ (Ward.sortN qx qy L).take n)) ∧ Below gu w1 wq ∧ B ≤ wq.heap.size)
  case atStart => exact ⟨0, fun _ => false, by omega, by omega, by omega, World.ownsRow_nil _ _ _ _, HF2.out, fun j h => by simp, HB2.out, hBw⟩
  case round =>
    obtain ⟨n, U, hgk, hn, hnk, hown, hfl, hU, hb, hBr⟩ := hrel
    have HGK := hide hgk
    have HO := hide hown
    have HFL := hide hfl
    have HU := hide hU
    have HB := hide hb
    have hgr : gu < wr.heap.size := by omega
    obtain ⟨av, cv, ev⟩ := hown.slice
    have hlen : ((Ward.sortN qx qy L).take n).length = n := by rw [List.length_take]; omega
    rw [hlen] at ev
    subst ev
    have y7 : wr.cell? ⟨w.heap.size, 7, none⟩ = some (I qk) := (HQ.out wr hb).2.2.2.2.2.2.2
    clear hgk hown hfl hU HF2 HB2 hs2 hBw hlen
    by_cases h1 : (n : Int) < qk
    · by_cases h2 : n < L.length
      · have h2' : (n : Int) < (L.length : Int) := by omega
        go_upto_region 21 with fail
        obtain ⟨wo, hwo⟩ : ∃ wo, wo = wr := ⟨_, rfl⟩
        subst hwo
        have HEN := hide (fun best (h : Ward.Best L ((Ward.sortN qx qy L).take n) qx qy L.length best) => Ward.best_end HI.out h2 h)
        obtain ⟨T, hT⟩ : ∃ T, (Ward.sortN qx qy L).take n = T := ⟨_, rfl⟩
        rw [hT] at HO HU
        simp only [hT] at HEN
        have HTE := hide hT
        clear hb hT y7
        go_loopw [11, 12] (fun v11 v12 wq => ∃ (i : Nat) (best : Int), i ≤ L.length ∧ v12 = I i ∧ v11 = .int .i64 best ∧ Ward.Best L T qx qy i best ∧ Below wo.heap.size wo wq)
          (fun _ v12 _ => L.length - (intOf v12).toNat)
        case atStart => exact ⟨0, -1, by omega, rfl, rfl, Ward.best_start _ _ _ _, Below.refl _ _⟩
        case round =>
          obtain ⟨i, best, hile, rfl, rfl, hbest, hbi⟩ := hrel
          have HBE := hide hbest
          have HBI := hide hbi
          have hszi : wo.heap.size ≤ wr.heap.size := hbi.size
          have hBw : Below w.heap.size w wr := HB1.out.trans ((HB.out.trans (hbi.mono (by omega))).mono (by omega))
          have HBW := hide hBw
          have hfi := HFL.out
          have hflw : Flags wr gu L.length U := (hbi.block gu hgr).trans hfi
          clear hbest hfi
          by_cases hlt : i < L.length
          · obtain ⟨g, o, rfl, hp⟩ := HRD.out i hlt
            have hlt' : (i : Int) < (L.length : Int) := by omega
            have hui := hflw.cell hlt
            have HUI := hide (HU.out i hlt)
            by_cases hu : U i = true
            · rw [hu] at hui
              have HE := hide (Ward.best_used HBE.out hlt (HUI.out.1 hu))
              clear hp hflw hbi hBw
              go_wp2_with fail
              go_roundw
              case rel => exact ⟨i + 1, best, hlt, by go_num, rfl, HE.out, HBI.out⟩
              case measure => simp [intOf]; omega
            · have hu' : U i = false := by simpa using hu
              rw [hu'] at hui
              have hnT : L[i] ∉ T := fun h => hu (HUI.out.2 h)
              by_cases hbn : best = -1
              · subst hbn
                have HE := hide (Ward.best_first HBE.out hlt hnT)
                clear hp hflw hbi hBw
                go_wp2_with fail
                go_roundw
                case rel => exact ⟨i + 1, (i : Int), hlt, by go_num, rfl, HE.out, HBI.out⟩
                case measure => simp [intOf]; omega
              · obtain ⟨b, hbl, hbi2, rfl⟩ : ∃ b : Nat, ∃ h : b < L.length, b < i ∧ best = (b : Int) := by
                  rcases HBE.out with ⟨e, _⟩ | ⟨b, h1, h2, e, _⟩
                  · exact absurd e hbn
                  · exact ⟨b, h1, h2, e⟩
                have hpi := hp wr hBw
                obtain ⟨g', o', e', hpb⟩ := HRD.out b hbl
                injection e' with e'
                injection e' with e1 e2
                subst e1 e2
                have hpb' := hpb wr hBw
                have HNE := hide (fun h => Ward.best_near HBE.out hbl hlt hnT h)
                have HFA := hide (fun h => Ward.best_far HI.out HBE.out hbl hlt h)
                have HD1 := hide (HDS.out L[i] (List.getElem_mem hlt))
                have HD2 := hide (HDS.out L[b] (List.getElem_mem hbl))
                have HNR := hide (show Ward.nr qx qy L[i] L[b] ↔ (Ward.distP L[i] qx qy < Ward.distP L[b] qx qy ∨ (Ward.distP L[i] qx qy = Ward.distP L[b] qx qy ∧ L[i].id < L[b].id)) from Iff.rfl)
                have hq8 := HQ.out wr (HB.out.trans (hbi.mono (by omega)))
                have hSp : RdPQ wr g (o + i * 3) w.heap.size L[i] ⟨1, qa, qb, qc, qd, qx, qy, qk⟩ := ⟨hpi, hq8⟩
                have hSr : RdPQ wr g (o + b * 3) w.heap.size L[b] ⟨1, qa, qb, qc, qd, qx, qy, qk⟩ := ⟨hpb', hq8⟩
                generalize Ward.distP L[i] qx qy = dp at *
                generalize Ward.distP L[b] qx qy = dr at *
                generalize Ward.nr qx qy L[i] L[b] = nrp at *
                generalize L[i] = pp at *
                generalize L[b] = rr at *
                obtain ⟨pi, px, py⟩ := pp
                obtain ⟨ri, rx, ry⟩ := rr
                have hgwr : g < wr.heap.size := block_lt_of_cell hpi.1
                have hwwr : w.heap.size < wr.heap.size := by omega
                have hb0 : (0 : Int) ≤ (b : Int) := by omega
                have hb1 : (b : Int) < (L.length : Int) := by omega
                have hwb : IntKind.i64.wrap (b : Int) = (b : Int) := wrap_small _ (by omega) (by omega)
                have htb : ((b : Int)).toNat = b := by omega
                have hnb : ¬ (b : Int) < 0 := by omega
                have hi0 : (0 : Int) ≤ (i : Int) := by omega
                have hwi : IntKind.i64.wrap (i : Int) = (i : Int) := wrap_small _ (by omega) (by omega)
                have hti : ((i : Int)).toNat = i := by omega
                clear hp hpb hpi hpb' hq8 hflw hbi hBw hbn
                go_upto_region 26 with fail
                go_cut [14] from 117 to 122 (fun vd wx => vd = I dp ∧ Below wr.heap.size wr wx)
                case first =>
                  obtain ⟨⟨s1, s2, s3⟩, t0, t1, t2, t3, t4, t5, t6, t7⟩ := id hSp
                  go_region_held3 (fun W => (W.cell? ⟨g, o + i * 3, none⟩ = some (I pi) ∧ W.cell? ⟨g, o + i * 3 + 1, none⟩ = some (I px) ∧ W.cell? ⟨g, o + i * 3 + 2, none⟩ = some (I py)) ∧ W.cell? ⟨w.heap.size, 0, none⟩ = some (I 1) ∧ W.cell? ⟨w.heap.size, 1, none⟩ = some (I qa) ∧ W.cell? ⟨w.heap.size, 2, none⟩ = some (I qb) ∧ W.cell? ⟨w.heap.size, 3, none⟩ = some (I qc) ∧ W.cell? ⟨w.heap.size, 4, none⟩ = some (I qd) ∧ W.cell? ⟨w.heap.size, 5, none⟩ = some (I qx) ∧ W.cell? ⟨w.heap.size, 6, none⟩ = some (I qy) ∧ W.cell? ⟨w.heap.size, 7, none⟩ = some (I qk)) (first | assumption | exact hSp | exact hSp.drew | exact hS6) ((go_at_call 138; refine (HD1.out _).mono ?_; rintro _ w6 ⟨rfl, hb6⟩; have hS6 := hSp.drew.below hb6 (by simpa using hgwr) (by simpa using hwwr); have hB6 : Below wr.heap.size wr w6 := (show Below wr.heap.size wr wr.drew from (Below.refl _ _).drew).trans hb6))
                  all_goals
                    go_wp2_with fail
                    go_meet
                    exact ⟨rfl, hB6⟩
                case rest =>
                  obtain ⟨rfl, hbc⟩ := hcut
                  generalize wc = w5 at *
                  have hSr5 := hSr.below hbc hgwr hwwr
                  have hSp5 := hSp.below hbc hgwr hwwr
                  have hgw5 : g < w5.heap.size := Nat.lt_of_lt_of_le hgwr hbc.size
                  have hww5 : w.heap.size < w5.heap.size := Nat.lt_of_lt_of_le hwwr hbc.size
                  have HB5 := hide (HBI.out.trans (hbc.mono hszi))
                  clear hbc hSr hSp HD1
                  go_upto_region 27 with fail
                  go_cut [15] from 123 to 128 (fun vd wx => vd = I dr ∧ Below w5.heap.size w5 wx)
                  case first =>
                    obtain ⟨⟨s1, s2, s3⟩, t0, t1, t2, t3, t4, t5, t6, t7⟩ := id hSr5
                    go_region_held3 (fun W => (W.cell? ⟨g, o + b * 3, none⟩ = some (I ri) ∧ W.cell? ⟨g, o + b * 3 + 1, none⟩ = some (I rx) ∧ W.cell? ⟨g, o + b * 3 + 2, none⟩ = some (I ry)) ∧ W.cell? ⟨w.heap.size, 0, none⟩ = some (I 1) ∧ W.cell? ⟨w.heap.size, 1, none⟩ = some (I qa) ∧ W.cell? ⟨w.heap.size, 2, none⟩ = some (I qb) ∧ W.cell? ⟨w.heap.size, 3, none⟩ = some (I qc) ∧ W.cell? ⟨w.heap.size, 4, none⟩ = some (I qd) ∧ W.cell? ⟨w.heap.size, 5, none⟩ = some (I qx) ∧ W.cell? ⟨w.heap.size, 6, none⟩ = some (I qy) ∧ W.cell? ⟨w.heap.size, 7, none⟩ = some (I qk)) (first | assumption | exact hSr5 | exact hSr5.drew | exact hS6) ((go_at_call 138; refine (HD2.out _).mono ?_; rintro _ w6 ⟨rfl, hb6⟩; have hS6 := hSr5.drew.below hb6 (by simpa using hgw5) (by simpa using hww5); have hB6 : Below w5.heap.size w5 w6 := (show Below w5.heap.size w5 w5.drew from (Below.refl _ _).drew).trans hb6))
                    all_goals
                      go_wp2_with fail
                      go_meet
                      exact ⟨rfl, hB6⟩
                  case rest =>
                    obtain ⟨rfl, hbd⟩ := hcut
                    generalize wc = w8 at *
                    obtain ⟨⟨s1, s2, s3⟩, -⟩ := hSp5.below hbd hgw5 hww5
                    obtain ⟨⟨s4, s5, s6⟩, -⟩ := hSr5.below hbd hgw5 hww5
                    have HB8 := hide (HB5.out.trans (hbd.mono HB5.out.size))
                    clear hbd hSr5 hSp5 HD2
                    by_cases c1 : dp < dr
                    · have HE := hide (HNE.out (HNR.out.2 (.inl c1)))
                      go_wp2_with fail
                      go_quiet (fail)
                      have HBQ := hide (show Below wo.heap.size wo (w8.drewN nq) from HB8.out.trans ⟨rfl, rfl, rfl, Nat.le_refl _, fun _ _ => rfl⟩)
                      generalize World.drewN w8 nq = w9 at *
                      go_wp2_with fail
                      go_roundw
                      case rel => exact ⟨i + 1, (i : Int), hlt, by go_num, rfl, HE.out, HBQ.out⟩
                      case measure => simp [intOf]; omega
                    · by_cases c2 : dp = dr
                      · by_cases c3 : pi < ri
                        · subst c2
                          have HE := hide (HNE.out (HNR.out.2 (.inr ⟨rfl, c3⟩)))
                          go_wp2_with fail
                          go_quiet (fail)
                          have HBQ := hide (show Below wo.heap.size wo (w8.drewN nq) from HB8.out.trans ⟨rfl, rfl, rfl, Nat.le_refl _, fun _ _ => rfl⟩)
                          generalize World.drewN w8 nq = w9 at *
                          go_wp2_with fail
                          go_roundw
                          case rel => exact ⟨i + 1, (i : Int), hlt, by go_num, rfl, HE.out, HBQ.out⟩
                          case measure => simp [intOf]; omega
                        · subst c2
                          have HE := hide (HFA.out (fun h => (HNR.out.1 h).elim (fun h => absurd h c1) (fun h => absurd h.2 c3)))
                          go_wp2_with fail
                          go_quiet (fail)
                          have HBQ := hide (show Below wo.heap.size wo (w8.drewN nq) from HB8.out.trans ⟨rfl, rfl, rfl, Nat.le_refl _, fun _ _ => rfl⟩)
                          generalize World.drewN w8 nq = w9 at *
                          go_wp2_with fail
                          go_roundw
                          case rel => exact ⟨i + 1, (b : Int), hlt, by go_num, rfl, HE.out, HBQ.out⟩
                          case measure => simp [intOf]; omega
                      · have HE := hide (HFA.out (fun h => (HNR.out.1 h).elim (fun h => absurd h c1) (fun h => absurd h.1 c2)))
                        go_wp2_with fail
                        go_quiet (fail)
                        have HBQ := hide (show Below wo.heap.size wo (w8.drewN nq) from HB8.out.trans ⟨rfl, rfl, rfl, Nat.le_refl _, fun _ _ => rfl⟩)
                        generalize World.drewN w8 nq = w9 at *
                        go_wp2_with fail
                        go_roundw
                        case rel => exact ⟨i + 1, (b : Int), hlt, by go_num, rfl, HE.out, HBQ.out⟩
                        case measure => simp [intOf]; omega
          · have ei : i = L.length := by omega
            subst ei
            obtain ⟨b, hb, rfl, hbT, hTn⟩ := HEN.out best HBE.out
            obtain ⟨g, o, rfl, hpb⟩ := HRD.out b hb
            have HTS := hide (Ward.taken_step (T := T) HI.out HU.out hb)
            have hcu := hflw.cell hb
            have hfz : wr.frozen? ⟨gu, b, none⟩ = false := frozen_of_row _ _ _ _ _ hflw
            have HF6 := hide (hflw.set (b := b))
            have hK6 : Keeps (fun k => k = gu) wr (wr.setCell ⟨gu, b, none⟩ (.bool true)) := ⟨rfl, rfl, rfl, by simp, fun j hj hn => Below.heap_setCell _ _ _ _ hn⟩
            have hO6 : Own (wr.setCell ⟨gu, b, none⟩ (.bool true)) B (.slice av n cv) T := (HO.out.below hbi).keeps hK6 (fun g hg e => by
              have h1 := HO.out.ge hg
              have h3 : g = gu := e
              omega)
            have hB6 : Below gu w1 (wr.setCell ⟨gu, b, none⟩ (.bool true)) := (HB.out.trans (hbi.mono (by omega))).trans ⟨rfl, rfl, rfl, by simp, fun j hj => Below.heap_setCell _ _ _ _ (show j ≠ gu from fun e => by omega)⟩
            have hz6 : (wr.setCell ⟨gu, b, none⟩ (.bool true)).heap.size = wr.heap.size := by simp
            have hp6 := hpb (wr.setCell ⟨gu, b, none⟩ (.bool true)) (HB1.out.trans (hB6.mono (by omega)))
            have hb0 : (0 : Int) ≤ (b : Int) := by omega
            have hb1 : (b : Int) < (L.length : Int) := by omega
            have hwb : IntKind.i64.wrap (b : Int) = (b : Int) := wrap_small _ (by omega) (by omega)
            have htb : ((b : Int)).toNat = b := by omega
            have hnn : n + 1 ≤ L.length := h2
            clear hflw hbi hBw hK6 hpb hbT
            go_upto_region 32 with fail
            generalize wr.setCell ⟨gu, b, none⟩ (.bool true) = w6 at *
            have hTl : T.length = n := by rw [← HTE.out, List.length_take]; omega
            obtain ⟨v1, w7, hap1, ho1, hg1, hf1⟩ := append_pt L[b] hO6 (by omega) (by omega)
            have HO7 := hide (show Own w7 B v1 ((Ward.sortN qx qy L).take (n + 1)) by rw [hTn]; exact ho1)
            have HU7 := hide (show ∀ j, (h : j < L.length) → ((if j = b then true else U j) = true ↔ L[j] ∈ (Ward.sortN qx qy L).take (n + 1)) by rw [hTn]; exact HTS.out)
            have hgb : ∀ j, j < B → some j ≠ (Value.slice av n cv).ownBlock := fun j hj e => by have := hO6.ge e.symm; omega
            have HF7 := hide (show Flags w7 gu L.length (fun j => if j = b then true else U j) from (hg1.block gu (by omega) (hgb gu (by omega))).trans HF6.out)
            have HB7 := hide (show Below gu w1 w7 from hB6.trans ⟨hg1.os, hg1.tape, hg1.output, hg1.size, fun j hj => hg1.block j (by omega) (hgb j (by omega))⟩)
            have hB7 : B ≤ w7.heap.size := Nat.le_trans (by omega) hg1.size
            generalize L[b] = pp at *
            obtain ⟨pi, px, py⟩ := pp
            obtain ⟨p0, p1, p2⟩ := hp6
            have hap1' : (Builtin.append_ #[27, 27] 27 #[.slice av n cv, .slice (some ⟨w6.heap.size, 0, none⟩) 1 1]).run Tryz.prog (w6.alloc (.cells #[I pi, I px, I py] 36)) = .ok v1 w7 := hap1
            clear hap1 ho1 hg1 hf1 hO6 hB6 hgb hTn HF6 HTS hz6 hTl
            go_wp2_with (at_builtin; refine Lib.wpList_append_run _ rfl (.tmp 155) (.tmp 160) 27 27 rfl _ _ rfl rfl _ _ hap1' ?_)
            go_roundg (L.length - (n + 1))
            case measure => have := HGK.out; omega
            case rel => exact ⟨n + 1, _, rfl, hnn, by omega, HO7.out, HF7.out, HU7.out, HB7.out, hB7⟩
      · have h2' : ¬ (n : Int) < (L.length : Int) := by omega
        have HRES := hide (show Own wr w.heap.size (.slice av n cv) res by
          have h := HO.out
          rw [HAN.out]
          rw [List.take_of_length_le (by omega)] at h ⊢
          exact own_base h (by omega))
        have HFB := hide (show Below w.heap.size w wr from HB1.out.trans (hb.mono (by omega)))
        clear hb
        go_wp2_with fail
        go_ret
        exact ⟨_, rfl, HRES.out, HFB.out⟩
    · have HRES := hide (show Own wr w.heap.size (.slice av n cv) res by
        have h := HO.out
        have e : qk.toNat = n := by omega
        rw [HAN.out, e]
        exact own_base h (by omega))
      have HFB := hide (show Below w.heap.size w wr from HB1.out.trans (hb.mono (by omega)))
      clear hb
      go_wp2_with fail
      go_ret
      exact ⟨_, rfl, HRES.out, HFB.out⟩
end Go.Proofs.YtenaelkbgkpllaaGreatDoor
