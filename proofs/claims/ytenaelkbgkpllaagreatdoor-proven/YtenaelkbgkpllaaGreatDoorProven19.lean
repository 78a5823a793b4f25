/- The document's Answered, of what is nearest. -/
import Derived.Test.YtenaelkbgkpllaaGreatDoorProven18
import Derived.Laws.OwnMore
import Derived.Test.YtenaelkbgkpllaaGreatDoorProven12
import Derived.OrdersHeld
import Derived.Deep.RegionHeld
namespace Go.Proofs.YtenaelkbgkpllaaGreatDoor
open Go.RowKit

/-- which are taken, as it lies -/
def Flags (w : World) (gu n : Nat) (U : Nat → Bool) : Prop := w.heap[gu]? = some (.cells ((List.range n).map (fun j => Value.bool (U j))).toArray 4 (0, 0))
theorem Flags.cell {w : World} {gu n : Nat} {U : Nat → Bool} (h : Flags w gu n U) {j : Nat} (hj : j < n) : w.cell? ⟨gu, j, none⟩ = some (.bool (U j)) := by
  rw [cell_of_row _ _ _ _ _ _ h, List.getElem?_toArray, List.getElem?_map, List.getElem?_range hj]
  rfl
theorem Flags.set {w : World} {gu n b : Nat} {U : Nat → Bool} (h : Flags w gu n U) : Flags (w.setCell ⟨gu, b, none⟩ (.bool true)) gu n (fun j => if j = b then true else U j) := by
  have := heap_setCell_same w gu b _ 4 (.bool true) h
  rw [List.setIfInBounds_toArray, Ward.flags_set] at this
  unfold Flags
  rw [this]
  congr 4
  funext j
  by_cases e : j = b <;> simp [e]
theorem flags_made {w : World} {B g n : Nat} (h : w.ownsRow B 4 1 (.slice (some ⟨g, 0, none⟩) n n) n (madeCells (Value.bool false).cells (n * 1)).toList) : Flags w g n (fun _ => false) := by
  rcases h.2 with ⟨e, _⟩ | ⟨g', c, cur, e, _, hg, _, _, hs, ht⟩
  · cases e
  · injection e with e1 _ e3
    injection e1 with e1
    injection e1 with e1
    subst e1 e3
    have e2 : (madeCells (Value.bool false).cells (n * 1)).toList = List.replicate n (Value.bool false) := by
      rw [Nat.mul_one]
      exact toList_madeCells_one (Value.bool false) n
    have e4 : cur.toList = List.replicate n (Value.bool false) := by
      rw [← e2, ← ht, List.take_of_length_le (by rw [Array.length_toList, hs]; exact Nat.le_refl _)]
    unfold Flags
    rw [hg]
    have e5 : cur = (List.replicate n (Value.bool false)).toArray := by rw [← e4]
    rw [e5]
    congr 3
    apply List.ext_getElem?
    intro k
    by_cases hk : k < n
    · simp [hk]
    · simp [hk]
/-- a point and a query that are read -/
def RdPQ (W : World) (g o k : Nat) (p : Ward.Pt) (q : Ward.Qr) : Prop := (W.cell? ⟨g, o, none⟩ = some (I p.id) ∧ W.cell? ⟨g, o + 1, none⟩ = some (I p.x) ∧ W.cell? ⟨g, o + 2, none⟩ = some (I p.y)) ∧ W.cell? ⟨k, 0, none⟩ = some (I q.kind) ∧ W.cell? ⟨k, 1, none⟩ = some (I q.a) ∧ W.cell? ⟨k, 2, none⟩ = some (I q.b) ∧ W.cell? ⟨k, 3, none⟩ = some (I q.c) ∧ W.cell? ⟨k, 4, none⟩ = some (I q.d) ∧ W.cell? ⟨k, 5, none⟩ = some (I q.x) ∧ W.cell? ⟨k, 6, none⟩ = some (I q.y) ∧ W.cell? ⟨k, 7, none⟩ = some (I q.k)
theorem RdPQ.below {W W' : World} {g o k B : Nat} {p : Ward.Pt} {q : Ward.Qr} (h : RdPQ W g o k p q) (hb : Below B W W') (hg : g < B) (hk : k < B) : RdPQ W' g o k p q := by
  obtain ⟨⟨q0, q1, q2⟩, p0, p1, p2, p3, p4, p5, p6, p7⟩ := h
  have cg := fun i => hb.cell (p := ⟨g, i, none⟩) hg
  have ck := fun i => hb.cell (p := ⟨k, i, none⟩) hk
  exact ⟨⟨(cg _).trans q0, (cg _).trans q1, (cg _).trans q2⟩, (ck _).trans p0, (ck _).trans p1, (ck _).trans p2, (ck _).trans p3, (ck _).trans p4, (ck _).trans p5, (ck _).trans p6, (ck _).trans p7⟩
theorem RdPQ.drew {W : World} {g o k : Nat} {p : Ward.Pt} {q : Ward.Qr} (h : RdPQ W g o k p q) : RdPQ W.drew g o k p q := by simpa [RdPQ] using h
theorem Tryz.infoBoolZ : (Tryz.prog.info? 4).map (fun i => (i.zero, i.size, i.bytes)) = some (some (.bool false), 1, 1) := by kernel_rfl
set_option maxRecDepth 100000 in
set_option maxHeartbeats 4000000 in
theorem answered_near (q : Ward.Qr) (va : Value) (L : List Ward.Pt) (w : World) (hk : q.kind = 1) (hk1 : 1 ≤ q.k) (hk2 : q.k ≤ 20) (hqx : Co q.x) (hqy : Co q.y) (hr : Reads w va L) (hI : Ward.Ids L) (hC : ∀ p ∈ L, Co p.x ∧ Co p.y) (hl : L.length ≤ 1000) :
    Calls Tryz.prog 103 #[va, Qv q] w fun e w' => ∃ v', e = .returned v' ∧ Own w' w.heap.size v' (Ward.ans q L) ∧ Below w.heap.size w w' := by
  obtain ⟨i0, hi, hz0, hz1, hz2⟩ := info_parts Tryz.infoBoolZ
  have hby : i0.bytes * L.length ≤ 281474976710656 := by rw [hz2]; omega
  obtain ⟨aa, ca, ea, -⟩ := id hr
  subst ea
  have HRD := hide hr.point.2
  have HI := hide hI
  have HAN := hide (show Ward.ans q L = (Ward.sortN q.x q.y L).take q.k.toNat by unfold Ward.ans; rw [if_pos hk])
  have HDS := hide (fun (p : Ward.Pt) (hp : p ∈ L) W => distance_ref p q W (hC p hp).1 (hC p hp).2 hqx hqy)
  have hsl := Ward.sortN_length q.x q.y L
  generalize Ward.ans q L = res at *
  have HTR := hide (show Below w.heap.size w (w.alloc (.cells #[I q.kind, I q.a, I q.b, I q.c, I q.d, I q.x, I q.y, I q.k] 46)) ∧ (w.alloc (.cells #[I q.kind, I q.a, I q.b, I q.c, I q.d, I q.x, I q.y, I q.k] 46)).heap[w.heap.size]? = some (.cells #[I q.kind, I q.a, I q.b, I q.c, I q.d, I q.x, I q.y, I q.k] 46 (0, 0)) from ⟨(Below.refl w.heap.size w).alloc (Nat.le_refl _) _, heap_alloc_new w _⟩)
  obtain ⟨kd, qa, qb, qc, qd, qx, qy, qk⟩ := q
  simp only at *
  subst hk
  clear hr hI hC
  go_enter Tryz.func103, Tryz.ntmps103
  go_upto_region 2 with fail
  have htr := HTR.out
  clear HTR
  generalize w.alloc (.cells #[I 1, I qa, I qb, I qc, I qd, I qx, I qy, I qk] 46) = w1 at htr ⊢
  obtain ⟨hb1, hr1⟩ := htr
  have HB1 := hide hb1
  have hs1 : w.heap.size < w1.heap.size := (Array.getElem?_eq_some_iff.1 hr1).1
  have HQ := hide (fun wq (hb : Below w1.heap.size w1 wq) => rowQ8 ((hb.block w.heap.size hs1).trans hr1))
  have z0 : w1.cell? ⟨w.heap.size, 0, none⟩ = some (I 1) := by rw [cell_of_row _ _ _ _ _ _ hr1]; rfl
  clear hb1 hr1
  go_upto_region 18 with (at_make; refine wpList_make_full w1 rfl (.tmp 89) (.tmp 89) 201 rfl w1.heap.size 4 i0 (.bool false) 1 Tryz.underlying201 hi hz0 hz1 .i64 .i64 _ _ L.length rfl rfl rfl rfl hby (by unfold maxLen; omega) (Nat.le_refl _) ?_; intro w2 hown hgrow)
  have HF2 := hide (flags_made hown)
  have HB2 := hide (show Below w1.heap.size w1 w2 from (Below.refl w1.heap.size w1).grown hgrow (Nat.le_refl _) (fun k hk => by cases hk))
  have hs2 : w1.heap.size < w2.heap.size := (Array.getElem?_eq_some_iff.1 HF2.out).1
  clear hown hgrow z0
  generalize w1.heap.size = gu at *
  obtain ⟨B, hBe⟩ : ∃ B, gu + 1 = B := ⟨_, rfl⟩
  have hBw : B ≤ w2.heap.size := by omega
  go_loopg [5] L.length (fun gk v5 wq => ∃ (n : Nat) (U : Nat → Bool), gk = L.length - n ∧ n ≤ L.length ∧ (n : Int) ≤ qk ∧ Own wq B v5 ((Ward.sortN qx qy L).take n) ∧ Flags wq gu L.length U ∧ (∀ j, (h : j < L.length) → (U j = true ↔ L[j] ∈ (Ward.sortN qx qy L).take n)) ∧ Below gu w1 wq ∧ B ≤ wq.heap.size)
  case atStart => exact ⟨0, fun _ => false, by omega, by omega, by omega, World.ownsRow_nil _ _ _ _, HF2.out, fun j h => by simp, HB2.out, hBw⟩
  case round =>
    obtain ⟨n, U, hgk, hn, hnk, hown, hfl, hU, hb, hBr⟩ := hrel
    have HGK := hide hgk
    have HO := hide hown
    have HFL := hide hfl
    have HU := hide hU
    have HB := hide hb
    have hgr : gu < wr.heap.size := by omega
    obtain ⟨av, cv, ev⟩ := hown.slice
    have hlen : ((Ward.sortN qx qy L).take n).length = n := by rw [List.length_take]; omega
    rw [hlen] at ev
    subst ev
    have y7 : wr.cell? ⟨w.heap.size, 7, none⟩ = some (I qk) := (HQ.out wr hb).2.2.2.2.2.2.2
    clear hgk hown hfl hU HF2 HB2 hs2 hBw hlen
    by_cases h1 : (n : Int) < qk
    · by_cases h2 : n < L.length
      · have h2' : (n : Int) < (L.length : Int) := by omega
        go_upto_region 21 with fail
        obtain ⟨wo, hwo⟩ : ∃ wo, wo = wr := ⟨_, rfl⟩
        subst hwo
        have HEN := hide (fun best (h : Ward.Best L ((Ward.sortN qx qy L).take n) qx qy L.length best) => Ward.best_end HI.out h2 h)
        obtain ⟨T, hT⟩ : ∃ T, (Ward.sortN qx qy L).take n = T := ⟨_, rfl⟩
        rw [hT] at HO HU
        simp only [hT] at HEN
        have HTE := hide hT
        clear hb hT y7
        go_loopw [11, 12] (fun v11 v12 wq => ∃ (i : Nat) (best : Int), i ≤ L.length ∧ v12 = I i ∧ v11 = .int .i64 best ∧ Ward.Best L T qx qy i best ∧ Below wo.heap.size wo wq)
          (fun _ v12 _ => L.length - (intOf v12).toNat)
        case atStart => exact ⟨0, -1, by omega, rfl, rfl, Ward.best_start _ _ _ _, Below.refl _ _⟩
        case round =>
          obtain ⟨i, best, hile, rfl, rfl, hbest, hbi⟩ := hrel
          have HBE := hide hbest
          have HBI := hide hbi
          have hszi : wo.heap.size ≤ wr.heap.size := hbi.size
          have hBw : Below w.heap.size w wr := HB1.out.trans ((HB.out.trans (hbi.mono (by omega))).mono (by omega))
          have HBW := hide hBw
          have hfi := HFL.out
          have hflw : Flags wr gu L.length U := (hbi.block gu hgr).trans hfi
          clear hbest hfi
          by_cases hlt : i < L.length
          · obtain ⟨g, o, rfl, hp⟩ := HRD.out i hlt
            have hlt' : (i : Int) < (L.length : Int) := by omega
            have hui := hflw.cell hlt
            have HUI := hide (HU.out i hlt)
            by_cases hu : U i = true
            · rw [hu] at hui
              have HE := hide (Ward.best_used HBE.out hlt (HUI.out.1 hu))
              clear hp hflw hbi hBw
              go_wp2_with fail
              go_roundw
              case rel => exact ⟨i + 1, best, hlt, by go_num, rfl, HE.out, HBI.out⟩
              case measure => simp [intOf]; omega
            · have hu' : U i = false := by simpa using hu
              rw [hu'] at hui
              have hnT : L[i] ∉ T := fun h => hu (HUI.out.2 h)
              by_cases hbn : best = -1
              · subst hbn
                have HE := hide (Ward.best_first HBE.out hlt hnT)
                clear hp hflw hbi hBw
                go_wp2_with fail
                go_roundw
                case rel => exact ⟨i + 1, (i : Int), hlt, by go_num, rfl, HE.out, HBI.out⟩
                case measure => simp [intOf]; omega
              · obtain ⟨b, hbl, hbi2, rfl⟩ : ∃ b : Nat, ∃ h : b < L.length, b < i ∧ best = (b : Int) := by
                  rcases HBE.out with ⟨e, _⟩ | ⟨b, h1, h2, e, _⟩
                  · exact absurd e hbn
                  · exact ⟨b, h1, h2, e⟩
                have hpi := hp wr hBw
                obtain ⟨g', o', e', hpb⟩ := HRD.out b hbl
                injection e' with e'
                injection e' with e1 e2
                subst e1 e2
                have hpb' := hpb wr hBw
                have HNE := hide (fun h => Ward.best_near HBE.out hbl hlt hnT h)
                have HFA := hide (fun h => Ward.best_far HI.out HBE.out hbl hlt h)
                have HD1 := hide (HDS.out L[i] (List.getElem_mem hlt))
                have HD2 := hide (HDS.out L[b] (List.getElem_mem hbl))
                have HNR := hide (show Ward.nr qx qy L[i] L[b] ↔ (Ward.distP L[i] qx qy < Ward.distP L[b] qx qy ∨ (Ward.distP L[i] qx qy = Ward.distP L[b] qx qy ∧ L[i].id < L[b].id)) from Iff.rfl)
                have hq8 := HQ.out wr (HB.out.trans (hbi.mono (by omega)))
                have hSp : RdPQ wr g (o + i * 3) w.heap.size L[i] ⟨1, qa, qb, qc, qd, qx, qy, qk⟩ := ⟨hpi, hq8⟩
                have hSr : RdPQ wr g (o + b * 3) w.heap.size L[b] ⟨1, qa, qb, qc, qd, qx, qy, qk⟩ := ⟨hpb', hq8⟩
                generalize Ward.distP L[i] qx qy = dp at *
                generalize Ward.distP L[b] qx qy = dr at *
                generalize Ward.nr qx qy L[i] L[b] = nrp at *
                generalize L[i] = pp at *
                generalize L[b] = rr at *
                obtain ⟨pi, px, py⟩ := pp
                obtain ⟨ri, rx, ry⟩ := rr
                have hgwr : g < wr.heap.size := block_lt_of_cell hpi.1
                have hwwr : w.heap.size < wr.heap.size := by omega
                have hb0 : (0 : Int) ≤ (b : Int) := by omega
                have hb1 : (b : Int) < (L.length : Int) := by omega
                have hwb : IntKind.i64.wrap (b : Int) = (b : Int) := wrap_small _ (by omega) (by omega)
                have htb : ((b : Int)).toNat = b := by omega
                have hnb : ¬ (b : Int) < 0 := by omega
                have hi0 : (0 : Int) ≤ (i : Int) := by omega
                have hwi : IntKind.i64.wrap (i : Int) = (i : Int) := wrap_small _ (by omega) (by omega)
                have hti : ((i : Int)).toNat = i := by omega
                clear hp hpb hpi hpb' hq8 hflw hbi hBw hbn
                go_upto_region 26 with fail
                go_cut [14] from 117 to 122 (fun vd wx => vd = I dp ∧ Below wr.heap.size wr wx)
                case first =>
                  obtain ⟨⟨s1, s2, s3⟩, t0, t1, t2, t3, t4, t5, t6, t7⟩ := id hSp
                  go_region_held3 (fun W => (W.cell? ⟨g, o + i * 3, none⟩ = some (I pi) ∧ W.cell? ⟨g, o + i * 3 + 1, none⟩ = some (I px) ∧ W.cell? ⟨g, o + i * 3 + 2, none⟩ = some (I py)) ∧ W.cell? ⟨w.heap.size, 0, none⟩ = some (I 1) ∧ W.cell? ⟨w.heap.size, 1, none⟩ = some (I qa) ∧ W.cell? ⟨w.heap.size, 2, none⟩ = some (I qb) ∧ W.cell? ⟨w.heap.size, 3, none⟩ = some (I qc) ∧ W.cell? ⟨w.heap.size, 4, none⟩ = some (I qd) ∧ W.cell? ⟨w.heap.size, 5, none⟩ = some (I qx) ∧ W.cell? ⟨w.heap.size, 6, none⟩ = some (I qy) ∧ W.cell? ⟨w.heap.size, 7, none⟩ = some (I qk)) (first | assumption | exact hSp | exact hSp.drew | exact hS6) ((go_at_call 138; refine (HD1.out _).mono ?_; rintro _ w6 ⟨rfl, hb6⟩; have hS6 := hSp.drew.below hb6 (by simpa using hgwr) (by simpa using hwwr); have hB6 : Below wr.heap.size wr w6 := (show Below wr.heap.size wr wr.drew from (Below.refl _ _).drew).trans hb6))
                  all_goals
                    go_wp2_with fail
                    go_meet
                    exact ⟨rfl, hB6⟩
                case rest =>
                  obtain ⟨rfl, hbc⟩ := hcut
                  generalize wc = w5 at *
                  have hSr5 := hSr.below hbc hgwr hwwr
                  have hSp5 := hSp.below hbc hgwr hwwr
                  have hgw5 : g < w5.heap.size := Nat.lt_of_lt_of_le hgwr hbc.size
                  have hww5 : w.heap.size < w5.heap.size := Nat.lt_of_lt_of_le hwwr hbc.size
                  have HB5 := hide (HBI.out.trans (hbc.mono hszi))
                  clear hbc hSr hSp HD1
                  go_upto_region 27 with fail
                  go_cut [15] from 123 to 128 (fun vd wx => vd = I dr ∧ Below w5.heap.size w5 wx)
                  case first =>
                    obtain ⟨⟨s1, s2, s3⟩, t0, t1, t2, t3, t4, t5, t6, t7⟩ := id hSr5
                    go_region_held3 (fun W => (W.cell? ⟨g, o + b * 3, none⟩ = some (I ri) ∧ W.cell? ⟨g, o + b * 3 + 1, none⟩ = some (I rx) ∧ W.cell? ⟨g, o + b * 3 + 2, none⟩ = some (I ry)) ∧ W.cell? ⟨w.heap.size, 0, none⟩ = some (I 1) ∧ W.cell? ⟨w.heap.size, 1, none⟩ = some (I qa) ∧ W.cell? ⟨w.heap.size, 2, none⟩ = some (I qb) ∧ W.cell? ⟨w.heap.size, 3, none⟩ = some (I qc) ∧ W.cell? ⟨w.heap.size, 4, none⟩ = some (I qd) ∧ W.cell? ⟨w.heap.size, 5, none⟩ = some (I qx) ∧ W.cell? ⟨w.heap.size, 6, none⟩ = some (I qy) ∧ W.cell? ⟨w.heap.size, 7, none⟩ = some (I qk)) (first | assumption | exact hSr5 | exact hSr5.drew | exact hS6) ((go_at_call 138; refine (HD2.out _).mono ?_; rintro _ w6 ⟨rfl, hb6⟩; have hS6 := hSr5.drew.below hb6 (by simpa using hgw5) (by simpa using hww5); have hB6 : Below w5.heap.size w5 w6 := (show Below w5.heap.size w5 w5.drew from (Below.refl _ _).drew).trans hb6))
                    all_goals
                      go_wp2_with fail
                      go_meet
                      exact ⟨rfl, hB6⟩
                  case rest =>
                    obtain ⟨rfl, hbd⟩ := hcut
                    generalize wc = w8 at *
                    obtain ⟨⟨s1, s2, s3⟩, -⟩ := hSp5.below hbd hgw5 hww5
                    obtain ⟨⟨s4, s5, s6⟩, -⟩ := hSr5.below hbd hgw5 hww5
                    have HB8 := hide (HB5.out.trans (hbd.mono HB5.out.size))
                    clear hbd hSr5 hSp5 HD2
                    by_cases c1 : dp < dr
                    · have HE := hide (HNE.out (HNR.out.2 (.inl c1)))
                      go_wp2_with fail
                      go_quiet (fail)
                      have HBQ := hide (show Below wo.heap.size wo (w8.drewN nq) from HB8.out.trans ⟨rfl, rfl, rfl, Nat.le_refl _, fun _ _ => rfl⟩)
                      generalize World.drewN w8 nq = w9 at *
                      go_wp2_with fail
                      go_roundw
                      case rel => exact ⟨i + 1, (i : Int), hlt, by go_num, rfl, HE.out, HBQ.out⟩
                      case measure => simp [intOf]; omega
                    · by_cases c2 : dp = dr
                      · by_cases c3 : pi < ri
                        · subst c2
                          have HE := hide (HNE.out (HNR.out.2 (.inr ⟨rfl, c3⟩)))
                          go_wp2_with fail
                          go_quiet (fail)
                          have HBQ := hide (show Below wo.heap.size wo (w8.drewN nq) from HB8.out.trans ⟨rfl, rfl, rfl, Nat.le_refl _, fun _ _ => rfl⟩)
                          generalize World.drewN w8 nq = w9 at *
                          go_wp2_with fail
                          go_roundw
                          case rel => exact ⟨i + 1, (i : Int), hlt, by go_num, rfl, HE.out, HBQ.out⟩
                          case measure => simp [intOf]; omega
                        · subst c2
                          have HE := hide (HFA.out (fun h => (HNR.out.1 h).elim (fun h => absurd h c1) (fun h => absurd h.2 c3)))
                          go_wp2_with fail
                          go_quiet (fail)
                          have HBQ := hide (show Below wo.heap.size wo (w8.drewN nq) from HB8.out.trans ⟨rfl, rfl, rfl, Nat.le_refl _, fun _ _ => rfl⟩)
                          generalize World.drewN w8 nq = w9 at *
                          go_wp2_with fail
                          go_roundw
                          case rel => exact ⟨i + 1, (b : Int), hlt, by go_num, rfl, HE.out, HBQ.out⟩
                          case measure => simp [intOf]; omega
                      · have HE := hide (HFA.out (fun h => (HNR.out.1 h).elim (fun h => absurd h c1) (fun h => absurd h.1 c2)))
                        go_wp2_with fail
                        go_quiet (fail)
                        have HBQ := hide (show Below wo.heap.size wo (w8.drewN nq) from HB8.out.trans ⟨rfl, rfl, rfl, Nat.le_refl _, fun _ _ => rfl⟩)
                        generalize World.drewN w8 nq = w9 at *
                        go_wp2_with fail
                        go_roundw
                        case rel => exact ⟨i + 1, (b : Int), hlt, by go_num, rfl, HE.out, HBQ.out⟩
                        case measure => simp [intOf]; omega
          · have ei : i = L.length := by omega
            subst ei
            obtain ⟨b, hb, rfl, hbT, hTn⟩ := HEN.out best HBE.out
            obtain ⟨g, o, rfl, hpb⟩ := HRD.out b hb
            have HTS := hide (Ward.taken_step (T := T) HI.out HU.out hb)
            have hcu := hflw.cell hb
            have hfz : wr.frozen? ⟨gu, b, none⟩ = false := frozen_of_row _ _ _ _ _ hflw
            have HF6 := hide (hflw.set (b := b))
            have hK6 : Keeps (fun k => k = gu) wr (wr.setCell ⟨gu, b, none⟩ (.bool true)) := ⟨rfl, rfl, rfl, by simp, fun j hj hn => Below.heap_setCell _ _ _ _ hn⟩
            have hO6 : Own (wr.setCell ⟨gu, b, none⟩ (.bool true)) B (.slice av n cv) T := (HO.out.below hbi).keeps hK6 (fun g hg e => by
              have h1 := HO.out.ge hg
              have h3 : g = gu := e
              omega)
            have hB6 : Below gu w1 (wr.setCell ⟨gu, b, none⟩ (.bool true)) := (HB.out.trans (hbi.mono (by omega))).trans ⟨rfl, rfl, rfl, by simp, fun j hj => Below.heap_setCell _ _ _ _ (show j ≠ gu from fun e => by omega)⟩
            have hz6 : (wr.setCell ⟨gu, b, none⟩ (.bool true)).heap.size = wr.heap.size := by simp
            have hp6 := hpb (wr.setCell ⟨gu, b, none⟩ (.bool true)) (HB1.out.trans (hB6.mono (by omega)))
            have hb0 : (0 : Int) ≤ (b : Int) := by omega
            have hb1 : (b : Int) < (L.length : Int) := by omega
            have hwb : IntKind.i64.wrap (b : Int) = (b : Int) := wrap_small _ (by omega) (by omega)
            have htb : ((b : Int)).toNat = b := by omega
            have hnn : n + 1 ≤ L.length := h2
            clear hflw hbi hBw hK6 hpb hbT
            go_upto_region 32 with fail
            generalize wr.setCell ⟨gu, b, none⟩ (.bool true) = w6 at *
            have hTl : T.length = n := by rw [← HTE.out, List.length_take]; omega
            obtain ⟨v1, w7, hap1, ho1, hg1, hf1⟩ := append_pt L[b] hO6 (by omega) (by omega)
            have HO7 := hide (show Own w7 B v1 ((Ward.sortN qx qy L).take (n + 1)) by rw [hTn]; exact ho1)
            have HU7 := hide (show ∀ j, (h : j < L.length) → ((if j = b then true else U j) = true ↔ L[j] ∈ (Ward.sortN qx qy L).take (n + 1)) by rw [hTn]; exact HTS.out)
            have hgb : ∀ j, j < B → some j ≠ (Value.slice av n cv).ownBlock := fun j hj e => by have := hO6.ge e.symm; omega
            have HF7 := hide (show Flags w7 gu L.length (fun j => if j = b then true else U j) from (hg1.block gu (by omega) (hgb gu (by omega))).trans HF6.out)
            have HB7 := hide (show Below gu w1 w7 from hB6.trans ⟨hg1.os, hg1.tape, hg1.output, hg1.size, fun j hj => hg1.block j (by omega) (hgb j (by omega))⟩)
            have hB7 : B ≤ w7.heap.size := Nat.le_trans (by omega) hg1.size
            generalize L[b] = pp at *
            obtain ⟨pi, px, py⟩ := pp
            obtain ⟨p0, p1, p2⟩ := hp6
            have hap1' : (Builtin.append_ #[27, 27] 27 #[.slice av n cv, .slice (some ⟨w6.heap.size, 0, none⟩) 1 1]).run Tryz.prog (w6.alloc (.cells #[I pi, I px, I py] 36)) = .ok v1 w7 := hap1
            clear hap1 ho1 hg1 hf1 hO6 hB6 hgb hTn HF6 HTS hz6 hTl
            go_wp2_with (at_builtin; refine Lib.wpList_append_run _ rfl (.tmp 155) (.tmp 160) 27 27 rfl _ _ rfl rfl _ _ hap1' ?_)
            go_roundg (L.length - (n + 1))
            case measure => have := HGK.out; omega
            case rel => exact ⟨n + 1, _, rfl, hnn, by omega, HO7.out, HF7.out, HU7.out, HB7.out, hB7⟩
      · have h2' : ¬ (n : Int) < (L.length : Int) := by omega
        have HRES := hide (show Own wr w.heap.size (.slice av n cv) res by
          have h := HO.out
          rw [HAN.out]
          rw [List.take_of_length_le (by omega)] at h ⊢
          exact own_base h (by omega))
        have HFB := hide (show Below w.heap.size w wr from HB1.out.trans (hb.mono (by omega)))
        clear hb
        go_wp2_with fail
        go_ret
        exact ⟨_, rfl, HRES.out, HFB.out⟩
    · have HRES := hide (show Own wr w.heap.size (.slice av n cv) res by
        have h := HO.out
        have e : qk.toNat = n := by omega
        rw [HAN.out, e]
        exact own_base h (by omega))
      have HFB := hide (show Below w.heap.size w wr from HB1.out.trans (hb.mono (by omega)))
      clear hb
      go_wp2_with fail
      go_ret
      exact ⟨_, rfl, HRES.out, HFB.out⟩
end Go.Proofs.YtenaelkbgkpllaaGreatDoor
/- The document's Insert and Delete. -/
namespace Go.Proofs.YtenaelkbgkpllaaGreatDoor
open Go.RowKit

theorem insert_ref (r : Nat) (u : Value) (K : List Ward.Pt) (p : Ward.Pt) (w : World) (hm : RMap w r u K) (hG : Good K) :
    Calls Tryz.prog 56 #[.pointer (some ⟨r, 0, none⟩), .agg #[I p.id, I p.x, I p.y]] w fun e w' => InsertedR w r u (insList K p) (insCode K p) e w' := by
  have hl := hG.many
  obtain ⟨pi, px, py⟩ := p
  have key : ∀ c, c ≠ 0 → insCode K ⟨pi, px, py⟩ = c → (Calls Tryz.prog 56 #[.pointer (some ⟨r, 0, none⟩), .agg #[I pi, I px, I py]] w fun e w' => InsertedR w r u K c e w') → Calls Tryz.prog 56 #[.pointer (some ⟨r, 0, none⟩), .agg #[I pi, I px, I py]] w fun e w' => InsertedR w r u (insList K ⟨pi, px, py⟩) (insCode K ⟨pi, px, py⟩) e w' := by
    intro c hc e h
    unfold insList
    rw [e, if_neg hc]
    exact h
  by_cases h1 : 1 ≤ pi ∧ pi ≤ 1000000
  · by_cases h2 : -1000000 ≤ px ∧ px ≤ 1000000
    · by_cases h3 : -1000000 ≤ py ∧ py ≤ 1000000
      · by_cases h4 : ∃ q ∈ K, q.id = pi
        · refine key 3 (by decide) (by unfold insCode; rw [if_neg (fun h => h h1), if_neg (fun h => h.elim (fun h => h h2) (fun h => h h3)), if_pos h4]) ?_
          exact rinsert_taken r u K pi px py w hm (by omega) h1.1 h1.2 (Ward.coord_yes h2) (Ward.coord_yes h3) h4
        · by_cases h5 : 150 ≤ K.length
          · refine key 5 (by decide) (by unfold insCode; rw [if_neg (fun h => h h1), if_neg (fun h => h.elim (fun h => h h2) (fun h => h h3)), if_neg h4, if_pos h5]) ?_
            exact rinsert_limit r u K pi px py w hm (by omega) h1.1 h1.2 (Ward.coord_yes h2) (Ward.coord_yes h3) h4 h5
          · have hc : insCode K ⟨pi, px, py⟩ = 0 := by unfold insCode; rw [if_neg (fun h => h h1), if_neg (fun h => h.elim (fun h => h h2) (fun h => h h3)), if_neg h4, if_neg h5]
            unfold insList
            rw [hc, if_pos rfl]
            exact rinsert_in r u K pi px py w hm (by omega) h1.1 h1.2 (Ward.coord_yes h2) (Ward.coord_yes h3) h4 (by omega) hG.sorted
      · refine key 2 (by decide) (by unfold insCode; rw [if_neg (fun h => h h1), if_pos (.inr h3)]) ?_
        exact rinsert_xy r u K pi px py w hm h1.1 h1.2 (.inr (Ward.coord_no h3))
    · refine key 2 (by decide) (by unfold insCode; rw [if_neg (fun h => h h1), if_pos (.inl h2)]) ?_
      exact rinsert_xy r u K pi px py w hm h1.1 h1.2 (.inl (Ward.coord_no h2))
  · refine key 1 (by decide) (by unfold insCode; rw [if_pos h1]) ?_
    exact rinsert_id r u K pi px py w hm h1
set_option maxRecDepth 100000 in
set_option maxHeartbeats 1000000 in
theorem rdelete_no (r : Nat) (u : Value) (K : List Ward.Pt) (id : Int) (w : World) (hm : RMap w r u K) (hl : K.length ≤ 1000) (h4 : ¬ ∃ q ∈ K, q.id = id) :
    Calls Tryz.prog 57 #[.pointer (some ⟨r, 0, none⟩), I id] w fun e w' => InsertedR w r u K 4 e w' := by
  have HM := hide hm
  have HP := hide (place_ref r u K id w hm hl)
  clear hm
  go_enter Tryz.func57, Tryz.ntmps57
  go_wp2_with (go_at_call 92; refine HP.out.mono ?_; rintro _ _ ⟨⟨x, rfl, hpl⟩, rfl⟩; have hx0 := place_no hpl h4; subst hx0)
  go_ret
  exact InsertedR.none HM.out (Below.refl _ _)
set_option maxRecDepth 100000 in
set_option maxHeartbeats 2000000 in
theorem rdelete_yes (r : Nat) (u : Value) (K : List Ward.Pt) (id : Int) (w : World) (hm : RMap w r u K) (hl : K.length ≤ 1000) (h4 : ∃ q ∈ K, q.id = id) :
    Calls Tryz.prog 57 #[.pointer (some ⟨r, 0, none⟩), I id] w fun e w' => ∃ i, ∃ h : i < K.length, K[i].id = id ∧ InsertedR w r u (K.eraseIdx i) 0 e w' := by
  have HM := hide hm
  have HP := hide (place_ref r u K id w hm hl)
  have hcm := hm.cell
  have hrlt := hm.lt
  obtain ⟨g, c, e, hcc⟩ : ∃ g cap, u = .slice (some ⟨g, 0, none⟩) K.length cap ∧ K.length ≤ cap := by
    rcases hm.own.2 with ⟨_, h0⟩ | ⟨g', cap', cur', e', _, _, hcc, _⟩
    · obtain ⟨q, hq, _⟩ := h4
      rw [List.length_eq_zero_iff.1 h0] at hq
      cases hq
    · exact ⟨g', cap', e', hcc⟩
  subst e
  have HPT := hide (show ∀ j, (h : j < K.length) → PtAt w g (j * 3) K[j] from fun j hj => by
    obtain ⟨a0, c0, e0, hp⟩ := hm.own.reads
    obtain ⟨g9, o9, e9, hpp⟩ := hp (fun e => by subst e; simp at hj)
    injection e0 with e1
    rw [e9] at e1
    injection e1 with e1
    injection e1 with e4 e5
    subst e4 e5
    have := hpp j hj
    rwa [Nat.zero_add] at this)
  clear hm
  go_enter Tryz.func57, Tryz.ntmps57
  go_wp2_with fail
  refine HP.out.mono ?_
  rintro _ w' ⟨⟨x, rfl, hpl⟩, hw'⟩
  have hw2 := hw'.symm
  subst hw2
  clear hw'
  rcases hpl with ⟨_, hno⟩ | ⟨i, hi, rfl, hid⟩
  · obtain ⟨q, hq, e⟩ := h4
    exact absurd e (hno q hq)
  obtain ⟨v1, w1, hap1, ho1, hg1, hf1⟩ := append_pts (w := w) (B := w.heap.size) (v := .slice none 0 0) (l := []) (K.take i) g 0 c (World.ownsRow_nil _ _ _ _) (Nat.le_refl _) (by rw [List.length_take]; simp; omega) (fun j hj => by
    rw [List.length_take] at hj
    rw [List.getElem_take, Nat.zero_add]
    exact HPT.out j (by omega))
  rw [List.length_take, Nat.min_eq_left (by omega)] at hap1
  have hb1 : Below w.heap.size w w1 := ⟨hg1.os, hg1.tape, hg1.output, hg1.size, fun j hj => hg1.block j hj (by simp [Value.ownBlock])⟩
  rw [List.nil_append] at ho1
  have hcr1 := (HM.out.below hb1).cell
  have hfz : w1.frozen? ⟨r, 0, none⟩ = false := frozen_of_row _ _ _ _ _ (HM.out.below hb1).row
  have hs1 := hb1.size
  have HAP := hide (fun (o cc : Nat) (T : List Ward.Pt) (hT : T.length ≤ 1000) (h : ∀ j, (h : j < T.length) → PtAt w1 g (o + j * 3) T[j]) => append_pts (w := w1) T g o cc ho1 hs1 (by rw [List.length_take]; omega) h)
  have HFIN := hide (fun (v2 : Value) (w2 : World) (hg2 : w1.grownBy w2 v1.ownBlock) (ho2 : Own w2 w.heap.size v2 (K.take i ++ K.drop (i + 1))) => show InsertedR w r (.slice (some ⟨g, 0, none⟩) K.length c) (K.eraseIdx i) 0 (.returned (I 0)) (w2.setCell ⟨r, 0, none⟩ v2) ∧ RMap w2 r (.slice (some ⟨g, 0, none⟩) K.length c) K from by
    have hb2 : Below w.heap.size w1 w2 := ⟨hg2.os, hg2.tape, hg2.output, hg2.size, fun j hj => hg2.block j (by omega) (fun e => by have := ho1.ge e.symm; omega)⟩
    rw [List.eraseIdx_eq_take_drop_succ]
    exact ⟨insertedR_laid 0 HM.out (hb1.trans hb2) ho2, HM.out.below (hb1.trans hb2)⟩)
  have HI := hide hid
  obtain ⟨a1, c1, ev1⟩ := ho1.slice
  rw [List.length_take, Nat.min_eq_left (by omega)] at ev1
  subst ev1
  have HPT1 := hide (fun j (h : j < K.length) => (HPT.out j h).below hb1 (HPT.out j h).lt)
  clear ho1 hg1 hf1 hid
  by_cases hc : c = i + 1
  · obtain ⟨v2, w2, hap2, ho2, hg2, hf2⟩ := HAP.out 0 0 [] (by simp) (fun j hj => absurd hj (by simp))
    have HF := hide (HFIN.out v2 w2 hg2 (by rw [List.drop_eq_nil_of_le (by omega)]; exact ho2))
    have hap2' : (Builtin.append_ #[27, 27] 27 #[.slice a1 i c1, .slice (some ⟨g, 0, none⟩) 0 0]).run Tryz.prog w1 = .ok v2 w2 := hap2
    have hkl : K.length = i + 1 := by omega
    obtain ⟨a2, c2, ev2⟩ := ho2.slice
    generalize (K.take i ++ []).length = n2 at ev2
    subst ev2
    have hcr2 := HF.out.2.cell
    have hfz2 : w2.frozen? ⟨r, 0, none⟩ = false := frozen_of_row _ _ _ _ _ HF.out.2.row
    have HIX := hide (show ∃ i, ∃ h : i < K.length, K[i].id = id ∧ InsertedR w r (.slice (some ⟨g, 0, none⟩) K.length c) (K.eraseIdx i) 0 (.returned (I 0)) (w2.setCell ⟨r, 0, none⟩ (.slice a2 n2 c2)) from ⟨i, hi, HI.out, HF.out.1⟩)
    clear HAP HFIN ho2 hg2 hf2 hap2 hb1 HF
    subst hc
    rw [hkl] at hcm hcr1 hcr2
    go_wp2_with (first | (at_builtin; refine Lib.wpList_append_run _ rfl (.tmp 12) (.tmp 18) 27 27 rfl _ _ rfl rfl _ _ hap1 ?_) | (at_builtin; refine Lib.wpList_append_run _ rfl (.tmp 21) (.tmp 28) 27 27 rfl _ _ rfl rfl _ _ hap2' ?_))
    go_ret
    exact HIX.out
  · obtain ⟨v2, w2, hap2, ho2, hg2, hf2⟩ := HAP.out ((i + 1) * 3) (c - (i + 1)) (K.drop (i + 1)) (by rw [List.length_drop]; omega) (fun j hj => by
      rw [List.length_drop] at hj
      rw [List.getElem_drop, show (i + 1) * 3 + j * 3 = (i + 1 + j) * 3 by omega]
      exact HPT1.out (i + 1 + j) (by omega))
    have HF := hide (HFIN.out v2 w2 hg2 ho2)
    rw [List.length_drop] at hap2
    obtain ⟨a2, c2, ev2⟩ := ho2.slice
    generalize (K.take i ++ K.drop (i + 1)).length = n2 at ev2
    subst ev2
    have hcr2 := HF.out.2.cell
    have hfz2 : w2.frozen? ⟨r, 0, none⟩ = false := frozen_of_row _ _ _ _ _ HF.out.2.row
    have HIX := hide (show ∃ i, ∃ h : i < K.length, K[i].id = id ∧ InsertedR w r (.slice (some ⟨g, 0, none⟩) K.length c) (K.eraseIdx i) 0 (.returned (I 0)) (w2.setCell ⟨r, 0, none⟩ (.slice a2 n2 c2)) from ⟨i, hi, HI.out, HF.out.1⟩)
    have hic : i + 1 < c := by omega
    clear HAP HFIN ho2 hg2 hf2 hb1 HF hc
    obtain ⟨k, hk⟩ : ∃ k : Nat, k = i + 1 := ⟨_, rfl⟩
    go_wp2_with (first | (at_builtin; refine Lib.wpList_append_run _ rfl (.tmp 12) (.tmp 18) 27 27 rfl _ _ rfl rfl _ _ hap1 ?_) | (at_builtin; refine Lib.wpList_append_run _ rfl (.tmp 21) (.tmp 28) 27 27 rfl _ _ rfl rfl _ _ hap2 ?_))
    go_ret
    exact HIX.out
end Go.Proofs.YtenaelkbgkpllaaGreatDoor
/- The document's text of a box. -/
namespace Go.Proofs.YtenaelkbgkpllaaGreatDoor
open Go.RowKit

/-- texts put together -/
theorem add_str (x y : List UInt8) (h : x.length + y.length ≤ 9223372036854775807) (W : World) : (Op.stringOp .add ⟨x.toArray⟩ ⟨y.toArray⟩).run Tryz.prog W = .ok (.string ⟨(x ++ y).toArray⟩) W := by
  rw [run_string_add_sum W _ _ (by simp [ByteArray.size]; omega), ByteArray.mk_append_mk]
def Box4 (W : World) (g o : Nat) (a b c d : Int) : Prop := W.cell? ⟨g, o, none⟩ = some (I a) ∧ W.cell? ⟨g, o + 1, none⟩ = some (I b) ∧ W.cell? ⟨g, o + 2, none⟩ = some (I c) ∧ W.cell? ⟨g, o + 3, none⟩ = some (I d)
theorem Box4.below {W W' : World} {g o B : Nat} {a b c d : Int} (h : Box4 W g o a b c d) (hb : Below B W W') (hg : g < B) : Box4 W' g o a b c d := by
  obtain ⟨h0, h1, h2, h3⟩ := h
  have hc := fun o => hb.cell (p := ⟨g, o, none⟩) hg
  exact ⟨(hc _).trans h0, (hc _).trans h1, (hc _).trans h2, (hc _).trans h3⟩
theorem Box4.drew {W : World} {g o : Nat} {a b c d : Int} (h : Box4 W g o a b c d) : Box4 W.drew g o a b c d := by simpa [Box4] using h
set_option maxRecDepth 100000 in
set_option maxHeartbeats 2000000 in
theorem text_ref (b : Ward.Box) (w : World) :
    Calls Tryz.prog 136 #[Bx b] w fun e w' => e = .returned (Sv (Ward.boxText b)) ∧ Below w.heap.size w w' := by
  obtain ⟨ba, bb, bc, bd⟩ := b
  have HT := hide (show Ward.boxText ⟨ba, bb, bc, bd⟩ = Ward.fourI ba ++ Ward.fourI bb ++ Ward.fourI bc ++ Ward.fourI bd from rfl)
  have HSA := hide (fun W => signed_ref ba W)
  have HSB := hide (fun W => signed_ref bb W)
  have HSC := hide (fun W => signed_ref bc W)
  have HSD := hide (fun W => signed_ref bd W)
  have l1 : (Ward.fourI ba).length = 4 := rfl
  have l2 : (Ward.fourI bb).length = 4 := rfl
  have l3 : (Ward.fourI bc).length = 4 := rfl
  have l4 : (Ward.fourI bd).length = 4 := rfl
  generalize Ward.fourI ba = fa at *
  generalize Ward.fourI bb = fb at *
  generalize Ward.fourI bc = fc at *
  generalize Ward.fourI bd = fd at *
  have ha1 := add_str fa fb (by omega)
  have ha2 := add_str (fa ++ fb) fc (by rw [List.length_append]; omega)
  have ha3 := add_str (fa ++ fb ++ fc) fd (by rw [List.length_append, List.length_append]; omega)
  have hr' := heap_alloc_new w
  have hb' := fun o => (Below.refl w.heap.size w).alloc (Nat.le_refl _) o
  generalize fa ++ fb ++ fc ++ fd = t4 at *
  generalize fa ++ fb ++ fc = t3 at *
  generalize fa ++ fb = t2 at *
  clear l1 l2 l3 l4
  go_enter Tryz.func136, Tryz.ntmps136
  go_upto_region 1 with fail
  generalize hW : World.alloc w _ = w1
  have hrow : w1.heap[w.heap.size]? = some (.cells #[I ba, I bb, I bc, I bd] 148 (0, 0)) := by rw [← hW]; exact hr' _
  have HB1 := hide (show Below w.heap.size w w1 by rw [← hW]; exact hb' _)
  have hs1 : w.heap.size < w1.heap.size := by rw [← hW]; simp
  have hS : Box4 w1 w.heap.size 0 ba bb bc bd := ⟨by rw [cell_of_row _ _ _ _ _ _ hrow]; rfl, by rw [cell_of_row _ _ _ _ _ _ hrow]; rfl, by rw [cell_of_row _ _ _ _ _ _ hrow]; rfl, by rw [cell_of_row _ _ _ _ _ _ hrow]; rfl⟩
  clear hW hr' hb' hrow
  go_region_held3 (fun W => W.cell? ⟨w.heap.size, 0, none⟩ = some (I ba) ∧ W.cell? ⟨w.heap.size, 1, none⟩ = some (I bb) ∧ W.cell? ⟨w.heap.size, 2, none⟩ = some (I bc) ∧ W.cell? ⟨w.heap.size, 3, none⟩ = some (I bd)) (first | assumption | exact hS | exact hS.drew) ((first | (go_at_call_of 137 (I ba); refine (HSA.out _).mono ?_; rintro _ w2 ⟨rfl, hb2⟩; have hS2 := hS.drew.below hb2 (by simpa using hs1); have hs2 : w1.heap.size ≤ w2.heap.size := hb2.size; have hB2 : Below w1.heap.size w1 w2 := (show Below w1.heap.size w1 w1.drew from (Below.refl _ _).drew).trans hb2) | (go_at_call_of 137 (I bb); refine (HSB.out _).mono ?_; rintro _ w3 ⟨rfl, hb3⟩; have hS3 := hS2.below hb3 (by omega); have hs3 : w2.heap.size ≤ w3.heap.size := hb3.size; have hB3 := hB2.trans (hb3.mono hs2)) | (go_at_call_of 137 (I bc); refine (HSC.out _).mono ?_; rintro _ w4 ⟨rfl, hb4⟩; have hS4 := hS3.below hb4 (by omega); have hs4 : w3.heap.size ≤ w4.heap.size := hb4.size; have hB4 := hB3.trans (hb4.mono (show w1.heap.size ≤ w3.heap.size by omega))) | (go_at_call_of 137 (I bd); refine (HSD.out _).mono ?_; rintro _ w5 ⟨rfl, hb5⟩; have hS5 := hS4.below hb5 (by omega); have hB5 := hB4.trans (hb5.mono (show w1.heap.size ≤ w4.heap.size by omega)))))
  all_goals
    go_wp2_with fail
    go_ret
    exact ⟨by rw [HT.out]; rfl, HB1.out.trans (hB5.mono (by omega))⟩
end Go.Proofs.YtenaelkbgkpllaaGreatDoor
/- A statement that draws its order and whose last operation, that waits for all others, writes a cell that is read before: the cell need not be as it was behind that one. -/
namespace Go.Proofs.YtenaelkbgkpllaaGreatDoor
section
variable {P : Program} {md : Region.Mode} {ops : Array Oper} {Q : Exit → Act → World → Prop} {S : World → Prop} {n : Nat}
/-- whichever order: S holds behind each operation but the last -/
def wpAnyL (P : Program) (md : Region.Mode) (ops : Array Oper) (Q : Exit → Act → World → Prop) (S : World → Prop) (n : Nat) : Nat → Array Bool → Act → World → Prop
  | 0, listed, a, w => Region.ready md ops listed = [] ∧ Q .normal a w
  | k + 1, listed, a, w => (Region.ready md ops listed = [] → Q .normal a w) ∧ ∀ i ∈ Region.ready md ops listed, wpOp P ops Q i (fun a' w' => (i ≠ n → S w') ∧ wpAnyL P md ops Q S n k (listed.setIfInBounds i true) a' w') a w
theorem wpAny_of_L : ∀ (k : Nat) (listed : Array Bool) (a : Act) (w : World), wpAnyL P md ops Q S n k listed a w → wpAny P md ops Q k listed a w
  | 0, _, _, _, h => h
  | k + 1, _, _, _, h => ⟨h.1, fun i hi => wpOp_mono (fun a' w' h' => wpAny_of_L k _ a' w' h'.2) (h.2 i hi)⟩
/-- the last one waits for an operation -/
def Waits (md : Region.Mode) (ops : Array Oper) (n i : Nat) : Bool := match ops[n]? with
  | some o => o.after.any fun e => Region.binds md e && e.on == i
  | none => false
theorem not_ready {i : Nat} {listed : Array Bool} (hw : Waits md ops n i = true) (hi : listed.getD i false = false) : n ∉ Region.ready md ops listed := by
  intro hn
  obtain ⟨_, o, ho, hall⟩ := mem_ready.1 hn
  unfold Waits at hw
  rw [ho] at hw
  simp only [Array.any_eq_true, Bool.and_eq_true, beq_iff_eq] at hw
  obtain ⟨j, hj, hb, he⟩ := hw
  have := hall _ (Array.getElem_mem hj) hb
  rw [he, hi] at this
  cases this
theorem unlisted {i : Nat} {listed : Array Bool} (h : i ∈ Region.ready md ops listed) : listed.getD i false = false := by
  have h0 := (mem_ready.1 h).1
  by_cases hl : i < listed.size
  · simp only [Array.getD, hl, dif_pos] at h0 ⊢; exact h0
  · simp [Array.getD, hl]
theorem wpAnyL_first {i : Nat} {oi : Oper} {v : Value} (hi : ops[i]? = some oi) (hne : i ≠ n) (hwt : Waits md ops n i = true) (hsel : ∀ (j : Nat) (o : Oper) cs b, ops[j]? = some o → o.op ≠ .select cs b)
    (hQ : ∀ c a w, Q (.panic c) (a.put oi.dst v) w → Q (.panic c) a w) :
    ∀ (k : Nat) (listed : Array Bool) (a : Act) (w : World),
      (∀ j oj, ops[j]? = some oj → j ≠ i → listed.getD j true = false → (∀ e ∈ oj.after, Region.binds md e = true → e.on ≠ i) → oi.apart ops oj = true) →
      i ∈ Region.ready md ops listed → YieldsIf P ops S oi v a → S w →
      wpAnyL P md ops Q S n k (listed.setIfInBounds i true) (a.put oi.dst v) w → wpAnyL P md ops Q S n (k + 1) listed a w
  | 0, listed, a, w, _, hr, hy, hS, H => by
    refine ⟨fun h => (by rw [h] at hr; cases hr), fun j hj => ?_⟩
    by_cases e : j = i
    · subst e
      exact hy.wpOp hi hS ⟨fun _ => hS, H⟩
    · have h0 := ready_mono hj e
      rw [H.1] at h0
      cases h0
  | k + 1, listed, a, w, hfree, hr, hy, hS, H => by
    refine ⟨fun h => (by rw [h] at hr; cases hr), fun j hj => ?_⟩
    by_cases e : j = i
    · subst e
      exact hy.wpOp hi hS ⟨fun _ => hS, H⟩
    · have hjn : j ≠ n := fun h => by
        subst h
        exact not_ready hwt (unlisted hr) hj
      obtain ⟨hun, oj, hoj, hall⟩ := mem_ready.1 hj
      have hno : ∀ x ∈ oj.after, Region.binds md x = true → x.on ≠ i := fun x hx hb hx' => by
        have h1 := hall x hx hb
        rw [hx', unlisted hr] at h1
        cases h1
      have h2 := wpOp_putIf (S := S) hoj (hfree j oj hoj e hun hno) (fun cs b => hsel i oi cs b hi) (fun cs b => hsel j oj cs b hoj) hQ hy (H.2 j (ready_mono hj e))
      refine wpOp_mono (fun a' w' h3 => ⟨fun _ => h3.2.1 hjn, wpAnyL_first hi hne hwt hsel hQ k _ a' w' ?_ (ready_mono hr (Ne.symm e)) h3.1 (h3.2.1 hjn) ?_⟩) h2
      · intro m om hm hmi hmu hmn
        refine hfree m om hm hmi ?_ hmn
        by_cases hjm : j = m
        · subst hjm; exact hun
        · rw [getD_set_ne true hjm] at hmu; exact hmu
      · rw [Array.setIfInBounds_comm _ _ e]
        exact h3.2.2
theorem wpAnyL_take {i : Nat} {oi : Oper} {v : Value} {k : Nat} {listed : Array Bool} {a : Act} {w : World} (hi : ops[i]? = some oi) (hw : Waits md ops n i = true) (hne : Nat.beq i n = false)
    (hs : Region.noSelect ops = true) (hf : Region.free md ops listed i = true) (hr : (Region.ready md ops listed).contains i = true)
    (hQ : ∀ c a w, Q (.panic c) (a.put oi.dst v) w → Q (.panic c) a w) (hy : YieldsIf P ops S oi v a) (hS : S w)
    (h : wpAnyL P md ops Q S n k (listed.setIfInBounds i true) (a.put oi.dst v) w) : wpAnyL P md ops Q S n (k + 1) listed a w :=
  wpAnyL_first hi (fun e => by subst e; simp at hne) hw (Region.noSelect_spec hs) hQ k listed a w (Region.free_spec hi hf) (by simpa using hr) hy hS h
/-- one alone can come up: a call -/
theorem wpAnyL_one {i : Nat} {o : Oper} {k : Nat} {listed : Array Bool} {a : Act} {w : World} (hr : Region.ready md ops listed = [i]) (ho : ops[i]? = some o)
    (h : ∀ K' : Act → World → Prop, Shut (∀ a' w', (i ≠ n → S w') → wpAnyL P md ops Q S n k (listed.setIfInBounds i true) a' w' → K' a' w') → if Region.wanted o (yielded ops a.tmps) = true then Oper.wp P o a w K' Q else K' (a.put o.dst undef) w) : wpAnyL P md ops Q S n (k + 1) listed a w := by
  refine ⟨fun h0 => absurd (hr.symm.trans h0) (by simp), fun j hj => ?_⟩
  rw [hr, List.mem_singleton] at hj
  subst hj
  exact wpOp_step ho (fun K' hK => h K' (fun a' w' hS hW => hK a' w' ⟨hS, hW⟩))
theorem wpAnyL_done {listed : Array Bool} {a : Act} {w : World} (hr : Region.ready md ops listed = []) (h : Q .normal a w) : ∀ k, wpAnyL P md ops Q S n k listed a w
  | 0 => ⟨hr, h⟩
  | _ + 1 => ⟨fun _ => h, by rw [hr]; simp⟩
theorem wp_region_L {id : Nat} {a : Act} {w : World} (n : Nat) (S : World → Prop) (hm : P.follows .mixedOrders = true) (hS : S w.drew)
    (h : S w.drew → wpAnyL P .any ops Q S n ops.size (Array.replicate ops.size false) a w.drew) : (Code.region id ops true).wp P Q a w :=
  wp_region_any hm (wpAny_of_L _ _ _ _ (h hS))
end
end Go.Proofs.YtenaelkbgkpllaaGreatDoor
/- The document's leaf. -/
namespace Go.Proofs.YtenaelkbgkpllaaGreatDoor
open Go.RowKit

/-- a part's cells -/
def partV (b : Ward.Box) (n : Int) (t : List UInt8) (f k : Int) (v : Value) : Array Value := #[I b.a, I b.b, I b.c, I b.d, I n, Sv t, I f, I k, v]
theorem Tryz.infoPart : (Tryz.prog.info? 150).map (·.size) = some 9 := by kernel_rfl
theorem partV_one (b : Ward.Box) (n : Int) (t : List UInt8) (f k : Int) (v : Value) (hv : v.oneCell' = true) : (partV b n t f k v).all (·.oneCell') = true := all_oneCell_toArray (cs := [I b.a, I b.b, I b.c, I b.d, I n, Sv t, I f, I k, v]) (fun x hx => by
  simp only [List.mem_cons, List.not_mem_nil, or_false] at hx
  rcases hx with rfl | rfl | rfl | rfl | rfl | rfl | rfl | rfl | rfl <;> first | rfl | exact hv)
theorem boxL_more {l : List Ward.Box} (h : l ≠ []) (b : Ward.Box) : Ward.boxL (l ++ [b]) = Ward.join (Ward.boxL l) b := by
  cases l with
  | nil => exact absurd rfl h
  | cons c l => unfold Ward.boxL; rw [List.foldl_append]; rfl
theorem boxL_one (b : Ward.Box) : Ward.boxL [b] = Ward.join b b := rfl
/-- the box of the first points -/
def boxTo (L : List Ward.Pt) (i : Nat) : Ward.Box := Ward.boxL ((L.take i).map Ward.boxOf)
theorem boxTo_zero (L : List Ward.Pt) : boxTo L 0 = ⟨0, 0, 0, 0⟩ := rfl
theorem boxTo_one (L : List Ward.Pt) (h : 0 < L.length) : boxTo L 1 = Ward.join (Ward.boxOf L[0]) (Ward.boxOf L[0]) := by
  unfold boxTo
  rw [List.take_succ_eq_append_getElem h]
  rfl
theorem boxTo_succ (L : List Ward.Pt) (i : Nat) (h : i < L.length) (h0 : i ≠ 0) : boxTo L (i + 1) = Ward.join (boxTo L i) (Ward.boxOf L[i]) := by
  unfold boxTo
  rw [List.take_succ_eq_append_getElem h, List.map_append]
  exact boxL_more (fun e => by have h2 := congrArg List.length e; rw [List.length_map, List.length_take, List.length_nil] at h2; omega) _
/-- the text of the first points -/
def leafTo (L : List Ward.Pt) (i : Nat) : List UInt8 := 1 :: UInt8.ofNat L.length :: (L.take i).flatMap Ward.ptText
theorem leafTo_succ (L : List Ward.Pt) (i : Nat) (h : i < L.length) : leafTo L (i + 1) = leafTo L i ++ Ward.fourI L[i].id ++ Ward.fourI L[i].x ++ Ward.fourI L[i].y := by
  unfold leafTo
  rw [List.take_succ_eq_append_getElem h, List.flatMap_append]
  simp [Ward.ptText]
theorem leafTo_all (L : List Ward.Pt) : leafTo L L.length = Ward.leafText L := by
  unfold leafTo Ward.leafText
  rw [List.take_length]
theorem leafTo_len (L : List Ward.Pt) (i : Nat) (h : L.length ≤ 4) : (leafTo L i).length ≤ 50 := by
  unfold leafTo
  rw [List.length_cons, List.length_cons]
  have : ((L.take i).flatMap Ward.ptText).length = 12 * (L.take i).length := by
    induction L.take i with
    | nil => rfl
    | cons p l ih => rw [List.flatMap_cons, List.length_append, ih, Ward.ptText_len, List.length_cons]; omega
  rw [this, List.length_take]
  omega
theorem conv_two (g : Nat) (k : Nat) (hk : k ≤ 4) (w : World) : (convert 59 9 (.slice (some ⟨w.heap.size, 0, none⟩) 2 2)).run Tryz.prog (w.alloc (.cells #[.int .u8 (g : Nat), .int .u8 (k : Int)] 5)) = .ok (Sv [UInt8.ofNat g, UInt8.ofNat k]) (w.alloc (.cells #[.int .u8 (g : Nat), .int .u8 (k : Int)] 5)) ∨ 256 ≤ g := by
  by_cases hg : 256 ≤ g
  · exact .inr hg
  refine .inl (conv_bytes w.heap.size 2 2 [UInt8.ofNat g, UInt8.ofNat k] rfl _ (fun j u hj => ?_))
  have e1 : (UInt8.ofNat g).toNat = g := by rw [UInt8.toNat_ofNat']; omega
  have e2 : (UInt8.ofNat k).toNat = k := by rw [UInt8.toNat_ofNat']; omega
  rw [Nat.zero_add, cell_of_row _ _ _ _ _ _ (heap_alloc_new w _)]
  match j, hj with
  | 0, hj => simp at hj; subst hj; show some (Value.int .u8 (g : Int)) = some (Y (UInt8.ofNat g)); rw [Y, e1]
  | 1, hj => simp at hj; subst hj; show some (Value.int .u8 (k : Int)) = some (Y (UInt8.ofNat k)); rw [Y, e2]
theorem conv_lead1 (k : Nat) (hk : k ≤ 4) (w : World) : (convert 59 9 (.slice (some ⟨w.heap.size, 0, none⟩) 2 2)).run Tryz.prog (w.alloc (.cells #[.int .u8 1, .int .u8 (k : Int)] 5)) = .ok (Sv [1, UInt8.ofNat k]) (w.alloc (.cells #[.int .u8 1, .int .u8 (k : Int)] 5)) := (conv_two 1 k hk w).resolve_right (by decide)
theorem conv_lead2 (k : Nat) (hk : k ≤ 4) (w : World) : (convert 59 9 (.slice (some ⟨w.heap.size, 0, none⟩) 2 2)).run Tryz.prog (w.alloc (.cells #[.int .u8 2, .int .u8 (k : Int)] 5)) = .ok (Sv [2, UInt8.ofNat k]) (w.alloc (.cells #[.int .u8 2, .int .u8 (k : Int)] 5)) := (conv_two 2 k hk w).resolve_right (by decide)
theorem part_set4 {w : World} {g : Nat} {b : Ward.Box} {n : Int} {t : List UInt8} {f k : Int} {v : Value} {ty : Nat} (a b' c d : Int) (h : w.heap[g]? = some (.cells (partV b n t f k v) ty (0, 0))) :
    ((((w.setCell ⟨g, 0, none⟩ (I a)).setCell ⟨g, 1, none⟩ (I b')).setCell ⟨g, 2, none⟩ (I c)).setCell ⟨g, 3, none⟩ (I d)).heap[g]? = some (.cells (partV ⟨a, b', c, d⟩ n t f k v) ty (0, 0)) := by
  rw [heap_setCell_same _ _ _ _ _ _ (heap_setCell_same _ _ _ _ _ _ (heap_setCell_same _ _ _ _ _ _ (heap_setCell_same _ _ _ _ _ _ h)))]
  rfl
theorem set4_other {w : World} {g j : Nat} (a b' c d : Int) (h : j ≠ g) : ((((w.setCell ⟨g, 0, none⟩ (I a)).setCell ⟨g, 1, none⟩ (I b')).setCell ⟨g, 2, none⟩ (I c)).setCell ⟨g, 3, none⟩ (I d)).heap[j]? = w.heap[j]? := by
  rw [heap_setCell_other _ _ _ _ h, heap_setCell_other _ _ _ _ h, heap_setCell_other _ _ _ _ h, heap_setCell_other _ _ _ _ h]
theorem set4_below {w w' : World} {B g : Nat} (a b' c d : Int) (h : Below B w w') (hg : B ≤ g) : Below B w ((((w'.setCell ⟨g, 0, none⟩ (I a)).setCell ⟨g, 1, none⟩ (I b')).setCell ⟨g, 2, none⟩ (I c)).setCell ⟨g, 3, none⟩ (I d)) :=
  (((h.setCell hg _).setCell hg _).setCell hg _).setCell hg _
structure Cells4 (w : World) (g : Nat) (b : Ward.Box) : Prop where
  c0 : w.cell? ⟨g, 0, none⟩ = some (I b.a)
  c1 : w.cell? ⟨g, 1, none⟩ = some (I b.b)
  c2 : w.cell? ⟨g, 2, none⟩ = some (I b.c)
  c3 : w.cell? ⟨g, 3, none⟩ = some (I b.d)
  fz : ∀ j, w.frozen? ⟨g, j, none⟩ = false
theorem cells4 {w : World} {g : Nat} {b : Ward.Box} {n : Int} {t : List UInt8} {f k : Int} {v : Value} {ty : Nat} (h : w.heap[g]? = some (.cells (partV b n t f k v) ty (0, 0))) : Cells4 w g b :=
  ⟨by rw [cell_of_row _ _ _ _ _ _ h]; rfl, by rw [cell_of_row _ _ _ _ _ _ h]; rfl, by rw [cell_of_row _ _ _ _ _ _ h]; rfl, by rw [cell_of_row _ _ _ _ _ _ h]; rfl, fun j => frozen_of_row _ _ _ _ _ h⟩
structure LeafAt (w : World) (L : List Ward.Pt) (v : Value) (i : Nat) (wq : World) : Prop where
  r0 : ∃ z : Array Value, z.size = 9 ∧ wq.heap[w.heap.size]? = some (.cells z 150 (0, 0))
  r1 : wq.heap[w.heap.size + 1]? = some (.cells (partV (boxTo L i) L.length (leafTo L i) 0 0 v) 150 (0, 0))
  bl : Below w.heap.size w wq
set_option maxRecDepth 100000 in
set_option maxHeartbeats 2000000 in
theorem leaf_ref (v : Value) (L : List Ward.Pt) (w : World) (hv : Reads w v L) (hl : L.length ≤ 4) :
    Calls Tryz.prog 134 #[v] w fun e w' => e = .returned (.agg (partV (Ward.boxL (L.map Ward.boxOf)) L.length (Ward.leafText L) 0 0 v)) ∧ Below w.heap.size w w' := by
  obtain ⟨a, c, rfl, hrd⟩ := hv
  have HRD := hide hrd
  clear hrd
  have HCV := hide (conv_lead1 L.length hl)
  have hr' := fun (a b : Obj) => heap_alloc2_old w a b
  have hr1' := fun (a b : Obj) => heap_alloc2_new w a b
  have hb' := fun (a b : Obj) => ((Below.refl w.heap.size w).alloc (Nat.le_refl _) a).alloc (by simp) b
  go_enter Tryz.func134, Tryz.ntmps134
  go_upto_region 2 with fail
  generalize hW : World.alloc (World.alloc w _) _ = w1
  have hr0 : ∃ z : Array Value, z.size = 9 ∧ w1.heap[w.heap.size]? = some (.cells z 150 (0, 0)) := by rw [← hW]; exact ⟨_, rfl, hr' _ _⟩
  have hr1 : w1.heap[w.heap.size + 1]? = some (.cells #[I 0, I 0, I 0, I 0, I L.length, Sv [], I 0, I 0, .slice a L.length c] 150 (0, 0)) := by rw [← hW]; exact hr1' _ _
  have hb1 : Below w.heap.size w w1 := by rw [← hW]; exact hb' _ _
  have hs1 : w.heap.size + 1 < w1.heap.size := (Array.getElem?_eq_some_iff.1 hr1).1
  clear hW hr' hr1' hb'
  have hcv := HCV.out w1
  have HR2 := hide (fun o j (hj : j < w1.heap.size) => Below.heap_alloc w1 o j hj)
  have hc5 : ∀ o, (w1.alloc o).cell? ⟨w.heap.size + 1, 5, none⟩ = some (Sv []) := fun o => by rw [World.cell?_alloc_lt _ _ _ hs1, cell_of_row _ _ _ _ _ _ hr1]; rfl
  have hf5 : ∀ o, (w1.alloc o).frozen? ⟨w.heap.size + 1, 5, none⟩ = false := fun o => frozen_of_row _ _ _ _ _ ((HR2.out o _ hs1).trans hr1)
  have HB2 := hide (fun o => hb1.alloc (show w.heap.size ≤ w1.heap.size by omega) o)
  have HST := hide (fun o => show LeafAt w L (.slice a L.length c) 0 ((w1.setCell ⟨w.heap.size + 1, 5, none⟩ (Sv (leafTo L 0))).alloc o) from by
    obtain ⟨z, hz, hzr⟩ := hr0
    have hz1 : (w1.setCell ⟨w.heap.size + 1, 5, none⟩ (Sv (leafTo L 0))).heap.size = w1.heap.size := by simp
    refine ⟨⟨z, hz, ?_⟩, ?_, (hb1.setCell (by show w.heap.size ≤ w.heap.size + 1; omega) _).alloc (by omega) _⟩
    · rw [Below.heap_alloc _ _ _ (by omega), heap_setCell_other _ _ _ _ (by show w.heap.size ≠ w.heap.size + 1; omega)]; exact hzr
    · rw [Below.heap_alloc _ _ _ (by omega), heap_setCell_same _ _ _ _ _ _ hr1]; rfl)
  clear hr0 hr1 hb1 HCV HB2 HR2
  go_upto_region 4 with fail
  generalize hW : World.alloc (World.setCell _ _ _) _ = w2
  have HL2 := hide (show LeafAt w L (.slice a L.length c) 0 w2 from by rw [← hW]; exact HST.out _)
  clear hW HST hcv hc5 hf5 hs1
  go_loopw [4] (fun iv wq => ∃ i : Nat, i ≤ L.length ∧ iv = .int .i64 i ∧ LeafAt w L (.slice a L.length c) i wq) (fun iv _ => L.length - (intOf iv).toNat)
  case atStart => exact ⟨0, by omega, rfl, HL2.out⟩
  case round =>
    clear HL2
    obtain ⟨i, hi, rfl, hla⟩ := hrel
    have HLA := hide hla
    by_cases hlt : i < L.length
    · obtain ⟨g, o, rfl, hp⟩ := HRD.out (fun e => by subst e; simp at hlt)
      have hpi := (hp i hlt).below hla.bl (hp i hlt).lt
      have HTX := hide (leafTo_succ L i hlt)
      have HBX := hide (show (i = 0 → boxTo L (i + 1) = Ward.join (Ward.boxOf L[i]) (Ward.boxOf L[i])) ∧ (i ≠ 0 → boxTo L (i + 1) = Ward.join (boxTo L i) (Ward.boxOf L[i])) from ⟨fun e => by subst e; exact boxTo_one L hlt, fun e => boxTo_succ L i hlt e⟩)
      have hln := leafTo_len L i hl
      generalize L[i] = q at *
      obtain ⟨pi, px, py⟩ := q
      obtain ⟨q0, q1, q2⟩ := hpi
      have hsw : w.heap.size + 1 < wr.heap.size := (Array.getElem?_eq_some_iff.1 hla.r1).1
      have HN3 := hide (fun o => heap_alloc_new wr o)
      have HO3 := hide (fun o j (hj : j < wr.heap.size) => Below.heap_alloc wr o j hj)
      have HB3 := hide (fun o => hla.bl.alloc (show w.heap.size ≤ wr.heap.size by omega) o)
      clear hla hp
      dsimp only at q0 q1 q2 HTX HBX
      go_upto_region 7 with fail
      generalize hW : World.alloc wr _ = w3
      obtain ⟨gx, hgx⟩ : ∃ gx, gx = wr.heap.size := ⟨_, rfl⟩
      rw [← hgx] at HN3 HO3 hsw
      rw [← hgx]
      have hx3 : w3.heap[gx]? = some (.cells #[I pi, I px, I py] 36 (0, 0)) := by rw [← hW]; exact HN3.out _
      have h13 : w3.heap[w.heap.size + 1]? = some (.cells (partV (boxTo L i) L.length (leafTo L i) 0 0 (.slice (some ⟨g, o, none⟩) L.length c)) 150 (0, 0)) := by rw [← hW]; exact (HO3.out _ _ hsw).trans HLA.out.r1
      have H03 := hide (show ∃ z : Array Value, z.size = 9 ∧ w3.heap[w.heap.size]? = some (.cells z 150 (0, 0)) by
        obtain ⟨z, hz, hzr⟩ := HLA.out.r0
        rw [← hW]; exact ⟨z, hz, (HO3.out _ _ (by omega)).trans hzr⟩)
      have HB33 := hide (show Below w.heap.size w w3 by rw [← hW]; exact HB3.out _)
      have hs3 : gx < w3.heap.size := (Array.getElem?_eq_some_iff.1 hx3).1
      clear hW HN3 HO3 HB3 HLA q0 q1 q2 hgx
      have HSI := hide (fun W => signed_ref pi W)
      have HSX := hide (fun W => signed_ref px W)
      have HSY := hide (fun W => signed_ref py W)
      have l1 : (Ward.fourI pi).length = 4 := rfl
      have l2 : (Ward.fourI px).length = 4 := rfl
      have l3 : (Ward.fourI py).length = 4 := rfl
      generalize Ward.fourI pi = fi at *
      generalize Ward.fourI px = fx at *
      generalize Ward.fourI py = fy at *
      obtain ⟨T0, hT0⟩ : ∃ T, leafTo L i = T := ⟨_, rfl⟩
      rw [hT0] at h13 HTX hln
      clear hT0
      have ha1 := add_str T0 fi (by omega)
      have ha2 := add_str (T0 ++ fi) fx (by rw [List.length_append]; omega)
      have ha3 := add_str (T0 ++ fi ++ fx) fy (by rw [List.length_append, List.length_append]; omega)
      generalize T0 ++ fi ++ fx ++ fy = T3 at *
      generalize T0 ++ fi ++ fx = T2 at *
      generalize T0 ++ fi = T1 at *
      clear l1 l2 l3 hln
      have hS : (w3.cell? ⟨gx, 0, none⟩ = some (I pi) ∧ w3.cell? ⟨gx, 1, none⟩ = some (I px) ∧ w3.cell? ⟨gx, 2, none⟩ = some (I py)) := row3 hx3
      have t3 : w3.cell? ⟨w.heap.size + 1, 5, none⟩ = some (Sv T0) := by rw [cell_of_row _ _ _ _ _ _ h13]; rfl
      have HX3 := hide hx3
      have H13 := hide h13
      clear hx3 h13
      go_cut [] from 27 to 41 (fun wx => Below w.heap.size w wx ∧ (∃ z : Array Value, z.size = 9 ∧ wx.heap[w.heap.size]? = some (.cells z 150 (0, 0))) ∧ wx.heap[w.heap.size + 1]? = some (.cells (partV (boxTo L i) L.length T3 0 0 (.slice (some ⟨g, o, none⟩) L.length c)) 150 (0, 0)) ∧ wx.heap[gx]? = some (.cells #[I pi, I px, I py] 36 (0, 0)))
      case first =>
        have hS' : (w3.drew.cell? ⟨gx, 0, none⟩ = some (I pi) ∧ w3.drew.cell? ⟨gx, 1, none⟩ = some (I px) ∧ w3.drew.cell? ⟨gx, 2, none⟩ = some (I py)) := by simpa using hS
        have HCL := hide (fun (W W' : World) (hb : Below W.heap.size W W') (hg : gx < W.heap.size) (h : W.cell? ⟨gx, 0, none⟩ = some (I pi) ∧ W.cell? ⟨gx, 1, none⟩ = some (I px) ∧ W.cell? ⟨gx, 2, none⟩ = some (I py)) => show W'.cell? ⟨gx, 0, none⟩ = some (I pi) ∧ W'.cell? ⟨gx, 1, none⟩ = some (I px) ∧ W'.cell? ⟨gx, 2, none⟩ = some (I py) from ⟨(hb.cell (p := ⟨gx, 0, none⟩) hg).trans h.1, (hb.cell (p := ⟨gx, 1, none⟩) hg).trans h.2.1, (hb.cell (p := ⟨gx, 2, none⟩) hg).trans h.2.2⟩)
        have HTL := hide (fun (W W' : World) (hb : Below W.heap.size W W') (hg : w.heap.size + 1 < W.heap.size) (h : W.cell? ⟨w.heap.size + 1, 5, none⟩ = some (Sv T0)) => (hb.cell (p := ⟨w.heap.size + 1, 5, none⟩) hg).trans h)
        have hs3' : gx < w3.drew.heap.size := by simpa using hs3
        have hs3'' : w.heap.size + 1 < w3.drew.heap.size := by simp; omega
        have t3' : w3.drew.cell? ⟨w.heap.size + 1, 5, none⟩ = some (Sv T0) := by simpa using t3
        refine wp_region_L 15 (fun W => (W.cell? ⟨gx, 0, none⟩ = some (I pi) ∧ W.cell? ⟨gx, 1, none⟩ = some (I px) ∧ W.cell? ⟨gx, 2, none⟩ = some (I py)) ∧ W.cell? ⟨w.heap.size + 1, 5, none⟩ = some (Sv T0)) (by kernel_rfl) ⟨hS', t3'⟩ (fun hH => ?_)
        refine wpAnyL_take (i := 0) (v := ?_) rfl (by kernel_rfl) (by kernel_rfl) (by kernel_rfl) (by kernel_rfl) (by kernel_rfl) (fun _ _ _ h => h) (Or.inl ⟨by rfl, ?_⟩) hH ?_
        rotate_left
        · intro W hSW
          obtain ⟨⟨x0, x1, x2⟩, xt⟩ := hSW
          go_simp
          try with_reducible rfl
        try go_simp
        refine wpAnyL_take (i := 1) (v := ?_) rfl (by kernel_rfl) (by kernel_rfl) (by kernel_rfl) (by kernel_rfl) (by kernel_rfl) (fun _ _ _ h => h) (Or.inl ⟨by rfl, ?_⟩) hH ?_
        rotate_left
        · intro W hSW
          obtain ⟨⟨x0, x1, x2⟩, xt⟩ := hSW
          go_simp
          try with_reducible rfl
        try go_simp
        refine wpAnyL_take (i := 2) (v := ?_) rfl (by kernel_rfl) (by kernel_rfl) (by kernel_rfl) (by kernel_rfl) (by kernel_rfl) (fun _ _ _ h => h) (Or.inl ⟨by rfl, ?_⟩) hH ?_
        rotate_left
        · intro W hSW
          obtain ⟨⟨x0, x1, x2⟩, xt⟩ := hSW
          go_simp
          try with_reducible rfl
        try go_simp
        refine wpAnyL_take (i := 3) (v := ?_) rfl (by kernel_rfl) (by kernel_rfl) (by kernel_rfl) (by kernel_rfl) (by kernel_rfl) (fun _ _ _ h => h) (Or.inl ⟨by rfl, ?_⟩) hH ?_
        rotate_left
        · intro W hSW
          obtain ⟨⟨x0, x1, x2⟩, xt⟩ := hSW
          go_simp
          try with_reducible rfl
        try go_simp
        refine wpAnyL_take (i := 6) (v := ?_) rfl (by kernel_rfl) (by kernel_rfl) (by kernel_rfl) (by kernel_rfl) (by kernel_rfl) (fun _ _ _ h => h) (Or.inl ⟨by rfl, ?_⟩) hH ?_
        rotate_left
        · intro W hSW
          obtain ⟨⟨x0, x1, x2⟩, xt⟩ := hSW
          go_simp
          try with_reducible rfl
        try go_simp
        refine wpAnyL_take (i := 7) (v := ?_) rfl (by kernel_rfl) (by kernel_rfl) (by kernel_rfl) (by kernel_rfl) (by kernel_rfl) (fun _ _ _ h => h) (Or.inl ⟨by rfl, ?_⟩) hH ?_
        rotate_left
        · intro W hSW
          obtain ⟨⟨x0, x1, x2⟩, xt⟩ := hSW
          go_simp
          try with_reducible rfl
        try go_simp
        refine wpAnyL_take (i := 10) (v := ?_) rfl (by kernel_rfl) (by kernel_rfl) (by kernel_rfl) (by kernel_rfl) (by kernel_rfl) (fun _ _ _ h => h) (Or.inl ⟨by rfl, ?_⟩) hH ?_
        rotate_left
        · intro W hSW
          obtain ⟨⟨x0, x1, x2⟩, xt⟩ := hSW
          go_simp
          try with_reducible rfl
        try go_simp
        refine wpAnyL_take (i := 11) (v := ?_) rfl (by kernel_rfl) (by kernel_rfl) (by kernel_rfl) (by kernel_rfl) (by kernel_rfl) (fun _ _ _ h => h) (Or.inl ⟨by rfl, ?_⟩) hH ?_
        rotate_left
        · intro W hSW
          obtain ⟨⟨x0, x1, x2⟩, xt⟩ := hSW
          go_simp
          try with_reducible rfl
        try go_simp
        refine wpAnyL_one (i := 4) (by kernel_rfl) rfl (fun K hK => ?_)
        go_simp
        refine (HSI.out _).mono ?_
        rintro _ w4 ⟨rfl, hb4⟩
        have hS4 := HCL.out _ _ hb4 hs3' hS'
        have t4 := HTL.out _ _ hb4 hs3'' t3'
        have hs4 : w3.heap.size ≤ w4.heap.size := hb4.size
        have hB4 : Below w3.heap.size w3 w4 := (show Below w3.heap.size w3 w3.drew from (Below.refl _ _).drew).trans hb4
        refine hK.out _ _ (fun _ => ⟨hS4, t4⟩) ?_
        clear hK K hb4
        try go_simp
        refine wpAnyL_take (i := 5) (v := ?_) rfl (by kernel_rfl) (by kernel_rfl) (by kernel_rfl) (by kernel_rfl) (by kernel_rfl) (fun _ _ _ h => h) (Or.inl ⟨by rfl, ?_⟩) ⟨hS4, t4⟩ ?_
        rotate_left
        · intro W hSW
          obtain ⟨⟨x0, x1, x2⟩, xt⟩ := hSW
          go_simp
          try with_reducible rfl
        try go_simp
        refine wpAnyL_one (i := 8) (by kernel_rfl) rfl (fun K hK => ?_)
        go_simp
        refine (HSX.out _).mono ?_
        rintro _ w5 ⟨rfl, hb5⟩
        have hS5 := HCL.out _ _ hb5 (by omega) hS4
        have t5 := HTL.out _ _ hb5 (by omega) t4
        have hs5 : w4.heap.size ≤ w5.heap.size := hb5.size
        have hB5 := hB4.trans (hb5.mono hs4)
        refine hK.out _ _ (fun _ => ⟨hS5, t5⟩) ?_
        clear hK K hb5
        try go_simp
        refine wpAnyL_take (i := 9) (v := ?_) rfl (by kernel_rfl) (by kernel_rfl) (by kernel_rfl) (by kernel_rfl) (by kernel_rfl) (fun _ _ _ h => h) (Or.inl ⟨by rfl, ?_⟩) ⟨hS5, t5⟩ ?_
        rotate_left
        · intro W hSW
          obtain ⟨⟨x0, x1, x2⟩, xt⟩ := hSW
          go_simp
          try with_reducible rfl
        try go_simp
        refine wpAnyL_one (i := 12) (by kernel_rfl) rfl (fun K hK => ?_)
        go_simp
        refine (HSY.out _).mono ?_
        rintro _ w6 ⟨rfl, hb6⟩
        have hS6 := HCL.out _ _ hb6 (by omega) hS5
        have t6 := HTL.out _ _ hb6 (by omega) t5
        have hs6 : w5.heap.size ≤ w6.heap.size := hb6.size
        have hB6 := hB5.trans (hb6.mono (show w3.heap.size ≤ w5.heap.size by omega))
        have r6 := (hB6.block (w.heap.size + 1) (by omega)).trans H13.out
        have f6 : w6.frozen? ⟨w.heap.size + 1, 5, none⟩ = false := frozen_of_row _ _ _ _ _ r6
        have R6 := hide r6
        refine hK.out _ _ (fun _ => ⟨hS6, t6⟩) ?_
        clear hK K hb6 r6
        try go_simp
        refine wpAnyL_take (i := 13) (v := ?_) rfl (by kernel_rfl) (by kernel_rfl) (by kernel_rfl) (by kernel_rfl) (by kernel_rfl) (fun _ _ _ h => h) (Or.inl ⟨by rfl, ?_⟩) ⟨hS6, t6⟩ ?_
        rotate_left
        · intro W hSW
          obtain ⟨⟨x0, x1, x2⟩, xt⟩ := hSW
          go_simp
          try with_reducible rfl
        try go_simp
        refine wpAnyL_take (i := 14) (v := ?_) rfl (by kernel_rfl) (by kernel_rfl) (by kernel_rfl) (by kernel_rfl) (by kernel_rfl) (fun _ _ _ h => h) (Or.inl ⟨by rfl, ?_⟩) ⟨hS6, t6⟩ ?_
        rotate_left
        · intro W hSW
          obtain ⟨⟨x0, x1, x2⟩, xt⟩ := hSW
          go_simp
          try with_reducible rfl
        try go_simp
        refine wpAnyL_one (i := 15) (by kernel_rfl) rfl (fun K hK => ?_)
        go_simp
        refine hK.out _ _ (fun h => absurd rfl h) ?_
        clear hK K
        refine wpAnyL_done (by kernel_rfl) ?_ _
        go_wp2_with fail
        go_meet
        refine ⟨?_, ?_, ?_, ?_⟩
        · exact (HB33.out.trans (hB6.mono (by omega))).setCell (by show w.heap.size ≤ w.heap.size + 1; omega) _
        · obtain ⟨z, hz, hzr⟩ := H03.out
          refine ⟨z, hz, ?_⟩
          rw [heap_setCell_other _ _ _ _ (by show w.heap.size ≠ w.heap.size + 1; omega)]
          exact (hB6.block w.heap.size (by omega)).trans hzr
        · rw [heap_setCell_same _ _ _ _ _ _ R6.out]
          rfl
        · rw [heap_setCell_other _ _ _ _ (by show gx ≠ w.heap.size + 1; omega)]
          exact (hB6.block gx hs3).trans HX3.out
      case rest =>
        obtain ⟨hbc, h0c, h1c, hxc⟩ := hcut
        obtain ⟨x0, x1, x2⟩ := row3 hxc
        have hsc : gx < wc.heap.size := (Array.getElem?_eq_some_iff.1 hxc).1
        have hT3 := HTX.out
        rw [← hT3] at h1c
        clear hT3 HTX ha1 ha2 ha3 hS t3 HX3 H13 H03 HB33 hxc
        have HBOX := hide (show Ward.boxOf ⟨pi, px, py⟩ = ⟨px, py, px, py⟩ from rfl)
        obtain ⟨gb, hgb⟩ : ∃ gb, gb = wc.heap.size := ⟨_, rfl⟩
        have HN8 := hide (fun o => heap_alloc_new wc o)
        have HO8 := hide (fun o j (hj : j < wc.heap.size) => Below.heap_alloc wc o j hj)
        have HB8 := hide (fun o => hbc.alloc (show w.heap.size ≤ wc.heap.size by omega) o)
        have HB0 := hide h0c
        have HB1 := hide h1c
        clear h0c
        by_cases hi0 : i = 0
        · have HJ := hide (HBX.out.1 hi0)
          rw [HBOX.out] at HJ
          obtain ⟨y0, y1, y2, y3, yf⟩ := cells4 h1c
          have hlt1 : w.heap.size + 1 < wc.heap.size := by omega
          have hy0 : ∀ o, (wc.alloc o).cell? ⟨w.heap.size + 1, 0, none⟩ = some (I (boxTo L i).a) := fun o => by rw [World.cell?_alloc_lt _ _ _ hlt1]; exact y0
          have hy1 : ∀ o, (wc.alloc o).cell? ⟨w.heap.size + 1, 1, none⟩ = some (I (boxTo L i).b) := fun o => by rw [World.cell?_alloc_lt _ _ _ hlt1]; exact y1
          have hy2 : ∀ o, (wc.alloc o).cell? ⟨w.heap.size + 1, 2, none⟩ = some (I (boxTo L i).c) := fun o => by rw [World.cell?_alloc_lt _ _ _ hlt1]; exact y2
          have hy3 : ∀ o, (wc.alloc o).cell? ⟨w.heap.size + 1, 3, none⟩ = some (I (boxTo L i).d) := fun o => by rw [World.cell?_alloc_lt _ _ _ hlt1]; exact y3
          have hyf : ∀ o j, (wc.alloc o).frozen? ⟨w.heap.size + 1, j, none⟩ = false := fun o j => frozen_of_row _ _ _ _ _ ((HO8.out o _ hlt1).trans HB1.out)
          have KEY := hide (fun (ob : Obj) => show ((((((wc.setCell ⟨w.heap.size + 1, 0, none⟩ (I px)).setCell ⟨w.heap.size + 1, 1, none⟩ (I py)).setCell ⟨w.heap.size + 1, 2, none⟩ (I px)).setCell ⟨w.heap.size + 1, 3, none⟩ (I py)).alloc ob).heap[w.heap.size + 1]? = some (.cells (partV ⟨px, py, px, py⟩ L.length (leafTo L (i + 1)) 0 0 (.slice (some ⟨g, o, none⟩) L.length c)) 150 (0, 0)))
            ∧ (((((wc.setCell ⟨w.heap.size + 1, 0, none⟩ (I px)).setCell ⟨w.heap.size + 1, 1, none⟩ (I py)).setCell ⟨w.heap.size + 1, 2, none⟩ (I px)).setCell ⟨w.heap.size + 1, 3, none⟩ (I py)).alloc ob).heap[gb]? = some ob
            ∧ Below w.heap.size w (((((wc.setCell ⟨w.heap.size + 1, 0, none⟩ (I px)).setCell ⟨w.heap.size + 1, 1, none⟩ (I py)).setCell ⟨w.heap.size + 1, 2, none⟩ (I px)).setCell ⟨w.heap.size + 1, 3, none⟩ (I py)).alloc ob)
            ∧ (∃ z : Array Value, z.size = 9 ∧ (((((wc.setCell ⟨w.heap.size + 1, 0, none⟩ (I px)).setCell ⟨w.heap.size + 1, 1, none⟩ (I py)).setCell ⟨w.heap.size + 1, 2, none⟩ (I px)).setCell ⟨w.heap.size + 1, 3, none⟩ (I py)).alloc ob).heap[w.heap.size]? = some (.cells z 150 (0, 0)))
            ∧ wc.heap.size ≤ (((((wc.setCell ⟨w.heap.size + 1, 0, none⟩ (I px)).setCell ⟨w.heap.size + 1, 1, none⟩ (I py)).setCell ⟨w.heap.size + 1, 2, none⟩ (I px)).setCell ⟨w.heap.size + 1, 3, none⟩ (I py)).alloc ob).heap.size from by
            have q1 := part_set4 px py px py HB1.out
            have q2 := set4_below px py px py hbc (show w.heap.size ≤ w.heap.size + 1 by omega)
            have q3 := fun j (hj : j ≠ w.heap.size + 1) => set4_other (w := wc) px py px py hj
            have q4 : ((((wc.setCell ⟨w.heap.size + 1, 0, none⟩ (I px)).setCell ⟨w.heap.size + 1, 1, none⟩ (I py)).setCell ⟨w.heap.size + 1, 2, none⟩ (I px)).setCell ⟨w.heap.size + 1, 3, none⟩ (I py)).heap.size = wc.heap.size := by simp
            generalize ((((wc.setCell ⟨w.heap.size + 1, 0, none⟩ (I px)).setCell ⟨w.heap.size + 1, 1, none⟩ (I py)).setCell ⟨w.heap.size + 1, 2, none⟩ (I px)).setCell ⟨w.heap.size + 1, 3, none⟩ (I py)) = W at *
            refine ⟨(Below.heap_alloc W ob _ (by omega)).trans q1, ?_, q2.alloc (by omega) _, ?_, by rw [World.size_alloc]; omega⟩
            · rw [hgb, ← q4]; exact heap_alloc_new W ob
            · obtain ⟨z, hz, hzr⟩ := HB0.out
              exact ⟨z, hz, (Below.heap_alloc W ob _ (by omega)).trans ((q3 _ (by omega)).trans hzr)⟩)
          go_upto_region 11 with fail
          generalize hW : World.alloc _ _ = w8
          have HR8 := hide (show w8.heap[w.heap.size + 1]? = some (.cells (partV ⟨px, py, px, py⟩ L.length (leafTo L (i + 1)) 0 0 (.slice (some ⟨g, o, none⟩) L.length c)) 150 (0, 0)) by rw [← hW]; exact (KEY.out _).1)
          have HG8 := hide (show w8.heap[gb]? = some (.cells #[I px, I py, I px, I py] 148 (0, 0)) by rw [← hW]; exact (KEY.out _).2.1)
          have HBB8 := hide (show Below w.heap.size w w8 by rw [← hW]; exact (KEY.out _).2.2.1)
          have H08 := hide (show ∃ z : Array Value, z.size = 9 ∧ w8.heap[w.heap.size]? = some (.cells z 150 (0, 0)) by rw [← hW]; exact (KEY.out _).2.2.2.1)
          have HS8 := hide (show wc.heap.size ≤ w8.heap.size by rw [← hW]; exact (KEY.out _).2.2.2.2)
          try rw [← hgb]
          clear hW hy0 hy1 hy2 hy3 hyf y0 y1 y2 y3 yf hbc h1c x0 x1 x2 hgb HN8 HO8 HB8 hlt1 HB1 KEY
          have hs8 : gx < w8.heap.size := Nat.lt_of_lt_of_le hsc HS8.out
          obtain ⟨k0, k1, k2, k3, kf⟩ := cells4 HR8.out
          obtain ⟨m0, m1, m2, m3⟩ : Box4 w8 gb 0 px py px py := ⟨by rw [cell_of_row _ _ _ _ _ _ HG8.out]; rfl, by rw [cell_of_row _ _ _ _ _ _ HG8.out]; rfl, by rw [cell_of_row _ _ _ _ _ _ HG8.out]; rfl, by rw [cell_of_row _ _ _ _ _ _ HG8.out]; rfl⟩
          try dsimp only at k0 k1 k2 k3
          go_wp2_with fail
          refine (both_ref ⟨px, py, px, py⟩ ⟨px, py, px, py⟩ _).mono ?_
          rintro _ w9 ⟨rfl, hb9⟩
          have HR9 := hide ((hb9.block (w.heap.size + 1) (by omega)).trans HR8.out)
          obtain ⟨n0, n1, n2, n3, nf⟩ := cells4 HR9.out
          have HB9 := hide (HBB8.out.trans (hb9.mono (show w.heap.size ≤ w8.heap.size by omega)))
          have H09 := hide (show ∃ z : Array Value, z.size = 9 ∧ w9.heap[w.heap.size]? = some (.cells z 150 (0, 0)) by
            obtain ⟨z, hz, hzr⟩ := H08.out
            exact ⟨z, hz, (hb9.block w.heap.size (by omega)).trans hzr⟩)
          clear hb9 k0 k1 k2 k3 kf m0 m1 m2 m3 HR8 HBB8 H08 HG8
          try dsimp only at n0 n1 n2 n3
          generalize Ward.join ⟨px, py, px, py⟩ ⟨px, py, px, py⟩ = J at *
          obtain ⟨ja, jb, jc, jd⟩ := J
          go_wp2_with fail
          go_roundw
          case rel =>
            refine ⟨i + 1, hlt, by go_num, ?_, ?_, set4_below _ _ _ _ HB9.out (by omega)⟩
            · obtain ⟨z, hz, hzr⟩ := H09.out
              exact ⟨z, hz, (set4_other _ _ _ _ (by omega)).trans hzr⟩
            · rw [HJ.out]
              exact part_set4 _ _ _ _ HR9.out
          case measure => simp [intOf]; omega
        · have hi0' : ((i : Int) == 0) = false := by simp; omega
          have HJ := hide (HBX.out.2 hi0)
          rw [HBOX.out] at HJ
          go_upto_region 11 with fail
          generalize hW : World.alloc _ _ = w8
          generalize boxTo L i = BX at *
          have HR8 := hide (show w8.heap[w.heap.size + 1]? = some (.cells (partV BX L.length (leafTo L (i + 1)) 0 0 (.slice (some ⟨g, o, none⟩) L.length c)) 150 (0, 0)) by
            rw [← hW, Below.heap_alloc _ _ _ (by omega)]
            exact HB1.out)
          have HG8 := hide (show w8.heap[gb]? = some (.cells #[I px, I py, I px, I py] 148 (0, 0)) by
            rw [← hW, hgb]
            exact heap_alloc_new _ _)
          have HBB8 := hide (show Below w.heap.size w w8 by
            rw [← hW]
            exact hbc.alloc (by omega) _)
          have H08 := hide (show ∃ z : Array Value, z.size = 9 ∧ w8.heap[w.heap.size]? = some (.cells z 150 (0, 0)) by
            obtain ⟨z, hz, hzr⟩ := HB0.out
            refine ⟨z, hz, ?_⟩
            rw [← hW, Below.heap_alloc _ _ _ (by omega)]
            exact hzr)
          have HS8 := hide (show wc.heap.size ≤ w8.heap.size by rw [← hW, World.size_alloc]; omega)
          try rw [← hgb]
          clear hW hbc h1c x0 x1 x2 hgb HN8 HO8 HB8 HB1
          have hs8 : gx < w8.heap.size := Nat.lt_of_lt_of_le hsc HS8.out
          obtain ⟨k0, k1, k2, k3, kf⟩ := cells4 HR8.out
          obtain ⟨m0, m1, m2, m3⟩ : Box4 w8 gb 0 px py px py := ⟨by rw [cell_of_row _ _ _ _ _ _ HG8.out]; rfl, by rw [cell_of_row _ _ _ _ _ _ HG8.out]; rfl, by rw [cell_of_row _ _ _ _ _ _ HG8.out]; rfl, by rw [cell_of_row _ _ _ _ _ _ HG8.out]; rfl⟩
          try dsimp only at k0 k1 k2 k3
          go_wp2_with fail
          refine (both_ref BX ⟨px, py, px, py⟩ _).mono ?_
          rintro _ w9 ⟨rfl, hb9⟩
          have HR9 := hide ((hb9.block (w.heap.size + 1) (by omega)).trans HR8.out)
          obtain ⟨n0, n1, n2, n3, nf⟩ := cells4 HR9.out
          have HB9 := hide (HBB8.out.trans (hb9.mono (show w.heap.size ≤ w8.heap.size by omega)))
          have H09 := hide (show ∃ z : Array Value, z.size = 9 ∧ w9.heap[w.heap.size]? = some (.cells z 150 (0, 0)) by
            obtain ⟨z, hz, hzr⟩ := H08.out
            exact ⟨z, hz, (hb9.block w.heap.size (by omega)).trans hzr⟩)
          clear hb9 k0 k1 k2 k3 kf m0 m1 m2 m3 HR8 HBB8 H08 HG8
          try dsimp only at n0 n1 n2 n3
          generalize Ward.join BX ⟨px, py, px, py⟩ = J at *
          obtain ⟨ja, jb, jc, jd⟩ := J
          go_wp2_with fail
          go_roundw
          case rel =>
            refine ⟨i + 1, hlt, by go_num, ?_, ?_, set4_below _ _ _ _ HB9.out (by omega)⟩
            · obtain ⟨z, hz, hzr⟩ := H09.out
              exact ⟨z, hz, (set4_other _ _ _ _ (by omega)).trans hzr⟩
            · rw [HJ.out]
              exact part_set4 _ _ _ _ HR9.out
          case measure => simp [intOf]; omega
    · have ei : i = L.length := by omega
      subst ei
      obtain ⟨⟨z, hz, h0⟩, h1, hb⟩ := hla
      have HF := hide (show partV (Ward.boxL (L.map Ward.boxOf)) L.length (Ward.leafText L) 0 0 (.slice a L.length c) = partV (boxTo L L.length) L.length (leafTo L L.length) 0 0 (.slice a L.length c) by rw [leafTo_all, boxTo, List.take_length])
      have hM9 : (partV (boxTo L L.length) L.length (leafTo L L.length) 0 0 (.slice a L.length c)).size = 9 := rfl
      have hM1 : (partV (boxTo L L.length) L.length (leafTo L L.length) 0 0 (.slice a L.length c)).all (·.oneCell') = true := partV_one _ _ _ _ _ _ rfl
      have H0 := hide h0
      have H1 := hide h1
      have HZ := hide hz
      have HB := hide hb
      generalize partV (boxTo L L.length) L.length (leafTo L L.length) 0 0 (.slice a L.length c) = M at *
      have HM9 := hide hM9
      have HM1 := hide hM1
      clear h0 h1 hb hz hM9 hM1 HLA
      go_wp2_with (first | (refine wpList_load_row rfl 150 (.tmp 3) rfl (w.heap.size + 1) rfl 150 M (0, 0) _ H1.out Tryz.underlying150 rfl (by rw [HM9.out]; exact Tryz.infoPart) ?_) | (refine wpList_store_row rfl 150 (.tmp 2) (.tmp 60) rfl w.heap.size M rfl rfl 150 z H0.out (by rw [HM9.out]; exact Tryz.infoPart) (by rw [HM9.out, HZ.out]) HM1.out ?_))
      refine bodyPost_ret (v := .agg M) ?_ rfl ⟨by rw [HF.out], below_setRow HB.out (by omega) _⟩
      exact results_cell_row rfl _ _ w.heap.size 150 M (0, 0) _ rfl (setRow_heap _ _ _ _ _ _ H0.out) Tryz.underlying150 rfl (by rw [HM9.out]; exact Tryz.infoPart)
end Go.Proofs.YtenaelkbgkpllaaGreatDoor
