/- The document's Verify. -/
import Derived.Test.YtenaelkbgkpllaaGreatDoorAll26
import Derived.Test.YtenaelkbgkpllaaGreatDoorAll18
import Derived.Test.YtenaelkbgkpllaaGreatDoorAll15
import Derived.Deep.CutBlock
import Derived.Test.YtenaelkbgkpllaaGreatDoorAll10
namespace Go.Proofs.YtenaelkbgkpllaaGreatDoor
open Go.RowKit

/-- what stands below: constants, commitment, query -/
structure VBase (w : World) (RV : Array Value) (q : Ward.Qr) (wq : World) : Prop where
  bl : Below w.heap.size w wq
  cs : wq.heap[w.heap.size]? = some (.cells constV.toArray 67 (0, 0))
  rt : wq.heap[w.heap.size + 1]? = some (.cells RV 41 (0, 0))
  qy : wq.heap[w.heap.size + 2]? = some (.cells #[I q.kind, I q.a, I q.b, I q.c, I q.d, I q.x, I q.y, I q.k] 46 (0, 0))
theorem VBase.lt {w wq : World} {RV : Array Value} {q : Ward.Qr} (h : VBase w RV q wq) : w.heap.size + 2 < wq.heap.size := (Array.getElem?_eq_some_iff.1 h.qy).1
theorem VBase.low {w wq w' : World} {RV : Array Value} {q : Ward.Qr} {B : Nat} (h : VBase w RV q wq) (hb : Below B wq w') (hB : w.heap.size + 2 < B) : VBase w RV q w' :=
  ⟨h.bl.trans (hb.mono (by omega)), (hb.block _ (by omega)).trans h.cs, (hb.block _ (by omega)).trans h.rt, (hb.block _ hB).trans h.qy⟩
theorem VBase.below {w wq w' : World} {RV : Array Value} {q : Ward.Qr} (h : VBase w RV q wq) (hb : Below wq.heap.size wq w') : VBase w RV q w' := h.low hb h.lt
theorem heap_alloc3 (w : World) (a b c : Obj) : (((w.alloc a).alloc b).alloc c).heap[w.heap.size]? = some a ∧ (((w.alloc a).alloc b).alloc c).heap[w.heap.size + 1]? = some b ∧ (((w.alloc a).alloc b).alloc c).heap[w.heap.size + 2]? = some c := by
  have h1 := heap_alloc2_old w a b
  have h2 := heap_alloc2_new w a b
  have hs : ((w.alloc a).alloc b).heap.size = w.heap.size + 2 := by simp
  refine ⟨(Below.heap_alloc _ c _ (by omega)).trans h1, (Below.heap_alloc _ c _ (by omega)).trans h2, ?_⟩
  have h3 := heap_alloc_new ((w.alloc a).alloc b) c
  rw [hs] at h3
  exact h3
/-- what is read ahead of Answered -/
def RdLQ (W : World) (r k : Nat) (u : Value) (q : Ward.Qr) : Prop := W.cell? ⟨r, 3, none⟩ = some u ∧ W.cell? ⟨k, 0, none⟩ = some (I q.kind) ∧ W.cell? ⟨k, 1, none⟩ = some (I q.a) ∧ W.cell? ⟨k, 2, none⟩ = some (I q.b) ∧ W.cell? ⟨k, 3, none⟩ = some (I q.c) ∧ W.cell? ⟨k, 4, none⟩ = some (I q.d) ∧ W.cell? ⟨k, 5, none⟩ = some (I q.x) ∧ W.cell? ⟨k, 6, none⟩ = some (I q.y) ∧ W.cell? ⟨k, 7, none⟩ = some (I q.k)
theorem RdLQ.below {W W' : World} {r k B : Nat} {u : Value} {q : Ward.Qr} (h : RdLQ W r k u q) (hb : Below B W W') (hg : r < B) (hk : k < B) : RdLQ W' r k u q := by
  obtain ⟨a0, p0, p1, p2, p3, p4, p5, p6, p7⟩ := h
  have ck := fun i => hb.cell (p := ⟨k, i, none⟩) hk
  exact ⟨(hb.cell (p := ⟨r, 3, none⟩) hg).trans a0, (ck _).trans p0, (ck _).trans p1, (ck _).trans p2, (ck _).trans p3, (ck _).trans p4, (ck _).trans p5, (ck _).trans p6, (ck _).trans p7⟩
theorem RdLQ.drew {W : World} {r k : Nat} {u : Value} {q : Ward.Qr} (h : RdLQ W r k u q) : RdLQ W.drew r k u q := by simpa [RdLQ] using h
/-- a child's cells -/
structure KidCells (W : World) (g : Nat) (c : Ward.Chd) : Prop where
  b0 : W.cell? ⟨g, 0, none⟩ = some (I c.box.a)
  b1 : W.cell? ⟨g, 1, none⟩ = some (I c.box.b)
  b2 : W.cell? ⟨g, 2, none⟩ = some (I c.box.c)
  b3 : W.cell? ⟨g, 3, none⟩ = some (I c.box.d)
  n : W.cell? ⟨g, 4, none⟩ = some (I c.n)
  dig : W.cell? ⟨g, 5, none⟩ = some (Sv c.dig)
  sh : W.cell? ⟨g, 6, none⟩ = some (.bool c.shown)
  r0 : W.cell? ⟨g, 7, none⟩ = some (I c.rbox.a)
  r1 : W.cell? ⟨g, 8, none⟩ = some (I c.rbox.b)
  r2 : W.cell? ⟨g, 9, none⟩ = some (I c.rbox.c)
  r3 : W.cell? ⟨g, 10, none⟩ = some (I c.rbox.d)
  rn : W.cell? ⟨g, 11, none⟩ = some (I c.rn)
  rt : W.cell? ⟨g, 12, none⟩ = some (Sv c.rtext)
theorem kidCells {w : World} {g : Nat} {c : Ward.Chd} {v : Value} (h : w.heap[g]? = some (.cells (kidV c v).toArray 196 (0, 0))) : KidCells w g c := ⟨row_cell h rfl, row_cell h rfl, row_cell h rfl, row_cell h rfl, row_cell h rfl, row_cell h rfl, row_cell h rfl, row_cell h rfl, row_cell h rfl, row_cell h rfl, row_cell h rfl, row_cell h rfl, row_cell h rfl⟩
/-- a pointer to 32 cells -/
def DigAt (w : World) (v : Value) (cs : List Value) : Prop := ∃ g o, v = .pointer (some ⟨g, o, none⟩) ∧ w.rangeAt g o cs ∧ cs.length = 32
def digVal (w : World) (v : Value) : Value := match v with
  | .pointer (some ⟨g, o, _⟩) => .agg ((List.range 32).map fun k => (w.cell? ⟨g, o + k, none⟩).getD (.bool false)).toArray
  | _ => .bool false
theorem digVal_at {w : World} {v : Value} {cs : List Value} (h : DigAt w v cs) : digVal w v = .agg cs.toArray := by
  obtain ⟨g, o, rfl, hr, hl⟩ := h
  have e : ((List.range 32).map fun k => (w.cell? ⟨g, o + k, none⟩).getD (.bool false)) = cs := by
    apply List.ext_getElem
    · rw [List.length_map, List.length_range, hl]
    · intro k h1 h2
      rw [List.getElem_map, List.getElem_range, hr k _ (List.getElem?_eq_getElem h2)]
      rfl
  show Value.agg ((List.range 32).map fun k => (w.cell? ⟨g, o + k, none⟩).getD (.bool false)).toArray = _
  rw [e]
theorem wp_load_dig {d : Option Tmp} {x : Operand} {tt : TypeId} {ps : String} {af : Array Edge} {gd : Option (Nat × Bool)} {a : Act} {w : World} {K : Act → World → Prop} {Q : Exit → Act → World → Prop} (h : ∃ cs, DigAt w (a.eval x) cs) :
    Oper.wp Tryz.prog { dst := d, op := .load 39 x, type := tt, pos := ps, after := af, guard := gd } a w K Q = K (a.put d (digVal w (a.eval x))) w := by
  obtain ⟨cs, hd⟩ := h
  rw [digVal_at hd]
  obtain ⟨g, o, hv, hr, hl⟩ := hd
  have hr := run_loadVar_mid (P := Tryz.prog) w g o 39 cs _ hr Tryz.under22 rfl (by rw [hl]; exact Tryz.info22)
  unfold Oper.wp execOp
  simp only [hv, Instr.loadAt, Instr.sureAddr, Sem.run_bind, Sem.run_pure, Result.andThen_ok, hr]
  rfl
theorem ok_co {L : List Ward.Pt} (h : ∀ p ∈ L, p.Ok) : ∀ p ∈ L, Co p.x ∧ Co p.y := fun p hp => ⟨⟨(h p hp).x1, (h p hp).x2⟩, ⟨(h p hp).y1, (h p hp).y2⟩⟩
attribute [local go_sem ↓] Go.wp_at_zero Go.wp_at_succ wp_load_dig
set_option maxRecDepth 100000 in
set_option maxHeartbeats 16000000 in
theorem rverify_any (root : List UInt8) (count : Int) (q : Ward.Qr) (s : List UInt8) (w : World) (hroot : root.length = 32) (hs : s.length ≤ 140737488355328) :
    Calls Tryz.prog 99 #[.agg constV.toArray, .agg (rootV root count).toArray, Qv q, Sv s] w (Verified w root count q s) := by
  have HRL := hide hroot
  have HMY := hide (may_ref q)
  have HB0 := hide (fun o o' o'' => (((Below.refl w.heap.size w).alloc (Nat.le_refl _) o).alloc (by simp) o').alloc (by simp; omega) o'')
  have HA3 := hide (heap_alloc3 w)
  have HRV := hide (show ∃ RV : List Value, rootV root count = RV from ⟨_, rfl⟩)
  obtain ⟨RV, hRV⟩ := HRV.out
  obtain ⟨CV, hCV⟩ : ∃ CV : List Value, constV = CV := ⟨_, rfl⟩
  have HCV := hide hCV
  have HRVE := hide hRV
  rw [hRV, hCV]
  clear hroot hRV hCV HRV
  go_enter Tryz.func99, Tryz.ntmps99
  go_upto_region 1 with fail
  generalize hW : World.alloc (World.alloc (World.alloc w _) _) _ = w1
  have HV1 := hide (show VBase w RV.toArray q w1 from by
    rw [← hW]
    refine ⟨HB0.out _ _ _, ?_, (HA3.out _ _ _).2.1, (HA3.out _ _ _).2.2⟩
    rw [HCV.out]
    exact (HA3.out _ _ _).1)
  clear hW HB0 HA3
  obtain ⟨k0, k1, k2, k3, k4, k5, k6, k7⟩ := rowQ8 HV1.out.qy
  obtain ⟨my, hmy⟩ : ∃ r, Ward.mayBe q = r := ⟨_, rfl⟩
  rw [hmy] at HMY
  have HMB := hide hmy
  clear hmy
  go_wp2_with fail
  refine (HMY.out w1).mono ?_
  rintro _ w2 ⟨rfl, hb2⟩
  have HV2 := hide (HV1.out.below hb2)
  clear hb2 k0 k1 k2 k3 k4 k5 k6 k7 HV1 HMY
  cases my with
  | false =>
    have HF := hide (show Ward.verify root count q s = ([], 6) by unfold Ward.verify; rw [if_pos HMB.out])
    go_wp2_with fail
    go_ret2
    exact verified_nil HF.out HV2.out.bl
  | true =>
    have HN3 := hide (heap_alloc_new w2)
    have HB3 := hide (fun o => (Below.refl w2.heap.size w2).alloc (Nat.le_refl _) o)
    go_upto_region 5 with fail
    generalize hW : World.alloc w2 _ = w3
    have HV3 := hide (show VBase w RV.toArray q w3 by rw [← hW]; exact HV2.out.below (HB3.out _))
    have HL3 := hide (show LookAt w3 w2.heap.size w2.heap.size s 0 false (.slice none 0 0) (.slice none 0 0) [] [] from ⟨by rw [← hW]; exact HN3.out _, World.ownsRow_nil _ _ _ _, kidsRow_nil _ _, Nat.le_refl _⟩)
    have hs2 := HV2.out.lt
    have hs3 : w2.heap.size < w3.heap.size := HL3.out.lt
    obtain ⟨gl, hgl⟩ : ∃ gl, w2.heap.size = gl := ⟨_, rfl⟩
    rw [hgl] at HL3 hs2 hs3 ⊢
    clear hW HN3 HB3 HV2 hgl
    have HPC := hide (look_root 1 w3 gl gl s 0 _ _ [] [] rfl HL3.out (by omega) (by omega) hs (by decide) (by decide))
    go_wp2_with fail
    refine HPC.out.mono ?_
    rintro _ w4 ⟨b, n, x, v, vL, vK, L, K, j, bad, rfl, hv, hx, hl4, ht4, hj, h1, h2, h3⟩
    have HV4 := hide (HV3.out.low (LookTo.low HL3.out ht4 (by omega)) hs2)
    have HL4 := hide hl4
    have HM9 := hide (show (partV b n x 0 0 v).size = 9 from rfl)
    have HM1 := hide (partV_one b n x 0 0 v hv)
    have HN5 := hide (heap_alloc_new w4 (.cells (partV b n x 0 0 v) 150))
    have HB5 := hide ((Below.refl w4.heap.size w4).alloc (Nat.le_refl _) (.cells (partV b n x 0 0 v) 150))
    obtain ⟨M, hM⟩ : ∃ M, partV b n x 0 0 v = M := ⟨_, rfl⟩
    rw [hM] at HM9 HM1 HN5 HB5 ⊢
    have HM := hide hM
    have HIS := hide h3
    have hlL : L.length ≤ 29000 := Nat.le_trans h1 (by decide)
    have hlK : K.length ≤ 29000 := Nat.le_trans h2 (by decide)
    have hsl4 := hl4.lt
    clear hM hl4 ht4 h1 h2 h3 HPC HL3 HV3 hv
    go_upto_region 6 with (refine wpList_store_row rfl 150 (.tmp 12) (.tmp 29) rfl w4.heap.size M rfl rfl 150 _ (heap_alloc_new w4 _) (by rw [HM9.out]; exact Tryz.infoPart) (by rw [HM9.out]; rfl) HM1.out ?_; rw [World.setRow_alloc_new])
    generalize w4.alloc (.cells M 150) = w5 at HN5 HB5 ⊢
    have HV5 := hide (HV4.out.below HB5.out)
    have HL5 := hide (HL4.out.below HB5.out)
    have hs5 : w4.heap.size < w5.heap.size := (Array.getElem?_eq_some_iff.1 HN5.out).1
    obtain ⟨gr, hgr⟩ : ∃ gr, w4.heap.size = gr := ⟨_, rfl⟩
    rw [hgr] at HN5 hs5 hsl4 ⊢
    clear HV4 HL4 HB5 HM9 HM1 hgr
    have y1 : w5.cell? ⟨gl, 1, none⟩ = some (I j) := row_cell HL5.out.row rfl
    have y2 : w5.cell? ⟨gl, 2, none⟩ = some (.bool bad) := row_cell HL5.out.row rfl
    have hsz : (⟨s.toArray⟩ : ByteArray).size = s.length := by show s.toArray.size = _; rw [List.size_toArray]
    cases bad with
    | true =>
      have HF := hide (Ward.look_bad (s := s) (.inl (by
        rcases HIS.out with ⟨_, h⟩ | ⟨h, _⟩
        · exact h
        · cases h)) root count q HMB.out)
      go_wp2_with fail
      go_ret2
      exact verified_nil HF.out HV5.out.bl
    | false =>
      obtain ⟨t, hpg⟩ : ∃ t, Ward.PartGood 6 true s 0 [] [] t j L K b n x := by
        rcases HIS.out with ⟨h, _⟩ | ⟨_, h⟩
        · cases h
        · exact h
      by_cases hjs : j = s.length
      · have HLG := hide (Ward.look_good hpg hjs)
        clear hpg HIS
        subst hjs
        obtain ⟨aL, cL, eL⟩ := HL5.out.pts.slice
        subst eL
        have y3 : w5.cell? ⟨gl, 3, none⟩ = some (.slice aL L.length cL) := row_cell HL5.out.row rfl
        go_upto_region 8 with fail
        have hS : RdLQ w5 gl (w.heap.size + 2) (.slice aL L.length cL) q := ⟨y3, rowQ8 HV5.out.qy⟩
        have HAD := hide (fun W (hb : Below w5.heap.size w5 W) => answered_ref q (.slice aL L.length cL) L W HMB.out (HL5.out.pts.reads.below hb) HLG.out.ids (ok_co HLG.out.ok) (by omega))
        have hlt5 : gl < w5.heap.size := by omega
        have hqt5 : w.heap.size + 2 < w5.heap.size := HV5.out.lt
        have HLA := hide (ans_short (q := q) (K := L))
        have HCO := hide (ans_co (q := q) (ok_co HLG.out.ok))
        have HVR := hide (HLG.out.is root count q HMB.out)
        obtain ⟨A, hA⟩ : ∃ A, Ward.ans q L = A := ⟨_, rfl⟩
        rw [hA] at HAD HLA HCO HVR
        clear hA y1 y2
        go_cut [13] from 43 to 48 (fun v13 wx => Own wx w5.heap.size v13 A ∧ Below w5.heap.size w5 wx)
        case first =>
          obtain ⟨s0, t0, t1, t2, t3, t4, t5, t6, t7⟩ := id hS
          go_region_held3 (fun W => W.cell? ⟨gl, 3, none⟩ = some (.slice aL L.length cL) ∧ W.cell? ⟨w.heap.size + 2, 0, none⟩ = some (I q.kind) ∧ W.cell? ⟨w.heap.size + 2, 1, none⟩ = some (I q.a) ∧ W.cell? ⟨w.heap.size + 2, 2, none⟩ = some (I q.b) ∧ W.cell? ⟨w.heap.size + 2, 3, none⟩ = some (I q.c) ∧ W.cell? ⟨w.heap.size + 2, 4, none⟩ = some (I q.d) ∧ W.cell? ⟨w.heap.size + 2, 5, none⟩ = some (I q.x) ∧ W.cell? ⟨w.heap.size + 2, 6, none⟩ = some (I q.y) ∧ W.cell? ⟨w.heap.size + 2, 7, none⟩ = some (I q.k)) (first | assumption | exact hS | exact hS.drew | exact hS6) ((go_at_call 103; refine (HAD.out _ ((Below.refl _ _).drew)).mono ?_; rintro _ w6 ⟨v6, rfl, ho6, hb6⟩; have hS6 := hS.drew.below hb6 (by simpa using hlt5) (by simpa using hqt5); have hB6 : Below w5.heap.size w5 w6 := (show Below w5.heap.size w5 w5.drew from (Below.refl _ _).drew).trans hb6))
          all_goals
            go_wp2_with fail
            go_meet
            exact ⟨ho6, hB6⟩
        case rest =>
          obtain ⟨hoA, hb6⟩ := hcut
          obtain ⟨aA, cA, eA⟩ := hoA.slice
          subst eA
          have HV6 := hide (HV5.out.below hb6)
          have HL6 := hide (HL5.out.below hb6)
          have HN6 := hide ((hb6.block gr hs5).trans HN5.out)
          have HOA := hide hoA
          have hs6 := hb6.size
          have hlA : A.length ≤ 29000 := Nat.le_trans HLA.out hlL
          obtain ⟨aK, cK, eK⟩ := HL6.out.kids.slice
          subst eK
          have HKO := hide HLG.out.kids
          have HTL := hide HLG.out.text
          clear hoA hb6 hS y3 HAD HV5 HL5 HN5 HLG HLA hs5
          generalize wc = w6 at *
          have HMU := hide (fun (c : Ward.Chd) (hc : c ∈ K) W (hb : Below w6.heap.size w6 W) => must_ref c.box q (.slice aA A.length cA) A W HMB.out (Ward.may_in (HKO.out c hc).may).1 (Ward.may_in (HKO.out c hc).may).2 (HOA.out.reads.below hb) HCO.out (by omega))
          obtain ⟨mm, hmm⟩ : ∃ mm, Ward.must q A = mm := ⟨_, rfl⟩
          rw [hmm] at HMU HVR
          clear hmm
          go_upto_region 11 with fail
          go_loopw [14, 15] (fun v14 v15 wq => ∃ i : Nat, i ≤ K.length ∧ v15 = .int .i64 i ∧ v14 = .int .i64 (Ward.worst mm (K.take i) : Nat) ∧ Below w6.heap.size w6 wq) (fun _ v15 _ => K.length - (intOf v15).toNat)
          case atStart => exact ⟨0, by omega, rfl, rfl, Below.refl _ _⟩
          case round =>
            obtain ⟨i, hi, rfl, rfl, hbr⟩ := hrel
            have HBR := hide hbr
            have hsr := hbr.size
            have c4 : wr.cell? ⟨gl, 4, none⟩ = some (.slice aK K.length cK) := row_cell ((hbr.block gl (by omega)).trans HL6.out.row) rfl
            by_cases hiK : i < K.length
            · have hiI : (i : Int) < (K.length : Int) := by omega
              obtain ⟨g, ck, xk, ek, -, hgl2, -, hxk, hrg⟩ := HL6.out.kids.at i hiK
              injection ek with ek1 ek2 ek3
              subst ek1
              have HWS := hide (show Ward.worst mm (K.take (i + 1)) = Ward.least (Ward.worst mm (K.take i)) (Ward.code mm K[i]) by rw [List.take_succ_eq_append_getElem hiK, Ward.worst_snoc])
              have HKK := hide (HKO.out K[i] (List.getElem_mem hiK))
              have HMC := hide (HMU.out K[i] (List.getElem_mem hiK))
              generalize K[i] = c at *
              have hrg' : wr.rangeAt g (i * 16) (kidV c xk) := fun k v hv => (hbr.cell (p := ⟨g, i * 16 + k, none⟩) hgl2).trans (hrg k v hv)
              obtain ⟨U, hU⟩ : ∃ U, kidV c xk = U := ⟨_, rfl⟩
              rw [hU] at hrg'
              have HU := hide hU
              have HU16 := hide (show U.length = 16 by rw [← hU]; rfl)
              have HUS := hide (show U.toArray.size = 16 by rw [← hU]; rfl)
              have HU1 := hide (show U.toArray.all (·.oneCell') = true by rw [← hU]; exact kidV_all c xk hxk)
              clear hU hrg ek2 ek3 hbr
              go_upto_region 14 with (first | (refine wpList_load_mid rfl 196 (.tmp 63) rfl g (i * 16) rfl U _ hrg' Tryz.underlying196 rfl (by rw [HU16.out]; exact Tryz.infoKid) ?_) | (refine wpList_store_row rfl 196 (.tmp 16) (.tmp 64) rfl wr.heap.size U.toArray rfl rfl 196 _ (heap_alloc_new wr _) (by rw [HUS.out]; exact Tryz.infoKid) (by rw [HUS.out]; rfl) HU1.out ?_; rw [World.setRow_alloc_new]))
              have HK7 := hide (show (wr.alloc (.cells U.toArray 196)).heap[wr.heap.size]? = some (.cells (kidV c xk).toArray 196 (0, 0)) by rw [HU.out]; exact heap_alloc_new wr _)
              have HB7 := hide (HBR.out.trans (((Below.refl wr.heap.size wr).alloc (Nat.le_refl _) (.cells U.toArray 196)).mono hsr))
              generalize wr.alloc (.cells U.toArray 196) = w7 at HK7 HB7 ⊢
              obtain ⟨gk, hgk⟩ : ∃ gk, wr.heap.size = gk := ⟨_, rfl⟩
              rw [hgk] at HK7 hsr ⊢
              have hk7 : gk < w7.heap.size := (Array.getElem?_eq_some_iff.1 HK7.out).1
              clear hgk HU HU16 HUS HU1 c4 hrg'
              have HV7 := hide (HV6.out.below HB7.out)
              obtain ⟨q0, q1, q2, q3, q4, q5, q6, q7⟩ := rowQ8 HV7.out.qy
              have HM7 := hide (HMC.out w7 HB7.out)
              obtain ⟨⟨ca, cb, cc, cdd⟩, cn, cd, csh, ⟨ra, rb, rc, rd⟩, crn, crt⟩ := c
              have HKC := hide (show ∀ W : World, W.heap[gk]? = some (.cells (kidV ⟨⟨ca, cb, cc, cdd⟩, cn, cd, csh, ⟨ra, rb, rc, rd⟩, crn, crt⟩ xk).toArray 196 (0, 0)) → KidCells W gk ⟨⟨ca, cb, cc, cdd⟩, cn, cd, csh, ⟨ra, rb, rc, rd⟩, crn, crt⟩ from fun W h => kidCells h)
              generalize (kidV ⟨⟨ca, cb, cc, cdd⟩, cn, cd, csh, ⟨ra, rb, rc, rd⟩, crn, crt⟩ xk).toArray = ks at *
              obtain ⟨b0, b1, b2, b3, -, -, -, -, -, -, -, -, -⟩ := HKC.out w7 HK7.out
              have HMB2 := hide (show mm ⟨ca, cb, cc, cdd⟩ = mm ⟨ca, cb, cc, cdd⟩ from rfl)
              go_wp2_with fail
              refine HM7.out.mono ?_
              rintro _ w8 ⟨rfl, hb8⟩
              have HK8 := hide ((hb8.block gk hk7).trans HK7.out)
              have HB8 := hide (HB7.out.trans (hb8.mono HB7.out.size))
              have HV8 := hide (HV7.out.below hb8)
              have hk8 : gk < w8.heap.size := Nat.lt_of_lt_of_le hk7 hb8.size
              clear hb8 q0 q1 q2 q3 q4 q5 q6 q7 b0 b1 b2 b3 HM7 HK7 HB7 HV7 HMC
              obtain ⟨mc, hmc⟩ : ∃ b, mm ⟨ca, cb, cc, cdd⟩ = b := ⟨_, rfl⟩
              have hrt := (HKC.out w8 HK8.out).rt
              simp only at hmc hrt ⊢
              rw [hmc]
              obtain ⟨DV, hDV⟩ : ∃ DV, (Sha.sha crt).map Y = DV := ⟨_, rfl⟩
              have HDG := hide (digest_const crt DV w8 (Nat.le_trans HKK.out.text (by decide)) hDV)
              rw [HCV.out] at HDG
              have HDL := hide (show DV.toArray.size = 32 by rw [← hDV]; rfl)
              have HDY := hide hDV
              have HD1 := hide (show DV.toArray.all (·.oneCell') = true by
                rw [List.all_toArray, List.all_eq_true]
                intro v hv
                rw [← hDV] at hv
                obtain ⟨x, _, rfl⟩ := List.mem_map.1 hv
                rfl)
              have HC8 := hide HV8.out.cs
              rw [HCV.out] at HC8
              have HCL := hide (show CV.toArray.size = 72 by rw [← HCV.out, List.size_toArray]; exact constV_len)
              clear hDV
              go_wp2_with (refine wpList_load_row rfl 67 (.tmp 4) rfl w.heap.size rfl 67 CV.toArray (0, 0) _ HC8.out Tryz.underlying67 rfl (by rw [HCL.out]; exact Tryz.infoConst) ?_)
              refine HDG.out.mono ?_
              rintro _ w9 ⟨rfl, hb9⟩
              have HK9 := hide ((hb9.block gk hk8).trans HK8.out)
              have HB9 := hide (HB8.out.trans (hb9.mono HB8.out.size))
              have hk9 : gk < w9.heap.size := Nat.lt_of_lt_of_le hk8 hb9.size
              clear hb9 hrt HDG HC8 HK8 HB8 HV8
              go_upto_region 16 with (refine wpList_store_row rfl 39 (.tmp 18) (.tmp 74) rfl w9.heap.size DV.toArray rfl rfl 39 _ (heap_alloc_new w9 _) (by rw [HDL.out]; exact Tryz.info22) (by rw [HDL.out]; rfl) HD1.out ?_; rw [World.setRow_alloc_new])
              have HD10 := hide (heap_alloc_new w9 (.cells DV.toArray 39))
              have HB10 := hide ((Below.refl w9.heap.size w9).alloc (Nat.le_refl _) (.cells DV.toArray 39))
              generalize w9.alloc (.cells DV.toArray 39) = w10 at HD10 HB10 ⊢
              obtain ⟨gd, hgd⟩ : ∃ gd, w9.heap.size = gd := ⟨_, rfl⟩
              have HK10 := hide ((HB10.out.block gk hk9).trans HK9.out)
              have HBF := hide (HB9.out.trans (HB10.out.mono HB9.out.size))
              rw [hgd] at HD10 ⊢
              clear hgd HK9 HB9 HB10 HDL HD1
              obtain ⟨-, -, -, -, k4, k5, k6, -, -, -, -, k11, -⟩ := HKC.out w10 HK10.out
              obtain ⟨b0, b1, b2, b3, -, -, -, r0, r1, r2, r3, -, -⟩ := HKC.out w10 HK10.out
              dsimp only at k4 k5 k6 k11 b0 b1 b2 b3 r0 r1 r2 r3
              have hrd : w10.rangeAt gd 0 DV := fun k v hv => by
                rw [cell_of_row _ _ _ _ _ _ HD10.out, Nat.zero_add, List.getElem?_toArray]
                exact hv
              rw [← HDY.out] at hrd
              have HCD := hide (show Ward.code mm ⟨⟨ca, cb, cc, cdd⟩, cn, cd, csh, ⟨ra, rb, rc, rd⟩, crn, crt⟩ = (if csh && !(Ward.boxEq ⟨ra, rb, rc, rd⟩ ⟨ca, cb, cc, cdd⟩ && decide (crn = cn)) then 1 else if csh && !decide (Sha.sha crt = cd) then 2 else if !csh && mc then 3 else if csh && !mc then 4 else 0) by
                unfold Ward.code
                simp only
                rw [hmc])
              obtain ⟨dd, hdd⟩ : ∃ dd, Sha.sha crt = dd := ⟨_, rfl⟩
              rw [hdd] at HCD hrd
              obtain ⟨cod, hcod⟩ : ∃ cod, Ward.code mm ⟨⟨ca, cb, cc, cdd⟩, cn, cd, csh, ⟨ra, rb, rc, rd⟩, crn, crt⟩ = cod := ⟨_, rfl⟩
              rw [hcod] at HCD HWS
              have hdl : dd.length = 32 := by rw [← hdd]; rfl
              have hconv : ∀ n, (convert 59 9 (.slice (some ⟨gd, 0, none⟩) 32 32)).run Tryz.prog (w10.drewN n) = .ok (Sv dd) (w10.drewN n) := fun n => conv_bytes gd 32 32 dd hdl (w10.drewN n) hrd
              clear hdd hcod hrd HDY hmc hdl
              go_upto_block 2 with fail
              go_cut [19] from 75 to 117 (fun v19 wx => v19 = .int .i64 (cod : Nat) ∧ Below w10.heap.size w10 wx)
              case first =>
                cases csh with
                | false =>
                  cases mc with
                  | true =>
                    have HE := hide (show cod = 3 by rw [HCD.out]; rfl)
                    go_upto_region 19 with fail
                    go_quiet (fail)
                    go_wp2_with fail
                    go_meet
                    exact ⟨by rw [HE.out]; rfl, below_drewN (Below.refl _ _) _⟩
                  | false =>
                    have HE := hide (show cod = 0 by rw [HCD.out]; rfl)
                    go_upto_region 19 with fail
                    go_quiet (fail)
                    go_wp2_with fail
                    go_meet
                    exact ⟨by rw [HE.out]; rfl, below_drewN (Below.refl _ _) _⟩
                | true =>
                  by_cases e0 : ra = ca
                  · subst e0
                    by_cases e1 : rb = cb
                    · subst e1
                      by_cases e2 : rc = cc
                      · subst e2
                        by_cases e3 : rd = cdd
                        · subst e3
                          by_cases e4 : crn = cn
                          · subst e4
                            by_cases hdg : dd = cd
                            · subst hdg
                              cases mc with
                              | true =>
                                have HE := hide (show cod = 0 by rw [HCD.out]; simp [Ward.boxEq])
                                go_upto_region 19 with fail
                                go_quiet (fail)
                                go_wp2_with fail
                                go_meet
                                exact ⟨by rw [HE.out]; rfl, below_drewN (Below.refl _ _) _⟩
                              | false =>
                                have HE := hide (show cod = 4 by rw [HCD.out]; simp [Ward.boxEq])
                                go_upto_region 19 with fail
                                go_quiet (fail)
                                go_wp2_with fail
                                go_meet
                                exact ⟨by rw [HE.out]; rfl, below_drewN (Below.refl _ _) _⟩
                            · have HE := hide (show cod = 2 by rw [HCD.out]; simp [Ward.boxEq, hdg])
                              have hdb : (dd == cd) = false := by simpa using hdg
                              go_upto_region 19 with fail
                              go_quiet (fail)
                              go_wp2_with fail
                              go_meet
                              exact ⟨by rw [HE.out]; rfl, below_drewN (Below.refl _ _) _⟩
                          · have HE := hide (show cod = 1 by rw [HCD.out]; simp [Ward.boxEq, e4])
                            have n4 : (crn == cn) = false := by simpa using e4
                            have m4 : (crn != cn) = true := by simpa using e4
                            go_wp2_with fail
                            go_meet
                            exact ⟨by rw [HE.out]; rfl, Below.refl _ _⟩
                        · have HE := hide (show cod = 1 by rw [HCD.out]; simp [Ward.boxEq, e3])
                          have n3 : (rd == cdd) = false := by simpa using e3
                          have m3 : (rd != cdd) = true := by simpa using e3
                          go_wp2_with fail
                          go_meet
                          exact ⟨by rw [HE.out]; rfl, Below.refl _ _⟩
                      · have HE := hide (show cod = 1 by rw [HCD.out]; simp [Ward.boxEq, e2])
                        have n2 : (rc == cc) = false := by simpa using e2
                        have m2 : (rc != cc) = true := by simpa using e2
                        go_wp2_with fail
                        go_meet
                        exact ⟨by rw [HE.out]; rfl, Below.refl _ _⟩
                    · have HE := hide (show cod = 1 by rw [HCD.out]; simp [Ward.boxEq, e1])
                      have n1 : (rb == cb) = false := by simpa using e1
                      have m1 : (rb != cb) = true := by simpa using e1
                      go_wp2_with fail
                      go_meet
                      exact ⟨by rw [HE.out]; rfl, Below.refl _ _⟩
                  · have HE := hide (show cod = 1 by rw [HCD.out]; simp [Ward.boxEq, e0])
                    have n0 : (ra == ca) = false := by simpa using e0
                    have m0 : (ra != ca) = true := by simpa using e0
                    go_wp2_with fail
                    go_meet
                    exact ⟨by rw [HE.out]; rfl, Below.refl _ _⟩
              case rest =>
                obtain ⟨rfl, hbc⟩ := hcut
                have HBE := hide (HBF.out.trans (hbc.mono HBF.out.size))
                obtain ⟨wo, hwo⟩ : ∃ wo, Ward.worst mm (K.take i) = wo := ⟨_, rfl⟩
                rw [hwo] at HWS ⊢
                clear hwo hbc k4 k5 k6 k11 b0 b1 b2 b3 r0 r1 r2 r3 hconv HCD HBF HK10 HD10
                by_cases c1 : 0 < cod
                · have c1' : (0 : Int) < (cod : Int) := by omega
                  by_cases c2 : wo = 0
                  · have c2' : (wo : Int) = 0 := by omega
                    have c2b : ((wo : Int) == 0) = true := by simp; omega
                    have HE := hide (show Ward.worst mm (K.take (i + 1)) = cod by rw [HWS.out]; unfold Ward.least; rw [if_pos ⟨c1, .inl c2⟩])
                    go_wp2_with fail
                    go_roundw
                    case rel => exact ⟨i + 1, hiK, by go_num, by rw [HE.out], HBE.out⟩
                    case measure => simp [intOf]; omega
                  · have c2' : ¬ (wo : Int) = 0 := by omega
                    have c2b : ((wo : Int) == 0) = false := by simp; omega
                    by_cases c3 : cod < wo
                    · have c3' : (cod : Int) < (wo : Int) := by omega
                      have HE := hide (show Ward.worst mm (K.take (i + 1)) = cod by rw [HWS.out]; unfold Ward.least; rw [if_pos ⟨c1, .inr c3⟩])
                      go_wp2_with fail
                      go_roundw
                      case rel => exact ⟨i + 1, hiK, by go_num, by rw [HE.out], HBE.out⟩
                      case measure => simp [intOf]; omega
                    · have c3' : ¬ (cod : Int) < (wo : Int) := by omega
                      have HE := hide (show Ward.worst mm (K.take (i + 1)) = wo by rw [HWS.out]; unfold Ward.least; rw [if_neg (by omega)])
                      go_wp2_with fail
                      go_roundw
                      case rel => exact ⟨i + 1, hiK, by go_num, by rw [HE.out], HBE.out⟩
                      case measure => simp [intOf]; omega
                · have c1' : ¬ (0 : Int) < (cod : Int) := by omega
                  have HE := hide (show Ward.worst mm (K.take (i + 1)) = wo by rw [HWS.out]; unfold Ward.least; rw [if_neg (by omega)])
                  go_wp2_with fail
                  go_roundw
                  case rel => exact ⟨i + 1, hiK, by go_num, by rw [HE.out], HBE.out⟩
                  case measure => simp [intOf]; omega
            · have hiI : ¬ (i : Int) < (K.length : Int) := by omega
              obtain ⟨wst, hwst⟩ : ∃ n, Ward.worst mm K = n := ⟨_, rfl⟩
              have hw4 : wst ≤ 4 := by rw [← hwst]; exact (Ward.worst_is mm K).le
              rw [List.take_of_length_le (by omega), hwst]
              have HWK := hide hwst
              have HV7 := hide (HV6.out.below HBR.out)
              have hgr6 : gr < w6.heap.size := (Array.getElem?_eq_some_iff.1 HN6.out).1
              have HR7 := hide ((hbr.block gr hgr6).trans HN6.out)
              have hrr := HR7.out
              rw [← HM.out] at hrr
              have x5 : wr.cell? ⟨gr, 5, none⟩ = some (Sv x) := row_cell hrr rfl
              obtain ⟨DV, hDV⟩ : ∃ DV, (Sha.sha x).map Y = DV := ⟨_, rfl⟩
              have HDG := hide (digest_const x DV wr (Nat.le_trans hx (by decide)) hDV)
              rw [HCV.out] at HDG
              have HDL := hide (show DV.toArray.size = 32 by rw [← hDV]; rfl)
              have HDY := hide hDV
              have HD1 := hide (show DV.toArray.all (·.oneCell') = true by
                rw [List.all_toArray, List.all_eq_true]
                intro v hv
                rw [← hDV] at hv
                obtain ⟨x, _, rfl⟩ := List.mem_map.1 hv
                rfl)
              have HC7 := hide HV7.out.cs
              rw [HCV.out] at HC7
              have HCL := hide (show CV.toArray.size = 72 by rw [← HCV.out, List.size_toArray]; exact constV_len)
              have hgrr : gr < wr.heap.size := by omega
              clear hDV hwst hrr hbr HMU
              go_wp2_with (refine wpList_load_row rfl 67 (.tmp 4) rfl w.heap.size rfl 67 CV.toArray (0, 0) _ HC7.out Tryz.underlying67 rfl (by rw [HCL.out]; exact Tryz.infoConst) ?_)
              refine HDG.out.mono ?_
              rintro _ w8 ⟨rfl, hb8⟩
              have HV8 := hide (HV7.out.below hb8)
              have HR8 := hide ((hb8.block gr hgrr).trans HR7.out)
              have HB8 := hide (HBR.out.trans (hb8.mono hsr))
              have hgr8 : gr < w8.heap.size := Nat.lt_of_lt_of_le hgrr hb8.size
              clear hb8 x5 HDG HC7 HV7 HR7 c4
              go_upto_region 28 with (refine wpList_store_row rfl 39 (.tmp 20) (.tmp 133) rfl w8.heap.size DV.toArray rfl rfl 39 _ (heap_alloc_new w8 _) (by rw [HDL.out]; exact Tryz.info22) (by rw [HDL.out]; rfl) HD1.out ?_; rw [World.setRow_alloc_new])
              have HD9 := hide (heap_alloc_new w8 (.cells DV.toArray 39))
              have HB9 := hide ((Below.refl w8.heap.size w8).alloc (Nat.le_refl _) (.cells DV.toArray 39))
              generalize w8.alloc (.cells DV.toArray 39) = w9 at HD9 HB9 ⊢
              have HV9 := hide (HV8.out.below HB9.out)
              have hr9 := (HB9.out.block gr hgr8).trans HR8.out
              rw [← HM.out] at hr9
              have x4 : w9.cell? ⟨gr, 4, none⟩ = some (I n) := row_cell hr9 rfl
              have HOF := hide (own_base ((HOA.out.below HB8.out).below HB9.out) (show w.heap.size ≤ w5.heap.size by omega))
              have HVB := hide HV9.out.bl
              have hrt := HV9.out.rt
              rw [← HRVE.out] at hrt
              have hcn : w9.cell? ⟨w.heap.size + 1, 32, none⟩ = some (I count) := row_cell hrt (by
                rw [List.getElem?_toArray]
                unfold rootV
                rw [List.getElem?_append_right (by rw [List.length_map, HRL.out]; omega), List.length_map, HRL.out]
                rfl)
              have ha1 : DigAt w9 (.pointer (some ⟨w8.heap.size, 0, none⟩)) DV := ⟨_, _, rfl, fun k v hv => by rw [cell_of_row _ _ _ _ _ _ HD9.out, Nat.zero_add, List.getElem?_toArray]; exact hv, by rw [← List.size_toArray]; exact HDL.out⟩
              have ha2 : DigAt w9 (.pointer (some ⟨w.heap.size + 1, 0, none⟩)) (root.map Y) := ⟨_, _, rfl, fun k v hv => by
                rw [cell_of_row _ _ _ _ _ _ hrt, Nat.zero_add, List.getElem?_toArray]
                unfold rootV
                rw [List.getElem?_append_left (List.getElem?_eq_some_iff.1 hv).1]
                exact hv, by rw [List.length_map]; exact HRL.out⟩
              have hd1 : ∃ cs, DigAt w9 (.pointer (some ⟨w8.heap.size, 0, none⟩)) cs := ⟨_, ha1⟩
              have hd2 : ∃ cs, DigAt w9 (.pointer (some ⟨w.heap.size + 1, 0, none⟩)) cs := ⟨_, ha2⟩
              have hv1 := digVal_at ha1
              have hv2 := digVal_at ha2
              clear ha1 ha2
              have heq := eqArrD 9998 (Sha.sha x) root rfl HRL.out w9
              rw [HDY.out] at heq
              generalize (root.map Y).toArray = RA at *
              generalize DV.toArray = DA at *
              obtain ⟨dx, hdx⟩ : ∃ d, Sha.sha x = d := ⟨_, rfl⟩
              rw [hdx] at heq
              have HDX := hide hdx
              clear hr9 hrt hdx HR8 HB8 HV8 HB9 HD9 HV9
              generalize w8.heap.size = gd at *
              by_cases h1 : wst = 1
              · subst h1
                go_wp2_with fail
                go_ret2
                exact verified_nil (by rw [HVR.out]; unfold Ward.verdict; rw [HWK.out]; simp) HVB.out
              · have h1' : ¬ (wst : Int) = 1 := by omega
                have h1b : ((wst : Int) != 1) = true := by simp; omega
                by_cases h2 : dx = root
                · rw [decide_eq_true h2] at heq
                  by_cases h3 : n = count
                  · subst h3
                    have HVV := hide (show Ward.verify root n q s = (if wst = 2 then ([], 9) else if wst = 3 then ([], 10) else if wst = 4 then ([], 11) else (A, 0)) by
                      rw [HVR.out]
                      unfold Ward.verdict
                      rw [HWK.out, HDX.out]
                      simp [h1, h2])
                    rcases (show wst = 0 ∨ wst = 2 ∨ wst = 3 ∨ wst = 4 by omega) with h | h | h | h
                    · subst h
                      go_wp2_with fail
                      go_ret2
                      refine ⟨_, by rw [HVV.out]; rfl, ?_, HVB.out⟩
                      rw [HVV.out]
                      exact HOF.out
                    · subst h
                      go_wp2_with fail
                      go_ret2
                      exact verified_nil (by rw [HVV.out]; rfl) HVB.out
                    · subst h
                      go_wp2_with fail
                      go_ret2
                      exact verified_nil (by rw [HVV.out]; rfl) HVB.out
                    · subst h
                      go_wp2_with fail
                      go_ret2
                      exact verified_nil (by rw [HVV.out]; rfl) HVB.out
                  · have h3b : (n == count) = false := by simpa using h3
                    have h3c : (n != count) = true := by simpa using h3
                    go_wp2_with fail
                    go_ret2
                    exact verified_nil (by rw [HVR.out]; unfold Ward.verdict; rw [HWK.out]; simp [h1, h3]) HVB.out
                · rw [decide_eq_false h2] at heq
                  go_wp2_with fail
                  go_ret2
                  exact verified_nil (by rw [HVR.out]; unfold Ward.verdict; rw [HWK.out, HDX.out]; simp [h1, h2]) HVB.out
      · have HF := hide (Ward.look_bad (s := s) (.inr ⟨t, j, L, hpg.rd, by omega⟩) root count q HMB.out)
        have hjI : ¬ (j : Int) = (s.length : Int) := by omega
        have hjb : ((j : Int) != (s.length : Int)) = true := by simp; omega
        clear hpg
        go_wp2_with fail
        go_ret2
        exact verified_nil HF.out HV5.out.bl
end Go.Proofs.YtenaelkbgkpllaaGreatDoor
/- The law's begin: a map more, of the program and of the document. -/
namespace Go.Proofs.YtenaelkbgkpllaaGreatDoor
open Go.RowKit

theorem fill_mid (place : Nat → Option (Nat × Nat)) (i : Nat) (pre D : List Value) (z : Array Value) (hz : z.size = pre.length + D.length) (hp : ∀ k, k < pre.length → z[k]? = pre[k]?) (h0 : place i = some (pre.length, D.length)) : Instr.fill place z [(i, .agg D.toArray)] = some (pre ++ D).toArray := by
  obtain ⟨g1, g2⟩ := Great.foldl_set pre.length D 0 z
  have e0 : Value.cells (.agg D.toArray) = D.toArray := rfl
  have ef : (D.toArray.zipIdx.foldl (fun cs (y : Value × Nat) => cs.setIfInBounds (pre.length + y.2) y.1) z) = ((D.zipIdx 0).foldl (fun cs (y : Value × Nat) => cs.setIfInBounds (pre.length + y.2) y.1) z) := by
    rw [← Array.foldl_toList, Array.toList_zipIdx]
  unfold Instr.fill
  simp only [h0, e0]
  rw [if_neg (by simp [hz]), ef]
  generalize (D.zipIdx 0).foldl (fun cs (y : Value × Nat) => cs.setIfInBounds (pre.length + y.2) y.1) z = r at *
  unfold Instr.fill
  congr 1
  apply Array.ext_getElem?
  intro k
  have eR : (pre ++ D).toArray[k]? = (pre ++ D)[k]? := List.getElem?_toArray
  rw [eR, g2 k]
  by_cases hk : k < pre.length
  · rw [if_neg (by omega), List.getElem?_append_left hk, hp k hk]
  · by_cases hl : k < pre.length + D.length
    · rw [if_pos (by omega), List.getElem?_append_right (by omega)]
      simp
    · rw [if_neg (by omega), Array.getElem?_eq_none (by omega), List.getElem?_eq_none (by simp; omega)]
theorem Tryz.infoRMapZ : (Tryz.prog.info? 111).bind (fun i => i.zero.map (fun z => (z.cells.size, z.cells[0]?))) = some (73, some (.slice none 0 0)) := by kernel_rfl
theorem Tryz.placesRMap : ((Tryz.prog.fieldsOf 111).toList.mapM (fun f => (Tryz.prog.info? f.type).map fun i => (f.offset, i.size))) = some [(0, 1), (1, 72)] := by kernel_rfl
theorem built_rmap : Tryz.prog.built 111 [(1, .agg constV.toArray)] = some (.slice none 0 0 :: constV).toArray := by
  have hS : Tryz.prog.underlying 111 = some (.struct (Tryz.prog.fieldsOf 111)) := by kernel_rfl
  have hz := Tryz.infoRMapZ
  have hp := Tryz.placesRMap
  unfold Program.built
  cases hi : Tryz.prog.info? 111 with
  | none => rw [hi] at hz; cases hz
  | some it =>
    rw [hi] at hz
    cases hz0 : it.zero with
    | none => simp [hz0] at hz
    | some z =>
      simp only [hz0, Option.bind_some, Option.map_some, Option.some.injEq, Prod.mk.injEq] at hz
      rw [hS]
      simp only [hz0, hp]
      exact fill_mid _ 1 [.slice none 0 0] constV z.cells (by rw [hz.1, constV_len]; rfl) (fun k hk => by
        have : k = 0 := by simpa using hk
        subst this
        exact hz.2) (by rw [constV_len]; rfl)
end Go.Proofs.YtenaelkbgkpllaaGreatDoor
/- What the law's keep does to a list: its places are written over, and some behind the last; the lists that were put aside read on. -/
namespace Go.Proofs.YtenaelkbgkpllaaGreatDoor
open Go.RowKit

theorem Tryz.infoSlZ : (Tryz.prog.info? 27).map (fun i => (i.zero, i.size, i.bytes)) = some (some (.slice none 0 0), 1, 24) := by kernel_rfl
theorem Tryz.infoHdZ : (Tryz.prog.info? 117).map (fun i => (i.zero, i.size, i.bytes)) = some (some (.pointer none), 1, 8) := by kernel_rfl
/-- one more behind the others, out of a block of its own -/
theorem append_new {w : World} {B : Nat} {v z : Value} {n size bytes : Nat} {xs : List Value} (t e : TypeId) (hu : Tryz.prog.underlying t = some (.slice e)) (hI : (Tryz.prog.info? e).map (fun i => (i.zero, i.size, i.bytes)) = some (some z, size, bytes)) (hzs : z.cells.size = size) (hs : 0 < size) (hb24 : bytes ≤ 24) (M : List Value) (h9 : M.length = size) (h1 : ∀ u ∈ M, u.oneCell' = true) (hown : w.ownsRow B e size v n xs) (hB : B ≤ w.heap.size) (hn : n ≤ 1000000000000) :
    ∃ v' w', (Builtin.append_ #[t, t] t #[v, .slice (some ⟨w.heap.size, 0, none⟩) 1 1]).run Tryz.prog (w.alloc (.cells M.toArray e)) = .ok v' w' ∧ w'.ownsRow B e size v' (n + 1) (xs ++ M) ∧ w.grownBy w' v.ownBlock ∧ Moved w w' v v' := by
  obtain ⟨i0, hi0, hz0, hz1, hz2⟩ := info_parts hI
  obtain ⟨v', w', hr, ho, hg, hf⟩ := run_append_own3 (P := Tryz.prog) (w.alloc (.cells M.toArray e)) B t t e i0 z size bytes hu hi0 hz0 hz1 hz2 hzs hs v n xs (hown.alloc _) ⟨w.heap.size, 0, none⟩ 1 1 M (by rw [h9, Nat.one_mul])
    (fun j u hj => by rw [Addr.add_lit, Nat.zero_add, cell_of_row _ _ _ _ _ _ (heap_alloc_new w _), List.getElem?_toArray]; exact hj)
    h1 (by unfold maxLen; omega) (by have : (n + 1) * bytes ≤ (n + 1) * 24 := Nat.mul_le_mul_left _ hb24; omega) (by simp; omega)
  refine ⟨v', w', hr, ho, ⟨hg.os, hg.tape, hg.output, Nat.le_trans (by simp) hg.size, fun j hj hne => (hg.block j (by simp; omega) hne).trans (Below.heap_alloc w _ j hj)⟩, ?_⟩
  rcases hf with hf | ⟨g, hf, hgs, hb⟩
  · exact .inl hf
  · simp at hgs
    refine .inr ⟨g, hf, by omega, ?_⟩
    have h2 : Below w.heap.size w (w.alloc (.cells M.toArray e)) := (Below.refl w.heap.size w).alloc (Nat.le_refl _) _
    exact h2.trans (hb.mono (by simp))
/-- a hold more among the law's -/
theorem LawAt.pushHold {w : World} {W0 : Nat} {vp vh : Value} {ps : List Pr} {hs : List Nat} (h : LawAt w W0 vp vh ps hs) (x : Nat) (hn : hs.length ≤ 1000000000000) :
    ∃ vh' w', (Builtin.append_ #[70, 70] 70 #[vh, .slice (some ⟨w.heap.size, 0, none⟩) 1 1]).run Tryz.prog (w.alloc (.cells #[.pointer (some ⟨x, 0, none⟩)] 117)) = .ok vh' w' ∧ w'.cell? ⟨W0, 1, none⟩ = some vh ∧ w'.frozen? ⟨W0, 1, none⟩ = false ∧
      LawAt (w'.setCell ⟨W0, 1, none⟩ vh') W0 vp vh' ps (hs ++ [x]) ∧ Fresh w vh vh' ∧ Keeps (fun k => k = W0 ∨ some k = vh.ownBlock) w (w'.setCell ⟨W0, 1, none⟩ vh') ∧ ∃ a n c, vh' = .slice a n c := by
  obtain ⟨vh', w', hr, ho, hg, hm⟩ := append_new (w := w) (B := 0) 70 117 Tryz.underlying70 Tryz.infoHdZ rfl (by decide) (by decide) [hdV x] rfl (fun u hu => by rw [List.mem_singleton.1 hu]; rfl) h.holds (Nat.zero_le _) hn
  have hrow := (hg.block W0 h.lt (fun e => h.apH e.symm)).trans h.row
  have hf := hm.fresh
  have hK : Keeps (fun k => k = W0 ∨ some k = vh.ownBlock) w (w'.setCell ⟨W0, 1, none⟩ vh') := by
    refine ((Keeps.of_grown hg).mono (S' := fun k => k = W0 ∨ some k = vh.ownBlock) (fun _ _ h => .inr h)).trans (S' := fun k => k = W0) ⟨rfl, rfl, rfl, by simp, fun j hj hn => Below.heap_setCell _ _ _ _ hn⟩ (fun _ _ h => .inl h)
  have hK2 : Keeps (fun k => k = W0) w' (w'.setCell ⟨W0, 1, none⟩ vh') := ⟨rfl, rfl, rfl, by simp, fun j hj hn => Below.heap_setCell _ _ _ _ hn⟩
  have hpl : ∀ g, vp.ownBlock = some g → g < w.heap.size := fun g hg => (World.ownsRow.lt h.pairs g hg).2
  refine ⟨vh', w', hr, by rw [cell_of_row _ _ _ _ _ _ hrow]; rfl, frozen_of_row _ _ _ _ _ hrow, ⟨?_, ?_, ?_, h.apP, hf.apart h.lt h.apH, fun g hg' e => ?_⟩, hf, hK, ?_⟩
  · have := heap_setCell_same w' W0 1 (vp :: vh :: constV).toArray 72 vh' hrow
    rw [List.setIfInBounds_toArray] at this
    exact this
  · refine ownsRow_keepsS h.pairs hK (fun g hg' e => ?_)
    rcases e with e | e
    · subst e; exact h.apP hg'
    · exact h.apart g hg' e.symm
  · have := ownsRow_keepsS ho hK2 (fun g hg' e => by subst e; exact hf.apart h.lt h.apH hg')
    rw [List.length_append, List.map_append]
    exact this
  · exact hf.apart (hpl g hg') (h.apart g hg') e
  · rcases ho.2 with ⟨e, _⟩ | ⟨g, c, cur, e, _⟩
    · exact ⟨_, _, _, e⟩
    · exact ⟨_, _, _, e⟩
theorem Tryz.infoPrZ : (Tryz.prog.info? 113).map (fun i => (i.zero, i.size, i.bytes)) = some (some (.agg #[.pointer none, .pointer none]), 2, 16) := by kernel_rfl
/-- a pair more among the law's -/
theorem LawAt.pushPair {w : World} {W0 : Nat} {vp vh : Value} {ps : List Pr} {hs : List Nat} (h : LawAt w W0 vp vh ps hs) (p : Pr) (hn : ps.length ≤ 1000000000000) :
    ∃ vp' w', (Builtin.append_ #[69, 69] 69 #[vp, .slice (some ⟨w.heap.size, 0, none⟩) 1 1]).run Tryz.prog (w.alloc (.cells #[.pointer (some ⟨p.m, 0, none⟩), .pointer (some ⟨p.r, 0, none⟩)] 113)) = .ok vp' w' ∧ w'.cell? ⟨W0, 0, none⟩ = some vp ∧ w'.frozen? ⟨W0, 0, none⟩ = false ∧
      LawAt (w'.setCell ⟨W0, 0, none⟩ vp') W0 vp' vh (ps ++ [p]) hs ∧ Fresh w vp vp' ∧ Keeps (fun k => k = W0 ∨ some k = vp.ownBlock) w (w'.setCell ⟨W0, 0, none⟩ vp') ∧ (∃ a n c, vp' = .slice a n c) ∧ Keeps (fun k => some k = vp.ownBlock) w w' := by
  obtain ⟨vp', w', hr, ho, hg, hm⟩ := append_new (w := w) (B := 0) 69 113 Tryz.underlying69 Tryz.infoPrZ rfl (by decide) (by decide) (prV p) rfl (fun u hu => by simp [prV] at hu; rcases hu with rfl | rfl <;> rfl) h.pairs (Nat.zero_le _) hn
  have hrow := (hg.block W0 h.lt (fun e => h.apP e.symm)).trans h.row
  have hf := hm.fresh
  have hK : Keeps (fun k => k = W0 ∨ some k = vp.ownBlock) w (w'.setCell ⟨W0, 0, none⟩ vp') := by
    refine ((Keeps.of_grown hg).mono (S' := fun k => k = W0 ∨ some k = vp.ownBlock) (fun _ _ h => .inr h)).trans (S' := fun k => k = W0) ⟨rfl, rfl, rfl, by simp, fun j hj hn => Below.heap_setCell _ _ _ _ hn⟩ (fun _ _ h => .inl h)
  have hK2 : Keeps (fun k => k = W0) w' (w'.setCell ⟨W0, 0, none⟩ vp') := ⟨rfl, rfl, rfl, by simp, fun j hj hn => Below.heap_setCell _ _ _ _ hn⟩
  have hhl : ∀ g, vh.ownBlock = some g → g < w.heap.size := fun g hg => (World.ownsRow.lt h.holds g hg).2
  refine ⟨vp', w', hr, by rw [cell_of_row _ _ _ _ _ _ hrow]; rfl, frozen_of_row _ _ _ _ _ hrow, ⟨?_, ?_, ?_, hf.apart h.lt h.apP, h.apH, fun g hg' e => ?_⟩, hf, hK, ?_, Keeps.of_grown hg⟩
  · have := heap_setCell_same w' W0 0 (vp :: vh :: constV).toArray 72 vp' hrow
    rw [List.setIfInBounds_toArray] at this
    exact this
  · have := ownsRow_keepsS ho hK2 (fun g hg' e => by subst e; exact hf.apart h.lt h.apP hg')
    rw [List.length_append, List.flatMap_append, List.flatMap_singleton]
    exact this
  · refine ownsRow_keepsS h.holds hK (fun g hg' e => ?_)
    rcases e with e | e
    · subst e; exact h.apH hg'
    · exact h.apart g e.symm hg'
  · exact hf.apart (hhl g e) (fun e2 => h.apart g e2 e) hg'
  · rcases ho.2 with ⟨e, _⟩ | ⟨g, c, cur, e, _⟩
    · exact ⟨_, _, _, e⟩
    · exact ⟨_, _, _, e⟩
/-- so many points of a row are marks -/
def Writ (w : World) (g c i : Nat) (m : Int) : Prop := ∃ cur : List Value, w.heap[g]? = some (.cells cur.toArray 36 (0, 0)) ∧ cur.length = c * 3 ∧ cur.take (i * 3) = (List.replicate i (markP m)).flatMap P3
theorem Writ.step {w : World} {g c i : Nat} {m : Int} (h : Writ w g c i m) (hi : i < c) : Writ (w.setCells g (i * 3) [I m, I 0, I 0]) g c (i + 1) m := by
  obtain ⟨cur, h1, h2, h3⟩ := h
  have hl : i * 3 + [I m, I 0, I 0].length ≤ cur.length := by simp; omega
  refine ⟨over cur (i * 3) [I m, I 0, I 0], setCells_row _ _ _ _ h1 hl, by rw [over_len hl, h2], ?_⟩
  rw [show (i + 1) * 3 = i * 3 + [I m, I 0, I 0].length by simp; omega, over_take (by omega), h3, List.replicate_succ', List.flatMap_append]
  rfl
theorem Writ.start {w : World} {B g n c : Nat} {L : List Ward.Pt} (h : Own w B (.slice (some ⟨g, 0, none⟩) n c) L) (m : Int) : Writ w g c 0 m ∧ n = L.length ∧ n ≤ c ∧ c ≤ maxLen ∧ B ≤ g := by
  rcases h.2 with ⟨e, _⟩ | ⟨g', cap, cur, e, hB, hg, hc, hm, hs, _⟩
  · cases e
  · injection e with e1 e2 e3
    injection e1 with e1
    injection e1 with e1
    subst e1 e2 e3
    exact ⟨⟨cur.toList, by simpa using hg, by simpa using hs, by simp⟩, rfl, hc, hm, hB⟩
theorem Writ.own {w : World} {B g n c : Nat} {m : Int} (h : Writ w g c n m) (hn : n ≤ c) (hc : c ≤ maxLen) (hB : B ≤ g) : Own w B (.slice (some ⟨g, 0, none⟩) n c) (List.replicate n (markP m)) := by
  obtain ⟨cur, h1, h2, h3⟩ := h
  refine ⟨cells_len _, .inr ⟨g, c, cur.toArray, by rw [List.length_replicate], hB, h1, by rw [List.length_replicate]; exact hn, hc, by simpa using h2, by rw [List.length_replicate]; simpa using h3⟩⟩
theorem own_pt {w : World} {B g : Nat} {v : Value} {L : List Ward.Pt} (h : Own w B v L) (hg : v.ownBlock = some g) (i : Nat) (hi : i < L.length) : PtAt w g (i * 3) L[i] := by
  rcases h.2 with ⟨e, h0⟩ | ⟨g', cap, cur, e, _⟩
  · omega
  · subst e
    simp only [Value.ownBlock, Option.some.injEq] at hg
    subst hg
    have hr := h.reads
    obtain ⟨a, c, e, hr⟩ := hr
    injection e with e1 e2 e3
    obtain ⟨g2, o2, ea, hp⟩ := hr (fun e => by rw [e] at hi; simp at hi)
    rw [← e1] at ea
    injection ea with ea
    injection ea with ea eo
    have := hp i hi
    rw [← ea, ← eo, Nat.zero_add] at this
    exact this
/-- a list that was put aside, in the row that is still written or in one that is not -/
def Aside (T : Nat → Prop) (w : World) (m : Int) (v : Value) (N : Nat) (s : Value) : Prop := ∃ a n c, s = .slice a n c ∧ n ≤ N ∧ ∀ i, i < n → ∃ g, a = some ⟨g, 0, none⟩ ∧ T g ∧ (v.ownBlock = some g ∨ PtAt w g (i * 3) (markP m))
theorem rep_at {N i : Nat} {m : Int} (h : i < (List.replicate N (markP m)).length) : (List.replicate N (markP m))[i] = markP m := List.getElem_replicate h
theorem Aside.step {T T' : Nat → Prop} {w w' : World} {m : Int} {v v' s : Value} {N B : Nat} (h : Aside T w m v N s) (ho : Own w B v (List.replicate N (markP m))) (hg : w.grownBy w' v.ownBlock) (hm : Moved w w' v v') (hT : ∀ g, g < w.heap.size → T g → T' g) : Aside T' w' m v' (N + 1) s := by
  obtain ⟨a, n, c, e, hn, hr⟩ := h
  refine ⟨a, n, c, e, by omega, fun i hi => ?_⟩
  obtain ⟨g, ea, hTg, hp⟩ := hr i hi
  have hp' : PtAt w g (i * 3) (markP m) := by
    rcases hp with hp | hp
    · have := own_pt ho hp i (by rw [List.length_replicate]; omega)
      rw [rep_at] at this
      exact this
    · exact hp
  refine ⟨g, ea, hT g hp'.lt hTg, ?_⟩
  rcases hm with hm | ⟨k, hk1, hk2, hb⟩
  · by_cases hv : v.ownBlock = some g
    · exact .inl (hm.trans hv)
    · exact .inr (hp'.block (hg.block g hp'.lt (fun e => hv e.symm)))
  · exact .inr (hp'.block (hb.block g hp'.lt))
theorem Aside.keeps {S T T' : Nat → Prop} {w w' : World} {m : Int} {v s : Value} {N : Nat} (h : Aside T w m v N s) (hk : Keeps S w w') (hT : ∀ g, T g → ¬ S g) (hT' : ∀ g, (v.ownBlock = some g ∨ g < w.heap.size) → T g → T' g) : Aside T' w' m v N s := by
  obtain ⟨a, n, c, e, hn, hr⟩ := h
  refine ⟨a, n, c, e, hn, fun i hi => ?_⟩
  obtain ⟨g, ea, hTg, hp⟩ := hr i hi
  refine ⟨g, ea, hT' g (hp.imp_right (fun h => h.lt)) hTg, hp.imp_right (fun h => h.block (hk.block g h.lt (hT g hTg)))⟩
theorem Aside.marked {T : Nat → Prop} {w : World} {m : Int} {v s : Value} {N B : Nat} (h : Aside T w m v N s) (ho : Own w B v (List.replicate N (markP m))) (hN : N ≤ 100000) : Marked T w m s := by
  obtain ⟨a, n, c, e, hn, hr⟩ := h
  refine ⟨a, n, c, e, by omega, fun i hi => ?_⟩
  obtain ⟨g, ea, hTg, hp⟩ := hr i hi
  refine ⟨g, 0, ea, hTg, ?_⟩
  rw [Nat.zero_add]
  rcases hp with hp | hp
  · have := own_pt ho hp i (by rw [List.length_replicate]; omega)
    rw [rep_at] at this
    exact this
  · exact hp
/-- keep under way: O the list's own block -/
structure KeepSt (w0 w : World) (H : Nat) (O : Option Nat) (m : Int) (v vp : Value) (N : Nat) (sl : List Value) : Prop where
  row : w.heap[H]? = some (.cells #[vp, I m] 120 (0, 0))
  own : Own w 0 v (List.replicate N (markP m))
  pts : w.ownsRow 0 27 1 vp sl.length sl
  old : ∀ s ∈ sl, Aside (fun g => (H < g ∨ O = some g) ∧ vp.ownBlock ≠ some g) w m v N s
  vb : ∀ g, v.ownBlock = some g → (H < g ∨ O = some g) ∧ vp.ownBlock ≠ some g
  pb : ∀ g, vp.ownBlock = some g → H < g
  ob : O ≠ some H
  keep : Keeps (fun k => O = some k) w0 w
  hs : H = w0.heap.size
theorem KeepSt.lt {w0 w : World} {H : Nat} {O : Option Nat} {m : Int} {v vp : Value} {N : Nat} {sl : List Value} (h : KeepSt w0 w H O m v vp N sl) : H < w.heap.size := (Array.getElem?_eq_some_iff.1 h.row).1
theorem KeepSt.below {w0 w w' : World} {H : Nat} {O : Option Nat} {m : Int} {v vp : Value} {N : Nat} {sl : List Value} (h : KeepSt w0 w H O m v vp N sl) (hb : Below w.heap.size w w') : KeepSt w0 w' H O m v vp N sl :=
  ⟨(hb.block H h.lt).trans h.row, h.own.below hb, ownsRow_keepsS (S := fun _ => False) h.pts (Keeps.of_below hb) (fun _ _ h => h), fun s hs => (h.old s hs).keeps (S := fun _ => False) (Keeps.of_below hb) (fun _ _ h => h) (fun _ _ h => h), h.vb, h.pb, h.ob, h.keep.trans (S' := fun _ => False) (Keeps.of_below hb) (fun _ _ h => h.elim), h.hs⟩
theorem KeepSt.mark {w0 w w' : World} {H : Nat} {O : Option Nat} {m : Int} {v v' vp : Value} {N : Nat} {sl : List Value} (h : KeepSt w0 w H O m v vp N sl)
    (ho : w'.ownsRow 0 36 3 v' (N + 1) ((List.replicate N (markP m)).flatMap P3 ++ [I m, I 0, I 0])) (hg : w.grownBy w' v.ownBlock) (hm : Moved w w' v v') : KeepSt w0 w' H O m v' vp (N + 1) sl := by
  have hH : ∀ k, k < w.heap.size → v.ownBlock ≠ some k → w'.heap[k]? = w.heap[k]? := fun k hk hn => hg.block k hk (fun e => hn e.symm)
  have hvH : v.ownBlock ≠ some H := fun e => by
    rcases (h.vb H e).1 with h1 | h1
    · omega
    · exact h.ob h1
  have hvb : ∀ g, v'.ownBlock = some g → (H < g ∨ O = some g) ∧ vp.ownBlock ≠ some g := fun g hg' => by
    rcases hm with e | ⟨k, e, hk, _⟩
    · exact h.vb g (e.symm.trans hg')
    · have : k = g := by rw [e] at hg'; injection hg'
      subst this
      exact ⟨.inl (Nat.lt_of_lt_of_le h.lt hk), fun e2 => by have := (World.ownsRow.lt h.pts k e2).2; omega⟩
  refine ⟨(hH H h.lt hvH).trans h.row, ?_, ?_, fun s hs => ?_, hvb, h.pb, h.ob, ?_, h.hs⟩
  · show w'.ownsRow 0 36 3 v' (List.replicate (N + 1) (markP m)).length ((List.replicate (N + 1) (markP m)).flatMap P3)
    rw [List.length_replicate, List.replicate_succ', List.flatMap_append]
    exact ho
  · refine ownsRow_keepsS (S := fun k => some k = v.ownBlock) h.pts (Keeps.of_grown hg) (fun g hg' e => ?_)
    exact (h.vb g e.symm).2 hg'
  · exact (h.old s hs).step h.own hg hm (fun _ _ h => h)
  · refine h.keep.trans (Keeps.of_grown hg) (fun j hj e => ?_)
    rcases (h.vb j e.symm).1 with h1 | h1
    · have := h.hs
      omega
    · exact h1
theorem KeepSt.list {w0 w w' w'' : World} {H : Nat} {O : Option Nat} {m : Int} {v vp vp' : Value} {N : Nat} {sl : List Value} (h : KeepSt w0 w H O m v vp N sl)
    (ho : w'.ownsRow 0 27 1 vp' (sl.length + 1) (sl ++ [v])) (hg : w.grownBy w' vp.ownBlock) (hf : Fresh w vp vp') (hk : Keeps (fun k => k = H) w' w'') (hr : w''.heap[H]? = some (.cells #[vp', I m] 120 (0, 0))) : KeepSt w0 w'' H O m v vp' N (sl ++ [v]) := by
  have hlt := h.lt
  have hpb : ∀ g, vp'.ownBlock = some g → H < g := fun g hg' => by
    rcases hf with e | ⟨k, e, hk⟩
    · exact h.pb g (e.symm.trans hg')
    · have : k = g := by rw [e] at hg'; injection hg'
      omega
  have hne : ∀ g, g < w.heap.size → vp.ownBlock ≠ some g → vp'.ownBlock ≠ some g := fun g hl hn e2 => by
    rcases hf with e | ⟨k, e, hk⟩
    · exact hn (e.symm.trans e2)
    · have : k = g := by rw [e] at e2; injection e2
      omega
  have hK : Keeps (fun k => some k = vp.ownBlock ∨ k = H) w w'' := ((Keeps.of_grown hg).mono (fun _ _ h => .inl h)).trans hk (fun _ _ h => .inr h)
  have hTn : ∀ g, ((H < g ∨ O = some g) ∧ vp.ownBlock ≠ some g) → ¬ (some g = vp.ownBlock ∨ g = H) := fun g hT e => by
    rcases e with e | e
    · exact hT.2 e.symm
    · subst e
      rcases hT.1 with h1 | h1
      · omega
      · exact h.ob h1
  have hvl : ∀ g, v.ownBlock = some g → g < w.heap.size := fun g hg' => h.own.lt hg'
  refine ⟨hr, ?_, ?_, fun s hs => ?_, fun g hg' => ?_, hpb, h.ob, ?_, h.hs⟩
  · exact h.own.keeps hK (fun g hg' => hTn g (h.vb g hg'))
  · have := ownsRow_keepsS (S := fun k => k = H) ho hk (fun g hg' e => by have := hpb g hg'; omega)
    rw [List.length_append]
    exact this
  · rcases List.mem_append.1 hs with hs | hs
    · exact (h.old s hs).keeps hK hTn (fun g hl hT => ⟨hT.1, hne g (hl.elim (hvl g) id) hT.2⟩)
    · rw [List.mem_singleton.1 hs]
      obtain ⟨a, c, e⟩ := h.own.slice
      refine ⟨a, N, c, by rw [e, List.length_replicate], Nat.le_refl _, fun i hi => ?_⟩
      have e0 := e
      rcases h.own.2 with ⟨_, h0⟩ | ⟨g, cap, cur, e', _⟩
      · rw [List.length_replicate] at h0; omega
      · have hb : v.ownBlock = some g := by rw [e']; rfl
        rw [e'] at e0
        injection e0 with e1
        exact ⟨g, e1.symm, ⟨(h.vb g hb).1, hne g (hvl g hb) (h.vb g hb).2⟩, .inl hb⟩
  · exact ⟨(h.vb g hg').1, hne g (hvl g hg') (h.vb g hg').2⟩
  · refine h.keep.trans hK (fun j hj e => ?_)
    have := h.hs
    rcases e with e | e
    · have := h.pb j e.symm
      omega
    · omega
theorem KeepSt.start {w w1 : World} {m : Int} {v : Value} {N : Nat} (hr : w1.heap[w.heap.size]? = some (.cells #[.slice none 0 0, I m] 120 (0, 0))) (ho : Own w1 0 v (List.replicate N (markP m))) (hvb : ∀ g, v.ownBlock = some g → g < w.heap.size) (hk : Keeps (fun k => v.ownBlock = some k) w w1) : KeepSt w w1 w.heap.size v.ownBlock m v (.slice none 0 0) N [] :=
  ⟨hr, ho, World.ownsRow_nil _ _ _ _, fun s hs => (by cases hs), fun g hg => ⟨.inr hg, fun e => (by cases e)⟩, fun g hg => (by cases hg), fun e => (by have := hvb _ e; omega), hk, rfl⟩
/-- a list put aside, the store that follows it -/
theorem KeepSt.put {w0 w : World} {H : Nat} {O : Option Nat} {m : Int} {v vp : Value} {N : Nat} {sl : List Value} (h : KeepSt w0 w H O m v vp N sl) (hl : sl.length ≤ 100) :
    ∃ vp' w', (Builtin.append_ #[118, 118] 118 #[vp, .slice (some ⟨w.heap.size, 0, none⟩) 1 1]).run Tryz.prog (w.alloc (.cells #[v] 27)) = .ok vp' w' ∧ w'.cell? ⟨H, 0, none⟩ = some vp ∧ w'.frozen? ⟨H, 0, none⟩ = false ∧ KeepSt w0 (w'.setCell ⟨H, 0, none⟩ vp') H O m v vp' N (sl ++ [v]) := by
  have hv1 : v.oneCell' = true := by
    obtain ⟨a, c, e⟩ := h.own.slice
    rw [e]; rfl
  obtain ⟨vp', w', hr, ho, hg, hm⟩ := append_new (w := w) (B := 0) 118 27 Tryz.underlying118 Tryz.infoSlZ rfl (by decide) (by decide) [v] rfl (fun u hu => by rw [List.mem_singleton.1 hu]; exact hv1) h.pts (Nat.zero_le _) (by omega)
  have hpH : vp.ownBlock ≠ some H := fun e => by have := h.pb H e; omega
  have hrow := (hg.block H h.lt (fun e => hpH e.symm)).trans h.row
  refine ⟨vp', w', hr, by rw [cell_of_row _ _ _ _ _ _ hrow]; rfl, frozen_of_row _ _ _ _ _ hrow, ?_⟩
  refine h.list ho hg hm.fresh ⟨rfl, rfl, rfl, by simp, fun j hj hn => Below.heap_setCell _ _ _ _ hn⟩ ?_
  exact heap_setCell_same w' H 0 #[vp, I m] 120 vp' hrow
/-- a place behind the last is written -/
theorem KeepSt.more {w0 w : World} {H : Nat} {O : Option Nat} {m : Int} {v vp : Value} {N : Nat} {sl : List Value} (h : KeepSt w0 w H O m v vp N sl) (hN : N ≤ 100000) :
    ∃ v' w', (Builtin.append_ #[27, 27] 27 #[v, .slice (some ⟨w.heap.size, 0, none⟩) 1 1]).run Tryz.prog (w.alloc (.cells #[I m, I 0, I 0] 36)) = .ok v' w' ∧ KeepSt w0 w' H O m v' vp (N + 1) sl := by
  have hown : w.ownsRow 0 36 3 v N ((List.replicate N (markP m)).flatMap P3) := by
    have := h.own
    unfold Own at this
    rw [List.length_replicate] at this
    exact this
  obtain ⟨v', w', hr, ho, hg, hm⟩ := append_new (w := w) (B := 0) 27 36 Tryz.underlying27 Tryz.infoPt rfl (by decide) (by decide) [I m, I 0, I 0] rfl (fun u hu => by simp at hu; rcases hu with rfl | rfl <;> rfl) hown (Nat.zero_le _) (by omega)
  exact ⟨v', w', hr, h.mark ho hg hm⟩
theorem KeepSt.shapeP {w0 w : World} {H : Nat} {O : Option Nat} {m : Int} {v vp : Value} {N : Nat} {sl : List Value} (h : KeepSt w0 w H O m v vp N sl) : ∃ a c, vp = .slice a sl.length c := by
  rcases h.pts.2 with ⟨e, h0⟩ | ⟨g, c, cur, e, _⟩
  · exact ⟨_, _, by rw [e, h0]⟩
  · exact ⟨_, _, e⟩
theorem KeepSt.shapeV {w0 w : World} {H : Nat} {O : Option Nat} {m : Int} {v vp : Value} {N : Nat} {sl : List Value} (h : KeepSt w0 w H O m v vp N sl) : ∃ a c, v = .slice a N c := by
  obtain ⟨a, c, e⟩ := h.own.slice
  rw [List.length_replicate] at e
  exact ⟨a, c, e⟩
/-- what is kept of it -/
theorem KeepSt.hold {w0 w : World} {H : Nat} {O : Option Nat} {m : Int} {v vp : Value} {N : Nat} {sl : List Value} (h : KeepSt w0 w H O m v vp N sl) (hN : N ≤ 100000) (hl : sl.length ≤ 9) : HoldIs (fun k => k < w.heap.size ∧ (w0.heap.size ≤ k ∨ O = some k)) w H := by
  have hH := h.hs
  refine ⟨⟨h.lt, .inl (by omega)⟩, vp, m, sl, h.row, h.pts, fun g hg => ⟨(World.ownsRow.lt h.pts g hg).2, .inl (by have := h.pb g hg; omega)⟩, hl, fun s hs => ?_⟩
  obtain ⟨a, n, c, e, hn, hr⟩ := (h.old s hs).marked h.own hN
  refine ⟨a, n, c, e, hn, fun i hi => ?_⟩
  obtain ⟨g, o, ea, hT, hp⟩ := hr i hi
  exact ⟨g, o, ea, ⟨hp.lt, hT.1.imp_left (fun h => by omega)⟩, hp⟩
end Go.Proofs.YtenaelkbgkpllaaGreatDoor
/- The law's begin: a map more, of the program and of the document. -/
namespace Go.Proofs.YtenaelkbgkpllaaGreatDoor
open Go.RowKit

/-- what begin leaves -/
structure Begun (w w' : World) (W0 : Nat) (vp vh : Value) (ps : List Pr) (hs : List Nat) (vp' : Value) (p : Pr) : Prop where
  keep : Keeps (fun k => k = W0 ∨ some k = vp.ownBlock) w w'
  law : LawAt w' W0 vp' vh (ps ++ [p]) hs
  fresh : Fresh w vp vp'
  map : IsMap w' p.m p.v []
  ref : RMap w' p.r p.u []
  em : p.L = []
  er : p.K = []
  mv : p.v = .slice none 0 0
  rv : p.u = .slice none 0 0
  m1 : w.heap.size ≤ p.m
  r1 : w.heap.size ≤ p.r
  ne : p.m ≠ p.r
  am : vp'.ownBlock ≠ some p.m
  ar : vp'.ownBlock ≠ some p.r
set_option maxRecDepth 100000 in
set_option maxHeartbeats 4000000 in
theorem begin_law (W0 : Nat) (vp vh : Value) (ps : List Pr) (hs : List Nat) (w : World) (hL : LawAt w W0 vp vh ps hs) (hn : ps.length ≤ 1000000000000) :
    Calls Tryz.prog 27 #[.pointer (some ⟨W0, 0, none⟩)] w fun e w' => e = .returned (.bool true) ∧ ∃ vp' p, Begun w w' W0 vp vh ps hs vp' p := by
  have hlt := hL.lt
  have HL := hide hL
  have HNEW := hide (new_any w)
  clear hL
  go_enter Tryz.func27, Tryz.ntmps27
  go_wp2_with fail
  refine HNEW.out.mono ?_
  rintro _ w1 ⟨rfl, hm1, hs1, hb1⟩
  have HM1 := hide hm1
  have hs1' : w.heap.size < w1.heap.size := by omega
  have HS1 := hide hs1
  have HB1 := hide hb1
  have HL1 := hide (HL.out.keeps (S := fun _ => False) (Keeps.of_below hb1) (fun _ _ h => h))
  have hc1 : w1.cell? ⟨W0, 0, none⟩ = some vp := by rw [cell_of_row _ _ _ _ _ _ HL1.out.row]; rfl
  have hRC : w1.rangeAt W0 2 constV := fun k v hv => by
    rw [cell_of_row _ _ _ _ _ _ HL1.out.row, List.getElem?_toArray, Nat.add_comm 2 k]
    exact hv
  have hlt1 : W0 < w1.heap.size := by omega
  clear hm1 hs1 hb1 HNEW
  go_upto_region 4 with fail
  have hS : w1.drew.cell? ⟨W0, 0, none⟩ = some vp ∧ w1.drew.rangeAt W0 2 constV := ⟨by simpa using hc1, fun k v hv => hRC k v hv⟩
  have hIC : (Tryz.prog.info? 67).map (·.size) = some constV.length := by rw [constV_len]; exact Tryz.infoConst
  obtain ⟨vs, ns, cs, hvp⟩ : ∃ a n c, vp = .slice a n c := by
    rcases HL.out.pairs.2 with ⟨e, _⟩ | ⟨g, c, cur, e, _⟩
    · exact ⟨_, _, _, e⟩
    · exact ⟨_, _, _, e⟩
  refine wp_region_L 17 (fun W => W.cell? ⟨W0, 0, none⟩ = some vp ∧ W.rangeAt W0 2 constV) (by kernel_rfl) hS (fun hH => ?_)
  clear hS hRC hc1
  have HBR := hide built_rmap
  subst hvp
  refine wpAnyL_take (i := 0) (v := ?_) rfl (by kernel_rfl) (by kernel_rfl) (by kernel_rfl) (by kernel_rfl) (by kernel_rfl) (fun _ _ _ h => h) (Or.inl ⟨by rfl, ?_⟩) hH ?_
  rotate_left
  · intro W hSW
    obtain ⟨zv, zc⟩ := hSW
    go_simp
    try with_reducible rfl
  try go_simp
  refine wpAnyL_take (i := 1) (v := ?_) rfl (by kernel_rfl) (by kernel_rfl) (by kernel_rfl) (by kernel_rfl) (by kernel_rfl) (fun _ _ _ h => h) (Or.inl ⟨by rfl, ?_⟩) hH ?_
  rotate_left
  · intro W hSW
    obtain ⟨zv, zc⟩ := hSW
    go_simp
    try with_reducible rfl
  try go_simp
  refine wpAnyL_take (i := 2) (v := ?_) rfl (by kernel_rfl) (by kernel_rfl) (by kernel_rfl) (by kernel_rfl) (by kernel_rfl) (fun _ _ _ h => h) (Or.inl ⟨by rfl, ?_⟩) hH ?_
  rotate_left
  · intro W hSW
    obtain ⟨zv, zc⟩ := hSW
    go_simp
    try with_reducible rfl
  try go_simp
  refine wpAnyL_take (i := 3) (v := ?_) rfl (by kernel_rfl) (by kernel_rfl) (by kernel_rfl) (by kernel_rfl) (by kernel_rfl) (fun _ _ _ h => h) (Or.inl ⟨by rfl, ?_⟩) hH ?_
  rotate_left
  · intro W hSW
    obtain ⟨zv, zc⟩ := hSW
    go_simp
    try with_reducible rfl
  try go_simp
  refine wpAnyL_take (i := 4) (v := ?_) rfl (by kernel_rfl) (by kernel_rfl) (by kernel_rfl) (by kernel_rfl) (by kernel_rfl) (fun _ _ _ h => h) (Or.inl ⟨by rfl, ?_⟩) hH ?_
  rotate_left
  · intro W hSW
    obtain ⟨zv, zc⟩ := hSW
    go_simp
    try with_reducible rfl
  try go_simp
  refine wpAnyL_take (i := 5) (v := ?_) rfl (by kernel_rfl) (by kernel_rfl) (by kernel_rfl) (by kernel_rfl) (by kernel_rfl) (fun _ _ _ h => h) (Or.inl ⟨by rfl, ?_⟩) hH ?_
  rotate_left
  · intro W hSW
    obtain ⟨zv, zc⟩ := hSW
    go_simp
    try with_reducible rfl
  try go_simp
  refine wpAnyL_take (i := 6) (v := ?_) rfl (by kernel_rfl) (by kernel_rfl) (by kernel_rfl) (by kernel_rfl) (by kernel_rfl) (fun _ _ _ h => h) (Or.inl ⟨by rfl, ?_⟩) hH ?_
  rotate_left
  · intro W hSW
    obtain ⟨zv, zc⟩ := hSW
    go_simp
    try with_reducible rfl
  try go_simp
  refine wpAnyL_take (i := 7) (v := ?_) rfl (by kernel_rfl) (by kernel_rfl) (by kernel_rfl) (by kernel_rfl) (by kernel_rfl) (fun _ _ _ h => h) (Or.inl ⟨by rfl, ?_⟩) hH ?_
  rotate_left
  · intro W hSW
    obtain ⟨zv, zc⟩ := hSW
    go_simp
    try with_reducible rfl
  try go_simp
  refine wpAnyL_take (i := 8) (v := ?_) rfl (by kernel_rfl) (by kernel_rfl) (by kernel_rfl) (by kernel_rfl) (by kernel_rfl) (fun _ _ _ h => h) (Or.inl ⟨by rfl, ?_⟩) hH ?_
  rotate_left
  · intro W hSW
    obtain ⟨zv, zc⟩ := hSW
    go_simp
    try with_reducible rfl
  try go_simp
  refine wpAnyL_take (i := 9) (v := .agg constV.toArray) rfl (by kernel_rfl) (by kernel_rfl) (by kernel_rfl) (by kernel_rfl) (by kernel_rfl) (fun _ _ _ h => h) (yieldsIf_load_mid (by rfl) _ _ rfl W0 2 rfl constV _ (fun W hW => hW.2) Tryz.underlying67 rfl hIC) hH ?_
  try go_simp
  refine wpAnyL_take (i := 10) (v := .agg (.slice none 0 0 :: constV).toArray) rfl (by kernel_rfl) (by kernel_rfl) (by kernel_rfl) (by kernel_rfl) (by kernel_rfl) (fun _ _ _ h => h) (yields_built (by rfl) 111 _ rfl (.slice none 0 0 :: constV).toArray [(1, .agg constV.toArray)] rfl HBR.out) hH ?_
  generalize hMV : (Value.slice none 0 0 :: constV).toArray = MV at *
  have HMV := hide hMV
  clear hMV
  have HCA := hide (fun (W W' : World) (hb : Below W.heap.size W W') (hw : W0 < W.heap.size) (h : W.cell? ⟨W0, 0, none⟩ = some (.slice vs ns cs) ∧ W.rangeAt W0 2 constV) => show W'.cell? ⟨W0, 0, none⟩ = some (.slice vs ns cs) ∧ W'.rangeAt W0 2 constV from ⟨(hb.cell (p := ⟨W0, 0, none⟩) hw).trans h.1, fun k v hv => (hb.cell (p := ⟨W0, 2 + k, none⟩) hw).trans (h.2 k v hv)⟩)
  have hH0 : w1.cell? ⟨W0, 0, none⟩ = some (.slice vs ns cs) ∧ w1.rangeAt W0 2 constV := ⟨by simpa using hH.1, fun k v hv => hH.2 k v hv⟩
  refine wpAnyL_one (i := 11) (by kernel_rfl) rfl (fun K hK => ?_)
  go_simp
  have hn2 := heap_alloc_new w1
  have hb2' := fun o => ((Below.refl w1.heap.size w1).alloc (Nat.le_refl _) o).drew
  generalize hW : World.drew (World.alloc w1 _) = w2
  have hb2 : Below w1.heap.size w1 w2 := by rw [← hW]; exact hb2' _
  have hr2 : w2.heap[w1.heap.size]? = some (.cells MV 111 (0, 0)) := by rw [← hW]; exact hn2 _
  clear hW hn2 hb2'
  have hs2 : w1.heap.size < w2.heap.size := (Array.getElem?_eq_some_iff.1 hr2).1
  have hH2 := HCA.out _ _ hb2 hlt1 hH0
  refine hK.out _ _ (fun _ => hH2) ?_
  clear hK K
  try go_simp
  refine wpAnyL_take (i := 12) (v := ?_) rfl (by kernel_rfl) (by kernel_rfl) (by kernel_rfl) (by kernel_rfl) (by kernel_rfl) (fun _ _ _ h => h) (Or.inl ⟨by rfl, ?_⟩) hH2 ?_
  rotate_left
  · intro W hSW
    obtain ⟨zv, zc⟩ := hSW
    go_simp
    try with_reducible rfl
  try go_simp
  obtain ⟨vp', w4, hr, hcl, hfz, hLF, hFr, hKF, ⟨ah, nh, ch, eh⟩, hKG⟩ := (HL1.out.keeps (S := fun _ => False) (Keeps.of_below hb2) (fun _ _ h => h)).pushPair ⟨w.heap.size, .slice none 0 0, w1.heap.size, .slice none 0 0, [], []⟩ hn
  subst eh
  have hr' : (Builtin.append_ #[69, 69] 69 #[.slice vs ns cs, .slice (some ⟨w2.heap.size, 0, none⟩) 1 1]).run Tryz.prog (w2.alloc (.cells #[.pointer (some ⟨w.heap.size, 0, none⟩), .pointer (some ⟨w1.heap.size, 0, none⟩)] 113)) = .ok (.slice ah nh ch) w4 := hr
  have HR2 := hide hr2
  have HB2 := hide hb2
  have HLF := hide hLF
  have HFR := hide hFr
  have HKF := hide hKF
  have hH4 : w4.cell? ⟨W0, 0, none⟩ = some (.slice vs ns cs) ∧ w4.rangeAt W0 2 constV := by
    have hap : some W0 ≠ (Value.slice vs ns cs).ownBlock := fun e => HL.out.apP e.symm
    exact ⟨hcl, fun k v hv => (World.cell?_of_block (a := ⟨W0, 2 + k, none⟩) (hKG.block W0 (by omega) hap)).trans (hH2.2 k v hv)⟩
  clear hr hr2 hLF hFr hKF hKG
  refine wpAnyL_one (i := 13) (by kernel_rfl) rfl (fun K hK => ?_)
  go_simp
  refine hK.out _ _ (fun _ => HCA.out _ _ ((Below.refl w2.heap.size w2).alloc (Nat.le_refl _) _) (by omega) hH2) ?_
  clear hK K
  try go_simp
  refine wpAnyL_one (i := 14) (by kernel_rfl) rfl (fun K hK => ?_)
  rw [if_pos (by rfl)]
  refine Lib.wp_append_run _ _ _ 69 69 rfl _ _ rfl rfl _ _ hr' ?_
  refine hK.out _ _ (fun _ => hH4) ?_
  clear hK K hr'
  try go_simp
  refine wpAnyL_one (i := 15) (by kernel_rfl) rfl (fun K hK => ?_)
  go_simp
  refine hK.out _ _ (fun _ => hH4) ?_
  clear hK K
  try go_simp
  refine wpAnyL_one (i := 16) (by kernel_rfl) rfl (fun K hK => ?_)
  go_simp
  refine hK.out _ _ (fun _ => hH4) ?_
  clear hK K
  try go_simp
  refine wpAnyL_one (i := 17) (by kernel_rfl) rfl (fun K hK => ?_)
  go_simp
  refine hK.out _ _ (fun h => absurd rfl h) ?_
  clear hK K
  refine wpAnyL_done (by kernel_rfl) ?_ _
  go_wp2_with fail
  go_ret
  have hsz := HS1.out
  have hne : w.heap.size ≠ w1.heap.size := by omega
  have hvb : ∀ g, (Value.slice vs ns cs).ownBlock = some g → g < w.heap.size := fun g hg => (World.ownsRow.lt HL.out.pairs g hg).2
  have hK12 : Keeps (fun k => k = W0 ∨ some k = (Value.slice vs ns cs).ownBlock) w w2 := (Keeps.of_below HB1.out).trans (Keeps.of_below (S := fun k => k = W0 ∨ some k = (Value.slice vs ns cs).ownBlock) HB2.out) (fun _ _ h => h)
  have hno : ∀ k, w.heap.size ≤ k → ¬ (k = W0 ∨ some k = (Value.slice vs ns cs).ownBlock) := fun k hk e => by
    rcases e with e | e
    · omega
    · have := hvb k e.symm; omega
  have hnm : ∀ k, w.heap.size ≤ k → k < w2.heap.size → (Value.slice ah nh ch).ownBlock ≠ some k := fun k hk hk2 e => by
    rcases HFR.out with h1 | ⟨g, h1, h2⟩
    · have := hvb k (h1.symm.trans e); omega
    · rw [h1] at e
      injection e with e
      omega
  refine ⟨rfl, _, ⟨w.heap.size, .slice none 0 0, w1.heap.size, .slice none 0 0, [], []⟩, ⟨hK12.trans HKF.out (fun _ _ h => h), HLF.out, ?_, ?_, ?_, rfl, rfl, rfl, rfl, Nat.le_refl _, (Nat.le_of_lt hs1'), hne, hnm _ (Nat.le_refl _) (Nat.lt_trans hs1' hs2), hnm _ (Nat.le_of_lt hs1') hs2⟩⟩
  · rcases HFR.out with h1 | ⟨g, h1, h2⟩
    · exact .inl h1
    · exact .inr ⟨g, h1, by omega⟩
  · refine (HM1.out.below HB2.out).keeps HKF.out (fun k hk => ?_)
    rcases hk with rfl | hk
    · exact hno _ (Nat.le_refl _)
    · cases hk
  · refine RMap.keeps (w := w2) ⟨?_, World.ownsRow_nil _ _ _ _, fun e => (by cases e)⟩ HKF.out (fun k hk => ?_)
    · rw [HR2.out, HMV.out]
    · rcases hk with rfl | hk
      · exact hno _ (Nat.le_of_lt hs1')
      · cases hk
end Go.Proofs.YtenaelkbgkpllaaGreatDoor
/- The law's world: reading a pair of it; what holds between its steps. -/
namespace Go.Proofs.YtenaelkbgkpllaaGreatDoor
open Go.RowKit

theorem Tryz.infoWorldZ : (Tryz.prog.info? 72).bind (fun i => i.zero.map (fun z => (z.cells.size, z.cells[0]?, z.cells[1]?))) = some (74, some (.slice none 0 0), some (.slice none 0 0)) := by kernel_rfl
theorem Tryz.placesWorld : ((Tryz.prog.fieldsOf 72).toList.mapM (fun f => (Tryz.prog.info? f.type).map fun i => (f.offset, i.size))) = some [(0, 1), (1, 1), (2, 72)] := by kernel_rfl
theorem built_world : Tryz.prog.built 72 [(2, .agg constV.toArray)] = some (.slice none 0 0 :: .slice none 0 0 :: constV).toArray := by
  have hS : Tryz.prog.underlying 72 = some (.struct (Tryz.prog.fieldsOf 72)) := by kernel_rfl
  have hz := Tryz.infoWorldZ
  have hp := Tryz.placesWorld
  unfold Program.built
  cases hi : Tryz.prog.info? 72 with
  | none => rw [hi] at hz; cases hz
  | some it =>
    rw [hi] at hz
    cases hz0 : it.zero with
    | none => simp [hz0] at hz
    | some z =>
      simp only [hz0, Option.bind_some, Option.map_some, Option.some.injEq, Prod.mk.injEq] at hz
      rw [hS]
      simp only [hz0, hp]
      exact fill_mid _ 2 [.slice none 0 0, .slice none 0 0] constV z.cells (by rw [hz.1, constV_len]; rfl) (fun k hk => by
        have : k < 2 := by simpa using hk
        rcases (show k = 0 ∨ k = 1 by omega) with rfl | rfl
        · exact hz.2.1
        · exact hz.2.2) (by rw [constV_len]; rfl)
theorem pr_flat : ∀ (ps : List Pr) (i : Nat) (h : i < ps.length), (ps.flatMap prV)[i * 2]? = some (.pointer (some ⟨ps[i].m, 0, none⟩)) ∧ (ps.flatMap prV)[i * 2 + 1]? = some (.pointer (some ⟨ps[i].r, 0, none⟩))
  | p :: ps, 0, _ => ⟨rfl, rfl⟩
  | p :: ps, i + 1, h => by
    have ih := pr_flat ps i (by simpa using h)
    have e1 : (i + 1) * 2 = i * 2 + 1 + 1 := by omega
    rw [List.flatMap_cons, e1]
    exact ih
theorem LawAt.pair_at {w : World} {W0 : Nat} {vp vh : Value} {ps : List Pr} {hs : List Nat} (h : LawAt w W0 vp vh ps hs) (hne : ps ≠ []) : ∃ g c, vp = .slice (some ⟨g, 0, none⟩) ps.length c ∧ ps.length ≤ c ∧ ∀ w', Below w.heap.size w w' → w'.cell? ⟨W0, 0, none⟩ = some vp ∧ ∀ i, (hi : i < ps.length) → w'.cell? ⟨g, i * 2, none⟩ = some (.pointer (some ⟨ps[i].m, 0, none⟩)) ∧ w'.cell? ⟨g, i * 2 + 1, none⟩ = some (.pointer (some ⟨ps[i].r, 0, none⟩)) := by
  rcases h.pairs.2 with ⟨_, h0⟩ | ⟨g, c, cur, e, _, _, hc, _⟩
  · exact absurd (List.length_eq_zero_iff.1 h0) hne
  · refine ⟨g, c, e, hc, fun w' hb => ?_⟩
    have h' := h.keeps (S := fun _ => False) (Keeps.of_below hb) (fun _ _ h => h)
    refine ⟨by rw [cell_of_row _ _ _ _ _ _ h'.row]; rfl, fun i hi => ?_⟩
    obtain ⟨e1, e2⟩ := pr_flat ps i hi
    have c1 := h'.pairs.cells (g := g) (by rw [e]; rfl) _ _ e1
    have c2 := h'.pairs.cells (g := g) (by rw [e]; rfl) _ _ e2
    rw [Addr.add_lit, Nat.zero_add] at c1 c2
    exact ⟨c1, c2⟩
/-- what holds between two steps: as many maps and lists at most -/
def InvE (w0 w : World) (W0 n : Nat) : Prop := ∃ ow vp vh ps hs, Inv w0 ow w W0 vp vh ps hs ∧ ps ≠ [] ∧ (∀ p ∈ ps, p.L = p.K) ∧ ps.length ≤ n ∧ hs.length ≤ n
theorem InvE.below {w0 w w' : World} {W0 n : Nat} (h : InvE w0 w W0 n) (hb : Below w.heap.size w w') : InvE w0 w' W0 n := by
  obtain ⟨ow, vp, vh, ps, hs, h1, h2⟩ := h
  exact ⟨ow, vp, vh, ps, hs, h1.below hb, h2⟩
theorem InvE.mono {w0 w : World} {W0 n m : Nat} (h : InvE w0 w W0 n) (hm : n ≤ m) : InvE w0 w W0 m := by
  obtain ⟨ow, vp, vh, ps, hs, h1, h2, h3, h4, h5⟩ := h
  exact ⟨ow, vp, vh, ps, hs, h1, h2, h3, by omega, by omega⟩
/-- the document's map of the pair, once the program's has changed -/
theorem Inv.half {w0 w w1 : World} {ow : Nat → Nat} {W0 : Nat} {vp vh : Value} {ps : List Pr} {hs : List Nat} (h : Inv w0 ow w W0 vp vh ps hs) (i : Nat) (hi : i < ps.length) (hk : Keeps (Mine ps[i].m ps[i].v) w w1) : RMap w1 ps[i].r ps[i].u ps[i].K := by
  have hp := h.pair i hi
  exact hp.ref.keeps hk (fun k h1 h2 => by have := hp.mt k h2; have := hp.rt k h1; omega)
/-- both maps of a pair have changed -/
theorem Inv.two {w0 w w1 w2 : World} {ow : Nat → Nat} {W0 n : Nat} {vp vh : Value} {ps : List Pr} {hs : List Nat} (h : Inv w0 ow w W0 vp vh ps hs) (hE : ∀ p ∈ ps, p.L = p.K) (hn : ps.length ≤ n) (hh : hs.length ≤ n) (i : Nat) (hi : i < ps.length) {L' : List Ward.Pt} (hG : Good L')
    (h1 : ∃ v', IsMap w1 ps[i].m v' L' ∧ Fresh w ps[i].v v' ∧ Keeps (Mine ps[i].m ps[i].v) w w1) (h2 : ∃ u', RMap w2 ps[i].r u' L' ∧ FreshR w1 ps[i].u u' ∧ Keeps (Mine ps[i].r ps[i].u) w1 w2) : InvE w0 w2 W0 n := by
  obtain ⟨v', hm, hf, hk⟩ := h1
  obtain ⟨u', hm2, hf2, hk2⟩ := h2
  have I1 := h.map i hi hk hm hf hG
  have hi1 : i < (ps.set i { ps[i] with v := v', L := L' }).length := by rw [List.length_set]; exact hi
  have e1 : (ps.set i { ps[i] with v := v', L := L' })[i] = { ps[i] with v := v', L := L' } := List.getElem_set_self ..
  have I2 := I1.ref i hi1 (u' := u') (K' := L') (by rw [e1]; exact hk2) (by rw [e1]; exact hm2) (by rw [e1]; exact hf2)
  refine ⟨_, vp, vh, _, hs, I2, ?_, fun p hp => ?_, by rw [List.length_set, List.length_set]; exact hn, hh⟩
  · intro e
    have := congrArg List.length e
    rw [List.length_set, List.length_set] at this
    simp at this
    rw [this] at hi
    simp at hi
  · obtain ⟨j, hj, rfl⟩ := List.getElem_of_mem hp
    by_cases e : i = j
    · subst e
      rw [List.getElem_set_self, e1]
    · rw [List.getElem_set_ne e, List.getElem_set_ne e]
      exact hE _ (List.getElem_mem _)
/-- where the two maps are as they were -/
theorem InsertedR.same {w w' : World} {r : Nat} {u : Value} {L : List Ward.Pt} {c : Int} {e : Ending} (h : InsertedR w r u L c e w') : e = .returned (I c) ∧ ∃ u', RMap w' r u' L ∧ FreshR w u u' ∧ Keeps (Mine r u) w w' := h
end Go.Proofs.YtenaelkbgkpllaaGreatDoor
