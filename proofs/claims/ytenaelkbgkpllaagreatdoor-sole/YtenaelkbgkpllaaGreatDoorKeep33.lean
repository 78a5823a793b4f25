/- Part 33 of what the claims on Bound, Small, Right and Sole rest on. -/
import Derived.Test.YtenaelkbgkpllaaGreatDoorKeep32
import Derived.BigRegion
/- The law Sole: the walk. -/
namespace Go.Proofs.YtenaelkbgkpllaaGreatDoor
open Go.RowKit

theorem range_row {w : World} {g t : Nat} {C : List Value} (h : w.heap[g]? = some (.cells C.toArray t (0, 0))) : w.rangeAt g 0 C := fun j v hv => by
  rw [cell_of_row _ _ _ _ _ _ h, Nat.zero_add, List.getElem?_toArray]
  exact hv
theorem below_of_owned {w w' : World} {B : Nat} {v : Value} {ls : List (List UInt8)} (h : w.grownBy w' v.ownBlock) (ho : OwnS w B v ls) (hB : B ≤ w.heap.size) : Below B w w' := ⟨h.os, h.tape, h.output, h.size, fun j hj => h.block j (by omega) (fun e => by have := (World.ownsRow.lt ho j e.symm).1; omega)⟩
theorem run_load_com {d : Option Tmp} {x : Operand} {tt : TypeId} {ps : String} {af : Array Edge} {gd : Option (Nat × Bool)} {ev : Operand → Value} {w : World} (h : ComRow w (ev x)) :
    (execOp ev { dst := d, op := .load 41 x, type := tt, pos := ps, after := af, guard := gd }).run Tryz.prog w = .ok (.value (loadVal w (ev x))) w := by
  obtain ⟨g, cs, t, fr, hv, hg, hs⟩ := h
  obtain ⟨fs, hu⟩ := underCom
  have hr := run_loadVar_row (P := Tryz.prog) w g t 41 cs fr (.struct fs) hg hu rfl (by rw [hs]; exact Tryz.infoCommit)
  rw [hv, loadVal_row hg]
  unfold execOp
  simp only [hv, Instr.loadAt, Instr.sureAddr, Sem.run_bind, Sem.run_pure, Result.andThen_ok, hr]
attribute [local go_sem ↓ 100000] run_load_com
attribute [local go_sem ↓] Go.wp_at_zero Go.wp_at_succ wp_load_com
set_option maxRecDepth 100000 in
set_option maxHeartbeats 20000000 in
theorem sole_law (a1 a2 : Option Addr) (c1 c2 : Nat) (code turns : List Int) (other : List UInt8) (w : World) (h1 : Arg w a1 code) (h2 : Arg w a2 turns) (hot : other.length ≤ 140737488355328) (hK : KT w) (hWT : WT w) :
    Calls Tryz.prog 10 #[.slice a1 code.length c1, .slice a2 turns.length c2, Sv other] w fun e w' => e = .returned (.bool true) ∧ Below w.heap.size w w' := by
  have H1 := hide h1
  have HK := hide hK
  have H2 := hide h2
  have HWT := hide hWT
  obtain ⟨fsc, huc⟩ := underCom
  have HUC := hide huc
  clear h1 h2 hK hWT huc
  go_enter Tryz.func10, Tryz.ntmps10
  go_wp2_with fail
  have hd1 := dice_new (w := w) (c := c1) H1.out.len H1.out.fits H1.out.lies
  refine (began_any (w.heap.size + 1) w.heap.size code 0 _ (by simp) hd1 (HK.out.below ((Below.refl _ _).alloc (Nat.le_refl _) _))).mono ?_
  rintro e w1 ⟨k1, m, v, L, vl, l, rfl, hH1, hp1, hn1, hl1⟩
  have hb0 := (Below.refl w.heap.size w).alloc (Nat.le_refl _) (.cells #[.slice a1 code.length c1, I 0] 32)
  have hs0 : w.heap.size < (w.alloc (.cells #[.slice a1 code.length c1, I 0] 32)).heap.size := by simp
  generalize World.alloc w (.cells #[.slice a1 code.length c1, I 0] 32) = w0 at *
  have HH1 := hide hH1
  have HB0 := hide hb0
  have HPM := hide hp1
  have HNR := hide hn1
  have HGL := hide hH1.good
  have HIL := hide ((Ward.ids_perm hp1).1 hH1.good.ids)
  have HKH := hide (fun W k => held_kt (k := k) (W := W) (B := w.heap.size + 1) (code := code) (m := m) (v := v) (L := L) (vl := vl) (l := l) HK.out hb0 (Nat.le_refl w.heap.size))
  have HCN := hide (commit_count hp1)
  have HCM := hide (com_of L)
  have HEQ := hide (eqCom L L)
  have HCO := hide (fun (n : Nat) (v : Value) (W : World) (hm : IsMap W n v L) (hk : KT W) => commitment_any n v L W hm HGL.out hk)
  have HVA := hide (fun (q : Ward.Qr) (s : List UInt8) (W : World) (hk : KT W) => show Calls Tryz.prog 22 #[.agg (commitV L).toArray, Qv q, Sv s] W (Verified W (Sha.sha (Ward.rootText Sha.sha L)) (L.length : Nat) q s) from verify_any _ _ q s W (sha_len _) hk)
  obtain ⟨al, cl, el, -⟩ := hH1.list.reads
  subst el
  have hls : l.length ≤ 39 := hl1
  have hkt1 := (HKH.out w1 k1 hH1).2
  have HKT1 := hide hkt1
  have hm1 := hH1.map
  have hm0 := hH1
  clear hd1 hH1 hp1 hn1 hl1 hb0
  have hb1w := (HKH.out w1 k1 hm0).1
  have HB1W := hide hb1w
  clear hm0 hb1w
  have HCS := hide (commit_more HPM.out)
  generalize hCC : commitV L = C at *
  have HCC := hide hCC
  clear hCC
  go_wp2_with fail
  refine (HCO.out m v w1 hm1 HKT1.out).mono ?_
  rintro _ w2 ⟨rfl, hb2⟩
  have HH2 := hide (HH1.out.below hb2)
  have hs2 := hb2.size
  clear hb2 hm1 hkt1
  have hb3' := fun o => (Below.refl w2.heap.size w2).alloc (Nat.le_refl _) o
  have hr3' := heap_alloc_new w2
  go_upto_region 6 with (refine wpList_store_row rfl 41 (.tmp 10) (.tmp 47) rfl w2.heap.size C.toArray rfl rfl 41 _ (heap_alloc_new w2 _) HCM.out.info (by rw [HCM.out.size]; rfl) HCM.out.one ?_; rw [World.setRow_alloc_new])
  generalize hW : World.alloc w2 _ = w3
  have hb3 : Below w2.heap.size w2 w3 := by rw [← hW]; exact hb3' _
  have hr3 : w3.heap[w2.heap.size]? = some (.cells C.toArray 41 (0, 0)) := by rw [← hW]; exact hr3' _
  clear hb3' hr3' hW
  have hs3 : w2.heap.size < w3.heap.size := (Array.getElem?_eq_some_iff.1 hr3).1
  have HH3 := hide (HH2.out.below hb3)
  have HR3 := hide hr3
  have hdl : w.heap.size < w3.heap.size := HH3.out.dice.lt
  have hw0 : w0.heap.size ≤ w2.heap.size := HH2.out.keeps.size
  clear hb3 hr3
  have HQU := hide (query_any (w.heap.size + 1) w.heap.size code k1 w3 HH3.out.dice (by omega))
  go_wp2_with fail
  refine HQU.out.mono ?_
  rintro _ w4 ⟨q, k2, rfl, hsq, hd4, hk4⟩
  have hs4 := hk4.size
  have HH4 := hide (HH3.out.next hs0 hd4 hk4)
  have HR4 := hide ((hk4.block w2.heap.size (by omega) (fun e => by omega)).trans HR3.out)
  have HSQ := hide hsq
  clear hd4 hk4 hsq HQU
  have HQV := hide (query_any (w.heap.size + 1) w.heap.size code k2 w4 HH4.out.dice (by omega))
  go_wp2_with fail
  refine HQV.out.mono ?_
  rintro _ w5 ⟨r, k3, rfl, hsr, hd5, hk5⟩
  have hs5 := hk5.size
  have HH5 := hide (HH4.out.next hs0 hd5 hk5)
  have HR5 := hide ((hk5.block w2.heap.size (by omega) (fun e => by omega)).trans HR4.out)
  have HSR := hide hsr
  clear hd5 hk5 hsr HQV
  have hr6' := heap2 w5
  have hb6' := fun o o' => ((Below.refl w5.heap.size w5).alloc (Nat.le_refl _) o).alloc (by simp) o'
  have hbq : ∀ (W : World) (A B : Array Value), Below w5.heap.size w5 W → Below w5.heap.size w5 ((W.setRow w5.heap.size A).setRow (w5.heap.size + 1) B) := fun W A B h => below_setRow (below_setRow h (Nat.le_refl _) _) (by omega) _
  go_upto_region 7 with (first | (refine wpList_store_row rfl 46 (.tmp 11) (.tmp 49) rfl w5.heap.size #[I q.kind, I q.a, I q.b, I q.c, I q.d, I q.x, I q.y, I q.k] rfl rfl 46 _ (heap2 w5 _ _).1 sizeQ rfl (one8 _ _ _ _ _ _ _ _) ?_) | (refine wpList_store_row rfl 46 (.tmp 12) (.tmp 51) rfl (w5.heap.size + 1) #[I r.kind, I r.a, I r.b, I r.c, I r.d, I r.x, I r.y, I r.k] rfl rfl 46 _ ((setRow_other _ _ _ _ (by omega)).trans (heap2 w5 _ _).2.1) sizeQ rfl (one8 _ _ _ _ _ _ _ _) ?_))
  generalize hW : World.setRow (World.setRow (World.alloc (World.alloc w5 _) _) _ _) _ _ = w6
  have hb6 : Below w5.heap.size w5 w6 := by rw [← hW]; exact hbq _ _ _ (hb6' _ _)
  have hq6 : w6.heap[w5.heap.size]? = some (.cells #[I q.kind, I q.a, I q.b, I q.c, I q.d, I q.x, I q.y, I q.k] 46 (0, 0)) := by rw [← hW]; exact (setRow_other _ _ _ _ (by omega)).trans (setRow_heap _ _ _ _ _ _ (hr6' _ _).1)
  have hr6 : w6.heap[w5.heap.size + 1]? = some (.cells #[I r.kind, I r.a, I r.b, I r.c, I r.d, I r.x, I r.y, I r.k] 46 (0, 0)) := by rw [← hW]; exact setRow_heap _ _ _ _ _ _ ((setRow_other _ _ _ _ (by omega)).trans (hr6' _ _).2.1)
  clear hr6' hb6' hbq hW
  have hs6 : w5.heap.size + 1 < w6.heap.size := (Array.getElem?_eq_some_iff.1 hr6).1
  have HH6 := hide (HH5.out.below hb6)
  have HR6 := hide ((hb6.block w2.heap.size (by omega)).trans HR5.out)
  have HQ6 := hide hq6
  have HX6 := hide hr6
  obtain ⟨q0, q1, q2, q3, q4, q5, q6, q7⟩ := rowQ8 hq6
  clear hb6 hq6 hr6 HH3 HH4 HR3 HR4 HH5 HR5
  have HPR := hide (fun (q : Ward.Qr) (hq : Ward.mayBe q = true) (W : World) (hm : IsMap W m v L) (hk : KT W) => prove_any m v L W hq hm HGL.out hk)
  have HVX := hide (fun W hk => HVA.out q (Ward.proofText q L) W hk)
  have HPQ := hide (fun W hm hk => HPR.out q HSQ.out.1 W hm hk)
  have HPX := hide (fun W hm hk => HPR.out r HSR.out.1 W hm hk)
  have HPW := hide (fun W hm hk => HPR.out wholeQ whole_may W hm hk)
  have HVF := hide (Ward.verify_proof HSQ.out.1 HGL.out.well)
  have HSE := hide (show Ward.proofText q L ≠ [] from by rw [← proofText_of]; exact proofN_ne _ _ _)
  have HSL := hide (proofText_len q HGL.out.well)
  have HCL := hide (fun (s : List UInt8) (b : List Ward.Pt) hv (hne : s ≠ Ward.proofText q L) (W : World) (hk : KT W) => collide_sole (q := q) HGL.out (s := s) (b := b) hv hne W hk)
  have HRI := hide (Ward.right_ans HSQ.out.1 HPM.out HGL.out.ids)
  have HAL := hide (show (Ward.ans q L).length ≤ 1000 by
    have h1 : L.length ≤ 150 := HGL.out.many
    unfold Ward.ans
    split
    · rw [List.length_take, (Ward.sortN_perm _ _ _).length_eq]; omega
    · rw [(Ward.sortP_perm _).length_eq]; exact Nat.le_trans (List.length_filter_le _ _) (by omega))
  have HCT := hide (fun (c : Int) (hc : c ≠ (L.length : Nat)) => Ward.verify_count HSQ.out.1 HGL.out.well hc)
  have HVB := hide (fun W hk => verify_any (Sha.sha (Ward.rootText Sha.sha L)) ((L.length : Int) + 1) q (Ward.proofText q L) W (sha_len _) hk)
  have HRS := hide (show (rootV (Sha.sha (Ward.rootText Sha.sha L)) ((L.length : Int) + 1)).toArray.size = 33 by rw [List.size_toArray]; exact rootV_len _ _ rfl)
  generalize rootV (Sha.sha (Ward.rootText Sha.sha L)) ((L.length : Int) + 1) = RT at *
  have HVS := hide (fun (s : List UInt8) W hk => HVA.out q s W hk)
  generalize Ward.proofText q L = S at *
  generalize Ward.proofText r L = R at *
  generalize Ward.proofText wholeQ L = A0 at *
  go_wp2_with fail
  refine (HPQ.out w6 HH6.out.map (HKH.out w6 k3 HH6.out).2).mono ?_
  rintro _ w7 ⟨rfl, hb7⟩
  have hs7 := hb7.size
  have HH7 := hide (HH6.out.below hb7)
  have HR7 := hide ((hb7.block w2.heap.size (by omega)).trans HR6.out)
  have HQ7 := hide ((hb7.block w5.heap.size (by omega)).trans HQ6.out)
  obtain ⟨x0, x1, x2, x3, x4, x5, x6, x7⟩ := rowQ8 ((hb7.block (w5.heap.size + 1) (by omega)).trans HX6.out)
  clear hb7 HH6 HR6 HQ6 HX6 q0 q1 q2 q3 q4 q5 q6 q7
  go_wp2_with fail
  refine (HPX.out w7 HH7.out.map (HKH.out w7 k3 HH7.out).2).mono ?_
  rintro _ w8 ⟨rfl, hb8⟩
  have hs8 := hb8.size
  have HH8 := hide (HH7.out.below hb8)
  have HR8 := hide ((hb8.block w2.heap.size (by omega)).trans HR7.out)
  have HQ8 := hide ((hb8.block w5.heap.size (by omega)).trans HQ7.out)
  have hbw8 := (HKH.out w8 k3 HH8.out).1
  obtain ⟨g0, g1, g2, g3, g4, g5, g6, g7⟩ := (HWT.out.below hbw8).cells
  clear hb8 HH7 HR7 HQ7 x0 x1 x2 x3 x4 x5 x6 x7 hbw8
  go_wp2_with fail
  refine (HPW.out w8 HH8.out.map (HKH.out w8 k3 HH8.out).2).mono ?_
  rintro _ w9 ⟨rfl, hb9⟩
  have hs9 := hb9.size
  have HH9 := hide (HH8.out.below hb9)
  have HR9 := hide ((hb9.block w2.heap.size (by omega)).trans HR8.out)
  have HQ9 := hide ((hb9.block w5.heap.size (by omega)).trans HQ8.out)
  obtain ⟨q0, q1, q2, q3, q4, q5, q6, q7⟩ := rowQ8 HQ9.out
  clear hb9 HH8 HR8 HQ8 g0 g1 g2 g3 g4 g5 g6 g7
  have hcr := comRow_of HR9.out HCM.out.size
  have hcv := loadVal_row HR9.out
  go_wp2_with fail
  refine (HVX.out w9 (HKH.out w9 k3 HH9.out).2).mono ?_
  rintro e w10 ⟨va, he, ho10, hb10⟩
  rw [HVF.out] at he ho10
  subst he
  have hs10 := hb10.size
  have HH10 := hide (HH9.out.below hb10)
  have HR10 := hide ((hb10.block w2.heap.size (by omega)).trans HR9.out)
  have HQ10 := hide ((hb10.block w5.heap.size (by omega)).trans HQ9.out)
  have HO10 := hide ho10
  clear hb10 ho10 HH9 HR9 HQ9 q0 q1 q2 q3 q4 q5 q6 q7 hcr hcv
  have hie : S.isEmpty = false := by
    cases hh : S with
    | nil => exact absurd hh HSE.out
    | cons a l => rfl
  have hsl : S.length ≤ 37500 := HSL.out
  have hso : S.length + other.length ≤ 140737488400000 := by omega
  go_upto_region 14 with fail
  clear hso
  obtain ⟨XL, hXL⟩ : ∃ XL : List UInt8, (⟨S.toArray⟩ ++ ⟨other.toArray⟩ : ByteArray) = ⟨XL.toArray⟩ := ⟨(⟨S.toArray⟩ ++ ⟨other.toArray⟩ : ByteArray).data.toList, by rfl⟩
  rw [hXL]
  clear hXL
  have hb11' := fun o => (Below.refl w10.heap.size w10).alloc (Nat.le_refl _) o
  have hr11' := heap_alloc_new w10
  generalize hW : World.alloc w10 _ = w11
  have hb11 : Below w10.heap.size w10 w11 := by rw [← hW]; exact hb11' _
  have hr11 : w11.heap[w10.heap.size]? = some (.cells #[Sv R, Sv other, Sv [], Sv XL, Sv A0] 9 (0, 0)) := by rw [← hW]; exact hr11' _
  clear hb11' hr11' hW
  have HS11 := hide (show OwnS w11 w10.heap.size (.slice (some ⟨w10.heap.size, 0, none⟩) 5 5) [R, other, [], XL, A0] from ⟨rfl, Or.inr ⟨w10.heap.size, 5, _, rfl, Nat.le_refl _, hr11, Nat.le_refl 5, by unfold maxLen; decide, rfl, rfl⟩⟩)
  have HB11 := hide hb11
  clear hb11 hr11
  have HBW10 := hide ((HKH.out w10 k3 HH10.out).1)
  have HMN := hide (show ∀ j, Mine m v j → w.heap.size < j ∧ j < w2.heap.size from fun j hj => by
    rcases hj with rfl | hj
    · exact ⟨by have := HH2.out.newm; omega, HH2.out.map.lt⟩
    · exact ⟨by have := HH2.out.newv j hj.symm; omega, HH2.out.map.own.lt hj.symm⟩)
  have HVAL := hide (fun g (hg : va.ownBlock = some g) => HO10.out.lt hg)
  have HVL2 := hide (fun g (hg : (Value.slice al l.length cl).ownBlock = some g) => HH2.out.list.lt hg)
  have HVLL := hide (fun g (hg : (Value.slice al l.length cl).ownBlock = some g) => HH10.out.list.lt hg)
  have hspos : 0 < S.length := List.length_pos_iff.2 HSE.out
  go_wp2_with fail
  go_loopg [21, 22, 23, 24] 12 (fun gk v21 v22 _ _ wq => ∃ (i : Nat) (ls : List (List UInt8)), gk = 12 - i ∧ v22 = I i ∧ i ≤ 12 ∧ OwnS wq w10.heap.size v21 ls ∧ ls.length ≤ 5 + i ∧ Below w10.heap.size w10 wq)
  case atStart => exact ⟨0, _, rfl, rfl, by omega, HS11.out, Nat.le_refl _, HB11.out⟩
  case round =>
    clear HS11 HB11
    obtain ⟨i, ls, hgk, rfl, hi, hos, hll, hbl⟩ := hrel
    have HGK := hide hgk
    have HOS := hide hos
    have HBL := hide hbl
    have hszr := hbl.size
    clear hgk hos hbl
    by_cases hlt : i < turns.length
    · by_cases hi12 : i < 12
      · have hxf := H2.out.fits turns[i] (List.getElem_mem hlt)
        obtain ⟨tg, tn, eta, htc⟩ := H2.out.lies (fun e => by rw [e] at hlt; simp at hlt)
        have hbwr : Below w.heap.size w wr := HBW10.out.trans (HBL.out.mono HBW10.out.size)
        have hxc : wr.cell? ⟨tg, tn + i, none⟩ = some (I turns[i]) := (hbwr.cell (p := ⟨tg, tn + i, none⟩) (block_lt_of_cell (htc i hlt))).trans (htc i hlt)
        subst eta
        clear htc
        generalize turns[i] = x at *
        have hpk := pickN_range x (S.length : Int) (by omega)
        have HPK := hide (fun W => pick_any2 x (S.length : Int) W hxf.1 hxf.2 (by omega) (by omega))
        generalize pickN x (S.length : Int) = kz at *
        obtain ⟨kk, rfl⟩ := Int.eq_ofNat_of_zero_le hpk.1
        have hkk : kk < S.length := by omega
        have hdv : -9223372036854775808 ≤ x.tdiv (S.length : Int) ∧ x.tdiv (S.length : Int) ≤ 9223372036854775807 := by
          have hS1 : 2 ≤ S.length ∨ S.length = 1 := by omega
          rcases hS1 with h3 | h3
          · exact tdiv_fits x S.length hxf.1 hxf.2 h3
          · rw [h3, show ((1 : Nat) : Int) = 1 from rfl, Int.tdiv_one]; exact hxf
        have hp2 := pickN_range (x.tdiv (S.length : Int)) 255 (by decide)
        have HP2 := hide (fun W => pick_any2 (x.tdiv (S.length : Int)) 255 W hdv.1 hdv.2 (by decide) (by decide))
        generalize pickN (x.tdiv (S.length : Int)) 255 = pz at *
        clear hpk
        have hti : (i : Int) < (turns.length : Int) := by omega
        go_wp2_with fail
        refine (HPK.out wr).mono ?_
        rintro _ wa ⟨rfl, hwa⟩
        rw [hwa]
        clear hwa
        go_wp2_with fail
        refine (HP2.out wr).mono ?_
        rintro _ wb ⟨rfl, hwb⟩
        rw [hwb]
        clear hwb
        obtain ⟨b, hb⟩ : ∃ b : UInt8, (1 + pz) = ((b.toNat : Nat) : Int) := ⟨UInt8.ofNat (1 + pz).toNat, by rw [UInt8.toNat_ofNat']; omega⟩
        go_upto_region 19 with fail
        try rw [hb]
        clear hb
        have hrm : Int.tmod (i : Int) 4 = (((i % 4 : Nat)) : Int) := by
          rw [Int.tmod_eq_emod_of_nonneg (by omega)]
          omega
        have s1 := cut_to S kk (by omega)
        have s2 := cut_from S kk (by omega)
        obtain ⟨k1, hk1⟩ : ∃ k1 : Nat, k1 = kk + 1 := ⟨_, rfl⟩
        have hwk : IntKind.i64.wrap ((kk : Int) + 1) = (k1 : Int) := by subst hk1; simp [IntKind.wrap, IntKind.signed, IntKind.bits]; omega
        have s3 := cut_from S k1 (by omega)
        have s4 : (⟨S.toArray⟩ : ByteArray).extract k1 S.length = ⟨(S.drop k1).toArray⟩ := ba_eq (by rw [cut_list]; exact List.take_of_length_le (by simp))
        have hk1J : (k1 : Int) ≤ (S.length : Int) := by omega
        have hk1K : k1 ≤ S.length := by omega
        have hP1 : (S.take kk).length ≤ 37500 := by rw [List.length_take]; omega
        have hP2 : (S.drop kk).length ≤ 37500 := by rw [List.length_drop]; omega
        have hP5 : (S.drop k1).length ≤ 37500 := by rw [List.length_drop]; omega
        clear hk1
        have hix := idx_at ⟨S.toArray⟩ (kk : Int) kk (S.getD kk 0) (by
          show S.toArray.toList[kk]? = _
          rw [List.toList_toArray, List.getD_eq_getElem?_getD, List.getElem?_eq_getElem hkk]; rfl) rfl
        generalize S.getD kk 0 = sb at *
        generalize S.take kk = P1 at *
        generalize S.drop kk = P2 at *
        generalize S.drop k1 = P5 at *
        have hkI : (kk : Int) ≤ (S.length : Int) := by omega
        have hkJ : (kk : Int) < (S.length : Int) := by omega
        by_cases h40 : i % 4 = 0
        · have h40' : ((i % 4 : Nat) : Int) = 0 := by omega
          rw [h40'] at hrm
          clear h40 h40'
          obtain ⟨v9, w9, h9, ho9, hg9, hf9⟩ := append_text P1 HOS.out hszr (by omega)
          have HO9 := hide ho9
          have HB9 := hide (HBL.out.trans (below_of_owned hg9 HOS.out hszr))
          clear ho9 hg9 hf9
          go_wp2_with (at_builtin; refine Lib.wpList_append_run _ rfl (.tmp 152) (.tmp 156) 58 58 rfl _ _ rfl rfl _ _ h9 ?_)
          go_roundg (12 - (i + 1))
          case measure => have := HGK.out; omega
          case rel => exact ⟨i + 1, ls ++ [P1], rfl, by go_num, by omega, HO9.out, by rw [List.length_append, List.length_singleton]; omega, HB9.out⟩
        · by_cases h41 : i % 4 = 1
          · have h41' : ((i % 4 : Nat) : Int) = 1 := by omega
            rw [h41'] at hrm
            clear h40 h41 h41'
            obtain ⟨P3, hP3, hP3l⟩ : ∃ P3 : List UInt8, (⟨P1.toArray⟩ ++ ⟨#[b]⟩ : ByteArray) = ⟨P3.toArray⟩ ∧ P3.length ≤ 40000 := ⟨P1 ++ [b], ba_eq (by simp), by rw [List.length_append]; simp; omega⟩
            obtain ⟨P4, hP4⟩ : ∃ P4 : List UInt8, (⟨P3.toArray⟩ ++ ⟨P2.toArray⟩ : ByteArray) = ⟨P4.toArray⟩ := ⟨P3 ++ P2, ba_eq (by simp)⟩
            have hl1 : ¬ 9223372036854775807 < P1.length + 1 := by omega
            have hl2 : ¬ 9223372036854775807 < P3.length + P2.length := by omega
            have hcvt : (convert 59 9 (.slice (some ⟨wr.heap.size, 0, none⟩) 1 1)).run Tryz.prog (wr.alloc (.cells #[.int .u8 ((b.toNat : Nat) : Int)] 5)).drew = .ok (.string ⟨#[b]⟩) (wr.alloc (.cells #[.int .u8 ((b.toNat : Nat) : Int)] 5)).drew := OwnB.conv (w := (wr.alloc (.cells #[.int .u8 ((b.toNat : Nat) : Int)] 5)).drew) (l := [b]) (B := 0) (show OwnB _ 0 (.slice (some ⟨wr.heap.size, 0, none⟩) 1 1) [b] from ⟨rfl, Or.inr ⟨wr.heap.size, 1, _, rfl, Nat.zero_le _, heap_alloc_new wr _, Nat.le_refl 1, by unfold maxLen; decide, rfl, rfl⟩⟩) (by simp)
            have hbA := (Below.refl wr.heap.size wr).alloc (Nat.le_refl _) (.cells #[.int .u8 ((b.toNat : Nat) : Int)] 5)
            obtain ⟨v9, w9, h9, ho9, hg9, hf9⟩ := append_text (w := (wr.alloc (.cells #[.int .u8 ((b.toNat : Nat) : Int)] 5)).drew) P4 (OwnS.below HOS.out hbA.drew) (by simp; omega) (by omega)
            have HO9 := hide ho9
            have HB9 := hide (HBL.out.trans ((hbA.drew.mono hszr).trans (below_of_owned hg9 (OwnS.below HOS.out hbA.drew) (by simp; omega))))
            clear ho9 hg9 hf9 hbA
            go_upto_region 24 with fail
            go_region_law (refine step_append_run rfl _ _ 58 58 rfl _ _ (by simp [Act.eval]) (by simp [Act.eval]) h9 ?_)
            all_goals
              go_wp2_with fail
              go_roundg (12 - (i + 1))
              case measure => have := HGK.out; omega
              case rel => exact ⟨i + 1, ls ++ [P4], rfl, by go_num, by omega, HO9.out, by rw [List.length_append, List.length_singleton]; omega, HB9.out⟩
          · have hdf : ∃ d, ((i % 4 : Nat) : Int) = d ∧ (d = 2 ∨ d = 3) := ⟨_, rfl, by omega⟩
            obtain ⟨d, hd, hd23⟩ := hdf
            rw [hd] at hrm
            have hd0 : d ≠ 0 := by omega
            have hd1 : d ≠ 1 := by omega
            clear h40 h41 hd hd23
            obtain ⟨c, hc⟩ := xor8 sb b
            obtain ⟨P3, hP3, hP3l⟩ : ∃ P3 : List UInt8, (⟨P1.toArray⟩ ++ ⟨#[c]⟩ : ByteArray) = ⟨P3.toArray⟩ ∧ P3.length ≤ 40000 := ⟨P1 ++ [c], ba_eq (by simp), by rw [List.length_append]; simp; omega⟩
            obtain ⟨P4, hP4⟩ : ∃ P4 : List UInt8, (⟨P3.toArray⟩ ++ ⟨P5.toArray⟩ : ByteArray) = ⟨P4.toArray⟩ := ⟨P3 ++ P5, ba_eq (by simp)⟩
            have hl1 : ¬ 9223372036854775807 < P1.length + 1 := by omega
            have hl2 : ¬ 9223372036854775807 < P3.length + P5.length := by omega
            have hcvt : (convert 59 9 (.slice (some ⟨wr.heap.size, 0, none⟩) 1 1)).run Tryz.prog (wr.alloc (.cells #[.int .u8 ((c.toNat : Nat) : Int)] 5)).drew = .ok (.string ⟨#[c]⟩) (wr.alloc (.cells #[.int .u8 ((c.toNat : Nat) : Int)] 5)).drew := OwnB.conv (w := (wr.alloc (.cells #[.int .u8 ((c.toNat : Nat) : Int)] 5)).drew) (l := [c]) (B := 0) (show OwnB _ 0 (.slice (some ⟨wr.heap.size, 0, none⟩) 1 1) [c] from ⟨rfl, Or.inr ⟨wr.heap.size, 1, _, rfl, Nat.zero_le _, heap_alloc_new wr _, Nat.le_refl 1, by unfold maxLen; decide, rfl, rfl⟩⟩) (by simp)
            have hbA := (Below.refl wr.heap.size wr).alloc (Nat.le_refl _) (.cells #[.int .u8 ((c.toNat : Nat) : Int)] 5)
            obtain ⟨v9, w9, h9, ho9, hg9, hf9⟩ := append_text (w := (wr.alloc (.cells #[.int .u8 ((c.toNat : Nat) : Int)] 5)).drew) P4 (OwnS.below HOS.out hbA.drew) (by simp; omega) (by omega)
            have HO9 := hide ho9
            have HB9 := hide (HBL.out.trans ((hbA.drew.mono hszr).trans (below_of_owned hg9 (OwnS.below HOS.out hbA.drew) (by simp; omega))))
            clear ho9 hg9 hf9 hbA
            go_upto_region 20 with fail
            go_region_law (refine step_append_run rfl _ _ 58 58 rfl _ _ (by simp [Act.eval]) (by simp [Act.eval]) h9 ?_)
            all_goals
              go_wp2_with fail
              go_roundg (12 - (i + 1))
              case measure => have := HGK.out; omega
              case rel => exact ⟨i + 1, ls ++ [P4], rfl, by go_num, by omega, HO9.out, by rw [List.length_append, List.length_singleton]; omega, HB9.out⟩
      · have hi12f : ¬ ((i : Int) < 12) := by omega
        have hti : (i : Int) < (turns.length : Int) := by omega
        have HHR := hide (HH10.out.below HBL.out)
        have HLR := hide (show Left w w2.heap.size w5.heap.size w9.heap.size w0.heap.size C.toArray q va (.slice al l.length cl) (Ward.ans q L) l wr from ⟨(HKH.out wr k3 HHR.out).1, (HBL.out.block _ (by omega)).trans HR10.out, (HBL.out.block _ (by omega)).trans HQ10.out, HO10.out.below HBL.out, HHR.out.list⟩)
        have HN1 := hide (next_any (w.heap.size + 1) w.heap.size code k3 9 wr HHR.out.dice (by decide) (by decide))
        go_wp2_with fail
        refine HN1.out.mono ?_
        rintro _ w12 ⟨x, k4, rfl, hx0, hx9, hd12, hk12⟩
        have hs12 := hk12.size
        have HH12 := hide (HHR.out.next hs0 hd12 hk12)
        have HL12 := hide (HLR.out.keeps hk12 (fun j e => by omega) (by omega) (by omega) (fun g hg e => by have := HLR.out.ans.ge hg; omega) (fun g hg e => by have := HLR.out.list.ge hg; omega))
        have HO12 := hide (HOS.out.keeps hk12 (fun g hg e => by have := HOS.out.ge hg; omega))
        clear hd12 hk12 HN1
        have HN2 := hide (next_any (w.heap.size + 1) w.heap.size code k4 9 w12 HH12.out.dice (by decide) (by decide))
        go_wp2_with fail
        refine HN2.out.mono ?_
        rintro _ w13 ⟨y, k5, rfl, hy0, hy9, hd13, hk13⟩
        have hs13 := hk13.size
        have HH13 := hide (HH12.out.next hs0 hd13 hk13)
        have HL13 := hide (HL12.out.keeps hk13 (fun j e => by omega) (by omega) (by omega) (fun g hg e => by have := HL12.out.ans.ge hg; omega) (fun g hg e => by have := HL12.out.list.ge hg; omega))
        have HO13 := hide (HO12.out.keeps hk13 (fun g hg e => by have := HO12.out.ge hg; omega))
        clear hd13 hk13 HN2
        have HIN := hide (mapInsert_any m v L ⟨500, x - 4, y - 4⟩ w13 HH13.out.map HGL.out)
        rw [sole_code HPM.out HNR.out hls ⟨hx0, hx9⟩ ⟨hy0, hy9⟩] at HIN
        have HG14 := hide (HGL.out.insert ⟨500, x - 4, y - 4⟩)
        generalize insList L ⟨500, x - 4, y - 4⟩ = L2 at *
        go_wp2_with fail
        refine HIN.out.mono ?_
        rintro _ w14 ⟨rfl, v14, hm14, hf14, hk14⟩
        have hs14 := hk14.size
        have HL14 := hide (HL13.out.keeps hk14 (fun j e => by have := HMN.out j e; omega) (fun e => by have := HMN.out _ e; omega) (fun e => by have := HMN.out _ e; omega) (fun g hg e => by have := HMN.out _ e; have := HL13.out.ans.ge hg; omega) (fun g hg e => HH13.out.apart g hg e))
        have HO14 := hide (HO13.out.keeps hk14 (fun g hg e => by have := HMN.out _ e; have := HO13.out.ge hg; omega))
        have HP14 := hide (prove_any m v14 L2 w14 HSQ.out.1 hm14 HG14.out (HK.out.below HL14.out.base))
        generalize Ward.proofText q L2 = S2 at *
        obtain ⟨q0, q1, q2, q3, q4, q5, q6, q7⟩ := rowQ8 HL14.out.qry
        clear hm14 hf14 hk14 HIN HH12 HH13 HL12 HL13 HO12 HO13 HG14
        go_wp2_with fail
        refine HP14.out.mono ?_
        rintro _ w15 ⟨rfl, hb15⟩
        have hs15 := hb15.size
        have HL15 := hide (HL14.out.below hb15)
        have HO15 := hide (HO14.out.below hb15)
        clear hb15 q0 q1 q2 q3 q4 q5 q6 q7 HP14
        obtain ⟨v16, w16, h16, ho16, hg16, hf16⟩ := append_text S2 HO15.out (by omega) (by omega)
        have hs16 := hg16.size
        have HL16 := hide (HL15.out.keeps (keeps_of_grown hg16) (fun j e => by have := HO15.out.ge e; omega) (fun e => by have := HO15.out.ge e; omega) (fun e => by have := HO15.out.ge e; omega) (fun g hg e => by have := HO15.out.ge e; have := HVAL.out g hg; omega) (fun g hg e => by have := HO15.out.ge e; have := HVLL.out g hg; omega))
        have hT2 : (ls ++ [S2]).length ≤ 18 := by rw [List.length_append, List.length_singleton]; omega
        generalize ls ++ [S2] = T2 at *
        obtain ⟨ta, tc, rfl, htx⟩ := ho16.text
        have HTX := hide htx
        clear ho16 hg16 hf16 htx HL14 HL15 HO14 HO15 HLR HHR HOS
        go_wp2_with (at_builtin; refine Lib.wpList_append_run _ rfl (.tmp 189) (.tmp 191) 58 58 rfl _ _ rfl rfl _ _ h16 ?_)
        clear h16
        go_loopg [28, 29, 30, 31, 32] T2.length (fun gk v28 _ _ _ _ wq => ∃ j : Nat, gk = T2.length - j ∧ v28 = I j ∧ j ≤ T2.length ∧ Below w16.heap.size w16 wq)
        case atStart => exact ⟨0, rfl, rfl, by omega, Below.refl _ _⟩
        case round =>
          obtain ⟨j, hgk, rfl, hj, hbl⟩ := hrel
          have hszr2 := hbl.size
          have HLF := hide (HL16.out.below hbl)
          have HB2 := hide hbl
          have HGK2 := hide hgk
          clear hgk hbl HL16
          by_cases hjl : j < T2.length
          · obtain ⟨tg, tn, eta, htc⟩ := HTX.out j hjl
            subst eta
            have HTC := hide htc
            have hxc := htc wr (HB2.out)
            clear htc
            generalize T2[j] = s at *
            have HV := hide (HVS.out s wr.drew (KT.drew (HK.out.below HLF.out.base)))
            obtain ⟨bs, ec, hvr⟩ : ∃ bs ec, Ward.verify (Sha.sha (Ward.rootText Sha.sha L)) (L.length : Nat) q s = (bs, ec) := ⟨_, _, rfl⟩
            have HVR := hide hvr
            have hcr := comRow_of (w := wr.drew) HLF.out.com HCM.out.size
            have hcv := loadVal_row (w := wr.drew) HLF.out.com
            obtain ⟨q0, q1, q2, q3, q4, q5, q6, q7⟩ := rowQ8 HLF.out.qry
            clear hvr
            go_upto_region 33 with fail
            go_cut [29, 30] from 205 to 214 (fun v29 v30 wx => Own wx wr.heap.size v29 bs ∧ v30 = I ec ∧ Below wr.heap.size wr wx)
            case first =>
              have HS := hide (fun W (hb : Below wr.heap.size wr W) => show (W.cell? ⟨tg, tn + j, none⟩ = some (Sv s)) ∧ ComRow W (.pointer (some ⟨w2.heap.size, 0, none⟩)) ∧ loadVal W (.pointer (some ⟨w2.heap.size, 0, none⟩)) = .agg C.toArray ∧ W.cell? ⟨w5.heap.size, 0, none⟩ = some (I q.kind) ∧ W.cell? ⟨w5.heap.size, 1, none⟩ = some (I q.a) ∧ W.cell? ⟨w5.heap.size, 2, none⟩ = some (I q.b) ∧ W.cell? ⟨w5.heap.size, 3, none⟩ = some (I q.c) ∧ W.cell? ⟨w5.heap.size, 4, none⟩ = some (I q.d) ∧ W.cell? ⟨w5.heap.size, 5, none⟩ = some (I q.x) ∧ W.cell? ⟨w5.heap.size, 6, none⟩ = some (I q.y) ∧ W.cell? ⟨w5.heap.size, 7, none⟩ = some (I q.k) from ⟨HTC.out W (HB2.out.trans (hb.mono hszr2)), comRow_of (HLF.out.below hb).com HCM.out.size, loadVal_row (HLF.out.below hb).com, rowQ8 (HLF.out.below hb).qry⟩)
              have hS5 := HS.out wr.drew (Below.refl wr.heap.size wr).drew
              clear hcr hcv q0 q1 q2 q3 q4 q5 q6 q7 hxc
              go_region_held3 (fun W => (W.cell? ⟨tg, tn + j, none⟩ = some (Sv s)) ∧ ComRow W (.pointer (some ⟨w2.heap.size, 0, none⟩)) ∧ loadVal W (.pointer (some ⟨w2.heap.size, 0, none⟩)) = .agg C.toArray ∧ W.cell? ⟨w5.heap.size, 0, none⟩ = some (I q.kind) ∧ W.cell? ⟨w5.heap.size, 1, none⟩ = some (I q.a) ∧ W.cell? ⟨w5.heap.size, 2, none⟩ = some (I q.b) ∧ W.cell? ⟨w5.heap.size, 3, none⟩ = some (I q.c) ∧ W.cell? ⟨w5.heap.size, 4, none⟩ = some (I q.d) ∧ W.cell? ⟨w5.heap.size, 5, none⟩ = some (I q.x) ∧ W.cell? ⟨w5.heap.size, 6, none⟩ = some (I q.y) ∧ W.cell? ⟨w5.heap.size, 7, none⟩ = some (I q.k)) (first | exact hS5 | exact hS6) ((go_at_call 22; go_must (refine HV.out.mono ?_; rintro _ w20 ⟨vb, rfl, ho20, hb20⟩; rw [HVR.out] at ho20 ⊢; have HB20 := hide ((Below.refl wr.heap.size wr).drew.trans (hb20.mono (Nat.le_refl _))); have hS6 := HS.out w20 HB20.out; have HO20 := hide ho20; clear hb20 ho20)))
              all_goals
                go_wp2_with fail
                go_meet
                exact ⟨HO20.out, rfl, HB20.out⟩
            case rest =>
              obtain ⟨hob, rfl, hbb⟩ := hcut
              clear hcr hcv q0 q1 q2 q3 q4 q5 q6 q7 HV hxc
              generalize wc = w20 at *
              have hs20 := hbb.size
              have HL20 := hide (HLF.out.below hbb)
              have HB20 := hide (HB2.out.trans (hbb.mono hszr2))
              have HOB := hide hob
              obtain ⟨ab, cb, eb, -⟩ := hob.reads
              subst eb
              clear hob hbb HLF HB2
              have HSM := hide (same_any va (.slice ab bs.length cb) (Ward.ans q L) bs w20 HL20.out.ans.reads HOB.out.reads HAL.out)
              go_wp2_with fail
              refine HSM.out.mono ?_
              rintro e w21 ⟨⟨r, rfl, hr⟩, hb21⟩
              have hs21 := hb21.size
              have HL21 := hide (HL20.out.below hb21)
              have HB21 := hide (HB20.out.trans (hb21.mono (by omega)))
              have hxc := HTC.out w21 HB21.out
              clear hb21 HL20 HB20 HSM
              by_cases hsS : s = S
              · subst hsS
                have hve := HVR.out.symm.trans HVF.out
                injection hve with e1 e2
                subst e2
                have hr1 : r = true := hr.2 e1.symm
                subst hr1
                clear hr e1
                go_wp2_with fail
                go_roundg (T2.length - (j + 1))
                case measure => have := HGK2.out; omega
                case rel => exact ⟨j + 1, rfl, by go_num, by omega, HB21.out⟩
              · have hba : (⟨s.toArray⟩ : ByteArray) ≠ ⟨S.toArray⟩ := fun e => hsS (by have := congrArg (fun b : ByteArray => b.data.toList) e; simpa using this)
                have hsl2 : s ≠ S := hsS
                have hbeq : (s == S) = false := by simp [hsS]
                by_cases hec : ec = 0
                · subst hec
                  have HCC2 := hide (HCL.out s bs HVR.out hsS w21 (HK.out.below HL21.out.base))
                  go_wp2_with fail
                  refine HCC2.out.mono ?_
                  rintro _ w22 ⟨rfl, hb22⟩
                  have HB22 := hide (HB21.out.trans (hb22.mono (by omega)))
                  clear hb22 HCC2
                  go_wp2_with fail
                  go_roundg (T2.length - (j + 1))
                  case measure => have := HGK2.out; omega
                  case rel => exact ⟨j + 1, rfl, by go_num, by omega, HB22.out⟩
                · have hbs : bs = [] := by
                    have h1 := Ward.verify_nil (r := Sha.sha (Ward.rootText Sha.sha L)) (c := (L.length : Nat)) (q := q) (s := s) (by rw [HVR.out]; exact hec)
                    rw [HVR.out] at h1
                    exact h1
                  subst hbs
                  have hec2 : (ec != 0) = true := by simp [hec]
                  have hec3 : (ec == 0) = false := by simp [hec]
                  go_wp2_with fail
                  go_roundg (T2.length - (j + 1))
                  case measure => have := HGK2.out; omega
                  case rel => exact ⟨j + 1, rfl, by go_num, by omega, HB21.out⟩
          · have ej : j = T2.length := by omega
            subst ej
            have c32 : wr.cell? ⟨w2.heap.size, 32, none⟩ = some (I l.length) := by rw [cell_of_row _ _ _ _ _ _ HLF.out.com]; exact HCN.out
            have hfz := fun j => frozen_of_row _ _ j _ _ HLF.out.com
            go_upto_region 42 with fail
            generalize hW : World.setCell wr _ _ = w23
            have HL23 := hide (show Left w w2.heap.size w5.heap.size w9.heap.size w0.heap.size RT.toArray q va (.slice al l.length cl) (Ward.ans q L) l w23 from by rw [← hW]; exact HLF.out.count HCS.out (by omega) (by omega) (fun g hg e => by have := HLF.out.ans.ge hg; omega) (fun g hg e => by have := HVL2.out g hg; omega))
            clear hW c32 hfz HLF
            have hcr := comRow_of HL23.out.com HRS.out
            have hcv := loadVal_row HL23.out.com
            obtain ⟨q0, q1, q2, q3, q4, q5, q6, q7⟩ := rowQ8 HL23.out.qry
            go_wp2_with fail
            refine (HVB.out w23 (HK.out.below HL23.out.base)).mono ?_
            rintro e w24 ⟨vc, he, -, hb24⟩
            rw [HCT.out _ (by omega)] at he
            subst he
            have HL24 := hide (HL23.out.below hb24)
            clear hb24 hcr hcv q0 q1 q2 q3 q4 q5 q6 q7 HL23
            obtain ⟨q0, q1, q2, q3, q4, q5, q6, q7⟩ := rowQ8 HL24.out.qry
            have HRT := hide (right_any va (.slice al l.length cl) (Ward.ans q L) l w24 HL24.out.ans.reads HL24.out.list.reads HRI.out HSQ.out (near_ok HNR.out) HAL.out (by omega))
            go_wp2_with fail
            refine HRT.out.mono ?_
            rintro _ w25 ⟨rfl, hb25⟩
            have HL25 := hide (HL24.out.below hb25)
            clear hb25 q0 q1 q2 q3 q4 q5 q6 q7 HL24 HRT
            go_wp2_with fail
            go_ret
            exact ⟨rfl, HL25.out.base⟩
    · have htf : ¬ ((i : Int) < (turns.length : Int)) := by omega
      have HHR := hide (HH10.out.below HBL.out)
      have HLR := hide (show Left w w2.heap.size w5.heap.size w9.heap.size w0.heap.size C.toArray q va (.slice al l.length cl) (Ward.ans q L) l wr from ⟨(HKH.out wr k3 HHR.out).1, (HBL.out.block _ (by omega)).trans HR10.out, (HBL.out.block _ (by omega)).trans HQ10.out, HO10.out.below HBL.out, HHR.out.list⟩)
      have HN1 := hide (next_any (w.heap.size + 1) w.heap.size code k3 9 wr HHR.out.dice (by decide) (by decide))
      go_wp2_with fail
      refine HN1.out.mono ?_
      rintro _ w12 ⟨x, k4, rfl, hx0, hx9, hd12, hk12⟩
      have hs12 := hk12.size
      have HH12 := hide (HHR.out.next hs0 hd12 hk12)
      have HL12 := hide (HLR.out.keeps hk12 (fun j e => by omega) (by omega) (by omega) (fun g hg e => by have := HLR.out.ans.ge hg; omega) (fun g hg e => by have := HLR.out.list.ge hg; omega))
      have HO12 := hide (HOS.out.keeps hk12 (fun g hg e => by have := HOS.out.ge hg; omega))
      clear hd12 hk12 HN1
      have HN2 := hide (next_any (w.heap.size + 1) w.heap.size code k4 9 w12 HH12.out.dice (by decide) (by decide))
      go_wp2_with fail
      refine HN2.out.mono ?_
      rintro _ w13 ⟨y, k5, rfl, hy0, hy9, hd13, hk13⟩
      have hs13 := hk13.size
      have HH13 := hide (HH12.out.next hs0 hd13 hk13)
      have HL13 := hide (HL12.out.keeps hk13 (fun j e => by omega) (by omega) (by omega) (fun g hg e => by have := HL12.out.ans.ge hg; omega) (fun g hg e => by have := HL12.out.list.ge hg; omega))
      have HO13 := hide (HO12.out.keeps hk13 (fun g hg e => by have := HO12.out.ge hg; omega))
      clear hd13 hk13 HN2
      have HIN := hide (mapInsert_any m v L ⟨500, x - 4, y - 4⟩ w13 HH13.out.map HGL.out)
      rw [sole_code HPM.out HNR.out hls ⟨hx0, hx9⟩ ⟨hy0, hy9⟩] at HIN
      have HG14 := hide (HGL.out.insert ⟨500, x - 4, y - 4⟩)
      generalize insList L ⟨500, x - 4, y - 4⟩ = L2 at *
      go_wp2_with fail
      refine HIN.out.mono ?_
      rintro _ w14 ⟨rfl, v14, hm14, hf14, hk14⟩
      have hs14 := hk14.size
      have HL14 := hide (HL13.out.keeps hk14 (fun j e => by have := HMN.out j e; omega) (fun e => by have := HMN.out _ e; omega) (fun e => by have := HMN.out _ e; omega) (fun g hg e => by have := HMN.out _ e; have := HL13.out.ans.ge hg; omega) (fun g hg e => HH13.out.apart g hg e))
      have HO14 := hide (HO13.out.keeps hk14 (fun g hg e => by have := HMN.out _ e; have := HO13.out.ge hg; omega))
      have HP14 := hide (prove_any m v14 L2 w14 HSQ.out.1 hm14 HG14.out (HK.out.below HL14.out.base))
      generalize Ward.proofText q L2 = S2 at *
      obtain ⟨q0, q1, q2, q3, q4, q5, q6, q7⟩ := rowQ8 HL14.out.qry
      clear hm14 hf14 hk14 HIN HH12 HH13 HL12 HL13 HO12 HO13 HG14
      go_wp2_with fail
      refine HP14.out.mono ?_
      rintro _ w15 ⟨rfl, hb15⟩
      have hs15 := hb15.size
      have HL15 := hide (HL14.out.below hb15)
      have HO15 := hide (HO14.out.below hb15)
      clear hb15 q0 q1 q2 q3 q4 q5 q6 q7 HP14
      obtain ⟨v16, w16, h16, ho16, hg16, hf16⟩ := append_text S2 HO15.out (by omega) (by omega)
      have hs16 := hg16.size
      have HL16 := hide (HL15.out.keeps (keeps_of_grown hg16) (fun j e => by have := HO15.out.ge e; omega) (fun e => by have := HO15.out.ge e; omega) (fun e => by have := HO15.out.ge e; omega) (fun g hg e => by have := HO15.out.ge e; have := HVAL.out g hg; omega) (fun g hg e => by have := HO15.out.ge e; have := HVLL.out g hg; omega))
      have hT2 : (ls ++ [S2]).length ≤ 18 := by rw [List.length_append, List.length_singleton]; omega
      generalize ls ++ [S2] = T2 at *
      obtain ⟨ta, tc, rfl, htx⟩ := ho16.text
      have HTX := hide htx
      clear ho16 hg16 hf16 htx HL14 HL15 HO14 HO15 HLR HHR HOS
      go_wp2_with (at_builtin; refine Lib.wpList_append_run _ rfl (.tmp 189) (.tmp 191) 58 58 rfl _ _ rfl rfl _ _ h16 ?_)
      clear h16
      go_loopg [28, 29, 30, 31, 32] T2.length (fun gk v28 _ _ _ _ wq => ∃ j : Nat, gk = T2.length - j ∧ v28 = I j ∧ j ≤ T2.length ∧ Below w16.heap.size w16 wq)
      case atStart => exact ⟨0, rfl, rfl, by omega, Below.refl _ _⟩
      case round =>
        obtain ⟨j, hgk, rfl, hj, hbl⟩ := hrel
        have hszr2 := hbl.size
        have HLF := hide (HL16.out.below hbl)
        have HB2 := hide hbl
        have HGK2 := hide hgk
        clear hgk hbl HL16
        by_cases hjl : j < T2.length
        · obtain ⟨tg, tn, eta, htc⟩ := HTX.out j hjl
          subst eta
          have HTC := hide htc
          have hxc := htc wr (HB2.out)
          clear htc
          generalize T2[j] = s at *
          have HV := hide (HVS.out s wr.drew (KT.drew (HK.out.below HLF.out.base)))
          obtain ⟨bs, ec, hvr⟩ : ∃ bs ec, Ward.verify (Sha.sha (Ward.rootText Sha.sha L)) (L.length : Nat) q s = (bs, ec) := ⟨_, _, rfl⟩
          have HVR := hide hvr
          have hcr := comRow_of (w := wr.drew) HLF.out.com HCM.out.size
          have hcv := loadVal_row (w := wr.drew) HLF.out.com
          obtain ⟨q0, q1, q2, q3, q4, q5, q6, q7⟩ := rowQ8 HLF.out.qry
          clear hvr
          go_upto_region 33 with fail
          go_cut [29, 30] from 205 to 214 (fun v29 v30 wx => Own wx wr.heap.size v29 bs ∧ v30 = I ec ∧ Below wr.heap.size wr wx)
          case first =>
            have HS := hide (fun W (hb : Below wr.heap.size wr W) => show (W.cell? ⟨tg, tn + j, none⟩ = some (Sv s)) ∧ ComRow W (.pointer (some ⟨w2.heap.size, 0, none⟩)) ∧ loadVal W (.pointer (some ⟨w2.heap.size, 0, none⟩)) = .agg C.toArray ∧ W.cell? ⟨w5.heap.size, 0, none⟩ = some (I q.kind) ∧ W.cell? ⟨w5.heap.size, 1, none⟩ = some (I q.a) ∧ W.cell? ⟨w5.heap.size, 2, none⟩ = some (I q.b) ∧ W.cell? ⟨w5.heap.size, 3, none⟩ = some (I q.c) ∧ W.cell? ⟨w5.heap.size, 4, none⟩ = some (I q.d) ∧ W.cell? ⟨w5.heap.size, 5, none⟩ = some (I q.x) ∧ W.cell? ⟨w5.heap.size, 6, none⟩ = some (I q.y) ∧ W.cell? ⟨w5.heap.size, 7, none⟩ = some (I q.k) from ⟨HTC.out W (HB2.out.trans (hb.mono hszr2)), comRow_of (HLF.out.below hb).com HCM.out.size, loadVal_row (HLF.out.below hb).com, rowQ8 (HLF.out.below hb).qry⟩)
            have hS5 := HS.out wr.drew (Below.refl wr.heap.size wr).drew
            clear hcr hcv q0 q1 q2 q3 q4 q5 q6 q7 hxc
            go_region_held3 (fun W => (W.cell? ⟨tg, tn + j, none⟩ = some (Sv s)) ∧ ComRow W (.pointer (some ⟨w2.heap.size, 0, none⟩)) ∧ loadVal W (.pointer (some ⟨w2.heap.size, 0, none⟩)) = .agg C.toArray ∧ W.cell? ⟨w5.heap.size, 0, none⟩ = some (I q.kind) ∧ W.cell? ⟨w5.heap.size, 1, none⟩ = some (I q.a) ∧ W.cell? ⟨w5.heap.size, 2, none⟩ = some (I q.b) ∧ W.cell? ⟨w5.heap.size, 3, none⟩ = some (I q.c) ∧ W.cell? ⟨w5.heap.size, 4, none⟩ = some (I q.d) ∧ W.cell? ⟨w5.heap.size, 5, none⟩ = some (I q.x) ∧ W.cell? ⟨w5.heap.size, 6, none⟩ = some (I q.y) ∧ W.cell? ⟨w5.heap.size, 7, none⟩ = some (I q.k)) (first | exact hS5 | exact hS6) ((go_at_call 22; go_must (refine HV.out.mono ?_; rintro _ w20 ⟨vb, rfl, ho20, hb20⟩; rw [HVR.out] at ho20 ⊢; have HB20 := hide ((Below.refl wr.heap.size wr).drew.trans (hb20.mono (Nat.le_refl _))); have hS6 := HS.out w20 HB20.out; have HO20 := hide ho20; clear hb20 ho20)))
            all_goals
              go_wp2_with fail
              go_meet
              exact ⟨HO20.out, rfl, HB20.out⟩
          case rest =>
            obtain ⟨hob, rfl, hbb⟩ := hcut
            clear hcr hcv q0 q1 q2 q3 q4 q5 q6 q7 HV hxc
            generalize wc = w20 at *
            have hs20 := hbb.size
            have HL20 := hide (HLF.out.below hbb)
            have HB20 := hide (HB2.out.trans (hbb.mono hszr2))
            have HOB := hide hob
            obtain ⟨ab, cb, eb, -⟩ := hob.reads
            subst eb
            clear hob hbb HLF HB2
            have HSM := hide (same_any va (.slice ab bs.length cb) (Ward.ans q L) bs w20 HL20.out.ans.reads HOB.out.reads HAL.out)
            go_wp2_with fail
            refine HSM.out.mono ?_
            rintro e w21 ⟨⟨r, rfl, hr⟩, hb21⟩
            have hs21 := hb21.size
            have HL21 := hide (HL20.out.below hb21)
            have HB21 := hide (HB20.out.trans (hb21.mono (by omega)))
            have hxc := HTC.out w21 HB21.out
            clear hb21 HL20 HB20 HSM
            by_cases hsS : s = S
            · subst hsS
              have hve := HVR.out.symm.trans HVF.out
              injection hve with e1 e2
              subst e2
              have hr1 : r = true := hr.2 e1.symm
              subst hr1
              clear hr e1
              go_wp2_with fail
              go_roundg (T2.length - (j + 1))
              case measure => have := HGK2.out; omega
              case rel => exact ⟨j + 1, rfl, by go_num, by omega, HB21.out⟩
            · have hba : (⟨s.toArray⟩ : ByteArray) ≠ ⟨S.toArray⟩ := fun e => hsS (by have := congrArg (fun b : ByteArray => b.data.toList) e; simpa using this)
              have hsl2 : s ≠ S := hsS
              have hbeq : (s == S) = false := by simp [hsS]
              by_cases hec : ec = 0
              · subst hec
                have HCC2 := hide (HCL.out s bs HVR.out hsS w21 (HK.out.below HL21.out.base))
                go_wp2_with fail
                refine HCC2.out.mono ?_
                rintro _ w22 ⟨rfl, hb22⟩
                have HB22 := hide (HB21.out.trans (hb22.mono (by omega)))
                clear hb22 HCC2
                go_wp2_with fail
                go_roundg (T2.length - (j + 1))
                case measure => have := HGK2.out; omega
                case rel => exact ⟨j + 1, rfl, by go_num, by omega, HB22.out⟩
              · have hbs : bs = [] := by
                  have h1 := Ward.verify_nil (r := Sha.sha (Ward.rootText Sha.sha L)) (c := (L.length : Nat)) (q := q) (s := s) (by rw [HVR.out]; exact hec)
                  rw [HVR.out] at h1
                  exact h1
                subst hbs
                have hec2 : (ec != 0) = true := by simp [hec]
                have hec3 : (ec == 0) = false := by simp [hec]
                go_wp2_with fail
                go_roundg (T2.length - (j + 1))
                case measure => have := HGK2.out; omega
                case rel => exact ⟨j + 1, rfl, by go_num, by omega, HB21.out⟩
        · have ej : j = T2.length := by omega
          subst ej
          have c32 : wr.cell? ⟨w2.heap.size, 32, none⟩ = some (I l.length) := by rw [cell_of_row _ _ _ _ _ _ HLF.out.com]; exact HCN.out
          have hfz := fun j => frozen_of_row _ _ j _ _ HLF.out.com
          go_upto_region 42 with fail
          generalize hW : World.setCell wr _ _ = w23
          have HL23 := hide (show Left w w2.heap.size w5.heap.size w9.heap.size w0.heap.size RT.toArray q va (.slice al l.length cl) (Ward.ans q L) l w23 from by rw [← hW]; exact HLF.out.count HCS.out (by omega) (by omega) (fun g hg e => by have := HLF.out.ans.ge hg; omega) (fun g hg e => by have := HVL2.out g hg; omega))
          clear hW c32 hfz HLF
          have hcr := comRow_of HL23.out.com HRS.out
          have hcv := loadVal_row HL23.out.com
          obtain ⟨q0, q1, q2, q3, q4, q5, q6, q7⟩ := rowQ8 HL23.out.qry
          go_wp2_with fail
          refine (HVB.out w23 (HK.out.below HL23.out.base)).mono ?_
          rintro e w24 ⟨vc, he, -, hb24⟩
          rw [HCT.out _ (by omega)] at he
          subst he
          have HL24 := hide (HL23.out.below hb24)
          clear hb24 hcr hcv q0 q1 q2 q3 q4 q5 q6 q7 HL23
          obtain ⟨q0, q1, q2, q3, q4, q5, q6, q7⟩ := rowQ8 HL24.out.qry
          have HRT := hide (right_any va (.slice al l.length cl) (Ward.ans q L) l w24 HL24.out.ans.reads HL24.out.list.reads HRI.out HSQ.out (near_ok HNR.out) HAL.out (by omega))
          go_wp2_with fail
          refine HRT.out.mono ?_
          rintro _ w25 ⟨rfl, hb25⟩
          have HL25 := hide (HL24.out.below hb25)
          clear hb25 q0 q1 q2 q3 q4 q5 q6 q7 HL24 HRT
          go_wp2_with fail
          go_ret
          exact ⟨rfl, HL25.out.base⟩
end Go.Proofs.YtenaelkbgkpllaaGreatDoor
