/- Part 26 of what the claims on Bound, Small, Right and Sole rest on. -/
import Derived.Test.YtenaelkbgkpllaaGreatDoorKeep24
import Derived.Test.YtenaelkbgkpllaaGreatDoorKeep25
/- The law Small: the walk. -/
namespace Go.Proofs.YtenaelkbgkpllaaGreatDoor
open Go.RowKit

theorem row_good {k : Nat} (h : k ≤ 150) : Good (Ward.rowL k) := ⟨Ward.row_sorted k, Ward.row_ids k, Ward.row_ok h, by rw [Ward.rowL_len]; exact h⟩
theorem row_code {k : Nat} (h : k < 150) : insCode (Ward.rowL k) (Ward.rowPt k) = 0 := by
  unfold insCode
  rw [if_neg (fun e => e ⟨by simp only [Ward.rowPt]; omega, by simp only [Ward.rowPt]; omega⟩), if_neg (fun e => by
    rcases e with e | e
    · exact e ⟨by simp only [Ward.rowPt]; omega, by simp only [Ward.rowPt]; omega⟩
    · exact e ⟨by simp only [Ward.rowPt]; omega, by simp only [Ward.rowPt]; omega⟩), if_neg (fun ⟨q, hq, e⟩ => Ward.row_new k q hq e), if_neg (by rw [Ward.rowL_len]; omega)]
theorem row_list {k : Nat} (h : k < 150) : insList (Ward.rowL k) (Ward.rowPt k) = Ward.rowL (k + 1) := by
  unfold insList
  rw [if_pos (row_code h), Ward.row_ins]
theorem row_again {k : Nat} (h : 0 < k) : insCode (Ward.rowL k) ⟨1, 5, 5⟩ = 3 := by
  unfold insCode
  rw [if_neg (fun e => e ⟨by decide, by decide⟩), if_neg (fun e => by
    rcases e with e | e
    · exact e ⟨by decide, by decide⟩
    · exact e ⟨by decide, by decide⟩), if_pos ⟨Ward.rowPt 0, List.mem_map.2 ⟨0, List.mem_range.2 h, rfl⟩, rfl⟩]
theorem row_kept {k : Nat} (h : 0 < k) : insList (Ward.rowL k) ⟨1, 5, 5⟩ = Ward.rowL k := by
  unfold insList
  rw [if_neg (by rw [row_again h]; decide)]
/-- a map of one's own, all of it behind a block -/
structure MapHi (w : World) (B m : Nat) (v : Value) (L : List Ward.Pt) : Prop where
  map : IsMap w m v L
  hi : B ≤ m
  own : ∀ g, v.ownBlock = some g → B ≤ g
theorem MapHi.below {w w' : World} {B m : Nat} {v : Value} {L : List Ward.Pt} (h : MapHi w B m v L) (hb : Below w.heap.size w w') : MapHi w' B m v L := ⟨h.map.below hb, h.hi, h.own⟩
theorem MapHi.step {w0 w w' : World} {m : Nat} {v v' : Value} {L L' : List Ward.Pt} (h : MapHi w w0.heap.size m v L) (hb : Below w0.heap.size w0 w) (hm : IsMap w' m v' L') (hf : Fresh w v v') (hk : Keeps (Mine m v) w w') : MapHi w' w0.heap.size m v' L' ∧ Below w0.heap.size w0 w' := by
  refine ⟨⟨hm, h.hi, fun g hg => ?_⟩, ⟨hk.os.trans hb.os, hk.tape.trans hb.tape, hk.output.trans hb.output, Nat.le_trans hb.size hk.size, fun j hj => (hk.block j (Nat.lt_of_lt_of_le hj hb.size) (fun e => ?_)).trans (hb.block j hj)⟩⟩
  · rcases hf with hf | ⟨k, hf, hk⟩
    · rw [hf] at hg; exact h.own g hg
    · rw [hf] at hg
      injection hg with hg
      have := hb.size
      omega
  · rcases e with e | e
    · have := h.hi; omega
    · have := h.own j e.symm; omega
set_option maxRecDepth 100000 in
set_option maxHeartbeats 8000000 in
theorem small_any (n at' : Int) (w : World) (hn0 : -9223372036854775808 ≤ n) (hn1 : n ≤ 9223372036854775807) (ha0 : -9223372036854775808 ≤ at') (ha1 : at' ≤ 9223372036854775807) (hK : KT w) :
    Calls Tryz.prog 9 #[I n, I at'] w fun e w' => e = .returned (.bool true) ∧ Below w.heap.size w w' := by
  have HKT := hide hK
  clear hK
  go_enter Tryz.func9, Tryz.ntmps9
  go_wp2_with fail
  refine (new_any w).mono ?_
  rintro _ w1 ⟨rfl, hm1, hs1, hb1⟩
  have hs1' : w.heap.size < w1.heap.size := by omega
  have HM1 := hide (show MapHi w1 w.heap.size w.heap.size (.slice none 0 0) [] from ⟨hm1, Nat.le_refl _, fun g hg => by simp [Value.ownBlock] at hg⟩)
  have HB1 := hide hb1
  clear hm1 hs1 hb1
  have hz := pickN_range n 140 (by decide)
  have HPK := hide (pick_any2 n 140 w1 hn0 hn1 (by decide) (by decide))
  generalize pickN n 140 = z at *
  obtain ⟨z0, rfl⟩ := Int.eq_ofNat_of_zero_le hz.1
  have hz1 : z0 < 140 := by omega
  clear hz
  go_wp2_with fail
  refine HPK.out.mono ?_
  rintro _ w1' ⟨rfl, hw1⟩
  rw [hw1]
  clear hw1 HPK
  go_wp2_with fail
  go_loopg [7, 8] (z0 + 5) (fun gk v7 _ wq => ∃ (i : Nat) (v : Value), gk = z0 + 5 - i ∧ v7 = I i ∧ i ≤ z0 + 5 ∧ MapHi wq w.heap.size w.heap.size v (Ward.rowL i) ∧ Below w.heap.size w wq)
  case atStart => exact ⟨0, _, rfl, rfl, by omega, HM1.out, HB1.out⟩
  case round =>
    clear HM1 HB1 hs1'
    obtain ⟨i, v, hgk, rfl, hi, hm, hb⟩ := hrel
    have HGK := hide hgk
    have HM := hide hm
    have HB := hide hb
    have hsz := hb.size
    clear hgk hm hb
    by_cases hlt : i < z0 + 5
    · have HIN := hide (mapInsert_any w.heap.size v (Ward.rowL i) (Ward.rowPt i) wr HM.out.map (row_good (by omega)))
      rw [row_code (by omega), row_list (by omega)] at HIN
      go_wp2_with fail
      refine HIN.out.mono ?_
      rintro _ w2 ⟨rfl, v2, hm2, hf2, hk2⟩
      obtain ⟨hmm, hbb⟩ := HM.out.step HB.out hm2 hf2 hk2
      have HM2 := hide hmm
      have HB2 := hide hbb
      clear hm2 hf2 hk2 hmm hbb HIN
      go_wp2_with fail
      go_roundg (z0 + 5 - (i + 1))
      case measure => have := HGK.out; omega
      case rel => exact ⟨i + 1, v2, rfl, by go_num, by omega, HM2.out, HB2.out⟩
    · have ei : i = z0 + 5 := by omega
      subst ei
      have HG := hide (row_good (k := z0 + 5) (by omega))
      have HIN := hide (mapInsert_any w.heap.size v (Ward.rowL (z0 + 5)) ⟨1, 5, 5⟩ wr HM.out.map HG.out)
      rw [row_again (by omega), row_kept (by omega)] at HIN
      have hq1 : Ward.rowQ (z0 + 5) = ⟨0, -5, 1, 10 * (5 + (z0 : Int)), 9, 0, 0, 0⟩ := by
        unfold Ward.rowQ
        congr 1
        omega
      have HQM := hide (Ward.rowQ_may (k := z0 + 5) (by omega))
      have HQL := hide (Ward.rowQ_len (k := z0 + 5) (by omega) (by omega))
      have HVF := hide (Ward.verify_proof HQM.out HG.out.well)
      rw [Ward.rowQ_ans, hq1] at HVF
      rw [hq1] at HQM HQL
      have HPR := hide (fun (v : Value) (W : World) (hm : IsMap W w.heap.size v (Ward.rowL (z0 + 5))) (hk : KT W) => prove_any w.heap.size v (Ward.rowL (z0 + 5)) W HQM.out hm HG.out hk)
      have HRM := hide (fun (p : Nat) (hp : p < z0 + 5) => Ward.rowR_may (p := p) (by omega))
      have HRL := hide (fun (p : Nat) (hp : p < z0 + 5) => Ward.rowR_len (k := z0 + 5) hp (by omega))
      have HRV := hide (fun (p : Nat) (hp : p < z0 + 5) => show Ward.verify (Sha.sha (Ward.rootText Sha.sha (Ward.rowL (z0 + 5)))) ((Ward.rowL (z0 + 5)).length : Nat) (Ward.rowR p) (Ward.proofText (Ward.rowR p) (Ward.rowL (z0 + 5))) = ([Ward.rowPt p], 0) by rw [Ward.verify_proof (HRM.out p hp) HG.out.well, Ward.rowR_ans hp])
      have HPS := hide (fun (p : Nat) (hp : p < z0 + 5) (v : Value) (W : World) (hm : IsMap W w.heap.size v (Ward.rowL (z0 + 5))) (hk : KT W) => prove_any w.heap.size v (Ward.rowL (z0 + 5)) W (HRM.out p hp) hm HG.out hk)
      have HVA := hide (fun (q : Ward.Qr) (s : List UInt8) (W : World) (hk : KT W) => show Calls Tryz.prog 22 #[.agg (commitV (Ward.rowL (z0 + 5))).toArray, Qv q, Sv s] W (Verified W (Sha.sha (Ward.rootText Sha.sha (Ward.rowL (z0 + 5)))) ((Ward.rowL (z0 + 5)).length : Nat) q s) from verify_any _ _ q s W (sha_len _) hk)
      have HCO := hide (fun (v : Value) (W : World) (hm : IsMap W w.heap.size v (Ward.rowL (z0 + 5))) (hk : KT W) => commitment_any w.heap.size v (Ward.rowL (z0 + 5)) W hm HG.out hk)
      have HCM := hide (com_of (Ward.rowL (z0 + 5)))
      obtain ⟨fsc, huc⟩ := underCom
      have HUC := hide huc
      clear hq1 huc hlt
      generalize commitV (Ward.rowL (z0 + 5)) = C at *
      go_wp2_with fail
      refine HIN.out.mono ?_
      rintro _ w2 ⟨rfl, v2, hm2, hf2, hk2⟩
      obtain ⟨hmm, hbb⟩ := HM.out.step HB.out hm2 hf2 hk2
      have HM2 := hide hmm
      have HB2 := hide hbb
      have hs2 := hbb.size
      clear hm2 hf2 hk2 hmm hbb HIN HM HB
      go_wp2_with fail
      refine (HCO.out v2 w2 HM2.out.map (HKT.out.below HB2.out)).mono ?_
      rintro _ w3 ⟨rfl, hb3⟩
      have hs3 := hb3.size
      have HM3 := hide (HM2.out.below hb3)
      have HB3 := hide (HB2.out.trans (hb3.mono (by omega)))
      clear hb3
      have hb4' := fun o => (Below.refl w3.heap.size w3).alloc (Nat.le_refl _) o
      have hr4' := heap_alloc_new w3
      go_upto_region 13 with (refine wpList_store_row rfl 41 (.tmp 10) (.tmp 47) rfl w3.heap.size C.toArray rfl rfl 41 _ (heap_alloc_new w3 _) HCM.out.info (by rw [HCM.out.size]; rfl) HCM.out.one ?_; rw [World.setRow_alloc_new])
      generalize hW : World.alloc w3 _ = w4
      have hb4 : Below w3.heap.size w3 w4 := by rw [← hW]; exact hb4' _
      have hr4 : w4.heap[w3.heap.size]? = some (.cells C.toArray 41 (0, 0)) := by rw [← hW]; exact hr4' _
      clear hb4' hr4' hW
      have hs4 : w3.heap.size < w4.heap.size := (Array.getElem?_eq_some_iff.1 hr4).1
      have HM4 := hide (HM3.out.below hb4)
      have HB4 := hide (HB3.out.trans (hb4.mono (by omega)))
      have HR4 := hide hr4
      clear hb4 hr4
      have hb5' := fun o => (Below.refl w4.heap.size w4).alloc (Nat.le_refl _) o
      have hr5' := heap_alloc_new w4
      go_upto_region 14 with fail
      generalize hW : World.alloc w4 _ = w5
      have hb5 : Below w4.heap.size w4 w5 := by rw [← hW]; exact hb5' _
      have hr5 : w5.heap[w4.heap.size]? = some (.cells #[I 0, I (-5), I 1, I (10 * (5 + (z0 : Int))), I 9, I 0, I 0, I 0] 46 (0, 0)) := by rw [← hW]; exact hr5' _
      clear hb5' hr5' hW
      have hs5 : w4.heap.size < w5.heap.size := (Array.getElem?_eq_some_iff.1 hr5).1
      have HM5 := hide (HM4.out.below hb5)
      have HB5 := hide (HB4.out.trans (hb5.mono (by omega)))
      have HR5 := hide ((hb5.block w3.heap.size (by omega)).trans HR4.out)
      have HQ5 := hide hr5
      obtain ⟨k0, k1, k2, k3, k4, k5, k6, k7⟩ := rowQ8 hr5
      clear hb5 hr5
      have HP5 := hide (HPR.out v2 w5 HM5.out.map (HKT.out.below HB5.out))
      have HVF' := hide (fun W hk => HVA.out ⟨0, -5, 1, 10 * (5 + (z0 : Int)), 9, 0, 0, 0⟩ (Ward.proofText ⟨0, -5, 1, 10 * (5 + (z0 : Int)), 9, 0, 0, 0⟩ (Ward.rowL (z0 + 5))) W hk)
      generalize Ward.proofText ⟨0, -5, 1, 10 * (5 + (z0 : Int)), 9, 0, 0, 0⟩ (Ward.rowL (z0 + 5)) = S1 at *
      go_wp2_with fail
      refine HP5.out.mono ?_
      rintro _ w6 ⟨rfl, hb6⟩
      have hs6 := hb6.size
      have HM6 := hide (HM5.out.below hb6)
      have HB6 := hide (HB5.out.trans (hb6.mono (by omega)))
      have HR6 := hide ((hb6.block w3.heap.size (by omega)).trans HR5.out)
      obtain ⟨k0, k1, k2, k3, k4, k5, k6, k7⟩ := rowQ8 ((hb6.block w4.heap.size (by omega)).trans HQ5.out)
      clear hb6 HP5
      have HV6 := hide (HVF'.out w6 (HKT.out.below HB6.out))
      go_wp2_with (refine wpList_load_row rfl 41 (.tmp 10) rfl w3.heap.size rfl 41 C.toArray (0, 0) (.struct fsc) HR6.out HUC.out rfl HCM.out.info ?_)
      refine HV6.out.mono ?_
      rintro e w7 ⟨v7, he, ho7, hb7⟩
      rw [HVF.out] at he ho7
      obtain ⟨a7, c7, e7⟩ := ho7.slice
      subst e7
      subst he
      have hs7 := hb7.size
      have HM7 := hide (HM6.out.below hb7)
      have HB7 := hide (HB6.out.trans (hb7.mono (by omega)))
      have HR7 := hide ((hb7.block w3.heap.size (by omega)).trans HR6.out)
      clear hb7 ho7 HV6 k0 k1 k2 k3 k4 k5 k6 k7 HVF HVF'
      rw [List.length_nil]
      have hpz := pickN_range at' (5 + (z0 : Int)) (by omega)
      have HPK := hide (pick_any2 at' (5 + (z0 : Int)) w7 ha0 ha1 (by omega) (by omega))
      generalize pickN at' (5 + (z0 : Int)) = pz at *
      obtain ⟨p, rfl⟩ := Int.eq_ofNat_of_zero_le hpz.1
      have hp : p < z0 + 5 := by omega
      clear hpz
      go_wp2_with fail
      refine HPK.out.mono ?_
      rintro _ w7' ⟨rfl, hw7⟩
      rw [hw7]
      clear hw7 HPK
      have hb8' := fun o => (Below.refl w7.heap.size w7).alloc (Nat.le_refl _) o
      have hr8' := heap_alloc_new w7
      go_upto_region 18 with fail
      generalize hW : World.alloc w7 _ = w8
      have hb8 : Below w7.heap.size w7 w8 := by rw [← hW]; exact hb8' _
      have hr8 : w8.heap[w7.heap.size]? = some (.cells #[I 1, I 0, I 0, I 0, I 0, I (10 * (p : Int)), I 7, I 1] 46 (0, 0)) := by rw [← hW]; exact hr8' _
      clear hb8' hr8' hW
      have hs8 : w7.heap.size < w8.heap.size := (Array.getElem?_eq_some_iff.1 hr8).1
      have HM8 := hide (HM7.out.below hb8)
      have HB8 := hide (HB7.out.trans (hb8.mono (by omega)))
      have HR8 := hide ((hb8.block w3.heap.size (by omega)).trans HR7.out)
      have HQ8 := hide hr8
      obtain ⟨k0, k1, k2, k3, k4, k5, k6, k7⟩ := rowQ8 hr8
      clear hb8 hr8
      have HP8 := hide (HPS.out p hp v2 w8 HM8.out.map (HKT.out.below HB8.out))
      have HV8 := hide (fun W hk => HVA.out (Ward.rowR p) (Ward.proofText (Ward.rowR p) (Ward.rowL (z0 + 5))) W hk)
      have HVE := hide (HRV.out p hp)
      have HS2 := hide (HRL.out p hp)
      generalize Ward.proofText (Ward.rowR p) (Ward.rowL (z0 + 5)) = S2 at *
      go_wp2_with fail
      refine HP8.out.mono ?_
      rintro _ w9 ⟨rfl, hb9⟩
      have hs9 := hb9.size
      have HB9 := hide (HB8.out.trans (hb9.mono (by omega)))
      have HR9 := hide ((hb9.block w3.heap.size (by omega)).trans HR8.out)
      obtain ⟨k0, k1, k2, k3, k4, k5, k6, k7⟩ := rowQ8 ((hb9.block w7.heap.size (by omega)).trans HQ8.out)
      clear hb9 HP8
      have HV9 := hide (HV8.out w9 (HKT.out.below HB9.out))
      go_wp2_with (refine wpList_load_row rfl 41 (.tmp 10) rfl w3.heap.size rfl 41 C.toArray (0, 0) (.struct fsc) HR9.out HUC.out rfl HCM.out.info ?_)
      refine HV9.out.mono ?_
      rintro e w10 ⟨v10, he, ho10, hb10⟩
      rw [HVE.out] at he ho10
      obtain ⟨a10, c10, e10, hp10⟩ := ho10.readsS
      obtain ⟨g10, o10, ea, -, hpt⟩ := hp10 (by simp)
      subst ea
      have hp0 := hpt 0 (by simp)
      have hv10 : v10 = .slice (some ⟨g10, o10, none⟩) 1 c10 := e10
      subst hv10
      subst he
      have HB10 := hide (HB9.out.trans (hb10.mono (by omega)))
      obtain ⟨p0, p1, p2⟩ : w10.cell? ⟨g10, o10, none⟩ = some (I (1 + (p : Int))) ∧ w10.cell? ⟨g10, o10 + 1, none⟩ = some (I (10 * (p : Int))) ∧ w10.cell? ⟨g10, o10 + 2, none⟩ = some (I 0) := by
        have h := hp0
        rw [Nat.zero_mul, Nat.add_zero] at h
        exact h
      clear hb10 ho10 HV9 k0 k1 k2 k3 k4 k5 k6 k7 HVE hp0 hpt e10 hp10
      have hq4 : Int.tdiv (5 + (z0 : Int) + 3) 4 = (((z0 + 5 + 3) / 4 : Nat) : Int) := by
        rw [Int.tdiv_eq_ediv_of_nonneg (by omega)]
        omega
      have hS2 : (S2.length : Int) ≤ 1384 := by have := HS2.out; omega
      have heq : ∀ W, (Op.equalIn 10000 36 (.agg #[I (1 + (p : Int)), I (10 * (p : Int)), I 0]) (.agg #[I (1 + (p : Int)), I (10 * (p : Int)), I 0])).run Tryz.prog W = .ok true W := fun W => by
        have h := eqPt (Ward.rowPt p) (Ward.rowPt p) W
        rw [(ptEq_iff _ _).2 rfl] at h
        exact h
      go_wp2_with fail
      clear hq4
      go_loopg [22] ((z0 + 5 + 3) / 4) (fun gk v22 wq => ∃ (x f : Nat), gk = x ∧ v22 = I x ∧ Ward.red 200 ((z0 + 5 + 3) / 4) = Ward.red f x ∧ x ≤ f + 4 ∧ x ≤ 40 ∧ wq = w10)
      case atStart => exact ⟨_, 200, rfl, rfl, rfl, by omega, by omega, rfl⟩
      case round =>
        obtain ⟨x, f, rfl, rfl, hred, hxf, hx40, rfl⟩ := hrel
        have HRED := hide hred
        clear hred
        by_cases h4 : 4 < gk
        · have hq4 : Int.tdiv ((gk : Int) + 3) 4 = (((gk + 3) / 4 : Nat) : Int) := by
            rw [Int.tdiv_eq_ediv_of_nonneg (by omega)]
            omega
          go_wp2_with fail
          go_roundg ((gk + 3) / 4)
          case measure => omega
          case rel =>
            cases f with
            | zero => omega
            | succ f =>
              refine ⟨(gk + 3) / 4, f, rfl, rfl, ?_, by omega, by omega, rfl⟩
              rw [HRED.out]
              show (if 4 < gk then Ward.red f ((gk + 3) / 4) else gk) = _
              rw [if_pos h4]
        · have hr : Ward.red f gk = gk := by
            cases f with
            | zero => rfl
            | succ f =>
              show (if 4 < gk then Ward.red f ((gk + 3) / 4) else gk) = _
              rw [if_neg h4]
          have hS1 : (S1.length : Int) = 2 + 53 * (gk : Int) := by
            have h := HQL.out
            rw [HRED.out, hr] at h
            omega
          clear hr
          go_wp2_with fail
          go_ret
          exact ⟨rfl, HB10.out⟩
end Go.Proofs.YtenaelkbgkpllaaGreatDoor
