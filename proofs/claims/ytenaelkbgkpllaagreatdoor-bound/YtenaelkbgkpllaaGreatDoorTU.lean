/- The text of a proof. -/
import Derived.Test.YtenaelkbgkpllaaGreatDoorTR
namespace Go.Proofs.YtenaelkbgkpllaaGreatDoor
open Go.RowKit

/-- what a proof has of a child -/
def kidP (m : Ward.Box → Bool) (n : Nat) (c : Ward.NT n) : List UInt8 := Ward.saidN n c ++ (if m (Ward.boxN n c) = true then 1 :: Ward.proofN m n c else [0])
theorem proofN_kids (m : Ward.Box → Bool) (n : Nat) (t : Ward.NT (n + 1)) (h : ¬ (Ward.Nd.kids t).length = 0) : Ward.proofN m (n + 1) t = [2, UInt8.ofNat (Ward.Nd.kids t).length] ++ (Ward.Nd.kids t).flatMap (kidP m n) := by
  show (if (Ward.Nd.kids t).length = 0 then _ else _) = _
  rw [if_neg h]
  rfl
theorem proofN_leaf (m : Ward.Box → Bool) (n : Nat) (t : Ward.NT (n + 1)) (h : (Ward.Nd.kids t).length = 0) : Ward.proofN m (n + 1) t = Ward.leafText (Ward.Nd.pts t) := by
  show (if (Ward.Nd.kids t).length = 0 then _ else _) = _
  rw [if_pos h]
theorem flat_part {α β : Type} (f : α → List β) : ∀ (K : List α) (i : Nat) (h : i < K.length), ((K.take i).flatMap f).length + (f K[i]).length ≤ (K.flatMap f).length
  | c :: K, 0, _ => by
    rw [List.flatMap_cons, List.length_append]
    show 0 + (f c).length ≤ _
    omega
  | c :: K, i + 1, h => by
    have ih := flat_part f K i (by simpa using h)
    rw [List.flatMap_cons, List.length_append, List.take_succ_cons, List.flatMap_cons, List.length_append, List.getElem_cons_succ]
    omega
/-- one byte put behind a text -/
theorem append_byte {w : World} {B : Nat} {v : Value} {l : List UInt8} (b : UInt8) (x : Int) (hx : ((b.toNat : Nat) : Int) = x) (hown : OwnB w B v l) (hB : B ≤ w.heap.size) (hl : l.length ≤ 900000) :
    ∃ v' w', (Builtin.append_ #[59, 59] 59 #[v, .slice (some ⟨w.heap.size, 0, none⟩) 1 1]).run Tryz.prog (w.alloc (.cells #[.int .u8 x] 5)) = .ok v' w' ∧ OwnB w' B v' (l ++ [b]) ∧ w.grownBy w' v.ownBlock ∧ Fresh w v v' := by
  subst hx
  obtain ⟨v1, w1, h1, ho1, hg1, hf1⟩ := append_bytes (w := w.alloc (.cells #[.int .u8 b.toNat] 5)) [b] ⟨w.heap.size, 0, none⟩ 1 (hown.below ((Below.refl w.heap.size w).alloc (Nat.le_refl _) _)) (by simp; omega) (by simp; omega) (fun j c hj => by
    rw [Addr.add_lit, Nat.zero_add, cell_of_row _ _ _ _ _ _ (heap_alloc_new w _)]
    match j, hj with
    | 0, hj => simp at hj; subst hj; rfl)
  exact ⟨v1, w1, h1, ho1, grown_lift ((Below.refl w.heap.size w).alloc (Nat.le_refl _) _) hg1, fresh_lift (by simp) hf1⟩
theorem append_two {w : World} {B : Nat} {v : Value} {l : List UInt8} (n : Nat) (hn : n ≤ 4) (hown : OwnB w B v l) (hB : B ≤ w.heap.size) (hl : l.length ≤ 900000) :
    ∃ v' w', (Builtin.append_ #[59, 59] 59 #[v, .slice (some ⟨w.heap.size, 0, none⟩) 2 2]).run Tryz.prog (w.alloc (.cells #[.int .u8 2, .int .u8 n] 5)) = .ok v' w' ∧ OwnB w' B v' (l ++ [2, UInt8.ofNat n]) ∧ w.grownBy w' v.ownBlock ∧ Fresh w v v' := by
  obtain ⟨v1, w1, h1, ho1, hg1, hf1⟩ := append_bytes (w := w.alloc (.cells #[.int .u8 2, .int .u8 n] 5)) [2, UInt8.ofNat n] ⟨w.heap.size, 0, none⟩ 2 (hown.below ((Below.refl w.heap.size w).alloc (Nat.le_refl _) _)) (by simp; omega) (by simp; omega) (fun j b hj => by
    have hkk : (UInt8.ofNat n).toNat = n := by rw [UInt8.toNat_ofNat']; omega
    rw [Addr.add_lit, Nat.zero_add, cell_of_row _ _ _ _ _ _ (heap_alloc_new w _)]
    match j, hj with
    | 0, hj => simp at hj; subst hj; rfl
    | 1, hj => simp at hj; subst hj; show some (Value.int .u8 (n : Int)) = some (Y (UInt8.ofNat n)); rw [Y, hkk])
  exact ⟨v1, w1, h1, ho1, grown_lift ((Below.refl w.heap.size w).alloc (Nat.le_refl _) _) hg1, fresh_lift (by simp) hf1⟩
/-- of the closure: which boxes must be shown -/
def MustIs (w : World) (B kq ka : Nat) (m : Ward.Box → Bool) : Prop := ∀ (W : World) (b : Ward.Box), b.In → Below B w W → Calls Tryz.prog 41 #[Bx b, .pointer (some ⟨kq, 0, none⟩), .pointer (some ⟨ka, 0, none⟩)] W fun e w' => e = .returned (.bool (m b)) ∧ Below W.heap.size W w'
theorem MustIs.below {w w' : World} {B kq ka : Nat} {m : Ward.Box → Bool} (h : MustIs w B kq ka m) (hb : Below B w w') : MustIs w' B kq ka m := fun W b hi hW => h W b hi (hb.trans hW)
theorem below_of_grown {w w' : World} {B : Nat} {v : Value} {l : List UInt8} (h : w.grownBy w' v.ownBlock) (ho : OwnB w B v l) (hB : B ≤ w.heap.size) : Below B w w' := ⟨h.os, h.tape, h.output, h.size, fun j hj => h.block j (by omega) (fun e => by have := (ho.lt e.symm).1; omega)⟩
set_option maxRecDepth 100000 in
set_option maxHeartbeats 4000000 in
theorem appendProof_any (m : Ward.Box → Bool) (kq ka : Nat) : ∀ (n : Nat) (t : Ward.NT n) (v : Value) (l : List UInt8) (V : List Value) (w : World) (B : Nat) (S : Nat → Prop) (_ : ∀ g, S g → g < B) (_ : B ≤ w.heap.size) (_ : l.length + (Ward.proofN m n t).length ≤ 600000) (_ : Ward.Few n t) (_ : Ward.InN n t) (_ : NodeIs w S n t V) (_ : OwnB w B v l) (_ : MustIs w B kq ka m),
    Calls Tryz.prog 81 #[v, .agg V.toArray, .func (.func 41) #[] #[.pointer (some ⟨kq, 0, none⟩), .pointer (some ⟨ka, 0, none⟩)]] w fun e w' => Put w B v l (Ward.proofN m n t) e w' := by
  intro n
  induction n with
  | zero => intro t; exact nomatch t
  | succ n ih =>
    intro t v l V w B S hS hB hlen hfew hin hN hown hmu
    have HIN := hide hin
    clear hin
    have IH := hide ih
    have HFEW := hide hfew
    have HMU := hide hmu
    clear ih hfew hmu
    obtain ⟨a1, l1, c1, a2, l2, c2, hV, hd⟩ := hN.cells
    have HR := hide (show Row39 V by rw [hV]; exact nodeV_row hd)
    obtain ⟨vp, vc, hVe, -, hrp, ⟨ac, cc, rfl, hkids⟩⟩ := hN
    have HVE := hide hVe
    have HRP := hide hrp
    have HKD := hide hkids
    have HO := hide hown
    have HS := hide hS
    have HLEN := hide hlen
    have HVB := hide (fun g (hg : v.ownBlock = some g) => OwnB.lt hown hg)
    have hk4 : (Ward.Nd.kids t).length ≤ 4 := HFEW.out.2.1
    have hp4 : (Ward.Nd.pts t).length ≤ 4 := HFEW.out.1
    obtain ⟨fs, hu⟩ := underNode
    have HU := hide hu
    obtain ⟨av, cv, rfl⟩ := hown.slice
    clear hu hV hd hVe hrp hkids hown hS hlen
    have hb2 := fun o => (Below.refl w.heap.size w).alloc (Nat.le_refl _) o
    have hr2 := heap_alloc_new w
    have hs2 := fun o => show (w.alloc o).heap.size = w.heap.size + 1 by simp
    go_enter Tryz.func81, Tryz.ntmps81
    go_upto_region 1 with fail
    generalize hW : World.alloc w _ = w1
    have hb1 : Below w.heap.size w w1 := by rw [← hW]; exact hb2 _
    have hn1 : w1.heap[w.heap.size]? = some (.cells V.toArray 90 (0, 0)) := by rw [← hW]; exact hr2 _
    have hs1 : w1.heap.size = w.heap.size + 1 := by rw [← hW]; exact hs2 _
    clear hb2 hr2 hs2 hW
    have HB1 := hide hb1
    have HS1 := hide hs1
    have HN1 := hide (show w1.heap[w.heap.size]? = some (.cells (nodeV vp (.slice ac (Ward.Nd.kids t).length cc) (Ward.Nd.box t) (Ward.Nd.n t) ((Ward.Nd.dig t).map Y)).toArray 90 (0, 0)) by rw [hn1, HVE.out])
    obtain ⟨⟨k0, k1⟩, -, -⟩ := node_cells HN1.out
    clear hb1 hn1 hs1
    by_cases h0 : (Ward.Nd.kids t).length = 0
    · have HPR := hide (proofN_leaf m n t h0)
      have HRB := hide (show ReadsB w1 B vp (Ward.Nd.pts t) from (HRP.out.keep (below_same HB1.out (fun g hg => by have := HS.out g hg; omega)) (fun _ h => h)).low HS.out)
      have HAL := hide (appendLeaf_any (.slice av l.length cv) l vp (Ward.Nd.pts t) w1 B (by have := HS1.out; omega) (by have := HLEN.out; omega) hp4 HRB.out (HO.out.below HB1.out))
      rw [h0] at k1
      go_wp2_with fail
      refine HAL.out.mono ?_
      rintro _ w2 ⟨v2, rfl, ho2, hg2, hf2⟩
      have HP := hide (show Put w B (.slice av l.length cv) l (Ward.proofN m (n + 1) t) (.returned v2) w2 from ⟨v2, rfl, by rw [HPR.out]; exact ho2, grown_lift HB1.out hg2, fresh_lift HB1.out.size hf2⟩)
      clear ho2 hg2 hf2
      go_wp2
      go_ret
      exact HP.out
    · have HPR := hide (proofN_kids m n t h0)
      have h0' : ¬ ((Ward.Nd.kids t).length : Int) = 0 := by omega
      obtain ⟨v2, w2, h2, ho2, hg2, hf2⟩ := append_two (w := w1) (Ward.Nd.kids t).length hk4 (HO.out.below HB1.out) (by have := HS1.out; omega) (by have := HLEN.out; omega)
      have HO2 := hide ho2
      have HG2 := hide hg2
      have HF2 := hide hf2
      have hn2 := (hg2.block w.heap.size (by have := HS1.out; omega) (fun e => by have := (HVB.out _ e.symm).2; omega)).trans HN1.out
      have HN2 := hide hn2
      obtain ⟨⟨k2, k3⟩, -, -⟩ := node_cells hn2
      clear ho2 hg2 hf2 hn2
      go_wp2_with (at_builtin; refine Lib.wpList_append_run _ rfl (.tmp 17) (.tmp 22) 59 59 rfl _ _ rfl rfl _ _ h2 ?_)
      go_loopg [0, 27] (Ward.Nd.kids t).length (fun gk v0 v27 wq => ∃ i : Nat, gk = (Ward.Nd.kids t).length - i ∧ v27 = I i ∧ i ≤ (Ward.Nd.kids t).length ∧ OwnB wq B v0 (l ++ ([2, UInt8.ofNat (Ward.Nd.kids t).length] ++ ((Ward.Nd.kids t).take i).flatMap (kidP m n))) ∧ w1.grownBy wq (Value.slice av l.length cv).ownBlock ∧ Fresh w1 (.slice av l.length cv) v0)
      case atStart => exact ⟨0, by omega, rfl, by omega, by simpa using HO2.out, HG2.out, HF2.out⟩
      case round =>
        clear h2 HO2 HG2 HF2
        obtain ⟨i, hgk, rfl, hi, ho, hgr, hf⟩ := hrel
        have HGK := hide hgk
        have HG := hide hgr
        have HF := hide hf
        have HOI := hide ho
        have hsz := hgr.size
        clear hgk hgr hf ho
        have HSM := hide (show Same S w wr from fun g hg => (HG.out.block g (by have := HS.out g hg; have := HS1.out; omega) (fun e => by have := (HVB.out _ e.symm).1; have := HS.out g hg; omega)).trans (HB1.out.block g (by have := HS.out g hg; omega)))
        have HMW := hide (show MustIs wr B kq ka m from HMU.out.below ((HB1.out.mono hB).trans (below_of_grown HG.out (HO.out.below HB1.out) (by have := HS1.out; omega))))
        by_cases hlt : i < (Ward.Nd.kids t).length
        · obtain ⟨g, o, rfl, hgS, hrows⟩ := HKD.out (fun e => by rw [e] at hlt; simp at hlt)
          obtain ⟨U, hU, hc⟩ := hrows i hlt
          have HU2 := hide (NodeIs.keep HSM.out (fun _ h => h) n _ U hU)
          have HC := hide (rangeAt_block hc (HSM.out g hgS))
          have HT := hide (flat_step (kidP m n) (Ward.Nd.kids t) i hlt)
          have hfp := flat_part (kidP m n) (Ward.Nd.kids t) i hlt
          have HL := hide (show (l ++ ([2, UInt8.ofNat (Ward.Nd.kids t).length] ++ ((Ward.Nd.kids t).take i).flatMap (kidP m n))).length + (kidP m n (Ward.Nd.kids t)[i]).length ≤ 600000 by
            have h1 := HLEN.out
            rw [HPR.out, List.length_append] at h1
            rw [List.length_append, List.length_append]
            omega)
          have HFC := hide (HFEW.out.2.2 _ (List.getElem_mem hlt))
          have HIC := hide (HIN.out _ (List.getElem_mem hlt))
          have HAS := hide (show l ++ ([2, UInt8.ofNat (Ward.Nd.kids t).length] ++ ((Ward.Nd.kids t).take (i + 1)).flatMap (kidP m n)) = (l ++ ([2, UInt8.ofNat (Ward.Nd.kids t).length] ++ ((Ward.Nd.kids t).take i).flatMap (kidP m n))) ++ kidP m n (Ward.Nd.kids t)[i] by rw [HT.out]; simp only [List.append_assoc])
          obtain ⟨d1, m1, e1, d2, m2, e2, hV, hd⟩ := HU2.out.cells
          have HR2 := hide (show Row39 U by rw [hV]; exact nodeV_row hd)
          have HVE2 := hide hV
          clear hc hU hrows hfp HT
          generalize (Ward.Nd.kids t)[i] = c at *
          generalize l ++ ([2, UInt8.ofNat (Ward.Nd.kids t).length] ++ ((Ward.Nd.kids t).take i).flatMap (kidP m n)) = M at *
          have hs : Ward.saidN n c = childT (Ward.boxN n c) (Ward.numN n c) (Ward.digN n c) := (childT_said _ _ _).symm
          have HKP := hide (show kidP m n c = Ward.saidN n c ++ (if m (Ward.boxN n c) = true then 1 :: Ward.proofN m n c else [0]) from rfl)
          have HSL := hide (said_len HU2.out)
          have hM : M.length ≤ 600000 := by have := HL.out; omega
          have HA := hide (fun (w2 : World) (hB : B ≤ w2.heap.size) (hown : OwnB w2 B u0 M) => by
            have h := appendChild_any u0 M (.slice d1 m1 e1) (.slice d2 m2 e2) (Ward.boxN n c) (Ward.numN n c) (Ward.digN n c) w2 B hB (by omega) hd hown
            rw [← hV, ← hs] at h
            exact h)
          clear hs hV hd
          go_upto_region 7 with (first | (refine wpList_load_mid rfl 90 (.tmp 29) rfl g (o + i * 39) rfl U (.struct fs) HC.out HU.out rfl HR2.out.infl ?_) | (refine wpList_store_row rfl 90 (.tmp 8) (.tmp 30) rfl wr.heap.size U.toArray rfl rfl 90 _ (heap_alloc_new wr _) HR2.out.info (by rw [HR2.out.size]; rfl) HR2.out.one ?_; rw [World.setRow_alloc_new]))
          have hb5' := fun o => (Below.refl wr.heap.size wr).alloc (Nat.le_refl _) o
          have hr5' := heap_alloc_new wr
          have hs5' := fun o => show (wr.alloc o).heap.size = wr.heap.size + 1 by simp
          generalize hW : World.alloc wr _ = w5
          have hb5 : Below wr.heap.size wr w5 := by rw [← hW]; exact hb5' _
          have hr5 : w5.heap[wr.heap.size]? = some (.cells U.toArray 90 (0, 0)) := by rw [← hW]; exact hr5' _
          have hs5 : w5.heap.size = wr.heap.size + 1 := by rw [← hW]; exact hs5' _
          clear hb5' hr5' hs5' hW
          have HB5 := hide hb5
          have HR5 := hide hr5
          have hs1 : w.heap.size + 1 ≤ w1.heap.size := by have := HS1.out; omega
          have hs5i : wr.heap.size + 1 ≤ w5.heap.size := by omega
          clear hb5 hr5 hs5
          go_wp2_with (refine wpList_load_row rfl 90 (.tmp 8) rfl wr.heap.size rfl 90 U.toArray (0, 0) (.struct fs) HR5.out HU.out rfl HR2.out.info ?_)
          refine (HA.out w5 (by omega) (HOI.out.below HB5.out)).mono ?_
          rintro _ w6 ⟨v6, rfl, ho6, hg6, hf6⟩
          have hs6 := hg6.size
          have hr6 := (hg6.block wr.heap.size (by omega) (fun e => by have := (HOI.out.lt e.symm).2; omega)).trans HR5.out
          have HO6 := hide ho6
          have HG6 := hide (grown_lift HB5.out hg6)
          have HF6 := hide (fresh_lift HB5.out.size hf6)
          have HF5 := hide hf6
          have HR6 := hide hr6
          rw [HVE2.out] at hr6
          obtain ⟨-, ⟨f1, f2, f3, f4⟩, -⟩ := node_cells hr6
          have HMB := hide (HMW.out w6 (Ward.boxN n c) HIC.out.1 (below_of_grown HG6.out HOI.out (by omega)))
          clear ho6 hg6 hf6 hr6
          generalize m (Ward.boxN n c) = r at *
          generalize Ward.boxN n c = bc at *
          go_wp2_with fail
          refine HMB.out.mono ?_
          rintro _ w7 ⟨rfl, hb7⟩
          have hs7 := hb7.size
          have HB7 := hide hb7
          have HO7 := hide (HO6.out.below hb7)
          have HR7 := hide ((hb7.block wr.heap.size (by omega)).trans HR6.out)
          have HG7 := hide (grown_trans HG6.out HF6.out (grown_of_below (r := v6.ownBlock) hb7))
          have hM2 : (M ++ Ward.saidN n c).length ≤ 700000 := by rw [List.length_append]; have := HSL.out; omega
          generalize hME : M ++ Ward.saidN n c = M2 at *
          have HME := hide hME
          clear hME
          obtain ⟨a6, c6, e6⟩ := HO6.out.slice
          subst e6
          clear hb7 f1 f2 f3 f4 HMB HR6
          cases r with
          | false =>
            obtain ⟨v8, w8, h8, ho8, hg8, hf8⟩ := append_byte 0 0 (by decide) HO7.out (by omega) (by omega)
            have HO8 := hide ho8
            have HG8 := hide hg8
            have HF8 := hide hf8
            clear ho8 hg8 hf8
            go_wp2_with (at_builtin; refine Lib.wpList_append_run _ rfl (.tmp 39) (.tmp 40) 59 59 rfl _ _ rfl rfl _ _ h8 ?_)
            go_roundg ((Ward.Nd.kids t).length - (i + 1))
            case measure => have := HGK.out; omega
            case rel =>
              refine ⟨i + 1, rfl, by go_num, hlt, ?_, grown_trans HG.out HF.out (grown_trans HG7.out HF6.out HG8.out), fresh_trans HF.out HG.out.size (fresh_trans HF6.out HG7.out.size HF8.out)⟩
              rw [HAS.out, HKP.out, if_neg (by simp), ← List.append_assoc, HME.out]
              exact HO8.out
          | true =>
            obtain ⟨v8, w8, h8, ho8, hg8, hf8⟩ := append_byte 1 1 (by decide) HO7.out (by omega) (by omega)
            have hs8 := hg8.size
            have hr8 := (hg8.block wr.heap.size (by omega) (fun e => by
              rcases HF5.out with h | ⟨g', h, hg'⟩
              · rw [h] at e
                have := (HOI.out.lt e.symm).2
                omega
              · rw [← e] at h
                injection h with h
                omega)).trans HR7.out
            have HR8 := hide hr8
            have HO8 := hide ho8
            have HG8 := hide (grown_trans HG7.out HF6.out hg8)
            have HF8 := hide (fresh_trans HF6.out HG7.out.size hf8)
            clear hr8 ho8 hg8 hf8
            have HBB := hide (below_of_grown HG8.out HOI.out (by omega))
            have HIH := hide (IH.out c v8 (M2 ++ [1]) U w8 B S HS.out (by omega) (by
              have h := HL.out
              rw [HKP.out, if_pos rfl, List.length_append, List.length_cons] at h
              rw [← HME.out, List.length_append, List.length_append, List.length_singleton]
              omega) HFC.out HIC.out.2 (NodeIs.keep (fun g hg => HBB.out.block g (HS.out g hg)) (fun _ h => h) n _ U HU2.out) HO8.out (HMW.out.below HBB.out))
            generalize hM3 : M2 ++ [1] = M3 at *
            have HM3 := hide hM3
            clear hM3
            obtain ⟨a8, c8, e8⟩ := HO8.out.slice
            subst e8
            go_wp2_with (first | (at_builtin; refine Lib.wpList_append_run _ rfl (.tmp 42) (.tmp 43) 59 59 rfl _ _ rfl rfl _ _ h8 ?_) | (refine wpList_load_row rfl 90 (.tmp 8) rfl wr.heap.size rfl 90 U.toArray (0, 0) (.struct fs) HR8.out HU.out rfl HR2.out.info ?_))
            refine HIH.out.mono ?_
            rintro _ w9 ⟨v9, rfl, ho9, hg9, hf9⟩
            have HO9 := hide ho9
            have HG9 := hide (grown_trans HG8.out HF8.out hg9)
            have HF9 := hide (fresh_trans HF8.out HG8.out.size hf9)
            clear ho9 hg9 hf9 h8
            go_wp2_with fail
            go_roundg ((Ward.Nd.kids t).length - (i + 1))
            case measure => have := HGK.out; omega
            case rel =>
              refine ⟨i + 1, rfl, by go_num, hlt, ?_, grown_trans HG.out HF.out HG9.out, fresh_trans HF.out HG.out.size HF9.out⟩
              rw [HAS.out, HKP.out, if_pos trivial]
              have h := HO9.out
              rw [← HM3.out, ← HME.out] at h
              simp only [List.append_assoc, List.cons_append, List.nil_append] at h ⊢
              exact h
        · have ei : i = (Ward.Nd.kids t).length := by omega
          subst ei
          rw [List.take_length] at HOI
          go_wp2
          go_ret
          refine ⟨_, rfl, ?_, grown_lift HB1.out HG.out, fresh_lift HB1.out.size HF.out⟩
          rw [HPR.out]
          exact HOI.out
end Go.Proofs.YtenaelkbgkpllaaGreatDoor
