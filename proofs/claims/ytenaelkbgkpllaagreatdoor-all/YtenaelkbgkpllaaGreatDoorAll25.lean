/- The document's levels. -/
import Derived.Test.YtenaelkbgkpllaaGreatDoorAll24
import Derived.Test.YtenaelkbgkpllaaGreatDoorAll11
namespace Go.Proofs.YtenaelkbgkpllaaGreatDoor
open Go.RowKit

/-- one of two can come up -/
theorem wpAnyL_two {P : Program} {md : Region.Mode} {ops : Array Oper} {Q : Exit → Act → World → Prop} {S : World → Prop} {n i j : Nat} {oi oj : Oper} {k : Nat} {listed : Array Bool} {a : Act} {w : World} (hr : Region.ready md ops listed = [i, j]) (hi : ops[i]? = some oi) (hj : ops[j]? = some oj)
    (h1 : ∀ K' : Act → World → Prop, Shut (∀ a' w', (i ≠ n → S w') → wpAnyL P md ops Q S n k (listed.setIfInBounds i true) a' w' → K' a' w') → if Region.wanted oi (yielded ops a.tmps) = true then Oper.wp P oi a w K' Q else K' (a.put oi.dst undef) w)
    (h2 : ∀ K' : Act → World → Prop, Shut (∀ a' w', (j ≠ n → S w') → wpAnyL P md ops Q S n k (listed.setIfInBounds j true) a' w' → K' a' w') → if Region.wanted oj (yielded ops a.tmps) = true then Oper.wp P oj a w K' Q else K' (a.put oj.dst undef) w) : wpAnyL P md ops Q S n (k + 1) listed a w := by
  refine ⟨fun h0 => absurd (hr.symm.trans h0) (by simp), fun m hm => ?_⟩
  rw [hr, List.mem_cons, List.mem_singleton] at hm
  rcases hm with rfl | rfl
  · exact wpOp_step hi (fun K' hK => h1 K' (fun a' w' hS hW => hK a' w' ⟨hS, hW⟩))
  · exact wpOp_step hj (fun K' hK => h2 K' (fun a' w' hS hW => hK a' w' ⟨hS, hW⟩))
set_option maxRecDepth 100000 in
set_option maxHeartbeats 4000000 in
theorem levels_ref (r : Nat) (u : Value) (K : List Ward.Pt) (w : World) (hm : RMap w r u K) (hG : Good K) :
    Calls Tryz.prog 100 #[.pointer (some ⟨r, 0, none⟩)] w fun e w' => ∃ v v3 n, e = .returned v ∧ AllAt w' w.heap.size v v3 K n ∧ (∃ t, Ward.lev K n = [t] ∧ Ward.tree K = ⟨n, t⟩) ∧ Below w.heap.size w w' := by
  have HM := hide hm
  have hl := hG.many
  have hrlt := hm.lt
  obtain ⟨a, c, rfl⟩ := hm.slice
  have HOWN := hide (show (Value.slice a K.length c = .slice none 0 0 ∧ K.length = 0) ∨ ∃ g cap, Value.slice a K.length c = .slice (some ⟨g, 0, none⟩) K.length cap ∧ K.length ≤ cap from by
    rcases hm.own.2 with h | ⟨g', cap', cur', e', _, _, hcc, _⟩
    · exact .inl h
    · exact .inr ⟨g', cap', e', hcc⟩)
  have HRD := hide hm.own.reads
  have HLA := hide (leaves_at K)
  have HLC := hide (leaves_cond K)
  have HLB := hide (show (Ward.leaves K).length ≤ 38 from Ward.lev_len K hl 0)
  clear hm
  go_enter Tryz.func100, Tryz.ntmps100
  go_wp2_with fail
  obtain ⟨LS, hLS⟩ : ∃ LS, Ward.leaves K = LS := ⟨_, rfl⟩
  rw [hLS] at HLA HLC HLB
  have HLS := hide hLS
  clear hLS
  go_loopw [3, 4] (fun v3 v4 wq => ∃ j i : Nat, i = 4 * j ∧ j ≤ LS.length ∧ v4 = .int .i64 i ∧ LevAt wq w.heap.size v3 0 (LS.take j) ∧ Below w.heap.size w wq)
    (fun _ v4 _ => 4 * LS.length + 4 - (intOf v4).toNat)
  case atStart => exact ⟨0, 0, rfl, by omega, rfl, levAt_nil _ _ _, Below.refl _ _⟩
  case round =>
    obtain ⟨j, i, hij, hj, rfl, hlev, hb⟩ := hrel
    have HLV := hide hlev
    have HB := hide hb
    have hcr := (HM.out.below hb).cell
    have hcond := HLC.out j hj
    rw [← hij] at hcond
    have hls : w.heap.size ≤ wr.heap.size := hb.size
    have hLB := HLB.out
    by_cases hlt : j < LS.length
    · have hc1 := hcond.1 hlt
      have HG := hide (HLA.out j hlt)
      rw [← hij] at HG
      have HTK := hide (show LS.take (j + 1) = LS.take j ++ [LS[j]] from List.take_succ_eq_append_getElem hlt)
      have hlj : (LS.take j).length = j := by rw [List.length_take]; omega
      have hGl : ((K.drop i).take 4).length = min 4 (K.length - i) := by rw [List.length_take, List.length_drop]
      have HIJ := hide hij
      clear hcond hlev hb hij
      have HLF := hide (fun (sv : Value) (W : World) (hr : Reads W sv ((K.drop i).take 4)) => leaf_ref sv ((K.drop i).take 4) W hr (by rw [hGl]; omega))
      obtain ⟨BX, hBX⟩ : ∃ BX, Ward.boxL (((K.drop i).take 4).map Ward.boxOf) = BX := ⟨_, rfl⟩
      obtain ⟨nn, hnn⟩ : ∃ nn : Int, ((((K.drop i).take 4).length : Nat) : Int) = nn := ⟨_, rfl⟩
      obtain ⟨tt, htt⟩ : ∃ tt, Ward.leafText ((K.drop i).take 4) = tt := ⟨_, rfl⟩
      have HMP := hide (show ∀ x, [I BX.a, I BX.b, I BX.c, I BX.d, I nn, Sv tt, I 0, I 0, x] = partL 0 LS[j] j x from fun x => by rw [← hBX, ← hnn, ← htt, HG.out]; rfl)
      rw [hBX, hnn, htt] at HLF
      clear hBX hnn htt
      obtain ⟨ba, bb, bc, bd⟩ := BX
      have HLF2 := hide (fun (sv : Value) (W : World) (hr : Reads W sv ((K.drop i).take 4)) => show Calls Tryz.prog 134 #[sv] W fun e w' => e = .returned (.agg #[I ba, I bb, I bc, I bd, I nn, Sv tt, I 0, I 0, sv]) ∧ Below W.heap.size W w' from HLF.out sv W hr)
      clear HLF
      by_cases hiK : i < K.length
      · obtain ⟨g, e, hcc⟩ : ∃ g, a = some ⟨g, 0, none⟩ ∧ K.length ≤ c := by
          rcases HOWN.out with ⟨e, h0⟩ | ⟨g, cap, e, hcc⟩
          · omega
          · injection e with e1 e2 e3
            exact ⟨g, e1, by omega⟩
        subst e
        have hic : i < c := by omega
        by_cases h4 : i + 4 ≤ K.length
        · have HRS := hide (show Reads wr (.slice (some ⟨g, i * 3, none⟩) 4 (c - i)) ((K.drop i).take 4) from ⟨some ⟨g, i * 3, none⟩, c - i, by rw [hGl]; congr 1; omega, fun _ => ⟨g, i * 3, rfl, fun k hk => by
            rw [hGl] at hk
            obtain ⟨a0, c0, e0, hp⟩ := HRD.out
            obtain ⟨g9, o9, e9, hpp⟩ := hp (fun e => by subst e; simp at hiK)
            injection e0 with e1 e2 e3
            rw [e9] at e1
            injection e1 with e1
            injection e1 with e4 e5
            subst e4 e5
            have h := hpp (i + k) (by omega)
            rw [List.getElem_take, List.getElem_drop, show i * 3 + k * 3 = 0 + (i + k) * 3 by omega]
            exact h.below HB.out h.lt⟩⟩)
          clear hc1 HRD
          go_upto_region 8 with fail
          go_wp2_with fail
          refine (HLF2.out (.slice (some ⟨g, i * 3, none⟩) 4 (c - i)) wr HRS.out).mono ?_
          rintro _ w2 ⟨rfl, hb2⟩
          have hs2 : wr.heap.size ≤ w2.heap.size := hb2.size
          have HB2 := hide (HB.out.trans (hb2.mono hls))
          have hB3 : Below w2.heap.size w2 (w2.alloc (.cells #[I ba, I bb, I bc, I bd, I nn, Sv tt, I 0, I 0, (.slice (some ⟨g, i * 3, none⟩) 4 (c - i))] 150)) := (Below.refl _ _).alloc (Nat.le_refl _) _
          obtain ⟨xs, hxs, how⟩ := (HLV.out.below hb2).below hB3
          rw [hlj] at how
          obtain ⟨v5, w5, h5, ho5, hg5, hf5⟩ := append_part [I ba, I bb, I bc, I bd, I nn, Sv tt, I 0, I 0, (.slice (some ⟨g, i * 3, none⟩) 4 (c - i))] rfl (fun u hu => Array.all_eq_true_iff_forall_mem.1 (partV_one ⟨ba, bb, bc, bd⟩ nn tt 0 0 (.slice (some ⟨g, i * 3, none⟩) 4 (c - i)) rfl) u (by simpa [partV] using hu)) how (by rw [World.size_alloc]; omega) (by omega)
          have hb5 : Below w.heap.size (w2.alloc (.cells #[I ba, I bb, I bc, I bd, I nn, Sv tt, I 0, I 0, (.slice (some ⟨g, i * 3, none⟩) 4 (c - i))] 150)) w5 := ⟨hg5.os, hg5.tape, hg5.output, hg5.size, fun k hk => hg5.block k (by rw [World.size_alloc]; omega) (fun e => by have := (World.ownsRow.lt how k e.symm).1; omega)⟩
          have HB5 := hide (show Below w.heap.size w w5 from (HB2.out.alloc (show w.heap.size ≤ w2.heap.size by omega) _).trans hb5)
          have HL5 := hide (show LevAt w5 w.heap.size v5 0 (LS.take (j + 1)) by
            rw [HTK.out]
            refine levAt_push xs hxs (x := (.slice (some ⟨g, i * 3, none⟩) 4 (c - i))) rfl ?_
            rw [hlj, ← HMP.out]
            exact ho5)
          have h5' : (Builtin.append_ #[151, 151] 151 #[u3, .slice (some ⟨w2.heap.size + 1, 0, none⟩) 1 1]).run Tryz.prog ((w2.alloc (.cells #[I ba, I bb, I bc, I bd, I nn, Sv tt, I 0, I 0, (.slice (some ⟨g, i * 3, none⟩) 4 (c - i))] 150)).alloc (.cells #[I ba, I bb, I bc, I bd, I nn, Sv tt, I 0, I 0, (.slice (some ⟨g, i * 3, none⟩) 4 (c - i))] 150)) = .ok v5 w5 := by rw [World.size_alloc] at h5; exact h5
          obtain ⟨a3, c3, e3⟩ : ∃ a c, u3 = .slice a j c := by
            rcases how.2 with ⟨e, h⟩ | ⟨g', c', _, e, _⟩
            · exact ⟨none, 0, by rw [e, h]⟩
            · exact ⟨_, c', e⟩
          subst e3
          clear how ho5 hg5 hf5 hb5 hb2 hB3 h5 HLF2 HMP
          go_wp2_with (at_builtin; refine Lib.wpList_append_run _ rfl (.tmp 50) (.tmp 52) 151 151 rfl _ _ rfl rfl _ _ h5' ?_)
          go_roundw
          case rel => exact ⟨j + 1, i + 4, by rw [HIJ.out]; omega, hlt, by go_num, HL5.out, HB5.out⟩
          case measure => have := HIJ.out; simp [intOf]; omega
        · have HRS := hide (show Reads wr (.slice (some ⟨g, i * 3, none⟩) (K.length - i) (c - i)) ((K.drop i).take 4) from ⟨some ⟨g, i * 3, none⟩, c - i, by rw [hGl]; congr 1; omega, fun _ => ⟨g, i * 3, rfl, fun k hk => by
            rw [hGl] at hk
            obtain ⟨a0, c0, e0, hp⟩ := HRD.out
            obtain ⟨g9, o9, e9, hpp⟩ := hp (fun e => by subst e; simp at hiK)
            injection e0 with e1 e2 e3
            rw [e9] at e1
            injection e1 with e1
            injection e1 with e4 e5
            subst e4 e5
            have h := hpp (i + k) (by omega)
            rw [List.getElem_take, List.getElem_drop, show i * 3 + k * 3 = 0 + (i + k) * 3 by omega]
            exact h.below HB.out h.lt⟩⟩)
          clear hc1 HRD
          go_upto_region 8 with fail
          go_wp2_with fail
          refine (HLF2.out (.slice (some ⟨g, i * 3, none⟩) (K.length - i) (c - i)) wr HRS.out).mono ?_
          rintro _ w2 ⟨rfl, hb2⟩
          have hs2 : wr.heap.size ≤ w2.heap.size := hb2.size
          have HB2 := hide (HB.out.trans (hb2.mono hls))
          have hB3 : Below w2.heap.size w2 (w2.alloc (.cells #[I ba, I bb, I bc, I bd, I nn, Sv tt, I 0, I 0, (.slice (some ⟨g, i * 3, none⟩) (K.length - i) (c - i))] 150)) := (Below.refl _ _).alloc (Nat.le_refl _) _
          obtain ⟨xs, hxs, how⟩ := (HLV.out.below hb2).below hB3
          rw [hlj] at how
          obtain ⟨v5, w5, h5, ho5, hg5, hf5⟩ := append_part [I ba, I bb, I bc, I bd, I nn, Sv tt, I 0, I 0, (.slice (some ⟨g, i * 3, none⟩) (K.length - i) (c - i))] rfl (fun u hu => Array.all_eq_true_iff_forall_mem.1 (partV_one ⟨ba, bb, bc, bd⟩ nn tt 0 0 (.slice (some ⟨g, i * 3, none⟩) (K.length - i) (c - i)) rfl) u (by simpa [partV] using hu)) how (by rw [World.size_alloc]; omega) (by omega)
          have hb5 : Below w.heap.size (w2.alloc (.cells #[I ba, I bb, I bc, I bd, I nn, Sv tt, I 0, I 0, (.slice (some ⟨g, i * 3, none⟩) (K.length - i) (c - i))] 150)) w5 := ⟨hg5.os, hg5.tape, hg5.output, hg5.size, fun k hk => hg5.block k (by rw [World.size_alloc]; omega) (fun e => by have := (World.ownsRow.lt how k e.symm).1; omega)⟩
          have HB5 := hide (show Below w.heap.size w w5 from (HB2.out.alloc (show w.heap.size ≤ w2.heap.size by omega) _).trans hb5)
          have HL5 := hide (show LevAt w5 w.heap.size v5 0 (LS.take (j + 1)) by
            rw [HTK.out]
            refine levAt_push xs hxs (x := (.slice (some ⟨g, i * 3, none⟩) (K.length - i) (c - i))) rfl ?_
            rw [hlj, ← HMP.out]
            exact ho5)
          have h5' : (Builtin.append_ #[151, 151] 151 #[u3, .slice (some ⟨w2.heap.size + 1, 0, none⟩) 1 1]).run Tryz.prog ((w2.alloc (.cells #[I ba, I bb, I bc, I bd, I nn, Sv tt, I 0, I 0, (.slice (some ⟨g, i * 3, none⟩) (K.length - i) (c - i))] 150)).alloc (.cells #[I ba, I bb, I bc, I bd, I nn, Sv tt, I 0, I 0, (.slice (some ⟨g, i * 3, none⟩) (K.length - i) (c - i))] 150)) = .ok v5 w5 := by rw [World.size_alloc] at h5; exact h5
          obtain ⟨a3, c3, e3⟩ : ∃ a c, u3 = .slice a j c := by
            rcases how.2 with ⟨e, h⟩ | ⟨g', c', _, e, _⟩
            · exact ⟨none, 0, by rw [e, h]⟩
            · exact ⟨_, c', e⟩
          subst e3
          clear how ho5 hg5 hf5 hb5 hb2 hB3 h5 HLF2 HMP
          go_wp2_with (at_builtin; refine Lib.wpList_append_run _ rfl (.tmp 50) (.tmp 52) 151 151 rfl _ _ rfl rfl _ _ h5' ?_)
          go_roundw
          case rel => exact ⟨j + 1, i + 4, by rw [HIJ.out]; omega, hlt, by go_num, HL5.out, HB5.out⟩
          case measure => have := HIJ.out; simp [intOf]; omega
      · have hK0 : K.length = 0 := by omega
        have hi00 : i = 0 := by omega
        have hKe : K = [] := List.length_eq_zero_iff.1 hK0
        rcases HOWN.out with ⟨e, h0⟩ | ⟨g, cap, e, hcc⟩
        · injection e with e1 e2 e3
          subst e1 e3
          have HRS := hide (show Reads wr (.slice none 0 0) ((K.drop i).take 4) from ⟨_, _, by rw [hGl, hK0]; congr 1; omega, fun h => absurd (by rw [hKe]; simp) h⟩)
          clear hc1 HRD e2 hKe HOWN
          rw [hK0] at hcr
          subst hi00
          go_upto_region 8 with fail
          go_wp2_with fail
          refine (HLF2.out (.slice none 0 0) wr HRS.out).mono ?_
          rintro _ w2 ⟨rfl, hb2⟩
          have hs2 : wr.heap.size ≤ w2.heap.size := hb2.size
          have HB2 := hide (HB.out.trans (hb2.mono hls))
          have hB3 : Below w2.heap.size w2 (w2.alloc (.cells #[I ba, I bb, I bc, I bd, I nn, Sv tt, I 0, I 0, (.slice none 0 0)] 150)) := (Below.refl _ _).alloc (Nat.le_refl _) _
          obtain ⟨xs, hxs, how⟩ := (HLV.out.below hb2).below hB3
          rw [hlj] at how
          obtain ⟨v5, w5, h5, ho5, hg5, hf5⟩ := append_part [I ba, I bb, I bc, I bd, I nn, Sv tt, I 0, I 0, (.slice none 0 0)] rfl (fun u hu => Array.all_eq_true_iff_forall_mem.1 (partV_one ⟨ba, bb, bc, bd⟩ nn tt 0 0 (.slice none 0 0) rfl) u (by simpa [partV] using hu)) how (by rw [World.size_alloc]; omega) (by omega)
          have hb5 : Below w.heap.size (w2.alloc (.cells #[I ba, I bb, I bc, I bd, I nn, Sv tt, I 0, I 0, (.slice none 0 0)] 150)) w5 := ⟨hg5.os, hg5.tape, hg5.output, hg5.size, fun k hk => hg5.block k (by rw [World.size_alloc]; omega) (fun e => by have := (World.ownsRow.lt how k e.symm).1; omega)⟩
          have HB5 := hide (show Below w.heap.size w w5 from (HB2.out.alloc (show w.heap.size ≤ w2.heap.size by omega) _).trans hb5)
          have HL5 := hide (show LevAt w5 w.heap.size v5 0 (LS.take (j + 1)) by
            rw [HTK.out]
            refine levAt_push xs hxs (x := (.slice none 0 0)) rfl ?_
            rw [hlj, ← HMP.out]
            exact ho5)
          have h5' : (Builtin.append_ #[151, 151] 151 #[u3, .slice (some ⟨w2.heap.size + 1, 0, none⟩) 1 1]).run Tryz.prog ((w2.alloc (.cells #[I ba, I bb, I bc, I bd, I nn, Sv tt, I 0, I 0, (.slice none 0 0)] 150)).alloc (.cells #[I ba, I bb, I bc, I bd, I nn, Sv tt, I 0, I 0, (.slice none 0 0)] 150)) = .ok v5 w5 := by rw [World.size_alloc] at h5; exact h5
          obtain ⟨a3, c3, e3⟩ : ∃ a c, u3 = .slice a j c := by
            rcases how.2 with ⟨e, h⟩ | ⟨g', c', _, e, _⟩
            · exact ⟨none, 0, by rw [e, h]⟩
            · exact ⟨_, c', e⟩
          subst e3
          clear how ho5 hg5 hf5 hb5 hb2 hB3 h5 HLF2 HMP
          go_wp2_with (at_builtin; refine Lib.wpList_append_run _ rfl (.tmp 50) (.tmp 52) 151 151 rfl _ _ rfl rfl _ _ h5' ?_)
          go_roundw
          case rel => exact ⟨j + 1, 4, by have := HIJ.out; omega, hlt, by go_num, HL5.out, HB5.out⟩
          case measure => first | (simp [intOf]; done) | (simp [intOf]; omega)
        · injection e with e1 e2 e3
          subst e1 e3
          have HRS := hide (show Reads wr (.slice (some ⟨g, 0, none⟩) 0 c) ((K.drop i).take 4) from ⟨_, _, by rw [hGl, hK0]; congr 1; omega, fun h => absurd (by rw [hKe]; simp) h⟩)
          clear hc1 HRD e2 hKe HOWN
          rw [hK0] at hcr
          subst hi00
          go_upto_region 8 with fail
          go_wp2_with fail
          refine (HLF2.out (.slice (some ⟨g, 0, none⟩) 0 c) wr HRS.out).mono ?_
          rintro _ w2 ⟨rfl, hb2⟩
          have hs2 : wr.heap.size ≤ w2.heap.size := hb2.size
          have HB2 := hide (HB.out.trans (hb2.mono hls))
          have hB3 : Below w2.heap.size w2 (w2.alloc (.cells #[I ba, I bb, I bc, I bd, I nn, Sv tt, I 0, I 0, (.slice (some ⟨g, 0, none⟩) 0 c)] 150)) := (Below.refl _ _).alloc (Nat.le_refl _) _
          obtain ⟨xs, hxs, how⟩ := (HLV.out.below hb2).below hB3
          rw [hlj] at how
          obtain ⟨v5, w5, h5, ho5, hg5, hf5⟩ := append_part [I ba, I bb, I bc, I bd, I nn, Sv tt, I 0, I 0, (.slice (some ⟨g, 0, none⟩) 0 c)] rfl (fun u hu => Array.all_eq_true_iff_forall_mem.1 (partV_one ⟨ba, bb, bc, bd⟩ nn tt 0 0 (.slice (some ⟨g, 0, none⟩) 0 c) rfl) u (by simpa [partV] using hu)) how (by rw [World.size_alloc]; omega) (by omega)
          have hb5 : Below w.heap.size (w2.alloc (.cells #[I ba, I bb, I bc, I bd, I nn, Sv tt, I 0, I 0, (.slice (some ⟨g, 0, none⟩) 0 c)] 150)) w5 := ⟨hg5.os, hg5.tape, hg5.output, hg5.size, fun k hk => hg5.block k (by rw [World.size_alloc]; omega) (fun e => by have := (World.ownsRow.lt how k e.symm).1; omega)⟩
          have HB5 := hide (show Below w.heap.size w w5 from (HB2.out.alloc (show w.heap.size ≤ w2.heap.size by omega) _).trans hb5)
          have HL5 := hide (show LevAt w5 w.heap.size v5 0 (LS.take (j + 1)) by
            rw [HTK.out]
            refine levAt_push xs hxs (x := (.slice (some ⟨g, 0, none⟩) 0 c)) rfl ?_
            rw [hlj, ← HMP.out]
            exact ho5)
          have h5' : (Builtin.append_ #[151, 151] 151 #[u3, .slice (some ⟨w2.heap.size + 1, 0, none⟩) 1 1]).run Tryz.prog ((w2.alloc (.cells #[I ba, I bb, I bc, I bd, I nn, Sv tt, I 0, I 0, (.slice (some ⟨g, 0, none⟩) 0 c)] 150)).alloc (.cells #[I ba, I bb, I bc, I bd, I nn, Sv tt, I 0, I 0, (.slice (some ⟨g, 0, none⟩) 0 c)] 150)) = .ok v5 w5 := by rw [World.size_alloc] at h5; exact h5
          obtain ⟨a3, c3, e3⟩ : ∃ a c, u3 = .slice a j c := by
            rcases how.2 with ⟨e, h⟩ | ⟨g', c', _, e, _⟩
            · exact ⟨none, 0, by rw [e, h]⟩
            · exact ⟨_, c', e⟩
          subst e3
          clear how ho5 hg5 hf5 hb5 hb2 hB3 h5 HLF2 HMP
          go_wp2_with (at_builtin; refine Lib.wpList_append_run _ rfl (.tmp 50) (.tmp 52) 151 151 rfl _ _ rfl rfl _ _ h5' ?_)
          go_roundw
          case rel => exact ⟨j + 1, 4, by have := HIJ.out; omega, hlt, by go_num, HL5.out, HB5.out⟩
          case measure => first | (simp [intOf]; done) | (simp [intOf]; omega)
    · have hc1 : ¬ (i < K.length ∨ i = 0) := fun h => hlt (hcond.2 h)
      have ej : j = LS.length := by omega
      have HL0 := hide (show LevAt wr w.heap.size u3 0 (Ward.lev K 0) by
        have h := HLV.out
        rw [ej, List.take_length, ← HLS.out] at h
        exact h)
      have HA0 := hide (allAt_first HL0.out hls)
      have HBA := hide (fun o => HB.out.alloc (show w.heap.size ≤ wr.heap.size from hls) o)
      obtain ⟨-, a3, c3, e3⟩ := HL0.out.one
      subst e3
      have hi1 : ¬ i < K.length := fun h => hc1 (.inl h)
      have hi2 : ¬ i = 0 := fun h => hc1 (.inr h)
      have hi3 : ((i : Int) == 0) = false := by simp; omega
      clear hlev hb hcond hc1 hlt HLV HLA HLC ej hij
      go_wp2_with fail
      go_loopw [3, 7] (fun v3 v7 wq => ∃ n : Nat, Ward.Up K n ∧ n + (Ward.lev K n).length ≤ 100 ∧ lenOf' v3 = (Ward.lev K n).length ∧ AllAt wq w.heap.size v7 v3 K n ∧ Below w.heap.size w wq)
        (fun v3 _ _ => lenOf' v3)
      case atStart => exact ⟨0, Ward.up_zero K, by have h : (Ward.lev K 0).length ≤ 38 := Ward.lev_len K hl 0; omega, rfl, HA0.out, HBA.out _⟩
      case round =>
        clear HA0 HBA HL0 hi1 hi2 hi3 hcr hls hLB HB HLS
        obtain ⟨n, hup, hn, hlen, hall, hb⟩ := hrel
        have HUP := hide hup
        have HALL := hide hall
        have HB := hide hb
        obtain ⟨-, a3, c3, e3⟩ := hall.now.one
        subst e3
        have hls : w.heap.size ≤ wr.heap.size := hb.size
        by_cases h1 : 1 < (Ward.lev K n).length
        · obtain ⟨ls, hlse⟩ : ∃ ls, Ward.lev K n = ls := ⟨_, rfl⟩
          rw [hlse] at h1 hlen hn
          have HLN := hide hlse
          have HNOW := hide (show LevAt wr w.heap.size (.slice a3 ls.length c3) n ls by have h := hall.now; rw [hlse] at h; exact h)
          have HUP2 := hide (Ward.up_succ hup (by rw [hlse]; exact h1))
          rw [hlse]
          obtain ⟨W0, hW0⟩ : ∃ W0, W0 = wr := ⟨_, rfl⟩
          subst hW0
          have HFL := hide (Ward.fours_length ls)
          have HFG := hide (Ward.fours_get ls)
          have HFN := hide (show Ward.lev K (n + 1) = Ward.fours ls by rw [Ward.lev, hlse])
          obtain ⟨FS, hFS⟩ : ∃ FS, Ward.fours ls = FS := ⟨_, rfl⟩
          rw [hFS] at HFL HFG HFN
          clear hall hb hup hlen hlse hFS
          have hd1 : decide ((1 : Int) < (ls.length : Int)) = true := decide_eq_true (by omega)
          go_wp2_with fail
          go_loopw [8, 9] (fun v8 v9 wq => ∃ j i : Nat, i = 4 * j ∧ j ≤ FS.length ∧ v9 = .int .i64 i ∧ LevAt wq W0.heap.size v8 (n + 1) (FS.take j) ∧ Below W0.heap.size W0 wq)
            (fun _ v9 _ => 4 * FS.length + 4 - (intOf v9).toNat)
          case atStart => exact ⟨0, 0, rfl, by omega, rfl, levAt_nil _ _ _, Below.refl _ _⟩
          case round =>
            obtain ⟨j, i, hij, hj, rfl, hlev, hb⟩ := hrel
            have HLV := hide hlev
            have HB0 := hide hb
            have hs0 : W0.heap.size ≤ wr.heap.size := hb.size
            have HIJ := hide hij
            have hFL := HFL.out
            by_cases hlt : i < ls.length
            · have hjF : j < FS.length := by omega
              have HG := hide (HFG.out j hjF)
              rw [← hij] at HG
              have HTK := hide (show FS.take (j + 1) = FS.take j ++ [FS[j]] from List.take_succ_eq_append_getElem hjF)
              have hlj : (FS.take j).length = j := by rw [List.length_take]; omega
              obtain ⟨G, hGe⟩ : ∃ G, (ls.drop i).take 4 = G := ⟨_, rfl⟩
              rw [hGe] at HG
              have hGl : G.length = min 4 (ls.length - i) := by rw [← hGe, List.length_take, List.length_drop]
              have HGA := hide (show ∀ q, (h : q < G.length) → ∃ h' : i + q < ls.length, G[q] = ls[i + q] from fun q h => ⟨by omega, by subst hGe; rw [List.getElem_take, List.getElem_drop]⟩)
              have HLS0 := hide (HNOW.out.below hb)
              obtain ⟨g3, c3', x3, e3, hg3, hg3l, hc3, -, hr3⟩ := HLS0.out.at i hlt
              injection e3 with e4 _ e5
              subst e4 e5
              have hls0 : ls.length ≤ 100 := by omega
              obtain ⟨k0, k1, k2, k3, k4, k5⟩ := PtCells.of hr3
              have HB00 := hide (show Ward.box n ls[i] = Ward.box n ls[i] from rfl)
              obtain ⟨b0, hb0⟩ : ∃ b0, Ward.box n ls[i] = b0 := ⟨_, rfl⟩
              rw [hb0] at k0 k1 k2 k3
              have HB0E := hide hb0
              clear hb0 k4 k5 hr3 x3 hlev hij HB00
              have hgl1 : G.length ≤ 4 := by omega
              have hgl2 : 4 ≤ G.length ∨ (G.length < 4 ∧ ls.length ≤ i + G.length) := by omega
              have hgl3 : i + G.length ≤ ls.length := by omega
              have hgl4 : 0 < G.length := by omega
              clear hGl hGe
              have HN1 := hide (show ∀ o, (wr.alloc o).heap[wr.heap.size]? = some o from heap_alloc_new wr)
              obtain ⟨ba, bb, bc, bd⟩ := b0
              dsimp only at k0 k1 k2 k3
              obtain ⟨W1, hW1⟩ : ∃ W1, W1 = wr := ⟨_, rfl⟩
              subst hW1
              have HBX1 := hide (show boxQ' n G ⟨ba, bb, bc, bd⟩ G.length = Ward.box (n + 1) FS[j] ∧ cntQ n G G.length = Ward.count (n + 1) FS[j] ∧ (2 :: UInt8.ofNat G.length :: txtQ n G G.length) = Ward.text Sha.sha (n + 1) FS[j] by
                have hG0 : 0 < G.length := by omega
                obtain ⟨h', he⟩ := HGA.out 0 hG0
                rw [HG.out]
                refine ⟨?_, ?_, ?_⟩
                · unfold boxQ'
                  rw [List.take_length, ← HB0E.out]
                  show _ = Ward.boxL (G.map (Ward.box n))
                  unfold Ward.boxL
                  congr 1
                  cases G with
                  | nil => simp at hG0
                  | cons t0 G0 =>
                    simp only [List.getElem_cons_zero, Nat.add_zero] at he
                    rw [List.map_cons, List.headD_cons, he]
                · unfold cntQ
                  rw [List.take_length]
                  rfl
                · unfold txtQ
                  rw [List.take_length]
                  rfl)
              have HTL := hide (show ([2, UInt8.ofNat G.length] : List UInt8).length + (txtQ n G G.length).length ≤ 9223372036854775807 by rw [txtQ_len, List.take_length]; simp; omega)
              go_wp2_with fail
              go_loopw [11, 12] (fun v11 v12 wq => ∃ q : Nat, q ≤ G.length ∧ v12 = .int .i64 (i + q : Nat) ∧ v11 = Sv (txtQ n G q) ∧ wq.heap[W1.heap.size]? = some (.cells (partV (boxQ' n G ⟨ba, bb, bc, bd⟩ q) (cntQ n G q : Nat) [] i (q : Nat) (.slice none 0 0)) 150 (0, 0)) ∧ Below W1.heap.size W1 wq)
                (fun _ v12 _ => i + G.length - (intOf v12).toNat)
              case atStart => exact ⟨0, by omega, rfl, rfl, HN1.out _, (Below.refl _ _).alloc (Nat.le_refl _) _⟩
              case round =>
                obtain ⟨q, hq, rfl, rfl, hrow, hb4⟩ := hrel
                have HROW := hide hrow
                have HB4 := hide hb4
                have hsw : W1.heap.size < wr.heap.size := (Array.getElem?_eq_some_iff.1 hrow).1
                by_cases hqG : q < G.length
                · obtain ⟨hiq, heq⟩ := HGA.out q hqG
                  obtain ⟨g3', c3'', x3, e3, -, hg3l', -, -, hr3⟩ := HLS0.out.at (i + q) hiq
                  injection e3 with e4 _ e5
                  injection e4 with e4
                  injection e4 with e4
                  subst e4
                  clear e5
                  have hpc := (PtCells.of hr3).below hb4 hg3l
                  have HNB := hide (show boxQ' n G ⟨ba, bb, bc, bd⟩ (q + 1) = Ward.join (boxQ' n G ⟨ba, bb, bc, bd⟩ q) (Ward.box n ls[i + q]) ∧ cntQ n G (q + 1) = cntQ n G q + Ward.count n ls[i + q] ∧ txtQ n G (q + 1) = txtQ n G q ++ Ward.head Sha.sha n ls[i + q] by
                    unfold boxQ' cntQ txtQ
                    rw [List.take_succ_eq_append_getElem hqG, heq]
                    refine ⟨?_, ?_, ?_⟩
                    · rw [List.map_append, List.foldl_append]; rfl
                    · rw [List.map_append, List.sum_append]; simp
                    · rw [List.flatMap_append]; simp)
                  have HHD := hide (show Ward.head Sha.sha n ls[i + q] = Ward.boxText (Ward.box n ls[i + q]) ++ Ward.fourI (Ward.count n ls[i + q] : Nat) ++ Sha.sha (Ward.text Sha.sha n ls[i + q]) from rfl)
                  have HSM := hide (show Ward.count n ls[i + q] ≤ 1000000 ∧ cntQ n G q ≤ 1000000 ∧ (txtQ n G q).length ≤ 1000 ∧ (Ward.text Sha.sha n ls[i + q]).length ≤ 1000 by
                    have hin : ls[i + q] ∈ Ward.lev K n := by rw [HLN.out]; exact List.getElem_mem hiq
                    have hin2 : FS[j] ∈ Ward.lev K (n + 1) := by rw [HFN.out]; exact List.getElem_mem hjF
                    have c1 := Ward.lev_count K n _ hin
                    have c2 := Ward.lev_count K (n + 1) _ hin2
                    rw [← HBX1.out.2.1] at c2
                    have c3 : cntQ n G q ≤ cntQ n G G.length := by
                      unfold cntQ
                      rw [List.take_length, List.map_take]
                      exact Ward.sum_take_le _ _
                    have c4 := hG.many
                    refine ⟨by omega, by omega, ?_, ?_⟩
                    · rw [txtQ_len, List.length_take]; omega
                    · have := Ward.text_small (dig := Sha.sha) (fun _ => rfl) n _ (Ward.lev_small hG.ok n _ hin)
                      omega)
                  clear hr3 heq x3
                  generalize Ward.text Sha.sha n ls[i + q] = tt at *
                  generalize Ward.box n ls[i + q] = bt at *
                  generalize Ward.count n ls[i + q] = ct at *
                  obtain ⟨ta, tb, tc, td⟩ := bt
                  obtain ⟨s0, s1, s2, s3, s4, s5⟩ := hpc
                  dsimp only at s0 s1 s2 s3
                  obtain ⟨bq, hbq⟩ : ∃ bq, boxQ' n G ⟨ba, bb, bc, bd⟩ q = bq := ⟨_, rfl⟩
                  obtain ⟨cq, hcq⟩ : ∃ cq, cntQ n G q = cq := ⟨_, rfl⟩
                  obtain ⟨tq, htq⟩ : ∃ tq, txtQ n G q = tq := ⟨_, rfl⟩
                  rw [hbq, hcq] at hrow HROW
                  rw [hbq, hcq, htq] at HNB
                  rw [hcq, htq] at HSM
                  rw [htq]
                  clear hbq hcq htq
                  obtain ⟨pa, pb, pc, pd⟩ := bq
                  obtain ⟨m0, m1, m2, m3, mf⟩ := cells4 hrow
                  dsimp only at m0 m1 m2 m3
                  have m4 : wr.cell? ⟨W1.heap.size, 4, none⟩ = some (I (cq : Nat)) := by rw [cell_of_row _ _ _ _ _ _ hrow]; rfl
                  have m7 : wr.cell? ⟨W1.heap.size, 7, none⟩ = some (I (q : Nat)) := by rw [cell_of_row _ _ _ _ _ _ hrow]; rfl
                  have hq4 : q < 4 := by omega
                  have hcb := HSM.out.1
                  have hcc := HSM.out.2.1
                  have hgne : g3 ≠ W1.heap.size := by omega
                  obtain ⟨o3, ho3⟩ : ∃ o3, o3 = (i + q) * 9 := ⟨_, rfl⟩
                  have hd76 : decide ((i : Int) + (q : Int) < (i : Int) + 4) = true := decide_eq_true (by omega)
                  have hd81 : decide ((i : Int) + (q : Int) < (ls.length : Int)) = true := decide_eq_true (by omega)
                  go_upto_region 22 with fail
                  generalize hW : World.setCell _ _ _ = w2
                  have r2 : w2.heap[W1.heap.size]? = some (.cells (partV ⟨pa, pb, pc, pd⟩ (cq : Nat) [] i ((q : Int) + 1) (.slice none 0 0)) 150 (0, 0)) := by
                    rw [← hW, heap_setCell_same _ _ _ _ _ _ hrow]; rfl
                  have b2 : Below W1.heap.size W1 w2 := by rw [← hW]; exact hb4.setCell (Nat.le_refl _) _
                  have p2 : PtCells w2 g3 ((i + q) * 9) ⟨ta, tb, tc, td⟩ (ct : Nat) tt := by
                    have hne : ∀ x, w2.cell? ⟨g3, x, none⟩ = wr.cell? ⟨g3, x, none⟩ := fun x => by rw [← hW]; exact World.cell?_setCell_other _ _ _ _ (fun e => by injection e with e1 _ _; omega)
                    exact ⟨(hne _).trans s0, (hne _).trans s1, (hne _).trans s2, (hne _).trans s3, (hne _).trans s4, (hne _).trans s5⟩
                  clear hW m0 m1 m2 m3 m4 m7 mf s0 s1 s2 s3 s4 s5 hrow hb4 HROW HB4
                  have HR2 := hide r2
                  have HB2 := hide b2
                  have HP2 := hide p2
                  go_cut [] from 89 to 97 (fun wx => wx.heap[W1.heap.size]? = some (.cells (partV ⟨pa, pb, pc, pd⟩ ((cq : Int) + ct) [] i ((q : Int) + 1) (.slice none 0 0)) 150 (0, 0)) ∧ PtCells wx g3 ((i + q) * 9) ⟨ta, tb, tc, td⟩ (ct : Nat) tt ∧ Below W1.heap.size W1 wx)
                  case first =>
                    have m4 : w2.cell? ⟨W1.heap.size, 4, none⟩ = some (I (cq : Nat)) := by rw [cell_of_row _ _ _ _ _ _ r2]; rfl
                    have mf : ∀ j, w2.frozen? ⟨W1.heap.size, j, none⟩ = false := fun j => frozen_of_row _ _ _ _ _ r2
                    have s4 := p2.c4
                    clear r2 b2 p2
                    go_region
                    all_goals
                      go_wp2_with fail
                      go_meet
                      refine ⟨?_, ?_, ?_⟩
                      · rw [show ∀ W : World, W.drew.heap = W.heap from fun _ => rfl, heap_setCell_same _ _ _ _ _ _ HR2.out]; rfl
                      · have hne : ∀ x, (w2.setCell ⟨W1.heap.size, 4, none⟩ (.int .i64 ((cq : Int) + ct))).cell? ⟨g3, x, none⟩ = w2.cell? ⟨g3, x, none⟩ := fun x => World.cell?_setCell_other _ _ _ _ (fun e => by injection e with e1 _ _; omega)
                        have p := HP2.out
                        exact ⟨(hne _).trans p.c0, (hne _).trans p.c1, (hne _).trans p.c2, (hne _).trans p.c3, (hne _).trans p.c4, (hne _).trans p.c5⟩
                      · exact (HB2.out.setCell (Nat.le_refl _) _).drew
                  case rest =>
                    clear r2 b2 p2 HR2 HB2 HP2
                    obtain ⟨r3, p3, b3⟩ := hcut
                    have hsc : W1.heap.size < wc.heap.size := (Array.getElem?_eq_some_iff.1 r3).1
                    have HR3 := hide r3
                    have HB3 := hide b3
                    have HP3 := hide p3
                    have HJN := hide (fun W => both_ref ⟨pa, pb, pc, pd⟩ ⟨ta, tb, tc, td⟩ W)
                    obtain ⟨jj, hjj⟩ : ∃ jj, Ward.join ⟨pa, pb, pc, pd⟩ ⟨ta, tb, tc, td⟩ = jj := ⟨_, rfl⟩
                    rw [hjj] at HJN HNB
                    clear hjj
                    obtain ⟨ja, jb, jc, jd⟩ := jj
                    go_upto_region 23 with fail
                    generalize wc = w3 at *
                    go_cut [] from 98 to 106 (fun wx => wx.heap[W1.heap.size]? = some (.cells (partV ⟨ja, jb, jc, jd⟩ ((cq : Int) + ct) [] i ((q : Int) + 1) (.slice none 0 0)) 150 (0, 0)) ∧ PtCells wx g3 ((i + q) * 9) ⟨ta, tb, tc, td⟩ (ct : Nat) tt ∧ Below W1.heap.size W1 wx)
                    case first =>
                      obtain ⟨n0, n1, n2, n3, nf⟩ := cells4 r3
                      obtain ⟨s0, s1, s2, s3, s4, s5⟩ := p3
                      dsimp only at n0 n1 n2 n3 s0 s1 s2 s3
                      have hS : (w3.drew.cell? ⟨W1.heap.size, 0, none⟩ = some (I pa) ∧ w3.drew.cell? ⟨W1.heap.size, 1, none⟩ = some (I pb) ∧ w3.drew.cell? ⟨W1.heap.size, 2, none⟩ = some (I pc) ∧ w3.drew.cell? ⟨W1.heap.size, 3, none⟩ = some (I pd)) ∧ w3.drew.cell? ⟨g3, (i + q) * 9, none⟩ = some (I ta) ∧ w3.drew.cell? ⟨g3, (i + q) * 9 + 1, none⟩ = some (I tb) ∧ w3.drew.cell? ⟨g3, (i + q) * 9 + 2, none⟩ = some (I tc) ∧ w3.drew.cell? ⟨g3, (i + q) * 9 + 3, none⟩ = some (I td) := by simpa using ⟨⟨n0, n1, n2, n3⟩, s0, s1, s2, s3⟩
                      clear n0 n1 n2 n3 nf s0 s1 s2 s3 s4 s5 r3 b3
                      have hxi : (0 : Int) ≤ (i : Int) + (q : Int) := by omega
                      have hxj : (i : Int) + (q : Int) < (ls.length : Int) := by omega
                      have hxn : ((i : Int) + (q : Int)).toNat = i + q := by omega
                      refine wp_region_L 9 (fun W => (W.cell? ⟨W1.heap.size, 0, none⟩ = some (I pa) ∧ W.cell? ⟨W1.heap.size, 1, none⟩ = some (I pb) ∧ W.cell? ⟨W1.heap.size, 2, none⟩ = some (I pc) ∧ W.cell? ⟨W1.heap.size, 3, none⟩ = some (I pd)) ∧ W.cell? ⟨g3, (i + q) * 9, none⟩ = some (I ta) ∧ W.cell? ⟨g3, (i + q) * 9 + 1, none⟩ = some (I tb) ∧ W.cell? ⟨g3, (i + q) * 9 + 2, none⟩ = some (I tc) ∧ W.cell? ⟨g3, (i + q) * 9 + 3, none⟩ = some (I td)) (by kernel_rfl) hS (fun hH => ?_)
                      clear hS
                      refine wpAnyL_take (i := 0) (v := ?_) rfl (by kernel_rfl) (by kernel_rfl) (by kernel_rfl) (by kernel_rfl) (by kernel_rfl) (fun _ _ _ h => h) (Or.inl ⟨by rfl, ?_⟩) hH ?_
                      rotate_left
                      · intro W hSW
                        obtain ⟨⟨z0, z1, z2, z3⟩, y0, y1, y2, y3⟩ := hSW
                        go_simp
                        try with_reducible rfl
                      try go_simp
                      refine wpAnyL_take (i := 1) (v := ?_) rfl (by kernel_rfl) (by kernel_rfl) (by kernel_rfl) (by kernel_rfl) (by kernel_rfl) (fun _ _ _ h => h) (Or.inl ⟨by rfl, ?_⟩) hH ?_
                      rotate_left
                      · intro W hSW
                        obtain ⟨⟨z0, z1, z2, z3⟩, y0, y1, y2, y3⟩ := hSW
                        go_simp
                        try with_reducible rfl
                      try go_simp
                      refine wpAnyL_take (i := 2) (v := ?_) rfl (by kernel_rfl) (by kernel_rfl) (by kernel_rfl) (by kernel_rfl) (by kernel_rfl) (fun _ _ _ h => h) (Or.inl ⟨by rfl, ?_⟩) hH ?_
                      rotate_left
                      · intro W hSW
                        obtain ⟨⟨z0, z1, z2, z3⟩, y0, y1, y2, y3⟩ := hSW
                        go_simp
                        try with_reducible rfl
                      try go_simp
                      refine wpAnyL_take (i := 3) (v := ?_) rfl (by kernel_rfl) (by kernel_rfl) (by kernel_rfl) (by kernel_rfl) (by kernel_rfl) (fun _ _ _ h => h) (Or.inl ⟨by rfl, ?_⟩) hH ?_
                      rotate_left
                      · intro W hSW
                        obtain ⟨⟨z0, z1, z2, z3⟩, y0, y1, y2, y3⟩ := hSW
                        go_simp
                        try with_reducible rfl
                      try go_simp
                      refine wpAnyL_take (i := 4) (v := ?_) rfl (by kernel_rfl) (by kernel_rfl) (by kernel_rfl) (by kernel_rfl) (by kernel_rfl) (fun _ _ _ h => h) (Or.inl ⟨by rfl, ?_⟩) hH ?_
                      rotate_left
                      · intro W hSW
                        obtain ⟨⟨z0, z1, z2, z3⟩, y0, y1, y2, y3⟩ := hSW
                        go_simp
                        try with_reducible rfl
                      try go_simp
                      refine wpAnyL_take (i := 5) (v := ?_) rfl (by kernel_rfl) (by kernel_rfl) (by kernel_rfl) (by kernel_rfl) (by kernel_rfl) (fun _ _ _ h => h) (Or.inl ⟨by rfl, ?_⟩) hH ?_
                      rotate_left
                      · intro W hSW
                        obtain ⟨⟨z0, z1, z2, z3⟩, y0, y1, y2, y3⟩ := hSW
                        go_simp
                        try with_reducible rfl
                      try go_simp
                      refine wpAnyL_take (i := 6) (v := ?_) rfl (by kernel_rfl) (by kernel_rfl) (by kernel_rfl) (by kernel_rfl) (by kernel_rfl) (fun _ _ _ h => h) (Or.inl ⟨by rfl, ?_⟩) hH ?_
                      rotate_left
                      · intro W hSW
                        obtain ⟨⟨z0, z1, z2, z3⟩, y0, y1, y2, y3⟩ := hSW
                        go_simp
                        try with_reducible rfl
                      try go_simp
                      refine wpAnyL_one (i := 7) (by kernel_rfl) rfl (fun K hK => ?_)
                      go_simp
                      refine (HJN.out _).mono ?_
                      rintro _ w4 ⟨rfl, hb4⟩
                      have hb34 : Below w3.heap.size w3 w4 := (show Below w3.heap.size w3 w3.drew from (Below.refl _ _).drew).trans hb4
                      have r4 := (hb34.block W1.heap.size hsc).trans HR3.out
                      have p4 := HP3.out.below hb34 (show g3 < w3.heap.size by omega)
                      have b4 := HB3.out.trans (hb34.mono (Nat.le_of_lt hsc))
                      obtain ⟨n0, n1, n2, n3, nf⟩ := cells4 r4
                      dsimp only at n0 n1 n2 n3
                      have HR4 := hide r4
                      have HP4 := hide p4
                      have HB4 := hide b4
                      refine hK.out _ _ (fun _ => ⟨⟨n0, n1, n2, n3⟩, p4.c0, p4.c1, p4.c2, p4.c3⟩) ?_
                      clear hK K hb4 hb34 r4 p4 b4 hH HR3 HP3 HB3 HJN
                      try go_simp
                      refine wpAnyL_take (i := 8) (v := ?_) rfl (by kernel_rfl) (by kernel_rfl) (by kernel_rfl) (by kernel_rfl) (by kernel_rfl) (fun _ _ _ h => h) (Or.inl ⟨by rfl, ?_⟩) ⟨⟨n0, n1, n2, n3⟩, HP4.out.c0, HP4.out.c1, HP4.out.c2, HP4.out.c3⟩ ?_
                      rotate_left
                      · intro W hSW
                        obtain ⟨⟨z0, z1, z2, z3⟩, y0, y1, y2, y3⟩ := hSW
                        go_simp
                        try with_reducible rfl
                      try go_simp
                      refine wpAnyL_one (i := 9) (by kernel_rfl) rfl (fun K hK => ?_)
                      go_simp
                      refine hK.out _ _ (fun h => absurd rfl h) ?_
                      clear hK K
                      refine wpAnyL_done (by kernel_rfl) ?_ _
                      go_wp2_with fail
                      go_meet
                      refine ⟨part_set4 _ _ _ _ HR4.out, ?_, set4_below _ _ _ _ HB4.out (Nat.le_refl _)⟩
                      have hne : ∀ x, (((((w4.setCell ⟨W1.heap.size, 0, none⟩ (I ja)).setCell ⟨W1.heap.size, 1, none⟩ (I jb)).setCell ⟨W1.heap.size, 2, none⟩ (I jc)).setCell ⟨W1.heap.size, 3, none⟩ (I jd))).cell? ⟨g3, x, none⟩ = w4.cell? ⟨g3, x, none⟩ := fun x => World.cell?_of_block (a := ⟨g3, x, none⟩) (set4_other _ _ _ _ hgne)
                      have p := HP4.out
                      exact ⟨(hne _).trans p.c0, (hne _).trans p.c1, (hne _).trans p.c2, (hne _).trans p.c3, (hne _).trans p.c4, (hne _).trans p.c5⟩
                    case rest =>
                      clear r3 b3 p3 HR3 HB3 HP3 hsc HJN
                      obtain ⟨r5, p5, b5⟩ := hcut
                      have hsc : W1.heap.size < wc.heap.size := (Array.getElem?_eq_some_iff.1 r5).1
                      have HR5 := hide r5
                      have HB5 := hide b5
                      have HP5 := hide p5
                      have HTX := hide (fun W => text_ref ⟨ta, tb, tc, td⟩ W)
                      obtain ⟨bx, hbx⟩ : ∃ bx, Ward.boxText ⟨ta, tb, tc, td⟩ = bx := ⟨_, rfl⟩
                      have HBL := hide (show bx.length = 16 by rw [← hbx]; rfl)
                      rw [hbx] at HTX HHD
                      clear hbx
                      obtain ⟨s0, s1, s2, s3, s4, s5⟩ := p5
                      dsimp only at s0 s1 s2 s3
                      generalize wc = w3 at *
                      go_upto_region 25 with (go_at_call 136; refine (HTX.out _).mono ?_; rintro _ w6 ⟨rfl, hb6⟩)
                      have hs6 : w3.heap.size ≤ w6.heap.size := hb6.size
                      have HR6 := hide ((hb6.block W1.heap.size hsc).trans HR5.out)
                      have HP6 := hide (HP5.out.below hb6 (show g3 < w3.heap.size by omega))
                      have HB6 := hide (HB5.out.trans (hb6.mono (Nat.le_of_lt hsc)))
                      have HM6 := hide (show RMap w6 r (.slice a K.length c) K from HM.out.below (HB.out.trans ((HB0.out.mono hls).trans ((HB6.out.mono (show w.heap.size ≤ W1.heap.size by omega))))))
                      clear s0 s1 s2 s3 s4 s5 r5 b5 hb6 HR5 HP5 HB5 HTX
                      obtain ⟨DV, hDV⟩ : ∃ DV, (Sha.sha tt).map Y = DV := ⟨_, rfl⟩
                      have HDL := hide (show DV.length = 32 by rw [← hDV, List.length_map]; rfl)
                      have HDG := hide (fun W => digest_ref constV.toArray ⟨tt.toArray⟩ DV W (by rw [show (⟨tt.toArray⟩ : ByteArray).data.toList = tt from rfl]; exact hDV) (by have := HSM.out.2.2.2; show tt.toArray.size ≤ _; simp; omega) (by rw [List.size_toArray]; exact constV_len) constV_at (fun j v hv => by
                        rw [List.getElem?_toArray]
                        unfold constV
                        rw [List.map_append, List.getElem?_append_left (by have := (List.getElem?_eq_some_iff.1 hv).1; exact this)]
                        exact hv))
                      have HDY := hide (show DV = (Sha.sha tt).map Y from hDV.symm)
                      clear hDV
                      have hRC : w6.rangeAt r 1 constV := fun k v hv => by
                        rw [cell_of_row _ _ _ _ _ _ HM6.out.row, List.getElem?_toArray, Nat.add_comm 1 k, List.getElem?_cons_succ]
                        exact hv
                      have hs1 : W1.heap.size < w6.heap.size := by omega
                      go_cut [14] from 113 to 122 (fun v14 wx => ∃ gd, v14 = .pointer (some ⟨gd, 0, none⟩) ∧ w6.heap.size ≤ gd ∧ gd < wx.heap.size ∧ wx.rangeAt gd 0 DV ∧ Below w6.heap.size w6 wx)
                      case first =>
                        have hxi : (0 : Int) ≤ (i : Int) + (q : Int) := by omega
                        have hxj : (i : Int) + (q : Int) < (ls.length : Int) := by omega
                        have hxn : ((i : Int) + (q : Int)).toNat = i + q := by omega
                        have hS : w6.drew.rangeAt r 1 constV ∧ w6.drew.cell? ⟨g3, (i + q) * 9 + 5, none⟩ = some (Sv tt) := ⟨fun k v hv => hRC k v hv, by simpa using HP6.out.c5⟩
                        have hIC : (Tryz.prog.info? 67).map (·.size) = some constV.length := by rw [constV_len]; exact Tryz.infoConst
                        refine wp_region_L 11 (fun W => W.rangeAt r 1 constV ∧ W.cell? ⟨g3, (i + q) * 9 + 5, none⟩ = some (Sv tt)) (by kernel_rfl) hS (fun hH => ?_)
                        clear hS hRC
                        refine wpAnyL_take (i := 0) (v := ?_) rfl (by kernel_rfl) (by kernel_rfl) (by kernel_rfl) (by kernel_rfl) (by kernel_rfl) (fun _ _ _ h => h) (Or.inl ⟨by rfl, ?_⟩) hH ?_
                        rotate_left
                        · intro W hSW
                          obtain ⟨zc, zt⟩ := hSW
                          go_simp
                          try with_reducible rfl
                        try go_simp
                        refine wpAnyL_take (i := 1) (v := ?_) rfl (by kernel_rfl) (by kernel_rfl) (by kernel_rfl) (by kernel_rfl) (by kernel_rfl) (fun _ _ _ h => h) (Or.inl ⟨by rfl, ?_⟩) hH ?_
                        rotate_left
                        · intro W hSW
                          obtain ⟨zc, zt⟩ := hSW
                          go_simp
                          try with_reducible rfl
                        try go_simp
                        refine wpAnyL_take (i := 2) (v := ?_) rfl (by kernel_rfl) (by kernel_rfl) (by kernel_rfl) (by kernel_rfl) (by kernel_rfl) (fun _ _ _ h => h) (Or.inl ⟨by rfl, ?_⟩) hH ?_
                        rotate_left
                        · intro W hSW
                          obtain ⟨zc, zt⟩ := hSW
                          go_simp
                          try with_reducible rfl
                        try go_simp
                        refine wpAnyL_take (i := 3) (v := .agg constV.toArray) rfl (by kernel_rfl) (by kernel_rfl) (by kernel_rfl) (by kernel_rfl) (by kernel_rfl) (fun _ _ _ h => h) (yieldsIf_load_mid (by rfl) _ _ rfl r 1 rfl constV _ (fun W hW => hW.1) Tryz.underlying67 rfl hIC) hH ?_
                        generalize constV.toArray = CA at *
                        try go_simp
                        refine wpAnyL_take (i := 4) (v := ?_) rfl (by kernel_rfl) (by kernel_rfl) (by kernel_rfl) (by kernel_rfl) (by kernel_rfl) (fun _ _ _ h => h) (Or.inl ⟨by rfl, ?_⟩) hH ?_
                        rotate_left
                        · intro W hSW
                          obtain ⟨zc, zt⟩ := hSW
                          go_simp
                          try with_reducible rfl
                        try go_simp
                        refine wpAnyL_take (i := 5) (v := ?_) rfl (by kernel_rfl) (by kernel_rfl) (by kernel_rfl) (by kernel_rfl) (by kernel_rfl) (fun _ _ _ h => h) (Or.inl ⟨by rfl, ?_⟩) hH ?_
                        rotate_left
                        · intro W hSW
                          obtain ⟨zc, zt⟩ := hSW
                          go_simp
                          try with_reducible rfl
                        try go_simp
                        refine wpAnyL_take (i := 6) (v := ?_) rfl (by kernel_rfl) (by kernel_rfl) (by kernel_rfl) (by kernel_rfl) (by kernel_rfl) (fun _ _ _ h => h) (Or.inl ⟨by rfl, ?_⟩) hH ?_
                        rotate_left
                        · intro W hSW
                          obtain ⟨zc, zt⟩ := hSW
                          go_simp
                          try with_reducible rfl
                        try go_simp
                        refine wpAnyL_take (i := 7) (v := ?_) rfl (by kernel_rfl) (by kernel_rfl) (by kernel_rfl) (by kernel_rfl) (by kernel_rfl) (fun _ _ _ h => h) (Or.inl ⟨by rfl, ?_⟩) hH ?_
                        rotate_left
                        · intro W hSW
                          obtain ⟨zc, zt⟩ := hSW
                          go_simp
                          try with_reducible rfl
                        try go_simp
                        refine wpAnyL_take (i := 8) (v := ?_) rfl (by kernel_rfl) (by kernel_rfl) (by kernel_rfl) (by kernel_rfl) (by kernel_rfl) (fun _ _ _ h => h) (Or.inl ⟨by rfl, ?_⟩) hH ?_
                        rotate_left
                        · intro W hSW
                          obtain ⟨zc, zt⟩ := hSW
                          go_simp
                          try with_reducible rfl
                        try go_simp
                        have hD32 : DV.toArray.size = 32 := by rw [List.size_toArray, HDL.out]
                        have hD1 : DV.toArray.all (·.oneCell') = true := by
                          rw [List.all_toArray, List.all_eq_true]
                          intro v hv
                          rw [HDY.out] at hv
                          obtain ⟨x, _, rfl⟩ := List.mem_map.1 hv
                          rfl
                        have HCA := hide (fun (W W' : World) (hb : Below W.heap.size W W') (hr : r < W.heap.size) (hg : g3 < W.heap.size) (h : W.rangeAt r 1 constV ∧ W.cell? ⟨g3, (i + q) * 9 + 5, none⟩ = some (Sv tt)) => show W'.rangeAt r 1 constV ∧ W'.cell? ⟨g3, (i + q) * 9 + 5, none⟩ = some (Sv tt) from ⟨fun k v hv => (hb.cell (p := ⟨r, 1 + k, none⟩) hr).trans (h.1 k v hv), (hb.cell (p := ⟨g3, (i + q) * 9 + 5, none⟩) hg).trans h.2⟩)
                        have hr6 : r < w6.drew.heap.size := HM6.out.lt
                        have hg6 : g3 < w6.drew.heap.size := by show g3 < w6.heap.size; omega
                        refine wpAnyL_two (i := 9) (j := 10) (by kernel_rfl) rfl rfl (fun K hK => ?_) (fun K hK => ?_)
                        · go_simp
                          refine (HDG.out _).mono ?_
                          rintro _ w7 ⟨rfl, hb7⟩
                          have hb67 : Below w6.heap.size w6 w7 := (show Below w6.heap.size w6 w6.drew from (Below.refl _ _).drew).trans hb7
                          have hs7 : w6.heap.size ≤ w7.heap.size := hb67.size
                          have hH7 := HCA.out _ _ hb7 hr6 hg6 hH
                          refine hK.out _ _ (fun _ => hH7) ?_
                          clear hK K
                          try go_simp
                          refine wpAnyL_one (i := 10) (by kernel_rfl) rfl (fun K hK => ?_)
                          go_simp
                          have hn8 := heap_alloc_new w7
                          have hb8 := fun o => (Below.refl w7.heap.size w7).alloc (Nat.le_refl _) o
                          generalize hW : World.alloc w7 _ = w8
                          obtain ⟨zz, hz32, hz8⟩ : ∃ zz : Array Value, zz.size = 32 ∧ w8.heap[w7.heap.size]? = some (.cells zz 39 (0, 0)) := by rw [← hW]; exact ⟨_, rfl, hn8 _⟩
                          have hb78 : Below w7.heap.size w7 w8 := by rw [← hW]; exact hb8 _
                          clear hW hn8 hb8
                          refine hK.out _ _ (fun _ => HCA.out _ _ hb78 (by have : r < w6.heap.size := hr6; omega) (by omega) hH7) ?_
                          clear hK K
                          try go_simp
                          refine wpAnyL_one (i := 11) (by kernel_rfl) rfl (fun K hK => ?_)
                          rw [if_pos (by rfl)]
                          refine wp_store_mid _ _ _ rfl w7.heap.size 0 DV.toArray rfl rfl (by rw [hD32]; exact there_of_row hz8 hz32) (by rw [hD32]; exact Tryz.info22) hD1 ?_
                          refine hK.out _ _ (fun h => absurd rfl h) ?_
                          clear hK K
                          refine wpAnyL_done (by kernel_rfl) ?_ _
                          go_wp2_with fail
                          go_meet
                          have hs8 : w7.heap.size < w8.heap.size := (Array.getElem?_eq_some_iff.1 hz8).1
                          refine ⟨w7.heap.size, rfl, hs7, ?_, ?_, below_setCellsN hs7 _ _ _ (hb67.trans (hb78.mono hs7))⟩
                          · exact Nat.lt_of_lt_of_le hs8 (below_setCellsN (Nat.le_refl _) _ _ _ (Below.refl w7.heap.size w8)).size
                          · exact World.rangeAt_setCells_same _ _ _ _ (by rw [HDL.out]; exact there_of_row hz8 hz32)
                        · go_simp
                          have hn8 := heap_alloc_new w6
                          have hb8 := fun o => ((Below.refl w6.heap.size w6).alloc (Nat.le_refl _) o).drew
                          have hH6 : w6.rangeAt r 1 constV ∧ w6.cell? ⟨g3, (i + q) * 9 + 5, none⟩ = some (Sv tt) := ⟨fun k v hv => by simpa using hH.1 k v hv, by simpa using hH.2⟩
                          generalize hW : World.drew (World.alloc w6 _) = w7
                          obtain ⟨zz, hz32, hz7⟩ : ∃ zz : Array Value, zz.size = 32 ∧ w7.heap[w6.heap.size]? = some (.cells zz 39 (0, 0)) := by rw [← hW]; exact ⟨_, rfl, hn8 _⟩
                          have hb67 : Below w6.heap.size w6 w7 := by rw [← hW]; exact hb8 _
                          clear hW hn8 hb8
                          have hs7 : w6.heap.size < w7.heap.size := (Array.getElem?_eq_some_iff.1 hz7).1
                          have hH7 := HCA.out _ _ hb67 hr6 hg6 hH6
                          refine hK.out _ _ (fun _ => hH7) ?_
                          clear hK K
                          try go_simp
                          refine wpAnyL_one (i := 9) (by kernel_rfl) rfl (fun K hK => ?_)
                          go_simp
                          refine (HDG.out _).mono ?_
                          rintro _ w8 ⟨rfl, hb8⟩
                          have hz8 := (hb8.block w6.heap.size hs7).trans hz7
                          refine hK.out _ _ (fun _ => HCA.out _ _ hb8 (by have : r < w6.heap.size := hr6; omega) (by omega) hH7) ?_
                          clear hK K
                          try go_simp
                          refine wpAnyL_one (i := 11) (by kernel_rfl) rfl (fun K hK => ?_)
                          rw [if_pos (by rfl)]
                          refine wp_store_mid _ _ _ rfl w6.heap.size 0 DV.toArray rfl rfl (by rw [hD32]; exact there_of_row hz8 hz32) (by rw [hD32]; exact Tryz.info22) hD1 ?_
                          refine hK.out _ _ (fun h => absurd rfl h) ?_
                          clear hK K
                          refine wpAnyL_done (by kernel_rfl) ?_ _
                          go_wp2_with fail
                          go_meet
                          have hs8 : w6.heap.size < w8.heap.size := (Array.getElem?_eq_some_iff.1 hz8).1
                          refine ⟨w6.heap.size, rfl, Nat.le_refl _, ?_, ?_, below_setCellsN (Nat.le_refl _) _ _ _ (hb67.trans (hb8.mono (Nat.le_of_lt hs7)))⟩
                          · exact Nat.lt_of_lt_of_le hs8 (below_setCellsN (Nat.le_refl _) _ _ _ (Below.refl w6.heap.size w8)).size
                          · exact World.rangeAt_setCells_same _ _ _ _ (by rw [HDL.out]; exact there_of_row hz8 hz32)
                      case rest =>
                        obtain ⟨gd, rfl, hgd, hgd2, hrd, hb7⟩ := hcut
                        have HR7 := hide ((hb7.block W1.heap.size hs1).trans HR6.out)
                        have HP7 := hide (HP6.out.below hb7 (show g3 < w6.heap.size by omega))
                        have HB7 := hide (HB6.out.trans (hb7.mono (Nat.le_of_lt hs1)))
                        have hs7 : w6.heap.size ≤ wc.heap.size := hb7.size
                        rw [HDY.out] at hrd
                        have HSG := hide (fun W => signed_ref (ct : Nat) W)
                        obtain ⟨fc, hfc⟩ : ∃ fc, Ward.fourI (ct : Nat) = fc := ⟨_, rfl⟩
                        have hfl : fc.length = 4 := by rw [← hfc]; rfl
                        rw [hfc] at HSG HHD
                        clear hfc
                        have hconv := conv_bytes gd 32 32 (Sha.sha tt) rfl
                        have hdl : (Sha.sha tt).length = 32 := rfl
                        generalize Sha.sha tt = dd at *
                        have hbl := HBL.out
                        have htl := HSM.out.2.2.1
                        have ha1 := add_str tq bx (by omega)
                        have ha2 := add_str (tq ++ bx) fc (by rw [List.length_append]; omega)
                        have ha3 := add_str (tq ++ bx ++ fc) dd (by rw [List.length_append, List.length_append]; omega)
                        have HTE := hide (show tq ++ bx ++ fc ++ dd = txtQ n G (q + 1) by rw [HNB.out.2.2, HHD.out]; simp only [List.append_assoc])
                        generalize tq ++ bx ++ fc ++ dd = t3 at *
                        generalize tq ++ bx ++ fc = t2 at *
                        generalize tq ++ bx = t1 at *
                        have s4 := HP7.out.c4
                        clear hfl hdl hbl htl HDG HDL HDY HR6 HP6 HB6 HM6 hb7 hRC
                        generalize wc = w7 at *
                        go_upto_region 26 with fail
                        have hxi : (0 : Int) ≤ (i : Int) + (q : Int) := by omega
                        have hxj : (i : Int) + (q : Int) < (ls.length : Int) := by omega
                        have hxn : ((i : Int) + (q : Int)).toNat = i + q := by omega
                        have hS : w7.cell? ⟨g3, (i + q) * 9 + 4, none⟩ = some (I (ct : Nat)) ∧ w7.rangeAt gd 0 (dd.map Y) := ⟨s4, hrd⟩
                        have hSd : w7.drew.cell? ⟨g3, (i + q) * 9 + 4, none⟩ = some (I (ct : Nat)) ∧ w7.drew.rangeAt gd 0 (dd.map Y) := ⟨by simpa using s4, fun k v hv => by simpa using hrd k v hv⟩
                        have hg7 : g3 < w7.drew.heap.size := by show g3 < w7.heap.size; omega
                        have hgd7 : gd < w7.drew.heap.size := hgd2
                        go_region_held3 (fun W => W.cell? ⟨g3, (i + q) * 9 + 4, none⟩ = some (I (ct : Nat)) ∧ W.rangeAt gd 0 (dd.map Y)) (first | assumption | exact hSd | exact hS | exact hS8) ((go_at_call 137; refine (HSG.out _).mono ?_; rintro _ w8 ⟨rfl, hb8⟩; have hS8 : w8.cell? ⟨g3, (i + q) * 9 + 4, none⟩ = some (I (ct : Nat)) ∧ w8.rangeAt gd 0 (dd.map Y) := ⟨(hb8.cell (p := ⟨g3, (i + q) * 9 + 4, none⟩) hg7).trans hSd.1, range_below hb8 hgd7 hSd.2⟩; have hB8 : Below w7.heap.size w7 w8 := (show Below w7.heap.size w7 w7.drew from (Below.refl _ _).drew).trans hb8))
                        all_goals
                          have HR9 := hide ((hB8.block W1.heap.size (by omega)).trans HR7.out)
                          have HB9 := hide (HB7.out.trans (hB8.mono (show W1.heap.size ≤ w7.heap.size by omega)))
                          clear HR7 HP7 HB7 HSG ha1 ha2 ha3 hconv s4 hrd
                          go_wp2_with fail
                          go_roundw
                          case rel =>
                            refine ⟨q + 1, hqG, by go_num, by rw [HTE.out], ?_, HB9.out⟩
                            rw [HNB.out.1, HNB.out.2.1]
                            have h := HR9.out
                            rw [show ((cq : Int) + ct) = ((cq + ct : Nat) : Int) by omega, show ((q : Int) + 1) = ((q + 1 : Nat) : Int) by omega] at h
                            exact h
                          case measure => simp [intOf]; omega
                · have eq' : q = G.length := by omega
                  subst eq'
                  obtain ⟨hE1, hE2, hE3⟩ := HBX1.out
                  rw [hE1, hE2] at hrow
                  obtain ⟨m0, m1, m2, m3, mf⟩ := cells4 hrow
                  have m5 : wr.cell? ⟨W1.heap.size, 5, none⟩ = some (Sv []) := by rw [cell_of_row _ _ _ _ _ _ hrow]; rfl
                  have m7 : wr.cell? ⟨W1.heap.size, 7, none⟩ = some (I G.length) := by rw [cell_of_row _ _ _ _ _ _ hrow]; rfl
                  have hcv := conv_lead2 G.length (by omega) wr
                  have HADD := hide (show ∀ W, (Op.stringOp .add ⟨[2, UInt8.ofNat G.length].toArray⟩ ⟨(txtQ n G G.length).toArray⟩).run Tryz.prog W = .ok (Sv (Ward.text Sha.sha (n + 1) FS[j])) W from fun W => by
                    have h := add_str [2, UInt8.ofNat G.length] (txtQ n G G.length) HTL.out W
                    rw [h]
                    show Result.ok (Value.string ⟨(2 :: UInt8.ofNat G.length :: txtQ n G G.length).toArray⟩) W = _
                    rw [hE3])
                  generalize txtQ n G G.length = sT at *
                  have hadd := HADD.out
                  have HKD := hide (show partL (n + 1) FS[j] j (.slice none 0 0) = [I (Ward.box (n + 1) FS[j]).a, I (Ward.box (n + 1) FS[j]).b, I (Ward.box (n + 1) FS[j]).c, I (Ward.box (n + 1) FS[j]).d, I (Ward.count (n + 1) FS[j] : Nat), Sv (Ward.text Sha.sha (n + 1) FS[j]), I (4 * (j : Int)), I (G.length : Nat), .slice none 0 0] from by rw [← HG.out]; rfl)
                  have HKEY := hide (fun (ob : Obj) => show ((wr.setCell ⟨W1.heap.size, 5, none⟩ (Sv (Ward.text Sha.sha (n + 1) FS[j]))).alloc ob).heap[W1.heap.size]? = some (.cells (partV (Ward.box (n + 1) FS[j]) (Ward.count (n + 1) FS[j] : Nat) (Ward.text Sha.sha (n + 1) FS[j]) i (G.length : Nat) (.slice none 0 0)) 150 (0, 0)) ∧ Below W1.heap.size W1 ((wr.setCell ⟨W1.heap.size, 5, none⟩ (Sv (Ward.text Sha.sha (n + 1) FS[j]))).alloc ob) from by
                    have q4 : (wr.setCell ⟨W1.heap.size, 5, none⟩ (Sv (Ward.text Sha.sha (n + 1) FS[j]))).heap.size = wr.heap.size := by simp
                    refine ⟨?_, (hb4.setCell (Nat.le_refl _) _).alloc (by omega) _⟩
                    rw [Below.heap_alloc _ _ _ (by omega), heap_setCell_same _ _ _ _ _ _ hrow]
                    rfl)
                  generalize Ward.text Sha.sha (n + 1) FS[j] = tX at *
                  generalize Ward.box (n + 1) FS[j] = bX at *
                  generalize Ward.count (n + 1) FS[j] = cX at *
                  clear hE1 hE2 hE3 HBX1 HADD HTL HROW HB4 hrow hb4 hq hqG k0 k1 k2 k3 HGA
                  obtain ⟨xa, xb, xc, xd⟩ := bX
                  dsimp only at HKD
                  rcases hgl2 with hg4 | ⟨hg4, hg5⟩
                  · go_upto_region 28 with fail
                    generalize hW : World.alloc _ _ = w5
                    have HR5 := hide (show w5.heap[W1.heap.size]? = some (.cells #[I xa, I xb, I xc, I xd, I (cX : Nat), Sv tX, I i, I (G.length : Nat), .slice none 0 0] 150 (0, 0)) by rw [← hW]; exact (HKEY.out _).1)
                    have hb5 : Below W1.heap.size W1 w5 := by rw [← hW]; exact (HKEY.out _).2
                    have hs5 : W1.heap.size < w5.heap.size := (Array.getElem?_eq_some_iff.1 HR5.out).1
                    clear hW HKEY m0 m1 m2 m3 mf m5 m7 hcv hadd
                    obtain ⟨xs, hxs, how⟩ := HLV.out.below hb5
                    rw [hlj] at how
                    obtain ⟨v6, w6, h6, ho6, hg6, hf6⟩ := append_part [I xa, I xb, I xc, I xd, I (cX : Nat), Sv tX, I i, I (G.length : Nat), .slice none 0 0] rfl (fun u hu => Array.all_eq_true_iff_forall_mem.1 (partV_one ⟨xa, xb, xc, xd⟩ (cX : Nat) tX i (G.length : Nat) (.slice none 0 0) rfl) u (by simpa [partV] using hu)) how (by omega) (by omega)
                    have hb6 : Below W0.heap.size w5 w6 := ⟨hg6.os, hg6.tape, hg6.output, hg6.size, fun k hk => hg6.block k (by omega) (fun e => by have := (World.ownsRow.lt how k e.symm).1; omega)⟩
                    have HB6 := hide (show Below W0.heap.size W0 w6 from (HB0.out.trans (hb5.mono hs0)).trans hb6)
                    have HL6 := hide (show LevAt w6 W0.heap.size v6 (n + 1) (FS.take (j + 1)) by
                      rw [HTK.out]
                      refine levAt_push xs hxs (x := .slice none 0 0) rfl ?_
                      have hi4 : (i : Int) = 4 * (j : Int) := by have := HIJ.out; omega
                      rw [hlj, HKD.out, ← hi4]
                      exact ho6)
                    have h6' : (Builtin.append_ #[151, 151] 151 #[u8, .slice (some ⟨w5.heap.size, 0, none⟩) 1 1]).run Tryz.prog (w5.alloc (.cells #[I xa, I xb, I xc, I xd, I (cX : Nat), Sv tX, I i, I (G.length : Nat), .slice none 0 0] 150)) = .ok v6 w6 := h6
                    obtain ⟨a8, c8, e8⟩ : ∃ a c, u8 = .slice a j c := by
                      rcases how.2 with ⟨e, h⟩ | ⟨g', c', _, e, _⟩
                      · exact ⟨none, 0, by rw [e, h]⟩
                      · exact ⟨_, c', e⟩
                    subst e8
                    clear how ho6 hg6 hf6 hb6 hb5 h6 HKD HLV
                    go_wp2_with (first | (refine wpList_load_row rfl 150 (.tmp 10) rfl W1.heap.size rfl 150 #[I xa, I xb, I xc, I xd, I (cX : Nat), Sv tX, I i, I (G.length : Nat), .slice none 0 0] (0, 0) _ HR5.out Tryz.underlying150 rfl Tryz.infoPart ?_) | (at_builtin; refine Lib.wpList_append_run _ rfl (.tmp 144) (.tmp 146) 151 151 rfl _ _ rfl rfl _ _ h6' ?_))
                    go_roundw
                    case rel =>
                      exact ⟨j + 1, i + 4, by rw [HIJ.out]; omega, hjF, by go_num, HL6.out, HB6.out⟩
                    case measure => have := HIJ.out; simp [intOf]; omega
                  · go_upto_region 28 with fail
                    generalize hW : World.alloc _ _ = w5
                    have HR5 := hide (show w5.heap[W1.heap.size]? = some (.cells #[I xa, I xb, I xc, I xd, I (cX : Nat), Sv tX, I i, I (G.length : Nat), .slice none 0 0] 150 (0, 0)) by rw [← hW]; exact (HKEY.out _).1)
                    have hb5 : Below W1.heap.size W1 w5 := by rw [← hW]; exact (HKEY.out _).2
                    have hs5 : W1.heap.size < w5.heap.size := (Array.getElem?_eq_some_iff.1 HR5.out).1
                    clear hW HKEY m0 m1 m2 m3 mf m5 m7 hcv hadd
                    obtain ⟨xs, hxs, how⟩ := HLV.out.below hb5
                    rw [hlj] at how
                    obtain ⟨v6, w6, h6, ho6, hg6, hf6⟩ := append_part [I xa, I xb, I xc, I xd, I (cX : Nat), Sv tX, I i, I (G.length : Nat), .slice none 0 0] rfl (fun u hu => Array.all_eq_true_iff_forall_mem.1 (partV_one ⟨xa, xb, xc, xd⟩ (cX : Nat) tX i (G.length : Nat) (.slice none 0 0) rfl) u (by simpa [partV] using hu)) how (by omega) (by omega)
                    have hb6 : Below W0.heap.size w5 w6 := ⟨hg6.os, hg6.tape, hg6.output, hg6.size, fun k hk => hg6.block k (by omega) (fun e => by have := (World.ownsRow.lt how k e.symm).1; omega)⟩
                    have HB6 := hide (show Below W0.heap.size W0 w6 from (HB0.out.trans (hb5.mono hs0)).trans hb6)
                    have HL6 := hide (show LevAt w6 W0.heap.size v6 (n + 1) (FS.take (j + 1)) by
                      rw [HTK.out]
                      refine levAt_push xs hxs (x := .slice none 0 0) rfl ?_
                      have hi4 : (i : Int) = 4 * (j : Int) := by have := HIJ.out; omega
                      rw [hlj, HKD.out, ← hi4]
                      exact ho6)
                    have h6' : (Builtin.append_ #[151, 151] 151 #[u8, .slice (some ⟨w5.heap.size, 0, none⟩) 1 1]).run Tryz.prog (w5.alloc (.cells #[I xa, I xb, I xc, I xd, I (cX : Nat), Sv tX, I i, I (G.length : Nat), .slice none 0 0] 150)) = .ok v6 w6 := h6
                    obtain ⟨a8, c8, e8⟩ : ∃ a c, u8 = .slice a j c := by
                      rcases how.2 with ⟨e, h⟩ | ⟨g', c', _, e, _⟩
                      · exact ⟨none, 0, by rw [e, h]⟩
                      · exact ⟨_, c', e⟩
                    subst e8
                    clear how ho6 hg6 hf6 hb6 hb5 h6 HKD HLV
                    go_wp2_with (first | (refine wpList_load_row rfl 150 (.tmp 10) rfl W1.heap.size rfl 150 #[I xa, I xb, I xc, I xd, I (cX : Nat), Sv tX, I i, I (G.length : Nat), .slice none 0 0] (0, 0) _ HR5.out Tryz.underlying150 rfl Tryz.infoPart ?_) | (at_builtin; refine Lib.wpList_append_run _ rfl (.tmp 144) (.tmp 146) 151 151 rfl _ _ rfl rfl _ _ h6' ?_))
                    go_roundw
                    case rel =>
                      exact ⟨j + 1, i + 4, by rw [HIJ.out]; omega, hjF, by go_num, HL6.out, HB6.out⟩
                    case measure => have := HIJ.out; simp [intOf]; omega
            · have ej : j = FS.length := by omega
              have HL8 := hide (show LevAt wr w.heap.size u8 (n + 1) (Ward.lev K (n + 1)) by
                have h := HLV.out
                rw [ej, List.take_length] at h
                rw [HFN.out]
                exact levAt_low h hls)
              obtain ⟨hone, a8, c8, e8⟩ := HL8.out.one
              subst e8
              have HALL2 := hide (HALL.out.below hb)
              obtain ⟨vs, hv1, hv2, hv3, hv4⟩ := HALL2.out
              obtain ⟨v9, w9, h9, ho9, hg9, hf9⟩ := append_level (w := wr) (.slice a8 (Ward.lev K (n + 1)).length c8) rfl hv3 (by omega) (by omega)
              have HA9 := hide (allAt_push HALL2.out HL8.out hg9 (fun xs hxs => by
                have e : xs = (List.range (n + 1)).map vs := by
                  rcases hxs.2 with ⟨rfl, hz⟩ | ⟨g1, c1, cur1, rfl, _, hh1, _, _, _, ht1⟩
                  · omega
                  rcases hv3.2 with ⟨e, hz⟩ | ⟨g2, c2, cur2, e, _, hh2, _, _, _, ht2⟩
                  · omega
                  injection e with e1 _ _
                  injection e1 with e1
                  injection e1 with e1
                  subst e1
                  rw [hh1] at hh2
                  injection hh2 with hh2
                  injection hh2 with hh2
                  subst hh2
                  exact ht1.symm.trans ht2
                rw [e]
                exact ho9))
              obtain ⟨av, cv, ev⟩ : ∃ a c, u7 = .slice a (n + 1) c := by
                rcases hv3.2 with ⟨e, hz⟩ | ⟨g', c', _, e, _⟩
                · omega
                · exact ⟨_, c', e⟩
              subst ev
              have hb9 : Below w.heap.size wr w9 := ⟨hg9.os, hg9.tape, hg9.output, hg9.size, fun k hk => hg9.block k (by omega) (fun e => by have := (World.ownsRow.lt hv3 k e.symm).1; omega)⟩
              have HB9 := hide (show Below w.heap.size w w9 from (HB.out.trans (hb.mono hls)).trans hb9)
              have HN9 := hide (show n + 1 + (Ward.lev K (n + 1)).length ≤ 100 ∧ (Ward.lev K (n + 1)).length < ls.length by rw [HFN.out, hFL]; omega)
              obtain ⟨-, a9, c9, e9⟩ : True ∧ ∃ a c, v9 = .slice a (n + 1 + 1) c := by
                rcases ho9.2 with ⟨e, hz⟩ | ⟨g', c', _, e, _⟩
                · omega
                · exact ⟨trivial, _, c', e⟩
              subst e9
              clear hlev hb hv1 hv2 hv3 hv4 ho9 hg9 hf9 hb9 hij HLV HB0 HNOW hone
              go_wp2_with (at_builtin; refine Lib.wpList_append_run _ rfl (.tmp 149) (.tmp 151) 145 145 rfl _ _ rfl rfl _ _ h9 ?_)
              go_roundw
              case rel =>
                first | exact ⟨n + 1, HUP2.out, HN9.out.1, rfl, HA9.out, HB9.out⟩ | ((repeat apply Exists.intro); exact ⟨⟨n + 1, HUP2.out, HN9.out.1, rfl, HA9.out, HB9.out⟩, rfl⟩)
              case measure => exact HN9.out.2
        · have HE := hide (Ward.up_end hup h1)
          clear hall hb hup
          go_wp2_with fail
          go_ret
          exact ⟨_, _, n, rfl, HALL.out, HE.out, HB.out⟩
end Go.Proofs.YtenaelkbgkpllaaGreatDoor
