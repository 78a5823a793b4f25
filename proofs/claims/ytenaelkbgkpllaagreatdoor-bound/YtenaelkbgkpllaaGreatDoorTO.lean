/- The tree of points. -/
import Derived.Test.YtenaelkbgkpllaaGreatDoorTN
namespace Go.Proofs.YtenaelkbgkpllaaGreatDoor
open Go.RowKit

/-- the cells of a leaf of a group -/
def leafV (g o : Nat) (L : List Ward.Pt) (j : Nat) : List Value := nodeV (groupV 3 g o L.length j) (.slice none 0 0) (Ward.box 0 ((L.drop (4 * j)).take 4)) (((L.drop (4 * j)).take 4).length : Nat) ((Sha.sha (Ward.leafText ((L.drop (4 * j)).take 4))).map Y)
theorem leafV_row (g o : Nat) (L : List Ward.Pt) (j : Nat) : Row39 (leafV g o L j) := nodeV_row (sha_len _)
theorem group_pts {w : World} {S : Nat → Prop} {g o : Nat} {L : List Ward.Pt} (hB : S g) (h : ∀ i (h : i < L.length), PtAt w g (o + i * 3) L[i]) (j : Nat) :
    ReadsS w S (groupV 3 g o L.length j) ((L.drop (4 * j)).take 4) := by
  have hl : ((L.drop (4 * j)).take 4).length = min 4 (L.length - 4 * j) := by simp
  refine ⟨some ⟨g, o + 4 * j * 3, none⟩, min 4 (L.length - 4 * j), by rw [hl]; rfl, fun _ => ⟨g, o + 4 * j * 3, rfl, hB, fun i hi => ?_⟩⟩
  rw [hl] at hi
  have hr := h (4 * j + i) (by omega)
  rw [List.getElem_take, List.getElem_drop, show o + 4 * j * 3 + i * 3 = o + (4 * j + i) * 3 by omega]
  exact hr
theorem leaf_is {w : World} {S : Nat → Prop} {g o : Nat} {L : List Ward.Pt} (hB : S g) (h : ∀ i (h : i < L.length), PtAt w g (o + i * 3) L[i]) (j : Nat) (hj : j < ((Ward.fours L).map (Ward.mk Sha.sha 0)).length) :
    NodeIs w S 1 ((Ward.fours L).map (Ward.mk Sha.sha 0))[j] (leafV g o L j) := by
  rw [List.getElem_map, Ward.fours_get]
  exact ⟨groupV 3 g o L.length j, .slice none 0 0, rfl, sha_len _, group_pts hB h j, ⟨none, 0, rfl, fun e => absurd rfl e⟩⟩
theorem up_level (n : Nat) (ls : List (Ward.T n)) : (Ward.fours (ls.map (Ward.mk Sha.sha n))).map (Ward.upN (n + 1)) = (Ward.fours ls).map (Ward.mk Sha.sha (n + 1)) := by
  rw [Ward.fours_map, List.map_map]
  exact List.map_congr_left fun G _ => Ward.up_mk n G
theorem Level.mono {w : World} {S S' : Nat → Prop} {v : Value} {n : Nat} {K : List (Ward.NT n)} (h : Level w S v n K) (hS : ∀ g, S g → S' g) : Level w S' v n K :=
  ⟨h.1.keep (fun _ _ => rfl) hS (NodeIs.keep (fun _ _ => rfl) hS n), h.2⟩
/-- what Build leaves -/
def Built (w : World) (L : List Ward.Pt) (e : Ending) (w' : World) : Prop :=
  ∃ V, e = .returned (.agg V.toArray) ∧ NodeIs w' (fun g => g < w'.heap.size) ((Ward.tree L).1 + 1) (Ward.mk Sha.sha (Ward.tree L).1 (Ward.tree L).2) V ∧ Below w.heap.size w w'
theorem count_le {n : Nat} {ls : List (Ward.T n)} {L : List Ward.Pt} (h : Ward.ptsL n ls = L) : ∀ t ∈ ls.map (Ward.mk Sha.sha n), 0 ≤ Ward.numN (n + 1) t ∧ Ward.numN (n + 1) t ≤ L.length := by
  intro t ht
  obtain ⟨u, hu, rfl⟩ := List.mem_map.1 ht
  rw [Ward.mk_num, Ward.count_pts]
  have h1 : (Ward.pts n u).length ≤ L.length := by
    rw [← h]
    unfold Ward.ptsL
    have := List.sublist_flatten_of_mem (List.mem_map_of_mem (f := Ward.pts n) hu)
    rw [← List.flatMap_def] at this
    exact this.length_le
  omega
set_option maxRecDepth 100000 in
set_option maxHeartbeats 4000000 in
theorem build_any (v : Value) (L : List Ward.Pt) (w : World) (hL : L.length ≤ 150) (hcap : ∃ a c, v = .slice a L.length c ∧ L.length ≤ c ∧ c ≤ maxLen) (hp : ReadsS w (fun g => g < w.heap.size) v L) (hKT : KT w) :
    Calls Tryz.prog 38 #[v] w fun e w' => Built w L e w' := by
  obtain ⟨a, c, rfl, hc1, hc2⟩ := hcap
  obtain ⟨a', c', e', hrd⟩ := hp
  injection e' with e1 e2 e3
  subst e1 e3
  clear e2
  have HRD := hide hrd
  have HK := hide hKT
  clear hrd hKT
  obtain ⟨fs, hu⟩ := underNode
  have HU := hide hu
  clear hu
  obtain ⟨i0, hi0, hz0, hz1, hz2⟩ := info_parts Tryz.infoNodeZ
  have HZ1 := hide hz1
  have HSZ := hide (show (nodeV (.slice none 0 0) (.slice none 0 0) ⟨0, 0, 0, 0⟩ 0 zero32).toArray.size = 39 from nodeV_size (by rfl))
  clear hz1
  go_enter Tryz.func38, Tryz.ntmps38
  go_upto_region 1 with fail
  have hb0' := fun o => (Below.refl w.heap.size w).alloc (Nat.le_refl _) o
  have hr0' := heap_alloc_new w
  have hs0' := fun o => show (w.alloc o).heap.size = w.heap.size + 1 by simp
  generalize hW : World.alloc w _ = w0
  have hb0 : Below w.heap.size w w0 := by rw [← hW]; exact hb0' _
  have hr0 : w0.heap[w.heap.size]? = some (.cells (nodeV (.slice none 0 0) (.slice none 0 0) ⟨0, 0, 0, 0⟩ 0 zero32).toArray 90 (0, 0)) := by rw [← hW]; exact hr0' _
  have hs0 : w0.heap.size = w.heap.size + 1 := by rw [← hW]; exact hs0' _
  clear hb0' hr0' hs0' hW
  have HB0 := hide hb0
  have HR0 := hide hr0
  have HS0 := hide hs0
  clear hb0 hr0 hs0
  by_cases hne : L = []
  · obtain ⟨E, hE⟩ : ∃ E : List Ward.Pt, E = [] := ⟨[], rfl⟩
    have HT := hide (show Ward.tree L = ⟨0, E⟩ by rw [hE, hne]; rfl)
    have HLF := hide (fun W hK => leafOf_any (.slice none 0 0) E W (by rw [hE]; simp) ⟨none, 0, by rw [hE]; rfl, fun e => absurd hE e⟩ hK)
    have HR := hide (show Row39 (nodeV (.slice none 0 0) (.slice none 0 0) (Ward.box 0 E) ((E.length : Nat) : Int) ((Sha.sha (Ward.leafText E)).map Y)) from nodeV_row (sha_len _))
    have HN := hide (show ∀ W S, NodeIs W S 1 (Ward.mk Sha.sha 0 E) (nodeV (.slice none 0 0) (.slice none 0 0) (Ward.box 0 E) ((E.length : Nat) : Int) ((Sha.sha (Ward.leafText E)).map Y)) from fun W S => ⟨.slice none 0 0, .slice none 0 0, rfl, sha_len _, ⟨none, 0, by rw [show Ward.Nd.pts (Ward.mk Sha.sha 0 E) = E from rfl, hE]; rfl, fun e => absurd hE e⟩, ⟨none, 0, rfl, fun e => absurd rfl e⟩⟩)
    generalize nodeV (.slice none 0 0) (.slice none 0 0) (Ward.box 0 E) ((E.length : Nat) : Int) ((Sha.sha (Ward.leafText E)).map Y) = M at *
    have h0 : L.length = 0 := by rw [hne]; rfl
    clear hne hE
    rw [h0]
    go_wp2_with fail
    refine (HLF.out _ (HK.out.below HB0.out)).mono ?_
    rintro _ w1 ⟨rfl, hb1⟩
    have hr1 := (hb1.block w.heap.size (by have := HS0.out; omega)).trans HR0.out
    have HB1 := hide hb1
    have HR1 := hide hr1
    have HSE := hide (show (nodeV (.slice none 0 0) (.slice none 0 0) ⟨0, 0, 0, 0⟩ 0 zero32).toArray.size = M.toArray.size by rw [HSZ.out, HR.out.size])
    clear hb1 hr1
    go_wp2_with (refine wpList_store_row rfl 90 (.tmp 2) (.tmp 9) rfl w.heap.size M.toArray rfl rfl 90 _ HR1.out HR.out.info HSE.out HR.out.one ?_)
    refine bodyPost_ret (v := .agg M.toArray) ?_ rfl ⟨M, rfl, by rw [HT.out]; exact HN.out _ _, below_setRow (HB0.out.trans (HB1.out.mono HB0.out.size)) (Nat.le_refl _) _⟩
    exact results_cell_row rfl _ _ w.heap.size 90 M.toArray (0, 0) (.struct fs) rfl (setRow_heap _ _ _ _ _ _ HR1.out) HU.out rfl HR.out.info
  · obtain ⟨g, o, rfl, hgB, hpts⟩ := HRD.out hne
    have HPT := hide hpts
    have hp0 : 0 < L.length := List.length_pos_iff.2 hne
    have hp1 : ¬ (L.length : Int) = 0 := by omega
    clear hpts
    go_wp2_with fail
    refine (foursPt_any g o L.length c w0 (by omega) hc1 hc2).mono ?_
    rintro _ w1 ⟨v7, rfl, ho7, hb1⟩
    obtain ⟨gg, cg, rfl, hgg, hggl⟩ := ho7.form (by omega)
    have HO7 := hide ho7
    have HB1 := hide hb1
    have HM := hide (show (L.length + 3) / 4 ≤ 1000 ∧ 0 < (L.length + 3) / 4 by omega)
    have HML := hide (show ∀ j, j < (L.length + 3) / 4 → 4 * j < L.length from fun j hj => by omega)
    clear ho7 hb1 hp1
    generalize hmm : (L.length + 3) / 4 = m at *
    have HMM := hide hmm
    clear hmm
    go_wp2_with fail
    go_loopg [3, 13] m (fun gk v3 v13 wq => ∃ i : Nat, gk = m - i ∧ v13 = I i ∧ i ≤ m ∧ wq.ownsRow w1.heap.size 90 39 v3 i ((List.range i).flatMap (leafV g o L)) ∧ Below w1.heap.size w1 wq)
    case atStart => exact ⟨0, by omega, rfl, by omega, World.ownsRow_nil _ _ _ _, Below.refl _ _⟩
    case round =>
      obtain ⟨i, hgk, rfl, hi, ho, hb⟩ := hrel
      have HGK := hide hgk
      have HO := hide ho
      have HB := hide hb
      have hs := hb.size
      clear hgk ho hb
      have HBW := hide (HB0.out.trans ((HB1.out.mono HB0.out.size).trans (HB.out.mono (Nat.le_trans HB0.out.size HB1.out.size))))
      by_cases hlt : i < m
      · have hm1 := HM.out.1
        have hci : wr.cell? ⟨gg, i, none⟩ = some (groupV 3 g o L.length i) := by
          refine (HB.out.cell (p := ⟨gg, i, none⟩) hggl).trans ?_
          rw [HO7.out.cellAt i (by omega)]
          simp [groupsV, hlt]
        have hG4 : ((L.drop (4 * i)).take 4).length ≤ 4 := by simp; omega
        have hGR := group_pts (w := wr) (S := fun g => g < wr.heap.size) (o := o) (L := L) (g := g) (by have := HBW.out.size; show g < wr.heap.size; omega) (fun j hj => (HPT.out j hj).below HBW.out hgB) i
        have HN := hide (leafOf_any (groupV 3 g o L.length i) ((L.drop (4 * i)).take 4) wr hG4 (hGR.low (fun _ h => h)) (HK.out.below HBW.out))
        have HN := hide (show Calls Tryz.prog 70 #[groupV 3 g o L.length i] wr fun e w' => e = .returned (.agg (leafV g o L i).toArray) ∧ Below wr.heap.size wr w' from HN.out)
        have HR := hide (leafV_row g o L i)
        have HST := hide (range_flat_step (leafV g o L) i)
        generalize groupV 3 g o L.length i = gv at *
        generalize leafV g o L i = M at *
        clear hGR hG4
        go_wp2_with fail
        refine HN.out.mono ?_
        rintro _ w2 ⟨rfl, hb2⟩
        have hs2 := hb2.size
        obtain ⟨v3, w3, h3, ho3, hg3, hf3⟩ := append_node (w := w2) M HR.out (ownsRow_below HO.out hb2) (by omega) (by have := HM.out; omega)
        have HO3 := hide (show w3.ownsRow w1.heap.size 90 39 v3 (i + 1) ((List.range (i + 1)).flatMap (leafV g o L)) by rw [HST.out]; exact ho3)
        have HB3 := hide ((HB.out.trans (hb2.mono hs)).grown hg3 (by omega) (fun k hk => (HO.out.lt k hk).1))
        have HF := hide (fun (cells : Array Value) (hc : cells.size = i0.size) => fill_one (s := i0.size) (by rw [HZ1.out]; decide) M.toArray cells (by rw [HZ1.out, HR.out.size]) hc)
        obtain ⟨a3, c3, e3⟩ : ∃ a c, u3 = .slice a i c := by
          rcases HO.out.2 with ⟨e, h⟩ | ⟨g', c', _, e, _⟩
          · exact ⟨none, 0, by rw [e, h]⟩
          · exact ⟨_, c', e⟩
        subst e3
        clear ho3 hg3 hf3 hb2 HN
        go_wp2_with (first | (refine wpList_buildSlice rfl 86 90 1 #[(0, .tmp 19)] rfl M.toArray i0 zeroNode Tryz.underlying86 hi0 hz0 (by rw [HZ1.out]; decide) (by rw [HZ1.out]; decide) (by rw [Array.toList_map]; exact HF.out _ (by simp)) ?_) | (at_builtin; refine Lib.wpList_append_run _ rfl (.tmp 17) (.tmp 20) 86 86 rfl _ _ rfl rfl _ _ h3 ?_))
        go_roundg (m - (i + 1))
        case measure => have := HGK.out; omega
        case rel => exact ⟨i + 1, rfl, by go_num, by omega, HO3.out, HB3.out⟩
      · have ei : i = m := by omega
        subst ei
        have hlev : Level wr (fun g => g ≠ w.heap.size ∧ g < wr.heap.size) u3 1 ((Ward.fours L).map (Ward.mk Sha.sha 0)) := level_of_own HO.out (by rw [List.length_map, Ward.fours_length]; exact HMM.out) HM.out.2 (fun j _ => (leafV_row g o L j).len) (fun j hj => leaf_is (by have := HBW.out.size; show g ≠ w.heap.size ∧ g < wr.heap.size; omega) (fun j hj => (HPT.out j hj).below HBW.out hgB) j hj) (fun g h1 h2 => by have := HB1.out.size; have := HS0.out; omega)
        have HLV := hide hlev
        have HBA := hide (show Below w0.heap.size w0 wr from HB1.out.trans (HB.out.mono HB1.out.size))
        clear hlev
        go_wp2_with fail
        go_loopg [3] i (fun gk v3 wq => ∃ (n : Nat) (ls : List (Ward.T n)) (k : Nat), gk = ls.length ∧ ls ≠ [] ∧ ls.length < k ∧ ls.length ≤ 150 ∧ Ward.climb k n ls = Ward.tree L ∧ Ward.ptsL n ls = L ∧ Level wq (fun g => g ≠ w.heap.size ∧ g < wq.heap.size) v3 (n + 1) (ls.map (Ward.mk Sha.sha n)) ∧ Below w0.heap.size w0 wq)
        case atStart =>
          refine ⟨0, Ward.fours L, L.length + 2, by rw [Ward.fours_length]; exact HMM.out.symm, fun e => by have h := congrArg List.length e; rw [Ward.fours_length, HMM.out] at h; have := HM.out; simp at h; omega, by rw [Ward.fours_length]; omega, by rw [Ward.fours_length]; omega, ?_, ?_, HLV.out, HBA.out⟩
          · rw [Ward.tree, Ward.leaves, if_neg (by omega)]
          · have h := Ward.leaves_pts L
            rw [Ward.leaves, if_neg (by omega)] at h
            exact h
        case round =>
          clear HLV HBA HB HO HO7 HBW HGK HM HML HMM HB1 HRD HPT
          obtain ⟨n, ls, k, hgk, hls, hk, h150, hcl, hpt, hlev, hb⟩ := hrel
          have HGK := hide hgk
          have HLS := hide hls
          have HLK := hide hk
          have HCL := hide hcl
          have HPT := hide hpt
          have HLV := hide hlev
          have HB := hide hb
          obtain ⟨-, a3, c3, e3, hc3, hc4⟩ := hlev
          rw [List.length_map] at e3
          subst e3
          have hsz := HB.out.size
          have hs0 := HS0.out
          have HSL := hide hsz
          have hrr := (HB.out.block w.heap.size (by omega)).trans HR0.out
          have HRR := hide hrr
          clear hgk hls hk hcl hpt hb hrr hs0 hsz
          by_cases h1 : ls.length = 1
          · obtain ⟨t, rfl⟩ := List.length_eq_one_iff.1 h1
            have hT : Ward.tree L = ⟨n, t⟩ := by
              have h := HCL.out
              obtain ⟨k', rfl⟩ : ∃ k', k = k' + 1 := ⟨k - 1, by have := HLK.out; omega⟩
              rw [Ward.climb_one] at h
              exact h.symm
            obtain ⟨a5, c5, e5, hrows⟩ := HLV.out.1
            obtain ⟨g5, o5, rfl, hS5, hr5⟩ := hrows (by simp)
            injection e5 with e6 e7 e8
            subst e6 e8
            clear e7
            obtain ⟨U, hU, hc⟩ := hr5 0 (by simp)
            rw [Nat.zero_mul, Nat.add_zero] at hc
            have hU' : NodeIs wr (fun g => g ≠ w.heap.size ∧ g < wr.heap.size) (n + 1) (Ward.mk Sha.sha n t) U := hU
            have HUU := hide hU'
            have HC := hide hc
            obtain ⟨b1, l1, d1, b2, l2, d2, hV, hd⟩ := hU'.cells
            have HR := hide (show Row39 U by rw [hV]; exact nodeV_row hd)
            have HSE := hide (show (nodeV (.slice none 0 0) (.slice none 0 0) ⟨0, 0, 0, 0⟩ 0 zero32).toArray.size = U.toArray.size by rw [HSZ.out, HR.out.size])
            have HT := hide hT
            clear hT hV hd hU hU' hc hr5 hrows h1
            go_wp2_with (first | (refine wpList_load_mid rfl 90 (.tmp 29) rfl g5 o5 rfl U (.struct fs) HC.out HU.out rfl HR.out.infl ?_) | (refine wpList_store_row rfl 90 (.tmp 2) (.tmp 30) rfl w.heap.size U.toArray rfl rfl 90 _ HRR.out HR.out.info HSE.out HR.out.one ?_))
            have hbw := HB0.out.trans (HB.out.mono HB0.out.size)
            refine bodyPost_ret (v := .agg U.toArray) ?_ rfl ⟨U, rfl, ?_, below_setRow hbw (Nat.le_refl _) _⟩
            · exact results_cell_row rfl _ _ w.heap.size 90 U.toArray (0, 0) (.struct fs) rfl (setRow_heap _ _ _ _ _ _ HRR.out) HU.out rfl HR.out.info
            · rw [HT.out]
              exact NodeIs.keep (fun g hg => setRow_other _ _ _ _ hg.1) (fun g hg => by have := hg.2; show g < _; rw [setRow_size]; exact this) (n + 1) _ U HUU.out
          · have h2 : (1 : Int) < (ls.length : Int) := by
              have h : ls.length ≠ 0 := fun e => HLS.out (List.length_eq_zero_iff.1 e)
              omega
            have HAB := hide (above_any (.slice a3 ls.length c3) (n + 1) (ls.map (Ward.mk Sha.sha n)) wr (fun g => g ≠ w.heap.size ∧ g < wr.heap.size) (fun _ h => h.2) (fun e => HLS.out (List.map_eq_nil_iff.1 e)) (by rw [List.length_map]; omega) HLV.out (fun t ht => by
              obtain ⟨h3, h4⟩ := count_le HPT.out t ht
              exact ⟨h3, by omega⟩) (HK.out.below (HB0.out.trans (HB.out.mono HB0.out.size))))
            go_wp2_with fail
            refine HAB.out.mono ?_
            rintro _ w2 ⟨v2, rfl, hlev2, hb2⟩
            rw [up_level] at hlev2
            have HLV2 := hide hlev2
            have HB2 := hide hb2
            clear hlev2 hb2 HAB
            go_wp2_with fail
            go_roundg (Ward.fours ls).length
            case measure => have := HGK.out; rw [Ward.fours_length]; omega
            case rel =>
              have hfl := Ward.fours_length ls
              obtain ⟨k', ek⟩ : ∃ k', k = k' + 1 := ⟨k - 1, by have := HLK.out; omega⟩
              refine ⟨n + 1, Ward.fours ls, k', rfl, fun e => by rw [e] at hfl; simp at hfl; omega, by have := HLK.out; omega, by omega, ?_, ?_, HLV2.out.mono (fun g hg => ?_), HB.out.trans (HB2.out.mono HB.out.size)⟩
              · rw [← HCL.out, ek, Ward.climb_more _ _ _ h1]
              · rw [Ward.ptsL_fours]; exact HPT.out
              · have h3 := HB2.out.size
                have h4 := HSL.out
                have h5 := HS0.out
                rcases hg with hg | hg
                · exact ⟨hg.1, Nat.lt_of_lt_of_le hg.2 h3⟩
                · exact ⟨by omega, hg.2⟩
end Go.Proofs.YtenaelkbgkpllaaGreatDoor
