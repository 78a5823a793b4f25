/- One level of nodes above another: the call. -/
import Derived.Test.YtenaelkbgkpllaaGreatDoorTM
namespace Go.Proofs.YtenaelkbgkpllaaGreatDoor
open Go.RowKit

theorem range_flat_step (f : Nat → List Value) (i : Nat) : (List.range (i + 1)).flatMap f = (List.range i).flatMap f ++ f i := by
  rw [List.range_succ, List.flatMap_append]; simp
theorem up_is {w : World} {S : Nat → Prop} {g o n : Nat} {K : List (Ward.NT n)} (hB : S g) (h : ∀ i (h : i < K.length), ∃ U, NodeIs w S n K[i] U ∧ w.rangeAt g (o + i * 39) U) (j : Nat) (hj : j < ((Ward.fours K).map (Ward.upN n)).length) :
    NodeIs w S (n + 1) ((Ward.fours K).map (Ward.upN n))[j] (upV g o n K j) := by
  rw [List.getElem_map, Ward.fours_get]
  exact ⟨.slice none 0 0, groupV 39 g o K.length j, rfl, sha_len _, ⟨none, 0, rfl, fun e => absurd rfl e⟩, group_rows hB h j⟩
set_option maxRecDepth 100000 in
set_option maxHeartbeats 4000000 in
theorem above_any (v : Value) (n : Nat) (K : List (Ward.NT n)) (w : World) (S : Nat → Prop) (hS : ∀ g, S g → g < w.heap.size) (h0 : K ≠ []) (hK : K.length ≤ 1000) (hk : Level w S v n K) (hnum : ∀ t ∈ K, 0 ≤ Ward.numN n t ∧ Ward.numN n t ≤ 1000000) (hKT : KT w) :
    Calls Tryz.prog 72 #[v] w fun e w' => ∃ v', e = .returned v' ∧ Level w' (fun g => S g ∨ w.heap.size ≤ g ∧ g < w'.heap.size) v' (n + 1) ((Ward.fours K).map (Ward.upN n)) ∧ Below w.heap.size w w' := by
  obtain ⟨⟨a, c, rfl, hrd⟩, ⟨a', c', e', hc1, hc2⟩⟩ := hk
  injection e' with e1 e2 e3
  subst e1 e3
  clear e2
  obtain ⟨g, o, rfl, hgS, hrows⟩ := hrd h0
  have hgB := hS g hgS
  have HSS := hide hS
  have HGS := hide hgS
  clear hS hgS
  have HRD := hide hrows
  have HNUM := hide hnum
  have HK := hide hKT
  have hp : 0 < K.length := List.length_pos_iff.2 h0
  obtain ⟨i0, hi0, hz0, hz1, hz2⟩ := info_parts Tryz.infoNodeZ
  have HZ1 := hide hz1
  clear hrd hrows hnum hKT
  go_enter Tryz.func72, Tryz.ntmps72
  go_wp2_with fail
  refine (foursNode_any g o K.length c w hK hc1 hc2).mono ?_
  rintro _ w1 ⟨v7, rfl, ho7, hb1⟩
  obtain ⟨gg, cg, rfl, hgg, hggl⟩ := ho7.form (by omega)
  have HO7 := hide ho7
  have HB1 := hide hb1
  have hm4 : (K.length + 3) / 4 ≤ 1000 := by omega
  have hm0 : 0 < (K.length + 3) / 4 := by omega
  have HM := hide (show (K.length + 3) / 4 ≤ 1000 ∧ 0 < (K.length + 3) / 4 from ⟨hm4, hm0⟩)
  have HML := hide (show ∀ j, j < (K.length + 3) / 4 → 4 * j < K.length from fun j hj => by omega)
  clear ho7 hb1 hm4 hm0
  generalize hmm : (K.length + 3) / 4 = m at *
  have HMM := hide hmm
  clear hmm
  go_wp2_with fail
  go_loopg [3, 9] m (fun gk v3 v9 wq => ∃ i : Nat, gk = m - i ∧ v9 = I i ∧ i ≤ m ∧ wq.ownsRow w1.heap.size 90 39 v3 i ((List.range i).flatMap (upV g o n K)) ∧ Below w1.heap.size w1 wq)
  case atStart => exact ⟨0, by omega, rfl, by omega, World.ownsRow_nil _ _ _ _, Below.refl _ _⟩
  case round =>
    obtain ⟨i, hgk, rfl, hi, ho, hb⟩ := hrel
    have HGK := hide hgk
    have HO := hide ho
    have HB := hide hb
    have hs := hb.size
    clear hgk ho hb
    by_cases hlt : i < m
    · have hm1 := HM.out.1
      have hci : wr.cell? ⟨gg, i, none⟩ = some (groupV 39 g o K.length i) := by
        refine (HB.out.cell (p := ⟨gg, i, none⟩) hggl).trans ?_
        rw [HO7.out.cellAt i (by omega)]
        simp [groupsV, hlt]
      have h4 := HML.out i hlt
      have HBW := hide (HB1.out.trans (HB.out.mono HB1.out.size))
      have hG0 : (K.drop (4 * i)).take 4 ≠ [] := fun e => by
        have := congrArg List.length e
        simp at this
        omega
      have hG4 : ((K.drop (4 * i)).take 4).length ≤ 4 := by simp; omega
      have hGR := group_rows (w := wr) (S := S) (o := o) (K := K) (P := NodeIs wr S n) (g := g) HGS.out (fun j hj => by
        obtain ⟨U, hU, hr⟩ := HRD.out j hj
        exact ⟨U, NodeIs.keep (below_same HBW.out HSS.out) (fun _ h => h) n _ _ hU, rangeAt_below hr HBW.out hgB⟩) i
      have HN := hide (nodeOf_any (groupV 39 g o K.length i) n ((K.drop (4 * i)).take 4) wr S (fun g hg => Nat.lt_of_lt_of_le (HSS.out g hg) HBW.out.size) hG0 hG4 hGR (fun t ht => HNUM.out t (List.mem_of_mem_drop (List.mem_of_mem_take ht))) (HK.out.below HBW.out))
      have HN := hide (show Calls Tryz.prog 113 #[groupV 39 g o K.length i] wr fun e w' => e = .returned (.agg (upV g o n K i).toArray) ∧ Below wr.heap.size wr w' from HN.out)
      have HR := hide (upV_row g o n K i)
      have HST := hide (range_flat_step (upV g o n K) i)
      generalize groupV 39 g o K.length i = gv at *
      generalize upV g o n K i = M at *
      clear hGR hG0 hG4 h4
      go_wp2_with fail
      refine HN.out.mono ?_
      rintro _ w2 ⟨rfl, hb2⟩
      have hs2 := hb2.size
      obtain ⟨v3, w3, h3, ho3, hg3, hf3⟩ := append_node (w := w2) M HR.out (ownsRow_below HO.out hb2) (by omega) (by have := HM.out; omega)
      have HO3 := hide (show w3.ownsRow w1.heap.size 90 39 v3 (i + 1) ((List.range (i + 1)).flatMap (upV g o n K)) by rw [HST.out]; exact ho3)
      have HB3 := hide ((HB.out.trans (hb2.mono hs)).grown hg3 (by omega) (fun k hk => (HO.out.lt k hk).1))
      have HF := hide (fun (cells : Array Value) (hc : cells.size = i0.size) => fill_one (s := i0.size) (by rw [HZ1.out]; decide) M.toArray cells (by rw [HZ1.out, HR.out.size]) hc)
      obtain ⟨a3, c3, e3⟩ : ∃ a c, u3 = .slice a i c := by
        rcases HO.out.2 with ⟨e, h⟩ | ⟨g', c', _, e, _⟩
        · exact ⟨none, 0, by rw [e, h]⟩
        · exact ⟨_, c', e⟩
      subst e3
      clear ho3 hg3 hf3 hb2 HN
      go_wp2_with (first | (refine wpList_buildSlice rfl 86 90 1 #[(0, .tmp 15)] rfl M.toArray i0 zeroNode Tryz.underlying86 hi0 hz0 (by rw [HZ1.out]; decide) (by rw [HZ1.out]; decide) (by rw [Array.toList_map]; exact HF.out _ (by simp)) ?_) | (at_builtin; refine Lib.wpList_append_run _ rfl (.tmp 13) (.tmp 16) 86 86 rfl _ _ rfl rfl _ _ h3 ?_))
      go_roundg (m - (i + 1))
      case measure => have := HGK.out; omega
      case rel => exact ⟨i + 1, rfl, by go_num, by omega, HO3.out, HB3.out⟩
    · have ei : i = m := by omega
      subst ei
      go_wp2
      go_ret
      have hBW := HB1.out.trans (HB.out.mono HB1.out.size)
      refine ⟨_, rfl, level_of_own HO.out (by rw [List.length_map, Ward.fours_length]; exact HMM.out) HM.out.2 (fun j _ => (upV_row g o n K j).len) (fun j hj => ?_) (fun g h1 h2 => .inr ⟨Nat.le_trans HB1.out.size h1, h2⟩), hBW⟩
      exact up_is (.inl HGS.out) (fun j hj => by
        obtain ⟨U, hU, hr⟩ := HRD.out j hj
        exact ⟨U, NodeIs.keep (below_same hBW HSS.out) (fun _ h => .inl h) n _ _ hU, rangeAt_below hr hBW hgB⟩) j hj
end Go.Proofs.YtenaelkbgkpllaaGreatDoor
