/- The law Digested: its walk. -/
import Derived.Test.YtenaelkbgkpllaaDoorDDig
import Derived.Test.YtenaelkbgkpllaaDoorDConst
namespace Go.Proofs.YtenaelkbgkpllaaDoor
open Go.RowKit

set_option maxHeartbeats 400000 in
theorem pick_any (c : Int) (w : World) (h0 : -9223372036854775808 ≤ c) (h1 : c ≤ 9223372036854775807) :
    Calls Tryd.prog 5 #[.int .i64 c, .int .i64 10] w fun e w' => (∃ r : Int, e = .returned (.int .i64 r)) ∧ w' = w := by
  go_enter Tryd.func5, Tryd.ntmps5
  go_wp2
  all_goals
    go_ret
    exact ⟨⟨_, rfl⟩, rfl⟩
theorem dig_empty (L : List Value) (w : World) (hK : KT w) (hL : (Sha.sha []).map Y = L) :
    Calls Tryd.prog 4 #[.string ⟨#[]⟩] w fun e w' => e = .returned (.agg L.toArray) ∧ Below w.heap.size w w' := by
  have hd : (⟨#[]⟩ : ByteArray).data.toList = [] := rfl
  exact digest_any ⟨#[]⟩ L w (by decide) hK (by rw [hd]; exact hL)
theorem dig_long (L : List Value) (w : World) (hK : KT w) (hL : (Sha.sha Sha.long56).map Y = L) :
    Calls Tryd.prog 4 #[.string ⟨#[97, 98, 99, 100, 98, 99, 100, 101, 99, 100, 101, 102, 100, 101, 102, 103, 101, 102, 103, 104, 102, 103, 104, 105, 103, 104, 105, 106, 104, 105, 106, 107, 105, 106, 107, 108, 106, 107, 108, 109, 107, 108, 109, 110, 108, 109, 110, 111, 109, 110, 111, 112, 110, 111, 112, 113]⟩] w fun e w' => e = .returned (.agg L.toArray) ∧ Below w.heap.size w w' := by
  have hd : (⟨#[97, 98, 99, 100, 98, 99, 100, 101, 99, 100, 101, 102, 100, 101, 102, 103, 101, 102, 103, 104, 102, 103, 104, 105, 103, 104, 105, 106, 104, 105, 106, 107, 105, 106, 107, 108, 106, 107, 108, 109, 107, 108, 109, 110, 108, 109, 110, 111, 109, 110, 111, 112, 110, 111, 112, 113]⟩ : ByteArray).data.toList = Sha.long56 := rfl
  exact digest_any ⟨#[97, 98, 99, 100, 98, 99, 100, 101, 99, 100, 101, 102, 100, 101, 102, 103, 101, 102, 103, 104, 102, 103, 104, 105, 103, 104, 105, 106, 104, 105, 106, 107, 105, 106, 107, 108, 106, 107, 108, 109, 107, 108, 109, 110, 108, 109, 110, 111, 109, 110, 111, 112, 110, 111, 112, 113]⟩ L w (by decide) hK (by rw [hd]; exact hL)
theorem mil_range {w : World} {g N : Nat} {cur : Array Value} (hN : 1000000 = N) (hrow : w.heap[g]? = some (.cells cur 5 (0, 0))) (hall : ∀ j, j < N → cur[j]? = some (.int .u8 97)) : w.rangeAt g 0 (Sha.million.map Y) := by
  intro j v hj
  rw [cell_of_row _ _ _ _ _ _ hrow, Nat.zero_add]
  rw [List.getElem?_map, Sha.million, List.getElem?_replicate] at hj
  by_cases h : j < 1000000
  · rw [if_pos h] at hj
    rw [hall j (by omega)]
    exact hj
  · rw [if_neg h] at hj
    cases hj
theorem made_row {w : World} {B g n : Nat} {L : List Value} (h : w.ownsRow B 5 1 (.slice (some ⟨g, 0, none⟩) n n) n L) : ∃ cur : Array Value, cur.size = n ∧ w.heap[g]? = some (.cells cur 5 (0, 0)) := by
  obtain ⟨-, hv | ⟨g', cap, cur, e, -, hheap, -, -, hcs, -⟩⟩ := h
  · cases hv.1
  · injection e with e1 e2 e3
    injection e1 with e4
    injection e4 with e5
    subst e5
    subst e3
    exact ⟨cur, by omega, hheap⟩

set_option maxRecDepth 100000 in
set_option maxHeartbeats 400000 in
theorem digested_any (s : ByteArray) (c : Int) (w : World) (hs : s.size ≤ 140737488355327) (h0 : -9223372036854775808 ≤ c) (h1 : c ≤ 9223372036854775807) (hK : KT w) :
    Calls Tryd.prog 3 #[.string s, .int .i64 c] w fun e w' => e = .returned (.bool true) ∧ Below w.heap.size w w' := by
  have HT0 := hide h0
  have HT1 := hide h1
  have HK := hide hK
  have HS := hide hs
  clear h0 h1 hK hs
  obtain ⟨LA, hLA⟩ : ∃ L, (Sha.sha []).map Y = L := ⟨_, rfl⟩
  obtain ⟨LB, hLB⟩ : ∃ L, (Sha.sha [97, 98, 99]).map Y = L := ⟨_, rfl⟩
  obtain ⟨LC, hLC⟩ : ∃ L, (Sha.sha Sha.long56).map Y = L := ⟨_, rfl⟩
  have dA : Dig LA := hLA ▸ dig_of _
  have dB : Dig LB := hLB ▸ dig_of _
  have dC : Dig LC := hLC ▸ dig_of _
  have HA := hide hLA
  have HB := hide hLB
  have HC := hide hLC
  clear hLA hLB hLC
  go_enter Tryd.func3, Tryd.ntmps3
  go_wp2_with fail
  refine (dig_empty LA _ HK.out HA.out).mono ?_
  rintro e w1 ⟨rfl, hb1⟩
  have hK1 := hide (HK.out.below hb1)
  go_wp2_with (refine wpList_store_row rfl 22 (.tmp 5) (.tmp 13) rfl w1.heap.size LA.toArray rfl rfl 22 _ (heap_alloc_new w1 _) dA.info (by rw [dA.size]; rfl) dA.one ?_; rw [World.setRow_alloc_new])
  refine (dig_abc LB _ (hK1.out.below ((Below.refl _ _).alloc (Nat.le_refl _) _)) HB.out).mono ?_
  rintro e w2 ⟨rfl, hb2⟩
  have hK2 := hide ((hK1.out.below ((Below.refl _ _).alloc (Nat.le_refl _) (.cells LA.toArray 22))).below hb2)
  go_wp2_with (refine wpList_store_row rfl 22 (.tmp 6) (.tmp 14) rfl w2.heap.size LB.toArray rfl rfl 22 _ (heap_alloc_new w2 _) dB.info (by rw [dB.size]; rfl) dB.one ?_; rw [World.setRow_alloc_new])
  refine (dig_long LC _ (hK2.out.below ((Below.refl _ _).alloc (Nat.le_refl _) _)) HC.out).mono ?_
  rintro e w3 ⟨rfl, hb3⟩
  have z1 : w1.heap.size < w2.heap.size := by have := hb2.size; simp at this; omega
  have z2 : w2.heap.size < w3.heap.size := by have := hb3.size; simp at this; omega
  have hK3 := hide (((hK2.out.below ((Below.refl _ _).alloc (Nat.le_refl _) (.cells LB.toArray 22))).below hb3).below ((Below.refl _ _).alloc (Nat.le_refl _) (.cells LC.toArray 22)))
  have rA : w3.heap[w1.heap.size]? = some (.cells LA.toArray 22 (0, 0)) := (hb3.block w1.heap.size (by simp; omega)).trans ((Below.heap_alloc _ _ _ z1).trans ((hb2.block w1.heap.size (by simp)).trans (heap_alloc_new w1 _)))
  have rB : w3.heap[w2.heap.size]? = some (.cells LB.toArray 22 (0, 0)) := (hb3.block w2.heap.size (by simp)).trans (heap_alloc_new w2 _)
  have hbw : Below w.heap.size w (w3.alloc (.cells LC.toArray 22)) := by
    have s1 := hb1.size
    exact ((((hb1.alloc s1 _).trans (hb2.mono (by simp; omega))).alloc (by omega) _).trans (hb3.mono (by simp; omega))).alloc (by omega) _
  obtain ⟨a0, a1, a30, a31⟩ := Sha.at_empty
  have vA0 : ∀ o, (w3.alloc o).cell? ⟨w1.heap.size, 0, none⟩ = some (.int .u8 227) := fun o => by
    rw [World.cell?_alloc_lt _ _ _ (by show w1.heap.size < w3.heap.size; omega), cell_of_row _ _ _ _ _ _ rA, ← HA.out]; exact val_at a0
  have vA1 : ∀ o, (w3.alloc o).cell? ⟨w1.heap.size, 1, none⟩ = some (.int .u8 176) := fun o => by
    rw [World.cell?_alloc_lt _ _ _ (by show w1.heap.size < w3.heap.size; omega), cell_of_row _ _ _ _ _ _ rA, ← HA.out]; exact val_at a1
  have vA30 : ∀ o, (w3.alloc o).cell? ⟨w1.heap.size, 30, none⟩ = some (.int .u8 184) := fun o => by
    rw [World.cell?_alloc_lt _ _ _ (by show w1.heap.size < w3.heap.size; omega), cell_of_row _ _ _ _ _ _ rA, ← HA.out]; exact val_at a30
  have vA31 : ∀ o, (w3.alloc o).cell? ⟨w1.heap.size, 31, none⟩ = some (.int .u8 85) := fun o => by
    rw [World.cell?_alloc_lt _ _ _ (by show w1.heap.size < w3.heap.size; omega), cell_of_row _ _ _ _ _ _ rA, ← HA.out]; exact val_at a31
  obtain ⟨b0, b3, b31⟩ := Sha.at_abc
  have vB0 : ∀ o, (w3.alloc o).cell? ⟨w2.heap.size, 0, none⟩ = some (.int .u8 186) := fun o => by
    rw [World.cell?_alloc_lt _ _ _ (by show w2.heap.size < w3.heap.size; omega), cell_of_row _ _ _ _ _ _ rB, ← HB.out]; exact val_at b0
  have vB3 : ∀ o, (w3.alloc o).cell? ⟨w2.heap.size, 3, none⟩ = some (.int .u8 191) := fun o => by
    rw [World.cell?_alloc_lt _ _ _ (by show w2.heap.size < w3.heap.size; omega), cell_of_row _ _ _ _ _ _ rB, ← HB.out]; exact val_at b3
  have vB31 : ∀ o, (w3.alloc o).cell? ⟨w2.heap.size, 31, none⟩ = some (.int .u8 173) := fun o => by
    rw [World.cell?_alloc_lt _ _ _ (by show w2.heap.size < w3.heap.size; omega), cell_of_row _ _ _ _ _ _ rB, ← HB.out]; exact val_at b31
  obtain ⟨c0, c1, c30, c31⟩ := Sha.at_long
  have vC0 : (w3.alloc (.cells LC.toArray 22)).cell? ⟨w3.heap.size, 0, none⟩ = some (.int .u8 36) := by
    rw [cell_of_row _ _ _ _ _ _ (heap_alloc_new w3 _), ← HC.out]; exact val_at c0
  have vC1 : (w3.alloc (.cells LC.toArray 22)).cell? ⟨w3.heap.size, 1, none⟩ = some (.int .u8 141) := by
    rw [cell_of_row _ _ _ _ _ _ (heap_alloc_new w3 _), ← HC.out]; exact val_at c1
  have vC30 : (w3.alloc (.cells LC.toArray 22)).cell? ⟨w3.heap.size, 30, none⟩ = some (.int .u8 6) := by
    rw [cell_of_row _ _ _ _ _ _ (heap_alloc_new w3 _), ← HC.out]; exact val_at c30
  have vC31 : (w3.alloc (.cells LC.toArray 22)).cell? ⟨w3.heap.size, 31, none⟩ = some (.int .u8 193) := by
    rw [cell_of_row _ _ _ _ _ _ (heap_alloc_new w3 _), ← HC.out]; exact val_at c31
  clear a0 a1 a30 a31 b0 b3 b31 c0 c1 c30 c31 rA rB hb1 hb2 hb3 hK1 hK2
  go_wp2_with (refine wpList_store_row rfl 22 (.tmp 7) (.tmp 15) rfl w3.heap.size LC.toArray rfl rfl 22 _ (heap_alloc_new w3 _) dC.info (by rw [dC.size]; rfl) dC.one ?_; rw [World.setRow_alloc_new])
  refine (pick_any c _ HT0.out HT1.out).mono ?_
  rintro e w' ⟨⟨r, rfl⟩, rfl⟩
  clear vA0 vA1 vA30 vA31 vB0 vB3 vB31 vC0 vC1 vC30 vC31 z1 z2
  generalize w3.alloc (.cells LC.toArray 22) = W at *
  have HKW := hide hK3.out
  clear hK3
  go_upto_if 71 with fail
  go_cut [] (fun wx => KT wx ∧ Below w.heap.size w wx)
  case first =>
    by_cases hr : r = 0
    · subst hr
      obtain ⟨i0, hi, hz0, hz1, hz2⟩ := info_parts Tryd.info5
      obtain ⟨N, hN⟩ : ∃ N : Nat, 1000000 = N := ⟨_, rfl⟩
      have hN1 : N ≤ 2000000 := by omega
      have hby : i0.bytes * N ≤ 281474976710656 := by rw [hz2]; omega
      have hNi := hide (show (1000000 : Int) = (N : Int) by omega)
      have HN := hide hN
      clear hN
      go_wp2_with (refine wpList_make_full W rfl (.const (.int .i64 1000000)) (.const (.int .i64 1000000)) 25 rfl W.heap.size 5 i0 (.int .u8 0) 1 Tryd.underlying25 hi hz0 hz1 .i64 .i64 1000000 1000000 N rfl rfl hNi.out hNi.out hby (by unfold maxLen; omega) (Nat.le_refl _) ?_; intro w6 hown hgrow; obtain ⟨cur0, hc0, hr0⟩ := made_row hown; have HR0 := hide hr0; have HC0 := hide hc0; have hb6 := (Below.refl W.heap.size W).grown hgrow (Nat.le_refl _) (fun k hk => by cases hk); clear hown hgrow hr0 hc0)
      go_loopw [9] (fun i wq => ∃ k : Nat, k ≤ N ∧ i = .int .i64 k ∧ (∃ cur : Array Value, cur.size = N ∧ wq.heap[W.heap.size]? = some (.cells cur 5 (0, 0)) ∧ ∀ j, j < k → cur[j]? = some (.int .u8 97)) ∧ Below W.heap.size W wq)
        (fun i _ => N - (intOf i).toNat)
      case atStart => exact ⟨0, Nat.zero_le _, rfl, ⟨cur0, HC0.out, HR0.out, fun j hj => absurd hj (Nat.not_lt_zero _)⟩, hb6⟩
      case round =>
        clear HR0 HC0 hb6
        obtain ⟨k, hk, rfl, ⟨cur, hcs, hrow, hall⟩, hb⟩ := hrel
        by_cases hlt : k < N
        · have hcell : wr.cell? ⟨W.heap.size, k, none⟩ = some (cur[k]'(by omega)) := by
            rw [cell_of_row _ _ _ _ _ _ hrow, Array.getElem?_eq_getElem (by omega)]
          have hfz : wr.frozen? ⟨W.heap.size, k, none⟩ = false := frozen_of_row _ _ _ _ _ hrow
          have HRW := hide hrow
          have HAL := hide hall
          have HCS := hide hcs
          generalize cur[k]'(by omega) = old at hcell
          clear hrow hall hcs
          go_wp2
          go_roundw
          case rel =>
            refine ⟨k + 1, hlt, by go_num, ⟨cur.setIfInBounds k (.int .u8 97), by rw [Array.size_setIfInBounds]; exact HCS.out, heap_setCell_same _ _ _ _ _ _ HRW.out, fun j hj => ?_⟩, hb.setCell (Nat.le_refl _) _⟩
            rw [Array.getElem?_setIfInBounds]
            by_cases e : k = j
            · subst e; rw [if_pos rfl, if_pos (by rw [HCS.out]; exact hlt)]
            · rw [if_neg e]; exact HAL.out j (by omega)
          case measure => simp [intOf]; omega
        · have ekN : k = N := by omega
          subst ekN
          have hrg := mil_range HN.out hrow hall
          have hconv := conv_bytes W.heap.size k k Sha.million (Sha.million_length.trans HN.out) wr hrg
          obtain ⟨mb, hmb⟩ : ∃ mb : ByteArray, (⟨Sha.million.toArray⟩ : ByteArray) = mb := ⟨_, rfl⟩
          have hmd : mb.data.toList = Sha.million := by rw [← hmb]
          have hms : mb.size ≤ 140737488355327 := by rw [← hmb]; show Sha.million.toArray.size ≤ _; rw [List.size_toArray, Sha.million_length]; omega
          rw [hmb] at hconv
          obtain ⟨LM, hLM⟩ : ∃ L, (Sha.sha Sha.million).map Y = L := ⟨_, rfl⟩
          have dM : Dig LM := hLM ▸ dig_of _
          have HLM := hide (show (Sha.sha mb.data.toList).map Y = LM by rw [hmd]; exact hLM)
          obtain ⟨m0, m1, m30, m31⟩ := Sha.at_million
          have e0 : LM.toArray[0]? = some (.int .u8 205) := by rw [← hLM]; exact val_at m0
          have e1 : LM.toArray[1]? = some (.int .u8 199) := by rw [← hLM]; exact val_at m1
          have e30 : LM.toArray[30]? = some (.int .u8 44) := by rw [← hLM]; exact val_at m30
          have e31 : LM.toArray[31]? = some (.int .u8 208) := by rw [← hLM]; exact val_at m31
          have HMS := hide hms
          have hKr := hide (HKW.out.below hb)
          have HE := hide (And.intro e0 (And.intro e1 (And.intro e30 e31)))
          clear hrg hmb hmd hms hLM m0 m1 m30 m31 e0 e1 e30 e31 hcs hrow hall hlt hk
          go_wp2_with fail
          refine (digest_any mb LM _ HMS.out hKr.out HLM.out).mono ?_
          rintro e w7 ⟨rfl, hb7⟩
          have v0 : (w7.alloc (.cells LM.toArray 22)).cell? ⟨w7.heap.size, 0, none⟩ = some (.int .u8 205) := by rw [cell_of_row _ _ _ _ _ _ (heap_alloc_new w7 _)]; exact HE.out.1
          have v1 : (w7.alloc (.cells LM.toArray 22)).cell? ⟨w7.heap.size, 1, none⟩ = some (.int .u8 199) := by rw [cell_of_row _ _ _ _ _ _ (heap_alloc_new w7 _)]; exact HE.out.2.1
          have v30 : (w7.alloc (.cells LM.toArray 22)).cell? ⟨w7.heap.size, 30, none⟩ = some (.int .u8 44) := by rw [cell_of_row _ _ _ _ _ _ (heap_alloc_new w7 _)]; exact HE.out.2.2.1
          have v31 : (w7.alloc (.cells LM.toArray 22)).cell? ⟨w7.heap.size, 31, none⟩ = some (.int .u8 208) := by rw [cell_of_row _ _ _ _ _ _ (heap_alloc_new w7 _)]; exact HE.out.2.2.2
          have s0 := hbw.size
          have s1 := hb.size
          have s7 := hb7.size
          have hb8 : Below w.heap.size w (w7.alloc (.cells LM.toArray 22)) := ((hbw.trans (hb.mono s0)).trans (hb7.mono (by omega))).alloc (by omega) _
          have hK8 := hide ((hKr.out.below hb7).below ((Below.refl _ _).alloc (Nat.le_refl _) (.cells LM.toArray 22)))
          clear hconv HE
          go_wp2_with (refine wpList_store_row rfl 22 (.tmp 10) (.tmp 84) rfl w7.heap.size LM.toArray rfl rfl 22 _ (heap_alloc_new w7 _) dM.info (by rw [dM.size]; rfl) dM.one ?_; rw [World.setRow_alloc_new])
          go_meet
          exact ⟨hK8.out, hb8⟩
    · have hr0 : (r == 0) = false := by simp [hr]
      go_wp2_with fail
      go_meet
      exact ⟨HKW.out, hbw⟩
  case rest =>
    obtain ⟨hKc, hbc⟩ := hcut
    have HKc := hide hKc
    obtain ⟨LT, hLT⟩ : ∃ L, (Sha.sha s.data.toList).map Y = L := ⟨_, rfl⟩
    have dT : Dig LT := hLT ▸ dig_of _
    have HLT := hide hLT
    have heq := fun w => binEql_same LT.toArray w dT.eql
    clear hKc hLT hbw HKW HA HB HC dA dB dC
    go_wp2_with fail
    refine (digest_any s LT _ HS.out HKc.out HLT.out).mono ?_
    rintro e w4 ⟨rfl, hb4⟩
    have hK4 := hide (HKc.out.below hb4)
    go_wp2_with (refine wpList_store_row rfl 22 (.tmp 11) (.tmp 104) rfl w4.heap.size LT.toArray rfl rfl 22 _ (heap_alloc_new w4 _) dT.info (by rw [dT.size]; rfl) dT.one ?_; rw [World.setRow_alloc_new])
    refine (digest_any s LT _ HS.out (hK4.out.below ((Below.refl _ _).alloc (Nat.le_refl _) _)) HLT.out).mono ?_
    rintro e w5 ⟨rfl, hb5⟩
    have z4 : w4.heap.size < w5.heap.size := by have := hb5.size; simp at this; omega
    have r4 := hide ((Below.heap_alloc w5 (.cells LT.toArray 22) w4.heap.size z4).trans ((hb5.block w4.heap.size (by simp)).trans (heap_alloc_new w4 _)))
    have r5 := hide (heap_alloc_new w5 (.cells LT.toArray 22))
    go_wp2_with (first | (refine wpList_store_row rfl 22 (.tmp 12) (.tmp 106) rfl w5.heap.size LT.toArray rfl rfl 22 _ (heap_alloc_new w5 _) dT.info (by rw [dT.size]; rfl) dT.one ?_; rw [World.setRow_alloc_new]) | (refine wpList_load_row rfl 22 (.tmp 11) rfl w4.heap.size rfl 22 LT.toArray (0, 0) _ r4.out Tryd.under22 rfl dT.info ?_) | (refine wpList_load_row rfl 22 (.tmp 12) rfl w5.heap.size rfl 22 LT.toArray (0, 0) _ r5.out Tryd.under22 rfl dT.info ?_))
    go_ret
    refine ⟨rfl, ?_⟩
    have s0 := hbc.size
    have s4 := hb4.size
    exact (((hbc.trans (hb4.mono s0)).alloc (by omega) _).trans (hb5.mono (by simp; omega))).alloc (by omega) _
end Go.Proofs.YtenaelkbgkpllaaDoor
