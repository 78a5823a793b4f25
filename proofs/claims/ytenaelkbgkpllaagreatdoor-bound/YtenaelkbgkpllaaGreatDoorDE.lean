/- All blocks of a text stirred in. -/
import Derived.Test.YtenaelkbgkpllaaGreatDoorDC
import Derived.Lib.Strings
namespace Go.Proofs.YtenaelkbgkpllaaGreatDoor
open Go.RowKit

theorem cut_list (s : ByteArray) (a b : Nat) : (s.extract a b).data.toList = (s.data.toList.drop a).take (b - a) := by
  simp [ByteArray.data_extract]
theorem cut_size (s : ByteArray) (a b : Nat) (h : b ≤ s.size) : (s.extract a b).size = b - a := by
  simp [ByteArray.size_extract]; omega
theorem wrap_big (n : Int) (h0 : -140737488355400 ≤ n) (h1 : n ≤ 140737488355400) : IntKind.i64.wrap n = n := by
  rw [IntKind.wrap_i64]; omega
theorem st8_one (s : Sha.St) : (st8 s).all (·.oneCell') = true := by
  unfold st8
  simp [Value.oneCell']
theorem row8 {w : World} {g : Nat} {t : TypeId} {v0 v1 v2 v3 v4 v5 v6 v7 : Value} (h : w.heap[g]? = some (.cells #[v0, v1, v2, v3, v4, v5, v6, v7] t (0, 0))) :
    (w.cell? ⟨g, 0, none⟩ = some v0 ∧ w.cell? ⟨g, 1, none⟩ = some v1 ∧ w.cell? ⟨g, 2, none⟩ = some v2 ∧ w.cell? ⟨g, 3, none⟩ = some v3 ∧ w.cell? ⟨g, 4, none⟩ = some v4 ∧ w.cell? ⟨g, 5, none⟩ = some v5 ∧ w.cell? ⟨g, 6, none⟩ = some v6 ∧ w.cell? ⟨g, 7, none⟩ = some v7) ∧ (∀ i, w.frozen? ⟨g, i, none⟩ = false) := by
  refine ⟨⟨?_, ?_, ?_, ?_, ?_, ?_, ?_, ?_⟩, fun i => frozen_of_row _ _ _ _ _ h⟩ <;> (rw [cell_of_row _ _ _ _ _ _ h]; rfl)
theorem set8 {w : World} {g : Nat} {t : TypeId} {o0 o1 o2 o3 o4 o5 o6 o7 v0 v1 v2 v3 v4 v5 v6 v7 : Value} (h : w.heap[g]? = some (.cells #[o0, o1, o2, o3, o4, o5, o6, o7] t (0, 0))) :
    ((((((((w.setCell ⟨g, 0, none⟩ v0).setCell ⟨g, 1, none⟩ v1).setCell ⟨g, 2, none⟩ v2).setCell ⟨g, 3, none⟩ v3).setCell ⟨g, 4, none⟩ v4).setCell ⟨g, 5, none⟩ v5).setCell ⟨g, 6, none⟩ v6).setCell ⟨g, 7, none⟩ v7).heap[g]? = some (.cells #[v0, v1, v2, v3, v4, v5, v6, v7] t (0, 0)) := by
  have h0 : (w.setCell ⟨g, 0, none⟩ v0).heap[g]? = some (.cells #[v0, o1, o2, o3, o4, o5, o6, o7] t (0, 0)) := by
    rw [heap_setCell_same _ g 0 _ t v0 h]; simp
  have h1 : ((w.setCell ⟨g, 0, none⟩ v0).setCell ⟨g, 1, none⟩ v1).heap[g]? = some (.cells #[v0, v1, o2, o3, o4, o5, o6, o7] t (0, 0)) := by
    rw [heap_setCell_same _ g 1 _ t v1 h0]; simp
  have h2 : (((w.setCell ⟨g, 0, none⟩ v0).setCell ⟨g, 1, none⟩ v1).setCell ⟨g, 2, none⟩ v2).heap[g]? = some (.cells #[v0, v1, v2, o3, o4, o5, o6, o7] t (0, 0)) := by
    rw [heap_setCell_same _ g 2 _ t v2 h1]; simp
  have h3 : ((((w.setCell ⟨g, 0, none⟩ v0).setCell ⟨g, 1, none⟩ v1).setCell ⟨g, 2, none⟩ v2).setCell ⟨g, 3, none⟩ v3).heap[g]? = some (.cells #[v0, v1, v2, v3, o4, o5, o6, o7] t (0, 0)) := by
    rw [heap_setCell_same _ g 3 _ t v3 h2]; simp
  have h4 : (((((w.setCell ⟨g, 0, none⟩ v0).setCell ⟨g, 1, none⟩ v1).setCell ⟨g, 2, none⟩ v2).setCell ⟨g, 3, none⟩ v3).setCell ⟨g, 4, none⟩ v4).heap[g]? = some (.cells #[v0, v1, v2, v3, v4, o5, o6, o7] t (0, 0)) := by
    rw [heap_setCell_same _ g 4 _ t v4 h3]; simp
  have h5 : ((((((w.setCell ⟨g, 0, none⟩ v0).setCell ⟨g, 1, none⟩ v1).setCell ⟨g, 2, none⟩ v2).setCell ⟨g, 3, none⟩ v3).setCell ⟨g, 4, none⟩ v4).setCell ⟨g, 5, none⟩ v5).heap[g]? = some (.cells #[v0, v1, v2, v3, v4, v5, o6, o7] t (0, 0)) := by
    rw [heap_setCell_same _ g 5 _ t v5 h4]; simp
  have h6 : (((((((w.setCell ⟨g, 0, none⟩ v0).setCell ⟨g, 1, none⟩ v1).setCell ⟨g, 2, none⟩ v2).setCell ⟨g, 3, none⟩ v3).setCell ⟨g, 4, none⟩ v4).setCell ⟨g, 5, none⟩ v5).setCell ⟨g, 6, none⟩ v6).heap[g]? = some (.cells #[v0, v1, v2, v3, v4, v5, v6, o7] t (0, 0)) := by
    rw [heap_setCell_same _ g 6 _ t v6 h5]; simp
  have h7 : ((((((((w.setCell ⟨g, 0, none⟩ v0).setCell ⟨g, 1, none⟩ v1).setCell ⟨g, 2, none⟩ v2).setCell ⟨g, 3, none⟩ v3).setCell ⟨g, 4, none⟩ v4).setCell ⟨g, 5, none⟩ v5).setCell ⟨g, 6, none⟩ v6).setCell ⟨g, 7, none⟩ v7).heap[g]? = some (.cells #[v0, v1, v2, v3, v4, v5, v6, v7] t (0, 0)) := by
    rw [heap_setCell_same _ g 7 _ t v7 h6]; simp
  exact h7
theorem set8_other {w : World} {g k : Nat} {v0 v1 v2 v3 v4 v5 v6 v7 : Value} (hk : k ≠ g) : ((((((((w.setCell ⟨g, 0, none⟩ v0).setCell ⟨g, 1, none⟩ v1).setCell ⟨g, 2, none⟩ v2).setCell ⟨g, 3, none⟩ v3).setCell ⟨g, 4, none⟩ v4).setCell ⟨g, 5, none⟩ v5).setCell ⟨g, 6, none⟩ v6).setCell ⟨g, 7, none⟩ v7).heap[k]? = w.heap[k]? := by
  rw [heap_setCell_other _ _ _ _ hk, heap_setCell_other _ _ _ _ hk, heap_setCell_other _ _ _ _ hk, heap_setCell_other _ _ _ _ hk, heap_setCell_other _ _ _ _ hk, heap_setCell_other _ _ _ _ hk, heap_setCell_other _ _ _ _ hk, heap_setCell_other _ _ _ _ hk]
theorem stir_lit (a b c d e f g h : Nat) (bl : ByteArray) (l : List UInt8) (w : World) (hs : Sha.Ok ⟨a, b, c, d, e, f, g, h⟩) (hbl : bl.size = 64) (hK : KT w) (hl : bl.data.toList = l) :
    Calls Tryz.prog 139 #[.agg #[U a, U b, U c, U d, U e, U f, U g, U h], .string bl] w fun e' w' => ∃ x : Sha.St, x = Sha.stir ⟨a, b, c, d, e, f, g, h⟩ l ∧ e' = .returned (.agg #[U x.a, U x.b, U x.c, U x.d, U x.e, U x.f, U x.g, U x.h]) ∧ Below w.heap.size w w' :=
  (stir_any a b c d e f g h bl w hs hbl hK).mono fun _ _ ⟨he, hb⟩ => ⟨_, rfl, by rw [he, hl]; rfl, hb⟩

set_option maxRecDepth 100000 in
set_option maxHeartbeats 400000 in
theorem stirAll_any (a b c d e f g h : Nat) (s : ByteArray) (m : Nat) (w : World) (hs : Sha.Ok ⟨a, b, c, d, e, f, g, h⟩) (hm : s.size = 64 * m) (hl : s.size ≤ 140737488355328) (hK : KT w) :
    Calls Tryz.prog 104 #[.agg #[U a, U b, U c, U d, U e, U f, U g, U h], .string s] w fun e' w' => e' = .returned (.agg (st8 (Sha.stirN s.data.toList m ⟨a, b, c, d, e, f, g, h⟩))) ∧ Below w.heap.size w w' := by
  have HK : Hid (KT w) := hK
  have HS : Hid (Sha.Ok ⟨a, b, c, d, e, f, g, h⟩) := hs
  have HM : Hid (s.size = 64 * m) := hm
  clear hK hs hm
  go_enter Tryz.func104, Tryz.ntmps104
  go_wp2
  go_loopw [5] (fun i wq => ∃ k : Nat, k ≤ m ∧ i = .int .i64 (64 * k : Nat) ∧ wq.heap[w.heap.size]? = some (.cells (st8 (Sha.stirN s.data.toList k ⟨a, b, c, d, e, f, g, h⟩)) 64 (0, 0)) ∧ (∃ z : Array Value, z.size = 8 ∧ wq.heap[w.heap.size + 1]? = some (.cells z 64 (0, 0))) ∧ w.heap.size + 2 ≤ wq.heap.size ∧ Below w.heap.size w wq)
    (fun i _ => s.size - (intOf i).toNat)
  case atStart =>
    refine ⟨0, by omega, rfl, heap_alloc2_old _ _ _, ⟨_, ?_, heap_alloc2_new _ _ _⟩, by simp, ?_⟩
    · rfl
    · exact ((Below.refl _ _).alloc (Nat.le_refl _) _).alloc (by simp) _
  case round =>
    obtain ⟨k, hk, rfl, h2, ⟨z, hz8, h3⟩, hz, hb⟩ := hrel
    have hok : Sha.Ok (Sha.stirN s.data.toList k ⟨a, b, c, d, e, f, g, h⟩) := Sha.stirN_ok k HS.out
    have H3 : Hid (wr.heap[w.heap.size + 1]? = some (.cells z 64 (0, 0))) := h3
    have H8 : Hid (z.size = 8) := hz8
    have hsz := HM.out
    clear h3 hz8
    by_cases hlt : k < m
    · have HN : Hid (Sha.stirN s.data.toList (k + 1) ⟨a, b, c, d, e, f, g, h⟩ = Sha.stir (Sha.stirN s.data.toList k ⟨a, b, c, d, e, f, g, h⟩) ((s.data.toList.drop (64 * k)).take 64)) := rfl
      generalize Sha.stirN s.data.toList k ⟨a, b, c, d, e, f, g, h⟩ = r at *
      obtain ⟨ra, rb, rc, rd, re, rf, rg, rh⟩ := r
      have H2 : Hid (wr.heap[w.heap.size]? = some (.cells #[U ra, U rb, U rc, U rd, U re, U rf, U rg, U rh] 64 (0, 0))) := h2
      obtain ⟨⟨c0, c1, c2, c3, c4, c5, c6, c7⟩, -⟩ := row8 H2.out
      obtain ⟨t, ht⟩ : ∃ t : Int, t = ((64 * k : Nat) : Int) := ⟨_, rfl⟩
      have HT : Hid (t = ((64 * k : Nat) : Int)) := ht
      have t0 : 0 ≤ t := by omega
      have t1 : t + 64 ≤ s.size := by omega
      have hKr : Hid (KT wr) := HK.out.below hb
      have hw64 := wrap_big (t + 64) (by omega) (by omega)
      have hsl : ∀ W, (Instr.slice 9 (.string s) (some (.int .i64 t)) (some (.int .i64 (t + 64))) none).run Tryz.prog W = .ok (.string (s.extract (64 * k) (64 * k + 64))) W := fun W => by
        rw [run_slice_string W 9 s .i64 .i64 t (t + 64) Tryz.underlying9 t0 (by omega) t1, show t.toNat = 64 * k by omega, show (t + 64).toNat = 64 * k + 64 by omega]
      have hbs : Hid ((s.extract (64 * k) (64 * k + 64)).size = 64) := by rw [Hid, cut_size _ _ _ (by omega)]; omega
      have hbd : Hid ((s.extract (64 * k) (64 * k + 64)).data.toList = (s.data.toList.drop (64 * k)).take 64) := by rw [Hid, cut_list]; congr 1; omega
      have HLT := hide hlt
      rw [← ht]
      clear ht h2 hsz
      go_wp2_with fail
      go_region_with (go_at_call 139; go_must (refine (stir_lit ra rb rc rd re rf rg rh (s.extract (64 * k) (64 * k + 64)) ((s.data.toList.drop (64 * k)).take 64) wr.drew hok hbs.out (fun i hi => hKr.out i hi) hbd.out).mono ?_; rintro e' w1 ⟨x, hx, rfl, hb1⟩; have HX := hide hx; clear hx; have hr1 := (hb1.block w.heap.size (Nat.lt_of_lt_of_le (Nat.lt_add_of_pos_right (by decide)) hz)).trans H2.out; have HR1 := hide hr1; obtain ⟨⟨d0, d1, d2, d3, d4, d5, d6, d7⟩, df⟩ := row8 hr1; clear hr1))
      clear d0 d1 d2 d3 d4 d5 d6 d7 df c0 c1 c2 c3 c4 c5 c6 c7
      go_wp2
      go_roundw
      case rel =>
        refine ⟨k + 1, by have := HLT.out; omega, by rw [HT.out]; go_num, ?_, ⟨z, H8.out, ?_⟩, ?_, ?_⟩
        · rw [HN.out, ← HX.out]; exact set8 HR1.out
        · rw [set8_other (by omega)]; exact (hb1.block (w.heap.size + 1) hz).trans H3.out
        · have := hb1.size; simp; exact Nat.le_trans hz this
        · exact ((((((((hb.drew.trans (hb1.mono (show w.heap.size ≤ wr.heap.size by omega))).setCell (by simp) _).setCell (by simp) _).setCell (by simp) _).setCell (by simp) _).setCell (by simp) _).setCell (by simp) _).setCell (by simp) _).setCell (by simp) _
      case measure => simp [intOf]; omega
    · have ekm : k = m := by omega
      subst ekm
      have hM1 : (st8 (Sha.stirN s.data.toList k ⟨a, b, c, d, e, f, g, h⟩)).all (·.oneCell') = true := st8_one _
      have hM8 : (st8 (Sha.stirN s.data.toList k ⟨a, b, c, d, e, f, g, h⟩)).size = 8 := rfl
      generalize hMe : st8 (Sha.stirN s.data.toList k ⟨a, b, c, d, e, f, g, h⟩) = M at *
      have HMe := hide hMe
      have H2 := hide h2
      have HM8 := hide hM8
      obtain ⟨t, ht⟩ : ∃ t : Int, t = ((64 * k : Nat) : Int) := ⟨_, rfl⟩
      have t1 : ¬ t < s.size := by omega
      rw [← ht]
      clear ht h2 hM8 hlt hk hok hMe hsz
      go_wp2_with (first | (refine wpList_load_row rfl 64 (.tmp 2) rfl w.heap.size rfl 64 M (0, 0) _ H2.out Tryz.underlying64 rfl (by rw [HM8.out]; exact Tryz.info28) ?_) | (refine wpList_store_row rfl 64 (.tmp 4) (.tmp 19) rfl (w.heap.size + 1) M rfl rfl 64 z H3.out (by rw [HM8.out]; exact Tryz.info28) (by rw [HM8.out, H8.out]) hM1 ?_))
      refine bodyPost_ret (v := .agg M) ?_ rfl ⟨by rw [HMe.out], below_setRow hb (by omega) M⟩
      exact results_cell_row rfl _ _ (w.heap.size + 1) 64 M (0, 0) _ rfl (setRow_heap _ _ _ _ _ _ H3.out) Tryz.underlying64 rfl (by rw [HM8.out]; exact Tryz.info28)
end Go.Proofs.YtenaelkbgkpllaaGreatDoor
