/- The program's table of 64 numbers of a block is the plain function's. -/
import Derived.Test.YtenaelkbgkpllaaGreatDoorDA
import Derived.Laws.Tables
import Derived.Deep.RegionHeld3
import Derived.Laws.CopyOwn
namespace Go.Proofs.YtenaelkbgkpllaaGreatDoor
open Go.RowKit

abbrev U (n : Nat) : Value := .int .u32 n
/-- 64 cells: the numbers of a list, then noughts -/
def arr (l : List Nat) : Array Value := ((l ++ List.replicate (64 - l.length) 0).map U).toArray
theorem arr_size (l : List Nat) (h : l.length ≤ 64) : (arr l).size = 64 := by
  simp [arr]; omega
theorem arr_at (l : List Nat) (i : Nat) (hi : i < 64) (h : l.length ≤ 64) : (arr l)[i]? = some (U (l.getD i 0)) := by
  unfold arr
  rw [List.getElem?_toArray, List.getElem?_map]
  by_cases hl : i < l.length
  · rw [List.getElem?_append_left hl, List.getD_eq_getElem?_getD, List.getElem?_eq_getElem hl]; rfl
  · have e1 : l[i]? = none := by simp; omega
    rw [List.getElem?_append_right (by omega), List.getElem?_replicate, if_pos (by omega), List.getD_eq_getElem?_getD, e1]; rfl
theorem arr_snoc (l : List Nat) (x : Nat) (h : l.length < 64) : (arr l).setIfInBounds l.length (U x) = arr (l ++ [x]) := by
  apply Array.ext_getElem?
  intro i
  rw [Array.getElem?_setIfInBounds]
  by_cases hi : i < 64
  · rw [arr_at (l ++ [x]) i hi (by simp; omega)]
    by_cases e : l.length = i
    · subst e
      rw [if_pos rfl, if_pos (by rw [arr_size l (by omega)]; omega)]
      simp
    · rw [if_neg e, arr_at l i hi (by omega)]
      by_cases hl : i < l.length
      · simp [hl, List.getElem?_append_left hl]
      · have e1 : l[i]? = none := by simp; omega
        have e2 : (l ++ [x])[i]? = none := by simp; omega
        simp [e2, e1]
  · have e1 : (arr l)[i]? = none := by rw [Array.getElem?_eq_none]; rw [arr_size l (by omega)]; omega
    have e2 : (arr (l ++ [x]))[i]? = none := by rw [Array.getElem?_eq_none]; rw [arr_size _ (by simp; omega)]; omega
    rw [e1, e2]
    have : ¬ l.length = i := by omega
    simp [this]
theorem arr_full (l : List Nat) (h : l.length = 64) : arr l = (l.map U).toArray := by simp [arr, h]

theorem at_anyI (s : ByteArray) (i : Int) (k : Nat) (w : World) (hi : i = k) (hk : k + 4 ≤ s.size) (hs : s.size ≤ maxLen) :
    Calls Tryz.prog 181 #[.string s, .int .i64 i] w fun e w' => e = .returned (.int .u32 (Sha.word s.data.toList k : Nat)) ∧ ∃ n, w' = w.drewN n := by
  subst hi; exact at_any s k w hk hs

theorem Tryz.arrayLen37 : Tryz.prog.arrayLen 65 = 64 := by kernel_rfl
theorem Tryz.elem37 : Tryz.prog.elem 65 = 63 := by kernel_rfl
theorem Tryz.array37 : Tryz.prog.underlying 65 = some (.array (Tryz.prog.arrayLen 65) (Tryz.prog.elem 65)) := by kernel_rfl
theorem Tryz.size27 (w : World) : (sizeOf 63).run Tryz.prog w = .ok 1 w := by kernel_rfl
theorem idx37 (g : Nat) (i : Int) (k : Nat) (h : i = k) (hk : k < 64) (W : World) :
    (Instr.indexAt 65 (.pointer (some ⟨g, 0, none⟩)) (.int .i64 i)).run Tryz.prog W = .ok (.pointer (some ⟨g, k, none⟩)) W := by
  subst h
  rw [run_indexAt_array W 65 _ _ _ Tryz.array37, Tryz.arrayLen37, Tryz.elem37, if_pos (by omega), Tryz.size27]
  by_cases h0 : k = 0
  · subst h0; rfl
  · simp [Addr.add, h0]
theorem wrap_small (n : Int) (h0 : -1000000 ≤ n) (h1 : n ≤ 1000000) : IntKind.i64.wrap n = n := by
  rw [IntKind.wrap_i64]; omega
theorem cs_ne {w : World} {g i k : Nat} {v : Value} {x : Option Value} (h : w.cell? ⟨g, i, none⟩ = x) (hne : i ≠ k) : ((w.setCell ⟨g, k, none⟩ v).drew).cell? ⟨g, i, none⟩ = x := by
  rw [← h]
  exact World.cell?_setCell_other _ _ _ _ (fun e => hne (by injection e with _ e2 _; exact e2.symm))
theorem cs_eq {w : World} {g k : Nat} {v x : Value} (h : w.cell? ⟨g, k, none⟩ = some x) : ((w.setCell ⟨g, k, none⟩ v).drew).cell? ⟨g, k, none⟩ = some v :=
  World.cell?_setCell_same _ _ _ h
theorem wrap32_add (a b : Nat) : IntKind.u32.wrap ((a : Int) + (b : Int)) = (((a + b) % 4294967296 : Nat) : Int) := by
  rw [IntKind.wrap_u32]; omega
theorem arr_next (l : List UInt8) (n : Nat) (h : n < 48) : (arr (Sha.spreadTo l n)).setIfInBounds (n + 16) (U (Sha.nextW (Sha.spreadTo l n) n)) = arr (Sha.spreadTo l (n + 1)) := by
  have e := Sha.spreadTo_length l n
  have := arr_snoc (Sha.spreadTo l n) (Sha.nextW (Sha.spreadTo l n) n) (by omega)
  rw [e, show 16 + n = n + 16 by omega] at this
  exact this
theorem arr_first (l : List UInt8) (n : Nat) (h : n < 16) : (arr (Sha.first l n)).setIfInBounds n (U (Sha.word l (4 * n))) = arr (Sha.first l (n + 1)) := by
  have e := Sha.first_length l n
  have := arr_snoc (Sha.first l n) (Sha.word l (4 * n)) (by omega)
  rw [e] at this
  exact this
theorem next_cast (a b c d : Nat) : ((((a : Int) + b) % 4294967296 + c) % 4294967296 + d) % 4294967296 = (((((a + b) % 4294967296 + c) % 4294967296 + d) % 4294967296 : Nat) : Int) := by
  omega
theorem Tryz.info37 : (Tryz.prog.info? 65).map (·.size) = some 64 := by kernel_rfl
theorem arr_one (l : List Nat) : (arr l).all (·.oneCell') = true := by
  unfold arr
  rw [List.all_toArray]
  simp [Value.oneCell']
theorem drewN_heap (w : World) (n : Nat) : (w.drewN n).heap = w.heap := by
  induction n <;> simp_all [World.drewN]
theorem row_same {w : World} {g i n : Nat} {cs : Array Value} {t : TypeId} {v : Value} (h : w.heap[g]? = some (.cells cs t (0, 0))) :
    ((w.drewN n).setCell ⟨g, i, none⟩ v).heap[g]? = some (.cells (cs.setIfInBounds i v) t (0, 0)) :=
  heap_setCell_same (w.drewN n) g i cs t v (by rw [drewN_heap]; exact h)
theorem row_other {w : World} {g k i n : Nat} {v : Value} {o : Option Obj} (hk : k ≠ g) (h : w.heap[k]? = o) :
    ((w.drewN n).setCell ⟨g, i, none⟩ v).heap[k]? = o := by
  rw [heap_setCell_other _ _ _ _ (by simpa using hk), drewN_heap]; exact h
theorem size_set {w : World} {n : Nat} {a : Addr} {v : Value} : ((w.drewN n).setCell a v).heap.size = w.heap.size := by
  simp
theorem below_set {B : Nat} {w wr : World} {n : Nat} {a : Addr} {v : Value} (h : Below B w wr) (ha : B ≤ a.block) : Below B w ((wr.drewN n).setCell a v) :=
  (below_drewN h n).setCell ha _

set_option maxRecDepth 100000 in
set_option maxHeartbeats 400000 in
theorem spread_any (s : ByteArray) (w : World) (hs : s.size = 64) :
    Calls Tryz.prog 164 #[.string s] w fun e w' => e = .returned (.agg (arr (Sha.spreadTo s.data.toList 48))) ∧ Below w.heap.size w w' := by
  have hm : s.size ≤ maxLen := by unfold maxLen; omega
  have HM : Hid (s.size ≤ maxLen) := hm
  have HS : Hid (s.size = 64) := hs
  clear hm hs
  go_enter Tryz.func164, Tryz.ntmps164
  go_wp2
  go_loopw [6] (fun i wr => ∃ k : Nat, k ≤ 16 ∧ i = .int .i64 k ∧ wr.heap[w.heap.size]? = some (.cells (arr []) 65 (0, 0)) ∧ wr.heap[w.heap.size + 1]? = some (.cells (arr (Sha.first s.data.toList k)) 65 (0, 0)) ∧ wr.heap.size = w.heap.size + 2 ∧ Below w.heap.size w wr)
    (fun i _ => 16 - (intOf i).toNat)
  case atStart =>
    refine ⟨0, by omega, rfl, heap_alloc2_old _ _ _, heap_alloc2_new _ _ _, by simp, ?_⟩
    exact ((Below.refl _ _).alloc (Nat.le_refl _) _).alloc (by simp) _
  case round =>
    obtain ⟨k, hk, rfl, h2, h3, hz, hb⟩ := hrel
    have H2 : Hid (wr.heap[w.heap.size]? = some (.cells (arr []) 65 (0, 0))) := h2
    have H3 : Hid (wr.heap[w.heap.size + 1]? = some (.cells (arr (Sha.first s.data.toList k)) 65 (0, 0))) := h3
    have HZ : Hid (wr.heap.size = w.heap.size + 2) := hz
    have hl := Sha.first_length s.data.toList k
    have HL : Hid ((Sha.first s.data.toList k).length = k) := hl
    by_cases hlt : k < 16
    · have hc : wr.cell? ⟨w.heap.size + 1, k, none⟩ = some (U 0) := by
        rw [cell_of_row _ _ _ _ _ _ h3, arr_at _ _ (by omega) (by omega)]
        simp [hl]
      have hf : wr.frozen? ⟨w.heap.size + 1, k, none⟩ = false := frozen_of_row _ _ _ _ _ h3
      clear h2 h3 hl hz
      go_wp2_with fail
      refine (at_anyI s _ (4 * k) _ (by omega) (by rw [HS.out]; omega) HM.out).mono ?_
      rintro e w' ⟨rfl, nq, rfl⟩
      go_wp2
      refine ⟨⟨k + 1, by omega, by go_num, row_other (by omega) H2.out, ?_, size_set.trans HZ.out, below_set hb (by simp)⟩, by simp [intOf]; omega⟩
      rw [row_same H3.out, arr_first _ _ hlt]
    · have e16 : k = 16 := by omega
      subst e16
      clear h2 h3 hl hz
      go_wp2
      go_loopw [5] (fun i wq => ∃ n : Nat, n ≤ 48 ∧ i = .int .i64 (n + 16 : Nat) ∧ wq.heap[w.heap.size]? = some (.cells (arr []) 65 (0, 0)) ∧ wq.heap[w.heap.size + 1]? = some (.cells (arr (Sha.spreadTo s.data.toList n)) 65 (0, 0)) ∧ wq.heap.size = w.heap.size + 2 ∧ Below w.heap.size w wq)
        (fun i _ => 64 - (intOf i).toNat)
      case atStart => exact ⟨0, by omega, rfl, H2.out, H3.out, HZ.out, hb⟩
      case round =>
        clear H2 H3 HZ HL hb hlt hk
        obtain ⟨n, hn, rfl, h2, h3, hz, hb⟩ := hrel
        have H2 : Hid (wr.heap[w.heap.size]? = some (.cells (arr []) 65 (0, 0))) := h2
        have H3 : Hid (wr.heap[w.heap.size + 1]? = some (.cells (arr (Sha.spreadTo s.data.toList n)) 65 (0, 0))) := h3
        have HZ : Hid (wr.heap.size = w.heap.size + 2) := hz
        have hl := Sha.spreadTo_length s.data.toList n
        have HL : Hid ((Sha.spreadTo s.data.toList n).length = 16 + n) := hl
        have hcells : ∀ i, i < 64 → wr.cell? ⟨w.heap.size + 1, i, none⟩ = some (U ((Sha.spreadTo s.data.toList n).getD i 0)) := fun i hi => by
          rw [cell_of_row _ _ _ _ _ _ h3, arr_at _ _ hi (by omega)]
        have hf : wr.frozen? ⟨w.heap.size + 1, n + 16, none⟩ = false := frozen_of_row _ _ _ _ _ h3
        by_cases hlt : n < 48
        · have c14 := hcells (n + 14) (by omega)
          have c9 := hcells (n + 9) (by omega)
          have c1 := hcells (n + 1) (by omega)
          have c0 := hcells n (by omega)
          have c16 := hcells (n + 16) (by omega)
          have HN : Hid (Sha.nextW (Sha.spreadTo s.data.toList n) n = (((Sha.ss1 ((Sha.spreadTo s.data.toList n).getD (n + 14) 0) + (Sha.spreadTo s.data.toList n).getD (n + 9) 0) % 4294967296 + Sha.ss0 ((Sha.spreadTo s.data.toList n).getD (n + 1) 0)) % 4294967296 + (Sha.spreadTo s.data.toList n).getD n 0) % 4294967296) := rfl
          have l14 := Sha.getD_lt (Sha.spreadTo_lt s.data.toList n) (n + 14)
          have l9 := Sha.getD_lt (Sha.spreadTo_lt s.data.toList n) (n + 9)
          have l1 := Sha.getD_lt (Sha.spreadTo_lt s.data.toList n) (n + 1)
          have l0 := Sha.getD_lt (Sha.spreadTo_lt s.data.toList n) n
          clear h2 h3 hl hz hcells
          generalize (Sha.spreadTo s.data.toList n).getD (n + 14) 0 = x14 at *
          generalize (Sha.spreadTo s.data.toList n).getD (n + 9) 0 = x9 at *
          generalize (Sha.spreadTo s.data.toList n).getD (n + 1) 0 = x1 at *
          generalize (Sha.spreadTo s.data.toList n).getD n 0 = x0 at *
          generalize (Sha.spreadTo s.data.toList n).getD (n + 16) 0 = x16 at *
          obtain ⟨t, ht⟩ : ∃ t : Int, t = ((n + 16 : Nat) : Int) := ⟨_, rfl⟩
          have t0 : 16 ≤ t := by omega
          have t1 : t < 64 := by omega
          have i14 := idx37 (w.heap.size + 1) (t - 2) (n + 14) (by omega) (by omega)
          have i9 := idx37 (w.heap.size + 1) (t - 7) (n + 9) (by omega) (by omega)
          have i1 := idx37 (w.heap.size + 1) (t - 15) (n + 1) (by omega) (by omega)
          have i0 := idx37 (w.heap.size + 1) (t - 16) n (by omega) (by omega)
          have i16 := idx37 (w.heap.size + 1) t (n + 16) (by omega) (by omega)
          have w14 := wrap_small (t - 2) (by omega) (by omega)
          have w9 := wrap_small (t - 7) (by omega) (by omega)
          have w1 := wrap_small (t - 15) (by omega) (by omega)
          have w0 := wrap_small (t - 16) (by omega) (by omega)
          have HT : Hid (t = ((n + 16 : Nat) : Int)) := ht
          rw [← ht]
          have HLT : Hid (n < 48) := hlt
          clear ht hlt hn
          go_wp2_with fail
          go_region_held3 (fun w' => w'.cell? ⟨w.heap.size + 1, n + 14, none⟩ = some (U x14) ∧ w'.cell? ⟨w.heap.size + 1, n + 9, none⟩ = some (U x9) ∧ w'.cell? ⟨w.heap.size + 1, n + 1, none⟩ = some (U x1) ∧ w'.cell? ⟨w.heap.size + 1, n, none⟩ = some (U x0) ∧ (∃ v, w'.cell? ⟨w.heap.size + 1, n + 16, none⟩ = some v) ∧ w'.frozen? ⟨w.heap.size + 1, n + 16, none⟩ = false) (first | exact ⟨c14, c9, c1, c0, ⟨_, c16⟩, hf⟩ | exact ⟨cs_ne c14 (by omega), cs_ne c9 (by omega), cs_ne c1 (by omega), cs_ne c0 (by omega), ⟨_, cs_eq c16⟩, by simp [hf]⟩)
            (first | (go_at_call 184; refine (ss1_any x14 _ l14).mono ?_; rintro e w' ⟨rfl, rfl⟩) | (go_at_call 185; refine (ss0_any x1 _ l1).mono ?_; rintro e w' ⟨rfl, rfl⟩))
          all_goals
            go_wp2
            go_roundw
            case rel =>
              (repeat apply Exists.intro)
              have hlt := HLT.out
              refine ⟨⟨n + 1, hlt, by rw [HT.out]; go_num, ?_, ?_, ?_, ?_⟩, rfl⟩
              · exact row_other (n := 1) (by omega) H2.out
              · exact (row_same (n := 1) H3.out).trans (by rw [next_cast, ← HN.out, arr_next _ _ HLT.out])
              · exact (size_set (n := 1)).trans HZ.out
              · exact below_set (n := 1) hb (by simp)
            case measure => simp [intOf]; omega
        · have e48 : n = 48 := by omega
          subst e48
          have hA : (arr (Sha.spreadTo s.data.toList 48)).size = 64 := arr_size _ (by rw [hl]; omega)
          have h1 := arr_one (Sha.spreadTo s.data.toList 48)
          have hB : (arr []).size = 64 := arr_size _ (by decide)
          clear hcells hf hl h2 h3 hz HL HS HM
          generalize hAe : arr (Sha.spreadTo s.data.toList 48) = A at *
          have HAe : Hid (arr (Sha.spreadTo s.data.toList 48) = A) := hAe
          clear hAe
          generalize arr [] = B at *
          have HA : Hid (A.size = 64) := hA
          have HB : Hid (B.size = 64) := hB
          clear hA hB hlt
          go_wp2_with (first | (refine wpList_load_row rfl 65 (.tmp 3) rfl (w.heap.size + 1) rfl 65 A (0, 0) _ H3.out Tryz.underlying65 rfl (by rw [HA.out]; exact Tryz.info37) ?_) | (refine wpList_store_row rfl 65 (.tmp 2) (.tmp 43) rfl w.heap.size A rfl rfl 65 B H2.out (by rw [HA.out]; exact Tryz.info37) (by rw [HA.out, HB.out]) h1 ?_))
          refine bodyPost_ret (v := .agg A) ?_ rfl ⟨by rw [HAe.out], below_setRow hb (Nat.le_refl _) A⟩
          exact results_cell_row rfl _ _ w.heap.size 65 A (0, 0) _ rfl (setRow_heap _ _ _ _ _ _ H2.out) Tryz.underlying65 rfl (by rw [HA.out]; exact Tryz.info37)
end Go.Proofs.YtenaelkbgkpllaaGreatDoor
