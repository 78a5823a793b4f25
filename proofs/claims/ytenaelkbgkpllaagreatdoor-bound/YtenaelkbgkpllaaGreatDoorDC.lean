/- One block stirred into the state of a digest: the program's answer is the plain function's. -/
import Derived.Test.YtenaelkbgkpllaaGreatDoorDB
import Derived.Deep.WholeRow
namespace Go.Proofs.YtenaelkbgkpllaaGreatDoor
open Go.RowKit

def st8 (s : Sha.St) : Array Value := #[U s.a, U s.b, U s.c, U s.d, U s.e, U s.f, U s.g, U s.h]
/-- the table of the rounds' numbers lies in memory -/
def KT (w : World) : Prop := ∀ i, i < 64 → w.cell? ⟨1, i, none⟩ = some (U (Sha.Ks.getD i 0))

theorem Tryz.under37 : Tryz.prog.underlying 65 = some (.array 64 63) := by kernel_rfl
theorem Tryz.under28 : Tryz.prog.underlying 64 = some (.array 8 63) := by kernel_rfl
theorem idxAgg37 (A : Array Value) (i : Int) (n : Nat) (v : Value) (h : i = n) (hn : n < 64) (hv : A[n]? = some v) (W : World) :
    (Instr.index 65 (.agg A) (.int .i64 i)).run Tryz.prog W = .ok v W := by
  subst h
  simp [Instr.index, asIntOf, run_underlying Tryz.under37, part, hv]
  intro h; omega
theorem idxAgg28 (A : Array Value) (i : Int) (n : Nat) (v : Value) (h : i = n) (hn : n < 8) (hv : A[n]? = some v) (W : World) :
    (Instr.index 64 (.agg A) (.int .i64 i)).run Tryz.prog W = .ok v W := by
  subst h
  simp [Instr.index, asIntOf, run_underlying Tryz.under28, part, hv]
  intro h; omega
theorem Tryz.arrayLen28 : Tryz.prog.arrayLen 64 = 8 := by kernel_rfl
theorem Tryz.elem28 : Tryz.prog.elem 64 = 63 := by kernel_rfl
theorem Tryz.array28 : Tryz.prog.underlying 64 = some (.array (Tryz.prog.arrayLen 64) (Tryz.prog.elem 64)) := by kernel_rfl
theorem Tryz.info28 : (Tryz.prog.info? 64).map (·.size) = some 8 := by kernel_rfl
theorem idx28 (g : Nat) (i : Int) (k : Nat) (h : i = k) (hk : k < 8) (W : World) :
    (Instr.indexAt 64 (.pointer (some ⟨g, 0, none⟩)) (.int .i64 i)).run Tryz.prog W = .ok (.pointer (some ⟨g, k, none⟩)) W := by
  subst h
  rw [run_indexAt_array W 64 _ _ _ Tryz.array28, Tryz.arrayLen28, Tryz.elem28, if_pos (by omega), Tryz.size27]
  by_cases h0 : k = 0
  · subst h0; rfl
  · simp [Addr.add, h0]
theorem Ks_length : Sha.Ks.length = 64 := rfl
theorem KT.drewN {w : World} (h : KT w) (n : Nat) : KT (w.drewN n) := fun i hi => by
  have := h i hi
  simpa using this
theorem KT.lt {w : World} (h : KT w) : 1 < w.heap.size := block_lt_of_cell (h 0 (by decide))
theorem KT.below {w w' : World} (h : KT w) (hb : Below w.heap.size w w') : KT w' := fun i hi => (hb.cell (p := ⟨1, i, none⟩) h.lt).trans (h i hi)
theorem ra_cast (h s c k w u v : Nat) : (((h : Int) + s + c + k + w) % 4294967296 + ((u : Int) + v) % 4294967296) % 4294967296 = ((((((((h + s) % 4294967296 + c) % 4294967296 + k) % 4294967296 + w) % 4294967296) + (u + v) % 4294967296) % 4294967296 : Nat) : Int) := by omega
theorem re_cast (d h s c k w : Nat) : ((d : Int) + ((h : Int) + s + c + k + w) % 4294967296) % 4294967296 = (((d + ((((h + s) % 4294967296 + c) % 4294967296 + k) % 4294967296 + w) % 4294967296) % 4294967296 : Nat) : Int) := by omega
def toL (s : Sha.St) : List Nat := [s.a, s.b, s.c, s.d, s.e, s.f, s.g, s.h]
/-- the first k numbers of the one, the rest of the other -/
def mix (x y : List Nat) (k : Nat) : Array Value := ((x.take k ++ y.drop k).map U).toArray
theorem mix_size (x y : List Nat) (k : Nat) (hx : x.length = 8) (hy : y.length = 8) (hk : k ≤ 8) : (mix x y k).size = 8 := by
  simp [mix, hx, hy]; omega
theorem mix_at (x y : List Nat) (k : Nat) (hx : x.length = 8) (hy : y.length = 8) (hk : k < 8) : (mix x y k)[k]? = some (U (y.getD k 0)) := by
  unfold mix
  rw [List.getElem?_toArray, List.getElem?_map, List.getElem?_append_right (by simp; omega)]
  have : k - (x.take k).length = 0 := by simp; omega
  rw [this, List.getElem?_drop, List.getD_eq_getElem?_getD, Nat.add_zero, List.getElem?_eq_getElem (by omega)]; rfl
theorem mix_step (x y : List Nat) (k : Nat) (hx : x.length = 8) (hy : y.length = 8) (hk : k < 8) : (mix x y k).setIfInBounds k (U (x.getD k 0)) = mix x y (k + 1) := by
  unfold mix
  rw [List.setIfInBounds_toArray]
  congr 1
  apply List.ext_getElem?
  intro i
  rw [List.getElem?_set, List.getElem?_map, List.getElem?_map, List.getElem?_append, List.getElem?_append]
  simp only [List.length_map, List.length_append, List.length_take, List.length_drop, hx, hy, List.getElem?_take, List.getElem?_drop]
  by_cases e : k = i
  · subst e
    rw [if_pos rfl, if_pos (by omega), if_pos (by omega), if_pos (by omega), List.getD_eq_getElem?_getD, List.getElem?_eq_getElem (by omega)]; rfl
  · rw [if_neg e]
    by_cases hi : i < k
    · rw [if_pos (by omega), if_pos hi, if_pos (by omega), if_pos (by omega)]
    · rw [if_neg (by omega), if_neg (by omega)]
      have e1 : k + (i - min k 8) = i := by omega
      have e2 : k + 1 + (i - min (k + 1) 8) = i := by omega
      rw [e1, e2]
theorem mix_zero (x y : List Nat) : mix x y 0 = (y.map U).toArray := by simp [mix]
theorem mix_all (x y : List Nat) (hx : x.length = 8) (hy : y.length = 8) : mix x y 8 = (x.map U).toArray := by
  unfold mix
  rw [List.take_of_length_le (by omega), List.drop_of_length_le (by omega), List.append_nil]
theorem mix_one (x y : List Nat) (k : Nat) : (mix x y k).all (·.oneCell') = true := by
  unfold mix
  rw [List.all_toArray, List.all_eq_true]
  intro v hv
  obtain ⟨n, _, rfl⟩ := List.mem_map.1 hv
  rfl
theorem hide {p : Prop} (h : p) : Hid p := h
theorem toL_length (s : Sha.St) : (toL s).length = 8 := rfl
theorem toL_arr (s : Sha.St) : ((toL s).map U).toArray = st8 s := rfl
theorem st8_at (s : Sha.St) : ∀ (k : Nat), k < 8 → (st8 s)[k]? = some (U ((toL s).getD k 0))
  | 0, _ => rfl
  | 1, _ => rfl
  | 2, _ => rfl
  | 3, _ => rfl
  | 4, _ => rfl
  | 5, _ => rfl
  | 6, _ => rfl
  | 7, _ => rfl
  | k + 8, h => absurd h (by omega)
theorem add_at (s t : Sha.St) : ∀ (k : Nat), k < 8 → (toL (Sha.add s t)).getD k 0 = ((toL s).getD k 0 + (toL t).getD k 0) % 4294967296
  | 0, _ => rfl
  | 1, _ => rfl
  | 2, _ => rfl
  | 3, _ => rfl
  | 4, _ => rfl
  | 5, _ => rfl
  | 6, _ => rfl
  | 7, _ => rfl
  | k + 8, h => absurd h (by omega)
theorem add_cast (x y : Nat) : ((x : Int) + y) % 4294967296 = (((x + y) % 4294967296 : Nat) : Int) := by omega

set_option maxRecDepth 100000 in
set_option maxHeartbeats 400000 in
theorem stir_any (a b c d e f g h : Nat) (bl : ByteArray) (w : World) (hs : Sha.Ok ⟨a, b, c, d, e, f, g, h⟩) (hbl : bl.size = 64) (hK : KT w) :
    Calls Tryz.prog 139 #[.agg #[U a, U b, U c, U d, U e, U f, U g, U h], .string bl] w fun e' w' => e' = .returned (.agg (st8 (Sha.stir ⟨a, b, c, d, e, f, g, h⟩ bl.data.toList))) ∧ Below w.heap.size w w' := by
  have hl := Sha.spreadTo_length bl.data.toList 48
  have hA : (arr (Sha.spreadTo bl.data.toList 48)).size = 64 := arr_size _ (by rw [hl]; omega)
  have h1 := arr_one (Sha.spreadTo bl.data.toList 48)
  have HA : Hid ((arr (Sha.spreadTo bl.data.toList 48)).size = 64) := hA
  have HK : Hid (KT w) := hK
  have HS : Hid (Sha.Ok ⟨a, b, c, d, e, f, g, h⟩) := hs
  clear hl hA hK hs
  go_enter Tryz.func139, Tryz.ntmps139
  go_wp2_with fail
  refine (spread_any bl _ hbl).mono ?_
  rintro e' w1 ⟨rfl, hb1⟩
  generalize hAe : arr (Sha.spreadTo bl.data.toList 48) = A at *
  have HAe : Hid (arr (Sha.spreadTo bl.data.toList 48) = A) := hAe
  clear hAe
  have hz : w.heap.size + 1 < w1.heap.size := by have := hb1.size; simp at this; omega
  have hrow : w1.heap[w.heap.size]? = some (.cells #[U a, U b, U c, U d, U e, U f, U g, U h] 64 (0, 0)) := (hb1.block w.heap.size (by simp; omega)).trans (heap_alloc2_old w _ _)
  have hres : ∃ z : Array Value, z.size = 8 ∧ w1.heap[w.heap.size + 1]? = some (.cells z 64 (0, 0)) := by
    exact ⟨_, rfl, (hb1.block (w.heap.size + 1) (by simp)).trans (heap_alloc2_new w _ _)⟩
  have hbw : Below w.heap.size w w1 := (((Below.refl _ _).alloc (Nat.le_refl _) _).alloc (by simp) _).trans (hb1.mono (by simp; omega))
  obtain ⟨z, hz8, hres⟩ := hres
  clear hb1
  have HR : Hid (w1.heap[w.heap.size]? = some (.cells #[U a, U b, U c, U d, U e, U f, U g, U h] 64 (0, 0))) := hrow
  have HZ : Hid (w1.heap[w.heap.size + 1]? = some (.cells z 64 (0, 0))) := hres
  have H8 : Hid (z.size = 8) := hz8
  have hlt : w.heap.size < w1.heap.size := by omega
  have c0 : ∀ o, (w1.alloc o).cell? ⟨w.heap.size, 0, none⟩ = some (U a) := fun o => by rw [World.cell?_alloc_lt _ _ _ hlt, cell_of_row _ _ _ _ _ _ hrow]; rfl
  have c1 : ∀ o, (w1.alloc o).cell? ⟨w.heap.size, 1, none⟩ = some (U b) := fun o => by rw [World.cell?_alloc_lt _ _ _ hlt, cell_of_row _ _ _ _ _ _ hrow]; rfl
  have c2 : ∀ o, (w1.alloc o).cell? ⟨w.heap.size, 2, none⟩ = some (U c) := fun o => by rw [World.cell?_alloc_lt _ _ _ hlt, cell_of_row _ _ _ _ _ _ hrow]; rfl
  have c3 : ∀ o, (w1.alloc o).cell? ⟨w.heap.size, 3, none⟩ = some (U d) := fun o => by rw [World.cell?_alloc_lt _ _ _ hlt, cell_of_row _ _ _ _ _ _ hrow]; rfl
  have c4 : ∀ o, (w1.alloc o).cell? ⟨w.heap.size, 4, none⟩ = some (U e) := fun o => by rw [World.cell?_alloc_lt _ _ _ hlt, cell_of_row _ _ _ _ _ _ hrow]; rfl
  have c5 : ∀ o, (w1.alloc o).cell? ⟨w.heap.size, 5, none⟩ = some (U f) := fun o => by rw [World.cell?_alloc_lt _ _ _ hlt, cell_of_row _ _ _ _ _ _ hrow]; rfl
  have c6 : ∀ o, (w1.alloc o).cell? ⟨w.heap.size, 6, none⟩ = some (U g) := fun o => by rw [World.cell?_alloc_lt _ _ _ hlt, cell_of_row _ _ _ _ _ _ hrow]; rfl
  have c7 : ∀ o, (w1.alloc o).cell? ⟨w.heap.size, 7, none⟩ = some (U h) := fun o => by rw [World.cell?_alloc_lt _ _ _ hlt, cell_of_row _ _ _ _ _ _ hrow]; rfl
  clear hrow hres hz8
  go_wp2_with (refine wpList_store_row rfl 65 (.tmp 5) (.tmp 21) rfl w1.heap.size A rfl rfl 65 _ (heap_alloc_new w1 _) (by rw [HA.out]; exact Tryz.info37) (by rw [HA.out]; rfl) h1 ?_; rw [World.setRow_alloc_new])
  go_quiet (fail)
  clear c0 c1 c2 c3 c4 c5 c6 c7
  go_wp2_with (refine wpList_load_row rfl 65 (.tmp 5) rfl w1.heap.size rfl 65 A (0, 0) _ (by rw [drewN_heap]; exact heap_alloc_new w1 _) Tryz.underlying65 rfl (by rw [HA.out]; exact Tryz.info37) ?_)
  have hKW : KT (w1.alloc (.cells A 65)) := (HK.out.below hbw).below ((Below.refl _ _).alloc (Nat.le_refl _) _)
  have HKW : Hid (KT (w1.alloc (.cells A 65))) := hKW
  clear hKW
  go_loopw [6, 7, 8, 9, 10, 11, 12, 13, 39] (fun va vb vc vd ve vf vg vh i wq => ∃ n : Nat, n ≤ 64 ∧ i = .int .i64 n ∧ ∃ r : Sha.St, Sha.rounds (Sha.spreadTo bl.data.toList 48) n ⟨a, b, c, d, e, f, g, h⟩ = r ∧ va = U r.a ∧ vb = U r.b ∧ vc = U r.c ∧ vd = U r.d ∧ ve = U r.e ∧ vf = U r.f ∧ vg = U r.g ∧ vh = U r.h ∧ ∃ q, wq = (w1.alloc (.cells A 65)).drewN q)
    (fun _ _ _ _ _ _ _ _ i _ => 64 - (intOf i).toNat)
  case atStart => exact ⟨0, by omega, rfl, ⟨a, b, c, d, e, f, g, h⟩, rfl, rfl, rfl, rfl, rfl, rfl, rfl, rfl, rfl, _, rfl⟩
  case round =>
    obtain ⟨n, hn, rfl, r, hr, rfl, rfl, rfl, rfl, rfl, rfl, rfl, rfl, q, hwq⟩ := hrel
    have HQ : Hid (wr = (w1.alloc (.cells A 65)).drewN q) := hwq
    have hKr : KT wr := hwq ▸ HKW.out.drewN q
    have HKr : Hid (KT wr) := hKr
    clear hwq hKr
    have hok : Sha.Ok r := hr ▸ Sha.rounds_ok n HS.out
    have HRr : Hid (Sha.rounds (Sha.spreadTo bl.data.toList 48) n ⟨a, b, c, d, e, f, g, h⟩ = r) := hr
    clear hr
    obtain ⟨ra, rb, rc, rd, re, rf, rg, rh⟩ := r
    obtain ⟨oa, ob, oc, od, oe, of, og, oh⟩ := hok
    dsimp only at oa ob oc od oe of og oh ⊢
    by_cases hlt : n < 64
    · have hk := HKr.out n hlt
      have hki := idx37 0 (n : Int) n rfl hlt
      have hwv : A[n]? = some (U ((Sha.spreadTo bl.data.toList 48).getD n 0)) := by rw [← HAe.out]; exact arr_at _ _ hlt (by rw [Sha.spreadTo_length]; omega)
      have hwi := idxAgg37 A (n : Int) n _ rfl hlt hwv
      have lk := Sha.getD_lt Sha.Ks_lt n
      have lw := Sha.getD_lt (Sha.spreadTo_lt bl.data.toList 48) n
      have HST : Hid (Sha.rounds (Sha.spreadTo bl.data.toList 48) (n + 1) ⟨a, b, c, d, e, f, g, h⟩ = Sha.round (Sha.Ks.getD n 0) ((Sha.spreadTo bl.data.toList 48).getD n 0) ⟨ra, rb, rc, rd, re, rf, rg, rh⟩) := by
        show Sha.round _ _ (Sha.rounds _ n _) = _
        rw [HRr.out]
      clear hwv HRr
      generalize Sha.Ks.getD n 0 = kn at *
      generalize (Sha.spreadTo bl.data.toList 48).getD n 0 = wn at *
      go_wp2_with fail
      go_quiet ((first | (go_at_call 165; exact Calls.quiet_of_same (bs1_any re _ oe)) | (go_at_call 166; exact Calls.quiet_of_same (choose_any re rf rg _ oe of og))))
      go_wp2_with fail
      refine (bs0_any ra _ oa).mono ?_
      rintro e' w' ⟨rfl, rfl⟩
      go_wp2_with fail
      refine (majority_any ra rb rc _ oa ob oc).mono ?_
      rintro e' w' ⟨rfl, rfl⟩
      go_wp2
      exact ⟨⟨n + 1, hlt, by go_num, _, HST.out, congrArg (Value.int IntKind.u32) (ra_cast _ _ _ _ _ _ _), rfl, rfl, rfl, congrArg (Value.int IntKind.u32) (re_cast _ _ _ _ _ _), rfl, rfl, rfl, q + nq, by rw [HQ.out, World.drewN_drewN]⟩, by simp [intOf]; omega⟩
    · have e64 : n = 64 := by omega
      subst e64
      clear hlt hn
      have hrow : wr.heap[w.heap.size]? = some (.cells #[U a, U b, U c, U d, U e, U f, U g, U h] 64 (0, 0)) := by
        rw [HQ.out, drewN_heap, Below.heap_alloc _ _ _ (by omega)]; exact HR.out
      have hres : wr.heap[w.heap.size + 1]? = some (.cells z 64 (0, 0)) := by
        rw [HQ.out, drewN_heap, Below.heap_alloc _ _ _ hz]; exact HZ.out
      have hbr : Below w.heap.size w wr := by
        rw [HQ.out]; exact below_drewN (hbw.alloc (by omega) _) q
      have HR2 : Hid (wr.heap[w.heap.size]? = some (.cells #[U a, U b, U c, U d, U e, U f, U g, U h] 64 (0, 0))) := hrow
      have HZ2 : Hid (wr.heap[w.heap.size + 1]? = some (.cells z 64 (0, 0))) := hres
      clear hrow hres
      go_wp2
      go_loopw [87] (fun i wq => ∃ k : Nat, k ≤ 8 ∧ i = .int .i64 k ∧ wq.heap[w.heap.size]? = some (.cells (mix (toL (Sha.add ⟨a, b, c, d, e, f, g, h⟩ ⟨ra, rb, rc, rd, re, rf, rg, rh⟩)) (toL ⟨a, b, c, d, e, f, g, h⟩) k) 64 (0, 0)) ∧ wq.heap[w.heap.size + 1]? = some (.cells z 64 (0, 0)) ∧ Below w.heap.size w wq)
        (fun i _ => 8 - (intOf i).toNat)
      case atStart => exact ⟨0, by omega, rfl, HR2.out, HZ2.out, hbr⟩
      case round =>
        clear hbr
        obtain ⟨k, hk, rfl, h2, h3, hb⟩ := hrel
        have H2 : Hid (wr.heap[w.heap.size]? = some (.cells (mix (toL (Sha.add ⟨a, b, c, d, e, f, g, h⟩ ⟨ra, rb, rc, rd, re, rf, rg, rh⟩)) (toL ⟨a, b, c, d, e, f, g, h⟩) k) 64 (0, 0))) := h2
        have H3 : Hid (wr.heap[w.heap.size + 1]? = some (.cells z 64 (0, 0))) := h3
        by_cases hlt : k < 8
        · have hc : wr.cell? ⟨w.heap.size, k, none⟩ = some (U ((toL ⟨a, b, c, d, e, f, g, h⟩).getD k 0)) := by
            rw [cell_of_row _ _ _ _ _ _ h2]; exact mix_at _ _ _ rfl rfl hlt
          have hf : wr.frozen? ⟨w.heap.size, k, none⟩ = false := frozen_of_row _ _ _ _ _ h2
          have hi := idx28 w.heap.size (k : Int) k rfl hlt
          have hv := idxAgg28 #[U ra, U rb, U rc, U rd, U re, U rf, U rg, U rh] (k : Int) k _ rfl hlt (st8_at ⟨ra, rb, rc, rd, re, rf, rg, rh⟩ k hlt)
          have HM := hide (mix_step (toL (Sha.add ⟨a, b, c, d, e, f, g, h⟩ ⟨ra, rb, rc, rd, re, rf, rg, rh⟩)) (toL ⟨a, b, c, d, e, f, g, h⟩) k rfl rfl hlt)
          rw [add_at _ _ k hlt] at HM
          clear h2 h3
          generalize (toL ⟨a, b, c, d, e, f, g, h⟩).getD k 0 = xk at *
          generalize (toL ⟨ra, rb, rc, rd, re, rf, rg, rh⟩).getD k 0 = yk at *
          go_wp2
          refine ⟨⟨k + 1, hlt, by go_num, ?_, ?_, hb.setCell (by simp) _⟩, by simp [intOf]; omega⟩
          · rw [heap_setCell_same _ _ _ _ _ _ H2.out, add_cast, HM.out]
          · rw [heap_setCell_other _ _ _ _ (by simp)]; exact H3.out
        · have e8 : k = 8 := by omega
          subst e8
          have HF : Hid (st8 (Sha.stir ⟨a, b, c, d, e, f, g, h⟩ bl.data.toList) = mix (toL (Sha.add ⟨a, b, c, d, e, f, g, h⟩ ⟨ra, rb, rc, rd, re, rf, rg, rh⟩)) (toL ⟨a, b, c, d, e, f, g, h⟩) 8) := by
            rw [mix_all _ _ rfl rfl, toL_arr, ← HRr.out]; rfl
          have hM8 := mix_size (toL (Sha.add ⟨a, b, c, d, e, f, g, h⟩ ⟨ra, rb, rc, rd, re, rf, rg, rh⟩)) (toL ⟨a, b, c, d, e, f, g, h⟩) 8 rfl rfl (by omega)
          have hM1 := mix_one (toL (Sha.add ⟨a, b, c, d, e, f, g, h⟩ ⟨ra, rb, rc, rd, re, rf, rg, rh⟩)) (toL ⟨a, b, c, d, e, f, g, h⟩) 8
          clear h2 h3 HRr
          generalize mix (toL (Sha.add ⟨a, b, c, d, e, f, g, h⟩ ⟨ra, rb, rc, rd, re, rf, rg, rh⟩)) (toL ⟨a, b, c, d, e, f, g, h⟩) 8 = M at *
          have HM8 : Hid (M.size = 8) := hM8
          clear hM8 hlt hk
          go_wp2_with (first | (refine wpList_load_row rfl 64 (.tmp 2) rfl w.heap.size rfl 64 M (0, 0) _ H2.out Tryz.underlying64 rfl (by rw [HM8.out]; exact Tryz.info28) ?_) | (refine wpList_store_row rfl 64 (.tmp 4) (.tmp 98) rfl (w.heap.size + 1) M rfl rfl 64 z H3.out (by rw [HM8.out]; exact Tryz.info28) (by rw [HM8.out, H8.out]) hM1 ?_))
          refine bodyPost_ret (v := .agg M) ?_ rfl ⟨by rw [HF.out], below_setRow hb (by omega) M⟩
          exact results_cell_row rfl _ _ (w.heap.size + 1) 64 M (0, 0) _ rfl (setRow_heap _ _ _ _ _ _ H3.out) Tryz.underlying64 rfl (by rw [HM8.out]; exact Tryz.info28)
end Go.Proofs.YtenaelkbgkpllaaGreatDoor
