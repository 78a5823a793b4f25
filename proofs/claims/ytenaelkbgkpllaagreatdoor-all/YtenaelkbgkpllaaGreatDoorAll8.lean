/- The reference's first 64 primes. -/
import Derived.Test.YtenaelkbgkpllaaGreatDoorAll7
import Derived.Laws.Tables
import Derived.Laws.CopyOwn
import Derived.Test.YtenaelkbgkpllaaGreatDoorAll5
import Derived.Test.YtenaelkbgkpllaaGreatDoorAll2
namespace Go.Proofs.YtenaelkbgkpllaaGreatDoor
open Go.RowKit
namespace Ref

theorem Tryz.info3 : (Tryz.prog.info? 3).map (fun i => (i.zero, i.size, i.bytes)) = some (some (.int .i64 0), 1, 8) := by kernel_rfl
abbrev I (n : Nat) : Value := .int .i64 n
def HasI (w : World) (v : Value) (l : List Nat) : Prop := ∃ (a : Option Addr) (c : Nat), v = .slice a l.length c ∧ (l ≠ [] → ∃ g, a = some ⟨g, 0, none⟩ ∧ ∀ i (hi : i < l.length), w.cell? ⟨g, i, none⟩ = some (I l[i]))
theorem hasI_of {w : World} {B n : Nat} {v : Value} {l : List Nat} (h : w.ownsRow B 3 1 v n (l.map I)) : HasI w v l := by
  obtain ⟨hlen, hv | ⟨g, cap, cur, rfl, hg, hheap, hcap, hmax, hcs, htake⟩⟩ := h
  · obtain ⟨rfl, rfl⟩ := hv
    have : l = [] := by simpa using hlen
    subst this
    exact ⟨none, 0, rfl, fun h => absurd rfl h⟩
  · have hl : l.length = n := by simpa using hlen
    subst hl
    refine ⟨some ⟨g, 0, none⟩, cap, rfl, fun _ => ⟨g, rfl, fun i hi => ?_⟩⟩
    have hc : w.cell? ⟨g, i, none⟩ = cur[i]? := by simp [World.cell?, hheap]
    rw [hc, ← Array.getElem?_toList]
    have e : (cur.toList.take (l.length * 1))[i]? = cur.toList[i]? := List.getElem?_take_of_lt (by omega)
    rw [← e, htake, List.getElem?_map, List.getElem?_eq_getElem hi]
    rfl
theorem prime_step (l : List Nat) (x i : Nat) (hi : i < l.length) : Big.prime (l.take (i + 1)) x = (Big.prime (l.take i) x && (x % l[i] != 0)) := by
  unfold Big.prime
  rw [List.take_succ_eq_append_getElem hi, List.all_append]
  simp
/-- what is known of the primes below a number -/
structure Step (x : Nat) (l : List Nat) (b : Bool) : Prop where
  len : l.length < 64
  pos : ∀ d ∈ l, 0 < d ∧ d < 1000
  is : Big.prime l x = b
  next : Big.below (x + 1) = if b then l ++ [x] else l
theorem P64_pos : ∀ d ∈ Big.P64, 0 < d ∧ d < 1000 := by decide
theorem step_of (x : Nat) (h2 : 2 ≤ x) (h : x ≤ 311) : Step x (Big.below x) (Big.P64.contains x) := by
  obtain ⟨n, rfl⟩ : ∃ n, x = n + 2 := ⟨x - 2, by omega⟩
  have hn : n ∈ List.range 310 := List.mem_range.2 (by omega)
  have h1 := List.all_eq_true.1 Big.below_all n hn
  have h3 := List.all_eq_true.1 Big.below_len n hn
  rw [Bool.and_eq_true, beq_iff_eq, beq_iff_eq] at h1
  refine ⟨of_decide_eq_true h3, fun d hd => P64_pos d (List.mem_filter.1 hd).1, h1.1, h1.2⟩

set_option maxRecDepth 100000 in
set_option maxHeartbeats 1000000 in
theorem primes_any (w : World) :
    Calls Tryz.prog 54 #[.int .i64 64] w fun e w' => ∃ v, e = .returned v ∧ w'.ownsRow w.heap.size 3 1 v 64 (Big.P64.map I) ∧ Below w.heap.size w w' := by
  obtain ⟨i0, hi, hz0, hz1, hz2⟩ := info_parts Tryz.info3
  go_enter Tryz.func54, Tryz.ntmps54
  go_wp2
  go_loopw [3, 4] (fun v xv wq => ∃ x : Nat, 2 ≤ x ∧ x ≤ 312 ∧ xv = .int .i64 x ∧ wq.ownsRow w.heap.size 3 1 v (Big.below x).length ((Big.below x).map I) ∧ Below w.heap.size w wq)
    (fun _ xv _ => 312 - (intOf xv).toNat)
  case atStart => exact ⟨2, by omega, by omega, rfl, by rw [Big.below_two]; exact World.ownsRow_nil _ _ _ _, Below.refl _ _⟩
  case round =>
    obtain ⟨x, hx2, hx1, rfl, hown, hb⟩ := hrel
    have hs := hb.size
    by_cases hlt : x ≤ 311
    · have HST := hide (step_of x hx2 hlt)
      have HI := hide (hasI_of hown)
      have HO := hide hown
      clear hown
      have hlen := HST.out.len
      generalize Big.P64.contains x = bb at *
      generalize Big.below x = l at *
      obtain ⟨a, c, e1, hc⟩ := HI.out
      subst e1
      have HC := hide hc
      clear hc
      go_wp2_with fail
      go_loopw [5, 6] (fun bv iv wq => ∃ i : Nat, i ≤ l.length ∧ iv = .int .i64 i ∧ bv = .bool (Big.prime (l.take i) x) ∧ wq = wr)
        (fun _ iv _ => l.length - (intOf iv).toNat)
      case atStart => exact ⟨0, Nat.zero_le _, rfl, rfl, rfl⟩
      case round =>
        obtain ⟨i, hi1, rfl, rfl, rfl⟩ := hrel
        by_cases hlt2 : i < l.length
        · obtain ⟨g, rfl, hcell⟩ := HC.out (fun e => by subst e; simp at hlt2)
          have hci := hcell i hlt2
          obtain ⟨hd0, hd1⟩ := HST.out.pos (l[i]) (List.getElem_mem hlt2)
          have HP := hide (prime_step l x i hlt2)
          generalize l[i] = d at *
          clear hcell
          by_cases hm : x % d = 0
          · have hmz : ((x : Int) % (d : Int) == 0) = true := by rw [beq_iff_eq]; omega
            go_wp2_with fail
            go_roundw
            case rel => exact ⟨i + 1, hlt2, by go_num, congrArg Value.bool (by rw [HP.out]; simp [hm]), by first | rfl | trivial⟩
            case measure => first | (simp [intOf]; done) | (simp [intOf]; omega)
          · have hmz : ((x : Int) % (d : Int) == 0) = false := by rw [beq_eq_false_iff_ne]; omega
            go_wp2_with fail
            go_roundw
            case rel => exact ⟨i + 1, hlt2, by go_num, congrArg Value.bool (by rw [HP.out]; simp [hm]), by first | rfl | trivial⟩
            case measure => first | (simp [intOf]; done) | (simp [intOf]; omega)
        · have e : i = l.length := by omega
          subst e
          rw [List.take_length, HST.out.is]
          have HNX := hide HST.out.next
          clear HST
          cases bb with
          | true =>
            have k1 : ∀ u ∈ [I x], u.oneCell' = true := fun u hu => by rw [List.mem_singleton.1 hu]; rfl
            have k3 : l.length + 1 ≤ maxLen := by unfold maxLen; omega
            have k5 : ∀ o, w.heap.size ≤ (wr.alloc o).heap.size := fun o => by simp; omega
            have K1 := hide k1
            have K3 := hide k3
            have K5 := hide k5
            clear k1 k3 k5
            go_wp2_with (at_builtin; refine wpList_append_own _ rfl (.tmp 27) (.tmp 29) 25 rfl w.heap.size 3 i0 (.int .i64 0) 1 8 Tryz.underlying25 hi hz0 hz1 hz2 rfl (by decide) _ l.length (l.map I) rfl (HO.out.alloc _) ⟨wr.heap.size, 0, none⟩ 1 1 [I x] rfl rfl (cell_one_new _ _ _) K1.out K3.out (by omega) (K5.out _) ?_)
            · intro v' w1 hown' hgrow _
              have hb1 : Below w.heap.size w w1 := (hb.alloc hs _).grown hgrow (by simp; omega) (fun k hk => (HO.out.lt k hk).1)
              have HO1 := hide hown'
              clear hown' hgrow
              go_wp2_with fail
              go_roundw
              case rel =>
                have hn := HNX.out
                rw [if_pos trivial] at hn
                refine ⟨x + 1, by omega, by omega, by go_num, ?_, hb1⟩
                rw [hn, List.length_append, List.map_append]
                exact HO1.out
              case measure => first | (simp [intOf]; done) | (simp [intOf]; omega)
          | false =>
            go_wp2_with fail
            go_roundw
            case rel =>
              have hn := HNX.out
              rw [if_neg (by decide)] at hn
              exact ⟨x + 1, by omega, by omega, by go_num, by rw [hn]; exact HO.out, hb⟩
            case measure => first | (simp [intOf]; done) | (simp [intOf]; omega)
    · have e : x = 312 := by omega
      subst e
      rw [Big.below_last] at hown
      have HI := hide (hasI_of hown)
      obtain ⟨a, c, e1, -⟩ := HI.out
      have HO := hide (show wr.ownsRow w.heap.size 3 1 _ 64 (Big.P64.map I) from hown)
      subst e1
      clear hown HI
      have hl : Big.P64.length = 64 := rfl
      rw [hl] at HO ⊢
      go_wp2_with fail
      go_ret
      exact ⟨_, rfl, HO.out, hb⟩
end Ref
end Go.Proofs.YtenaelkbgkpllaaGreatDoor
/- The reference's constants, worked out: they are the known ones. -/
namespace Go.Proofs.YtenaelkbgkpllaaGreatDoor
open Go.RowKit

namespace Big
/-- the constants behind i rounds -/
def wk (i : Nat) : List Nat := (Hs.take i ++ List.replicate (8 - i) 0) ++ (Ks.take i ++ List.replicate (64 - i) 0)
def wkSet (i : Nat) : List Nat := if i < 8 then ((wk i).set (8 + i) (Ks.getD i 0)).set i (Hs.getD i 0) else (wk i).set (8 + i) (Ks.getD i 0)
theorem wk_all : ((List.range 64).all fun i => (wkSet i == wk (i + 1)) && Nat.beq (wk i).length 72) = true := by kernel_rfl
theorem wk_last : wk 64 = Hs ++ Ks := by kernel_rfl
theorem wk_first : wk 0 = List.replicate 72 0 := by kernel_rfl
theorem wk_len64 : (wk 64).length = 72 := by kernel_rfl
theorem root_all : ((List.range 64).all fun i => Nat.beq (root (P64.getD i 0) 3) (Ks.getD i 0) && (decide (whole (P64.getD i 0) 3 ≤ 17) && (decide (P64.getD i 0 ≤ 311) && (decide (whole (P64.getD i 0) 2 ≤ 17) && (decide (8 ≤ i) || Nat.beq (root (P64.getD i 0) 2) (Hs.getD i 0)))))) = true := by kernel_rfl
structure At (i p k h : Nat) : Prop where
  is : P64.getD i 0 = p
  le : p ≤ 311
  w3 : whole p 3 ≤ 17
  w2 : whole p 2 ≤ 17
  r3 : root p 3 = k
  r2 : i < 8 → root p 2 = h
theorem at_of (i : Nat) (hi : i < 64) : At i (P64.getD i 0) (Ks.getD i 0) (Hs.getD i 0) := by
  have h := List.all_eq_true.1 root_all i (List.mem_range.2 hi)
  simp only [Bool.and_eq_true, Bool.or_eq_true, decide_eq_true_eq, Nat.beq_eq] at h
  obtain ⟨h1, h2, h3, h4, h5⟩ := h
  exact ⟨rfl, h3, h2, h4, h1, fun h8 => by rcases h5 with h' | h'; (· omega); exact h'⟩
theorem wk_step (i : Nat) (hi : i < 64) : wkSet i = wk (i + 1) ∧ (wk i).length = 72 := by
  have h := List.all_eq_true.1 wk_all i (List.mem_range.2 hi)
  rw [Bool.and_eq_true, beq_iff_eq] at h
  exact ⟨h.1, Nat.eq_of_beq_eq_true h.2⟩
end Big
namespace Ref
theorem rowU_set {w : World} {g i t : Nat} {l : List Nat} {x : Nat} (h : w.heap[g]? = some (.cells (l.map U).toArray t (0, 0))) :
    (w.setCell ⟨g, i, none⟩ (U x)).heap[g]? = some (.cells ((l.set i x).map U).toArray t (0, 0)) := by
  rw [heap_setCell_same _ _ _ _ _ _ h, List.setIfInBounds_toArray, List.map_set]
theorem rowU_cell {w : World} {g i t : Nat} {l : List Nat} (h : w.heap[g]? = some (.cells (l.map U).toArray t (0, 0))) (hi : i < l.length) : ∃ v, w.cell? ⟨g, i, none⟩ = some v := by
  rw [cell_of_row _ _ _ _ _ _ h, List.getElem?_toArray, List.getElem?_map, List.getElem?_eq_getElem hi]
  exact ⟨_, rfl⟩
theorem Tryz.array28 : Tryz.prog.underlying 65 = some (.array (Tryz.prog.arrayLen 65) (Tryz.prog.elem 65)) := by kernel_rfl
theorem Tryz.arrayLen28 : Tryz.prog.arrayLen 65 = 64 := by kernel_rfl
theorem Tryz.elem28 : Tryz.prog.elem 65 = 63 := by kernel_rfl
theorem Tryz.array27 : Tryz.prog.underlying 64 = some (.array (Tryz.prog.arrayLen 64) (Tryz.prog.elem 64)) := by kernel_rfl
theorem Tryz.arrayLen27 : Tryz.prog.arrayLen 64 = 8 := by kernel_rfl
theorem Tryz.elem27 : Tryz.prog.elem 64 = 63 := by kernel_rfl
theorem Tryz.size26 (w : World) : (sizeOf 63).run Tryz.prog w = .ok 1 w := by kernel_rfl
theorem add_off (g o k : Nat) : (⟨g, o, none⟩ : Addr).add k = ⟨g, o + k, none⟩ := by unfold Addr.add; split <;> simp_all
theorem idx28 (g o : Nat) (i : Int) (k : Nat) (h : i = k) (hk : k < 64) (W : World) :
    (Instr.indexAt 65 (.pointer (some ⟨g, o, none⟩)) (.int .i64 i)).run Tryz.prog W = .ok (.pointer (some ⟨g, o + k, none⟩)) W := by
  subst h
  rw [run_indexAt_array W 65 _ _ _ Tryz.array28, Tryz.arrayLen28, Tryz.elem28, if_pos (by omega), Tryz.size26]
  simp only [Result.andThen_ok, add_off, Int.toNat_natCast, Nat.mul_one]
theorem idx27 (g o : Nat) (i : Int) (k : Nat) (h : i = k) (hk : k < 8) (W : World) :
    (Instr.indexAt 64 (.pointer (some ⟨g, o, none⟩)) (.int .i64 i)).run Tryz.prog W = .ok (.pointer (some ⟨g, o + k, none⟩)) W := by
  subst h
  rw [run_indexAt_array W 64 _ _ _ Tryz.array27, Tryz.arrayLen27, Tryz.elem27, if_pos (by omega), Tryz.size26]
  simp only [Result.andThen_ok, add_off, Int.toNat_natCast, Nat.mul_one]
theorem Tryz.info30 : (Tryz.prog.info? 67).map (·.size) = some 72 := by kernel_rfl
theorem list_of {w : World} {B : Nat} {v : Value} (h : w.ownsRow B 3 1 v 64 (Big.P64.map I)) : ∃ g c, v = .slice (some ⟨g, 0, none⟩) 64 c ∧ B ≤ g ∧ g < w.heap.size ∧ ∀ i, i < 64 → w.cell? ⟨g, i, none⟩ = some (I (Big.P64.getD i 0)) := by
  have hI := hasI_of h
  obtain ⟨hlen, hv | ⟨g, cap, cur, rfl, hg, hheap, -⟩⟩ := h
  · exact absurd hv.2 (by decide)
  · obtain ⟨a, c, e1, hc⟩ := hI
    obtain ⟨g', e2, hcell⟩ := hc (by decide)
    injection e1 with e3 e4 e5
    rw [e2] at e3
    injection e3 with e6
    injection e6 with e7
    subst e7
    refine ⟨g, cap, rfl, hg, ?_, fun i hi => ?_⟩
    · rcases Nat.lt_or_ge g w.heap.size with h' | h'
      · exact h'
      · rw [Array.getElem?_eq_none h'] at hheap; cases hheap
    · have hl : i < Big.P64.length := hi
      rw [hcell i hl, List.getD_eq_getElem?_getD, List.getElem?_eq_getElem hl, Option.getD_some]
theorem hasI_below {w w' : World} {v : Value} {l : List Nat} (h : HasI w v l) (hb : Below w.heap.size w w') : HasI w' v l := by
  obtain ⟨a, c, rfl, hc⟩ := h
  refine ⟨a, c, rfl, fun hne => ?_⟩
  obtain ⟨g, rfl, hcell⟩ := hc hne
  refine ⟨g, rfl, fun i hi => ?_⟩
  have h0 := hcell i hi
  rw [hb.cell (p := ⟨g, i, none⟩) (block_lt_of_cell h0)]
  exact h0

set_option maxRecDepth 100000 in
set_option maxHeartbeats 1000000 in
theorem worked_any (w : World) :
    Calls Tryz.prog 26 #[] w fun e w' => e = .returned (.agg ((Big.Hs ++ Big.Ks).map U).toArray) ∧ Below w.heap.size w w' := by
  go_enter Tryz.func26, Tryz.ntmps26
  go_wp2_with fail
  refine (primes_any _).mono ?_
  rintro e w1 ⟨v, rfl, hown, hb1⟩
  have hz : w.heap.size + 1 < w1.heap.size ∨ w.heap.size + 2 = w1.heap.size := by have := hb1.size; simp at this; omega
  have hz2 : w.heap.size + 2 ≤ w1.heap.size := by have := hb1.size; simp at this; omega
  have h1row : w1.heap[w.heap.size + 1]? = some (.cells ((Big.wk 0).map U).toArray 67 (0, 0)) := by
    rw [Big.wk_first]; exact (hb1.block (w.heap.size + 1) (by simp)).trans (heap_alloc2_new w _ _)
  have h0row : ∃ z : Array Value, z.size = 72 ∧ w1.heap[w.heap.size]? = some (.cells z 67 (0, 0)) :=
    ⟨_, rfl, (hb1.block w.heap.size (by simp; omega)).trans (heap_alloc2_old w _ _)⟩
  have hbw : Below w.heap.size w w1 := (((Below.refl _ _).alloc (Nat.le_refl _) _).alloc (by simp) _).trans (hb1.mono (by simp; omega))
  obtain ⟨z, hz72, h0row⟩ := h0row
  obtain ⟨gl, cl, rfl, hg0, hg1, hcl⟩ := list_of hown
  have hg2 : w.heap.size + 2 ≤ gl := by simpa using hg0
  have HCL := hide hcl
  have H1 := hide h1row
  have H0 := hide h0row
  have HZ := hide hz72
  have HB := hide hbw
  clear hown hb1 h1row h0row hz72 hbw hz hcl hg0
  go_wp2_with fail
  go_loopw [3] (fun iv wq => ∃ i : Nat, i ≤ 64 ∧ iv = .int .i64 i ∧ wq.heap[w.heap.size + 1]? = some (.cells ((Big.wk i).map U).toArray 67 (0, 0)) ∧ wq.heap[w.heap.size]? = some (.cells z 67 (0, 0)) ∧ gl < wq.heap.size ∧ (∀ j, j < 64 → wq.cell? ⟨gl, j, none⟩ = some (I (Big.P64.getD j 0))) ∧ Below w.heap.size w wq)
    (fun iv _ => 64 - (intOf iv).toNat)
  case atStart => exact ⟨0, by omega, rfl, H1.out, H0.out, hg1, HCL.out, HB.out⟩
  case round =>
    clear H1 H0 HCL HB hg1 hz2
    obtain ⟨i, hi, rfl, h1, h0, hgl, hcl, hb⟩ := hrel
    have hs := hb.size
    by_cases hlt : i < 64
    · have hat := Big.at_of i hlt
      obtain ⟨hws, hwl⟩ := Big.wk_step i hlt
      have hci := hcl i hlt
      obtain ⟨old, hold⟩ := rowU_cell (i := 8 + i) h1 (by omega)
      have hfz : ∀ j, wr.frozen? ⟨w.heap.size + 1, j, none⟩ = false := fun j => frozen_of_row _ _ _ _ _ h1
      have ix := idx28 (w.heap.size + 1) 8 (i : Int) i rfl hlt
      have HWS := hide hws
      have H1 := hide h1
      have H0 := hide h0
      have HCL := hide hcl
      have HAT := hide hat
      have HWL := hide hwl
      clear hws h1 h0 hcl hat hwl
      unfold Big.wkSet at HWS
      generalize Big.P64.getD i 0 = p at *
      generalize Big.Ks.getD i 0 = kk at *
      generalize Big.Hs.getD i 0 = hh at *
      have hp := HAT.out.le
      go_wp2_with fail
      refine (cut3_any p _ hp HAT.out.w3).mono ?_
      rintro e w3 ⟨rfl, hb3⟩
      rw [HAT.out.r3]
      have q1 := hide ((hb3.block (w.heap.size + 1) (by omega)).trans H1.out)
      have q0 := hide ((hb3.block w.heap.size (by omega)).trans H0.out)
      have qc := hide (fun j hj => (hb3.cell (p := ⟨gl, j, none⟩) hgl).trans (HCL.out j hj))
      have hold3 : w3.cell? ⟨w.heap.size + 1, 8 + i, none⟩ = some old := (hb3.cell (p := ⟨w.heap.size + 1, 8 + i, none⟩) (by show w.heap.size + 1 < wr.heap.size; omega)).trans hold
      have hfz3 : ∀ j, w3.frozen? ⟨w.heap.size + 1, j, none⟩ = false := fun j => frozen_of_row _ _ _ _ _ q1.out
      have hb3w := hb.trans (hb3.mono hs)
      have hs3 := hb3.size
      clear H1 H0 HCL hold hfz
      by_cases h8 : i < 8
      · have hc4 : (w3.setCell ⟨w.heap.size + 1, 8 + i, none⟩ (U kk)).cell? ⟨gl, i, none⟩ = some (I p) := by
          rw [World.cell?_setCell_other _ _ _ _ (fun e => by injection e with e1 _ _; omega)]; exact (hb3.cell (p := ⟨gl, i, none⟩) hgl).trans hci
        have ix2 := fun W => (idx27 (w.heap.size + 1) 0 (i : Int) i rfl h8 W).trans (by rw [Nat.zero_add])
        have r4 := hide (rowU_set (i := 8 + i) (x := kk) q1.out)
        have r40 := hide ((heap_setCell_other w3 ⟨w.heap.size + 1, 8 + i, none⟩ w.heap.size (U kk) (by simp)).trans q0.out)
        have r4c := hide (fun j hj => (World.cell?_setCell_other w3 ⟨w.heap.size + 1, 8 + i, none⟩ ⟨gl, j, none⟩ (U kk) (fun e => by injection e with e1 _ _; omega)).trans (qc.out j hj))
        have hb4w := hb3w.setCell (p := ⟨w.heap.size + 1, 8 + i, none⟩) (by simp) (U kk)
        go_wp2_with fail
        refine (cut2_any p _ hp HAT.out.w2).mono ?_
        rintro e w5 ⟨rfl, hb5⟩
        rw [HAT.out.r2 h8]
        have hz5 : gl < w5.heap.size := Nat.lt_of_lt_of_le (by simp; omega) hb5.size
        have t1 := hide ((hb5.block (w.heap.size + 1) (by simp; omega)).trans r4.out)
        have t0 := hide ((hb5.block w.heap.size (by simp; omega)).trans r40.out)
        have tc := hide (fun j hj => (hb5.cell (p := ⟨gl, j, none⟩) (by simp; omega)).trans (r4c.out j hj))
        have hb5w := hb4w.trans (hb5.mono (by simp; omega))
        obtain ⟨old5, hold5⟩ := rowU_cell (i := i) t1.out (by rw [List.length_set, HWL.out]; omega)
        have hfz5 : ∀ j, w5.frozen? ⟨w.heap.size + 1, j, none⟩ = false := fun j => frozen_of_row _ _ _ _ _ t1.out
        clear hc4 r4 r40 r4c hold3 hfz3
        go_wp2_with fail
        go_roundw
        case rel =>
          refine ⟨i + 1, hlt, by go_num, ?_, ?_, by simpa using hz5, fun j hj => ?_, hb5w.setCell (by simp) _⟩
          · rw [rowU_set t1.out]
            have := HWS.out
            rw [if_pos h8] at this
            rw [this]
          · rw [heap_setCell_other _ _ _ _ (by simp)]; exact t0.out
          · rw [World.cell?_setCell_other _ _ _ _ (fun e => by injection e with e1 _ _; omega)]; exact tc.out j hj
        case measure => first | (simp [intOf]; done) | (simp [intOf]; omega)
      · go_wp2_with fail
        go_roundw
        case rel =>
          refine ⟨i + 1, hlt, by go_num, ?_, ?_, by simp; omega, fun j hj => ?_, hb3w.setCell (by simp) _⟩
          · rw [rowU_set q1.out]
            have := HWS.out
            rw [if_neg h8] at this
            rw [this]
          · rw [heap_setCell_other _ _ _ _ (by simp)]; exact q0.out
          · rw [World.cell?_setCell_other _ _ _ _ (fun e => by injection e with e1 _ _; omega)]; exact qc.out j hj
        case measure => first | (simp [intOf]; done) | (simp [intOf]; omega)
    · have e : i = 64 := by omega
      subst e
      have hA : ((Big.wk 64).map U).toArray.size = 72 := by rw [List.size_toArray, List.length_map, Big.wk_len64]
      have hA1 : ((Big.wk 64).map U).toArray.all (·.oneCell') = true := by
        rw [List.all_toArray, List.all_eq_true]
        intro v hv
        obtain ⟨n, _, rfl⟩ := List.mem_map.1 hv
        rfl
      have HE := hide (show ((Big.Hs ++ Big.Ks).map U).toArray = ((Big.wk 64).map U).toArray by rw [Big.wk_last])
      have H1 := hide h1
      have H0 := hide h0
      generalize ((Big.wk 64).map U).toArray = A at *
      have HI := hide (show (Tryz.prog.info? 67).map (·.size) = some A.size by rw [hA]; exact Tryz.info30)
      have HZA := hide (show z.size = A.size by rw [hA, HZ.out])
      clear hcl h1 h0 hA hlt hi
      go_wp2_with (first | (refine wpList_load_row rfl 67 (.tmp 1) rfl (w.heap.size + 1) rfl 67 A (0, 0) _ H1.out Tryz.underlying67 rfl HI.out ?_) | (refine wpList_store_row rfl 67 (.tmp 0) (.tmp 27) rfl w.heap.size A rfl rfl 67 z H0.out HI.out HZA.out hA1 ?_))
      refine bodyPost_ret (v := .agg A) ?_ rfl ⟨by rw [HE.out], below_setRow hb (Nat.le_refl _) A⟩
      exact results_cell_row rfl _ _ w.heap.size 67 A (0, 0) _ rfl (setRow_heap _ _ _ _ _ _ H0.out) Tryz.underlying67 rfl HI.out
end Ref
end Go.Proofs.YtenaelkbgkpllaaGreatDoor
/- Append to a row of one's own: the row is the old one, or all that was there is as it was. -/
namespace Go.Proofs.YtenaelkbgkpllaaGreatDoor
open Go.RowKit

/-- the row is the old one, or a new one, and then nothing else has changed -/
def Moved (w w' : World) (v v' : Value) : Prop := v'.ownBlock = v.ownBlock ∨ ∃ g, v'.ownBlock = some g ∧ w.heap.size ≤ g ∧ Below w.heap.size w w'
theorem Moved.fresh {w w' : World} {v v' : Value} (h : Moved w w' v v') : Fresh w v v' := by
  rcases h with h | ⟨g, h1, h2, _⟩
  · exact .inl h
  · exact .inr ⟨g, h1, h2⟩
theorem run_append_own3 {P : Program} (w : World) (base : Nat) (t ty e : TypeId) (i : TypeInfo) (z : Value) (size bytes : Nat) (ht : P.underlying t = some (.slice e)) (hi : P.info? e = some i) (hz : i.zero = some z)
    (hsize : i.size = size) (hby : i.bytes = bytes) (hzs : z.cells.size = size) (hsz : 0 < size)
    (v : Value) (n : Nat) (xs : List Value) (hown : w.ownsRow base e size v n xs)
    (a : Addr) (m c : Nat) (news : List Value) (hl : news.length = m * size) (hnews : ∀ j u, news[j]? = some u → w.cell? (a.add j) = some u) (h1 : ∀ u ∈ news, u.oneCell' = true)
    (h63 : n + m ≤ maxLen) (hbytes : (n + m) * bytes ≤ 140737488355328) (hbase : base ≤ w.heap.size) :
    ∃ v' w', (Builtin.append_ #[t, t] ty #[v, .slice (some a) m c]).run P w = .ok v' w' ∧ w'.ownsRow base e size v' (n + m) (xs ++ news) ∧ w.grownBy w' v.ownBlock ∧ Moved w w' v v' := by
  obtain ⟨v', w', hr, ho, hg, -⟩ := run_append_own w base t ty e i z size bytes ht hi hz hsize hby hzs hsz v n xs hown a m c news hl hnews h1 h63 hbytes hbase
  refine ⟨v', w', hr, ho, hg, ?_⟩
  have h63' := h63
  unfold maxLen at h63'
  rcases hown.2 with ⟨rfl, rfl⟩ | ⟨g, cap, cur, rfl, hb, hgg, hcap, hmax, hcs, htake⟩
  · have hbl : Below w.heap.size w w' := ⟨hg.os, hg.tape, hg.output, hg.size, fun j hj => hg.block j hj (by simp [Value.ownBlock])⟩
    obtain ⟨v2, w2, hr2, ho2, -⟩ := run_append_own w w.heap.size t ty e i z size bytes ht hi hz hsize hby hzs hsz (.slice none 0 0) 0 [] (World.ownsRow_nil _ _ _ _) a m c news hl hnews h1 h63 hbytes (Nat.le_refl _)
    rw [hr] at hr2
    injection hr2 with e1 e2
    subst e1
    rcases ho2.2 with ⟨rfl, _⟩ | ⟨g, cap, cur, rfl, hb, _⟩
    · exact .inl rfl
    · exact .inr ⟨g, rfl, hb, hbl⟩
  · subst hsize
    by_cases hroom : n + m ≤ cap
    · have hx : n * i.size + news.length ≤ cur.size := by
        rw [hl, hcs, ← Nat.add_mul]; exact Nat.mul_le_mul_right _ hroom
      have hr2 := run_append_room w t ty e i ht hi g n cap cur hgg a m c news hl hnews h1 hroom hx
      rw [hr] at hr2
      injection hr2 with e1 e2
      subst e1
      exact .inl rfl
    · have hold : ∀ j u, xs[j]? = some u → w.cell? ((⟨g, 0, none⟩ : Addr).add j) = some u := hown.cells rfl
      have hr2 := run_append_grow (P := P) w t ty e i z ht hi hz ⟨g, 0, none⟩ n cap xs hown.1 hold a m c news hl hnews (by omega) (by omega) (by rw [hby]; exact growslice_fits (by omega) hbytes)
      rw [hr] at hr2
      injection hr2 with e1 e2
      subst e1
      refine .inr ⟨_, rfl, Nat.le_refl _, ?_⟩
      rw [e2]
      exact ((Below.refl w.heap.size w).drew).alloc (Nat.le_refl _) _
theorem wpList_append_own3 {P : Program} (w : World) {ops : Array Oper} {rest : List Oper} {o : Oper} {a : Act} {Q : Exit → Act → World → Prop} (hgd : o.guard = none) (s x : Operand) (t : TypeId)
    (ho : o.op = .call { callee := .builtin .append, args := #[s, x], argTypes := #[t, t] })
    (base : Nat) (e : TypeId) (i : TypeInfo) (z : Value) (size bytes : Nat) (ht : P.underlying t = some (.slice e)) (hi : P.info? e = some i) (hz : i.zero = some z)
    (hsize : i.size = size) (hby : i.bytes = bytes) (hzs : z.cells.size = size) (hsz : 0 < size)
    (v : Value) (n : Nat) (xs : List Value) (hs : a.eval s = v) (hown : w.ownsRow base e size v n xs)
    (ad : Addr) (m c : Nat) (news : List Value) (hx : a.eval x = .slice (some ad) m c) (hl : news.length = m * size) (hnews : ∀ j u, news[j]? = some u → w.cell? (ad.add j) = some u) (h1 : ∀ u ∈ news, u.oneCell' = true)
    (h63 : n + m ≤ maxLen) (hbytes : (n + m) * bytes ≤ 140737488355328) (hbase : base ≤ w.heap.size)
    (h : ∀ v' w', w'.ownsRow base e size v' (n + m) (xs ++ news) → w.grownBy w' v.ownBlock → Moved w w' v v' → wpList P ops Q rest (a.put o.dst v') w') : wpList P ops Q (o :: rest) a w := by
  obtain ⟨v', w', hr, h1', h2', h3'⟩ := run_append_own3 (P := P) w base t o.type e i z size bytes ht hi hz hsize hby hzs hsz v n xs hown ad m c news hl hnews h1 h63 hbytes hbase
  exact Lib.wpList_append_run w hgd s x t t ho v _ hs hx v' w' hr (h v' w' h1' h2' h3')
end Go.Proofs.YtenaelkbgkpllaaGreatDoor
/- Queries, distances, the answers to them, what must be shown. -/
namespace Go.Proofs.YtenaelkbgkpllaaGreatDoor
namespace Ward
/-- a query -/
structure Qr where
  kind : Int
  a : Int
  b : Int
  c : Int
  d : Int
  x : Int
  y : Int
  k : Int
def coordOk (n : Int) : Bool := decide (-1000000 ≤ n ∧ n ≤ 1000000)
theorem coord_yes {n : Int} (h : -1000000 ≤ n ∧ n ≤ 1000000) : coordOk n = true := decide_eq_true h
theorem coord_no {n : Int} (h : ¬ (-1000000 ≤ n ∧ n ≤ 1000000)) : coordOk n = false := decide_eq_false h
def boxMay (b : Box) : Bool := coordOk b.a && coordOk b.b && coordOk b.c && coordOk b.d && decide (b.a ≤ b.c) && decide (b.b ≤ b.d)
def window (q : Qr) : Box := ⟨q.a, q.b, q.c, q.d⟩
def mayBe (q : Qr) : Bool := if q.kind = 0 then boxMay (window q) else if q.kind = 1 then coordOk q.x && coordOk q.y && decide (1 ≤ q.k) && decide (q.k ≤ 20) else false
/-- how far a box is from a place -/
def gap (lo hi x : Int) : Int := max (max (lo - x) 0) (x - hi)
def dist (b : Box) (x y : Int) : Int := gap b.a b.c x * gap b.a b.c x + gap b.b b.d y * gap b.b b.d y
def distP (p : Pt) (x y : Int) : Int := dist (boxOf p) x y
theorem gap_nonneg (lo hi x : Int) : 0 ≤ gap lo hi x := by unfold gap; omega
theorem dist_nonneg (b : Box) (x y : Int) : 0 ≤ dist b x y := by
  unfold dist
  have h1 := Int.mul_nonneg (gap_nonneg b.a b.c x) (gap_nonneg b.a b.c x)
  have h2 := Int.mul_nonneg (gap_nonneg b.b b.d y) (gap_nonneg b.b b.d y)
  omega
theorem gap_mono {lo hi lo' hi' x : Int} (h1 : lo ≤ lo') (h2 : hi' ≤ hi) : gap lo hi x ≤ gap lo' hi' x := by unfold gap; omega
/-- a box holds another -/
def Box.has (b c : Box) : Prop := b.a ≤ c.a ∧ b.b ≤ c.b ∧ c.c ≤ b.c ∧ c.d ≤ b.d
theorem dist_mono {b c : Box} (h : b.has c) (x y : Int) : dist b x y ≤ dist c x y := by
  obtain ⟨h1, h2, h3, h4⟩ := h
  unfold dist
  have g1 := gap_mono (x := x) h1 h3
  have g2 := gap_mono (x := y) h2 h4
  have e1 := Int.mul_le_mul g1 g1 (gap_nonneg _ _ _) (gap_nonneg _ _ _)
  have e2 := Int.mul_le_mul g2 g2 (gap_nonneg _ _ _) (gap_nonneg _ _ _)
  omega
/-- which of two points is nearer, by id where none is -/
def nr (x y : Int) (p q : Pt) : Prop := distP p x y < distP q x y ∨ (distP p x y = distP q x y ∧ p.id < q.id)
instance (x y : Int) (p q : Pt) : Decidable (nr x y p q) := by unfold nr; infer_instance
theorem nr_irrefl (x y : Int) (p : Pt) : ¬ nr x y p p := by unfold nr; omega
theorem nr_trans {x y : Int} {p q r : Pt} (h : nr x y p q) (k : nr x y q r) : nr x y p r := by unfold nr at *; omega
theorem nr_total {x y : Int} {p q : Pt} (hn : p.id ≠ q.id) (h : ¬ nr x y p q) : nr x y q p := by unfold nr at *; omega
section
variable (r : Pt → Pt → Prop) [∀ p q, Decidable (r p q)]
/-- a point put in at its place, by whatever order -/
def insR (p : Pt) (l : List Pt) : List Pt := l.takeWhile (fun q => decide (r q p)) ++ p :: l.dropWhile (fun q => decide (r q p))
def sortR (l : List Pt) : List Pt := l.foldr (insR r) []
theorem insR_perm (p : Pt) (l : List Pt) : (insR r p l).Perm (p :: l) := by
  unfold insR
  have := List.perm_middle (a := p) (l₁ := l.takeWhile (fun q => decide (r q p))) (l₂ := l.dropWhile (fun q => decide (r q p)))
  rw [List.takeWhile_append_dropWhile] at this
  exact this
theorem sortR_perm : ∀ (l : List Pt), (sortR r l).Perm l
  | [] => List.Perm.refl _
  | p :: l => (insR_perm r p (sortR r l)).trans ((sortR_perm l).cons p)
end
section
variable {r : Pt → Pt → Prop} [∀ p q, Decidable (r p q)]
theorem takeWhile_r {p : Pt} : ∀ {l : List Pt}, ∀ q ∈ l.takeWhile (fun q => decide (r q p)), r q p
  | q :: l, s, hs => by
    by_cases h : r q p
    · simp [List.takeWhile, h] at hs
      rcases hs with rfl | hs
      · exact h
      · exact takeWhile_r s hs
    · simp [List.takeWhile, h] at hs
theorem dropWhile_r {p : Pt} (ht : ∀ a b c : Pt, r a b → r b c → r a c) : ∀ {l : List Pt}, l.Pairwise r → ∀ q ∈ l.dropWhile (fun q => decide (r q p)), ¬ r q p
  | q :: l, hs, s, hr => by
    obtain ⟨h1, h2⟩ := List.pairwise_cons.1 hs
    by_cases h : r q p
    · simp [List.dropWhile, h] at hr
      exact dropWhile_r ht h2 s hr
    · simp [List.dropWhile, h] at hr
      rcases hr with rfl | hr
      · exact h
      · exact fun k => h (ht _ _ _ (h1 s hr) k)
theorem insR_sorted (ht : ∀ a b c : Pt, r a b → r b c → r a c) (hto : ∀ a b : Pt, a.id ≠ b.id → ¬ r a b → r b a) {p : Pt} {l : List Pt} (h : l.Pairwise r) (hn : ∀ q ∈ l, q.id ≠ p.id) : (insR r p l).Pairwise r := by
  unfold insR
  refine List.pairwise_append.2 ⟨h.sublist (List.takeWhile_sublist _), List.pairwise_cons.2 ⟨fun q hq => ?_, h.sublist (List.dropWhile_sublist _)⟩, fun q hq s hs => ?_⟩
  · exact hto _ _ (hn q ((List.dropWhile_sublist _).subset hq)) (dropWhile_r ht h q hq)
  · rcases List.mem_cons.1 hs with rfl | hs
    · exact takeWhile_r q hq
    · have hall : (l.takeWhile (fun q => decide (r q p)) ++ l.dropWhile (fun q => decide (r q p))).Pairwise r := by rw [List.takeWhile_append_dropWhile]; exact h
      exact (List.pairwise_append.1 hall).2.2 q hq s hs
theorem sortR_sorted (ht : ∀ a b c : Pt, r a b → r b c → r a c) (hto : ∀ a b : Pt, a.id ≠ b.id → ¬ r a b → r b a) : ∀ {l : List Pt}, Ids l → (sortR r l).Pairwise r
  | [], _ => List.Pairwise.nil
  | p :: l, h => by
    obtain ⟨h1, h2⟩ := List.pairwise_cons.1 h
    exact insR_sorted ht hto (sortR_sorted ht hto h2) fun q hq => (h1 q ((sortR_perm r l).mem_iff.1 hq)).symm
end
theorem eq_of_sorted {r : Pt → Pt → Prop} (hi : ∀ a, ¬ r a a) (ht : ∀ a b c : Pt, r a b → r b c → r a c) {l m : List Pt} (hl : l.Pairwise r) (hm : m.Pairwise r) (h : l.Perm m) : l = m :=
  h.eq_of_pairwise (fun a _ _ _ hab hba => absurd (ht _ _ _ hab hba) (hi a)) hl hm
theorem lt_tot {p q : Pt} (hn : p.id ≠ q.id) (h : ¬ lt p q) : lt q p := by unfold lt at *; omega
/-- in order -/
def sortP (l : List Pt) : List Pt := sortR lt l
/-- the nearest first -/
def sortN (x y : Int) (l : List Pt) : List Pt := sortR (nr x y) l
theorem sortP_perm (l : List Pt) : (sortP l).Perm l := sortR_perm _ l
theorem sortN_perm (x y : Int) (l : List Pt) : (sortN x y l).Perm l := sortR_perm _ l
theorem sortP_sorted {l : List Pt} (h : Ids l) : Sorted (sortP l) := sortR_sorted (r := lt) (fun _ _ _ => lt_trans) (fun _ _ => lt_tot) h
theorem sortN_sorted {x y : Int} {l : List Pt} (h : Ids l) : (sortN x y l).Pairwise (nr x y) := sortR_sorted (r := nr x y) (fun _ _ _ => nr_trans) (fun _ _ => nr_total) h
theorem sortP_eq {l m : List Pt} (hm : Sorted m) (h : m.Perm l) (hi : Ids l) : sortP l = m := sorted_eq (sortP_sorted hi) hm ((sortP_perm l).trans h.symm)
theorem sortN_eq {x y : Int} {l m : List Pt} (hm : m.Pairwise (nr x y)) (h : m.Perm l) (hi : Ids l) : sortN x y l = m := eq_of_sorted (r := nr x y) (nr_irrefl x y) (fun _ _ _ => nr_trans) (sortN_sorted hi) hm ((sortN_perm x y l).trans h.symm)
theorem sortN_congr {x y : Int} {l m : List Pt} (h : m.Perm l) (hi : Ids l) : sortN x y m = sortN x y l := (sortN_eq (x := x) (y := y) (sortN_sorted ((ids_perm h).2 hi)) ((sortN_perm x y m).trans h) hi).symm
theorem sortP_congr {l m : List Pt} (h : m.Perm l) (hi : Ids l) : sortP m = sortP l := (sortP_eq (sortP_sorted ((ids_perm h).2 hi)) ((sortP_perm m).trans h) hi).symm
/-- the nearest of all comes first -/
theorem sortN_head {x y : Int} {p : Pt} {l m : List Pt} (h : l.Perm (p :: m)) (hi : Ids l) (hp : ∀ q ∈ m, nr x y p q) : sortN x y l = p :: sortN x y m := by
  have hi' : Ids (p :: m) := (ids_perm h).1 hi
  refine sortN_eq (List.pairwise_cons.2 ⟨fun q hq => hp q ((sortN_perm x y m).mem_iff.1 hq), sortN_sorted (List.pairwise_cons.1 hi').2⟩) ?_ hi
  exact ((sortN_perm x y m).cons p).trans h.symm
/-- is a point in a box -/
def inB (b : Box) (p : Pt) : Bool := meets b (boxOf p)
/-- the answer of these points -/
def ans (q : Qr) (P : List Pt) : List Pt := if q.kind = 1 then (sortN q.x q.y P).take q.k.toNat else sortP (P.filter (inB (window q)))
theorem ids_sub {l m : List Pt} (h : m.Sublist l) (hl : Ids l) : Ids m := hl.sublist h
theorem ans_congr {q : Qr} {l m : List Pt} (h : m.Perm l) (hi : Ids l) : ans q m = ans q l := by
  unfold ans
  split
  · rw [sortN_congr h hi]
  · exact sortP_congr (h.filter _) (ids_sub List.filter_sublist hi)
/-- a child of that box must be shown -/
def must (q : Qr) (a : List Pt) (b : Box) : Bool :=
  if q.kind = 0 then meets (window q) b else if (a.length : Int) < q.k then true else decide (dist b q.x q.y ≤ match a.getLast? with | some p => distP p q.x q.y | none => 0)
/-- all points below a node -/
def allN : (n : Nat) → NT n → List Pt
  | 0, t => nomatch t
  | n + 1, t => Nd.pts t ++ (Nd.kids t).flatMap (allN n)
/-- what is said of the boxes holds all that is below -/
def Encl : (n : Nat) → NT n → Prop
  | 0, t => nomatch t
  | n + 1, t => (∀ p ∈ Nd.pts t, (Nd.box t).has (boxOf p)) ∧ ∀ c ∈ Nd.kids t, (∀ p ∈ allN n c, (boxN n c).has (boxOf p)) ∧ Encl n c
end Ward
end Go.Proofs.YtenaelkbgkpllaaGreatDoor
/- Windows, boxes that may be, queries that may be. -/
namespace Go.Proofs.YtenaelkbgkpllaaGreatDoor
open Go.RowKit

/-- a query as a value -/
abbrev Qv (q : Ward.Qr) : Value := .agg #[I q.kind, I q.a, I q.b, I q.c, I q.d, I q.x, I q.y, I q.k]
theorem Tryz.infoQuery : (Tryz.prog.info? 46).map (·.size) = some 8 := by kernel_rfl

set_option maxHeartbeats 2000000 in
theorem meets_any (p q : Ward.Box) (w : World) :
    Calls Tryz.prog 78 #[Bx p, Bx q] w fun e w' => e = .returned (.bool (Ward.meets p q)) ∧ Below w.heap.size w w' := by
  obtain ⟨pa, pb, pc, pd⟩ := p
  obtain ⟨qa, qb, qc, qd⟩ := q
  by_cases h1 : pa ≤ qc
  · by_cases h2 : qa ≤ pc
    · by_cases h3 : pb ≤ qd
      · by_cases h4 : qb ≤ pd
        · rw [show Ward.meets ⟨pa, pb, pc, pd⟩ ⟨qa, qb, qc, qd⟩ = true by simp [Ward.meets, h1, h2, h3, h4]]
          go_enter Tryz.func78, Tryz.ntmps78
          go_wp2
          go_ret
          exact ⟨rfl, ((Below.refl w.heap.size w).alloc (Nat.le_refl _) _).alloc (by simp) _⟩
        · rw [show Ward.meets ⟨pa, pb, pc, pd⟩ ⟨qa, qb, qc, qd⟩ = false by simp [Ward.meets, h1, h2, h3, h4]]
          go_enter Tryz.func78, Tryz.ntmps78
          go_wp2
          go_ret
          exact ⟨rfl, ((Below.refl w.heap.size w).alloc (Nat.le_refl _) _).alloc (by simp) _⟩
      · rw [show Ward.meets ⟨pa, pb, pc, pd⟩ ⟨qa, qb, qc, qd⟩ = false by simp [Ward.meets, h1, h2, h3]]
        go_enter Tryz.func78, Tryz.ntmps78
        go_wp2
        go_ret
        exact ⟨rfl, ((Below.refl w.heap.size w).alloc (Nat.le_refl _) _).alloc (by simp) _⟩
    · rw [show Ward.meets ⟨pa, pb, pc, pd⟩ ⟨qa, qb, qc, qd⟩ = false by simp [Ward.meets, h1, h2]]
      go_enter Tryz.func78, Tryz.ntmps78
      go_wp2
      go_ret
      exact ⟨rfl, ((Below.refl w.heap.size w).alloc (Nat.le_refl _) _).alloc (by simp) _⟩
  · rw [show Ward.meets ⟨pa, pb, pc, pd⟩ ⟨qa, qb, qc, qd⟩ = false by simp [Ward.meets, h1]]
    go_enter Tryz.func78, Tryz.ntmps78
    go_wp2
    go_ret
    exact ⟨rfl, ((Below.refl w.heap.size w).alloc (Nat.le_refl _) _).alloc (by simp) _⟩
set_option maxHeartbeats 1000000 in
theorem windowOf_any (q : Ward.Qr) (w : World) :
    Calls Tryz.prog 73 #[Qv q] w fun e w' => e = .returned (Bx (Ward.window q)) ∧ Below w.heap.size w w' := by
  go_enter Tryz.func73, Tryz.ntmps73
  go_wp2
  refine bodyPost_ret (v := Bx (Ward.window q)) ?_ rfl ⟨rfl, ((Below.refl w.heap.size w).alloc (Nat.le_refl _) _).alloc (by simp) _⟩
  exact results_cell_row rfl _ _ (w.heap.size + 1) 88 _ (0, 0) _ rfl (heap_alloc2_new w _ _) Tryz.underlying88 rfl Tryz.infoBox
set_option maxHeartbeats 4000000 in
theorem boxMay_any (p : Ward.Box) (w : World) :
    Calls Tryz.prog 74 #[Bx p] w fun e w' => e = .returned (.bool (Ward.boxMay p)) ∧ Below w.heap.size w w' := by
  obtain ⟨pa, pb, pc, pd⟩ := p
  by_cases h1 : -1000000 ≤ pa ∧ pa ≤ 1000000
  · by_cases h2 : -1000000 ≤ pb ∧ pb ≤ 1000000
    · by_cases h3 : -1000000 ≤ pc ∧ pc ≤ 1000000
      · by_cases h4 : -1000000 ≤ pd ∧ pd ≤ 1000000
        · by_cases h5 : pa ≤ pc
          · by_cases h6 : pb ≤ pd
            · rw [show Ward.boxMay ⟨pa, pb, pc, pd⟩ = true by rw [Ward.boxMay, Ward.coord_yes h1, Ward.coord_yes h2, Ward.coord_yes h3, Ward.coord_yes h4, decide_eq_true h5, decide_eq_true h6]; rfl]
              have H1 := hide h1
              have H2 := hide h2
              have H3 := hide h3
              have H4 := hide h4
              clear h1 h2 h3 h4
              go_enter Tryz.func74, Tryz.ntmps74
              go_wp2_with (first | (go_at_call_of 32 (I pa); refine (isCoord_yes pa _ H1.out).mono ?_; rintro _ _ ⟨rfl, rfl⟩) | (go_at_call_of 32 (I pb); refine (isCoord_yes pb _ H2.out).mono ?_; rintro _ _ ⟨rfl, rfl⟩) | (go_at_call_of 32 (I pc); refine (isCoord_yes pc _ H3.out).mono ?_; rintro _ _ ⟨rfl, rfl⟩) | (go_at_call_of 32 (I pd); refine (isCoord_yes pd _ H4.out).mono ?_; rintro _ _ ⟨rfl, rfl⟩))
              go_ret
              exact ⟨rfl, (Below.refl w.heap.size w).alloc (Nat.le_refl _) _⟩
            · rw [show Ward.boxMay ⟨pa, pb, pc, pd⟩ = false by rw [Ward.boxMay, Ward.coord_yes h1, Ward.coord_yes h2, Ward.coord_yes h3, Ward.coord_yes h4, decide_eq_true h5, decide_eq_false h6]; rfl]
              have H1 := hide h1
              have H2 := hide h2
              have H3 := hide h3
              have H4 := hide h4
              clear h1 h2 h3 h4
              go_enter Tryz.func74, Tryz.ntmps74
              go_wp2_with (first | (go_at_call_of 32 (I pa); refine (isCoord_yes pa _ H1.out).mono ?_; rintro _ _ ⟨rfl, rfl⟩) | (go_at_call_of 32 (I pb); refine (isCoord_yes pb _ H2.out).mono ?_; rintro _ _ ⟨rfl, rfl⟩) | (go_at_call_of 32 (I pc); refine (isCoord_yes pc _ H3.out).mono ?_; rintro _ _ ⟨rfl, rfl⟩) | (go_at_call_of 32 (I pd); refine (isCoord_yes pd _ H4.out).mono ?_; rintro _ _ ⟨rfl, rfl⟩))
              go_ret
              exact ⟨congrArg (fun b => Ending.returned (Value.bool b)) (decide_eq_false (Int.not_le.2 h6)), (Below.refl w.heap.size w).alloc (Nat.le_refl _) _⟩
          · rw [show Ward.boxMay ⟨pa, pb, pc, pd⟩ = false by rw [Ward.boxMay, Ward.coord_yes h1, Ward.coord_yes h2, Ward.coord_yes h3, Ward.coord_yes h4, decide_eq_false h5]; rfl]
            have H1 := hide h1
            have H2 := hide h2
            have H3 := hide h3
            have H4 := hide h4
            clear h1 h2 h3 h4
            go_enter Tryz.func74, Tryz.ntmps74
            go_wp2_with (first | (go_at_call_of 32 (I pa); refine (isCoord_yes pa _ H1.out).mono ?_; rintro _ _ ⟨rfl, rfl⟩) | (go_at_call_of 32 (I pb); refine (isCoord_yes pb _ H2.out).mono ?_; rintro _ _ ⟨rfl, rfl⟩) | (go_at_call_of 32 (I pc); refine (isCoord_yes pc _ H3.out).mono ?_; rintro _ _ ⟨rfl, rfl⟩) | (go_at_call_of 32 (I pd); refine (isCoord_yes pd _ H4.out).mono ?_; rintro _ _ ⟨rfl, rfl⟩))
            go_ret
            exact ⟨rfl, (Below.refl w.heap.size w).alloc (Nat.le_refl _) _⟩
        · rw [show Ward.boxMay ⟨pa, pb, pc, pd⟩ = false by rw [Ward.boxMay, Ward.coord_yes h1, Ward.coord_yes h2, Ward.coord_yes h3, Ward.coord_no h4]; rfl]
          have H1 := hide h1
          have H2 := hide h2
          have H3 := hide h3
          have H4 := hide h4
          clear h1 h2 h3 h4
          go_enter Tryz.func74, Tryz.ntmps74
          go_wp2_with (first | (go_at_call_of 32 (I pa); refine (isCoord_yes pa _ H1.out).mono ?_; rintro _ _ ⟨rfl, rfl⟩) | (go_at_call_of 32 (I pb); refine (isCoord_yes pb _ H2.out).mono ?_; rintro _ _ ⟨rfl, rfl⟩) | (go_at_call_of 32 (I pc); refine (isCoord_yes pc _ H3.out).mono ?_; rintro _ _ ⟨rfl, rfl⟩) | (go_at_call_of 32 (I pd); refine (isCoord_no pd _ H4.out).mono ?_; rintro _ _ ⟨rfl, rfl⟩))
          go_ret
          exact ⟨rfl, (Below.refl w.heap.size w).alloc (Nat.le_refl _) _⟩
      · rw [show Ward.boxMay ⟨pa, pb, pc, pd⟩ = false by rw [Ward.boxMay, Ward.coord_yes h1, Ward.coord_yes h2, Ward.coord_no h3]; rfl]
        have H1 := hide h1
        have H2 := hide h2
        have H3 := hide h3
        clear h1 h2 h3
        go_enter Tryz.func74, Tryz.ntmps74
        go_wp2_with (first | (go_at_call_of 32 (I pa); refine (isCoord_yes pa _ H1.out).mono ?_; rintro _ _ ⟨rfl, rfl⟩) | (go_at_call_of 32 (I pb); refine (isCoord_yes pb _ H2.out).mono ?_; rintro _ _ ⟨rfl, rfl⟩) | (go_at_call_of 32 (I pc); refine (isCoord_no pc _ H3.out).mono ?_; rintro _ _ ⟨rfl, rfl⟩))
        go_ret
        exact ⟨rfl, (Below.refl w.heap.size w).alloc (Nat.le_refl _) _⟩
    · rw [show Ward.boxMay ⟨pa, pb, pc, pd⟩ = false by rw [Ward.boxMay, Ward.coord_yes h1, Ward.coord_no h2]; rfl]
      have H1 := hide h1
      have H2 := hide h2
      clear h1 h2
      go_enter Tryz.func74, Tryz.ntmps74
      go_wp2_with (first | (go_at_call_of 32 (I pa); refine (isCoord_yes pa _ H1.out).mono ?_; rintro _ _ ⟨rfl, rfl⟩) | (go_at_call_of 32 (I pb); refine (isCoord_no pb _ H2.out).mono ?_; rintro _ _ ⟨rfl, rfl⟩))
      go_ret
      exact ⟨rfl, (Below.refl w.heap.size w).alloc (Nat.le_refl _) _⟩
  · rw [show Ward.boxMay ⟨pa, pb, pc, pd⟩ = false by rw [Ward.boxMay, Ward.coord_no h1]; rfl]
    have H1 := hide h1
    clear h1
    go_enter Tryz.func74, Tryz.ntmps74
    go_wp2_with (first | (go_at_call_of 32 (I pa); refine (isCoord_no pa _ H1.out).mono ?_; rintro _ _ ⟨rfl, rfl⟩))
    go_ret
    exact ⟨rfl, (Below.refl w.heap.size w).alloc (Nat.le_refl _) _⟩
set_option maxHeartbeats 4000000 in
theorem mayBe_any (q : Ward.Qr) (w : World) :
    Calls Tryz.prog 39 #[Qv q] w fun e w' => e = .returned (.bool (Ward.mayBe q)) ∧ Below w.heap.size w w' := by
  by_cases hk : q.kind = 0
  · rw [show Ward.mayBe q = Ward.boxMay (Ward.window q) by simp [Ward.mayBe, hk]]
    obtain ⟨qk, qa, qb, qc, qd, qx, qy, qn⟩ := q
    simp only at hk
    subst hk
    generalize hW : Ward.window ⟨0, qa, qb, qc, qd, qx, qy, qn⟩ = W
    have HW := hide hW
    clear hW
    go_enter Tryz.func39, Tryz.ntmps39
    go_wp2_with fail
    refine (windowOf_any ⟨0, qa, qb, qc, qd, qx, qy, qn⟩ _).mono ?_
    rintro _ w1 ⟨rfl, hb1⟩
    rw [HW.out]
    have HB1 := hide hb1
    clear hb1
    go_wp2_with fail
    refine (boxMay_any W _).mono ?_
    rintro _ w2 ⟨rfl, hb2⟩
    have HB2 := hide hb2
    clear hb2
    go_wp2
    go_ret
    have h1 : Below w.heap.size w w1 := ((Below.refl w.heap.size w).alloc (Nat.le_refl _) _).trans (HB1.out.mono (by simp))
    exact ⟨rfl, h1.trans (HB2.out.mono h1.size)⟩
  · by_cases hk1 : q.kind = 1
    · obtain ⟨qk, qa, qb, qc, qd, qx, qy, qn⟩ := q
      simp only at hk hk1
      subst hk1
      clear hk
      by_cases h1 : -1000000 ≤ qx ∧ qx ≤ 1000000
      · by_cases h2 : -1000000 ≤ qy ∧ qy ≤ 1000000
        · by_cases h3 : 1 ≤ qn
          · by_cases h4 : qn ≤ 20
            · rw [show Ward.mayBe ⟨1, qa, qb, qc, qd, qx, qy, qn⟩ = true by rw [Ward.mayBe, if_neg (show ¬ (1 : Int) = 0 by decide), if_pos rfl]; rw [Ward.coord_yes h1, Ward.coord_yes h2, decide_eq_true h3, decide_eq_true h4]; rfl]
              have H1 := hide h1
              have H2 := hide h2
              clear h1 h2
              go_enter Tryz.func39, Tryz.ntmps39
              go_wp2_with (first | (go_at_call_of 32 (I qx); refine (isCoord_yes qx _ H1.out).mono ?_; rintro _ _ ⟨rfl, rfl⟩) | (go_at_call_of 32 (I qy); refine (isCoord_yes qy _ H2.out).mono ?_; rintro _ _ ⟨rfl, rfl⟩))
              go_ret
              exact ⟨rfl, (Below.refl w.heap.size w).alloc (Nat.le_refl _) _⟩
            · rw [show Ward.mayBe ⟨1, qa, qb, qc, qd, qx, qy, qn⟩ = false by rw [Ward.mayBe, if_neg (show ¬ (1 : Int) = 0 by decide), if_pos rfl]; rw [Ward.coord_yes h1, Ward.coord_yes h2, decide_eq_true h3, decide_eq_false h4]; rfl]
              have H1 := hide h1
              have H2 := hide h2
              clear h1 h2
              go_enter Tryz.func39, Tryz.ntmps39
              go_wp2_with (first | (go_at_call_of 32 (I qx); refine (isCoord_yes qx _ H1.out).mono ?_; rintro _ _ ⟨rfl, rfl⟩) | (go_at_call_of 32 (I qy); refine (isCoord_yes qy _ H2.out).mono ?_; rintro _ _ ⟨rfl, rfl⟩))
              go_ret
              exact ⟨congrArg (fun b => Ending.returned (Value.bool b)) (decide_eq_false (Int.not_le.2 h4)), (Below.refl w.heap.size w).alloc (Nat.le_refl _) _⟩
          · rw [show Ward.mayBe ⟨1, qa, qb, qc, qd, qx, qy, qn⟩ = false by rw [Ward.mayBe, if_neg (show ¬ (1 : Int) = 0 by decide), if_pos rfl]; rw [Ward.coord_yes h1, Ward.coord_yes h2, decide_eq_false h3]; rfl]
            have H1 := hide h1
            have H2 := hide h2
            clear h1 h2
            go_enter Tryz.func39, Tryz.ntmps39
            go_wp2_with (first | (go_at_call_of 32 (I qx); refine (isCoord_yes qx _ H1.out).mono ?_; rintro _ _ ⟨rfl, rfl⟩) | (go_at_call_of 32 (I qy); refine (isCoord_yes qy _ H2.out).mono ?_; rintro _ _ ⟨rfl, rfl⟩))
            go_ret
            exact ⟨rfl, (Below.refl w.heap.size w).alloc (Nat.le_refl _) _⟩
        · rw [show Ward.mayBe ⟨1, qa, qb, qc, qd, qx, qy, qn⟩ = false by rw [Ward.mayBe, if_neg (show ¬ (1 : Int) = 0 by decide), if_pos rfl]; rw [Ward.coord_yes h1, Ward.coord_no h2]; rfl]
          have H1 := hide h1
          have H2 := hide h2
          clear h1 h2
          go_enter Tryz.func39, Tryz.ntmps39
          go_wp2_with (first | (go_at_call_of 32 (I qx); refine (isCoord_yes qx _ H1.out).mono ?_; rintro _ _ ⟨rfl, rfl⟩) | (go_at_call_of 32 (I qy); refine (isCoord_no qy _ H2.out).mono ?_; rintro _ _ ⟨rfl, rfl⟩))
          go_ret
          exact ⟨rfl, (Below.refl w.heap.size w).alloc (Nat.le_refl _) _⟩
      · rw [show Ward.mayBe ⟨1, qa, qb, qc, qd, qx, qy, qn⟩ = false by rw [Ward.mayBe, if_neg (show ¬ (1 : Int) = 0 by decide), if_pos rfl]; rw [Ward.coord_no h1]; rfl]
        have H1 := hide h1
        clear h1
        go_enter Tryz.func39, Tryz.ntmps39
        go_wp2_with (first | (go_at_call_of 32 (I qx); refine (isCoord_no qx _ H1.out).mono ?_; rintro _ _ ⟨rfl, rfl⟩))
        go_ret
        exact ⟨rfl, (Below.refl w.heap.size w).alloc (Nat.le_refl _) _⟩
    · rw [show Ward.mayBe q = false by simp [Ward.mayBe, hk, hk1]]
      go_enter Tryz.func39, Tryz.ntmps39
      go_wp2
      go_ret
      exact ⟨rfl, (Below.refl w.heap.size w).alloc (Nat.le_refl _) _⟩
end Go.Proofs.YtenaelkbgkpllaaGreatDoor
/- What the boxes of a tree hold; the points of a window by the boxes; the nodes as what stands below them makes them. -/
namespace Go.Proofs.YtenaelkbgkpllaaGreatDoor
namespace Ward
theorem has_refl (b : Box) : b.has b := ⟨Int.le_refl _, Int.le_refl _, Int.le_refl _, Int.le_refl _⟩
theorem has_trans {a b c : Box} (h : a.has b) (k : b.has c) : a.has c := by
  obtain ⟨_, _, _, _⟩ := h
  obtain ⟨_, _, _, _⟩ := k
  exact ⟨by omega, by omega, by omega, by omega⟩
theorem join_left (a b : Box) : (join a b).has a := by
  refine ⟨?_, ?_, ?_, ?_⟩ <;> simp only [join] <;> omega
theorem join_right (a b : Box) : (join a b).has b := by
  refine ⟨?_, ?_, ?_, ?_⟩ <;> simp only [join] <;> omega
theorem fold_has_start : ∀ (l : List Box) (b : Box), (l.foldl join b).has b
  | [], b => has_refl b
  | c :: l, b => has_trans (fold_has_start l (join b c)) (join_left b c)
theorem fold_has : ∀ (l : List Box) (b : Box), ∀ c ∈ l, (l.foldl join b).has c
  | d :: l, b, c, hc => by
    rcases List.mem_cons.1 hc with rfl | hc
    · exact has_trans (fold_has_start l (join b c)) (join_right b c)
    · exact fold_has l (join b d) c hc
theorem boxL_has {l : List Box} {c : Box} (h : c ∈ l) : (boxL l).has c := fold_has l _ c h
theorem meets_mono {a b c : Box} (h : b.has c) (hm : meets a c = true) : meets a b = true := by
  obtain ⟨h1, h2, h3, h4⟩ := h
  simp only [meets, Bool.and_eq_true, decide_eq_true_eq] at hm ⊢
  omega
theorem all_mk (dig : List UInt8 → List UInt8) : ∀ (n : Nat) (t : T n), allN (n + 1) (mk dig n t) = pts n t
  | 0, l => by simp [allN, mk, pts]
  | n + 1, cs => by
    show [] ++ List.flatMap (allN (n + 1)) (List.map (mk dig n) cs) = List.flatMap (pts n) cs
    rw [List.nil_append, List.flatMap_map]
    exact flatMap_congr fun c _ => all_mk dig n c
theorem box_has : ∀ (n : Nat) (t : T n), ∀ p ∈ pts n t, (box n t).has (boxOf p)
  | 0, l, p, hp => boxL_has (List.mem_map_of_mem hp)
  | n + 1, cs, p, hp => by
    obtain ⟨c, hc, hp⟩ := List.mem_flatMap.1 hp
    exact has_trans (boxL_has (List.mem_map_of_mem hc)) (box_has n c p hp)
theorem encl_mk (dig : List UInt8 → List UInt8) : ∀ (n : Nat) (t : T n), Encl (n + 1) (mk dig n t)
  | 0, l => ⟨fun p hp => box_has 0 l p hp, fun c hc => by simp [mk] at hc⟩
  | n + 1, cs => by
    refine ⟨fun p hp => by simp [mk] at hp, fun c hc => ?_⟩
    obtain ⟨t, _, rfl⟩ := List.mem_map.1 (show c ∈ List.map (mk dig n) cs from hc)
    exact ⟨fun p hp => by rw [all_mk] at hp; rw [mk_box]; exact box_has n t p hp, encl_mk dig n t⟩
theorem filter_none {b : Box} {c : Box} {l : List Pt} (h : ∀ p ∈ l, c.has (boxOf p)) (hm : meets b c = false) : l.filter (inB b) = [] := by
  rw [List.filter_eq_nil_iff]
  intro p hp he
  have := meets_mono (h p hp) he
  rw [hm] at this
  cases this
theorem filter_flatMap {α : Type} (f : α → List Pt) (P : Pt → Bool) : ∀ (l : List α), (l.flatMap f).filter P = l.flatMap fun x => (f x).filter P
  | [] => rfl
  | x :: l => by rw [List.flatMap_cons, List.filter_append, filter_flatMap f P l, List.flatMap_cons]
/-- by the boxes no point of a window is passed by -/
theorem within_all {b : Box} : ∀ (n : Nat) (t : NT n), Encl n t → withinN b n t = (allN n t).filter (inB b)
  | 0, t, _ => nomatch t
  | n + 1, t, h => by
    show (Nd.pts t).filter (inB b) ++ ((Nd.kids t).flatMap fun c => if meets b (boxN n c) then withinN b n c else []) = (Nd.pts t ++ (Nd.kids t).flatMap (allN n)).filter (inB b)
    rw [List.filter_append, filter_flatMap]
    congr 1
    refine flatMap_congr fun c hc => ?_
    obtain ⟨h1, h2⟩ := h.2 c hc
    by_cases hm : meets b (boxN n c) = true
    · rw [if_pos hm, within_all n c h2]
    · have hm' : meets b (boxN n c) = false := by simpa using hm
      rw [if_neg hm, filter_none h1 hm']
theorem tree_encl (dig : List UInt8 → List UInt8) (L : List Pt) : Encl ((tree L).1 + 1) (mk dig (tree L).1 (tree L).2) := encl_mk dig _ _
theorem tree_all (dig : List UInt8 → List UInt8) {L : List Pt} (h : ∀ p ∈ L, p.Ok) : allN ((tree L).1 + 1) (mk dig (tree L).1 (tree L).2) = L := by
  rw [all_mk, (tree_small h).2]
/-- how many points lie below -/
theorem within_le (b : Box) : ∀ (n : Nat) (t : NT n), (withinN b n t).length ≤ (allN n t).length
  | 0, t => nomatch t
  | n + 1, t => by
    have key : ∀ (l : List (NT n)), (l.flatMap fun c => if meets b (boxN n c) then withinN b n c else []).length ≤ (l.flatMap (allN n)).length := by
      intro l
      induction l with
      | nil => simp
      | cons c l ih =>
        rw [List.flatMap_cons, List.flatMap_cons, List.length_append, List.length_append]
        have := within_le b n c
        have h1 : (if meets b (boxN n c) then withinN b n c else []).length ≤ (allN n c).length := by
          split
          · exact this
          · exact Nat.zero_le _
        omega
    show ((Nd.pts t).filter _ ++ ((Nd.kids t).flatMap fun c => if meets b (boxN n c) then withinN b n c else [])).length ≤ (Nd.pts t ++ (Nd.kids t).flatMap (allN n)).length
    rw [List.length_append, List.length_append]
    have h1 := List.length_filter_le (fun p => meets b (boxOf p)) (Nd.pts t)
    have h2 := key (Nd.kids t)
    omega
/-- at most four of each kind below every node -/
def Few : (n : Nat) → NT n → Prop
  | 0, t => nomatch t
  | n + 1, t => (Nd.pts t).length ≤ 4 ∧ (Nd.kids t).length ≤ 4 ∧ ∀ c ∈ Nd.kids t, Few n c
theorem few_mk (dig : List UInt8 → List UInt8) : ∀ (n : Nat) (t : T n), Small n t → Few (n + 1) (mk dig n t)
  | 0, _, h => ⟨h.1, by simp [mk], fun c hc => by simp [mk] at hc⟩
  | n + 1, cs, h => by
    refine ⟨by simp [mk], by show (List.map (mk dig n) cs).length ≤ 4; rw [List.length_map]; exact h.1, fun c hc => ?_⟩
    obtain ⟨t, ht, rfl⟩ := List.mem_map.1 (show c ∈ List.map (mk dig n) cs from hc)
    exact few_mk dig n t (h.2 t ht)
/-- what is said of the boxes of children lies within bounds -/
def InN : (n : Nat) → NT n → Prop
  | 0, t => nomatch t
  | n + 1, t => ∀ c ∈ Nd.kids t, (boxN n c).In ∧ InN n c
theorem in_mk (dig : List UInt8 → List UInt8) : ∀ (n : Nat) (t : T n), Small n t → InN (n + 1) (mk dig n t)
  | 0, _, _ => fun c hc => by simp [mk] at hc
  | n + 1, cs, h => fun c hc => by
    obtain ⟨t, ht, rfl⟩ := List.mem_map.1 (show c ∈ List.map (mk dig n) cs from hc)
    exact ⟨by rw [mk_box]; exact box_in n t (h.2 t ht), in_mk dig n t (h.2 t ht)⟩
end Ward
end Go.Proofs.YtenaelkbgkpllaaGreatDoor
/- A proof taken apart: the text's numbers, points, children, nodes. -/
namespace Go.Proofs.YtenaelkbgkpllaaGreatDoor
namespace Ward
theorem or_add {a b k : Nat} (ha : a % 2 ^ k = 0) (hb : b < 2 ^ k) : a ||| b = a + b := by
  have h : a = 2 ^ k * (a / 2 ^ k) := by
    have := Nat.div_add_mod a (2 ^ k)
    omega
  rw [h, ← Nat.two_pow_add_eq_or_of_lt hb]
/-- four bytes as a number -/
theorem word_add (l : List UInt8) (i : Nat) : Sha.word l i = Sha.byteAt l i * 16777216 + Sha.byteAt l (i + 1) * 65536 + Sha.byteAt l (i + 2) * 256 + Sha.byteAt l (i + 3) := by
  have h0 : Sha.byteAt l i < 256 := (l.getD i 0).toNat_lt
  have h1 : Sha.byteAt l (i + 1) < 256 := (l.getD (i + 1) 0).toNat_lt
  have h2 : Sha.byteAt l (i + 2) < 256 := (l.getD (i + 2) 0).toNat_lt
  have h3 : Sha.byteAt l (i + 3) < 256 := (l.getD (i + 3) 0).toNat_lt
  unfold Sha.word
  rw [or_add (a := Sha.byteAt l i * 16777216) (k := 24) (by omega) (by omega), or_add (a := Sha.byteAt l i * 16777216 + Sha.byteAt l (i + 1) * 65536) (k := 16) (by omega) (by omega), or_add (k := 8) (by omega) (by omega)]
theorem word_lt (l : List UInt8) (i : Nat) : Sha.word l i < 4294967296 := by
  have h0 : Sha.byteAt l i < 256 := (l.getD i 0).toNat_lt
  have h1 : Sha.byteAt l (i + 1) < 256 := (l.getD (i + 1) 0).toNat_lt
  have h2 : Sha.byteAt l (i + 2) < 256 := (l.getD (i + 2) 0).toNat_lt
  have h3 : Sha.byteAt l (i + 3) < 256 := (l.getD (i + 3) 0).toNat_lt
  rw [word_add]
  omega
/-- a number of 32 bits with a sign -/
def signed (n : Nat) : Int := if n < 2147483648 then n else (n : Int) - 4294967296
theorem signed_four {n : Int} (h1 : -1000000 ≤ n) (h2 : n ≤ 1000000) : signed (n % 4294967296).toNat = n := by
  unfold signed
  split <;> omega
/-- the number of that place -/
def numAt (l : List UInt8) (k : Nat) : Int := signed (Sha.word l (4 * k))
theorem byteAt_app {l m : List UInt8} {i : Nat} (h : i < l.length) : Sha.byteAt (l ++ m) i = Sha.byteAt l i := by
  unfold Sha.byteAt
  rw [List.getD_eq_getElem?_getD, List.getD_eq_getElem?_getD, List.getElem?_append_left h]
theorem byteAt_right {l m : List UInt8} {i : Nat} : Sha.byteAt (l ++ m) (l.length + i) = Sha.byteAt m i := by
  unfold Sha.byteAt
  rw [List.getD_eq_getElem?_getD, List.getD_eq_getElem?_getD, List.getElem?_append_right (by omega), Nat.add_sub_cancel_left]
theorem word_app {l m : List UInt8} {i : Nat} (h : i + 4 ≤ l.length) : Sha.word (l ++ m) i = Sha.word l i := by
  rw [word_add, word_add, byteAt_app (by omega), byteAt_app (by omega), byteAt_app (by omega), byteAt_app (by omega)]
theorem word_right {l m : List UInt8} {i : Nat} : Sha.word (l ++ m) (l.length + i) = Sha.word m i := by
  rw [word_add, word_add, show l.length + i + 1 = l.length + (i + 1) by omega, show l.length + i + 2 = l.length + (i + 2) by omega, show l.length + i + 3 = l.length + (i + 3) by omega, byteAt_right, byteAt_right, byteAt_right, byteAt_right]
theorem word_four {n : Nat} (h : n < 4294967296) : Sha.word (four n) 0 = n := by
  rw [word_add]
  show (UInt8.ofNat (n / 16777216)).toNat * 16777216 + (UInt8.ofNat (n / 65536)).toNat * 65536 + (UInt8.ofNat (n / 256)).toNat * 256 + (UInt8.ofNat n).toNat = n
  simp only [UInt8.toNat_ofNat']
  omega
theorem numAt_zero {n : Int} (m : List UInt8) (h1 : -1000000 ≤ n) (h2 : n ≤ 1000000) : numAt (fourI n ++ m) 0 = n := by
  unfold numAt
  rw [Nat.mul_zero, word_app (by rw [fourI_len]; decide)]
  unfold fourI
  rw [word_four (by omega), signed_four h1 h2]
theorem numAt_succ (n : Int) (m : List UInt8) (k : Nat) : numAt (fourI n ++ m) (k + 1) = numAt m k := by
  unfold numAt
  rw [show 4 * (k + 1) = (fourI n).length + 4 * k by rw [fourI_len]; omega, word_right]
/-- a word tells its four bytes -/
theorem four_word {a b c d : UInt8} (m : List UInt8) : four (Sha.word (a :: b :: c :: d :: m) 0) = [a, b, c, d] := by
  rw [word_add]
  show four (a.toNat * 16777216 + b.toNat * 65536 + c.toNat * 256 + d.toNat) = _
  have ha := a.toNat_lt
  have hb := b.toNat_lt
  have hc := c.toNat_lt
  have hd := d.toNat_lt
  have key : ∀ (x : UInt8) (n : Nat), n % 256 = x.toNat → UInt8.ofNat n = x := fun x n h => by
    apply UInt8.toNat_inj.1
    rw [UInt8.toNat_ofNat']
    exact h
  unfold four
  rw [key a _ (by omega), key b _ (by omega), key c _ (by omega), key d _ (by omega)]
theorem fourI_signed {n : Nat} (h : n < 4294967296) : fourI (signed n) = four n := by
  have h' : (signed n % 4294967296).toNat = n := by
    unfold signed
    by_cases h2 : n < 2147483648
    · rw [if_pos h2]; omega
    · rw [if_neg h2]; omega
  unfold fourI
  rw [h']
theorem fourI_numAt {a b c d : UInt8} (m : List UInt8) : fourI (numAt (a :: b :: c :: d :: m) 0) = [a, b, c, d] := by
  unfold numAt
  rw [Nat.mul_zero, fourI_signed (word_lt _ _), four_word]
theorem word_drop (l : List UInt8) (k : Nat) : Sha.word l k = Sha.word (l.drop k) 0 := by
  by_cases h : k ≤ l.length
  · have e := word_right (l := l.take k) (m := l.drop k) (i := 0)
    rw [List.take_append_drop, List.length_take, Nat.min_eq_left h] at e
    exact e
  · have e : l.drop k = [] := List.drop_eq_nil_of_le (by omega)
    rw [e, word_add, word_add]
    unfold Sha.byteAt
    simp only [List.getD_eq_getElem?_getD]
    rw [List.getElem?_eq_none (by omega), List.getElem?_eq_none (by omega), List.getElem?_eq_none (by omega), List.getElem?_eq_none (by omega)]
    rfl
theorem numAt_drop (l : List UInt8) (k : Nat) : numAt l k = numAt (l.drop (4 * k)) 0 := by
  unfold numAt
  rw [word_drop, Nat.mul_zero]
/-- the bytes of a number at a place -/
theorem fourI_at {l : List UInt8} {k : Nat} (h : 4 * k + 4 ≤ l.length) : fourI (numAt l k) = (l.drop (4 * k)).take 4 := by
  rw [numAt_drop]
  have hl : 4 ≤ (l.drop (4 * k)).length := by rw [List.length_drop]; omega
  generalize l.drop (4 * k) = m at *
  match m, hl with
  | a :: b :: c :: d :: m, _ => rw [fourI_numAt]; rfl
/-- what is still to be read, and the ids that were -/
abbrev Sta : Type := List UInt8 × List Int
def idOk (n : Int) : Bool := decide (1 ≤ n ∧ n ≤ 1000000)
/-- a point of a leaf -/
def rdPt (s : Sta) : Option (Pt × Sta) :=
  if s.1.length < 12 then none else
    let p : Pt := ⟨numAt s.1 0, numAt s.1 1, numAt s.1 2⟩
    if idOk p.id && !(s.2.contains p.id) && coordOk p.x && coordOk p.y then some (p, (s.1.drop 12, p.id :: s.2)) else none
/-- as many of a kind -/
def rdMany {α : Type} (rd : Sta → Option (α × Sta)) : Nat → Sta → Option (List α × Sta)
  | 0, s => some ([], s)
  | k + 1, s => match rd s with
    | none => none
    | some (x, s') => match rdMany rd k s' with
      | none => none
      | some (l, s'') => some (x :: l, s'')
/-- a node of nothing -/
def bareN (n : Nat) : NT (n + 1) := ⟨[], [], ⟨0, 0, 0, 0⟩, 0, List.replicate 32 0⟩
/-- what a node says of a child, of 52 bytes -/
def headN (n : Nat) (l : List UInt8) : NT (n + 1) := ⟨[], [], ⟨numAt l 0, numAt l 1, numAt l 2, numAt l 3⟩, numAt l 4, (l.drop 20).take 32⟩
/-- a child, behind it what is shown of it -/
def rdKid (n : Nat) (below : Sta → Option (NT (n + 1) × Sta)) (s : Sta) : Option (NT (n + 1) × Sta) :=
  if s.1.length < 53 then none else
    let c := headN n s.1
    if boxMay (Nd.box c) && decide (1 ≤ Nd.n c) && decide (Nd.n c ≤ 150) then
      if s.1.getD 52 0 = 0 then some (c, (s.1.drop 53, s.2))
      else if s.1.getD 52 0 = 1 then match below (s.1.drop 53, s.2) with
        | none => none
        | some (b, s') => some ({ c with pts := Nd.pts b, kids := Nd.kids b }, s')
      else none
    else none
/-- a leaf or a node, so many may lie within one another -/
def rdNode : (d : Nat) → (root : Bool) → Sta → Option (NT (d + 1) × Sta)
  | 0, _, _ => none
  | d + 1, root, s =>
    if s.1.length < 2 then none else
      let mark := s.1.getD 0 0
      let size := (s.1.getD 1 0).toNat
      let s' : Sta := (s.1.drop 2, s.2)
      if 4 < size then none
      else if mark = 1 ∧ (0 < size ∨ root = true) then match rdMany rdPt size s' with
        | none => none
        | some (l, s'') => some ({ bareN (d + 1) with pts := l }, s'')
      else if mark = 2 ∧ 0 < size then match rdMany (rdKid d (rdNode d false)) size s' with
        | none => none
        | some (l, s'') => some ({ bareN (d + 1) with kids := l }, s'')
      else none
/-- a node as what stands right below it makes it -/
def madeN : (n : Nat) → NT n → NT n
  | 0, t => nomatch t
  | n + 1, t => if (Nd.kids t).length = 0 then ⟨Nd.pts t, [], boxL ((Nd.pts t).map boxOf), ((Nd.pts t).length : Nat), Sha.sha (leafText (Nd.pts t))⟩ else ⟨[], Nd.kids t, boxL ((Nd.kids t).map (boxN n)), ((Nd.kids t).map (numN n)).sum, Sha.sha (textK n (Nd.kids t))⟩
/-- a proof taken apart -/
def parse (l : List UInt8) : Option (NT 7) := match rdNode 6 true (l, []) with
  | some (t, ([], _)) => some (madeN 7 t)
  | _ => none
def shownN : (n : Nat) → NT n → Bool
  | 0, t => nomatch t
  | _ + 1, t => decide (0 < (Nd.pts t).length + (Nd.kids t).length)
/-- it holds of every child and of those below them -/
def everyN (P : (n : Nat) → NT n → Bool) : (n : Nat) → NT n → Bool
  | 0, t => nomatch t
  | n + 1, t => (Nd.kids t).all fun c => P n c && everyN P n c
def boxEq (a b : Box) : Bool := decide (a.a = b.a ∧ a.b = b.b ∧ a.c = b.c ∧ a.d = b.d)
def boxHolds (n : Nat) (c : NT n) : Bool := !shownN n c || (boxEq (boxN n c) (boxN n (madeN n c)) && decide (numN n c = numN n (madeN n c)))
def digHolds (n : Nat) (c : NT n) : Bool := !shownN n c || decide (digN n c = digN n (madeN n c))
def lackN (q : Qr) (a : List Pt) (n : Nat) (c : NT n) : Bool := shownN n c || !must q a (boxN n c)
def wasteN (q : Qr) (a : List Pt) (n : Nat) (c : NT n) : Bool := !shownN n c || must q a (boxN n c)
/-- what Verify answers: the points, the error -/
def verify (root : List UInt8) (count : Int) (q : Qr) (s : List UInt8) : List Pt × Int :=
  if mayBe q = false then ([], 6) else match parse s with
  | none => ([], 7)
  | some t =>
    if everyN boxHolds 7 t = false then ([], 8)
    else if everyN digHolds 7 t = false ∨ ¬ (digN 7 t = root ∧ numN 7 t = count) then ([], 9)
    else if everyN (lackN q (ans q (allN 7 t))) 7 t = false then ([], 10)
    else if everyN (wasteN q (ans q (allN 7 t))) 7 t = false then ([], 11)
    else (ans q (allN 7 t), 0)
end Ward
end Go.Proofs.YtenaelkbgkpllaaGreatDoor
/- Digests once more, as the document's own answer works them out: the same numbers. -/
namespace Go.Proofs.YtenaelkbgkpllaaGreatDoor
namespace Sha
theorem maj_or (x y z : Nat) : ((x &&& y) ||| (x &&& z)) ||| (y &&& z) = maj x y z := by
  apply Nat.eq_of_testBit_eq
  intro i
  simp only [maj, Nat.testBit_or, Nat.testBit_and, Nat.testBit_xor]
  cases x.testBit i <;> cases y.testBit i <;> cases z.testBit i <;> rfl
theorem ch_or (x y z : Nat) (hx : x < 4294967296) : (x &&& y) ||| ((4294967295 ^^^ x) &&& z) = ch x y z := by
  apply Nat.eq_of_testBit_eq
  intro i
  simp only [ch, Nat.testBit_or, Nat.testBit_and, Nat.testBit_xor]
  by_cases hi : i < 32
  · have h : Nat.testBit 4294967295 i = true := by
      have := Nat.testBit_two_pow_sub_one 32 i
      rw [show (4294967295 : Nat) = 2 ^ 32 - 1 from rfl, this]
      exact decide_eq_true hi
    rw [h]
    cases x.testBit i <;> cases y.testBit i <;> cases z.testBit i <;> rfl
  · have h : x.testBit i = false := Nat.testBit_lt_two_pow (Nat.lt_of_lt_of_le hx (Nat.pow_le_pow_right (n := 2) (by decide) (show 32 ≤ i by omega)))
    rw [h]
    cases (Nat.testBit 4294967295 i) <;> cases y.testBit i <;> cases z.testBit i <;> rfl
theorem stirN_app (A B : List UInt8) (k : Nat) (hA : A.length = 64 * k) : ∀ (m : Nat) (s : St), stirN (A ++ B) (k + m) s = stirN B m (stirN A k s)
  | 0, s => by
    have key : ∀ j, j ≤ k → stirN (A ++ B) j s = stirN A j s := by
      intro j
      induction j with
      | zero => intro _; rfl
      | succ j ih =>
        intro hj
        show stir (stirN (A ++ B) j s) (((A ++ B).drop (64 * j)).take 64) = stir (stirN A j s) ((A.drop (64 * j)).take 64)
        rw [ih (by omega), List.drop_append_of_le_length (by omega), List.take_append_of_le_length (by rw [List.length_drop]; omega)]
    exact key k (Nat.le_refl _)
  | m + 1, s => by
    show stir (stirN (A ++ B) (k + m) s) (((A ++ B).drop (64 * (k + m))).take 64) = stir (stirN B m (stirN A k s)) ((B.drop (64 * m)).take 64)
    rw [stirN_app A B k hA m s, show 64 * (k + m) = A.length + 64 * m by omega, List.drop_append, List.drop_eq_nil_of_le (by omega), List.nil_append, Nat.add_sub_cancel_left]
theorem padding_length (n : Nat) : (padding n).length = 9 + (119 - n % 64) % 64 := by
  simp [padding, four]
  omega
/-- a text with what is put behind it -/
def padded (l : List UInt8) : List UInt8 := l ++ padding l.length
theorem padded_length (l : List UInt8) : (padded l).length = l.length + 9 + (119 - l.length % 64) % 64 := by
  simp [padded, padding_length]
  omega
theorem padded_mod (l : List UInt8) : (padded l).length % 64 = 0 := by
  rw [padded_length]
  omega
theorem state_padded (l : List UInt8) : stirN (padded l) ((padded l).length / 64) start = state l := by
  have h1 : padded l = l.take (whole l.length) ++ last l := by
    unfold padded last
    rw [← List.append_assoc, List.take_append_drop]
  have h2 : (l.take (whole l.length)).length = 64 * (l.length / 64) := by
    rw [List.length_take]
    unfold whole
    omega
  have h3 : (padded l).length / 64 = l.length / 64 + (last l).length / 64 := by
    rw [h1, List.length_append, h2]
    omega
  rw [h3, h1, stirN_app _ _ _ h2]
  rfl
theorem spread_take (l : List UInt8) (n : Nat) : ∀ m, n ≤ m → (spreadTo l m).take (16 + n) = spreadTo l n
  | 0, h => by
    have : n = 0 := by omega
    subst this
    rw [List.take_of_length_le (by rw [spreadTo_length]; omega)]
  | m + 1, h => by
    by_cases e : n = m + 1
    · subst e
      rw [List.take_of_length_le (by rw [spreadTo_length]; omega)]
    · show (spreadTo l m ++ [nextW (spreadTo l m) m]).take (16 + n) = _
      rw [List.take_append_of_le_length (by rw [spreadTo_length]; omega), spread_take l n m (by omega)]
theorem spread_get (l : List UInt8) (n j : Nat) (hn : n ≤ 48) (hj : j < 16 + n) : (spreadTo l n).getD j 0 = (spreadTo l 48).getD j 0 := by
  rw [← spread_take l n 48 hn, List.getD_eq_getElem?_getD, List.getD_eq_getElem?_getD, List.getElem?_take_of_lt hj]
theorem first_get (l : List UInt8) : ∀ (n j : Nat), j < n → (first l n).getD j 0 = word l (4 * j)
  | n + 1, j, h => by
    show (first l n ++ [word l (4 * n)]).getD j 0 = _
    by_cases e : j = n
    · subst e
      rw [List.getD_eq_getElem?_getD, List.getElem?_append_right (by rw [first_length]; omega), first_length, Nat.sub_self, List.getElem?_cons_zero, Option.getD_some]
    · rw [List.getD_eq_getElem?_getD, List.getElem?_append_left (by rw [first_length]; omega), ← List.getD_eq_getElem?_getD]
      exact first_get l n j (by omega)
theorem spread_low (l : List UInt8) (t : Nat) (h : t < 16) : (spreadTo l 48).getD t 0 = word l (4 * t) := by
  rw [← spread_get l 0 t (by omega) (by omega)]
  exact first_get l 16 t h
theorem spread_high (l : List UInt8) (n : Nat) (h : n < 48) : (spreadTo l 48).getD (n + 16) 0 = (((ss1 ((spreadTo l 48).getD (n + 14) 0) + (spreadTo l 48).getD (n + 9) 0) % 4294967296 + ss0 ((spreadTo l 48).getD (n + 1) 0)) % 4294967296 + (spreadTo l 48).getD n 0) % 4294967296 := by
  rw [← spread_get l (n + 1) (n + 16) (by omega) (by omega)]
  show (spreadTo l n ++ [nextW (spreadTo l n) n]).getD (n + 16) 0 = _
  rw [List.getD_eq_getElem?_getD, List.getElem?_append_right (by rw [spreadTo_length]; omega), spreadTo_length, show n + 16 - (16 + n) = 0 by omega, List.getElem?_cons_zero, Option.getD_some]
  unfold nextW
  rw [spread_get l n (n + 14) (by omega) (by omega), spread_get l n (n + 9) (by omega) (by omega), spread_get l n (n + 1) (by omega) (by omega), spread_get l n n (by omega) (by omega)]
theorem byteAt_part (l : List UInt8) (i k : Nat) (h : k < 64) : byteAt ((l.drop i).take 64) k = byteAt l (i + k) := by
  unfold byteAt
  rw [List.getD_eq_getElem?_getD, List.getD_eq_getElem?_getD, List.getElem?_take_of_lt h, List.getElem?_drop]
theorem word_part (l : List UInt8) (i k : Nat) (h : k + 4 ≤ 64) : word ((l.drop i).take 64) k = word l (i + k) := by
  unfold word
  rw [byteAt_part l i k (by omega), byteAt_part l i (k + 1) (by omega), byteAt_part l i (k + 2) (by omega), byteAt_part l i (k + 3) (by omega), ← Nat.add_assoc, ← Nat.add_assoc, ← Nat.add_assoc]
/-- the state moved on by a place, down to a place -/
def sh (l : List Nat) (k : Nat) : List Nat := [l.getD 0 0, if 1 ≤ k then l.getD 1 0 else l.getD 0 0, if 2 ≤ k then l.getD 2 0 else l.getD 1 0, if 3 ≤ k then l.getD 3 0 else l.getD 2 0, if 4 ≤ k then l.getD 4 0 else l.getD 3 0, if 5 ≤ k then l.getD 5 0 else l.getD 4 0, if 6 ≤ k then l.getD 6 0 else l.getD 5 0, if 7 ≤ k then l.getD 7 0 else l.getD 6 0]
theorem sh_step (a b c d e f g h : Nat) : ∀ k, 1 ≤ k → k ≤ 7 → (sh [a, b, c, d, e, f, g, h] k).set k ([a, b, c, d, e, f, g, h].getD (k - 1) 0) = sh [a, b, c, d, e, f, g, h] (k - 1)
  | 0, h, _ => absurd h (by omega)
  | 1, _, _ => rfl
  | 2, _, _ => rfl
  | 3, _, _ => rfl
  | 4, _, _ => rfl
  | 5, _, _ => rfl
  | 6, _, _ => rfl
  | 7, _, _ => rfl
  | k + 8, _, h => absurd h (by omega)
theorem sh_at (a b c d e f g h : Nat) : ∀ k, 1 ≤ k → k ≤ 7 → (sh [a, b, c, d, e, f, g, h] k)[k - 1]? = some ([a, b, c, d, e, f, g, h].getD (k - 1) 0)
  | 0, h, _ => absurd h (by omega)
  | 1, _, _ => rfl
  | 2, _, _ => rfl
  | 3, _, _ => rfl
  | 4, _, _ => rfl
  | 5, _, _ => rfl
  | 6, _, _ => rfl
  | 7, _, _ => rfl
  | k + 8, _, h => absurd h (by omega)
theorem sh_len (l : List Nat) (k : Nat) : (sh l k).length = 8 := rfl
theorem sh_first (a b c d e f g h : Nat) : sh [a, b, c, d, e, f, g, h] 7 = [a, b, c, d, e, f, g, h] := rfl
theorem sh_last (a b c d e f g h : Nat) : sh [a, b, c, d, e, f, g, h] 0 = [a, a, b, c, d, e, f, g] := rfl
end Sha
end Go.Proofs.YtenaelkbgkpllaaGreatDoor
/- The levels of a tree, one by one. -/
namespace Go.Proofs.YtenaelkbgkpllaaGreatDoor
namespace Ward
/-- the levels: the leaves first -/
def lev (L : List Pt) : (n : Nat) → List (T n)
  | 0 => leaves L
  | n + 1 => fours (lev L n)
/-- from this level on the tree is made -/
def Up (L : List Pt) (n : Nat) : Prop := ∃ k, (lev L n).length < k ∧ climb k n (lev L n) = tree L
theorem up_zero (L : List Pt) : Up L 0 := ⟨_, leaves_lt L, rfl⟩
theorem lev_ne (L : List Pt) : ∀ n, lev L n ≠ []
  | 0 => leaves_ne L
  | n + 1 => fun e => by
    have := congrArg List.length e
    have h : lev L n ≠ [] := lev_ne L n
    have hl : (lev L n).length ≠ 0 := fun e => h (List.length_eq_zero_iff.1 e)
    rw [lev, fours_length] at this
    simp at this
    omega
theorem up_succ {L : List Pt} {n : Nat} (h : Up L n) (hl : 1 < (lev L n).length) : Up L (n + 1) := by
  obtain ⟨k, hk, e⟩ := h
  match k, hk, e with
  | k + 1, hk, e =>
    rw [climb_more _ _ _ (by omega)] at e
    exact ⟨k, by rw [lev, fours_length]; omega, e⟩
theorem up_end {L : List Pt} {n : Nat} (h : Up L n) (hl : ¬ 1 < (lev L n).length) : ∃ t, lev L n = [t] ∧ tree L = ⟨n, t⟩ := by
  have h0 : (lev L n).length ≠ 0 := fun e => lev_ne L n (List.length_eq_zero_iff.1 e)
  obtain ⟨t, ht⟩ := List.length_eq_one_iff.1 (show (lev L n).length = 1 by omega)
  obtain ⟨k, hk, e⟩ := h
  match k, hk, e with
  | k + 1, hk, e =>
    refine ⟨t, ht, ?_⟩
    rw [← e, ht, climb_one]
theorem lev_small {L : List Pt} (h : ∀ p ∈ L, p.Ok) : ∀ n, ∀ t ∈ lev L n, Small n t
  | 0, t, ht => leaves_small h t ht
  | n + 1, t, ht => ⟨(fours_small (lev L n) t ht).1, fun c hc => lev_small h n c (fours_mem ht c hc)⟩
theorem lev_len (L : List Pt) (h : L.length ≤ 150) : ∀ n, (lev L n).length ≤ 38
  | 0 => by
    show (leaves L).length ≤ 38
    unfold leaves
    split
    · simp
    · rw [fours_length]; omega
  | n + 1 => by
    have := lev_len L h n
    rw [lev, fours_length]
    omega
end Ward
end Go.Proofs.YtenaelkbgkpllaaGreatDoor
/- The answer found point by point: one put in at its place; the nearest of what is left. -/
namespace Go.Proofs.YtenaelkbgkpllaaGreatDoor
namespace Ward
theorem sortP_snoc {l : List Pt} {p : Pt} {k : Nat} (hi : Ids (l ++ [p])) (hp : Parts p (sortP l) k) : sortP (l ++ [p]) = (sortP l).take k ++ p :: (sortP l).drop k := by
  rw [← hp.ins]
  have h1 : Ids l := ids_sub (List.sublist_append_left _ _) hi
  have h2 : ∀ q ∈ sortP l, q.id ≠ p.id := fun q hq => by
    have := (List.pairwise_append.1 hi).2.2 q ((sortP_perm l).mem_iff.1 hq) p (by simp)
    exact this
  refine sortP_eq (ins_sorted (sortP_sorted h1) h2) ?_ hi
  refine (ins_perm p (sortP l)).trans (((sortP_perm l).cons p).trans ?_)
  exact (List.perm_append_singleton p l).symm
theorem ids_index {l : List Pt} (h : Ids l) {i j : Nat} (hi : i < l.length) (hj : j < l.length) (e : l[i].id = l[j].id) : i = j := by
  have key := List.pairwise_iff_getElem.1 h
  rcases Nat.lt_trichotomy i j with h1 | h1 | h1
  · exact absurd e (key i j hi hj h1)
  · exact h1
  · exact absurd e.symm (key j i hj hi h1)
theorem sortN_length (x y : Int) (l : List Pt) : (sortN x y l).length = l.length := (sortN_perm x y l).length_eq
theorem near_next {x y : Int} {l : List Pt} {n : Nat} {p : Pt} (hi : Ids l) (hn : n < l.length) (hp : p ∈ l) (hno : p ∉ (sortN x y l).take n) (hb : ∀ q ∈ l, q ∉ (sortN x y l).take n → q = p ∨ nr x y p q) : (sortN x y l).take (n + 1) = (sortN x y l).take n ++ [p] := by
  have hs := sortN_sorted (x := x) (y := y) hi
  have hl : n < (sortN x y l).length := by rw [sortN_length]; exact hn
  have hpm : p ∈ sortN x y l := (sortN_perm x y l).mem_iff.2 hp
  have hmem := fun q => (sortN_perm x y l).mem_iff (a := q)
  generalize sortN x y l = S at *
  rw [List.take_succ_eq_append_getElem hl]
  congr 2
  have key := List.pairwise_iff_getElem.1 hs
  have h1 : S[n] ∉ S.take n := fun h => by
    obtain ⟨i, hi', e⟩ := List.getElem_of_mem h
    rw [List.length_take] at hi'
    rw [List.getElem_take] at e
    have := key i n (by omega) hl (by omega)
    rw [e] at this
    exact nr_irrefl x y _ this
  have h2 := hb S[n] ((hmem _).1 (List.getElem_mem hl)) h1
  obtain ⟨j, hj, e⟩ := List.getElem_of_mem hpm
  have h3 : n ≤ j := Nat.le_of_not_lt fun h => hno (by rw [← e]; exact List.mem_take_iff_getElem.2 ⟨j, by omega, rfl⟩)
  rcases Nat.lt_or_eq_of_le h3 with h4 | h4
  · have h5 := key n j hl hj h4
    rw [e] at h5
    rcases h2 with h2 | h2
    · exact h2
    · exact absurd (nr_trans h2 h5) (nr_irrefl x y p)
  · subst h4
    exact e
/-- the distance of a place from a box, worked out by cases -/
def offI (n lo hi : Int) : Int := if n < lo then lo - n else if hi < n then n - hi else 0
theorem off_gap {lo hi n : Int} (h : lo ≤ hi) : offI n lo hi = gap lo hi n := by
  unfold offI gap
  split
  · omega
  · split <;> omega
theorem sq_gap (a n : Int) : gap a a n * gap a a n = (a - n) * (a - n) := by
  unfold gap
  by_cases h : n ≤ a
  · rw [show max (max (a - n) 0) (n - a) = a - n by omega]
  · rw [show max (max (a - n) 0) (n - a) = -(a - n) by omega, Int.neg_mul_neg]
theorem distP_is (p : Pt) (x y : Int) : distP p x y = (p.x - x) * (p.x - x) + (p.y - y) * (p.y - y) := by
  unfold distP dist boxOf
  rw [sq_gap, sq_gap]
end Ward
end Go.Proofs.YtenaelkbgkpllaaGreatDoor
