/- The document's digest of a text. -/
import Derived.Test.YtenaelkbgkpllaaGreatDoorProven10
import Derived.Test.YtenaelkbgkpllaaGreatDoorProven4
import Derived.Lib.ConvBytes
import Derived.Lib.AtoiErrMem
import Derived.Deep.MidRow
import Derived.Test.YtenaelkbgkpllaaGreatDoorProven7
import Derived.Test.YtenaelkbgkpllaaGreatDoorProven6
import Derived.Test.YtenaelkbgkpllaaGreatDoorProven8
import Derived.Test.YtenaelkbgkpllaaGreatDoorProven1
namespace Go.Proofs.YtenaelkbgkpllaaGreatDoor
open Go.RowKit

/-- bytes in a row that a text was written into: nothing of it is frozen -/
def OwnG (w : World) (B : Nat) (v : Value) (l : List UInt8) : Prop := ∃ g cap cur fz, v = .slice (some ⟨g, 0, none⟩) l.length cap ∧ B ≤ g ∧ w.heap[g]? = some (.cells cur 5 fz) ∧ (fz = (0, 0) ∨ cap ≤ fz.1) ∧ l.length ≤ cap ∧ cap ≤ maxLen ∧ cur.size = cap ∧ cur.toList.take l.length = l.map Y
theorem ownG_bytes (w : World) (s : ByteArray) (hs : s.size ≤ maxLen) : OwnG (Lib.bytesWorld w 5 s) w.heap.size (.slice (some ⟨w.heap.size, 0, none⟩) s.size (grownCap w s.size 0 5)) s.data.toList := by
  have h1 := grownCap_ge w s.size 0 5
  have h2 := grownCap_le_maxLen w s.size 0 5 hs
  have hsz : s.data.size = s.size := rfl
  have h3 : (Lib.bytesCells w 5 s).size = grownCap w s.size 0 5 := by
    unfold Lib.bytesCells
    rw [Array.size_append, Array.size_map, Array.size_replicate]
    omega
  have h4 : s.data.toList.length = s.size := by simp
  refine ⟨w.heap.size, grownCap w s.size 0 5, _, _, by rw [h4], Nat.le_refl _, Lib.bytesWorld_at_new w 5 s, .inr (by rw [h3]; exact Nat.le_refl _), by rw [h4]; exact h1, h2, h3, ?_⟩
  unfold Lib.bytesCells
  rw [Array.toList_append, List.take_append_of_le_length (by simp), List.take_of_length_le (by simp), Array.toList_map]
theorem OwnG.lt {w : World} {B : Nat} {v : Value} {l : List UInt8} (h : OwnG w B v l) : ∃ g cap, v = .slice (some ⟨g, 0, none⟩) l.length cap ∧ B ≤ g ∧ g < w.heap.size ∧ w.rangeAt g 0 (l.map Y) := by
  obtain ⟨g, cap, cur, fz, rfl, hb, hg, hf, hl, hm, hc, ht⟩ := h
  refine ⟨g, cap, rfl, hb, (Array.getElem?_eq_some_iff.1 hg).1, fun j u hu => ?_⟩
  rw [cell_of_row _ _ _ _ _ _ hg, Nat.zero_add, ← Array.getElem?_toList]
  rw [← ht, List.getElem?_take] at hu
  split at hu
  · exact hu
  · cases hu
theorem OwnG.keep {w w' : World} {B : Nat} {v : Value} {l : List UInt8} (h : OwnG w B v l) (hb : Below w.heap.size w w') : OwnG w' B v l := by
  obtain ⟨g, cap, cur, fz, rfl, hB, hg, r⟩ := h
  exact ⟨g, cap, cur, fz, rfl, hB, (hb.block g (Array.getElem?_eq_some_iff.1 hg).1).trans hg, r⟩
/-- one byte more -/
theorem ownG_push {w : World} {B : Nat} {v : Value} {l : List UInt8} (b : UInt8) (h : OwnG w B v l) (a : Addr) (c : Nat) (ha : w.cell? a = some (Y b)) (hl : l.length + 1 ≤ 140737488355328) (hB : B ≤ w.heap.size) :
    ∃ v' w', (Builtin.append_ #[59, 59] 59 #[v, .slice (some a) 1 c]).run Tryz.prog w = .ok v' w' ∧ OwnG w' B v' (l ++ [b]) ∧ Below B w w' := by
  obtain ⟨i0, hi0, hz0, hz1, hz2⟩ := info_parts Tryz.info5
  have hnews : ∀ j u, [Y b][j]? = some u → w.cell? (a.add j) = some u := fun j u hj => by
    match j, hj with
    | 0, hj =>
      have : a.add 0 = a := by unfold Addr.add; simp
      rw [this, ha]; exact hj
  have hrng := OwnG.lt h
  obtain ⟨g, cap, cur, fz, rfl, hb, hg, hf, hlc, hm, hc, ht⟩ := h
  by_cases hroom : l.length + 1 ≤ cap
  · have hcell : w.cell? ⟨g, l.length, none⟩ = some cur[l.length] := by rw [cell_of_row _ _ _ _ _ _ hg]; exact Array.getElem?_eq_getElem (by omega)
    have hfro : w.frozen? ⟨g, l.length, none⟩ = false := by
      obtain ⟨lo, hi'⟩ := fz
      simp only [World.frozen?, hg, Bool.and_eq_false_iff, decide_eq_false_iff_not]
      rcases hf with hf | hf
      · injection hf with h1 h2
        right; omega
      · left; simp only at hf; omega
    have hst : (storeCells ⟨g, l.length, none⟩ [Y b] 0).run Tryz.prog w = .ok () (w.setCell ⟨g, l.length, none⟩ (Y b)) := by
      have hadd : (⟨g, l.length, none⟩ : Addr).add 0 = ⟨g, l.length, none⟩ := by unfold Addr.add; simp
      have h1 : (store ⟨g, l.length, none⟩ (Y b)).run Tryz.prog w = .ok () (w.setCell ⟨g, l.length, none⟩ (Y b)) := by
        rw [run_store Tryz.prog w _ (Y b) _ rfl, hcell]
        simp [hfro]
      simp only [storeCells, Sem.run_bind, hadd, h1, Result.andThen_ok]
      rfl
    have hfc := run_firstCells_some (P := Tryz.prog) w 1 1 a 1 c [Y b] rfl hnews
    refine ⟨.slice (some ⟨g, 0, none⟩) (l.length + 1) cap, w.setCell ⟨g, l.length, none⟩ (Y b), ?_, ⟨g, cap, cur.setIfInBounds l.length (Y b), fz, by simp, hb, ?_, hf, by simpa using hroom, hm, by simpa using hc, ?_⟩, (Below.refl B w).setCell hb _⟩
    · simp [Builtin.append_, run_underlying Tryz.underlying59, sizeOf, typeInfo, hi0, hz1, Builtin.lenOf, hroom, hfc, Addr.add_lit, hst]
    · rw [setCell_eq_setRow w g l.length cur 5 fz (Y b) hg]
      exact setRow_heap w g cur _ 5 _ hg
    · rw [Array.toList_setIfInBounds, List.length_append, List.length_singleton, List.map_append, ← ht]
      have hlt : l.length < cur.toList.length := by simp; omega
      rw [List.take_succ_eq_append_getElem (by simpa using hlt), List.getElem_set_self, List.take_set_of_le (Nat.le_refl _)]
      rfl
  · obtain ⟨g2, cap2, e2, _, _, hr⟩ := hrng
    injection e2 with e3 e4 e5
    injection e3 with e3
    injection e3 with e3
    subst e3
    have hold : ∀ j u, (l.map Y)[j]? = some u → w.cell? ((⟨g, 0, none⟩ : Addr).add j) = some u := fun j u hj => by
      rw [Addr.add_lit]
      exact hr j u hj
    have hr2 := run_append_grow (P := Tryz.prog) w 59 59 5 i0 (.int .u8 0) Tryz.underlying59 hi0 hz0 ⟨g, 0, none⟩ l.length cap (l.map Y) (by rw [List.length_map, hz1, Nat.mul_one]) hold a 1 c [Y b] (by rw [hz1]; rfl) hnews (by omega) (by omega) (by rw [hz2]; exact growslice_fits (by omega) (by omega))
    have hge := grownCap_ge w (l.length + 1) cap 5
    have hcm2 : grownCap w (l.length + 1) cap 5 ≤ maxLen := grownCap_le_maxLen w (l.length + 1) cap 5 (by unfold maxLen; omega)
    refine ⟨_, _, hr2, ⟨w.heap.size, _, _, (0, 0), by rw [List.length_append]; rfl, hB, heap_alloc_new w.drew _, .inl rfl, by rw [List.length_append]; exact hge, hcm2, ?_, ?_⟩, ((Below.refl B w).drew).alloc hB _⟩
    · simp only [Array.size_append, List.size_toArray, List.length_map, size_zeroCells, List.length_singleton]
      have : (Value.int IntKind.u8 0).cells.size = 1 := rfl
      rw [this]
      omega
    · simp only [Array.toList_append, List.append_assoc]
      rw [← List.append_assoc, List.take_append_of_le_length (by simp), List.take_of_length_le (by simp), List.map_append]
      rfl
/-- a list's length -/
def lenOf' : Value → Nat
  | .slice _ n _ => n
  | _ => 0
theorem pad_mod (n : Nat) : (n + 1 + (119 - n % 64) % 64) % 64 = 56 := by
  have h := Nat.mod_lt n (show 64 > 0 by decide)
  by_cases h1 : n % 64 ≤ 55
  · have e : (119 - n % 64) % 64 = 55 - n % 64 := by omega
    rw [e]; omega
  · have e : (119 - n % 64) % 64 = 119 - n % 64 := by omega
    rw [e]; omega
theorem pad_not (n j : Nat) (hj : j < (119 - n % 64) % 64) : (n + 1 + j) % 64 ≠ 56 := by
  have h := Nat.mod_lt n (show 64 > 0 by decide)
  by_cases h1 : n % 64 ≤ 55
  · have e : (119 - n % 64) % 64 = 55 - n % 64 := by omega
    rw [e] at hj; omega
  · have e : (119 - n % 64) % 64 = 119 - n % 64 := by omega
    rw [e] at hj; omega
theorem Tryz.infoConst : (Tryz.prog.info? 67).map (·.size) = some 72 := by kernel_rfl
/-- the first bytes of a list, then noughts -/
def outV (l : List UInt8) (i : Nat) : Array Value := ((l.take i ++ List.replicate (32 - i) 0).map Y).toArray
theorem outV_set (l : List UInt8) (i : Nat) (hl : l.length = 32) (hi : i < 32) : (outV l i).setIfInBounds i (Y (l.getD i 0)) = outV l (i + 1) := by
  unfold outV
  rw [List.setIfInBounds_toArray]
  congr 1
  apply List.ext_getElem?
  intro j
  rw [List.getElem?_set, List.getElem?_map, List.getElem?_map]
  have hlen : ∀ k, k ≤ 32 → (l.take k ++ List.replicate (32 - k) (0 : UInt8)).length = 32 := fun k hk => by simp [hl]; omega
  by_cases e : i = j
  · subst e
    rw [if_pos rfl, if_pos (by rw [List.length_map, hlen i (by omega)]; exact hi), List.getElem?_append_left (by simp [hl]; omega), List.getElem?_take_of_lt (by omega), List.getD_eq_getElem?_getD, List.getElem?_eq_getElem (by omega)]
    rfl
  · rw [if_neg e]
    by_cases h : j < i
    · rw [List.getElem?_append_left (by simp [hl]; omega), List.getElem?_append_left (by simp [hl]; omega), List.getElem?_take_of_lt h, List.getElem?_take_of_lt (by omega)]
    · rw [List.getElem?_append_right (by simp [hl]; omega), List.getElem?_append_right (by simp [hl]; omega), List.getElem?_replicate, List.getElem?_replicate]
      simp only [List.length_take, hl]
      by_cases h2 : j < 32
      · rw [if_pos (by omega), if_pos (by omega)]
      · rw [if_neg (by omega), if_neg (by omega)]
theorem outV_size (l : List UInt8) (i : Nat) (hl : l.length = 32) (hi : i ≤ 32) : (outV l i).size = 32 := by simp [outV, hl]; omega
theorem outV_all (l : List UInt8) (hl : l.length = 32) : outV l 32 = (l.map Y).toArray := by
  unfold outV
  rw [List.take_of_length_le (by omega), Nat.sub_self, List.replicate_zero, List.append_nil]
theorem toL_lt {s : Sha.St} (h : Sha.Ok s) (a : Nat) : (toL s).getD a 0 < 4294967296 := by
  obtain ⟨h1, h2, h3, h4, h5, h6, h7, h8⟩ := h
  refine Sha.getD_lt (fun x hx => ?_) a
  simp only [toL, List.mem_cons, List.not_mem_nil, or_false] at hx
  rcases hx with rfl | rfl | rfl | rfl | rfl | rfl | rfl | rfl <;> assumption
/-- the byte of that place -/
theorem join_at (s : Sha.St) : ∀ (a b : Nat), a < 8 → b < 4 → (Sha.join s).getD (4 * a + b) 0 = UInt8.ofNat ((toL s).getD a 0 / 2 ^ (24 - 8 * b))
  | 0, 0, _, _ => rfl | 0, 1, _, _ => rfl | 0, 2, _, _ => rfl | 0, 3, _, _ => by show UInt8.ofNat _ = UInt8.ofNat (_ / 1); rw [Nat.div_one]; rfl
  | 1, 0, _, _ => rfl | 1, 1, _, _ => rfl | 1, 2, _, _ => rfl | 1, 3, _, _ => by show UInt8.ofNat _ = UInt8.ofNat (_ / 1); rw [Nat.div_one]; rfl
  | 2, 0, _, _ => rfl | 2, 1, _, _ => rfl | 2, 2, _, _ => rfl | 2, 3, _, _ => by show UInt8.ofNat _ = UInt8.ofNat (_ / 1); rw [Nat.div_one]; rfl
  | 3, 0, _, _ => rfl | 3, 1, _, _ => rfl | 3, 2, _, _ => rfl | 3, 3, _, _ => by show UInt8.ofNat _ = UInt8.ofNat (_ / 1); rw [Nat.div_one]; rfl
  | 4, 0, _, _ => rfl | 4, 1, _, _ => rfl | 4, 2, _, _ => rfl | 4, 3, _, _ => by show UInt8.ofNat _ = UInt8.ofNat (_ / 1); rw [Nat.div_one]; rfl
  | 5, 0, _, _ => rfl | 5, 1, _, _ => rfl | 5, 2, _, _ => rfl | 5, 3, _, _ => by show UInt8.ofNat _ = UInt8.ofNat (_ / 1); rw [Nat.div_one]; rfl
  | 6, 0, _, _ => rfl | 6, 1, _, _ => rfl | 6, 2, _, _ => rfl | 6, 3, _, _ => by show UInt8.ofNat _ = UInt8.ofNat (_ / 1); rw [Nat.div_one]; rfl
  | 7, 0, _, _ => rfl | 7, 1, _, _ => rfl | 7, 2, _, _ => rfl | 7, 3, _, _ => by show UInt8.ofNat _ = UInt8.ofNat (_ / 1); rw [Nat.div_one]; rfl
  | a + 8, _, h, _ => absurd h (by omega)
  | _, b + 4, _, h => absurd h (by omega)
theorem Tryz.array22 : Tryz.prog.underlying 39 = some (.array (Tryz.prog.arrayLen 39) (Tryz.prog.elem 39)) := by kernel_rfl
theorem Tryz.arrayLen22 : Tryz.prog.arrayLen 39 = 32 := by kernel_rfl
theorem Tryz.elem22 : Tryz.prog.elem 39 = 5 := by kernel_rfl
theorem Tryz.size5' (w : World) : (sizeOf 5).run Tryz.prog w = .ok 1 w := by kernel_rfl
theorem idx32 (g : Nat) (i : Int) (k : Nat) (h : i = k) (hk : k < 32) (W : World) :
    (Instr.indexAt 39 (.pointer (some ⟨g, 0, none⟩)) (.int .i64 i)).run Tryz.prog W = .ok (.pointer (some ⟨g, k, none⟩)) W := by
  subst h
  rw [run_indexAt_array W 39 _ _ _ Tryz.array22, Tryz.arrayLen22, Tryz.elem22, if_pos (by omega), Tryz.size5']
  simp only [Result.andThen_ok, add_offR, Int.toNat_natCast, Nat.mul_one, Nat.zero_add]
theorem yb0 (x : Nat) (y : UInt8) (hx : x < 4294967296) (h : y = UInt8.ofNat (x / 2 ^ (24 - 8 * 0))) : Value.int .u8 ((x : Int) / 16777216) = Y y := by
  rw [h, show 2 ^ (24 - 8 * 0) = 16777216 from rfl]; refine congrArg (Value.int .u8) ?_; rw [UInt8.toNat_ofNat']; omega
theorem yb1 (x : Nat) (y : UInt8) (_ : x < 4294967296) (h : y = UInt8.ofNat (x / 2 ^ (24 - 8 * 1))) : Value.int .u8 ((x : Int) / 65536 % 256) = Y y := by
  rw [h, show 2 ^ (24 - 8 * 1) = 65536 from rfl]; refine congrArg (Value.int .u8) ?_; rw [UInt8.toNat_ofNat']; omega
theorem yb2 (x : Nat) (y : UInt8) (_ : x < 4294967296) (h : y = UInt8.ofNat (x / 2 ^ (24 - 8 * 2))) : Value.int .u8 ((x : Int) / 256 % 256) = Y y := by
  rw [h, show 2 ^ (24 - 8 * 2) = 256 from rfl]; refine congrArg (Value.int .u8) ?_; rw [UInt8.toNat_ofNat']; omega
theorem yb3 (x : Nat) (y : UInt8) (_ : x < 4294967296) (h : y = UInt8.ofNat (x / 2 ^ (24 - 8 * 3))) : Value.int .u8 ((x : Int) % 256) = Y y := by
  rw [h, show 2 ^ (24 - 8 * 3) = 1 from rfl, Nat.div_one]; refine congrArg (Value.int .u8) ?_; rw [UInt8.toNat_ofNat']; omega
theorem Y128 : (.int .u8 128 : Value) = Y 128 := rfl
theorem conv_str (s : ByteArray) (W : World) : (convert 9 59 (.string s)).run Tryz.prog W = .ok (.slice (some ⟨W.heap.size, 0, none⟩) s.size (grownCap W s.size 0 5)) (Lib.bytesWorld W 5 s) :=
  Lib.run_convert_string_bytes W 9 59 5 s Tryz.underlying9 Tryz.underlying59 Tryz.underlying5
set_option maxRecDepth 100000 in
set_option maxHeartbeats 2000000 in
theorem digest_ref (C : Array Value) (s : ByteArray) (L : List Value) (w : World) (hL : (Sha.sha s.data.toList).map Y = L) (hs : s.size ≤ 140737488351232) (hC72 : C.size = 72) (hC : ∀ t, t < 64 → C[8 + t]? = some (U (Sha.Ks.getD t 0))) (hC0 : ∀ (j : Nat) (v : Value), ((toL Sha.start).map U)[j]? = some v → C[j]? = some v) :
    Calls Tryz.prog 97 #[.agg C, .string s] w fun e w' => e = .returned (.agg L.toArray) ∧ Below w.heap.size w w' := by
  have HLL := hide hL
  clear hL
  have HC72 := hide hC72
  clear hC72
  have HC := hide hC
  have HC0 := hide hC0
  have hcv := conv_str s
  have HL := hide (show s.data.toList.length = s.size by simp)
  clear hC hC0
  go_enter Tryz.func97, Tryz.ntmps97
  have hr0' := fun (a b : Obj) => heap_alloc2_old w a b
  have hr1' := fun (a b : Obj) => heap_alloc2_new w a b
  have hb1' := fun (a b : Obj) => ((Below.refl w.heap.size w).alloc (Nat.le_refl _) a).alloc (by simp) b
  go_upto_region 2 with fail
  generalize hW : World.alloc (World.alloc w _) _ = w1
  have hr0 : w1.heap[w.heap.size]? = some (.cells C 67 (0, 0)) := by rw [← hW]; exact hr0' _ _
  obtain ⟨z, hz32, hr1⟩ : ∃ z : Array Value, z.size = 32 ∧ w1.heap[w.heap.size + 1]? = some (.cells z 39 (0, 0)) := by
    rw [← hW]; exact ⟨_, rfl, hr1' _ _⟩
  have hb1 : Below w.heap.size w w1 := by rw [← hW]; exact hb1' _ _
  have hs1 : w1.heap.size = w.heap.size + 2 := by rw [← hW]; simp
  clear hW hr0' hr1' hb1'
  obtain ⟨v2, w2, hap, hown2, hb2⟩ := ownG_push (w := (Lib.bytesWorld w1 5 s).alloc (.cells #[Y 128] 5)) 128 ((ownG_bytes w1 s (by unfold maxLen; omega)).keep ((Below.refl _ _).alloc (Nat.le_refl _) _)) ⟨w1.heap.size + 1, 0, none⟩ 1 (by
    have h := cell_of_row _ _ 0 _ _ _ (heap_alloc_new (Lib.bytesWorld w1 5 s) (.cells #[Y 128] 5))
    rw [Lib.bytesWorld_size] at h
    exact h) (by rw [HL.out]; omega) (by rw [World.size_alloc, Lib.bytesWorld_size]; omega)
  have hap' : (Builtin.append_ #[59, 59] 59 #[.slice (some ⟨w1.heap.size, 0, none⟩) s.size (grownCap w1 s.size 0 5), .slice (some ⟨w1.heap.size + 1, 0, none⟩) 1 1]).run Tryz.prog ((Lib.bytesWorld w1 5 s).alloc (.cells #[.int .u8 128] 5)) = .ok v2 w2 := hap
  have hb2' : Below w1.heap.size w1 w2 := ((Lib.bytesWorld_below w1 5 s).alloc (by rw [Lib.bytesWorld_size]; omega) _).trans hb2
  have hbz := Lib.bytesWorld_size w1 5 s
  clear hap hb2
  have H0 := hide ((hb2'.block w.heap.size (by omega)).trans hr0)
  have H1 := hide ((hb2'.block (w.heap.size + 1) (by omega)).trans hr1)
  have HB2 := hide (show Below w.heap.size w w2 from hb1.trans (hb2'.mono (by omega)))
  have HO2 := hide (show OwnG w2 (w.heap.size + 2) v2 (s.data.toList ++ 128 :: List.replicate 0 0) by rw [← hs1]; exact hown2)
  have hs2 : w.heap.size + 2 ≤ w2.heap.size := by have := hb2'.size; omega
  have HZ := hide hz32
  clear hr0 hr1 hb1 hown2 hb2' hz32 hs1
  go_wp2_with (at_builtin; refine Lib.wpList_append_run _ rfl (.tmp 17) (.tmp 18) 59 59 rfl _ _ rfl rfl _ _ hap' ?_)
  clear hap' hbz hcv
  go_loopw [6] (fun vv wq => ∃ j : Nat, j ≤ (119 - s.size % 64) % 64 ∧ OwnG wq (w.heap.size + 2) vv (s.data.toList ++ 128 :: List.replicate j 0) ∧ wq.heap[w.heap.size]? = some (.cells C 67 (0, 0)) ∧ wq.heap[w.heap.size + 1]? = some (.cells z 39 (0, 0)) ∧ Below w.heap.size w wq ∧ w.heap.size + 2 ≤ wq.heap.size)
    (fun vv _ => s.size + 65 - lenOf' vv)
  case atStart => exact ⟨0, by omega, HO2.out, H0.out, H1.out, HB2.out, hs2⟩
  case round =>
    clear HO2 H0 H1 HB2 hs2
    obtain ⟨j, hj, hown, h0, h1, hb, hsz⟩ := hrel
    have HO := hide hown
    have H0 := hide h0
    have H1 := hide h1
    have HB := hide hb
    obtain ⟨g, cap, rfl, hg0, hg1, hrg⟩ := hown.lt
    have hlen : (s.data.toList ++ 128 :: List.replicate j (0 : UInt8)).length = s.size + 1 + j := by simp; omega
    rw [hlen]
    by_cases hlt : j < (119 - s.size % 64) % 64
    · obtain ⟨v3, w3, hap, hown3, hb3⟩ := ownG_push (w := wr.alloc (.cells #[Y 0] 5)) 0 (HO.out.keep ((Below.refl _ _).alloc (Nat.le_refl _) _)) ⟨wr.heap.size, 0, none⟩ 1 (cell_of_row _ _ 0 _ _ _ (heap_alloc_new wr (.cells #[Y 0] 5))) (by rw [hlen]; omega) (by rw [World.size_alloc]; omega)
      rw [hlen] at hap
      have hap' : (Builtin.append_ #[59, 59] 59 #[.slice (some ⟨g, 0, none⟩) (s.size + 1 + j) cap, .slice (some ⟨wr.heap.size, 0, none⟩) 1 1]).run Tryz.prog (wr.alloc (.cells #[.int .u8 0] 5)) = .ok v3 w3 := hap
      have hb3' : Below (w.heap.size + 2) wr w3 := ((Below.refl (w.heap.size + 2) wr).alloc hsz _).trans hb3
      have hs3 : wr.heap.size ≤ w3.heap.size := Nat.le_trans (by rw [World.size_alloc]; omega) hb3.size
      obtain ⟨g3, cap3, e3, _, _, _⟩ := hown3.lt
      have HV3 := hide (show lenOf' v3 = s.size + 1 + j + 1 by rw [e3]; show (s.data.toList ++ 128 :: List.replicate j (0 : UInt8) ++ [0]).length = _; rw [List.length_append, hlen]; rfl)
      have HO3 := hide (show OwnG w3 (w.heap.size + 2) v3 (s.data.toList ++ 128 :: List.replicate (j + 1) 0) by rw [List.replicate_succ', ← List.cons_append, ← List.append_assoc]; exact hown3)
      have H03 := hide ((hb3'.block w.heap.size (by omega)).trans h0)
      have H13 := hide ((hb3'.block (w.heap.size + 1) (by omega)).trans h1)
      have HB3 := hide (show Below w.heap.size w w3 from hb.trans (hb3'.mono (by omega)))
      clear hap hown3 hb3 hb3' e3 h0 h1 hb hown HO H0 H1 HB hrg hlen
      have hmod : ((s.size : Int) + 1 + (j : Int)) % 64 ≠ 56 := by have := pad_not s.size j hlt; omega
      have hj64 : j < 64 := by omega
      have HLT := hide hlt
      clear hlt hj
      go_wp2_with (at_builtin; refine Lib.wpList_append_run _ rfl (.tmp 24) (.tmp 25) 59 59 rfl _ _ rfl rfl _ _ hap' ?_)
      go_roundw
      case rel => exact ⟨j + 1, HLT.out, HO3.out, H03.out, H13.out, HB3.out, by omega⟩
      case measure => rw [HV3.out]; show s.size + 65 - (s.size + 1 + j + 1) < s.size + 65 - (s.size + 1 + j); omega
    · have ej : j = (119 - s.size % 64) % 64 := by omega
      have hmod : ((s.size : Int) + 1 + (j : Int)) % 64 = 56 := by have := pad_mod s.size; rw [← ej] at this; omega
      have hj64 : j < 64 := by omega
      have HEJ := hide ej
      clear h0 h1 hb hown hlt ej hj
      have hconv := conv_bytes g (s.size + 1 + j) cap _ hlen
      obtain ⟨m1, hm1, hm1', em1⟩ : ∃ m : Nat, (s.size : Int) * 8 / 4294967296 = (m : Int) ∧ m < 4294967296 ∧ m = 8 * s.size / 4294967296 % 4294967296 := ⟨8 * s.size / 4294967296 % 4294967296, by omega, by omega, rfl⟩
      obtain ⟨m2, hm2, hm2', em2⟩ : ∃ m : Nat, (s.size : Int) * 8 % 4294967296 = (m : Int) ∧ m < 4294967296 ∧ m = 8 * s.size % 4294967296 := ⟨8 * s.size % 4294967296, by omega, by omega, rfl⟩
      have HPD := hide (show (s.data.toList ++ 128 :: List.replicate j 0) ++ Sha.four m1 ++ Sha.four m2 = Sha.padded s.data.toList by
        rw [em1, em2, HEJ.out]
        unfold Sha.padded Sha.padding
        rw [HL.out]
        simp only [List.append_assoc, List.cons_append])
      have HE1 := hide (show ∀ W, Calls Tryz.prog 130 #[.int .u32 m1] W fun e w' => e = .returned (Sv (Sha.four m1)) ∧ Below W.heap.size W w' from fun W => four_ref m1 W hm1')
      have HE2 := hide (show ∀ W, Calls Tryz.prog 130 #[.int .u32 m2] W fun e w' => e = .returned (Sv (Sha.four m2)) ∧ Below W.heap.size W w' from fun W => four_ref m2 W hm2')
      have l1 : (Sha.four m1).length = 4 := rfl
      have l2 : (Sha.four m2).length = 4 := rfl
      generalize Sha.four m1 = F1 at *
      generalize Sha.four m2 = F2 at *
      generalize s.data.toList ++ 128 :: List.replicate j 0 = T at *
      have ha1 : ∀ W, (Op.stringOp .add ⟨T.toArray⟩ ⟨F1.toArray⟩).run Tryz.prog W = .ok (.string ⟨(T ++ F1).toArray⟩) W := fun W => by rw [run_string_add_sum W _ _ (by simp [ByteArray.size]; omega), ByteArray.mk_append_mk]
      have lT1 : (T ++ F1).length = s.size + 5 + j := by rw [List.length_append]; omega
      generalize hT1 : T ++ F1 = T1 at *
      have ha2 : ∀ W, (Op.stringOp .add ⟨T1.toArray⟩ ⟨F2.toArray⟩).run Tryz.prog W = .ok (.string ⟨(T1 ++ F2).toArray⟩) W := fun W => by rw [run_string_add_sum W _ _ (by simp [ByteArray.size]; omega), ByteArray.mk_append_mk]
      generalize hT2 : T1 ++ F2 = T2 at *
      have HS := hide hrg
      have hw1 : IntKind.u32.wrap (m1 : Int) = (m1 : Int) := by rw [IntKind.wrap_u32]; omega
      have hw2 : IntKind.u32.wrap ((s.size : Int) * 8) = (m2 : Int) := by rw [IntKind.wrap_u32]; exact hm2
      clear em1 em2 l1 l2 lT1 hT1 hT2 hlen hm1' hm2'
      go_upto_region 5 with fail
      have hwlt : g < wr.heap.size := hg1
      clear hmod
      go_cut [7] from 27 to 37 (fun v7 wx => v7 = .string ⟨T2.toArray⟩ ∧ Below wr.heap.size wr wx)
      case first =>
        go_region_held3 (fun W => W.rangeAt g 0 (T.map Y)) (first | assumption | exact hrg | (simpa using hrg)) ((first | (go_at_call_of 130 (Value.int IntKind.u32 (m1 : Int)); refine (HE1.out _).mono ?_; rintro _ w6 ⟨rfl, hb6⟩; have hS6 := range_below hb6 (by simpa using hwlt) (show World.rangeAt _ g 0 (T.map Y) by simpa using hrg); have hs6 : wr.heap.size ≤ w6.heap.size := hb6.size; have hB6 : Below wr.heap.size wr w6 := (show Below wr.heap.size wr wr.drew from (Below.refl _ _).drew).trans hb6) | (go_at_call_of 130 (Value.int IntKind.u32 (m2 : Int)); refine (HE2.out _).mono ?_; rintro _ w7 ⟨rfl, hb7⟩; have hS7 := range_below hb7 (by omega) hS6; have hB7 : Below wr.heap.size wr w7 := hB6.trans (hb7.mono hs6))))
        all_goals
          go_wp2_with fail
          go_meet
          exact ⟨rfl, hB7⟩
      case rest =>
        obtain ⟨rfl, hbc⟩ := hcut
        have H0c := hide ((hbc.block w.heap.size (by omega)).trans H0.out)
        have H1c := hide ((hbc.block (w.heap.size + 1) (by omega)).trans H1.out)
        have HBc := hide (HB.out.trans (hbc.mono (show w.heap.size ≤ wr.heap.size by omega)))
        have hsc := hbc.size
        clear hconv hm1 hm2 ha1 ha2 hw1 hw2 hrg HS H0 H1 HB HO HE1 HE2 hbc hg0 hg1 hwlt
        have HQ := hide (show T2.length = 64 * (T2.length / 64) by have := Sha.padded_mod s.data.toList; rw [← HPD.out] at this; omega)
        have HST := hide (show Sha.stirN T2 (T2.length / 64) Sha.start = Sha.state s.data.toList by rw [HPD.out]; exact Sha.state_padded _)
        have hT2 : T2.length ≤ 140737488351304 := by have := Sha.padded_length s.data.toList; rw [← HPD.out] at this; rw [this, HL.out]; omega
        have HSZ := hide (show (⟨T2.toArray⟩ : ByteArray).size = T2.length by simp [ByteArray.size])
        have HLL2 := hide (show L = (Sha.join (Sha.state s.data.toList)).map Y from HLL.out.symm)
        generalize T2.length / 64 = q at *
        clear HPD
        have HOK := hide (fun k => Sha.stirN_ok (l := T2) k Sha.start_ok)
        obtain ⟨st, hst⟩ : ∃ st, st = Sha.start := ⟨_, rfl⟩
        rw [← hst] at HST HC0 HOK
        clear hst
        have HRG := hide (show wc.rangeAt w.heap.size 0 ((toL st).map U) from fun j v hv => by rw [cell_of_row _ _ _ _ _ _ H0c.out, Nat.zero_add]; exact HC0.out j v hv)
        have HN8 := hide (show ∀ o, (wc.alloc o).heap[wc.heap.size]? = some o from heap_alloc_new wc)
        have HB8 := hide (fun o => HBc.out.alloc (show w.heap.size ≤ wc.heap.size by omega) o)
        have HO8 := hide (fun o j (hj : j < wc.heap.size) => Below.heap_alloc wc o j hj)
        clear HC0
        obtain ⟨sa, sb, sc, sd, se, sf, sg, sh⟩ := st
        go_upto_region 8 with (first | (refine wpList_load_mid rfl 64 (.tmp 38) rfl w.heap.size 0 rfl [U sa, U sb, U sc, U sd, U se, U sf, U sg, U sh] _ HRG.out Tryz.under28 rfl Tryz.info28 ?_) | (refine wpList_store_row rfl 64 (.tmp 8) (.tmp 39) rfl wc.heap.size #[U sa, U sb, U sc, U sd, U se, U sf, U sg, U sh] rfl rfl 64 _ (HN8.out _) Tryz.info28 rfl rfl ?_))
        have HST0 := hide (show (wc.alloc (.cells (st8 ⟨sa, sb, sc, sd, se, sf, sg, sh⟩) 64)).heap[wc.heap.size]? = some (.cells (st8 (Sha.stirN T2 0 ⟨sa, sb, sc, sd, se, sf, sg, sh⟩)) 64 (0, 0)) from HN8.out _)
        obtain ⟨gh, hgh⟩ : ∃ gh, gh = wc.heap.size := ⟨_, rfl⟩
        rw [← hgh] at HN8 HO8 HST0 hsc
        rw [← hgh]
        have hgh2 : w.heap.size + 2 ≤ gh := by omega
        clear HRG HN8
        go_loopw [9] (fun iv wq => ∃ k i : Nat, i = 64 * k ∧ k ≤ q ∧ iv = .int .i64 i ∧ wq.heap[gh]? = some (.cells (st8 (Sha.stirN T2 k ⟨sa, sb, sc, sd, se, sf, sg, sh⟩)) 64 (0, 0)) ∧ wq.heap[w.heap.size]? = some (.cells C 67 (0, 0)) ∧ wq.heap[w.heap.size + 1]? = some (.cells z 39 (0, 0)) ∧ Below w.heap.size w wq)
          (fun iv _ => T2.length - (intOf iv).toNat)
        case atStart => exact ⟨0, 0, rfl, by omega, rfl, HST0.out, (HO8.out _ _ (by omega)).trans H0c.out, (HO8.out _ _ (by omega)).trans H1c.out, HB8.out _⟩
        case round =>
          clear HST0 HO8 HB8 H0c H1c HBc hgh hsc
          obtain ⟨k, i, hik, hkq, rfl, hrow, h0, h1, hb⟩ := hrel
          have HIK := hide hik
          have H0 := hide h0
          have H1 := hide h1
          have HB := hide hb
          have HROW := hide hrow
          have hsw : gh < wr.heap.size := (Array.getElem?_eq_some_iff.1 hrow).1
          clear h0 h1 hb hrow hik
          by_cases hlt : i < T2.length
          · have hk : k < q := by have := HQ.out; have := HIK.out; omega
            obtain ⟨xx, hxx⟩ : ∃ xx, Sha.stirN T2 k ⟨sa, sb, sc, sd, se, sf, sg, sh⟩ = xx := ⟨_, rfl⟩
            have hok : Sha.Ok xx := hxx ▸ HOK.out k
            have HNX := hide (show Sha.stirN T2 (k + 1) ⟨sa, sb, sc, sd, se, sf, sg, sh⟩ = Sha.stir xx ((T2.drop i).take 64) by
              show Sha.stir (Sha.stirN T2 k _) ((T2.drop (64 * k)).take 64) = _
              rw [hxx, HIK.out])
            rw [hxx] at HROW
            clear hxx
            have HMIX := hide (fun W => mixed_ref C xx.a xx.b xx.c xx.d xx.e xx.f xx.g xx.h ⟨T2.toArray⟩ i W HC.out hok (by rw [HSZ.out]; have := HQ.out; have := HIK.out; omega) (by rw [HSZ.out]; omega))
            rw [show (⟨T2.toArray⟩ : ByteArray).data.toList = T2 from rfl] at HMIX
            obtain ⟨ya, yb, yc, yd, ye, yf, yg, yh⟩ := xx
            generalize Sha.stir _ _ = yy at *
            go_wp2_with (first | (refine wpList_load_row rfl 67 (.tmp 2) rfl w.heap.size rfl 67 C (0, 0) _ H0.out Tryz.underlying67 rfl (by rw [HC72.out]; exact Tryz.infoConst) ?_) | (refine wpList_load_row rfl 64 (.tmp 8) rfl gh rfl 64 #[U ya, U yb, U yc, U yd, U ye, U yf, U yg, U yh] (0, 0) _ HROW.out Tryz.underlying64 rfl Tryz.info28 ?_))
            refine (HMIX.out _).mono ?_
            rintro e' w5 ⟨rfl, hb5⟩
            have HROW5 := hide ((hb5.block gh hsw).trans HROW.out)
            have H05 := hide ((hb5.block w.heap.size (by omega)).trans H0.out)
            have H15 := hide ((hb5.block (w.heap.size + 1) (by omega)).trans H1.out)
            have HB5 := hide (HB.out.trans (hb5.mono (show w.heap.size ≤ wr.heap.size by omega)))
            clear hb5 HROW H0 H1 HB HMIX
            have hM8 : (st8 yy).size = 8 := rfl
            have hM1 : (st8 yy).all (·.oneCell') = true := by
              rw [← toL_arr, List.all_toArray, List.all_eq_true]
              intro v hv
              obtain ⟨n, _, rfl⟩ := List.mem_map.1 hv
              rfl
            obtain ⟨M, hM⟩ : ∃ M, st8 yy = M := ⟨_, rfl⟩
            rw [hM] at hM8 hM1 ⊢
            have HMM := hide hM
            have HM8 := hide hM8
            have HM1 := hide hM1
            clear hM hM8 hM1
            go_wp2_with (refine wpList_store_row rfl 64 (.tmp 8) (.tmp 50) rfl gh M rfl rfl 64 (st8 ⟨ya, yb, yc, yd, ye, yf, yg, yh⟩) HROW5.out (by rw [HM8.out]; exact Tryz.info28) (by rw [HM8.out]; rfl) HM1.out ?_)
            go_roundw
            case rel =>
              refine ⟨k + 1, i + 64, by rw [HIK.out]; omega, hk, by go_num, ?_, ?_, ?_, below_setRow HB5.out (by omega) _⟩
              · rw [HNX.out, HMM.out]; exact setRow_heap _ _ _ _ _ _ HROW5.out
              · rw [setRow_other _ _ _ _ (by omega)]; exact H05.out
              · rw [setRow_other _ _ _ _ (by omega)]; exact H15.out
            case measure => simp [intOf]; omega
          · have ek : k = q := by have := HQ.out; have := HIK.out; omega
            rw [ek, HST.out] at HROW
            clear ek
            obtain ⟨xx, hxx⟩ : ∃ xx, Sha.state s.data.toList = xx := ⟨_, rfl⟩
            have hxo : Sha.Ok xx := by rw [← hxx]; have := HOK.out q; rw [HST.out] at this; exact this
            rw [hxx] at HROW HLL2
            clear hxx HLL HST HOK
            have HXX := hide (show Sha.Ok xx from hxo)
            have HN9 := hide (show ∀ o, (wr.alloc o).heap[wr.heap.size]? = some o from heap_alloc_new wr)
            have HB9 := hide (fun o => HB.out.alloc (show w.heap.size ≤ wr.heap.size by omega) o)
            have HO9 := hide (fun o j (hj : j < wr.heap.size) => Below.heap_alloc wr o j hj)
            have hsx : Sha.Ok xx := HXX.out
            obtain ⟨xa, xb, xc, xd, xe, xf, xg, xh⟩ := xx
            have HJ := hide (show ∃ J : List UInt8, J = Sha.join ⟨xa, xb, xc, xd, xe, xf, xg, xh⟩ ∧ J.length = 32 from ⟨_, rfl, rfl⟩)
            go_upto_region 13 with fail
            obtain ⟨go, hgo⟩ : ∃ go, go = wr.heap.size := ⟨_, rfl⟩
            rw [← hgo] at HN9 HO9 hsw
            rw [← hgo]
            go_loopw [11] (fun iv wq => ∃ i : Nat, i ≤ 32 ∧ iv = .int .i64 i ∧ wq.heap[go]? = some (.cells (outV (Sha.join ⟨xa, xb, xc, xd, xe, xf, xg, xh⟩) i) 39 (0, 0)) ∧ wq.heap[gh]? = some (.cells (st8 ⟨xa, xb, xc, xd, xe, xf, xg, xh⟩) 64 (0, 0)) ∧ wq.heap[w.heap.size + 1]? = some (.cells z 39 (0, 0)) ∧ Below w.heap.size w wq)
              (fun iv _ => 32 - (intOf iv).toNat)
            case atStart => exact ⟨0, by omega, rfl, HN9.out _, (HO9.out _ _ (by omega)).trans HROW.out, (HO9.out _ _ (by omega)).trans H1.out, HB9.out _⟩
            case round =>
              clear HN9 HO9 HB9 HROW H0 H1 HB hgo hlt
              obtain ⟨i, hi, rfl, ho, hh, h1, hb⟩ := hrel
              have HO := hide ho
              have HH := hide hh
              have H1 := hide h1
              have HB := hide hb
              by_cases hlt : i < 32
              · have hf : wr.frozen? ⟨go, i, none⟩ = false := frozen_of_row _ _ _ _ _ ho
                obtain ⟨old, hold⟩ : ∃ old, wr.cell? ⟨go, i, none⟩ = some old := by
                  rw [cell_of_row _ _ _ _ _ _ ho, Array.getElem?_eq_getElem (by rw [outV_size _ _ rfl hi]; exact hlt)]
                  exact ⟨_, rfl⟩
                have HOS := hide (outV_set (Sha.join ⟨xa, xb, xc, xd, xe, xf, xg, xh⟩) i rfl hlt)
                have ix := idx32 go (i : Int) i rfl hlt
                obtain ⟨a, b, hab, hb4, ha8⟩ : ∃ a b : Nat, i = 4 * a + b ∧ b < 4 ∧ a < 8 := ⟨i / 4, i % 4, by omega, by omega, by omega⟩
                have HG := hide (join_at ⟨xa, xb, xc, xd, xe, xf, xg, xh⟩ a b ha8 hb4)
                rw [← hab] at HG
                have hc := (cell_of_row _ _ a _ _ _ hh).trans (st8_at _ a ha8)
                have ia := idx28 gh (a : Int) a rfl ha8
                have hq : (i : Int) / 4 = (a : Int) := by omega
                have hm : (i : Int) % 4 = (b : Int) := by omega
                have hxl : (toL ⟨xa, xb, xc, xd, xe, xf, xg, xh⟩).getD a 0 < 4294967296 := toL_lt hsx a
                generalize (toL ⟨xa, xb, xc, xd, xe, xf, xg, xh⟩).getD a 0 = xv at *
                generalize (Sha.join ⟨xa, xb, xc, xd, xe, xf, xg, xh⟩).getD i 0 = yv at *
                clear ho hh h1 hb
                have hb4' : b = 0 ∨ b = 1 ∨ b = 2 ∨ b = 3 := by omega
                clear hb4 hab
                rcases hb4' with rfl | rfl | rfl | rfl
                all_goals
                  go_wp2_with fail
                  first | rw [yb0 xv yv hxl HG.out] | rw [yb1 xv yv hxl HG.out] | rw [yb2 xv yv hxl HG.out] | rw [yb3 xv yv hxl HG.out]
                  refine ⟨⟨i + 1, hlt, by go_num, ?_, ?_, ?_, HB.out.setCell (by show w.heap.size ≤ go; omega) _⟩, by simp [intOf]; omega⟩
                  · rw [heap_setCell_same _ _ _ _ _ _ HO.out, HOS.out]
                  · rw [heap_setCell_other _ _ _ _ (by show gh ≠ go; omega)]; exact HH.out
                  · rw [heap_setCell_other _ _ _ _ (by show w.heap.size + 1 ≠ go; omega)]; exact H1.out
              · have e32 : i = 32 := by omega
                subst e32
                rw [outV_all _ rfl, ← HLL2.out] at HO
                have hL32 : L.toArray.size = 32 := by rw [List.size_toArray, HLL2.out, List.length_map]; rfl
                have hL1 : L.toArray.all (·.oneCell') = true := by
                  rw [List.all_toArray, List.all_eq_true]
                  intro v hv
                  rw [HLL2.out] at hv
                  obtain ⟨n, _, rfl⟩ := List.mem_map.1 hv
                  rfl
                have HL32 := hide hL32
                have HL1 := hide hL1
                clear ho hh h1 hb hlt hi hL32 hL1 HH
                go_wp2_with (first | (refine wpList_load_row rfl 39 (.tmp 10) rfl go rfl 39 L.toArray (0, 0) _ HO.out Tryz.under22 rfl (by rw [HL32.out]; exact Tryz.info22) ?_) | (refine wpList_store_row rfl 39 (.tmp 4) (.tmp 67) rfl (w.heap.size + 1) L.toArray rfl rfl 39 z H1.out (by rw [HL32.out]; exact Tryz.info22) (by rw [HL32.out, HZ.out]) HL1.out ?_))
                refine bodyPost_ret (v := .agg L.toArray) ?_ rfl ⟨rfl, below_setRow HB.out (by omega) _⟩
                exact results_cell_row rfl _ _ (w.heap.size + 1) 39 L.toArray (0, 0) _ rfl (setRow_heap _ _ _ _ _ _ H1.out) Tryz.under22 rfl (by rw [HL32.out]; exact Tryz.info22)
end Go.Proofs.YtenaelkbgkpllaaGreatDoor
/- What the law keeps: its maps in pairs, the lists that came out, whose block is whose. -/
namespace Go.Proofs.YtenaelkbgkpllaaGreatDoor
open Go.RowKit

theorem worked_const : ((Big.Hs ++ Big.Ks).map U) = constV := by
  have e : Big.Hs ++ Big.Ks = toL Sha.start ++ Sha.Ks := by kernel_rfl
  rw [constV, e]
/-- a row that is new, or the old one, or none -/
def FreshR (w : World) (u u' : Value) : Prop := ∀ k, u'.ownBlock = some k → u.ownBlock = some k ∨ w.heap.size ≤ k
/-- the document's map -/
structure RMap (w : World) (r : Nat) (u : Value) (L : List Ward.Pt) : Prop where
  row : w.heap[r]? = some (.cells (u :: constV).toArray 111 (0, 0))
  own : Own w 0 u L
  apart : u.ownBlock ≠ some r
theorem RMap.lt {w : World} {r : Nat} {u : Value} {L : List Ward.Pt} (h : RMap w r u L) : r < w.heap.size := (Array.getElem?_eq_some_iff.1 h.row).1
theorem RMap.keeps {S : Nat → Prop} {w w' : World} {r : Nat} {u : Value} {L : List Ward.Pt} (h : RMap w r u L) (hk : Keeps S w w') (hn : ∀ k, Mine r u k → ¬ S k) : RMap w' r u L :=
  ⟨(hk.block r h.lt (hn r (.inl rfl))).trans h.row, h.own.keeps hk (fun g hg => hn g (.inr hg.symm)), h.apart⟩
theorem RMap.mine_lt {w : World} {r : Nat} {u : Value} {L : List Ward.Pt} (h : RMap w r u L) {k : Nat} (hk : Mine r u k) : k < w.heap.size := by
  rcases hk with rfl | hk
  · exact h.lt
  · exact h.own.lt hk.symm
theorem IsMap.mine_lt {w : World} {m : Nat} {v : Value} {L : List Ward.Pt} (h : IsMap w m v L) {k : Nat} (hk : Mine m v k) : k < w.heap.size := by
  rcases hk with rfl | hk
  · exact h.lt
  · exact h.own.lt hk.symm
/-- the program's map, and the document's, with the points of both -/
structure Pr where
  m : Nat
  v : Value
  r : Nat
  u : Value
  L : List Ward.Pt
  K : List Ward.Pt
def prV (p : Pr) : List Value := [.pointer (some ⟨p.m, 0, none⟩), .pointer (some ⟨p.r, 0, none⟩)]
def hdV (h : Nat) : Value := .pointer (some ⟨h, 0, none⟩)
/-- the law's own blocks -/
structure LawAt (w : World) (W0 : Nat) (vp vh : Value) (ps : List Pr) (hs : List Nat) : Prop where
  row : w.heap[W0]? = some (.cells (vp :: vh :: constV).toArray 72 (0, 0))
  pairs : w.ownsRow 0 113 2 vp ps.length (ps.flatMap prV)
  holds : w.ownsRow 0 117 1 vh hs.length (hs.map hdV)
  apP : vp.ownBlock ≠ some W0
  apH : vh.ownBlock ≠ some W0
  apart : ∀ g, vp.ownBlock = some g → vh.ownBlock ≠ some g
def Lawn (W0 : Nat) (vp vh : Value) (k : Nat) : Prop := k = W0 ∨ some k = vp.ownBlock ∨ some k = vh.ownBlock
theorem LawAt.lt {w : World} {W0 : Nat} {vp vh : Value} {ps : List Pr} {hs : List Nat} (h : LawAt w W0 vp vh ps hs) : W0 < w.heap.size := (Array.getElem?_eq_some_iff.1 h.row).1
theorem LawAt.lawn_lt {w : World} {W0 : Nat} {vp vh : Value} {ps : List Pr} {hs : List Nat} (h : LawAt w W0 vp vh ps hs) {k : Nat} (hk : Lawn W0 vp vh k) : k < w.heap.size := by
  rcases hk with rfl | hk | hk
  · exact h.lt
  · exact (World.ownsRow.lt h.pairs k hk.symm).2
  · exact (World.ownsRow.lt h.holds k hk.symm).2
theorem ownsRow_keepsS {S : Nat → Prop} {w w' : World} {B e size n : Nat} {v : Value} {xs : List Value} (h : w.ownsRow B e size v n xs) (hk : Keeps S w w') (hn : ∀ g, v.ownBlock = some g → ¬ S g) : w'.ownsRow B e size v n xs := by
  refine ⟨h.1, ?_⟩
  rcases h.2 with h0 | ⟨g, cap, cur, rfl, hb, hg, r⟩
  · exact .inl h0
  · exact .inr ⟨g, cap, cur, rfl, hb, (hk.block g (Array.getElem?_eq_some_iff.1 hg).1 (hn g rfl)).trans hg, r⟩
theorem LawAt.keeps {S : Nat → Prop} {w w' : World} {W0 : Nat} {vp vh : Value} {ps : List Pr} {hs : List Nat} (h : LawAt w W0 vp vh ps hs) (hk : Keeps S w w') (hn : ∀ k, Lawn W0 vp vh k → ¬ S k) : LawAt w' W0 vp vh ps hs :=
  ⟨(hk.block W0 h.lt (hn W0 (.inl rfl))).trans h.row, ownsRow_keepsS h.pairs hk (fun g hg => hn g (.inr (.inl hg.symm))), ownsRow_keepsS h.holds hk (fun g hg => hn g (.inr (.inr hg.symm))), h.apP, h.apH, h.apart⟩
/-- the mark of a list's owner -/
def markP (m : Int) : Ward.Pt := ⟨m, 0, 0⟩
/-- a list that reads as its owner wrote it, in blocks of that kind -/
def Marked (T : Nat → Prop) (w : World) (m : Int) (s : Value) : Prop := ∃ a n c, s = .slice a n c ∧ n ≤ 100000 ∧ ∀ i, i < n → ∃ g o, a = some ⟨g, o, none⟩ ∧ T g ∧ PtAt w g (o + i * 3) (markP m)
theorem Marked.keeps {S T T' : Nat → Prop} {w w' : World} {m : Int} {s : Value} (h : Marked T w m s) (hk : Keeps S w w') (hn : ∀ k, k < w.heap.size → T k → ¬ S k ∧ T' k) : Marked T' w' m s := by
  obtain ⟨a, n, c, e, hn', hr⟩ := h
  refine ⟨a, n, c, e, hn', fun i hi => ?_⟩
  obtain ⟨g, o, ea, hT, hp⟩ := hr i hi
  have hg := hp.lt
  obtain ⟨h1, h2⟩ := hn g hg hT
  have hc := fun o' => World.cell?_of_block (w := w) (w' := w') (a := ⟨g, o', none⟩) (hk.block g hg h1)
  exact ⟨g, o, ea, h2, ⟨(hc _).trans hp.1, (hc _).trans hp.2.1, (hc _).trans hp.2.2⟩⟩
/-- a list that came out, as it is kept -/
def HoldIs (T : Nat → Prop) (w : World) (h : Nat) : Prop := T h ∧ ∃ (vp : Value) (m : Int) (sl : List Value), w.heap[h]? = some (.cells #[vp, I m] 120 (0, 0)) ∧ w.ownsRow 0 27 1 vp sl.length sl ∧ (∀ g, vp.ownBlock = some g → T g) ∧ sl.length ≤ 9 ∧ ∀ s ∈ sl, Marked T w m s
theorem HoldIs.keeps {S T T' : Nat → Prop} {w w' : World} {h : Nat} (hh : HoldIs T w h) (hk : Keeps S w w') (hn : ∀ k, k < w.heap.size → T k → ¬ S k ∧ T' k) : HoldIs T' w' h := by
  obtain ⟨hT, vp, m, sl, h1, h2, h3, h4, h5⟩ := hh
  have hlt : h < w.heap.size := (Array.getElem?_eq_some_iff.1 h1).1
  exact ⟨(hn h hlt hT).2, vp, m, sl, (hk.block h hlt (hn h hlt hT).1).trans h1, ownsRow_keepsS h2 hk (fun g hg => (hn g (World.ownsRow.lt h2 g hg).2 (h3 g hg)).1), fun g hg => (hn g (World.ownsRow.lt h2 g hg).2 (h3 g hg)).2, h4, fun s hs => (h5 s hs).keeps hk hn⟩
/-- one pair, its blocks of two kinds -/
structure PairIs (T R : Nat → Prop) (w : World) (p : Pr) : Prop where
  map : IsMap w p.m p.v p.L
  ref : RMap w p.r p.u p.K
  good : Good p.L
  mt : ∀ k, Mine p.m p.v k → T k
  rt : ∀ k, Mine p.r p.u k → R k
theorem PairIs.keeps {S T R T' R' : Nat → Prop} {w w' : World} {p : Pr} (h : PairIs T R w p) (hk : Keeps S w w') (ht : ∀ k, k < w.heap.size → T k → ¬ S k ∧ T' k) (hr : ∀ k, k < w.heap.size → R k → ¬ S k ∧ R' k) : PairIs T' R' w' p :=
  ⟨h.map.keeps hk (fun k hk => (ht k (h.map.mine_lt hk) (h.mt k hk)).1), h.ref.keeps hk (fun k hk => (hr k (h.ref.mine_lt hk) (h.rt k hk)).1), h.good, fun k hk => (ht k (h.map.mine_lt hk) (h.mt k hk)).2, fun k hk => (hr k (h.ref.mine_lt hk) (h.rt k hk)).2⟩
/-- all of it: ow tells whose a block is (1 the law's, 2 the lists', 3 + 2 i the i-th map's, 4 + 2 i the document's; 0 nobody's) -/
structure Inv (w0 : World) (ow : Nat → Nat) (w : World) (W0 : Nat) (vp vh : Value) (ps : List Pr) (hs : List Nat) : Prop where
  base : Below w0.heap.size w0 w
  low : ∀ k, k < w0.heap.size → ow k = 0
  law : LawAt w W0 vp vh ps hs
  own1 : ∀ k, Lawn W0 vp vh k → ow k = 1
  pair : ∀ i, (h : i < ps.length) → PairIs (fun k => ow k = 3 + 2 * i) (fun k => ow k = 4 + 2 * i) w ps[i]
  hold : ∀ h ∈ hs, HoldIs (fun k => ow k = 2) w h
/-- where nothing that is owned is changed -/
theorem Inv.keeps {w0 w w' : World} {ow ow' : Nat → Nat} {W0 : Nat} {vp vh : Value} {ps : List Pr} {hs : List Nat} {S : Nat → Prop} (h : Inv w0 ow w W0 vp vh ps hs) (hk : Keeps S w w') (hS : ∀ k, k < w.heap.size → S k → ow k = 0 ∧ w0.heap.size ≤ k) (ho : ∀ k, k < w.heap.size → ow k ≠ 0 → ow' k = ow k) (hl : ∀ k, k < w0.heap.size → ow' k = 0) : Inv w0 ow' w' W0 vp vh ps hs := by
  have hz : ∀ k, k < w.heap.size → ow k ≠ 0 → ¬ S k := fun k hk hne hs => hne (hS k hk hs).1
  refine ⟨⟨hk.os.trans h.base.os, hk.tape.trans h.base.tape, hk.output.trans h.base.output, Nat.le_trans h.base.size hk.size, fun j hj => ?_⟩, hl, ?_, ?_, fun i hi => ?_, fun x hx => ?_⟩
  · have h1 := h.base.size
    exact (hk.block j (by omega) (fun hs => by have := (hS j (by omega) hs).2; omega)).trans (h.base.block j hj)
  · exact h.law.keeps hk (fun k hk => hz k (h.law.lawn_lt hk) (by rw [h.own1 k hk]; decide))
  · exact fun k hk => (ho k (h.law.lawn_lt hk) (by rw [h.own1 k hk]; decide)).trans (h.own1 k hk)
  · exact (h.pair i hi).keeps hk (fun k hk e => ⟨hz k hk (by omega), (ho k hk (by omega)).trans e⟩) (fun k hk e => ⟨hz k hk (by omega), (ho k hk (by omega)).trans e⟩)
  · exact (h.hold x hx).keeps hk (fun k hk e => ⟨hz k hk (by omega), (ho k hk (by omega)).trans e⟩)
theorem Inv.below {w0 w w' : World} {ow : Nat → Nat} {W0 : Nat} {vp vh : Value} {ps : List Pr} {hs : List Nat} (h : Inv w0 ow w W0 vp vh ps hs) (hb : Below w.heap.size w w') : Inv w0 ow w' W0 vp vh ps hs :=
  h.keeps (S := fun _ => False) (Keeps.of_below hb) (fun _ _ h => h.elim) (fun _ _ _ => rfl) h.low
/-- what is new is nobody's -/
theorem Inv.clean {w0 w w' : World} {ow : Nat → Nat} {W0 : Nat} {vp vh : Value} {ps : List Pr} {hs : List Nat} (h : Inv w0 ow w W0 vp vh ps hs) (hb : Below w.heap.size w w') : Inv w0 (fun k => if k < w.heap.size then ow k else 0) w' W0 vp vh ps hs := by
  have hs := h.base.size
  exact h.keeps (S := fun _ => False) (Keeps.of_below hb) (fun _ _ h => h.elim) (fun k hk _ => if_pos hk) (fun k hk => (if_pos (by omega)).trans (h.low k hk))
theorem set_flat (ps : List Pr) (i : Nat) (hi : i < ps.length) (p : Pr) (h : prV p = prV ps[i]) : (ps.set i p).flatMap prV = ps.flatMap prV := by
  induction ps generalizing i with
  | nil => rfl
  | cons q l ih =>
    cases i with
    | zero => rw [List.set_cons_zero, List.flatMap_cons, List.flatMap_cons, h]; rfl
    | succ i => rw [List.set_cons_succ, List.flatMap_cons, List.flatMap_cons, ih i (by simpa using hi) (by simpa using h)]
/-- one owner's blocks have changed, and one pair has become another -/
theorem Inv.set {w0 w w' : World} {ow : Nat → Nat} {W0 : Nat} {vp vh : Value} {ps : List Pr} {hs : List Nat} (h : Inv w0 ow w W0 vp vh ps hs) (i : Nat) (hi : i < ps.length) (o : Nat) (ho : o = 3 + 2 * i ∨ o = 4 + 2 * i) {S : Nat → Prop}
    (hk : Keeps S w w') (hS : ∀ k, S k → ow k = o) (p : Pr) (hp : prV p = prV ps[i])
    (hP : PairIs (fun k => (if k < w.heap.size then ow k else o) = 3 + 2 * i) (fun k => (if k < w.heap.size then ow k else o) = 4 + 2 * i) w' p) : Inv w0 (fun k => if k < w.heap.size then ow k else o) w' W0 vp vh (ps.set i p) hs := by
  have hz : ∀ k, ow k ≠ o → ¬ S k := fun k hne hs => hne (hS k hs)
  have hs0 := h.base.size
  refine ⟨⟨hk.os.trans h.base.os, hk.tape.trans h.base.tape, hk.output.trans h.base.output, Nat.le_trans h.base.size hk.size, fun j hj => ?_⟩, fun k hk => (if_pos (by omega)).trans (h.low k hk), ?_, ?_, fun j hj => ?_, fun x hx => ?_⟩
  · exact (hk.block j (by omega) (hz j (by rw [h.low j hj]; omega))).trans (h.base.block j hj)
  · have h1 := h.law.keeps hk (fun k hk => hz k (by rw [h.own1 k hk]; omega))
    exact ⟨h1.row, by rw [List.length_set, set_flat ps i hi p hp]; exact h1.pairs, h1.holds, h1.apP, h1.apH, h1.apart⟩
  · exact fun k hk => (if_pos (h.law.lawn_lt hk)).trans (h.own1 k hk)
  · rw [List.length_set] at hj
    by_cases e : i = j
    · subst e
      rw [List.getElem_set_self]
      exact hP
    · rw [List.getElem_set_ne e]
      exact (h.pair j hj).keeps hk (fun k hk e => ⟨hz k (by omega), (if_pos hk).trans e⟩) (fun k hk e => ⟨hz k (by omega), (if_pos hk).trans e⟩)
  · exact (h.hold x hx).keeps hk (fun k hk e => ⟨hz k (by omega), (if_pos hk).trans e⟩)
/-- a map of the program has changed -/
theorem Inv.map {w0 w w' : World} {ow : Nat → Nat} {W0 : Nat} {vp vh : Value} {ps : List Pr} {hs : List Nat} (h : Inv w0 ow w W0 vp vh ps hs) (i : Nat) (hi : i < ps.length) {v' : Value} {L' : List Ward.Pt}
    (hk : Keeps (Mine ps[i].m ps[i].v) w w') (hm : IsMap w' ps[i].m v' L') (hf : Fresh w ps[i].v v') (hg : Good L') : Inv w0 (fun k => if k < w.heap.size then ow k else 3 + 2 * i) w' W0 vp vh (ps.set i { ps[i] with v := v', L := L' }) hs := by
  have hp := h.pair i hi
  refine h.set i hi (3 + 2 * i) (.inl rfl) hk (fun k hk => hp.mt k hk) _ rfl ⟨hm, ?_, hg, fun k hk' => ?_, fun k hk' => ?_⟩
  · exact hp.ref.keeps hk (fun k h1 h2 => by have := hp.mt k h2; have := hp.rt k h1; omega)
  · rcases hk' with rfl | hk'
    · exact (if_pos hp.map.lt).trans (hp.mt _ (.inl rfl))
    · rcases hf with hf | ⟨g, hf, hge⟩
      · rw [hf] at hk'
        exact (if_pos (hp.map.mine_lt (.inr hk'))).trans (hp.mt k (.inr hk'))
      · rw [hf] at hk'
        injection hk' with hk'
        exact if_neg (by omega)
  · exact (if_pos (hp.ref.mine_lt hk')).trans (hp.rt k hk')
/-- a map of the document has changed -/
theorem Inv.ref {w0 w w' : World} {ow : Nat → Nat} {W0 : Nat} {vp vh : Value} {ps : List Pr} {hs : List Nat} (h : Inv w0 ow w W0 vp vh ps hs) (i : Nat) (hi : i < ps.length) {u' : Value} {K' : List Ward.Pt}
    (hk : Keeps (Mine ps[i].r ps[i].u) w w') (hm : RMap w' ps[i].r u' K') (hf : FreshR w ps[i].u u') : Inv w0 (fun k => if k < w.heap.size then ow k else 4 + 2 * i) w' W0 vp vh (ps.set i { ps[i] with u := u', K := K' }) hs := by
  have hp := h.pair i hi
  refine h.set i hi (4 + 2 * i) (.inr rfl) hk (fun k hk => hp.rt k hk) _ rfl ⟨?_, hm, hp.good, fun k hk' => ?_, fun k hk' => ?_⟩
  · exact hp.map.keeps hk (fun k h1 h2 => by have := hp.rt k h2; have := hp.mt k h1; omega)
  · exact (if_pos (hp.map.mine_lt hk')).trans (hp.mt k hk')
  · rcases hk' with rfl | hk'
    · exact (if_pos hp.ref.lt).trans (hp.rt _ (.inl rfl))
    · rcases hf k hk'.symm with hk' | hge
      · exact (if_pos (hp.ref.mine_lt (.inr hk'.symm))).trans (hp.rt k (.inr hk'.symm))
      · exact if_neg (by omega)
/-- a pair more, of new blocks -/
theorem Inv.push {w0 w w' : World} {ow : Nat → Nat} {W0 : Nat} {vp vp' vh : Value} {ps : List Pr} {hs : List Nat} (h : Inv w0 ow w W0 vp vh ps hs) {S : Nat → Prop} (hk : Keeps S w w') (hS : ∀ k, k < w.heap.size → S k → k = W0 ∨ some k = vp.ownBlock) (p : Pr)
    (hl : LawAt w' W0 vp' vh (ps ++ [p]) hs) (hf : Fresh w vp vp') (hm : IsMap w' p.m p.v p.L) (hr : RMap w' p.r p.u p.K) (hg : Good p.L) (h1 : ∀ k, Mine p.m p.v k → w.heap.size ≤ k) (h2 : ∀ k, Mine p.r p.u k → w.heap.size ≤ k) (h3 : ∀ k, Mine p.m p.v k → ¬ Mine p.r p.u k)
    (h4 : ∀ k, vp'.ownBlock = some k → ¬ Mine p.m p.v k ∧ ¬ Mine p.r p.u k) : ∃ ow', Inv w0 ow' w' W0 vp' vh (ps ++ [p]) hs := by
  classical
  refine ⟨fun k => if k < w.heap.size then ow k else if Mine p.m p.v k then 3 + 2 * ps.length else if Mine p.r p.u k then 4 + 2 * ps.length else 1, ?_⟩
  have hz : ∀ k, k < w.heap.size → ow k ≠ 1 → ¬ S k := fun k hk hne hs => by
    rcases hS k hk hs with e | e
    · exact hne (h.own1 k (.inl e))
    · exact hne (h.own1 k (.inr (.inl e)))
  have hs0 := h.base.size
  refine ⟨⟨hk.os.trans h.base.os, hk.tape.trans h.base.tape, hk.output.trans h.base.output, Nat.le_trans h.base.size hk.size, fun j hj => ?_⟩, fun k hk => (if_pos (by omega)).trans (h.low k hk), hl, fun k hk => ?_, fun j hj => ?_, fun x hx => ?_⟩
  · exact (hk.block j (by omega) (hz j (by omega) (by rw [h.low j hj]; decide))).trans (h.base.block j hj)
  · have old : ∀ k, Lawn W0 vp vh k → (if k < w.heap.size then ow k else if Mine p.m p.v k then 3 + 2 * ps.length else if Mine p.r p.u k then 4 + 2 * ps.length else 1) = 1 := fun k hk => (if_pos (h.law.lawn_lt hk)).trans (h.own1 k hk)
    rcases hk with hk | hk | hk
    · exact old k (.inl hk)
    · rcases hf with hf | ⟨g, hf, hge⟩
      · exact old k (.inr (.inl (by rw [← hf]; exact hk)))
      · have h5 := h4 k hk.symm
        rw [hf] at hk
        injection hk with hk
        rw [if_neg (by omega), if_neg h5.1, if_neg h5.2]
    · exact old k (.inr (.inr hk))
  · by_cases e : j < ps.length
    · rw [List.getElem_append_left e]
      exact (h.pair j e).keeps hk (fun k hk e => ⟨hz k hk (by omega), (if_pos hk).trans e⟩) (fun k hk e => ⟨hz k hk (by omega), (if_pos hk).trans e⟩)
    · have ej : j = ps.length := by simp at hj; omega
      subst ej
      rw [List.getElem_append_right (Nat.le_refl _)]
      simp only [Nat.sub_self, List.getElem_cons_zero]
      refine ⟨hm, hr, hg, fun k hk => ?_, fun k hk => ?_⟩
      · have := h1 k hk
        rw [if_neg (by omega), if_pos hk]
      · have := h2 k hk
        rw [if_neg (by omega), if_neg (fun e => h3 k e hk), if_pos hk]
  · exact (h.hold x hx).keeps hk (fun k hk e => ⟨hz k hk (by omega), (if_pos hk).trans e⟩)
/-- a list more, in a block that was nobody's and in new ones -/
theorem Inv.holdPush {w0 w w' : World} {ow : Nat → Nat} {W0 : Nat} {vp vh vh' : Value} {ps : List Pr} {hs : List Nat} (h : Inv w0 ow w W0 vp vh ps hs) {S : Nat → Prop} (hk : Keeps S w w') (O : Nat → Prop) (hO : ∀ k, k < w.heap.size → O k → ow k = 0 ∧ w0.heap.size ≤ k) (hS : ∀ k, k < w.heap.size → S k → k = W0 ∨ some k = vh.ownBlock ∨ O k) (x : Nat)
    (hl : LawAt w' W0 vp vh' ps (hs ++ [x])) (hf : Fresh w vh vh') (hh : HoldIs (fun k => (w.heap.size ≤ k ∨ O k) ∧ vh'.ownBlock ≠ some k) w' x) : ∃ ow', Inv w0 ow' w' W0 vp vh' ps (hs ++ [x]) := by
  classical
  refine ⟨fun k => if (w.heap.size ≤ k ∨ O k) ∧ vh'.ownBlock ≠ some k then 2 else if k < w.heap.size then ow k else 1, ?_⟩
  have hs0 := h.base.size
  have hz : ∀ k, k < w.heap.size → ow k ≠ 1 → ow k ≠ 0 → ¬ S k := fun k hk hne hn0 hs => by
    rcases hS k hk hs with e | e | e
    · exact hne (h.own1 k (.inl e))
    · exact hne (h.own1 k (.inr (.inr e)))
    · exact hn0 (hO k hk e).1
  have hold : ∀ k, k < w.heap.size → ow k ≠ 0 → (if (w.heap.size ≤ k ∨ O k) ∧ vh'.ownBlock ≠ some k then 2 else if k < w.heap.size then ow k else 1) = ow k := fun k hk hne => by
    rw [if_neg (fun e => by rcases e.1 with e | e; (· omega); exact hne (hO k hk e).1), if_pos hk]
  refine ⟨⟨hk.os.trans h.base.os, hk.tape.trans h.base.tape, hk.output.trans h.base.output, Nat.le_trans h.base.size hk.size, fun j hj => ?_⟩, fun k hk => ?_, hl, fun k hk => ?_, fun j hj => ?_, fun y hy => ?_⟩
  · refine (hk.block j (by omega) (fun hs => ?_)).trans (h.base.block j hj)
    rcases hS j (by omega) hs with e | e | e
    · have := h.own1 j (.inl e); rw [h.low j hj] at this; cases this
    · have := h.own1 j (.inr (.inr e)); rw [h.low j hj] at this; cases this
    · have := (hO j (by omega) e).2; omega
  · rw [if_neg (fun e => by rcases e.1 with e | e; (· omega); have := (hO k (by omega) e).2; omega), if_pos (by omega)]
    exact h.low k hk
  · have old : ∀ k, Lawn W0 vp vh k → (if (w.heap.size ≤ k ∨ O k) ∧ vh'.ownBlock ≠ some k then 2 else if k < w.heap.size then ow k else 1) = 1 := fun k hk => (hold k (h.law.lawn_lt hk) (by rw [h.own1 k hk]; decide)).trans (h.own1 k hk)
    rcases hk with hk | hk | hk
    · exact old k (.inl hk)
    · exact old k (.inr (.inl hk))
    · rcases hf with hf | ⟨g, hf, hge⟩
      · exact old k (.inr (.inr (by rw [← hf]; exact hk)))
      · have e := hk
        rw [hf] at hk
        injection hk with hk
        rw [if_neg (fun h => h.2 e.symm), if_neg (by omega)]
  · exact (h.pair j hj).keeps hk (fun k hk e => ⟨hz k hk (by omega) (by omega), (hold k hk (by omega)).trans e⟩) (fun k hk e => ⟨hz k hk (by omega) (by omega), (hold k hk (by omega)).trans e⟩)
  · rcases List.mem_append.1 hy with hy | hy
    · exact (h.hold y hy).keeps hk (fun k hk e => ⟨hz k hk (by omega) (by omega), (hold k hk (by omega)).trans e⟩)
    · rw [List.mem_singleton.1 hy]
      exact hh.keeps (S := fun _ => False) (Keeps.refl _ _) (fun k _ e => ⟨fun h => h, if_pos e⟩)
end Go.Proofs.YtenaelkbgkpllaaGreatDoor
/- The document's off, far, distance. -/
namespace Go.Proofs.YtenaelkbgkpllaaGreatDoor
open Go.RowKit

abbrev Bxr (b : Ward.Box) : Value := .agg #[I b.a, I b.b, I b.c, I b.d]
/-- a number that is a coordinate -/
def Co (n : Int) : Prop := -1000000 ≤ n ∧ n ≤ 1000000
set_option maxRecDepth 100000 in
set_option maxHeartbeats 1000000 in
theorem off_ref (n lo hi : Int) (w : World) (hn : Co n) (hl : Co lo) (hh : Co hi) :
    Calls Tryz.prog 183 #[I n, I lo, I hi] w fun e w' => e = .returned (I (Ward.offI n lo hi)) ∧ w' = w := by
  obtain ⟨n1, n2⟩ := hn
  obtain ⟨l1, l2⟩ := hl
  obtain ⟨h1, h2⟩ := hh
  go_enter Tryz.func183, Tryz.ntmps183
  by_cases c1 : n < lo
  · go_wp2
    go_ret
    exact ⟨by rw [show Ward.offI n lo hi = lo - n by unfold Ward.offI; rw [if_pos (by omega)]]; rfl, rfl⟩
  · by_cases c2 : hi < n
    · go_wp2
      go_ret
      exact ⟨by rw [show Ward.offI n lo hi = n - hi by unfold Ward.offI; rw [if_neg (by omega), if_pos (by omega)]]; rfl, rfl⟩
    · go_wp2
      go_ret
      exact ⟨by rw [show Ward.offI n lo hi = 0 by unfold Ward.offI; rw [if_neg (by omega), if_neg (by omega)]]; rfl, rfl⟩
theorem off_le {n lo hi : Int} (hn : Co n) (hl : Co lo) (hh : Co hi) : 0 ≤ Ward.offI n lo hi ∧ Ward.offI n lo hi ≤ 2000000 := by
  unfold Co at *
  unfold Ward.offI
  split
  · omega
  · split <;> omega
theorem sq_small {a : Int} (h1 : -2000000 ≤ a) (h2 : a ≤ 2000000) : 0 ≤ a * a ∧ a * a ≤ 4000000000000 := by
  rcases Int.le_total 0 a with h | h
  · exact sq_le h h2
  · have := sq_le (u := -a) (by omega) (by omega)
    rwa [Int.neg_mul_neg] at this
set_option maxRecDepth 100000 in
set_option maxHeartbeats 2000000 in
theorem distance_ref (p : Ward.Pt) (q : Ward.Qr) (w : World) (hx : Co p.x) (hy : Co p.y) (hqx : Co q.x) (hqy : Co q.y) :
    Calls Tryz.prog 138 #[.agg #[I p.id, I p.x, I p.y], Qv q] w fun e w' => e = .returned (I (Ward.distP p q.x q.y)) ∧ Below w.heap.size w w' := by
  have HD := hide (Ward.distP_is p q.x q.y)
  obtain ⟨pi, px, py⟩ := p
  obtain ⟨kd, qa, qb, qc, qd, qx, qy, qk⟩ := q
  obtain ⟨x1, x2⟩ := hx
  obtain ⟨y1, y2⟩ := hy
  obtain ⟨u1, u2⟩ := hqx
  obtain ⟨v1, v2⟩ := hqy
  simp only at *
  obtain ⟨s0, s1⟩ := sq_small (a := px - qx) (by omega) (by omega)
  obtain ⟨t0, t1⟩ := sq_small (a := py - qy) (by omega) (by omega)
  have e1 : IntKind.i64.wrap ((px - qx) * (px - qx)) = (px - qx) * (px - qx) := by rw [IntKind.wrap_i64]; omega
  have e2 : IntKind.i64.wrap ((py - qy) * (py - qy)) = (py - qy) * (py - qy) := by rw [IntKind.wrap_i64]; omega
  have e3 : IntKind.i64.wrap ((px - qx) * (px - qx) + (py - qy) * (py - qy)) = (px - qx) * (px - qx) + (py - qy) * (py - qy) := by rw [IntKind.wrap_i64]; omega
  go_enter Tryz.func138, Tryz.ntmps138
  go_wp2
  go_ret
  exact ⟨by rw [HD.out]; rfl, ((Below.refl w.heap.size w).alloc (Nat.le_refl _) _).alloc (by simp) _⟩
/-- a box and a query, laid -/
theorem two_rows (w : World) (X Z : Array Value) (a b : TypeId) : Below w.heap.size w ((w.alloc (.cells X a)).alloc (.cells Z b)) ∧ ((w.alloc (.cells X a)).alloc (.cells Z b)).heap[w.heap.size]? = some (.cells X a (0, 0)) ∧ ((w.alloc (.cells X a)).alloc (.cells Z b)).heap[w.heap.size + 1]? = some (.cells Z b (0, 0)) := by
  have h1 := (Below.refl w.heap.size w).alloc (Nat.le_refl _) (.cells X a)
  have e1 : (w.alloc (.cells X a)).heap.size = w.heap.size + 1 := by simp
  refine ⟨h1.alloc (by omega) _, ?_, ?_⟩
  · rw [Below.heap_alloc _ _ _ (by omega)]; exact heap_alloc_new w _
  · have := heap_alloc_new (w.alloc (.cells X a)) (.cells Z b)
    rw [e1] at this
    exact this
set_option maxRecDepth 100000 in
set_option maxHeartbeats 2000000 in
theorem far_ref (b : Ward.Box) (q : Ward.Qr) (w : World) (hb : b.In) (hu : b.up) (hqx : Co q.x) (hqy : Co q.y) :
    Calls Tryz.prog 163 #[Bxr b, Qv q] w fun e w' => e = .returned (I (Ward.dist b q.x q.y)) ∧ Below w.heap.size w w' := by
  obtain ⟨a1, a2, b1, b2, c1, c2, d1, d2⟩ := hb
  have HD := hide (show Ward.dist b q.x q.y = Ward.offI q.x b.a b.c * Ward.offI q.x b.a b.c + Ward.offI q.y b.b b.d * Ward.offI q.y b.b b.d by unfold Ward.dist; rw [Ward.off_gap hu.1, Ward.off_gap hu.2])
  have HX := hide (fun W => off_ref q.x b.a b.c W hqx ⟨a1, a2⟩ ⟨c1, c2⟩)
  have HY := hide (fun W => off_ref q.y b.b b.d W hqy ⟨b1, b2⟩ ⟨d1, d2⟩)
  obtain ⟨x0, x1⟩ := off_le hqx ⟨a1, a2⟩ (⟨c1, c2⟩ : Co b.c)
  obtain ⟨y0, y1⟩ := off_le hqy ⟨b1, b2⟩ (⟨d1, d2⟩ : Co b.d)
  obtain ⟨s0, s1⟩ := sq_le x0 x1
  obtain ⟨t0, t1⟩ := sq_le y0 y1
  have HTR := hide (two_rows w #[I b.a, I b.b, I b.c, I b.d] #[I q.kind, I q.a, I q.b, I q.c, I q.d, I q.x, I q.y, I q.k] 148 46)
  generalize Ward.offI q.x b.a b.c = ox at *
  generalize Ward.offI q.y b.b b.d = oy at *
  obtain ⟨ba, bb, bc, bd⟩ := b
  obtain ⟨kd, qa, qb, qc, qd, qx, qy, qk⟩ := q
  simp only at *
  go_enter Tryz.func163, Tryz.ntmps163
  go_upto_region 1 with fail
  have htr := HTR.out
  clear HTR
  generalize (w.alloc (.cells #[I ba, I bb, I bc, I bd] 148)).alloc (.cells #[I kd, I qa, I qb, I qc, I qd, I qx, I qy, I qk] 46) = w1 at htr ⊢
  obtain ⟨hb1, hr1, hr2⟩ := htr
  have z0 : w1.cell? ⟨w.heap.size, 0, none⟩ = some (I ba) := by rw [cell_of_row _ _ _ _ _ _ hr1]; rfl
  have z1 : w1.cell? ⟨w.heap.size, 1, none⟩ = some (I bb) := by rw [cell_of_row _ _ _ _ _ _ hr1]; rfl
  have z2 : w1.cell? ⟨w.heap.size, 2, none⟩ = some (I bc) := by rw [cell_of_row _ _ _ _ _ _ hr1]; rfl
  have z3 : w1.cell? ⟨w.heap.size, 3, none⟩ = some (I bd) := by rw [cell_of_row _ _ _ _ _ _ hr1]; rfl
  have z5 : w1.cell? ⟨w.heap.size + 1, 5, none⟩ = some (I qx) := by rw [cell_of_row _ _ _ _ _ _ hr2]; rfl
  have z6 : w1.cell? ⟨w.heap.size + 1, 6, none⟩ = some (I qy) := by rw [cell_of_row _ _ _ _ _ _ hr2]; rfl
  have HB1 := hide hb1
  clear hb1 hr1 hr2
  go_upto_region 3 with (first | (go_at_call_of 183 (I qx); refine (HX.out _).mono ?_; rintro _ _ ⟨rfl, rfl⟩) | (go_at_call_of 183 (I qy); refine (HY.out _).mono ?_; rintro _ _ ⟨rfl, rfl⟩))
  go_wp2
  go_ret
  exact ⟨by rw [HD.out]; rfl, HB1.out⟩
end Go.Proofs.YtenaelkbgkpllaaGreatDoor
/- A heap in a list: what goes up and down it. -/
namespace Go.Proofs.YtenaelkbgkpllaaGreatDoor
namespace Heap
variable {α : Type} [Inhabited α]
/-- what stands at a place -/
def at' (l : List α) (k : Nat) : α := l[k]?.getD default
def par (k : Nat) : Nat := (k - 1) / 2
/-- two places exchanged -/
def swp (l : List α) (i j : Nat) : List α := (l.set i (at' l j)).set j (at' l i)
theorem at_get {l : List α} {k : Nat} (h : k < l.length) : at' l k = l[k] := by
  unfold at'
  rw [List.getElem?_eq_getElem h]
  rfl
theorem swp_len (l : List α) (i j : Nat) : (swp l i j).length = l.length := by simp [swp]
theorem swp_perm {l : List α} {i j : Nat} (hi : i < l.length) (hj : j < l.length) : (swp l i j).Perm l := by
  unfold swp
  rw [at_get hi, at_get hj]
  exact List.set_set_perm hi hj
theorem at_swp {l : List α} {i j : Nat} (hi : i < l.length) (hj : j < l.length) (k : Nat) : at' (swp l i j) k = if k = j then at' l i else if k = i then at' l j else at' l k := by
  show ((l.set i (at' l j)).set j (at' l i))[k]?.getD default = _
  by_cases h1 : k = j
  · rw [if_pos h1, h1, List.getElem?_set, if_pos rfl, if_pos (by simpa using hj)]
    rfl
  · rw [if_neg h1, List.getElem?_set, if_neg (fun e => h1 e.symm), List.getElem?_set]
    by_cases h2 : k = i
    · rw [if_pos h2, if_pos h2.symm, if_pos hi]
      rfl
    · rw [if_neg h2, if_neg (fun e => h2 e.symm)]
      rfl
theorem at_app {l : List α} {x : α} {k : Nat} (h : k < l.length) : at' (l ++ [x]) k = at' l k := by
  unfold at'
  rw [List.getElem?_append_left h]
theorem at_last (l : List α) (x : α) : at' (l ++ [x]) l.length = x := by
  unfold at'
  rw [List.getElem?_append_right (Nat.le_refl _), Nat.sub_self]
  rfl
theorem at_take {l : List α} {n k : Nat} (h : k < n) : at' (l.take n) k = at' l k := by
  unfold at'
  rw [List.getElem?_take, if_pos h]
theorem at_mem {l : List α} {k : Nat} (h : k < l.length) : at' l k ∈ l := by rw [at_get h]; exact List.getElem_mem h
/-- no one stands below one that comes behind it -/
def Ok (lt : α → α → Prop) (f : Nat → α) (n : Nat) : Prop := ∀ k, k < n → 0 < k → ¬ lt (f k) (f (par k))
/-- but for one that may have to go up -/
structure Up (lt : α → α → Prop) (f : Nat → α) (n j : Nat) : Prop where
  inn : j < n
  rest : ∀ k, k < n → 0 < k → k ≠ j → ¬ lt (f k) (f (par k))
  over : ∀ k, k < n → 0 < k → par k = j → 0 < j → ¬ lt (f k) (f (par j))
/-- but for one that may have to go down -/
structure Down (lt : α → α → Prop) (f : Nat → α) (n i : Nat) : Prop where
  rest : ∀ k, k < n → 0 < k → par k ≠ i → ¬ lt (f k) (f (par k))
  over : ∀ k, k < n → 0 < k → par k = i → 0 < i → ¬ lt (f k) (f (par i))
/-- an order, some of which may be alike -/
structure Weak (lt : α → α → Prop) : Prop where
  anti : ∀ a b, lt a b → ¬ lt b a
  trans : ∀ a b c, ¬ lt b a → ¬ lt c b → ¬ lt c a
theorem par_lt {k : Nat} (h : 0 < k) : par k < k := by unfold par; omega
section
variable {lt : α → α → Prop}
theorem up_start {l : List α} {x : α} (h : Ok lt (at' l) l.length) : Up lt (at' (l ++ [x])) (l.length + 1) l.length := by
  refine ⟨by omega, fun k hk h0 hne => ?_, fun k hk h0 hp _ => ?_⟩
  · have h1 : k < l.length := by omega
    have h2 := par_lt h0
    rw [at_app h1, at_app (by omega)]
    exact h k h1 h0
  · have := par_lt h0
    omega
theorem up_step (hw : Weak lt) {l : List α} {n j : Nat} (hn : n ≤ l.length) (h : Up lt (at' l) n j) (h0 : 0 < j) (hl : lt (at' l j) (at' l (par j))) : Up lt (at' (swp l (par j) j)) n (par j) := by
  have hp := par_lt h0
  have hj := h.inn
  have ha := fun k => at_swp (l := l) (i := par j) (j := j) (by omega) (by omega) k
  refine ⟨by omega, fun k hk hk0 hne => ?_, fun k hk hk0 hpk hp0 => ?_⟩
  · have hpk := par_lt hk0
    rw [ha, ha]
    by_cases e1 : k = j
    · subst e1
      rw [if_pos rfl, if_neg (by omega), if_pos rfl]
      exact hw.anti _ _ hl
    · rw [if_neg e1, if_neg hne]
      by_cases e2 : par k = j
      · rw [if_pos e2]
        exact h.over k hk hk0 e2 h0
      · rw [if_neg e2]
        by_cases e3 : par k = par j
        · rw [if_pos e3]
          have h1 := h.rest k hk hk0 e1
          rw [e3] at h1
          exact hw.trans _ _ _ (hw.anti _ _ hl) h1
        · rw [if_neg e3]
          exact h.rest k hk hk0 e1
  · have hpp := par_lt hp0
    have hkk := par_lt hk0
    rw [ha, ha, if_neg (show ¬ par (par j) = j by omega), if_neg (show ¬ par (par j) = par j by omega)]
    have h2 := h.rest (par j) (by omega) hp0 (by omega)
    by_cases e1 : k = j
    · subst e1
      rw [if_pos rfl]
      exact h2
    · rw [if_neg e1, if_neg (show ¬ k = par j by omega)]
      have h1 := h.rest k hk hk0 e1
      rw [hpk] at h1
      exact hw.trans _ _ _ h2 h1
theorem down_step (hw : Weak lt) {l : List α} {n i j : Nat} (hn : n ≤ l.length) (h : Down lt (at' l) n i) (hj : j < n) (hj0 : 0 < j) (hp : par j = i) (hl : lt (at' l j) (at' l i)) (hs : ∀ k, k < n → 0 < k → par k = i → ¬ lt (at' l k) (at' l j)) : Down lt (at' (swp l i j)) n j := by
  have hij := par_lt hj0
  rw [hp] at hij
  have ha := fun k => at_swp (l := l) (i := i) (j := j) (by omega) (by omega) k
  refine ⟨fun k hk hk0 hne => ?_, fun k hk hk0 hpk _ => ?_⟩
  · have hpk := par_lt hk0
    rw [ha, ha, if_neg hne]
    by_cases e1 : k = j
    · subst e1
      rw [if_pos rfl, if_pos hp]
      exact hw.anti _ _ hl
    · rw [if_neg e1]
      by_cases e2 : par k = i
      · rw [if_pos e2, if_neg (by omega)]
        exact hs k hk hk0 e2
      · rw [if_neg e2]
        by_cases e3 : k = i
        · subst e3
          rw [if_pos rfl]
          exact h.over j hj hj0 hp hk0
        · rw [if_neg e3]
          exact h.rest k hk hk0 e2
  · have hkj : j < k := by have := par_lt hk0; omega
    rw [ha, ha, if_neg (by omega), if_neg (by omega), hp, if_neg (by omega), if_pos rfl]
    have h1 := h.rest k hk hk0 (by omega)
    rw [hpk] at h1
    exact h1
/-- behind the exchange of the first and the last -/
theorem down_start {l : List α} {n : Nat} (hn : l.length = n + 1) (h : Ok lt (at' l) (n + 1)) : Down lt (at' (swp l 0 n)) n 0 := by
  have ha := fun k => at_swp (l := l) (i := 0) (j := n) (by omega) (by omega) k
  refine ⟨fun k hk h0 hne => ?_, fun k _ _ _ h0 => absurd h0 (by omega)⟩
  have hp := par_lt h0
  rw [ha, ha, if_neg (by omega), if_neg (by omega), if_neg (by omega), if_neg hne]
  exact h k (by omega) h0
theorem ok_take {l : List α} {n m : Nat} (h : Ok lt (at' l) n) (hm : n ≤ m) : Ok lt (at' (l.take m)) n := by
  intro k hk h0
  have := par_lt h0
  rw [at_take (by omega), at_take (by omega)]
  exact h k hk h0
end
end Heap
namespace Heap
section
variable {α : Type} {lt : α → α → Prop}
theorem up_end {f : Nat → α} {n j : Nat} (h : Up lt f n j) (he : j = 0 ∨ ¬ lt (f j) (f (par j))) : Ok lt f n := by
  intro k hk h0
  by_cases e : k = j
  · subst e
    rcases he with he | he
    · omega
    · exact he
  · exact h.rest k hk h0 e
theorem down_end {f : Nat → α} {n i : Nat} (h : Down lt f n i) (he : ∀ k, k < n → 0 < k → par k = i → ¬ lt (f k) (f i)) : Ok lt f n := by
  intro k hk h0
  by_cases e : par k = i
  · rw [e]; exact he k hk h0 e
  · exact h.rest k hk h0 e
/-- the first is no farther than any -/
theorem first_least (hw : Weak lt) (hi : ∀ a, ¬ lt a a) {f : Nat → α} {n : Nat} (h : Ok lt f n) : ∀ k, k < n → ¬ lt (f k) (f 0) := by
  intro k
  induction k using Nat.strongRecOn with
  | ind k ih =>
    intro hk
    by_cases h0 : k = 0
    · subst h0; exact hi _
    · have hp := par_lt (show 0 < k by omega)
      exact hw.trans _ _ _ (ih (par k) hp (by omega)) (h k hk (by omega))
end
end Heap
end Go.Proofs.YtenaelkbgkpllaaGreatDoor
/- The entries of the heap: how their methods are reached; how two compare. -/
namespace Go.Proofs.YtenaelkbgkpllaaGreatDoor
open Go.RowKit

theorem meth_parts {t : TypeId} {name : String} {f : FuncId} {b : Bool} (h : (Tryz.prog.info? t).bind (fun i => (i.methods.find? (·.name == name)).map fun m => (m.path.toList.isEmpty, m.func)) = some (true, some (f, b))) :
    ∃ i m, Tryz.prog.info? t = some i ∧ i.methods.find? (·.name == name) = some m ∧ m.path = #[] ∧ m.func = some (f, b) := by
  cases hi : Tryz.prog.info? t with
  | none => rw [hi] at h; cases h
  | some i =>
    rw [hi] at h
    simp only [Option.bind_some] at h
    cases hm : i.methods.find? (·.name == name) with
    | none => rw [hm] at h; cases h
    | some m =>
      rw [hm] at h
      simp only [Option.map_some, Option.some.injEq, Prod.mk.injEq] at h
      refine ⟨i, m, rfl, hm, ?_, h.2⟩
      have h1 := h.1
      cases hp : m.path with
      | mk l => rw [hp] at h1; cases l with | nil => rfl | cons _ _ => cases h1
theorem m_value {name : String} {f : FuncId} (hm : (Tryz.prog.info? 163).bind (fun i => (i.methods.find? (·.name == name)).map fun m => (m.path.toList.isEmpty, m.func)) = some (true, some (f, false))) (h : Nat) (v : Value) (w : World) (hc : w.cell? ⟨h, 0, none⟩ = some v) :
    (method 376 163 (.pointer (some ⟨h, 0, none⟩)) name).run Tryz.prog w = .ok (f, v) w := by
  obtain ⟨i, m, hi, hf, hp, hfn⟩ := meth_parts hm
  have a1 := Tryz.isAgg168
  have u1 := Tryz.underlying163
  rw [show (376 : Nat) = 375 + 1 from rfl]
  unfold method
  have e1 : (follow [] 163 (Place.val (Value.pointer (some ⟨h, 0, none⟩)))).run Tryz.prog w = .ok (163, Place.val (Value.pointer (some ⟨h, 0, none⟩))) w := rfl
  have e2 : ∀ nm : String, (receiverAt 163 (Place.val (Value.pointer (some ⟨h, 0, none⟩))) false (some nm)).run Tryz.prog w = .ok v w := by
    intro nm
    have e3 : Builtin.ssaWrapNilChk_ #[163] 163 #[Value.pointer (some ⟨h, 0, none⟩), strVal "", strVal nm] = pure (Value.pointer (some ⟨h, 0, none⟩)) := rfl
    unfold receiverAt
    simp only [Sem.run_bind, run_underlying u1 w, Result.andThen_ok, Place.get]
    go_simp
  simp only [typeInfo, Sem.run_bind]
  go_simp
theorem m_len (h : Nat) (v : Value) (w : World) (hc : w.cell? ⟨h, 0, none⟩ = some v) : (method 376 163 (.pointer (some ⟨h, 0, none⟩)) "Len").run Tryz.prog w = .ok (114, v) w := m_value (by kernel_rfl) h v w hc
theorem m_less (h : Nat) (v : Value) (w : World) (hc : w.cell? ⟨h, 0, none⟩ = some v) : (method 376 163 (.pointer (some ⟨h, 0, none⟩)) "Less").run Tryz.prog w = .ok (212, v) w := m_value (by kernel_rfl) h v w hc
theorem m_swap (h : Nat) (v : Value) (w : World) (hc : w.cell? ⟨h, 0, none⟩ = some v) : (method 376 163 (.pointer (some ⟨h, 0, none⟩)) "Swap").run Tryz.prog w = .ok (215, v) w := m_value (by kernel_rfl) h v w hc
theorem m_push (h : Nat) (w : World) : (method 376 163 (.pointer (some ⟨h, 0, none⟩)) "Push").run Tryz.prog w = .ok (214, .pointer (some ⟨h, 0, none⟩)) w := by kernel_rfl
theorem m_pop (h : Nat) (w : World) : (method 376 163 (.pointer (some ⟨h, 0, none⟩)) "Pop").run Tryz.prog w = .ok (213, .pointer (some ⟨h, 0, none⟩)) w := by kernel_rfl
/-- an entry: how far, a node's place or none, a point -/
structure En where
  d : Int
  nd : Option Addr
  p : Ward.Pt
instance : Inhabited En := ⟨⟨0, none, ⟨0, 0, 0⟩⟩⟩
/-- its cells -/
def E5 (e : En) : List Value := [I e.d, .pointer e.nd, I e.p.id, I e.p.x, I e.p.y]
abbrev Ev (e : En) : Value := .agg #[I e.d, .pointer e.nd, I e.p.id, I e.p.x, I e.p.y]
/-- which of two comes first -/
def enLt (a b : En) : Prop := a.d < b.d ∨ (a.d = b.d ∧ a.p.id < b.p.id)
instance (a b : En) : Decidable (enLt a b) := by unfold enLt; infer_instance
theorem enWeak : Heap.Weak enLt := ⟨fun a b h => by unfold enLt at *; omega, fun a b c h1 h2 => by unfold enLt at *; omega⟩
theorem enIrr (a : En) : ¬ enLt a a := by unfold enLt; omega
def orTwo (a b : Int) : Int := if a ≠ 0 then a else b
set_option maxHeartbeats 400000 in
theorem orTwo_any (g : Nat) (a b : Int) (w : World) (h0 : w.cell? ⟨g, 0, none⟩ = some (I a)) (h1 : w.cell? ⟨g, 1, none⟩ = some (I b)) :
    Calls Tryz.prog 66 #[.slice (some ⟨g, 0, none⟩) 2 2] w fun e w' => e = .returned (I (orTwo a b)) ∧ w' = w := by
  go_enter Tryz.func66, Tryz.ntmps66
  go_wp2
  go_loopw [8] (fun v wq => wq = w ∧ ∃ i : Nat, v = I i ∧ i ≤ 2 ∧ (1 ≤ i → a = 0) ∧ (2 ≤ i → b = 0)) (fun v _ => 2 - (intOf v).toNat)
  case atStart => exact ⟨rfl, 0, rfl, by omega, by omega, by omega⟩
  case round =>
    obtain ⟨rfl, i, rfl, hi, ha, hb⟩ := hrel
    match i, hi, ha, hb with
    | 0, _, _, _ =>
      by_cases ha : a = 0
      · subst ha
        go_wp2
        go_roundw
        case rel => exact ⟨trivial, 1, by go_num, by omega, by simp, by omega⟩
        case measure => simp [intOf]
      · go_wp2
        go_ret
        exact ⟨by simp [orTwo, ha], rfl⟩
    | 1, _, ha, _ =>
      have ha := ha (by omega)
      by_cases hb : b = 0
      · subst hb
        go_wp2
        go_roundw
        case rel => exact ⟨trivial, 2, by go_num, by omega, by simp [ha], by simp⟩
        case measure => simp [intOf]
      · go_wp2
        go_ret
        exact ⟨by simp [orTwo, ha], rfl⟩
    | 2, _, ha, hb =>
      have ha := ha (by omega)
      have hb := hb (by omega)
      go_wp2
      go_ret
      exact ⟨by simp [orTwo, ha, hb], rfl⟩
set_option maxHeartbeats 400000 in
theorem isNaN64_any (n : Int) (w : World) :
    Calls Tryz.prog 218 #[I n] w fun e w' => e = .returned (.bool false) ∧ w' = w := by
  go_enter Tryz.func218, Tryz.ntmps218
  go_wp2
  go_ret
  exact ⟨rfl, rfl⟩
set_option maxHeartbeats 400000 in
theorem cmp64_any (a b : Int) (w : World) :
    Calls Tryz.prog 217 #[I a, I b] w fun e w' => e = .returned (I (cmpI a b)) ∧ w' = w := by
  rcases Int.lt_trichotomy a b with h | h | h
  · have e : cmpI a b = -1 := by simp [cmpI, h]
    rw [e]
    go_enter Tryz.func217, Tryz.ntmps217
    go_wp2_with (go_at_call 218; refine (isNaN64_any _ _).mono ?_; rintro _ _ ⟨rfl, rfl⟩)
    go_ret
    exact ⟨rfl, rfl⟩
  · have e : cmpI a b = 0 := by subst h; simp [cmpI]
    rw [e]
    subst h
    go_enter Tryz.func217, Tryz.ntmps217
    go_wp2_with (go_at_call 218; refine (isNaN64_any _ _).mono ?_; rintro _ _ ⟨rfl, rfl⟩)
    go_ret
    exact ⟨rfl, rfl⟩
  · have e : cmpI a b = 1 := by simp [cmpI, h, show ¬ a < b by omega]
    have h' : ¬ a < b := by omega
    rw [e]
    go_enter Tryz.func217, Tryz.ntmps217
    go_wp2_with (go_at_call 218; refine (isNaN64_any _ _).mono ?_; rintro _ _ ⟨rfl, rfl⟩)
    go_ret
    exact ⟨rfl, rfl⟩
/-- what compare says of two entries -/
def cmpE (a b : En) : Int := orTwo (cmpI a.d b.d) (cmpI a.p.id b.p.id)
theorem cmpE_lt (a b : En) : cmpE a b < 0 ↔ enLt a b := by
  unfold cmpE orTwo cmpI enLt
  (repeat' split) <;> omega
/-- the cells of two entries that compare reads -/
def TwoE (g k : Nat) (a b : En) (W : World) : Prop := (W.cell? ⟨g, 0, none⟩ = some (I a.d) ∧ W.cell? ⟨g, 2, none⟩ = some (I a.p.id)) ∧ W.cell? ⟨k, 0, none⟩ = some (I b.d) ∧ W.cell? ⟨k, 2, none⟩ = some (I b.p.id)
theorem TwoE.below {g k B : Nat} {a b : En} {W W' : World} (h : TwoE g k a b W) (hb : Below B W W') (hg : g < B) (hk : k < B) : TwoE g k a b W' :=
  ⟨⟨(hb.cell (p := ⟨g, 0, none⟩) hg).trans h.1.1, (hb.cell (p := ⟨g, 2, none⟩) hg).trans h.1.2⟩, (hb.cell (p := ⟨k, 0, none⟩) hk).trans h.2.1, (hb.cell (p := ⟨k, 2, none⟩) hk).trans h.2.2⟩
theorem rowE2 {w : World} {g t : Nat} {a b : Value} (h : w.heap[g]? = some (.cells #[a, b] t (0, 0))) : w.cell? ⟨g, 0, none⟩ = some a ∧ w.cell? ⟨g, 1, none⟩ = some b := by
  refine ⟨?_, ?_⟩ <;> rw [cell_of_row _ _ _ _ _ _ h] <;> rfl
set_option maxRecDepth 100000 in
set_option maxHeartbeats 2000000 in
theorem compareE_any (a b : En) (w : World) :
    Calls Tryz.prog 216 #[Ev a, Ev b] w fun e w' => e = .returned (I (cmpE a b)) ∧ Below w.heap.size w w' := by
  obtain ⟨ad, an, ⟨ai, ax, ay⟩⟩ := a
  obtain ⟨bd, bn, ⟨bi, bx, bY⟩⟩ := b
  have HE := hide (show cmpE ⟨ad, an, ⟨ai, ax, ay⟩⟩ ⟨bd, bn, ⟨bi, bx, bY⟩⟩ = orTwo (cmpI ad bd) (cmpI ai bi) from rfl)
  go_enter Tryz.func216, Tryz.ntmps216
  go_wp2_with fail
  have hz1 := heap_alloc2_old w
  have hz2 := heap_alloc2_new w
  have hbb := fun o o' => ((Below.refl w.heap.size w).alloc (Nat.le_refl _) o).alloc (by simp) o'
  generalize hW : World.alloc _ _ = w0
  have r1 : w0.heap[w.heap.size]? = some (.cells #[I ad, .pointer an, I ai, I ax, I ay] 166 (0, 0)) := by rw [← hW]; exact hz1 _ _
  have r2 : w0.heap[w.heap.size + 1]? = some (.cells #[I bd, .pointer bn, I bi, I bx, I bY] 166 (0, 0)) := by rw [← hW]; exact hz2 _ _
  have hb0 : Below w.heap.size w w0 := by rw [← hW]; exact hbb _ _
  have hz0 : w0.heap.size = w.heap.size + 2 := by rw [← hW]; simp
  clear hz1 hz2 hbb hW
  have hS : TwoE w.heap.size (w.heap.size + 1) ⟨ad, an, ⟨ai, ax, ay⟩⟩ ⟨bd, bn, ⟨bi, bx, bY⟩⟩ w0 := by
    refine ⟨⟨?_, ?_⟩, ?_, ?_⟩
    · rw [cell_of_row _ _ _ _ _ _ r1]; rfl
    · rw [cell_of_row _ _ _ _ _ _ r1]; rfl
    · rw [cell_of_row _ _ _ _ _ _ r2]; rfl
    · rw [cell_of_row _ _ _ _ _ _ r2]; rfl
  have HZ := hide hz0
  have HB := hide hb0
  have HN := hide (show ∀ o, ((w0.alloc o).drew).heap[w0.heap.size]? = some o from fun o => heap_alloc_new w0 o)
  clear r1 r2 hz0 hb0
  go_region_held3 (fun W => (W.cell? ⟨w.heap.size, 0, none⟩ = some (I ad) ∧ W.cell? ⟨w.heap.size, 2, none⟩ = some (I ai)) ∧ W.cell? ⟨w.heap.size + 1, 0, none⟩ = some (I bd) ∧ W.cell? ⟨w.heap.size + 1, 2, none⟩ = some (I bi)) (first | assumption | exact hS | exact TwoE.below hS (((Below.refl _ _).alloc (Nat.le_refl _) _).drew) (by have := HZ.out; omega) (by have := HZ.out; omega)) ((first | (go_at_call 67; refine (cmpInt_any _ _ _).mono ?_; rintro _ _ ⟨rfl, rfl⟩) | (go_at_call 217; refine (cmp64_any _ _ _).mono ?_; rintro _ _ ⟨rfl, rfl⟩) | (go_at_call 66; refine (orTwo_any _ (cmpI ad bd) (cmpI ai bi) _ (rowE2 (HN.out _)).1 (rowE2 (HN.out _)).2).mono ?_; rintro _ _ ⟨rfl, rfl⟩)))
  go_wp2
  go_ret
  exact ⟨by rw [HE.out]; rfl, (HB.out.alloc (by have := HZ.out; omega) _).drew⟩
end Go.Proofs.YtenaelkbgkpllaaGreatDoor
