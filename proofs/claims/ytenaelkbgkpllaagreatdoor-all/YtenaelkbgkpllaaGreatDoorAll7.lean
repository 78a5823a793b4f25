/- A map's commitment. -/
import Derived.Test.YtenaelkbgkpllaaGreatDoorAll6
import Derived.WalkKit
import Derived.WalkSpells
import Derived.WalkLawsBesides
import Derived.BigQuiet
import Derived.Laws.Rows
import Derived.KernelRfl
namespace Go.Proofs.YtenaelkbgkpllaaGreatDoor
open Go.RowKit

theorem fill_root (cells : Array Value) (hc : cells.size = 33) (D : List Value) (hD : D.length = 32) (x : Value) (hx : x.cells = #[x]) (place : Nat → Option (Nat × Nat)) (h0 : place 0 = some (0, 32)) (h1 : place 1 = some (32, 1)) :
    Instr.fill place cells [(0, .agg D.toArray), (1, x)] = some (D ++ [x]).toArray := by
  obtain ⟨g1, g2⟩ := Great.foldl_set 0 D 0 cells
  have e0 : Value.cells (.agg D.toArray) = D.toArray := rfl
  have ef : (D.toArray.zipIdx.foldl (fun cs (y : Value × Nat) => cs.setIfInBounds (0 + y.2) y.1) cells) = ((D.zipIdx 0).foldl (fun cs (y : Value × Nat) => cs.setIfInBounds (0 + y.2) y.1) cells) := by
    rw [← Array.foldl_toList, Array.toList_zipIdx]
  unfold Instr.fill
  simp only [h0, e0]
  rw [if_neg (by simp [hD, hc]), ef]
  generalize (D.zipIdx 0).foldl (fun cs (y : Value × Nat) => cs.setIfInBounds (0 + y.2) y.1) cells = r at *
  unfold Instr.fill
  simp only [h1, hx]
  rw [if_neg (by simp [hc, g1])]
  unfold Instr.fill
  congr 1
  apply Array.ext_getElem?
  intro k
  have es : (#[x].zipIdx.foldl (fun cs (y : Value × Nat) => cs.setIfInBounds (32 + y.2) y.1) r) = r.setIfInBounds 32 x := by
    rw [← Array.foldl_toList, Array.toList_zipIdx]; rfl
  have eR : (D ++ [x]).toArray[k]? = (D ++ [x])[k]? := List.getElem?_toArray
  rw [es, eR]
  by_cases hk : k = 32
  · subst hk
    rw [Array.getElem?_setIfInBounds_self, if_pos (by rw [g1, hc]; decide), List.getElem?_append_right (by omega), hD]
    rfl
  · rw [Array.getElem?_setIfInBounds_ne (by omega), g2 k]
    by_cases hl : k < 32
    · rw [if_pos (by omega), List.getElem?_append_left (by omega)]
      simp
    · rw [if_neg (by omega), Array.getElem?_eq_none (by omega), List.getElem?_eq_none (by simp; omega)]
theorem Tryz.infoCommitZ : (Tryz.prog.info? 41).bind (fun i => i.zero.map (·.cells.size)) = some 33 := by kernel_rfl
theorem Tryz.placesCommit : ((Tryz.prog.fieldsOf 41).toList.mapM (fun f => (Tryz.prog.info? f.type).map fun i => (f.offset, i.size))) = some [(0, 32), (32, 1)] := by kernel_rfl
theorem built_commit (D : List Value) (hD : D.length = 32) (n : Int) : Tryz.prog.built 41 [(0, .agg D.toArray), (1, I n)] = some (D ++ [I n]).toArray := by
  have hS : Tryz.prog.underlying 41 = some (.struct (Tryz.prog.fieldsOf 41)) := by kernel_rfl
  have hz := Tryz.infoCommitZ
  have hp := Tryz.placesCommit
  unfold Program.built
  cases hi : Tryz.prog.info? 41 with
  | none => rw [hi] at hz; cases hz
  | some it =>
    rw [hi] at hz
    cases hz0 : it.zero with
    | none => simp [hz0] at hz
    | some z =>
      simp [hz0] at hz
      rw [hS]
      simp only [hz0, hp]
      exact fill_root z.cells hz D hD (I n) rfl _ rfl rfl
theorem wpList_built {P : Program} {ops : Array Oper} {rest : List Oper} {o : Oper} {a : Act} {w : World} {Q : Exit → Act → World → Prop} (hg : o.guard = none) (t : TypeId) (parts : Array (Nat × Operand)) (ho : o.op = .build t parts)
    (cells : Array Value) (l : List (Nat × Value)) (hl : parts.toList.map (fun (i, x) => (i, a.eval x)) = l) (hb : P.built t l = some cells)
    (h : wpList P ops Q rest (a.put o.dst (.agg cells)) w) : wpList P ops Q (o :: rest) a w :=
  wpList_build hg t parts ho (by rw [Array.toList_map, hl, hb]; rfl) (by rw [Array.toList_map, hl, hb]; exact h)
theorem range_dig {w : World} {g : Nat} {vp vc : Value} {b : Ward.Box} {n : Int} {t : List Value} {ty : Nat} (h : w.heap[g]? = some (.cells (nodeV vp vc b n t).toArray ty (0, 0))) : w.rangeAt g 7 t := fun j v hv => by
  rw [cell_of_row _ _ _ _ _ _ h, Nat.add_comm 7 j]
  simpa [nodeV] using hv
theorem Tryz.infoDig : (Tryz.prog.info? 39).map (·.size) = some 32 := by kernel_rfl
set_option maxRecDepth 100000 in
set_option maxHeartbeats 1000000 in
theorem commitmentTo_any (vp vc : Value) (b : Ward.Box) (n : Int) (D : List UInt8) (w : World) (hD : D.length = 32) :
    Calls Tryz.prog 37 #[.agg (nodeV vp vc b n (D.map Y)).toArray] w fun e w' => e = .returned (.agg (rootV D n).toArray) ∧ Below w.heap.size w w' := by
  have hb2 := fun o o' => ((Below.refl w.heap.size w).alloc (Nat.le_refl _) o).alloc (by simp) o'
  have hr2 := heap_alloc2_new w
  have hr1 := heap_alloc2_old w
  have HBC := hide (show Tryz.prog.built 41 [(0, .agg (D.map Y).toArray), (1, I n)] = some (rootV D n).toArray from built_commit (D.map Y) (by simpa using hD) n)
  have HC33 := hide (rootV_len D n hD)
  have HONE := hide (rootV_one D n)
  have HINF := hide (show (Tryz.prog.info? 41).map (·.size) = some (rootV D n).toArray.size by rw [List.size_toArray, rootV_len D n hD]; exact Tryz.infoCommit)
  have HID := hide (show (Tryz.prog.info? 39).map (·.size) = some (D.map Y).length by rw [List.length_map, hD]; exact Tryz.infoDig)
  generalize hM : nodeV vp vc b n (D.map Y) = M at *
  have HM := hide hM
  clear hM
  go_enter Tryz.func37, Tryz.ntmps37
  go_upto_region 1 with fail
  generalize hW : World.alloc (World.alloc w _) _ = w1
  have hb1 : Below w.heap.size w w1 := by rw [← hW]; exact hb2 _ _
  have hn1 : w1.heap[w.heap.size]? = some (.cells (nodeV vp vc b n (D.map Y)).toArray 90 (0, 0)) := by rw [← hW, HM.out]; exact hr1 _ _
  have hc1 : w1.heap[w.heap.size + 1]? = some (.cells (List.replicate 32 (Value.int .u8 0) ++ [I 0]).toArray 41 (0, 0)) := by rw [← hW]; exact hr2 _ _
  clear hb2 hr1 hr2 hW
  obtain ⟨-, -, c6⟩ := node_cells hn1
  have HD := hide (range_dig hn1)
  have HB1 := hide hb1
  have HC1 := hide hc1
  have HS := hide (show (List.replicate 32 (Value.int .u8 0) ++ [I 0]).toArray.size = (rootV D n).toArray.size by rw [List.size_toArray, List.size_toArray, HC33.out]; rfl)
  clear hn1 hb1 hc1
  generalize D.map Y = DV at *
  generalize hR : rootV D n = R at *
  have HRE := hide hR
  clear hR
  go_wp2_with (first | (refine wpList_load_mid rfl 39 (.tmp 3) rfl w.heap.size 7 rfl DV _ HD.out Tryz.underlying39 rfl HID.out ?_) | (refine wpList_built rfl 41 #[(0, .tmp 4), (1, .tmp 6)] rfl R.toArray [(0, .agg DV.toArray), (1, I n)] rfl HBC.out ?_) | (refine wpList_store_row rfl 41 (.tmp 2) (.tmp 7) rfl (w.heap.size + 1) R.toArray rfl rfl 41 _ HC1.out HINF.out HS.out HONE.out ?_))
  refine bodyPost_ret (v := .agg R.toArray) ?_ rfl ⟨by rw [HRE.out], below_setRow HB1.out (by simp) _⟩
  exact results_cell_row rfl _ _ (w.heap.size + 1) 41 R.toArray (0, 0) _ rfl (setRow_heap _ _ _ _ _ _ HC1.out) Tryz.underlying41 rfl HINF.out
theorem Own.caps {w : World} {B : Nat} {v : Value} {L : List Ward.Pt} (h : Own w B v L) : ∃ a c, v = .slice a L.length c ∧ L.length ≤ c ∧ c ≤ maxLen := by
  rcases h.2 with ⟨rfl, h0⟩ | ⟨g, cap, cur, rfl, _, _, h1, h2, _⟩
  · exact ⟨none, 0, by rw [h0], by omega, by decide⟩
  · exact ⟨_, cap, rfl, h1, h2⟩
theorem Own.readsS {w : World} {B : Nat} {v : Value} {L : List Ward.Pt} (h : Own w B v L) : ReadsS w (fun g => g < w.heap.size) v L := by
  obtain ⟨a, c, rfl, hr⟩ := h.reads
  refine ⟨a, c, rfl, fun hne => ?_⟩
  obtain ⟨g, o, e, hp⟩ := hr hne
  exact ⟨g, o, e, (hp 0 (List.length_pos_iff.2 hne)).lt, hp⟩
/-- the tree of a map's points -/
theorem build_map (m : Nat) (v : Value) (L : List Ward.Pt) (w : World) (hm : IsMap w m v L) (hG : Good L) (hKT : KT w) : Calls Tryz.prog 38 #[v] w fun e w' => Built w L e w' :=
  build_any v L w hG.many hm.own.caps hm.own.readsS hKT
theorem tree_num {L : List Ward.Pt} (hG : Good L) : Ward.numN ((Ward.tree L).1 + 1) (Ward.mk Sha.sha (Ward.tree L).1 (Ward.tree L).2) = L.length := by
  rw [Ward.mk_num, Ward.count_pts, (Ward.tree_small hG.ok).2]
set_option maxRecDepth 100000 in
set_option maxHeartbeats 1000000 in
theorem commitment_any (m : Nat) (v : Value) (L : List Ward.Pt) (w : World) (hm : IsMap w m v L) (hG : Good L) (hKT : KT w) :
    Calls Tryz.prog 16 #[.pointer (some ⟨m, 0, none⟩)] w fun e w' => e = .returned (.agg (commitV L).toArray) ∧ Below w.heap.size w w' := by
  have hmlt := hm.lt
  have HM := hide hm
  have HG := hide hG
  have HK := hide hKT
  have HCO := hide (com_of L)
  have hr0' := heap_alloc_new w
  have hb0' := fun o => (Below.refl w.heap.size w).alloc (Nat.le_refl _) o
  have hs0' := fun o => show (w.alloc o).heap.size = w.heap.size + 1 by simp
  clear hm hKT
  go_enter Tryz.func16, Tryz.ntmps16
  go_upto_region 1 with fail
  generalize hW : World.alloc w _ = w0
  have hb0 : Below w.heap.size w w0 := by rw [← hW]; exact hb0' _
  have hr0 : w0.heap[w.heap.size]? = some (.cells (List.replicate 32 (Value.int .u8 0) ++ [I 0]).toArray 41 (0, 0)) := by rw [← hW]; exact hr0' _
  have hs0 : w0.heap.size = w.heap.size + 1 := by rw [← hW]; exact hs0' _
  clear hb0' hr0' hs0' hW
  have hm0 := HM.out.below hb0
  have hc0 := hm0.cell
  have HM0 := hide hm0
  have HB0 := hide hb0
  have HR0 := hide hr0
  have HS0 := hide hs0
  have HBM := hide (build_map m v L w0 hm0 hG (HK.out.below hb0))
  clear hm0 hb0 hr0 hs0
  go_wp2_with fail
  refine HBM.out.mono ?_
  rintro _ w1 ⟨V, rfl, hn1, hb1⟩
  obtain ⟨a1, l1, c1, a2, l2, c2, hV, hd⟩ := hn1.cells
  have HCT := hide (commitmentTo_any (.slice a1 l1 c1) (.slice a2 l2 c2) (Ward.boxN _ (Ward.mk Sha.sha (Ward.tree L).1 (Ward.tree L).2)) (Ward.numN _ (Ward.mk Sha.sha (Ward.tree L).1 (Ward.tree L).2)) _ w1 hd)
  rw [← hV, tree_num HG.out, Ward.mk_dig] at HCT
  have HCT := hide (show Calls Tryz.prog 37 #[.agg V.toArray] w1 fun e w' => e = .returned (.agg (commitV L).toArray) ∧ Below w1.heap.size w1 w' from HCT.out)
  have hr1 := (hb1.block w.heap.size (by have := HS0.out; omega)).trans HR0.out
  have HR1 := hide hr1
  have HB1 := hide hb1
  clear hn1 hb1 hr1 hV hd
  generalize hCL : commitV L = C at *
  have HCL := hide hCL
  clear hCL
  go_wp2_with fail
  refine HCT.out.mono ?_
  rintro _ w2 ⟨rfl, hb2⟩
  have hr2 := (hb2.block w.heap.size (Array.getElem?_eq_some_iff.1 HR1.out).1).trans HR1.out
  have HR2 := hide hr2
  have HB2 := hide hb2
  have HSE := hide (show (List.replicate 32 (Value.int .u8 0) ++ [I 0]).toArray.size = C.toArray.size by rw [HCO.out.size]; rfl)
  clear hr2 hb2
  go_wp2_with (refine wpList_store_row rfl 41 (.tmp 2) (.tmp 8) rfl w.heap.size C.toArray rfl rfl 41 _ HR2.out HCO.out.info HSE.out HCO.out.one ?_)
  have hbw := HB0.out.trans ((HB1.out.mono HB0.out.size).trans (HB2.out.mono (Nat.le_trans HB0.out.size HB1.out.size)))
  refine bodyPost_ret (v := .agg C.toArray) ?_ rfl ⟨by rw [HCL.out], below_setRow hbw (Nat.le_refl _) _⟩
  exact results_cell_row rfl _ _ w.heap.size 41 C.toArray (0, 0) _ rfl (setRow_heap _ _ _ _ _ _ HR2.out) Tryz.underlying41 rfl HCO.out.info
end Go.Proofs.YtenaelkbgkpllaaGreatDoor
/- Numbers as lists of digits of 16 bits, and roots by bits: plain functions and facts (no word of the program stands here). -/
namespace Go.Proofs.YtenaelkbgkpllaaGreatDoor
namespace Big
def val : List Nat → Nat
  | [] => 0
  | d :: l => d + 65536 * val l
def Digs (l : List Nat) : Prop := ∀ d ∈ l, d < 65536
theorem val_append (a b : List Nat) : val (a ++ b) = val a + 65536 ^ a.length * val b := by
  induction a with
  | nil => simp [val]
  | cons d a ih =>
    rw [List.cons_append, val, ih, val, List.length_cons, Nat.pow_succ]
    rw [Nat.mul_add, Nat.mul_comm (65536 ^ a.length) 65536, Nat.mul_assoc, Nat.add_assoc]
theorem val_snoc (a : List Nat) (d : Nat) : val (a ++ [d]) = val a + 65536 ^ a.length * d := by
  rw [val_append]; simp [val]
theorem val_zeros (n : Nat) : val (List.replicate n 0) = 0 := by
  induction n with
  | zero => rfl
  | succ n ih => rw [List.replicate_succ, val, ih]
theorem val_lt (l : List Nat) (h : Digs l) : val l < 65536 ^ l.length := by
  induction l with
  | nil => simp [val]
  | cons d l ih =>
    have hd : d < 65536 := h d (by simp)
    have := ih (fun x hx => h x (by simp [hx]))
    rw [val, List.length_cons, Nat.pow_succ]
    omega
/-- a digit, or 0 -/
def at' (l : List Nat) (i : Nat) : Nat := l.getD i 0
theorem val_set (l : List Nat) (i x : Nat) (hi : i < l.length) : val (l.set i x) + 65536 ^ i * at' l i = val l + 65536 ^ i * x := by
  induction l generalizing i with
  | nil => simp at hi
  | cons d l ih =>
    cases i with
    | zero => simp only [List.set_cons_zero, val, at', Nat.pow_zero, Nat.one_mul, List.getD_cons_zero]; omega
    | succ i =>
      have := ih i (by simpa using hi)
      simp only [List.set_cons_succ, val, at', Nat.pow_succ, List.getD_cons_succ] at this ⊢
      simp only [Nat.mul_comm (65536 ^ i) 65536, Nat.mul_assoc]
      omega
theorem at_lt (l : List Nat) (h : Digs l) (i : Nat) : at' l i < 65536 := by
  unfold at'
  by_cases hi : i < l.length
  · simp only [List.getD_eq_getElem?_getD, List.getElem?_eq_getElem hi, Option.getD_some]; exact h _ (List.getElem_mem hi)
  · simp only [List.getD_eq_getElem?_getD, List.getElem?_eq_none (Nat.le_of_not_lt hi), Option.getD_none]; decide
theorem digs_set (l : List Nat) (i x : Nat) (h : Digs l) (hx : x < 65536) : Digs (l.set i x) := by
  intro d hd
  rcases List.mem_or_eq_of_mem_set hd with h' | h'
  · exact h d h'
  · rw [h']; exact hx
theorem at_set (l : List Nat) (i j x : Nat) (hi : i < l.length) : at' (l.set i x) j = if i = j then x else at' l j := by
  unfold at'
  simp only [List.getD_eq_getElem?_getD, List.getElem?_set]
  by_cases e : i = j
  · subst e; simp [hi]
  · simp [e]
/-- the row of a product: what is behind k steps of the row of the digit x, from place i on, with the carry c -/
structure Row (out b : List Nat) (V x i k c : Nat) : Prop where
  digs : Digs out
  carry : c < 65536
  sum : val out + c * 65536 ^ (i + k) = V + x * val (b.take k) * 65536 ^ i
  rest : ∀ j, i + b.length ≤ j → i + k ≤ j → at' out j = 0
theorem val_take_succ (b : List Nat) (k : Nat) : val (b.take (k + 1)) = val (b.take k) + 65536 ^ k * at' b k := by
  by_cases hk : k < b.length
  · rw [List.take_succ_eq_append_getElem hk, val_snoc, List.length_take, Nat.min_eq_left (by omega)]
    simp only [at', List.getD_eq_getElem?_getD, List.getElem?_eq_getElem hk, Option.getD_some]
  · rw [List.take_of_length_le (by omega), List.take_of_length_le (by omega)]
    simp only [at', List.getD_eq_getElem?_getD, List.getElem?_eq_none (Nat.le_of_not_lt hk), Option.getD_none, Nat.mul_zero, Nat.add_zero]
theorem Row.step {out b : List Nat} {V x i k c : Nat} (h : Row out b V x i k c) (hx : x < 65536) (hb : Digs b) (hi : i + k < out.length) :
    Row (out.set (i + k) ((at' out (i + k) + x * at' b k + c) % 65536)) b V x i (k + 1) ((at' out (i + k) + x * at' b k + c) / 65536) := by
  have ho := at_lt out h.digs (i + k)
  have hbk := at_lt b hb k
  have hc := h.carry
  have hm : x * at' b k ≤ 65535 * 65535 := Nat.mul_le_mul (by omega) (by omega)
  have hs := val_set out (i + k) ((at' out (i + k) + x * at' b k + c) % 65536) hi
  have hsum := h.sum
  refine ⟨digs_set _ _ _ h.digs (Nat.mod_lt _ (by decide)), by omega, ?_, ?_⟩
  · rw [val_take_succ]
    have e1 : i + (k + 1) = (i + k) + 1 := by omega
    rw [e1, Nat.pow_succ]
    have e2 : x * (val (b.take k) + 65536 ^ k * at' b k) * 65536 ^ i = x * val (b.take k) * 65536 ^ i + 65536 ^ (i + k) * (x * at' b k) := by
      rw [Nat.mul_add, Nat.add_mul, Nat.pow_add]
      congr 1
      ac_rfl
    rw [e2]
    generalize 65536 ^ (i + k) = P at *
    generalize x * val (b.take k) * 65536 ^ i = T at *
    generalize val (out.set (i + k) _) = S at *
    generalize x * at' b k = m at *
    generalize at' out (i + k) = o at *
    have hd : (o + m + c) = 65536 * ((o + m + c) / 65536) + (o + m + c) % 65536 := (Nat.div_add_mod _ _).symm
    generalize (o + m + c) / 65536 = q at *
    generalize (o + m + c) % 65536 = r at *
    have hP : P * (o + m + c) = P * (65536 * q + r) := by rw [hd]
    rw [Nat.mul_add, Nat.mul_add, Nat.mul_add] at hP
    have e3 : q * (P * 65536) = P * (65536 * q) := by rw [Nat.mul_comm q, Nat.mul_assoc]
    have e4 : c * P = P * c := Nat.mul_comm _ _
    rw [e3]
    rw [e4] at hsum
    omega
  · intro j h1 h2
    rw [at_set _ _ _ _ hi, if_neg (by omega)]
    exact h.rest j h1 (by omega)
theorem Row.start {out b : List Nat} {V x i : Nat} (hd : Digs out) (hv : val out = V) (hr : ∀ j, i + b.length ≤ j → at' out j = 0) : Row out b V x i 0 0 :=
  ⟨hd, by decide, by simp [hv, val], fun j h1 _ => hr j h1⟩
/-- the row is done: no carry, all digits of b used -/
theorem Row.done {out b : List Nat} {V x i k : Nat} (h : Row out b V x i k 0) (hk : b.length ≤ k) : val out = V + x * val b * 65536 ^ i := by
  have := h.sum
  rwa [Nat.zero_mul, Nat.add_zero, List.take_of_length_le hk] at this
/-- behind the last digit of b the carry is laid down, and is none -/
theorem Row.last {out b : List Nat} {V x i k c : Nat} (h : Row out b V x i k c) (hk : k = b.length) : (at' out (i + k) + x * at' b k + c) / 65536 = 0 := by
  have h0 := h.rest (i + k) (by omega) (Nat.le_refl _)
  have hb : at' b k = 0 := by
    simp only [at', List.getD_eq_getElem?_getD, List.getElem?_eq_none (show b.length ≤ k by omega), Option.getD_none]
  have := h.carry
  rw [h0, hb]; omega
theorem mul_digs (x b : Nat) (hx : x < 65536) (hb : b < 65536) : (x : Int) * (b : Int) ≤ 4294836225 ∧ 0 ≤ (x : Int) * (b : Int) := by
  have h : x * b ≤ 65535 * 65535 := Nat.mul_le_mul (by omega) (by omega)
  have h1 : ((x * b : Nat) : Int) ≤ ((65535 * 65535 : Nat) : Int) := Int.ofNat_le.2 h
  have h2 : (0 : Int) ≤ ((x * b : Nat) : Int) := Int.natCast_nonneg _
  rw [Int.natCast_mul] at h1 h2
  exact ⟨h1, h2⟩
theorem cast_mod (o x b c : Nat) : ((o : Int) + (x : Int) * (b : Int) + (c : Int)) % 65536 = (((o + x * b + c) % 65536 : Nat) : Int) := by
  simp
theorem cast_div (o x b c : Nat) : ((o : Int) + (x : Int) * (b : Int) + (c : Int)) / 65536 = (((o + x * b + c) / 65536 : Nat) : Int) := by
  simp
theorem row_next (la lb out : List Nat) (i : Nat) (h : val out = val (la.take i) * val lb + at' la i * val lb * 65536 ^ i) : val out = val (la.take (i + 1)) * val lb := by
  rw [h, val_take_succ, Nat.add_mul]
  congr 1
  ac_rfl
/-- the sum of the first n digits of a row without end -/
def sumTo (f : Nat → Nat) : Nat → Nat
  | 0 => 0
  | n + 1 => sumTo f n + 65536 ^ n * f n
theorem val_take (l : List Nat) (n : Nat) : val (l.take n) = sumTo (at' l) n := by
  induction n with
  | zero => simp [val, sumTo]
  | succ n ih => rw [val_take_succ, ih, sumTo]
theorem val_sum (l : List Nat) (n : Nat) (h : l.length ≤ n) : val l = sumTo (at' l) n := by
  rw [← val_take, List.take_of_length_le h]
theorem sum_lt (f : Nat → Nat) (hf : ∀ j, f j < 65536) (n : Nat) : sumTo f n < 65536 ^ n := by
  induction n with
  | zero => simp [sumTo]
  | succ n ih =>
    rw [sumTo, Nat.pow_succ]
    have h1 := hf n
    have h2 : 65536 ^ n * f n ≤ 65536 ^ n * 65535 := Nat.mul_le_mul_left _ (by omega)
    omega
theorem sum_cmp (f g : Nat → Nat) (hf : ∀ j, f j < 65536) (i : Nat) (he : ∀ j, i < j → f j = g j) (hlt : f i < g i) (n : Nat) (hn : i < n) : sumTo f n < sumTo g n := by
  induction n with
  | zero => omega
  | succ n ih =>
    rw [sumTo, sumTo]
    by_cases e : i = n
    · subst e
      have h1 := sum_lt f hf i
      have h2 : 65536 ^ i * (f i + 1) ≤ 65536 ^ i * g i := Nat.mul_le_mul_left _ hlt
      rw [Nat.mul_add] at h2
      omega
    · have := ih (by omega)
      rw [he n (by omega)]
      omega
theorem sum_eq (f g : Nat → Nat) (n : Nat) (he : ∀ j, j < n → f j = g j) : sumTo f n = sumTo g n := by
  induction n with
  | zero => rfl
  | succ n ih => rw [sumTo, sumTo, ih (fun j hj => he j (by omega)), he n (by omega)]
theorem val_lt_of (a b : List Nat) (ha : Digs a) (i : Nat) (he : ∀ j, i < j → at' a j = at' b j) (hlt : at' a i < at' b i) : val a < val b := by
  have hi : i < max a.length b.length + i + 1 := by omega
  rw [val_sum a (max a.length b.length + i + 1) (by omega), val_sum b (max a.length b.length + i + 1) (by omega)]
  exact sum_cmp _ _ (at_lt a ha) i he hlt _ hi
theorem val_eq_of (a b : List Nat) (he : ∀ j, at' a j = at' b j) : val a = val b := by
  rw [val_sum a (max a.length b.length) (by omega), val_sum b (max a.length b.length) (by omega)]
  exact sum_eq _ _ _ (fun j _ => he j)
/-- the digits of a number so far: j of them, and what is left -/
def Cut (l : List Nat) (j left x : Nat) : Prop := l.length = j ∧ Digs l ∧ val l + 65536 ^ j * left = x
theorem Cut.step {l : List Nat} {j left x : Nat} (h : Cut l j left x) : Cut (l ++ [left % 65536]) (j + 1) (left / 65536) x := by
  obtain ⟨h1, h2, h3⟩ := h
  refine ⟨by simp [h1], ?_, ?_⟩
  · intro d hd
    rcases List.mem_append.1 hd with h' | h'
    · exact h2 d h'
    · rw [List.mem_singleton.1 h']; exact Nat.mod_lt _ (by decide)
  · rw [val_snoc, h1, Nat.pow_succ]
    have hd : left = 65536 * (left / 65536) + left % 65536 := (Nat.div_add_mod _ _).symm
    have hP : 65536 ^ j * left = 65536 ^ j * (65536 * (left / 65536) + left % 65536) := by rw [← hd]
    rw [Nat.mul_add] at hP
    have e : 65536 ^ j * 65536 * (left / 65536) = 65536 ^ j * (65536 * (left / 65536)) := Nat.mul_assoc _ _ _
    omega
/-- is x to a power above p, moved up by 32 times the power bits? -/
def above (x p power : Nat) : Bool := decide (p * 65536 ^ (2 * power) < x ^ power)
/-- the whole part of a root, from a number on: so many tries -/
def wholeFrom (p power : Nat) : Nat → Nat → Nat
  | 0, w => w
  | n + 1, w => if p < (w + 1) ^ power then w else wholeFrom p power n (w + 1)
def whole (p power : Nat) : Nat := wholeFrom p power 400 0
/-- the bits of the fraction, from bit b - 1 down -/
def fold (f : Nat → Nat → Nat) : Nat → Nat → Nat
  | 0, n => n
  | b + 1, n => fold f b (f b n)
theorem fold_zero (f : Nat → Nat → Nat) (n : Nat) : fold f 0 n = n := rfl
theorem fold_succ (f : Nat → Nat → Nat) (b n : Nat) : fold f (b + 1) n = fold f b (f b n) := rfl
def bitsFrom (p power w b n : Nat) : Nat := fold (fun b n => if above (w * 4294967296 + (n + 2 ^ b)) p power then n else n + 2 ^ b) b n
def root (p power : Nat) : Nat := bitsFrom p power (whole p power) 32 0
/-- is x not divided by any of these? -/
def prime (l : List Nat) (x : Nat) : Bool := l.all fun d => x % d != 0
/-- the primes among 2 to n + 1 -/
def primesTo : Nat → List Nat
  | 0 => []
  | n + 1 => if prime (primesTo n) (n + 2) then primesTo n ++ [n + 2] else primesTo n
end Big
end Go.Proofs.YtenaelkbgkpllaaGreatDoor
/- The reference's numbers of many digits: a number cut into digits; a digit. -/
namespace Go.Proofs.YtenaelkbgkpllaaGreatDoor
open Go.RowKit
namespace Ref

theorem Tryz.info72 : (Tryz.prog.info? 142).map (fun i => (i.zero, i.size, i.bytes)) = some (some (.int .u64 0), 1, 8) := by kernel_rfl
/-- a digit as a value -/
abbrev D (n : Nat) : Value := .int .u64 n

theorem cut_lt {l : List Nat} {j left x : Nat} (h : Big.Cut l j left x) (hx : x < 1099511627776) (hl : 0 < left) : j < 3 := by
  obtain ⟨_, _, h3⟩ := h
  rcases Nat.lt_or_ge j 3 with h' | h'
  · exact h'
  · exfalso
    have h1 : 65536 ^ 3 ≤ 65536 ^ j := Nat.pow_le_pow_right (by decide) h'
    have h2 : 65536 ^ j * 1 ≤ 65536 ^ j * left := Nat.mul_le_mul_left _ hl
    have h4 : (65536 : Nat) ^ 3 = 281474976710656 := by decide
    omega

set_option maxHeartbeats 400000 in
theorem digits_any (x : Nat) (w : World) (hx : x < 1099511627776) :
    Calls Tryz.prog 127 #[.int .u64 x] w fun e w' => ∃ v l, e = .returned v ∧ Big.Digs l ∧ Big.val l = x ∧ l.length ≤ 3 ∧ w'.ownsRow w.heap.size 142 1 v l.length (l.map D) ∧ Below w.heap.size w w' := by
  obtain ⟨i0, hi, hz0, hz1, hz2⟩ := info_parts Tryz.info72
  go_enter Tryz.func127, Tryz.ntmps127
  go_wp2
  go_loopw [0, 3] (fun a v wq => ∃ (r : Nat) (l : List Nat) (j : Nat), a = .int .u64 r ∧ r ≤ x ∧ j ≤ 3 ∧ Big.Cut l j r x ∧ wq.ownsRow w.heap.size 142 1 v j (l.map D) ∧ Below w.heap.size w wq)
    (fun a _ _ => (intOf a).toNat)
  case atStart => exact ⟨x, [], 0, rfl, Nat.le_refl _, by omega, ⟨rfl, fun d hd => by simp at hd, by simp [Big.val]⟩, World.ownsRow_nil _ _ _ _, Below.refl _ _⟩
  case round =>
    obtain ⟨r, l, j, rfl, hr, hj, hcut, hown, hb⟩ := hrel
    have HC := hide hcut
    have HO := hide hown
    have hs := hb.size
    clear hcut hown
    by_cases hpos : 0 < r
    · have hj3 := cut_lt HC.out hx hpos
      go_wp2_with (at_builtin; refine wpList_append_own _ rfl (.tmp 6) (.tmp 9) 184 rfl w.heap.size 142 i0 (.int .u64 0) 1 8 Tryz.underlying184 hi hz0 hz1 hz2 rfl (by decide) _ j (l.map D) rfl (HO.out.alloc _) ⟨wr.heap.size, 0, none⟩ 1 1 [D (r % 65536)] rfl rfl ?c1 ?c2 ?c3 ?c4 ?c5 ?_)
      case c1 =>
        intro i u hiu
        match i, hiu with
        | 0, hiu => simp at hiu; subst hiu; simp [Addr.add]
      case c2 => intro u hu; simp at hu; subst hu; rfl
      case c3 => unfold maxLen; omega
      case c4 => omega
      case c5 => simp; omega
      · intro v' w1 hown' hgrow _
        have hb1 : Below w.heap.size w w1 := (hb.alloc hs _).grown hgrow (by simp; omega) (fun k hk => (HO.out.lt k hk).1)
        have HO1 := hide hown'
        clear hown' hgrow
        go_wp2
        go_roundw
        case rel =>
          refine ⟨r / 65536, l ++ [r % 65536], j + 1, by go_num, by omega, by omega, HC.out.step, ?_, hb1⟩
          have := HO1.out
          rw [List.map_append]
          exact this
        case measure => simp [intOf]; omega
    · have e0 : r = 0 := by omega
      subst e0
      go_wp2
      go_ret
      obtain ⟨h1, h2, h3⟩ := HC.out
      subst h1
      exact ⟨_, l, rfl, h2, by omega, hj, HO.out, hb⟩

/-- the cells of a list of digits -/
def Has (w : World) (v : Value) (l : List Nat) : Prop := ∃ (a : Option Addr) (c : Nat), v = .slice a l.length c ∧ (l ≠ [] → ∃ g, a = some ⟨g, 0, none⟩ ∧ ∀ i, i < l.length → w.cell? ⟨g, i, none⟩ = some (D (Big.at' l i)))
theorem has_of {w : World} {B n : Nat} {v : Value} {l : List Nat} (h : w.ownsRow B 142 1 v n (l.map D)) : Has w v l := by
  obtain ⟨hlen, hv | ⟨g, cap, cur, rfl, hg, hheap, hcap, hmax, hcs, htake⟩⟩ := h
  · obtain ⟨rfl, rfl⟩ := hv
    have : l = [] := by simpa using hlen
    subst this
    exact ⟨none, 0, rfl, fun h => absurd rfl h⟩
  · have hl : l.length = n := by simpa using hlen
    subst hl
    refine ⟨some ⟨g, 0, none⟩, cap, rfl, fun _ => ⟨g, rfl, fun i hi => ?_⟩⟩
    have hc : w.cell? ⟨g, i, none⟩ = cur[i]? := by simp [World.cell?, hheap]
    rw [hc, ← Array.getElem?_toList]
    have e : (cur.toList.take (l.length * 1))[i]? = cur.toList[i]? := List.getElem?_take_of_lt (by omega)
    rw [← e, htake, List.getElem?_map, List.getElem?_eq_getElem hi]
    simp only [Option.map_some, Big.at', List.getD_eq_getElem?_getD, List.getElem?_eq_getElem hi, Option.getD_some]

set_option maxHeartbeats 400000 in
theorem at_any (v : Value) (l : List Nat) (i : Int) (k : Nat) (w : World) (hi : i = k) (hl : l.length ≤ 1000) (h : Has w v l) :
    Calls Tryz.prog 129 #[v, .int .i64 i] w fun e w' => e = .returned (.int .u64 (Big.at' l k : Nat)) ∧ w' = w := by
  subst hi
  obtain ⟨a, c, rfl, hc⟩ := h
  by_cases hlt : k < l.length
  · obtain ⟨g, rfl, hcell⟩ := hc (fun e => by subst e; simp at hlt)
    have hck := hcell k hlt
    generalize Big.at' l k = x at *
    clear hcell hc
    go_enter Tryz.func129, Tryz.ntmps129
    go_wp2
    go_ret
    exact ⟨rfl, rfl⟩
  · have e : Big.at' l k = 0 := by simp only [Big.at', List.getD_eq_getElem?_getD, List.getElem?_eq_none (show l.length ≤ k by omega), Option.getD_none]
    rw [e]
    clear hc
    go_enter Tryz.func129, Tryz.ntmps129
    go_wp2
    go_ret
    exact ⟨rfl, rfl⟩
end Ref
end Go.Proofs.YtenaelkbgkpllaaGreatDoor
/- The reference's product of two numbers of many digits. -/
namespace Go.Proofs.YtenaelkbgkpllaaGreatDoor
open Go.RowKit
namespace Ref

theorem has_below {w w' : World} {v : Value} {l : List Nat} (h : Has w v l) (hb : Below w.heap.size w w') : Has w' v l := by
  obtain ⟨a, c, rfl, hc⟩ := h
  refine ⟨a, c, rfl, fun hne => ?_⟩
  obtain ⟨g, rfl, hcell⟩ := hc hne
  refine ⟨g, rfl, fun i hi => ?_⟩
  have h0 := hcell i hi
  rw [hb.cell (p := ⟨g, i, none⟩) (block_lt_of_cell h0)]
  exact h0
theorem at_to (v : Value) (l : List Nat) (i : Int) (k x : Nat) (w : World) (hi : i = k) (hx : Big.at' l k = x) (hl : l.length ≤ 1000) (h : Has w v l) :
    Calls Tryz.prog 129 #[v, .int .i64 i] w fun e w' => e = .returned (.int .u64 (x : Nat)) ∧ w' = w := by
  subst hx; exact at_any v l i k w hi hl h
theorem has_drewN {w : World} {v : Value} {l : List Nat} (h : Has w v l) (n : Nat) : Has (w.drewN n) v l := has_below h (below_drewN (Below.refl _ _) n)
theorem drewN_heap (w : World) (n : Nat) : (w.drewN n).heap = w.heap := by
  induction n <;> simp_all [World.drewN]
theorem row_set {w : World} {g i : Nat} {out : List Nat} {x : Nat} (h : w.heap[g]? = some (.cells (out.map D).toArray 142 (0, 0))) :
    (w.setCell ⟨g, i, none⟩ (D x)).heap[g]? = some (.cells ((out.set i x).map D).toArray 142 (0, 0)) := by
  rw [heap_setCell_same _ _ _ _ _ _ h, List.setIfInBounds_toArray, List.map_set]
theorem row_cell {w : World} {g i : Nat} {out : List Nat} (h : w.heap[g]? = some (.cells (out.map D).toArray 142 (0, 0))) (hi : i < out.length) : w.cell? ⟨g, i, none⟩ = some (D (Big.at' out i)) := by
  rw [cell_of_row _ _ _ _ _ _ h, List.getElem?_toArray, List.getElem?_map, List.getElem?_eq_getElem hi]
  simp only [Option.map_some, Big.at', List.getD_eq_getElem?_getD, List.getElem?_eq_getElem hi, Option.getD_some]
theorem row_owns {w : World} {B g n : Nat} {out : List Nat} (h : w.heap[g]? = some (.cells (out.map D).toArray 142 (0, 0))) (hn : out.length = n) (hB : B ≤ g) (hm : n ≤ 1000) :
    w.ownsRow B 142 1 (.slice (some ⟨g, 0, none⟩) n n) out.length (out.map D) := by
  subst hn
  refine ⟨by simp, .inr ⟨g, out.length, (out.map D).toArray, rfl, hB, h, Nat.le_refl _, by unfold maxLen; omega, by simp, ?_⟩⟩
  rw [List.take_of_length_le (by simp)]
theorem made_row {w : World} {B g n : Nat} (h : w.ownsRow B 142 1 (.slice (some ⟨g, 0, none⟩) n n) n (madeCells (Value.int .u64 0).cells (n * 1)).toList) :
    w.heap[g]? = some (.cells ((List.replicate n 0).map D).toArray 142 (0, 0)) := by
  obtain ⟨-, hv | ⟨g', cap, cur, e, -, hheap, -, -, hcs, htake⟩⟩ := h
  · cases hv.1
  · injection e with e1 e2 e3
    injection e1 with e4
    injection e4 with e5
    subst e5
    subst e3
    have hc : cur.toList = List.replicate n (Value.int .u64 0) := by
      have h1 : cur.toList.take (n * 1) = cur.toList := List.take_of_length_le (by simp; omega)
      rw [← h1, htake, Nat.mul_one]
      exact toList_madeCells_one (Value.int .u64 0) n
    have h2 : cur = ((List.replicate n 0).map D).toArray := by
      apply Array.toList_inj.1
      rw [hc, List.map_replicate]; rfl
    rw [← h2]; exact hheap
theorem at_zeros (n j : Nat) : Big.at' (List.replicate n 0) j = 0 := by
  simp only [Big.at', List.getD_eq_getElem?_getD, List.getElem?_replicate]
  split <;> rfl
theorem digs_zeros (n : Nat) : Big.Digs (List.replicate n 0) := fun d hd => by rw [List.eq_of_mem_replicate hd]; decide

set_option maxRecDepth 100000 in
set_option maxHeartbeats 1000000 in
theorem times_any (va vb : Value) (la lb : List Nat) (w : World) (ha : Has w va la) (hb : Has w vb lb) (da : Big.Digs la) (db : Big.Digs lb) (na : la.length ≤ 20) (nb : lb.length ≤ 20) :
    Calls Tryz.prog 128 #[va, vb] w fun e w' => ∃ v out, e = .returned v ∧ Big.Digs out ∧ Big.val out = Big.val la * Big.val lb ∧ out.length = la.length + lb.length + 1 ∧ w'.ownsRow w.heap.size 142 1 v out.length (out.map D) ∧ Below w.heap.size w w' := by
  obtain ⟨i0, hi, hz0, hz1, hz2⟩ := info_parts Tryz.info72
  have HA := hide ha
  have HB := hide hb
  have HDA := hide da
  have HDB := hide db
  obtain ⟨aa, ca, rfl, hca⟩ := ha
  obtain ⟨ab, cb, rfl, -⟩ := hb
  have HCA := hide hca
  clear hca da db
  obtain ⟨N, hN⟩ : ∃ N, la.length + lb.length + 1 = N := ⟨_, rfl⟩
  have hN1 : N ≤ 41 := by omega
  have HN := hide hN
  have hNi := hide (show (la.length : Int) + (lb.length : Int) + 1 = (N : Int) by omega)
  have hby : i0.bytes * N ≤ 281474976710656 := by rw [hz2]; omega
  clear hN
  go_enter Tryz.func128, Tryz.ntmps128
  go_wp2_with (at_make; refine wpList_make_full w rfl (.tmp 15) (.tmp 15) 184 rfl w.heap.size 142 i0 (.int .u64 0) 1 Tryz.underlying184 hi hz0 hz1 .i64 .i64 _ _ N rfl rfl hNi.out hNi.out hby (by unfold maxLen; omega) (Nat.le_refl _) ?_; intro w1 hown hgrow; have HR1 := hide (made_row hown); have hb1 := (Below.refl w.heap.size w).grown hgrow (Nat.le_refl _) (fun k hk => by cases hk); clear hown hgrow)
  go_loopw [6] (fun iv wq => ∃ (i : Nat) (out : List Nat), i ≤ la.length ∧ iv = .int .i64 i ∧ out.length = N ∧ Big.Digs out ∧ Big.val out = Big.val (la.take i) * Big.val lb ∧ (∀ j, i + lb.length ≤ j → Big.at' out j = 0) ∧ wq.heap[w.heap.size]? = some (.cells (out.map D).toArray 142 (0, 0)) ∧ Below w.heap.size w wq)
    (fun iv _ => la.length - (intOf iv).toNat)
  case atStart => exact ⟨0, List.replicate N 0, by omega, rfl, by simp, digs_zeros N, by simp [Big.val, Big.val_zeros], fun j _ => at_zeros N j, HR1.out, hb1⟩
  case round =>
    clear HR1 hb1
    obtain ⟨i, out, hi1, rfl, hol, hod, hov, hoz, hrow, hbr⟩ := hrel
    by_cases hlt : i < la.length
    · have hrow0 := hide (Big.Row.start (x := Big.at' la i) (i := i) (b := lb) hod hov hoz)
      have HOL := hide hol
      have HRW := hide hrow
      clear hol hod hov hoz hrow
      go_wp2_with fail
      go_loopw [7, 8] (fun cv kv wq => ∃ (k c : Nat) (out : List Nat), k ≤ lb.length + 1 ∧ (k = lb.length + 1 → c = 0) ∧ kv = .int .i64 k ∧ cv = .int .u64 c ∧ out.length = N ∧ Big.Row out lb (Big.val (la.take i) * Big.val lb) (Big.at' la i) i k c ∧ wq.heap[w.heap.size]? = some (.cells (out.map D).toArray 142 (0, 0)) ∧ Below w.heap.size w wq)
        (fun _ kv _ => lb.length + 1 - (intOf kv).toNat)
      case atStart => exact ⟨0, 0, out, by omega, fun _ => rfl, rfl, rfl, HOL.out, hrow0.out, HRW.out, hbr⟩
      case round =>
        clear hrow0 HOL HRW hbr
        obtain ⟨k, c, out, hk1, hkc, rfl, rfl, hol, hR, hrow, hbr⟩ := hrel
        have hcl := hR.carry
        by_cases hgo : k < lb.length ∨ 0 < c
        · have hkl : k ≤ lb.length := by rcases Nat.lt_or_ge lb.length k with h' | h'; (· have := hkc (by omega); omega); exact h'
          have hik : i + k < out.length := by rw [hol, ← HN.out]; omega
          have hikN : i + k < N := by omega
          have hstep := hide (hR.step (Big.at_lt la HDA.out i) HDB.out hik)
          have hlast := hide (fun h : k = lb.length => hR.last h)
          have co := row_cell hrow hik
          have fo : wr.frozen? ⟨w.heap.size, i + k, none⟩ = false := frozen_of_row _ _ _ _ _ hrow
          obtain ⟨ga, rfl, hcells⟩ := HCA.out (fun e => by subst e; simp at hlt)
          have cai := hcells i hlt
          have cai2 : wr.cell? ⟨ga, i, none⟩ = some (D (Big.at' la i)) := (hbr.cell (p := ⟨ga, i, none⟩) (block_lt_of_cell cai)).trans cai
          have hHB := hide (has_below HB.out hbr)
          have hx := Big.at_lt la HDA.out i
          have hbk := Big.at_lt lb HDB.out k
          have hoo := Big.at_lt out hR.digs (i + k)
          obtain ⟨hmi, hm0⟩ := Big.mul_digs _ _ hx hbk
          have HRW := hide hrow
          have HOL := hide hol
          clear cai hcells hR hrow hol hkc
          generalize Big.at' la i = x at *
          generalize hbe : Big.at' lb k = bk at *
          have HBE := hide hbe
          clear hbe
          generalize Big.at' out (i + k) = o at *
          have hcase : (k < lb.length) ∨ (k = lb.length ∧ 0 < c) := by omega
          rcases hcase with hk2 | ⟨hk2, hc2⟩
          · go_wp2_with fail
            go_quiet ((go_at_call 129; exact Calls.quiet_of_same (at_to _ lb _ k bk _ rfl HBE.out (by omega) (has_drewN hHB.out _))))
            go_wp2_with fail
            exact ⟨⟨k + 1, (o + x * bk + c) / 65536, out.set (i + k) ((o + x * bk + c) % 65536), Nat.succ_le_succ hkl, fun h => hlast.out (by omega), by go_num, congrArg (Value.int IntKind.u64) (Big.cast_div o x bk c), by rw [List.length_set]; exact HOL.out, hstep.out, by rw [Big.cast_mod]; exact row_set (by rw [drewN_heap]; exact HRW.out), (below_drewN hbr nq).setCell (Nat.le_refl _) _⟩, by simp [intOf]; omega⟩
          · have hk3 : decide ((k : Int) < (lb.length : Int)) = false := by simp; omega
            have hk4 : lb.length ≤ k := by omega
            clear hk2 hgo
            go_wp2_with fail
            go_quiet ((go_at_call 129; exact Calls.quiet_of_same (at_to _ lb _ k bk _ rfl HBE.out (by omega) (has_drewN hHB.out _))))
            go_wp2_with fail
            exact ⟨⟨k + 1, (o + x * bk + c) / 65536, out.set (i + k) ((o + x * bk + c) % 65536), Nat.succ_le_succ hkl, fun h => hlast.out (by omega), by go_num, congrArg (Value.int IntKind.u64) (Big.cast_div o x bk c), by rw [List.length_set]; exact HOL.out, hstep.out, by rw [Big.cast_mod]; exact row_set (by rw [drewN_heap]; exact HRW.out), (below_drewN hbr nq).setCell (Nat.le_refl _) _⟩, by simp [intOf]; omega⟩
        · have hc0 : c = 0 := by omega
          have hkl : lb.length ≤ k := by omega
          subst hc0
          have hk3 : decide ((k : Int) < (lb.length : Int)) = false := by simp; omega
          have hv := hide (Big.row_next la lb out i (hR.done hkl))
          have hz := hide hR.rest
          have hd := hide hR.digs
          have HRW := hide hrow
          have HOL := hide hol
          clear hR hrow hol hkc
          go_wp2_with fail
          go_roundw
          case rel => exact ⟨i + 1, out, hlt, by go_num, HOL.out, hd.out, hv.out, fun j hj => hz.out j (by omega) (by omega), HRW.out, hbr⟩
          case measure => simp [intOf]; omega
    · have e : i = la.length := by omega
      subst e
      have hov2 := hide hov
      have HRW := hide hrow
      have HOD := hide hod
      have HOL := hide hol
      clear hov hoz hrow hod hol
      go_wp2_with fail
      go_ret
      refine ⟨_, out, rfl, HOD.out, ?_, HOL.out.trans HN.out.symm, row_owns HRW.out HOL.out (Nat.le_refl _) (by omega), hbr⟩
      rw [hov2.out, List.take_length]
end Ref
end Go.Proofs.YtenaelkbgkpllaaGreatDoor
/- The reference's comparison of a power with a number moved up. -/
namespace Go.Proofs.YtenaelkbgkpllaaGreatDoor
open Go.RowKit
namespace Ref

theorem val_up (p n : Nat) : Big.val (List.replicate n 0 ++ [p]) = p * 65536 ^ n := by
  rw [Big.val_snoc, Big.val_zeros, List.length_replicate, Nat.zero_add, Nat.mul_comm]
theorem digs_up (p n : Nat) (hp : p < 65536) : Big.Digs (List.replicate n 0 ++ [p]) := fun d hd => by
  rcases List.mem_append.1 hd with h | h
  · exact digs_zeros n d h
  · rw [List.mem_singleton.1 h]; exact hp
theorem above_gt (t b : List Nat) (x p power k : Nat) (hb : Big.Digs b) (ht : Big.val t = x ^ power) (hbv : Big.val b = p * 65536 ^ (2 * power)) (he : ∀ j, k < j → Big.at' t j = Big.at' b j) (h : Big.at' b k < Big.at' t k) : Big.above x p power = true := by
  have := Big.val_lt_of b t hb k (fun j hj => (he j hj).symm) h
  simp only [Big.above, decide_eq_true_eq]; omega
theorem above_lt (t b : List Nat) (x p power k : Nat) (hd : Big.Digs t) (ht : Big.val t = x ^ power) (hbv : Big.val b = p * 65536 ^ (2 * power)) (he : ∀ j, k < j → Big.at' t j = Big.at' b j) (h : Big.at' t k < Big.at' b k) : Big.above x p power = false := by
  have := Big.val_lt_of t b hd k he h
  simp only [Big.above, decide_eq_false_iff_not]; omega
theorem above_eq (t b : List Nat) (x p power : Nat) (ht : Big.val t = x ^ power) (hbv : Big.val b = p * 65536 ^ (2 * power)) (he : ∀ j, Big.at' t j = Big.at' b j) : Big.above x p power = false := by
  have := Big.val_eq_of t b he
  simp only [Big.above, decide_eq_false_iff_not]; omega
theorem at_out {l : List Nat} {j : Nat} (h : l.length ≤ j) : Big.at' l j = 0 := by
  simp only [Big.at', List.getD_eq_getElem?_getD, List.getElem?_eq_none h, Option.getD_none]
theorem ret_bool {a b : Bool} (h : a = b) : Ending.returned (.bool a) = .returned (.bool b) := by rw [h]

set_option maxRecDepth 100000 in
set_option maxHeartbeats 1000000 in
theorem over2_any (x p : Nat) (w : World) (hx : x < 1099511627776) (hp : p < 65536) :
    Calls Tryz.prog 90 #[.int .u64 x, .int .i64 p, .int .i64 2] w fun e w' => e = .returned (.bool (Big.above x p 2)) ∧ Below w.heap.size w w' := by
  obtain ⟨i0, hi, hz0, hz1, hz2⟩ := info_parts Tryz.info72
  go_enter Tryz.func90, Tryz.ntmps90
  go_wp2_with fail
  refine (digits_any x _ hx).mono ?_
  rintro e w1 ⟨va, la, rfl, da, ea, na, hown1, hb1⟩
  have hA := hide (has_of hown1)
  have DA := hide da
  have EA := hide ea
  clear hown1 da ea
  go_wp2_with fail
  refine (times_any _ _ la la _ hA.out hA.out DA.out DA.out (by omega) (by omega)).mono ?_
  rintro e w2 ⟨vt, lt, rfl, dt, et, nt, hown2, hb2⟩
  have hT := hide (has_of hown2)
  have hA2 := hide (has_below hA.out hb2)
  have DT := hide dt
  have ET := hide et
  have NT := hide nt
  have ntb : lt.length ≤ 7 := by omega
  clear hown2 dt et nt
  have EU := hide (show Big.val lt = x ^ 2 by rw [ET.out, EA.out]; simp [Nat.pow_succ])
  have hbw := hb1.trans (hb2.mono hb1.size)
  have hbs := hbw.size
  clear hb1 hb2
  go_wp2
  go_loopw [9, 10] (fun v iv wq => ∃ k : Nat, k ≤ 4 ∧ iv = .int .i64 k ∧ wq.ownsRow w2.heap.size 142 1 v k ((List.replicate k 0).map D) ∧ Below w2.heap.size w2 wq)
    (fun _ iv _ => 4 - (intOf iv).toNat)
  case atStart => exact ⟨0, by omega, rfl, World.ownsRow_nil _ _ _ _, Below.refl _ _⟩
  case round =>
    obtain ⟨k, hk, rfl, hown, hb⟩ := hrel
    have HO := hide hown
    have hs := hb.size
    clear hown
    by_cases hlt : k < 4
    · go_wp2_with (at_builtin; refine wpList_append_own _ rfl (.tmp 30) (.tmp 31) 184 rfl w2.heap.size 142 i0 (.int .u64 0) 1 8 Tryz.underlying184 hi hz0 hz1 hz2 rfl (by decide) _ k ((List.replicate k 0).map D) rfl (HO.out.alloc _) ⟨wr.heap.size, 0, none⟩ 1 1 [D 0] rfl rfl ?c1 ?c2 ?c3 ?c4 ?c5 ?_)
      case c1 =>
        intro i u hiu
        match i, hiu with
        | 0, hiu => simp at hiu; subst hiu; simp [Addr.add]
      case c2 => intro u hu; simp at hu; subst hu; rfl
      case c3 => unfold maxLen; omega
      case c4 => omega
      case c5 => simp; omega
      · intro v' w5 hown' hgrow _
        have hb5 : Below w2.heap.size w2 w5 := (hb.alloc hs _).grown hgrow (by simp; omega) (fun k hk => (HO.out.lt k hk).1)
        have HO5 := hide hown'
        clear hown' hgrow
        go_wp2
        go_roundw
        case rel =>
          refine ⟨k + 1, hlt, by go_num, ?_, hb5⟩
          have := HO5.out
          rw [List.replicate_succ', List.map_append, List.map_replicate]
          exact this
        case measure => simp [intOf]; omega
    · have e : k = 4 := by omega
      subst e
      go_wp2_with (at_builtin; refine wpList_append_own _ rfl (.tmp 33) (.tmp 36) 184 rfl w2.heap.size 142 i0 (.int .u64 0) 1 8 Tryz.underlying184 hi hz0 hz1 hz2 rfl (by decide) _ 4 ((List.replicate 4 0).map D) rfl (HO.out.alloc _) ⟨wr.heap.size, 0, none⟩ 1 1 [D p] rfl rfl ?d1 ?d2 ?d3 ?d4 ?d5 ?_)
      case d1 =>
        intro i u hiu
        match i, hiu with
        | 0, hiu => simp at hiu; subst hiu; simp [Addr.add]
      case d2 => intro u hu; simp at hu; subst hu; rfl
      case d3 => unfold maxLen; omega
      case d4 => omega
      case d5 => simp; omega
      intro v5 w5 hown' hgrow _
      have hb5 : Below w2.heap.size w2 w5 := (hb.alloc hs _).grown hgrow (by simp; omega) (fun k hk => (HO.out.lt k hk).1)
      have hB := hide (show Has w5 v5 (List.replicate 4 0 ++ [p]) from has_of (n := 4 + 1) (by rw [List.map_append]; exact hown'))
      have hT5 := hide (has_below hT.out hb5)
      have hbw5 : Below w.heap.size w w5 := hbw.trans (hb5.mono hbs)
      have hVB := hide (show Big.val (List.replicate 4 0 ++ [p]) = p * 65536 ^ (2 * 2) from val_up p 4)
      have hDB := hide (digs_up p 4 hp)
      have hLB : (List.replicate 4 0 ++ [p]).length = 5 := by simp
      generalize List.replicate 4 0 ++ [p] = lb at *
      have HLB := hide hLB
      clear hown' hgrow hb hs HO hLB hlt hk hb5
      have hlb1 : 1 ≤ lb.length := by rw [HLB.out]; omega
      have hlb2 : lb.length ≤ 20 := by rw [HLB.out]; omega
      have hlt2 : lt.length ≤ 20 := by omega
      clear ET NT hA hA2 hi hz0 hz1 hz2
      obtain ⟨at1, ct, e1, -⟩ := hT5.out
      obtain ⟨ab1, cb, e2, -⟩ := hB.out
      rw [e1] at hT5 ⊢
      rw [e2] at hB ⊢
      clear e1 e2
      by_cases hle : lt.length < lb.length
      · go_wp2_with fail
        go_loopw [11] (fun iv wq => ∃ n : Nat, n ≤ lb.length ∧ iv = .int .i64 ((n : Int) - 1) ∧ (∀ j, n ≤ j → Big.at' lt j = Big.at' lb j) ∧ wq = w5)
          (fun iv _ => (intOf iv + 1).toNat)
        case atStart => exact ⟨lb.length, Nat.le_refl _, by first | rfl | (congr 1; omega), fun j hj => (at_out (by omega)).trans (at_out (by omega)).symm, rfl⟩
        case round =>
          obtain ⟨n, hn, rfl, hall, rfl⟩ := hrel
          have HAL := hide hall
          clear hall
          by_cases hpos : 0 < n
          · obtain ⟨k, rfl⟩ : ∃ k, n = k + 1 := ⟨n - 1, by omega⟩
            rw [show ((k + 1 : Nat) : Int) - 1 = (k : Int) by omega]
            obtain ⟨u, hu⟩ : ∃ u, Big.at' lt k = u := ⟨_, rfl⟩
            obtain ⟨v, hv⟩ : ∃ v, Big.at' lb k = v := ⟨_, rfl⟩
            have HU := hide hu
            have HV := hide hv
            clear hu hv
            by_cases huv : u = v
            · have hne : ((u : Int) != (v : Int)) = false := by simp [huv]
              have HUV := hide huv
              clear huv
              go_wp2_with fail
              refine (at_to _ lt _ k u _ rfl HU.out (by omega) hT5.out).mono ?_
              rintro e w' ⟨rfl, rfl⟩
              go_wp2_with fail
              refine (at_to _ lb _ k v _ rfl HV.out (by omega) hB.out).mono ?_
              rintro e w' ⟨rfl, rfl⟩
              go_wp2_with fail
              go_roundw
              case rel =>
                refine ⟨k, by omega, rfl, fun j hj => ?_, by first | rfl | trivial⟩
                by_cases e : j = k
                · subst e; rw [HU.out, HV.out, HUV.out]
                · exact HAL.out j (by omega)
              case measure => first | (simp [intOf]; done) | (simp [intOf]; omega)
            · have hne : ((u : Int) != (v : Int)) = true := by simp; omega
              have HUV := hide huv
              clear huv
              go_wp2_with fail
              refine (at_to _ lt _ k u _ rfl HU.out (by omega) hT5.out).mono ?_
              rintro e w' ⟨rfl, rfl⟩
              go_wp2_with fail
              refine (at_to _ lb _ k v _ rfl HV.out (by omega) hB.out).mono ?_
              rintro e w' ⟨rfl, rfl⟩
              go_wp2_with fail
              go_ret
              refine ⟨ret_bool ?_, hbw5⟩
              have hj : ∀ j, k < j → Big.at' lt j = Big.at' lb j := fun j hj => HAL.out j (by omega)
              have huv := HUV.out
              by_cases hg : v < u
              · rw [above_gt lt lb x p 2 k hDB.out EU.out hVB.out hj (by rw [HU.out, HV.out]; exact hg)]
                simp; omega
              · rw [above_lt lt lb x p 2 k DT.out EU.out hVB.out hj (by rw [HU.out, HV.out]; omega)]
                simp; omega
          · have e0 : n = 0 := by omega
            subst e0
            go_wp2_with fail
            go_ret
            refine ⟨ret_bool ?_, hbw5⟩
            rw [above_eq lt lb x p 2 EU.out hVB.out (fun j => HAL.out j (Nat.zero_le _))]
      · go_wp2_with fail
        go_loopw [11] (fun iv wq => ∃ n : Nat, n ≤ lt.length ∧ iv = .int .i64 ((n : Int) - 1) ∧ (∀ j, n ≤ j → Big.at' lt j = Big.at' lb j) ∧ wq = w5)
          (fun iv _ => (intOf iv + 1).toNat)
        case atStart => exact ⟨lt.length, Nat.le_refl _, by first | rfl | (congr 1; omega), fun j hj => (at_out (by omega)).trans (at_out (by omega)).symm, rfl⟩
        case round =>
          obtain ⟨n, hn, rfl, hall, rfl⟩ := hrel
          have HAL := hide hall
          clear hall
          by_cases hpos : 0 < n
          · obtain ⟨k, rfl⟩ : ∃ k, n = k + 1 := ⟨n - 1, by omega⟩
            rw [show ((k + 1 : Nat) : Int) - 1 = (k : Int) by omega]
            obtain ⟨u, hu⟩ : ∃ u, Big.at' lt k = u := ⟨_, rfl⟩
            obtain ⟨v, hv⟩ : ∃ v, Big.at' lb k = v := ⟨_, rfl⟩
            have HU := hide hu
            have HV := hide hv
            clear hu hv
            by_cases huv : u = v
            · have hne : ((u : Int) != (v : Int)) = false := by simp [huv]
              have HUV := hide huv
              clear huv
              go_wp2_with fail
              refine (at_to _ lt _ k u _ rfl HU.out (by omega) hT5.out).mono ?_
              rintro e w' ⟨rfl, rfl⟩
              go_wp2_with fail
              refine (at_to _ lb _ k v _ rfl HV.out (by omega) hB.out).mono ?_
              rintro e w' ⟨rfl, rfl⟩
              go_wp2_with fail
              go_roundw
              case rel =>
                refine ⟨k, by omega, rfl, fun j hj => ?_, by first | rfl | trivial⟩
                by_cases e : j = k
                · subst e; rw [HU.out, HV.out, HUV.out]
                · exact HAL.out j (by omega)
              case measure => first | (simp [intOf]; done) | (simp [intOf]; omega)
            · have hne : ((u : Int) != (v : Int)) = true := by simp; omega
              have HUV := hide huv
              clear huv
              go_wp2_with fail
              refine (at_to _ lt _ k u _ rfl HU.out (by omega) hT5.out).mono ?_
              rintro e w' ⟨rfl, rfl⟩
              go_wp2_with fail
              refine (at_to _ lb _ k v _ rfl HV.out (by omega) hB.out).mono ?_
              rintro e w' ⟨rfl, rfl⟩
              go_wp2_with fail
              go_ret
              refine ⟨ret_bool ?_, hbw5⟩
              have hj : ∀ j, k < j → Big.at' lt j = Big.at' lb j := fun j hj => HAL.out j (by omega)
              have huv := HUV.out
              by_cases hg : v < u
              · rw [above_gt lt lb x p 2 k hDB.out EU.out hVB.out hj (by rw [HU.out, HV.out]; exact hg)]
                simp; omega
              · rw [above_lt lt lb x p 2 k DT.out EU.out hVB.out hj (by rw [HU.out, HV.out]; omega)]
                simp; omega
          · have e0 : n = 0 := by omega
            subst e0
            go_wp2_with fail
            go_ret
            refine ⟨ret_bool ?_, hbw5⟩
            rw [above_eq lt lb x p 2 EU.out hVB.out (fun j => HAL.out j (Nat.zero_le _))]

set_option maxRecDepth 100000 in
set_option maxHeartbeats 1000000 in
theorem over3_any (x p : Nat) (w : World) (hx : x < 1099511627776) (hp : p < 65536) :
    Calls Tryz.prog 90 #[.int .u64 x, .int .i64 p, .int .i64 3] w fun e w' => e = .returned (.bool (Big.above x p 3)) ∧ Below w.heap.size w w' := by
  obtain ⟨i0, hi, hz0, hz1, hz2⟩ := info_parts Tryz.info72
  go_enter Tryz.func90, Tryz.ntmps90
  go_wp2_with fail
  refine (digits_any x _ hx).mono ?_
  rintro e w1 ⟨va, la, rfl, da, ea, na, hown1, hb1⟩
  have hA := hide (has_of hown1)
  have DA := hide da
  have EA := hide ea
  clear hown1 da ea
  go_wp2_with fail
  refine (times_any _ _ la la _ hA.out hA.out DA.out DA.out (by omega) (by omega)).mono ?_
  rintro e w2 ⟨vt, lt, rfl, dt, et, nt, hown2, hb2⟩
  have hT := hide (has_of hown2)
  have hA2 := hide (has_below hA.out hb2)
  have DT := hide dt
  have ET := hide et
  have NT := hide nt
  have ntb : lt.length ≤ 7 := by omega
  clear hown2 dt et nt
  go_wp2_with fail
  refine (times_any _ _ lt la _ hT.out hA2.out DT.out DA.out (by omega) (by omega)).mono ?_
  rintro e w3 ⟨vu, lu, rfl, du, eu, nu, hown3, hb3⟩
  have hU := hide (has_of hown3)
  have DU := hide du
  have nub : lu.length ≤ 11 := by omega
  have EU := hide (show Big.val lu = x ^ 3 by rw [eu, ET.out, EA.out]; simp [Nat.pow_succ])
  have hbw := ((hb1.trans (hb2.mono hb1.size)).trans (hb3.mono (Nat.le_trans hb1.size hb2.size)))
  clear hown3 du eu nu
  have hbs := hbw.size
  clear hb1 hb2
  go_wp2
  go_loopw [9, 10] (fun v iv wq => ∃ k : Nat, k ≤ 6 ∧ iv = .int .i64 k ∧ wq.ownsRow w3.heap.size 142 1 v k ((List.replicate k 0).map D) ∧ Below w3.heap.size w3 wq)
    (fun _ iv _ => 6 - (intOf iv).toNat)
  case atStart => exact ⟨0, by omega, rfl, World.ownsRow_nil _ _ _ _, Below.refl _ _⟩
  case round =>
    obtain ⟨k, hk, rfl, hown, hb⟩ := hrel
    have HO := hide hown
    have hs := hb.size
    clear hown
    by_cases hlt : k < 6
    · go_wp2_with (at_builtin; refine wpList_append_own _ rfl (.tmp 30) (.tmp 31) 184 rfl w3.heap.size 142 i0 (.int .u64 0) 1 8 Tryz.underlying184 hi hz0 hz1 hz2 rfl (by decide) _ k ((List.replicate k 0).map D) rfl (HO.out.alloc _) ⟨wr.heap.size, 0, none⟩ 1 1 [D 0] rfl rfl ?c1 ?c2 ?c3 ?c4 ?c5 ?_)
      case c1 =>
        intro i u hiu
        match i, hiu with
        | 0, hiu => simp at hiu; subst hiu; simp [Addr.add]
      case c2 => intro u hu; simp at hu; subst hu; rfl
      case c3 => unfold maxLen; omega
      case c4 => omega
      case c5 => simp; omega
      · intro v' w5 hown' hgrow _
        have hb5 : Below w3.heap.size w3 w5 := (hb.alloc hs _).grown hgrow (by simp; omega) (fun k hk => (HO.out.lt k hk).1)
        have HO5 := hide hown'
        clear hown' hgrow
        go_wp2
        go_roundw
        case rel =>
          refine ⟨k + 1, hlt, by go_num, ?_, hb5⟩
          have := HO5.out
          rw [List.replicate_succ', List.map_append, List.map_replicate]
          exact this
        case measure => simp [intOf]; omega
    · have e : k = 6 := by omega
      subst e
      go_wp2_with (at_builtin; refine wpList_append_own _ rfl (.tmp 33) (.tmp 36) 184 rfl w3.heap.size 142 i0 (.int .u64 0) 1 8 Tryz.underlying184 hi hz0 hz1 hz2 rfl (by decide) _ 6 ((List.replicate 6 0).map D) rfl (HO.out.alloc _) ⟨wr.heap.size, 0, none⟩ 1 1 [D p] rfl rfl ?d1 ?d2 ?d3 ?d4 ?d5 ?_)
      case d1 =>
        intro i u hiu
        match i, hiu with
        | 0, hiu => simp at hiu; subst hiu; simp [Addr.add]
      case d2 => intro u hu; simp at hu; subst hu; rfl
      case d3 => unfold maxLen; omega
      case d4 => omega
      case d5 => simp; omega
      intro v5 w5 hown' hgrow _
      have hb5 : Below w3.heap.size w3 w5 := (hb.alloc hs _).grown hgrow (by simp; omega) (fun k hk => (HO.out.lt k hk).1)
      have hB := hide (show Has w5 v5 (List.replicate 6 0 ++ [p]) from has_of (n := 6 + 1) (by rw [List.map_append]; exact hown'))
      have hT5 := hide (has_below hU.out hb5)
      have hbw5 : Below w.heap.size w w5 := hbw.trans (hb5.mono hbs)
      have hVB := hide (show Big.val (List.replicate 6 0 ++ [p]) = p * 65536 ^ (2 * 3) from val_up p 6)
      have hDB := hide (digs_up p 6 hp)
      have hLB : (List.replicate 6 0 ++ [p]).length = 7 := by simp
      generalize List.replicate 6 0 ++ [p] = lb at *
      have HLB := hide hLB
      clear hown' hgrow hb hs HO hLB hlt hk hb5
      have hlb1 : 1 ≤ lb.length := by rw [HLB.out]; omega
      have hlb2 : lb.length ≤ 20 := by rw [HLB.out]; omega
      have hlt2 : lu.length ≤ 20 := by omega
      clear ET NT hA hA2 hi hz0 hz1 hz2
      obtain ⟨at1, ct, e1, -⟩ := hT5.out
      obtain ⟨ab1, cb, e2, -⟩ := hB.out
      rw [e1] at hT5 ⊢
      rw [e2] at hB ⊢
      clear e1 e2
      by_cases hle : lu.length < lb.length
      · go_wp2_with fail
        go_loopw [11] (fun iv wq => ∃ n : Nat, n ≤ lb.length ∧ iv = .int .i64 ((n : Int) - 1) ∧ (∀ j, n ≤ j → Big.at' lu j = Big.at' lb j) ∧ wq = w5)
          (fun iv _ => (intOf iv + 1).toNat)
        case atStart => exact ⟨lb.length, Nat.le_refl _, by first | rfl | (congr 1; omega), fun j hj => (at_out (by omega)).trans (at_out (by omega)).symm, rfl⟩
        case round =>
          obtain ⟨n, hn, rfl, hall, rfl⟩ := hrel
          have HAL := hide hall
          clear hall
          by_cases hpos : 0 < n
          · obtain ⟨k, rfl⟩ : ∃ k, n = k + 1 := ⟨n - 1, by omega⟩
            rw [show ((k + 1 : Nat) : Int) - 1 = (k : Int) by omega]
            obtain ⟨u, hu⟩ : ∃ u, Big.at' lu k = u := ⟨_, rfl⟩
            obtain ⟨v, hv⟩ : ∃ v, Big.at' lb k = v := ⟨_, rfl⟩
            have HU := hide hu
            have HV := hide hv
            clear hu hv
            by_cases huv : u = v
            · have hne : ((u : Int) != (v : Int)) = false := by simp [huv]
              have HUV := hide huv
              clear huv
              go_wp2_with fail
              refine (at_to _ lu _ k u _ rfl HU.out (by omega) hT5.out).mono ?_
              rintro e w' ⟨rfl, rfl⟩
              go_wp2_with fail
              refine (at_to _ lb _ k v _ rfl HV.out (by omega) hB.out).mono ?_
              rintro e w' ⟨rfl, rfl⟩
              go_wp2_with fail
              go_roundw
              case rel =>
                refine ⟨k, by omega, rfl, fun j hj => ?_, by first | rfl | trivial⟩
                by_cases e : j = k
                · subst e; rw [HU.out, HV.out, HUV.out]
                · exact HAL.out j (by omega)
              case measure => first | (simp [intOf]; done) | (simp [intOf]; omega)
            · have hne : ((u : Int) != (v : Int)) = true := by simp; omega
              have HUV := hide huv
              clear huv
              go_wp2_with fail
              refine (at_to _ lu _ k u _ rfl HU.out (by omega) hT5.out).mono ?_
              rintro e w' ⟨rfl, rfl⟩
              go_wp2_with fail
              refine (at_to _ lb _ k v _ rfl HV.out (by omega) hB.out).mono ?_
              rintro e w' ⟨rfl, rfl⟩
              go_wp2_with fail
              go_ret
              refine ⟨ret_bool ?_, hbw5⟩
              have hj : ∀ j, k < j → Big.at' lu j = Big.at' lb j := fun j hj => HAL.out j (by omega)
              have huv := HUV.out
              by_cases hg : v < u
              · rw [above_gt lu lb x p 3 k hDB.out EU.out hVB.out hj (by rw [HU.out, HV.out]; exact hg)]
                simp; omega
              · rw [above_lt lu lb x p 3 k DU.out EU.out hVB.out hj (by rw [HU.out, HV.out]; omega)]
                simp; omega
          · have e0 : n = 0 := by omega
            subst e0
            go_wp2_with fail
            go_ret
            refine ⟨ret_bool ?_, hbw5⟩
            rw [above_eq lu lb x p 3 EU.out hVB.out (fun j => HAL.out j (Nat.zero_le _))]
      · go_wp2_with fail
        go_loopw [11] (fun iv wq => ∃ n : Nat, n ≤ lu.length ∧ iv = .int .i64 ((n : Int) - 1) ∧ (∀ j, n ≤ j → Big.at' lu j = Big.at' lb j) ∧ wq = w5)
          (fun iv _ => (intOf iv + 1).toNat)
        case atStart => exact ⟨lu.length, Nat.le_refl _, by first | rfl | (congr 1; omega), fun j hj => (at_out (by omega)).trans (at_out (by omega)).symm, rfl⟩
        case round =>
          obtain ⟨n, hn, rfl, hall, rfl⟩ := hrel
          have HAL := hide hall
          clear hall
          by_cases hpos : 0 < n
          · obtain ⟨k, rfl⟩ : ∃ k, n = k + 1 := ⟨n - 1, by omega⟩
            rw [show ((k + 1 : Nat) : Int) - 1 = (k : Int) by omega]
            obtain ⟨u, hu⟩ : ∃ u, Big.at' lu k = u := ⟨_, rfl⟩
            obtain ⟨v, hv⟩ : ∃ v, Big.at' lb k = v := ⟨_, rfl⟩
            have HU := hide hu
            have HV := hide hv
            clear hu hv
            by_cases huv : u = v
            · have hne : ((u : Int) != (v : Int)) = false := by simp [huv]
              have HUV := hide huv
              clear huv
              go_wp2_with fail
              refine (at_to _ lu _ k u _ rfl HU.out (by omega) hT5.out).mono ?_
              rintro e w' ⟨rfl, rfl⟩
              go_wp2_with fail
              refine (at_to _ lb _ k v _ rfl HV.out (by omega) hB.out).mono ?_
              rintro e w' ⟨rfl, rfl⟩
              go_wp2_with fail
              go_roundw
              case rel =>
                refine ⟨k, by omega, rfl, fun j hj => ?_, by first | rfl | trivial⟩
                by_cases e : j = k
                · subst e; rw [HU.out, HV.out, HUV.out]
                · exact HAL.out j (by omega)
              case measure => first | (simp [intOf]; done) | (simp [intOf]; omega)
            · have hne : ((u : Int) != (v : Int)) = true := by simp; omega
              have HUV := hide huv
              clear huv
              go_wp2_with fail
              refine (at_to _ lu _ k u _ rfl HU.out (by omega) hT5.out).mono ?_
              rintro e w' ⟨rfl, rfl⟩
              go_wp2_with fail
              refine (at_to _ lb _ k v _ rfl HV.out (by omega) hB.out).mono ?_
              rintro e w' ⟨rfl, rfl⟩
              go_wp2_with fail
              go_ret
              refine ⟨ret_bool ?_, hbw5⟩
              have hj : ∀ j, k < j → Big.at' lu j = Big.at' lb j := fun j hj => HAL.out j (by omega)
              have huv := HUV.out
              by_cases hg : v < u
              · rw [above_gt lu lb x p 3 k hDB.out EU.out hVB.out hj (by rw [HU.out, HV.out]; exact hg)]
                simp; omega
              · rw [above_lt lu lb x p 3 k DU.out EU.out hVB.out hj (by rw [HU.out, HV.out]; omega)]
                simp; omega
          · have e0 : n = 0 := by omega
            subst e0
            go_wp2_with fail
            go_ret
            refine ⟨ret_bool ?_, hbw5⟩
            rw [above_eq lu lb x p 3 EU.out hVB.out (fun j => HAL.out j (Nat.zero_le _))]
end Ref
end Go.Proofs.YtenaelkbgkpllaaGreatDoor
/- The reference's first bits of a root. -/
namespace Go.Proofs.YtenaelkbgkpllaaGreatDoor
open Go.RowKit
namespace Ref

theorem sq_fact (wv S : Nat) (h : (wv + 1) * (wv + 1) = S) (hw : wv ≤ 400) : wrap64 (((wv : Int) + 1) * ((wv : Int) + 1)) = (S : Int) ∧ S ≤ 160801 := by
  have e : ((wv : Int) + 1) * ((wv : Int) + 1) = (((wv + 1) * (wv + 1) : Nat) : Int) := by simp
  have hb : (wv + 1) * (wv + 1) ≤ 401 * 401 := Nat.mul_le_mul (by omega) (by omega)
  rw [e, h, IntWalk.wrap64_in _ (by omega)]
  exact ⟨rfl, by omega⟩
theorem cu_fact (wv S T : Nat) (hS : S ≤ 160801) (h : S * (wv + 1) = T) (hw : wv ≤ 400) : wrap64 ((S : Int) * ((wv : Int) + 1)) = (T : Int) ∧ T ≤ 64481201 := by
  have e : (S : Int) * ((wv : Int) + 1) = ((S * (wv + 1) : Nat) : Int) := by simp
  have hb : S * (wv + 1) ≤ 160801 * 401 := Nat.mul_le_mul (by omega) (by omega)
  rw [e, h, IntWalk.wrap64_in _ (by omega)]
  exact ⟨rfl, by omega⟩
theorem over_lt (wv nn B : Nat) (h1 : wv ≤ 17) (h2 : nn + B < 4294967296) : wv * 4294967296 + (nn + B) < 1099511627776 := by omega
theorem bits_step (p power w b n : Nat) : Big.bitsFrom p power w (b + 1) n = Big.bitsFrom p power w b (if Big.above (w * 4294967296 + (n + 2 ^ b)) p power then n else n + 2 ^ b) := by unfold Big.bitsFrom; rw [Big.fold_succ]
theorem pow_half (k : Nat) : 2 ^ (k + 1) = 2 ^ k + 2 ^ k := by rw [Nat.pow_succ]; omega
theorem whole_step2 (p n wv : Nat) (h : (wv + 1) ^ 2 ≤ p) : Big.wholeFrom p 2 (n + 1) wv = Big.wholeFrom p 2 n (wv + 1) := by
  rw [Big.wholeFrom, if_neg (by omega)]
theorem whole_stop2 (p n wv : Nat) (h : p < (wv + 1) ^ 2) : Big.wholeFrom p 2 (n + 1) wv = wv := by
  rw [Big.wholeFrom, if_pos h]
theorem over2_I (x pi : Int) (xn p : Nat) (w : World) (hx : x = xn) (hpi : pi = p) (h1 : xn < 1099511627776) (hp : p < 65536) (b : Bool) (hb : Big.above xn p 2 = b) :
    Calls Tryz.prog 90 #[.int .u64 x, .int .i64 pi, .int .i64 2] w fun e w' => e = .returned (.bool b) ∧ Below w.heap.size w w' := by
  subst hx; subst hpi; subst hb; exact over2_any xn p w h1 hp
set_option maxRecDepth 100000 in
set_option maxHeartbeats 1000000 in
theorem cut2_any (p : Nat) (w : World) (hp : p ≤ 311) (hw1 : Big.whole p 2 ≤ 17) :
    Calls Tryz.prog 55 #[.int .i64 p, .int .i64 2] w fun e w' => e = .returned (.int .u32 (Big.root p 2 : Nat)) ∧ Below w.heap.size w w' := by
  have HW1 := hide hw1
  clear hw1
  go_enter Tryz.func55, Tryz.ntmps55
  go_wp2
  go_loopw [5] (fun v wq => ∃ n wv : Nat, n + wv = 400 ∧ wv ≤ p ∧ v = .int .i64 wv ∧ Big.wholeFrom p 2 n wv = Big.whole p 2 ∧ wq = w)
    (fun v _ => 400 - (intOf v).toNat)
  case atStart => exact ⟨400, 0, rfl, Nat.zero_le _, rfl, rfl, rfl⟩
  case round =>
    obtain ⟨n, wv, hnw, hwp, rfl, hwh, rfl⟩ := hrel
    obtain ⟨m, rfl⟩ : ∃ m, n = m + 1 := ⟨n - 1, by omega⟩
    have HWH := hide hwh
    have HNW := hide hnw
    clear hwh hnw
    obtain ⟨S, hS⟩ : ∃ S, (wv + 1) * (wv + 1) = S := ⟨_, rfl⟩
    obtain ⟨f2, bS⟩ := sq_fact wv S hS (by omega)
    have HS := hide (show (wv + 1) ^ 2 = S by rw [← hS, Nat.pow_two])
    clear hS
    by_cases hgo : p < S
    · have hwe := hide (show Big.whole p 2 = wv by rw [← HWH.out]; exact whole_stop2 p m wv (by rw [HS.out]; exact hgo))
      have hw17 : wv ≤ 17 := by rw [← hwe.out]; exact HW1.out
      clear HWH HNW HW1
      go_wp2_with fail
      clear f2 hgo
      go_loopw [8, 9] (fun nv bv wq => ∃ b nn : Nat, b ≤ 32 ∧ bv = .int .i64 ((b : Int) - 1) ∧ nv = .int .u32 nn ∧ nn + 2 ^ b ≤ 4294967296 ∧ Big.bitsFrom p 2 wv b nn = Big.root p 2 ∧ Below wr.heap.size wr wq)
        (fun _ bv _ => (intOf bv + 1).toNat)
      case atStart => exact ⟨32, 0, Nat.le_refl _, rfl, rfl, by decide, by rw [Big.root, hwe.out], Below.refl _ _⟩
      case round =>
        obtain ⟨b, nn, hb, rfl, rfl, hnn, hbits, hbel⟩ := hrel
        have HBI := hide hbits
        clear hbits
        by_cases hpos : 0 < b
        · obtain ⟨k, rfl⟩ : ∃ k, b = k + 1 := ⟨b - 1, by omega⟩
          rw [show ((k + 1 : Nat) : Int) - 1 = (k : Int) by omega]
          rw [pow_half] at hnn
          have HBS := hide ((bits_step p 2 wv k nn).symm.trans HBI.out)
          have hpk := Nat.two_pow_pos k
          have h2k : ((2 : Int) ^ k) = ((2 ^ k : Nat) : Int) := by simp
          have HMM := hide (show ((nn : Int) + 2 ^ k) % 4294967296 = ((nn + 2 ^ k : Nat) : Int) by rw [h2k]; omega)
          have HXX := hide (show (wv : Int) * 4294967296 + ((nn : Int) + 2 ^ k) % 4294967296 = ((wv * 4294967296 + (nn + 2 ^ k) : Nat) : Int) by rw [HMM.out]; omega)
          have hlt40 := over_lt wv nn (2 ^ k) hw17 (by omega)
          have HLT := hide hlt40
          have HNN := hide hnn
          have HN1 := hide (show nn + 2 ^ k ≤ 4294967296 by omega)
          have hk31 : k ≤ 32 := by omega
          clear h2k hlt40 hnn hpk
          cases hab : Big.above (wv * 4294967296 + (nn + 2 ^ k)) p 2 with
          | true =>
            have HAB := hide hab
            clear hab
            go_wp2_with fail
            refine (over2_I _ _ (wv * 4294967296 + (nn + 2 ^ k)) p _ HXX.out rfl HLT.out (by omega) true HAB.out).mono ?_
            rintro e w3 ⟨rfl, hb3⟩
            go_wp2_with fail
            go_roundw
            case rel => first | exact ⟨k, nn, hk31, rfl, rfl, HN1.out, by have := HBS.out; rwa [HAB.out, if_pos rfl] at this, hbel.trans (hb3.mono hbel.size)⟩ | ((repeat apply Exists.intro); exact ⟨⟨k, nn, hk31, rfl, rfl, HN1.out, by have := HBS.out; rwa [HAB.out, if_pos rfl] at this, hbel.trans (hb3.mono hbel.size)⟩, rfl⟩)
            case measure => first | (simp [intOf]; done) | (simp [intOf]; omega)
          | false =>
            have HAB := hide hab
            clear hab
            go_wp2_with fail
            refine (over2_I _ _ (wv * 4294967296 + (nn + 2 ^ k)) p _ HXX.out rfl HLT.out (by omega) false HAB.out).mono ?_
            rintro e w3 ⟨rfl, hb3⟩
            go_wp2_with fail
            go_roundw
            case rel => first | exact ⟨k, nn + 2 ^ k, hk31, rfl, congrArg (Value.int IntKind.u32) HMM.out, by have := HNN.out; omega, by have := HBS.out; rwa [HAB.out, if_neg (by decide)] at this, hbel.trans (hb3.mono hbel.size)⟩ | ((repeat apply Exists.intro); exact ⟨⟨k, nn + 2 ^ k, hk31, rfl, congrArg (Value.int IntKind.u32) HMM.out, by have := HNN.out; omega, by have := HBS.out; rwa [HAB.out, if_neg (by decide)] at this, hbel.trans (hb3.mono hbel.size)⟩, rfl⟩)
            case measure => first | (simp [intOf]; done) | (simp [intOf]; omega)
        · have e0 : b = 0 := by omega
          subst e0
          go_wp2_with fail
          go_ret
          refine ⟨?_, hbel⟩
          have := HBI.out
          unfold Big.bitsFrom at this
          rw [Big.fold_zero] at this
          rw [← this]
          rfl
    · have hle : (wv + 1) ^ 2 ≤ p := by rw [HS.out]; omega
      have hle2 : wv + 1 ≤ p := Nat.le_trans (Nat.le_self_pow (by decide) _) hle
      have hst := hide ((whole_step2 p m wv hle).symm.trans HWH.out)
      go_wp2_with fail
      go_roundw
      case rel => exact ⟨m, wv + 1, by have := HNW.out; omega, hle2, by go_num, hst.out, by first | rfl | trivial⟩
      case measure => simp [intOf]; omega
theorem whole_step3 (p n wv : Nat) (h : (wv + 1) ^ 3 ≤ p) : Big.wholeFrom p 3 (n + 1) wv = Big.wholeFrom p 3 n (wv + 1) := by
  rw [Big.wholeFrom, if_neg (by omega)]
theorem whole_stop3 (p n wv : Nat) (h : p < (wv + 1) ^ 3) : Big.wholeFrom p 3 (n + 1) wv = wv := by
  rw [Big.wholeFrom, if_pos h]
theorem over3_I (x pi : Int) (xn p : Nat) (w : World) (hx : x = xn) (hpi : pi = p) (h1 : xn < 1099511627776) (hp : p < 65536) (b : Bool) (hb : Big.above xn p 3 = b) :
    Calls Tryz.prog 90 #[.int .u64 x, .int .i64 pi, .int .i64 3] w fun e w' => e = .returned (.bool b) ∧ Below w.heap.size w w' := by
  subst hx; subst hpi; subst hb; exact over3_any xn p w h1 hp
set_option maxRecDepth 100000 in
set_option maxHeartbeats 1000000 in
theorem cut3_any (p : Nat) (w : World) (hp : p ≤ 311) (hw1 : Big.whole p 3 ≤ 17) :
    Calls Tryz.prog 55 #[.int .i64 p, .int .i64 3] w fun e w' => e = .returned (.int .u32 (Big.root p 3 : Nat)) ∧ Below w.heap.size w w' := by
  have HW1 := hide hw1
  clear hw1
  go_enter Tryz.func55, Tryz.ntmps55
  go_wp2
  go_loopw [5] (fun v wq => ∃ n wv : Nat, n + wv = 400 ∧ wv ≤ p ∧ v = .int .i64 wv ∧ Big.wholeFrom p 3 n wv = Big.whole p 3 ∧ wq = w)
    (fun v _ => 400 - (intOf v).toNat)
  case atStart => exact ⟨400, 0, rfl, Nat.zero_le _, rfl, rfl, rfl⟩
  case round =>
    obtain ⟨n, wv, hnw, hwp, rfl, hwh, rfl⟩ := hrel
    obtain ⟨m, rfl⟩ : ∃ m, n = m + 1 := ⟨n - 1, by omega⟩
    have HWH := hide hwh
    have HNW := hide hnw
    clear hwh hnw
    obtain ⟨Q, hQ⟩ : ∃ Q, (wv + 1) * (wv + 1) = Q := ⟨_, rfl⟩
    obtain ⟨f2, bQ⟩ := sq_fact wv Q hQ (by omega)
    obtain ⟨S, hS⟩ : ∃ S, Q * (wv + 1) = S := ⟨_, rfl⟩
    obtain ⟨f3, bS⟩ := cu_fact wv Q S bQ hS (by omega)
    have HS := hide (show (wv + 1) ^ 3 = S by rw [← hS, ← hQ]; simp [Nat.pow_succ])
    clear hS hQ
    by_cases hgo : p < S
    · have hwe := hide (show Big.whole p 3 = wv by rw [← HWH.out]; exact whole_stop3 p m wv (by rw [HS.out]; exact hgo))
      have hw17 : wv ≤ 17 := by rw [← hwe.out]; exact HW1.out
      clear HWH HNW HW1
      go_wp2_with fail
      clear f2 f3 hgo
      go_loopw [8, 9] (fun nv bv wq => ∃ b nn : Nat, b ≤ 32 ∧ bv = .int .i64 ((b : Int) - 1) ∧ nv = .int .u32 nn ∧ nn + 2 ^ b ≤ 4294967296 ∧ Big.bitsFrom p 3 wv b nn = Big.root p 3 ∧ Below wr.heap.size wr wq)
        (fun _ bv _ => (intOf bv + 1).toNat)
      case atStart => exact ⟨32, 0, Nat.le_refl _, rfl, rfl, by decide, by rw [Big.root, hwe.out], Below.refl _ _⟩
      case round =>
        obtain ⟨b, nn, hb, rfl, rfl, hnn, hbits, hbel⟩ := hrel
        have HBI := hide hbits
        clear hbits
        by_cases hpos : 0 < b
        · obtain ⟨k, rfl⟩ : ∃ k, b = k + 1 := ⟨b - 1, by omega⟩
          rw [show ((k + 1 : Nat) : Int) - 1 = (k : Int) by omega]
          rw [pow_half] at hnn
          have HBS := hide ((bits_step p 3 wv k nn).symm.trans HBI.out)
          have hpk := Nat.two_pow_pos k
          have h2k : ((2 : Int) ^ k) = ((2 ^ k : Nat) : Int) := by simp
          have HMM := hide (show ((nn : Int) + 2 ^ k) % 4294967296 = ((nn + 2 ^ k : Nat) : Int) by rw [h2k]; omega)
          have HXX := hide (show (wv : Int) * 4294967296 + ((nn : Int) + 2 ^ k) % 4294967296 = ((wv * 4294967296 + (nn + 2 ^ k) : Nat) : Int) by rw [HMM.out]; omega)
          have hlt40 := over_lt wv nn (2 ^ k) hw17 (by omega)
          have HLT := hide hlt40
          have HNN := hide hnn
          have HN1 := hide (show nn + 2 ^ k ≤ 4294967296 by omega)
          have hk31 : k ≤ 32 := by omega
          clear h2k hlt40 hnn hpk
          cases hab : Big.above (wv * 4294967296 + (nn + 2 ^ k)) p 3 with
          | true =>
            have HAB := hide hab
            clear hab
            go_wp2_with fail
            refine (over3_I _ _ (wv * 4294967296 + (nn + 2 ^ k)) p _ HXX.out rfl HLT.out (by omega) true HAB.out).mono ?_
            rintro e w3 ⟨rfl, hb3⟩
            go_wp2_with fail
            go_roundw
            case rel => first | exact ⟨k, nn, hk31, rfl, rfl, HN1.out, by have := HBS.out; rwa [HAB.out, if_pos rfl] at this, hbel.trans (hb3.mono hbel.size)⟩ | ((repeat apply Exists.intro); exact ⟨⟨k, nn, hk31, rfl, rfl, HN1.out, by have := HBS.out; rwa [HAB.out, if_pos rfl] at this, hbel.trans (hb3.mono hbel.size)⟩, rfl⟩)
            case measure => first | (simp [intOf]; done) | (simp [intOf]; omega)
          | false =>
            have HAB := hide hab
            clear hab
            go_wp2_with fail
            refine (over3_I _ _ (wv * 4294967296 + (nn + 2 ^ k)) p _ HXX.out rfl HLT.out (by omega) false HAB.out).mono ?_
            rintro e w3 ⟨rfl, hb3⟩
            go_wp2_with fail
            go_roundw
            case rel => first | exact ⟨k, nn + 2 ^ k, hk31, rfl, congrArg (Value.int IntKind.u32) HMM.out, by have := HNN.out; omega, by have := HBS.out; rwa [HAB.out, if_neg (by decide)] at this, hbel.trans (hb3.mono hbel.size)⟩ | ((repeat apply Exists.intro); exact ⟨⟨k, nn + 2 ^ k, hk31, rfl, congrArg (Value.int IntKind.u32) HMM.out, by have := HNN.out; omega, by have := HBS.out; rwa [HAB.out, if_neg (by decide)] at this, hbel.trans (hb3.mono hbel.size)⟩, rfl⟩)
            case measure => first | (simp [intOf]; done) | (simp [intOf]; omega)
        · have e0 : b = 0 := by omega
          subst e0
          go_wp2_with fail
          go_ret
          refine ⟨?_, hbel⟩
          have := HBI.out
          unfold Big.bitsFrom at this
          rw [Big.fold_zero] at this
          rw [← this]
          rfl
    · have hle : (wv + 1) ^ 3 ≤ p := by rw [HS.out]; omega
      have hle2 : wv + 1 ≤ p := Nat.le_trans (Nat.le_self_pow (by decide) _) hle
      have hst := hide ((whole_step3 p m wv hle).symm.trans HWH.out)
      go_wp2_with fail
      go_roundw
      case rel => exact ⟨m, wv + 1, by have := HNW.out; omega, hle2, by go_num, hst.out, by first | rfl | trivial⟩
      case measure => simp [intOf]; omega
end Ref
end Go.Proofs.YtenaelkbgkpllaaGreatDoor
/- The constants of digests are the first bits of roots of primes: by the kernel's own reckoning. -/
namespace Go.Proofs.YtenaelkbgkpllaaGreatDoor
namespace Big
def P64 : List Nat := [2, 3, 5, 7, 11, 13, 17, 19, 23, 29, 31, 37, 41, 43, 47, 53, 59, 61, 67, 71, 73, 79, 83, 89, 97, 101, 103, 107, 109, 113, 127, 131, 137, 139, 149, 151, 157, 163, 167, 173, 179, 181, 191, 193, 197, 199, 211, 223, 227, 229, 233, 239, 241, 251, 257, 263, 269, 271, 277, 281, 283, 293, 307, 311]
def Ks : List Nat := [1116352408, 1899447441, 3049323471, 3921009573, 961987163, 1508970993, 2453635748, 2870763221, 3624381080, 310598401, 607225278, 1426881987, 1925078388, 2162078206, 2614888103, 3248222580, 3835390401, 4022224774, 264347078, 604807628, 770255983, 1249150122, 1555081692, 1996064986, 2554220882, 2821834349, 2952996808, 3210313671, 3336571891, 3584528711, 113926993, 338241895, 666307205, 773529912, 1294757372, 1396182291, 1695183700, 1986661051, 2177026350, 2456956037, 2730485921, 2820302411, 3259730800, 3345764771, 3516065817, 3600352804, 4094571909, 275423344, 430227734, 506948616, 659060556, 883997877, 958139571, 1322822218, 1537002063, 1747873779, 1955562222, 2024104815, 2227730452, 2361852424, 2428436474, 2756734187, 3204031479, 3329325298]
def Hs : List Nat := [1779033703, 3144134277, 1013904242, 2773480762, 1359893119, 2600822924, 528734635, 1541459225]
def below (x : Nat) : List Nat := P64.filter fun p => Nat.blt p x
theorem roots3 : P64.map (fun p => root p 3) = Ks := by kernel_rfl
theorem roots2 : (P64.take 8).map (fun p => root p 2) = Hs := by kernel_rfl
theorem below_all : ((List.range 310).all fun n => (prime (below (n + 2)) (n + 2) == P64.contains (n + 2)) && (below (n + 3) == if P64.contains (n + 2) then below (n + 2) ++ [n + 2] else below (n + 2))) = true := by kernel_rfl
theorem below_len : ((List.range 310).all fun n => decide ((below (n + 2)).length < 64)) = true := by kernel_rfl
theorem below_last : below 312 = P64 := by kernel_rfl
theorem below_two : below 2 = [] := by kernel_rfl
theorem whole_ok : (P64.all fun p => (decide (p < (whole p 3 + 1) ^ 3) && decide (p < (whole p 2 + 1) ^ 2))) = true := by kernel_rfl
end Big
end Go.Proofs.YtenaelkbgkpllaaGreatDoor
