/- The document's small functions: coordinates, the order, numbers as bytes, boxes, turning. -/
import Derived.Test.YtenaelkbgkpllaaGreatDoorVerified8
import Derived.Test.YtenaelkbgkpllaaGreatDoorVerified5
import Derived.Test.YtenaelkbgkpllaaGreatDoorVerified3
import Derived.Lib.ConvBytes
import Derived.Lib.AtoiErrMem
import Derived.Deep.MidRow
namespace Go.Proofs.YtenaelkbgkpllaaGreatDoor
open Go.RowKit

theorem Tryz.infoRBox : (Tryz.prog.info? 148).map (·.size) = some 4 := by kernel_rfl
set_option maxHeartbeats 400000 in
theorem coord_ref (n : Int) (w : World) :
    Calls Tryz.prog 91 #[I n] w fun e w' => e = .returned (.bool (Ward.coordOk n)) ∧ w' = w := by
  by_cases h1 : -1000000 ≤ n
  · by_cases h2 : n ≤ 1000000
    · rw [Ward.coord_yes ⟨h1, h2⟩]
      go_enter Tryz.func91, Tryz.ntmps91
      go_wp2
      go_ret
      exact ⟨rfl, rfl⟩
    · rw [Ward.coord_no (fun h => h2 h.2)]
      go_enter Tryz.func91, Tryz.ntmps91
      go_wp2
      go_ret
      exact ⟨rfl, rfl⟩
  · rw [Ward.coord_no (fun h => h1 h.1)]
    go_enter Tryz.func91, Tryz.ntmps91
    go_wp2
    go_ret
    exact ⟨rfl, rfl⟩
set_option maxHeartbeats 1000000 in
theorem before_ref (p q : Ward.Pt) (w : World) :
    Calls Tryz.prog 93 #[.agg #[I p.id, I p.x, I p.y], .agg #[I q.id, I q.x, I q.y]] w fun e w' => e = .returned (.bool (decide (Ward.lt p q))) ∧ Below w.heap.size w w' := by
  obtain ⟨pi, px, py⟩ := p
  obtain ⟨qi, qx, qy⟩ := q
  have HB := hide (fun a b => (((Below.refl w.heap.size w).alloc (Nat.le_refl _) a).alloc (by simp) b))
  by_cases h1 : px = qx
  · by_cases h2 : py = qy
    · by_cases h3 : pi < qi
      · rw [decide_eq_true (show Ward.lt ⟨pi, px, py⟩ ⟨qi, qx, qy⟩ by unfold Ward.lt; simp only; omega)]
        go_enter Tryz.func93, Tryz.ntmps93
        go_wp2
        go_ret
        exact ⟨rfl, HB.out _ _⟩
      · rw [decide_eq_false (show ¬ Ward.lt ⟨pi, px, py⟩ ⟨qi, qx, qy⟩ by unfold Ward.lt; simp only; omega)]
        go_enter Tryz.func93, Tryz.ntmps93
        go_wp2
        go_ret
        exact ⟨rfl, HB.out _ _⟩
    · by_cases h3 : py < qy
      · rw [decide_eq_true (show Ward.lt ⟨pi, px, py⟩ ⟨qi, qx, qy⟩ by unfold Ward.lt; simp only; omega)]
        go_enter Tryz.func93, Tryz.ntmps93
        go_wp2
        go_ret
        exact ⟨rfl, HB.out _ _⟩
      · rw [decide_eq_false (show ¬ Ward.lt ⟨pi, px, py⟩ ⟨qi, qx, qy⟩ by unfold Ward.lt; simp only; omega)]
        go_enter Tryz.func93, Tryz.ntmps93
        go_wp2
        go_ret
        exact ⟨rfl, HB.out _ _⟩
  · by_cases h3 : px < qx
    · rw [decide_eq_true (show Ward.lt ⟨pi, px, py⟩ ⟨qi, qx, qy⟩ by unfold Ward.lt; simp only; omega)]
      go_enter Tryz.func93, Tryz.ntmps93
      go_wp2
      go_ret
      exact ⟨rfl, HB.out _ _⟩
    · rw [decide_eq_false (show ¬ Ward.lt ⟨pi, px, py⟩ ⟨qi, qx, qy⟩ by unfold Ward.lt; simp only; omega)]
      go_enter Tryz.func93, Tryz.ntmps93
      go_wp2
      go_ret
      exact ⟨rfl, HB.out _ _⟩
set_option maxHeartbeats 400000 in
theorem four_ref (n : Nat) (w : World) (hn : n < 4294967296) :
    Calls Tryz.prog 130 #[.int .u32 n] w fun e w' => e = .returned (Sv (Ward.four n)) ∧ Below w.heap.size w w' := by
  have HV := hide (four_values n hn)
  have hc := conv_bytes w.heap.size 4 4 (Sha.four n) rfl (w.alloc (.cells ((Sha.four n).map Y).toArray 5)) (fun j u hj => by
    rw [Nat.zero_add, cell_of_row _ _ _ _ _ _ (heap_alloc_new w _), List.getElem?_toArray]
    exact hj)
  rw [← HV.out] at hc
  have HB := hide (fun a => ((Below.refl w.heap.size w).alloc (Nat.le_refl _) a))
  have HF := hide (show Sha.four n = Ward.four n from rfl)
  generalize Sha.four n = F at *
  go_enter Tryz.func130, Tryz.ntmps130
  go_wp2
  go_ret
  exact ⟨by rw [HF.out]; rfl, HB.out _⟩
set_option maxHeartbeats 400000 in
theorem signed_ref (n : Int) (w : World) :
    Calls Tryz.prog 137 #[I n] w fun e w' => e = .returned (Sv (Ward.fourI n)) ∧ Below w.heap.size w w' := by
  obtain ⟨m, h0, hm, he⟩ : ∃ m : Nat, n % 4294967296 = (m : Int) ∧ m < 4294967296 ∧ Ward.fourI n = Ward.four m := ⟨(n % 4294967296).toNat, by omega, by omega, rfl⟩
  have HE := hide he
  clear he
  go_enter Tryz.func137, Tryz.ntmps137
  go_wp2_with fail
  refine (four_ref m _ hm).mono ?_
  rintro e w1 ⟨rfl, hb⟩
  go_wp2_with fail
  go_ret
  exact ⟨by rw [HE.out]; rfl, hb⟩
set_option maxHeartbeats 1000000 in
theorem both_ref (p q : Ward.Box) (w : World) :
    Calls Tryz.prog 135 #[Bx p, Bx q] w fun e w' => e = .returned (Bx (Ward.join p q)) ∧ Below w.heap.size w w' := by
  obtain ⟨pa, pb, pc, pd⟩ := p
  obtain ⟨qa, qb, qc, qd⟩ := q
  go_enter Tryz.func135, Tryz.ntmps135
  go_wp2
  refine bodyPost_ret (v := .agg #[I (min pa qa), I (min pb qb), I (max pc qc), I (max pd qd)]) ?_ rfl ⟨rfl, (((Below.refl w.heap.size w).alloc (Nat.le_refl _) _).alloc (by simp) _).alloc (by simp; omega) _⟩
  exact results_cell_row rfl _ _ (w.heap.size + 1 + 1) 148 #[I (min pa qa), I (min pb qb), I (max pc qc), I (max pd qd)] (0, 0) _ rfl (heap_alloc3_new w _ _ _) Tryz.underlying148 rfl Tryz.infoRBox
set_option maxHeartbeats 400000 in
theorem rturn2 (x : Nat) (w : World) (hx : x < 4294967296) :
    Calls Tryz.prog 159 #[.int .u32 x, .int .i64 2] w fun e w' => e = .returned (.int .u32 (Sha.ror 2 x : Nat)) ∧ ∃ n, w' = w.drewN n := by
  go_enter Tryz.func159, Tryz.ntmps159
  go_wp2
  go_quiet (fail)
  go_wp2
  go_ret
  refine ⟨ret_u32 ?_, nq, rfl⟩
  rw [Sha.ror, Nat.or_comm]
  exact or32 (x / 4) (x * 1073741824 % 4294967296) (by omega) (by omega) (Sha.div_lt hx) (Nat.mod_lt _ (by decide))
set_option maxHeartbeats 400000 in
theorem rturn6 (x : Nat) (w : World) (hx : x < 4294967296) :
    Calls Tryz.prog 159 #[.int .u32 x, .int .i64 6] w fun e w' => e = .returned (.int .u32 (Sha.ror 6 x : Nat)) ∧ ∃ n, w' = w.drewN n := by
  go_enter Tryz.func159, Tryz.ntmps159
  go_wp2
  go_quiet (fail)
  go_wp2
  go_ret
  refine ⟨ret_u32 ?_, nq, rfl⟩
  rw [Sha.ror, Nat.or_comm]
  exact or32 (x / 64) (x * 67108864 % 4294967296) (by omega) (by omega) (Sha.div_lt hx) (Nat.mod_lt _ (by decide))
set_option maxHeartbeats 400000 in
theorem rturn7 (x : Nat) (w : World) (hx : x < 4294967296) :
    Calls Tryz.prog 159 #[.int .u32 x, .int .i64 7] w fun e w' => e = .returned (.int .u32 (Sha.ror 7 x : Nat)) ∧ ∃ n, w' = w.drewN n := by
  go_enter Tryz.func159, Tryz.ntmps159
  go_wp2
  go_quiet (fail)
  go_wp2
  go_ret
  refine ⟨ret_u32 ?_, nq, rfl⟩
  rw [Sha.ror, Nat.or_comm]
  exact or32 (x / 128) (x * 33554432 % 4294967296) (by omega) (by omega) (Sha.div_lt hx) (Nat.mod_lt _ (by decide))
set_option maxHeartbeats 400000 in
theorem rturn11 (x : Nat) (w : World) (hx : x < 4294967296) :
    Calls Tryz.prog 159 #[.int .u32 x, .int .i64 11] w fun e w' => e = .returned (.int .u32 (Sha.ror 11 x : Nat)) ∧ ∃ n, w' = w.drewN n := by
  go_enter Tryz.func159, Tryz.ntmps159
  go_wp2
  go_quiet (fail)
  go_wp2
  go_ret
  refine ⟨ret_u32 ?_, nq, rfl⟩
  rw [Sha.ror, Nat.or_comm]
  exact or32 (x / 2048) (x * 2097152 % 4294967296) (by omega) (by omega) (Sha.div_lt hx) (Nat.mod_lt _ (by decide))
set_option maxHeartbeats 400000 in
theorem rturn13 (x : Nat) (w : World) (hx : x < 4294967296) :
    Calls Tryz.prog 159 #[.int .u32 x, .int .i64 13] w fun e w' => e = .returned (.int .u32 (Sha.ror 13 x : Nat)) ∧ ∃ n, w' = w.drewN n := by
  go_enter Tryz.func159, Tryz.ntmps159
  go_wp2
  go_quiet (fail)
  go_wp2
  go_ret
  refine ⟨ret_u32 ?_, nq, rfl⟩
  rw [Sha.ror, Nat.or_comm]
  exact or32 (x / 8192) (x * 524288 % 4294967296) (by omega) (by omega) (Sha.div_lt hx) (Nat.mod_lt _ (by decide))
set_option maxHeartbeats 400000 in
theorem rturn17 (x : Nat) (w : World) (hx : x < 4294967296) :
    Calls Tryz.prog 159 #[.int .u32 x, .int .i64 17] w fun e w' => e = .returned (.int .u32 (Sha.ror 17 x : Nat)) ∧ ∃ n, w' = w.drewN n := by
  go_enter Tryz.func159, Tryz.ntmps159
  go_wp2
  go_quiet (fail)
  go_wp2
  go_ret
  refine ⟨ret_u32 ?_, nq, rfl⟩
  rw [Sha.ror, Nat.or_comm]
  exact or32 (x / 131072) (x * 32768 % 4294967296) (by omega) (by omega) (Sha.div_lt hx) (Nat.mod_lt _ (by decide))
set_option maxHeartbeats 400000 in
theorem rturn18 (x : Nat) (w : World) (hx : x < 4294967296) :
    Calls Tryz.prog 159 #[.int .u32 x, .int .i64 18] w fun e w' => e = .returned (.int .u32 (Sha.ror 18 x : Nat)) ∧ ∃ n, w' = w.drewN n := by
  go_enter Tryz.func159, Tryz.ntmps159
  go_wp2
  go_quiet (fail)
  go_wp2
  go_ret
  refine ⟨ret_u32 ?_, nq, rfl⟩
  rw [Sha.ror, Nat.or_comm]
  exact or32 (x / 262144) (x * 16384 % 4294967296) (by omega) (by omega) (Sha.div_lt hx) (Nat.mod_lt _ (by decide))
set_option maxHeartbeats 400000 in
theorem rturn19 (x : Nat) (w : World) (hx : x < 4294967296) :
    Calls Tryz.prog 159 #[.int .u32 x, .int .i64 19] w fun e w' => e = .returned (.int .u32 (Sha.ror 19 x : Nat)) ∧ ∃ n, w' = w.drewN n := by
  go_enter Tryz.func159, Tryz.ntmps159
  go_wp2
  go_quiet (fail)
  go_wp2
  go_ret
  refine ⟨ret_u32 ?_, nq, rfl⟩
  rw [Sha.ror, Nat.or_comm]
  exact or32 (x / 524288) (x * 8192 % 4294967296) (by omega) (by omega) (Sha.div_lt hx) (Nat.mod_lt _ (by decide))
set_option maxHeartbeats 400000 in
theorem rturn22 (x : Nat) (w : World) (hx : x < 4294967296) :
    Calls Tryz.prog 159 #[.int .u32 x, .int .i64 22] w fun e w' => e = .returned (.int .u32 (Sha.ror 22 x : Nat)) ∧ ∃ n, w' = w.drewN n := by
  go_enter Tryz.func159, Tryz.ntmps159
  go_wp2
  go_quiet (fail)
  go_wp2
  go_ret
  refine ⟨ret_u32 ?_, nq, rfl⟩
  rw [Sha.ror, Nat.or_comm]
  exact or32 (x / 4194304) (x * 1024 % 4294967296) (by omega) (by omega) (Sha.div_lt hx) (Nat.mod_lt _ (by decide))
set_option maxHeartbeats 400000 in
theorem rturn25 (x : Nat) (w : World) (hx : x < 4294967296) :
    Calls Tryz.prog 159 #[.int .u32 x, .int .i64 25] w fun e w' => e = .returned (.int .u32 (Sha.ror 25 x : Nat)) ∧ ∃ n, w' = w.drewN n := by
  go_enter Tryz.func159, Tryz.ntmps159
  go_wp2
  go_quiet (fail)
  go_wp2
  go_ret
  refine ⟨ret_u32 ?_, nq, rfl⟩
  rw [Sha.ror, Nat.or_comm]
  exact or32 (x / 33554432) (x * 128 % 4294967296) (by omega) (by omega) (Sha.div_lt hx) (Nat.mod_lt _ (by decide))
set_option maxHeartbeats 800000 in
theorem number_ref (s : ByteArray) (k : Nat) (w : World) (hk : k + 4 ≤ s.size) (hs : s.size ≤ maxLen) :
    Calls Tryz.prog 158 #[.string s, .int .i64 k] w fun e w' => e = .returned (.int .u32 (Sha.word s.data.toList k : Nat)) ∧ ∃ n, w' = w.drewN n := by
  unfold maxLen at hs
  have i0 := idx_str s k k rfl (by omega)
  have i1 := idx_str s (k + 1) (k + 1) rfl (by omega)
  have i2 := idx_str s (k + 2) (k + 2) rfl (by omega)
  have i3 := idx_str s (k + 3) (k + 3) rfl (by omega)
  have b0 := Sha.byteAt_lt s.data.toList k
  have b1 := Sha.byteAt_lt s.data.toList (k + 1)
  have b2 := Sha.byteAt_lt s.data.toList (k + 2)
  have b3 := Sha.byteAt_lt s.data.toList (k + 3)
  have HW := hide (Ward.word_add s.data.toList k)
  generalize Sha.word s.data.toList k = W at *
  generalize Sha.byteAt s.data.toList k = B0 at *
  generalize Sha.byteAt s.data.toList (k + 1) = B1 at *
  generalize Sha.byteAt s.data.toList (k + 2) = B2 at *
  generalize Sha.byteAt s.data.toList (k + 3) = B3 at *
  go_enter Tryz.func158, Tryz.ntmps158
  go_wp2
  go_quiet (fail)
  go_wp2
  go_ret
  refine ⟨ret_u32 ?_, nq, rfl⟩
  rw [HW.out]
  omega
end Go.Proofs.YtenaelkbgkpllaaGreatDoor
/- One block stirred in, as the document does it. -/
namespace Go.Proofs.YtenaelkbgkpllaaGreatDoor
open Go.RowKit

/-- the constants of digests as cells -/
def constV : List Value := (toL Sha.start ++ Sha.Ks).map U
theorem constV_len : constV.length = 72 := by rw [constV, List.length_map]; rfl
theorem constV_at (t : Nat) (h : t < 64) : constV.toArray[8 + t]? = some (U (Sha.Ks.getD t 0)) := by
  have e : (toL Sha.start ++ Sha.Ks)[8 + t]? = some (Sha.Ks.getD t 0) := by
    rw [List.getElem?_append_right (by rw [toL_length]; omega), toL_length, show 8 + t - 8 = t by omega, List.getD_eq_getElem?_getD, List.getElem?_eq_getElem (show t < Sha.Ks.length by rw [Ks_length]; exact h), Option.getD_some]
  rw [List.getElem?_toArray, constV, List.getElem?_map, e, Option.map_some]
theorem add_offR (g o k : Nat) : (⟨g, o, none⟩ : Addr).add k = ⟨g, o + k, none⟩ := by unfold Addr.add; split <;> simp_all
theorem idx64o (g o : Nat) (i : Int) (k : Nat) (h : i = k) (hk : k < 64) (W : World) :
    (Instr.indexAt 65 (.pointer (some ⟨g, o, none⟩)) (.int .i64 i)).run Tryz.prog W = .ok (.pointer (some ⟨g, o + k, none⟩)) W := by
  subst h
  rw [run_indexAt_array W 65 _ _ _ Tryz.array37, Tryz.arrayLen37, Tryz.elem37, if_pos (by omega), Tryz.size27]
  simp only [Result.andThen_ok, add_offR, Int.toNat_natCast, Nat.mul_one]
theorem rowU_set' {w : World} {g i t : Nat} {l : List Nat} {x : Nat} (h : w.heap[g]? = some (.cells (l.map U).toArray t (0, 0))) :
    (w.setCell ⟨g, i, none⟩ (U x)).heap[g]? = some (.cells ((l.set i x).map U).toArray t (0, 0)) := by
  rw [heap_setCell_same _ _ _ _ _ _ h, List.setIfInBounds_toArray, List.map_set]
/-- the first numbers of a block -/
theorem arr_take (S : List Nat) (hS : S.length = 64) (k : Nat) (hk : k < 64) : (arr (S.take k)).setIfInBounds k (U (S.getD k 0)) = arr (S.take (k + 1)) := by
  have h := arr_snoc (S.take k) (S.getD k 0) (by rw [List.length_take]; omega)
  rw [List.length_take, hS, Nat.min_eq_left (by omega)] at h
  rw [h, List.take_succ_eq_append_getElem (by omega), List.getD_eq_getElem?_getD, List.getElem?_eq_getElem (by omega), Option.getD_some]
theorem arr_take_at (S : List Nat) (hS : S.length = 64) (k j : Nat) (hk : k ≤ 64) (hj : j < k) : (arr (S.take k))[j]? = some (U (S.getD j 0)) := by
  rw [arr_at _ _ (by omega) (by rw [List.length_take]; omega), List.getD_eq_getElem?_getD, List.getElem?_take_of_lt hj, ← List.getD_eq_getElem?_getD]
/-- what lies in memory while a block is stirred in -/
structure Mx (C : Array Value) (w : World) (s : Sha.St) (z : Array Value) (A : Array Value) (m : Nat) (wq : World) : Prop where
  sz : wq.heap.size = w.heap.size + m
  r0 : wq.heap[w.heap.size]? = some (.cells C 67 (0, 0))
  r1 : wq.heap[w.heap.size + 1]? = some (.cells (st8 s) 64 (0, 0))
  r2 : wq.heap[w.heap.size + 2]? = some (.cells z 64 (0, 0))
  r3 : wq.heap[w.heap.size + 3]? = some (.cells A 65 (0, 0))
  bl : Below w.heap.size w wq
theorem Mx.drewN {w : World} {s : Sha.St} {C z A : Array Value} {m : Nat} {wq : World} (h : Mx C w s z A m wq) (n : Nat) : Mx C w s z A m (wq.drewN n) :=
  ⟨by rw [drewN_heap]; exact h.sz, by rw [drewN_heap]; exact h.r0, by rw [drewN_heap]; exact h.r1, by rw [drewN_heap]; exact h.r2, by rw [drewN_heap]; exact h.r3, below_drewN h.bl n⟩
theorem Mx.set3 {w : World} {s : Sha.St} {C z A : Array Value} {m : Nat} {wq : World} (h : Mx C w s z A m wq) (i : Nat) (v : Value) : Mx C w s z (A.setIfInBounds i v) m (wq.setCell ⟨w.heap.size + 3, i, none⟩ v) :=
  ⟨by simpa using h.sz, by rw [heap_setCell_other _ _ _ _ (by simp)]; exact h.r0, by rw [heap_setCell_other _ _ _ _ (by simp)]; exact h.r1, by rw [heap_setCell_other _ _ _ _ (by simp)]; exact h.r2, heap_setCell_same _ _ _ _ _ _ h.r3, h.bl.setCell (by simp) _⟩
theorem Mx.set4 {w : World} {s : Sha.St} {C z A : Array Value} {m : Nat} {wq : World} (h : Mx C w s z A m wq) (i : Nat) (v : Value) : Mx C w s z A m (wq.setCell ⟨w.heap.size + 4, i, none⟩ v) :=
  ⟨by simpa using h.sz, by rw [heap_setCell_other _ _ _ _ (by simp)]; exact h.r0, by rw [heap_setCell_other _ _ _ _ (by simp)]; exact h.r1, by rw [heap_setCell_other _ _ _ _ (by simp)]; exact h.r2, by rw [heap_setCell_other _ _ _ _ (by simp)]; exact h.r3, h.bl.setCell (by simp) _⟩
theorem Mx.more {w : World} {s : Sha.St} {C z A : Array Value} {wq : World} (h : Mx C w s z A 4 wq) (o : Obj) : Mx C w s z A 5 (wq.alloc o) :=
  ⟨by simp [h.sz], by rw [Below.heap_alloc _ _ _ (by rw [h.sz]; omega)]; exact h.r0, by rw [Below.heap_alloc _ _ _ (by rw [h.sz]; omega)]; exact h.r1, by rw [Below.heap_alloc _ _ _ (by rw [h.sz]; omega)]; exact h.r2, by rw [Below.heap_alloc _ _ _ (by rw [h.sz]; omega)]; exact h.r3, h.bl.alloc (by rw [h.sz]; omega) _⟩
theorem wrap_sub (t : Int) (k : Nat) (h0 : 0 ≤ t) (h1 : t < 64) (hk : k ≤ 16) : IntKind.i64.wrap (t - k) = t - k := wrap_small _ (by omega) (by omega)

theorem mx_start (C z A : Array Value) (w : World) (s : Sha.St) : Mx C w s z A 4 ((((w.alloc (.cells C 67)).alloc (.cells (st8 s) 64)).alloc (.cells z 64)).alloc (.cells A 65)) := by
  have h := fun (a : Obj) (W : World) (j : Nat) (hj : j < W.heap.size) => Below.heap_alloc W a j hj
  have h2 := fun (a : Obj) (W : World) => heap_alloc_new W a
  refine ⟨by simp, ?_, ?_, ?_, ?_, (((((Below.refl w.heap.size w).alloc (Nat.le_refl _) _).alloc (by simp) _).alloc (by simp; omega) _).alloc (by simp; omega) _)⟩
  · rw [h _ _ _ (by simp; omega), h _ _ _ (by simp; omega), h _ _ _ (by simp)]; exact h2 _ _
  · rw [h _ _ _ (by simp), h _ _ _ (by simp)]
    have := h2 (.cells (st8 s) 64) (w.alloc (.cells C 67))
    simpa using this
  · rw [h _ _ _ (by simp)]
    have := h2 (.cells z 64) ((w.alloc (.cells C 67)).alloc (.cells (st8 s) 64))
    simpa using this
  · have := h2 (.cells A 65) (((w.alloc (.cells C 67)).alloc (.cells (st8 s) 64)).alloc (.cells z 64))
    simpa using this
theorem re_cast2 (d h s c k w : Nat) : ((d : Int) + ((h : Int) + s + c + k + w)) % 4294967296 = (((d + ((((h + s) % 4294967296 + c) % 4294967296 + k) % 4294967296 + w) % 4294967296) % 4294967296 : Nat) : Int) := by omega
theorem ra_cast2 (h s c k w u v : Nat) : ((h : Int) + s + c + k + w + ((u : Int) + v)) % 4294967296 = ((((((((h + s) % 4294967296 + c) % 4294967296 + k) % 4294967296 + w) % 4294967296) + (u + v) % 4294967296) % 4294967296 : Nat) : Int) := by omega
theorem number_refI (s : ByteArray) (x : Int) (k : Nat) (w : World) (hx : x = k) (hk : k + 4 ≤ s.size) (hs : s.size ≤ maxLen) :
    Calls Tryz.prog 158 #[.string s, .int .i64 x] w fun e w' => e = .returned (.int .u32 (Sha.word s.data.toList k : Nat)) ∧ ∃ n, w' = w.drewN n := by
  subst hx; exact number_ref s k w hk hs

set_option maxRecDepth 100000 in
set_option maxHeartbeats 2000000 in
theorem mixed_ref (C : Array Value) (a b c d e f g h : Nat) (bs : ByteArray) (i : Nat) (w : World) (hC : ∀ t, t < 64 → C[8 + t]? = some (U (Sha.Ks.getD t 0))) (hs : Sha.Ok ⟨a, b, c, d, e, f, g, h⟩) (hi : i + 64 ≤ bs.size) (hb : bs.size ≤ 281474976710656) :
    Calls Tryz.prog 131 #[.agg C, .agg #[U a, U b, U c, U d, U e, U f, U g, U h], .string bs, I i] w fun e' w' => e' = .returned (.agg (st8 (Sha.stir ⟨a, b, c, d, e, f, g, h⟩ ((bs.data.toList.drop i).take 64)))) ∧ Below w.heap.size w w' := by
  have HS := hide hs
  have HM := hide (show bs.size ≤ maxLen by unfold maxLen; omega)
  have HC := hide hC
  have HBS := hide hb
  have HI := hide hi
  have HW := hide (fun t (ht : t < 16) => (Sha.spread_low ((bs.data.toList.drop i).take 64) t ht).trans (Sha.word_part bs.data.toList i (4 * t) (by omega)))
  have HH := hide (Sha.spread_high ((bs.data.toList.drop i).take 64))
  have HSL := hide (show (Sha.spreadTo ((bs.data.toList.drop i).take 64) 48).length = 64 by rw [Sha.spreadTo_length])
  have HSlt := hide (Sha.getD_lt (Sha.spreadTo_lt ((bs.data.toList.drop i).take 64) 48))
  have HST := hide (show Sha.stir ⟨a, b, c, d, e, f, g, h⟩ ((bs.data.toList.drop i).take 64) = Sha.add ⟨a, b, c, d, e, f, g, h⟩ (Sha.rounds (Sha.spreadTo ((bs.data.toList.drop i).take 64) 48) 64 ⟨a, b, c, d, e, f, g, h⟩) from rfl)
  generalize Sha.spreadTo ((bs.data.toList.drop i).take 64) 48 = S at *
  rw [HST.out]
  have hi0 : i ≤ 281474976710656 := by omega
  clear hs hC hb hi HST
  go_enter Tryz.func131, Tryz.ntmps131
  go_wp2_with fail
  obtain ⟨z, hz, hz8⟩ : ∃ z : Array Value, z = #[U 0, U 0, U 0, U 0, U 0, U 0, U 0, U 0] ∧ z.size = 8 := ⟨_, rfl, rfl⟩
  have HZ8 := hide hz8
  clear hz8
  go_loopw [10] (fun iv wq => ∃ k : Nat, k ≤ 64 ∧ iv = .int .i64 k ∧ Mx C w ⟨a, b, c, d, e, f, g, h⟩ z (arr (S.take k)) 4 wq)
    (fun iv _ => 64 - (intOf iv).toNat)
  case atStart => subst hz; exact ⟨0, by omega, rfl, mx_start _ _ _ _ _⟩
  case round =>
    clear hz
    obtain ⟨k, hk, rfl, hmx⟩ := hrel
    have HMX := hide hmx
    by_cases hlt : k < 64
    · have hf : wr.frozen? ⟨w.heap.size + 3, k, none⟩ = false := frozen_of_row _ _ _ _ _ hmx.r3
      have hcell := fun j (hj : j < k) => (cell_of_row _ _ j _ _ _ hmx.r3).trans (arr_take_at S HSL.out k j (by omega) hj)
      have HNX := hide (arr_take S HSL.out k hlt)
      obtain ⟨old, hold⟩ : ∃ old, wr.cell? ⟨w.heap.size + 3, k, none⟩ = some old := by
        rw [cell_of_row _ _ _ _ _ _ hmx.r3, arr_at _ _ hlt (by rw [List.length_take]; omega)]
        exact ⟨_, rfl⟩
      clear hmx
      by_cases h16 : k < 16
      · have ix := idx37 (w.heap.size + 3) (k : Int) k rfl hlt
        have HWk := hide (HW.out k h16)
        clear hcell
        go_wp2_with fail
        refine (number_refI bs _ (i + 4 * k) _ (by omega) (by have := HI.out; omega) HM.out).mono ?_
        rintro e' w' ⟨rfl, nq, rfl⟩
        go_wp2
        refine ⟨⟨k + 1, by omega, by go_num, ?_⟩, by simp [intOf]; omega⟩
        rw [← HWk.out, ← HNX.out]
        exact (HMX.out.drewN nq).set3 k _
      · obtain ⟨n, rfl⟩ : ∃ n, k = n + 16 := ⟨k - 16, by omega⟩
        have hn : n < 48 := by omega
        have HHn := hide (HH.out n hn)
        have c14 := hcell (n + 14) (by omega)
        have c9 := hcell (n + 9) (by omega)
        have c1 := hcell (n + 1) (by omega)
        have c0 := hcell n (by omega)
        have l14 := HSlt.out (n + 14)
        have l9 := HSlt.out (n + 9)
        have l1 := HSlt.out (n + 1)
        have l0 := HSlt.out n
        clear hcell
        generalize S.getD (n + 14) 0 = x14 at *
        generalize S.getD (n + 9) 0 = x9 at *
        generalize S.getD (n + 1) 0 = x1 at *
        generalize S.getD n 0 = x0 at *
        generalize S.getD (n + 16) 0 = x16 at *
        obtain ⟨t, ht⟩ : ∃ t : Int, t = ((n + 16 : Nat) : Int) := ⟨_, rfl⟩
        have t0 : 16 ≤ t := by omega
        have t1 : t < 64 := by omega
        have i14 := idx37 (w.heap.size + 3) (t - 2) (n + 14) (by omega) (by omega)
        have i9 := idx37 (w.heap.size + 3) (t - 7) (n + 9) (by omega) (by omega)
        have i1 := idx37 (w.heap.size + 3) (t - 15) (n + 1) (by omega) (by omega)
        have i0 := idx37 (w.heap.size + 3) (t - 16) n (by omega) (by omega)
        have i16 := idx37 (w.heap.size + 3) t (n + 16) (by omega) (by omega)
        have w14 := wrap_small (t - 2) (by omega) (by omega)
        have w9 := wrap_small (t - 7) (by omega) (by omega)
        have w1 := wrap_small (t - 15) (by omega) (by omega)
        have w0 := wrap_small (t - 16) (by omega) (by omega)
        have HT : Hid (t = ((n + 16 : Nat) : Int)) := ht
        rw [← ht]
        have HLT : Hid (n < 48) := hn
        clear ht hlt hn h16 hk
        have hx14 : bits BinOp.xor IntKind.u32 (bits BinOp.xor IntKind.u32 (Sha.ror 17 x14 : Nat) (Sha.ror 19 x14 : Nat)) ((x14 : Int) / 1024) = (Sha.ss1 x14 : Nat) := xor32 (Sha.ror 17 x14 ^^^ Sha.ror 19 x14) (x14 / 1024) (xor32 _ _ rfl rfl (Sha.ror_lt l14) (Sha.ror_lt l14)) (by omega) (Sha.xor_lt (Sha.ror_lt l14) (Sha.ror_lt l14)) (Sha.div_lt l14)
        have hx1 : bits BinOp.xor IntKind.u32 (bits BinOp.xor IntKind.u32 (Sha.ror 7 x1 : Nat) (Sha.ror 18 x1 : Nat)) ((x1 : Int) / 8) = (Sha.ss0 x1 : Nat) := xor32 (Sha.ror 7 x1 ^^^ Sha.ror 18 x1) (x1 / 8) (xor32 _ _ rfl rfl (Sha.ror_lt l1) (Sha.ror_lt l1)) (by omega) (Sha.xor_lt (Sha.ror_lt l1) (Sha.ror_lt l1)) (Sha.div_lt l1)
        have s14 := Sha.ss1_lt l14
        have s1 := Sha.ss0_lt l1
        have HR := hide (And.intro (Sha.ror_lt (n := 7) l1) (And.intro (Sha.ror_lt (n := 18) l1) (And.intro (Sha.ror_lt (n := 17) l14) (Sha.ror_lt (n := 19) l14))))
        generalize Sha.ss1 x14 = y14 at *
        generalize Sha.ss0 x1 = y1 at *
        go_wp2_with fail
        go_quiet (first | (go_at_call_of 159 (Value.int IntKind.i64 7); exact Calls.quiet_of (rturn7 x1 _ l1)) | (go_at_call_of 159 (Value.int IntKind.i64 18); exact Calls.quiet_of (rturn18 x1 _ l1)))
        have e14 : (wr.drewN nq).cell? ⟨w.heap.size + 3, n + 14, none⟩ = some (U x14) := by simpa using c14
        have e9 : (wr.drewN nq).cell? ⟨w.heap.size + 3, n + 9, none⟩ = some (U x9) := by simpa using c9
        have e0 : (wr.drewN nq).cell? ⟨w.heap.size + 3, n, none⟩ = some (U x0) := by simpa using c0
        have e16 : (wr.drewN nq).cell? ⟨w.heap.size + 3, n + 16, none⟩ = some old := by simpa using hold
        have ef : (wr.drewN nq).frozen? ⟨w.heap.size + 3, n + 16, none⟩ = false := by simpa using hf
        have HMX2 := hide (HMX.out.drewN nq)
        clear c14 c9 c1 c0 hold hf HMX i1 w1
        generalize wr.drewN nq = w2 at *
        go_wp2_with fail
        go_quiet (first | (go_at_call_of 159 (Value.int IntKind.i64 17); exact Calls.quiet_of (rturn17 x14 _ l14)) | (go_at_call_of 159 (Value.int IntKind.i64 19); exact Calls.quiet_of (rturn19 x14 _ l14)))
        have f9 : (w2.drewN nq).cell? ⟨w.heap.size + 3, n + 9, none⟩ = some (U x9) := by simpa using e9
        have f0 : (w2.drewN nq).cell? ⟨w.heap.size + 3, n, none⟩ = some (U x0) := by simpa using e0
        have f16 : (w2.drewN nq).cell? ⟨w.heap.size + 3, n + 16, none⟩ = some old := by simpa using e16
        have ff : (w2.drewN nq).frozen? ⟨w.heap.size + 3, n + 16, none⟩ = false := by simpa using ef
        have HMX3 := hide (HMX2.out.drewN nq)
        clear e14 e9 e0 e16 ef HMX2 i14 w14
        generalize w2.drewN nq = w3 at *
        go_wp2_with fail
        go_region_held3 (fun w' => w'.cell? ⟨w.heap.size + 3, n + 9, none⟩ = some (U x9) ∧ w'.cell? ⟨w.heap.size + 3, n, none⟩ = some (U x0) ∧ (∃ v, w'.cell? ⟨w.heap.size + 3, n + 16, none⟩ = some v) ∧ w'.frozen? ⟨w.heap.size + 3, n + 16, none⟩ = false) (first | exact ⟨f9, f0, ⟨_, f16⟩, ff⟩ | exact ⟨cs_ne f9 (by omega), cs_ne f0 (by omega), ⟨_, cs_eq f16⟩, by simp [ff]⟩) (fail)
        all_goals
          go_wp2
          go_roundw
          case rel =>
            have hlt := HLT.out
            refine ⟨n + 16 + 1, by omega, by rw [HT.out]; go_num, ?_⟩
            rw [← HNX.out, HHn.out, next_cast]
            exact (HMX3.out.set3 (n + 16) _).drewN 1
          case measure => have := HT.out; have := HLT.out; simp [intOf]; omega
    · have e64 : k = 64 := by omega
      subst e64
      have eS : S.take 64 = S := List.take_of_length_le (by rw [HSL.out]; omega)
      rw [eS] at hmx HMX
      have hsz := hmx.sz
      have H1 := hide hmx.r1
      clear hmx eS hlt hk
      have HA4 := hide (show ∀ o, (wr.alloc o).heap[w.heap.size + 4]? = some o by intro o; rw [← HMX.out.sz]; exact heap_alloc_new wr o)
      have HMM := hide (fun o => HMX.out.more o)
      go_wp2_with (first | (refine wpList_load_row rfl 64 (.tmp 5) rfl (w.heap.size + 1) rfl 64 #[U a, U b, U c, U d, U e, U f, U g, U h] (0, 0) _ H1.out Tryz.underlying64 rfl Tryz.info28 ?_) | (refine wpList_store_row rfl 64 (.tmp 13) (.tmp 86) rfl (w.heap.size + 4) #[U a, U b, U c, U d, U e, U f, U g, U h] rfl rfl 64 _ (HA4.out _) Tryz.info28 rfl rfl ?_))
      have HB0 := hide (show Mx C w ⟨a, b, c, d, e, f, g, h⟩ z (arr S) 5 (wr.alloc (.cells (st8 ⟨a, b, c, d, e, f, g, h⟩) 64)) ∧ (wr.alloc (.cells (st8 ⟨a, b, c, d, e, f, g, h⟩) 64)).heap[w.heap.size + 4]? = some (.cells (st8 ⟨a, b, c, d, e, f, g, h⟩) 64 (0, 0)) from ⟨HMM.out _, HA4.out _⟩)
      clear HMX hsz H1 HA4 HMM
      go_loopw [14] (fun iv wq => ∃ n : Nat, n ≤ 64 ∧ iv = .int .i64 n ∧ ∃ r : Sha.St, Sha.rounds S n ⟨a, b, c, d, e, f, g, h⟩ = r ∧ Mx C w ⟨a, b, c, d, e, f, g, h⟩ z (arr S) 5 wq ∧ wq.heap[w.heap.size + 4]? = some (.cells (st8 r) 64 (0, 0)))
        (fun iv _ => 64 - (intOf iv).toNat)
      case atStart => exact ⟨0, by omega, rfl, _, rfl, HB0.out.1, HB0.out.2⟩
      case round =>
        clear HB0
        obtain ⟨n, hn, rfl, r, hr, hmx, hrow⟩ := hrel
        have hok : Sha.Ok r := hr ▸ Sha.rounds_ok n HS.out
        have HRr := hide hr
        clear hr
        obtain ⟨ra, rb, rc, rd, re, rf, rg, rh⟩ := r
        obtain ⟨oa, ob, oc, od, oe, of, og, oh⟩ := hok
        dsimp only at oa ob oc od oe of og oh ⊢
        have HMX := hide hmx
        have HROW := hide hrow
        have c0 : wr.cell? ⟨w.heap.size + 4, 0, none⟩ = some (U ra) := by rw [cell_of_row _ _ _ _ _ _ hrow]; rfl
        have c1 : wr.cell? ⟨w.heap.size + 4, 1, none⟩ = some (U rb) := by rw [cell_of_row _ _ _ _ _ _ hrow]; rfl
        have c2 : wr.cell? ⟨w.heap.size + 4, 2, none⟩ = some (U rc) := by rw [cell_of_row _ _ _ _ _ _ hrow]; rfl
        have c4 : wr.cell? ⟨w.heap.size + 4, 4, none⟩ = some (U re) := by rw [cell_of_row _ _ _ _ _ _ hrow]; rfl
        have c5 : wr.cell? ⟨w.heap.size + 4, 5, none⟩ = some (U rf) := by rw [cell_of_row _ _ _ _ _ _ hrow]; rfl
        have c6 : wr.cell? ⟨w.heap.size + 4, 6, none⟩ = some (U rg) := by rw [cell_of_row _ _ _ _ _ _ hrow]; rfl
        have c7 : wr.cell? ⟨w.heap.size + 4, 7, none⟩ = some (U rh) := by rw [cell_of_row _ _ _ _ _ _ hrow]; rfl
        by_cases hlt : n < 64
        · have hk := (cell_of_row _ _ (8 + n) _ _ _ hmx.r0).trans (HC.out n hlt)
          have hw := (cell_of_row _ _ n _ _ _ hmx.r3).trans (arr_at S n hlt (by rw [HSL.out]; omega))
          have ik := idx64o w.heap.size 8 (n : Int) n rfl hlt
          have iw := idx37 (w.heap.size + 3) (n : Int) n rfl hlt
          have lk := Sha.getD_lt Sha.Ks_lt n
          have lw := HSlt.out n
          have HST : Hid (Sha.rounds S (n + 1) ⟨a, b, c, d, e, f, g, h⟩ = Sha.round (Sha.Ks.getD n 0) (S.getD n 0) ⟨ra, rb, rc, rd, re, rf, rg, rh⟩) := by
            show Sha.round _ _ (Sha.rounds _ n _) = _
            rw [HRr.out]
          clear hmx hrow HRr
          generalize Sha.Ks.getD n 0 = kn at *
          generalize S.getD n 0 = wn at *
          have hsg : IntKind.u32.signed = false := rfl
          have hch : bits .or .u32 (bits .and .u32 (re : Int) (rf : Int)) (bits .and .u32 (bits .xor .u32 IntKind.u32.max (re : Int)) (rg : Int)) = ((Sha.ch re rf rg : Nat) : Int) := by
            rw [← Sha.ch_or re rf rg oe]
            have hn : (4294967295 ^^^ re) < 4294967296 := Sha.xor_lt (by decide) oe
            exact or32 (re &&& rf) ((4294967295 ^^^ re) &&& rg) (and32 re rf rfl rfl oe of) (and32 (4294967295 ^^^ re) rg (xor32 4294967295 re max32 rfl (by decide) oe) rfl hn og) (Sha.and_lt of) (Sha.and_lt og)
          have hmj : bits .or .u32 (bits .or .u32 (bits .and .u32 (ra : Int) (rb : Int)) (bits .and .u32 (ra : Int) (rc : Int))) (bits .and .u32 (rb : Int) (rc : Int)) = ((Sha.maj ra rb rc : Nat) : Int) := by
            rw [← Sha.maj_or]
            exact or32 ((ra &&& rb) ||| (ra &&& rc)) (rb &&& rc) (or32 (ra &&& rb) (ra &&& rc) (and32 ra rb rfl rfl oa ob) (and32 ra rc rfl rfl oa oc) (Sha.and_lt ob) (Sha.and_lt oc)) (and32 rb rc rfl rfl ob oc) (Sha.or_lt (Sha.and_lt ob) (Sha.and_lt oc)) (Sha.and_lt oc)
          have hb1 : bits .xor .u32 (bits .xor .u32 ((Sha.ror 6 re : Nat) : Int) ((Sha.ror 11 re : Nat) : Int)) ((Sha.ror 25 re : Nat) : Int) = ((Sha.bs1 re : Nat) : Int) := xor32 (Sha.ror 6 re ^^^ Sha.ror 11 re) (Sha.ror 25 re) (xor32 _ _ rfl rfl (Sha.ror_lt oe) (Sha.ror_lt oe)) rfl (Sha.xor_lt (Sha.ror_lt oe) (Sha.ror_lt oe)) (Sha.ror_lt oe)
          have hb0 : bits .xor .u32 (bits .xor .u32 ((Sha.ror 2 ra : Nat) : Int) ((Sha.ror 13 ra : Nat) : Int)) ((Sha.ror 22 ra : Nat) : Int) = ((Sha.bs0 ra : Nat) : Int) := xor32 (Sha.ror 2 ra ^^^ Sha.ror 13 ra) (Sha.ror 22 ra) (xor32 _ _ rfl rfl (Sha.ror_lt oa) (Sha.ror_lt oa)) rfl (Sha.xor_lt (Sha.ror_lt oa) (Sha.ror_lt oa)) (Sha.ror_lt oa)
          have lch := Sha.ch_lt (x := re) of og
          have lmj := Sha.maj_lt (x := ra) ob oc
          have lb1 := Sha.bs1_lt oe
          have lb0 := Sha.bs0_lt oa
          have HRD := hide (show Sha.round kn wn ⟨ra, rb, rc, rd, re, rf, rg, rh⟩ = ⟨((((((rh + Sha.bs1 re) % 4294967296 + Sha.ch re rf rg) % 4294967296 + kn) % 4294967296 + wn) % 4294967296) + (Sha.bs0 ra + Sha.maj ra rb rc) % 4294967296) % 4294967296, ra, rb, rc, (rd + ((((rh + Sha.bs1 re) % 4294967296 + Sha.ch re rf rg) % 4294967296 + kn) % 4294967296 + wn) % 4294967296) % 4294967296, re, rf, rg⟩ from rfl)
          generalize Sha.ch re rf rg = qch at *
          generalize Sha.maj ra rb rc = qmj at *
          generalize Sha.bs1 re = qb1 at *
          generalize Sha.bs0 ra = qb0 at *
          go_wp2_with fail
          go_quiet (first | (go_at_call_of 159 (Value.int IntKind.i64 6); exact Calls.quiet_of (rturn6 re _ oe)) | (go_at_call_of 159 (Value.int IntKind.i64 11); exact Calls.quiet_of (rturn11 re _ oe)) | (go_at_call_of 159 (Value.int IntKind.i64 25); exact Calls.quiet_of (rturn25 re _ oe)))
          have HMX2 := hide (HMX.out.drewN nq)
          have HROW2 := hide (show (wr.drewN nq).heap[w.heap.size + 4]? = some (.cells (st8 ⟨ra, rb, rc, rd, re, rf, rg, rh⟩) 64 (0, 0)) by rw [drewN_heap]; exact HROW.out)
          clear c0 c1 c2 c4 c5 c6 c7 hk hw ik iw HMX HROW
          generalize wr.drewN nq = w2 at *
          go_wp2_with fail
          refine (rturn2 ra _ oa).mono ?_
          rintro e' w' ⟨rfl, n1, rfl⟩
          have HMX3 := hide (HMX2.out.drewN n1)
          have HROW3 := hide (show (w2.drewN n1).heap[w.heap.size + 4]? = some (.cells (st8 ⟨ra, rb, rc, rd, re, rf, rg, rh⟩) 64 (0, 0)) by rw [drewN_heap]; exact HROW2.out)
          clear HMX2 HROW2
          generalize w2.drewN n1 = w3 at *
          go_wp2_with fail
          refine (rturn13 ra _ oa).mono ?_
          rintro e' w' ⟨rfl, n2, rfl⟩
          have HMX4 := hide (HMX3.out.drewN n2)
          have HROW4 := hide (show (w3.drewN n2).heap[w.heap.size + 4]? = some (.cells (st8 ⟨ra, rb, rc, rd, re, rf, rg, rh⟩) 64 (0, 0)) by rw [drewN_heap]; exact HROW3.out)
          clear HMX3 HROW3
          generalize w3.drewN n2 = w4 at *
          go_wp2_with fail
          refine (rturn22 ra _ oa).mono ?_
          rintro e' w' ⟨rfl, n3, rfl⟩
          have HMX5 := hide (HMX4.out.drewN n3)
          have HROW5 := hide (show (w4.drewN n3).heap[w.heap.size + 4]? = some (.cells (st8 ⟨ra, rb, rc, rd, re, rf, rg, rh⟩) 64 (0, 0)) by rw [drewN_heap]; exact HROW4.out)
          clear HMX4 HROW4
          generalize w4.drewN n3 = w5 at *
          go_wp2_with fail
          go_loopw [21] (fun kv wq => ∃ k : Nat, k ≤ 7 ∧ kv = .int .i64 k ∧ Mx C w ⟨a, b, c, d, e, f, g, h⟩ z (arr S) 5 wq ∧ wq.heap[w.heap.size + 4]? = some (.cells ((Sha.sh [ra, rb, rc, rd, re, rf, rg, rh] k).map U).toArray 64 (0, 0)))
            (fun kv _ => (intOf kv).toNat)
          case atStart => exact ⟨7, by omega, rfl, HMX5.out, HROW5.out⟩
          case round =>
            clear HMX5 HROW5
            obtain ⟨k, hk7, rfl, hmx, hrow⟩ := hrel
            have HMX := hide hmx
            have HROW := hide hrow
            by_cases hk0 : 0 < k
            · have hc := (cell_of_row _ _ (k - 1) _ _ _ hrow).trans (by rw [List.getElem?_toArray, List.getElem?_map, Sha.sh_at ra rb rc rd re rf rg rh k hk0 hk7, Option.map_some])
              obtain ⟨old, hold⟩ : ∃ old, wr.cell? ⟨w.heap.size + 4, k, none⟩ = some old := by
                rw [cell_of_row _ _ _ _ _ _ hrow, List.getElem?_toArray, List.getElem?_map, List.getElem?_eq_getElem (by rw [Sha.sh_len]; omega)]
                exact ⟨_, rfl⟩
              have hf : wr.frozen? ⟨w.heap.size + 4, k, none⟩ = false := frozen_of_row _ _ _ _ _ hrow
              have i1 := idx28 (w.heap.size + 4) ((k : Int) - 1) (k - 1) (by omega) (by omega)
              have i2 := idx28 (w.heap.size + 4) (k : Int) k rfl (by omega)
              have HSH := hide (Sha.sh_step ra rb rc rd re rf rg rh k hk0 hk7)
              clear hmx hrow
              generalize [ra, rb, rc, rd, re, rf, rg, rh].getD (k - 1) 0 = xk at *
              go_wp2_with fail
              go_roundw
              case rel =>
                refine ⟨k - 1, by omega, by go_num, HMX.out.set4 k _, ?_⟩
                rw [rowU_set' HROW.out, HSH.out]
              case measure => simp [intOf]; omega
            · have e0 : k = 0 := by omega
              subst e0
              have d4 : wr.cell? ⟨w.heap.size + 4, 4, none⟩ = some (U rd) := by rw [cell_of_row _ _ _ _ _ _ hrow]; rfl
              have d0 : wr.cell? ⟨w.heap.size + 4, 0, none⟩ = some (U ra) := by rw [cell_of_row _ _ _ _ _ _ hrow]; rfl
              have hf : ∀ j, wr.frozen? ⟨w.heap.size + 4, j, none⟩ = false := fun j => frozen_of_row _ _ _ _ _ hrow
              clear hmx hrow hk0 hk7
              go_wp2_with fail
              go_roundw
              case rel =>
                refine ⟨n + 1, hlt, by go_num, _, HST.out, (HMX.out.set4 4 _).set4 0 _, ?_⟩
                rw [HRD.out, re_cast2, ra_cast2, rowU_set' (rowU_set' HROW.out)]
                rfl
              case measure => simp [intOf]; omega
        · have e64 : n = 64 := by omega
          subst e64
          have HF : Hid (Sha.rounds S 64 ⟨a, b, c, d, e, f, g, h⟩ = ⟨ra, rb, rc, rd, re, rf, rg, rh⟩) := HRr.out
          clear c0 c1 c2 c4 c5 c6 c7 hmx hrow HRr hlt hn
          go_wp2_with fail
          go_loopw [22] (fun kv wq => ∃ k : Nat, k ≤ 8 ∧ kv = .int .i64 k ∧ wq.heap[w.heap.size + 1]? = some (.cells (mix (toL (Sha.add ⟨a, b, c, d, e, f, g, h⟩ ⟨ra, rb, rc, rd, re, rf, rg, rh⟩)) (toL ⟨a, b, c, d, e, f, g, h⟩) k) 64 (0, 0)) ∧ wq.heap[w.heap.size + 2]? = some (.cells z 64 (0, 0)) ∧ wq.heap[w.heap.size + 4]? = some (.cells (st8 ⟨ra, rb, rc, rd, re, rf, rg, rh⟩) 64 (0, 0)) ∧ Below w.heap.size w wq)
            (fun kv _ => 8 - (intOf kv).toNat)
          case atStart => exact ⟨0, by omega, rfl, HMX.out.r1, HMX.out.r2, HROW.out, HMX.out.bl⟩
          case round =>
            clear HMX HROW
            obtain ⟨k, hk, rfl, h1, h2, h4, hb⟩ := hrel
            have H1 := hide h1
            have H2 := hide h2
            have H4 := hide h4
            have HB := hide hb
            by_cases hlt : k < 8
            · have hc : wr.cell? ⟨w.heap.size + 1, k, none⟩ = some (U ((toL ⟨a, b, c, d, e, f, g, h⟩).getD k 0)) := by
                rw [cell_of_row _ _ _ _ _ _ h1]; exact mix_at _ _ _ rfl rfl hlt
              have hc4 : wr.cell? ⟨w.heap.size + 4, k, none⟩ = some (U ((toL ⟨ra, rb, rc, rd, re, rf, rg, rh⟩).getD k 0)) := by
                rw [cell_of_row _ _ _ _ _ _ h4]; exact st8_at _ k hlt
              have hf : wr.frozen? ⟨w.heap.size + 1, k, none⟩ = false := frozen_of_row _ _ _ _ _ h1
              have i1 := idx28 (w.heap.size + 1) (k : Int) k rfl hlt
              have i4 := idx28 (w.heap.size + 4) (k : Int) k rfl hlt
              have HMS := hide (mix_step (toL (Sha.add ⟨a, b, c, d, e, f, g, h⟩ ⟨ra, rb, rc, rd, re, rf, rg, rh⟩)) (toL ⟨a, b, c, d, e, f, g, h⟩) k rfl rfl hlt)
              rw [add_at _ _ k hlt] at HMS
              clear h1 h2 h4 hb
              generalize (toL ⟨a, b, c, d, e, f, g, h⟩).getD k 0 = xk at *
              generalize (toL ⟨ra, rb, rc, rd, re, rf, rg, rh⟩).getD k 0 = yk at *
              go_wp2_with fail
              go_region
              all_goals
                go_wp2
                go_roundw
                case rel =>
                  refine ⟨k + 1, hlt, by go_num, ?_, ?_, ?_, (HB.out.setCell (by simp) _).drew⟩
                  · rw [show ∀ W : World, W.drew.heap = W.heap from fun _ => rfl, heap_setCell_same _ _ _ _ _ _ H1.out, add_cast, HMS.out]
                  · rw [show ∀ W : World, W.drew.heap = W.heap from fun _ => rfl, heap_setCell_other _ _ _ _ (by simp)]; exact H2.out
                  · rw [show ∀ W : World, W.drew.heap = W.heap from fun _ => rfl, heap_setCell_other _ _ _ _ (by simp)]; exact H4.out
                case measure => simp [intOf]; omega
            · have e8 : k = 8 := by omega
              subst e8
              have HFF : Hid (st8 (Sha.add ⟨a, b, c, d, e, f, g, h⟩ ⟨ra, rb, rc, rd, re, rf, rg, rh⟩) = mix (toL (Sha.add ⟨a, b, c, d, e, f, g, h⟩ ⟨ra, rb, rc, rd, re, rf, rg, rh⟩)) (toL ⟨a, b, c, d, e, f, g, h⟩) 8) := by
                rw [mix_all _ _ rfl rfl, toL_arr]
                exact rfl
              have hM8 := mix_size (toL (Sha.add ⟨a, b, c, d, e, f, g, h⟩ ⟨ra, rb, rc, rd, re, rf, rg, rh⟩)) (toL ⟨a, b, c, d, e, f, g, h⟩) 8 rfl rfl (by omega)
              have hM1 := mix_one (toL (Sha.add ⟨a, b, c, d, e, f, g, h⟩ ⟨ra, rb, rc, rd, re, rf, rg, rh⟩)) (toL ⟨a, b, c, d, e, f, g, h⟩) 8
              clear h1 h2 h4 hb
              generalize mix (toL (Sha.add ⟨a, b, c, d, e, f, g, h⟩ ⟨ra, rb, rc, rd, re, rf, rg, rh⟩)) (toL ⟨a, b, c, d, e, f, g, h⟩) 8 = M at *
              have HM8 : Hid (M.size = 8) := hM8
              clear hM8 hlt hk
              go_wp2_with (first | (refine wpList_load_row rfl 64 (.tmp 5) rfl (w.heap.size + 1) rfl 64 M (0, 0) _ H1.out Tryz.underlying64 rfl (by rw [HM8.out]; exact Tryz.info28) ?_) | (refine wpList_store_row rfl 64 (.tmp 8) (.tmp 184) rfl (w.heap.size + 2) M rfl rfl 64 z H2.out (by rw [HM8.out]; exact Tryz.info28) (by rw [HZ8.out, HM8.out]) hM1 ?_))
              refine bodyPost_ret (v := .agg M) ?_ rfl ⟨by rw [HF.out, HFF.out], below_setRow HB.out (by omega) M⟩
              exact results_cell_row rfl _ _ (w.heap.size + 2) 64 M (0, 0) _ rfl (setRow_heap _ _ _ _ _ _ H2.out) Tryz.underlying64 rfl (by rw [HM8.out]; exact Tryz.info28)
end Go.Proofs.YtenaelkbgkpllaaGreatDoor
/- The document's digest of a text. -/
namespace Go.Proofs.YtenaelkbgkpllaaGreatDoor
open Go.RowKit

/-- bytes in a row that a text was written into: nothing of it is frozen -/
def OwnG (w : World) (B : Nat) (v : Value) (l : List UInt8) : Prop := ∃ g cap cur fz, v = .slice (some ⟨g, 0, none⟩) l.length cap ∧ B ≤ g ∧ w.heap[g]? = some (.cells cur 5 fz) ∧ (fz = (0, 0) ∨ cap ≤ fz.1) ∧ l.length ≤ cap ∧ cap ≤ maxLen ∧ cur.size = cap ∧ cur.toList.take l.length = l.map Y
theorem ownG_bytes (w : World) (s : ByteArray) (hs : s.size ≤ maxLen) : OwnG (Lib.bytesWorld w 5 s) w.heap.size (.slice (some ⟨w.heap.size, 0, none⟩) s.size (grownCap w s.size 0 5)) s.data.toList := by
  have h1 := grownCap_ge w s.size 0 5
  have h2 := grownCap_le_maxLen w s.size 0 5 hs
  have hsz : s.data.size = s.size := rfl
  have h3 : (Lib.bytesCells w 5 s).size = grownCap w s.size 0 5 := by
    unfold Lib.bytesCells
    rw [Array.size_append, Array.size_map, Array.size_replicate]
    omega
  have h4 : s.data.toList.length = s.size := by simp
  refine ⟨w.heap.size, grownCap w s.size 0 5, _, _, by rw [h4], Nat.le_refl _, Lib.bytesWorld_at_new w 5 s, .inr (by rw [h3]; exact Nat.le_refl _), by rw [h4]; exact h1, h2, h3, ?_⟩
  unfold Lib.bytesCells
  rw [Array.toList_append, List.take_append_of_le_length (by simp), List.take_of_length_le (by simp), Array.toList_map]
theorem OwnG.lt {w : World} {B : Nat} {v : Value} {l : List UInt8} (h : OwnG w B v l) : ∃ g cap, v = .slice (some ⟨g, 0, none⟩) l.length cap ∧ B ≤ g ∧ g < w.heap.size ∧ w.rangeAt g 0 (l.map Y) := by
  obtain ⟨g, cap, cur, fz, rfl, hb, hg, hf, hl, hm, hc, ht⟩ := h
  refine ⟨g, cap, rfl, hb, (Array.getElem?_eq_some_iff.1 hg).1, fun j u hu => ?_⟩
  rw [cell_of_row _ _ _ _ _ _ hg, Nat.zero_add, ← Array.getElem?_toList]
  rw [← ht, List.getElem?_take] at hu
  split at hu
  · exact hu
  · cases hu
theorem OwnG.keep {w w' : World} {B : Nat} {v : Value} {l : List UInt8} (h : OwnG w B v l) (hb : Below w.heap.size w w') : OwnG w' B v l := by
  obtain ⟨g, cap, cur, fz, rfl, hB, hg, r⟩ := h
  exact ⟨g, cap, cur, fz, rfl, hB, (hb.block g (Array.getElem?_eq_some_iff.1 hg).1).trans hg, r⟩
/-- one byte more -/
theorem ownG_push {w : World} {B : Nat} {v : Value} {l : List UInt8} (b : UInt8) (h : OwnG w B v l) (a : Addr) (c : Nat) (ha : w.cell? a = some (Y b)) (hl : l.length + 1 ≤ 140737488355328) (hB : B ≤ w.heap.size) :
    ∃ v' w', (Builtin.append_ #[59, 59] 59 #[v, .slice (some a) 1 c]).run Tryz.prog w = .ok v' w' ∧ OwnG w' B v' (l ++ [b]) ∧ Below B w w' := by
  obtain ⟨i0, hi0, hz0, hz1, hz2⟩ := info_parts Tryz.info5
  have hnews : ∀ j u, [Y b][j]? = some u → w.cell? (a.add j) = some u := fun j u hj => by
    match j, hj with
    | 0, hj =>
      have : a.add 0 = a := by unfold Addr.add; simp
      rw [this, ha]; exact hj
  have hrng := OwnG.lt h
  obtain ⟨g, cap, cur, fz, rfl, hb, hg, hf, hlc, hm, hc, ht⟩ := h
  by_cases hroom : l.length + 1 ≤ cap
  · have hcell : w.cell? ⟨g, l.length, none⟩ = some cur[l.length] := by rw [cell_of_row _ _ _ _ _ _ hg]; exact Array.getElem?_eq_getElem (by omega)
    have hfro : w.frozen? ⟨g, l.length, none⟩ = false := by
      obtain ⟨lo, hi'⟩ := fz
      simp only [World.frozen?, hg, Bool.and_eq_false_iff, decide_eq_false_iff_not]
      rcases hf with hf | hf
      · injection hf with h1 h2
        right; omega
      · left; simp only at hf; omega
    have hst : (storeCells ⟨g, l.length, none⟩ [Y b] 0).run Tryz.prog w = .ok () (w.setCell ⟨g, l.length, none⟩ (Y b)) := by
      have hadd : (⟨g, l.length, none⟩ : Addr).add 0 = ⟨g, l.length, none⟩ := by unfold Addr.add; simp
      have h1 : (store ⟨g, l.length, none⟩ (Y b)).run Tryz.prog w = .ok () (w.setCell ⟨g, l.length, none⟩ (Y b)) := by
        rw [run_store Tryz.prog w _ (Y b) _ rfl, hcell]
        simp [hfro]
      simp only [storeCells, Sem.run_bind, hadd, h1, Result.andThen_ok]
      rfl
    have hfc := run_firstCells_some (P := Tryz.prog) w 1 1 a 1 c [Y b] rfl hnews
    refine ⟨.slice (some ⟨g, 0, none⟩) (l.length + 1) cap, w.setCell ⟨g, l.length, none⟩ (Y b), ?_, ⟨g, cap, cur.setIfInBounds l.length (Y b), fz, by simp, hb, ?_, hf, by simpa using hroom, hm, by simpa using hc, ?_⟩, (Below.refl B w).setCell hb _⟩
    · simp [Builtin.append_, run_underlying Tryz.underlying59, sizeOf, typeInfo, hi0, hz1, Builtin.lenOf, hroom, hfc, Addr.add_lit, hst]
    · rw [setCell_eq_setRow w g l.length cur 5 fz (Y b) hg]
      exact setRow_heap w g cur _ 5 _ hg
    · rw [Array.toList_setIfInBounds, List.length_append, List.length_singleton, List.map_append, ← ht]
      have hlt : l.length < cur.toList.length := by simp; omega
      rw [List.take_succ_eq_append_getElem (by simpa using hlt), List.getElem_set_self, List.take_set_of_le (Nat.le_refl _)]
      rfl
  · obtain ⟨g2, cap2, e2, _, _, hr⟩ := hrng
    injection e2 with e3 e4 e5
    injection e3 with e3
    injection e3 with e3
    subst e3
    have hold : ∀ j u, (l.map Y)[j]? = some u → w.cell? ((⟨g, 0, none⟩ : Addr).add j) = some u := fun j u hj => by
      rw [Addr.add_lit]
      exact hr j u hj
    have hr2 := run_append_grow (P := Tryz.prog) w 59 59 5 i0 (.int .u8 0) Tryz.underlying59 hi0 hz0 ⟨g, 0, none⟩ l.length cap (l.map Y) (by rw [List.length_map, hz1, Nat.mul_one]) hold a 1 c [Y b] (by rw [hz1]; rfl) hnews (by omega) (by omega) (by rw [hz2]; exact growslice_fits (by omega) (by omega))
    have hge := grownCap_ge w (l.length + 1) cap 5
    have hcm2 : grownCap w (l.length + 1) cap 5 ≤ maxLen := grownCap_le_maxLen w (l.length + 1) cap 5 (by unfold maxLen; omega)
    refine ⟨_, _, hr2, ⟨w.heap.size, _, _, (0, 0), by rw [List.length_append]; rfl, hB, heap_alloc_new w.drew _, .inl rfl, by rw [List.length_append]; exact hge, hcm2, ?_, ?_⟩, ((Below.refl B w).drew).alloc hB _⟩
    · simp only [Array.size_append, List.size_toArray, List.length_map, size_zeroCells, List.length_singleton]
      have : (Value.int IntKind.u8 0).cells.size = 1 := rfl
      rw [this]
      omega
    · simp only [Array.toList_append, List.append_assoc]
      rw [← List.append_assoc, List.take_append_of_le_length (by simp), List.take_of_length_le (by simp), List.map_append]
      rfl
/-- a list's length -/
def lenOf' : Value → Nat
  | .slice _ n _ => n
  | _ => 0
theorem pad_mod (n : Nat) : (n + 1 + (119 - n % 64) % 64) % 64 = 56 := by
  have h := Nat.mod_lt n (show 64 > 0 by decide)
  by_cases h1 : n % 64 ≤ 55
  · have e : (119 - n % 64) % 64 = 55 - n % 64 := by omega
    rw [e]; omega
  · have e : (119 - n % 64) % 64 = 119 - n % 64 := by omega
    rw [e]; omega
theorem pad_not (n j : Nat) (hj : j < (119 - n % 64) % 64) : (n + 1 + j) % 64 ≠ 56 := by
  have h := Nat.mod_lt n (show 64 > 0 by decide)
  by_cases h1 : n % 64 ≤ 55
  · have e : (119 - n % 64) % 64 = 55 - n % 64 := by omega
    rw [e] at hj; omega
  · have e : (119 - n % 64) % 64 = 119 - n % 64 := by omega
    rw [e] at hj; omega
theorem Tryz.infoConst : (Tryz.prog.info? 67).map (·.size) = some 72 := by kernel_rfl
/-- the first bytes of a list, then noughts -/
def outV (l : List UInt8) (i : Nat) : Array Value := ((l.take i ++ List.replicate (32 - i) 0).map Y).toArray
theorem outV_set (l : List UInt8) (i : Nat) (hl : l.length = 32) (hi : i < 32) : (outV l i).setIfInBounds i (Y (l.getD i 0)) = outV l (i + 1) := by
  unfold outV
  rw [List.setIfInBounds_toArray]
  congr 1
  apply List.ext_getElem?
  intro j
  rw [List.getElem?_set, List.getElem?_map, List.getElem?_map]
  have hlen : ∀ k, k ≤ 32 → (l.take k ++ List.replicate (32 - k) (0 : UInt8)).length = 32 := fun k hk => by simp [hl]; omega
  by_cases e : i = j
  · subst e
    rw [if_pos rfl, if_pos (by rw [List.length_map, hlen i (by omega)]; exact hi), List.getElem?_append_left (by simp [hl]; omega), List.getElem?_take_of_lt (by omega), List.getD_eq_getElem?_getD, List.getElem?_eq_getElem (by omega)]
    rfl
  · rw [if_neg e]
    by_cases h : j < i
    · rw [List.getElem?_append_left (by simp [hl]; omega), List.getElem?_append_left (by simp [hl]; omega), List.getElem?_take_of_lt h, List.getElem?_take_of_lt (by omega)]
    · rw [List.getElem?_append_right (by simp [hl]; omega), List.getElem?_append_right (by simp [hl]; omega), List.getElem?_replicate, List.getElem?_replicate]
      simp only [List.length_take, hl]
      by_cases h2 : j < 32
      · rw [if_pos (by omega), if_pos (by omega)]
      · rw [if_neg (by omega), if_neg (by omega)]
theorem outV_size (l : List UInt8) (i : Nat) (hl : l.length = 32) (hi : i ≤ 32) : (outV l i).size = 32 := by simp [outV, hl]; omega
theorem outV_all (l : List UInt8) (hl : l.length = 32) : outV l 32 = (l.map Y).toArray := by
  unfold outV
  rw [List.take_of_length_le (by omega), Nat.sub_self, List.replicate_zero, List.append_nil]
theorem toL_lt {s : Sha.St} (h : Sha.Ok s) (a : Nat) : (toL s).getD a 0 < 4294967296 := by
  obtain ⟨h1, h2, h3, h4, h5, h6, h7, h8⟩ := h
  refine Sha.getD_lt (fun x hx => ?_) a
  simp only [toL, List.mem_cons, List.not_mem_nil, or_false] at hx
  rcases hx with rfl | rfl | rfl | rfl | rfl | rfl | rfl | rfl <;> assumption
/-- the byte of that place -/
theorem join_at (s : Sha.St) : ∀ (a b : Nat), a < 8 → b < 4 → (Sha.join s).getD (4 * a + b) 0 = UInt8.ofNat ((toL s).getD a 0 / 2 ^ (24 - 8 * b))
  | 0, 0, _, _ => rfl | 0, 1, _, _ => rfl | 0, 2, _, _ => rfl | 0, 3, _, _ => by show UInt8.ofNat _ = UInt8.ofNat (_ / 1); rw [Nat.div_one]; rfl
  | 1, 0, _, _ => rfl | 1, 1, _, _ => rfl | 1, 2, _, _ => rfl | 1, 3, _, _ => by show UInt8.ofNat _ = UInt8.ofNat (_ / 1); rw [Nat.div_one]; rfl
  | 2, 0, _, _ => rfl | 2, 1, _, _ => rfl | 2, 2, _, _ => rfl | 2, 3, _, _ => by show UInt8.ofNat _ = UInt8.ofNat (_ / 1); rw [Nat.div_one]; rfl
  | 3, 0, _, _ => rfl | 3, 1, _, _ => rfl | 3, 2, _, _ => rfl | 3, 3, _, _ => by show UInt8.ofNat _ = UInt8.ofNat (_ / 1); rw [Nat.div_one]; rfl
  | 4, 0, _, _ => rfl | 4, 1, _, _ => rfl | 4, 2, _, _ => rfl | 4, 3, _, _ => by show UInt8.ofNat _ = UInt8.ofNat (_ / 1); rw [Nat.div_one]; rfl
  | 5, 0, _, _ => rfl | 5, 1, _, _ => rfl | 5, 2, _, _ => rfl | 5, 3, _, _ => by show UInt8.ofNat _ = UInt8.ofNat (_ / 1); rw [Nat.div_one]; rfl
  | 6, 0, _, _ => rfl | 6, 1, _, _ => rfl | 6, 2, _, _ => rfl | 6, 3, _, _ => by show UInt8.ofNat _ = UInt8.ofNat (_ / 1); rw [Nat.div_one]; rfl
  | 7, 0, _, _ => rfl | 7, 1, _, _ => rfl | 7, 2, _, _ => rfl | 7, 3, _, _ => by show UInt8.ofNat _ = UInt8.ofNat (_ / 1); rw [Nat.div_one]; rfl
  | a + 8, _, h, _ => absurd h (by omega)
  | _, b + 4, _, h => absurd h (by omega)
theorem Tryz.array22 : Tryz.prog.underlying 39 = some (.array (Tryz.prog.arrayLen 39) (Tryz.prog.elem 39)) := by kernel_rfl
theorem Tryz.arrayLen22 : Tryz.prog.arrayLen 39 = 32 := by kernel_rfl
theorem Tryz.elem22 : Tryz.prog.elem 39 = 5 := by kernel_rfl
theorem Tryz.size5' (w : World) : (sizeOf 5).run Tryz.prog w = .ok 1 w := by kernel_rfl
theorem idx32 (g : Nat) (i : Int) (k : Nat) (h : i = k) (hk : k < 32) (W : World) :
    (Instr.indexAt 39 (.pointer (some ⟨g, 0, none⟩)) (.int .i64 i)).run Tryz.prog W = .ok (.pointer (some ⟨g, k, none⟩)) W := by
  subst h
  rw [run_indexAt_array W 39 _ _ _ Tryz.array22, Tryz.arrayLen22, Tryz.elem22, if_pos (by omega), Tryz.size5']
  simp only [Result.andThen_ok, add_offR, Int.toNat_natCast, Nat.mul_one, Nat.zero_add]
theorem yb0 (x : Nat) (y : UInt8) (hx : x < 4294967296) (h : y = UInt8.ofNat (x / 2 ^ (24 - 8 * 0))) : Value.int .u8 ((x : Int) / 16777216) = Y y := by
  rw [h, show 2 ^ (24 - 8 * 0) = 16777216 from rfl]; refine congrArg (Value.int .u8) ?_; rw [UInt8.toNat_ofNat']; omega
theorem yb1 (x : Nat) (y : UInt8) (_ : x < 4294967296) (h : y = UInt8.ofNat (x / 2 ^ (24 - 8 * 1))) : Value.int .u8 ((x : Int) / 65536 % 256) = Y y := by
  rw [h, show 2 ^ (24 - 8 * 1) = 65536 from rfl]; refine congrArg (Value.int .u8) ?_; rw [UInt8.toNat_ofNat']; omega
theorem yb2 (x : Nat) (y : UInt8) (_ : x < 4294967296) (h : y = UInt8.ofNat (x / 2 ^ (24 - 8 * 2))) : Value.int .u8 ((x : Int) / 256 % 256) = Y y := by
  rw [h, show 2 ^ (24 - 8 * 2) = 256 from rfl]; refine congrArg (Value.int .u8) ?_; rw [UInt8.toNat_ofNat']; omega
theorem yb3 (x : Nat) (y : UInt8) (_ : x < 4294967296) (h : y = UInt8.ofNat (x / 2 ^ (24 - 8 * 3))) : Value.int .u8 ((x : Int) % 256) = Y y := by
  rw [h, show 2 ^ (24 - 8 * 3) = 1 from rfl, Nat.div_one]; refine congrArg (Value.int .u8) ?_; rw [UInt8.toNat_ofNat']; omega
theorem Y128 : (.int .u8 128 : Value) = Y 128 := rfl
theorem conv_str (s : ByteArray) (W : World) : (convert 9 59 (.string s)).run Tryz.prog W = .ok (.slice (some ⟨W.heap.size, 0, none⟩) s.size (grownCap W s.size 0 5)) (Lib.bytesWorld W 5 s) :=
  Lib.run_convert_string_bytes W 9 59 5 s Tryz.underlying9 Tryz.underlying59 Tryz.underlying5
set_option maxRecDepth 100000 in
set_option maxHeartbeats 2000000 in
theorem digest_ref (C : Array Value) (s : ByteArray) (L : List Value) (w : World) (hL : (Sha.sha s.data.toList).map Y = L) (hs : s.size ≤ 140737488351232) (hC72 : C.size = 72) (hC : ∀ t, t < 64 → C[8 + t]? = some (U (Sha.Ks.getD t 0))) (hC0 : ∀ (j : Nat) (v : Value), ((toL Sha.start).map U)[j]? = some v → C[j]? = some v) :
    Calls Tryz.prog 97 #[.agg C, .string s] w fun e w' => e = .returned (.agg L.toArray) ∧ Below w.heap.size w w' := by
  have HLL := hide hL
  clear hL
  have HC72 := hide hC72
  clear hC72
  have HC := hide hC
  have HC0 := hide hC0
  have hcv := conv_str s
  have HL := hide (show s.data.toList.length = s.size by simp)
  clear hC hC0
  go_enter Tryz.func97, Tryz.ntmps97
  have hr0' := fun (a b : Obj) => heap_alloc2_old w a b
  have hr1' := fun (a b : Obj) => heap_alloc2_new w a b
  have hb1' := fun (a b : Obj) => ((Below.refl w.heap.size w).alloc (Nat.le_refl _) a).alloc (by simp) b
  go_upto_region 2 with fail
  generalize hW : World.alloc (World.alloc w _) _ = w1
  have hr0 : w1.heap[w.heap.size]? = some (.cells C 67 (0, 0)) := by rw [← hW]; exact hr0' _ _
  obtain ⟨z, hz32, hr1⟩ : ∃ z : Array Value, z.size = 32 ∧ w1.heap[w.heap.size + 1]? = some (.cells z 39 (0, 0)) := by
    rw [← hW]; exact ⟨_, rfl, hr1' _ _⟩
  have hb1 : Below w.heap.size w w1 := by rw [← hW]; exact hb1' _ _
  have hs1 : w1.heap.size = w.heap.size + 2 := by rw [← hW]; simp
  clear hW hr0' hr1' hb1'
  obtain ⟨v2, w2, hap, hown2, hb2⟩ := ownG_push (w := (Lib.bytesWorld w1 5 s).alloc (.cells #[Y 128] 5)) 128 ((ownG_bytes w1 s (by unfold maxLen; omega)).keep ((Below.refl _ _).alloc (Nat.le_refl _) _)) ⟨w1.heap.size + 1, 0, none⟩ 1 (by
    have h := cell_of_row _ _ 0 _ _ _ (heap_alloc_new (Lib.bytesWorld w1 5 s) (.cells #[Y 128] 5))
    rw [Lib.bytesWorld_size] at h
    exact h) (by rw [HL.out]; omega) (by rw [World.size_alloc, Lib.bytesWorld_size]; omega)
  have hap' : (Builtin.append_ #[59, 59] 59 #[.slice (some ⟨w1.heap.size, 0, none⟩) s.size (grownCap w1 s.size 0 5), .slice (some ⟨w1.heap.size + 1, 0, none⟩) 1 1]).run Tryz.prog ((Lib.bytesWorld w1 5 s).alloc (.cells #[.int .u8 128] 5)) = .ok v2 w2 := hap
  have hb2' : Below w1.heap.size w1 w2 := ((Lib.bytesWorld_below w1 5 s).alloc (by rw [Lib.bytesWorld_size]; omega) _).trans hb2
  have hbz := Lib.bytesWorld_size w1 5 s
  clear hap hb2
  have H0 := hide ((hb2'.block w.heap.size (by omega)).trans hr0)
  have H1 := hide ((hb2'.block (w.heap.size + 1) (by omega)).trans hr1)
  have HB2 := hide (show Below w.heap.size w w2 from hb1.trans (hb2'.mono (by omega)))
  have HO2 := hide (show OwnG w2 (w.heap.size + 2) v2 (s.data.toList ++ 128 :: List.replicate 0 0) by rw [← hs1]; exact hown2)
  have hs2 : w.heap.size + 2 ≤ w2.heap.size := by have := hb2'.size; omega
  have HZ := hide hz32
  clear hr0 hr1 hb1 hown2 hb2' hz32 hs1
  go_wp2_with (at_builtin; refine Lib.wpList_append_run _ rfl (.tmp 17) (.tmp 18) 59 59 rfl _ _ rfl rfl _ _ hap' ?_)
  clear hap' hbz hcv
  go_loopw [6] (fun vv wq => ∃ j : Nat, j ≤ (119 - s.size % 64) % 64 ∧ OwnG wq (w.heap.size + 2) vv (s.data.toList ++ 128 :: List.replicate j 0) ∧ wq.heap[w.heap.size]? = some (.cells C 67 (0, 0)) ∧ wq.heap[w.heap.size + 1]? = some (.cells z 39 (0, 0)) ∧ Below w.heap.size w wq ∧ w.heap.size + 2 ≤ wq.heap.size)
    (fun vv _ => s.size + 65 - lenOf' vv)
  case atStart => exact ⟨0, by omega, HO2.out, H0.out, H1.out, HB2.out, hs2⟩
  case round =>
    clear HO2 H0 H1 HB2 hs2
    obtain ⟨j, hj, hown, h0, h1, hb, hsz⟩ := hrel
    have HO := hide hown
    have H0 := hide h0
    have H1 := hide h1
    have HB := hide hb
    obtain ⟨g, cap, rfl, hg0, hg1, hrg⟩ := hown.lt
    have hlen : (s.data.toList ++ 128 :: List.replicate j (0 : UInt8)).length = s.size + 1 + j := by simp; omega
    rw [hlen]
    by_cases hlt : j < (119 - s.size % 64) % 64
    · obtain ⟨v3, w3, hap, hown3, hb3⟩ := ownG_push (w := wr.alloc (.cells #[Y 0] 5)) 0 (HO.out.keep ((Below.refl _ _).alloc (Nat.le_refl _) _)) ⟨wr.heap.size, 0, none⟩ 1 (cell_of_row _ _ 0 _ _ _ (heap_alloc_new wr (.cells #[Y 0] 5))) (by rw [hlen]; omega) (by rw [World.size_alloc]; omega)
      rw [hlen] at hap
      have hap' : (Builtin.append_ #[59, 59] 59 #[.slice (some ⟨g, 0, none⟩) (s.size + 1 + j) cap, .slice (some ⟨wr.heap.size, 0, none⟩) 1 1]).run Tryz.prog (wr.alloc (.cells #[.int .u8 0] 5)) = .ok v3 w3 := hap
      have hb3' : Below (w.heap.size + 2) wr w3 := ((Below.refl (w.heap.size + 2) wr).alloc hsz _).trans hb3
      have hs3 : wr.heap.size ≤ w3.heap.size := Nat.le_trans (by rw [World.size_alloc]; omega) hb3.size
      obtain ⟨g3, cap3, e3, _, _, _⟩ := hown3.lt
      have HV3 := hide (show lenOf' v3 = s.size + 1 + j + 1 by rw [e3]; show (s.data.toList ++ 128 :: List.replicate j (0 : UInt8) ++ [0]).length = _; rw [List.length_append, hlen]; rfl)
      have HO3 := hide (show OwnG w3 (w.heap.size + 2) v3 (s.data.toList ++ 128 :: List.replicate (j + 1) 0) by rw [List.replicate_succ', ← List.cons_append, ← List.append_assoc]; exact hown3)
      have H03 := hide ((hb3'.block w.heap.size (by omega)).trans h0)
      have H13 := hide ((hb3'.block (w.heap.size + 1) (by omega)).trans h1)
      have HB3 := hide (show Below w.heap.size w w3 from hb.trans (hb3'.mono (by omega)))
      clear hap hown3 hb3 hb3' e3 h0 h1 hb hown HO H0 H1 HB hrg hlen
      have hmod : ((s.size : Int) + 1 + (j : Int)) % 64 ≠ 56 := by have := pad_not s.size j hlt; omega
      have hj64 : j < 64 := by omega
      have HLT := hide hlt
      clear hlt hj
      go_wp2_with (at_builtin; refine Lib.wpList_append_run _ rfl (.tmp 24) (.tmp 25) 59 59 rfl _ _ rfl rfl _ _ hap' ?_)
      go_roundw
      case rel => exact ⟨j + 1, HLT.out, HO3.out, H03.out, H13.out, HB3.out, by omega⟩
      case measure => rw [HV3.out]; show s.size + 65 - (s.size + 1 + j + 1) < s.size + 65 - (s.size + 1 + j); omega
    · have ej : j = (119 - s.size % 64) % 64 := by omega
      have hmod : ((s.size : Int) + 1 + (j : Int)) % 64 = 56 := by have := pad_mod s.size; rw [← ej] at this; omega
      have hj64 : j < 64 := by omega
      have HEJ := hide ej
      clear h0 h1 hb hown hlt ej hj
      have hconv := conv_bytes g (s.size + 1 + j) cap _ hlen
      obtain ⟨m1, hm1, hm1', em1⟩ : ∃ m : Nat, (s.size : Int) * 8 / 4294967296 = (m : Int) ∧ m < 4294967296 ∧ m = 8 * s.size / 4294967296 % 4294967296 := ⟨8 * s.size / 4294967296 % 4294967296, by omega, by omega, rfl⟩
      obtain ⟨m2, hm2, hm2', em2⟩ : ∃ m : Nat, (s.size : Int) * 8 % 4294967296 = (m : Int) ∧ m < 4294967296 ∧ m = 8 * s.size % 4294967296 := ⟨8 * s.size % 4294967296, by omega, by omega, rfl⟩
      have HPD := hide (show (s.data.toList ++ 128 :: List.replicate j 0) ++ Sha.four m1 ++ Sha.four m2 = Sha.padded s.data.toList by
        rw [em1, em2, HEJ.out]
        unfold Sha.padded Sha.padding
        rw [HL.out]
        simp only [List.append_assoc, List.cons_append])
      have HE1 := hide (show ∀ W, Calls Tryz.prog 130 #[.int .u32 m1] W fun e w' => e = .returned (Sv (Sha.four m1)) ∧ Below W.heap.size W w' from fun W => four_ref m1 W hm1')
      have HE2 := hide (show ∀ W, Calls Tryz.prog 130 #[.int .u32 m2] W fun e w' => e = .returned (Sv (Sha.four m2)) ∧ Below W.heap.size W w' from fun W => four_ref m2 W hm2')
      have l1 : (Sha.four m1).length = 4 := rfl
      have l2 : (Sha.four m2).length = 4 := rfl
      generalize Sha.four m1 = F1 at *
      generalize Sha.four m2 = F2 at *
      generalize s.data.toList ++ 128 :: List.replicate j 0 = T at *
      have ha1 : ∀ W, (Op.stringOp .add ⟨T.toArray⟩ ⟨F1.toArray⟩).run Tryz.prog W = .ok (.string ⟨(T ++ F1).toArray⟩) W := fun W => by rw [run_string_add_sum W _ _ (by simp [ByteArray.size]; omega), ByteArray.mk_append_mk]
      have lT1 : (T ++ F1).length = s.size + 5 + j := by rw [List.length_append]; omega
      generalize hT1 : T ++ F1 = T1 at *
      have ha2 : ∀ W, (Op.stringOp .add ⟨T1.toArray⟩ ⟨F2.toArray⟩).run Tryz.prog W = .ok (.string ⟨(T1 ++ F2).toArray⟩) W := fun W => by rw [run_string_add_sum W _ _ (by simp [ByteArray.size]; omega), ByteArray.mk_append_mk]
      generalize hT2 : T1 ++ F2 = T2 at *
      have HS := hide hrg
      have hw1 : IntKind.u32.wrap (m1 : Int) = (m1 : Int) := by rw [IntKind.wrap_u32]; omega
      have hw2 : IntKind.u32.wrap ((s.size : Int) * 8) = (m2 : Int) := by rw [IntKind.wrap_u32]; exact hm2
      clear em1 em2 l1 l2 lT1 hT1 hT2 hlen hm1' hm2'
      go_upto_region 5 with fail
      have hwlt : g < wr.heap.size := hg1
      clear hmod
      go_cut [7] from 27 to 37 (fun v7 wx => v7 = .string ⟨T2.toArray⟩ ∧ Below wr.heap.size wr wx)
      case first =>
        go_region_held3 (fun W => W.rangeAt g 0 (T.map Y)) (first | assumption | exact hrg | (simpa using hrg)) ((first | (go_at_call_of 130 (Value.int IntKind.u32 (m1 : Int)); refine (HE1.out _).mono ?_; rintro _ w6 ⟨rfl, hb6⟩; have hS6 := range_below hb6 (by simpa using hwlt) (show World.rangeAt _ g 0 (T.map Y) by simpa using hrg); have hs6 : wr.heap.size ≤ w6.heap.size := hb6.size; have hB6 : Below wr.heap.size wr w6 := (show Below wr.heap.size wr wr.drew from (Below.refl _ _).drew).trans hb6) | (go_at_call_of 130 (Value.int IntKind.u32 (m2 : Int)); refine (HE2.out _).mono ?_; rintro _ w7 ⟨rfl, hb7⟩; have hS7 := range_below hb7 (by omega) hS6; have hB7 : Below wr.heap.size wr w7 := hB6.trans (hb7.mono hs6))))
        all_goals
          go_wp2_with fail
          go_meet
          exact ⟨rfl, hB7⟩
      case rest =>
        obtain ⟨rfl, hbc⟩ := hcut
        have H0c := hide ((hbc.block w.heap.size (by omega)).trans H0.out)
        have H1c := hide ((hbc.block (w.heap.size + 1) (by omega)).trans H1.out)
        have HBc := hide (HB.out.trans (hbc.mono (show w.heap.size ≤ wr.heap.size by omega)))
        have hsc := hbc.size
        clear hconv hm1 hm2 ha1 ha2 hw1 hw2 hrg HS H0 H1 HB HO HE1 HE2 hbc hg0 hg1 hwlt
        have HQ := hide (show T2.length = 64 * (T2.length / 64) by have := Sha.padded_mod s.data.toList; rw [← HPD.out] at this; omega)
        have HST := hide (show Sha.stirN T2 (T2.length / 64) Sha.start = Sha.state s.data.toList by rw [HPD.out]; exact Sha.state_padded _)
        have hT2 : T2.length ≤ 140737488351304 := by have := Sha.padded_length s.data.toList; rw [← HPD.out] at this; rw [this, HL.out]; omega
        have HSZ := hide (show (⟨T2.toArray⟩ : ByteArray).size = T2.length by simp [ByteArray.size])
        have HLL2 := hide (show L = (Sha.join (Sha.state s.data.toList)).map Y from HLL.out.symm)
        generalize T2.length / 64 = q at *
        clear HPD
        have HOK := hide (fun k => Sha.stirN_ok (l := T2) k Sha.start_ok)
        obtain ⟨st, hst⟩ : ∃ st, st = Sha.start := ⟨_, rfl⟩
        rw [← hst] at HST HC0 HOK
        clear hst
        have HRG := hide (show wc.rangeAt w.heap.size 0 ((toL st).map U) from fun j v hv => by rw [cell_of_row _ _ _ _ _ _ H0c.out, Nat.zero_add]; exact HC0.out j v hv)
        have HN8 := hide (show ∀ o, (wc.alloc o).heap[wc.heap.size]? = some o from heap_alloc_new wc)
        have HB8 := hide (fun o => HBc.out.alloc (show w.heap.size ≤ wc.heap.size by omega) o)
        have HO8 := hide (fun o j (hj : j < wc.heap.size) => Below.heap_alloc wc o j hj)
        clear HC0
        obtain ⟨sa, sb, sc, sd, se, sf, sg, sh⟩ := st
        go_upto_region 8 with (first | (refine wpList_load_mid rfl 64 (.tmp 38) rfl w.heap.size 0 rfl [U sa, U sb, U sc, U sd, U se, U sf, U sg, U sh] _ HRG.out Tryz.under28 rfl Tryz.info28 ?_) | (refine wpList_store_row rfl 64 (.tmp 8) (.tmp 39) rfl wc.heap.size #[U sa, U sb, U sc, U sd, U se, U sf, U sg, U sh] rfl rfl 64 _ (HN8.out _) Tryz.info28 rfl rfl ?_))
        have HST0 := hide (show (wc.alloc (.cells (st8 ⟨sa, sb, sc, sd, se, sf, sg, sh⟩) 64)).heap[wc.heap.size]? = some (.cells (st8 (Sha.stirN T2 0 ⟨sa, sb, sc, sd, se, sf, sg, sh⟩)) 64 (0, 0)) from HN8.out _)
        obtain ⟨gh, hgh⟩ : ∃ gh, gh = wc.heap.size := ⟨_, rfl⟩
        rw [← hgh] at HN8 HO8 HST0 hsc
        rw [← hgh]
        have hgh2 : w.heap.size + 2 ≤ gh := by omega
        clear HRG HN8
        go_loopw [9] (fun iv wq => ∃ k i : Nat, i = 64 * k ∧ k ≤ q ∧ iv = .int .i64 i ∧ wq.heap[gh]? = some (.cells (st8 (Sha.stirN T2 k ⟨sa, sb, sc, sd, se, sf, sg, sh⟩)) 64 (0, 0)) ∧ wq.heap[w.heap.size]? = some (.cells C 67 (0, 0)) ∧ wq.heap[w.heap.size + 1]? = some (.cells z 39 (0, 0)) ∧ Below w.heap.size w wq)
          (fun iv _ => T2.length - (intOf iv).toNat)
        case atStart => exact ⟨0, 0, rfl, by omega, rfl, HST0.out, (HO8.out _ _ (by omega)).trans H0c.out, (HO8.out _ _ (by omega)).trans H1c.out, HB8.out _⟩
        case round =>
          clear HST0 HO8 HB8 H0c H1c HBc hgh hsc
          obtain ⟨k, i, hik, hkq, rfl, hrow, h0, h1, hb⟩ := hrel
          have HIK := hide hik
          have H0 := hide h0
          have H1 := hide h1
          have HB := hide hb
          have HROW := hide hrow
          have hsw : gh < wr.heap.size := (Array.getElem?_eq_some_iff.1 hrow).1
          clear h0 h1 hb hrow hik
          by_cases hlt : i < T2.length
          · have hk : k < q := by have := HQ.out; have := HIK.out; omega
            obtain ⟨xx, hxx⟩ : ∃ xx, Sha.stirN T2 k ⟨sa, sb, sc, sd, se, sf, sg, sh⟩ = xx := ⟨_, rfl⟩
            have hok : Sha.Ok xx := hxx ▸ HOK.out k
            have HNX := hide (show Sha.stirN T2 (k + 1) ⟨sa, sb, sc, sd, se, sf, sg, sh⟩ = Sha.stir xx ((T2.drop i).take 64) by
              show Sha.stir (Sha.stirN T2 k _) ((T2.drop (64 * k)).take 64) = _
              rw [hxx, HIK.out])
            rw [hxx] at HROW
            clear hxx
            have HMIX := hide (fun W => mixed_ref C xx.a xx.b xx.c xx.d xx.e xx.f xx.g xx.h ⟨T2.toArray⟩ i W HC.out hok (by rw [HSZ.out]; have := HQ.out; have := HIK.out; omega) (by rw [HSZ.out]; omega))
            rw [show (⟨T2.toArray⟩ : ByteArray).data.toList = T2 from rfl] at HMIX
            obtain ⟨ya, yb, yc, yd, ye, yf, yg, yh⟩ := xx
            generalize Sha.stir _ _ = yy at *
            go_wp2_with (first | (refine wpList_load_row rfl 67 (.tmp 2) rfl w.heap.size rfl 67 C (0, 0) _ H0.out Tryz.underlying67 rfl (by rw [HC72.out]; exact Tryz.infoConst) ?_) | (refine wpList_load_row rfl 64 (.tmp 8) rfl gh rfl 64 #[U ya, U yb, U yc, U yd, U ye, U yf, U yg, U yh] (0, 0) _ HROW.out Tryz.underlying64 rfl Tryz.info28 ?_))
            refine (HMIX.out _).mono ?_
            rintro e' w5 ⟨rfl, hb5⟩
            have HROW5 := hide ((hb5.block gh hsw).trans HROW.out)
            have H05 := hide ((hb5.block w.heap.size (by omega)).trans H0.out)
            have H15 := hide ((hb5.block (w.heap.size + 1) (by omega)).trans H1.out)
            have HB5 := hide (HB.out.trans (hb5.mono (show w.heap.size ≤ wr.heap.size by omega)))
            clear hb5 HROW H0 H1 HB HMIX
            have hM8 : (st8 yy).size = 8 := rfl
            have hM1 : (st8 yy).all (·.oneCell') = true := by
              rw [← toL_arr, List.all_toArray, List.all_eq_true]
              intro v hv
              obtain ⟨n, _, rfl⟩ := List.mem_map.1 hv
              rfl
            obtain ⟨M, hM⟩ : ∃ M, st8 yy = M := ⟨_, rfl⟩
            rw [hM] at hM8 hM1 ⊢
            have HMM := hide hM
            have HM8 := hide hM8
            have HM1 := hide hM1
            clear hM hM8 hM1
            go_wp2_with (refine wpList_store_row rfl 64 (.tmp 8) (.tmp 50) rfl gh M rfl rfl 64 (st8 ⟨ya, yb, yc, yd, ye, yf, yg, yh⟩) HROW5.out (by rw [HM8.out]; exact Tryz.info28) (by rw [HM8.out]; rfl) HM1.out ?_)
            go_roundw
            case rel =>
              refine ⟨k + 1, i + 64, by rw [HIK.out]; omega, hk, by go_num, ?_, ?_, ?_, below_setRow HB5.out (by omega) _⟩
              · rw [HNX.out, HMM.out]; exact setRow_heap _ _ _ _ _ _ HROW5.out
              · rw [setRow_other _ _ _ _ (by omega)]; exact H05.out
              · rw [setRow_other _ _ _ _ (by omega)]; exact H15.out
            case measure => simp [intOf]; omega
          · have ek : k = q := by have := HQ.out; have := HIK.out; omega
            rw [ek, HST.out] at HROW
            clear ek
            obtain ⟨xx, hxx⟩ : ∃ xx, Sha.state s.data.toList = xx := ⟨_, rfl⟩
            have hxo : Sha.Ok xx := by rw [← hxx]; have := HOK.out q; rw [HST.out] at this; exact this
            rw [hxx] at HROW HLL2
            clear hxx HLL HST HOK
            have HXX := hide (show Sha.Ok xx from hxo)
            have HN9 := hide (show ∀ o, (wr.alloc o).heap[wr.heap.size]? = some o from heap_alloc_new wr)
            have HB9 := hide (fun o => HB.out.alloc (show w.heap.size ≤ wr.heap.size by omega) o)
            have HO9 := hide (fun o j (hj : j < wr.heap.size) => Below.heap_alloc wr o j hj)
            have hsx : Sha.Ok xx := HXX.out
            obtain ⟨xa, xb, xc, xd, xe, xf, xg, xh⟩ := xx
            have HJ := hide (show ∃ J : List UInt8, J = Sha.join ⟨xa, xb, xc, xd, xe, xf, xg, xh⟩ ∧ J.length = 32 from ⟨_, rfl, rfl⟩)
            go_upto_region 13 with fail
            obtain ⟨go, hgo⟩ : ∃ go, go = wr.heap.size := ⟨_, rfl⟩
            rw [← hgo] at HN9 HO9 hsw
            rw [← hgo]
            go_loopw [11] (fun iv wq => ∃ i : Nat, i ≤ 32 ∧ iv = .int .i64 i ∧ wq.heap[go]? = some (.cells (outV (Sha.join ⟨xa, xb, xc, xd, xe, xf, xg, xh⟩) i) 39 (0, 0)) ∧ wq.heap[gh]? = some (.cells (st8 ⟨xa, xb, xc, xd, xe, xf, xg, xh⟩) 64 (0, 0)) ∧ wq.heap[w.heap.size + 1]? = some (.cells z 39 (0, 0)) ∧ Below w.heap.size w wq)
              (fun iv _ => 32 - (intOf iv).toNat)
            case atStart => exact ⟨0, by omega, rfl, HN9.out _, (HO9.out _ _ (by omega)).trans HROW.out, (HO9.out _ _ (by omega)).trans H1.out, HB9.out _⟩
            case round =>
              clear HN9 HO9 HB9 HROW H0 H1 HB hgo hlt
              obtain ⟨i, hi, rfl, ho, hh, h1, hb⟩ := hrel
              have HO := hide ho
              have HH := hide hh
              have H1 := hide h1
              have HB := hide hb
              by_cases hlt : i < 32
              · have hf : wr.frozen? ⟨go, i, none⟩ = false := frozen_of_row _ _ _ _ _ ho
                obtain ⟨old, hold⟩ : ∃ old, wr.cell? ⟨go, i, none⟩ = some old := by
                  rw [cell_of_row _ _ _ _ _ _ ho, Array.getElem?_eq_getElem (by rw [outV_size _ _ rfl hi]; exact hlt)]
                  exact ⟨_, rfl⟩
                have HOS := hide (outV_set (Sha.join ⟨xa, xb, xc, xd, xe, xf, xg, xh⟩) i rfl hlt)
                have ix := idx32 go (i : Int) i rfl hlt
                obtain ⟨a, b, hab, hb4, ha8⟩ : ∃ a b : Nat, i = 4 * a + b ∧ b < 4 ∧ a < 8 := ⟨i / 4, i % 4, by omega, by omega, by omega⟩
                have HG := hide (join_at ⟨xa, xb, xc, xd, xe, xf, xg, xh⟩ a b ha8 hb4)
                rw [← hab] at HG
                have hc := (cell_of_row _ _ a _ _ _ hh).trans (st8_at _ a ha8)
                have ia := idx28 gh (a : Int) a rfl ha8
                have hq : (i : Int) / 4 = (a : Int) := by omega
                have hm : (i : Int) % 4 = (b : Int) := by omega
                have hxl : (toL ⟨xa, xb, xc, xd, xe, xf, xg, xh⟩).getD a 0 < 4294967296 := toL_lt hsx a
                generalize (toL ⟨xa, xb, xc, xd, xe, xf, xg, xh⟩).getD a 0 = xv at *
                generalize (Sha.join ⟨xa, xb, xc, xd, xe, xf, xg, xh⟩).getD i 0 = yv at *
                clear ho hh h1 hb
                have hb4' : b = 0 ∨ b = 1 ∨ b = 2 ∨ b = 3 := by omega
                clear hb4 hab
                rcases hb4' with rfl | rfl | rfl | rfl
                all_goals
                  go_wp2_with fail
                  first | rw [yb0 xv yv hxl HG.out] | rw [yb1 xv yv hxl HG.out] | rw [yb2 xv yv hxl HG.out] | rw [yb3 xv yv hxl HG.out]
                  refine ⟨⟨i + 1, hlt, by go_num, ?_, ?_, ?_, HB.out.setCell (by show w.heap.size ≤ go; omega) _⟩, by simp [intOf]; omega⟩
                  · rw [heap_setCell_same _ _ _ _ _ _ HO.out, HOS.out]
                  · rw [heap_setCell_other _ _ _ _ (by show gh ≠ go; omega)]; exact HH.out
                  · rw [heap_setCell_other _ _ _ _ (by show w.heap.size + 1 ≠ go; omega)]; exact H1.out
              · have e32 : i = 32 := by omega
                subst e32
                rw [outV_all _ rfl, ← HLL2.out] at HO
                have hL32 : L.toArray.size = 32 := by rw [List.size_toArray, HLL2.out, List.length_map]; rfl
                have hL1 : L.toArray.all (·.oneCell') = true := by
                  rw [List.all_toArray, List.all_eq_true]
                  intro v hv
                  rw [HLL2.out] at hv
                  obtain ⟨n, _, rfl⟩ := List.mem_map.1 hv
                  rfl
                have HL32 := hide hL32
                have HL1 := hide hL1
                clear ho hh h1 hb hlt hi hL32 hL1 HH
                go_wp2_with (first | (refine wpList_load_row rfl 39 (.tmp 10) rfl go rfl 39 L.toArray (0, 0) _ HO.out Tryz.under22 rfl (by rw [HL32.out]; exact Tryz.info22) ?_) | (refine wpList_store_row rfl 39 (.tmp 4) (.tmp 67) rfl (w.heap.size + 1) L.toArray rfl rfl 39 z H1.out (by rw [HL32.out]; exact Tryz.info22) (by rw [HL32.out, HZ.out]) HL1.out ?_))
                refine bodyPost_ret (v := .agg L.toArray) ?_ rfl ⟨rfl, below_setRow HB.out (by omega) _⟩
                exact results_cell_row rfl _ _ (w.heap.size + 1) 39 L.toArray (0, 0) _ rfl (setRow_heap _ _ _ _ _ _ H1.out) Tryz.under22 rfl (by rw [HL32.out]; exact Tryz.info22)
end Go.Proofs.YtenaelkbgkpllaaGreatDoor
