/- The law's turned: a byte turned. -/
import Derived.Test.YtenaelkbgkpllaaGreatDoorVerified29
import Derived.Test.YtenaelkbgkpllaaGreatDoorVerified28
namespace Go.Proofs.YtenaelkbgkpllaaGreatDoor
open Go.RowKit

set_option maxRecDepth 100000 in
set_option maxHeartbeats 2000000 in
theorem turned_rest (s : List UInt8) (a : Int) (w : World) (hs : s ≠ []) (hl : s.length ≤ 1000000000000) (a1 : 0 ≤ a) (a2 : a ≤ 9223372036854775807) (h8 : a % 8 ≠ 0 ∧ a % 8 ≠ 1 ∧ a % 8 ≠ 2 ∧ a % 8 ≠ 3) : Calls Tryz.prog 62 #[Sv s, I a] w fun e w' => TextOut w (2 * s.length + 1) e w' := by
  have hz : (⟨s.toArray⟩ : ByteArray).size = s.length := by show s.toArray.size = _; rw [List.size_toArray]
  have hn : 0 < s.length := List.length_pos_iff.2 hs
  have hne : ¬ (s.length : Int) = 0 := by omega
  have ha : ¬ a < 0 := by omega
  have hnb : ((s.length : Int) == 0) = false := by simpa using hne
  have hab : decide (a < 0) = false := by simpa using a1
  go_enter Tryz.func62, Tryz.ntmps62
  go_upto_region 8 with fail
  have hm0 := Int.emod_nonneg (a / 8) hne
  have hm1 := Int.emod_lt_of_pos (a / 8) (show (0 : Int) < (s.length : Int) by omega)
  obtain ⟨i, hi⟩ : ∃ i : Nat, a / 8 % (s.length : Int) = (i : Int) := ⟨(a / 8 % (s.length : Int)).toNat, by omega⟩
  rw [hi] at hm0 hm1 ⊢
  have hil : i < s.length := by omega
  have hv0 : 0 ≤ wrap64 (1 + (a / 8 / (s.length : Int)).tmod 255) % 256 := Int.emod_nonneg _ (by decide)
  have hv1 : wrap64 (1 + (a / 8 / (s.length : Int)).tmod 255) % 256 < 256 := Int.emod_lt_of_pos _ (by decide)
  generalize (wrap64 (1 + (a / 8 / (s.length : Int)).tmod 255) % 256) = vv at *
  obtain ⟨bv, hbv⟩ : ∃ bv : UInt8, vv = (bv.toNat : Int) := ⟨UInt8.ofNat vv.toNat, by simp; omega⟩
  subst hbv
  generalize (a / 8 / (s.length : Int)) = qq
  have hs1 := slice_to s i (by omega)
  have hs2 := slice_from s i (by omega)
  have hs3 : ∀ W, (Instr.slice 9 (Sv s) (some (.int .i64 ((i : Int) + 1))) none none).run Tryz.prog W = .ok (Sv (s.drop (i + 1))) W := fun W => by
    have h := slice_from s (i + 1) (by omega) W
    have e : ((i + 1 : Nat) : Int) = (i : Int) + 1 := by omega
    rw [e] at h
    exact h
  have l1 : (s.take i).length ≤ s.length := by rw [List.length_take]; omega
  have l2 : (s.drop i).length ≤ s.length := by rw [List.length_drop]; omega
  have l3 : (s.drop (i + 1)).length ≤ s.length := by rw [List.length_drop]; omega
  have hwi : IntKind.i64.wrap ((i : Int) + 1) = (i : Int) + 1 := by rw [IntKind.wrap_i64]; omega
  obtain ⟨e0, e1, e2, e3⟩ := h8
  have hix := idx_str ⟨s.toArray⟩ (i : Int) i rfl (by rw [hz]; omega)
  generalize a % 8 = r8 at *
  go_upto_region 16 with fail
  refine wp_region_L 16 (fun _ => True) (by kernel_rfl) trivial (fun hH => ?_)
  refine wpAnyL_take (i := 0) (v := ?_) rfl (by kernel_rfl) (by kernel_rfl) (by kernel_rfl) (by kernel_rfl) (by kernel_rfl) (fun _ _ _ h => h) (Or.inl ⟨by rfl, ?_⟩) hH ?_
  rotate_left
  · intro W hSW
    clear hSW
    go_simp
    try with_reducible rfl
  try go_simp
  refine wpAnyL_take (i := 1) (v := ?_) rfl (by kernel_rfl) (by kernel_rfl) (by kernel_rfl) (by kernel_rfl) (by kernel_rfl) (fun _ _ _ h => h) (Or.inl ⟨by rfl, ?_⟩) hH ?_
  rotate_left
  · intro W hSW
    clear hSW
    go_simp
    try with_reducible rfl
  try go_simp
  refine wpAnyL_take (i := 2) (v := ?_) rfl (by kernel_rfl) (by kernel_rfl) (by kernel_rfl) (by kernel_rfl) (by kernel_rfl) (fun _ _ _ h => h) (Or.inl ⟨by rfl, ?_⟩) hH ?_
  rotate_left
  · intro W hSW
    clear hSW
    go_simp
    try with_reducible rfl
  try go_simp
  refine wpAnyL_take (i := 3) (v := ?_) rfl (by kernel_rfl) (by kernel_rfl) (by kernel_rfl) (by kernel_rfl) (by kernel_rfl) (fun _ _ _ h => h) (Or.inl ⟨by rfl, ?_⟩) hH ?_
  rotate_left
  · intro W hSW
    clear hSW
    go_simp
    try with_reducible rfl
  try go_simp
  refine wpAnyL_take (i := 4) (v := ?_) rfl (by kernel_rfl) (by kernel_rfl) (by kernel_rfl) (by kernel_rfl) (by kernel_rfl) (fun _ _ _ h => h) (Or.inl ⟨by rfl, ?_⟩) hH ?_
  rotate_left
  · intro W hSW
    clear hSW
    go_simp
    try with_reducible rfl
  try go_simp
  refine wpAnyL_take (i := 5) (v := ?_) rfl (by kernel_rfl) (by kernel_rfl) (by kernel_rfl) (by kernel_rfl) (by kernel_rfl) (fun _ _ _ h => h) (Or.inl ⟨by rfl, ?_⟩) hH ?_
  rotate_left
  · intro W hSW
    clear hSW
    go_simp
    try with_reducible rfl
  try go_simp
  refine wpAnyL_take (i := 6) (v := ?_) rfl (by kernel_rfl) (by kernel_rfl) (by kernel_rfl) (by kernel_rfl) (by kernel_rfl) (fun _ _ _ h => h) (Or.inl ⟨by rfl, ?_⟩) hH ?_
  rotate_left
  · intro W hSW
    clear hSW
    go_simp
    try with_reducible rfl
  try go_simp
  refine wpAnyL_take (i := 7) (v := ?_) rfl (by kernel_rfl) (by kernel_rfl) (by kernel_rfl) (by kernel_rfl) (by kernel_rfl) (fun _ _ _ h => h) (Or.inl ⟨by rfl, ?_⟩) hH ?_
  rotate_left
  · intro W hSW
    clear hSW
    go_simp
    try with_reducible rfl
  try go_simp
  have hxb := bounds_u8 (wf_bits .xor .u8 (Sha.byteAt s i : Int) (bv.toNat : Int))
  generalize bits .xor .u8 (Sha.byteAt s i : Int) (bv.toNat : Int) = xv at *
  obtain ⟨bx, hbx⟩ : ∃ bx : UInt8, xv = (bx.toNat : Int) := ⟨UInt8.ofNat xv.toNat, by simp; omega⟩
  subst hbx
  have ha1 := add_str (s.take i) [bx] (by simp; omega)
  have ha2 := add_str (s.take i ++ [bx]) (s.drop (i + 1)) (by simp; omega)
  have hcv : (convert 59 9 (.slice (some ⟨w.heap.size, 0, none⟩) 1 1)).run Tryz.prog ((w.alloc (.cells #[.int .u8 (bx.toNat : Int)] 5)).drew) = .ok (Sv [bx]) ((w.alloc (.cells #[.int .u8 (bx.toNat : Int)] 5)).drew) := conv_bytes w.heap.size 1 1 [bx] rfl _ (fun j u hj => by
    match j, hj with
    | 0, hj => simp at hj; subst hj; exact (cell_of_row ((w.alloc (.cells #[.int .u8 (bx.toNat : Int)] 5)).drew) w.heap.size 0 #[.int .u8 (bx.toNat : Int)] 5 (0, 0) (heap_alloc_new w _)).trans rfl)
  refine wpAnyL_take (i := 11) (v := ?_) rfl (by kernel_rfl) (by kernel_rfl) (by kernel_rfl) (by kernel_rfl) (by kernel_rfl) (fun _ _ _ h => h) (Or.inl ⟨by rfl, ?_⟩) hH ?_
  rotate_left
  · intro W hSW
    clear hSW
    go_simp
    try with_reducible rfl
  try go_simp
  refine wpAnyL_take (i := 12) (v := ?_) rfl (by kernel_rfl) (by kernel_rfl) (by kernel_rfl) (by kernel_rfl) (by kernel_rfl) (fun _ _ _ h => h) (Or.inl ⟨by rfl, ?_⟩) hH ?_
  rotate_left
  · intro W hSW
    clear hSW
    go_simp
    try with_reducible rfl
  try go_simp
  refine wpAnyL_take (i := 13) (v := ?_) rfl (by kernel_rfl) (by kernel_rfl) (by kernel_rfl) (by kernel_rfl) (by kernel_rfl) (fun _ _ _ h => h) (Or.inl ⟨by rfl, ?_⟩) hH ?_
  rotate_left
  · intro W hSW
    clear hSW
    go_simp
    try with_reducible rfl
  try go_simp
  refine wpAnyL_take (i := 14) (v := ?_) rfl (by kernel_rfl) (by kernel_rfl) (by kernel_rfl) (by kernel_rfl) (by kernel_rfl) (fun _ _ _ h => h) (Or.inl ⟨by rfl, ?_⟩) hH ?_
  rotate_left
  · intro W hSW
    clear hSW
    go_simp
    try with_reducible rfl
  try go_simp
  refine wpAnyL_one (i := 8) (by kernel_rfl) rfl (fun K hK => ?_)
  go_simp
  refine hK.out _ _ (fun _ => trivial) ?_
  clear hK K
  try go_simp
  refine wpAnyL_one (i := 9) (by kernel_rfl) rfl (fun K hK => ?_)
  go_simp
  refine hK.out _ _ (fun _ => trivial) ?_
  clear hK K
  try go_simp
  refine wpAnyL_one (i := 10) (by kernel_rfl) rfl (fun K hK => ?_)
  go_simp
  refine hK.out _ _ (fun _ => trivial) ?_
  clear hK K
  try go_simp
  refine wpAnyL_one (i := 15) (by kernel_rfl) rfl (fun K hK => ?_)
  go_simp
  refine hK.out _ _ (fun _ => trivial) ?_
  clear hK K
  try go_simp
  refine wpAnyL_one (i := 16) (by kernel_rfl) rfl (fun K hK => ?_)
  go_simp
  refine hK.out _ _ (fun h => absurd rfl h) ?_
  clear hK K
  refine wpAnyL_done (by kernel_rfl) ?_ _
  have hb9 := ((Below.refl w.heap.size w).alloc (Nat.le_refl _) (.cells #[.int .u8 (bx.toNat : Int)] 5)).drew
  generalize (w.alloc (.cells #[.int .u8 (bx.toNat : Int)] 5)).drew = w9 at *
  have HB := hide hb9
  clear hb9 hcv
  go_wp2_with fail
  go_ret
  exact ⟨⟨s.take i ++ [bx] ++ s.drop (i + 1), by simp, by simp; omega⟩, HB.out⟩
end Go.Proofs.YtenaelkbgkpllaaGreatDoor
/- The law's turned, where the number is below nothing; turned, whatever it is. -/
namespace Go.Proofs.YtenaelkbgkpllaaGreatDoor
open Go.RowKit

set_option maxRecDepth 100000 in
set_option maxHeartbeats 2000000 in
theorem turned_neg (s : List UInt8) (a : Int) (w : World) (hs : s ≠ []) (hl : s.length ≤ 1000000000000) (a1 : -9223372036854775808 ≤ a) (a2 : a < 0) (h8 : (-(a + 1)) % 8 = 0 ∨ (-(a + 1)) % 8 = 1 ∨ (-(a + 1)) % 8 = 3) : Calls Tryz.prog 62 #[Sv s, I a] w fun e w' => TextOut w (2 * s.length + 1) e w' := by
  have hz : (⟨s.toArray⟩ : ByteArray).size = s.length := by show s.toArray.size = _; rw [List.size_toArray]
  have hn : 0 < s.length := List.length_pos_iff.2 hs
  have hne : ¬ (s.length : Int) = 0 := by omega
  have b1 : 0 ≤ -(a + 1) := by omega
  have b2 : -(a + 1) ≤ 9223372036854775807 := by omega
  have hnb : ((s.length : Int) == 0) = false := by simpa using hne
  have hab : decide (a < 0) = true := by simpa using a2
  go_enter Tryz.func62, Tryz.ntmps62
  go_upto_region 5 with fail
  generalize -(a + 1) = b at *
  go_upto_region 8 with fail
  have hm0 := Int.emod_nonneg (b / 8) hne
  have hm1 := Int.emod_lt_of_pos (b / 8) (show (0 : Int) < (s.length : Int) by omega)
  obtain ⟨i, hi⟩ : ∃ i : Nat, b / 8 % (s.length : Int) = (i : Int) := ⟨(b / 8 % (s.length : Int)).toNat, by omega⟩
  rw [hi] at hm0 hm1 ⊢
  have hil : i < s.length := by omega
  generalize (wrap64 (1 + (b / 8 / (s.length : Int)).tmod 255) % 256) = vv
  generalize (b / 8 / (s.length : Int)) = qq
  have hs1 := slice_to s i (by omega)
  have hs2 := slice_from s i (by omega)
  have hs3 : ∀ W, (Instr.slice 9 (Sv s) (some (.int .i64 ((i : Int) + 1))) none none).run Tryz.prog W = .ok (Sv (s.drop (i + 1))) W := fun W => by
    have h := slice_from s (i + 1) (by omega) W
    have e : ((i + 1 : Nat) : Int) = (i : Int) + 1 := by omega
    rw [e] at h
    exact h
  have l1 : (s.take i).length ≤ s.length := by rw [List.length_take]; omega
  have l2 : (s.drop i).length ≤ s.length := by rw [List.length_drop]; omega
  have l3 : (s.drop (i + 1)).length ≤ s.length := by rw [List.length_drop]; omega
  have hwi : IntKind.i64.wrap ((i : Int) + 1) = (i : Int) + 1 := by rw [IntKind.wrap_i64]; omega
  rcases h8 with h8 | h8 | h8
  · rw [h8]
    go_wp2_with fail
    go_ret
    exact ⟨⟨_, rfl, by omega⟩, Below.refl _ _⟩
  · rw [h8]
    have ha1 := add_str (s.take i) (s.drop (i + 1)) (by omega)
    go_wp2_with fail
    go_quiet (fail)
    generalize hW : World.drewN w nq = w9
    have HB := hide (show Below w.heap.size w w9 by rw [← hW]; exact ⟨rfl, rfl, rfl, Nat.le_refl _, fun _ _ => rfl⟩)
    clear hW
    go_wp2_with fail
    go_ret
    exact ⟨⟨s.take i ++ s.drop (i + 1), rfl, by rw [List.length_append]; omega⟩, HB.out⟩
  · rw [h8]
    have ha1 := add_str s (s.drop i) (by omega)
    go_wp2_with fail
    go_ret
    exact ⟨⟨s ++ s.drop i, rfl, by rw [List.length_append]; omega⟩, Below.refl _ _⟩
set_option maxRecDepth 100000 in
set_option maxHeartbeats 2000000 in
theorem turned_twoN (s : List UInt8) (a : Int) (w : World) (hs : s ≠ []) (hl : s.length ≤ 1000000000000) (a1 : -9223372036854775808 ≤ a) (a2 : a < 0) (h8 : (-(a + 1)) % 8 = 2) : Calls Tryz.prog 62 #[Sv s, I a] w fun e w' => TextOut w (2 * s.length + 1) e w' := by
  have hz : (⟨s.toArray⟩ : ByteArray).size = s.length := by show s.toArray.size = _; rw [List.size_toArray]
  have hn : 0 < s.length := List.length_pos_iff.2 hs
  have hne : ¬ (s.length : Int) = 0 := by omega
  have b1 : 0 ≤ -(a + 1) := by omega
  have b2 : -(a + 1) ≤ 9223372036854775807 := by omega
  have hnb : ((s.length : Int) == 0) = false := by simpa using hne
  have hab : decide (a < 0) = true := by simpa using a2
  go_enter Tryz.func62, Tryz.ntmps62
  go_upto_region 5 with fail
  generalize -(a + 1) = b at *
  go_upto_region 8 with fail
  have hm0 := Int.emod_nonneg (b / 8) hne
  have hm1 := Int.emod_lt_of_pos (b / 8) (show (0 : Int) < (s.length : Int) by omega)
  obtain ⟨i, hi⟩ : ∃ i : Nat, b / 8 % (s.length : Int) = (i : Int) := ⟨(b / 8 % (s.length : Int)).toNat, by omega⟩
  rw [hi] at hm0 hm1 ⊢
  have hil : i < s.length := by omega
  have hv0 : 0 ≤ wrap64 (1 + (b / 8 / (s.length : Int)).tmod 255) % 256 := Int.emod_nonneg _ (by decide)
  have hv1 : wrap64 (1 + (b / 8 / (s.length : Int)).tmod 255) % 256 < 256 := Int.emod_lt_of_pos _ (by decide)
  generalize (wrap64 (1 + (b / 8 / (s.length : Int)).tmod 255) % 256) = vv at *
  obtain ⟨bv, hbv⟩ : ∃ bv : UInt8, vv = (bv.toNat : Int) := ⟨UInt8.ofNat vv.toNat, by simp; omega⟩
  subst hbv
  generalize (b / 8 / (s.length : Int)) = qq
  have hs1 := slice_to s i (by omega)
  have hs2 := slice_from s i (by omega)
  have hs3 : ∀ W, (Instr.slice 9 (Sv s) (some (.int .i64 ((i : Int) + 1))) none none).run Tryz.prog W = .ok (Sv (s.drop (i + 1))) W := fun W => by
    have h := slice_from s (i + 1) (by omega) W
    have e : ((i + 1 : Nat) : Int) = (i : Int) + 1 := by omega
    rw [e] at h
    exact h
  have l1 : (s.take i).length ≤ s.length := by rw [List.length_take]; omega
  have l2 : (s.drop i).length ≤ s.length := by rw [List.length_drop]; omega
  have l3 : (s.drop (i + 1)).length ≤ s.length := by rw [List.length_drop]; omega
  have hwi : IntKind.i64.wrap ((i : Int) + 1) = (i : Int) + 1 := by rw [IntKind.wrap_i64]; omega
  rw [h8]
  have ha1 := add_str (s.take i) [bv] (by simp; omega)
  have ha2 := add_str (s.take i ++ [bv]) (s.drop i) (by simp; omega)
  have hcv : (convert 59 9 (.slice (some ⟨w.heap.size, 0, none⟩) 1 1)).run Tryz.prog ((w.alloc (.cells #[.int .u8 (bv.toNat : Int)] 5)).drew) = .ok (Sv [bv]) ((w.alloc (.cells #[.int .u8 (bv.toNat : Int)] 5)).drew) := conv_bytes w.heap.size 1 1 [bv] rfl _ (fun j u hj => by
    match j, hj with
    | 0, hj => simp at hj; subst hj; exact (cell_of_row ((w.alloc (.cells #[.int .u8 (bv.toNat : Int)] 5)).drew) w.heap.size 0 #[.int .u8 (bv.toNat : Int)] 5 (0, 0) (heap_alloc_new w _)).trans rfl)
  go_upto_region 13 with fail
  refine wp_region_L 11 (fun _ => True) (by kernel_rfl) trivial (fun hH => ?_)
  refine wpAnyL_take (i := 0) (v := ?_) rfl (by kernel_rfl) (by kernel_rfl) (by kernel_rfl) (by kernel_rfl) (by kernel_rfl) (fun _ _ _ h => h) (Or.inl ⟨by rfl, ?_⟩) hH ?_
  rotate_left
  · intro W hSW
    clear hSW
    go_simp
    try with_reducible rfl
  try go_simp
  refine wpAnyL_take (i := 1) (v := ?_) rfl (by kernel_rfl) (by kernel_rfl) (by kernel_rfl) (by kernel_rfl) (by kernel_rfl) (fun _ _ _ h => h) (Or.inl ⟨by rfl, ?_⟩) hH ?_
  rotate_left
  · intro W hSW
    clear hSW
    go_simp
    try with_reducible rfl
  try go_simp
  refine wpAnyL_take (i := 2) (v := ?_) rfl (by kernel_rfl) (by kernel_rfl) (by kernel_rfl) (by kernel_rfl) (by kernel_rfl) (fun _ _ _ h => h) (Or.inl ⟨by rfl, ?_⟩) hH ?_
  rotate_left
  · intro W hSW
    clear hSW
    go_simp
    try with_reducible rfl
  try go_simp
  refine wpAnyL_take (i := 3) (v := ?_) rfl (by kernel_rfl) (by kernel_rfl) (by kernel_rfl) (by kernel_rfl) (by kernel_rfl) (fun _ _ _ h => h) (Or.inl ⟨by rfl, ?_⟩) hH ?_
  rotate_left
  · intro W hSW
    clear hSW
    go_simp
    try with_reducible rfl
  try go_simp
  refine wpAnyL_take (i := 7) (v := ?_) rfl (by kernel_rfl) (by kernel_rfl) (by kernel_rfl) (by kernel_rfl) (by kernel_rfl) (fun _ _ _ h => h) (Or.inl ⟨by rfl, ?_⟩) hH ?_
  rotate_left
  · intro W hSW
    clear hSW
    go_simp
    try with_reducible rfl
  try go_simp
  refine wpAnyL_take (i := 8) (v := ?_) rfl (by kernel_rfl) (by kernel_rfl) (by kernel_rfl) (by kernel_rfl) (by kernel_rfl) (fun _ _ _ h => h) (Or.inl ⟨by rfl, ?_⟩) hH ?_
  rotate_left
  · intro W hSW
    clear hSW
    go_simp
    try with_reducible rfl
  try go_simp
  refine wpAnyL_take (i := 9) (v := ?_) rfl (by kernel_rfl) (by kernel_rfl) (by kernel_rfl) (by kernel_rfl) (by kernel_rfl) (fun _ _ _ h => h) (Or.inl ⟨by rfl, ?_⟩) hH ?_
  rotate_left
  · intro W hSW
    clear hSW
    go_simp
    try with_reducible rfl
  try go_simp
  refine wpAnyL_one (i := 4) (by kernel_rfl) rfl (fun K hK => ?_)
  go_simp
  refine hK.out _ _ (fun _ => trivial) ?_
  clear hK K
  try go_simp
  refine wpAnyL_one (i := 5) (by kernel_rfl) rfl (fun K hK => ?_)
  go_simp
  refine hK.out _ _ (fun _ => trivial) ?_
  clear hK K
  try go_simp
  refine wpAnyL_one (i := 6) (by kernel_rfl) rfl (fun K hK => ?_)
  go_simp
  refine hK.out _ _ (fun _ => trivial) ?_
  clear hK K
  try go_simp
  refine wpAnyL_one (i := 10) (by kernel_rfl) rfl (fun K hK => ?_)
  go_simp
  refine hK.out _ _ (fun _ => trivial) ?_
  clear hK K
  try go_simp
  refine wpAnyL_one (i := 11) (by kernel_rfl) rfl (fun K hK => ?_)
  go_simp
  refine hK.out _ _ (fun h => absurd rfl h) ?_
  clear hK K
  refine wpAnyL_done (by kernel_rfl) ?_ _
  have hb9 := ((Below.refl w.heap.size w).alloc (Nat.le_refl _) (.cells #[.int .u8 (bv.toNat : Int)] 5)).drew
  generalize (w.alloc (.cells #[.int .u8 (bv.toNat : Int)] 5)).drew = w9 at *
  have HB := hide hb9
  clear hb9 hcv
  go_wp2_with fail
  go_ret
  exact ⟨⟨s.take i ++ [bv] ++ s.drop i, by simp, by simp; omega⟩, HB.out⟩
set_option maxRecDepth 100000 in
set_option maxHeartbeats 2000000 in
theorem turned_restN (s : List UInt8) (a : Int) (w : World) (hs : s ≠ []) (hl : s.length ≤ 1000000000000) (a1 : -9223372036854775808 ≤ a) (a2 : a < 0) (h8 : (-(a + 1)) % 8 ≠ 0 ∧ (-(a + 1)) % 8 ≠ 1 ∧ (-(a + 1)) % 8 ≠ 2 ∧ (-(a + 1)) % 8 ≠ 3) : Calls Tryz.prog 62 #[Sv s, I a] w fun e w' => TextOut w (2 * s.length + 1) e w' := by
  have hz : (⟨s.toArray⟩ : ByteArray).size = s.length := by show s.toArray.size = _; rw [List.size_toArray]
  have hn : 0 < s.length := List.length_pos_iff.2 hs
  have hne : ¬ (s.length : Int) = 0 := by omega
  have b1 : 0 ≤ -(a + 1) := by omega
  have b2 : -(a + 1) ≤ 9223372036854775807 := by omega
  have hnb : ((s.length : Int) == 0) = false := by simpa using hne
  have hab : decide (a < 0) = true := by simpa using a2
  go_enter Tryz.func62, Tryz.ntmps62
  go_upto_region 5 with fail
  generalize -(a + 1) = b at *
  go_upto_region 8 with fail
  have hm0 := Int.emod_nonneg (b / 8) hne
  have hm1 := Int.emod_lt_of_pos (b / 8) (show (0 : Int) < (s.length : Int) by omega)
  obtain ⟨i, hi⟩ : ∃ i : Nat, b / 8 % (s.length : Int) = (i : Int) := ⟨(b / 8 % (s.length : Int)).toNat, by omega⟩
  rw [hi] at hm0 hm1 ⊢
  have hil : i < s.length := by omega
  have hv0 : 0 ≤ wrap64 (1 + (b / 8 / (s.length : Int)).tmod 255) % 256 := Int.emod_nonneg _ (by decide)
  have hv1 : wrap64 (1 + (b / 8 / (s.length : Int)).tmod 255) % 256 < 256 := Int.emod_lt_of_pos _ (by decide)
  generalize (wrap64 (1 + (b / 8 / (s.length : Int)).tmod 255) % 256) = vv at *
  obtain ⟨bv, hbv⟩ : ∃ bv : UInt8, vv = (bv.toNat : Int) := ⟨UInt8.ofNat vv.toNat, by simp; omega⟩
  subst hbv
  generalize (b / 8 / (s.length : Int)) = qq
  have hs1 := slice_to s i (by omega)
  have hs2 := slice_from s i (by omega)
  have hs3 : ∀ W, (Instr.slice 9 (Sv s) (some (.int .i64 ((i : Int) + 1))) none none).run Tryz.prog W = .ok (Sv (s.drop (i + 1))) W := fun W => by
    have h := slice_from s (i + 1) (by omega) W
    have e : ((i + 1 : Nat) : Int) = (i : Int) + 1 := by omega
    rw [e] at h
    exact h
  have l1 : (s.take i).length ≤ s.length := by rw [List.length_take]; omega
  have l2 : (s.drop i).length ≤ s.length := by rw [List.length_drop]; omega
  have l3 : (s.drop (i + 1)).length ≤ s.length := by rw [List.length_drop]; omega
  have hwi : IntKind.i64.wrap ((i : Int) + 1) = (i : Int) + 1 := by rw [IntKind.wrap_i64]; omega
  obtain ⟨e0, e1, e2, e3⟩ := h8
  have hix := idx_str ⟨s.toArray⟩ (i : Int) i rfl (by rw [hz]; omega)
  generalize b % 8 = r8 at *
  go_upto_region 16 with fail
  refine wp_region_L 16 (fun _ => True) (by kernel_rfl) trivial (fun hH => ?_)
  refine wpAnyL_take (i := 0) (v := ?_) rfl (by kernel_rfl) (by kernel_rfl) (by kernel_rfl) (by kernel_rfl) (by kernel_rfl) (fun _ _ _ h => h) (Or.inl ⟨by rfl, ?_⟩) hH ?_
  rotate_left
  · intro W hSW
    clear hSW
    go_simp
    try with_reducible rfl
  try go_simp
  refine wpAnyL_take (i := 1) (v := ?_) rfl (by kernel_rfl) (by kernel_rfl) (by kernel_rfl) (by kernel_rfl) (by kernel_rfl) (fun _ _ _ h => h) (Or.inl ⟨by rfl, ?_⟩) hH ?_
  rotate_left
  · intro W hSW
    clear hSW
    go_simp
    try with_reducible rfl
  try go_simp
  refine wpAnyL_take (i := 2) (v := ?_) rfl (by kernel_rfl) (by kernel_rfl) (by kernel_rfl) (by kernel_rfl) (by kernel_rfl) (fun _ _ _ h => h) (Or.inl ⟨by rfl, ?_⟩) hH ?_
  rotate_left
  · intro W hSW
    clear hSW
    go_simp
    try with_reducible rfl
  try go_simp
  refine wpAnyL_take (i := 3) (v := ?_) rfl (by kernel_rfl) (by kernel_rfl) (by kernel_rfl) (by kernel_rfl) (by kernel_rfl) (fun _ _ _ h => h) (Or.inl ⟨by rfl, ?_⟩) hH ?_
  rotate_left
  · intro W hSW
    clear hSW
    go_simp
    try with_reducible rfl
  try go_simp
  refine wpAnyL_take (i := 4) (v := ?_) rfl (by kernel_rfl) (by kernel_rfl) (by kernel_rfl) (by kernel_rfl) (by kernel_rfl) (fun _ _ _ h => h) (Or.inl ⟨by rfl, ?_⟩) hH ?_
  rotate_left
  · intro W hSW
    clear hSW
    go_simp
    try with_reducible rfl
  try go_simp
  refine wpAnyL_take (i := 5) (v := ?_) rfl (by kernel_rfl) (by kernel_rfl) (by kernel_rfl) (by kernel_rfl) (by kernel_rfl) (fun _ _ _ h => h) (Or.inl ⟨by rfl, ?_⟩) hH ?_
  rotate_left
  · intro W hSW
    clear hSW
    go_simp
    try with_reducible rfl
  try go_simp
  refine wpAnyL_take (i := 6) (v := ?_) rfl (by kernel_rfl) (by kernel_rfl) (by kernel_rfl) (by kernel_rfl) (by kernel_rfl) (fun _ _ _ h => h) (Or.inl ⟨by rfl, ?_⟩) hH ?_
  rotate_left
  · intro W hSW
    clear hSW
    go_simp
    try with_reducible rfl
  try go_simp
  refine wpAnyL_take (i := 7) (v := ?_) rfl (by kernel_rfl) (by kernel_rfl) (by kernel_rfl) (by kernel_rfl) (by kernel_rfl) (fun _ _ _ h => h) (Or.inl ⟨by rfl, ?_⟩) hH ?_
  rotate_left
  · intro W hSW
    clear hSW
    go_simp
    try with_reducible rfl
  try go_simp
  have hxb := bounds_u8 (wf_bits .xor .u8 (Sha.byteAt s i : Int) (bv.toNat : Int))
  generalize bits .xor .u8 (Sha.byteAt s i : Int) (bv.toNat : Int) = xv at *
  obtain ⟨bx, hbx⟩ : ∃ bx : UInt8, xv = (bx.toNat : Int) := ⟨UInt8.ofNat xv.toNat, by simp; omega⟩
  subst hbx
  have ha1 := add_str (s.take i) [bx] (by simp; omega)
  have ha2 := add_str (s.take i ++ [bx]) (s.drop (i + 1)) (by simp; omega)
  have hcv : (convert 59 9 (.slice (some ⟨w.heap.size, 0, none⟩) 1 1)).run Tryz.prog ((w.alloc (.cells #[.int .u8 (bx.toNat : Int)] 5)).drew) = .ok (Sv [bx]) ((w.alloc (.cells #[.int .u8 (bx.toNat : Int)] 5)).drew) := conv_bytes w.heap.size 1 1 [bx] rfl _ (fun j u hj => by
    match j, hj with
    | 0, hj => simp at hj; subst hj; exact (cell_of_row ((w.alloc (.cells #[.int .u8 (bx.toNat : Int)] 5)).drew) w.heap.size 0 #[.int .u8 (bx.toNat : Int)] 5 (0, 0) (heap_alloc_new w _)).trans rfl)
  refine wpAnyL_take (i := 11) (v := ?_) rfl (by kernel_rfl) (by kernel_rfl) (by kernel_rfl) (by kernel_rfl) (by kernel_rfl) (fun _ _ _ h => h) (Or.inl ⟨by rfl, ?_⟩) hH ?_
  rotate_left
  · intro W hSW
    clear hSW
    go_simp
    try with_reducible rfl
  try go_simp
  refine wpAnyL_take (i := 12) (v := ?_) rfl (by kernel_rfl) (by kernel_rfl) (by kernel_rfl) (by kernel_rfl) (by kernel_rfl) (fun _ _ _ h => h) (Or.inl ⟨by rfl, ?_⟩) hH ?_
  rotate_left
  · intro W hSW
    clear hSW
    go_simp
    try with_reducible rfl
  try go_simp
  refine wpAnyL_take (i := 13) (v := ?_) rfl (by kernel_rfl) (by kernel_rfl) (by kernel_rfl) (by kernel_rfl) (by kernel_rfl) (fun _ _ _ h => h) (Or.inl ⟨by rfl, ?_⟩) hH ?_
  rotate_left
  · intro W hSW
    clear hSW
    go_simp
    try with_reducible rfl
  try go_simp
  refine wpAnyL_take (i := 14) (v := ?_) rfl (by kernel_rfl) (by kernel_rfl) (by kernel_rfl) (by kernel_rfl) (by kernel_rfl) (fun _ _ _ h => h) (Or.inl ⟨by rfl, ?_⟩) hH ?_
  rotate_left
  · intro W hSW
    clear hSW
    go_simp
    try with_reducible rfl
  try go_simp
  refine wpAnyL_one (i := 8) (by kernel_rfl) rfl (fun K hK => ?_)
  go_simp
  refine hK.out _ _ (fun _ => trivial) ?_
  clear hK K
  try go_simp
  refine wpAnyL_one (i := 9) (by kernel_rfl) rfl (fun K hK => ?_)
  go_simp
  refine hK.out _ _ (fun _ => trivial) ?_
  clear hK K
  try go_simp
  refine wpAnyL_one (i := 10) (by kernel_rfl) rfl (fun K hK => ?_)
  go_simp
  refine hK.out _ _ (fun _ => trivial) ?_
  clear hK K
  try go_simp
  refine wpAnyL_one (i := 15) (by kernel_rfl) rfl (fun K hK => ?_)
  go_simp
  refine hK.out _ _ (fun _ => trivial) ?_
  clear hK K
  try go_simp
  refine wpAnyL_one (i := 16) (by kernel_rfl) rfl (fun K hK => ?_)
  go_simp
  refine hK.out _ _ (fun h => absurd rfl h) ?_
  clear hK K
  refine wpAnyL_done (by kernel_rfl) ?_ _
  have hb9 := ((Below.refl w.heap.size w).alloc (Nat.le_refl _) (.cells #[.int .u8 (bx.toNat : Int)] 5)).drew
  generalize (w.alloc (.cells #[.int .u8 (bx.toNat : Int)] 5)).drew = w9 at *
  have HB := hide hb9
  clear hb9 hcv
  go_wp2_with fail
  go_ret
  exact ⟨⟨s.take i ++ [bx] ++ s.drop (i + 1), by simp, by simp; omega⟩, HB.out⟩
/-- turned, whatever the text and the number -/
theorem turned_any (s : List UInt8) (a : Int) (w : World) (hl : s.length ≤ 1000000000000) (ha : I64 a) : Calls Tryz.prog 62 #[Sv s, I a] w fun e w' => TextOut w (2 * s.length + 1) e w' := by
  by_cases hs : s = []
  · subst hs
    refine (turned_nil a w).mono ?_
    rintro e w' ⟨⟨t, e, ht⟩, hb⟩
    exact ⟨⟨t, e, by simp; omega⟩, hb⟩
  · obtain ⟨a1, a2⟩ := ha
    by_cases hn : a < 0
    · by_cases h1 : (-(a + 1)) % 8 = 0 ∨ (-(a + 1)) % 8 = 1 ∨ (-(a + 1)) % 8 = 3
      · exact turned_neg s a w hs hl a1 hn h1
      · by_cases h2 : (-(a + 1)) % 8 = 2
        · exact turned_twoN s a w hs hl a1 hn h2
        · exact turned_restN s a w hs hl a1 hn ⟨fun e => h1 (.inl e), fun e => h1 (.inr (.inl e)), h2, fun e => h1 (.inr (.inr e))⟩
    · by_cases h1 : a % 8 = 0 ∨ a % 8 = 1 ∨ a % 8 = 3
      · exact turned_pos s a w hs hl (by omega) a2 h1
      · by_cases h2 : a % 8 = 2
        · exact turned_two s a w hs hl (by omega) a2 h2
        · exact turned_rest s a w hs hl (by omega) a2 ⟨fun e => h1 (.inl e), fun e => h1 (.inr (.inl e)), h2, fun e => h1 (.inr (.inr e))⟩
end Go.Proofs.YtenaelkbgkpllaaGreatDoor
/- The law's plays, whatever its steps are. -/
namespace Go.Proofs.YtenaelkbgkpllaaGreatDoor
open Go.RowKit

/-- a step answers as it should -/
def StepOk (w0 : World) (most : Int) : Prop := ∀ (w : World) (W0 n : Nat) (o : Opn), o.Fit → o.kind ≤ most → n ≤ 1000000000000 → InvE w0 w W0 n → Calls Tryz.prog 28 #[.pointer (some ⟨W0, 0, none⟩), .agg (opV o).toArray] w fun e w' => e = .returned (.bool true) ∧ InvE w0 w' W0 (n + 1)
/-- the law's world at first -/
theorem law_start {w0 w : World} {W0 : Nat} (hb : Below w0.heap.size w0 w) (hW : w0.heap.size ≤ W0) (hr : w.heap[W0]? = some (.cells (.slice none 0 0 :: .slice none 0 0 :: constV).toArray 72 (0, 0))) : Inv w0 (fun k => if k < w0.heap.size then 0 else 1) w W0 (.slice none 0 0) (.slice none 0 0) [] [] := by
  refine ⟨hb, fun k hk => if_pos hk, ⟨hr, World.ownsRow_nil _ _ _ _, World.ownsRow_nil _ _ _ _, fun e => (by cases e), fun e => (by cases e), fun g e => (by cases e)⟩, fun k hk => ?_, fun i hi => (by simp at hi), fun h hh => (by cases hh)⟩
  rcases hk with rfl | hk | hk
  · exact if_neg (by omega)
  · cases hk
  · cases hk
theorem InvE.looks {w0 w : World} {W0 n : Nat} (h : InvE w0 w W0 n) (hn : n ≤ 1000000000000) : Calls Tryz.prog 29 #[.pointer (some ⟨W0, 0, none⟩)] w fun e w' => e = .returned (.bool true) ∧ InvE w0 w' W0 n := by
  obtain ⟨ow, vp, vh, ps, hs, hI, h2⟩ := h
  refine (looks_law (fun k => ow k = 2) W0 vp vh ps hs w hI.law hI.hold (by have := h2.2.2.2; omega)).mono ?_
  rintro e w' ⟨rfl, hb⟩
  exact ⟨rfl, ⟨ow, vp, vh, ps, hs, hI.below hb, h2⟩⟩
theorem InvE.base {w0 w : World} {W0 n : Nat} (h : InvE w0 w W0 n) : Below w0.heap.size w0 w := by
  obtain ⟨ow, vp, vh, ps, hs, hI, h2⟩ := h
  exact hI.base
theorem opV_one (o : Opn) : (opV o).toArray.all (·.oneCell') = true := by
  rw [List.all_toArray, List.all_eq_true]
  intro v hv
  rcases List.mem_append.1 hv with hv | hv
  · simp at hv
    rcases hv with rfl | rfl | rfl | rfl | rfl | rfl | rfl | rfl | rfl | rfl | rfl | rfl | rfl | rfl | rfl <;> rfl
  · have := rootV_one o.root o.n
    rw [List.all_toArray, List.all_eq_true] at this
    exact this v hv
/-- the three calls that come first -/
def opA : Opn := ⟨2, 0, 0, ⟨1, 3, 4⟩, ⟨0, 0, 0, 0, 0, 0, 0, 0⟩, [], List.replicate 32 0, 0⟩
def opB : Opn := ⟨2, 0, 0, ⟨1, 0, 0⟩, ⟨0, 0, 0, 0, 0, 0, 0, 0⟩, [], List.replicate 32 0, 0⟩
def opC : Opn := ⟨4, 0, 0, ⟨0, 0, 0⟩, ⟨0, 0, 0, 0, 0, 0, 0, 0⟩, [], List.replicate 32 0, 0⟩
theorem fitA : opA.Fit := ⟨by unfold I64; decide, by unfold I64; decide, by unfold I64; decide, by decide, rfl⟩
theorem fitB : opB.Fit := ⟨by unfold I64; decide, by unfold I64; decide, by unfold I64; decide, by decide, rfl⟩
theorem fitC : opC.Fit := ⟨by unfold I64; decide, by unfold I64; decide, by unfold I64; decide, by decide, rfl⟩
theorem builtA : Tryz.prog.built 76 [(0, I 2), (3, .agg #[I 1, I 3, I 4])] = some (opV opA).toArray := by kernel_rfl
theorem builtB : Tryz.prog.built 76 [(0, I 2), (3, .agg #[I 1, I 0, I 0])] = some (opV opB).toArray := by kernel_rfl
theorem builtC : Tryz.prog.built 76 [(0, I 4)] = some (opV opC).toArray := by kernel_rfl
set_option maxRecDepth 100000 in
set_option maxHeartbeats 4000000 in
theorem plays_law (lo up most : Int) (a0 : Option Addr) (cap : Nat) (os : List Opn) (w : World) (hA : ArgO w a0 os) (hm : 4 ≤ most) (hS : StepOk w most) :
    Calls Tryz.prog 11 #[.slice a0 os.length cap, I lo, I up, I most] w fun e w' => e = .returned (.bool true) ∧ Below w.heap.size w w' := by
  have HA := hide hA
  have HS := hide hS
  have HWK := hide (show Calls Tryz.prog 26 #[] w fun e w' => e = .returned (.agg constV.toArray) ∧ Below w.heap.size w w' by
    have h := Ref.worked_any w
    rw [worked_const] at h
    exact h)
  have HBW := hide built_world
  clear hA hS
  go_enter Tryz.func11, Tryz.ntmps11
  go_wp2_with fail
  refine HWK.out.mono ?_
  rintro _ w1 ⟨rfl, hb1⟩
  generalize hCV : constV.toArray = CV at *
  go_upto_region 2 with (refine wpList_built rfl 72 #[(2, .tmp 17)] rfl _ _ rfl HBW.out ?_)
  have hbx := boxed1 w1 (Value.slice none 0 0 :: Value.slice none 0 0 :: constV).toArray 72
  generalize w1.alloc (.cells (Value.slice none 0 0 :: Value.slice none 0 0 :: constV).toArray 72) = w2 at hbx ⊢
  generalize hWV : (Value.slice none 0 0 :: Value.slice none 0 0 :: constV).toArray = WV at *
  obtain ⟨hb2, hr2⟩ := hbx
  rw [← hWV] at hr2
  have HI2 := hide (law_start (hb1.trans (hb2.mono hb1.size)) hb1.size hr2)
  have HBG := hide (begin_law w1.heap.size (.slice none 0 0) (.slice none 0 0) [] [] w2 HI2.out.law (by simp))
  clear hb1 hb2 hr2 hCV hWV HWK HBW
  generalize w1.heap.size = W0 at *
  go_wp2_with fail
  refine HBG.out.mono ?_
  rintro _ w3 ⟨rfl, vp', p, hB⟩
  have HI3 := hide (HI2.out.begun (n := 0) (fun p hp => by cases hp) (by simp) (by simp) hB)
  clear hB HI2 HBG
  have HST := hide (HS.out w3 W0 1 opA fitA (by show (2 : Int) ≤ most; omega) (by decide) HI3.out)
  have HBA := hide builtA
  have HBB := hide builtB
  have HBC := hide builtC
  generalize (opV opA).toArray = OA at *
  go_wp2_with (refine wpList_built rfl 76 #[(0, .const (.int .i64 2)), (3, .tmp 25)] rfl _ _ rfl HBA.out ?_)
  refine HST.out.mono ?_
  rintro _ w4 ⟨rfl, hI4⟩
  have HI4 := hide hI4
  have HST := hide (HS.out w4 W0 2 opB fitB (by show (2 : Int) ≤ most; omega) (by decide) HI4.out)
  clear hI4
  generalize (opV opB).toArray = OB at *
  go_wp2_with (refine wpList_built rfl 76 #[(0, .const (.int .i64 2)), (3, .tmp 29)] rfl _ _ rfl HBB.out ?_)
  refine HST.out.mono ?_
  rintro _ w5 ⟨rfl, hI5⟩
  have HI5 := hide hI5
  have HST := hide (HS.out w5 W0 3 opC fitC (by show (4 : Int) ≤ most; omega) (by decide) HI5.out)
  clear hI5
  generalize (opV opC).toArray = OC at *
  go_wp2_with (refine wpList_built rfl 76 #[(0, .const (.int .i64 4))] rfl _ _ rfl HBC.out ?_)
  refine HST.out.mono ?_
  rintro _ w6 ⟨rfl, hI6⟩
  have HI6 := hide hI6
  clear hI6 HST HI5 HI4 HI3
  go_wp2_with fail
  go_loopw [14] (fun v14 wq => ∃ i : Nat, i ≤ os.length ∧ v14 = I i ∧ InvE w wq W0 (4 + i))
    (fun v14 _ => os.length - (intOf v14).toNat)
  case atStart => exact ⟨0, by omega, rfl, HI6.out⟩
  case round =>
    obtain ⟨i, hi, rfl, hI⟩ := hrel
    have HI := hide hI
    have hsm := HA.out.small
    clear HI6 hI
    by_cases hlt : i < os.length
    · obtain ⟨g, o, ha, hra⟩ := HA.out.at_ (fun e => by rw [e] at hlt; simp at hlt)
      subst ha
      have hF := HA.out.fit _ (List.getElem_mem hlt)
      have hr0 := hra i hlt
      have HR := hide (show wr.rangeAt g (o + i * 48) (opV os[i]) from fun j v hv => (HI.out.base.cell (p := ⟨g, o + i * 48 + j, none⟩) (block_lt_of_cell (hr0 j v hv))).trans (hr0 j v hv))
      obtain ⟨oq, hoq⟩ : ∃ oq, os[i] = oq := ⟨_, rfl⟩
      rw [hoq] at hF HR
      have HF := hide hF
      have HSZ := hide (show (Tryz.prog.info? 76).map (·.size) = some (opV oq).toArray.size by rw [List.size_toArray, opV_len hF.root]; exact Tryz.sizeOp)
      have HS8 := hide (show (opV oq).toArray.size = 48 by rw [List.size_toArray]; exact opV_len hF.root)
      have HON := hide (opV_one oq)
      have HK := hide (show (opV oq).toArray[0]? = some (I oq.kind) from rfl)
      have hb7' := fun o => (Below.refl wr.heap.size wr).alloc (Nat.le_refl _) o
      have hr7' := heap_alloc_new wr
      clear hF hr0 hra hoq
      go_upto_region 14 with (first | (refine wpList_load_mid rfl 76 (.tmp 53) rfl g (o + i * 48) rfl (opV oq) _ HR.out Tryz.underlying76 rfl (by rw [← List.size_toArray]; exact HSZ.out) ?_) | (refine wpList_store_rowTo rfl 76 (.tmp 15) (.tmp 54) rfl rfl wr.heap.size (opV oq).toArray rfl rfl 76 _ (heap_alloc_new wr _) HSZ.out (by rw [HS8.out]; rfl) HON.out ?_; rw [World.setRow_alloc_new]))
      generalize hW : World.alloc wr _ = w7
      have hb7 : Below wr.heap.size wr w7 := by rw [← hW]; exact hb7' _
      have hr7 : w7.heap[wr.heap.size]? = some (.cells (opV oq).toArray 76 (0, 0)) := by rw [← hW]; exact hr7' _
      clear hW hb7' hr7'
      have hs7 : wr.heap.size < w7.heap.size := (Array.getElem?_eq_some_iff.1 hr7).1
      have k0 : w7.cell? ⟨wr.heap.size, 0, none⟩ = some (I oq.kind) := by rw [cell_of_row _ _ _ _ _ _ hr7]; exact HK.out
      have HI7 := hide (HI.out.below hb7)
      have HR7 := hide hr7
      have HST := hide (fun (hk : oq.kind ≤ most) => HS.out w7 W0 (4 + i) oq HF.out hk (by omega) HI7.out)
      clear hb7 hr7 HR HON HK HI
      generalize (opV oq).toArray = OV at *
      generalize oq.kind = kd at *
      by_cases hk : most < kd
      · go_wp2_with fail
        go_roundw
        case rel => exact ⟨i + 1, hlt, by go_num, HI7.out.mono (by omega)⟩
        case measure => simp [intOf]; omega
      · have hk' : kd ≤ most := by omega
        have HS8' := hide (HST.out hk')
        clear HST
        go_wp2_with (refine wpList_load_row rfl 76 (.tmp 15) rfl wr.heap.size rfl 76 OV (0, 0) _ HR7.out Tryz.underlying76 rfl HSZ.out ?_)
        refine HS8'.out.mono ?_
        rintro _ w8 ⟨rfl, hI8⟩
        have HLK := hide (hI8.looks (by omega))
        clear hI8 k0
        go_wp2_with fail
        refine HLK.out.mono ?_
        rintro _ w9 ⟨rfl, hI9⟩
        have HI9 := hide hI9
        clear hI9 HLK
        go_wp2_with fail
        go_roundw
        case rel => exact ⟨i + 1, hlt, by go_num, HI9.out⟩
        case measure => simp [intOf]; omega
    · have ei : i = os.length := by omega
      subst ei
      go_wp2_with fail
      go_ret
      exact ⟨rfl, HI.out.base⟩
end Go.Proofs.YtenaelkbgkpllaaGreatDoor
/- The law's step at Verify. -/
namespace Go.Proofs.YtenaelkbgkpllaaGreatDoor
open Go.RowKit

set_option maxRecDepth 100000 in
set_option maxHeartbeats 8000000 in
theorem step_verify {w0 w : World} {ow : Nat → Nat} {W0 n : Nat} {vp vh : Value} {ps : List Pr} {hs : List Nat} (o : Opn) (hF : o.Fit) (hk : o.kind = 9 ∨ o.kind = 10 ∨ o.kind = 11) (hKT : KT w0) (h : Stands w0 w ow W0 n vp vh ps hs (pickI o.m ps.length))
    (m r : Nat) (v u : Value) (L : List Ward.Pt) (hm : ps[pickI o.m ps.length]? = some ⟨m, v, r, u, L, L⟩) :
    Calls Tryz.prog 28 #[.pointer (some ⟨W0, 0, none⟩), .agg (opV o).toArray] w fun e w' => e = .returned (.bool true) ∧ InvE w0 w' W0 (n + 1) := by
  obtain ⟨g, c, evp, hnc, hcell⟩ := h.inv.law.pair_at h.ne
  have hN : 0 < ps.length := List.length_pos_iff.2 h.ne
  have hNs : ps.length ≤ 1000000000000 := Nat.le_trans h.pn h.small
  have hjl := h.lt
  obtain ⟨hp1, hp2, hp3, hp4⟩ := pick_lt (M := o.m) hN
  have hMb := hF.m
  obtain ⟨j, hj⟩ : ∃ j, pickI o.m ps.length = j := ⟨_, rfl⟩
  have hjt : ((o.m.tmod ps.length + ps.length).tmod ps.length).toNat = j := hj
  rw [hj] at h hm hjl
  have HH := hide h
  have HOV := hide (show (opV o).toArray[0]? = some (I o.kind) ∧ (opV o).toArray[1]? = some (I o.m) from ⟨rfl, rfl⟩)
  have HOP := hide (show (opV o).toArray[2]? = some (I o.a) ∧ (opV o).toArray[3]? = some (I o.p.id) ∧ (opV o).toArray[4]? = some (I o.p.x) ∧ (opV o).toArray[5]? = some (I o.p.y) ∧ (opV o).toArray.size = 48 from ⟨rfl, rfl, rfl, rfl, by rw [List.size_toArray]; exact opV_len hF.root⟩)
  have HCL := hide (fun w' hb => And.intro (hcell w' hb).1 ((hcell w' hb).2 j hjl))
  have HEM := hide (show ps[j] = ⟨m, v, r, u, L, L⟩ from (List.getElem?_eq_some_iff.1 hm).2)
  have HOQ := hide (show (opV o).toArray[6]? = some (I o.q.kind) ∧ (opV o).toArray[7]? = some (I o.q.a) ∧ (opV o).toArray[8]? = some (I o.q.b) ∧ (opV o).toArray[9]? = some (I o.q.c) ∧ (opV o).toArray[10]? = some (I o.q.d) ∧ (opV o).toArray[11]? = some (I o.q.x) ∧ (opV o).toArray[12]? = some (I o.q.y) ∧ (opV o).toArray[13]? = some (I o.q.k) ∧ (opV o).toArray[14]? = some (Sv o.s) from ⟨rfl, rfl, rfl, rfl, rfl, rfl, rfl, rfl, rfl⟩)
  have HRG := hide (show ∀ k v, (rootV o.root o.n)[k]? = some v → (opV o).toArray[15 + k]? = some v from fun k v hv => by
    rw [List.getElem?_toArray]
    unfold opV
    rw [List.getElem?_append_right (by show 15 ≤ 15 + k; omega)]
    show (rootV o.root o.n)[15 + k - 15]? = some v
    rw [Nat.add_sub_cancel_left]
    exact hv)
  obtain ⟨OV, hOV⟩ : ∃ OV, (opV o).toArray = OV := ⟨_, rfl⟩
  rw [hOV] at HOV HOP HOQ HRG ⊢
  have HBX := hide (boxed1 w OV 76)
  clear h hcell
  go_enter Tryz.func28, Tryz.ntmps28
  go_upto_region 1 with fail
  have hbx := HBX.out
  clear HBX
  generalize w.alloc (.cells OV 76) = w1 at hbx ⊢
  obtain ⟨hb1, hx⟩ := hbx
  have k0 : w1.cell? ⟨w.heap.size, 0, none⟩ = some (I o.kind) := by rw [cell_of_row _ _ _ _ _ _ hx]; exact HOV.out.1
  have k1 : w1.cell? ⟨w.heap.size, 1, none⟩ = some (I o.m) := by rw [cell_of_row _ _ _ _ _ _ hx]; exact HOV.out.2
  obtain ⟨q0, q1', q2'⟩ := HCL.out w1 hb1
  have q1 : w1.cell? ⟨g, j * 2, none⟩ = some (.pointer (some ⟨m, 0, none⟩)) := by rw [q1', HEM.out]
  have q2 : w1.cell? ⟨g, j * 2 + 1, none⟩ = some (.pointer (some ⟨r, 0, none⟩)) := by rw [q2', HEM.out]
  clear q1' q2'
  subst evp
  have hs1 : w.heap.size < w1.heap.size := (Array.getElem?_eq_some_iff.1 hx).1
  have HB1 := hide hb1
  have HX := hide hx
  clear hb1 hx HCL
  obtain ⟨kd, hk0⟩ : ∃ kd, o.kind = kd := ⟨_, rfl⟩
  rw [hk0] at hk k0 HOV
  generalize o.m = M at *
  have hk1 : ¬ kd = 1 := by omega
  have hkb : (kd == 1) = false := by simpa using hk1
  go_upto_region 4 with fail
  have hne : ¬ ps = [] := fun e => by rw [e] at hN; simp at hN
  have hwr : IntKind.i64.wrap (M.tmod ↑ps.length + ↑ps.length) = M.tmod ↑ps.length + ↑ps.length := by rw [IntKind.wrap_i64]; omega
  go_cut [6] from 24 to 37 (fun v6 wx => ∃ gx, v6 = .pointer (some ⟨gx, 0, none⟩) ∧ w1.heap.size ≤ gx ∧ wx.heap[gx]? = some (.cells #[.pointer (some ⟨m, 0, none⟩), .pointer (some ⟨r, 0, none⟩)] 113 (0, 0)) ∧ Below w1.heap.size w1 wx)
  case first =>
    have hS : w1.drew.cell? ⟨W0, 0, none⟩ = some (.slice (some ⟨g, 0, none⟩) ps.length c) ∧ w1.drew.cell? ⟨w.heap.size, 1, none⟩ = some (I M) ∧ w1.drew.cell? ⟨g, j * 2, none⟩ = some (.pointer (some ⟨m, 0, none⟩)) ∧ w1.drew.cell? ⟨g, j * 2 + 1, none⟩ = some (.pointer (some ⟨r, 0, none⟩)) := ⟨by simpa using q0, by simpa using k1, by simpa using q1, by simpa using q2⟩
    refine wp_region_L 15 (fun W => W.cell? ⟨W0, 0, none⟩ = some (.slice (some ⟨g, 0, none⟩) ps.length c) ∧ W.cell? ⟨w.heap.size, 1, none⟩ = some (I M) ∧ W.cell? ⟨g, j * 2, none⟩ = some (.pointer (some ⟨m, 0, none⟩)) ∧ W.cell? ⟨g, j * 2 + 1, none⟩ = some (.pointer (some ⟨r, 0, none⟩))) (by kernel_rfl) hS (fun hH => ?_)
    clear hS
    refine wpAnyL_take (i := 0) (v := ?_) rfl (by kernel_rfl) (by kernel_rfl) (by kernel_rfl) (by kernel_rfl) (by kernel_rfl) (fun _ _ _ h => h) (Or.inl ⟨by rfl, ?_⟩) hH ?_
    rotate_left
    · intro W hSW
      obtain ⟨zp, zm, z0, z1⟩ := hSW
      go_simp
      try with_reducible rfl
    try go_simp
    refine wpAnyL_take (i := 1) (v := ?_) rfl (by kernel_rfl) (by kernel_rfl) (by kernel_rfl) (by kernel_rfl) (by kernel_rfl) (fun _ _ _ h => h) (Or.inl ⟨by rfl, ?_⟩) hH ?_
    rotate_left
    · intro W hSW
      obtain ⟨zp, zm, z0, z1⟩ := hSW
      go_simp
      try with_reducible rfl
    try go_simp
    refine wpAnyL_take (i := 2) (v := ?_) rfl (by kernel_rfl) (by kernel_rfl) (by kernel_rfl) (by kernel_rfl) (by kernel_rfl) (fun _ _ _ h => h) (Or.inl ⟨by rfl, ?_⟩) hH ?_
    rotate_left
    · intro W hSW
      obtain ⟨zp, zm, z0, z1⟩ := hSW
      go_simp
      try with_reducible rfl
    try go_simp
    refine wpAnyL_take (i := 3) (v := ?_) rfl (by kernel_rfl) (by kernel_rfl) (by kernel_rfl) (by kernel_rfl) (by kernel_rfl) (fun _ _ _ h => h) (Or.inl ⟨by rfl, ?_⟩) hH ?_
    rotate_left
    · intro W hSW
      obtain ⟨zp, zm, z0, z1⟩ := hSW
      go_simp
      try with_reducible rfl
    try go_simp
    refine wpAnyL_take (i := 4) (v := ?_) rfl (by kernel_rfl) (by kernel_rfl) (by kernel_rfl) (by kernel_rfl) (by kernel_rfl) (fun _ _ _ h => h) (Or.inl ⟨by rfl, ?_⟩) hH ?_
    rotate_left
    · intro W hSW
      obtain ⟨zp, zm, z0, z1⟩ := hSW
      go_simp
      try with_reducible rfl
    try go_simp
    refine wpAnyL_take (i := 5) (v := ?_) rfl (by kernel_rfl) (by kernel_rfl) (by kernel_rfl) (by kernel_rfl) (by kernel_rfl) (fun _ _ _ h => h) (Or.inl ⟨by rfl, ?_⟩) hH ?_
    rotate_left
    · intro W hSW
      obtain ⟨zp, zm, z0, z1⟩ := hSW
      go_simp
      try with_reducible rfl
    try go_simp
    refine wpAnyL_take (i := 6) (v := ?_) rfl (by kernel_rfl) (by kernel_rfl) (by kernel_rfl) (by kernel_rfl) (by kernel_rfl) (fun _ _ _ h => h) (Or.inl ⟨by rfl, ?_⟩) hH ?_
    rotate_left
    · intro W hSW
      obtain ⟨zp, zm, z0, z1⟩ := hSW
      go_simp
      try with_reducible rfl
    try go_simp
    refine wpAnyL_take (i := 7) (v := ?_) rfl (by kernel_rfl) (by kernel_rfl) (by kernel_rfl) (by kernel_rfl) (by kernel_rfl) (fun _ _ _ h => h) (Or.inl ⟨by rfl, ?_⟩) hH ?_
    rotate_left
    · intro W hSW
      obtain ⟨zp, zm, z0, z1⟩ := hSW
      go_simp
      try with_reducible rfl
    try go_simp
    refine wpAnyL_take (i := 8) (v := ?_) rfl (by kernel_rfl) (by kernel_rfl) (by kernel_rfl) (by kernel_rfl) (by kernel_rfl) (fun _ _ _ h => h) (Or.inl ⟨by rfl, ?_⟩) hH ?_
    rotate_left
    · intro W hSW
      obtain ⟨zp, zm, z0, z1⟩ := hSW
      go_simp
      try with_reducible rfl
    try go_simp
    refine wpAnyL_take (i := 9) (v := ?_) rfl (by kernel_rfl) (by kernel_rfl) (by kernel_rfl) (by kernel_rfl) (by kernel_rfl) (fun _ _ _ h => h) (Or.inl ⟨by rfl, ?_⟩) hH ?_
    rotate_left
    · intro W hSW
      obtain ⟨zp, zm, z0, z1⟩ := hSW
      go_simp
      try with_reducible rfl
    try go_simp
    refine wpAnyL_take (i := 10) (v := ?_) rfl (by kernel_rfl) (by kernel_rfl) (by kernel_rfl) (by kernel_rfl) (by kernel_rfl) (fun _ _ _ h => h) (Or.inl ⟨by rfl, ?_⟩) hH ?_
    rotate_left
    · intro W hSW
      obtain ⟨zp, zm, z0, z1⟩ := hSW
      go_simp
      try with_reducible rfl
    try go_simp
    refine wpAnyL_take (i := 11) (v := ?_) rfl (by kernel_rfl) (by kernel_rfl) (by kernel_rfl) (by kernel_rfl) (by kernel_rfl) (fun _ _ _ h => h) (Or.inl ⟨by rfl, ?_⟩) hH ?_
    rotate_left
    · intro W hSW
      obtain ⟨zp, zm, z0, z1⟩ := hSW
      go_simp
      try with_reducible rfl
    try go_simp
    refine wpAnyL_take (i := 12) (v := ?_) rfl (by kernel_rfl) (by kernel_rfl) (by kernel_rfl) (by kernel_rfl) (by kernel_rfl) (fun _ _ _ h => h) (Or.inl ⟨by rfl, ?_⟩) hH ?_
    rotate_left
    · intro W hSW
      obtain ⟨zp, zm, z0, z1⟩ := hSW
      go_simp
      try with_reducible rfl
    try go_simp
    refine wpAnyL_take (i := 13) (v := ?_) rfl (by kernel_rfl) (by kernel_rfl) (by kernel_rfl) (by kernel_rfl) (by kernel_rfl) (fun _ _ _ h => h) (Or.inl ⟨by rfl, ?_⟩) hH ?_
    rotate_left
    · intro W hSW
      obtain ⟨zp, zm, z0, z1⟩ := hSW
      go_simp
      try with_reducible rfl
    try go_simp
    refine wpAnyL_one (i := 14) (by kernel_rfl) rfl (fun K hK => ?_)
    go_simp
    have hn2 := heap_alloc_new w1
    have hb2' := fun o => ((Below.refl w1.heap.size w1).alloc (Nat.le_refl _) o).drew
    refine hK.out _ _ (fun _ => ?_) ?_
    · obtain ⟨z1, z2, z3, z4⟩ := hH
      have hb3 := hb2' (.cells #[.pointer none, .pointer none] 113)
      exact ⟨(hb3.cell (p := ⟨W0, 0, none⟩) (block_lt_of_cell q0)).trans q0, (hb3.cell (p := ⟨w.heap.size, 1, none⟩) (block_lt_of_cell k1)).trans k1, (hb3.cell (p := ⟨g, j * 2, none⟩) (block_lt_of_cell q1)).trans q1, (hb3.cell (p := ⟨g, j * 2 + 1, none⟩) (block_lt_of_cell q2)).trans q2⟩
    clear hK K
    try go_simp
    refine wpAnyL_one (i := 15) (by kernel_rfl) rfl (fun K hK => ?_)
    go_simp
    refine hK.out _ _ (fun h => absurd rfl h) ?_
    clear hK K
    refine wpAnyL_done (by kernel_rfl) ?_ _
    go_wp2_with fail
    go_meet
    exact ⟨w1.heap.size, rfl, Nat.le_refl _, hn2 _, hb2' _⟩
  case rest =>
    obtain ⟨gx, rfl, hgx, hrx, hb2⟩ := hcut
    generalize wc = w2 at *
    have HBW := hide (HB1.out.trans (hb2.mono HB1.out.size))
    have HS2 := hide (HH.out.below HBW.out)
    have HML := hide (show ∀ k, Mine m v k → k < w.heap.size from fun k hk => (HH.out.pair hm).1.mine_lt hk)
    have hro := (hb2.block w.heap.size hs1).trans HX.out
    have HRO := hide hro
    have k2 : w2.cell? ⟨w.heap.size, 0, none⟩ = some (I kd) := by rw [cell_of_row _ _ _ _ _ _ hro]; exact HOV.out.1
    have x0 : w2.cell? ⟨gx, 0, none⟩ = some (.pointer (some ⟨m, 0, none⟩)) := by rw [cell_of_row _ _ _ _ _ _ hrx]; rfl
    have x1 : w2.cell? ⟨gx, 1, none⟩ = some (.pointer (some ⟨r, 0, none⟩)) := by rw [cell_of_row _ _ _ _ _ _ hrx]; rfl
    have HRX := hide hrx
    clear q0 q1 q2 k0 k1 hp1 hp2 hp3 hp4 hjt hwr hMb hb2 hro hrx HX hN hne
    have HKT := hide hKT
    have HVF := hide (fun (root : List UInt8) (count : Int) (s : List UInt8) (h1 : root.length = 32) (h2 : s.length ≤ 140737488355328) W (hb : Below w2.heap.size w2 W) => verifies_law (HS2.out.below hb) hKT root count o.q s h1 h2)
    have hFs : o.s.length ≤ 140737488355328 := Nat.le_trans hF.s (by decide)
    have HFR := hide hF.root
    have HFA := hide hF.a
    have HYC := hide (fun (W : World) (hro : W.heap[w.heap.size]? = some (.cells OV 76 (0, 0))) => show W.cell? ⟨w.heap.size, 0, none⟩ = some (I kd) ∧ W.cell? ⟨w.heap.size, 2, none⟩ = some (I o.a) ∧ W.cell? ⟨w.heap.size, 6, none⟩ = some (I o.q.kind) ∧ W.cell? ⟨w.heap.size, 7, none⟩ = some (I o.q.a) ∧ W.cell? ⟨w.heap.size, 8, none⟩ = some (I o.q.b) ∧ W.cell? ⟨w.heap.size, 9, none⟩ = some (I o.q.c) ∧ W.cell? ⟨w.heap.size, 10, none⟩ = some (I o.q.d) ∧ W.cell? ⟨w.heap.size, 11, none⟩ = some (I o.q.x) ∧ W.cell? ⟨w.heap.size, 12, none⟩ = some (I o.q.y) ∧ W.cell? ⟨w.heap.size, 13, none⟩ = some (I o.q.k) ∧ W.cell? ⟨w.heap.size, 14, none⟩ = some (Sv o.s) from by
      have e := fun k => cell_of_row W w.heap.size k OV 76 (0, 0) hro
      rw [e, e, e, e, e, e, e, e, e, e, e]
      exact ⟨HOV.out.1, HOP.out.1, HOQ.out⟩)
    have hsw : w.heap.size < w2.heap.size := (Array.getElem?_eq_some_iff.1 HRO.out).1
    have hgw : gx < w2.heap.size := (Array.getElem?_eq_some_iff.1 HRX.out).1
    by_cases e10 : kd = 10
    · subst e10
      have HV2 := hide (HVF.out o.root o.n o.s HFR.out hFs w2 (Below.refl _ _))
      have hRR : w2.rangeAt w.heap.size 15 (rootV o.root o.n) := fun k v hv => by
        rw [cell_of_row _ _ _ _ _ _ HRO.out]
        exact HRG.out k v hv
      have HRL := hide (show (Tryz.prog.info? 41).map (·.size) = some (rootV o.root o.n).length by rw [rootV_len _ _ HFR.out]; exact Tryz.infoCommit)
      obtain ⟨-, -, y6, y7, y8, y9, y10, y11, y12, y13, y14⟩ := HYC.out w2 HRO.out
      generalize rootV o.root o.n = RV at *
      go_wp2_with (refine wpList_load_mid rfl 41 (.tmp 83) rfl w.heap.size 15 rfl RV _ hRR Tryz.underlying41 rfl HRL.out ?_)
      refine HV2.out.mono ?_
      rintro _ w3 ⟨rfl, hE⟩
      have HE := hide hE
      clear hE x0 x1 k2 y6 y7 y8 y9 y10 y11 y12 y13 y14 hRR
      go_wp2_with fail
      go_ret
      exact ⟨rfl, HE.out⟩
    · by_cases e11 : kd = 11
      · subst e11
        obtain ⟨hM, hR, hG⟩ := HS2.out.pair hm
        have HCR := hide (commitment_ref r u L w2 hR hG)
        have HPR := hide (fun W (hb : Below w2.heap.size w2 W) => prove_ref r u L o.q W (hR.below hb) hG)
        have HTL := hide (show (if Ward.mayBe o.q = true then Ward.proofText o.q L else []).length ≤ 37500 by
          split
          · exact proofText_len o.q hG.well
          · simp)
        have HVC := hide (fun s (h2 : s.length ≤ 140737488355328) W (hb : Below w2.heap.size w2 W) => HVF.out (Sha.sha (Ward.rootText Sha.sha L)) (L.length : Nat) s rfl h2 W hb)
        have HCS := hide (show (commitV L).toArray.size = 33 by rw [List.size_toArray]; exact rootV_len _ _ rfl)
        have HC1 := hide (show (commitV L).toArray.all (·.oneCell') = true by
          rw [List.all_toArray, List.all_eq_true]
          intro v hv
          unfold commitV rootV at hv
          rcases List.mem_append.1 hv with hv | hv
          · obtain ⟨x, _, rfl⟩ := List.mem_map.1 hv
            rfl
          · rw [List.mem_singleton.1 hv]; rfl)
        have HCE := hide (show rootV (Sha.sha (Ward.rootText Sha.sha L)) (L.length : Nat) = commitV L from rfl)
        rw [HCE.out] at HVC
        obtain ⟨TX, hTX⟩ : ∃ t, (if Ward.mayBe o.q = true then Ward.proofText o.q L else []) = t := ⟨_, rfl⟩
        rw [hTX] at HPR HTL
        generalize (if Ward.mayBe o.q = true then (0 : Int) else 6) = code at *
        obtain ⟨CM, hCM⟩ : ∃ CM, (commitV L).toArray = CM := ⟨_, rfl⟩
        rw [hCM] at HCR HCS HC1 HVC
        clear hM hR hG hTX hCM HCE HVF
        go_wp2_with fail
        refine HCR.out.mono ?_
        rintro _ w3 ⟨rfl, hb3⟩
        have HN4 := hide (heap_alloc_new w3 (.cells CM 41))
        have HB4 := hide (hb3.trans (((Below.refl w3.heap.size w3).alloc (Nat.le_refl _) (.cells CM 41)).mono hb3.size))
        have hs3 := hb3.size
        clear hb3 HCR
        go_upto_region 25 with (refine wpList_store_rowTo rfl 41 (.tmp 11) (.tmp 95) rfl rfl w3.heap.size CM rfl rfl 41 _ (heap_alloc_new w3 _) (by rw [HCS.out]; exact Tryz.infoCommit) (by rw [HCS.out]; rfl) HC1.out ?_; rw [World.setRow_alloc_new])
        generalize w3.alloc (.cells CM 41) = w4 at HN4 HB4 ⊢
        obtain ⟨gc, hgc⟩ : ∃ gc, w3.heap.size = gc := ⟨_, rfl⟩
        rw [hgc] at HN4 hs3 ⊢
        have hgl : gc < w4.heap.size := (Array.getElem?_eq_some_iff.1 HN4.out).1
        clear hgc x0 x1 k2
        have hro4 := (HB4.out.block w.heap.size hsw).trans HRO.out
        have hrx4 := (HB4.out.block gx hgw).trans HRX.out
        have x1 : w4.cell? ⟨gx, 1, none⟩ = some (.pointer (some ⟨r, 0, none⟩)) := by rw [cell_of_row _ _ _ _ _ _ hrx4]; rfl
        obtain ⟨-, -, y6, y7, y8, y9, y10, y11, y12, y13, -⟩ := HYC.out w4 hro4
        have HP4 := hide (HPR.out w4 HB4.out)
        have HRO4 := hide hro4
        clear hro4 hrx4 HPR
        go_wp2_with fail
        refine HP4.out.mono ?_
        rintro _ w5 ⟨rfl, hb5⟩
        have HB5 := hide (HB4.out.trans (hb5.mono HB4.out.size))
        have HN5 := hide ((hb5.block gc hgl).trans HN4.out)
        have hs5 := hb5.size
        have HRO5 := hide ((hb5.block w.heap.size (by have := HB4.out.size; omega)).trans HRO4.out)
        clear hb5 x1 y6 y7 y8 y9 y10 y11 y12 y13 HP4 HN4 HRO4
        obtain ⟨y0, y2, y6, y7, y8, y9, y10, y11, y12, y13, y14⟩ := HYC.out w5 HRO5.out
        have htl := HTL.out
        have HTU := hide (turned_any TX o.a w5 (by omega) HFA.out)
        go_wp2_with fail
        refine HTU.out.mono ?_
        rintro _ w6 ⟨⟨T2, rfl, hT2⟩, hb6⟩
        have HB6 := hide (HB5.out.trans (hb6.mono HB5.out.size))
        have HN6 := hide ((hb6.block gc (by omega)).trans HN5.out)
        have HRO6 := hide ((hb6.block w.heap.size (by have := HB5.out.size; omega)).trans HRO5.out)
        have HV6 := hide (HVC.out T2 (by omega) w6 HB6.out)
        clear hb6 y0 y2 y6 y7 y8 y9 y10 y11 y12 y13 y14 HTU
        obtain ⟨-, -, y6, y7, y8, y9, y10, y11, y12, y13, -⟩ := HYC.out w6 HRO6.out
        go_wp2_with (refine wpList_load_row rfl 41 (.tmp 11) rfl gc rfl 41 CM (0, 0) _ HN6.out Tryz.underlying41 rfl (by rw [HCS.out]; exact Tryz.infoCommit) ?_)
        refine HV6.out.mono ?_
        rintro _ w7 ⟨rfl, hE⟩
        have HE := hide hE
        clear hE y6 y7 y8 y9 y10 y11 y12 y13
        go_wp2_with fail
        go_ret
        exact ⟨rfl, HE.out⟩
      · have e9 : kd = 9 := by omega
        subst e9
        obtain ⟨hM, hR, hG⟩ := HS2.out.pair hm
        have HCR := hide (commitment_ref r u L w2 hR hG)
        have HPR := hide (fun W (hb : Below w2.heap.size w2 W) => prove_ref r u L o.q W (hR.below hb) hG)
        have HTL := hide (show (if Ward.mayBe o.q = true then Ward.proofText o.q L else []).length ≤ 37500 by
          split
          · exact proofText_len o.q hG.well
          · simp)
        have HVC := hide (fun s (h2 : s.length ≤ 140737488355328) W (hb : Below w2.heap.size w2 W) => HVF.out (Sha.sha (Ward.rootText Sha.sha L)) (L.length : Nat) s rfl h2 W hb)
        have HCS := hide (show (commitV L).toArray.size = 33 by rw [List.size_toArray]; exact rootV_len _ _ rfl)
        have HC1 := hide (show (commitV L).toArray.all (·.oneCell') = true by
          rw [List.all_toArray, List.all_eq_true]
          intro v hv
          unfold commitV rootV at hv
          rcases List.mem_append.1 hv with hv | hv
          · obtain ⟨x, _, rfl⟩ := List.mem_map.1 hv
            rfl
          · rw [List.mem_singleton.1 hv]; rfl)
        have HCE := hide (show rootV (Sha.sha (Ward.rootText Sha.sha L)) (L.length : Nat) = commitV L from rfl)
        rw [HCE.out] at HVC
        obtain ⟨TX, hTX⟩ : ∃ t, (if Ward.mayBe o.q = true then Ward.proofText o.q L else []) = t := ⟨_, rfl⟩
        rw [hTX] at HPR HTL
        generalize (if Ward.mayBe o.q = true then (0 : Int) else 6) = code at *
        obtain ⟨CM, hCM⟩ : ∃ CM, (commitV L).toArray = CM := ⟨_, rfl⟩
        rw [hCM] at HCR HCS HC1 HVC
        clear hM hR hG hTX hCM HCE HVF
        go_wp2_with fail
        refine HCR.out.mono ?_
        rintro _ w3 ⟨rfl, hb3⟩
        have HN4 := hide (heap_alloc_new w3 (.cells CM 41))
        have HB4 := hide (hb3.trans (((Below.refl w3.heap.size w3).alloc (Nat.le_refl _) (.cells CM 41)).mono hb3.size))
        have hs3 := hb3.size
        clear hb3 HCR
        go_upto_region 25 with (refine wpList_store_rowTo rfl 41 (.tmp 11) (.tmp 95) rfl rfl w3.heap.size CM rfl rfl 41 _ (heap_alloc_new w3 _) (by rw [HCS.out]; exact Tryz.infoCommit) (by rw [HCS.out]; rfl) HC1.out ?_; rw [World.setRow_alloc_new])
        generalize w3.alloc (.cells CM 41) = w4 at HN4 HB4 ⊢
        obtain ⟨gc, hgc⟩ : ∃ gc, w3.heap.size = gc := ⟨_, rfl⟩
        rw [hgc] at HN4 hs3 ⊢
        have hgl : gc < w4.heap.size := (Array.getElem?_eq_some_iff.1 HN4.out).1
        clear hgc x0 x1 k2
        have hro4 := (HB4.out.block w.heap.size hsw).trans HRO.out
        have hrx4 := (HB4.out.block gx hgw).trans HRX.out
        have x1 : w4.cell? ⟨gx, 1, none⟩ = some (.pointer (some ⟨r, 0, none⟩)) := by rw [cell_of_row _ _ _ _ _ _ hrx4]; rfl
        obtain ⟨-, -, y6, y7, y8, y9, y10, y11, y12, y13, -⟩ := HYC.out w4 hro4
        have HP4 := hide (HPR.out w4 HB4.out)
        have HRO4 := hide hro4
        clear hro4 hrx4 HPR
        go_wp2_with fail
        refine HP4.out.mono ?_
        rintro _ w5 ⟨rfl, hb5⟩
        have HB5 := hide (HB4.out.trans (hb5.mono HB4.out.size))
        have HN5 := hide ((hb5.block gc hgl).trans HN4.out)
        have hs5 := hb5.size
        have HRO5 := hide ((hb5.block w.heap.size (by have := HB4.out.size; omega)).trans HRO4.out)
        clear hb5 x1 y6 y7 y8 y9 y10 y11 y12 y13 HP4 HN4 HRO4
        obtain ⟨y0, y2, y6, y7, y8, y9, y10, y11, y12, y13, y14⟩ := HYC.out w5 HRO5.out
        have htl := HTL.out
        obtain ⟨aa, haa⟩ : ∃ aa, o.a = aa := ⟨_, rfl⟩
        rw [haa] at y2
        by_cases ha : aa = 0
        · subst ha
          have HV6 := hide (HVC.out TX (by omega) w5 HB5.out)
          go_wp2_with (refine wpList_load_row rfl 41 (.tmp 11) rfl gc rfl 41 CM (0, 0) _ HN5.out Tryz.underlying41 rfl (by rw [HCS.out]; exact Tryz.infoCommit) ?_)
          refine HV6.out.mono ?_
          rintro _ w7 ⟨rfl, hE⟩
          have HE := hide hE
          clear hE y0 y2 y6 y7 y8 y9 y10 y11 y12 y13 y14
          go_wp2_with fail
          go_ret
          exact ⟨rfl, HE.out⟩
        · have hab : (aa == 0) = false := by simpa using ha
          have hac : (aa != 0) = true := by simpa using ha
          have HV6 := hide (HVC.out o.s hFs w5 HB5.out)
          go_wp2_with (refine wpList_load_row rfl 41 (.tmp 11) rfl gc rfl 41 CM (0, 0) _ HN5.out Tryz.underlying41 rfl (by rw [HCS.out]; exact Tryz.infoCommit) ?_)
          refine HV6.out.mono ?_
          rintro _ w7 ⟨rfl, hE⟩
          have HE := hide hE
          clear hE y0 y2 y6 y7 y8 y9 y10 y11 y12 y13 y14
          go_wp2_with fail
          go_ret
          exact ⟨rfl, HE.out⟩
end Go.Proofs.YtenaelkbgkpllaaGreatDoor
/- Every step of the law. -/
namespace Go.Proofs.YtenaelkbgkpllaaGreatDoor
open Go.RowKit

/-- every step of a kind up to the last -/
theorem step_all {w0 w : World} {W0 n : Nat} (o : Opn) (hF : o.Fit) (hk : o.kind ≤ 11) (hKT : KT w0) (hI : InvE w0 w W0 n) (hn : n ≤ 1000000000000) :
    Calls Tryz.prog 28 #[.pointer (some ⟨W0, 0, none⟩), .agg (opV o).toArray] w fun e w' => e = .returned (.bool true) ∧ InvE w0 w' W0 (n + 1) := by
  by_cases h8 : o.kind ≤ 8
  · exact step_proven o hF h8 hKT hI hn
  · obtain ⟨ow, vp, vh, ps, hs, hI, hne, hE, hpn, hhn⟩ := hI
    have hN : 0 < ps.length := List.length_pos_iff.2 hne
    obtain ⟨hp1, hp2, _, _⟩ := pick_lt (M := o.m) hN
    have hj : pickI o.m ps.length < ps.length := by unfold pickI; omega
    have hS : Stands w0 w ow W0 n vp vh ps hs (pickI o.m ps.length) := ⟨hI, hj, hE, hpn, hhn, hn⟩
    obtain ⟨⟨m, v, r, u, L, K⟩, hp⟩ : ∃ p, ps[pickI o.m ps.length] = p := ⟨_, rfl⟩
    have hLK : L = K := by
      have := hE _ (List.getElem_mem hj)
      rw [hp] at this
      exact this
    subst hLK
    have hm : ps[pickI o.m ps.length]? = some ⟨m, v, r, u, L, L⟩ := by rw [List.getElem?_eq_getElem hj, hp]
    exact step_verify o hF (by omega) hKT hS m r v u L hm
end Go.Proofs.YtenaelkbgkpllaaGreatDoor
