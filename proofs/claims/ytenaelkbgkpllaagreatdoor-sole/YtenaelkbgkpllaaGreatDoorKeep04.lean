/- Part 4 of what the claims on Bound, Small, Right and Sole rest on. -/
import Derived.Test.YtenaelkbgkpllaaGreatDoorKeep01
import Derived.BigQuiet
import Derived.Deep.RegionHeld3
import Derived.Deep.WholeRow
import Derived.Laws.CopyOwn
import Derived.Laws.Tables
import Derived.Lib.Strings
import Derived.Test.YtenaelkbgkpllaaGreatDoorRows
import Derived.WalkKit
import Derived.WalkLawsBesides
import Derived.WalkSpells
/- The program's small functions of digests (turning, mixing, reading four bytes) answer what the plain functions say. -/
namespace Go.Proofs.YtenaelkbgkpllaaGreatDoor
open Go.RowKit

theorem ret_u32 {a b : Int} (h : a = b) : Ending.returned (.int .u32 a) = .returned (.int .u32 b) := by rw [h]
theorem or32 {x y : Int} (a b : Nat) (hx : x = a) (hy : y = b) (ha : a < 4294967296) (hb : b < 4294967296) : bits .or .u32 x y = ((a ||| b : Nat) : Int) := by
  rw [hx, hy]; exact u32_or_nat a b ha hb
theorem and32 {x y : Int} (a b : Nat) (hx : x = a) (hy : y = b) (ha : a < 4294967296) (hb : b < 4294967296) : bits .and .u32 x y = ((a &&& b : Nat) : Int) := by
  rw [hx, hy]; exact u32_and_nat a b ha hb
theorem xor32 {x y : Int} (a b : Nat) (hx : x = a) (hy : y = b) (ha : a < 4294967296) (hb : b < 4294967296) : bits .xor .u32 x y = ((a ^^^ b : Nat) : Int) := by
  rw [hx, hy]; exact u32_xor_nat a b ha hb
theorem max32 : IntKind.u32.max = ((4294967295 : Nat) : Int) := by decide

set_option maxHeartbeats 400000 in
theorem turn2 (x : Nat) (w : World) (hx : x < 4294967296) :
    Calls Tryz.prog 186 #[.int .u32 x, .int .i64 2] w fun e w' => e = .returned (.int .u32 (Sha.ror 2 x : Nat)) ∧ w' = w := by
  have hb : bits BinOp.and IntKind.u64 (IntKind.u64.wrap (-2)) 31 = 30 := by decide
  go_enter Tryz.func186, Tryz.ntmps186
  go_wp2
  go_ret
  refine ⟨ret_u32 ?_, rfl⟩
  exact or32 (x * 1073741824 % 4294967296) (x / 4) (by omega) (by omega) (Nat.mod_lt _ (by decide)) (Sha.div_lt hx)

set_option maxHeartbeats 400000 in
theorem turn6 (x : Nat) (w : World) (hx : x < 4294967296) :
    Calls Tryz.prog 186 #[.int .u32 x, .int .i64 6] w fun e w' => e = .returned (.int .u32 (Sha.ror 6 x : Nat)) ∧ w' = w := by
  have hb : bits BinOp.and IntKind.u64 (IntKind.u64.wrap (-6)) 31 = 26 := by decide
  go_enter Tryz.func186, Tryz.ntmps186
  go_wp2
  go_ret
  refine ⟨ret_u32 ?_, rfl⟩
  exact or32 (x * 67108864 % 4294967296) (x / 64) (by omega) (by omega) (Nat.mod_lt _ (by decide)) (Sha.div_lt hx)

set_option maxHeartbeats 400000 in
theorem turn7 (x : Nat) (w : World) (hx : x < 4294967296) :
    Calls Tryz.prog 186 #[.int .u32 x, .int .i64 7] w fun e w' => e = .returned (.int .u32 (Sha.ror 7 x : Nat)) ∧ w' = w := by
  have hb : bits BinOp.and IntKind.u64 (IntKind.u64.wrap (-7)) 31 = 25 := by decide
  go_enter Tryz.func186, Tryz.ntmps186
  go_wp2
  go_ret
  refine ⟨ret_u32 ?_, rfl⟩
  exact or32 (x * 33554432 % 4294967296) (x / 128) (by omega) (by omega) (Nat.mod_lt _ (by decide)) (Sha.div_lt hx)

set_option maxHeartbeats 400000 in
theorem turn11 (x : Nat) (w : World) (hx : x < 4294967296) :
    Calls Tryz.prog 186 #[.int .u32 x, .int .i64 11] w fun e w' => e = .returned (.int .u32 (Sha.ror 11 x : Nat)) ∧ w' = w := by
  have hb : bits BinOp.and IntKind.u64 (IntKind.u64.wrap (-11)) 31 = 21 := by decide
  go_enter Tryz.func186, Tryz.ntmps186
  go_wp2
  go_ret
  refine ⟨ret_u32 ?_, rfl⟩
  exact or32 (x * 2097152 % 4294967296) (x / 2048) (by omega) (by omega) (Nat.mod_lt _ (by decide)) (Sha.div_lt hx)

set_option maxHeartbeats 400000 in
theorem turn13 (x : Nat) (w : World) (hx : x < 4294967296) :
    Calls Tryz.prog 186 #[.int .u32 x, .int .i64 13] w fun e w' => e = .returned (.int .u32 (Sha.ror 13 x : Nat)) ∧ w' = w := by
  have hb : bits BinOp.and IntKind.u64 (IntKind.u64.wrap (-13)) 31 = 19 := by decide
  go_enter Tryz.func186, Tryz.ntmps186
  go_wp2
  go_ret
  refine ⟨ret_u32 ?_, rfl⟩
  exact or32 (x * 524288 % 4294967296) (x / 8192) (by omega) (by omega) (Nat.mod_lt _ (by decide)) (Sha.div_lt hx)

set_option maxHeartbeats 400000 in
theorem turn17 (x : Nat) (w : World) (hx : x < 4294967296) :
    Calls Tryz.prog 186 #[.int .u32 x, .int .i64 17] w fun e w' => e = .returned (.int .u32 (Sha.ror 17 x : Nat)) ∧ w' = w := by
  have hb : bits BinOp.and IntKind.u64 (IntKind.u64.wrap (-17)) 31 = 15 := by decide
  go_enter Tryz.func186, Tryz.ntmps186
  go_wp2
  go_ret
  refine ⟨ret_u32 ?_, rfl⟩
  exact or32 (x * 32768 % 4294967296) (x / 131072) (by omega) (by omega) (Nat.mod_lt _ (by decide)) (Sha.div_lt hx)

set_option maxHeartbeats 400000 in
theorem turn18 (x : Nat) (w : World) (hx : x < 4294967296) :
    Calls Tryz.prog 186 #[.int .u32 x, .int .i64 18] w fun e w' => e = .returned (.int .u32 (Sha.ror 18 x : Nat)) ∧ w' = w := by
  have hb : bits BinOp.and IntKind.u64 (IntKind.u64.wrap (-18)) 31 = 14 := by decide
  go_enter Tryz.func186, Tryz.ntmps186
  go_wp2
  go_ret
  refine ⟨ret_u32 ?_, rfl⟩
  exact or32 (x * 16384 % 4294967296) (x / 262144) (by omega) (by omega) (Nat.mod_lt _ (by decide)) (Sha.div_lt hx)

set_option maxHeartbeats 400000 in
theorem turn19 (x : Nat) (w : World) (hx : x < 4294967296) :
    Calls Tryz.prog 186 #[.int .u32 x, .int .i64 19] w fun e w' => e = .returned (.int .u32 (Sha.ror 19 x : Nat)) ∧ w' = w := by
  have hb : bits BinOp.and IntKind.u64 (IntKind.u64.wrap (-19)) 31 = 13 := by decide
  go_enter Tryz.func186, Tryz.ntmps186
  go_wp2
  go_ret
  refine ⟨ret_u32 ?_, rfl⟩
  exact or32 (x * 8192 % 4294967296) (x / 524288) (by omega) (by omega) (Nat.mod_lt _ (by decide)) (Sha.div_lt hx)

set_option maxHeartbeats 400000 in
theorem turn22 (x : Nat) (w : World) (hx : x < 4294967296) :
    Calls Tryz.prog 186 #[.int .u32 x, .int .i64 22] w fun e w' => e = .returned (.int .u32 (Sha.ror 22 x : Nat)) ∧ w' = w := by
  have hb : bits BinOp.and IntKind.u64 (IntKind.u64.wrap (-22)) 31 = 10 := by decide
  go_enter Tryz.func186, Tryz.ntmps186
  go_wp2
  go_ret
  refine ⟨ret_u32 ?_, rfl⟩
  exact or32 (x * 1024 % 4294967296) (x / 4194304) (by omega) (by omega) (Nat.mod_lt _ (by decide)) (Sha.div_lt hx)

set_option maxHeartbeats 400000 in
theorem turn25 (x : Nat) (w : World) (hx : x < 4294967296) :
    Calls Tryz.prog 186 #[.int .u32 x, .int .i64 25] w fun e w' => e = .returned (.int .u32 (Sha.ror 25 x : Nat)) ∧ w' = w := by
  have hb : bits BinOp.and IntKind.u64 (IntKind.u64.wrap (-25)) 31 = 7 := by decide
  go_enter Tryz.func186, Tryz.ntmps186
  go_wp2
  go_ret
  refine ⟨ret_u32 ?_, rfl⟩
  exact or32 (x * 128 % 4294967296) (x / 33554432) (by omega) (by omega) (Nat.mod_lt _ (by decide)) (Sha.div_lt hx)

set_option maxHeartbeats 400000 in
theorem bs1_any (x : Nat) (w : World) (hx : x < 4294967296) :
    Calls Tryz.prog 165 #[.int .u32 x] w fun e w' => e = .returned (.int .u32 (Sha.bs1 x : Nat)) ∧ w' = w := by
  go_enter Tryz.func165, Tryz.ntmps165
  go_wp2_with fail
  refine (turn6 x _ hx).mono ?_
  rintro e w' ⟨rfl, rfl⟩
  go_wp2_with fail
  refine (turn11 x _ hx).mono ?_
  rintro e w' ⟨rfl, rfl⟩
  go_wp2_with fail
  refine (turn25 x _ hx).mono ?_
  rintro e w' ⟨rfl, rfl⟩
  go_wp2_with fail
  go_ret
  refine ⟨ret_u32 ?_, rfl⟩
  exact xor32 (Sha.ror 6 x ^^^ Sha.ror 11 x) (Sha.ror 25 x) (xor32 _ _ rfl rfl (Sha.ror_lt hx) (Sha.ror_lt hx)) rfl (Sha.xor_lt (Sha.ror_lt hx) (Sha.ror_lt hx)) (Sha.ror_lt hx)

set_option maxHeartbeats 400000 in
theorem bs0_any (x : Nat) (w : World) (hx : x < 4294967296) :
    Calls Tryz.prog 167 #[.int .u32 x] w fun e w' => e = .returned (.int .u32 (Sha.bs0 x : Nat)) ∧ w' = w := by
  go_enter Tryz.func167, Tryz.ntmps167
  go_wp2_with fail
  refine (turn2 x _ hx).mono ?_
  rintro e w' ⟨rfl, rfl⟩
  go_wp2_with fail
  refine (turn13 x _ hx).mono ?_
  rintro e w' ⟨rfl, rfl⟩
  go_wp2_with fail
  refine (turn22 x _ hx).mono ?_
  rintro e w' ⟨rfl, rfl⟩
  go_wp2_with fail
  go_ret
  refine ⟨ret_u32 ?_, rfl⟩
  exact xor32 (Sha.ror 2 x ^^^ Sha.ror 13 x) (Sha.ror 22 x) (xor32 _ _ rfl rfl (Sha.ror_lt hx) (Sha.ror_lt hx)) rfl (Sha.xor_lt (Sha.ror_lt hx) (Sha.ror_lt hx)) (Sha.ror_lt hx)

set_option maxHeartbeats 400000 in
theorem ss1_any (x : Nat) (w : World) (hx : x < 4294967296) :
    Calls Tryz.prog 184 #[.int .u32 x] w fun e w' => e = .returned (.int .u32 (Sha.ss1 x : Nat)) ∧ w' = w := by
  go_enter Tryz.func184, Tryz.ntmps184
  go_wp2_with fail
  refine (turn17 x _ hx).mono ?_
  rintro e w' ⟨rfl, rfl⟩
  go_wp2_with fail
  refine (turn19 x _ hx).mono ?_
  rintro e w' ⟨rfl, rfl⟩
  go_wp2_with fail
  go_ret
  refine ⟨ret_u32 ?_, rfl⟩
  exact xor32 (Sha.ror 17 x ^^^ Sha.ror 19 x) (x / 1024) (xor32 _ _ rfl rfl (Sha.ror_lt hx) (Sha.ror_lt hx)) (by omega) (Sha.xor_lt (Sha.ror_lt hx) (Sha.ror_lt hx)) (Sha.div_lt hx)

set_option maxHeartbeats 400000 in
theorem ss0_any (x : Nat) (w : World) (hx : x < 4294967296) :
    Calls Tryz.prog 185 #[.int .u32 x] w fun e w' => e = .returned (.int .u32 (Sha.ss0 x : Nat)) ∧ w' = w := by
  go_enter Tryz.func185, Tryz.ntmps185
  go_wp2_with fail
  refine (turn7 x _ hx).mono ?_
  rintro e w' ⟨rfl, rfl⟩
  go_wp2_with fail
  refine (turn18 x _ hx).mono ?_
  rintro e w' ⟨rfl, rfl⟩
  go_wp2_with fail
  go_ret
  refine ⟨ret_u32 ?_, rfl⟩
  exact xor32 (Sha.ror 7 x ^^^ Sha.ror 18 x) (x / 8) (xor32 _ _ rfl rfl (Sha.ror_lt hx) (Sha.ror_lt hx)) (by omega) (Sha.xor_lt (Sha.ror_lt hx) (Sha.ror_lt hx)) (Sha.div_lt hx)

set_option maxHeartbeats 400000 in
theorem choose_any (x y z : Nat) (w : World) (hx : x < 4294967296) (hy : y < 4294967296) (hz : z < 4294967296) :
    Calls Tryz.prog 166 #[.int .u32 x, .int .u32 y, .int .u32 z] w fun e w' => e = .returned (.int .u32 (Sha.ch x y z : Nat)) ∧ w' = w := by
  have hsg : IntKind.u32.signed = false := rfl
  go_enter Tryz.func166, Tryz.ntmps166
  go_wp2
  go_ret
  refine ⟨ret_u32 ?_, rfl⟩
  have hn : (4294967295 ^^^ x) < 4294967296 := Sha.xor_lt (by decide) hx
  exact xor32 (x &&& y) ((4294967295 ^^^ x) &&& z) (and32 x y rfl rfl hx hy) (and32 (4294967295 ^^^ x) z (xor32 4294967295 x max32 rfl (by decide) hx) rfl hn hz) (Sha.and_lt hy) (Sha.and_lt hz)

set_option maxHeartbeats 400000 in
theorem majority_any (x y z : Nat) (w : World) (hx : x < 4294967296) (hy : y < 4294967296) (hz : z < 4294967296) :
    Calls Tryz.prog 168 #[.int .u32 x, .int .u32 y, .int .u32 z] w fun e w' => e = .returned (.int .u32 (Sha.maj x y z : Nat)) ∧ w' = w := by
  go_enter Tryz.func168, Tryz.ntmps168
  go_wp2
  go_ret
  refine ⟨ret_u32 ?_, rfl⟩
  exact xor32 ((x &&& y) ^^^ (x &&& z)) (y &&& z) (xor32 (x &&& y) (x &&& z) (and32 x y rfl rfl hx hy) (and32 x z rfl rfl hx hz) (Sha.and_lt hy) (Sha.and_lt hz)) (and32 y z rfl rfl hy hz) (Sha.xor_lt (Sha.and_lt hy) (Sha.and_lt hz)) (Sha.and_lt hz)

theorem byteAt_of (s : ByteArray) (i : Nat) (h : i < s.size) : Sha.byteAt s.data.toList i = (s[i]).toNat := by
  have h' : i < s.data.toList.length := by simpa using h
  simp only [Sha.byteAt, List.getD_eq_getElem?_getD, List.getElem?_eq_getElem h', Option.getD_some]
  rfl

theorem word_or (B0 B1 B2 B3 : Nat) (b0 : B0 < 256) (b1 : B1 < 256) (b2 : B2 < 256) (b3 : B3 < 256) :
    bits .or .u32 (bits .or .u32 (bits .or .u32 ((B0 : Int) * 16777216) ((B1 : Int) * 65536)) ((B2 : Int) * 256)) (B3 : Int) = ((((B0 * 16777216 ||| B1 * 65536) ||| B2 * 256) ||| B3 : Nat) : Int) := by
  have q0 := Sha.up24 b0
  have q1 := Sha.up16 b1
  have q2 := Sha.up8 b2
  have q3 : B3 < 4294967296 := Nat.lt_trans b3 (by decide)
  exact or32 _ _ (or32 _ _ (or32 (B0 * 16777216) (B1 * 65536) (Sha.cast_mul B0 16777216) (Sha.cast_mul B1 65536) q0 q1) (Sha.cast_mul B2 256) (Sha.or_lt q0 q1) q2) rfl (Sha.or_lt (Sha.or_lt q0 q1) q2) q3
theorem idx_str (s : ByteArray) (i : Int) (k : Nat) (h : i = k) (hk : k < s.size) (w : World) :
    (Instr.index 9 (.string s) (.int .i64 i)).run Tryz.prog w = .ok (.int .u8 (Sha.byteAt s.data.toList k : Nat)) w := by
  subst h
  rw [run_index_string w 9 s .i64 k Tryz.underlying9, dif_pos (by omega), byteAt_of s k hk]
  rfl

set_option maxHeartbeats 800000 in
theorem at_any (s : ByteArray) (k : Nat) (w : World) (hk : k + 4 ≤ s.size) (hs : s.size ≤ maxLen) :
    Calls Tryz.prog 181 #[.string s, .int .i64 k] w fun e w' => e = .returned (.int .u32 (Sha.word s.data.toList k : Nat)) ∧ ∃ n, w' = w.drewN n := by
  unfold maxLen at hs
  have i0 := idx_str s k k rfl (by omega)
  have i1 := idx_str s (k + 1) (k + 1) rfl (by omega)
  have i2 := idx_str s (k + 2) (k + 2) rfl (by omega)
  have i3 := idx_str s (k + 3) (k + 3) rfl (by omega)
  have b0 := Sha.byteAt_lt s.data.toList k
  have b1 := Sha.byteAt_lt s.data.toList (k + 1)
  have b2 := Sha.byteAt_lt s.data.toList (k + 2)
  have b3 := Sha.byteAt_lt s.data.toList (k + 3)
  have HW : Hid (Sha.word s.data.toList k = ((Sha.byteAt s.data.toList k * 16777216 ||| Sha.byteAt s.data.toList (k + 1) * 65536) ||| Sha.byteAt s.data.toList (k + 2) * 256) ||| Sha.byteAt s.data.toList (k + 3)) := rfl
  generalize Sha.word s.data.toList k = W at *
  generalize Sha.byteAt s.data.toList k = B0 at *
  generalize Sha.byteAt s.data.toList (k + 1) = B1 at *
  generalize Sha.byteAt s.data.toList (k + 2) = B2 at *
  generalize Sha.byteAt s.data.toList (k + 3) = B3 at *
  go_enter Tryz.func181, Tryz.ntmps181
  go_wp2
  go_quiet (fail)
  go_wp2
  go_ret
  refine ⟨ret_u32 ?_, nq, rfl⟩
  rw [HW.out]
  exact word_or B0 B1 B2 B3 b0 b1 b2 b3
end Go.Proofs.YtenaelkbgkpllaaGreatDoor
/- The program's table of 64 numbers of a block is the plain function's. -/
namespace Go.Proofs.YtenaelkbgkpllaaGreatDoor
open Go.RowKit

abbrev U (n : Nat) : Value := .int .u32 n
/-- 64 cells: the numbers of a list, then noughts -/
def arr (l : List Nat) : Array Value := ((l ++ List.replicate (64 - l.length) 0).map U).toArray
theorem arr_size (l : List Nat) (h : l.length ≤ 64) : (arr l).size = 64 := by
  simp [arr]; omega
theorem arr_at (l : List Nat) (i : Nat) (hi : i < 64) (h : l.length ≤ 64) : (arr l)[i]? = some (U (l.getD i 0)) := by
  unfold arr
  rw [List.getElem?_toArray, List.getElem?_map]
  by_cases hl : i < l.length
  · rw [List.getElem?_append_left hl, List.getD_eq_getElem?_getD, List.getElem?_eq_getElem hl]; rfl
  · have e1 : l[i]? = none := by simp; omega
    rw [List.getElem?_append_right (by omega), List.getElem?_replicate, if_pos (by omega), List.getD_eq_getElem?_getD, e1]; rfl
theorem arr_snoc (l : List Nat) (x : Nat) (h : l.length < 64) : (arr l).setIfInBounds l.length (U x) = arr (l ++ [x]) := by
  apply Array.ext_getElem?
  intro i
  rw [Array.getElem?_setIfInBounds]
  by_cases hi : i < 64
  · rw [arr_at (l ++ [x]) i hi (by simp; omega)]
    by_cases e : l.length = i
    · subst e
      rw [if_pos rfl, if_pos (by rw [arr_size l (by omega)]; omega)]
      simp
    · rw [if_neg e, arr_at l i hi (by omega)]
      by_cases hl : i < l.length
      · simp [hl, List.getElem?_append_left hl]
      · have e1 : l[i]? = none := by simp; omega
        have e2 : (l ++ [x])[i]? = none := by simp; omega
        simp [e2, e1]
  · have e1 : (arr l)[i]? = none := by rw [Array.getElem?_eq_none]; rw [arr_size l (by omega)]; omega
    have e2 : (arr (l ++ [x]))[i]? = none := by rw [Array.getElem?_eq_none]; rw [arr_size _ (by simp; omega)]; omega
    rw [e1, e2]
    have : ¬ l.length = i := by omega
    simp [this]
theorem arr_full (l : List Nat) (h : l.length = 64) : arr l = (l.map U).toArray := by simp [arr, h]

theorem at_anyI (s : ByteArray) (i : Int) (k : Nat) (w : World) (hi : i = k) (hk : k + 4 ≤ s.size) (hs : s.size ≤ maxLen) :
    Calls Tryz.prog 181 #[.string s, .int .i64 i] w fun e w' => e = .returned (.int .u32 (Sha.word s.data.toList k : Nat)) ∧ ∃ n, w' = w.drewN n := by
  subst hi; exact at_any s k w hk hs

theorem Tryz.arrayLen37 : Tryz.prog.arrayLen 65 = 64 := by kernel_rfl
theorem Tryz.elem37 : Tryz.prog.elem 65 = 63 := by kernel_rfl
theorem Tryz.array37 : Tryz.prog.underlying 65 = some (.array (Tryz.prog.arrayLen 65) (Tryz.prog.elem 65)) := by kernel_rfl
theorem Tryz.size27 (w : World) : (sizeOf 63).run Tryz.prog w = .ok 1 w := by kernel_rfl
theorem idx37 (g : Nat) (i : Int) (k : Nat) (h : i = k) (hk : k < 64) (W : World) :
    (Instr.indexAt 65 (.pointer (some ⟨g, 0, none⟩)) (.int .i64 i)).run Tryz.prog W = .ok (.pointer (some ⟨g, k, none⟩)) W := by
  subst h
  rw [run_indexAt_array W 65 _ _ _ Tryz.array37, Tryz.arrayLen37, Tryz.elem37, if_pos (by omega), Tryz.size27]
  by_cases h0 : k = 0
  · subst h0; rfl
  · simp [Addr.add, h0]
theorem wrap_small (n : Int) (h0 : -1000000 ≤ n) (h1 : n ≤ 1000000) : IntKind.i64.wrap n = n := by
  rw [IntKind.wrap_i64]; omega
theorem cs_ne {w : World} {g i k : Nat} {v : Value} {x : Option Value} (h : w.cell? ⟨g, i, none⟩ = x) (hne : i ≠ k) : ((w.setCell ⟨g, k, none⟩ v).drew).cell? ⟨g, i, none⟩ = x := by
  rw [← h]
  exact World.cell?_setCell_other _ _ _ _ (fun e => hne (by injection e with _ e2 _; exact e2.symm))
theorem cs_eq {w : World} {g k : Nat} {v x : Value} (h : w.cell? ⟨g, k, none⟩ = some x) : ((w.setCell ⟨g, k, none⟩ v).drew).cell? ⟨g, k, none⟩ = some v :=
  World.cell?_setCell_same _ _ _ h
theorem wrap32_add (a b : Nat) : IntKind.u32.wrap ((a : Int) + (b : Int)) = (((a + b) % 4294967296 : Nat) : Int) := by
  rw [IntKind.wrap_u32]; omega
theorem arr_next (l : List UInt8) (n : Nat) (h : n < 48) : (arr (Sha.spreadTo l n)).setIfInBounds (n + 16) (U (Sha.nextW (Sha.spreadTo l n) n)) = arr (Sha.spreadTo l (n + 1)) := by
  have e := Sha.spreadTo_length l n
  have := arr_snoc (Sha.spreadTo l n) (Sha.nextW (Sha.spreadTo l n) n) (by omega)
  rw [e, show 16 + n = n + 16 by omega] at this
  exact this
theorem arr_first (l : List UInt8) (n : Nat) (h : n < 16) : (arr (Sha.first l n)).setIfInBounds n (U (Sha.word l (4 * n))) = arr (Sha.first l (n + 1)) := by
  have e := Sha.first_length l n
  have := arr_snoc (Sha.first l n) (Sha.word l (4 * n)) (by omega)
  rw [e] at this
  exact this
theorem next_cast (a b c d : Nat) : ((((a : Int) + b) % 4294967296 + c) % 4294967296 + d) % 4294967296 = (((((a + b) % 4294967296 + c) % 4294967296 + d) % 4294967296 : Nat) : Int) := by
  omega
theorem Tryz.info37 : (Tryz.prog.info? 65).map (·.size) = some 64 := by kernel_rfl
theorem arr_one (l : List Nat) : (arr l).all (·.oneCell') = true := by
  unfold arr
  rw [List.all_toArray]
  simp [Value.oneCell']
theorem drewN_heap (w : World) (n : Nat) : (w.drewN n).heap = w.heap := by
  induction n <;> simp_all [World.drewN]
theorem row_same {w : World} {g i n : Nat} {cs : Array Value} {t : TypeId} {v : Value} (h : w.heap[g]? = some (.cells cs t (0, 0))) :
    ((w.drewN n).setCell ⟨g, i, none⟩ v).heap[g]? = some (.cells (cs.setIfInBounds i v) t (0, 0)) :=
  heap_setCell_same (w.drewN n) g i cs t v (by rw [drewN_heap]; exact h)
theorem row_other {w : World} {g k i n : Nat} {v : Value} {o : Option Obj} (hk : k ≠ g) (h : w.heap[k]? = o) :
    ((w.drewN n).setCell ⟨g, i, none⟩ v).heap[k]? = o := by
  rw [heap_setCell_other _ _ _ _ (by simpa using hk), drewN_heap]; exact h
theorem size_set {w : World} {n : Nat} {a : Addr} {v : Value} : ((w.drewN n).setCell a v).heap.size = w.heap.size := by
  simp
theorem below_set {B : Nat} {w wr : World} {n : Nat} {a : Addr} {v : Value} (h : Below B w wr) (ha : B ≤ a.block) : Below B w ((wr.drewN n).setCell a v) :=
  (below_drewN h n).setCell ha _

set_option maxRecDepth 100000 in
set_option maxHeartbeats 400000 in
theorem spread_any (s : ByteArray) (w : World) (hs : s.size = 64) :
    Calls Tryz.prog 164 #[.string s] w fun e w' => e = .returned (.agg (arr (Sha.spreadTo s.data.toList 48))) ∧ Below w.heap.size w w' := by
  have hm : s.size ≤ maxLen := by unfold maxLen; omega
  have HM : Hid (s.size ≤ maxLen) := hm
  have HS : Hid (s.size = 64) := hs
  clear hm hs
  go_enter Tryz.func164, Tryz.ntmps164
  go_wp2
  go_loopw [6] (fun i wr => ∃ k : Nat, k ≤ 16 ∧ i = .int .i64 k ∧ wr.heap[w.heap.size]? = some (.cells (arr []) 65 (0, 0)) ∧ wr.heap[w.heap.size + 1]? = some (.cells (arr (Sha.first s.data.toList k)) 65 (0, 0)) ∧ wr.heap.size = w.heap.size + 2 ∧ Below w.heap.size w wr)
    (fun i _ => 16 - (intOf i).toNat)
  case atStart =>
    refine ⟨0, by omega, rfl, heap_alloc2_old _ _ _, heap_alloc2_new _ _ _, by simp, ?_⟩
    exact ((Below.refl _ _).alloc (Nat.le_refl _) _).alloc (by simp) _
  case round =>
    obtain ⟨k, hk, rfl, h2, h3, hz, hb⟩ := hrel
    have H2 : Hid (wr.heap[w.heap.size]? = some (.cells (arr []) 65 (0, 0))) := h2
    have H3 : Hid (wr.heap[w.heap.size + 1]? = some (.cells (arr (Sha.first s.data.toList k)) 65 (0, 0))) := h3
    have HZ : Hid (wr.heap.size = w.heap.size + 2) := hz
    have hl := Sha.first_length s.data.toList k
    have HL : Hid ((Sha.first s.data.toList k).length = k) := hl
    by_cases hlt : k < 16
    · have hc : wr.cell? ⟨w.heap.size + 1, k, none⟩ = some (U 0) := by
        rw [cell_of_row _ _ _ _ _ _ h3, arr_at _ _ (by omega) (by omega)]
        simp [hl]
      have hf : wr.frozen? ⟨w.heap.size + 1, k, none⟩ = false := frozen_of_row _ _ _ _ _ h3
      clear h2 h3 hl hz
      go_wp2_with fail
      refine (at_anyI s _ (4 * k) _ (by omega) (by rw [HS.out]; omega) HM.out).mono ?_
      rintro e w' ⟨rfl, nq, rfl⟩
      go_wp2
      refine ⟨⟨k + 1, by omega, by go_num, row_other (by omega) H2.out, ?_, size_set.trans HZ.out, below_set hb (by simp)⟩, by simp [intOf]; omega⟩
      rw [row_same H3.out, arr_first _ _ hlt]
    · have e16 : k = 16 := by omega
      subst e16
      clear h2 h3 hl hz
      go_wp2
      go_loopw [5] (fun i wq => ∃ n : Nat, n ≤ 48 ∧ i = .int .i64 (n + 16 : Nat) ∧ wq.heap[w.heap.size]? = some (.cells (arr []) 65 (0, 0)) ∧ wq.heap[w.heap.size + 1]? = some (.cells (arr (Sha.spreadTo s.data.toList n)) 65 (0, 0)) ∧ wq.heap.size = w.heap.size + 2 ∧ Below w.heap.size w wq)
        (fun i _ => 64 - (intOf i).toNat)
      case atStart => exact ⟨0, by omega, rfl, H2.out, H3.out, HZ.out, hb⟩
      case round =>
        clear H2 H3 HZ HL hb hlt hk
        obtain ⟨n, hn, rfl, h2, h3, hz, hb⟩ := hrel
        have H2 : Hid (wr.heap[w.heap.size]? = some (.cells (arr []) 65 (0, 0))) := h2
        have H3 : Hid (wr.heap[w.heap.size + 1]? = some (.cells (arr (Sha.spreadTo s.data.toList n)) 65 (0, 0))) := h3
        have HZ : Hid (wr.heap.size = w.heap.size + 2) := hz
        have hl := Sha.spreadTo_length s.data.toList n
        have HL : Hid ((Sha.spreadTo s.data.toList n).length = 16 + n) := hl
        have hcells : ∀ i, i < 64 → wr.cell? ⟨w.heap.size + 1, i, none⟩ = some (U ((Sha.spreadTo s.data.toList n).getD i 0)) := fun i hi => by
          rw [cell_of_row _ _ _ _ _ _ h3, arr_at _ _ hi (by omega)]
        have hf : wr.frozen? ⟨w.heap.size + 1, n + 16, none⟩ = false := frozen_of_row _ _ _ _ _ h3
        by_cases hlt : n < 48
        · have c14 := hcells (n + 14) (by omega)
          have c9 := hcells (n + 9) (by omega)
          have c1 := hcells (n + 1) (by omega)
          have c0 := hcells n (by omega)
          have c16 := hcells (n + 16) (by omega)
          have HN : Hid (Sha.nextW (Sha.spreadTo s.data.toList n) n = (((Sha.ss1 ((Sha.spreadTo s.data.toList n).getD (n + 14) 0) + (Sha.spreadTo s.data.toList n).getD (n + 9) 0) % 4294967296 + Sha.ss0 ((Sha.spreadTo s.data.toList n).getD (n + 1) 0)) % 4294967296 + (Sha.spreadTo s.data.toList n).getD n 0) % 4294967296) := rfl
          have l14 := Sha.getD_lt (Sha.spreadTo_lt s.data.toList n) (n + 14)
          have l9 := Sha.getD_lt (Sha.spreadTo_lt s.data.toList n) (n + 9)
          have l1 := Sha.getD_lt (Sha.spreadTo_lt s.data.toList n) (n + 1)
          have l0 := Sha.getD_lt (Sha.spreadTo_lt s.data.toList n) n
          clear h2 h3 hl hz hcells
          generalize (Sha.spreadTo s.data.toList n).getD (n + 14) 0 = x14 at *
          generalize (Sha.spreadTo s.data.toList n).getD (n + 9) 0 = x9 at *
          generalize (Sha.spreadTo s.data.toList n).getD (n + 1) 0 = x1 at *
          generalize (Sha.spreadTo s.data.toList n).getD n 0 = x0 at *
          generalize (Sha.spreadTo s.data.toList n).getD (n + 16) 0 = x16 at *
          obtain ⟨t, ht⟩ : ∃ t : Int, t = ((n + 16 : Nat) : Int) := ⟨_, rfl⟩
          have t0 : 16 ≤ t := by omega
          have t1 : t < 64 := by omega
          have i14 := idx37 (w.heap.size + 1) (t - 2) (n + 14) (by omega) (by omega)
          have i9 := idx37 (w.heap.size + 1) (t - 7) (n + 9) (by omega) (by omega)
          have i1 := idx37 (w.heap.size + 1) (t - 15) (n + 1) (by omega) (by omega)
          have i0 := idx37 (w.heap.size + 1) (t - 16) n (by omega) (by omega)
          have i16 := idx37 (w.heap.size + 1) t (n + 16) (by omega) (by omega)
          have w14 := wrap_small (t - 2) (by omega) (by omega)
          have w9 := wrap_small (t - 7) (by omega) (by omega)
          have w1 := wrap_small (t - 15) (by omega) (by omega)
          have w0 := wrap_small (t - 16) (by omega) (by omega)
          have HT : Hid (t = ((n + 16 : Nat) : Int)) := ht
          rw [← ht]
          have HLT : Hid (n < 48) := hlt
          clear ht hlt hn
          go_wp2_with fail
          go_region_held3 (fun w' => w'.cell? ⟨w.heap.size + 1, n + 14, none⟩ = some (U x14) ∧ w'.cell? ⟨w.heap.size + 1, n + 9, none⟩ = some (U x9) ∧ w'.cell? ⟨w.heap.size + 1, n + 1, none⟩ = some (U x1) ∧ w'.cell? ⟨w.heap.size + 1, n, none⟩ = some (U x0) ∧ (∃ v, w'.cell? ⟨w.heap.size + 1, n + 16, none⟩ = some v) ∧ w'.frozen? ⟨w.heap.size + 1, n + 16, none⟩ = false) (first | exact ⟨c14, c9, c1, c0, ⟨_, c16⟩, hf⟩ | exact ⟨cs_ne c14 (by omega), cs_ne c9 (by omega), cs_ne c1 (by omega), cs_ne c0 (by omega), ⟨_, cs_eq c16⟩, by simp [hf]⟩)
            (first | (go_at_call 184; refine (ss1_any x14 _ l14).mono ?_; rintro e w' ⟨rfl, rfl⟩) | (go_at_call 185; refine (ss0_any x1 _ l1).mono ?_; rintro e w' ⟨rfl, rfl⟩))
          all_goals
            go_wp2
            go_roundw
            case rel =>
              (repeat apply Exists.intro)
              have hlt := HLT.out
              refine ⟨⟨n + 1, hlt, by rw [HT.out]; go_num, ?_, ?_, ?_, ?_⟩, rfl⟩
              · exact row_other (n := 1) (by omega) H2.out
              · exact (row_same (n := 1) H3.out).trans (by rw [next_cast, ← HN.out, arr_next _ _ HLT.out])
              · exact (size_set (n := 1)).trans HZ.out
              · exact below_set (n := 1) hb (by simp)
            case measure => simp [intOf]; omega
        · have e48 : n = 48 := by omega
          subst e48
          have hA : (arr (Sha.spreadTo s.data.toList 48)).size = 64 := arr_size _ (by rw [hl]; omega)
          have h1 := arr_one (Sha.spreadTo s.data.toList 48)
          have hB : (arr []).size = 64 := arr_size _ (by decide)
          clear hcells hf hl h2 h3 hz HL HS HM
          generalize hAe : arr (Sha.spreadTo s.data.toList 48) = A at *
          have HAe : Hid (arr (Sha.spreadTo s.data.toList 48) = A) := hAe
          clear hAe
          generalize arr [] = B at *
          have HA : Hid (A.size = 64) := hA
          have HB : Hid (B.size = 64) := hB
          clear hA hB hlt
          go_wp2_with (first | (refine wpList_load_row rfl 65 (.tmp 3) rfl (w.heap.size + 1) rfl 65 A (0, 0) _ H3.out Tryz.underlying65 rfl (by rw [HA.out]; exact Tryz.info37) ?_) | (refine wpList_store_row rfl 65 (.tmp 2) (.tmp 43) rfl w.heap.size A rfl rfl 65 B H2.out (by rw [HA.out]; exact Tryz.info37) (by rw [HA.out, HB.out]) h1 ?_))
          refine bodyPost_ret (v := .agg A) ?_ rfl ⟨by rw [HAe.out], below_setRow hb (Nat.le_refl _) A⟩
          exact results_cell_row rfl _ _ w.heap.size 65 A (0, 0) _ rfl (setRow_heap _ _ _ _ _ _ H2.out) Tryz.underlying65 rfl (by rw [HA.out]; exact Tryz.info37)
end Go.Proofs.YtenaelkbgkpllaaGreatDoor
/- One block stirred into the state of a digest: the program's answer is the plain function's. -/
namespace Go.Proofs.YtenaelkbgkpllaaGreatDoor
open Go.RowKit

def st8 (s : Sha.St) : Array Value := #[U s.a, U s.b, U s.c, U s.d, U s.e, U s.f, U s.g, U s.h]
/-- the table of the rounds' numbers lies in memory -/
def KT (w : World) : Prop := ∀ i, i < 64 → w.cell? ⟨1, i, none⟩ = some (U (Sha.Ks.getD i 0))

theorem Tryz.under37 : Tryz.prog.underlying 65 = some (.array 64 63) := by kernel_rfl
theorem Tryz.under28 : Tryz.prog.underlying 64 = some (.array 8 63) := by kernel_rfl
theorem idxAgg37 (A : Array Value) (i : Int) (n : Nat) (v : Value) (h : i = n) (hn : n < 64) (hv : A[n]? = some v) (W : World) :
    (Instr.index 65 (.agg A) (.int .i64 i)).run Tryz.prog W = .ok v W := by
  subst h
  simp [Instr.index, asIntOf, run_underlying Tryz.under37, part, hv]
  intro h; omega
theorem idxAgg28 (A : Array Value) (i : Int) (n : Nat) (v : Value) (h : i = n) (hn : n < 8) (hv : A[n]? = some v) (W : World) :
    (Instr.index 64 (.agg A) (.int .i64 i)).run Tryz.prog W = .ok v W := by
  subst h
  simp [Instr.index, asIntOf, run_underlying Tryz.under28, part, hv]
  intro h; omega
theorem Tryz.arrayLen28 : Tryz.prog.arrayLen 64 = 8 := by kernel_rfl
theorem Tryz.elem28 : Tryz.prog.elem 64 = 63 := by kernel_rfl
theorem Tryz.array28 : Tryz.prog.underlying 64 = some (.array (Tryz.prog.arrayLen 64) (Tryz.prog.elem 64)) := by kernel_rfl
theorem Tryz.info28 : (Tryz.prog.info? 64).map (·.size) = some 8 := by kernel_rfl
theorem idx28 (g : Nat) (i : Int) (k : Nat) (h : i = k) (hk : k < 8) (W : World) :
    (Instr.indexAt 64 (.pointer (some ⟨g, 0, none⟩)) (.int .i64 i)).run Tryz.prog W = .ok (.pointer (some ⟨g, k, none⟩)) W := by
  subst h
  rw [run_indexAt_array W 64 _ _ _ Tryz.array28, Tryz.arrayLen28, Tryz.elem28, if_pos (by omega), Tryz.size27]
  by_cases h0 : k = 0
  · subst h0; rfl
  · simp [Addr.add, h0]
theorem Ks_length : Sha.Ks.length = 64 := rfl
theorem KT.drewN {w : World} (h : KT w) (n : Nat) : KT (w.drewN n) := fun i hi => by
  have := h i hi
  simpa using this
theorem KT.lt {w : World} (h : KT w) : 1 < w.heap.size := block_lt_of_cell (h 0 (by decide))
theorem KT.below {w w' : World} (h : KT w) (hb : Below w.heap.size w w') : KT w' := fun i hi => (hb.cell (p := ⟨1, i, none⟩) h.lt).trans (h i hi)
theorem ra_cast (h s c k w u v : Nat) : (((h : Int) + s + c + k + w) % 4294967296 + ((u : Int) + v) % 4294967296) % 4294967296 = ((((((((h + s) % 4294967296 + c) % 4294967296 + k) % 4294967296 + w) % 4294967296) + (u + v) % 4294967296) % 4294967296 : Nat) : Int) := by omega
theorem re_cast (d h s c k w : Nat) : ((d : Int) + ((h : Int) + s + c + k + w) % 4294967296) % 4294967296 = (((d + ((((h + s) % 4294967296 + c) % 4294967296 + k) % 4294967296 + w) % 4294967296) % 4294967296 : Nat) : Int) := by omega
def toL (s : Sha.St) : List Nat := [s.a, s.b, s.c, s.d, s.e, s.f, s.g, s.h]
/-- the first k numbers of the one, the rest of the other -/
def mix (x y : List Nat) (k : Nat) : Array Value := ((x.take k ++ y.drop k).map U).toArray
theorem mix_size (x y : List Nat) (k : Nat) (hx : x.length = 8) (hy : y.length = 8) (hk : k ≤ 8) : (mix x y k).size = 8 := by
  simp [mix, hx, hy]; omega
theorem mix_at (x y : List Nat) (k : Nat) (hx : x.length = 8) (hy : y.length = 8) (hk : k < 8) : (mix x y k)[k]? = some (U (y.getD k 0)) := by
  unfold mix
  rw [List.getElem?_toArray, List.getElem?_map, List.getElem?_append_right (by simp; omega)]
  have : k - (x.take k).length = 0 := by simp; omega
  rw [this, List.getElem?_drop, List.getD_eq_getElem?_getD, Nat.add_zero, List.getElem?_eq_getElem (by omega)]; rfl
theorem mix_step (x y : List Nat) (k : Nat) (hx : x.length = 8) (hy : y.length = 8) (hk : k < 8) : (mix x y k).setIfInBounds k (U (x.getD k 0)) = mix x y (k + 1) := by
  unfold mix
  rw [List.setIfInBounds_toArray]
  congr 1
  apply List.ext_getElem?
  intro i
  rw [List.getElem?_set, List.getElem?_map, List.getElem?_map, List.getElem?_append, List.getElem?_append]
  simp only [List.length_map, List.length_append, List.length_take, List.length_drop, hx, hy, List.getElem?_take, List.getElem?_drop]
  by_cases e : k = i
  · subst e
    rw [if_pos rfl, if_pos (by omega), if_pos (by omega), if_pos (by omega), List.getD_eq_getElem?_getD, List.getElem?_eq_getElem (by omega)]; rfl
  · rw [if_neg e]
    by_cases hi : i < k
    · rw [if_pos (by omega), if_pos hi, if_pos (by omega), if_pos (by omega)]
    · rw [if_neg (by omega), if_neg (by omega)]
      have e1 : k + (i - min k 8) = i := by omega
      have e2 : k + 1 + (i - min (k + 1) 8) = i := by omega
      rw [e1, e2]
theorem mix_zero (x y : List Nat) : mix x y 0 = (y.map U).toArray := by simp [mix]
theorem mix_all (x y : List Nat) (hx : x.length = 8) (hy : y.length = 8) : mix x y 8 = (x.map U).toArray := by
  unfold mix
  rw [List.take_of_length_le (by omega), List.drop_of_length_le (by omega), List.append_nil]
theorem mix_one (x y : List Nat) (k : Nat) : (mix x y k).all (·.oneCell') = true := by
  unfold mix
  rw [List.all_toArray, List.all_eq_true]
  intro v hv
  obtain ⟨n, _, rfl⟩ := List.mem_map.1 hv
  rfl
theorem hide {p : Prop} (h : p) : Hid p := h
theorem toL_length (s : Sha.St) : (toL s).length = 8 := rfl
theorem toL_arr (s : Sha.St) : ((toL s).map U).toArray = st8 s := rfl
theorem st8_at (s : Sha.St) : ∀ (k : Nat), k < 8 → (st8 s)[k]? = some (U ((toL s).getD k 0))
  | 0, _ => rfl
  | 1, _ => rfl
  | 2, _ => rfl
  | 3, _ => rfl
  | 4, _ => rfl
  | 5, _ => rfl
  | 6, _ => rfl
  | 7, _ => rfl
  | k + 8, h => absurd h (by omega)
theorem add_at (s t : Sha.St) : ∀ (k : Nat), k < 8 → (toL (Sha.add s t)).getD k 0 = ((toL s).getD k 0 + (toL t).getD k 0) % 4294967296
  | 0, _ => rfl
  | 1, _ => rfl
  | 2, _ => rfl
  | 3, _ => rfl
  | 4, _ => rfl
  | 5, _ => rfl
  | 6, _ => rfl
  | 7, _ => rfl
  | k + 8, h => absurd h (by omega)
theorem add_cast (x y : Nat) : ((x : Int) + y) % 4294967296 = (((x + y) % 4294967296 : Nat) : Int) := by omega

set_option maxRecDepth 100000 in
set_option maxHeartbeats 400000 in
theorem stir_any (a b c d e f g h : Nat) (bl : ByteArray) (w : World) (hs : Sha.Ok ⟨a, b, c, d, e, f, g, h⟩) (hbl : bl.size = 64) (hK : KT w) :
    Calls Tryz.prog 139 #[.agg #[U a, U b, U c, U d, U e, U f, U g, U h], .string bl] w fun e' w' => e' = .returned (.agg (st8 (Sha.stir ⟨a, b, c, d, e, f, g, h⟩ bl.data.toList))) ∧ Below w.heap.size w w' := by
  have hl := Sha.spreadTo_length bl.data.toList 48
  have hA : (arr (Sha.spreadTo bl.data.toList 48)).size = 64 := arr_size _ (by rw [hl]; omega)
  have h1 := arr_one (Sha.spreadTo bl.data.toList 48)
  have HA : Hid ((arr (Sha.spreadTo bl.data.toList 48)).size = 64) := hA
  have HK : Hid (KT w) := hK
  have HS : Hid (Sha.Ok ⟨a, b, c, d, e, f, g, h⟩) := hs
  clear hl hA hK hs
  go_enter Tryz.func139, Tryz.ntmps139
  go_wp2_with fail
  refine (spread_any bl _ hbl).mono ?_
  rintro e' w1 ⟨rfl, hb1⟩
  generalize hAe : arr (Sha.spreadTo bl.data.toList 48) = A at *
  have HAe : Hid (arr (Sha.spreadTo bl.data.toList 48) = A) := hAe
  clear hAe
  have hz : w.heap.size + 1 < w1.heap.size := by have := hb1.size; simp at this; omega
  have hrow : w1.heap[w.heap.size]? = some (.cells #[U a, U b, U c, U d, U e, U f, U g, U h] 64 (0, 0)) := (hb1.block w.heap.size (by simp; omega)).trans (heap_alloc2_old w _ _)
  have hres : ∃ z : Array Value, z.size = 8 ∧ w1.heap[w.heap.size + 1]? = some (.cells z 64 (0, 0)) := by
    exact ⟨_, rfl, (hb1.block (w.heap.size + 1) (by simp)).trans (heap_alloc2_new w _ _)⟩
  have hbw : Below w.heap.size w w1 := (((Below.refl _ _).alloc (Nat.le_refl _) _).alloc (by simp) _).trans (hb1.mono (by simp; omega))
  obtain ⟨z, hz8, hres⟩ := hres
  clear hb1
  have HR : Hid (w1.heap[w.heap.size]? = some (.cells #[U a, U b, U c, U d, U e, U f, U g, U h] 64 (0, 0))) := hrow
  have HZ : Hid (w1.heap[w.heap.size + 1]? = some (.cells z 64 (0, 0))) := hres
  have H8 : Hid (z.size = 8) := hz8
  have hlt : w.heap.size < w1.heap.size := by omega
  have c0 : ∀ o, (w1.alloc o).cell? ⟨w.heap.size, 0, none⟩ = some (U a) := fun o => by rw [World.cell?_alloc_lt _ _ _ hlt, cell_of_row _ _ _ _ _ _ hrow]; rfl
  have c1 : ∀ o, (w1.alloc o).cell? ⟨w.heap.size, 1, none⟩ = some (U b) := fun o => by rw [World.cell?_alloc_lt _ _ _ hlt, cell_of_row _ _ _ _ _ _ hrow]; rfl
  have c2 : ∀ o, (w1.alloc o).cell? ⟨w.heap.size, 2, none⟩ = some (U c) := fun o => by rw [World.cell?_alloc_lt _ _ _ hlt, cell_of_row _ _ _ _ _ _ hrow]; rfl
  have c3 : ∀ o, (w1.alloc o).cell? ⟨w.heap.size, 3, none⟩ = some (U d) := fun o => by rw [World.cell?_alloc_lt _ _ _ hlt, cell_of_row _ _ _ _ _ _ hrow]; rfl
  have c4 : ∀ o, (w1.alloc o).cell? ⟨w.heap.size, 4, none⟩ = some (U e) := fun o => by rw [World.cell?_alloc_lt _ _ _ hlt, cell_of_row _ _ _ _ _ _ hrow]; rfl
  have c5 : ∀ o, (w1.alloc o).cell? ⟨w.heap.size, 5, none⟩ = some (U f) := fun o => by rw [World.cell?_alloc_lt _ _ _ hlt, cell_of_row _ _ _ _ _ _ hrow]; rfl
  have c6 : ∀ o, (w1.alloc o).cell? ⟨w.heap.size, 6, none⟩ = some (U g) := fun o => by rw [World.cell?_alloc_lt _ _ _ hlt, cell_of_row _ _ _ _ _ _ hrow]; rfl
  have c7 : ∀ o, (w1.alloc o).cell? ⟨w.heap.size, 7, none⟩ = some (U h) := fun o => by rw [World.cell?_alloc_lt _ _ _ hlt, cell_of_row _ _ _ _ _ _ hrow]; rfl
  clear hrow hres hz8
  go_wp2_with (refine wpList_store_row rfl 65 (.tmp 5) (.tmp 21) rfl w1.heap.size A rfl rfl 65 _ (heap_alloc_new w1 _) (by rw [HA.out]; exact Tryz.info37) (by rw [HA.out]; rfl) h1 ?_; rw [World.setRow_alloc_new])
  go_quiet (fail)
  clear c0 c1 c2 c3 c4 c5 c6 c7
  go_wp2_with (refine wpList_load_row rfl 65 (.tmp 5) rfl w1.heap.size rfl 65 A (0, 0) _ (by rw [drewN_heap]; exact heap_alloc_new w1 _) Tryz.underlying65 rfl (by rw [HA.out]; exact Tryz.info37) ?_)
  have hKW : KT (w1.alloc (.cells A 65)) := (HK.out.below hbw).below ((Below.refl _ _).alloc (Nat.le_refl _) _)
  have HKW : Hid (KT (w1.alloc (.cells A 65))) := hKW
  clear hKW
  go_loopw [6, 7, 8, 9, 10, 11, 12, 13, 39] (fun va vb vc vd ve vf vg vh i wq => ∃ n : Nat, n ≤ 64 ∧ i = .int .i64 n ∧ ∃ r : Sha.St, Sha.rounds (Sha.spreadTo bl.data.toList 48) n ⟨a, b, c, d, e, f, g, h⟩ = r ∧ va = U r.a ∧ vb = U r.b ∧ vc = U r.c ∧ vd = U r.d ∧ ve = U r.e ∧ vf = U r.f ∧ vg = U r.g ∧ vh = U r.h ∧ ∃ q, wq = (w1.alloc (.cells A 65)).drewN q)
    (fun _ _ _ _ _ _ _ _ i _ => 64 - (intOf i).toNat)
  case atStart => exact ⟨0, by omega, rfl, ⟨a, b, c, d, e, f, g, h⟩, rfl, rfl, rfl, rfl, rfl, rfl, rfl, rfl, rfl, _, rfl⟩
  case round =>
    obtain ⟨n, hn, rfl, r, hr, rfl, rfl, rfl, rfl, rfl, rfl, rfl, rfl, q, hwq⟩ := hrel
    have HQ : Hid (wr = (w1.alloc (.cells A 65)).drewN q) := hwq
    have hKr : KT wr := hwq ▸ HKW.out.drewN q
    have HKr : Hid (KT wr) := hKr
    clear hwq hKr
    have hok : Sha.Ok r := hr ▸ Sha.rounds_ok n HS.out
    have HRr : Hid (Sha.rounds (Sha.spreadTo bl.data.toList 48) n ⟨a, b, c, d, e, f, g, h⟩ = r) := hr
    clear hr
    obtain ⟨ra, rb, rc, rd, re, rf, rg, rh⟩ := r
    obtain ⟨oa, ob, oc, od, oe, of, og, oh⟩ := hok
    dsimp only at oa ob oc od oe of og oh ⊢
    by_cases hlt : n < 64
    · have hk := HKr.out n hlt
      have hki := idx37 0 (n : Int) n rfl hlt
      have hwv : A[n]? = some (U ((Sha.spreadTo bl.data.toList 48).getD n 0)) := by rw [← HAe.out]; exact arr_at _ _ hlt (by rw [Sha.spreadTo_length]; omega)
      have hwi := idxAgg37 A (n : Int) n _ rfl hlt hwv
      have lk := Sha.getD_lt Sha.Ks_lt n
      have lw := Sha.getD_lt (Sha.spreadTo_lt bl.data.toList 48) n
      have HST : Hid (Sha.rounds (Sha.spreadTo bl.data.toList 48) (n + 1) ⟨a, b, c, d, e, f, g, h⟩ = Sha.round (Sha.Ks.getD n 0) ((Sha.spreadTo bl.data.toList 48).getD n 0) ⟨ra, rb, rc, rd, re, rf, rg, rh⟩) := by
        show Sha.round _ _ (Sha.rounds _ n _) = _
        rw [HRr.out]
      clear hwv HRr
      generalize Sha.Ks.getD n 0 = kn at *
      generalize (Sha.spreadTo bl.data.toList 48).getD n 0 = wn at *
      go_wp2_with fail
      go_quiet ((first | (go_at_call 165; exact Calls.quiet_of_same (bs1_any re _ oe)) | (go_at_call 166; exact Calls.quiet_of_same (choose_any re rf rg _ oe of og))))
      go_wp2_with fail
      refine (bs0_any ra _ oa).mono ?_
      rintro e' w' ⟨rfl, rfl⟩
      go_wp2_with fail
      refine (majority_any ra rb rc _ oa ob oc).mono ?_
      rintro e' w' ⟨rfl, rfl⟩
      go_wp2
      exact ⟨⟨n + 1, hlt, by go_num, _, HST.out, congrArg (Value.int IntKind.u32) (ra_cast _ _ _ _ _ _ _), rfl, rfl, rfl, congrArg (Value.int IntKind.u32) (re_cast _ _ _ _ _ _), rfl, rfl, rfl, q + nq, by rw [HQ.out, World.drewN_drewN]⟩, by simp [intOf]; omega⟩
    · have e64 : n = 64 := by omega
      subst e64
      clear hlt hn
      have hrow : wr.heap[w.heap.size]? = some (.cells #[U a, U b, U c, U d, U e, U f, U g, U h] 64 (0, 0)) := by
        rw [HQ.out, drewN_heap, Below.heap_alloc _ _ _ (by omega)]; exact HR.out
      have hres : wr.heap[w.heap.size + 1]? = some (.cells z 64 (0, 0)) := by
        rw [HQ.out, drewN_heap, Below.heap_alloc _ _ _ hz]; exact HZ.out
      have hbr : Below w.heap.size w wr := by
        rw [HQ.out]; exact below_drewN (hbw.alloc (by omega) _) q
      have HR2 : Hid (wr.heap[w.heap.size]? = some (.cells #[U a, U b, U c, U d, U e, U f, U g, U h] 64 (0, 0))) := hrow
      have HZ2 : Hid (wr.heap[w.heap.size + 1]? = some (.cells z 64 (0, 0))) := hres
      clear hrow hres
      go_wp2
      go_loopw [87] (fun i wq => ∃ k : Nat, k ≤ 8 ∧ i = .int .i64 k ∧ wq.heap[w.heap.size]? = some (.cells (mix (toL (Sha.add ⟨a, b, c, d, e, f, g, h⟩ ⟨ra, rb, rc, rd, re, rf, rg, rh⟩)) (toL ⟨a, b, c, d, e, f, g, h⟩) k) 64 (0, 0)) ∧ wq.heap[w.heap.size + 1]? = some (.cells z 64 (0, 0)) ∧ Below w.heap.size w wq)
        (fun i _ => 8 - (intOf i).toNat)
      case atStart => exact ⟨0, by omega, rfl, HR2.out, HZ2.out, hbr⟩
      case round =>
        clear hbr
        obtain ⟨k, hk, rfl, h2, h3, hb⟩ := hrel
        have H2 : Hid (wr.heap[w.heap.size]? = some (.cells (mix (toL (Sha.add ⟨a, b, c, d, e, f, g, h⟩ ⟨ra, rb, rc, rd, re, rf, rg, rh⟩)) (toL ⟨a, b, c, d, e, f, g, h⟩) k) 64 (0, 0))) := h2
        have H3 : Hid (wr.heap[w.heap.size + 1]? = some (.cells z 64 (0, 0))) := h3
        by_cases hlt : k < 8
        · have hc : wr.cell? ⟨w.heap.size, k, none⟩ = some (U ((toL ⟨a, b, c, d, e, f, g, h⟩).getD k 0)) := by
            rw [cell_of_row _ _ _ _ _ _ h2]; exact mix_at _ _ _ rfl rfl hlt
          have hf : wr.frozen? ⟨w.heap.size, k, none⟩ = false := frozen_of_row _ _ _ _ _ h2
          have hi := idx28 w.heap.size (k : Int) k rfl hlt
          have hv := idxAgg28 #[U ra, U rb, U rc, U rd, U re, U rf, U rg, U rh] (k : Int) k _ rfl hlt (st8_at ⟨ra, rb, rc, rd, re, rf, rg, rh⟩ k hlt)
          have HM := hide (mix_step (toL (Sha.add ⟨a, b, c, d, e, f, g, h⟩ ⟨ra, rb, rc, rd, re, rf, rg, rh⟩)) (toL ⟨a, b, c, d, e, f, g, h⟩) k rfl rfl hlt)
          rw [add_at _ _ k hlt] at HM
          clear h2 h3
          generalize (toL ⟨a, b, c, d, e, f, g, h⟩).getD k 0 = xk at *
          generalize (toL ⟨ra, rb, rc, rd, re, rf, rg, rh⟩).getD k 0 = yk at *
          go_wp2
          refine ⟨⟨k + 1, hlt, by go_num, ?_, ?_, hb.setCell (by simp) _⟩, by simp [intOf]; omega⟩
          · rw [heap_setCell_same _ _ _ _ _ _ H2.out, add_cast, HM.out]
          · rw [heap_setCell_other _ _ _ _ (by simp)]; exact H3.out
        · have e8 : k = 8 := by omega
          subst e8
          have HF : Hid (st8 (Sha.stir ⟨a, b, c, d, e, f, g, h⟩ bl.data.toList) = mix (toL (Sha.add ⟨a, b, c, d, e, f, g, h⟩ ⟨ra, rb, rc, rd, re, rf, rg, rh⟩)) (toL ⟨a, b, c, d, e, f, g, h⟩) 8) := by
            rw [mix_all _ _ rfl rfl, toL_arr, ← HRr.out]; rfl
          have hM8 := mix_size (toL (Sha.add ⟨a, b, c, d, e, f, g, h⟩ ⟨ra, rb, rc, rd, re, rf, rg, rh⟩)) (toL ⟨a, b, c, d, e, f, g, h⟩) 8 rfl rfl (by omega)
          have hM1 := mix_one (toL (Sha.add ⟨a, b, c, d, e, f, g, h⟩ ⟨ra, rb, rc, rd, re, rf, rg, rh⟩)) (toL ⟨a, b, c, d, e, f, g, h⟩) 8
          clear h2 h3 HRr
          generalize mix (toL (Sha.add ⟨a, b, c, d, e, f, g, h⟩ ⟨ra, rb, rc, rd, re, rf, rg, rh⟩)) (toL ⟨a, b, c, d, e, f, g, h⟩) 8 = M at *
          have HM8 : Hid (M.size = 8) := hM8
          clear hM8 hlt hk
          go_wp2_with (first | (refine wpList_load_row rfl 64 (.tmp 2) rfl w.heap.size rfl 64 M (0, 0) _ H2.out Tryz.underlying64 rfl (by rw [HM8.out]; exact Tryz.info28) ?_) | (refine wpList_store_row rfl 64 (.tmp 4) (.tmp 98) rfl (w.heap.size + 1) M rfl rfl 64 z H3.out (by rw [HM8.out]; exact Tryz.info28) (by rw [HM8.out, H8.out]) hM1 ?_))
          refine bodyPost_ret (v := .agg M) ?_ rfl ⟨by rw [HF.out], below_setRow hb (by omega) M⟩
          exact results_cell_row rfl _ _ (w.heap.size + 1) 64 M (0, 0) _ rfl (setRow_heap _ _ _ _ _ _ H3.out) Tryz.underlying64 rfl (by rw [HM8.out]; exact Tryz.info28)
end Go.Proofs.YtenaelkbgkpllaaGreatDoor
/- All blocks of a text stirred in. -/
namespace Go.Proofs.YtenaelkbgkpllaaGreatDoor
open Go.RowKit

theorem cut_list (s : ByteArray) (a b : Nat) : (s.extract a b).data.toList = (s.data.toList.drop a).take (b - a) := by
  simp [ByteArray.data_extract]
theorem cut_size (s : ByteArray) (a b : Nat) (h : b ≤ s.size) : (s.extract a b).size = b - a := by
  simp [ByteArray.size_extract]; omega
theorem wrap_big (n : Int) (h0 : -140737488355400 ≤ n) (h1 : n ≤ 140737488355400) : IntKind.i64.wrap n = n := by
  rw [IntKind.wrap_i64]; omega
theorem st8_one (s : Sha.St) : (st8 s).all (·.oneCell') = true := by
  unfold st8
  simp [Value.oneCell']
theorem row8 {w : World} {g : Nat} {t : TypeId} {v0 v1 v2 v3 v4 v5 v6 v7 : Value} (h : w.heap[g]? = some (.cells #[v0, v1, v2, v3, v4, v5, v6, v7] t (0, 0))) :
    (w.cell? ⟨g, 0, none⟩ = some v0 ∧ w.cell? ⟨g, 1, none⟩ = some v1 ∧ w.cell? ⟨g, 2, none⟩ = some v2 ∧ w.cell? ⟨g, 3, none⟩ = some v3 ∧ w.cell? ⟨g, 4, none⟩ = some v4 ∧ w.cell? ⟨g, 5, none⟩ = some v5 ∧ w.cell? ⟨g, 6, none⟩ = some v6 ∧ w.cell? ⟨g, 7, none⟩ = some v7) ∧ (∀ i, w.frozen? ⟨g, i, none⟩ = false) := by
  refine ⟨⟨?_, ?_, ?_, ?_, ?_, ?_, ?_, ?_⟩, fun i => frozen_of_row _ _ _ _ _ h⟩ <;> (rw [cell_of_row _ _ _ _ _ _ h]; rfl)
theorem set8 {w : World} {g : Nat} {t : TypeId} {o0 o1 o2 o3 o4 o5 o6 o7 v0 v1 v2 v3 v4 v5 v6 v7 : Value} (h : w.heap[g]? = some (.cells #[o0, o1, o2, o3, o4, o5, o6, o7] t (0, 0))) :
    ((((((((w.setCell ⟨g, 0, none⟩ v0).setCell ⟨g, 1, none⟩ v1).setCell ⟨g, 2, none⟩ v2).setCell ⟨g, 3, none⟩ v3).setCell ⟨g, 4, none⟩ v4).setCell ⟨g, 5, none⟩ v5).setCell ⟨g, 6, none⟩ v6).setCell ⟨g, 7, none⟩ v7).heap[g]? = some (.cells #[v0, v1, v2, v3, v4, v5, v6, v7] t (0, 0)) := by
  have h0 : (w.setCell ⟨g, 0, none⟩ v0).heap[g]? = some (.cells #[v0, o1, o2, o3, o4, o5, o6, o7] t (0, 0)) := by
    rw [heap_setCell_same _ g 0 _ t v0 h]; simp
  have h1 : ((w.setCell ⟨g, 0, none⟩ v0).setCell ⟨g, 1, none⟩ v1).heap[g]? = some (.cells #[v0, v1, o2, o3, o4, o5, o6, o7] t (0, 0)) := by
    rw [heap_setCell_same _ g 1 _ t v1 h0]; simp
  have h2 : (((w.setCell ⟨g, 0, none⟩ v0).setCell ⟨g, 1, none⟩ v1).setCell ⟨g, 2, none⟩ v2).heap[g]? = some (.cells #[v0, v1, v2, o3, o4, o5, o6, o7] t (0, 0)) := by
    rw [heap_setCell_same _ g 2 _ t v2 h1]; simp
  have h3 : ((((w.setCell ⟨g, 0, none⟩ v0).setCell ⟨g, 1, none⟩ v1).setCell ⟨g, 2, none⟩ v2).setCell ⟨g, 3, none⟩ v3).heap[g]? = some (.cells #[v0, v1, v2, v3, o4, o5, o6, o7] t (0, 0)) := by
    rw [heap_setCell_same _ g 3 _ t v3 h2]; simp
  have h4 : (((((w.setCell ⟨g, 0, none⟩ v0).setCell ⟨g, 1, none⟩ v1).setCell ⟨g, 2, none⟩ v2).setCell ⟨g, 3, none⟩ v3).setCell ⟨g, 4, none⟩ v4).heap[g]? = some (.cells #[v0, v1, v2, v3, v4, o5, o6, o7] t (0, 0)) := by
    rw [heap_setCell_same _ g 4 _ t v4 h3]; simp
  have h5 : ((((((w.setCell ⟨g, 0, none⟩ v0).setCell ⟨g, 1, none⟩ v1).setCell ⟨g, 2, none⟩ v2).setCell ⟨g, 3, none⟩ v3).setCell ⟨g, 4, none⟩ v4).setCell ⟨g, 5, none⟩ v5).heap[g]? = some (.cells #[v0, v1, v2, v3, v4, v5, o6, o7] t (0, 0)) := by
    rw [heap_setCell_same _ g 5 _ t v5 h4]; simp
  have h6 : (((((((w.setCell ⟨g, 0, none⟩ v0).setCell ⟨g, 1, none⟩ v1).setCell ⟨g, 2, none⟩ v2).setCell ⟨g, 3, none⟩ v3).setCell ⟨g, 4, none⟩ v4).setCell ⟨g, 5, none⟩ v5).setCell ⟨g, 6, none⟩ v6).heap[g]? = some (.cells #[v0, v1, v2, v3, v4, v5, v6, o7] t (0, 0)) := by
    rw [heap_setCell_same _ g 6 _ t v6 h5]; simp
  have h7 : ((((((((w.setCell ⟨g, 0, none⟩ v0).setCell ⟨g, 1, none⟩ v1).setCell ⟨g, 2, none⟩ v2).setCell ⟨g, 3, none⟩ v3).setCell ⟨g, 4, none⟩ v4).setCell ⟨g, 5, none⟩ v5).setCell ⟨g, 6, none⟩ v6).setCell ⟨g, 7, none⟩ v7).heap[g]? = some (.cells #[v0, v1, v2, v3, v4, v5, v6, v7] t (0, 0)) := by
    rw [heap_setCell_same _ g 7 _ t v7 h6]; simp
  exact h7
theorem set8_other {w : World} {g k : Nat} {v0 v1 v2 v3 v4 v5 v6 v7 : Value} (hk : k ≠ g) : ((((((((w.setCell ⟨g, 0, none⟩ v0).setCell ⟨g, 1, none⟩ v1).setCell ⟨g, 2, none⟩ v2).setCell ⟨g, 3, none⟩ v3).setCell ⟨g, 4, none⟩ v4).setCell ⟨g, 5, none⟩ v5).setCell ⟨g, 6, none⟩ v6).setCell ⟨g, 7, none⟩ v7).heap[k]? = w.heap[k]? := by
  rw [heap_setCell_other _ _ _ _ hk, heap_setCell_other _ _ _ _ hk, heap_setCell_other _ _ _ _ hk, heap_setCell_other _ _ _ _ hk, heap_setCell_other _ _ _ _ hk, heap_setCell_other _ _ _ _ hk, heap_setCell_other _ _ _ _ hk, heap_setCell_other _ _ _ _ hk]
theorem stir_lit (a b c d e f g h : Nat) (bl : ByteArray) (l : List UInt8) (w : World) (hs : Sha.Ok ⟨a, b, c, d, e, f, g, h⟩) (hbl : bl.size = 64) (hK : KT w) (hl : bl.data.toList = l) :
    Calls Tryz.prog 139 #[.agg #[U a, U b, U c, U d, U e, U f, U g, U h], .string bl] w fun e' w' => ∃ x : Sha.St, x = Sha.stir ⟨a, b, c, d, e, f, g, h⟩ l ∧ e' = .returned (.agg #[U x.a, U x.b, U x.c, U x.d, U x.e, U x.f, U x.g, U x.h]) ∧ Below w.heap.size w w' :=
  (stir_any a b c d e f g h bl w hs hbl hK).mono fun _ _ ⟨he, hb⟩ => ⟨_, rfl, by rw [he, hl]; rfl, hb⟩

set_option maxRecDepth 100000 in
set_option maxHeartbeats 400000 in
theorem stirAll_any (a b c d e f g h : Nat) (s : ByteArray) (m : Nat) (w : World) (hs : Sha.Ok ⟨a, b, c, d, e, f, g, h⟩) (hm : s.size = 64 * m) (hl : s.size ≤ 140737488355328) (hK : KT w) :
    Calls Tryz.prog 104 #[.agg #[U a, U b, U c, U d, U e, U f, U g, U h], .string s] w fun e' w' => e' = .returned (.agg (st8 (Sha.stirN s.data.toList m ⟨a, b, c, d, e, f, g, h⟩))) ∧ Below w.heap.size w w' := by
  have HK : Hid (KT w) := hK
  have HS : Hid (Sha.Ok ⟨a, b, c, d, e, f, g, h⟩) := hs
  have HM : Hid (s.size = 64 * m) := hm
  clear hK hs hm
  go_enter Tryz.func104, Tryz.ntmps104
  go_wp2
  go_loopw [5] (fun i wq => ∃ k : Nat, k ≤ m ∧ i = .int .i64 (64 * k : Nat) ∧ wq.heap[w.heap.size]? = some (.cells (st8 (Sha.stirN s.data.toList k ⟨a, b, c, d, e, f, g, h⟩)) 64 (0, 0)) ∧ (∃ z : Array Value, z.size = 8 ∧ wq.heap[w.heap.size + 1]? = some (.cells z 64 (0, 0))) ∧ w.heap.size + 2 ≤ wq.heap.size ∧ Below w.heap.size w wq)
    (fun i _ => s.size - (intOf i).toNat)
  case atStart =>
    refine ⟨0, by omega, rfl, heap_alloc2_old _ _ _, ⟨_, ?_, heap_alloc2_new _ _ _⟩, by simp, ?_⟩
    · rfl
    · exact ((Below.refl _ _).alloc (Nat.le_refl _) _).alloc (by simp) _
  case round =>
    obtain ⟨k, hk, rfl, h2, ⟨z, hz8, h3⟩, hz, hb⟩ := hrel
    have hok : Sha.Ok (Sha.stirN s.data.toList k ⟨a, b, c, d, e, f, g, h⟩) := Sha.stirN_ok k HS.out
    have H3 : Hid (wr.heap[w.heap.size + 1]? = some (.cells z 64 (0, 0))) := h3
    have H8 : Hid (z.size = 8) := hz8
    have hsz := HM.out
    clear h3 hz8
    by_cases hlt : k < m
    · have HN : Hid (Sha.stirN s.data.toList (k + 1) ⟨a, b, c, d, e, f, g, h⟩ = Sha.stir (Sha.stirN s.data.toList k ⟨a, b, c, d, e, f, g, h⟩) ((s.data.toList.drop (64 * k)).take 64)) := rfl
      generalize Sha.stirN s.data.toList k ⟨a, b, c, d, e, f, g, h⟩ = r at *
      obtain ⟨ra, rb, rc, rd, re, rf, rg, rh⟩ := r
      have H2 : Hid (wr.heap[w.heap.size]? = some (.cells #[U ra, U rb, U rc, U rd, U re, U rf, U rg, U rh] 64 (0, 0))) := h2
      obtain ⟨⟨c0, c1, c2, c3, c4, c5, c6, c7⟩, -⟩ := row8 H2.out
      obtain ⟨t, ht⟩ : ∃ t : Int, t = ((64 * k : Nat) : Int) := ⟨_, rfl⟩
      have HT : Hid (t = ((64 * k : Nat) : Int)) := ht
      have t0 : 0 ≤ t := by omega
      have t1 : t + 64 ≤ s.size := by omega
      have hKr : Hid (KT wr) := HK.out.below hb
      have hw64 := wrap_big (t + 64) (by omega) (by omega)
      have hsl : ∀ W, (Instr.slice 9 (.string s) (some (.int .i64 t)) (some (.int .i64 (t + 64))) none).run Tryz.prog W = .ok (.string (s.extract (64 * k) (64 * k + 64))) W := fun W => by
        rw [run_slice_string W 9 s .i64 .i64 t (t + 64) Tryz.underlying9 t0 (by omega) t1, show t.toNat = 64 * k by omega, show (t + 64).toNat = 64 * k + 64 by omega]
      have hbs : Hid ((s.extract (64 * k) (64 * k + 64)).size = 64) := by rw [Hid, cut_size _ _ _ (by omega)]; omega
      have hbd : Hid ((s.extract (64 * k) (64 * k + 64)).data.toList = (s.data.toList.drop (64 * k)).take 64) := by rw [Hid, cut_list]; congr 1; omega
      have HLT := hide hlt
      rw [← ht]
      clear ht h2 hsz
      go_wp2_with fail
      go_region_with (go_at_call 139; go_must (refine (stir_lit ra rb rc rd re rf rg rh (s.extract (64 * k) (64 * k + 64)) ((s.data.toList.drop (64 * k)).take 64) wr.drew hok hbs.out (fun i hi => hKr.out i hi) hbd.out).mono ?_; rintro e' w1 ⟨x, hx, rfl, hb1⟩; have HX := hide hx; clear hx; have hr1 := (hb1.block w.heap.size (Nat.lt_of_lt_of_le (Nat.lt_add_of_pos_right (by decide)) hz)).trans H2.out; have HR1 := hide hr1; obtain ⟨⟨d0, d1, d2, d3, d4, d5, d6, d7⟩, df⟩ := row8 hr1; clear hr1))
      clear d0 d1 d2 d3 d4 d5 d6 d7 df c0 c1 c2 c3 c4 c5 c6 c7
      go_wp2
      go_roundw
      case rel =>
        refine ⟨k + 1, by have := HLT.out; omega, by rw [HT.out]; go_num, ?_, ⟨z, H8.out, ?_⟩, ?_, ?_⟩
        · rw [HN.out, ← HX.out]; exact set8 HR1.out
        · rw [set8_other (by omega)]; exact (hb1.block (w.heap.size + 1) hz).trans H3.out
        · have := hb1.size; simp; exact Nat.le_trans hz this
        · exact ((((((((hb.drew.trans (hb1.mono (show w.heap.size ≤ wr.heap.size by omega))).setCell (by simp) _).setCell (by simp) _).setCell (by simp) _).setCell (by simp) _).setCell (by simp) _).setCell (by simp) _).setCell (by simp) _).setCell (by simp) _
      case measure => simp [intOf]; omega
    · have ekm : k = m := by omega
      subst ekm
      have hM1 : (st8 (Sha.stirN s.data.toList k ⟨a, b, c, d, e, f, g, h⟩)).all (·.oneCell') = true := st8_one _
      have hM8 : (st8 (Sha.stirN s.data.toList k ⟨a, b, c, d, e, f, g, h⟩)).size = 8 := rfl
      generalize hMe : st8 (Sha.stirN s.data.toList k ⟨a, b, c, d, e, f, g, h⟩) = M at *
      have HMe := hide hMe
      have H2 := hide h2
      have HM8 := hide hM8
      obtain ⟨t, ht⟩ : ∃ t : Int, t = ((64 * k : Nat) : Int) := ⟨_, rfl⟩
      have t1 : ¬ t < s.size := by omega
      rw [← ht]
      clear ht h2 hM8 hlt hk hok hMe hsz
      go_wp2_with (first | (refine wpList_load_row rfl 64 (.tmp 2) rfl w.heap.size rfl 64 M (0, 0) _ H2.out Tryz.underlying64 rfl (by rw [HM8.out]; exact Tryz.info28) ?_) | (refine wpList_store_row rfl 64 (.tmp 4) (.tmp 19) rfl (w.heap.size + 1) M rfl rfl 64 z H3.out (by rw [HM8.out]; exact Tryz.info28) (by rw [HM8.out, H8.out]) hM1 ?_))
      refine bodyPost_ret (v := .agg M) ?_ rfl ⟨by rw [HMe.out], below_setRow hb (by omega) M⟩
      exact results_cell_row rfl _ _ (w.heap.size + 1) 64 M (0, 0) _ rfl (setRow_heap _ _ _ _ _ _ H3.out) Tryz.underlying64 rfl (by rw [HM8.out]; exact Tryz.info28)
end Go.Proofs.YtenaelkbgkpllaaGreatDoor
/- Four bytes put behind a list. -/
namespace Go.Proofs.YtenaelkbgkpllaaGreatDoor
open Go.RowKit

theorem Tryz.info5 : (Tryz.prog.info? 5).map (fun i => (i.zero, i.size, i.bytes)) = some (some (.int .u8 0), 1, 1) := by kernel_rfl
/-- a byte as a value -/
abbrev Y (b : UInt8) : Value := .int .u8 b.toNat
theorem four_values (n : Nat) (hn : n < 4294967296) : [Value.int .u8 ((n : Int) / 16777216), Value.int .u8 ((n : Int) / 65536 % 256), Value.int .u8 ((n : Int) / 256 % 256), Value.int .u8 ((n : Int) % 256)] = (Sha.four n).map Y := by
  have e1 : (UInt8.ofNat (n / 16777216)).toNat = n / 16777216 := by simp; omega
  have e2 : (UInt8.ofNat (n / 65536)).toNat = n / 65536 % 256 := by simp
  have e3 : (UInt8.ofNat (n / 256)).toNat = n / 256 % 256 := by simp
  have e4 : (UInt8.ofNat n).toNat = n % 256 := by simp
  simp only [Sha.four, List.map_cons, List.map_nil, Y, e1, e2, e3, e4]
  rfl

set_option maxHeartbeats 400000 in
theorem append_any (v : Value) (k : Nat) (xs : List Value) (n : Nat) (w : World) (B : Nat) (hn : n < 4294967296) (hB : B ≤ w.heap.size) (hx : k ≤ 1000) (hown : w.ownsRow B 5 1 v k xs) :
    Calls Tryz.prog 140 #[v, .int .u32 n] w fun e w' => ∃ v', e = .returned v' ∧ w'.ownsRow B 5 1 v' (k + 4) (xs ++ (Sha.four n).map Y) ∧ Below B w w' ∧ w.heap.size ≤ w'.heap.size ∧ v' ≠ .slice none 0 0 := by
  have HO := hide hown
  have HV := hide (four_values n hn)
  obtain ⟨i0, hi, hz0, hz1, hz2⟩ := info_parts Tryz.info5
  clear hown
  go_enter Tryz.func140, Tryz.ntmps140
  go_wp2_with (at_builtin; refine wpList_append_own _ rfl (.tmp 5) (.tmp 17) 59 rfl B 5 i0 (.int .u8 0) 1 1 Tryz.underlying59 hi hz0 hz1 hz2 rfl (by decide) v k xs rfl (HO.out.alloc _) ⟨w.heap.size, 0, none⟩ 4 4 [Value.int .u8 ((n : Int) / 16777216), Value.int .u8 ((n : Int) / 65536 % 256), Value.int .u8 ((n : Int) / 256 % 256), Value.int .u8 ((n : Int) % 256)] rfl rfl ?c1 ?c2 ?c3 ?c4 ?c5 ?_)
  case c1 =>
    intro j u hj
    match j, hj with
    | 0, hj => simp at hj; subst hj; simp [Addr.add]
    | 1, hj => simp at hj; subst hj; simp [Addr.add]
    | 2, hj => simp at hj; subst hj; simp [Addr.add]
    | 3, hj => simp at hj; subst hj; simp [Addr.add]
    | j + 4, hj => simp at hj
  case c2 => intro u hu; simp at hu; rcases hu with rfl | rfl | rfl | rfl <;> rfl
  case c3 => unfold maxLen; omega
  case c4 => omega
  case c5 => simp; omega
  · intro v' w1 hown' hgrow hnil
    rw [HV.out] at hown'
    have hb : Below B w w1 := (((Below.refl B w).alloc hB _).grown hgrow (by simp; omega) (fun k hk => (HO.out.lt k hk).1))
    go_wp2
    go_ret
    exact ⟨v', rfl, hown', hb, hb.size, hnil⟩
end Go.Proofs.YtenaelkbgkpllaaGreatDoor
