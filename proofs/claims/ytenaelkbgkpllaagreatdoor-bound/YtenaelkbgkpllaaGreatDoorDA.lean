/- The program's small functions of digests (turning, mixing, reading four bytes) answer what the plain functions say. -/
import Derived.Test.YtenaelkbgkpllaaGreatDoorRows
import Derived.Test.YtenaelkbgkpllaaGreatDoorDSha
import Derived.WalkKit
import Derived.WalkSpells
import Derived.WalkLawsBesides
import Derived.BigQuiet
namespace Go.Proofs.YtenaelkbgkpllaaGreatDoor
open Go.RowKit

theorem ret_u32 {a b : Int} (h : a = b) : Ending.returned (.int .u32 a) = .returned (.int .u32 b) := by rw [h]
theorem or32 {x y : Int} (a b : Nat) (hx : x = a) (hy : y = b) (ha : a < 4294967296) (hb : b < 4294967296) : bits .or .u32 x y = ((a ||| b : Nat) : Int) := by
  rw [hx, hy]; exact u32_or_nat a b ha hb
theorem and32 {x y : Int} (a b : Nat) (hx : x = a) (hy : y = b) (ha : a < 4294967296) (hb : b < 4294967296) : bits .and .u32 x y = ((a &&& b : Nat) : Int) := by
  rw [hx, hy]; exact u32_and_nat a b ha hb
theorem xor32 {x y : Int} (a b : Nat) (hx : x = a) (hy : y = b) (ha : a < 4294967296) (hb : b < 4294967296) : bits .xor .u32 x y = ((a ^^^ b : Nat) : Int) := by
  rw [hx, hy]; exact u32_xor_nat a b ha hb
theorem max32 : IntKind.u32.max = ((4294967295 : Nat) : Int) := by decide

set_option maxHeartbeats 400000 in
theorem turn2 (x : Nat) (w : World) (hx : x < 4294967296) :
    Calls Tryz.prog 186 #[.int .u32 x, .int .i64 2] w fun e w' => e = .returned (.int .u32 (Sha.ror 2 x : Nat)) ∧ w' = w := by
  have hb : bits BinOp.and IntKind.u64 (IntKind.u64.wrap (-2)) 31 = 30 := by decide
  go_enter Tryz.func186, Tryz.ntmps186
  go_wp2
  go_ret
  refine ⟨ret_u32 ?_, rfl⟩
  exact or32 (x * 1073741824 % 4294967296) (x / 4) (by omega) (by omega) (Nat.mod_lt _ (by decide)) (Sha.div_lt hx)

set_option maxHeartbeats 400000 in
theorem turn6 (x : Nat) (w : World) (hx : x < 4294967296) :
    Calls Tryz.prog 186 #[.int .u32 x, .int .i64 6] w fun e w' => e = .returned (.int .u32 (Sha.ror 6 x : Nat)) ∧ w' = w := by
  have hb : bits BinOp.and IntKind.u64 (IntKind.u64.wrap (-6)) 31 = 26 := by decide
  go_enter Tryz.func186, Tryz.ntmps186
  go_wp2
  go_ret
  refine ⟨ret_u32 ?_, rfl⟩
  exact or32 (x * 67108864 % 4294967296) (x / 64) (by omega) (by omega) (Nat.mod_lt _ (by decide)) (Sha.div_lt hx)

set_option maxHeartbeats 400000 in
theorem turn7 (x : Nat) (w : World) (hx : x < 4294967296) :
    Calls Tryz.prog 186 #[.int .u32 x, .int .i64 7] w fun e w' => e = .returned (.int .u32 (Sha.ror 7 x : Nat)) ∧ w' = w := by
  have hb : bits BinOp.and IntKind.u64 (IntKind.u64.wrap (-7)) 31 = 25 := by decide
  go_enter Tryz.func186, Tryz.ntmps186
  go_wp2
  go_ret
  refine ⟨ret_u32 ?_, rfl⟩
  exact or32 (x * 33554432 % 4294967296) (x / 128) (by omega) (by omega) (Nat.mod_lt _ (by decide)) (Sha.div_lt hx)

set_option maxHeartbeats 400000 in
theorem turn11 (x : Nat) (w : World) (hx : x < 4294967296) :
    Calls Tryz.prog 186 #[.int .u32 x, .int .i64 11] w fun e w' => e = .returned (.int .u32 (Sha.ror 11 x : Nat)) ∧ w' = w := by
  have hb : bits BinOp.and IntKind.u64 (IntKind.u64.wrap (-11)) 31 = 21 := by decide
  go_enter Tryz.func186, Tryz.ntmps186
  go_wp2
  go_ret
  refine ⟨ret_u32 ?_, rfl⟩
  exact or32 (x * 2097152 % 4294967296) (x / 2048) (by omega) (by omega) (Nat.mod_lt _ (by decide)) (Sha.div_lt hx)

set_option maxHeartbeats 400000 in
theorem turn13 (x : Nat) (w : World) (hx : x < 4294967296) :
    Calls Tryz.prog 186 #[.int .u32 x, .int .i64 13] w fun e w' => e = .returned (.int .u32 (Sha.ror 13 x : Nat)) ∧ w' = w := by
  have hb : bits BinOp.and IntKind.u64 (IntKind.u64.wrap (-13)) 31 = 19 := by decide
  go_enter Tryz.func186, Tryz.ntmps186
  go_wp2
  go_ret
  refine ⟨ret_u32 ?_, rfl⟩
  exact or32 (x * 524288 % 4294967296) (x / 8192) (by omega) (by omega) (Nat.mod_lt _ (by decide)) (Sha.div_lt hx)

set_option maxHeartbeats 400000 in
theorem turn17 (x : Nat) (w : World) (hx : x < 4294967296) :
    Calls Tryz.prog 186 #[.int .u32 x, .int .i64 17] w fun e w' => e = .returned (.int .u32 (Sha.ror 17 x : Nat)) ∧ w' = w := by
  have hb : bits BinOp.and IntKind.u64 (IntKind.u64.wrap (-17)) 31 = 15 := by decide
  go_enter Tryz.func186, Tryz.ntmps186
  go_wp2
  go_ret
  refine ⟨ret_u32 ?_, rfl⟩
  exact or32 (x * 32768 % 4294967296) (x / 131072) (by omega) (by omega) (Nat.mod_lt _ (by decide)) (Sha.div_lt hx)

set_option maxHeartbeats 400000 in
theorem turn18 (x : Nat) (w : World) (hx : x < 4294967296) :
    Calls Tryz.prog 186 #[.int .u32 x, .int .i64 18] w fun e w' => e = .returned (.int .u32 (Sha.ror 18 x : Nat)) ∧ w' = w := by
  have hb : bits BinOp.and IntKind.u64 (IntKind.u64.wrap (-18)) 31 = 14 := by decide
  go_enter Tryz.func186, Tryz.ntmps186
  go_wp2
  go_ret
  refine ⟨ret_u32 ?_, rfl⟩
  exact or32 (x * 16384 % 4294967296) (x / 262144) (by omega) (by omega) (Nat.mod_lt _ (by decide)) (Sha.div_lt hx)

set_option maxHeartbeats 400000 in
theorem turn19 (x : Nat) (w : World) (hx : x < 4294967296) :
    Calls Tryz.prog 186 #[.int .u32 x, .int .i64 19] w fun e w' => e = .returned (.int .u32 (Sha.ror 19 x : Nat)) ∧ w' = w := by
  have hb : bits BinOp.and IntKind.u64 (IntKind.u64.wrap (-19)) 31 = 13 := by decide
  go_enter Tryz.func186, Tryz.ntmps186
  go_wp2
  go_ret
  refine ⟨ret_u32 ?_, rfl⟩
  exact or32 (x * 8192 % 4294967296) (x / 524288) (by omega) (by omega) (Nat.mod_lt _ (by decide)) (Sha.div_lt hx)

set_option maxHeartbeats 400000 in
theorem turn22 (x : Nat) (w : World) (hx : x < 4294967296) :
    Calls Tryz.prog 186 #[.int .u32 x, .int .i64 22] w fun e w' => e = .returned (.int .u32 (Sha.ror 22 x : Nat)) ∧ w' = w := by
  have hb : bits BinOp.and IntKind.u64 (IntKind.u64.wrap (-22)) 31 = 10 := by decide
  go_enter Tryz.func186, Tryz.ntmps186
  go_wp2
  go_ret
  refine ⟨ret_u32 ?_, rfl⟩
  exact or32 (x * 1024 % 4294967296) (x / 4194304) (by omega) (by omega) (Nat.mod_lt _ (by decide)) (Sha.div_lt hx)

set_option maxHeartbeats 400000 in
theorem turn25 (x : Nat) (w : World) (hx : x < 4294967296) :
    Calls Tryz.prog 186 #[.int .u32 x, .int .i64 25] w fun e w' => e = .returned (.int .u32 (Sha.ror 25 x : Nat)) ∧ w' = w := by
  have hb : bits BinOp.and IntKind.u64 (IntKind.u64.wrap (-25)) 31 = 7 := by decide
  go_enter Tryz.func186, Tryz.ntmps186
  go_wp2
  go_ret
  refine ⟨ret_u32 ?_, rfl⟩
  exact or32 (x * 128 % 4294967296) (x / 33554432) (by omega) (by omega) (Nat.mod_lt _ (by decide)) (Sha.div_lt hx)

set_option maxHeartbeats 400000 in
theorem bs1_any (x : Nat) (w : World) (hx : x < 4294967296) :
    Calls Tryz.prog 165 #[.int .u32 x] w fun e w' => e = .returned (.int .u32 (Sha.bs1 x : Nat)) ∧ w' = w := by
  go_enter Tryz.func165, Tryz.ntmps165
  go_wp2_with fail
  refine (turn6 x _ hx).mono ?_
  rintro e w' ⟨rfl, rfl⟩
  go_wp2_with fail
  refine (turn11 x _ hx).mono ?_
  rintro e w' ⟨rfl, rfl⟩
  go_wp2_with fail
  refine (turn25 x _ hx).mono ?_
  rintro e w' ⟨rfl, rfl⟩
  go_wp2_with fail
  go_ret
  refine ⟨ret_u32 ?_, rfl⟩
  exact xor32 (Sha.ror 6 x ^^^ Sha.ror 11 x) (Sha.ror 25 x) (xor32 _ _ rfl rfl (Sha.ror_lt hx) (Sha.ror_lt hx)) rfl (Sha.xor_lt (Sha.ror_lt hx) (Sha.ror_lt hx)) (Sha.ror_lt hx)

set_option maxHeartbeats 400000 in
theorem bs0_any (x : Nat) (w : World) (hx : x < 4294967296) :
    Calls Tryz.prog 167 #[.int .u32 x] w fun e w' => e = .returned (.int .u32 (Sha.bs0 x : Nat)) ∧ w' = w := by
  go_enter Tryz.func167, Tryz.ntmps167
  go_wp2_with fail
  refine (turn2 x _ hx).mono ?_
  rintro e w' ⟨rfl, rfl⟩
  go_wp2_with fail
  refine (turn13 x _ hx).mono ?_
  rintro e w' ⟨rfl, rfl⟩
  go_wp2_with fail
  refine (turn22 x _ hx).mono ?_
  rintro e w' ⟨rfl, rfl⟩
  go_wp2_with fail
  go_ret
  refine ⟨ret_u32 ?_, rfl⟩
  exact xor32 (Sha.ror 2 x ^^^ Sha.ror 13 x) (Sha.ror 22 x) (xor32 _ _ rfl rfl (Sha.ror_lt hx) (Sha.ror_lt hx)) rfl (Sha.xor_lt (Sha.ror_lt hx) (Sha.ror_lt hx)) (Sha.ror_lt hx)

set_option maxHeartbeats 400000 in
theorem ss1_any (x : Nat) (w : World) (hx : x < 4294967296) :
    Calls Tryz.prog 184 #[.int .u32 x] w fun e w' => e = .returned (.int .u32 (Sha.ss1 x : Nat)) ∧ w' = w := by
  go_enter Tryz.func184, Tryz.ntmps184
  go_wp2_with fail
  refine (turn17 x _ hx).mono ?_
  rintro e w' ⟨rfl, rfl⟩
  go_wp2_with fail
  refine (turn19 x _ hx).mono ?_
  rintro e w' ⟨rfl, rfl⟩
  go_wp2_with fail
  go_ret
  refine ⟨ret_u32 ?_, rfl⟩
  exact xor32 (Sha.ror 17 x ^^^ Sha.ror 19 x) (x / 1024) (xor32 _ _ rfl rfl (Sha.ror_lt hx) (Sha.ror_lt hx)) (by omega) (Sha.xor_lt (Sha.ror_lt hx) (Sha.ror_lt hx)) (Sha.div_lt hx)

set_option maxHeartbeats 400000 in
theorem ss0_any (x : Nat) (w : World) (hx : x < 4294967296) :
    Calls Tryz.prog 185 #[.int .u32 x] w fun e w' => e = .returned (.int .u32 (Sha.ss0 x : Nat)) ∧ w' = w := by
  go_enter Tryz.func185, Tryz.ntmps185
  go_wp2_with fail
  refine (turn7 x _ hx).mono ?_
  rintro e w' ⟨rfl, rfl⟩
  go_wp2_with fail
  refine (turn18 x _ hx).mono ?_
  rintro e w' ⟨rfl, rfl⟩
  go_wp2_with fail
  go_ret
  refine ⟨ret_u32 ?_, rfl⟩
  exact xor32 (Sha.ror 7 x ^^^ Sha.ror 18 x) (x / 8) (xor32 _ _ rfl rfl (Sha.ror_lt hx) (Sha.ror_lt hx)) (by omega) (Sha.xor_lt (Sha.ror_lt hx) (Sha.ror_lt hx)) (Sha.div_lt hx)

set_option maxHeartbeats 400000 in
theorem choose_any (x y z : Nat) (w : World) (hx : x < 4294967296) (hy : y < 4294967296) (hz : z < 4294967296) :
    Calls Tryz.prog 166 #[.int .u32 x, .int .u32 y, .int .u32 z] w fun e w' => e = .returned (.int .u32 (Sha.ch x y z : Nat)) ∧ w' = w := by
  have hsg : IntKind.u32.signed = false := rfl
  go_enter Tryz.func166, Tryz.ntmps166
  go_wp2
  go_ret
  refine ⟨ret_u32 ?_, rfl⟩
  have hn : (4294967295 ^^^ x) < 4294967296 := Sha.xor_lt (by decide) hx
  exact xor32 (x &&& y) ((4294967295 ^^^ x) &&& z) (and32 x y rfl rfl hx hy) (and32 (4294967295 ^^^ x) z (xor32 4294967295 x max32 rfl (by decide) hx) rfl hn hz) (Sha.and_lt hy) (Sha.and_lt hz)

set_option maxHeartbeats 400000 in
theorem majority_any (x y z : Nat) (w : World) (hx : x < 4294967296) (hy : y < 4294967296) (hz : z < 4294967296) :
    Calls Tryz.prog 168 #[.int .u32 x, .int .u32 y, .int .u32 z] w fun e w' => e = .returned (.int .u32 (Sha.maj x y z : Nat)) ∧ w' = w := by
  go_enter Tryz.func168, Tryz.ntmps168
  go_wp2
  go_ret
  refine ⟨ret_u32 ?_, rfl⟩
  exact xor32 ((x &&& y) ^^^ (x &&& z)) (y &&& z) (xor32 (x &&& y) (x &&& z) (and32 x y rfl rfl hx hy) (and32 x z rfl rfl hx hz) (Sha.and_lt hy) (Sha.and_lt hz)) (and32 y z rfl rfl hy hz) (Sha.xor_lt (Sha.and_lt hy) (Sha.and_lt hz)) (Sha.and_lt hz)

theorem byteAt_of (s : ByteArray) (i : Nat) (h : i < s.size) : Sha.byteAt s.data.toList i = (s[i]).toNat := by
  have h' : i < s.data.toList.length := by simpa using h
  simp only [Sha.byteAt, List.getD_eq_getElem?_getD, List.getElem?_eq_getElem h', Option.getD_some]
  rfl

theorem word_or (B0 B1 B2 B3 : Nat) (b0 : B0 < 256) (b1 : B1 < 256) (b2 : B2 < 256) (b3 : B3 < 256) :
    bits .or .u32 (bits .or .u32 (bits .or .u32 ((B0 : Int) * 16777216) ((B1 : Int) * 65536)) ((B2 : Int) * 256)) (B3 : Int) = ((((B0 * 16777216 ||| B1 * 65536) ||| B2 * 256) ||| B3 : Nat) : Int) := by
  have q0 := Sha.up24 b0
  have q1 := Sha.up16 b1
  have q2 := Sha.up8 b2
  have q3 : B3 < 4294967296 := Nat.lt_trans b3 (by decide)
  exact or32 _ _ (or32 _ _ (or32 (B0 * 16777216) (B1 * 65536) (Sha.cast_mul B0 16777216) (Sha.cast_mul B1 65536) q0 q1) (Sha.cast_mul B2 256) (Sha.or_lt q0 q1) q2) rfl (Sha.or_lt (Sha.or_lt q0 q1) q2) q3
theorem idx_str (s : ByteArray) (i : Int) (k : Nat) (h : i = k) (hk : k < s.size) (w : World) :
    (Instr.index 9 (.string s) (.int .i64 i)).run Tryz.prog w = .ok (.int .u8 (Sha.byteAt s.data.toList k : Nat)) w := by
  subst h
  rw [run_index_string w 9 s .i64 k Tryz.underlying9, dif_pos (by omega), byteAt_of s k hk]
  rfl

set_option maxHeartbeats 800000 in
theorem at_any (s : ByteArray) (k : Nat) (w : World) (hk : k + 4 ≤ s.size) (hs : s.size ≤ maxLen) :
    Calls Tryz.prog 181 #[.string s, .int .i64 k] w fun e w' => e = .returned (.int .u32 (Sha.word s.data.toList k : Nat)) ∧ ∃ n, w' = w.drewN n := by
  unfold maxLen at hs
  have i0 := idx_str s k k rfl (by omega)
  have i1 := idx_str s (k + 1) (k + 1) rfl (by omega)
  have i2 := idx_str s (k + 2) (k + 2) rfl (by omega)
  have i3 := idx_str s (k + 3) (k + 3) rfl (by omega)
  have b0 := Sha.byteAt_lt s.data.toList k
  have b1 := Sha.byteAt_lt s.data.toList (k + 1)
  have b2 := Sha.byteAt_lt s.data.toList (k + 2)
  have b3 := Sha.byteAt_lt s.data.toList (k + 3)
  have HW : Hid (Sha.word s.data.toList k = ((Sha.byteAt s.data.toList k * 16777216 ||| Sha.byteAt s.data.toList (k + 1) * 65536) ||| Sha.byteAt s.data.toList (k + 2) * 256) ||| Sha.byteAt s.data.toList (k + 3)) := rfl
  generalize Sha.word s.data.toList k = W at *
  generalize Sha.byteAt s.data.toList k = B0 at *
  generalize Sha.byteAt s.data.toList (k + 1) = B1 at *
  generalize Sha.byteAt s.data.toList (k + 2) = B2 at *
  generalize Sha.byteAt s.data.toList (k + 3) = B3 at *
  go_enter Tryz.func181, Tryz.ntmps181
  go_wp2
  go_quiet (fail)
  go_wp2
  go_ret
  refine ⟨ret_u32 ?_, nq, rfl⟩
  rw [HW.out]
  exact word_or B0 B1 B2 B3 b0 b1 b2 b3
end Go.Proofs.YtenaelkbgkpllaaGreatDoor
