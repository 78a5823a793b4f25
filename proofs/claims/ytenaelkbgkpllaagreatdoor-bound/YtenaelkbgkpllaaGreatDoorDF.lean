/- Four bytes put behind a list. -/
import Derived.Test.YtenaelkbgkpllaaGreatDoorDE
namespace Go.Proofs.YtenaelkbgkpllaaGreatDoor
open Go.RowKit

theorem Tryz.info5 : (Tryz.prog.info? 5).map (fun i => (i.zero, i.size, i.bytes)) = some (some (.int .u8 0), 1, 1) := by kernel_rfl
/-- a byte as a value -/
abbrev Y (b : UInt8) : Value := .int .u8 b.toNat
theorem four_values (n : Nat) (hn : n < 4294967296) : [Value.int .u8 ((n : Int) / 16777216), Value.int .u8 ((n : Int) / 65536 % 256), Value.int .u8 ((n : Int) / 256 % 256), Value.int .u8 ((n : Int) % 256)] = (Sha.four n).map Y := by
  have e1 : (UInt8.ofNat (n / 16777216)).toNat = n / 16777216 := by simp; omega
  have e2 : (UInt8.ofNat (n / 65536)).toNat = n / 65536 % 256 := by simp
  have e3 : (UInt8.ofNat (n / 256)).toNat = n / 256 % 256 := by simp
  have e4 : (UInt8.ofNat n).toNat = n % 256 := by simp
  simp only [Sha.four, List.map_cons, List.map_nil, Y, e1, e2, e3, e4]
  rfl

set_option maxHeartbeats 400000 in
theorem append_any (v : Value) (k : Nat) (xs : List Value) (n : Nat) (w : World) (B : Nat) (hn : n < 4294967296) (hB : B ≤ w.heap.size) (hx : k ≤ 1000) (hown : w.ownsRow B 5 1 v k xs) :
    Calls Tryz.prog 140 #[v, .int .u32 n] w fun e w' => ∃ v', e = .returned v' ∧ w'.ownsRow B 5 1 v' (k + 4) (xs ++ (Sha.four n).map Y) ∧ Below B w w' ∧ w.heap.size ≤ w'.heap.size ∧ v' ≠ .slice none 0 0 := by
  have HO := hide hown
  have HV := hide (four_values n hn)
  obtain ⟨i0, hi, hz0, hz1, hz2⟩ := info_parts Tryz.info5
  clear hown
  go_enter Tryz.func140, Tryz.ntmps140
  go_wp2_with (at_builtin; refine wpList_append_own _ rfl (.tmp 5) (.tmp 17) 59 rfl B 5 i0 (.int .u8 0) 1 1 Tryz.underlying59 hi hz0 hz1 hz2 rfl (by decide) v k xs rfl (HO.out.alloc _) ⟨w.heap.size, 0, none⟩ 4 4 [Value.int .u8 ((n : Int) / 16777216), Value.int .u8 ((n : Int) / 65536 % 256), Value.int .u8 ((n : Int) / 256 % 256), Value.int .u8 ((n : Int) % 256)] rfl rfl ?c1 ?c2 ?c3 ?c4 ?c5 ?_)
  case c1 =>
    intro j u hj
    match j, hj with
    | 0, hj => simp at hj; subst hj; simp [Addr.add]
    | 1, hj => simp at hj; subst hj; simp [Addr.add]
    | 2, hj => simp at hj; subst hj; simp [Addr.add]
    | 3, hj => simp at hj; subst hj; simp [Addr.add]
    | j + 4, hj => simp at hj
  case c2 => intro u hu; simp at hu; rcases hu with rfl | rfl | rfl | rfl <;> rfl
  case c3 => unfold maxLen; omega
  case c4 => omega
  case c5 => simp; omega
  · intro v' w1 hown' hgrow hnil
    rw [HV.out] at hown'
    have hb : Below B w w1 := (((Below.refl B w).alloc hB _).grown hgrow (by simp; omega) (fun k hk => (HO.out.lt k hk).1))
    go_wp2
    go_ret
    exact ⟨v', rfl, hown', hb, hb.size, hnil⟩
end Go.Proofs.YtenaelkbgkpllaaGreatDoor
