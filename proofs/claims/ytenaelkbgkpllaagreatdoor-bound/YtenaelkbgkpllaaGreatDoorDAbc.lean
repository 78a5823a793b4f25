/- The digest of abc, by the kernel's own reckoning. -/
import Derived.Test.YtenaelkbgkpllaaGreatDoorDFasu
namespace Go.Proofs.YtenaelkbgkpllaaGreatDoor
namespace Abc
open Sha
theorem one_of (l : List UInt8) (ws kws : List Nat) (a b c d e f g h A B C D E F G H : Nat) (ht : table l ws = true) (hk : (Ks.zip ws).map plus = kws) (hs : Ok ⟨a, b, c, d, e, f, g, h⟩)
    (hg : goN kws (isSt A B C D E F G H) 1 a b c d e f g h = true) : stir ⟨a, b, c, d, e, f, g, h⟩ l = ⟨A, B, C, D, E, F, G, H⟩ := by
  have := stirs_of l ws kws 1 a b c d e f g h A B C D E F G H ht hk hs hg
  rwa [stirs_succ, stirs_zero] at this
theorem stirN_succ (l : List UInt8) (n : Nat) (s : St) : stirN l (n + 1) s = stir (stirN l n s) ((l.drop (64 * n)).take 64) := by rw [stirN]
theorem stirN_zero (l : List UInt8) (s : St) : stirN l 0 s = s := by rw [stirN]
theorem stirN_one (l : List UInt8) (s : St) (h : l.length = 64) : stirN l 1 s = stir s l := by
  rw [stirN_succ, stirN_zero, Nat.mul_zero, List.drop_zero, List.take_of_length_le (by omega)]
def blockB : List UInt8 := [97, 98, 99, 128, 0, 0, 0, 0, 0, 0, 0, 0, 0, 0, 0, 0, 0, 0, 0, 0, 0, 0, 0, 0, 0, 0, 0, 0, 0, 0, 0, 0, 0, 0, 0, 0, 0, 0, 0, 0, 0, 0, 0, 0, 0, 0, 0, 0, 0, 0, 0, 0, 0, 0, 0, 0, 0, 0, 0, 0, 0, 0, 0, 24]
def wsB : List Nat := [1633837952, 0, 0, 0, 0, 0, 0, 0, 0, 0, 0, 0, 0, 0, 0, 24, 1633837952, 983040, 2108187653, 1610613702, 1050508152, 25426944, 316456923, 3806512014, 3357629466, 3073800610, 3854317833, 845560923, 2636160359, 3968280267, 1881225380, 3552024379, 2482346367, 996719219, 2952069057, 4043988066, 176896406, 1924104970, 2483675966, 610538786, 2672279444, 4037431130, 1042573945, 657669027, 206005234, 2215296807, 2049510749, 106709978, 4215179723, 3430291419, 3118885940, 2845390439, 2226839261, 3256115900, 344409900, 2987358873, 4015503821, 3957764664, 2682456414, 2025622859, 2755645205, 1720397816, 4004225740, 313650667]
def kwsB : List Nat := [2750190360, 1899447441, 3049323471, 3921009573, 961987163, 1508970993, 2453635748, 2870763221, 3624381080, 310598401, 607225278, 1426881987, 1925078388, 2162078206, 2614888103, 3248222604, 1174261057, 4023207814, 2372534731, 2215421330, 1820764135, 1274577066, 1871538615, 1507609704, 1616883052, 1600667663, 2512347345, 4055874594, 1677764954, 3257841682, 1995152373, 3890266274, 3148653572, 1770249131, 4246826429, 1145203061, 1872080106, 3910766021, 365735020, 3067494823, 1107798069, 2562766245, 7337449, 4003433798, 3722071051, 1520682315, 1849115362, 382133322, 350440161, 3937240035, 3777946496, 3729388316, 3184978832, 283970822, 1881411963, 440265356, 1676098747, 1686902183, 615219570, 92507987, 889114383, 182164707, 2913289923, 3642975965]
theorem stirB : stir ⟨1779033703, 3144134277, 1013904242, 2773480762, 1359893119, 2600822924, 528734635, 1541459225⟩ blockB = ⟨3128432319, 2399260650, 1094795486, 1571693091, 2953011619, 2518121116, 3021012833, 4060091821⟩ :=
  one_of blockB wsB kwsB 1779033703 3144134277 1013904242 2773480762 1359893119 2600822924 528734635 1541459225 3128432319 2399260650 1094795486 1571693091 2953011619 2518121116 3021012833 4060091821 (by kernel_rfl) (by kernel_rfl) (by unfold Ok; decide) (by kernel_rfl)
theorem sha_abc : sha [97, 98, 99] = join ⟨3128432319, 2399260650, 1094795486, 1571693091, 2953011619, 2518121116, 3021012833, 4060091821⟩ := by
  have e : last [97, 98, 99] = blockB := by kernel_rfl
  unfold sha state
  rw [e]
  show join (stirN blockB 1 (stirN [] 0 start)) = _
  rw [stirN_zero, stirN_one _ _ (by kernel_rfl)]
  exact congrArg join stirB
theorem at_abc : (sha [97, 98, 99])[0]? = some 186 ∧ (sha [97, 98, 99])[1]? = some 120 ∧ (sha [97, 98, 99])[31]? = some 173 := by
  rw [sha_abc]
  exact ⟨by kernel_rfl, by kernel_rfl, by kernel_rfl⟩
end Abc
end Go.Proofs.YtenaelkbgkpllaaGreatDoor
