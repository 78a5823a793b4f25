/- The reference's first bits of a root. -/
import Derived.Test.YtenaelkbgkpllaaGreatDoorProven9
import Derived.KernelRfl
import Derived.Laws.Tables
import Derived.Laws.CopyOwn
import Derived.Test.YtenaelkbgkpllaaGreatDoorProven6
namespace Go.Proofs.YtenaelkbgkpllaaGreatDoor
open Go.RowKit
namespace Ref

theorem sq_fact (wv S : Nat) (h : (wv + 1) * (wv + 1) = S) (hw : wv ≤ 400) : wrap64 (((wv : Int) + 1) * ((wv : Int) + 1)) = (S : Int) ∧ S ≤ 160801 := by
  have e : ((wv : Int) + 1) * ((wv : Int) + 1) = (((wv + 1) * (wv + 1) : Nat) : Int) := by simp
  have hb : (wv + 1) * (wv + 1) ≤ 401 * 401 := Nat.mul_le_mul (by omega) (by omega)
  rw [e, h, IntWalk.wrap64_in _ (by omega)]
  exact ⟨rfl, by omega⟩
theorem cu_fact (wv S T : Nat) (hS : S ≤ 160801) (h : S * (wv + 1) = T) (hw : wv ≤ 400) : wrap64 ((S : Int) * ((wv : Int) + 1)) = (T : Int) ∧ T ≤ 64481201 := by
  have e : (S : Int) * ((wv : Int) + 1) = ((S * (wv + 1) : Nat) : Int) := by simp
  have hb : S * (wv + 1) ≤ 160801 * 401 := Nat.mul_le_mul (by omega) (by omega)
  rw [e, h, IntWalk.wrap64_in _ (by omega)]
  exact ⟨rfl, by omega⟩
theorem over_lt (wv nn B : Nat) (h1 : wv ≤ 17) (h2 : nn + B < 4294967296) : wv * 4294967296 + (nn + B) < 1099511627776 := by omega
theorem bits_step (p power w b n : Nat) : Big.bitsFrom p power w (b + 1) n = Big.bitsFrom p power w b (if Big.above (w * 4294967296 + (n + 2 ^ b)) p power then n else n + 2 ^ b) := by unfold Big.bitsFrom; rw [Big.fold_succ]
theorem pow_half (k : Nat) : 2 ^ (k + 1) = 2 ^ k + 2 ^ k := by rw [Nat.pow_succ]; omega
theorem whole_step2 (p n wv : Nat) (h : (wv + 1) ^ 2 ≤ p) : Big.wholeFrom p 2 (n + 1) wv = Big.wholeFrom p 2 n (wv + 1) := by
  rw [Big.wholeFrom, if_neg (by omega)]
theorem whole_stop2 (p n wv : Nat) (h : p < (wv + 1) ^ 2) : Big.wholeFrom p 2 (n + 1) wv = wv := by
  rw [Big.wholeFrom, if_pos h]
theorem over2_I (x pi : Int) (xn p : Nat) (w : World) (hx : x = xn) (hpi : pi = p) (h1 : xn < 1099511627776) (hp : p < 65536) (b : Bool) (hb : Big.above xn p 2 = b) :
    Calls Tryz.prog 90 #[.int .u64 x, .int .i64 pi, .int .i64 2] w fun e w' => e = .returned (.bool b) ∧ Below w.heap.size w w' := by
  subst hx; subst hpi; subst hb; exact over2_any xn p w h1 hp
set_option maxRecDepth 100000 in
set_option maxHeartbeats 1000000 in
theorem cut2_any (p : Nat) (w : World) (hp : p ≤ 311) (hw1 : Big.whole p 2 ≤ 17) :
    Calls Tryz.prog 55 #[.int .i64 p, .int .i64 2] w fun e w' => e = .returned (.int .u32 (Big.root p 2 : Nat)) ∧ Below w.heap.size w w' := by
  have HW1 := hide hw1
  clear hw1
  go_enter Tryz.func55, Tryz.ntmps55
  go_wp2
  go_loopw [5] (fun v wq => ∃ n wv : Nat, n + wv = 400 ∧ wv ≤ p ∧ v = .int .i64 wv ∧ Big.wholeFrom p 2 n wv = Big.whole p 2 ∧ wq = w)
    (fun v _ => 400 - (intOf v).toNat)
  case atStart => exact ⟨400, 0, rfl, Nat.zero_le _, rfl, rfl, rfl⟩
  case round =>
    obtain ⟨n, wv, hnw, hwp, rfl, hwh, rfl⟩ := hrel
    obtain ⟨m, rfl⟩ : ∃ m, n = m + 1 := ⟨n - 1, by omega⟩
    have HWH := hide hwh
    have HNW := hide hnw
    clear hwh hnw
    obtain ⟨S, hS⟩ : ∃ S, (wv + 1) * (wv + 1) = S := ⟨_, rfl⟩
    obtain ⟨f2, bS⟩ := sq_fact wv S hS (by omega)
    have HS := hide (show (wv + 1) ^ 2 = S by rw [← hS, Nat.pow_two])
    clear hS
    by_cases hgo : p < S
    · have hwe := hide (show Big.whole p 2 = wv by rw [← HWH.out]; exact whole_stop2 p m wv (by rw [HS.out]; exact hgo))
      have hw17 : wv ≤ 17 := by rw [← hwe.out]; exact HW1.out
      clear HWH HNW HW1
      go_wp2_with fail
      clear f2 hgo
      go_loopw [8, 9] (fun nv bv wq => ∃ b nn : Nat, b ≤ 32 ∧ bv = .int .i64 ((b : Int) - 1) ∧ nv = .int .u32 nn ∧ nn + 2 ^ b ≤ 4294967296 ∧ Big.bitsFrom p 2 wv b nn = Big.root p 2 ∧ Below wr.heap.size wr wq)
        (fun _ bv _ => (intOf bv + 1).toNat)
      case atStart => exact ⟨32, 0, Nat.le_refl _, rfl, rfl, by decide, by rw [Big.root, hwe.out], Below.refl _ _⟩
      case round =>
        obtain ⟨b, nn, hb, rfl, rfl, hnn, hbits, hbel⟩ := hrel
        have HBI := hide hbits
        clear hbits
        by_cases hpos : 0 < b
        · obtain ⟨k, rfl⟩ : ∃ k, b = k + 1 := ⟨b - 1, by omega⟩
          rw [show ((k + 1 : Nat) : Int) - 1 = (k : Int) by omega]
          rw [pow_half] at hnn
          have HBS := hide ((bits_step p 2 wv k nn).symm.trans HBI.out)
          have hpk := Nat.two_pow_pos k
          have h2k : ((2 : Int) ^ k) = ((2 ^ k : Nat) : Int) := by simp
          have HMM := hide (show ((nn : Int) + 2 ^ k) % 4294967296 = ((nn + 2 ^ k : Nat) : Int) by rw [h2k]; omega)
          have HXX := hide (show (wv : Int) * 4294967296 + ((nn : Int) + 2 ^ k) % 4294967296 = ((wv * 4294967296 + (nn + 2 ^ k) : Nat) : Int) by rw [HMM.out]; omega)
          have hlt40 := over_lt wv nn (2 ^ k) hw17 (by omega)
          have HLT := hide hlt40
          have HNN := hide hnn
          have HN1 := hide (show nn + 2 ^ k ≤ 4294967296 by omega)
          have hk31 : k ≤ 32 := by omega
          clear h2k hlt40 hnn hpk
          cases hab : Big.above (wv * 4294967296 + (nn + 2 ^ k)) p 2 with
          | true =>
            have HAB := hide hab
            clear hab
            go_wp2_with fail
            refine (over2_I _ _ (wv * 4294967296 + (nn + 2 ^ k)) p _ HXX.out rfl HLT.out (by omega) true HAB.out).mono ?_
            rintro e w3 ⟨rfl, hb3⟩
            go_wp2_with fail
            go_roundw
            case rel => first | exact ⟨k, nn, hk31, rfl, rfl, HN1.out, by have := HBS.out; rwa [HAB.out, if_pos rfl] at this, hbel.trans (hb3.mono hbel.size)⟩ | ((repeat apply Exists.intro); exact ⟨⟨k, nn, hk31, rfl, rfl, HN1.out, by have := HBS.out; rwa [HAB.out, if_pos rfl] at this, hbel.trans (hb3.mono hbel.size)⟩, rfl⟩)
            case measure => first | (simp [intOf]; done) | (simp [intOf]; omega)
          | false =>
            have HAB := hide hab
            clear hab
            go_wp2_with fail
            refine (over2_I _ _ (wv * 4294967296 + (nn + 2 ^ k)) p _ HXX.out rfl HLT.out (by omega) false HAB.out).mono ?_
            rintro e w3 ⟨rfl, hb3⟩
            go_wp2_with fail
            go_roundw
            case rel => first | exact ⟨k, nn + 2 ^ k, hk31, rfl, congrArg (Value.int IntKind.u32) HMM.out, by have := HNN.out; omega, by have := HBS.out; rwa [HAB.out, if_neg (by decide)] at this, hbel.trans (hb3.mono hbel.size)⟩ | ((repeat apply Exists.intro); exact ⟨⟨k, nn + 2 ^ k, hk31, rfl, congrArg (Value.int IntKind.u32) HMM.out, by have := HNN.out; omega, by have := HBS.out; rwa [HAB.out, if_neg (by decide)] at this, hbel.trans (hb3.mono hbel.size)⟩, rfl⟩)
            case measure => first | (simp [intOf]; done) | (simp [intOf]; omega)
        · have e0 : b = 0 := by omega
          subst e0
          go_wp2_with fail
          go_ret
          refine ⟨?_, hbel⟩
          have := HBI.out
          unfold Big.bitsFrom at this
          rw [Big.fold_zero] at this
          rw [← this]
          rfl
    · have hle : (wv + 1) ^ 2 ≤ p := by rw [HS.out]; omega
      have hle2 : wv + 1 ≤ p := Nat.le_trans (Nat.le_self_pow (by decide) _) hle
      have hst := hide ((whole_step2 p m wv hle).symm.trans HWH.out)
      go_wp2_with fail
      go_roundw
      case rel => exact ⟨m, wv + 1, by have := HNW.out; omega, hle2, by go_num, hst.out, by first | rfl | trivial⟩
      case measure => simp [intOf]; omega
theorem whole_step3 (p n wv : Nat) (h : (wv + 1) ^ 3 ≤ p) : Big.wholeFrom p 3 (n + 1) wv = Big.wholeFrom p 3 n (wv + 1) := by
  rw [Big.wholeFrom, if_neg (by omega)]
theorem whole_stop3 (p n wv : Nat) (h : p < (wv + 1) ^ 3) : Big.wholeFrom p 3 (n + 1) wv = wv := by
  rw [Big.wholeFrom, if_pos h]
theorem over3_I (x pi : Int) (xn p : Nat) (w : World) (hx : x = xn) (hpi : pi = p) (h1 : xn < 1099511627776) (hp : p < 65536) (b : Bool) (hb : Big.above xn p 3 = b) :
    Calls Tryz.prog 90 #[.int .u64 x, .int .i64 pi, .int .i64 3] w fun e w' => e = .returned (.bool b) ∧ Below w.heap.size w w' := by
  subst hx; subst hpi; subst hb; exact over3_any xn p w h1 hp
set_option maxRecDepth 100000 in
set_option maxHeartbeats 1000000 in
theorem cut3_any (p : Nat) (w : World) (hp : p ≤ 311) (hw1 : Big.whole p 3 ≤ 17) :
    Calls Tryz.prog 55 #[.int .i64 p, .int .i64 3] w fun e w' => e = .returned (.int .u32 (Big.root p 3 : Nat)) ∧ Below w.heap.size w w' := by
  have HW1 := hide hw1
  clear hw1
  go_enter Tryz.func55, Tryz.ntmps55
  go_wp2
  go_loopw [5] (fun v wq => ∃ n wv : Nat, n + wv = 400 ∧ wv ≤ p ∧ v = .int .i64 wv ∧ Big.wholeFrom p 3 n wv = Big.whole p 3 ∧ wq = w)
    (fun v _ => 400 - (intOf v).toNat)
  case atStart => exact ⟨400, 0, rfl, Nat.zero_le _, rfl, rfl, rfl⟩
  case round =>
    obtain ⟨n, wv, hnw, hwp, rfl, hwh, rfl⟩ := hrel
    obtain ⟨m, rfl⟩ : ∃ m, n = m + 1 := ⟨n - 1, by omega⟩
    have HWH := hide hwh
    have HNW := hide hnw
    clear hwh hnw
    obtain ⟨Q, hQ⟩ : ∃ Q, (wv + 1) * (wv + 1) = Q := ⟨_, rfl⟩
    obtain ⟨f2, bQ⟩ := sq_fact wv Q hQ (by omega)
    obtain ⟨S, hS⟩ : ∃ S, Q * (wv + 1) = S := ⟨_, rfl⟩
    obtain ⟨f3, bS⟩ := cu_fact wv Q S bQ hS (by omega)
    have HS := hide (show (wv + 1) ^ 3 = S by rw [← hS, ← hQ]; simp [Nat.pow_succ])
    clear hS hQ
    by_cases hgo : p < S
    · have hwe := hide (show Big.whole p 3 = wv by rw [← HWH.out]; exact whole_stop3 p m wv (by rw [HS.out]; exact hgo))
      have hw17 : wv ≤ 17 := by rw [← hwe.out]; exact HW1.out
      clear HWH HNW HW1
      go_wp2_with fail
      clear f2 f3 hgo
      go_loopw [8, 9] (fun nv bv wq => ∃ b nn : Nat, b ≤ 32 ∧ bv = .int .i64 ((b : Int) - 1) ∧ nv = .int .u32 nn ∧ nn + 2 ^ b ≤ 4294967296 ∧ Big.bitsFrom p 3 wv b nn = Big.root p 3 ∧ Below wr.heap.size wr wq)
        (fun _ bv _ => (intOf bv + 1).toNat)
      case atStart => exact ⟨32, 0, Nat.le_refl _, rfl, rfl, by decide, by rw [Big.root, hwe.out], Below.refl _ _⟩
      case round =>
        obtain ⟨b, nn, hb, rfl, rfl, hnn, hbits, hbel⟩ := hrel
        have HBI := hide hbits
        clear hbits
        by_cases hpos : 0 < b
        · obtain ⟨k, rfl⟩ : ∃ k, b = k + 1 := ⟨b - 1, by omega⟩
          rw [show ((k + 1 : Nat) : Int) - 1 = (k : Int) by omega]
          rw [pow_half] at hnn
          have HBS := hide ((bits_step p 3 wv k nn).symm.trans HBI.out)
          have hpk := Nat.two_pow_pos k
          have h2k : ((2 : Int) ^ k) = ((2 ^ k : Nat) : Int) := by simp
          have HMM := hide (show ((nn : Int) + 2 ^ k) % 4294967296 = ((nn + 2 ^ k : Nat) : Int) by rw [h2k]; omega)
          have HXX := hide (show (wv : Int) * 4294967296 + ((nn : Int) + 2 ^ k) % 4294967296 = ((wv * 4294967296 + (nn + 2 ^ k) : Nat) : Int) by rw [HMM.out]; omega)
          have hlt40 := over_lt wv nn (2 ^ k) hw17 (by omega)
          have HLT := hide hlt40
          have HNN := hide hnn
          have HN1 := hide (show nn + 2 ^ k ≤ 4294967296 by omega)
          have hk31 : k ≤ 32 := by omega
          clear h2k hlt40 hnn hpk
          cases hab : Big.above (wv * 4294967296 + (nn + 2 ^ k)) p 3 with
          | true =>
            have HAB := hide hab
            clear hab
            go_wp2_with fail
            refine (over3_I _ _ (wv * 4294967296 + (nn + 2 ^ k)) p _ HXX.out rfl HLT.out (by omega) true HAB.out).mono ?_
            rintro e w3 ⟨rfl, hb3⟩
            go_wp2_with fail
            go_roundw
            case rel => first | exact ⟨k, nn, hk31, rfl, rfl, HN1.out, by have := HBS.out; rwa [HAB.out, if_pos rfl] at this, hbel.trans (hb3.mono hbel.size)⟩ | ((repeat apply Exists.intro); exact ⟨⟨k, nn, hk31, rfl, rfl, HN1.out, by have := HBS.out; rwa [HAB.out, if_pos rfl] at this, hbel.trans (hb3.mono hbel.size)⟩, rfl⟩)
            case measure => first | (simp [intOf]; done) | (simp [intOf]; omega)
          | false =>
            have HAB := hide hab
            clear hab
            go_wp2_with fail
            refine (over3_I _ _ (wv * 4294967296 + (nn + 2 ^ k)) p _ HXX.out rfl HLT.out (by omega) false HAB.out).mono ?_
            rintro e w3 ⟨rfl, hb3⟩
            go_wp2_with fail
            go_roundw
            case rel => first | exact ⟨k, nn + 2 ^ k, hk31, rfl, congrArg (Value.int IntKind.u32) HMM.out, by have := HNN.out; omega, by have := HBS.out; rwa [HAB.out, if_neg (by decide)] at this, hbel.trans (hb3.mono hbel.size)⟩ | ((repeat apply Exists.intro); exact ⟨⟨k, nn + 2 ^ k, hk31, rfl, congrArg (Value.int IntKind.u32) HMM.out, by have := HNN.out; omega, by have := HBS.out; rwa [HAB.out, if_neg (by decide)] at this, hbel.trans (hb3.mono hbel.size)⟩, rfl⟩)
            case measure => first | (simp [intOf]; done) | (simp [intOf]; omega)
        · have e0 : b = 0 := by omega
          subst e0
          go_wp2_with fail
          go_ret
          refine ⟨?_, hbel⟩
          have := HBI.out
          unfold Big.bitsFrom at this
          rw [Big.fold_zero] at this
          rw [← this]
          rfl
    · have hle : (wv + 1) ^ 3 ≤ p := by rw [HS.out]; omega
      have hle2 : wv + 1 ≤ p := Nat.le_trans (Nat.le_self_pow (by decide) _) hle
      have hst := hide ((whole_step3 p m wv hle).symm.trans HWH.out)
      go_wp2_with fail
      go_roundw
      case rel => exact ⟨m, wv + 1, by have := HNW.out; omega, hle2, by go_num, hst.out, by first | rfl | trivial⟩
      case measure => simp [intOf]; omega
end Ref
end Go.Proofs.YtenaelkbgkpllaaGreatDoor
/- The constants of digests are the first bits of roots of primes: by the kernel's own reckoning. -/
namespace Go.Proofs.YtenaelkbgkpllaaGreatDoor
namespace Big
def P64 : List Nat := [2, 3, 5, 7, 11, 13, 17, 19, 23, 29, 31, 37, 41, 43, 47, 53, 59, 61, 67, 71, 73, 79, 83, 89, 97, 101, 103, 107, 109, 113, 127, 131, 137, 139, 149, 151, 157, 163, 167, 173, 179, 181, 191, 193, 197, 199, 211, 223, 227, 229, 233, 239, 241, 251, 257, 263, 269, 271, 277, 281, 283, 293, 307, 311]
def Ks : List Nat := [1116352408, 1899447441, 3049323471, 3921009573, 961987163, 1508970993, 2453635748, 2870763221, 3624381080, 310598401, 607225278, 1426881987, 1925078388, 2162078206, 2614888103, 3248222580, 3835390401, 4022224774, 264347078, 604807628, 770255983, 1249150122, 1555081692, 1996064986, 2554220882, 2821834349, 2952996808, 3210313671, 3336571891, 3584528711, 113926993, 338241895, 666307205, 773529912, 1294757372, 1396182291, 1695183700, 1986661051, 2177026350, 2456956037, 2730485921, 2820302411, 3259730800, 3345764771, 3516065817, 3600352804, 4094571909, 275423344, 430227734, 506948616, 659060556, 883997877, 958139571, 1322822218, 1537002063, 1747873779, 1955562222, 2024104815, 2227730452, 2361852424, 2428436474, 2756734187, 3204031479, 3329325298]
def Hs : List Nat := [1779033703, 3144134277, 1013904242, 2773480762, 1359893119, 2600822924, 528734635, 1541459225]
def below (x : Nat) : List Nat := P64.filter fun p => Nat.blt p x
theorem roots3 : P64.map (fun p => root p 3) = Ks := by kernel_rfl
theorem roots2 : (P64.take 8).map (fun p => root p 2) = Hs := by kernel_rfl
theorem below_all : ((List.range 310).all fun n => (prime (below (n + 2)) (n + 2) == P64.contains (n + 2)) && (below (n + 3) == if P64.contains (n + 2) then below (n + 2) ++ [n + 2] else below (n + 2))) = true := by kernel_rfl
theorem below_len : ((List.range 310).all fun n => decide ((below (n + 2)).length < 64)) = true := by kernel_rfl
theorem below_last : below 312 = P64 := by kernel_rfl
theorem below_two : below 2 = [] := by kernel_rfl
theorem whole_ok : (P64.all fun p => (decide (p < (whole p 3 + 1) ^ 3) && decide (p < (whole p 2 + 1) ^ 2))) = true := by kernel_rfl
end Big
end Go.Proofs.YtenaelkbgkpllaaGreatDoor
/- The reference's first 64 primes. -/
namespace Go.Proofs.YtenaelkbgkpllaaGreatDoor
open Go.RowKit
namespace Ref

theorem Tryz.info3 : (Tryz.prog.info? 3).map (fun i => (i.zero, i.size, i.bytes)) = some (some (.int .i64 0), 1, 8) := by kernel_rfl
abbrev I (n : Nat) : Value := .int .i64 n
def HasI (w : World) (v : Value) (l : List Nat) : Prop := ∃ (a : Option Addr) (c : Nat), v = .slice a l.length c ∧ (l ≠ [] → ∃ g, a = some ⟨g, 0, none⟩ ∧ ∀ i (hi : i < l.length), w.cell? ⟨g, i, none⟩ = some (I l[i]))
theorem hasI_of {w : World} {B n : Nat} {v : Value} {l : List Nat} (h : w.ownsRow B 3 1 v n (l.map I)) : HasI w v l := by
  obtain ⟨hlen, hv | ⟨g, cap, cur, rfl, hg, hheap, hcap, hmax, hcs, htake⟩⟩ := h
  · obtain ⟨rfl, rfl⟩ := hv
    have : l = [] := by simpa using hlen
    subst this
    exact ⟨none, 0, rfl, fun h => absurd rfl h⟩
  · have hl : l.length = n := by simpa using hlen
    subst hl
    refine ⟨some ⟨g, 0, none⟩, cap, rfl, fun _ => ⟨g, rfl, fun i hi => ?_⟩⟩
    have hc : w.cell? ⟨g, i, none⟩ = cur[i]? := by simp [World.cell?, hheap]
    rw [hc, ← Array.getElem?_toList]
    have e : (cur.toList.take (l.length * 1))[i]? = cur.toList[i]? := List.getElem?_take_of_lt (by omega)
    rw [← e, htake, List.getElem?_map, List.getElem?_eq_getElem hi]
    rfl
theorem prime_step (l : List Nat) (x i : Nat) (hi : i < l.length) : Big.prime (l.take (i + 1)) x = (Big.prime (l.take i) x && (x % l[i] != 0)) := by
  unfold Big.prime
  rw [List.take_succ_eq_append_getElem hi, List.all_append]
  simp
/-- what is known of the primes below a number -/
structure Step (x : Nat) (l : List Nat) (b : Bool) : Prop where
  len : l.length < 64
  pos : ∀ d ∈ l, 0 < d ∧ d < 1000
  is : Big.prime l x = b
  next : Big.below (x + 1) = if b then l ++ [x] else l
theorem P64_pos : ∀ d ∈ Big.P64, 0 < d ∧ d < 1000 := by decide
theorem step_of (x : Nat) (h2 : 2 ≤ x) (h : x ≤ 311) : Step x (Big.below x) (Big.P64.contains x) := by
  obtain ⟨n, rfl⟩ : ∃ n, x = n + 2 := ⟨x - 2, by omega⟩
  have hn : n ∈ List.range 310 := List.mem_range.2 (by omega)
  have h1 := List.all_eq_true.1 Big.below_all n hn
  have h3 := List.all_eq_true.1 Big.below_len n hn
  rw [Bool.and_eq_true, beq_iff_eq, beq_iff_eq] at h1
  refine ⟨of_decide_eq_true h3, fun d hd => P64_pos d (List.mem_filter.1 hd).1, h1.1, h1.2⟩

set_option maxRecDepth 100000 in
set_option maxHeartbeats 1000000 in
theorem primes_any (w : World) :
    Calls Tryz.prog 54 #[.int .i64 64] w fun e w' => ∃ v, e = .returned v ∧ w'.ownsRow w.heap.size 3 1 v 64 (Big.P64.map I) ∧ Below w.heap.size w w' := by
  obtain ⟨i0, hi, hz0, hz1, hz2⟩ := info_parts Tryz.info3
  go_enter Tryz.func54, Tryz.ntmps54
  go_wp2
  go_loopw [3, 4] (fun v xv wq => ∃ x : Nat, 2 ≤ x ∧ x ≤ 312 ∧ xv = .int .i64 x ∧ wq.ownsRow w.heap.size 3 1 v (Big.below x).length ((Big.below x).map I) ∧ Below w.heap.size w wq)
    (fun _ xv _ => 312 - (intOf xv).toNat)
  case atStart => exact ⟨2, by omega, by omega, rfl, by rw [Big.below_two]; exact World.ownsRow_nil _ _ _ _, Below.refl _ _⟩
  case round =>
    obtain ⟨x, hx2, hx1, rfl, hown, hb⟩ := hrel
    have hs := hb.size
    by_cases hlt : x ≤ 311
    · have HST := hide (step_of x hx2 hlt)
      have HI := hide (hasI_of hown)
      have HO := hide hown
      clear hown
      have hlen := HST.out.len
      generalize Big.P64.contains x = bb at *
      generalize Big.below x = l at *
      obtain ⟨a, c, e1, hc⟩ := HI.out
      subst e1
      have HC := hide hc
      clear hc
      go_wp2_with fail
      go_loopw [5, 6] (fun bv iv wq => ∃ i : Nat, i ≤ l.length ∧ iv = .int .i64 i ∧ bv = .bool (Big.prime (l.take i) x) ∧ wq = wr)
        (fun _ iv _ => l.length - (intOf iv).toNat)
      case atStart => exact ⟨0, Nat.zero_le _, rfl, rfl, rfl⟩
      case round =>
        obtain ⟨i, hi1, rfl, rfl, rfl⟩ := hrel
        by_cases hlt2 : i < l.length
        · obtain ⟨g, rfl, hcell⟩ := HC.out (fun e => by subst e; simp at hlt2)
          have hci := hcell i hlt2
          obtain ⟨hd0, hd1⟩ := HST.out.pos (l[i]) (List.getElem_mem hlt2)
          have HP := hide (prime_step l x i hlt2)
          generalize l[i] = d at *
          clear hcell
          by_cases hm : x % d = 0
          · have hmz : ((x : Int) % (d : Int) == 0) = true := by rw [beq_iff_eq]; omega
            go_wp2_with fail
            go_roundw
            case rel => exact ⟨i + 1, hlt2, by go_num, congrArg Value.bool (by rw [HP.out]; simp [hm]), by first | rfl | trivial⟩
            case measure => first | (simp [intOf]; done) | (simp [intOf]; omega)
          · have hmz : ((x : Int) % (d : Int) == 0) = false := by rw [beq_eq_false_iff_ne]; omega
            go_wp2_with fail
            go_roundw
            case rel => exact ⟨i + 1, hlt2, by go_num, congrArg Value.bool (by rw [HP.out]; simp [hm]), by first | rfl | trivial⟩
            case measure => first | (simp [intOf]; done) | (simp [intOf]; omega)
        · have e : i = l.length := by omega
          subst e
          rw [List.take_length, HST.out.is]
          have HNX := hide HST.out.next
          clear HST
          cases bb with
          | true =>
            have k1 : ∀ u ∈ [I x], u.oneCell' = true := fun u hu => by rw [List.mem_singleton.1 hu]; rfl
            have k3 : l.length + 1 ≤ maxLen := by unfold maxLen; omega
            have k5 : ∀ o, w.heap.size ≤ (wr.alloc o).heap.size := fun o => by simp; omega
            have K1 := hide k1
            have K3 := hide k3
            have K5 := hide k5
            clear k1 k3 k5
            go_wp2_with (at_builtin; refine wpList_append_own _ rfl (.tmp 27) (.tmp 29) 25 rfl w.heap.size 3 i0 (.int .i64 0) 1 8 Tryz.underlying25 hi hz0 hz1 hz2 rfl (by decide) _ l.length (l.map I) rfl (HO.out.alloc _) ⟨wr.heap.size, 0, none⟩ 1 1 [I x] rfl rfl (cell_one_new _ _ _) K1.out K3.out (by omega) (K5.out _) ?_)
            · intro v' w1 hown' hgrow _
              have hb1 : Below w.heap.size w w1 := (hb.alloc hs _).grown hgrow (by simp; omega) (fun k hk => (HO.out.lt k hk).1)
              have HO1 := hide hown'
              clear hown' hgrow
              go_wp2_with fail
              go_roundw
              case rel =>
                have hn := HNX.out
                rw [if_pos trivial] at hn
                refine ⟨x + 1, by omega, by omega, by go_num, ?_, hb1⟩
                rw [hn, List.length_append, List.map_append]
                exact HO1.out
              case measure => first | (simp [intOf]; done) | (simp [intOf]; omega)
          | false =>
            go_wp2_with fail
            go_roundw
            case rel =>
              have hn := HNX.out
              rw [if_neg (by decide)] at hn
              exact ⟨x + 1, by omega, by omega, by go_num, by rw [hn]; exact HO.out, hb⟩
            case measure => first | (simp [intOf]; done) | (simp [intOf]; omega)
    · have e : x = 312 := by omega
      subst e
      rw [Big.below_last] at hown
      have HI := hide (hasI_of hown)
      obtain ⟨a, c, e1, -⟩ := HI.out
      have HO := hide (show wr.ownsRow w.heap.size 3 1 _ 64 (Big.P64.map I) from hown)
      subst e1
      clear hown HI
      have hl : Big.P64.length = 64 := rfl
      rw [hl] at HO ⊢
      go_wp2_with fail
      go_ret
      exact ⟨_, rfl, HO.out, hb⟩
end Ref
end Go.Proofs.YtenaelkbgkpllaaGreatDoor
/- The reference's constants, worked out: they are the known ones. -/
namespace Go.Proofs.YtenaelkbgkpllaaGreatDoor
open Go.RowKit

namespace Big
/-- the constants behind i rounds -/
def wk (i : Nat) : List Nat := (Hs.take i ++ List.replicate (8 - i) 0) ++ (Ks.take i ++ List.replicate (64 - i) 0)
def wkSet (i : Nat) : List Nat := if i < 8 then ((wk i).set (8 + i) (Ks.getD i 0)).set i (Hs.getD i 0) else (wk i).set (8 + i) (Ks.getD i 0)
theorem wk_all : ((List.range 64).all fun i => (wkSet i == wk (i + 1)) && Nat.beq (wk i).length 72) = true := by kernel_rfl
theorem wk_last : wk 64 = Hs ++ Ks := by kernel_rfl
theorem wk_first : wk 0 = List.replicate 72 0 := by kernel_rfl
theorem wk_len64 : (wk 64).length = 72 := by kernel_rfl
theorem root_all : ((List.range 64).all fun i => Nat.beq (root (P64.getD i 0) 3) (Ks.getD i 0) && (decide (whole (P64.getD i 0) 3 ≤ 17) && (decide (P64.getD i 0 ≤ 311) && (decide (whole (P64.getD i 0) 2 ≤ 17) && (decide (8 ≤ i) || Nat.beq (root (P64.getD i 0) 2) (Hs.getD i 0)))))) = true := by kernel_rfl
structure At (i p k h : Nat) : Prop where
  is : P64.getD i 0 = p
  le : p ≤ 311
  w3 : whole p 3 ≤ 17
  w2 : whole p 2 ≤ 17
  r3 : root p 3 = k
  r2 : i < 8 → root p 2 = h
theorem at_of (i : Nat) (hi : i < 64) : At i (P64.getD i 0) (Ks.getD i 0) (Hs.getD i 0) := by
  have h := List.all_eq_true.1 root_all i (List.mem_range.2 hi)
  simp only [Bool.and_eq_true, Bool.or_eq_true, decide_eq_true_eq, Nat.beq_eq] at h
  obtain ⟨h1, h2, h3, h4, h5⟩ := h
  exact ⟨rfl, h3, h2, h4, h1, fun h8 => by rcases h5 with h' | h'; (· omega); exact h'⟩
theorem wk_step (i : Nat) (hi : i < 64) : wkSet i = wk (i + 1) ∧ (wk i).length = 72 := by
  have h := List.all_eq_true.1 wk_all i (List.mem_range.2 hi)
  rw [Bool.and_eq_true, beq_iff_eq] at h
  exact ⟨h.1, Nat.eq_of_beq_eq_true h.2⟩
end Big
namespace Ref
theorem rowU_set {w : World} {g i t : Nat} {l : List Nat} {x : Nat} (h : w.heap[g]? = some (.cells (l.map U).toArray t (0, 0))) :
    (w.setCell ⟨g, i, none⟩ (U x)).heap[g]? = some (.cells ((l.set i x).map U).toArray t (0, 0)) := by
  rw [heap_setCell_same _ _ _ _ _ _ h, List.setIfInBounds_toArray, List.map_set]
theorem rowU_cell {w : World} {g i t : Nat} {l : List Nat} (h : w.heap[g]? = some (.cells (l.map U).toArray t (0, 0))) (hi : i < l.length) : ∃ v, w.cell? ⟨g, i, none⟩ = some v := by
  rw [cell_of_row _ _ _ _ _ _ h, List.getElem?_toArray, List.getElem?_map, List.getElem?_eq_getElem hi]
  exact ⟨_, rfl⟩
theorem Tryz.array28 : Tryz.prog.underlying 65 = some (.array (Tryz.prog.arrayLen 65) (Tryz.prog.elem 65)) := by kernel_rfl
theorem Tryz.arrayLen28 : Tryz.prog.arrayLen 65 = 64 := by kernel_rfl
theorem Tryz.elem28 : Tryz.prog.elem 65 = 63 := by kernel_rfl
theorem Tryz.array27 : Tryz.prog.underlying 64 = some (.array (Tryz.prog.arrayLen 64) (Tryz.prog.elem 64)) := by kernel_rfl
theorem Tryz.arrayLen27 : Tryz.prog.arrayLen 64 = 8 := by kernel_rfl
theorem Tryz.elem27 : Tryz.prog.elem 64 = 63 := by kernel_rfl
theorem Tryz.size26 (w : World) : (sizeOf 63).run Tryz.prog w = .ok 1 w := by kernel_rfl
theorem add_off (g o k : Nat) : (⟨g, o, none⟩ : Addr).add k = ⟨g, o + k, none⟩ := by unfold Addr.add; split <;> simp_all
theorem idx28 (g o : Nat) (i : Int) (k : Nat) (h : i = k) (hk : k < 64) (W : World) :
    (Instr.indexAt 65 (.pointer (some ⟨g, o, none⟩)) (.int .i64 i)).run Tryz.prog W = .ok (.pointer (some ⟨g, o + k, none⟩)) W := by
  subst h
  rw [run_indexAt_array W 65 _ _ _ Tryz.array28, Tryz.arrayLen28, Tryz.elem28, if_pos (by omega), Tryz.size26]
  simp only [Result.andThen_ok, add_off, Int.toNat_natCast, Nat.mul_one]
theorem idx27 (g o : Nat) (i : Int) (k : Nat) (h : i = k) (hk : k < 8) (W : World) :
    (Instr.indexAt 64 (.pointer (some ⟨g, o, none⟩)) (.int .i64 i)).run Tryz.prog W = .ok (.pointer (some ⟨g, o + k, none⟩)) W := by
  subst h
  rw [run_indexAt_array W 64 _ _ _ Tryz.array27, Tryz.arrayLen27, Tryz.elem27, if_pos (by omega), Tryz.size26]
  simp only [Result.andThen_ok, add_off, Int.toNat_natCast, Nat.mul_one]
theorem Tryz.info30 : (Tryz.prog.info? 67).map (·.size) = some 72 := by kernel_rfl
theorem list_of {w : World} {B : Nat} {v : Value} (h : w.ownsRow B 3 1 v 64 (Big.P64.map I)) : ∃ g c, v = .slice (some ⟨g, 0, none⟩) 64 c ∧ B ≤ g ∧ g < w.heap.size ∧ ∀ i, i < 64 → w.cell? ⟨g, i, none⟩ = some (I (Big.P64.getD i 0)) := by
  have hI := hasI_of h
  obtain ⟨hlen, hv | ⟨g, cap, cur, rfl, hg, hheap, -⟩⟩ := h
  · exact absurd hv.2 (by decide)
  · obtain ⟨a, c, e1, hc⟩ := hI
    obtain ⟨g', e2, hcell⟩ := hc (by decide)
    injection e1 with e3 e4 e5
    rw [e2] at e3
    injection e3 with e6
    injection e6 with e7
    subst e7
    refine ⟨g, cap, rfl, hg, ?_, fun i hi => ?_⟩
    · rcases Nat.lt_or_ge g w.heap.size with h' | h'
      · exact h'
      · rw [Array.getElem?_eq_none h'] at hheap; cases hheap
    · have hl : i < Big.P64.length := hi
      rw [hcell i hl, List.getD_eq_getElem?_getD, List.getElem?_eq_getElem hl, Option.getD_some]
theorem hasI_below {w w' : World} {v : Value} {l : List Nat} (h : HasI w v l) (hb : Below w.heap.size w w') : HasI w' v l := by
  obtain ⟨a, c, rfl, hc⟩ := h
  refine ⟨a, c, rfl, fun hne => ?_⟩
  obtain ⟨g, rfl, hcell⟩ := hc hne
  refine ⟨g, rfl, fun i hi => ?_⟩
  have h0 := hcell i hi
  rw [hb.cell (p := ⟨g, i, none⟩) (block_lt_of_cell h0)]
  exact h0

set_option maxRecDepth 100000 in
set_option maxHeartbeats 1000000 in
theorem worked_any (w : World) :
    Calls Tryz.prog 26 #[] w fun e w' => e = .returned (.agg ((Big.Hs ++ Big.Ks).map U).toArray) ∧ Below w.heap.size w w' := by
  go_enter Tryz.func26, Tryz.ntmps26
  go_wp2_with fail
  refine (primes_any _).mono ?_
  rintro e w1 ⟨v, rfl, hown, hb1⟩
  have hz : w.heap.size + 1 < w1.heap.size ∨ w.heap.size + 2 = w1.heap.size := by have := hb1.size; simp at this; omega
  have hz2 : w.heap.size + 2 ≤ w1.heap.size := by have := hb1.size; simp at this; omega
  have h1row : w1.heap[w.heap.size + 1]? = some (.cells ((Big.wk 0).map U).toArray 67 (0, 0)) := by
    rw [Big.wk_first]; exact (hb1.block (w.heap.size + 1) (by simp)).trans (heap_alloc2_new w _ _)
  have h0row : ∃ z : Array Value, z.size = 72 ∧ w1.heap[w.heap.size]? = some (.cells z 67 (0, 0)) :=
    ⟨_, rfl, (hb1.block w.heap.size (by simp; omega)).trans (heap_alloc2_old w _ _)⟩
  have hbw : Below w.heap.size w w1 := (((Below.refl _ _).alloc (Nat.le_refl _) _).alloc (by simp) _).trans (hb1.mono (by simp; omega))
  obtain ⟨z, hz72, h0row⟩ := h0row
  obtain ⟨gl, cl, rfl, hg0, hg1, hcl⟩ := list_of hown
  have hg2 : w.heap.size + 2 ≤ gl := by simpa using hg0
  have HCL := hide hcl
  have H1 := hide h1row
  have H0 := hide h0row
  have HZ := hide hz72
  have HB := hide hbw
  clear hown hb1 h1row h0row hz72 hbw hz hcl hg0
  go_wp2_with fail
  go_loopw [3] (fun iv wq => ∃ i : Nat, i ≤ 64 ∧ iv = .int .i64 i ∧ wq.heap[w.heap.size + 1]? = some (.cells ((Big.wk i).map U).toArray 67 (0, 0)) ∧ wq.heap[w.heap.size]? = some (.cells z 67 (0, 0)) ∧ gl < wq.heap.size ∧ (∀ j, j < 64 → wq.cell? ⟨gl, j, none⟩ = some (I (Big.P64.getD j 0))) ∧ Below w.heap.size w wq)
    (fun iv _ => 64 - (intOf iv).toNat)
  case atStart => exact ⟨0, by omega, rfl, H1.out, H0.out, hg1, HCL.out, HB.out⟩
  case round =>
    clear H1 H0 HCL HB hg1 hz2
    obtain ⟨i, hi, rfl, h1, h0, hgl, hcl, hb⟩ := hrel
    have hs := hb.size
    by_cases hlt : i < 64
    · have hat := Big.at_of i hlt
      obtain ⟨hws, hwl⟩ := Big.wk_step i hlt
      have hci := hcl i hlt
      obtain ⟨old, hold⟩ := rowU_cell (i := 8 + i) h1 (by omega)
      have hfz : ∀ j, wr.frozen? ⟨w.heap.size + 1, j, none⟩ = false := fun j => frozen_of_row _ _ _ _ _ h1
      have ix := idx28 (w.heap.size + 1) 8 (i : Int) i rfl hlt
      have HWS := hide hws
      have H1 := hide h1
      have H0 := hide h0
      have HCL := hide hcl
      have HAT := hide hat
      have HWL := hide hwl
      clear hws h1 h0 hcl hat hwl
      unfold Big.wkSet at HWS
      generalize Big.P64.getD i 0 = p at *
      generalize Big.Ks.getD i 0 = kk at *
      generalize Big.Hs.getD i 0 = hh at *
      have hp := HAT.out.le
      go_wp2_with fail
      refine (cut3_any p _ hp HAT.out.w3).mono ?_
      rintro e w3 ⟨rfl, hb3⟩
      rw [HAT.out.r3]
      have q1 := hide ((hb3.block (w.heap.size + 1) (by omega)).trans H1.out)
      have q0 := hide ((hb3.block w.heap.size (by omega)).trans H0.out)
      have qc := hide (fun j hj => (hb3.cell (p := ⟨gl, j, none⟩) hgl).trans (HCL.out j hj))
      have hold3 : w3.cell? ⟨w.heap.size + 1, 8 + i, none⟩ = some old := (hb3.cell (p := ⟨w.heap.size + 1, 8 + i, none⟩) (by show w.heap.size + 1 < wr.heap.size; omega)).trans hold
      have hfz3 : ∀ j, w3.frozen? ⟨w.heap.size + 1, j, none⟩ = false := fun j => frozen_of_row _ _ _ _ _ q1.out
      have hb3w := hb.trans (hb3.mono hs)
      have hs3 := hb3.size
      clear H1 H0 HCL hold hfz
      by_cases h8 : i < 8
      · have hc4 : (w3.setCell ⟨w.heap.size + 1, 8 + i, none⟩ (U kk)).cell? ⟨gl, i, none⟩ = some (I p) := by
          rw [World.cell?_setCell_other _ _ _ _ (fun e => by injection e with e1 _ _; omega)]; exact (hb3.cell (p := ⟨gl, i, none⟩) hgl).trans hci
        have ix2 := fun W => (idx27 (w.heap.size + 1) 0 (i : Int) i rfl h8 W).trans (by rw [Nat.zero_add])
        have r4 := hide (rowU_set (i := 8 + i) (x := kk) q1.out)
        have r40 := hide ((heap_setCell_other w3 ⟨w.heap.size + 1, 8 + i, none⟩ w.heap.size (U kk) (by simp)).trans q0.out)
        have r4c := hide (fun j hj => (World.cell?_setCell_other w3 ⟨w.heap.size + 1, 8 + i, none⟩ ⟨gl, j, none⟩ (U kk) (fun e => by injection e with e1 _ _; omega)).trans (qc.out j hj))
        have hb4w := hb3w.setCell (p := ⟨w.heap.size + 1, 8 + i, none⟩) (by simp) (U kk)
        go_wp2_with fail
        refine (cut2_any p _ hp HAT.out.w2).mono ?_
        rintro e w5 ⟨rfl, hb5⟩
        rw [HAT.out.r2 h8]
        have hz5 : gl < w5.heap.size := Nat.lt_of_lt_of_le (by simp; omega) hb5.size
        have t1 := hide ((hb5.block (w.heap.size + 1) (by simp; omega)).trans r4.out)
        have t0 := hide ((hb5.block w.heap.size (by simp; omega)).trans r40.out)
        have tc := hide (fun j hj => (hb5.cell (p := ⟨gl, j, none⟩) (by simp; omega)).trans (r4c.out j hj))
        have hb5w := hb4w.trans (hb5.mono (by simp; omega))
        obtain ⟨old5, hold5⟩ := rowU_cell (i := i) t1.out (by rw [List.length_set, HWL.out]; omega)
        have hfz5 : ∀ j, w5.frozen? ⟨w.heap.size + 1, j, none⟩ = false := fun j => frozen_of_row _ _ _ _ _ t1.out
        clear hc4 r4 r40 r4c hold3 hfz3
        go_wp2_with fail
        go_roundw
        case rel =>
          refine ⟨i + 1, hlt, by go_num, ?_, ?_, by simpa using hz5, fun j hj => ?_, hb5w.setCell (by simp) _⟩
          · rw [rowU_set t1.out]
            have := HWS.out
            rw [if_pos h8] at this
            rw [this]
          · rw [heap_setCell_other _ _ _ _ (by simp)]; exact t0.out
          · rw [World.cell?_setCell_other _ _ _ _ (fun e => by injection e with e1 _ _; omega)]; exact tc.out j hj
        case measure => first | (simp [intOf]; done) | (simp [intOf]; omega)
      · go_wp2_with fail
        go_roundw
        case rel =>
          refine ⟨i + 1, hlt, by go_num, ?_, ?_, by simp; omega, fun j hj => ?_, hb3w.setCell (by simp) _⟩
          · rw [rowU_set q1.out]
            have := HWS.out
            rw [if_neg h8] at this
            rw [this]
          · rw [heap_setCell_other _ _ _ _ (by simp)]; exact q0.out
          · rw [World.cell?_setCell_other _ _ _ _ (fun e => by injection e with e1 _ _; omega)]; exact qc.out j hj
        case measure => first | (simp [intOf]; done) | (simp [intOf]; omega)
    · have e : i = 64 := by omega
      subst e
      have hA : ((Big.wk 64).map U).toArray.size = 72 := by rw [List.size_toArray, List.length_map, Big.wk_len64]
      have hA1 : ((Big.wk 64).map U).toArray.all (·.oneCell') = true := by
        rw [List.all_toArray, List.all_eq_true]
        intro v hv
        obtain ⟨n, _, rfl⟩ := List.mem_map.1 hv
        rfl
      have HE := hide (show ((Big.Hs ++ Big.Ks).map U).toArray = ((Big.wk 64).map U).toArray by rw [Big.wk_last])
      have H1 := hide h1
      have H0 := hide h0
      generalize ((Big.wk 64).map U).toArray = A at *
      have HI := hide (show (Tryz.prog.info? 67).map (·.size) = some A.size by rw [hA]; exact Tryz.info30)
      have HZA := hide (show z.size = A.size by rw [hA, HZ.out])
      clear hcl h1 h0 hA hlt hi
      go_wp2_with (first | (refine wpList_load_row rfl 67 (.tmp 1) rfl (w.heap.size + 1) rfl 67 A (0, 0) _ H1.out Tryz.underlying67 rfl HI.out ?_) | (refine wpList_store_row rfl 67 (.tmp 0) (.tmp 27) rfl w.heap.size A rfl rfl 67 z H0.out HI.out HZA.out hA1 ?_))
      refine bodyPost_ret (v := .agg A) ?_ rfl ⟨by rw [HE.out], below_setRow hb (Nat.le_refl _) A⟩
      exact results_cell_row rfl _ _ w.heap.size 67 A (0, 0) _ rfl (setRow_heap _ _ _ _ _ _ H0.out) Tryz.underlying67 rfl HI.out
end Ref
end Go.Proofs.YtenaelkbgkpllaaGreatDoor
/- Append to a row of one's own: the row is the old one, or all that was there is as it was. -/
namespace Go.Proofs.YtenaelkbgkpllaaGreatDoor
open Go.RowKit

/-- the row is the old one, or a new one, and then nothing else has changed -/
def Moved (w w' : World) (v v' : Value) : Prop := v'.ownBlock = v.ownBlock ∨ ∃ g, v'.ownBlock = some g ∧ w.heap.size ≤ g ∧ Below w.heap.size w w'
theorem Moved.fresh {w w' : World} {v v' : Value} (h : Moved w w' v v') : Fresh w v v' := by
  rcases h with h | ⟨g, h1, h2, _⟩
  · exact .inl h
  · exact .inr ⟨g, h1, h2⟩
theorem run_append_own3 {P : Program} (w : World) (base : Nat) (t ty e : TypeId) (i : TypeInfo) (z : Value) (size bytes : Nat) (ht : P.underlying t = some (.slice e)) (hi : P.info? e = some i) (hz : i.zero = some z)
    (hsize : i.size = size) (hby : i.bytes = bytes) (hzs : z.cells.size = size) (hsz : 0 < size)
    (v : Value) (n : Nat) (xs : List Value) (hown : w.ownsRow base e size v n xs)
    (a : Addr) (m c : Nat) (news : List Value) (hl : news.length = m * size) (hnews : ∀ j u, news[j]? = some u → w.cell? (a.add j) = some u) (h1 : ∀ u ∈ news, u.oneCell' = true)
    (h63 : n + m ≤ maxLen) (hbytes : (n + m) * bytes ≤ 140737488355328) (hbase : base ≤ w.heap.size) :
    ∃ v' w', (Builtin.append_ #[t, t] ty #[v, .slice (some a) m c]).run P w = .ok v' w' ∧ w'.ownsRow base e size v' (n + m) (xs ++ news) ∧ w.grownBy w' v.ownBlock ∧ Moved w w' v v' := by
  obtain ⟨v', w', hr, ho, hg, -⟩ := run_append_own w base t ty e i z size bytes ht hi hz hsize hby hzs hsz v n xs hown a m c news hl hnews h1 h63 hbytes hbase
  refine ⟨v', w', hr, ho, hg, ?_⟩
  have h63' := h63
  unfold maxLen at h63'
  rcases hown.2 with ⟨rfl, rfl⟩ | ⟨g, cap, cur, rfl, hb, hgg, hcap, hmax, hcs, htake⟩
  · have hbl : Below w.heap.size w w' := ⟨hg.os, hg.tape, hg.output, hg.size, fun j hj => hg.block j hj (by simp [Value.ownBlock])⟩
    obtain ⟨v2, w2, hr2, ho2, -⟩ := run_append_own w w.heap.size t ty e i z size bytes ht hi hz hsize hby hzs hsz (.slice none 0 0) 0 [] (World.ownsRow_nil _ _ _ _) a m c news hl hnews h1 h63 hbytes (Nat.le_refl _)
    rw [hr] at hr2
    injection hr2 with e1 e2
    subst e1
    rcases ho2.2 with ⟨rfl, _⟩ | ⟨g, cap, cur, rfl, hb, _⟩
    · exact .inl rfl
    · exact .inr ⟨g, rfl, hb, hbl⟩
  · subst hsize
    by_cases hroom : n + m ≤ cap
    · have hx : n * i.size + news.length ≤ cur.size := by
        rw [hl, hcs, ← Nat.add_mul]; exact Nat.mul_le_mul_right _ hroom
      have hr2 := run_append_room w t ty e i ht hi g n cap cur hgg a m c news hl hnews h1 hroom hx
      rw [hr] at hr2
      injection hr2 with e1 e2
      subst e1
      exact .inl rfl
    · have hold : ∀ j u, xs[j]? = some u → w.cell? ((⟨g, 0, none⟩ : Addr).add j) = some u := hown.cells rfl
      have hr2 := run_append_grow (P := P) w t ty e i z ht hi hz ⟨g, 0, none⟩ n cap xs hown.1 hold a m c news hl hnews (by omega) (by omega) (by rw [hby]; exact growslice_fits (by omega) hbytes)
      rw [hr] at hr2
      injection hr2 with e1 e2
      subst e1
      refine .inr ⟨_, rfl, Nat.le_refl _, ?_⟩
      rw [e2]
      exact ((Below.refl w.heap.size w).drew).alloc (Nat.le_refl _) _
theorem wpList_append_own3 {P : Program} (w : World) {ops : Array Oper} {rest : List Oper} {o : Oper} {a : Act} {Q : Exit → Act → World → Prop} (hgd : o.guard = none) (s x : Operand) (t : TypeId)
    (ho : o.op = .call { callee := .builtin .append, args := #[s, x], argTypes := #[t, t] })
    (base : Nat) (e : TypeId) (i : TypeInfo) (z : Value) (size bytes : Nat) (ht : P.underlying t = some (.slice e)) (hi : P.info? e = some i) (hz : i.zero = some z)
    (hsize : i.size = size) (hby : i.bytes = bytes) (hzs : z.cells.size = size) (hsz : 0 < size)
    (v : Value) (n : Nat) (xs : List Value) (hs : a.eval s = v) (hown : w.ownsRow base e size v n xs)
    (ad : Addr) (m c : Nat) (news : List Value) (hx : a.eval x = .slice (some ad) m c) (hl : news.length = m * size) (hnews : ∀ j u, news[j]? = some u → w.cell? (ad.add j) = some u) (h1 : ∀ u ∈ news, u.oneCell' = true)
    (h63 : n + m ≤ maxLen) (hbytes : (n + m) * bytes ≤ 140737488355328) (hbase : base ≤ w.heap.size)
    (h : ∀ v' w', w'.ownsRow base e size v' (n + m) (xs ++ news) → w.grownBy w' v.ownBlock → Moved w w' v v' → wpList P ops Q rest (a.put o.dst v') w') : wpList P ops Q (o :: rest) a w := by
  obtain ⟨v', w', hr, h1', h2', h3'⟩ := run_append_own3 (P := P) w base t o.type e i z size bytes ht hi hz hsize hby hzs hsz v n xs hown ad m c news hl hnews h1 h63 hbytes hbase
  exact Lib.wpList_append_run w hgd s x t t ho v _ hs hx v' w' hr (h v' w' h1' h2' h3')
end Go.Proofs.YtenaelkbgkpllaaGreatDoor
/- One block stirred in, as the document does it. -/
namespace Go.Proofs.YtenaelkbgkpllaaGreatDoor
open Go.RowKit

/-- the constants of digests as cells -/
def constV : List Value := (toL Sha.start ++ Sha.Ks).map U
theorem constV_len : constV.length = 72 := by rw [constV, List.length_map]; rfl
theorem constV_at (t : Nat) (h : t < 64) : constV.toArray[8 + t]? = some (U (Sha.Ks.getD t 0)) := by
  have e : (toL Sha.start ++ Sha.Ks)[8 + t]? = some (Sha.Ks.getD t 0) := by
    rw [List.getElem?_append_right (by rw [toL_length]; omega), toL_length, show 8 + t - 8 = t by omega, List.getD_eq_getElem?_getD, List.getElem?_eq_getElem (show t < Sha.Ks.length by rw [Ks_length]; exact h), Option.getD_some]
  rw [List.getElem?_toArray, constV, List.getElem?_map, e, Option.map_some]
theorem add_offR (g o k : Nat) : (⟨g, o, none⟩ : Addr).add k = ⟨g, o + k, none⟩ := by unfold Addr.add; split <;> simp_all
theorem idx64o (g o : Nat) (i : Int) (k : Nat) (h : i = k) (hk : k < 64) (W : World) :
    (Instr.indexAt 65 (.pointer (some ⟨g, o, none⟩)) (.int .i64 i)).run Tryz.prog W = .ok (.pointer (some ⟨g, o + k, none⟩)) W := by
  subst h
  rw [run_indexAt_array W 65 _ _ _ Tryz.array37, Tryz.arrayLen37, Tryz.elem37, if_pos (by omega), Tryz.size27]
  simp only [Result.andThen_ok, add_offR, Int.toNat_natCast, Nat.mul_one]
theorem rowU_set' {w : World} {g i t : Nat} {l : List Nat} {x : Nat} (h : w.heap[g]? = some (.cells (l.map U).toArray t (0, 0))) :
    (w.setCell ⟨g, i, none⟩ (U x)).heap[g]? = some (.cells ((l.set i x).map U).toArray t (0, 0)) := by
  rw [heap_setCell_same _ _ _ _ _ _ h, List.setIfInBounds_toArray, List.map_set]
/-- the first numbers of a block -/
theorem arr_take (S : List Nat) (hS : S.length = 64) (k : Nat) (hk : k < 64) : (arr (S.take k)).setIfInBounds k (U (S.getD k 0)) = arr (S.take (k + 1)) := by
  have h := arr_snoc (S.take k) (S.getD k 0) (by rw [List.length_take]; omega)
  rw [List.length_take, hS, Nat.min_eq_left (by omega)] at h
  rw [h, List.take_succ_eq_append_getElem (by omega), List.getD_eq_getElem?_getD, List.getElem?_eq_getElem (by omega), Option.getD_some]
theorem arr_take_at (S : List Nat) (hS : S.length = 64) (k j : Nat) (hk : k ≤ 64) (hj : j < k) : (arr (S.take k))[j]? = some (U (S.getD j 0)) := by
  rw [arr_at _ _ (by omega) (by rw [List.length_take]; omega), List.getD_eq_getElem?_getD, List.getElem?_take_of_lt hj, ← List.getD_eq_getElem?_getD]
/-- what lies in memory while a block is stirred in -/
structure Mx (C : Array Value) (w : World) (s : Sha.St) (z : Array Value) (A : Array Value) (m : Nat) (wq : World) : Prop where
  sz : wq.heap.size = w.heap.size + m
  r0 : wq.heap[w.heap.size]? = some (.cells C 67 (0, 0))
  r1 : wq.heap[w.heap.size + 1]? = some (.cells (st8 s) 64 (0, 0))
  r2 : wq.heap[w.heap.size + 2]? = some (.cells z 64 (0, 0))
  r3 : wq.heap[w.heap.size + 3]? = some (.cells A 65 (0, 0))
  bl : Below w.heap.size w wq
theorem Mx.drewN {w : World} {s : Sha.St} {C z A : Array Value} {m : Nat} {wq : World} (h : Mx C w s z A m wq) (n : Nat) : Mx C w s z A m (wq.drewN n) :=
  ⟨by rw [drewN_heap]; exact h.sz, by rw [drewN_heap]; exact h.r0, by rw [drewN_heap]; exact h.r1, by rw [drewN_heap]; exact h.r2, by rw [drewN_heap]; exact h.r3, below_drewN h.bl n⟩
theorem Mx.set3 {w : World} {s : Sha.St} {C z A : Array Value} {m : Nat} {wq : World} (h : Mx C w s z A m wq) (i : Nat) (v : Value) : Mx C w s z (A.setIfInBounds i v) m (wq.setCell ⟨w.heap.size + 3, i, none⟩ v) :=
  ⟨by simpa using h.sz, by rw [heap_setCell_other _ _ _ _ (by simp)]; exact h.r0, by rw [heap_setCell_other _ _ _ _ (by simp)]; exact h.r1, by rw [heap_setCell_other _ _ _ _ (by simp)]; exact h.r2, heap_setCell_same _ _ _ _ _ _ h.r3, h.bl.setCell (by simp) _⟩
theorem Mx.set4 {w : World} {s : Sha.St} {C z A : Array Value} {m : Nat} {wq : World} (h : Mx C w s z A m wq) (i : Nat) (v : Value) : Mx C w s z A m (wq.setCell ⟨w.heap.size + 4, i, none⟩ v) :=
  ⟨by simpa using h.sz, by rw [heap_setCell_other _ _ _ _ (by simp)]; exact h.r0, by rw [heap_setCell_other _ _ _ _ (by simp)]; exact h.r1, by rw [heap_setCell_other _ _ _ _ (by simp)]; exact h.r2, by rw [heap_setCell_other _ _ _ _ (by simp)]; exact h.r3, h.bl.setCell (by simp) _⟩
theorem Mx.more {w : World} {s : Sha.St} {C z A : Array Value} {wq : World} (h : Mx C w s z A 4 wq) (o : Obj) : Mx C w s z A 5 (wq.alloc o) :=
  ⟨by simp [h.sz], by rw [Below.heap_alloc _ _ _ (by rw [h.sz]; omega)]; exact h.r0, by rw [Below.heap_alloc _ _ _ (by rw [h.sz]; omega)]; exact h.r1, by rw [Below.heap_alloc _ _ _ (by rw [h.sz]; omega)]; exact h.r2, by rw [Below.heap_alloc _ _ _ (by rw [h.sz]; omega)]; exact h.r3, h.bl.alloc (by rw [h.sz]; omega) _⟩
theorem wrap_sub (t : Int) (k : Nat) (h0 : 0 ≤ t) (h1 : t < 64) (hk : k ≤ 16) : IntKind.i64.wrap (t - k) = t - k := wrap_small _ (by omega) (by omega)

theorem mx_start (C z A : Array Value) (w : World) (s : Sha.St) : Mx C w s z A 4 ((((w.alloc (.cells C 67)).alloc (.cells (st8 s) 64)).alloc (.cells z 64)).alloc (.cells A 65)) := by
  have h := fun (a : Obj) (W : World) (j : Nat) (hj : j < W.heap.size) => Below.heap_alloc W a j hj
  have h2 := fun (a : Obj) (W : World) => heap_alloc_new W a
  refine ⟨by simp, ?_, ?_, ?_, ?_, (((((Below.refl w.heap.size w).alloc (Nat.le_refl _) _).alloc (by simp) _).alloc (by simp; omega) _).alloc (by simp; omega) _)⟩
  · rw [h _ _ _ (by simp; omega), h _ _ _ (by simp; omega), h _ _ _ (by simp)]; exact h2 _ _
  · rw [h _ _ _ (by simp), h _ _ _ (by simp)]
    have := h2 (.cells (st8 s) 64) (w.alloc (.cells C 67))
    simpa using this
  · rw [h _ _ _ (by simp)]
    have := h2 (.cells z 64) ((w.alloc (.cells C 67)).alloc (.cells (st8 s) 64))
    simpa using this
  · have := h2 (.cells A 65) (((w.alloc (.cells C 67)).alloc (.cells (st8 s) 64)).alloc (.cells z 64))
    simpa using this
theorem re_cast2 (d h s c k w : Nat) : ((d : Int) + ((h : Int) + s + c + k + w)) % 4294967296 = (((d + ((((h + s) % 4294967296 + c) % 4294967296 + k) % 4294967296 + w) % 4294967296) % 4294967296 : Nat) : Int) := by omega
theorem ra_cast2 (h s c k w u v : Nat) : ((h : Int) + s + c + k + w + ((u : Int) + v)) % 4294967296 = ((((((((h + s) % 4294967296 + c) % 4294967296 + k) % 4294967296 + w) % 4294967296) + (u + v) % 4294967296) % 4294967296 : Nat) : Int) := by omega
theorem number_refI (s : ByteArray) (x : Int) (k : Nat) (w : World) (hx : x = k) (hk : k + 4 ≤ s.size) (hs : s.size ≤ maxLen) :
    Calls Tryz.prog 158 #[.string s, .int .i64 x] w fun e w' => e = .returned (.int .u32 (Sha.word s.data.toList k : Nat)) ∧ ∃ n, w' = w.drewN n := by
  subst hx; exact number_ref s k w hk hs

set_option maxRecDepth 100000 in
set_option maxHeartbeats 2000000 in
theorem mixed_ref (C : Array Value) (a b c d e f g h : Nat) (bs : ByteArray) (i : Nat) (w : World) (hC : ∀ t, t < 64 → C[8 + t]? = some (U (Sha.Ks.getD t 0))) (hs : Sha.Ok ⟨a, b, c, d, e, f, g, h⟩) (hi : i + 64 ≤ bs.size) (hb : bs.size ≤ 281474976710656) :
    Calls Tryz.prog 131 #[.agg C, .agg #[U a, U b, U c, U d, U e, U f, U g, U h], .string bs, I i] w fun e' w' => e' = .returned (.agg (st8 (Sha.stir ⟨a, b, c, d, e, f, g, h⟩ ((bs.data.toList.drop i).take 64)))) ∧ Below w.heap.size w w' := by
  have HS := hide hs
  have HM := hide (show bs.size ≤ maxLen by unfold maxLen; omega)
  have HC := hide hC
  have HBS := hide hb
  have HI := hide hi
  have HW := hide (fun t (ht : t < 16) => (Sha.spread_low ((bs.data.toList.drop i).take 64) t ht).trans (Sha.word_part bs.data.toList i (4 * t) (by omega)))
  have HH := hide (Sha.spread_high ((bs.data.toList.drop i).take 64))
  have HSL := hide (show (Sha.spreadTo ((bs.data.toList.drop i).take 64) 48).length = 64 by rw [Sha.spreadTo_length])
  have HSlt := hide (Sha.getD_lt (Sha.spreadTo_lt ((bs.data.toList.drop i).take 64) 48))
  have HST := hide (show Sha.stir ⟨a, b, c, d, e, f, g, h⟩ ((bs.data.toList.drop i).take 64) = Sha.add ⟨a, b, c, d, e, f, g, h⟩ (Sha.rounds (Sha.spreadTo ((bs.data.toList.drop i).take 64) 48) 64 ⟨a, b, c, d, e, f, g, h⟩) from rfl)
  generalize Sha.spreadTo ((bs.data.toList.drop i).take 64) 48 = S at *
  rw [HST.out]
  have hi0 : i ≤ 281474976710656 := by omega
  clear hs hC hb hi HST
  go_enter Tryz.func131, Tryz.ntmps131
  go_wp2_with fail
  obtain ⟨z, hz, hz8⟩ : ∃ z : Array Value, z = #[U 0, U 0, U 0, U 0, U 0, U 0, U 0, U 0] ∧ z.size = 8 := ⟨_, rfl, rfl⟩
  have HZ8 := hide hz8
  clear hz8
  go_loopw [10] (fun iv wq => ∃ k : Nat, k ≤ 64 ∧ iv = .int .i64 k ∧ Mx C w ⟨a, b, c, d, e, f, g, h⟩ z (arr (S.take k)) 4 wq)
    (fun iv _ => 64 - (intOf iv).toNat)
  case atStart => subst hz; exact ⟨0, by omega, rfl, mx_start _ _ _ _ _⟩
  case round =>
    clear hz
    obtain ⟨k, hk, rfl, hmx⟩ := hrel
    have HMX := hide hmx
    by_cases hlt : k < 64
    · have hf : wr.frozen? ⟨w.heap.size + 3, k, none⟩ = false := frozen_of_row _ _ _ _ _ hmx.r3
      have hcell := fun j (hj : j < k) => (cell_of_row _ _ j _ _ _ hmx.r3).trans (arr_take_at S HSL.out k j (by omega) hj)
      have HNX := hide (arr_take S HSL.out k hlt)
      obtain ⟨old, hold⟩ : ∃ old, wr.cell? ⟨w.heap.size + 3, k, none⟩ = some old := by
        rw [cell_of_row _ _ _ _ _ _ hmx.r3, arr_at _ _ hlt (by rw [List.length_take]; omega)]
        exact ⟨_, rfl⟩
      clear hmx
      by_cases h16 : k < 16
      · have ix := idx37 (w.heap.size + 3) (k : Int) k rfl hlt
        have HWk := hide (HW.out k h16)
        clear hcell
        go_wp2_with fail
        refine (number_refI bs _ (i + 4 * k) _ (by omega) (by have := HI.out; omega) HM.out).mono ?_
        rintro e' w' ⟨rfl, nq, rfl⟩
        go_wp2
        refine ⟨⟨k + 1, by omega, by go_num, ?_⟩, by simp [intOf]; omega⟩
        rw [← HWk.out, ← HNX.out]
        exact (HMX.out.drewN nq).set3 k _
      · obtain ⟨n, rfl⟩ : ∃ n, k = n + 16 := ⟨k - 16, by omega⟩
        have hn : n < 48 := by omega
        have HHn := hide (HH.out n hn)
        have c14 := hcell (n + 14) (by omega)
        have c9 := hcell (n + 9) (by omega)
        have c1 := hcell (n + 1) (by omega)
        have c0 := hcell n (by omega)
        have l14 := HSlt.out (n + 14)
        have l9 := HSlt.out (n + 9)
        have l1 := HSlt.out (n + 1)
        have l0 := HSlt.out n
        clear hcell
        generalize S.getD (n + 14) 0 = x14 at *
        generalize S.getD (n + 9) 0 = x9 at *
        generalize S.getD (n + 1) 0 = x1 at *
        generalize S.getD n 0 = x0 at *
        generalize S.getD (n + 16) 0 = x16 at *
        obtain ⟨t, ht⟩ : ∃ t : Int, t = ((n + 16 : Nat) : Int) := ⟨_, rfl⟩
        have t0 : 16 ≤ t := by omega
        have t1 : t < 64 := by omega
        have i14 := idx37 (w.heap.size + 3) (t - 2) (n + 14) (by omega) (by omega)
        have i9 := idx37 (w.heap.size + 3) (t - 7) (n + 9) (by omega) (by omega)
        have i1 := idx37 (w.heap.size + 3) (t - 15) (n + 1) (by omega) (by omega)
        have i0 := idx37 (w.heap.size + 3) (t - 16) n (by omega) (by omega)
        have i16 := idx37 (w.heap.size + 3) t (n + 16) (by omega) (by omega)
        have w14 := wrap_small (t - 2) (by omega) (by omega)
        have w9 := wrap_small (t - 7) (by omega) (by omega)
        have w1 := wrap_small (t - 15) (by omega) (by omega)
        have w0 := wrap_small (t - 16) (by omega) (by omega)
        have HT : Hid (t = ((n + 16 : Nat) : Int)) := ht
        rw [← ht]
        have HLT : Hid (n < 48) := hn
        clear ht hlt hn h16 hk
        have hx14 : bits BinOp.xor IntKind.u32 (bits BinOp.xor IntKind.u32 (Sha.ror 17 x14 : Nat) (Sha.ror 19 x14 : Nat)) ((x14 : Int) / 1024) = (Sha.ss1 x14 : Nat) := xor32 (Sha.ror 17 x14 ^^^ Sha.ror 19 x14) (x14 / 1024) (xor32 _ _ rfl rfl (Sha.ror_lt l14) (Sha.ror_lt l14)) (by omega) (Sha.xor_lt (Sha.ror_lt l14) (Sha.ror_lt l14)) (Sha.div_lt l14)
        have hx1 : bits BinOp.xor IntKind.u32 (bits BinOp.xor IntKind.u32 (Sha.ror 7 x1 : Nat) (Sha.ror 18 x1 : Nat)) ((x1 : Int) / 8) = (Sha.ss0 x1 : Nat) := xor32 (Sha.ror 7 x1 ^^^ Sha.ror 18 x1) (x1 / 8) (xor32 _ _ rfl rfl (Sha.ror_lt l1) (Sha.ror_lt l1)) (by omega) (Sha.xor_lt (Sha.ror_lt l1) (Sha.ror_lt l1)) (Sha.div_lt l1)
        have s14 := Sha.ss1_lt l14
        have s1 := Sha.ss0_lt l1
        have HR := hide (And.intro (Sha.ror_lt (n := 7) l1) (And.intro (Sha.ror_lt (n := 18) l1) (And.intro (Sha.ror_lt (n := 17) l14) (Sha.ror_lt (n := 19) l14))))
        generalize Sha.ss1 x14 = y14 at *
        generalize Sha.ss0 x1 = y1 at *
        go_wp2_with fail
        go_quiet (first | (go_at_call_of 159 (Value.int IntKind.i64 7); exact Calls.quiet_of (rturn7 x1 _ l1)) | (go_at_call_of 159 (Value.int IntKind.i64 18); exact Calls.quiet_of (rturn18 x1 _ l1)))
        have e14 : (wr.drewN nq).cell? ⟨w.heap.size + 3, n + 14, none⟩ = some (U x14) := by simpa using c14
        have e9 : (wr.drewN nq).cell? ⟨w.heap.size + 3, n + 9, none⟩ = some (U x9) := by simpa using c9
        have e0 : (wr.drewN nq).cell? ⟨w.heap.size + 3, n, none⟩ = some (U x0) := by simpa using c0
        have e16 : (wr.drewN nq).cell? ⟨w.heap.size + 3, n + 16, none⟩ = some old := by simpa using hold
        have ef : (wr.drewN nq).frozen? ⟨w.heap.size + 3, n + 16, none⟩ = false := by simpa using hf
        have HMX2 := hide (HMX.out.drewN nq)
        clear c14 c9 c1 c0 hold hf HMX i1 w1
        generalize wr.drewN nq = w2 at *
        go_wp2_with fail
        go_quiet (first | (go_at_call_of 159 (Value.int IntKind.i64 17); exact Calls.quiet_of (rturn17 x14 _ l14)) | (go_at_call_of 159 (Value.int IntKind.i64 19); exact Calls.quiet_of (rturn19 x14 _ l14)))
        have f9 : (w2.drewN nq).cell? ⟨w.heap.size + 3, n + 9, none⟩ = some (U x9) := by simpa using e9
        have f0 : (w2.drewN nq).cell? ⟨w.heap.size + 3, n, none⟩ = some (U x0) := by simpa using e0
        have f16 : (w2.drewN nq).cell? ⟨w.heap.size + 3, n + 16, none⟩ = some old := by simpa using e16
        have ff : (w2.drewN nq).frozen? ⟨w.heap.size + 3, n + 16, none⟩ = false := by simpa using ef
        have HMX3 := hide (HMX2.out.drewN nq)
        clear e14 e9 e0 e16 ef HMX2 i14 w14
        generalize w2.drewN nq = w3 at *
        go_wp2_with fail
        go_region_held3 (fun w' => w'.cell? ⟨w.heap.size + 3, n + 9, none⟩ = some (U x9) ∧ w'.cell? ⟨w.heap.size + 3, n, none⟩ = some (U x0) ∧ (∃ v, w'.cell? ⟨w.heap.size + 3, n + 16, none⟩ = some v) ∧ w'.frozen? ⟨w.heap.size + 3, n + 16, none⟩ = false) (first | exact ⟨f9, f0, ⟨_, f16⟩, ff⟩ | exact ⟨cs_ne f9 (by omega), cs_ne f0 (by omega), ⟨_, cs_eq f16⟩, by simp [ff]⟩) (fail)
        all_goals
          go_wp2
          go_roundw
          case rel =>
            have hlt := HLT.out
            refine ⟨n + 16 + 1, by omega, by rw [HT.out]; go_num, ?_⟩
            rw [← HNX.out, HHn.out, next_cast]
            exact (HMX3.out.set3 (n + 16) _).drewN 1
          case measure => have := HT.out; have := HLT.out; simp [intOf]; omega
    · have e64 : k = 64 := by omega
      subst e64
      have eS : S.take 64 = S := List.take_of_length_le (by rw [HSL.out]; omega)
      rw [eS] at hmx HMX
      have hsz := hmx.sz
      have H1 := hide hmx.r1
      clear hmx eS hlt hk
      have HA4 := hide (show ∀ o, (wr.alloc o).heap[w.heap.size + 4]? = some o by intro o; rw [← HMX.out.sz]; exact heap_alloc_new wr o)
      have HMM := hide (fun o => HMX.out.more o)
      go_wp2_with (first | (refine wpList_load_row rfl 64 (.tmp 5) rfl (w.heap.size + 1) rfl 64 #[U a, U b, U c, U d, U e, U f, U g, U h] (0, 0) _ H1.out Tryz.underlying64 rfl Tryz.info28 ?_) | (refine wpList_store_row rfl 64 (.tmp 13) (.tmp 86) rfl (w.heap.size + 4) #[U a, U b, U c, U d, U e, U f, U g, U h] rfl rfl 64 _ (HA4.out _) Tryz.info28 rfl rfl ?_))
      have HB0 := hide (show Mx C w ⟨a, b, c, d, e, f, g, h⟩ z (arr S) 5 (wr.alloc (.cells (st8 ⟨a, b, c, d, e, f, g, h⟩) 64)) ∧ (wr.alloc (.cells (st8 ⟨a, b, c, d, e, f, g, h⟩) 64)).heap[w.heap.size + 4]? = some (.cells (st8 ⟨a, b, c, d, e, f, g, h⟩) 64 (0, 0)) from ⟨HMM.out _, HA4.out _⟩)
      clear HMX hsz H1 HA4 HMM
      go_loopw [14] (fun iv wq => ∃ n : Nat, n ≤ 64 ∧ iv = .int .i64 n ∧ ∃ r : Sha.St, Sha.rounds S n ⟨a, b, c, d, e, f, g, h⟩ = r ∧ Mx C w ⟨a, b, c, d, e, f, g, h⟩ z (arr S) 5 wq ∧ wq.heap[w.heap.size + 4]? = some (.cells (st8 r) 64 (0, 0)))
        (fun iv _ => 64 - (intOf iv).toNat)
      case atStart => exact ⟨0, by omega, rfl, _, rfl, HB0.out.1, HB0.out.2⟩
      case round =>
        clear HB0
        obtain ⟨n, hn, rfl, r, hr, hmx, hrow⟩ := hrel
        have hok : Sha.Ok r := hr ▸ Sha.rounds_ok n HS.out
        have HRr := hide hr
        clear hr
        obtain ⟨ra, rb, rc, rd, re, rf, rg, rh⟩ := r
        obtain ⟨oa, ob, oc, od, oe, of, og, oh⟩ := hok
        dsimp only at oa ob oc od oe of og oh ⊢
        have HMX := hide hmx
        have HROW := hide hrow
        have c0 : wr.cell? ⟨w.heap.size + 4, 0, none⟩ = some (U ra) := by rw [cell_of_row _ _ _ _ _ _ hrow]; rfl
        have c1 : wr.cell? ⟨w.heap.size + 4, 1, none⟩ = some (U rb) := by rw [cell_of_row _ _ _ _ _ _ hrow]; rfl
        have c2 : wr.cell? ⟨w.heap.size + 4, 2, none⟩ = some (U rc) := by rw [cell_of_row _ _ _ _ _ _ hrow]; rfl
        have c4 : wr.cell? ⟨w.heap.size + 4, 4, none⟩ = some (U re) := by rw [cell_of_row _ _ _ _ _ _ hrow]; rfl
        have c5 : wr.cell? ⟨w.heap.size + 4, 5, none⟩ = some (U rf) := by rw [cell_of_row _ _ _ _ _ _ hrow]; rfl
        have c6 : wr.cell? ⟨w.heap.size + 4, 6, none⟩ = some (U rg) := by rw [cell_of_row _ _ _ _ _ _ hrow]; rfl
        have c7 : wr.cell? ⟨w.heap.size + 4, 7, none⟩ = some (U rh) := by rw [cell_of_row _ _ _ _ _ _ hrow]; rfl
        by_cases hlt : n < 64
        · have hk := (cell_of_row _ _ (8 + n) _ _ _ hmx.r0).trans (HC.out n hlt)
          have hw := (cell_of_row _ _ n _ _ _ hmx.r3).trans (arr_at S n hlt (by rw [HSL.out]; omega))
          have ik := idx64o w.heap.size 8 (n : Int) n rfl hlt
          have iw := idx37 (w.heap.size + 3) (n : Int) n rfl hlt
          have lk := Sha.getD_lt Sha.Ks_lt n
          have lw := HSlt.out n
          have HST : Hid (Sha.rounds S (n + 1) ⟨a, b, c, d, e, f, g, h⟩ = Sha.round (Sha.Ks.getD n 0) (S.getD n 0) ⟨ra, rb, rc, rd, re, rf, rg, rh⟩) := by
            show Sha.round _ _ (Sha.rounds _ n _) = _
            rw [HRr.out]
          clear hmx hrow HRr
          generalize Sha.Ks.getD n 0 = kn at *
          generalize S.getD n 0 = wn at *
          have hsg : IntKind.u32.signed = false := rfl
          have hch : bits .or .u32 (bits .and .u32 (re : Int) (rf : Int)) (bits .and .u32 (bits .xor .u32 IntKind.u32.max (re : Int)) (rg : Int)) = ((Sha.ch re rf rg : Nat) : Int) := by
            rw [← Sha.ch_or re rf rg oe]
            have hn : (4294967295 ^^^ re) < 4294967296 := Sha.xor_lt (by decide) oe
            exact or32 (re &&& rf) ((4294967295 ^^^ re) &&& rg) (and32 re rf rfl rfl oe of) (and32 (4294967295 ^^^ re) rg (xor32 4294967295 re max32 rfl (by decide) oe) rfl hn og) (Sha.and_lt of) (Sha.and_lt og)
          have hmj : bits .or .u32 (bits .or .u32 (bits .and .u32 (ra : Int) (rb : Int)) (bits .and .u32 (ra : Int) (rc : Int))) (bits .and .u32 (rb : Int) (rc : Int)) = ((Sha.maj ra rb rc : Nat) : Int) := by
            rw [← Sha.maj_or]
            exact or32 ((ra &&& rb) ||| (ra &&& rc)) (rb &&& rc) (or32 (ra &&& rb) (ra &&& rc) (and32 ra rb rfl rfl oa ob) (and32 ra rc rfl rfl oa oc) (Sha.and_lt ob) (Sha.and_lt oc)) (and32 rb rc rfl rfl ob oc) (Sha.or_lt (Sha.and_lt ob) (Sha.and_lt oc)) (Sha.and_lt oc)
          have hb1 : bits .xor .u32 (bits .xor .u32 ((Sha.ror 6 re : Nat) : Int) ((Sha.ror 11 re : Nat) : Int)) ((Sha.ror 25 re : Nat) : Int) = ((Sha.bs1 re : Nat) : Int) := xor32 (Sha.ror 6 re ^^^ Sha.ror 11 re) (Sha.ror 25 re) (xor32 _ _ rfl rfl (Sha.ror_lt oe) (Sha.ror_lt oe)) rfl (Sha.xor_lt (Sha.ror_lt oe) (Sha.ror_lt oe)) (Sha.ror_lt oe)
          have hb0 : bits .xor .u32 (bits .xor .u32 ((Sha.ror 2 ra : Nat) : Int) ((Sha.ror 13 ra : Nat) : Int)) ((Sha.ror 22 ra : Nat) : Int) = ((Sha.bs0 ra : Nat) : Int) := xor32 (Sha.ror 2 ra ^^^ Sha.ror 13 ra) (Sha.ror 22 ra) (xor32 _ _ rfl rfl (Sha.ror_lt oa) (Sha.ror_lt oa)) rfl (Sha.xor_lt (Sha.ror_lt oa) (Sha.ror_lt oa)) (Sha.ror_lt oa)
          have lch := Sha.ch_lt (x := re) of og
          have lmj := Sha.maj_lt (x := ra) ob oc
          have lb1 := Sha.bs1_lt oe
          have lb0 := Sha.bs0_lt oa
          have HRD := hide (show Sha.round kn wn ⟨ra, rb, rc, rd, re, rf, rg, rh⟩ = ⟨((((((rh + Sha.bs1 re) % 4294967296 + Sha.ch re rf rg) % 4294967296 + kn) % 4294967296 + wn) % 4294967296) + (Sha.bs0 ra + Sha.maj ra rb rc) % 4294967296) % 4294967296, ra, rb, rc, (rd + ((((rh + Sha.bs1 re) % 4294967296 + Sha.ch re rf rg) % 4294967296 + kn) % 4294967296 + wn) % 4294967296) % 4294967296, re, rf, rg⟩ from rfl)
          generalize Sha.ch re rf rg = qch at *
          generalize Sha.maj ra rb rc = qmj at *
          generalize Sha.bs1 re = qb1 at *
          generalize Sha.bs0 ra = qb0 at *
          go_wp2_with fail
          go_quiet (first | (go_at_call_of 159 (Value.int IntKind.i64 6); exact Calls.quiet_of (rturn6 re _ oe)) | (go_at_call_of 159 (Value.int IntKind.i64 11); exact Calls.quiet_of (rturn11 re _ oe)) | (go_at_call_of 159 (Value.int IntKind.i64 25); exact Calls.quiet_of (rturn25 re _ oe)))
          have HMX2 := hide (HMX.out.drewN nq)
          have HROW2 := hide (show (wr.drewN nq).heap[w.heap.size + 4]? = some (.cells (st8 ⟨ra, rb, rc, rd, re, rf, rg, rh⟩) 64 (0, 0)) by rw [drewN_heap]; exact HROW.out)
          clear c0 c1 c2 c4 c5 c6 c7 hk hw ik iw HMX HROW
          generalize wr.drewN nq = w2 at *
          go_wp2_with fail
          refine (rturn2 ra _ oa).mono ?_
          rintro e' w' ⟨rfl, n1, rfl⟩
          have HMX3 := hide (HMX2.out.drewN n1)
          have HROW3 := hide (show (w2.drewN n1).heap[w.heap.size + 4]? = some (.cells (st8 ⟨ra, rb, rc, rd, re, rf, rg, rh⟩) 64 (0, 0)) by rw [drewN_heap]; exact HROW2.out)
          clear HMX2 HROW2
          generalize w2.drewN n1 = w3 at *
          go_wp2_with fail
          refine (rturn13 ra _ oa).mono ?_
          rintro e' w' ⟨rfl, n2, rfl⟩
          have HMX4 := hide (HMX3.out.drewN n2)
          have HROW4 := hide (show (w3.drewN n2).heap[w.heap.size + 4]? = some (.cells (st8 ⟨ra, rb, rc, rd, re, rf, rg, rh⟩) 64 (0, 0)) by rw [drewN_heap]; exact HROW3.out)
          clear HMX3 HROW3
          generalize w3.drewN n2 = w4 at *
          go_wp2_with fail
          refine (rturn22 ra _ oa).mono ?_
          rintro e' w' ⟨rfl, n3, rfl⟩
          have HMX5 := hide (HMX4.out.drewN n3)
          have HROW5 := hide (show (w4.drewN n3).heap[w.heap.size + 4]? = some (.cells (st8 ⟨ra, rb, rc, rd, re, rf, rg, rh⟩) 64 (0, 0)) by rw [drewN_heap]; exact HROW4.out)
          clear HMX4 HROW4
          generalize w4.drewN n3 = w5 at *
          go_wp2_with fail
          go_loopw [21] (fun kv wq => ∃ k : Nat, k ≤ 7 ∧ kv = .int .i64 k ∧ Mx C w ⟨a, b, c, d, e, f, g, h⟩ z (arr S) 5 wq ∧ wq.heap[w.heap.size + 4]? = some (.cells ((Sha.sh [ra, rb, rc, rd, re, rf, rg, rh] k).map U).toArray 64 (0, 0)))
            (fun kv _ => (intOf kv).toNat)
          case atStart => exact ⟨7, by omega, rfl, HMX5.out, HROW5.out⟩
          case round =>
            clear HMX5 HROW5
            obtain ⟨k, hk7, rfl, hmx, hrow⟩ := hrel
            have HMX := hide hmx
            have HROW := hide hrow
            by_cases hk0 : 0 < k
            · have hc := (cell_of_row _ _ (k - 1) _ _ _ hrow).trans (by rw [List.getElem?_toArray, List.getElem?_map, Sha.sh_at ra rb rc rd re rf rg rh k hk0 hk7, Option.map_some])
              obtain ⟨old, hold⟩ : ∃ old, wr.cell? ⟨w.heap.size + 4, k, none⟩ = some old := by
                rw [cell_of_row _ _ _ _ _ _ hrow, List.getElem?_toArray, List.getElem?_map, List.getElem?_eq_getElem (by rw [Sha.sh_len]; omega)]
                exact ⟨_, rfl⟩
              have hf : wr.frozen? ⟨w.heap.size + 4, k, none⟩ = false := frozen_of_row _ _ _ _ _ hrow
              have i1 := idx28 (w.heap.size + 4) ((k : Int) - 1) (k - 1) (by omega) (by omega)
              have i2 := idx28 (w.heap.size + 4) (k : Int) k rfl (by omega)
              have HSH := hide (Sha.sh_step ra rb rc rd re rf rg rh k hk0 hk7)
              clear hmx hrow
              generalize [ra, rb, rc, rd, re, rf, rg, rh].getD (k - 1) 0 = xk at *
              go_wp2_with fail
              go_roundw
              case rel =>
                refine ⟨k - 1, by omega, by go_num, HMX.out.set4 k _, ?_⟩
                rw [rowU_set' HROW.out, HSH.out]
              case measure => simp [intOf]; omega
            · have e0 : k = 0 := by omega
              subst e0
              have d4 : wr.cell? ⟨w.heap.size + 4, 4, none⟩ = some (U rd) := by rw [cell_of_row _ _ _ _ _ _ hrow]; rfl
              have d0 : wr.cell? ⟨w.heap.size + 4, 0, none⟩ = some (U ra) := by rw [cell_of_row _ _ _ _ _ _ hrow]; rfl
              have hf : ∀ j, wr.frozen? ⟨w.heap.size + 4, j, none⟩ = false := fun j => frozen_of_row _ _ _ _ _ hrow
              clear hmx hrow hk0 hk7
              go_wp2_with fail
              go_roundw
              case rel =>
                refine ⟨n + 1, hlt, by go_num, _, HST.out, (HMX.out.set4 4 _).set4 0 _, ?_⟩
                rw [HRD.out, re_cast2, ra_cast2, rowU_set' (rowU_set' HROW.out)]
                rfl
              case measure => simp [intOf]; omega
        · have e64 : n = 64 := by omega
          subst e64
          have HF : Hid (Sha.rounds S 64 ⟨a, b, c, d, e, f, g, h⟩ = ⟨ra, rb, rc, rd, re, rf, rg, rh⟩) := HRr.out
          clear c0 c1 c2 c4 c5 c6 c7 hmx hrow HRr hlt hn
          go_wp2_with fail
          go_loopw [22] (fun kv wq => ∃ k : Nat, k ≤ 8 ∧ kv = .int .i64 k ∧ wq.heap[w.heap.size + 1]? = some (.cells (mix (toL (Sha.add ⟨a, b, c, d, e, f, g, h⟩ ⟨ra, rb, rc, rd, re, rf, rg, rh⟩)) (toL ⟨a, b, c, d, e, f, g, h⟩) k) 64 (0, 0)) ∧ wq.heap[w.heap.size + 2]? = some (.cells z 64 (0, 0)) ∧ wq.heap[w.heap.size + 4]? = some (.cells (st8 ⟨ra, rb, rc, rd, re, rf, rg, rh⟩) 64 (0, 0)) ∧ Below w.heap.size w wq)
            (fun kv _ => 8 - (intOf kv).toNat)
          case atStart => exact ⟨0, by omega, rfl, HMX.out.r1, HMX.out.r2, HROW.out, HMX.out.bl⟩
          case round =>
            clear HMX HROW
            obtain ⟨k, hk, rfl, h1, h2, h4, hb⟩ := hrel
            have H1 := hide h1
            have H2 := hide h2
            have H4 := hide h4
            have HB := hide hb
            by_cases hlt : k < 8
            · have hc : wr.cell? ⟨w.heap.size + 1, k, none⟩ = some (U ((toL ⟨a, b, c, d, e, f, g, h⟩).getD k 0)) := by
                rw [cell_of_row _ _ _ _ _ _ h1]; exact mix_at _ _ _ rfl rfl hlt
              have hc4 : wr.cell? ⟨w.heap.size + 4, k, none⟩ = some (U ((toL ⟨ra, rb, rc, rd, re, rf, rg, rh⟩).getD k 0)) := by
                rw [cell_of_row _ _ _ _ _ _ h4]; exact st8_at _ k hlt
              have hf : wr.frozen? ⟨w.heap.size + 1, k, none⟩ = false := frozen_of_row _ _ _ _ _ h1
              have i1 := idx28 (w.heap.size + 1) (k : Int) k rfl hlt
              have i4 := idx28 (w.heap.size + 4) (k : Int) k rfl hlt
              have HMS := hide (mix_step (toL (Sha.add ⟨a, b, c, d, e, f, g, h⟩ ⟨ra, rb, rc, rd, re, rf, rg, rh⟩)) (toL ⟨a, b, c, d, e, f, g, h⟩) k rfl rfl hlt)
              rw [add_at _ _ k hlt] at HMS
              clear h1 h2 h4 hb
              generalize (toL ⟨a, b, c, d, e, f, g, h⟩).getD k 0 = xk at *
              generalize (toL ⟨ra, rb, rc, rd, re, rf, rg, rh⟩).getD k 0 = yk at *
              go_wp2_with fail
              go_region
              all_goals
                go_wp2
                go_roundw
                case rel =>
                  refine ⟨k + 1, hlt, by go_num, ?_, ?_, ?_, (HB.out.setCell (by simp) _).drew⟩
                  · rw [show ∀ W : World, W.drew.heap = W.heap from fun _ => rfl, heap_setCell_same _ _ _ _ _ _ H1.out, add_cast, HMS.out]
                  · rw [show ∀ W : World, W.drew.heap = W.heap from fun _ => rfl, heap_setCell_other _ _ _ _ (by simp)]; exact H2.out
                  · rw [show ∀ W : World, W.drew.heap = W.heap from fun _ => rfl, heap_setCell_other _ _ _ _ (by simp)]; exact H4.out
                case measure => simp [intOf]; omega
            · have e8 : k = 8 := by omega
              subst e8
              have HFF : Hid (st8 (Sha.add ⟨a, b, c, d, e, f, g, h⟩ ⟨ra, rb, rc, rd, re, rf, rg, rh⟩) = mix (toL (Sha.add ⟨a, b, c, d, e, f, g, h⟩ ⟨ra, rb, rc, rd, re, rf, rg, rh⟩)) (toL ⟨a, b, c, d, e, f, g, h⟩) 8) := by
                rw [mix_all _ _ rfl rfl, toL_arr]
                exact rfl
              have hM8 := mix_size (toL (Sha.add ⟨a, b, c, d, e, f, g, h⟩ ⟨ra, rb, rc, rd, re, rf, rg, rh⟩)) (toL ⟨a, b, c, d, e, f, g, h⟩) 8 rfl rfl (by omega)
              have hM1 := mix_one (toL (Sha.add ⟨a, b, c, d, e, f, g, h⟩ ⟨ra, rb, rc, rd, re, rf, rg, rh⟩)) (toL ⟨a, b, c, d, e, f, g, h⟩) 8
              clear h1 h2 h4 hb
              generalize mix (toL (Sha.add ⟨a, b, c, d, e, f, g, h⟩ ⟨ra, rb, rc, rd, re, rf, rg, rh⟩)) (toL ⟨a, b, c, d, e, f, g, h⟩) 8 = M at *
              have HM8 : Hid (M.size = 8) := hM8
              clear hM8 hlt hk
              go_wp2_with (first | (refine wpList_load_row rfl 64 (.tmp 5) rfl (w.heap.size + 1) rfl 64 M (0, 0) _ H1.out Tryz.underlying64 rfl (by rw [HM8.out]; exact Tryz.info28) ?_) | (refine wpList_store_row rfl 64 (.tmp 8) (.tmp 184) rfl (w.heap.size + 2) M rfl rfl 64 z H2.out (by rw [HM8.out]; exact Tryz.info28) (by rw [HZ8.out, HM8.out]) hM1 ?_))
              refine bodyPost_ret (v := .agg M) ?_ rfl ⟨by rw [HF.out, HFF.out], below_setRow HB.out (by omega) M⟩
              exact results_cell_row rfl _ _ (w.heap.size + 2) 64 M (0, 0) _ rfl (setRow_heap _ _ _ _ _ _ H2.out) Tryz.underlying64 rfl (by rw [HM8.out]; exact Tryz.info28)
end Go.Proofs.YtenaelkbgkpllaaGreatDoor
