/- Part 6 of what the claims on Bound, Small, Right and Sole rest on. -/
import Derived.Test.YtenaelkbgkpllaaGreatDoorKeep05
import Derived.ChangeKeysEq
/- The fast reckoning, block by block. -/
namespace Go.Proofs.YtenaelkbgkpllaaGreatDoor
namespace Sha
/-- is this the table of a block? -/
def table (l : List UInt8) (ws : List Nat) : Bool :=
  and (Nat.beq ws.length 64) (and ((List.range 16).all fun t => Nat.beq (ws.getD t 0) (word l (4 * t))) ((List.range 48).all fun n => Nat.beq (ws.getD (n + 16) 0) (nextW ws n)))
theorem getD_take {ws : List Nat} {n i : Nat} (h : i < n) : (ws.take n).getD i 0 = ws.getD i 0 := by
  simp [List.getD_eq_getElem?_getD, h]
theorem table_spread (l : List UInt8) (ws : List Nat) (h : table l ws = true) : spreadTo l 48 = ws := by
  simp only [table, Bool.and_eq_true, List.all_eq_true, Nat.beq_eq, List.mem_range] at h
  obtain ⟨h64, h1, h2⟩ := h
  have hf : ∀ n, n ≤ 16 → first l n = ws.take n := by
    intro n
    induction n with
    | zero => intro _; simp [first]
    | succ n ih =>
      intro hn
      rw [first, ih (by omega), List.take_succ_eq_append_getElem (by omega), ← h1 n (by omega)]
      simp only [List.getD_eq_getElem?_getD, List.getElem?_eq_getElem (show n < ws.length by omega), Option.getD_some]
  have hs : ∀ n, n ≤ 48 → spreadTo l n = ws.take (16 + n) := by
    intro n
    induction n with
    | zero => intro _; exact hf 16 (by omega)
    | succ n ih =>
      intro hn
      have e : nextW (ws.take (16 + n)) n = nextW ws n := by
        simp only [nextW, getD_take (show n + 14 < 16 + n by omega), getD_take (show n + 9 < 16 + n by omega), getD_take (show n + 1 < 16 + n by omega), getD_take (show n < 16 + n by omega)]
      rw [spreadTo, ih (by omega), e, ← h2 n (by omega), show 16 + (n + 1) = (16 + n) + 1 by omega, List.take_succ_eq_append_getElem (by omega)]
      rw [show n + 16 = 16 + n by omega]
      simp only [List.getD_eq_getElem?_getD, List.getElem?_eq_getElem (show 16 + n < ws.length by omega), Option.getD_some]
  rw [hs 48 (by omega), List.take_of_length_le (by omega)]
theorem go1_stir (l : List UInt8) (ws kws : List Nat) (q : Nat → Nat → Nat → Nat → Nat → Nat → Nat → Nat → Bool) (s : St) (hs : Ok s) (ht : table l ws = true) (hk : (Ks.zip ws).map plus = kws) :
    go1 kws q s.a s.b s.c s.d s.e s.f s.g s.h = q (stir s l).a (stir s l).b (stir s l).c (stir s l).d (stir s l).e (stir s l).f (stir s l).g (stir s l).h := by
  have e := table_spread l ws ht
  have h64 : ws.length = 64 := by rw [← e, spreadTo_length]
  have hr : rounds ws 64 s = roundsP (Ks.zip ws) s := by
    have := rounds_take ws s h64 64 (by omega)
    rwa [List.take_of_length_le (by rw [List.length_zip, h64]; exact Nat.min_le_right _ _)] at this
  subst hk
  unfold go1
  rw [go_all _ _ s hs]
  simp only [force_eq, mod_add]
  unfold stir
  rw [e, hr]
  unfold add
  dsimp only
def iter {α : Type} (f : α → α) : Nat → α → α
  | 0, s => s
  | n + 1, s => iter f n (f s)
theorem iter_zero {α : Type} (f : α → α) (s : α) : iter f 0 s = s := rfl
theorem iter_succ {α : Type} (f : α → α) (n : Nat) (s : α) : iter f (n + 1) s = iter f n (f s) := rfl
/-- n times the same block -/
def stirs (l : List UInt8) (n : Nat) (s : St) : St := iter (fun s => stir s l) n s
theorem stirs_zero (l : List UInt8) (s : St) : stirs l 0 s = s := by unfold stirs; rw [iter_zero]
theorem stirs_succ (l : List UInt8) (n : Nat) (s : St) : stirs l (n + 1) s = stirs l n (stir s l) := by unfold stirs; rw [iter_succ]
theorem goN_zero (kws : List Nat) (q : Nat → Nat → Nat → Nat → Nat → Nat → Nat → Nat → Bool) : goN kws q 0 = q := rfl
theorem goN_succ (kws : List Nat) (q : Nat → Nat → Nat → Nat → Nat → Nat → Nat → Nat → Bool) (n : Nat) : goN kws q (n + 1) = go1 kws (goN kws q n) := rfl
theorem goN_stirs (l : List UInt8) (ws kws : List Nat) (q : Nat → Nat → Nat → Nat → Nat → Nat → Nat → Nat → Bool) (ht : table l ws = true) (hk : (Ks.zip ws).map plus = kws) : ∀ (n : Nat) (s : St), Ok s →
    goN kws q n s.a s.b s.c s.d s.e s.f s.g s.h = q (stirs l n s).a (stirs l n s).b (stirs l n s).c (stirs l n s).d (stirs l n s).e (stirs l n s).f (stirs l n s).g (stirs l n s).h
  | 0, s, _ => by rw [goN_zero, stirs_zero]
  | n + 1, s, hs => by
    rw [goN_succ, go1_stir l ws kws _ s hs ht hk, goN_stirs l ws kws q ht hk n _ stir_ok, stirs_succ]
theorem isSt_eq {A B C D E F G H : Nat} {s : St} (h : isSt A B C D E F G H s.a s.b s.c s.d s.e s.f s.g s.h = true) : s = ⟨A, B, C, D, E, F, G, H⟩ := by
  simp only [isSt, Bool.and_eq_true, Nat.beq_eq] at h
  obtain ⟨h1, h2, h3, h4, h5, h6, h7, h8⟩ := h
  cases s
  simp only at h1 h2 h3 h4 h5 h6 h7 h8
  subst h1 h2 h3 h4 h5 h6 h7 h8
  rfl
theorem stirs_of (l : List UInt8) (ws kws : List Nat) (n : Nat) (a b c d e f g h A B C D E F G H : Nat) (ht : table l ws = true) (hk : (Ks.zip ws).map plus = kws) (hs : Ok ⟨a, b, c, d, e, f, g, h⟩)
    (hg : goN kws (isSt A B C D E F G H) n a b c d e f g h = true) : stirs l n ⟨a, b, c, d, e, f, g, h⟩ = ⟨A, B, C, D, E, F, G, H⟩ := by
  have := goN_stirs l ws kws (isSt A B C D E F G H) ht hk n ⟨a, b, c, d, e, f, g, h⟩ hs
  exact isSt_eq (this.symm.trans hg)
theorem stirs_add (l : List UInt8) : ∀ (n m : Nat) (s : St), stirs l (n + m) s = stirs l m (stirs l n s)
  | 0, m, s => by rw [Nat.zero_add, stirs_zero]
  | n + 1, m, s => by rw [show n + 1 + m = (n + m) + 1 by omega, stirs_succ, stirs_succ, stirs_add l n m (stir s l)]
end Sha
end Go.Proofs.YtenaelkbgkpllaaGreatDoor
/- The digest of abc, by the kernel's own reckoning. -/
namespace Go.Proofs.YtenaelkbgkpllaaGreatDoor
namespace Abc
open Sha
theorem one_of (l : List UInt8) (ws kws : List Nat) (a b c d e f g h A B C D E F G H : Nat) (ht : table l ws = true) (hk : (Ks.zip ws).map plus = kws) (hs : Ok ⟨a, b, c, d, e, f, g, h⟩)
    (hg : goN kws (isSt A B C D E F G H) 1 a b c d e f g h = true) : stir ⟨a, b, c, d, e, f, g, h⟩ l = ⟨A, B, C, D, E, F, G, H⟩ := by
  have := stirs_of l ws kws 1 a b c d e f g h A B C D E F G H ht hk hs hg
  rwa [stirs_succ, stirs_zero] at this
theorem stirN_succ (l : List UInt8) (n : Nat) (s : St) : stirN l (n + 1) s = stir (stirN l n s) ((l.drop (64 * n)).take 64) := by rw [stirN]
theorem stirN_zero (l : List UInt8) (s : St) : stirN l 0 s = s := by rw [stirN]
theorem stirN_one (l : List UInt8) (s : St) (h : l.length = 64) : stirN l 1 s = stir s l := by
  rw [stirN_succ, stirN_zero, Nat.mul_zero, List.drop_zero, List.take_of_length_le (by omega)]
def blockB : List UInt8 := [97, 98, 99, 128, 0, 0, 0, 0, 0, 0, 0, 0, 0, 0, 0, 0, 0, 0, 0, 0, 0, 0, 0, 0, 0, 0, 0, 0, 0, 0, 0, 0, 0, 0, 0, 0, 0, 0, 0, 0, 0, 0, 0, 0, 0, 0, 0, 0, 0, 0, 0, 0, 0, 0, 0, 0, 0, 0, 0, 0, 0, 0, 0, 24]
def wsB : List Nat := [1633837952, 0, 0, 0, 0, 0, 0, 0, 0, 0, 0, 0, 0, 0, 0, 24, 1633837952, 983040, 2108187653, 1610613702, 1050508152, 25426944, 316456923, 3806512014, 3357629466, 3073800610, 3854317833, 845560923, 2636160359, 3968280267, 1881225380, 3552024379, 2482346367, 996719219, 2952069057, 4043988066, 176896406, 1924104970, 2483675966, 610538786, 2672279444, 4037431130, 1042573945, 657669027, 206005234, 2215296807, 2049510749, 106709978, 4215179723, 3430291419, 3118885940, 2845390439, 2226839261, 3256115900, 344409900, 2987358873, 4015503821, 3957764664, 2682456414, 2025622859, 2755645205, 1720397816, 4004225740, 313650667]
def kwsB : List Nat := [2750190360, 1899447441, 3049323471, 3921009573, 961987163, 1508970993, 2453635748, 2870763221, 3624381080, 310598401, 607225278, 1426881987, 1925078388, 2162078206, 2614888103, 3248222604, 1174261057, 4023207814, 2372534731, 2215421330, 1820764135, 1274577066, 1871538615, 1507609704, 1616883052, 1600667663, 2512347345, 4055874594, 1677764954, 3257841682, 1995152373, 3890266274, 3148653572, 1770249131, 4246826429, 1145203061, 1872080106, 3910766021, 365735020, 3067494823, 1107798069, 2562766245, 7337449, 4003433798, 3722071051, 1520682315, 1849115362, 382133322, 350440161, 3937240035, 3777946496, 3729388316, 3184978832, 283970822, 1881411963, 440265356, 1676098747, 1686902183, 615219570, 92507987, 889114383, 182164707, 2913289923, 3642975965]
theorem stirB : stir ⟨1779033703, 3144134277, 1013904242, 2773480762, 1359893119, 2600822924, 528734635, 1541459225⟩ blockB = ⟨3128432319, 2399260650, 1094795486, 1571693091, 2953011619, 2518121116, 3021012833, 4060091821⟩ :=
  one_of blockB wsB kwsB 1779033703 3144134277 1013904242 2773480762 1359893119 2600822924 528734635 1541459225 3128432319 2399260650 1094795486 1571693091 2953011619 2518121116 3021012833 4060091821 (by kernel_rfl) (by kernel_rfl) (by unfold Ok; decide) (by kernel_rfl)
theorem sha_abc : sha [97, 98, 99] = join ⟨3128432319, 2399260650, 1094795486, 1571693091, 2953011619, 2518121116, 3021012833, 4060091821⟩ := by
  have e : last [97, 98, 99] = blockB := by kernel_rfl
  unfold sha state
  rw [e]
  show Sha.join (stirN blockB 1 (stirN [] 0 Sha.start)) = _
  rw [stirN_zero, stirN_one _ _ (by kernel_rfl)]
  exact congrArg join stirB
theorem at_abc : (sha [97, 98, 99])[0]? = some 186 ∧ (sha [97, 98, 99])[1]? = some 120 ∧ (sha [97, 98, 99])[31]? = some 173 := by
  rw [sha_abc]
  exact ⟨by kernel_rfl, by kernel_rfl, by kernel_rfl⟩
end Abc
end Go.Proofs.YtenaelkbgkpllaaGreatDoor
/- Two lists of 32 bytes that are one are equal to the program. -/
namespace Go.Proofs.YtenaelkbgkpllaaGreatDoor
open Go.RowKit

theorem part5 (A : Array Value) (i : Nat) (v : Value) (h : A[i]? = some v) (w : World) : (part 5 A i).run Tryz.prog w = .ok v w := by
  simp [part, Sem.run_bind, h]
theorem eqItems_same (A : Array Value) (w : World) (hA : ∀ i, i < 32 → ∃ n : Int, A[i]? = some (.int .u8 n)) : ∀ is : List Nat, (∀ j ∈ is, j < 32) → (Op.eqItems 9999 5 1 A A is).run Tryz.prog w = .ok true w
  | [], _ => by simp [Op.eqItems]
  | j :: is, h => by
    obtain ⟨n, hn⟩ := hA j (h j (by simp))
    have ih := eqItems_same A w hA is (fun k hk => h k (by simp [hk]))
    have e : (Op.equalIn 9999 5 (.int .u8 n) (.int .u8 n)).run Tryz.prog w = .ok (n == n) w := run_equalIn_int w 9998 5 .u8 .u8 n n Tryz.underlying5
    simp [Op.eqItems, Sem.run_bind, Nat.mul_one, part5 A j _ hn, e, ih]
theorem Tryz.cells5 : Tryz.prog.cellsOf 5 = 1 := by kernel_rfl
theorem eql_same (A : Array Value) (w : World) (hA : ∀ i, i < 32 → ∃ n : Int, A[i]? = some (.int .u8 n)) :
    (Op.equalIn 10000 39 (.agg A) (.agg A)).run Tryz.prog w = .ok true w := by
  obtain ⟨i0, hi, -⟩ := info_parts Tryz.info5
  rw [run_equalIn_array w 9999 A A Tryz.under22 hi, Tryz.cells5]
  exact eqItems_same A w hA _ (fun j hj => List.mem_range.1 hj)
theorem binEql_same (A : Array Value) (w : World) (hA : ∀ i, i < 32 → ∃ n : Int, A[i]? = some (.int .u8 n)) :
    (binOp .eql 39 (.agg A) (.agg A)).run Tryz.prog w = .ok (.bool true) w := by
  rw [run_eql_struct, eql_same A w hA]; rfl
theorem bytes_at (l : List UInt8) (hl : l.length = 32) (i : Nat) (hi : i < 32) : ∃ n : Int, (l.map Y).toArray[i]? = some (.int .u8 n) :=
  ⟨(l[i]'(by omega)).toNat, by rw [List.getElem?_toArray, List.getElem?_map, List.getElem?_eq_getElem (by omega)]; rfl⟩
end Go.Proofs.YtenaelkbgkpllaaGreatDoor
/- A digest as values. -/
namespace Go.Proofs.YtenaelkbgkpllaaGreatDoor
open Go.RowKit

/-- of a text's digest as values: the byte at a place -/
theorem val_at {l : List UInt8} {i : Nat} {b : UInt8} (h : l[i]? = some b) : (l.map Y).toArray[i]? = some (Y b) := by
  rw [List.getElem?_toArray, List.getElem?_map, h]; rfl
theorem vals_one (l : List UInt8) : (l.map Y).toArray.all (·.oneCell') = true := by
  rw [List.all_toArray, List.all_eq_true]
  intro v hv
  obtain ⟨n, _, rfl⟩ := List.mem_map.1 hv
  rfl
/-- a block of 32 cells, laid and filled -/
structure Dig (L : List Value) : Prop where
  len : L.length = 32
  one : L.toArray.all (·.oneCell') = true
  eql : ∀ i, i < 32 → ∃ n : Int, L.toArray[i]? = some (.int .u8 n)
theorem dig_of (l : List UInt8) : Dig ((Sha.sha l).map Y) :=
  ⟨rfl, vals_one _, fun i hi => bytes_at _ rfl i hi⟩
theorem Dig.info {L : List Value} (h : Dig L) : (Tryz.prog.info? 39).map (·.size) = some L.toArray.size := by rw [List.size_toArray, h.len]; exact Tryz.info22
theorem Dig.size {L : List Value} (h : Dig L) : L.toArray.size = 32 := by rw [List.size_toArray, h.len]
theorem dig_abc (L : List Value) (w : World) (hK : KT w) (hL : (Sha.sha [97, 98, 99]).map Y = L) :
    Calls Tryz.prog 30 #[.string ⟨#[97, 98, 99]⟩] w fun e w' => e = .returned (.agg L.toArray) ∧ Below w.heap.size w w' := by
  have hd : (⟨#[97, 98, 99]⟩ : ByteArray).data.toList = [97, 98, 99] := rfl
  exact digest_any ⟨#[97, 98, 99]⟩ L w (by decide) hK (by rw [hd]; exact hL)
end Go.Proofs.YtenaelkbgkpllaaGreatDoor
