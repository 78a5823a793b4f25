/- A digest reckoned fast, and that it is the digest: for the kernel's own reckoning of closed texts. -/
import Derived.Test.YtenaelkbgkpllaaGreatDoorVerified3
import Derived.KernelRfl
import Derived.Test.YtenaelkbgkpllaaGreatDoorVerified2
import Derived.ChangeKeysEq
import Derived.Deep.LoopGhost
namespace Go.Proofs.YtenaelkbgkpllaaGreatDoor
namespace Sha
/-- f at x, x reckoned first -/
def force {α : Type} (x : Nat) (f : Nat → α) : α := match x with
  | 0 => f 0
  | Nat.succ n => f (Nat.succ n)
theorem force_eq {α : Type} (x : Nat) (f : Nat → α) : force x f = f x := by cases x <;> rfl

def go (kws : List Nat) (k : Nat → Nat → Nat → Nat → Nat → Nat → Nat → Nat → Bool) : Nat → Nat → Nat → Nat → Nat → Nat → Nat → Nat → Bool :=
  match kws with
  | [] => k
  | kw :: l => fun a b c d e f g h =>
    force (Nat.mul e 4294967297) fun y =>
    force (Nat.add (Nat.add (Nat.add h (Nat.xor (Nat.xor (Nat.div y 64) (Nat.div y 2048)) (Nat.div y 33554432))) (Nat.xor g (Nat.land e (Nat.xor f g)))) kw) fun t1 =>
    force (Nat.mul a 4294967297) fun z =>
    force (Nat.mod (Nat.add d t1) 4294967296) fun e' =>
    force (Nat.mod (Nat.add (Nat.add t1 (Nat.xor (Nat.xor (Nat.div z 4) (Nat.div z 8192)) (Nat.div z 4194304))) (Nat.xor a (Nat.land (Nat.xor a b) (Nat.xor a c)))) 4294967296) fun a' =>
    go l k a' a b c e' e f g
def go1 (kws : List Nat) (k : Nat → Nat → Nat → Nat → Nat → Nat → Nat → Nat → Bool) (a b c d e f g h : Nat) : Bool :=
  go kws (fun a' b' c' d' e' f' g' h' =>
    force (Nat.mod (Nat.add a a') 4294967296) fun a1 => force (Nat.mod (Nat.add b b') 4294967296) fun b1 => force (Nat.mod (Nat.add c c') 4294967296) fun c1 => force (Nat.mod (Nat.add d d') 4294967296) fun d1 =>
    force (Nat.mod (Nat.add e e') 4294967296) fun e1 => force (Nat.mod (Nat.add f f') 4294967296) fun f1 => force (Nat.mod (Nat.add g g') 4294967296) fun g1 => force (Nat.mod (Nat.add h h') 4294967296) fun h1 => k a1 b1 c1 d1 e1 f1 g1 h1) a b c d e f g h
def goN (kws : List Nat) (k : Nat → Nat → Nat → Nat → Nat → Nat → Nat → Nat → Bool) : Nat → Nat → Nat → Nat → Nat → Nat → Nat → Nat → Nat → Bool
  | 0 => k
  | Nat.succ n => go1 kws (goN kws k n)
def isSt (A B C D E F G H a b c d e f g h : Nat) : Bool :=
  and (Nat.beq a A) (and (Nat.beq b B) (and (Nat.beq c C) (and (Nat.beq d D) (and (Nat.beq e E) (and (Nat.beq f F) (and (Nat.beq g G) (Nat.beq h H)))))))

theorem or_add (p q n : Nat) (h : q < 2 ^ n) : p * 2 ^ n ||| q = p * 2 ^ n + q := by
  rw [Nat.mul_comm, ← Nat.two_pow_add_eq_or_of_lt h]
theorem ror6 (x : Nat) (hx : x < 4294967296) : Nat.div (Nat.mul x 4294967297) 64 % 4294967296 = ror 6 x := by
  have e : x * 2 ^ (32 - 6) % 4294967296 = (x % 64) * 2 ^ 26 := by omega
  have q : x * 4294967297 / 64 = x * 67108864 + x / 64 := by omega
  have r : x * 67108864 + x / 64 = ((x % 64) * 67108864 + x / 64) + (x / 64) * 4294967296 := by omega
  have l : (x % 64) * 67108864 + x / 64 < 4294967296 := by omega
  rw [ror, e, or_add _ _ _ (by omega)]
  show x * 4294967297 / 64 % 4294967296 = _
  rw [q, r, Nat.add_mul_mod_self_right, Nat.mod_eq_of_lt l]
theorem ror11 (x : Nat) (hx : x < 4294967296) : Nat.div (Nat.mul x 4294967297) 2048 % 4294967296 = ror 11 x := by
  have e : x * 2 ^ (32 - 11) % 4294967296 = (x % 2048) * 2 ^ 21 := by omega
  have q : x * 4294967297 / 2048 = x * 2097152 + x / 2048 := by omega
  have r : x * 2097152 + x / 2048 = ((x % 2048) * 2097152 + x / 2048) + (x / 2048) * 4294967296 := by omega
  have l : (x % 2048) * 2097152 + x / 2048 < 4294967296 := by omega
  rw [ror, e, or_add _ _ _ (by omega)]
  show x * 4294967297 / 2048 % 4294967296 = _
  rw [q, r, Nat.add_mul_mod_self_right, Nat.mod_eq_of_lt l]
theorem ror25 (x : Nat) (hx : x < 4294967296) : Nat.div (Nat.mul x 4294967297) 33554432 % 4294967296 = ror 25 x := by
  have e : x * 2 ^ (32 - 25) % 4294967296 = (x % 33554432) * 2 ^ 7 := by omega
  have q : x * 4294967297 / 33554432 = x * 128 + x / 33554432 := by omega
  have r : x * 128 + x / 33554432 = ((x % 33554432) * 128 + x / 33554432) + (x / 33554432) * 4294967296 := by omega
  have l : (x % 33554432) * 128 + x / 33554432 < 4294967296 := by omega
  rw [ror, e, or_add _ _ _ (by omega)]
  show x * 4294967297 / 33554432 % 4294967296 = _
  rw [q, r, Nat.add_mul_mod_self_right, Nat.mod_eq_of_lt l]
theorem ror2 (x : Nat) (hx : x < 4294967296) : Nat.div (Nat.mul x 4294967297) 4 % 4294967296 = ror 2 x := by
  have e : x * 2 ^ (32 - 2) % 4294967296 = (x % 4) * 2 ^ 30 := by omega
  have q : x * 4294967297 / 4 = x * 1073741824 + x / 4 := by omega
  have r : x * 1073741824 + x / 4 = ((x % 4) * 1073741824 + x / 4) + (x / 4) * 4294967296 := by omega
  have l : (x % 4) * 1073741824 + x / 4 < 4294967296 := by omega
  rw [ror, e, or_add _ _ _ (by omega)]
  show x * 4294967297 / 4 % 4294967296 = _
  rw [q, r, Nat.add_mul_mod_self_right, Nat.mod_eq_of_lt l]
theorem ror13 (x : Nat) (hx : x < 4294967296) : Nat.div (Nat.mul x 4294967297) 8192 % 4294967296 = ror 13 x := by
  have e : x * 2 ^ (32 - 13) % 4294967296 = (x % 8192) * 2 ^ 19 := by omega
  have q : x * 4294967297 / 8192 = x * 524288 + x / 8192 := by omega
  have r : x * 524288 + x / 8192 = ((x % 8192) * 524288 + x / 8192) + (x / 8192) * 4294967296 := by omega
  have l : (x % 8192) * 524288 + x / 8192 < 4294967296 := by omega
  rw [ror, e, or_add _ _ _ (by omega)]
  show x * 4294967297 / 8192 % 4294967296 = _
  rw [q, r, Nat.add_mul_mod_self_right, Nat.mod_eq_of_lt l]
theorem ror22 (x : Nat) (hx : x < 4294967296) : Nat.div (Nat.mul x 4294967297) 4194304 % 4294967296 = ror 22 x := by
  have e : x * 2 ^ (32 - 22) % 4294967296 = (x % 4194304) * 2 ^ 10 := by omega
  have q : x * 4294967297 / 4194304 = x * 1024 + x / 4194304 := by omega
  have r : x * 1024 + x / 4194304 = ((x % 4194304) * 1024 + x / 4194304) + (x / 4194304) * 4294967296 := by omega
  have l : (x % 4194304) * 1024 + x / 4194304 < 4294967296 := by omega
  rw [ror, e, or_add _ _ _ (by omega)]
  show x * 4294967297 / 4194304 % 4294967296 = _
  rw [q, r, Nat.add_mul_mod_self_right, Nat.mod_eq_of_lt l]
theorem xor_mod (a b : Nat) : Nat.xor a b % 4294967296 = (a % 4294967296) ^^^ (b % 4294967296) := Nat.xor_mod_two_pow (n := 32)
theorem bs1_fast (x : Nat) (hx : x < 4294967296) : Nat.xor (Nat.xor (Nat.div (Nat.mul x 4294967297) 64) (Nat.div (Nat.mul x 4294967297) 2048)) (Nat.div (Nat.mul x 4294967297) 33554432) % 4294967296 = bs1 x := by
  rw [xor_mod, xor_mod, ror6 x hx, ror11 x hx, ror25 x hx]; rfl
theorem bs0_fast (x : Nat) (hx : x < 4294967296) : Nat.xor (Nat.xor (Nat.div (Nat.mul x 4294967297) 4) (Nat.div (Nat.mul x 4294967297) 8192)) (Nat.div (Nat.mul x 4294967297) 4194304) % 4294967296 = bs0 x := by
  rw [xor_mod, xor_mod, ror2 x hx, ror13 x hx, ror22 x hx]; rfl
theorem bit_hi {x i : Nat} (hx : x < 4294967296) (hi : ¬ i < 32) : x.testBit i = false := by
  have h := Nat.pow_le_pow_right (n := 2) (by decide) (show 32 ≤ i by omega)
  exact Nat.testBit_lt_two_pow (Nat.lt_of_lt_of_le hx h)
theorem ch_fast (x y z : Nat) (hz : z < 4294967296) : Nat.xor z (Nat.land x (Nat.xor y z)) = ch x y z := by
  show z ^^^ (x &&& (y ^^^ z)) = (x &&& y) ^^^ ((4294967295 ^^^ x) &&& z)
  apply Nat.eq_of_testBit_eq
  intro i
  by_cases hi : i < 32
  · have h1 : Nat.testBit 4294967295 i = true := by
      have : (4294967295 : Nat) = 2 ^ 32 - 1 := by decide
      rw [this, Nat.testBit_two_pow_sub_one]; simpa using hi
    simp only [Nat.testBit_xor, Nat.testBit_and, h1]
    cases x.testBit i <;> cases y.testBit i <;> cases z.testBit i <;> rfl
  · simp only [Nat.testBit_xor, Nat.testBit_and, bit_hi hz hi]
    cases x.testBit i <;> cases y.testBit i <;> cases Nat.testBit 4294967295 i <;> rfl
theorem maj_fast (x y z : Nat) : Nat.xor x (Nat.land (Nat.xor x y) (Nat.xor x z)) = maj x y z := by
  show x ^^^ ((x ^^^ y) &&& (x ^^^ z)) = ((x &&& y) ^^^ (x &&& z)) ^^^ (y &&& z)
  apply Nat.eq_of_testBit_eq
  intro i
  simp only [Nat.testBit_xor, Nat.testBit_and]
  cases x.testBit i <;> cases y.testBit i <;> cases z.testBit i <;> rfl
theorem step_e (d h S1 c kw k w b1 : Nat) (h1 : S1 % 4294967296 = b1) (hk : kw % 4294967296 = (k + w) % 4294967296) : Nat.mod (Nat.add d (Nat.add (Nat.add (Nat.add h S1) c) kw)) 4294967296 = (d + ((((h + b1) % 4294967296 + c) % 4294967296 + k) % 4294967296 + w) % 4294967296) % 4294967296 := by
  show (d + (h + S1 + c + kw)) % 4294967296 = _
  subst h1; omega
theorem step_a (h S1 c kw k w b1 S0 m b0 : Nat) (h1 : S1 % 4294967296 = b1) (h0 : S0 % 4294967296 = b0) (hk : kw % 4294967296 = (k + w) % 4294967296) : Nat.mod (Nat.add (Nat.add (Nat.add (Nat.add (Nat.add h S1) c) kw) S0) m) 4294967296 = (((((h + b1) % 4294967296 + c) % 4294967296 + k) % 4294967296 + w) % 4294967296 + (b0 + m) % 4294967296) % 4294967296 := by
  show (h + S1 + c + kw + S0 + m) % 4294967296 = _
  subst h1; subst h0; omega
theorem go_cons (kw : Nat) (l : List Nat) (q : Nat → Nat → Nat → Nat → Nat → Nat → Nat → Nat → Bool) (a b c d e f g h : Nat) :
    go (kw :: l) q a b c d e f g h =
    go l q (Nat.mod (Nat.add (Nat.add (Nat.add (Nat.add (Nat.add h (Nat.xor (Nat.xor (Nat.div (Nat.mul e 4294967297) 64) (Nat.div (Nat.mul e 4294967297) 2048)) (Nat.div (Nat.mul e 4294967297) 33554432))) (Nat.xor g (Nat.land e (Nat.xor f g)))) kw) (Nat.xor (Nat.xor (Nat.div (Nat.mul a 4294967297) 4) (Nat.div (Nat.mul a 4294967297) 8192)) (Nat.div (Nat.mul a 4294967297) 4194304))) (Nat.xor a (Nat.land (Nat.xor a b) (Nat.xor a c)))) 4294967296) a b c
      (Nat.mod (Nat.add d (Nat.add (Nat.add (Nat.add h (Nat.xor (Nat.xor (Nat.div (Nat.mul e 4294967297) 64) (Nat.div (Nat.mul e 4294967297) 2048)) (Nat.div (Nat.mul e 4294967297) 33554432))) (Nat.xor g (Nat.land e (Nat.xor f g)))) kw)) 4294967296) e f g := by
  simp only [go, force_eq]
theorem round_e (k w : Nat) (s : St) : (s.d + ((((s.h + bs1 s.e) % 4294967296 + ch s.e s.f s.g) % 4294967296 + k) % 4294967296 + w) % 4294967296) % 4294967296 = (round k w s).e := by
  unfold round t1; rfl
theorem round_a (k w : Nat) (s : St) : (((((s.h + bs1 s.e) % 4294967296 + ch s.e s.f s.g) % 4294967296 + k) % 4294967296 + w) % 4294967296 + (bs0 s.a + maj s.a s.b s.c) % 4294967296) % 4294967296 = (round k w s).a := by
  unfold round t1 t2; rfl
theorem go_step (kw k w : Nat) (l : List Nat) (q : Nat → Nat → Nat → Nat → Nat → Nat → Nat → Nat → Bool) (s : St) (hs : Ok s) (hk : kw % 4294967296 = (k + w) % 4294967296) :
    go (kw :: l) q s.a s.b s.c s.d s.e s.f s.g s.h = go l q (round k w s).a s.a s.b s.c (round k w s).e s.e s.f s.g := by
  obtain ⟨ha, hb, hc, hd, he, hf, hg, hh⟩ := hs
  rw [go_cons, ch_fast s.e s.f s.g hg, maj_fast, step_e s.d s.h _ (ch s.e s.f s.g) kw k w _ (bs1_fast s.e he) hk, step_a s.h _ (ch s.e s.f s.g) kw k w _ _ (maj s.a s.b s.c) _ (bs1_fast s.e he) (bs0_fast s.a ha) hk, round_e, round_a]
/-- the rounds by a list of the two numbers of each -/
def roundsP (ps : List (Nat × Nat)) (s : St) : St := ps.foldl (fun s p => round p.1 p.2 s) s
def plus (p : Nat × Nat) : Nat := (p.1 + p.2) % 4294967296
theorem plus_mod (p : Nat × Nat) : plus p % 4294967296 = (p.1 + p.2) % 4294967296 := by unfold plus; exact Nat.mod_mod _ _
theorem mod_add (a b : Nat) : Nat.mod (Nat.add a b) 4294967296 = (a + b) % 4294967296 := rfl
theorem roundsP_cons (p : Nat × Nat) (ps : List (Nat × Nat)) (s : St) : roundsP (p :: ps) s = roundsP ps (round p.1 p.2 s) := by
  unfold roundsP; rw [List.foldl_cons]
theorem round_b (k w : Nat) (s : St) : (round k w s).b = s.a := by unfold round; rfl
theorem round_c (k w : Nat) (s : St) : (round k w s).c = s.b := by unfold round; rfl
theorem round_d (k w : Nat) (s : St) : (round k w s).d = s.c := by unfold round; rfl
theorem round_f (k w : Nat) (s : St) : (round k w s).f = s.e := by unfold round; rfl
theorem round_g (k w : Nat) (s : St) : (round k w s).g = s.f := by unfold round; rfl
theorem round_h (k w : Nat) (s : St) : (round k w s).h = s.g := by unfold round; rfl
theorem go_all (q : Nat → Nat → Nat → Nat → Nat → Nat → Nat → Nat → Bool) (ps : List (Nat × Nat)) : ∀ (s : St), Ok s →
    go (ps.map plus) q s.a s.b s.c s.d s.e s.f s.g s.h = q (roundsP ps s).a (roundsP ps s).b (roundsP ps s).c (roundsP ps s).d (roundsP ps s).e (roundsP ps s).f (roundsP ps s).g (roundsP ps s).h := by
  induction ps with
  | nil => intro s _; simp only [List.map_nil, go, roundsP, List.foldl_nil]
  | cons p ps ih =>
    intro s hs
    have h := ih (round p.1 p.2 s) (round_ok hs)
    rw [round_b, round_c, round_d, round_f, round_g, round_h] at h
    rw [List.map_cons, go_step (plus p) p.1 p.2 _ _ s hs (plus_mod p), h, roundsP_cons]
theorem rounds_take (ws : List Nat) (s : St) (hw : ws.length = 64) (n : Nat) (h : n ≤ 64) : rounds ws n s = roundsP ((Ks.zip ws).take n) s := by
  induction n with
  | zero => simp only [rounds, List.take_zero, roundsP, List.foldl_nil]
  | succ n ih =>
    have hk : Ks.length = 64 := rfl
    have hz : n < (Ks.zip ws).length := by rw [List.length_zip, hk, hw]; omega
    rw [rounds, ih (by omega), List.take_succ_eq_append_getElem hz, roundsP, roundsP, List.foldl_append, List.foldl_cons, List.foldl_nil, List.getElem_zip]
    simp only [List.getD_eq_getElem?_getD, List.getElem?_eq_getElem (show n < Ks.length by omega), List.getElem?_eq_getElem (show n < ws.length by omega), Option.getD_some]
end Sha
end Go.Proofs.YtenaelkbgkpllaaGreatDoor
/- The fast reckoning, block by block. -/
namespace Go.Proofs.YtenaelkbgkpllaaGreatDoor
namespace Sha
/-- is this the table of a block? -/
def table (l : List UInt8) (ws : List Nat) : Bool :=
  and (Nat.beq ws.length 64) (and ((List.range 16).all fun t => Nat.beq (ws.getD t 0) (word l (4 * t))) ((List.range 48).all fun n => Nat.beq (ws.getD (n + 16) 0) (nextW ws n)))
theorem getD_take {ws : List Nat} {n i : Nat} (h : i < n) : (ws.take n).getD i 0 = ws.getD i 0 := by
  simp [List.getD_eq_getElem?_getD, h]
theorem table_spread (l : List UInt8) (ws : List Nat) (h : table l ws = true) : spreadTo l 48 = ws := by
  simp only [table, Bool.and_eq_true, List.all_eq_true, Nat.beq_eq, List.mem_range] at h
  obtain ⟨h64, h1, h2⟩ := h
  have hf : ∀ n, n ≤ 16 → first l n = ws.take n := by
    intro n
    induction n with
    | zero => intro _; simp [first]
    | succ n ih =>
      intro hn
      rw [first, ih (by omega), List.take_succ_eq_append_getElem (by omega), ← h1 n (by omega)]
      simp only [List.getD_eq_getElem?_getD, List.getElem?_eq_getElem (show n < ws.length by omega), Option.getD_some]
  have hs : ∀ n, n ≤ 48 → spreadTo l n = ws.take (16 + n) := by
    intro n
    induction n with
    | zero => intro _; exact hf 16 (by omega)
    | succ n ih =>
      intro hn
      have e : nextW (ws.take (16 + n)) n = nextW ws n := by
        simp only [nextW, getD_take (show n + 14 < 16 + n by omega), getD_take (show n + 9 < 16 + n by omega), getD_take (show n + 1 < 16 + n by omega), getD_take (show n < 16 + n by omega)]
      rw [spreadTo, ih (by omega), e, ← h2 n (by omega), show 16 + (n + 1) = (16 + n) + 1 by omega, List.take_succ_eq_append_getElem (by omega)]
      rw [show n + 16 = 16 + n by omega]
      simp only [List.getD_eq_getElem?_getD, List.getElem?_eq_getElem (show 16 + n < ws.length by omega), Option.getD_some]
  rw [hs 48 (by omega), List.take_of_length_le (by omega)]
theorem go1_stir (l : List UInt8) (ws kws : List Nat) (q : Nat → Nat → Nat → Nat → Nat → Nat → Nat → Nat → Bool) (s : St) (hs : Ok s) (ht : table l ws = true) (hk : (Ks.zip ws).map plus = kws) :
    go1 kws q s.a s.b s.c s.d s.e s.f s.g s.h = q (stir s l).a (stir s l).b (stir s l).c (stir s l).d (stir s l).e (stir s l).f (stir s l).g (stir s l).h := by
  have e := table_spread l ws ht
  have h64 : ws.length = 64 := by rw [← e, spreadTo_length]
  have hr : rounds ws 64 s = roundsP (Ks.zip ws) s := by
    have := rounds_take ws s h64 64 (by omega)
    rwa [List.take_of_length_le (by rw [List.length_zip, h64]; exact Nat.min_le_right _ _)] at this
  subst hk
  unfold go1
  rw [go_all _ _ s hs]
  simp only [force_eq, mod_add]
  unfold stir
  rw [e, hr]
  unfold add
  dsimp only
def iter {α : Type} (f : α → α) : Nat → α → α
  | 0, s => s
  | n + 1, s => iter f n (f s)
theorem iter_zero {α : Type} (f : α → α) (s : α) : iter f 0 s = s := rfl
theorem iter_succ {α : Type} (f : α → α) (n : Nat) (s : α) : iter f (n + 1) s = iter f n (f s) := rfl
/-- n times the same block -/
def stirs (l : List UInt8) (n : Nat) (s : St) : St := iter (fun s => stir s l) n s
theorem stirs_zero (l : List UInt8) (s : St) : stirs l 0 s = s := by unfold stirs; rw [iter_zero]
theorem stirs_succ (l : List UInt8) (n : Nat) (s : St) : stirs l (n + 1) s = stirs l n (stir s l) := by unfold stirs; rw [iter_succ]
theorem goN_zero (kws : List Nat) (q : Nat → Nat → Nat → Nat → Nat → Nat → Nat → Nat → Bool) : goN kws q 0 = q := rfl
theorem goN_succ (kws : List Nat) (q : Nat → Nat → Nat → Nat → Nat → Nat → Nat → Nat → Bool) (n : Nat) : goN kws q (n + 1) = go1 kws (goN kws q n) := rfl
theorem goN_stirs (l : List UInt8) (ws kws : List Nat) (q : Nat → Nat → Nat → Nat → Nat → Nat → Nat → Nat → Bool) (ht : table l ws = true) (hk : (Ks.zip ws).map plus = kws) : ∀ (n : Nat) (s : St), Ok s →
    goN kws q n s.a s.b s.c s.d s.e s.f s.g s.h = q (stirs l n s).a (stirs l n s).b (stirs l n s).c (stirs l n s).d (stirs l n s).e (stirs l n s).f (stirs l n s).g (stirs l n s).h
  | 0, s, _ => by rw [goN_zero, stirs_zero]
  | n + 1, s, hs => by
    rw [goN_succ, go1_stir l ws kws _ s hs ht hk, goN_stirs l ws kws q ht hk n _ stir_ok, stirs_succ]
theorem isSt_eq {A B C D E F G H : Nat} {s : St} (h : isSt A B C D E F G H s.a s.b s.c s.d s.e s.f s.g s.h = true) : s = ⟨A, B, C, D, E, F, G, H⟩ := by
  simp only [isSt, Bool.and_eq_true, Nat.beq_eq] at h
  obtain ⟨h1, h2, h3, h4, h5, h6, h7, h8⟩ := h
  cases s
  simp only at h1 h2 h3 h4 h5 h6 h7 h8
  subst h1 h2 h3 h4 h5 h6 h7 h8
  rfl
theorem stirs_of (l : List UInt8) (ws kws : List Nat) (n : Nat) (a b c d e f g h A B C D E F G H : Nat) (ht : table l ws = true) (hk : (Ks.zip ws).map plus = kws) (hs : Ok ⟨a, b, c, d, e, f, g, h⟩)
    (hg : goN kws (isSt A B C D E F G H) n a b c d e f g h = true) : stirs l n ⟨a, b, c, d, e, f, g, h⟩ = ⟨A, B, C, D, E, F, G, H⟩ := by
  have := goN_stirs l ws kws (isSt A B C D E F G H) ht hk n ⟨a, b, c, d, e, f, g, h⟩ hs
  exact isSt_eq (this.symm.trans hg)
theorem stirs_add (l : List UInt8) : ∀ (n m : Nat) (s : St), stirs l (n + m) s = stirs l m (stirs l n s)
  | 0, m, s => by rw [Nat.zero_add, stirs_zero]
  | n + 1, m, s => by rw [show n + 1 + m = (n + m) + 1 by omega, stirs_succ, stirs_succ, stirs_add l n m (stir s l)]
end Sha
end Go.Proofs.YtenaelkbgkpllaaGreatDoor
/- The digest of abc, by the kernel's own reckoning. -/
namespace Go.Proofs.YtenaelkbgkpllaaGreatDoor
namespace Abc
open Sha
theorem one_of (l : List UInt8) (ws kws : List Nat) (a b c d e f g h A B C D E F G H : Nat) (ht : table l ws = true) (hk : (Ks.zip ws).map plus = kws) (hs : Ok ⟨a, b, c, d, e, f, g, h⟩)
    (hg : goN kws (isSt A B C D E F G H) 1 a b c d e f g h = true) : stir ⟨a, b, c, d, e, f, g, h⟩ l = ⟨A, B, C, D, E, F, G, H⟩ := by
  have := stirs_of l ws kws 1 a b c d e f g h A B C D E F G H ht hk hs hg
  rwa [stirs_succ, stirs_zero] at this
theorem stirN_succ (l : List UInt8) (n : Nat) (s : St) : stirN l (n + 1) s = stir (stirN l n s) ((l.drop (64 * n)).take 64) := by rw [stirN]
theorem stirN_zero (l : List UInt8) (s : St) : stirN l 0 s = s := by rw [stirN]
theorem stirN_one (l : List UInt8) (s : St) (h : l.length = 64) : stirN l 1 s = stir s l := by
  rw [stirN_succ, stirN_zero, Nat.mul_zero, List.drop_zero, List.take_of_length_le (by omega)]
def blockB : List UInt8 := [97, 98, 99, 128, 0, 0, 0, 0, 0, 0, 0, 0, 0, 0, 0, 0, 0, 0, 0, 0, 0, 0, 0, 0, 0, 0, 0, 0, 0, 0, 0, 0, 0, 0, 0, 0, 0, 0, 0, 0, 0, 0, 0, 0, 0, 0, 0, 0, 0, 0, 0, 0, 0, 0, 0, 0, 0, 0, 0, 0, 0, 0, 0, 24]
def wsB : List Nat := [1633837952, 0, 0, 0, 0, 0, 0, 0, 0, 0, 0, 0, 0, 0, 0, 24, 1633837952, 983040, 2108187653, 1610613702, 1050508152, 25426944, 316456923, 3806512014, 3357629466, 3073800610, 3854317833, 845560923, 2636160359, 3968280267, 1881225380, 3552024379, 2482346367, 996719219, 2952069057, 4043988066, 176896406, 1924104970, 2483675966, 610538786, 2672279444, 4037431130, 1042573945, 657669027, 206005234, 2215296807, 2049510749, 106709978, 4215179723, 3430291419, 3118885940, 2845390439, 2226839261, 3256115900, 344409900, 2987358873, 4015503821, 3957764664, 2682456414, 2025622859, 2755645205, 1720397816, 4004225740, 313650667]
def kwsB : List Nat := [2750190360, 1899447441, 3049323471, 3921009573, 961987163, 1508970993, 2453635748, 2870763221, 3624381080, 310598401, 607225278, 1426881987, 1925078388, 2162078206, 2614888103, 3248222604, 1174261057, 4023207814, 2372534731, 2215421330, 1820764135, 1274577066, 1871538615, 1507609704, 1616883052, 1600667663, 2512347345, 4055874594, 1677764954, 3257841682, 1995152373, 3890266274, 3148653572, 1770249131, 4246826429, 1145203061, 1872080106, 3910766021, 365735020, 3067494823, 1107798069, 2562766245, 7337449, 4003433798, 3722071051, 1520682315, 1849115362, 382133322, 350440161, 3937240035, 3777946496, 3729388316, 3184978832, 283970822, 1881411963, 440265356, 1676098747, 1686902183, 615219570, 92507987, 889114383, 182164707, 2913289923, 3642975965]
theorem stirB : stir ⟨1779033703, 3144134277, 1013904242, 2773480762, 1359893119, 2600822924, 528734635, 1541459225⟩ blockB = ⟨3128432319, 2399260650, 1094795486, 1571693091, 2953011619, 2518121116, 3021012833, 4060091821⟩ :=
  one_of blockB wsB kwsB 1779033703 3144134277 1013904242 2773480762 1359893119 2600822924 528734635 1541459225 3128432319 2399260650 1094795486 1571693091 2953011619 2518121116 3021012833 4060091821 (by kernel_rfl) (by kernel_rfl) (by unfold Ok; decide) (by kernel_rfl)
theorem sha_abc : sha [97, 98, 99] = join ⟨3128432319, 2399260650, 1094795486, 1571693091, 2953011619, 2518121116, 3021012833, 4060091821⟩ := by
  have e : last [97, 98, 99] = blockB := by kernel_rfl
  unfold sha state
  rw [e]
  show Sha.join (stirN blockB 1 (stirN [] 0 Sha.start)) = _
  rw [stirN_zero, stirN_one _ _ (by kernel_rfl)]
  exact congrArg join stirB
theorem at_abc : (sha [97, 98, 99])[0]? = some 186 ∧ (sha [97, 98, 99])[1]? = some 120 ∧ (sha [97, 98, 99])[31]? = some 173 := by
  rw [sha_abc]
  exact ⟨by kernel_rfl, by kernel_rfl, by kernel_rfl⟩
end Abc
end Go.Proofs.YtenaelkbgkpllaaGreatDoor
/- The statements' own parts: raw numbers, taken one by one. -/
namespace Go.Proofs.YtenaelkbgkpllaaGreatDoor
open Go.RowKit

/-- which of n things a raw number speaks of -/
def pickN (c n : Int) : Int := (if c < 0 then -(c + 1) else c) % n
theorem pickN_range (c n : Int) (h : 0 < n) : 0 ≤ pickN c n ∧ pickN c n < n := ⟨Int.emod_nonneg _ (by omega), Int.emod_lt_of_pos _ h⟩
set_option maxHeartbeats 400000 in
theorem pick_any2 (c n : Int) (w : World) (h0 : -9223372036854775808 ≤ c) (h1 : c ≤ 9223372036854775807) (hn : 0 < n) (hn1 : n ≤ 9223372036854775807) :
    Calls Tryz.prog 13 #[I c, I n] w fun e w' => e = .returned (I (pickN c n)) ∧ w' = w := by
  have hnz : ¬ n = 0 := by omega
  have hr := pickN_range c n hn
  by_cases hc : c < 0
  · have e := hide (show pickN c n = -((c + 1).tmod n) by rw [pickN, if_pos hc, ← Int.neg_tmod, Int.tmod_eq_emod_of_nonneg (by omega)])
    rw [e.out] at hr
    go_enter Tryz.func13, Tryz.ntmps13
    go_wp2
    go_ret
    exact ⟨by rw [e.out]; rfl, rfl⟩
  · have e := hide (show pickN c n = c % n by rw [pickN, if_neg hc])
    rw [e.out] at hr
    go_enter Tryz.func13, Tryz.ntmps13
    go_wp2
    go_ret
    exact ⟨by rw [e.out]; rfl, rfl⟩
/-- raw numbers in a slice; all of it lies below block B -/
structure Raw (w : World) (B d : Nat) (a : Option Addr) (code : List Int) : Prop where
  low : d < B
  len : code.length ≤ 140737488355328
  fits : ∀ x ∈ code, -9223372036854775808 ≤ x ∧ x ≤ 9223372036854775807
  lies : code ≠ [] → ∃ g o, a = some ⟨g, o, none⟩ ∧ g < B ∧ g ≠ d ∧ ∀ i (h : i < code.length), w.cell? ⟨g, o + i, none⟩ = some (I code[i])
/-- the dice: raw numbers, and how many are used up -/
def Dice (w : World) (B d : Nat) (code : List Int) (k : Nat) : Prop := ∃ a c, w.heap[d]? = some (.cells #[.slice a code.length c, I k] 32 (0, 0)) ∧ k ≤ code.length ∧ Raw w B d a code
theorem Dice.lt {w : World} {B d k : Nat} {code : List Int} (h : Dice w B d code k) : d < w.heap.size := by
  obtain ⟨a, c, h, -⟩ := h
  exact (Array.getElem?_eq_some_iff.1 h).1
theorem Dice.low {w : World} {B d k : Nat} {code : List Int} (h : Dice w B d code k) : d < B := by
  obtain ⟨a, c, _, _, h⟩ := h
  exact h.low
theorem row2 {w : World} {g t : Nat} {a b : Value} (h : w.heap[g]? = some (.cells #[a, b] t (0, 0))) : w.cell? ⟨g, 0, none⟩ = some a ∧ w.cell? ⟨g, 1, none⟩ = some b := by
  refine ⟨?_, ?_⟩ <;> rw [cell_of_row _ _ _ _ _ _ h] <;> rfl
theorem Dice.keeps {S : Nat → Prop} {w w' : World} {B d k : Nat} {code : List Int} (h : Dice w B d code k) (hk : Keeps S w w') (hn : ∀ j, j < B → ¬ S j) : Dice w' B d code k := by
  have hl := h.lt
  have hw := h.low
  obtain ⟨a, c, h1, h2, h3⟩ := h
  refine ⟨a, c, (hk.block d hl (hn d hw)).trans h1, h2, h3.low, h3.len, h3.fits, fun hne => ?_⟩
  obtain ⟨g, o, rfl, hgB, hg, hc⟩ := h3.lies hne
  exact ⟨g, o, rfl, hgB, hg, fun i hi => (World.cell?_of_block (w := w) (hk.block g (block_lt_of_cell (hc i hi)) (hn g hgB))).trans (hc i hi)⟩
theorem Dice.step {w : World} {B d k n : Nat} {code : List Int} (h : Dice w B d code k) (hk : k < code.length) : Dice ((w.drewN n).setCell ⟨d, 1, none⟩ (I ((k : Int) + 1))) B d code (k + 1) := by
  obtain ⟨a, c, h1, h2, h3⟩ := h
  refine ⟨a, c, ?_, hk, h3.low, h3.len, h3.fits, fun hne => ?_⟩
  · rw [heap_setCell_same _ d 1 _ _ _ (show (w.drewN n).heap[d]? = _ from h1)]
    rfl
  · obtain ⟨g, o, e, hgB, hgd, hc⟩ := h3.lies hne
    refine ⟨g, o, e, hgB, hgd, fun i hi => ?_⟩
    rw [World.cell?_setCell_other _ _ _ _ (fun e => by injection e with e1 _ _; exact hgd e1.symm)]
    exact hc i hi

set_option maxHeartbeats 1000000 in
theorem next_any (B d : Nat) (code : List Int) (k : Nat) (n : Int) (w : World) (hd : Dice w B d code k) (hn : 0 < n) (hn1 : n ≤ 1000) :
    Calls Tryz.prog 25 #[.pointer (some ⟨d, 0, none⟩), I n] w fun e w' => ∃ r k', e = .returned (I r) ∧ 0 ≤ r ∧ r < n ∧ Dice w' B d code k' ∧ Keeps (fun j => j = d) w w' := by
  have HD := hide hd
  obtain ⟨a, c, hrow, hk, hraw⟩ := hd
  have hlen := hraw.len
  obtain ⟨c0, c1⟩ := row2 hrow
  have hf := fun j => frozen_of_row _ _ j _ _ hrow
  have HR := hide hraw
  have HW := hide hrow
  clear hraw hrow
  by_cases hlt : k < code.length
  · obtain ⟨g, o, rfl, hgB, hgd, hcells⟩ := HR.out.lies (fun e => by subst e; simp at hlt)
    have hx := hcells k hlt
    have hfit := HR.out.fits _ (List.getElem_mem hlt)
    generalize code[k] = x at *
    have hr := pickN_range x n hn
    clear hcells
    go_enter Tryz.func25, Tryz.ntmps25
    go_wp2_with fail
    go_quiet (fail)
    go_wp2_with fail
    generalize hW : World.drewN _ _ = w1
    have e0 : w1.cell? ⟨d, 0, none⟩ = some (.slice (some ⟨g, o, none⟩) code.length c) := by rw [← hW]; exact c0
    have e1 : w1.cell? ⟨d, 1, none⟩ = some (I k) := by rw [← hW]; exact c1
    have ex : w1.cell? ⟨g, o + k, none⟩ = some (I x) := by rw [← hW]; exact hx
    have ef : ∀ j, w1.frozen? ⟨d, j, none⟩ = false := fun j => by rw [← hW]; exact hf j
    have hb1 : Below w.heap.size w w1 := by rw [← hW]; exact ⟨rfl, rfl, rfl, Nat.le_refl _, fun _ _ => rfl⟩
    have HD1 := hide (HD.out.keeps (S := fun _ => False) (Keeps.of_below hb1) (fun _ _ h => h))
    have HB1 := hide hb1
    clear hW c0 c1 hx hf hb1 HW HR HD
    go_quiet ((go_at_call 13; exact Calls.quiet_of_same (pick_any2 x n _ hfit.1 hfit.2 hn (by omega))))
    go_wp2
    go_ret
    exact ⟨pickN x n, k + 1, rfl, hr.1, hr.2, HD1.out.step hlt, (Keeps.of_below HB1.out).trans (S' := fun j => j = d) ⟨rfl, rfl, rfl, by simp, fun j _ hj => heap_setCell_other _ ⟨d, 1, none⟩ j _ hj⟩ (fun _ _ h => h)⟩
  · go_enter Tryz.func25, Tryz.ntmps25
    go_wp2_with fail
    go_quiet (fail)
    go_wp2
    go_ret
    exact ⟨0, k, rfl, by omega, hn, ⟨a, c, HW.out, hk, HR.out.low, HR.out.len, HR.out.fits, HR.out.lies⟩, ⟨rfl, rfl, rfl, Nat.le_refl _, fun j _ _ => rfl⟩⟩
end Go.Proofs.YtenaelkbgkpllaaGreatDoor
/- Two lists of 32 bytes that are one are equal to the program. -/
namespace Go.Proofs.YtenaelkbgkpllaaGreatDoor
open Go.RowKit

theorem part5 (A : Array Value) (i : Nat) (v : Value) (h : A[i]? = some v) (w : World) : (part 5 A i).run Tryz.prog w = .ok v w := by
  simp [part, Sem.run_bind, h]
theorem eqItems_same (A : Array Value) (w : World) (hA : ∀ i, i < 32 → ∃ n : Int, A[i]? = some (.int .u8 n)) : ∀ is : List Nat, (∀ j ∈ is, j < 32) → (Op.eqItems 9999 5 1 A A is).run Tryz.prog w = .ok true w
  | [], _ => by simp [Op.eqItems]
  | j :: is, h => by
    obtain ⟨n, hn⟩ := hA j (h j (by simp))
    have ih := eqItems_same A w hA is (fun k hk => h k (by simp [hk]))
    have e : (Op.equalIn 9999 5 (.int .u8 n) (.int .u8 n)).run Tryz.prog w = .ok (n == n) w := run_equalIn_int w 9998 5 .u8 .u8 n n Tryz.underlying5
    simp [Op.eqItems, Sem.run_bind, Nat.mul_one, part5 A j _ hn, e, ih]
theorem Tryz.cells5 : Tryz.prog.cellsOf 5 = 1 := by kernel_rfl
theorem eql_same (A : Array Value) (w : World) (hA : ∀ i, i < 32 → ∃ n : Int, A[i]? = some (.int .u8 n)) :
    (Op.equalIn 10000 39 (.agg A) (.agg A)).run Tryz.prog w = .ok true w := by
  obtain ⟨i0, hi, -⟩ := info_parts Tryz.info5
  rw [run_equalIn_array w 9999 A A Tryz.under22 hi, Tryz.cells5]
  exact eqItems_same A w hA _ (fun j hj => List.mem_range.1 hj)
theorem binEql_same (A : Array Value) (w : World) (hA : ∀ i, i < 32 → ∃ n : Int, A[i]? = some (.int .u8 n)) :
    (binOp .eql 39 (.agg A) (.agg A)).run Tryz.prog w = .ok (.bool true) w := by
  rw [run_eql_struct, eql_same A w hA]; rfl
theorem bytes_at (l : List UInt8) (hl : l.length = 32) (i : Nat) (hi : i < 32) : ∃ n : Int, (l.map Y).toArray[i]? = some (.int .u8 n) :=
  ⟨(l[i]'(by omega)).toNat, by rw [List.getElem?_toArray, List.getElem?_map, List.getElem?_eq_getElem (by omega)]; rfl⟩
end Go.Proofs.YtenaelkbgkpllaaGreatDoor
/- A digest as values. -/
namespace Go.Proofs.YtenaelkbgkpllaaGreatDoor
open Go.RowKit

/-- of a text's digest as values: the byte at a place -/
theorem val_at {l : List UInt8} {i : Nat} {b : UInt8} (h : l[i]? = some b) : (l.map Y).toArray[i]? = some (Y b) := by
  rw [List.getElem?_toArray, List.getElem?_map, h]; rfl
theorem vals_one (l : List UInt8) : (l.map Y).toArray.all (·.oneCell') = true := by
  rw [List.all_toArray, List.all_eq_true]
  intro v hv
  obtain ⟨n, _, rfl⟩ := List.mem_map.1 hv
  rfl
/-- a block of 32 cells, laid and filled -/
structure Dig (L : List Value) : Prop where
  len : L.length = 32
  one : L.toArray.all (·.oneCell') = true
  eql : ∀ i, i < 32 → ∃ n : Int, L.toArray[i]? = some (.int .u8 n)
theorem dig_of (l : List UInt8) : Dig ((Sha.sha l).map Y) :=
  ⟨rfl, vals_one _, fun i hi => bytes_at _ rfl i hi⟩
theorem Dig.info {L : List Value} (h : Dig L) : (Tryz.prog.info? 39).map (·.size) = some L.toArray.size := by rw [List.size_toArray, h.len]; exact Tryz.info22
theorem Dig.size {L : List Value} (h : Dig L) : L.toArray.size = 32 := by rw [List.size_toArray, h.len]
theorem dig_abc (L : List Value) (w : World) (hK : KT w) (hL : (Sha.sha [97, 98, 99]).map Y = L) :
    Calls Tryz.prog 30 #[.string ⟨#[97, 98, 99]⟩] w fun e w' => e = .returned (.agg L.toArray) ∧ Below w.heap.size w w' := by
  have hd : (⟨#[97, 98, 99]⟩ : ByteArray).data.toList = [97, 98, 99] := rfl
  exact digest_any ⟨#[97, 98, 99]⟩ L w (by decide) hK (by rw [hd]; exact hL)
end Go.Proofs.YtenaelkbgkpllaaGreatDoor
/- A map begun with points out of raw numbers. -/
namespace Go.Proofs.YtenaelkbgkpllaaGreatDoor
open Go.RowKit

/-- a map and a list, made anew beside the dice -/
structure Held (B : Nat) (w w' : World) (d : Nat) (code : List Int) (k m : Nat) (v : Value) (L : List Ward.Pt) (vl : Value) (l : List Ward.Pt) : Prop where
  map : IsMap w' m v L
  good : Good L
  list : Own w' w.heap.size vl l
  dice : Dice w' B d code k
  newm : w.heap.size ≤ m
  newv : ∀ g, v.ownBlock = some g → w.heap.size ≤ g
  apart : ∀ g, vl.ownBlock = some g → ¬ Mine m v g
  keeps : Keeps (fun j => j = d) w w'
theorem Dice.below {w w' : World} {B d k : Nat} {code : List Int} (h : Dice w B d code k) (hb : Below w.heap.size w w') : Dice w' B d code k := h.keeps (S := fun _ => False) (Keeps.of_below hb) (fun _ _ h => h)
theorem Own.below {w w' : World} {B : Nat} {v : Value} {L : List Ward.Pt} (h : Own w B v L) (hb : Below w.heap.size w w') : Own w' B v L := h.keeps (S := fun _ => False) (Keeps.of_below hb) (fun _ _ h => h)
theorem Own.ge {w : World} {B g : Nat} {v : Value} {L : List Ward.Pt} (h : Own w B v L) (hg : v.ownBlock = some g) : B ≤ g := (World.ownsRow.lt h g hg).1
section
variable {B : Nat} {w w' w'' : World} {d k k' m : Nat} {code : List Int} {v v' vl vl' : Value} {L L' l l' : List Ward.Pt}
theorem Held.below (h : Held B w w' d code k m v L vl l) (hb : Below w'.heap.size w' w'') : Held B w w'' d code k m v L vl l :=
  ⟨h.map.below hb, h.good, h.list.below hb, h.dice.below hb, h.newm, h.newv, h.apart, h.keeps.trans (Keeps.of_below (S := fun _ => False) hb) (fun _ _ h => h.elim)⟩
theorem Held.next (h : Held B w w' d code k m v L vl l) (hd : d < w.heap.size) (hD : Dice w'' B d code k') (hk : Keeps (fun j => j = d) w' w'') : Held B w w'' d code k' m v L vl l := by
  have h1 := h.newm
  refine ⟨h.map.keeps hk (fun j hj e => ?_), h.good, h.list.keeps hk (fun g hg e => ?_), hD, h.newm, h.newv, h.apart, h.keeps.trans hk (fun _ _ h => h)⟩
  · rcases hj with rfl | hj
    · omega
    · have := h.newv j hj.symm; omega
  · have := h.list.ge hg; omega
theorem Held.insert (h : Held B w w' d code k m v L vl l) (hB : B ≤ w.heap.size) (hm : IsMap w'' m v' L') (hG : Good L') (hf : Fresh w' v v') (hk : Keeps (Mine m v) w' w'') : Held B w w'' d code k m v' L' vl l := by
  have h1 := h.newm
  have h2 := h.keeps.size
  refine ⟨hm, hG, h.list.keeps hk h.apart, h.dice.keeps hk (fun j hj e => ?_), h.newm, fun g hg => ?_, fun g hg e => ?_, h.keeps.trans hk (fun j hj e => ?_)⟩
  · rcases e with rfl | e
    · omega
    · have := h.newv j e.symm; omega
  · rcases hf with hf | ⟨g', hf, hg'⟩
    · exact h.newv g (by rw [← hf]; exact hg)
    · rw [hg] at hf; injection hf with hf; omega
  · rcases e with rfl | e
    · exact h.apart g hg (.inl rfl)
    · rcases hf with hf | ⟨g', hf, hg'⟩
      · exact h.apart g hg (.inr (by rw [← hf]; exact e))
      · rw [← e] at hf
        injection hf with hf
        have := h.list.lt hg
        omega
  · rcases e with rfl | e
    · omega
    · have := h.newv j e.symm; omega
theorem Held.append (h : Held B w w' d code k m v L vl l) (hB : B ≤ w.heap.size) (ho : Own w'' w.heap.size vl' l') (hg : w'.grownBy w'' vl.ownBlock) (hf : Fresh w' vl vl') : Held B w w'' d code k m v L vl' l' := by
  have hk := Keeps.of_grown hg
  refine ⟨h.map.keeps hk (fun j hj e => h.apart j e.symm hj), h.good, ho, h.dice.keeps hk (fun j hj e => ?_), h.newm, h.newv, fun g hg' e => ?_, h.keeps.trans hk (fun j hj e => ?_)⟩
  · have := h.list.ge e.symm; omega
  · rcases hf with hf | ⟨g', hf, hg''⟩
    · exact h.apart g (by rw [← hf]; exact hg') e
    · rw [hg'] at hf
      injection hf with hf
      have hlt : g < w'.heap.size := by
        rcases e with rfl | e
        · exact h.map.lt
        · exact h.map.own.lt e.symm
      omega
  · have := h.list.ge e.symm; omega
end
theorem KT.keeps {S : Nat → Prop} {w w' : World} (h : KT w) (hk : Keeps S w w') (hn : ¬ S 1) : KT w' := fun i hi => (World.cell?_of_block (w := w) (hk.block _ h.lt hn)).trans (h i hi)
/-- points out of small numbers -/
def Near (l : List Ward.Pt) : Prop := ∀ p ∈ l, (1 ≤ p.id ∧ p.id ≤ 60) ∧ (-6 ≤ p.x ∧ p.x ≤ 6) ∧ (-6 ≤ p.y ∧ p.y ≤ 6)
/-- what Insert says to a point out of small numbers -/
theorem near_code {L l : List Ward.Pt} {p : Ward.Pt} (hp : (1 ≤ p.id ∧ p.id ≤ 60) ∧ (-6 ≤ p.x ∧ p.x ≤ 6) ∧ (-6 ≤ p.y ∧ p.y ≤ 6)) (hperm : L.Perm l) (hl : l.length < 150) : insCode L p = if ∃ q ∈ l, q.id = p.id then 3 else 0 := by
  have hll : L.length = l.length := hperm.length_eq
  unfold insCode
  rw [if_neg (by omega), if_neg (by omega)]
  by_cases h : ∃ q ∈ l, q.id = p.id
  · obtain ⟨q, hq, e⟩ := h
    rw [if_pos ⟨q, hperm.mem_iff.2 hq, e⟩, if_pos ⟨q, hq, e⟩]
  · rw [if_neg (fun ⟨q, hq, e⟩ => h ⟨q, hperm.mem_iff.1 hq, e⟩), if_neg (by omega), if_neg h]
theorem Keeps.alloc {S : Nat → Prop} {a b : World} (h : Keeps S a b) (o : Obj) : Keeps S a (b.alloc o) :=
  h.trans (S' := fun _ => False) (Keeps.of_below ((Below.refl b.heap.size b).alloc (Nat.le_refl _) o)) (fun _ _ h => h.elim)

set_option maxRecDepth 100000 in
set_option maxHeartbeats 2000000 in
theorem began_any (B d : Nat) (code : List Int) (k : Nat) (w : World) (hBw : B ≤ w.heap.size) (hd : Dice w B d code k) (hK : KT w) :
    Calls Tryz.prog 12 #[.pointer (some ⟨d, 0, none⟩)] w fun e w' => ∃ k' m v L vl l, e = .returned (.tuple #[.pointer (some ⟨m, 0, none⟩), vl]) ∧ Held B w w' d code k' m v L vl l ∧ L.Perm l ∧ Near l ∧ l.length ≤ 39 := by
  have HD := hide hd
  have HK := hide hK
  clear hd hK
  obtain ⟨LB, hLB⟩ : ∃ L, (Sha.sha [97, 98, 99]).map Y = L := ⟨_, rfl⟩
  have dB : Dig LB := hLB ▸ dig_of _
  have HB := hide hLB
  clear hLB
  go_enter Tryz.func12, Tryz.ntmps12
  go_wp2_with fail
  refine (new_any _).mono ?_
  rintro e w1 ⟨rfl, hm1, hz1, hb1⟩
  go_wp2_with fail
  refine (insert_id w.heap.size _ [] ⟨0, 0, 0⟩ w1 hm1 (by simp)).mono ?_
  rintro e w2 ⟨rfl, v2, hm2, hf2, hk2⟩
  have hK2 : KT w2 := (HK.out.below hb1).keeps hk2 (fun h => h.elim (fun e => absurd HK.out.lt (by omega)) (fun e => by simp [Value.ownBlock] at e))
  go_wp2_with fail
  refine (dig_abc LB _ hK2 HB.out).mono ?_
  rintro e w3 ⟨rfl, hb3⟩
  obtain ⟨b0, b1, b31⟩ := Abc.at_abc
  have v0 : (w3.alloc (.cells LB.toArray 39)).cell? ⟨w3.heap.size, 0, none⟩ = some (.int .u8 186) := by
    rw [cell_of_row _ _ _ _ _ _ (heap_alloc_new w3 _), ← HB.out]; exact val_at b0
  have v1 : (w3.alloc (.cells LB.toArray 39)).cell? ⟨w3.heap.size, 1, none⟩ = some (.int .u8 120) := by
    rw [cell_of_row _ _ _ _ _ _ (heap_alloc_new w3 _), ← HB.out]; exact val_at b1
  have v31 : (w3.alloc (.cells LB.toArray 39)).cell? ⟨w3.heap.size, 31, none⟩ = some (.int .u8 173) := by
    rw [cell_of_row _ _ _ _ _ _ (heap_alloc_new w3 _), ← HB.out]; exact val_at b31
  have hdl := HD.out.lt
  have hbn : ∀ o, Held B w (w3.alloc o) d code k w.heap.size v2 [] (.slice none 0 0) [] := fun o => by
    have hb3' := hb3.alloc hb3.size o
    have k0 : Keeps (fun j => j = d) w w1 := Keeps.of_below hb1
    have k2 : Keeps (fun j => j = d) w w2 := k0.trans hk2 (fun j hj h => by rcases h with rfl | h; (· omega); (· simp [Value.ownBlock] at h))
    have hD2 : Dice w2 B d code k := (HD.out.below hb1).keeps hk2 (fun j hj h => by rcases h with e | h; (· omega); (· simp [Value.ownBlock] at h))
    exact ⟨hm2.below hb3', good_nil, World.ownsRow_nil _ _ _ _, hD2.below hb3', Nat.le_refl _, fun g hg => by
      rcases hf2 with h | ⟨g', h, hg'⟩
      · rw [hg] at h; simp [Value.ownBlock] at h
      · rw [hg] at h; injection h with h; omega, fun g hg => by simp [Value.ownBlock] at hg, k2.trans (S' := fun _ => False) (Keeps.of_below hb3') (fun _ _ h => h.elim)⟩
  have HBN := hide hbn
  clear hbn b0 b1 b31
  go_wp2_with (refine wpList_store_row rfl 39 (.tmp 6) (.tmp 19) rfl w3.heap.size LB.toArray rfl rfl 39 _ (heap_alloc_new w3 _) dB.info (by rw [dB.size]; rfl) dB.one ?_; rw [World.setRow_alloc_new])
  refine (next_any B d code k 40 _ (HBN.out _).dice (by decide) (by decide)).mono ?_
  rintro e w4 ⟨r, k4, rfl, hr0, hr1, hD4, hk4⟩
  have hB4 := (HBN.out _).next hdl hD4 hk4
  have HB4 := hide hB4
  obtain ⟨r4, rfl⟩ : ∃ r4 : Nat, r = (r4 : Int) := ⟨r.toNat, by omega⟩
  clear hB4 hD4 hk4 HBN v0 v1 v31 hb3 hK2 hk2 hf2 hm2 hb1 hz1 hm1
  go_wp2_with fail
  go_loopw [7, 8] (fun vl vn wq => ∃ (n : Nat) (l L : List Ward.Pt) (v : Value) (k' : Nat), vn = I n ∧ n + l.length ≤ 39 ∧ Held B w wq d code k' w.heap.size v L vl l ∧ L.Perm l ∧ Near l) (fun _ vn _ => (intOf vn).toNat)
  case atStart => exact ⟨r4, [], [], v2, k4, rfl, by simp; omega, HB4.out, List.Perm.refl _, fun p hp => by simp at hp⟩
  case round =>
    clear HB4
    obtain ⟨n, l, L, v, k', rfl, hnl, hB, hperm, hnear⟩ := hrel
    have HBG := hide hB
    have HP := hide hperm
    have HN := hide hnear
    clear hB hperm hnear
    by_cases hn : 0 < n
    · go_wp2_with fail
      refine (next_any B d code k' 60 _ HBG.out.dice (by decide) (by decide)).mono ?_
      rintro e wa ⟨ra, ka, rfl, ha0, ha1, hDa, hka⟩
      have HBA := hide (HBG.out.next hdl hDa hka)
      clear hDa hka
      go_wp2_with fail
      refine (next_any B d code ka 13 _ HBA.out.dice (by decide) (by decide)).mono ?_
      rintro e wb ⟨rb, kb, rfl, hb0, hb1, hDb, hkb⟩
      have HBB := hide (HBA.out.next hdl hDb hkb)
      clear hDb hkb
      go_wp2_with fail
      refine (next_any B d code kb 13 _ HBB.out.dice (by decide) (by decide)).mono ?_
      rintro e wc ⟨rc, kc, rfl, hc0, hc1, hDc, hkc⟩
      have HBC := hide (HBB.out.next hdl hDc hkc)
      clear hDc hkc HBA HBB HBG
      go_wp2_with fail
      obtain ⟨p, hp⟩ : ∃ p : Ward.Pt, p = ⟨1 + ra, rb - 6, rc - 6⟩ := ⟨_, rfl⟩
      have hpn : (1 ≤ p.id ∧ p.id ≤ 60) ∧ (-6 ≤ p.x ∧ p.x ≤ 6) ∧ (-6 ≤ p.y ∧ p.y ≤ 6) := by rw [hp]; simp only; omega
      have e1 : 1 + ra = p.id := by rw [hp]
      have e2 : rb - 6 = p.x := by rw [hp]
      have e3 : rc - 6 = p.y := by rw [hp]
      rw [e1, e2, e3]
      clear e1 e2 e3 hp ha0 ha1 hb0 hb1 hc0 hc1
      have HC := hide (near_code hpn HP.out (by omega))
      have hBA := fun o => HBC.out.below ((Below.refl wc.heap.size wc).alloc (Nat.le_refl _) o)
      refine (mapInsert_any w.heap.size v L p _ (hBA _).map HBC.out.good).mono ?_
      rintro e w5 ⟨rfl, v5, hm5, hf5, hk5⟩
      have hpt : PtAt w5 wc.heap.size 0 p := by
        have hlt := (hBA (.cells (P3 p).toArray 36)).map.own
        have hr := (hk5.block wc.heap.size (by simp) (fun h => by
          rcases h with h | h
          · have := HBC.out.map.lt; omega
          · have := HBC.out.map.own.lt h.symm; omega)).trans (heap_alloc_new wc _)
        exact row3 hr
      have HB5 := hide ((hBA _).insert hBw hm5 (HBC.out.good.insert p) hf5 hk5)
      obtain ⟨al, cl, rfl, hrd⟩ := HB5.out.list.reads
      have HRD := hide hrd
      have HPT := hide hpt
      clear hrd hBA hm5 hf5 hk5 hpt
      go_wp2_with fail
      go_loopw [11, 12] (fun vt vi wq => ∃ (i nn : Nat), vi = I i ∧ i ≤ l.length ∧ vt = .bool ((l.take i).any fun q => q.id == p.id) ∧ wq = w5.drewN nn) (fun _ vi _ => l.length - (intOf vi).toNat)
      case atStart => exact ⟨0, 0, rfl, by omega, rfl, rfl⟩
      case round =>
        obtain ⟨i, nn, rfl, hi, rfl, rfl⟩ := hrel
        by_cases hlt : i < l.length
        · obtain ⟨g, o, rfl, hp5⟩ := HRD.out (fun e => by subst e; simp at hlt)
          have hq := (hp5 i hlt).1
          have HT := hide (show (l.take (i + 1)).any (fun q => q.id == p.id) = ((l.take i).any (fun q => q.id == p.id) || (l[i].id == p.id)) by rw [List.take_succ_eq_append_getElem hlt, List.any_append]; simp)
          obtain ⟨wx, hwx⟩ : ∃ wx, wx = w5.drewN nn := ⟨_, rfl⟩
          rw [← hwx]
          have hq2 : wx.cell? ⟨g, o + i * 3, none⟩ = some (I l[i].id) := by rw [hwx]; exact hq
          have hq3 : wx.cell? ⟨wc.heap.size, 0, none⟩ = some (I p.id) := by rw [hwx]; exact HPT.out.1
          have HX := hide hwx
          generalize l[i].id = qi at *
          clear hp5 hq hwx
          by_cases ht : (l.take i).any (fun q => q.id == p.id) = true
          · rw [ht] at HT ⊢
            go_wp2_with fail
            go_quiet (fail)
            go_wp2_with fail
            exact ⟨⟨i + 1, nn + nq, by go_num, by omega, by rw [HT.out]; rfl, by rw [HX.out]; simp⟩, by simp [intOf]; omega⟩
          · have ht : (l.take i).any (fun q => q.id == p.id) = false := by simpa using ht
            rw [ht] at HT ⊢
            go_wp2_with fail
            go_quiet (fail)
            go_wp2_with fail
            exact ⟨⟨i + 1, nn + nq, by go_num, by omega, by rw [HT.out]; rfl, by rw [HX.out]; simp⟩, by simp [intOf]; omega⟩
        · have ei : i = l.length := by omega
          subst ei
          rw [List.take_length]
          obtain ⟨wx, hwx⟩ : ∃ wx, wx = w5.drewN nn := ⟨_, rfl⟩
          rw [← hwx]
          have HX := hide hwx
          have hq3 : PtAt wx wc.heap.size 0 p := by rw [hwx]; exact HPT.out
          clear hwx
          by_cases hT : ∃ q ∈ l, q.id = p.id
          · have hc3 : insCode L p = 3 := by rw [HC.out, if_pos hT]
            have ht : l.any (fun q => q.id == p.id) = true := by
              obtain ⟨q, hq, e⟩ := hT
              exact List.any_eq_true.2 ⟨q, hq, by simp [e]⟩
            rw [ht, hc3]
            have HB6 := hide (show Held B w wx d code kc w.heap.size v5 L (.slice al l.length cl) l by
              have h := HB5.out
              rw [insList, if_neg (by rw [hc3]; decide)] at h
              rw [HX.out]
              exact h.below ⟨rfl, rfl, rfl, Nat.le_refl _, fun _ _ => rfl⟩)
            go_wp2_with fail
            exact ⟨⟨n - 1, l, L, v5, kc, by go_num, by omega, HB6.out, HP.out, HN.out⟩, by simp [intOf]; omega⟩
          · have hc3 : insCode L p = 0 := by rw [HC.out, if_neg hT]
            have ht : l.any (fun q => q.id == p.id) = false := by
              rw [List.any_eq_false]
              intro q hq e
              exact hT ⟨q, hq, by simpa using e⟩
            rw [ht, hc3]
            obtain ⟨q1, q2, q3⟩ := hq3
            obtain ⟨i0, hi0, hz0, hz1, hz2⟩ := info_parts Tryz.infoPt
            have HB6 := hide (show Held B w wx d code kc w.heap.size v5 (Ward.ins p L) (.slice al l.length cl) l by
              have h := HB5.out
              rw [insList, if_pos hc3] at h
              rw [HX.out]
              exact h.below ⟨rfl, rfl, rfl, Nat.le_refl _, fun _ _ => rfl⟩)
            have HB7 := hide (fun o => HB6.out.below ((Below.refl wx.heap.size wx).alloc (Nat.le_refl _) o))
            have hwx : w.heap.size ≤ wx.heap.size := HB6.out.keeps.size
            have HNW := hide (row_src (o := 0) (n := 3) (heap_alloc_new wx (.cells (P3 p).toArray 36)))
            clear HB5 HX
            go_wp2_with (at_builtin; refine wpList_append_own2 _ rfl (.tmp 87) (.tmp 89) 27 rfl w.heap.size 36 i0 (.agg #[I 0, I 0, I 0]) 3 24 Tryz.underlying27 hi0 hz0 hz1 hz2 rfl (by decide) _ l.length (l.flatMap P3) rfl (HB7.out _).list ⟨wx.heap.size, 0, none⟩ 1 1 (P3 p) rfl rfl HNW.out (fun u hu => cells_one (L := [p]) u (by simpa using hu)) (by unfold maxLen; omega) (by omega) (by simp; omega) ?_)
            intro v' w6 hown' hgrow hfr
            have ho6 : Own w6 w.heap.size v' (l ++ [p]) := by
              unfold Own
              rw [List.length_append, List.flatMap_append]
              simpa using hown'
            have HB8 := hide ((HB7.out _).append hBw ho6 hgrow hfr)
            clear hown' hgrow hfr ho6
            go_wp2_with fail
            refine ⟨⟨n - 1, l ++ [p], Ward.ins p L, v5, kc, by go_num, by simp; omega, HB8.out, ?_, ?_⟩, by simp [intOf]; omega⟩
            · exact (Ward.ins_perm p L).trans ((HP.out.cons p).trans (List.perm_append_singleton p l).symm)
            · intro q hq
              rcases List.mem_append.1 hq with hq | hq
              · exact HN.out q hq
              · rw [List.mem_singleton.1 hq]; exact hpn
    · have e0 : n = 0 := by omega
      subst e0
      go_wp2
      go_ret2
      exact ⟨k', w.heap.size, v, L, _, l, rfl, HBG.out, HP.out, HN.out, by omega⟩
end Go.Proofs.YtenaelkbgkpllaaGreatDoor
/- The texts that a proof shows. -/
namespace Go.Proofs.YtenaelkbgkpllaaGreatDoor
open Go.RowKit

/-- a text as a value -/
abbrev Sv (l : List UInt8) : Value := .string ⟨l.toArray⟩
/-- a list of texts in a row of its own -/
def OwnS (w : World) (B : Nat) (v : Value) (ls : List (List UInt8)) : Prop := w.ownsRow B 9 1 v ls.length (ls.map Sv)
theorem Tryz.infoStr : (Tryz.prog.info? 9).map (fun i => (i.zero, i.size, i.bytes)) = some (some (.string ⟨#[]⟩), 1, 16) := by kernel_rfl
theorem ba_eq {s : ByteArray} {l : List UInt8} (h : s.data.toList = l) : s = ⟨l.toArray⟩ := by
  subst h; rfl
theorem idx_at (s : ByteArray) (i : Int) (k : Nat) (b : UInt8) (h : s.data.toList[k]? = some b) (hi : i = k) (W : World) : (Instr.index 9 (.string s) (.int .i64 i)).run Tryz.prog W = .ok (.int .u8 b.toNat) W := by
  have hk : k < s.size := by
    obtain ⟨h', _⟩ := List.getElem?_eq_some_iff.1 h
    simpa using h'
  rw [idx_str s i k hi hk, Sha.byteAt, List.getD_eq_getElem?_getD, h]
  rfl
theorem cut_at (s : ByteArray) (i j : Int) (a n : Nat) (l : List UInt8) (h : (s.data.toList.drop a).take n = l) (hn : a + n ≤ s.size) (hi : i = a) (hj : j = a + n) (W : World) : (Instr.slice 9 (.string s) (some (.int .i64 i)) (some (.int .i64 j)) none).run Tryz.prog W = .ok (Sv l) W := by
  subst hi hj
  rw [run_slice_string W 9 s .i64 .i64 a (a + n) Tryz.underlying9 (by omega) (by omega) (by omega), show ((a : Int)).toNat = a by omega, show ((a : Int) + (n : Int)).toNat = a + n by omega]
  have e := ba_eq (s := s.extract a (a + n)) (l := l) (by rw [cut_list, Nat.add_sub_cancel_left]; exact h)
  rw [e]
/-- a text has this at a place -/
def At (s : ByteArray) (i : Nat) (l : List UInt8) : Prop := ∃ r, s.data.toList.drop i = l ++ r
theorem At.size {s : ByteArray} {i : Nat} {l : List UInt8} (h : At s i l) (hne : l ≠ []) : i + l.length ≤ s.size := by
  obtain ⟨r, h⟩ := h
  have h1 := congrArg List.length h
  have h2 : l.length ≠ 0 := fun e => hne (List.length_eq_zero_iff.1 e)
  simp at h1
  omega
theorem At.head {s : ByteArray} {i : Nat} {l m : List UInt8} (h : At s i (l ++ m)) : At s i l := by
  obtain ⟨r, h⟩ := h
  exact ⟨m ++ r, by rw [h, List.append_assoc]⟩
theorem At.tail {s : ByteArray} {i : Nat} {l m : List UInt8} (h : At s i (l ++ m)) : At s (i + l.length) m := by
  obtain ⟨r, h⟩ := h
  refine ⟨r, ?_⟩
  rw [← List.drop_drop, h, List.append_assoc, List.drop_left]
theorem At.take {s : ByteArray} {i : Nat} {l : List UInt8} (h : At s i l) : (s.data.toList.drop i).take l.length = l := by
  obtain ⟨r, h⟩ := h
  rw [h, List.take_left]
theorem At.get {s : ByteArray} {i : Nat} {l : List UInt8} (h : At s i l) (j : Nat) (b : UInt8) (hj : l[j]? = some b) : s.data.toList[i + j]? = some b := by
  obtain ⟨r, h⟩ := h
  rw [← List.getElem?_drop, h, List.getElem?_append_left (List.getElem?_eq_some_iff.1 hj).1, hj]
theorem grown_trans {a b c : World} {v v' : Value} (h : a.grownBy b v.ownBlock) (hf : Fresh a v v') (k : b.grownBy c v'.ownBlock) : a.grownBy c v.ownBlock := by
  refine ⟨k.os.trans h.os, k.tape.trans h.tape, k.output.trans h.output, Nat.le_trans h.size k.size, fun j hj hn => (k.block j (Nat.lt_of_lt_of_le hj h.size) (fun e => ?_)).trans (h.block j hj hn)⟩
  rcases hf with hf | ⟨g, hf, hg⟩
  · exact hn (by rw [e, hf])
  · rw [hf] at e; injection e with e; omega
theorem fresh_trans {a b : World} {v v' v'' : Value} (h : Fresh a v v') (hs : a.heap.size ≤ b.heap.size) (k : Fresh b v' v'') : Fresh a v v'' := by
  rcases k with k | ⟨g, k, hg⟩
  · rcases h with h | ⟨g, h, hg⟩
    · exact .inl (k.trans h)
    · exact .inr ⟨g, k.trans h, hg⟩
  · exact .inr ⟨g, k, Nat.le_trans hs hg⟩
/-- what texts leaves behind -/
def Told (w : World) (B : Nat) (v : Value) (ls more : List (List UInt8)) (own : List UInt8) (i : Nat) (e : Ending) (w' : World) : Prop :=
  ∃ v', e = .returned (.tuple #[v', Sv own, I i]) ∧ OwnS w' B v' (ls ++ more) ∧ w.grownBy w' v.ownBlock ∧ Fresh w v v'
theorem OwnS.slice {w : World} {B : Nat} {v : Value} {ls : List (List UInt8)} (h : OwnS w B v ls) : ∃ a c, v = .slice a ls.length c := by
  rcases h.2 with ⟨rfl, h0⟩ | ⟨g, c, cur, rfl, _⟩
  · exact ⟨none, 0, by rw [h0]⟩
  · exact ⟨_, c, rfl⟩
theorem OwnS.below {w w' : World} {B : Nat} {v : Value} {ls : List (List UInt8)} (h : OwnS w B v ls) (hb : Below w.heap.size w w') : OwnS w' B v ls := by
  refine ⟨h.1, ?_⟩
  rcases h.2 with h0 | ⟨g, cap, cur, rfl, hB, hg, r⟩
  · exact .inl h0
  · exact .inr ⟨g, cap, cur, rfl, hB, (hb.block g (Array.getElem?_eq_some_iff.1 hg).1).trans hg, r⟩

/-- an append as a step of a region that draws, its run being known -/
theorem step_append_run {P : Program} {ops : Array Oper} {o : Oper} {a : Act} {w : World} {K : Act → World → Prop} {Q : Exit → Act → World → Prop} {E : Prop}
    (hg : o.guard = none) (d x : Operand) (dT sT : TypeId) (hop : o.op = Op.call { callee := Callee.builtin Builtin.append, args := #[d, x], argTypes := #[dT, sT] })
    (v u : Value) (hd : a.eval d = v) (hx : a.eval x = u) {v' : Value} {w' : World} (hr : (Builtin.append_ #[dT, sT] o.type #[v, u]).run P w = .ok v' w') (hK : K (a.put o.dst v') w') :
    if Region.wanted o (yielded ops a.tmps) = true then Oper.wp P o a w K Q else E := by
  have hw : Region.wanted o (yielded ops a.tmps) = true := by simp [Region.wanted, hg]
  rw [if_pos hw]
  exact Lib.wp_append_run w d x dT sT hop v u hd hx v' w' hr hK
theorem sv_one (l : List UInt8) : (Sv l).oneCell' = true := rfl
/-- one text more -/
theorem append_text {w : World} {B : Nat} {v : Value} {ls : List (List UInt8)} (T : List UInt8) (hown : OwnS w B v ls) (hB : B ≤ w.heap.size) (hls : ls.length ≤ 1000000) :
    ∃ v' w', (Builtin.append_ #[58, 58] 58 #[v, .slice (some ⟨w.heap.size, 0, none⟩) 1 1]).run Tryz.prog (w.alloc (.cells #[Sv T] 9)) = .ok v' w' ∧ OwnS w' B v' (ls ++ [T]) ∧ w.grownBy w' v.ownBlock ∧ Fresh w v v' := by
  obtain ⟨i0, hi0, hz0, hz1, hz2⟩ := info_parts Tryz.infoStr
  have hb0 := (Below.refl w.heap.size w).alloc (Nat.le_refl _) (.cells #[Sv T] 9)
  obtain ⟨v', w', hr, ho, hg, hf⟩ := run_append_own2 (P := Tryz.prog) (w.alloc (.cells #[Sv T] 9)) B 58 58 9 i0 (.string ⟨#[]⟩) 1 16 Tryz.underlying58 hi0 hz0 hz1 hz2 rfl (by decide) v ls.length (ls.map Sv) (hown.below hb0) ⟨w.heap.size, 0, none⟩ 1 1 [Sv T] rfl
    (fun j u hj => by
      rw [Addr.add_lit]
      rw [cell_of_row _ _ _ _ _ _ (heap_alloc_new w _)]
      match j, hj with
      | 0, hj => simpa using hj)
    (fun u hu => by rw [List.mem_singleton.1 hu]; rfl) (by unfold maxLen; omega) (by omega) (by simp; omega)
  refine ⟨v', w', hr, ?_, ⟨hg.os, hg.tape, hg.output, Nat.le_trans (by simp) hg.size, fun j hj hn => (hg.block j (by simp; omega) hn).trans (Below.heap_alloc w _ j hj)⟩, ?_⟩
  · unfold OwnS
    rw [List.length_append, List.map_append]
    exact ho
  · rcases hf with hf | ⟨g, hf, hgs⟩
    · exact .inl hf
    · exact .inr ⟨g, hf, Nat.le_trans (by simp) hgs⟩

set_option maxRecDepth 100000 in
set_option maxHeartbeats 2000000 in
theorem texts_leaf (s : ByteArray) (i deep B k : Nat) (b : List UInt8) (v : Value) (ls : List (List UInt8)) (w : World) (hk : k ≤ 4) (hb : b.length = 12 * k) (hat : At s i (1 :: UInt8.ofNat k :: b)) (hdeep : deep ≤ 6) (hown : OwnS w B v ls) (hB : B ≤ w.heap.size) (hls : ls.length ≤ 100000) (hs : s.size ≤ 140737488355328) :
    Calls Tryz.prog 44 #[.string s, I i, I deep, v] w fun e w' => Told w B v ls [1 :: UInt8.ofNat k :: b] (1 :: UInt8.ofNat k :: b) (i + (2 + 12 * k)) e w' := by
  obtain ⟨i0, hi0, hz0, hz1, hz2⟩ := info_parts Tryz.infoStr
  have hsz := hat.size (by simp)
  have hlen : (1 :: UInt8.ofNat k :: b).length = 2 + 12 * k := by simp [hb]; omega
  rw [hlen] at hsz
  have b0 := idx_at s i i 1 (by simpa using hat.get 0 1 rfl) rfl
  have b1 := idx_at s ((i : Int) + 1) (i + 1) (UInt8.ofNat k) (hat.get 1 _ rfl) (by omega)
  have hkk : (UInt8.ofNat k).toNat = k := by rw [UInt8.toNat_ofNat']; omega
  rw [hkk] at b1
  have hcut := cut_at s i ((i : Int) + 2 + 12 * (k : Int)) i (2 + 12 * k) (1 :: UInt8.ofNat k :: b) (by rw [← hlen]; exact hat.take) hsz rfl (by omega)
  generalize (1 :: UInt8.ofNat k :: b) = T at *
  obtain ⟨v', w6, hr, ho, hg, hf⟩ := append_text (w := w.drew) T hown hB (by omega)
  obtain ⟨a, c, rfl⟩ := hown.slice
  have HR := hide (show Told w B (.slice a ls.length c) ls [T] T (i + (2 + 12 * k)) (.returned (.tuple #[v', Sv T, I ((i + (2 + 12 * k) : Nat) : Int)])) w6 from ⟨v', rfl, ho, ⟨hg.os, hg.tape, hg.output, hg.size, hg.block⟩, hf⟩)
  have hr' : (Builtin.append_ #[58, 58] 58 #[.slice a ls.length c, .slice (some ⟨w.heap.size, 0, none⟩) 1 1]).run Tryz.prog (w.alloc (.cells #[.string ⟨T.toArray⟩] 9)).drew = .ok v' w6 := hr
  have hcast := hide (show (i : Int) + 2 + 12 * (k : Int) = ((i + (2 + 12 * k) : Nat) : Int) by omega)
  clear hat hown ho hg hf hr
  go_enter Tryz.func44, Tryz.ntmps44
  go_wp2_with fail
  go_region_law (refine step_append_run rfl _ _ 58 58 rfl _ _ (by simp [Act.eval]) (by simp [Act.eval]) hr' ?_)
  all_goals
    go_wp2
    go_ret3
    have h := HR.out
    rw [← hcast.out] at h
    exact h
end Go.Proofs.YtenaelkbgkpllaaGreatDoor
/- The texts that a proof shows: a node's. -/
namespace Go.Proofs.YtenaelkbgkpllaaGreatDoor
open Go.RowKit

/-- a child's part of a text -/
abbrev Kid (n : Nat) : Type := List UInt8 × (UInt8 ⊕ Ward.PT n)
def kidShows {n : Nat} (c : Kid n) : List UInt8 := c.1 ++ match c.2 with | .inl f => [f] | .inr t => 1 :: Ward.shows n t
def kidAlls {n : Nat} (c : Kid n) : List (List UInt8) := match c.2 with | .inl _ => [] | .inr t => Ward.alls n t
theorem shows_node (n : Nat) (cs : List (Kid n)) : Ward.shows (n + 1) (.node cs) = 2 :: UInt8.ofNat cs.length :: cs.flatMap kidShows := rfl
theorem alls_node (n : Nat) (cs : List (Kid n)) : Ward.alls (n + 1) (.node cs) = cs.flatMap kidAlls ++ [2 :: UInt8.ofNat cs.length :: cs.flatMap (fun c => c.1)] := rfl
theorem own_node (n : Nat) (cs : List (Kid n)) : Ward.own (n + 1) (.node cs) = 2 :: UInt8.ofNat cs.length :: cs.flatMap (fun c => c.1) := rfl
theorem flat_step {α β : Type} (f : α → List β) (cs : List α) (k : Nat) (h : k < cs.length) : (cs.take (k + 1)).flatMap f = (cs.take k).flatMap f ++ f cs[k] := by
  rw [List.take_succ_eq_append_getElem h, List.flatMap_append, List.flatMap_cons, List.flatMap_nil, List.append_nil]
theorem flat_split {α β : Type} (f : α → List β) (cs : List α) (k : Nat) (h : k < cs.length) : cs.flatMap f = (cs.take k).flatMap f ++ (f cs[k] ++ (cs.drop (k + 1)).flatMap f) := by
  rw [← List.append_assoc, ← flat_step f cs k h, ← List.flatMap_append, List.take_append_drop]
theorem sv_add (a b : List UInt8) (h : a.length + b.length ≤ 9223372036854775807) (W : World) : (Op.stringOp .add ⟨a.toArray⟩ ⟨b.toArray⟩).run Tryz.prog W = .ok (Sv (a ++ b)) W := by
  rw [run_string_add_sum W _ _ (by simpa [ByteArray.size] using h), ByteArray.mk_append_mk]
theorem take_len {α β : Type} (f : α → List β) (cs : List α) (k : Nat) : ((cs.take k).flatMap f).length ≤ (cs.flatMap f).length := by
  have h := congrArg (fun l => (l.flatMap f).length) (List.take_append_drop k cs)
  simp only [List.flatMap_append, List.length_append] at h
  omega
theorem heads_len {n : Nat} (cs : List (Kid n)) (h : ∀ c ∈ cs, c.1.length = 52) : ∀ k, k ≤ cs.length → ((cs.take k).flatMap (fun c => c.1)).length = 52 * k
  | 0, _ => rfl
  | k + 1, hk => by rw [flat_step _ _ _ (by omega), List.length_append, heads_len cs h k (by omega), h _ (List.getElem_mem _)]; omega
theorem Told.mono {w : World} {B i j : Nat} {v : Value} {ls m m' : List (List UInt8)} {o o' : List UInt8} {e : Ending} {w' : World} (h : Told w B v ls m o i e w') (hm : m = m') (ho : o = o') (hi : i = j) : Told w B v ls m' o' j e w' := by
  subst hm ho hi; exact h

set_option maxRecDepth 100000 in
set_option maxHeartbeats 2000000 in
theorem texts_node (n : Nat) (cs : List (Kid n)) (s : ByteArray) (i deep B : Nat) (v : Value) (ls : List (List UInt8)) (w : World)
    (ih : ∀ (t : Ward.PT n) (i deep : Nat) (v : Value) (ls : List (List UInt8)) (w : World), Ward.WF n t → At s i (Ward.shows n t) → deep + n ≤ 7 → OwnS w B v ls → B ≤ w.heap.size → ls.length + (Ward.alls n t).length ≤ 100000 → Calls Tryz.prog 44 #[.string s, I i, I deep, v] w fun e w' => Told w B v ls (Ward.alls n t) (Ward.own n t) (i + (Ward.shows n t).length) e w')
    (hwf : Ward.WF (n + 1) (.node cs)) (hat : At s i (Ward.shows (n + 1) (.node cs))) (hdeep : deep + (n + 1) ≤ 7) (hown : OwnS w B v ls) (hB : B ≤ w.heap.size) (hls : ls.length + (Ward.alls (n + 1) (.node cs)).length ≤ 100000) (hs : s.size ≤ 140737488355328) :
    Calls Tryz.prog 44 #[.string s, I i, I deep, v] w fun e w' => Told w B v ls (Ward.alls (n + 1) (.node cs)) (Ward.own (n + 1) (.node cs)) (i + (Ward.shows (n + 1) (.node cs)).length) e w' := by
  obtain ⟨hk4, hkids⟩ := hwf
  have hsz := hat.size (by rw [shows_node]; simp)
  rw [shows_node] at hat hsz ⊢
  rw [alls_node] at hls ⊢
  rw [own_node]
  simp only [List.length_cons] at hsz ⊢
  have b0 := idx_at s i i 2 (by simpa using hat.get 0 2 rfl) rfl
  have b1 := idx_at s ((i : Int) + 1) (i + 1) (UInt8.ofNat cs.length) (hat.get 1 _ rfl) (by omega)
  have hkk : (UInt8.ofNat cs.length).toNat = cs.length := by rw [UInt8.toNat_ofNat']; omega
  rw [hkk] at b1
  have hc2 := cut_at s i ((i : Int) + 2) i 2 [2, UInt8.ofNat cs.length] (At.take (l := [2, UInt8.ofNat cs.length]) (At.head (m := cs.flatMap kidShows) hat)) (by omega) rfl (by omega)
  have HAT := hide (show At s (i + 2) (cs.flatMap kidShows) from At.tail (l := [2, UInt8.ofNat cs.length]) hat)
  have HSZ := hide (show i + 2 + (cs.flatMap kidShows).length ≤ s.size by omega)
  obtain ⟨a, c, rfl⟩ := hown.slice
  have HO := hide hown
  have HIH := hide ih
  have HKD := hide hkids
  have HLS := hide hls
  clear hat hown ih hkids hls hkk
  go_enter Tryz.func44, Tryz.ntmps44
  go_wp2_with fail
  go_loopw [1, 3, 13, 14] (fun vi vl vo vk wq => ∃ k q : Nat, k ≤ cs.length ∧ vk = I k ∧ vi = I q ∧ q = i + 2 + ((cs.take k).flatMap kidShows).length ∧ vo = Sv (2 :: UInt8.ofNat cs.length :: (cs.take k).flatMap (fun c => c.1)) ∧ OwnS wq B vl (ls ++ (cs.take k).flatMap kidAlls) ∧ w.grownBy wq (Value.slice a ls.length c).ownBlock ∧ Fresh w (.slice a ls.length c) vl)
    (fun _ _ _ vk _ => cs.length - (intOf vk).toNat)
  case atStart => exact ⟨0, i + 2, by omega, rfl, by go_num, by simp, by simp, by simpa using HO.out, ⟨rfl, rfl, rfl, Nat.le_refl _, fun _ _ _ => rfl⟩, .inl rfl⟩
  case round =>
    obtain ⟨k, q, hk, rfl, rfl, hq, rfl, ho, hg, hf⟩ := hrel
    obtain ⟨lq, hlq⟩ : ∃ lq, ls ++ (cs.take k).flatMap kidAlls = lq := ⟨_, rfl⟩
    rw [hlq] at ho
    have HLQ := hide hlq
    clear hlq
    have HOQ := hide ho
    have HG := hide hg
    have HF := hide hf
    have HQ := hide hq
    obtain ⟨aq, cq, rfl⟩ := ho.slice
    have hqs : q ≤ 140737488355328 := by
      have h1 := take_len kidShows cs k
      have h2 := HSZ.out
      omega
    clear ho hg hf hq
    by_cases hlt : k < cs.length
    · have hA : At s q (kidShows cs[k]) := by
        have h := HAT.out
        rw [flat_split kidShows cs k hlt] at h
        rw [HQ.out]
        exact h.tail.head
      have hkid := HKD.out cs[k] (List.getElem_mem hlt)
      have e1 := hide (flat_step (fun c : Kid n => c.1) cs k hlt)
      have e2 := hide (flat_step kidShows cs k hlt)
      have e3 := hide (flat_step kidAlls cs k hlt)
      have HLL := hide (show ls.length + ((cs.take k).flatMap kidAlls).length + (kidAlls cs[k]).length ≤ 100000 by
        have h := HLS.out
        rw [flat_split kidAlls cs k hlt] at h
        simp only [List.length_append] at h
        omega)
      obtain ⟨⟨h, x⟩, hc⟩ : ∃ c : Kid n, c = cs[k] := ⟨_, rfl⟩
      rw [← hc] at hA hkid e1 e2 e3 HLL
      obtain ⟨h52, hx⟩ := hkid
      simp only at h52 hx
      have hcut := cut_at s q ((q : Int) + 52) q 52 h (by rw [← h52]; exact (At.head (l := h) hA).take) (by have := (At.head (l := h) hA).size (by intro e; rw [e] at h52; simp at h52); omega) rfl (by omega)
      have hadd := sv_add (2 :: UInt8.ofNat cs.length :: (cs.take k).flatMap (fun c => c.1)) h (by
        have := heads_len cs (fun c hc => (HKD.out c hc).1) k hk
        simp only [List.length_cons]
        omega)
      have HD2 := hide (show 2 :: UInt8.ofNat cs.length :: (cs.take k).flatMap (fun c => c.1) ++ h = 2 :: UInt8.ofNat cs.length :: (cs.take (k + 1)).flatMap (fun c => c.1) by rw [e1.out]; rfl)
      rw [HD2.out] at hadd
      generalize 2 :: UInt8.ofNat cs.length :: (cs.take k).flatMap (fun c => c.1) = O1 at *
      generalize hO2 : 2 :: UInt8.ofNat cs.length :: (cs.take (k + 1)).flatMap (fun c => c.1) = O2 at *
      have HO2 := hide hO2
      clear hc hO2 HD2
      cases x with
      | inl f =>
        have hf1 : ¬ ((f.toNat : Int) = 1) := fun e => hx (by
          have : f.toNat = 1 := by omega
          exact UInt8.toNat_inj.1 this)
        have hsz2 := At.size hA (by simp [kidShows])
        have hl53 : (kidShows ((h, .inl f) : Kid n)).length = 53 := by simp [kidShows, h52]
        rw [hl53] at hsz2
        have hflag := idx_at s ((q : Int) + 52) (q + 52) f (hA.get 52 f (by simp [kidShows, h52])) (by omega)
        clear hA
        go_wp2_with fail
        refine ⟨⟨k + 1, q + 53, hlt, by go_num, by go_num, by rw [e2.out, List.length_append, hl53, HQ.out]; omega, by rw [HO2.out], ?_, HG.out, HF.out⟩, by simp [intOf]; omega⟩
        rw [e3.out, ← List.append_assoc, HLQ.out]
        have h := HOQ.out
        simpa [kidAlls] using h
      | inr t =>
        have hl53 : (kidShows ((h, .inr t) : Kid n)).length = 53 + (Ward.shows n t).length := by simp [kidShows, h52]; omega
        have hsz2 := At.size hA (by simp [kidShows])
        rw [hl53] at hsz2
        have hflag := idx_at s ((q : Int) + 52) (q + 52) 1 (hA.get 52 1 (by simp [kidShows, h52])) (by omega)
        have hA2 : At s (q + 53) (Ward.shows n t) := by
          have h' := At.tail (l := h ++ [1]) (m := Ward.shows n t) (by simpa [kidShows] using hA)
          have hl : (h ++ [1]).length = 53 := by simp [h52]
          rw [hl] at h'
          exact h'
        have HA2 := hide hA2
        clear hA hA2
        go_wp2_with fail
        rw [show ((q : Int) + 53) = ((q + 53 : Nat) : Int) by omega, show ((deep : Int) + 1) = ((deep + 1 : Nat) : Int) by omega]
        refine (HIH.out t (q + 53) (deep + 1) _ lq wr hx HA2.out (by omega) HOQ.out (Nat.le_trans hB HG.out.size) (by
          have h1 := HLL.out
          have h2 : (kidAlls ((h, .inr t) : Kid n)) = Ward.alls n t := rfl
          rw [h2] at h1
          rw [← HLQ.out, List.length_append]
          omega)).mono ?_
        rintro e w1 ⟨v1, rfl, ho1, hg1, hf1⟩
        have HO1 := hide ho1
        have HG1 := hide (grown_trans HG.out HF.out hg1)
        have HF1 := hide (fresh_trans HF.out HG.out.size hf1)
        clear ho1 hg1 hf1
        generalize hP : q + 53 + (Ward.shows n t).length = P at *
        have HP := hide hP
        clear hP
        go_wp2_with fail
        refine ⟨⟨k + 1, P, hlt, by go_num, rfl, by rw [e2.out, List.length_append, hl53, ← HP.out, HQ.out]; omega, by rw [HO2.out], ?_, HG1.out, HF1.out⟩, by simp [intOf]; omega⟩
        rw [e3.out, ← List.append_assoc, HLQ.out]
        exact HO1.out
    · have ek : k = cs.length := by omega
      subst ek
      rw [List.take_length] at HLQ HQ ⊢
      obtain ⟨O, hO⟩ : ∃ O, 2 :: UInt8.ofNat cs.length :: cs.flatMap (fun c => c.1) = O := ⟨_, rfl⟩
      rw [hO]
      obtain ⟨v', w6, hr, ho6, hg6, hf6⟩ := append_text (w := wr) O HOQ.out (Nat.le_trans hB HG.out.size) (by
        have h1 := HLS.out
        rw [← HLQ.out]
        simp only [List.length_append] at h1 ⊢
        omega)
      have hr' : (Builtin.append_ #[58, 58] 58 #[.slice aq lq.length cq, .slice (some ⟨wr.heap.size, 0, none⟩) 1 1]).run Tryz.prog (wr.alloc (.cells #[.string ⟨O.toArray⟩] 9)) = .ok v' w6 := hr
      have hqe : q = i + ((cs.flatMap kidShows).length + 1 + 1) := by have := HQ.out; omega
      have HR := hide (show Told w B (.slice a ls.length c) ls (cs.flatMap kidAlls ++ [O]) O (i + ((cs.flatMap kidShows).length + 1 + 1)) (.returned (.tuple #[v', Sv O, I q])) w6 from ⟨v', by rw [← hqe], by rw [← List.append_assoc, HLQ.out]; exact ho6, grown_trans HG.out HF.out hg6, fresh_trans HF.out HG.out.size hf6⟩)
      have HO' := hide hO
      clear ho6 hg6 hf6 hr hO hqe
      go_wp2_with (at_builtin; refine Lib.wpList_append_run _ rfl (.tmp 110) (.tmp 112) 58 58 rfl _ _ rfl rfl _ _ hr' ?_)
      go_ret3
      rw [HO'.out]
      exact HR.out
theorem texts_any (s : ByteArray) (B : Nat) (hs : s.size ≤ 140737488355328) : ∀ (n : Nat) (t : Ward.PT n) (i deep : Nat) (v : Value) (ls : List (List UInt8)) (w : World), Ward.WF n t → At s i (Ward.shows n t) → deep + n ≤ 7 → OwnS w B v ls → B ≤ w.heap.size → ls.length + (Ward.alls n t).length ≤ 100000 →
    Calls Tryz.prog 44 #[.string s, I i, I deep, v] w fun e w' => Told w B v ls (Ward.alls n t) (Ward.own n t) (i + (Ward.shows n t).length) e w'
  | 0, t, _, _, _, _, _, _, _, _, _, _, _ => nomatch t
  | n + 1, .leaf b, i, deep, v, ls, w, ⟨k, hk, hb⟩, hat, hd, hown, hB, hls => by
    have e : b.length / 12 = k := by omega
    have e1 : Ward.alls (n + 1) (.leaf b) = [1 :: UInt8.ofNat k :: b] := by rw [← e]; rfl
    have e2 : Ward.own (n + 1) (.leaf b) = 1 :: UInt8.ofNat k :: b := by rw [← e]; rfl
    have e3 : Ward.shows (n + 1) (.leaf b) = 1 :: UInt8.ofNat k :: b := by rw [← e]; rfl
    rw [e1, e2, e3]
    rw [e3] at hat
    have h := texts_leaf s i deep B k b v ls w hk hb hat (by omega) hown hB (by omega) hs
    exact h.mono fun _ _ h => h.mono rfl rfl (by simp [hb]; omega)
  | n + 1, .node cs, i, deep, v, ls, w, hwf, hat, hd, hown, hB, hls =>
    texts_node n cs s i deep B v ls w (fun t i deep v ls w => texts_any s B hs n t i deep v ls w) hwf hat hd hown hB hls hs
end Go.Proofs.YtenaelkbgkpllaaGreatDoor
/- Numbers put behind a text. -/
namespace Go.Proofs.YtenaelkbgkpllaaGreatDoor
open Go.RowKit

/-- bytes in a row of their own -/
def OwnB (w : World) (B : Nat) (v : Value) (l : List UInt8) : Prop := w.ownsRow B 5 1 v l.length (l.map Y)
theorem OwnB.below {w w' : World} {B : Nat} {v : Value} {l : List UInt8} (h : OwnB w B v l) (hb : Below w.heap.size w w') : OwnB w' B v l := by
  refine ⟨h.1, ?_⟩
  rcases h.2 with h0 | ⟨g, cap, cur, rfl, hB, hg, r⟩
  · exact .inl h0
  · exact .inr ⟨g, cap, cur, rfl, hB, (hb.block g (Array.getElem?_eq_some_iff.1 hg).1).trans hg, r⟩
theorem OwnB.slice {w : World} {B : Nat} {v : Value} {l : List UInt8} (h : OwnB w B v l) : ∃ a c, v = .slice a l.length c := by
  rcases h.2 with ⟨rfl, h0⟩ | ⟨g, c, cur, rfl, _⟩
  · exact ⟨none, 0, by rw [h0]⟩
  · exact ⟨_, c, rfl⟩
theorem OwnB.lt {w : World} {B g : Nat} {v : Value} {l : List UInt8} (h : OwnB w B v l) (hg : v.ownBlock = some g) : B ≤ g ∧ g < w.heap.size := World.ownsRow.lt h g hg
/-- what putting bytes behind a text leaves -/
def Put (w : World) (B : Nat) (v : Value) (l more : List UInt8) (e : Ending) (w' : World) : Prop := ∃ v', e = .returned v' ∧ OwnB w' B v' (l ++ more) ∧ w.grownBy w' v.ownBlock ∧ Fresh w v v'
/-- bytes that lie somewhere, put behind a text -/
theorem append_bytes {w : World} {B : Nat} {v : Value} {l : List UInt8} (T : List UInt8) (a : Addr) (c : Nat) (hown : OwnB w B v l) (hB : B ≤ w.heap.size) (hl : l.length + T.length ≤ 1000000) (hT : ∀ j b, T[j]? = some b → w.cell? (a.add j) = some (Y b)) :
    ∃ v' w', (Builtin.append_ #[59, 59] 59 #[v, .slice (some a) T.length c]).run Tryz.prog w = .ok v' w' ∧ OwnB w' B v' (l ++ T) ∧ w.grownBy w' v.ownBlock ∧ Fresh w v v' := by
  obtain ⟨i0, hi0, hz0, hz1, hz2⟩ := info_parts Tryz.info5
  obtain ⟨v', w', hr, ho, hg, hf⟩ := run_append_own2 (P := Tryz.prog) w B 59 59 5 i0 (.int .u8 0) 1 1 Tryz.underlying59 hi0 hz0 hz1 hz2 rfl (by decide) v l.length (l.map Y) hown a T.length c (T.map Y) (by simp)
    (fun j u hj => by
      rw [List.getElem?_map] at hj
      cases hb : T[j]? with
      | none => rw [hb] at hj; cases hj
      | some b => rw [hb] at hj; rw [hT j b hb]; exact hj)
    (fun u hu => by obtain ⟨b, _, rfl⟩ := List.mem_map.1 hu; rfl) (by unfold maxLen; omega) (by omega) hB
  refine ⟨v', w', hr, ?_, hg, hf⟩
  unfold OwnB
  rw [List.length_append, List.map_append]
  exact ho

set_option maxHeartbeats 400000 in
theorem number_any (v : Value) (l : List UInt8) (n : Nat) (w : World) (B : Nat) (hn : n < 4294967296) (hB : B ≤ w.heap.size) (hx : l.length ≤ 900000) (hown : OwnB w B v l) :
    Calls Tryz.prog 140 #[v, .int .u32 n] w fun e w' => Put w B v l (Ward.four n) e w' := by
  have HV := hide (four_values n hn)
  have hr := fun o hT => append_bytes (w := w.alloc o) (Ward.four n) ⟨w.heap.size, 0, none⟩ 4 (hown.below ((Below.refl w.heap.size w).alloc (Nat.le_refl _) o)) (by simp; omega) (by show l.length + 4 ≤ _; omega) hT
  obtain ⟨v', w1, h1, ho, hg, hf⟩ := hr (.cells ((Sha.four n).map Y).toArray 5) (fun j b hj => by
    rw [Addr.add_lit, Nat.zero_add, cell_of_row _ _ _ _ _ _ (heap_alloc_new w _), List.getElem?_toArray, List.getElem?_map]
    have hj' : (Sha.four n)[j]? = some b := hj
    rw [hj']; rfl)
  rw [← HV.out] at h1
  have HP := hide (show Put w B v l (Ward.four n) (.returned v') w1 from ⟨v', rfl, ho, ⟨hg.os, hg.tape, hg.output, Nat.le_trans (by simp) hg.size, fun j hj hne => (hg.block j (by simp; omega) hne).trans (Below.heap_alloc w _ j hj)⟩, by
    rcases hf with hf | ⟨g, hf, hgs⟩
    · exact .inl hf
    · exact .inr ⟨g, hf, Nat.le_trans (by simp) hgs⟩⟩)
  obtain ⟨a, c, rfl⟩ := hown.slice
  clear hr ho hg hf hown
  have h1' : (Builtin.append_ #[59, 59] 59 #[.slice a l.length c, .slice (some ⟨w.heap.size, 0, none⟩) 4 4]).run Tryz.prog (w.alloc (.cells #[Value.int .u8 ((n : Int) / 16777216), Value.int .u8 ((n : Int) / 65536 % 256), Value.int .u8 ((n : Int) / 256 % 256), Value.int .u8 ((n : Int) % 256)] 5)) = .ok v' w1 := h1
  clear h1
  go_enter Tryz.func140, Tryz.ntmps140
  go_wp2_with (at_builtin; refine Lib.wpList_append_run _ rfl (.tmp 5) (.tmp 17) 59 59 rfl _ _ rfl rfl _ _ h1' ?_)
  go_ret
  exact HP.out
/-- numbers as bytes -/
def nums (l : List Int) : List UInt8 := l.flatMap Ward.fourI
theorem nums_len : ∀ (l : List Int), (nums l).length = 4 * l.length
  | [] => rfl
  | x :: l => by
    have h := nums_len l
    unfold nums at h ⊢
    rw [List.flatMap_cons, List.length_append, h, Ward.fourI_len, List.length_cons]; omega
set_option maxHeartbeats 1000000 in
theorem appendNumbers_any (v : Value) (l : List UInt8) (ns : List Int) (g : Nat) (w : World) (B : Nat) (hB : B ≤ w.heap.size) (hx : l.length ≤ 800000) (hn : ns.length ≤ 100) (hg : v.ownBlock ≠ some g) (hc : ∀ i (h : i < ns.length), w.cell? ⟨g, i, none⟩ = some (I ns[i])) (h0 : ns ≠ []) (hown : OwnB w B v l) :
    Calls Tryz.prog 156 #[v, .slice (some ⟨g, 0, none⟩) ns.length ns.length] w fun e w' => Put w B v l (nums ns) e w' := by
  have hgl : g < w.heap.size := block_lt_of_cell (hc 0 (by have : ns.length ≠ 0 := fun e => h0 (List.length_eq_zero_iff.1 e); omega))
  have HC := hide hc
  have HO := hide hown
  clear hc
  go_enter Tryz.func156, Tryz.ntmps156
  go_wp2_with fail
  go_loopg [0, 9] ns.length (fun gk v0 v9 wq => ∃ i : Nat, gk = ns.length - i ∧ v9 = I i ∧ i ≤ ns.length ∧ OwnB wq B v0 (l ++ nums (ns.take i)) ∧ w.grownBy wq v.ownBlock ∧ Fresh w v v0)
  case atStart => exact ⟨0, by omega, rfl, by omega, by simpa [nums] using HO.out, ⟨rfl, rfl, rfl, Nat.le_refl _, fun _ _ _ => rfl⟩, .inl rfl⟩
  case round =>
    obtain ⟨i, hgk, rfl, hi, ho, hgr, hf⟩ := hrel
    have HGK := hide hgk
    have HG := hide hgr
    have HF := hide hf
    have HOI := hide ho
    clear hgk hgr hf ho
    by_cases hlt : i < ns.length
    · have hci := (World.cell?_of_block (w := w) (HG.out.block g hgl (fun e => hg e.symm))).trans (HC.out i hlt)
      have HT := hide (show nums (ns.take (i + 1)) = nums (ns.take i) ++ Ward.fourI ns[i] from flat_step Ward.fourI ns i hlt)
      generalize ns[i] = x at *
      have hlen : (nums (ns.take i)).length ≤ 400 := by
        rw [nums_len, List.length_take]; omega
      generalize nums (ns.take i) = N at *
      go_wp2_with fail
      rw [show x % 4294967296 = (((x % 4294967296).toNat : Nat) : Int) by omega]
      refine (number_any _ (l ++ N) (x % 4294967296).toNat wr B (by omega) (Nat.le_trans hB HG.out.size) (by simp; omega) HOI.out).mono ?_
      rintro e w1 ⟨v1, rfl, ho1, hg1, hf1⟩
      have HO1 := hide ho1
      have HG1 := hide (grown_trans HG.out HF.out hg1)
      have HF1 := hide (fresh_trans HF.out HG.out.size hf1)
      clear ho1 hg1 hf1
      go_wp2_with fail
      go_roundg (ns.length - (i + 1))
      case measure => have := HGK.out; omega
      case rel => exact ⟨i + 1, rfl, by go_num, hlt, by rw [HT.out, ← List.append_assoc]; exact HO1.out, HG1.out, HF1.out⟩
    · have ei : i = ns.length := by omega
      subst ei
      rw [List.take_length] at HOI
      go_wp2
      go_ret
      exact ⟨_, rfl, HOI.out, HG.out, HF.out⟩
/-- what was laid ahead of it does not matter -/
theorem Put.lift {w w2 w' : World} {B : Nat} {v : Value} {l m : List UInt8} {e : Ending} (hb : Below w.heap.size w w2) (h : Put w2 B v l m e w') : Put w B v l m e w' := by
  obtain ⟨v', he, ho, hg, hf⟩ := h
  refine ⟨v', he, ho, ⟨hg.os.trans hb.os, hg.tape.trans hb.tape, hg.output.trans hb.output, Nat.le_trans hb.size hg.size, fun j hj hne => (hg.block j (Nat.lt_of_lt_of_le hj hb.size) hne).trans (hb.block j hj)⟩, ?_⟩
  rcases hf with hf | ⟨g, hf, hgs⟩
  · exact .inl hf
  · exact .inr ⟨g, hf, Nat.le_trans hb.size hgs⟩
theorem OwnB.old {w : World} {B g : Nat} {v : Value} {l : List UInt8} (h : OwnB w B v l) (hg : w.heap.size ≤ g) : v.ownBlock ≠ some g := fun e => by
  have := (h.lt e).2
  omega
end Go.Proofs.YtenaelkbgkpllaaGreatDoor
