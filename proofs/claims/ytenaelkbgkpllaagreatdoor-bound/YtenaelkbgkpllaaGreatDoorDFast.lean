/- A digest reckoned fast, and that it is the digest: for the kernel's own reckoning of closed texts. -/
import Derived.KernelRfl
import Derived.Test.YtenaelkbgkpllaaGreatDoorDSha
namespace Go.Proofs.YtenaelkbgkpllaaGreatDoor
namespace Sha
/-- f at x, x reckoned first -/
def force {α : Type} (x : Nat) (f : Nat → α) : α := match x with
  | 0 => f 0
  | Nat.succ n => f (Nat.succ n)
theorem force_eq {α : Type} (x : Nat) (f : Nat → α) : force x f = f x := by cases x <;> rfl

def go (kws : List Nat) (k : Nat → Nat → Nat → Nat → Nat → Nat → Nat → Nat → Bool) : Nat → Nat → Nat → Nat → Nat → Nat → Nat → Nat → Bool :=
  match kws with
  | [] => k
  | kw :: l => fun a b c d e f g h =>
    force (Nat.mul e 4294967297) fun y =>
    force (Nat.add (Nat.add (Nat.add h (Nat.xor (Nat.xor (Nat.div y 64) (Nat.div y 2048)) (Nat.div y 33554432))) (Nat.xor g (Nat.land e (Nat.xor f g)))) kw) fun t1 =>
    force (Nat.mul a 4294967297) fun z =>
    force (Nat.mod (Nat.add d t1) 4294967296) fun e' =>
    force (Nat.mod (Nat.add (Nat.add t1 (Nat.xor (Nat.xor (Nat.div z 4) (Nat.div z 8192)) (Nat.div z 4194304))) (Nat.xor a (Nat.land (Nat.xor a b) (Nat.xor a c)))) 4294967296) fun a' =>
    go l k a' a b c e' e f g
def go1 (kws : List Nat) (k : Nat → Nat → Nat → Nat → Nat → Nat → Nat → Nat → Bool) (a b c d e f g h : Nat) : Bool :=
  go kws (fun a' b' c' d' e' f' g' h' =>
    force (Nat.mod (Nat.add a a') 4294967296) fun a1 => force (Nat.mod (Nat.add b b') 4294967296) fun b1 => force (Nat.mod (Nat.add c c') 4294967296) fun c1 => force (Nat.mod (Nat.add d d') 4294967296) fun d1 =>
    force (Nat.mod (Nat.add e e') 4294967296) fun e1 => force (Nat.mod (Nat.add f f') 4294967296) fun f1 => force (Nat.mod (Nat.add g g') 4294967296) fun g1 => force (Nat.mod (Nat.add h h') 4294967296) fun h1 => k a1 b1 c1 d1 e1 f1 g1 h1) a b c d e f g h
def goN (kws : List Nat) (k : Nat → Nat → Nat → Nat → Nat → Nat → Nat → Nat → Bool) : Nat → Nat → Nat → Nat → Nat → Nat → Nat → Nat → Nat → Bool
  | 0 => k
  | Nat.succ n => go1 kws (goN kws k n)
def isSt (A B C D E F G H a b c d e f g h : Nat) : Bool :=
  and (Nat.beq a A) (and (Nat.beq b B) (and (Nat.beq c C) (and (Nat.beq d D) (and (Nat.beq e E) (and (Nat.beq f F) (and (Nat.beq g G) (Nat.beq h H)))))))

theorem or_add (p q n : Nat) (h : q < 2 ^ n) : p * 2 ^ n ||| q = p * 2 ^ n + q := by
  rw [Nat.mul_comm, ← Nat.two_pow_add_eq_or_of_lt h]
theorem ror6 (x : Nat) (hx : x < 4294967296) : Nat.div (Nat.mul x 4294967297) 64 % 4294967296 = ror 6 x := by
  have e : x * 2 ^ (32 - 6) % 4294967296 = (x % 64) * 2 ^ 26 := by omega
  have q : x * 4294967297 / 64 = x * 67108864 + x / 64 := by omega
  have r : x * 67108864 + x / 64 = ((x % 64) * 67108864 + x / 64) + (x / 64) * 4294967296 := by omega
  have l : (x % 64) * 67108864 + x / 64 < 4294967296 := by omega
  rw [ror, e, or_add _ _ _ (by omega)]
  show x * 4294967297 / 64 % 4294967296 = _
  rw [q, r, Nat.add_mul_mod_self_right, Nat.mod_eq_of_lt l]
theorem ror11 (x : Nat) (hx : x < 4294967296) : Nat.div (Nat.mul x 4294967297) 2048 % 4294967296 = ror 11 x := by
  have e : x * 2 ^ (32 - 11) % 4294967296 = (x % 2048) * 2 ^ 21 := by omega
  have q : x * 4294967297 / 2048 = x * 2097152 + x / 2048 := by omega
  have r : x * 2097152 + x / 2048 = ((x % 2048) * 2097152 + x / 2048) + (x / 2048) * 4294967296 := by omega
  have l : (x % 2048) * 2097152 + x / 2048 < 4294967296 := by omega
  rw [ror, e, or_add _ _ _ (by omega)]
  show x * 4294967297 / 2048 % 4294967296 = _
  rw [q, r, Nat.add_mul_mod_self_right, Nat.mod_eq_of_lt l]
theorem ror25 (x : Nat) (hx : x < 4294967296) : Nat.div (Nat.mul x 4294967297) 33554432 % 4294967296 = ror 25 x := by
  have e : x * 2 ^ (32 - 25) % 4294967296 = (x % 33554432) * 2 ^ 7 := by omega
  have q : x * 4294967297 / 33554432 = x * 128 + x / 33554432 := by omega
  have r : x * 128 + x / 33554432 = ((x % 33554432) * 128 + x / 33554432) + (x / 33554432) * 4294967296 := by omega
  have l : (x % 33554432) * 128 + x / 33554432 < 4294967296 := by omega
  rw [ror, e, or_add _ _ _ (by omega)]
  show x * 4294967297 / 33554432 % 4294967296 = _
  rw [q, r, Nat.add_mul_mod_self_right, Nat.mod_eq_of_lt l]
theorem ror2 (x : Nat) (hx : x < 4294967296) : Nat.div (Nat.mul x 4294967297) 4 % 4294967296 = ror 2 x := by
  have e : x * 2 ^ (32 - 2) % 4294967296 = (x % 4) * 2 ^ 30 := by omega
  have q : x * 4294967297 / 4 = x * 1073741824 + x / 4 := by omega
  have r : x * 1073741824 + x / 4 = ((x % 4) * 1073741824 + x / 4) + (x / 4) * 4294967296 := by omega
  have l : (x % 4) * 1073741824 + x / 4 < 4294967296 := by omega
  rw [ror, e, or_add _ _ _ (by omega)]
  show x * 4294967297 / 4 % 4294967296 = _
  rw [q, r, Nat.add_mul_mod_self_right, Nat.mod_eq_of_lt l]
theorem ror13 (x : Nat) (hx : x < 4294967296) : Nat.div (Nat.mul x 4294967297) 8192 % 4294967296 = ror 13 x := by
  have e : x * 2 ^ (32 - 13) % 4294967296 = (x % 8192) * 2 ^ 19 := by omega
  have q : x * 4294967297 / 8192 = x * 524288 + x / 8192 := by omega
  have r : x * 524288 + x / 8192 = ((x % 8192) * 524288 + x / 8192) + (x / 8192) * 4294967296 := by omega
  have l : (x % 8192) * 524288 + x / 8192 < 4294967296 := by omega
  rw [ror, e, or_add _ _ _ (by omega)]
  show x * 4294967297 / 8192 % 4294967296 = _
  rw [q, r, Nat.add_mul_mod_self_right, Nat.mod_eq_of_lt l]
theorem ror22 (x : Nat) (hx : x < 4294967296) : Nat.div (Nat.mul x 4294967297) 4194304 % 4294967296 = ror 22 x := by
  have e : x * 2 ^ (32 - 22) % 4294967296 = (x % 4194304) * 2 ^ 10 := by omega
  have q : x * 4294967297 / 4194304 = x * 1024 + x / 4194304 := by omega
  have r : x * 1024 + x / 4194304 = ((x % 4194304) * 1024 + x / 4194304) + (x / 4194304) * 4294967296 := by omega
  have l : (x % 4194304) * 1024 + x / 4194304 < 4294967296 := by omega
  rw [ror, e, or_add _ _ _ (by omega)]
  show x * 4294967297 / 4194304 % 4294967296 = _
  rw [q, r, Nat.add_mul_mod_self_right, Nat.mod_eq_of_lt l]
theorem xor_mod (a b : Nat) : Nat.xor a b % 4294967296 = (a % 4294967296) ^^^ (b % 4294967296) := Nat.xor_mod_two_pow (n := 32)
theorem bs1_fast (x : Nat) (hx : x < 4294967296) : Nat.xor (Nat.xor (Nat.div (Nat.mul x 4294967297) 64) (Nat.div (Nat.mul x 4294967297) 2048)) (Nat.div (Nat.mul x 4294967297) 33554432) % 4294967296 = bs1 x := by
  rw [xor_mod, xor_mod, ror6 x hx, ror11 x hx, ror25 x hx]; rfl
theorem bs0_fast (x : Nat) (hx : x < 4294967296) : Nat.xor (Nat.xor (Nat.div (Nat.mul x 4294967297) 4) (Nat.div (Nat.mul x 4294967297) 8192)) (Nat.div (Nat.mul x 4294967297) 4194304) % 4294967296 = bs0 x := by
  rw [xor_mod, xor_mod, ror2 x hx, ror13 x hx, ror22 x hx]; rfl
theorem bit_hi {x i : Nat} (hx : x < 4294967296) (hi : ¬ i < 32) : x.testBit i = false := by
  have h := Nat.pow_le_pow_right (n := 2) (by decide) (show 32 ≤ i by omega)
  exact Nat.testBit_lt_two_pow (Nat.lt_of_lt_of_le hx h)
theorem ch_fast (x y z : Nat) (hz : z < 4294967296) : Nat.xor z (Nat.land x (Nat.xor y z)) = ch x y z := by
  show z ^^^ (x &&& (y ^^^ z)) = (x &&& y) ^^^ ((4294967295 ^^^ x) &&& z)
  apply Nat.eq_of_testBit_eq
  intro i
  by_cases hi : i < 32
  · have h1 : Nat.testBit 4294967295 i = true := by
      have : (4294967295 : Nat) = 2 ^ 32 - 1 := by decide
      rw [this, Nat.testBit_two_pow_sub_one]; simpa using hi
    simp only [Nat.testBit_xor, Nat.testBit_and, h1]
    cases x.testBit i <;> cases y.testBit i <;> cases z.testBit i <;> rfl
  · simp only [Nat.testBit_xor, Nat.testBit_and, bit_hi hz hi]
    cases x.testBit i <;> cases y.testBit i <;> cases Nat.testBit 4294967295 i <;> rfl
theorem maj_fast (x y z : Nat) : Nat.xor x (Nat.land (Nat.xor x y) (Nat.xor x z)) = maj x y z := by
  show x ^^^ ((x ^^^ y) &&& (x ^^^ z)) = ((x &&& y) ^^^ (x &&& z)) ^^^ (y &&& z)
  apply Nat.eq_of_testBit_eq
  intro i
  simp only [Nat.testBit_xor, Nat.testBit_and]
  cases x.testBit i <;> cases y.testBit i <;> cases z.testBit i <;> rfl
theorem step_e (d h S1 c kw k w b1 : Nat) (h1 : S1 % 4294967296 = b1) (hk : kw % 4294967296 = (k + w) % 4294967296) : Nat.mod (Nat.add d (Nat.add (Nat.add (Nat.add h S1) c) kw)) 4294967296 = (d + ((((h + b1) % 4294967296 + c) % 4294967296 + k) % 4294967296 + w) % 4294967296) % 4294967296 := by
  show (d + (h + S1 + c + kw)) % 4294967296 = _
  subst h1; omega
theorem step_a (h S1 c kw k w b1 S0 m b0 : Nat) (h1 : S1 % 4294967296 = b1) (h0 : S0 % 4294967296 = b0) (hk : kw % 4294967296 = (k + w) % 4294967296) : Nat.mod (Nat.add (Nat.add (Nat.add (Nat.add (Nat.add h S1) c) kw) S0) m) 4294967296 = (((((h + b1) % 4294967296 + c) % 4294967296 + k) % 4294967296 + w) % 4294967296 + (b0 + m) % 4294967296) % 4294967296 := by
  show (h + S1 + c + kw + S0 + m) % 4294967296 = _
  subst h1; subst h0; omega
theorem go_cons (kw : Nat) (l : List Nat) (q : Nat → Nat → Nat → Nat → Nat → Nat → Nat → Nat → Bool) (a b c d e f g h : Nat) :
    go (kw :: l) q a b c d e f g h =
    go l q (Nat.mod (Nat.add (Nat.add (Nat.add (Nat.add (Nat.add h (Nat.xor (Nat.xor (Nat.div (Nat.mul e 4294967297) 64) (Nat.div (Nat.mul e 4294967297) 2048)) (Nat.div (Nat.mul e 4294967297) 33554432))) (Nat.xor g (Nat.land e (Nat.xor f g)))) kw) (Nat.xor (Nat.xor (Nat.div (Nat.mul a 4294967297) 4) (Nat.div (Nat.mul a 4294967297) 8192)) (Nat.div (Nat.mul a 4294967297) 4194304))) (Nat.xor a (Nat.land (Nat.xor a b) (Nat.xor a c)))) 4294967296) a b c
      (Nat.mod (Nat.add d (Nat.add (Nat.add (Nat.add h (Nat.xor (Nat.xor (Nat.div (Nat.mul e 4294967297) 64) (Nat.div (Nat.mul e 4294967297) 2048)) (Nat.div (Nat.mul e 4294967297) 33554432))) (Nat.xor g (Nat.land e (Nat.xor f g)))) kw)) 4294967296) e f g := by
  simp only [go, force_eq]
theorem round_e (k w : Nat) (s : St) : (s.d + ((((s.h + bs1 s.e) % 4294967296 + ch s.e s.f s.g) % 4294967296 + k) % 4294967296 + w) % 4294967296) % 4294967296 = (round k w s).e := by
  unfold round t1; rfl
theorem round_a (k w : Nat) (s : St) : (((((s.h + bs1 s.e) % 4294967296 + ch s.e s.f s.g) % 4294967296 + k) % 4294967296 + w) % 4294967296 + (bs0 s.a + maj s.a s.b s.c) % 4294967296) % 4294967296 = (round k w s).a := by
  unfold round t1 t2; rfl
theorem go_step (kw k w : Nat) (l : List Nat) (q : Nat → Nat → Nat → Nat → Nat → Nat → Nat → Nat → Bool) (s : St) (hs : Ok s) (hk : kw % 4294967296 = (k + w) % 4294967296) :
    go (kw :: l) q s.a s.b s.c s.d s.e s.f s.g s.h = go l q (round k w s).a s.a s.b s.c (round k w s).e s.e s.f s.g := by
  obtain ⟨ha, hb, hc, hd, he, hf, hg, hh⟩ := hs
  rw [go_cons, ch_fast s.e s.f s.g hg, maj_fast, step_e s.d s.h _ (ch s.e s.f s.g) kw k w _ (bs1_fast s.e he) hk, step_a s.h _ (ch s.e s.f s.g) kw k w _ _ (maj s.a s.b s.c) _ (bs1_fast s.e he) (bs0_fast s.a ha) hk, round_e, round_a]
/-- the rounds by a list of the two numbers of each -/
def roundsP (ps : List (Nat × Nat)) (s : St) : St := ps.foldl (fun s p => round p.1 p.2 s) s
def plus (p : Nat × Nat) : Nat := (p.1 + p.2) % 4294967296
theorem plus_mod (p : Nat × Nat) : plus p % 4294967296 = (p.1 + p.2) % 4294967296 := by unfold plus; exact Nat.mod_mod _ _
theorem mod_add (a b : Nat) : Nat.mod (Nat.add a b) 4294967296 = (a + b) % 4294967296 := rfl
theorem roundsP_cons (p : Nat × Nat) (ps : List (Nat × Nat)) (s : St) : roundsP (p :: ps) s = roundsP ps (round p.1 p.2 s) := by
  unfold roundsP; rw [List.foldl_cons]
theorem round_b (k w : Nat) (s : St) : (round k w s).b = s.a := by unfold round; rfl
theorem round_c (k w : Nat) (s : St) : (round k w s).c = s.b := by unfold round; rfl
theorem round_d (k w : Nat) (s : St) : (round k w s).d = s.c := by unfold round; rfl
theorem round_f (k w : Nat) (s : St) : (round k w s).f = s.e := by unfold round; rfl
theorem round_g (k w : Nat) (s : St) : (round k w s).g = s.f := by unfold round; rfl
theorem round_h (k w : Nat) (s : St) : (round k w s).h = s.g := by unfold round; rfl
theorem go_all (q : Nat → Nat → Nat → Nat → Nat → Nat → Nat → Nat → Bool) (ps : List (Nat × Nat)) : ∀ (s : St), Ok s →
    go (ps.map plus) q s.a s.b s.c s.d s.e s.f s.g s.h = q (roundsP ps s).a (roundsP ps s).b (roundsP ps s).c (roundsP ps s).d (roundsP ps s).e (roundsP ps s).f (roundsP ps s).g (roundsP ps s).h := by
  induction ps with
  | nil => intro s _; simp only [List.map_nil, go, roundsP, List.foldl_nil]
  | cons p ps ih =>
    intro s hs
    have h := ih (round p.1 p.2 s) (round_ok hs)
    rw [round_b, round_c, round_d, round_f, round_g, round_h] at h
    rw [List.map_cons, go_step (plus p) p.1 p.2 _ _ s hs (plus_mod p), h, roundsP_cons]
theorem rounds_take (ws : List Nat) (s : St) (hw : ws.length = 64) (n : Nat) (h : n ≤ 64) : rounds ws n s = roundsP ((Ks.zip ws).take n) s := by
  induction n with
  | zero => simp only [rounds, List.take_zero, roundsP, List.foldl_nil]
  | succ n ih =>
    have hk : Ks.length = 64 := rfl
    have hz : n < (Ks.zip ws).length := by rw [List.length_zip, hk, hw]; omega
    rw [rounds, ih (by omega), List.take_succ_eq_append_getElem hz, roundsP, roundsP, List.foldl_append, List.foldl_cons, List.foldl_nil, List.getElem_zip]
    simp only [List.getD_eq_getElem?_getD, List.getElem?_eq_getElem (show n < Ks.length by omega), List.getElem?_eq_getElem (show n < ws.length by omega), Option.getD_some]
end Sha
end Go.Proofs.YtenaelkbgkpllaaGreatDoor
