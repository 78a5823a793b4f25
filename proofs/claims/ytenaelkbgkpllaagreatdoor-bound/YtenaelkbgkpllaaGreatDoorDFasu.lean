/- The fast reckoning, block by block. -/
import Derived.Test.YtenaelkbgkpllaaGreatDoorDFast
namespace Go.Proofs.YtenaelkbgkpllaaGreatDoor
namespace Sha
/-- is this the table of a block? -/
def table (l : List UInt8) (ws : List Nat) : Bool :=
  and (Nat.beq ws.length 64) (and ((List.range 16).all fun t => Nat.beq (ws.getD t 0) (word l (4 * t))) ((List.range 48).all fun n => Nat.beq (ws.getD (n + 16) 0) (nextW ws n)))
theorem getD_take {ws : List Nat} {n i : Nat} (h : i < n) : (ws.take n).getD i 0 = ws.getD i 0 := by
  simp [List.getD_eq_getElem?_getD, h]
theorem table_spread (l : List UInt8) (ws : List Nat) (h : table l ws = true) : spreadTo l 48 = ws := by
  simp only [table, Bool.and_eq_true, List.all_eq_true, Nat.beq_eq, List.mem_range] at h
  obtain ⟨h64, h1, h2⟩ := h
  have hf : ∀ n, n ≤ 16 → first l n = ws.take n := by
    intro n
    induction n with
    | zero => intro _; simp [first]
    | succ n ih =>
      intro hn
      rw [first, ih (by omega), List.take_succ_eq_append_getElem (by omega), ← h1 n (by omega)]
      simp only [List.getD_eq_getElem?_getD, List.getElem?_eq_getElem (show n < ws.length by omega), Option.getD_some]
  have hs : ∀ n, n ≤ 48 → spreadTo l n = ws.take (16 + n) := by
    intro n
    induction n with
    | zero => intro _; exact hf 16 (by omega)
    | succ n ih =>
      intro hn
      have e : nextW (ws.take (16 + n)) n = nextW ws n := by
        simp only [nextW, getD_take (show n + 14 < 16 + n by omega), getD_take (show n + 9 < 16 + n by omega), getD_take (show n + 1 < 16 + n by omega), getD_take (show n < 16 + n by omega)]
      rw [spreadTo, ih (by omega), e, ← h2 n (by omega), show 16 + (n + 1) = (16 + n) + 1 by omega, List.take_succ_eq_append_getElem (by omega)]
      rw [show n + 16 = 16 + n by omega]
      simp only [List.getD_eq_getElem?_getD, List.getElem?_eq_getElem (show 16 + n < ws.length by omega), Option.getD_some]
  rw [hs 48 (by omega), List.take_of_length_le (by omega)]
theorem go1_stir (l : List UInt8) (ws kws : List Nat) (q : Nat → Nat → Nat → Nat → Nat → Nat → Nat → Nat → Bool) (s : St) (hs : Ok s) (ht : table l ws = true) (hk : (Ks.zip ws).map plus = kws) :
    go1 kws q s.a s.b s.c s.d s.e s.f s.g s.h = q (stir s l).a (stir s l).b (stir s l).c (stir s l).d (stir s l).e (stir s l).f (stir s l).g (stir s l).h := by
  have e := table_spread l ws ht
  have h64 : ws.length = 64 := by rw [← e, spreadTo_length]
  have hr : rounds ws 64 s = roundsP (Ks.zip ws) s := by
    have := rounds_take ws s h64 64 (by omega)
    rwa [List.take_of_length_le (by rw [List.length_zip, h64]; exact Nat.min_le_right _ _)] at this
  subst hk
  unfold go1
  rw [go_all _ _ s hs]
  simp only [force_eq, mod_add]
  unfold stir
  rw [e, hr]
  unfold add
  dsimp only
def iter {α : Type} (f : α → α) : Nat → α → α
  | 0, s => s
  | n + 1, s => iter f n (f s)
theorem iter_zero {α : Type} (f : α → α) (s : α) : iter f 0 s = s := rfl
theorem iter_succ {α : Type} (f : α → α) (n : Nat) (s : α) : iter f (n + 1) s = iter f n (f s) := rfl
/-- n times the same block -/
def stirs (l : List UInt8) (n : Nat) (s : St) : St := iter (fun s => stir s l) n s
theorem stirs_zero (l : List UInt8) (s : St) : stirs l 0 s = s := by unfold stirs; rw [iter_zero]
theorem stirs_succ (l : List UInt8) (n : Nat) (s : St) : stirs l (n + 1) s = stirs l n (stir s l) := by unfold stirs; rw [iter_succ]
theorem goN_zero (kws : List Nat) (q : Nat → Nat → Nat → Nat → Nat → Nat → Nat → Nat → Bool) : goN kws q 0 = q := rfl
theorem goN_succ (kws : List Nat) (q : Nat → Nat → Nat → Nat → Nat → Nat → Nat → Nat → Bool) (n : Nat) : goN kws q (n + 1) = go1 kws (goN kws q n) := rfl
theorem goN_stirs (l : List UInt8) (ws kws : List Nat) (q : Nat → Nat → Nat → Nat → Nat → Nat → Nat → Nat → Bool) (ht : table l ws = true) (hk : (Ks.zip ws).map plus = kws) : ∀ (n : Nat) (s : St), Ok s →
    goN kws q n s.a s.b s.c s.d s.e s.f s.g s.h = q (stirs l n s).a (stirs l n s).b (stirs l n s).c (stirs l n s).d (stirs l n s).e (stirs l n s).f (stirs l n s).g (stirs l n s).h
  | 0, s, _ => by rw [goN_zero, stirs_zero]
  | n + 1, s, hs => by
    rw [goN_succ, go1_stir l ws kws _ s hs ht hk, goN_stirs l ws kws q ht hk n _ stir_ok, stirs_succ]
theorem isSt_eq {A B C D E F G H : Nat} {s : St} (h : isSt A B C D E F G H s.a s.b s.c s.d s.e s.f s.g s.h = true) : s = ⟨A, B, C, D, E, F, G, H⟩ := by
  simp only [isSt, Bool.and_eq_true, Nat.beq_eq] at h
  obtain ⟨h1, h2, h3, h4, h5, h6, h7, h8⟩ := h
  cases s
  simp only at h1 h2 h3 h4 h5 h6 h7 h8
  subst h1 h2 h3 h4 h5 h6 h7 h8
  rfl
theorem stirs_of (l : List UInt8) (ws kws : List Nat) (n : Nat) (a b c d e f g h A B C D E F G H : Nat) (ht : table l ws = true) (hk : (Ks.zip ws).map plus = kws) (hs : Ok ⟨a, b, c, d, e, f, g, h⟩)
    (hg : goN kws (isSt A B C D E F G H) n a b c d e f g h = true) : stirs l n ⟨a, b, c, d, e, f, g, h⟩ = ⟨A, B, C, D, E, F, G, H⟩ := by
  have := goN_stirs l ws kws (isSt A B C D E F G H) ht hk n ⟨a, b, c, d, e, f, g, h⟩ hs
  exact isSt_eq (this.symm.trans hg)
theorem stirs_add (l : List UInt8) : ∀ (n m : Nat) (s : St), stirs l (n + m) s = stirs l m (stirs l n s)
  | 0, m, s => by rw [Nat.zero_add, stirs_zero]
  | n + 1, m, s => by rw [show n + 1 + m = (n + m) + 1 by omega, stirs_succ, stirs_succ, stirs_add l n m (stir s l)]
end Sha
end Go.Proofs.YtenaelkbgkpllaaGreatDoor
