/- The statements' own parts: raw numbers, taken one by one. -/
import Derived.Test.YtenaelkbgkpllaaGreatDoorPH
import Derived.Test.YtenaelkbgkpllaaGreatDoorDJ
import Derived.Test.YtenaelkbgkpllaaGreatDoorDAbc
namespace Go.Proofs.YtenaelkbgkpllaaGreatDoor
open Go.RowKit

/-- which of n things a raw number speaks of -/
def pickN (c n : Int) : Int := (if c < 0 then -(c + 1) else c) % n
theorem pickN_range (c n : Int) (h : 0 < n) : 0 ≤ pickN c n ∧ pickN c n < n := ⟨Int.emod_nonneg _ (by omega), Int.emod_lt_of_pos _ h⟩
set_option maxHeartbeats 400000 in
theorem pick_any2 (c n : Int) (w : World) (h0 : -9223372036854775808 ≤ c) (h1 : c ≤ 9223372036854775807) (hn : 0 < n) (hn1 : n ≤ 9223372036854775807) :
    Calls Tryz.prog 13 #[I c, I n] w fun e w' => e = .returned (I (pickN c n)) ∧ w' = w := by
  have hnz : ¬ n = 0 := by omega
  have hr := pickN_range c n hn
  by_cases hc : c < 0
  · have e := hide (show pickN c n = -((c + 1).tmod n) by rw [pickN, if_pos hc, ← Int.neg_tmod, Int.tmod_eq_emod_of_nonneg (by omega)])
    rw [e.out] at hr
    go_enter Tryz.func13, Tryz.ntmps13
    go_wp2
    go_ret
    exact ⟨by rw [e.out]; rfl, rfl⟩
  · have e := hide (show pickN c n = c % n by rw [pickN, if_neg hc])
    rw [e.out] at hr
    go_enter Tryz.func13, Tryz.ntmps13
    go_wp2
    go_ret
    exact ⟨by rw [e.out]; rfl, rfl⟩
/-- raw numbers in a slice; all of it lies below block B -/
structure Raw (w : World) (B d : Nat) (a : Option Addr) (code : List Int) : Prop where
  low : d < B
  len : code.length ≤ 140737488355328
  fits : ∀ x ∈ code, -9223372036854775808 ≤ x ∧ x ≤ 9223372036854775807
  lies : code ≠ [] → ∃ g o, a = some ⟨g, o, none⟩ ∧ g < B ∧ g ≠ d ∧ ∀ i (h : i < code.length), w.cell? ⟨g, o + i, none⟩ = some (I code[i])
/-- the dice: raw numbers, and how many are used up -/
def Dice (w : World) (B d : Nat) (code : List Int) (k : Nat) : Prop := ∃ a c, w.heap[d]? = some (.cells #[.slice a code.length c, I k] 32 (0, 0)) ∧ k ≤ code.length ∧ Raw w B d a code
theorem Dice.lt {w : World} {B d k : Nat} {code : List Int} (h : Dice w B d code k) : d < w.heap.size := by
  obtain ⟨a, c, h, -⟩ := h
  exact (Array.getElem?_eq_some_iff.1 h).1
theorem Dice.low {w : World} {B d k : Nat} {code : List Int} (h : Dice w B d code k) : d < B := by
  obtain ⟨a, c, _, _, h⟩ := h
  exact h.low
theorem row2 {w : World} {g t : Nat} {a b : Value} (h : w.heap[g]? = some (.cells #[a, b] t (0, 0))) : w.cell? ⟨g, 0, none⟩ = some a ∧ w.cell? ⟨g, 1, none⟩ = some b := by
  refine ⟨?_, ?_⟩ <;> rw [cell_of_row _ _ _ _ _ _ h] <;> rfl
theorem Dice.keeps {S : Nat → Prop} {w w' : World} {B d k : Nat} {code : List Int} (h : Dice w B d code k) (hk : Keeps S w w') (hn : ∀ j, j < B → ¬ S j) : Dice w' B d code k := by
  have hl := h.lt
  have hw := h.low
  obtain ⟨a, c, h1, h2, h3⟩ := h
  refine ⟨a, c, (hk.block d hl (hn d hw)).trans h1, h2, h3.low, h3.len, h3.fits, fun hne => ?_⟩
  obtain ⟨g, o, rfl, hgB, hg, hc⟩ := h3.lies hne
  exact ⟨g, o, rfl, hgB, hg, fun i hi => (World.cell?_of_block (w := w) (hk.block g (block_lt_of_cell (hc i hi)) (hn g hgB))).trans (hc i hi)⟩
theorem Dice.step {w : World} {B d k n : Nat} {code : List Int} (h : Dice w B d code k) (hk : k < code.length) : Dice ((w.drewN n).setCell ⟨d, 1, none⟩ (I ((k : Int) + 1))) B d code (k + 1) := by
  obtain ⟨a, c, h1, h2, h3⟩ := h
  refine ⟨a, c, ?_, hk, h3.low, h3.len, h3.fits, fun hne => ?_⟩
  · rw [heap_setCell_same _ d 1 _ _ _ (show (w.drewN n).heap[d]? = _ from h1)]
    rfl
  · obtain ⟨g, o, e, hgB, hgd, hc⟩ := h3.lies hne
    refine ⟨g, o, e, hgB, hgd, fun i hi => ?_⟩
    rw [World.cell?_setCell_other _ _ _ _ (fun e => by injection e with e1 _ _; exact hgd e1.symm)]
    exact hc i hi

set_option maxHeartbeats 1000000 in
theorem next_any (B d : Nat) (code : List Int) (k : Nat) (n : Int) (w : World) (hd : Dice w B d code k) (hn : 0 < n) (hn1 : n ≤ 1000) :
    Calls Tryz.prog 25 #[.pointer (some ⟨d, 0, none⟩), I n] w fun e w' => ∃ r k', e = .returned (I r) ∧ 0 ≤ r ∧ r < n ∧ Dice w' B d code k' ∧ Keeps (fun j => j = d) w w' := by
  have HD := hide hd
  obtain ⟨a, c, hrow, hk, hraw⟩ := hd
  have hlen := hraw.len
  obtain ⟨c0, c1⟩ := row2 hrow
  have hf := fun j => frozen_of_row _ _ j _ _ hrow
  have HR := hide hraw
  have HW := hide hrow
  clear hraw hrow
  by_cases hlt : k < code.length
  · obtain ⟨g, o, rfl, hgB, hgd, hcells⟩ := HR.out.lies (fun e => by subst e; simp at hlt)
    have hx := hcells k hlt
    have hfit := HR.out.fits _ (List.getElem_mem hlt)
    generalize code[k] = x at *
    have hr := pickN_range x n hn
    clear hcells
    go_enter Tryz.func25, Tryz.ntmps25
    go_wp2_with fail
    go_quiet (fail)
    go_wp2_with fail
    generalize hW : World.drewN _ _ = w1
    have e0 : w1.cell? ⟨d, 0, none⟩ = some (.slice (some ⟨g, o, none⟩) code.length c) := by rw [← hW]; exact c0
    have e1 : w1.cell? ⟨d, 1, none⟩ = some (I k) := by rw [← hW]; exact c1
    have ex : w1.cell? ⟨g, o + k, none⟩ = some (I x) := by rw [← hW]; exact hx
    have ef : ∀ j, w1.frozen? ⟨d, j, none⟩ = false := fun j => by rw [← hW]; exact hf j
    have hb1 : Below w.heap.size w w1 := by rw [← hW]; exact ⟨rfl, rfl, rfl, Nat.le_refl _, fun _ _ => rfl⟩
    have HD1 := hide (HD.out.keeps (S := fun _ => False) (Keeps.of_below hb1) (fun _ _ h => h))
    have HB1 := hide hb1
    clear hW c0 c1 hx hf hb1 HW HR HD
    go_quiet ((go_at_call 13; exact Calls.quiet_of_same (pick_any2 x n _ hfit.1 hfit.2 hn (by omega))))
    go_wp2
    go_ret
    exact ⟨pickN x n, k + 1, rfl, hr.1, hr.2, HD1.out.step hlt, (Keeps.of_below HB1.out).trans (S' := fun j => j = d) ⟨rfl, rfl, rfl, by simp, fun j _ hj => heap_setCell_other _ ⟨d, 1, none⟩ j _ hj⟩ (fun _ _ h => h)⟩
  · go_enter Tryz.func25, Tryz.ntmps25
    go_wp2_with fail
    go_quiet (fail)
    go_wp2
    go_ret
    exact ⟨0, k, rfl, by omega, hn, ⟨a, c, HW.out, hk, HR.out.low, HR.out.len, HR.out.fits, HR.out.lies⟩, ⟨rfl, rfl, rfl, Nat.le_refl _, fun j _ _ => rfl⟩⟩
end Go.Proofs.YtenaelkbgkpllaaGreatDoor
