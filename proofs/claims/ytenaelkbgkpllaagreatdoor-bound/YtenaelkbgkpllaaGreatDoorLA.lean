/- A map filled beside others. -/
import Derived.Test.YtenaelkbgkpllaaGreatDoorKF
import Derived.Test.YtenaelkbgkpllaaGreatDoorWardC
namespace Go.Proofs.YtenaelkbgkpllaaGreatDoor
open Go.RowKit

theorem Own.zero {w : World} {B : Nat} {v : Value} {L : List Ward.Pt} (h : Own w B v L) : Own w 0 v L := by
  refine ⟨h.1, ?_⟩
  rcases h.2 with h0 | ⟨g, cap, cur, rfl, hb, r⟩
  · exact .inl h0
  · exact .inr ⟨g, cap, cur, rfl, Nat.zero_le _, r⟩
/-- a map and a list, made anew, all else as it was -/
structure Fill (w w' : World) (m : Nat) (v : Value) (L : List Ward.Pt) (vl : Value) (l : List Ward.Pt) : Prop where
  map : IsMap w' m v L
  good : Good L
  list : Own w' w.heap.size vl l
  newm : w.heap.size ≤ m
  newv : ∀ g, v.ownBlock = some g → w.heap.size ≤ g
  apart : ∀ g, vl.ownBlock = some g → ¬ Mine m v g
  keeps : Below w.heap.size w w'
section
variable {w w' w'' : World} {m : Nat} {v v' vl vl' : Value} {L L' l l' : List Ward.Pt}
theorem Fill.below (h : Fill w w' m v L vl l) (hb : Below w'.heap.size w' w'') : Fill w w'' m v L vl l :=
  ⟨h.map.below hb, h.good, h.list.below hb, h.newm, h.newv, h.apart, h.keeps.trans (hb.mono h.keeps.size)⟩
theorem keeps_new {S : Nat → Prop} (h : Below w.heap.size w w') (hk : Keeps S w' w'') (hS : ∀ j, S j → w.heap.size ≤ j) : Below w.heap.size w w'' :=
  ⟨hk.os.trans h.os, hk.tape.trans h.tape, hk.output.trans h.output, Nat.le_trans h.size hk.size, fun j hj => (hk.block j (Nat.lt_of_lt_of_le hj h.size) (fun e => by have := hS j e; omega)).trans (h.block j hj)⟩
theorem Fill.insert (h : Fill w w' m v L vl l) (hm : IsMap w'' m v' L') (hG : Good L') (hf : Fresh w' v v') (hk : Keeps (Mine m v) w' w'') : Fill w w'' m v' L' vl l := by
  have h2 := h.keeps.size
  refine ⟨hm, hG, h.list.keeps hk h.apart, h.newm, fun g hg => ?_, fun g hg e => ?_, keeps_new h.keeps hk (fun j e => ?_)⟩
  · rcases hf with hf | ⟨g', hf, hg'⟩
    · exact h.newv g (by rw [← hf]; exact hg)
    · rw [hg] at hf; injection hf with hf; omega
  · rcases e with rfl | e
    · exact h.apart g hg (.inl rfl)
    · rcases hf with hf | ⟨g', hf, hg'⟩
      · exact h.apart g hg (.inr (by rw [← hf]; exact e))
      · rw [← e] at hf
        injection hf with hf
        have := h.list.lt hg
        omega
  · rcases e with rfl | e
    · exact h.newm
    · exact h.newv j e.symm
theorem Fill.append (h : Fill w w' m v L vl l) (ho : Own w'' w.heap.size vl' l') (hg : w'.grownBy w'' vl.ownBlock) (hf : Fresh w' vl vl') : Fill w w'' m v L vl' l' := by
  have hk := Keeps.of_grown hg
  refine ⟨h.map.keeps hk (fun j hj e => h.apart j e.symm hj), h.good, ho, h.newm, h.newv, fun g hg' e => ?_, keeps_new h.keeps hk (fun j e => h.list.ge e.symm)⟩
  rcases hf with hf | ⟨g', hf, hg''⟩
  · exact h.apart g (by rw [← hf]; exact hg') e
  · rw [hg'] at hf
    injection hf with hf
    have hlt : g < w'.heap.size := by
      rcases e with rfl | e
      · exact h.map.lt
      · exact h.map.own.lt e.symm
    omega
end
/-- the query that has all shown, where it is laid -/
def WT (w : World) : Prop := w.cell? ⟨0, 0, none⟩ = some (I 0) ∧ w.cell? ⟨0, 1, none⟩ = some (I (-1000000)) ∧ w.cell? ⟨0, 2, none⟩ = some (I (-1000000)) ∧ w.cell? ⟨0, 3, none⟩ = some (I 1000000) ∧ w.cell? ⟨0, 4, none⟩ = some (I 1000000) ∧ w.cell? ⟨0, 5, none⟩ = some (I 0) ∧ w.cell? ⟨0, 6, none⟩ = some (I 0) ∧ w.cell? ⟨0, 7, none⟩ = some (I 0)
theorem WT.below {w w' : World} (h : WT w) (hb : Below w.heap.size w w') : WT w' := by
  obtain ⟨h0, h1, h2, h3, h4, h5, h6, h7⟩ := h
  have hl : 0 < w.heap.size := block_lt_of_cell h0
  exact ⟨(hb.cell (p := ⟨0, 0, none⟩) hl).trans h0, (hb.cell (p := ⟨0, 1, none⟩) hl).trans h1, (hb.cell (p := ⟨0, 2, none⟩) hl).trans h2, (hb.cell (p := ⟨0, 3, none⟩) hl).trans h3, (hb.cell (p := ⟨0, 4, none⟩) hl).trans h4, (hb.cell (p := ⟨0, 5, none⟩) hl).trans h5, (hb.cell (p := ⟨0, 6, none⟩) hl).trans h6, (hb.cell (p := ⟨0, 7, none⟩) hl).trans h7⟩
/-- two maps and lists of their points -/
structure Pair (w : World) (m : Nat) (v : Value) (L : List Ward.Pt) (vl : Value) (l : List Ward.Pt) : Prop where
  map : IsMap w m v L
  good : Good L
  list : Own w 0 vl l
  perm : L.Perm l
theorem Pair.below {w w' : World} {m : Nat} {v vl : Value} {L l : List Ward.Pt} (h : Pair w m v L vl l) (hb : Below w.heap.size w w') : Pair w' m v L vl l := ⟨h.map.below hb, h.good, h.list.below hb, h.perm⟩
theorem Held.pair {B : Nat} {w w' : World} {d k m : Nat} {code : List Int} {v vl : Value} {L l : List Ward.Pt} (h : Held B w w' d code k m v L vl l) (hp : L.Perm l) : Pair w' m v L vl l := ⟨h.map, h.good, h.list.zero, hp⟩
theorem Fill.pair {w w' : World} {m : Nat} {v vl : Value} {L l : List Ward.Pt} (h : Fill w w' m v L vl l) (hp : L.Perm l) : Pair w' m v L vl l := ⟨h.map, h.good, h.list.zero, hp⟩
/-- the dice as they are laid -/
theorem dice_new {w : World} {a : Option Addr} {c : Nat} {code : List Int} (hlen : code.length ≤ 140737488355328) (hfit : ∀ x ∈ code, -9223372036854775808 ≤ x ∧ x ≤ 9223372036854775807) (hcells : code ≠ [] → ∃ g o, a = some ⟨g, o, none⟩ ∧ ∀ i (h : i < code.length), w.cell? ⟨g, o + i, none⟩ = some (I code[i])) :
    Dice (w.alloc (.cells #[.slice a code.length c, I 0] 32)) (w.heap.size + 1) w.heap.size code 0 := by
  refine ⟨a, c, heap_alloc_new w _, Nat.zero_le _, Nat.lt_succ_self _, hlen, hfit, fun hne => ?_⟩
  obtain ⟨g, o, rfl, hc⟩ := hcells hne
  have hg : g < w.heap.size := block_lt_of_cell (hc 0 (by have : code.length ≠ 0 := fun e => hne (List.length_eq_zero_iff.1 e); omega))
  exact ⟨g, o, rfl, by omega, by omega, fun i hi => (World.cell?_alloc_lt w _ ⟨g, o + i, none⟩ hg).trans (hc i hi)⟩
end Go.Proofs.YtenaelkbgkpllaaGreatDoor
