/- A point put into a map. -/
import Derived.Test.YtenaelkbgkpllaaGreatDoorPF
namespace Go.Proofs.YtenaelkbgkpllaaGreatDoor
open Go.RowKit

/-- but for some blocks all is as it was -/
structure Keeps (S : Nat → Prop) (w w' : World) : Prop where
  os : w'.os = w.os
  tape : w'.tape = w.tape
  output : w'.output = w.output
  size : w.heap.size ≤ w'.heap.size
  block : ∀ k, k < w.heap.size → ¬ S k → w'.heap[k]? = w.heap[k]?
theorem Keeps.refl (S : Nat → Prop) (w : World) : Keeps S w w := ⟨rfl, rfl, rfl, Nat.le_refl _, fun _ _ _ => rfl⟩
theorem Keeps.trans {S S' : Nat → Prop} {a b c : World} (h : Keeps S a b) (k : Keeps S' b c) (hs : ∀ j, j < a.heap.size → S' j → S j) : Keeps S a c :=
  ⟨k.os.trans h.os, k.tape.trans h.tape, k.output.trans h.output, Nat.le_trans h.size k.size, fun j hj hn => (k.block j (Nat.lt_of_lt_of_le hj h.size) (fun e => hn (hs j hj e))).trans (h.block j hj hn)⟩
theorem Keeps.mono {S S' : Nat → Prop} {a b : World} (h : Keeps S a b) (hs : ∀ j, j < a.heap.size → S j → S' j) : Keeps S' a b :=
  ⟨h.os, h.tape, h.output, h.size, fun j hj hn => h.block j hj (fun e => hn (hs j hj e))⟩
theorem Keeps.of_below {S : Nat → Prop} {a b : World} (h : Below a.heap.size a b) : Keeps S a b := ⟨h.os, h.tape, h.output, h.size, fun j hj _ => h.block j hj⟩
theorem Keeps.of_grown {a b : World} {row : Option Nat} (h : a.grownBy b row) : Keeps (fun k => some k = row) a b := ⟨h.os, h.tape, h.output, h.size, fun j hj hn => h.block j hj hn⟩
theorem Keeps.below {a b : World} (h : Keeps (fun _ => False) a b) : Below a.heap.size a b := ⟨h.os, h.tape, h.output, h.size, fun j hj => h.block j hj (fun e => e)⟩

theorem P3_at (L : List Ward.Pt) (i : Nat) (h : i < L.length) : (L.flatMap P3)[i * 3]? = some (I L[i].id) ∧ (L.flatMap P3)[i * 3 + 1]? = some (I L[i].x) ∧ (L.flatMap P3)[i * 3 + 2]? = some (I L[i].y) := by
  have e : ∀ j, (L.flatMap P3)[i * 3 + j]? = ((L.drop i).flatMap P3)[j]? := fun j => by rw [← cells_drop, List.getElem?_drop]
  have hd : L.drop i = L[i] :: L.drop (i + 1) := by rw [List.drop_eq_getElem_cons h]
  have e0 := e 0
  rw [Nat.add_zero] at e0
  rw [e0, e 1, e 2, hd]
  exact ⟨rfl, rfl, rfl⟩
theorem Own.reads {w : World} {B : Nat} {v : Value} {L : List Ward.Pt} (h : Own w B v L) : Reads w v L := by
  rcases h.2 with ⟨rfl, h0⟩ | ⟨g, c, cur, rfl, _⟩
  · have e : L = [] := by simpa using h0
    subst e
    exact ⟨none, 0, rfl, fun k => absurd rfl k⟩
  · refine ⟨_, c, rfl, fun _ => ⟨g, 0, rfl, fun i hi => ?_⟩⟩
    have hc := h.cells (g := g) rfl
    obtain ⟨h1, h2, h3⟩ := P3_at L i hi
    have a1 := hc _ _ h1
    have a2 := hc _ _ h2
    have a3 := hc _ _ h3
    rw [Addr.add_lit] at a1 a2 a3
    exact ⟨a1, a2, a3⟩
theorem Own.keeps {S : Nat → Prop} {w w' : World} {B : Nat} {v : Value} {L : List Ward.Pt} (h : Own w B v L) (hk : Keeps S w w') (hn : ∀ g, v.ownBlock = some g → ¬ S g) : Own w' B v L := by
  refine ⟨h.1, ?_⟩
  rcases h.2 with h0 | ⟨g, cap, cur, rfl, hb, hg, r⟩
  · exact .inl h0
  · exact .inr ⟨g, cap, cur, rfl, hb, (hk.block g (Array.getElem?_eq_some_iff.1 hg).1 (hn g rfl)).trans hg, r⟩
theorem Own.lt {w : World} {B g : Nat} {v : Value} {L : List Ward.Pt} (h : Own w B v L) (hg : v.ownBlock = some g) : g < w.heap.size := (World.ownsRow.lt h g hg).2
/-- a map: its block, its points' list -/
structure IsMap (w : World) (m : Nat) (v : Value) (L : List Ward.Pt) : Prop where
  row : w.heap[m]? = some (.cells #[v] 79 (0, 0))
  own : Own w 0 v L
  apart : v.ownBlock ≠ some m
/-- a map's points are as they must be -/
structure Good (L : List Ward.Pt) : Prop where
  sorted : Ward.Sorted L
  ids : Ward.Ids L
  ok : ∀ p ∈ L, p.Ok
  many : L.length ≤ 150
/-- a map's own blocks -/
def Mine (m : Nat) (v : Value) (k : Nat) : Prop := k = m ∨ some k = v.ownBlock
theorem IsMap.lt {w : World} {m : Nat} {v : Value} {L : List Ward.Pt} (h : IsMap w m v L) : m < w.heap.size := (Array.getElem?_eq_some_iff.1 h.row).1
theorem IsMap.keeps {S : Nat → Prop} {w w' : World} {m : Nat} {v : Value} {L : List Ward.Pt} (h : IsMap w m v L) (hk : Keeps S w w') (hn : ∀ k, Mine m v k → ¬ S k) : IsMap w' m v L :=
  ⟨(hk.block m h.lt (hn m (.inl rfl))).trans h.row, h.own.keeps hk (fun g hg => hn g (.inr hg.symm)), h.apart⟩

set_option maxHeartbeats 400000 in
theorem new_any (w : World) :
    Calls Tryz.prog 14 #[] w fun e w' => e = .returned (.pointer (some ⟨w.heap.size, 0, none⟩)) ∧ IsMap w' w.heap.size (.slice none 0 0) [] ∧ w'.heap.size = w.heap.size + 1 ∧ Below w.heap.size w w' := by
  go_enter Tryz.func14, Tryz.ntmps14
  go_wp2
  go_ret
  exact ⟨rfl, ⟨heap_alloc_new w _, World.ownsRow_nil _ _ _ _, by simp [Value.ownBlock]⟩, by simp, (Below.refl w.heap.size w).alloc (Nat.le_refl _) _⟩

/-- what Insert says, and what is there then -/
def insCode (L : List Ward.Pt) (p : Ward.Pt) : Int :=
  if ¬ (1 ≤ p.id ∧ p.id ≤ 1000000) then 1 else if ¬ (-1000000 ≤ p.x ∧ p.x ≤ 1000000) ∨ ¬ (-1000000 ≤ p.y ∧ p.y ≤ 1000000) then 2
  else if ∃ q ∈ L, q.id = p.id then 3 else if 150 ≤ L.length then 5 else 0
def insList (L : List Ward.Pt) (p : Ward.Pt) : List Ward.Pt := if insCode L p = 0 then Ward.ins p L else L
end Go.Proofs.YtenaelkbgkpllaaGreatDoor
