/- Nodes as they lie: their points, their children, what is said of them. -/
import Derived.Test.YtenaelkbgkpllaaGreatDoorTI
import Derived.Test.YtenaelkbgkpllaaGreatDoorWardD
namespace Go.Proofs.YtenaelkbgkpllaaGreatDoor
open Go.RowKit

theorem childT_said (b : Ward.Box) (n : Int) (D : List UInt8) : childT b n D = Ward.boxText b ++ Ward.fourI n ++ D := by
  simp [childT, nums, Ward.boxText]
/-- a list of rows of 39 cells, each as P says, in a block of S -/
def RowsAt {α : Type} (P : α → List Value → Prop) (w : World) (S : Nat → Prop) (v : Value) (K : List α) : Prop :=
  ∃ (a : Option Addr) (c : Nat), v = .slice a K.length c ∧ (K ≠ [] → ∃ g o, a = some ⟨g, o, none⟩ ∧ S g ∧ ∀ i (h : i < K.length), ∃ U, P K[i] U ∧ w.rangeAt g (o + i * 39) U)
/-- points that are read, in a block of S -/
def ReadsS (w : World) (S : Nat → Prop) (v : Value) (L : List Ward.Pt) : Prop := ∃ (a : Option Addr) (c : Nat), v = .slice a L.length c ∧ (L ≠ [] → ∃ g o, a = some ⟨g, o, none⟩ ∧ S g ∧ ∀ i (h : i < L.length), PtAt w g (o + i * 3) L[i])
/-- the cells are those of this node, all that it reaches in blocks of S -/
def NodeIs (w : World) (S : Nat → Prop) : (n : Nat) → Ward.NT n → List Value → Prop
  | 0, t, _ => nomatch t
  | n + 1, t, V => ∃ vp vc, V = nodeV vp vc (Ward.Nd.box t) (Ward.Nd.n t) ((Ward.Nd.dig t).map Y) ∧ (Ward.Nd.dig t).length = 32 ∧ ReadsS w S vp (Ward.Nd.pts t) ∧ RowsAt (NodeIs w S n) w S vc (Ward.Nd.kids t)
theorem rangeAt_block {w w' : World} {g o : Nat} {U : List Value} (h : w.rangeAt g o U) (hb : w'.heap[g]? = w.heap[g]?) : w'.rangeAt g o U := fun j v hv =>
  (World.cell?_of_block (w := w) (a := ⟨g, o + j, none⟩) hb).trans (h j v hv)
theorem rangeAt_below {w w' : World} {B g o : Nat} {U : List Value} (h : w.rangeAt g o U) (hb : Below B w w') (hg : g < B) : w'.rangeAt g o U := rangeAt_block h (hb.block g hg)
/-- blocks of S are as they were -/
def Same (S : Nat → Prop) (w w' : World) : Prop := ∀ g, S g → w'.heap[g]? = w.heap[g]?
theorem below_same {w w' : World} {B : Nat} {S : Nat → Prop} (h : Below B w w') (hS : ∀ g, S g → g < B) : Same S w w' := fun g hg => h.block g (hS g hg)
theorem ReadsS.keep {w w' : World} {S S' : Nat → Prop} {v : Value} {L : List Ward.Pt} (h : ReadsS w S v L) (hk : Same S w w') (hS : ∀ g, S g → S' g) : ReadsS w' S' v L := by
  obtain ⟨a, c, rfl, hr⟩ := h
  refine ⟨a, c, rfl, fun hne => ?_⟩
  obtain ⟨g, o, e, hg, hp⟩ := hr hne
  exact ⟨g, o, e, hS g hg, fun i hi => (hp i hi).block (hk g hg)⟩
theorem ReadsS.low {w : World} {S : Nat → Prop} {B : Nat} {v : Value} {L : List Ward.Pt} (h : ReadsS w S v L) (hS : ∀ g, S g → g < B) : ReadsB w B v L := by
  obtain ⟨a, c, rfl, hr⟩ := h
  refine ⟨a, c, rfl, fun hne => ?_⟩
  obtain ⟨g, o, e, hg, hp⟩ := hr hne
  exact ⟨g, o, e, hS g hg, hp⟩
theorem RowsAt.keep {α : Type} {P Q : α → List Value → Prop} {w w' : World} {S S' : Nat → Prop} {v : Value} {K : List α} (h : RowsAt P w S v K) (hk : Same S w w') (hS : ∀ g, S g → S' g) (hP : ∀ t U, P t U → Q t U) : RowsAt Q w' S' v K := by
  obtain ⟨a, c, rfl, hr⟩ := h
  refine ⟨a, c, rfl, fun hne => ?_⟩
  obtain ⟨g, o, e, hg, hp⟩ := hr hne
  exact ⟨g, o, e, hS g hg, fun i hi => by
    obtain ⟨U, hU, hc⟩ := hp i hi
    exact ⟨U, hP _ _ hU, rangeAt_block hc (hk g hg)⟩⟩
theorem NodeIs.keep {w w' : World} {S S' : Nat → Prop} (hk : Same S w w') (hS : ∀ g, S g → S' g) : ∀ (n : Nat) (t : Ward.NT n) (V : List Value), NodeIs w S n t V → NodeIs w' S' n t V
  | 0, t, _, _ => nomatch t
  | n + 1, t, V, h => by
    obtain ⟨vp, vc, rfl, hd, hp, hc⟩ := h
    exact ⟨vp, vc, rfl, hd, hp.keep hk hS, hc.keep hk hS (NodeIs.keep hk hS n)⟩
/-- the cells of a node, whatever it is -/
theorem NodeIs.cells {w : World} {S : Nat → Prop} {n : Nat} {t : Ward.NT n} {V : List Value} (h : NodeIs w S n t V) : ∃ a l c a' l' c', V = nodeV (.slice a l c) (.slice a' l' c') (Ward.boxN n t) (Ward.numN n t) ((Ward.digN n t).map Y) ∧ (Ward.digN n t).length = 32 := by
  cases n with
  | zero => exact nomatch t
  | succ n =>
    obtain ⟨vp, vc, rfl, hd, ⟨a, c, rfl, -⟩, ⟨a', c', rfl, -⟩⟩ := h
    exact ⟨a, _, c, a', _, c', rfl, hd⟩
end Go.Proofs.YtenaelkbgkpllaaGreatDoor
