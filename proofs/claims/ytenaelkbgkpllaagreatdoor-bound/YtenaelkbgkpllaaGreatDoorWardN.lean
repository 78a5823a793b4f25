/- Nodes with what is said of them. -/
import Derived.Test.YtenaelkbgkpllaaGreatDoorWardC
namespace Go.Proofs.YtenaelkbgkpllaaGreatDoor
namespace Ward
/-- a node: points, children, and what is said of it: box, number, digest -/
structure Nd (α : Type) where
  pts : List Pt
  kids : List α
  box : Box
  n : Int
  dig : List UInt8
/-- nodes that are at most so deep -/
@[reducible] def NT : Nat → Type
  | 0 => Empty
  | n + 1 => Nd (NT n)
def boxN : (n : Nat) → NT n → Box
  | 0, t => nomatch t
  | _ + 1, t => Nd.box t
def numN : (n : Nat) → NT n → Int
  | 0, t => nomatch t
  | _ + 1, t => Nd.n t
def digN : (n : Nat) → NT n → List UInt8
  | 0, t => nomatch t
  | _ + 1, t => Nd.dig t
/-- what a node says of a child -/
def saidN (n : Nat) (t : NT n) : List UInt8 := boxText (boxN n t) ++ fourI (numN n t) ++ digN n t
/-- the text of a node of these children -/
def textK (n : Nat) (K : List (NT n)) : List UInt8 := 2 :: UInt8.ofNat K.length :: K.flatMap (saidN n)
/-- a map's tree as nodes -/
def mk (dig : List UInt8 → List UInt8) : (n : Nat) → T n → NT (n + 1)
  | 0, l => ⟨l, [], box 0 l, (List.length (l : List Pt) : Nat), dig (text dig 0 l)⟩
  | n + 1, cs => ⟨[], List.map (mk dig n) (cs : List (T n)), box (n + 1) cs, (count (n + 1) cs : Nat), dig (text dig (n + 1) cs)⟩
theorem mk_box (dig : List UInt8 → List UInt8) : ∀ (n : Nat) (t : T n), boxN (n + 1) (mk dig n t) = box n t
  | 0, _ => rfl
  | _ + 1, _ => rfl
theorem mk_num (dig : List UInt8 → List UInt8) : ∀ (n : Nat) (t : T n), numN (n + 1) (mk dig n t) = (count n t : Nat)
  | 0, _ => rfl
  | _ + 1, _ => rfl
theorem mk_dig (dig : List UInt8 → List UInt8) : ∀ (n : Nat) (t : T n), digN (n + 1) (mk dig n t) = dig (text dig n t)
  | 0, _ => rfl
  | _ + 1, _ => rfl
theorem mk_said (dig : List UInt8 → List UInt8) (n : Nat) (t : T n) : saidN (n + 1) (mk dig n t) = head dig n t := by
  rw [saidN, mk_box, mk_num, mk_dig, head, headText]
theorem mk_text (dig : List UInt8 → List UInt8) (n : Nat) (cs : List (T n)) : textK (n + 1) (cs.map (mk dig n)) = text dig (n + 1) cs := by
  rw [text_succ, textK, List.length_map, List.flatMap_map]
  congr 2
  rw [List.flatMap_def, List.flatMap_def]
  congr 1
  exact List.map_congr_left fun c _ => mk_said dig n c
end Ward
end Go.Proofs.YtenaelkbgkpllaaGreatDoor
