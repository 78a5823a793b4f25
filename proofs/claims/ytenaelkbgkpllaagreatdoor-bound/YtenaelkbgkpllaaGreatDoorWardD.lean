/- Proofs and windows over nodes; a map's tree has no empty node. -/
import Derived.Test.YtenaelkbgkpllaaGreatDoorWardN
namespace Go.Proofs.YtenaelkbgkpllaaGreatDoor
namespace Ward
/-- no node without children -/
def NE : (n : Nat) → T n → Prop
  | 0, _ => True
  | n + 1, cs => (cs : List (T n)) ≠ [] ∧ Each (NE n) (cs : List (T n))
theorem tree_ne (l : List Pt) : NE (tree l).1 (tree l).2 :=
  (climb_all (P := NE) (fun _ ls hs g hg => ⟨(fours_small ls g hg).2, fun c hc => hs c (fours_mem hg c hc)⟩) (l.length + 2) 0 (leaves l) (leaves_ne l) (leaves_lt l) (fun _ _ => trivial)).1
/-- two boxes have a place in common -/
def meets (p q : Box) : Bool := decide (p.a ≤ q.c) && decide (q.a ≤ p.c) && decide (p.b ≤ q.d) && decide (q.b ≤ p.d)
/-- the proof of what is below a node -/
def proofN (must : Box → Bool) : (n : Nat) → NT n → List UInt8
  | 0, t => nomatch t
  | n + 1, t => if (Nd.kids t).length = 0 then leafText (Nd.pts t) else 2 :: UInt8.ofNat (Nd.kids t).length :: (Nd.kids t).flatMap fun c => saidN n c ++ (if must (boxN n c) then 1 :: proofN must n c else [0])
/-- the points below a node that lie in a box -/
def withinN (b : Box) : (n : Nat) → NT n → List Pt
  | 0, t => nomatch t
  | n + 1, t => (Nd.pts t).filter (fun p => meets b (boxOf p)) ++ (Nd.kids t).flatMap fun c => if meets b (boxN n c) then withinN b n c else []
theorem flatMap_congr {α β : Type} {f g : α → List β} : ∀ {l : List α}, (∀ x ∈ l, f x = g x) → l.flatMap f = l.flatMap g
  | [], _ => rfl
  | x :: l, h => by rw [List.flatMap_cons, List.flatMap_cons, h x (by simp), flatMap_congr fun y hy => h y (by simp [hy])]
theorem mk_proof (dig : List UInt8 → List UInt8) (must : Box → Bool) : ∀ (n : Nat) (t : T n), NE n t → proofN must (n + 1) (mk dig n t) = proof dig must n t
  | 0, _, _ => rfl
  | n + 1, cs, h => by
    have hne : (cs.map (mk dig n)).length ≠ 0 := by
      rw [List.length_map]
      exact fun e => h.1 (List.length_eq_zero_iff.1 e)
    show (if (cs.map (mk dig n)).length = 0 then _ else 2 :: UInt8.ofNat (cs.map (mk dig n)).length :: (cs.map (mk dig n)).flatMap fun c => saidN (n + 1) c ++ (if must (boxN (n + 1) c) then 1 :: proofN must (n + 1) c else [0])) = 2 :: UInt8.ofNat (List.length cs) :: List.flatMap (fun c => head dig n c ++ (if must (box n c) then 1 :: proof dig must n c else [0])) cs
    rw [if_neg hne, List.length_map, List.flatMap_map]
    congr 2
    refine flatMap_congr fun c hc => ?_
    rw [mk_said, mk_box, mk_proof dig must n c (h.2 c hc)]
/-- bounds on what is said of a node and those below it -/
def OkN : (n : Nat) → NT n → Prop
  | 0, t => nomatch t
  | n + 1, t => (Nd.box t).In ∧ 0 ≤ Nd.n t ∧ Nd.n t ≤ 1000000 ∧ (Nd.pts t).length ≤ 4 ∧ (Nd.kids t).length ≤ 4 ∧ Each Pt.Ok (Nd.pts t) ∧ Each (OkN n) (Nd.kids t)
end Ward
end Go.Proofs.YtenaelkbgkpllaaGreatDoor
