/- Part 27 of what the claims on Bound, Small, Right and Sole rest on. -/
import Derived.Test.YtenaelkbgkpllaaGreatDoorKeep03
/- What makes an answer right, whatever order the points stand in. -/
namespace Go.Proofs.YtenaelkbgkpllaaGreatDoor
namespace Ward
structure RightIs (q : Qr) (a l : List Pt) : Prop where
  mem : ∀ p ∈ a, p ∈ l
  win : q.kind = 0 → a.Pairwise lt ∧ ∀ p ∈ l, (p ∈ a ↔ inB (window q) p = true)
  near : q.kind = 1 → a.Pairwise (nr q.x q.y) ∧ (∀ p ∈ l, p ∉ a → ∀ z, a.getLast? = some z → nr q.x q.y z p) ∧ (a.length : Int) = min (l.length : Int) q.k
theorem right_ans {q : Qr} {L l : List Pt} (hq : mayBe q = true) (h : L.Perm l) (hi : Ids L) : RightIs q (ans q L) l := by
  have hk : q.kind = 0 ∨ q.kind = 1 := by
    unfold mayBe at hq
    by_cases h0 : q.kind = 0
    · exact .inl h0
    · by_cases h1 : q.kind = 1
      · exact .inr h1
      · rw [if_neg h0, if_neg h1] at hq; cases hq
  rcases hk with hk | hk
  · have e : ans q L = sortP (L.filter (inB (window q))) := by unfold ans; rw [if_neg (by omega)]
    have hm : ∀ p, p ∈ ans q L ↔ p ∈ L ∧ inB (window q) p = true := fun p => by
      rw [e, (sortP_perm _).mem_iff, List.mem_filter]
    refine ⟨fun p hp => h.mem_iff.1 ((hm p).1 hp).1, fun _ => ⟨?_, fun p hp => ?_⟩, fun h1 => by omega⟩
    · rw [e]; exact sortP_sorted (ids_sub List.filter_sublist hi)
    · rw [hm]
      exact ⟨fun h => h.2, fun k => ⟨h.mem_iff.2 hp, k⟩⟩
  · have e : ans q L = (sortN q.x q.y L).take q.k.toNat := by unfold ans; rw [if_pos hk]
    have hkk : 1 ≤ q.k := by
      unfold mayBe at hq
      rw [if_neg (by omega), if_pos hk] at hq
      simp only [Bool.and_eq_true, decide_eq_true_eq] at hq
      exact hq.1.2
    refine ⟨fun p hp => ?_, fun h0 => by omega, fun _ => ⟨?_, fun p hp hn z hz => ?_, ?_⟩⟩
    · rw [e] at hp
      exact h.mem_iff.1 ((sortN_perm q.x q.y L).mem_iff.1 (List.mem_of_mem_take hp))
    · rw [e]; exact (sortN_sorted hi).sublist (List.take_sublist _ _)
    · rw [e] at hn hz
      exact behind hi q.k.toNat (h.mem_iff.2 hp) hn z (List.mem_of_getLast? hz)
    · rw [e, List.length_take, (sortN_perm q.x q.y L).length_eq, h.length_eq]
      omega
/-- how far, as a statement reckons it -/
def far (p : Pt) (x y : Int) : Int := (p.x - x) * (p.x - x) + (p.y - y) * (p.y - y)
theorem gap_sq (a x : Int) : gap a a x * gap a a x = (a - x) * (a - x) := by
  unfold gap
  by_cases h : x ≤ a
  · rw [show max (max (a - x) 0) (x - a) = a - x by omega]
  · rw [show max (max (a - x) 0) (x - a) = -(a - x) by omega, Int.neg_mul_neg]
theorem far_dist (p : Pt) (x y : Int) : distP p x y = far p x y := by
  show gap p.x p.x x * gap p.x p.x x + gap p.y p.y y * gap p.y p.y y = _
  rw [gap_sq, gap_sq]
  rfl
end Ward
end Go.Proofs.YtenaelkbgkpllaaGreatDoor
