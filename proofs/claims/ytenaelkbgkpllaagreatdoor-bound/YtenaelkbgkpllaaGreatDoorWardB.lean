/- How long the texts of a tree are, and how many. -/
import Derived.Test.YtenaelkbgkpllaaGreatDoorWard
namespace Go.Proofs.YtenaelkbgkpllaaGreatDoor
namespace Ward
theorem heads_le : ∀ (cs : List (List UInt8)), (∀ c ∈ cs, c.length = 52) → cs.flatten.length = 52 * cs.length
  | [], _ => rfl
  | c :: cs, h => by rw [List.flatten_cons, List.length_append, heads_le cs (fun d hd => h d (by simp [hd])), h c (by simp), List.length_cons]; omega
theorem alls_small : ∀ (n : Nat) (t : PT n), WF n t → ∀ a ∈ alls n t, a.length ≤ 300
  | 0, t, _ => nomatch t
  | n + 1, .leaf b, ⟨k, hk, hb⟩ => by
    intro a ha
    have e : a = 1 :: UInt8.ofNat (b.length / 12) :: b := by simpa [alls] using ha
    rw [e]; simp; omega
  | n + 1, .node cs, ⟨h4, he⟩ => by
    intro a ha
    have ha' : a ∈ cs.flatMap (fun c : List UInt8 × (UInt8 ⊕ PT n) => match c.2 with | .inl _ => [] | .inr t => alls n t) ++ [2 :: UInt8.ofNat cs.length :: cs.flatMap (fun c => c.1)] := ha
    rcases List.mem_append.1 ha' with ha | ha
    · obtain ⟨⟨h, x⟩, hc, ha⟩ := List.mem_flatMap.1 ha
      have hx := he (h, x) hc
      cases x with
      | inl f => simp at ha
      | inr t => exact alls_small n t hx.2 a ha
    · rw [List.mem_singleton.1 ha]
      have := heads_le (cs.map (fun c => c.1)) (fun d hd => by obtain ⟨c, hc, rfl⟩ := List.mem_map.1 hd; exact (he c hc).1)
      rw [← List.flatMap_def, List.length_map] at this
      simp only [List.length_cons]
      omega
theorem texts_few (dig : List UInt8 → List UInt8) : ∀ (n : Nat) (t : T n), Small n t → (texts dig n t).length ≤ 5 ^ n
  | 0, _, _ => by simp [texts]
  | n + 1, cs, h => by
    show (List.flatMap (texts dig n) cs ++ [_]).length ≤ _
    have key : ∀ (l : List (T n)), (∀ c ∈ l, Small n c) → (List.flatMap (texts dig n) l).length ≤ 5 ^ n * l.length := by
      intro l
      induction l with
      | nil => intro _; simp
      | cons c l ih =>
        intro hl
        rw [List.flatMap_cons, List.length_append, List.length_cons]
        have h1 := texts_few dig n c (hl c (by simp))
        have h2 := ih (fun d hd => hl d (by simp [hd]))
        rw [Nat.mul_succ]; omega
    have h1 := key cs h.2
    have h2 : 5 ^ n * List.length cs ≤ 5 ^ n * 4 := Nat.mul_le_mul_left _ h.1
    have h3 : 1 ≤ 5 ^ n := Nat.one_le_pow _ _ (by decide)
    rw [List.length_append, Nat.pow_succ]
    simp only [List.length_singleton]
    omega
end Ward
end Go.Proofs.YtenaelkbgkpllaaGreatDoor
