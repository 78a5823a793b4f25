/- The whole text of a tree tells its points; two trees of one digest show two texts of one. -/
import Derived.Test.YtenaelkbgkpllaaGreatDoorWardB
namespace Go.Proofs.YtenaelkbgkpllaaGreatDoor
namespace Ward
theorem sorted_sub : ∀ {L L' : List Pt}, Sorted L → Sorted L' → (∀ p ∈ L, p ∈ L') → L.Sublist L'
  | [], L', _, _, _ => List.nil_sublist _
  | a :: L, [], _, _, h => absurd (h a (by simp)) (by simp)
  | a :: L, b :: L', hs, hs', h => by
    obtain ⟨h1, h2⟩ := List.pairwise_cons.1 hs
    obtain ⟨h3, h4⟩ := List.pairwise_cons.1 hs'
    by_cases e : a = b
    · subst e
      refine List.Sublist.cons_cons _ (sorted_sub h2 h4 fun p hp => ?_)
      rcases List.mem_cons.1 (h p (by simp [hp])) with e | hp'
      · subst e; exact absurd (h1 p hp) (lt_irrefl p)
      · exact hp'
    · refine List.Sublist.cons _ (sorted_sub hs h4 fun p hp => ?_)
      have ha : a ∈ L' := by
        rcases List.mem_cons.1 (h a (by simp)) with e' | h'
        · exact absurd e' e
        · exact h'
      have hb : lt b a := h3 a ha
      rcases List.mem_cons.1 (h p hp) with e' | hp'
      · subst e'
        rcases List.mem_cons.1 hp with e'' | hp''
        · exact absurd e''.symm e
        · exact absurd (lt_trans hb (h1 p hp'')) (lt_irrefl p)
      · exact hp'
/-- the lists have the same points, as the statement looks at it -/
theorem alike_iff {L L' l k : List Pt} (hs : Sorted L) (hs' : Sorted L') (hl : L.Perm l) (hk : L'.Perm k) : (l.length = k.length ∧ ∀ p ∈ l, p ∈ k) ↔ L = L' := by
  constructor
  · rintro ⟨h1, h2⟩
    refine (sorted_sub hs hs' fun p hp => hk.mem_iff.2 (h2 p (hl.mem_iff.1 hp))).eq_of_length ?_
    rw [hl.length_eq, hk.length_eq, h1]
  · rintro rfl
    exact ⟨hl.length_eq.symm.trans hk.length_eq, fun p hp => hk.mem_iff.1 (hl.mem_iff.2 hp)⟩
section
variable (dig : List UInt8 → List UInt8)
def rootText (L : List Pt) : List UInt8 := text dig (tree L).1 (tree L).2
def fullText (L : List Pt) : List UInt8 := full dig (tree L).1 (tree L).2
def rootShow (L : List Pt) : PT ((tree L).1 + 1) := emb dig (tree L).1 (tree L).2
end
section
variable {dig : List UInt8 → List UInt8} (hd : ∀ l, (dig l).length = 32)
include hd
theorem fullText_inj {L L' : List Pt} (h : ∀ p ∈ L, p.Ok) (h' : ∀ p ∈ L', p.Ok) (e : fullText dig L = fullText dig L') : L = L' := by
  have h1 := tree_small h
  have h2 := tree_small h'
  have := (full_inj hd _ _ (tree L).2 (tree L').2 [] [] h1.1 h2.1 (by simpa [fullText] using e)).1
  rw [h1.2, h2.2] at this
  exact this
theorem root_found {L L' : List Pt} (h : ∀ p ∈ L, p.Ok) (h' : ∀ p ∈ L', p.Ok) (hne : L ≠ L') (e : dig (rootText dig L) = dig (rootText dig L')) :
    ∃ a ∈ alls _ (rootShow dig L), ∃ b ∈ alls _ (rootShow dig L'), a ≠ b ∧ dig a = dig b := by
  unfold rootShow
  rw [emb_alls, emb_alls]
  exact found hd _ _ _ _ (tree_small h).1 (tree_small h').1 e (fun e' => hne (fullText_inj hd h h' e'))
theorem root_wf {L : List Pt} (h : ∀ p ∈ L, p.Ok) : WF _ (rootShow dig L) := emb_wf hd _ _ (tree_small h).1
end
theorem root_shows (dig : List UInt8 → List UInt8) (L : List Pt) : shows _ (rootShow dig L) = fullText dig L := emb_shows dig _ _
theorem root_few (dig : List UInt8 → List UInt8) {L : List Pt} (h : ∀ p ∈ L, p.Ok) (hl : L.length ≤ 256) : (alls _ (rootShow dig L)).length ≤ 125 := by
  unfold rootShow
  rw [emb_alls]
  refine Nat.le_trans (texts_few dig _ _ (tree_small h).1) ?_
  exact Nat.le_trans (Nat.pow_le_pow_right (by decide) (tree_depth hl)) (by decide)
theorem full_ne (dig : List UInt8 → List UInt8) (n : Nat) (t : T n) : full dig n t ≠ [] := by
  cases n with
  | zero => simp [full, proof, leafText]
  | succ n => rw [full_succ]; simp
section
variable {dig : List UInt8 → List UInt8} (hd : ∀ l, (dig l).length = 32)
include hd
theorem full_len : ∀ (n : Nat) (t : T n), Small n t → (full dig n t).length ≤ 300 * 5 ^ n
  | 0, l, h => by
    have : (full dig 0 l).length = 2 + 12 * List.length (l : List Pt) := by
      show (leafText l).length = _
      simp only [leafText, List.length_cons]
      rw [pts_len]; omega
    have := h.1
    simp only [Nat.pow_zero]
    omega
  | n + 1, cs, h => by
    rw [full_succ]
    have key : ∀ (l : List (T n)), (∀ c ∈ l, Small n c) → (List.flatMap (fun c => head dig n c ++ 1 :: full dig n c) l).length ≤ (53 + 300 * 5 ^ n) * l.length := by
      intro l
      induction l with
      | nil => intro _; simp
      | cons c l ih =>
        intro hl
        rw [List.flatMap_cons, List.length_append, List.length_append, List.length_cons, List.length_cons, head_len hd]
        have h1 := full_len n c (hl c (by simp))
        have h2 := ih (fun d hd => hl d (by simp [hd]))
        rw [Nat.mul_succ]; omega
    have h1 := key cs h.2
    have h2 : (53 + 300 * 5 ^ n) * List.length cs ≤ (53 + 300 * 5 ^ n) * 4 := Nat.mul_le_mul_left _ h.1
    have h3 : 1 ≤ 5 ^ n := Nat.one_le_pow _ _ (by decide)
    simp only [List.length_cons]
    rw [Nat.pow_succ]
    omega
theorem fullText_len {L : List Pt} (h : ∀ p ∈ L, p.Ok) (hl : L.length ≤ 256) : (fullText dig L).length ≤ 37500 := by
  refine Nat.le_trans (full_len hd _ _ (tree_small h).1) ?_
  exact Nat.le_trans (Nat.mul_le_mul_left _ (Nat.pow_le_pow_right (by decide) (tree_depth hl))) (by decide)
end
end Ward
end Go.Proofs.YtenaelkbgkpllaaGreatDoor
