/- Part 25 of what the claims on Bound, Small, Right and Sole rest on. -/
import Derived.Test.YtenaelkbgkpllaaGreatDoorKeep03
/- Points in a row: their answers, and how long their proofs are. -/
namespace Go.Proofs.YtenaelkbgkpllaaGreatDoor
namespace Ward
/-- what holds of the boxes of all points, and of two boxes joined, holds of a box -/
theorem fold_all {P : Box → Prop} (hj : ∀ a b, P a → P b → P (join a b)) : ∀ {l : List Box} {b : Box}, P b → (∀ c ∈ l, P c) → P (l.foldl join b)
  | [], _, hb, _ => hb
  | c :: l, _, hb, h => fold_all hj (l := l) (hj _ _ hb (h c (by simp))) fun d hd => h d (by simp [hd])
theorem boxL_all {P : Box → Prop} (hj : ∀ a b, P a → P b → P (join a b)) {l : List Box} (hl : l ≠ []) (h : ∀ c ∈ l, P c) : P (boxL l) := by
  refine fold_all hj ?_ h
  cases l with
  | nil => exact absurd rfl hl
  | cons c l => exact h c (by simp)
theorem box_all {P : Box → Prop} (hj : ∀ a b, P a → P b → P (join a b)) : ∀ (n : Nat) (t : T n), Full n t → (∀ p ∈ pts n t, P (boxOf p)) → P (box n t)
  | 0, l, hf, h => boxL_all hj (fun e => hf (List.map_eq_nil_iff.1 e)) fun c hc => by
    obtain ⟨p, hp, rfl⟩ := List.mem_map.1 hc
    exact h p hp
  | n + 1, cs, hf, h => boxL_all hj (fun e => hf.1 (List.map_eq_nil_iff.1 e)) fun c hc => by
    obtain ⟨t, ht, rfl⟩ := List.mem_map.1 hc
    exact box_all hj n t (hf.2 t ht) fun p hp => h p (List.mem_flatMap.2 ⟨t, ht, hp⟩)
theorem flat_shown {α : Type} (m : α → Bool) (f : α → Nat) (B : Nat) : ∀ (cs : List α), cs.Pairwise (fun c d => ¬ (m c = true ∧ m d = true)) → (∀ c ∈ cs, m c = true → f c ≤ B) → (cs.map fun c => if m c = true then f c else 0).sum ≤ B
  | [], _, _ => by simp
  | c :: cs, hp, h => by
    obtain ⟨h1, h2⟩ := List.pairwise_cons.1 hp
    have ih := flat_shown m f B cs h2 (fun d hd => h d (List.mem_cons_of_mem _ hd))
    rw [List.map_cons, List.sum_cons]
    by_cases hc : m c = true
    · rw [if_pos hc]
      have h0 : (cs.map fun c => if m c = true then f c else 0).sum = 0 := by
        have : ∀ (ds : List α), (∀ d ∈ ds, ¬ m d = true) → (ds.map fun c => if m c = true then f c else 0).sum = 0 := by
          intro ds
          induction ds with
          | nil => intro _; rfl
          | cons d ds ih =>
            intro hd
            rw [List.map_cons, List.sum_cons, if_neg (hd d List.mem_cons_self), ih (fun e he => hd e (List.mem_cons_of_mem _ he))]
        exact this cs fun d hd e => h1 d hd ⟨hc, e⟩
      have := h c List.mem_cons_self hc
      omega
    · rw [if_neg hc]
      omega
theorem proof_sum (m : Box → Bool) (n : Nat) : ∀ cs : List (T n), (List.flatMap (fun c => head Sha.sha n c ++ (if m (box n c) then 1 :: proof Sha.sha m n c else [0])) cs).length = 53 * cs.length + (cs.map fun c => if m (box n c) = true then (proof Sha.sha m n c).length else 0).sum
  | [] => by simp
  | c :: cs => by
    rw [List.flatMap_cons, List.length_append, List.length_append, proof_sum m n cs, head_len sha_32, List.map_cons, List.sum_cons, List.length_cons]
    by_cases h : m (box n c) = true
    · rw [if_pos h, if_pos h, List.length_cons]; omega
    · rw [if_neg h, if_neg h, List.length_singleton]; omega
/-- the proof of one way down -/
theorem path_len {m : Box → Bool} {x0 : Int} (hm : ∀ b : Box, b.b = 0 → b.d = 0 → m b = true → b.a ≤ x0 ∧ x0 ≤ b.c) : ∀ (n : Nat) (t : T n), Small n t → Full n t → (pts n t).Pairwise (fun p q => p.x < q.x) → (∀ p ∈ pts n t, p.y = 0) → (proof Sha.sha m n t).length ≤ 214 * n + 50
  | 0, l, hs, _, _, _ => by
    show (leafText l).length ≤ _
    have : (leafText l).length = 2 + 12 * List.length (l : List Pt) := by simp only [leafText, List.length_cons]; rw [pts_len]; omega
    have := hs.1
    omega
  | n + 1, cs, hs, hf, hp, hy => by
    have hy' : ∀ c ∈ (cs : List (T n)), ∀ p ∈ pts n c, p.y = 0 := fun c hc p hp => hy p (List.mem_flatMap.2 ⟨c, hc, hp⟩)
    have hb0 : ∀ c ∈ (cs : List (T n)), (box n c).b = 0 ∧ (box n c).d = 0 := fun c hc =>
      box_all (P := fun b => b.b = 0 ∧ b.d = 0) (fun a b ha hb => by simp only [join]; omega) n c (hf.2 c hc) (fun p hp => ⟨hy' c hc p hp, hy' c hc p hp⟩)
    have hpp := List.pairwise_flatMap.1 (show List.Pairwise (fun p q => p.x < q.x) (List.flatMap (pts n) cs) from hp)
    have hone : List.Pairwise (fun c d => ¬ (m (box n c) = true ∧ m (box n d) = true)) (cs : List (T n)) := by
      refine List.Pairwise.imp_of_mem ?_ hpp.2
      intro c d hc hd hlt ⟨h1, h2⟩
      have k1 := (hm _ (hb0 c hc).1 (hb0 c hc).2 h1).2
      have k2 := (hm _ (hb0 d hd).1 (hb0 d hd).2 h2).1
      have e1 : ∃ p ∈ pts n c, x0 ≤ p.x := by
        apply Classical.byContradiction
        intro hn
        have := box_all (P := fun b => b.c < x0) (fun a b ha hb => by simp only [join]; omega) n c (hf.2 c hc) (fun p hp => by
          have : ¬ x0 ≤ p.x := fun e => hn ⟨p, hp, e⟩
          show p.x < x0
          omega)
        omega
      have e2 : ∃ p ∈ pts n d, p.x ≤ x0 := by
        apply Classical.byContradiction
        intro hn
        have := box_all (P := fun b => x0 < b.a) (fun a b ha hb => by simp only [join]; omega) n d (hf.2 d hd) (fun p hp => by
          have : ¬ p.x ≤ x0 := fun e => hn ⟨p, hp, e⟩
          show x0 < p.x
          omega)
        omega
      obtain ⟨p, hp, h3⟩ := e1
      obtain ⟨q, hq, h4⟩ := e2
      have := hlt p hp q hq
      omega
    have hsum := flat_shown (fun c => m (box n c)) (fun c => (proof Sha.sha m n c).length) (214 * n + 50) cs hone (fun c hc _ => path_len hm n c (hs.2 c hc) (hf.2 c hc) (hpp.1 c hc) (hy' c hc))
    show (2 :: UInt8.ofNat (List.length cs) :: List.flatMap (fun c => head Sha.sha n c ++ (if m (box n c) then 1 :: proof Sha.sha m n c else [0])) cs).length ≤ _
    rw [List.length_cons, List.length_cons, proof_sum]
    have := hs.1
    omega
/-- nothing is shown below the root -/
theorem bare_len {m : Box → Bool} (n : Nat) (cs : List (T n)) (h : ∀ c ∈ cs, m (box n c) = false) : (proof Sha.sha m (n + 1) cs).length = 2 + 53 * cs.length := by
  show (2 :: UInt8.ofNat (List.length cs) :: List.flatMap (fun c => head Sha.sha n c ++ (if m (box n c) then 1 :: proof Sha.sha m n c else [0])) cs).length = _
  rw [List.length_cons, List.length_cons, proof_sum]
  have : ∀ (ds : List (T n)), (∀ d ∈ ds, m (box n d) = false) → (ds.map fun c => if m (box n c) = true then (proof Sha.sha m n c).length else 0).sum = 0 := by
    intro ds
    induction ds with
    | nil => intro _; rfl
    | cons d ds ih =>
      intro hd
      rw [List.map_cons, List.sum_cons, if_neg (by rw [hd d List.mem_cons_self]; simp), ih (fun e he => hd e (List.mem_cons_of_mem _ he))]
  rw [this cs h]
  omega
/-- how many children the root has: a quarter, until it is four at most -/
def red : Nat → Nat → Nat
  | 0, x => x
  | f + 1, x => if 4 < x then red f ((x + 3) / 4) else x
theorem fours_whole {α : Type} {l : List α} (h : l.length ≤ 4) (h1 : 1 < l.length) : fours l = [l] := by
  have e : (l.length + 3) / 4 = 1 := by omega
  unfold fours
  rw [e]
  show [(l.drop (4 * 0)).take 4] = [l]
  rw [Nat.mul_zero, List.drop_zero, List.take_of_length_le h]
theorem climb_root : ∀ (f k n : Nat) (ls : List (T n)), 1 < ls.length → ls.length < k → ls.length ≤ f + 4 → ∃ m, ∃ cs : List (T m), climb k n ls = ⟨m + 1, cs⟩ ∧ cs.length = red f ls.length
  | _, 0, _, _, _, h, _ => absurd h (by omega)
  | f, k + 1, n, ls, h1, hk, hf => by
    rw [climb_more _ _ _ (by omega)]
    by_cases h4 : 4 < ls.length
    · cases f with
      | zero => omega
      | succ f =>
        obtain ⟨m, cs, e, hl⟩ := climb_root f k (n + 1) (fours ls) (by rw [fours_length]; omega) (by rw [fours_length]; omega) (by rw [fours_length]; omega)
        refine ⟨m, cs, e, ?_⟩
        rw [hl, fours_length]
        show _ = if 4 < ls.length then red f ((ls.length + 3) / 4) else ls.length
        rw [if_pos h4]
    · rw [fours_whole (by omega) h1]
      cases k with
      | zero => omega
      | succ k =>
        refine ⟨n, ls, climb_one k (n + 1) ls, ?_⟩
        cases f with
        | zero => rfl
        | succ f =>
          show _ = if 4 < ls.length then red f ((ls.length + 3) / 4) else ls.length
          rw [if_neg h4]
/-- points in a row -/
def rowPt (i : Nat) : Pt := ⟨1 + i, 10 * i, 0⟩
def rowL (k : Nat) : List Pt := (List.range k).map rowPt
theorem rowL_len (k : Nat) : (rowL k).length = k := by simp [rowL]
theorem rowL_succ (k : Nat) : rowL (k + 1) = rowL k ++ [rowPt k] := by simp [rowL, List.range_succ]
theorem rowL_mem {k : Nat} {p : Pt} (h : p ∈ rowL k) : ∃ i, i < k ∧ p = rowPt i := by
  obtain ⟨i, hi, rfl⟩ := List.mem_map.1 h
  exact ⟨i, List.mem_range.1 hi, rfl⟩
theorem row_pairs {R : Pt → Pt → Prop} (h : ∀ i j, i < j → R (rowPt i) (rowPt j)) (k : Nat) : (rowL k).Pairwise R := by
  unfold rowL
  rw [List.pairwise_map]
  exact List.pairwise_lt_range.imp fun hij => h _ _ hij
theorem row_x (k : Nat) : (rowL k).Pairwise (fun p q => p.x < q.x) := row_pairs (fun i j h => by show (10 * (i : Int)) < 10 * j; omega) k
theorem row_sorted (k : Nat) : Sorted (rowL k) := row_pairs (fun i j h => .inl (by show (10 * (i : Int)) < 10 * j; omega)) k
theorem row_ids (k : Nat) : Ids (rowL k) := row_pairs (fun i j h => by show (1 + (i : Int)) ≠ 1 + j; omega) k
theorem row_ok {k : Nat} (h : k ≤ 150) : ∀ p ∈ rowL k, p.Ok := fun p hp => by
  obtain ⟨i, hi, rfl⟩ := rowL_mem hp
  constructor <;> simp only [rowPt] <;> omega
theorem row_well {k : Nat} (h : k ≤ 150) : Well (rowL k) := ⟨row_ok h, row_ids k, by rw [rowL_len]; exact h⟩
theorem row_new (k : Nat) : ∀ q ∈ rowL k, q.id ≠ (rowPt k).id := fun q hq => by
  obtain ⟨i, hi, rfl⟩ := rowL_mem hq
  simp only [rowPt]
  omega
theorem row_ins (k : Nat) : ins (rowPt k) (rowL k) = rowL (k + 1) :=
  sorted_eq (ins_sorted (row_sorted k) (row_new k)) (row_sorted (k + 1)) ((ins_perm _ _).trans (by rw [rowL_succ]; exact List.perm_append_singleton _ _ |>.symm))
/-- a window above them all -/
def rowQ (k : Nat) : Qr := ⟨0, -5, 1, 10 * k, 9, 0, 0, 0⟩
theorem rowQ_may {k : Nat} (h : k ≤ 150) : mayBe (rowQ k) = true := by
  show boxMay ⟨-5, 1, 10 * k, 9⟩ = true
  simp only [boxMay, coordOk, Bool.and_eq_true, decide_eq_true_eq]
  omega
theorem rowQ_ans (k j : Nat) : ans (rowQ k) (rowL j) = [] := by
  unfold ans
  rw [if_neg (by simp [rowQ])]
  have : (rowL j).filter (inB (window (rowQ k))) = [] := by
    rw [List.filter_eq_nil_iff]
    intro p hp e
    obtain ⟨i, hi, rfl⟩ := rowL_mem hp
    unfold inB meets at e
    simp only [Bool.and_eq_true] at e
    have h := of_decide_eq_true e.1.2
    exact absurd h (by simp [window, rowQ, boxOf, rowPt])
  rw [this]
  rfl
theorem rowQ_len {k : Nat} (h5 : 5 ≤ k) (h : k ≤ 150) : (proofText (rowQ k) (rowL k)).length = 2 + 53 * red 200 ((k + 3) / 4) := by
  have hw := row_well h
  have hne : rowL k ≠ [] := fun e => by have := congrArg List.length e; rw [rowL_len] at this; simp at this; omega
  have hlv : (leaves (rowL k)).length = (k + 3) / 4 := by
    unfold leaves
    rw [if_neg (by rw [rowL_len]; omega), fours_length, rowL_len]
  obtain ⟨m, cs, e, hl⟩ := climb_root 200 ((rowL k).length + 2) 0 (leaves (rowL k)) (by rw [hlv]; omega) (by rw [hlv, rowL_len]; omega) (by rw [hlv]; omega)
  have et : tree (rowL k) = ⟨m + 1, cs⟩ := e
  have hf := tree_full hne
  have hp := (tree_small hw.ok).2
  unfold proofText
  rw [et] at hf hp ⊢
  rw [show (⟨m + 1, cs⟩ : (m : Nat) × T m).2 = cs from rfl] at hf hp ⊢
  rw [bare_len m cs (fun c hc => ?_), hl, hlv]
  have hbx := box_all (P := fun b => b.b = 0 ∧ b.d = 0) (fun a b ha hb => by simp only [join]; omega) m c (hf.2 c hc) (fun p hpc => by
    have hm : p ∈ rowL k := by rw [← hp]; exact List.mem_flatMap.2 ⟨c, hc, hpc⟩
    obtain ⟨i, hi, rfl⟩ := rowL_mem hm
    exact ⟨rfl, rfl⟩)
  unfold must
  rw [if_pos (show (rowQ k).kind = 0 from rfl)]
  cases hmm : meets (window (rowQ k)) (box m c)
  · rfl
  · unfold meets at hmm
    simp only [Bool.and_eq_true] at hmm
    have h := of_decide_eq_true hmm.1.2
    rw [hbx.2] at h
    exact absurd h (by simp [window, rowQ])
/-- what is nearest to one of them -/
def rowR (p : Nat) : Qr := ⟨1, 0, 0, 0, 0, 10 * p, 7, 1⟩
theorem rowR_may {p : Nat} (h : p ≤ 150) : mayBe (rowR p) = true := by
  show (coordOk (10 * p) && coordOk 7 && decide ((1 : Int) ≤ 1) && decide ((1 : Int) ≤ 20)) = true
  simp only [coordOk, Bool.and_eq_true, decide_eq_true_eq]
  omega
theorem row_dist (i p : Nat) : distP (rowPt i) (10 * p) 7 = (10 * ((i : Int) - p)) * (10 * ((i : Int) - p)) + 49 := by
  unfold distP dist gap boxOf rowPt
  simp only
  rcases Nat.lt_trichotomy i p with h | h | h
  · rw [show max (max ((10 * (i : Int)) - 10 * p) 0) (10 * p - 10 * i) = -(10 * ((i : Int) - p)) by omega, show max (max ((0 : Int) - 7) 0) (7 - 0) = 7 by omega, Int.neg_mul_neg]
    rfl
  · subst h
    rw [show max (max ((10 * (i : Int)) - 10 * i) 0) (10 * i - 10 * i) = 0 by omega, show max (max ((0 : Int) - 7) 0) (7 - 0) = 7 by omega, Int.sub_self]
    rfl
  · rw [show max (max ((10 * (i : Int)) - 10 * p) 0) (10 * p - 10 * i) = 10 * ((i : Int) - p) by omega, show max (max ((0 : Int) - 7) 0) (7 - 0) = 7 by omega]
    rfl
theorem sq_pos' {a : Int} (h : a ≠ 0) : 0 < a * a := by
  rcases Int.lt_or_gt_of_ne h with h | h
  · exact Int.mul_pos_of_neg_of_neg h h
  · exact Int.mul_pos h h
theorem rowR_ans {k p : Nat} (h : p < k) : ans (rowR p) (rowL k) = [rowPt p] := by
  have hk : (rowR p).kind = 1 := rfl
  unfold ans
  rw [if_pos hk]
  have hperm : (rowL k).Perm (rowPt p :: (rowL k).erase (rowPt p)) := by
    exact List.perm_cons_erase (List.mem_map.2 ⟨p, List.mem_range.2 h, rfl⟩)
  rw [sortN_head hperm (row_ids k) (fun q hq => ?_)]
  · rfl
  · have hnd : (rowL k).Nodup := ids_nodup (row_ids k)
    have hq' := (List.Nodup.mem_erase_iff hnd).1 hq
    obtain ⟨i, hi, rfl⟩ := rowL_mem hq'.2
    have hne : i ≠ p := fun e => hq'.1 (by rw [e])
    refine .inl ?_
    show distP (rowPt p) (10 * p) 7 < distP (rowPt i) (10 * p) 7
    rw [row_dist, row_dist, Int.sub_self]
    have := sq_pos' (a := 10 * ((i : Int) - p)) (by omega)
    omega
theorem rowR_len {k p : Nat} (h : p < k) (hk : k ≤ 150) : (proofText (rowR p) (rowL k)).length ≤ 692 := by
  have hw := row_well hk
  have hne : rowL k ≠ [] := fun e => by have := congrArg List.length e; rw [rowL_len] at this; simp at this; omega
  have hf := tree_full hne
  have hs := tree_small hw.ok
  have hd := hw.deep
  unfold proofText
  rw [rowR_ans h]
  have := path_len (m := must (rowR p) [rowPt p]) (x0 := 10 * p) (fun b h1 h2 hm => by
    unfold must at hm
    rw [if_neg (by simp [rowR]), if_neg (by simp [rowR])] at hm
    simp only [List.getLast?_singleton] at hm
    have hd : dist b (10 * p) 7 ≤ distP (rowPt p) (10 * p) 7 := of_decide_eq_true hm
    rw [row_dist, Int.sub_self] at hd
    unfold dist at hd
    rw [h1, h2, show gap 0 0 7 = 7 from rfl] at hd
    have h0 := gap_nonneg b.a b.c (10 * p)
    have hz : gap b.a b.c (10 * p) = 0 := by
      apply Classical.byContradiction
      intro hn
      have := sq_pos' hn
      omega
    unfold gap at hz
    omega) (tree (rowL k)).1 (tree (rowL k)).2 hs.1 hf (by rw [hs.2]; exact row_x k) (by
      rw [hs.2]
      intro p hp
      obtain ⟨i, hi, rfl⟩ := rowL_mem hp
      rfl)
  omega
end Ward
end Go.Proofs.YtenaelkbgkpllaaGreatDoor
