/- A proof gone through by its places: all children that it tells of, one behind another; the least fault of them. -/
import Derived.Test.YtenaelkbgkpllaaGreatDoorVerified12
import Derived.Test.YtenaelkbgkpllaaGreatDoorVerified11
import Derived.Test.YtenaelkbgkpllaaGreatDoorVerified10
import Derived.Test.YtenaelkbgkpllaaGreatDoorVerified8
namespace Go.Proofs.YtenaelkbgkpllaaGreatDoor
namespace Ward
/-- a child as it is told of, and what comes of it where it is shown -/
structure Chd where
  box : Box
  n : Int
  dig : List UInt8
  shown : Bool
  rbox : Box
  rn : Int
  rtext : List UInt8
/-- the text of a node as what stands below it makes it -/
def textM : (n : Nat) → NT n → List UInt8
  | 0, t => nomatch t
  | n + 1, t => if (Nd.kids t).length = 0 then leafText (Nd.pts t) else textK n (Nd.kids t)
theorem madeT_dig : ∀ (n : Nat) (t : NT n), digN n (madeN n t) = Sha.sha (textM n t)
  | 0, t => nomatch t
  | n + 1, t => by
    show Nd.dig (madeN (n + 1) t) = Sha.sha (textM (n + 1) t)
    by_cases h : (Nd.kids t).length = 0
    · rw [madeN, textM, if_pos h, if_pos h]
    · rw [madeN, textM, if_neg h, if_neg h]
def chd (n : Nat) (c : NT n) : Chd := ⟨boxN n c, numN n c, digN n c, shownN n c, if shownN n c then boxN n (madeN n c) else ⟨0, 0, 0, 0⟩, if shownN n c then numN n (madeN n c) else 0, if shownN n c then textM n c else []⟩
/-- all children, what is below one ahead of it -/
def post : (n : Nat) → NT n → List Chd
  | 0, t => nomatch t
  | n + 1, t => (Nd.kids t).flatMap fun c => post n c ++ [chd n c]
theorem every_post {P : (n : Nat) → NT n → Bool} {Q : Chd → Bool} (h : ∀ n c, P n c = Q (chd n c)) : ∀ (n : Nat) (t : NT n), everyN P n t = (post n t).all Q
  | 0, t => nomatch t
  | n + 1, t => by
    show ((Nd.kids t).all fun c => P n c && everyN P n c) = ((Nd.kids t).flatMap fun c => post n c ++ [chd n c]).all Q
    induction Nd.kids t with
    | nil => rfl
    | cons c l ih =>
      rw [List.all_cons, List.flatMap_cons, List.all_append, List.all_append, ih, every_post h n c, h n c]
      simp only [List.all_cons, List.all_nil, Bool.and_true]
      cases Q (chd n c) <;> cases (post n c).all Q <;> rfl
def boxQ (c : Chd) : Bool := !c.shown || (boxEq c.rbox c.box && decide (c.rn = c.n))
def digQ (c : Chd) : Bool := !c.shown || decide (Sha.sha c.rtext = c.dig)
def lackQ (m : Box → Bool) (c : Chd) : Bool := c.shown || !m c.box
def wasteQ (m : Box → Bool) (c : Chd) : Bool := !c.shown || m c.box
theorem boxEq_comm (a b : Box) : boxEq a b = boxEq b a := by
  unfold boxEq
  congr 1
  apply propext
  constructor <;> (rintro ⟨h1, h2, h3, h4⟩; exact ⟨h1.symm, h2.symm, h3.symm, h4.symm⟩)
theorem box_chd (n : Nat) (c : NT n) : boxHolds n c = boxQ (chd n c) := by
  unfold boxHolds boxQ chd
  simp only
  cases h : shownN n c with
  | false => rfl
  | true =>
    simp only [if_true, Bool.not_true, Bool.false_or]
    rw [boxEq_comm]
    congr 2
    exact propext ⟨Eq.symm, Eq.symm⟩
theorem dig_chd (n : Nat) (c : NT n) : digHolds n c = digQ (chd n c) := by
  unfold digHolds digQ chd
  simp only
  cases h : shownN n c with
  | false => rfl
  | true =>
    simp only [if_true, Bool.not_true, Bool.false_or]
    rw [madeT_dig]
    congr 1
    exact propext ⟨Eq.symm, Eq.symm⟩
theorem lack_chd (q : Qr) (a : List Pt) (n : Nat) (c : NT n) : lackN q a n c = lackQ (must q a) (chd n c) := rfl
theorem waste_chd (q : Qr) (a : List Pt) (n : Nat) (c : NT n) : wasteN q a n c = wasteQ (must q a) (chd n c) := rfl
/-- the fault of a child: a box, a digest, hidden, waste; 0: none -/
def code (m : Box → Bool) (c : Chd) : Nat := if c.shown && !(boxEq c.rbox c.box && decide (c.rn = c.n)) then 1 else if c.shown && !decide (Sha.sha c.rtext = c.dig) then 2 else if !c.shown && m c.box then 3 else if c.shown && !m c.box then 4 else 0
def least (w n : Nat) : Nat := if 0 < n ∧ (w = 0 ∨ n < w) then n else w
def worst (m : Box → Bool) (l : List Chd) : Nat := l.foldl (fun w c => least w (code m c)) 0
theorem worst_snoc (m : Box → Bool) (l : List Chd) (c : Chd) : worst m (l ++ [c]) = least (worst m l) (code m c) := by
  unfold worst
  rw [List.foldl_append]
  rfl
theorem code_le (m : Box → Bool) (c : Chd) : code m c ≤ 4 := by
  unfold code
  split
  · omega
  split
  · omega
  split
  · omega
  split <;> omega
structure Worst (m : Box → Bool) (l : List Chd) (w : Nat) : Prop where
  le : w ≤ 4
  of : 0 < w → ∃ c ∈ l, code m c = w
  all : ∀ c ∈ l, code m c = 0 ∨ (0 < w ∧ w ≤ code m c)
theorem worst_is (m : Box → Bool) (l : List Chd) : Worst m l (worst m l) := by
  have key : ∀ (k l : List Chd), l = k.reverse → Worst m l (worst m l) := by
    intro k
    induction k with
    | nil => rintro _ rfl; exact ⟨Nat.zero_le _, fun h => absurd h (Nat.lt_irrefl 0), fun c hc => by simp at hc⟩
    | cons c k ih =>
      rintro _ rfl
      have h := ih k.reverse rfl
      rw [List.reverse_cons, worst_snoc]
      have hc := code_le m c
      have hle := h.le
      generalize hw : worst m k.reverse = w at *
      unfold least
      split
      · rename_i h1
        refine ⟨hc, fun _ => ⟨c, by simp, rfl⟩, fun e he => ?_⟩
        rcases List.mem_append.1 he with he | he
        · rcases h.all e he with h2 | h2
          · exact Or.inl h2
          · exact Or.inr ⟨h1.1, by omega⟩
        · rw [List.mem_singleton.1 he]
          exact Or.inr ⟨h1.1, Nat.le_refl _⟩
      · rename_i h1
        refine ⟨hle, fun h0 => ?_, fun e he => ?_⟩
        · obtain ⟨e, he, h3⟩ := h.of h0
          exact ⟨e, List.mem_append_left _ he, h3⟩
        · rcases List.mem_append.1 he with he | he
          · exact h.all e he
          · rw [List.mem_singleton.1 he]
            omega
  exact key l.reverse l (by simp)
theorem code_one {m : Box → Bool} {c : Chd} : code m c = 1 ↔ boxQ c = false := by
  unfold code boxQ
  cases c.shown <;> cases (boxEq c.rbox c.box && decide (c.rn = c.n)) <;> cases m c.box <;> cases decide (Sha.sha c.rtext = c.dig) <;> decide
theorem code_two {m : Box → Bool} {c : Chd} : (code m c = 1 ∨ code m c = 2) ↔ (boxQ c = false ∨ digQ c = false) := by
  unfold code boxQ digQ
  cases c.shown <;> cases (boxEq c.rbox c.box && decide (c.rn = c.n)) <;> cases m c.box <;> cases decide (Sha.sha c.rtext = c.dig) <;> decide
theorem code_three {m : Box → Bool} {c : Chd} (h1 : boxQ c = true) (h2 : digQ c = true) : (code m c = 3 ↔ lackQ m c = false) ∧ (code m c = 4 ↔ wasteQ m c = false) := by
  unfold code lackQ wasteQ
  unfold boxQ at h1
  unfold digQ at h2
  cases hs : c.shown with
  | false => cases m c.box <;> simp
  | true =>
    rw [hs] at h1 h2
    simp only [Bool.not_true, Bool.false_or] at h1 h2
    rw [h1, h2]
    cases m c.box <;> simp
theorem all_false {l : List Chd} {Q : Chd → Bool} : l.all Q = false ↔ ∃ c ∈ l, Q c = false := by
  rw [List.all_eq_false]
  constructor
  · rintro ⟨c, hc, h⟩; exact ⟨c, hc, by simpa using h⟩
  · rintro ⟨c, hc, h⟩; exact ⟨c, hc, by simp [h]⟩
/-- what the document's Verify answers -/
def verdict (root : List UInt8) (count : Int) (m : Box → Bool) (a : List Pt) (l : List Chd) (t : List UInt8) (n : Int) : List Pt × Int :=
  let w := if worst m l ≠ 1 ∧ ¬ (Sha.sha t = root ∧ n = count) then 2 else worst m l
  if w = 1 then ([], 8) else if w = 2 then ([], 9) else if w = 3 then ([], 10) else if w = 4 then ([], 11) else (a, 0)
theorem verdict_is (root : List UInt8) (count : Int) (q : Qr) (t : NT 7) (x : NT 7) (hp : post 7 t = post 7 x) (hd : digN 7 t = Sha.sha (textM 7 x)) :
    verdict root count (must q (ans q (allN 7 t))) (ans q (allN 7 t)) (post 7 x) (textM 7 x) (numN 7 t) =
      (if everyN boxHolds 7 t = false then ([], 8)
    else if everyN digHolds 7 t = false ∨ ¬ (digN 7 t = root ∧ numN 7 t = count) then ([], 9)
    else if everyN (lackN q (ans q (allN 7 t))) 7 t = false then ([], 10)
    else if everyN (wasteN q (ans q (allN 7 t))) 7 t = false then ([], 11)
    else (ans q (allN 7 t), 0)) := by
  rw [every_post box_chd, every_post dig_chd, every_post (lack_chd q _), every_post (waste_chd q _), hp]
  generalize ans q (allN 7 t) = a
  generalize must q a = m
  generalize post 7 x = l
  have hw := worst_is m l
  unfold verdict
  rw [← hd]
  generalize worst m l = w at hw
  have hle := hw.le
  by_cases h1 : l.all boxQ = false
  · rw [if_pos h1]
    obtain ⟨c, hc, hq⟩ := all_false.1 h1
    have h2 := code_one (m := m).2 hq
    have e : w = 1 := by
      have := hw.all c hc
      omega
    subst e
    simp
  · rw [if_neg h1]
    have h1' : ∀ c ∈ l, boxQ c = true := fun c hc => by
      cases h : boxQ c with
      | true => rfl
      | false => exact absurd (all_false.2 ⟨c, hc, h⟩) h1
    have hw1 : w ≠ 1 := fun e => by
      obtain ⟨c, hc, h⟩ := hw.of (by omega)
      rw [e] at h
      have := code_one.1 h
      rw [h1' c hc] at this
      cases this
    by_cases h2 : l.all digQ = false
    · rw [if_pos (Or.inl h2)]
      obtain ⟨c, hc, hq⟩ := all_false.1 h2
      have e : w = 2 := by
        have h3 := code_two (m := m).2 (Or.inr hq : boxQ c = false ∨ digQ c = false)
        have := hw.all c hc
        omega
      subst e
      simp
    · by_cases h3 : digN 7 t = root ∧ numN 7 t = count
      · rw [if_neg (show ¬ (l.all digQ = false ∨ ¬ (digN 7 t = root ∧ numN 7 t = count)) from fun h => h.elim h2 (fun h => h h3))]
        have h2' : ∀ c ∈ l, digQ c = true := fun c hc => by
          cases h : digQ c with
          | true => rfl
          | false => exact absurd (all_false.2 ⟨c, hc, h⟩) h2
        have hw2 : w ≠ 2 := fun e => by
          obtain ⟨c, hc, h⟩ := hw.of (by omega)
          rw [e] at h
          rcases code_two.1 (Or.inr h) with h | h
          · rw [h1' c hc] at h; cases h
          · rw [h2' c hc] at h; cases h
        have hn : ¬ (w ≠ 1 ∧ ¬ (digN 7 t = root ∧ numN 7 t = count)) := fun h => h.2 h3
        simp only [if_neg hn, if_neg hw1, if_neg hw2]
        by_cases h4 : l.all (lackQ m) = false
        · rw [if_pos h4]
          obtain ⟨c, hc, hq⟩ := all_false.1 h4
          have h5 := (code_three (m := m) (h1' c hc) (h2' c hc)).1.2 hq
          have e : w = 3 := by
            have := hw.all c hc
            omega
          rw [if_pos e]
        · rw [if_neg h4]
          have hw3 : w ≠ 3 := fun e => by
            obtain ⟨c, hc, h⟩ := hw.of (by omega)
            rw [e] at h
            exact h4 (all_false.2 ⟨c, hc, (code_three (m := m) (h1' c hc) (h2' c hc)).1.1 h⟩)
          rw [if_neg hw3]
          by_cases h5 : l.all (wasteQ m) = false
          · rw [if_pos h5]
            obtain ⟨c, hc, hq⟩ := all_false.1 h5
            have h6 := (code_three (m := m) (h1' c hc) (h2' c hc)).2.2 hq
            have e : w = 4 := by
              have := hw.all c hc
              omega
            rw [if_pos e]
          · rw [if_neg h5]
            have hw4 : w ≠ 4 := fun e => by
              obtain ⟨c, hc, h⟩ := hw.of (by omega)
              rw [e] at h
              exact h5 (all_false.2 ⟨c, hc, (code_three (m := m) (h1' c hc) (h2' c hc)).2.1 h⟩)
            rw [if_neg hw4]
      · rw [if_pos (Or.inr h3)]
        simp only [if_pos (show w ≠ 1 ∧ ¬ (digN 7 t = root ∧ numN 7 t = count) from ⟨hw1, h3⟩)]
        simp
/-- the point of that place in a leaf -/
def ptAt (b : List UInt8) (k : Nat) : Pt := ⟨numAt b (3 * k), numAt b (3 * k + 1), numAt b (3 * k + 2)⟩
def ptsAt (b : List UInt8) (n : Nat) : List Pt := (List.range n).map (ptAt b)
theorem numAt_skip (b : List UInt8) (k j : Nat) : numAt (b.drop (4 * j)) k = numAt b (j + k) := by
  rw [numAt_drop, List.drop_drop, numAt_drop b, show 4 * j + 4 * k = 4 * (j + k) by omega]
theorem ptsAt_cons (b : List UInt8) (n : Nat) : ptsAt b (n + 1) = ptAt b 0 :: ptsAt (b.drop 12) n := by
  unfold ptsAt
  rw [List.range_succ_eq_map, List.map_cons, List.map_map]
  refine congrArg (List.cons (ptAt b 0)) (List.map_congr_left fun k _ => ?_)
  have h := fun j => numAt_skip b j 3
  have h0 : numAt (b.drop 12) (3 * k) = numAt b (3 * (k + 1)) := (h (3 * k)).trans (congrArg _ (by omega))
  have h1 : numAt (b.drop 12) (3 * k + 1) = numAt b (3 * (k + 1) + 1) := (h (3 * k + 1)).trans (congrArg _ (by omega))
  have h2 : numAt (b.drop 12) (3 * k + 2) = numAt b (3 * (k + 1) + 2) := (h (3 * k + 2)).trans (congrArg _ (by omega))
  show (⟨numAt b (3 * (k + 1)), numAt b (3 * (k + 1) + 1), numAt b (3 * (k + 1) + 2)⟩ : Pt) = ⟨numAt (b.drop 12) (3 * k), numAt (b.drop 12) (3 * k + 1), numAt (b.drop 12) (3 * k + 2)⟩
  rw [h0, h1, h2]
/-- none of these ids is taken, and each comes once -/
def freshAll : List Int → List Pt → Bool
  | _, [] => true
  | ids, p :: l => !ids.contains p.id && freshAll (p.id :: ids) l
def ptOk (p : Pt) : Bool := idOk p.id && coordOk p.x && coordOk p.y
theorem rdPts : ∀ (n : Nat) (b : List UInt8) (ids : List Int), rdMany rdPt n (b, ids) = if 12 * n ≤ b.length ∧ (ptsAt b n).all ptOk = true ∧ freshAll ids (ptsAt b n) = true then some (ptsAt b n, (b.drop (12 * n), ((ptsAt b n).map Pt.id).reverse ++ ids)) else none
  | 0, b, ids => by simp [rdMany, ptsAt, freshAll]
  | n + 1, b, ids => by
    rw [ptsAt_cons, rdMany]
    have e0 : ptAt b 0 = ⟨numAt b 0, numAt b 1, numAt b 2⟩ := rfl
    by_cases hl : b.length < 12
    · have h1 : rdPt (b, ids) = none := by unfold rdPt; rw [if_pos hl]
      rw [h1, if_neg (fun h => by have := h.1; omega)]
    · by_cases hp : (idOk (ptAt b 0).id && !(ids.contains (ptAt b 0).id) && coordOk (ptAt b 0).x && coordOk (ptAt b 0).y) = true
      · have h1 : rdPt (b, ids) = some (ptAt b 0, (b.drop 12, (ptAt b 0).id :: ids)) := by
          unfold rdPt
          rw [if_neg hl]
          exact if_pos hp
        rw [h1]
        simp only
        rw [rdPts n]
        simp only [Bool.and_eq_true] at hp
        have hok : ptOk (ptAt b 0) = true := by unfold ptOk; rw [hp.1.1.1, hp.1.2, hp.2]; rfl
        have hc : (12 * n ≤ (b.drop 12).length ∧ (ptsAt (b.drop 12) n).all ptOk = true ∧ freshAll ((ptAt b 0).id :: ids) (ptsAt (b.drop 12) n) = true) ↔ (12 * (n + 1) ≤ b.length ∧ (ptAt b 0 :: ptsAt (b.drop 12) n).all ptOk = true ∧ freshAll ids (ptAt b 0 :: ptsAt (b.drop 12) n) = true) := by
          rw [List.all_cons, hok, freshAll, hp.1.1.2, List.length_drop]
          simp only [Bool.true_and]
          constructor
          · rintro ⟨h1, h2, h3⟩; exact ⟨by omega, h2, h3⟩
          · rintro ⟨h1, h2, h3⟩; exact ⟨by omega, h2, h3⟩
        by_cases h : 12 * n ≤ (b.drop 12).length ∧ (ptsAt (b.drop 12) n).all ptOk = true ∧ freshAll ((ptAt b 0).id :: ids) (ptsAt (b.drop 12) n) = true
        · rw [if_pos h, if_pos (hc.1 h)]
          simp only [List.drop_drop, List.map_cons, List.reverse_cons, List.append_assoc, List.singleton_append]
          rw [show 12 + 12 * n = 12 * (n + 1) by omega]
        · rw [if_neg h, if_neg (fun k => h (hc.2 k))]
      · have h1 : rdPt (b, ids) = none := by
          unfold rdPt
          rw [if_neg hl]
          exact if_neg hp
        rw [h1, if_neg]
        rintro ⟨_, h2, h3⟩
        rw [List.all_cons, Bool.and_eq_true] at h2
        rw [freshAll, Bool.and_eq_true] at h3
        have h4 := h2.1
        unfold ptOk at h4
        simp only [Bool.and_eq_true] at h4
        apply hp
        rw [h4.1.1, h3.1, h4.1.2, h4.2]
        rfl
end Ward
end Go.Proofs.YtenaelkbgkpllaaGreatDoor
/- A point that slides down to its place among others in order. -/
namespace Go.Proofs.YtenaelkbgkpllaaGreatDoor
namespace Ward
/-- a point at a place between others -/
def slid (S : List Pt) (p : Pt) (k : Nat) : List Pt := S.take k ++ p :: S.drop k
theorem slid_len {S : List Pt} {p : Pt} {k : Nat} : (slid S p k).length = S.length + 1 := by
  unfold slid
  simp only [List.length_append, List.length_cons, List.length_take, List.length_drop]
  omega
theorem slid_end (S : List Pt) (p : Pt) : slid S p S.length = S ++ [p] := by
  unfold slid
  rw [List.take_length, List.drop_length]
theorem slid_get {S : List Pt} {p : Pt} {k : Nat} (hk : k + 1 ≤ S.length) (h : k < (slid S p (k + 1)).length) : (slid S p (k + 1))[k] = S[k] := by
  have h0 : k < (S.take (k + 1)).length := by simp; omega
  have e : (slid S p (k + 1))[k] = (S.take (k + 1))[k] := List.getElem_append_left h0
  rw [e, List.getElem_take]
theorem slid_set {S : List Pt} {p : Pt} {k : Nat} (hk : k + 1 ≤ S.length) : ((slid S p (k + 1)).set (k + 1) S[k]).set k p = slid S p k := by
  have h1 : S.take (k + 1) = S.take k ++ [S[k]] := List.take_succ_eq_append_getElem (by omega)
  have h2 : S.drop k = S[k] :: S.drop (k + 1) := List.drop_eq_getElem_cons (by omega)
  have hl : (S.take k).length = k := by rw [List.length_take]; omega
  unfold slid
  rw [h2, h1]
  generalize S.take k = A at *
  generalize S.drop (k + 1) = D at *
  generalize S[k] = x at *
  subst hl
  rw [List.append_assoc, List.set_append_right _ _ (by omega), show A.length + 1 - A.length = 1 by omega]
  show (A ++ x :: x :: D).set A.length p = _
  rw [List.set_append_right _ _ (Nat.le_refl _), Nat.sub_self]
  rfl
theorem slid_parts {S : List Pt} {p : Pt} {k : Nat} (hs : Sorted S) (hi : ∀ q ∈ S, q.id ≠ p.id) (hk : k ≤ S.length) (hh : ∀ i, (h : i < S.length) → k ≤ i → lt p S[i]) (hl : ∀ j, (h : j < S.length) → j + 1 = k → ¬ lt p S[j]) : Parts p S k := by
  refine ⟨hk, fun i h hik => ?_, fun i h hik e => lt_irrefl p (lt_trans (hh i h hik) e)⟩
  have hj : k - 1 < S.length := by omega
  have h1 : lt S[k - 1] p := lt_tot (fun e => hi _ (List.getElem_mem hj) e.symm) (hl (k - 1) hj (by omega))
  by_cases e : i = k - 1
  · subst e; exact h1
  · exact lt_trans ((List.pairwise_iff_getElem.1 hs) i (k - 1) h hj (by omega)) h1
/-- the points within a window, one more looked at -/
theorem within_step {b : Box} {L : List Pt} {i : Nat} (h : i < L.length) : ((L.take (i + 1)).filter (inB b)) = if inB b L[i] = true then (L.take i).filter (inB b) ++ [L[i]] else (L.take i).filter (inB b) := by
  rw [List.take_succ_eq_append_getElem h, List.filter_append]
  by_cases e : inB b L[i] = true
  · rw [if_pos e, List.filter_cons_of_pos e, List.filter_nil]
  · rw [if_neg e, List.filter_cons_of_neg e, List.filter_nil, List.append_nil]
theorem within_ids {b : Box} {L : List Pt} (hi : Ids L) (i : Nat) : Ids ((L.take i).filter (inB b)) := ids_sub (List.filter_sublist.trans (List.take_sublist _ _)) hi
theorem within_len {b : Box} {L : List Pt} (i : Nat) : (sortP ((L.take i).filter (inB b))).length ≤ L.length := by
  rw [(sortP_perm _).length_eq]
  exact Nat.le_trans (List.length_filter_le _ _) (by rw [List.length_take]; omega)
theorem within_fresh {b : Box} {L : List Pt} (hi : Ids L) {i : Nat} (h : i < L.length) : ∀ q ∈ sortP ((L.take i).filter (inB b)), q.id ≠ (L[i]).id := fun q hq => by
  have h1 := (List.mem_filter.1 ((sortP_perm _).mem_iff.1 hq)).1
  obtain ⟨j, hj, e⟩ := List.getElem_of_mem h1
  rw [List.length_take] at hj
  rw [List.getElem_take] at e
  rw [← e]
  exact (List.pairwise_iff_getElem.1 hi) j i (by omega) h (by omega)
/-- the answer of a window, one more looked at -/
theorem within_in {b : Box} {L : List Pt} (hi : Ids L) {i k : Nat} (h : i < L.length) (hb : inB b L[i] = true) (hp : Parts L[i] (sortP ((L.take i).filter (inB b))) k) : sortP ((L.take (i + 1)).filter (inB b)) = slid (sortP ((L.take i).filter (inB b))) L[i] k := by
  have h1 := within_ids (b := b) hi (i + 1)
  rw [within_step h, if_pos hb] at h1 ⊢
  exact sortP_snoc h1 hp
theorem within_out {b : Box} {L : List Pt} {i : Nat} (h : i < L.length) (hb : inB b L[i] = false) : sortP ((L.take (i + 1)).filter (inB b)) = sortP ((L.take i).filter (inB b)) := by
  rw [within_step h, if_neg (by rw [hb]; decide)]
end Ward
end Go.Proofs.YtenaelkbgkpllaaGreatDoor
/- The nearest of what is left, looked for one by one. -/
namespace Go.Proofs.YtenaelkbgkpllaaGreatDoor
namespace Ward
/-- the best of the first i that are not taken yet -/
def Best (L T : List Pt) (x y : Int) (i : Nat) (best : Int) : Prop :=
  (best = -1 ∧ ∀ j, (h : j < L.length) → j < i → L[j] ∈ T) ∨ ∃ b, ∃ h : b < L.length, b < i ∧ best = (b : Int) ∧ L[b] ∉ T ∧ ∀ j, (hj : j < L.length) → j < i → L[j] ∉ T → j = b ∨ nr x y L[b] L[j]
theorem best_start (L T : List Pt) (x y : Int) : Best L T x y 0 (-1) := .inl ⟨rfl, fun j _ h => by omega⟩
theorem best_used {L T : List Pt} {x y : Int} {i : Nat} {best : Int} (h : Best L T x y i best) (hi : i < L.length) (hu : L[i] ∈ T) : Best L T x y (i + 1) best := by
  rcases h with ⟨e, h⟩ | ⟨b, hb, hbi, e, hn, h⟩
  · refine .inl ⟨e, fun j hj hji => ?_⟩
    by_cases ej : j = i
    · subst ej; exact hu
    · exact h j hj (by omega)
  · refine .inr ⟨b, hb, by omega, e, hn, fun j hj hji hnj => ?_⟩
    by_cases ej : j = i
    · subst ej; exact absurd hu hnj
    · exact h j hj (by omega) hnj
theorem best_first {L T : List Pt} {x y : Int} {i : Nat} (h : Best L T x y i (-1)) (hi : i < L.length) (hu : L[i] ∉ T) : Best L T x y (i + 1) (i : Int) := by
  rcases h with ⟨_, h⟩ | ⟨b, hb, hbi, e, hn, h⟩
  · refine .inr ⟨i, hi, by omega, rfl, hu, fun j hj hji hnj => ?_⟩
    by_cases ej : j = i
    · exact .inl ej
    · exact absurd (h j hj (by omega)) hnj
  · omega
theorem best_at {L T : List Pt} {x y : Int} {i : Nat} {b : Nat} (h : Best L T x y i (b : Int)) : ∃ h : b < L.length, b < i ∧ L[b] ∉ T ∧ ∀ j, (hj : j < L.length) → j < i → L[j] ∉ T → j = b ∨ nr x y L[b] L[j] := by
  rcases h with ⟨e, _⟩ | ⟨b', hb, hbi, e, hn, h⟩
  · omega
  · have : b = b' := by omega
    subst this
    exact ⟨hb, hbi, hn, h⟩
theorem best_near {L T : List Pt} {x y : Int} {i b : Nat} (h : Best L T x y i (b : Int)) (hb : b < L.length) (hi : i < L.length) (hu : L[i] ∉ T) (hn : nr x y L[i] L[b]) : Best L T x y (i + 1) (i : Int) := by
  obtain ⟨_, hbi, _, h⟩ := best_at h
  refine .inr ⟨i, hi, by omega, rfl, hu, fun j hj hji hnj => ?_⟩
  by_cases ej : j = i
  · exact .inl ej
  · rcases h j hj (by omega) hnj with e | e
    · subst e; exact .inr hn
    · exact .inr (nr_trans hn e)
theorem best_far {L T : List Pt} {x y : Int} {i b : Nat} (hids : Ids L) (h : Best L T x y i (b : Int)) (hb : b < L.length) (hi : i < L.length) (hn : ¬ nr x y L[i] L[b]) : Best L T x y (i + 1) (b : Int) := by
  obtain ⟨_, hbi, hbn, h⟩ := best_at h
  refine .inr ⟨b, hb, by omega, rfl, hbn, fun j hj hji hnj => ?_⟩
  by_cases ej : j = i
  · subst ej
    exact .inr (nr_total (fun e => (List.pairwise_iff_getElem.1 hids) b j hb hj hbi e.symm) hn)
  · exact h j hj (by omega) hnj
theorem best_end {L : List Pt} {x y : Int} {n : Nat} {best : Int} (hids : Ids L) (hn : n < L.length) (h : Best L ((sortN x y L).take n) x y L.length best) : ∃ b, ∃ hb : b < L.length, best = (b : Int) ∧ L[b] ∉ (sortN x y L).take n ∧ (sortN x y L).take (n + 1) = (sortN x y L).take n ++ [L[b]] := by
  have hl := sortN_length x y L
  have hno : (sortN x y L)[n] ∉ (sortN x y L).take n := fun hm => by
    obtain ⟨m, hm1, e⟩ := List.getElem_of_mem hm
    rw [List.length_take] at hm1
    rw [List.getElem_take] at e
    have h1 := (List.pairwise_iff_getElem.1 (sortN_sorted (x := x) (y := y) hids)) m n (by omega) (by omega) (by omega)
    rw [e] at h1
    exact nr_irrefl x y _ h1
  rcases h with ⟨_, h⟩ | ⟨b, hb, _, e, hbn, h⟩
  · have hmem : (sortN x y L)[n] ∈ L := (sortN_perm x y L).mem_iff.1 (List.getElem_mem _)
    obtain ⟨j, hj, e⟩ := List.getElem_of_mem hmem
    exact absurd (by rw [← e]; exact h j hj hj) hno
  · refine ⟨b, hb, e, hbn, near_next hids hn (List.getElem_mem hb) hbn (fun q hq hqn => ?_)⟩
    obtain ⟨j, hj, ej⟩ := List.getElem_of_mem hq
    subst ej
    rcases h j hj hj hqn with e | e
    · subst e; exact .inl rfl
    · exact .inr e
/-- which are taken, once one more is -/
theorem taken_step {L T : List Pt} {U : Nat → Bool} (hids : Ids L) (hU : ∀ j, (h : j < L.length) → (U j = true ↔ L[j] ∈ T)) {b : Nat} (hb : b < L.length) : ∀ j, (h : j < L.length) → ((if j = b then true else U j) = true ↔ L[j] ∈ T ++ [L[b]]) := fun j hj => by
  by_cases e : j = b
  · subst e
    simp
  · rw [if_neg e, hU j hj]
    have hne : L[j] ≠ L[b] := fun h => e (ids_index hids hj hb (by rw [h]))
    simp [hne]
theorem flags_set {α : Type} (f : Nat → α) (n b : Nat) (v : α) : ((List.range n).map f).set b v = (List.range n).map (fun j => if j = b then v else f j) := by
  apply List.ext_getElem?
  intro k
  rw [List.getElem?_set, List.length_map, List.length_range, List.getElem?_map, List.getElem?_map]
  by_cases hk : k < n
  · rw [List.getElem?_range hk]
    by_cases e : b = k
    · subst e
      simp [hk]
    · rw [if_neg e]
      simp [Ne.symm e]
  · rw [List.getElem?_eq_none (by simpa using hk)]
    by_cases e : b = k
    · subst e; simp [hk]
    · simp [e]
end Ward
end Go.Proofs.YtenaelkbgkpllaaGreatDoor
/- Reading a proof, step by step, as the document's Look goes. -/
namespace Go.Proofs.YtenaelkbgkpllaaGreatDoor
namespace Ward
theorem rdNode_short {d : Nat} {root : Bool} {s : Sta} (h : s.1.length < 2) : rdNode d root s = none := by
  cases d with
  | zero => rfl
  | succ d => rw [rdNode, if_pos h]
theorem rdNode_deep {root : Bool} {s : Sta} : rdNode 0 root s = none := rfl
/-- a head that is no head -/
theorem rdNode_bad {d : Nat} {root : Bool} {s : Sta} (h : 2 ≤ s.1.length) (hb : 4 < (s.1.getD 1 0).toNat ∨ (s.1.getD 0 0 ≠ 1 ∧ s.1.getD 0 0 ≠ 2) ∨ ((s.1.getD 1 0).toNat = 0 ∧ (s.1.getD 0 0 = 2 ∨ root = false))) : rdNode (d + 1) root s = none := by
  rw [rdNode, if_neg (by omega)]
  by_cases h4 : 4 < (s.1.getD 1 0).toNat
  · simp only [h4, if_true]
  · simp only [h4, if_false]
    rcases hb with hb | ⟨h1, h2⟩ | ⟨h0, h3⟩
    · exact absurd hb h4
    · rw [if_neg (fun e => h1 e.1), if_neg (fun e => h2 e.1)]
    · rw [if_neg, if_neg (fun e => by omega)]
      rintro ⟨e1, e2⟩
      rcases e2 with e2 | e2
      · omega
      · rcases h3 with h3 | h3
        · rw [e1] at h3; exact absurd h3 (by decide)
        · rw [e2] at h3; cases h3
theorem rdNode_leaf {d : Nat} {root : Bool} {s : Sta} (h : 2 ≤ s.1.length) (h4 : (s.1.getD 1 0).toNat ≤ 4) (hm : s.1.getD 0 0 = 1) (hr : 0 < (s.1.getD 1 0).toNat ∨ root = true) :
    rdNode (d + 1) root s = match rdMany rdPt (s.1.getD 1 0).toNat (s.1.drop 2, s.2) with
      | none => none
      | some (l, s'') => some ({ bareN (d + 1) with pts := l }, s'') := by
  rw [rdNode, if_neg (by omega)]
  simp only [show ¬ 4 < (s.1.getD 1 0).toNat by omega, if_false]
  rw [if_pos ⟨hm, hr⟩]
  generalize rdMany rdPt _ _ = r
  rcases r with _ | ⟨l, s'⟩ <;> rfl
theorem rdNode_node {d : Nat} {root : Bool} {s : Sta} (h : 2 ≤ s.1.length) (h4 : (s.1.getD 1 0).toNat ≤ 4) (hm : s.1.getD 0 0 = 2) (h0 : 0 < (s.1.getD 1 0).toNat) :
    rdNode (d + 1) root s = match rdMany (rdKid d (rdNode d false)) (s.1.getD 1 0).toNat (s.1.drop 2, s.2) with
      | none => none
      | some (l, s'') => some ({ bareN (d + 1) with kids := l }, s'') := by
  rw [rdNode, if_neg (by omega)]
  simp only [show ¬ 4 < (s.1.getD 1 0).toNat by omega, if_false]
  rw [if_neg (fun e => by rw [hm] at e; exact absurd e.1 (by decide)), if_pos ⟨hm, h0⟩]
  generalize rdMany _ _ _ = r
  rcases r with _ | ⟨l, s'⟩ <;> rfl
/-- a child's head that is none -/
theorem rdKid_bad {n : Nat} {below : Sta → Option (NT (n + 1) × Sta)} {s : Sta} (h : 53 ≤ s.1.length) (hb : (boxMay (Nd.box (headN n s.1)) && decide (1 ≤ Nd.n (headN n s.1)) && decide (Nd.n (headN n s.1) ≤ 150)) = false ∨ 1 < (s.1.getD 52 0).toNat) : rdKid n below s = none := by
  rw [rdKid, if_neg (by omega)]
  rcases hb with hb | hb
  · simp only [hb]
    rfl
  · have h0 : ¬ s.1.getD 52 0 = 0 := fun e => by rw [e] at hb; exact absurd hb (by decide)
    have h1 : ¬ s.1.getD 52 0 = 1 := fun e => by rw [e] at hb; exact absurd hb (by decide)
    simp only [h0, h1, if_false]
    split <;> rfl
theorem rdKid_hidden {n : Nat} {below : Sta → Option (NT (n + 1) × Sta)} {s : Sta} (h : 53 ≤ s.1.length) (hg : (boxMay (Nd.box (headN n s.1)) && decide (1 ≤ Nd.n (headN n s.1)) && decide (Nd.n (headN n s.1) ≤ 150)) = true) (h0 : s.1.getD 52 0 = 0) : rdKid n below s = some (headN n s.1, (s.1.drop 53, s.2)) := by
  rw [rdKid, if_neg (by omega)]
  simp only [hg, h0, if_true]
theorem rdKid_shown {n : Nat} {below : Sta → Option (NT (n + 1) × Sta)} {s : Sta} (h : 53 ≤ s.1.length) (hg : (boxMay (Nd.box (headN n s.1)) && decide (1 ≤ Nd.n (headN n s.1)) && decide (Nd.n (headN n s.1) ≤ 150)) = true) (h1 : s.1.getD 52 0 = 1) :
    rdKid n below s = match below (s.1.drop 53, s.2) with
      | none => none
      | some (b, s') => some ({ headN n s.1 with pts := Nd.pts b, kids := Nd.kids b }, s') := by
  rw [rdKid, if_neg (by omega)]
  have h0 : ¬ s.1.getD 52 0 = 0 := by rw [h1]; decide
  simp only [hg, if_true]
  rw [if_neg h0, if_pos h1]
  generalize below _ = r
  rcases r with _ | ⟨b, s'⟩ <;> rfl
theorem rdKid_short {n : Nat} {below : Sta → Option (NT (n + 1) × Sta)} {s : Sta} (h : s.1.length < 53) : rdKid n below s = none := by
  rw [rdKid, if_pos h]
/-- one more looked at -/
theorem fresh_snoc : ∀ (l : List Pt) (ids : List Int) (p : Pt), freshAll ids (l ++ [p]) = (freshAll ids l && !(((l.map Pt.id).reverse ++ ids).contains p.id))
  | [], ids, p => by simp [freshAll]
  | x :: l, ids, p => by
    rw [List.cons_append, freshAll, freshAll, fresh_snoc l (x.id :: ids) p, Bool.and_assoc]
    congr 2
    rw [List.map_cons, List.reverse_cons, List.append_assoc, List.singleton_append]
/-- an id among those of the points that were read -/
theorem ids_mem (L : List Pt) (n : Int) : ((L.map Pt.id).reverse).contains n = true ↔ ∃ k, ∃ h : k < L.length, L[k].id = n := by
  simp only [List.contains_iff_mem, List.mem_reverse, List.mem_map]
  constructor
  · rintro ⟨p, hp, e⟩
    obtain ⟨k, hk, ek⟩ := List.getElem_of_mem hp
    exact ⟨k, hk, by rw [ek]; exact e⟩
  · rintro ⟨k, hk, e⟩
    exact ⟨L[k], List.getElem_mem hk, e⟩
end Ward
end Go.Proofs.YtenaelkbgkpllaaGreatDoor
/- Children and nodes as the document's Look makes them, one by one. -/
namespace Go.Proofs.YtenaelkbgkpllaaGreatDoor
namespace Ward
/-- so many points, and so many children, may a part tell of -/
def room : Nat → Nat
  | 0 => 4
  | d + 1 => 4 * (1 + room d)
theorem chd_hidden (n : Nat) (l : List UInt8) : chd (n + 1) (headN n l) = ⟨⟨numAt l 0, numAt l 1, numAt l 2, numAt l 3⟩, numAt l 4, (l.drop 20).take 32, false, ⟨0, 0, 0, 0⟩, 0, []⟩ := by
  unfold chd
  rw [shown_no (c := headN n l) rfl rfl]
  rfl
theorem post_hidden (n : Nat) (l : List UInt8) : post (n + 1) (headN n l) = [] := rfl
theorem all_head (n : Nat) (l : List UInt8) : allN (n + 1) (headN n l) = [] := rfl
/-- a child with what is shown of it -/
def withN (n : Nat) (H b : NT (n + 1)) : NT (n + 1) := { H with pts := Nd.pts b, kids := Nd.kids b }
theorem with_pts (n : Nat) (H b : NT (n + 1)) : Nd.pts (withN n H b) = Nd.pts b := rfl
theorem with_kids (n : Nat) (H b : NT (n + 1)) : Nd.kids (withN n H b) = Nd.kids b := rfl
theorem with_said (n : Nat) (H b : NT (n + 1)) : Nd.box (withN n H b) = Nd.box H ∧ Nd.n (withN n H b) = Nd.n H ∧ Nd.dig (withN n H b) = Nd.dig H := ⟨rfl, rfl, rfl⟩
theorem textM_of {n : Nat} {b c : NT (n + 1)} (h1 : Nd.pts b = Nd.pts c) (h2 : Nd.kids b = Nd.kids c) : textM (n + 1) b = textM (n + 1) c := by
  show (if (Nd.kids b).length = 0 then leafText (Nd.pts b) else textK n (Nd.kids b)) = (if (Nd.kids c).length = 0 then leafText (Nd.pts c) else textK n (Nd.kids c))
  rw [h1, h2]
theorem boxN_s (n : Nat) (t : NT (n + 1)) : boxN (n + 1) t = Nd.box t := rfl
theorem numN_s (n : Nat) (t : NT (n + 1)) : numN (n + 1) t = Nd.n t := rfl
theorem digN_s (n : Nat) (t : NT (n + 1)) : digN (n + 1) t = Nd.dig t := rfl
theorem chd_with {d : Nat} {s s' : Sta} {b : NT (d + 1)} (h : rdNode d false s = some (b, s')) (H : NT (d + 1)) : chd (d + 1) (withN d H b) = ⟨Nd.box H, Nd.n H, Nd.dig H, true, Nd.box (madeN (d + 1) b), Nd.n (madeN (d + 1) b), textM (d + 1) b⟩ := by
  have hs : shownN (d + 1) (withN d H b) = true := by
    rw [shown_of (b := withN d H b) (c := b) (with_pts d H b) (with_kids d H b)]
    exact form_shown (rdNode_sound d false s b s' h).1.1
  unfold chd
  simp only [hs, if_true, made_of (b := withN d H b) (c := b) (with_pts d H b) (with_kids d H b), textM_of (b := withN d H b) (c := b) (with_pts d H b) (with_kids d H b), boxN_s, numN_s, digN_s, with_said]
theorem headN_said (n : Nat) (l : List UInt8) : Nd.box (headN n l) = ⟨numAt l 0, numAt l 1, numAt l 2, numAt l 3⟩ ∧ Nd.n (headN n l) = numAt l 4 ∧ Nd.dig (headN n l) = (l.drop 20).take 32 := ⟨rfl, rfl, rfl⟩
theorem chd_shown {d : Nat} {s s' : Sta} {b : NT (d + 1)} (h : rdNode d false s = some (b, s')) (l : List UInt8) : chd (d + 1) (withN d (headN d l) b) = ⟨⟨numAt l 0, numAt l 1, numAt l 2, numAt l 3⟩, numAt l 4, (l.drop 20).take 32, true, Nd.box (madeN (d + 1) b), Nd.n (madeN (d + 1) b), textM (d + 1) b⟩ := by
  rw [chd_with h]
  simp only [headN_said]
theorem post_of {n : Nat} {b c : NT (n + 1)} (h2 : Nd.kids b = Nd.kids c) : post (n + 1) b = post (n + 1) c := by
  show ((Nd.kids b).flatMap fun c => post n c ++ [chd n c]) = ((Nd.kids c).flatMap fun c => post n c ++ [chd n c])
  rw [h2]
theorem post_with (n : Nat) (H b : NT (n + 1)) : post (n + 1) (withN n H b) = post (n + 1) b := post_of (with_kids n H b)
theorem all_with (n : Nat) (H b : NT (n + 1)) : allN (n + 1) (withN n H b) = allN (n + 1) b := all_of (with_pts n H b) (with_kids n H b)
theorem rdKid_with {n : Nat} {below : Sta → Option (NT (n + 1) × Sta)} {s s' : Sta} {b : NT (n + 1)} (h : 53 ≤ s.1.length) (hg : (boxMay (Nd.box (headN n s.1)) && decide (1 ≤ Nd.n (headN n s.1)) && decide (Nd.n (headN n s.1) ≤ 150)) = true) (h1 : s.1.getD 52 0 = 1) (hb : below (s.1.drop 53, s.2) = some (b, s')) : rdKid n below s = some (withN n (headN n s.1) b, s') := by
  rw [rdKid_shown h hg h1, hb]
  generalize headN n s.1 = H
  rfl
/-- a node of these children, as it is made -/
theorem nodeN_made {n : Nat} {cs : List (NT (n + 1))} (h : 0 < cs.length) : Nd.box (madeN (n + 2) ({ bareN (n + 1) with kids := cs } : NT (n + 2))) = boxL (cs.map (boxN (n + 1))) ∧ Nd.n (madeN (n + 2) ({ bareN (n + 1) with kids := cs } : NT (n + 2))) = (cs.map (numN (n + 1))).sum ∧ textM (n + 2) ({ bareN (n + 1) with kids := cs } : NT (n + 2)) = textK (n + 1) cs := by
  have h0 : ¬ (Nd.kids ({ bareN (n + 1) with kids := cs } : NT (n + 2))).length = 0 := by
    show ¬ cs.length = 0
    omega
  rw [made_node h0]
  refine ⟨rfl, rfl, ?_⟩
  rw [textM, if_neg h0]
theorem leafN_made {n : Nat} {l : List Pt} : Nd.box (madeN (n + 1) ({ bareN n with pts := l } : NT (n + 1))) = boxL (l.map boxOf) ∧ Nd.n (madeN (n + 1) ({ bareN n with pts := l } : NT (n + 1))) = (l.length : Nat) ∧ textM (n + 1) ({ bareN n with pts := l } : NT (n + 1)) = leafText l := by
  have h0 : (Nd.kids ({ bareN n with pts := l } : NT (n + 1))).length = 0 := rfl
  rw [made_leaf h0]
  refine ⟨rfl, rfl, ?_⟩
  rw [textM, if_pos h0]
theorem leafN_post {n : Nat} {l : List Pt} : post (n + 1) ({ bareN n with pts := l } : NT (n + 1)) = [] := rfl
theorem leafN_all {n : Nat} {l : List Pt} : allN (n + 1) ({ bareN n with pts := l } : NT (n + 1)) = l := List.append_nil l
theorem nodeN_post {n : Nat} {cs : List (NT (n + 1))} : post (n + 2) ({ bareN (n + 1) with kids := cs } : NT (n + 2)) = cs.flatMap fun c => post (n + 1) c ++ [chd (n + 1) c] := rfl
theorem nodeN_all {n : Nat} {cs : List (NT (n + 1))} : allN (n + 2) ({ bareN (n + 1) with kids := cs } : NT (n + 2)) = cs.flatMap (allN (n + 1)) := rfl
/-- the ids behind more points -/
theorem ids_more (L M : List Pt) : ((L ++ M).map Pt.id).reverse = (M.map Pt.id).reverse ++ (L.map Pt.id).reverse := by
  rw [List.map_append, List.reverse_append]
/-- the state that a Look stands at -/
def at' (s : List UInt8) (i : Nat) (L : List Pt) : Sta := (s.drop i, (L.map Pt.id).reverse)
/-- what a part should come to: where it is not bad -/
structure PartGood (d : Nat) (root : Bool) (s : List UInt8) (i : Nat) (L : List Pt) (K : List Chd) (t : NT (d + 1)) (i' : Nat) (L' : List Pt) (K' : List Chd) (b : Box) (n : Int) (x : List UInt8) : Prop where
  rd : rdNode d root (at' s i L) = some (t, at' s i' L')
  pts : L' = L ++ allN (d + 1) t
  kids : K' = K ++ post (d + 1) t
  box : b = Nd.box (madeN (d + 1) t)
  num : n = Nd.n (madeN (d + 1) t)
  text : x = textM (d + 1) t
/-- what a child should come to -/
structure KidGood (d : Nat) (s : List UInt8) (i : Nat) (L : List Pt) (K : List Chd) (t : NT (d + 1)) (i' : Nat) (L' : List Pt) (K' : List Chd) (c : Chd) : Prop where
  rd : rdKid d (rdNode d false) (at' s i L) = some (t, at' s i' L')
  pts : L' = L ++ allN (d + 1) t
  kids : K' = K ++ (post (d + 1) t ++ [chd (d + 1) t])
  is : c = chd (d + 1) t
theorem boxL_snoc {l : List Box} (h : l ≠ []) (b : Box) : boxL (l ++ [b]) = join (boxL l) b := by
  cases l with
  | nil => exact absurd rfl h
  | cons a l => simp [boxL, List.foldl_append]
/-- children read so far, in a node of so many -/
structure KidsGood (d m : Nat) (s : List UInt8) (i0 : Nat) (L0 : List Pt) (K0 : List Chd) (k : Nat) (cs : List (NT (d + 1))) (i : Nat) (L : List Pt) (K : List Chd) (b : Box) (n : Int) (x : List UInt8) : Prop where
  half : Half (rdKid d (rdNode d false)) m (at' s i0 L0) k cs (at' s i L)
  pts : L = L0 ++ cs.flatMap (allN (d + 1))
  kids : K = K0 ++ cs.flatMap fun c => post (d + 1) c ++ [chd (d + 1) c]
  box : b = boxL (cs.map (boxN (d + 1)))
  num : n = (cs.map (numN (d + 1))).sum
  text : x = 2 :: UInt8.ofNat m :: cs.flatMap (saidN (d + 1))
theorem KidsGood.start (d m : Nat) (s : List UInt8) (i : Nat) (L : List Pt) (K : List Chd) : KidsGood d m s i L K 0 [] i L K ⟨0, 0, 0, 0⟩ 0 [2, UInt8.ofNat m] :=
  ⟨half_start _ _ _, by simp, by simp, rfl, rfl, rfl⟩
theorem KidsGood.step {d m : Nat} {s : List UInt8} {i0 : Nat} {L0 : List Pt} {K0 : List Chd} {k : Nat} {cs : List (NT (d + 1))} {i : Nat} {L : List Pt} {K : List Chd} {b : Box} {n : Int} {x : List UInt8} {t : NT (d + 1)} {i' : Nat} {L' : List Pt} {K' : List Chd} {c : Chd}
    (h : KidsGood d m s i0 L0 K0 k cs i L K b n x) (hk : k < m) (g : KidGood d s i L K t i' L' K' c) :
    KidsGood d m s i0 L0 K0 (k + 1) (cs ++ [t]) i' L' K' (if k = 0 then join c.box c.box else join b c.box) (n + c.n) (x ++ (boxText c.box ++ fourI c.n ++ c.dig)) := by
  have ec := g.is
  refine ⟨half_step h.half hk g.rd, ?_, ?_, ?_, ?_, ?_⟩
  · rw [g.pts, h.pts]; simp
  · rw [g.kids, h.kids]; simp
  · rw [ec, List.map_append, List.map_singleton]
    have hl : cs.length = k := h.half.1
    by_cases h0 : k = 0
    · rw [if_pos h0]
      have : cs = [] := List.eq_nil_of_length_eq_zero (by omega)
      rw [this]
      rfl
    · rw [if_neg h0, boxL_snoc (fun e => by
        have := congrArg List.length e
        simp at this
        rw [this] at hl
        exact h0 hl.symm), h.box]
      rfl
  · rw [ec, List.map_append, List.map_singleton, List.sum_append, h.num]
    simp [chd]
  · rw [ec, h.text, List.flatMap_append]
    simp [saidN, chd]
theorem KidsGood.none {d m : Nat} {s : List UInt8} {i0 : Nat} {L0 : List Pt} {K0 : List Chd} {k : Nat} {cs : List (NT (d + 1))} {i : Nat} {L : List Pt} {K : List Chd} {b : Box} {n : Int} {x : List UInt8} 
    (h : KidsGood d m s i0 L0 K0 k cs i L K b n x) (hk : k < m) (g : rdKid d (rdNode d false) (at' s i L) = none) : rdMany (rdKid d (rdNode d false)) m (at' s i0 L0) = none := half_none h.half hk g
/-- all children read: a node -/
theorem KidsGood.node {d m : Nat} {root : Bool} {s : List UInt8} {i0 : Nat} {L0 : List Pt} {K0 : List Chd} {cs : List (NT (d + 1))} {i : Nat} {L : List Pt} {K : List Chd} {b : Box} {n : Int} {x : List UInt8}
    (h : KidsGood d m s (i0 + 2) L0 K0 m cs i L K b n x) (h2 : i0 + 2 ≤ s.length) (h4 : m ≤ 4) (h0 : 0 < m) (hm : (s.drop i0).getD 0 0 = 2) (hc : ((s.drop i0).getD 1 0).toNat = m) :
    PartGood (d + 1) root s i0 L0 K0 ({ bareN (d + 1) with kids := cs } : NT (d + 2)) i L K b n x := by
  have e := rdNode_node (d := d) (root := root) (s := at' s i0 L0) (by show 2 ≤ (s.drop i0).length; rw [List.length_drop]; omega) (by show ((s.drop i0).getD 1 0).toNat ≤ 4; omega) hm (by show 0 < ((s.drop i0).getD 1 0).toNat; omega)
  have e2 : ((at' s i0 L0).1.drop 2, (at' s i0 L0).2) = at' s (i0 + 2) L0 := by
    show ((s.drop i0).drop 2, (L0.map Pt.id).reverse) = (s.drop (i0 + 2), (L0.map Pt.id).reverse)
    rw [List.drop_drop]
  rw [e2, show ((at' s i0 L0).1.getD 1 0).toNat = m from hc, half_end h.half] at e
  have hl : cs.length = m := h.half.1
  obtain ⟨n1, n2, n3⟩ := nodeN_made (n := d) (cs := cs) (by omega)
  refine ⟨e, h.pts, h.kids, ?_, ?_, ?_⟩
  · rw [n1, h.box]
  · rw [n2, h.num]
  · rw [n3, h.text, textK, hl]
theorem node_none {d m : Nat} {root : Bool} {s : List UInt8} {i0 : Nat} {L0 : List Pt} (h : rdMany (rdKid d (rdNode d false)) m (at' s (i0 + 2) L0) = none) (h2 : i0 + 2 ≤ s.length) (h4 : m ≤ 4) (h0 : 0 < m) (hm : (s.drop i0).getD 0 0 = 2) (hc : ((s.drop i0).getD 1 0).toNat = m) :
    rdNode (d + 1) root (at' s i0 L0) = none := by
  have e := rdNode_node (d := d) (root := root) (s := at' s i0 L0) (by show 2 ≤ (s.drop i0).length; rw [List.length_drop]; omega) (by show ((s.drop i0).getD 1 0).toNat ≤ 4; omega) hm (by show 0 < ((s.drop i0).getD 1 0).toNat; omega)
  have e2 : ((at' s i0 L0).1.drop 2, (at' s i0 L0).2) = at' s (i0 + 2) L0 := by
    show ((s.drop i0).drop 2, (L0.map Pt.id).reverse) = (s.drop (i0 + 2), (L0.map Pt.id).reverse)
    rw [List.drop_drop]
  rw [e2, show ((at' s i0 L0).1.getD 1 0).toNat = m from hc, h] at e
  exact e
/-- a leaf of so many points: all that Look.leaf says -/
def leafOk (s : List UInt8) (i m : Nat) (L : List Pt) : Bool := decide (i + 12 * m ≤ s.length) && (ptsAt (s.drop i) m).all ptOk && freshAll (L.map Pt.id).reverse (ptsAt (s.drop i) m)
theorem leaf_good {d m : Nat} {root : Bool} {s : List UInt8} {i0 : Nat} {L0 : List Pt} {K0 : List Chd} (h : leafOk s (i0 + 2) m L0 = true) (h2 : i0 + 2 ≤ s.length) (h4 : m ≤ 4) (h0 : 0 < m ∨ root = true) (hm : (s.drop i0).getD 0 0 = 1) (hc : ((s.drop i0).getD 1 0).toNat = m) :
    PartGood (d + 1) root s i0 L0 K0 ({ bareN (d + 1) with pts := ptsAt (s.drop (i0 + 2)) m } : NT (d + 2)) (i0 + 2 + 12 * m) (L0 ++ ptsAt (s.drop (i0 + 2)) m) K0 (boxL ((ptsAt (s.drop (i0 + 2)) m).map boxOf)) ((ptsAt (s.drop (i0 + 2)) m).length : Nat) (leafText (ptsAt (s.drop (i0 + 2)) m)) := by
  have e := rdNode_leaf (d := d) (root := root) (s := at' s i0 L0) (by show 2 ≤ (s.drop i0).length; rw [List.length_drop]; omega) (by show ((s.drop i0).getD 1 0).toNat ≤ 4; omega) hm (by show 0 < ((s.drop i0).getD 1 0).toNat ∨ _; rw [hc]; exact h0)
  simp only [leafOk, Bool.and_eq_true, decide_eq_true_eq] at h
  obtain ⟨⟨g1, g2⟩, g3⟩ := h
  have e2 : ((at' s i0 L0).1.drop 2, (at' s i0 L0).2) = (s.drop (i0 + 2), (L0.map Pt.id).reverse) := by
    show ((s.drop i0).drop 2, (L0.map Pt.id).reverse) = _
    rw [List.drop_drop]
  rw [e2, show ((at' s i0 L0).1.getD 1 0).toNat = m from hc, rdPts, if_pos ⟨by rw [List.length_drop]; omega, g2, g3⟩] at e
  simp only [List.drop_drop] at e
  rw [← ids_more, show (i0 + 2 + 12 * m) = i0 + 2 + 12 * m from rfl] at e
  obtain ⟨n1, n2, n3⟩ := leafN_made (n := d + 1) (l := ptsAt (s.drop (i0 + 2)) m)
  exact ⟨e, by rw [leafN_all], by rw [leafN_post, List.append_nil], n1.symm, n2.symm, n3.symm⟩
theorem leaf_none {d m : Nat} {root : Bool} {s : List UInt8} {i0 : Nat} {L0 : List Pt} (h : leafOk s (i0 + 2) m L0 = false) (h2 : i0 + 2 ≤ s.length) (h4 : m ≤ 4) (h0 : 0 < m ∨ root = true) (hm : (s.drop i0).getD 0 0 = 1) (hc : ((s.drop i0).getD 1 0).toNat = m) :
    rdNode (d + 1) root (at' s i0 L0) = none := by
  have e := rdNode_leaf (d := d) (root := root) (s := at' s i0 L0) (by show 2 ≤ (s.drop i0).length; rw [List.length_drop]; omega) (by show ((s.drop i0).getD 1 0).toNat ≤ 4; omega) hm (by show 0 < ((s.drop i0).getD 1 0).toNat ∨ _; rw [hc]; exact h0)
  have e2 : ((at' s i0 L0).1.drop 2, (at' s i0 L0).2) = (s.drop (i0 + 2), (L0.map Pt.id).reverse) := by
    show ((s.drop i0).drop 2, (L0.map Pt.id).reverse) = _
    rw [List.drop_drop]
  rw [e2, show ((at' s i0 L0).1.getD 1 0).toNat = m from hc, rdPts, if_neg (fun g => by
    obtain ⟨g1, g2, g3⟩ := g
    rw [List.length_drop] at g1
    unfold leafOk at h
    rw [g2, g3, decide_eq_true (show i0 + 2 + 12 * m ≤ s.length by omega)] at h
    cases h)] at e
  exact e
/-- one more point of a leaf -/
theorem ptsAt_snoc (b : List UInt8) (n : Nat) : ptsAt b (n + 1) = ptsAt b n ++ [ptAt b n] := by
  unfold ptsAt
  rw [List.range_succ, List.map_append, List.map_singleton]
theorem ptsAt_len (b : List UInt8) (n : Nat) : (ptsAt b n).length = n := by simp [ptsAt]
theorem all_snoc (l : List Pt) (p : Pt) : (l ++ [p]).all ptOk = (l.all ptOk && ptOk p) := by simp
end Ward
end Go.Proofs.YtenaelkbgkpllaaGreatDoor
/- How far a box is; which children must be shown. -/
namespace Go.Proofs.YtenaelkbgkpllaaGreatDoor
open Go.RowKit

theorem gap_le {lo hi x : Int} (h1 : -1000000 ≤ lo) (h2 : lo ≤ 1000000) (h3 : -1000000 ≤ hi) (h4 : hi ≤ 1000000) (h5 : -1000000 ≤ x) (h6 : x ≤ 1000000) : Ward.gap lo hi x ≤ 2000000 := by
  unfold Ward.gap; omega
theorem sq_le {u : Int} (h0 : 0 ≤ u) (h1 : u ≤ 2000000) : 0 ≤ u * u ∧ u * u ≤ 4000000000000 :=
  ⟨Int.mul_nonneg h0 h0, Int.le_trans (Int.mul_le_mul h1 h1 h0 (by decide)) (by decide)⟩
theorem gap_if (lo hi x : Int) : (if (if lo - x < 0 then 0 else lo - x) < x - hi then x - hi else if lo - x < 0 then 0 else lo - x) = Ward.gap lo hi x := by
  unfold Ward.gap
  (repeat' split) <;> omega
set_option maxRecDepth 100000 in
set_option maxHeartbeats 2000000 in
theorem distance_any (b : Ward.Box) (x y : Int) (w : World) (hb : b.In) (hx : -1000000 ≤ x ∧ x ≤ 1000000) (hy : -1000000 ≤ y ∧ y ≤ 1000000) :
    Calls Tryz.prog 80 #[Bx b, I x, I y] w fun e w' => e = .returned (I (Ward.dist b x y)) ∧ Below w.heap.size w w' := by
  obtain ⟨a1, a2, b1, b2, c1, c2, d1, d2⟩ := hb
  obtain ⟨x1, x2⟩ := hx
  obtain ⟨y1, y2⟩ := hy
  have HD := hide (show Ward.dist b x y = Ward.gap b.a b.c x * Ward.gap b.a b.c x + Ward.gap b.b b.d y * Ward.gap b.b b.d y from rfl)
  have HGX := hide (gap_if b.a b.c x)
  have HGY := hide (gap_if b.b b.d y)
  have u0 := Ward.gap_nonneg b.a b.c x
  have u1 := gap_le a1 a2 c1 c2 x1 x2
  have v0 := Ward.gap_nonneg b.b b.d y
  have v1 := gap_le b1 b2 d1 d2 y1 y2
  obtain ⟨s0, s1⟩ := sq_le u0 u1
  obtain ⟨t0, t1⟩ := sq_le v0 v1
  obtain ⟨ba, bb, bc, bd⟩ := b
  simp only at *
  go_enter Tryz.func80, Tryz.ntmps80
  go_upto_region 3 with fail
  rw [HGX.out, HGY.out]
  generalize Ward.gap ba bc x = u at *
  generalize Ward.gap bb bd y = v at *
  go_wp2
  go_ret
  exact ⟨by rw [HD.out]; rfl, (Below.refl w.heap.size w).alloc (Nat.le_refl _) _⟩
theorem must_window {q : Ward.Qr} (h : q.kind = 0) (a : List Ward.Pt) (b : Ward.Box) : Ward.must q a b = Ward.meets (Ward.window q) b := by unfold Ward.must; rw [if_pos h]
/-- a query and a box as they lie -/
def QryBox (w : World) (g k : Nat) (q : Ward.Qr) (b : Ward.Box) : Prop :=
  w.heap[g]? = some (.cells #[I q.kind, I q.a, I q.b, I q.c, I q.d, I q.x, I q.y, I q.k] 46 (0, 0)) ∧ w.heap[k]? = some (.cells #[I b.a, I b.b, I b.c, I b.d] 88 (0, 0))
theorem QryBox.below {w w' : World} {g k B : Nat} {q : Ward.Qr} {b : Ward.Box} (h : QryBox w g k q b) (hb : Below B w w') (hg : g < B) (hk : k < B) : QryBox w' g k q b := ⟨(hb.block g hg).trans h.1, (hb.block k hk).trans h.2⟩
theorem rowQ8 {w : World} {g t : Nat} {a b c d e f h i : Value} (hr : w.heap[g]? = some (.cells #[a, b, c, d, e, f, h, i] t (0, 0))) : w.cell? ⟨g, 0, none⟩ = some a ∧ w.cell? ⟨g, 1, none⟩ = some b ∧ w.cell? ⟨g, 2, none⟩ = some c ∧ w.cell? ⟨g, 3, none⟩ = some d ∧ w.cell? ⟨g, 4, none⟩ = some e ∧ w.cell? ⟨g, 5, none⟩ = some f ∧ w.cell? ⟨g, 6, none⟩ = some h ∧ w.cell? ⟨g, 7, none⟩ = some i := by
  refine ⟨?_, ?_, ?_, ?_, ?_, ?_, ?_, ?_⟩ <;> rw [cell_of_row _ _ _ _ _ _ hr] <;> rfl
set_option maxRecDepth 100000 in
set_option maxHeartbeats 4000000 in
theorem mustShow_window (q : Ward.Qr) (v : Value) (b : Ward.Box) (w : World) (hk : q.kind = 0) :
    Calls Tryz.prog 42 #[Qv q, v, Bx b] w fun e w' => e = .returned (.bool (Ward.meets (Ward.window q) b)) ∧ Below w.heap.size w w' := by
  have HWI := hide (fun W => windowOf_any q W)
  generalize Ward.window q = wq at *
  have HMT := hide (fun W => meets_any wq b W)
  generalize Ward.meets wq b = r at *
  obtain ⟨qk, qa, qb, qc, qd, qx, qy, qn⟩ := q
  simp only at hk
  subst hk
  have hb2 := fun o o' => ((Below.refl w.heap.size w).alloc (Nat.le_refl _) o).alloc (by simp) o'
  have hr2 := heap_alloc2_new w
  have hr1 := heap_alloc2_old w
  have hs2 := fun o o' => show ((w.alloc o).alloc o').heap.size = w.heap.size + 2 by simp
  go_enter Tryz.func42, Tryz.ntmps42
  go_upto_region 2 with fail
  generalize hW : World.alloc (World.alloc w _) _ = w1
  have hb1 : Below w.heap.size w w1 := by rw [← hW]; exact hb2 _ _
  have h1 : QryBox w1 w.heap.size (w.heap.size + 1) ⟨0, qa, qb, qc, qd, qx, qy, qn⟩ b := by rw [← hW]; exact ⟨hr1 _ _, hr2 _ _⟩
  have hs1 : w.heap.size + 2 ≤ w1.heap.size := by rw [← hW, hs2]; exact Nat.le_refl _
  clear hb2 hr1 hr2 hs2 hW
  have HB1 := hide hb1
  have H1 := hide h1
  obtain ⟨k0, k1, k2, k3, k4, k5, k6, k7⟩ := rowQ8 h1.1
  obtain ⟨c1, c2, c3, c4⟩ := row4 h1.2
  clear hb1 h1
  go_region_with (first | (go_at_call 73; go_must (refine (HWI.out w1.drew).mono ?_; rintro _ w6 ⟨rfl, hb6⟩; have hs6 := hb6.size; have H6 := hide (QryBox.below (w := w1.drew) H1.out hb6 (by simp; omega) (by simp; omega)); obtain ⟨e1, e2, e3, e4⟩ := row4 H6.out.2; have HB6 := hide hb6; clear hb6)) | (go_at_call 78; go_must (refine (HMT.out w6).mono ?_; rintro _ w7 ⟨rfl, hb7⟩; have HB7 := hide hb7; have hs7 := hb7.size; clear hb7)))
  all_goals
    go_wp2
    go_ret
    have hd : w1.drew.heap.size = w1.heap.size := by simp
    rw [hd] at hs6
    exact ⟨rfl, (HB1.out.drew.trans (HB6.out.mono (by simp; omega))).trans (HB7.out.mono (by omega))⟩
end Go.Proofs.YtenaelkbgkpllaaGreatDoor
/- A heap in a list: what goes up and down it. -/
namespace Go.Proofs.YtenaelkbgkpllaaGreatDoor
namespace Heap
variable {α : Type} [Inhabited α]
/-- what stands at a place -/
def at' (l : List α) (k : Nat) : α := l[k]?.getD default
def par (k : Nat) : Nat := (k - 1) / 2
/-- two places exchanged -/
def swp (l : List α) (i j : Nat) : List α := (l.set i (at' l j)).set j (at' l i)
theorem at_get {l : List α} {k : Nat} (h : k < l.length) : at' l k = l[k] := by
  unfold at'
  rw [List.getElem?_eq_getElem h]
  rfl
theorem swp_len (l : List α) (i j : Nat) : (swp l i j).length = l.length := by simp [swp]
theorem swp_perm {l : List α} {i j : Nat} (hi : i < l.length) (hj : j < l.length) : (swp l i j).Perm l := by
  unfold swp
  rw [at_get hi, at_get hj]
  exact List.set_set_perm hi hj
theorem at_swp {l : List α} {i j : Nat} (hi : i < l.length) (hj : j < l.length) (k : Nat) : at' (swp l i j) k = if k = j then at' l i else if k = i then at' l j else at' l k := by
  show ((l.set i (at' l j)).set j (at' l i))[k]?.getD default = _
  by_cases h1 : k = j
  · rw [if_pos h1, h1, List.getElem?_set, if_pos rfl, if_pos (by simpa using hj)]
    rfl
  · rw [if_neg h1, List.getElem?_set, if_neg (fun e => h1 e.symm), List.getElem?_set]
    by_cases h2 : k = i
    · rw [if_pos h2, if_pos h2.symm, if_pos hi]
      rfl
    · rw [if_neg h2, if_neg (fun e => h2 e.symm)]
      rfl
theorem at_app {l : List α} {x : α} {k : Nat} (h : k < l.length) : at' (l ++ [x]) k = at' l k := by
  unfold at'
  rw [List.getElem?_append_left h]
theorem at_last (l : List α) (x : α) : at' (l ++ [x]) l.length = x := by
  unfold at'
  rw [List.getElem?_append_right (Nat.le_refl _), Nat.sub_self]
  rfl
theorem at_take {l : List α} {n k : Nat} (h : k < n) : at' (l.take n) k = at' l k := by
  unfold at'
  rw [List.getElem?_take, if_pos h]
theorem at_mem {l : List α} {k : Nat} (h : k < l.length) : at' l k ∈ l := by rw [at_get h]; exact List.getElem_mem h
/-- no one stands below one that comes behind it -/
def Ok (lt : α → α → Prop) (f : Nat → α) (n : Nat) : Prop := ∀ k, k < n → 0 < k → ¬ lt (f k) (f (par k))
/-- but for one that may have to go up -/
structure Up (lt : α → α → Prop) (f : Nat → α) (n j : Nat) : Prop where
  inn : j < n
  rest : ∀ k, k < n → 0 < k → k ≠ j → ¬ lt (f k) (f (par k))
  over : ∀ k, k < n → 0 < k → par k = j → 0 < j → ¬ lt (f k) (f (par j))
/-- but for one that may have to go down -/
structure Down (lt : α → α → Prop) (f : Nat → α) (n i : Nat) : Prop where
  rest : ∀ k, k < n → 0 < k → par k ≠ i → ¬ lt (f k) (f (par k))
  over : ∀ k, k < n → 0 < k → par k = i → 0 < i → ¬ lt (f k) (f (par i))
/-- an order, some of which may be alike -/
structure Weak (lt : α → α → Prop) : Prop where
  anti : ∀ a b, lt a b → ¬ lt b a
  trans : ∀ a b c, ¬ lt b a → ¬ lt c b → ¬ lt c a
theorem par_lt {k : Nat} (h : 0 < k) : par k < k := by unfold par; omega
section
variable {lt : α → α → Prop}
theorem up_start {l : List α} {x : α} (h : Ok lt (at' l) l.length) : Up lt (at' (l ++ [x])) (l.length + 1) l.length := by
  refine ⟨by omega, fun k hk h0 hne => ?_, fun k hk h0 hp _ => ?_⟩
  · have h1 : k < l.length := by omega
    have h2 := par_lt h0
    rw [at_app h1, at_app (by omega)]
    exact h k h1 h0
  · have := par_lt h0
    omega
theorem up_step (hw : Weak lt) {l : List α} {n j : Nat} (hn : n ≤ l.length) (h : Up lt (at' l) n j) (h0 : 0 < j) (hl : lt (at' l j) (at' l (par j))) : Up lt (at' (swp l (par j) j)) n (par j) := by
  have hp := par_lt h0
  have hj := h.inn
  have ha := fun k => at_swp (l := l) (i := par j) (j := j) (by omega) (by omega) k
  refine ⟨by omega, fun k hk hk0 hne => ?_, fun k hk hk0 hpk hp0 => ?_⟩
  · have hpk := par_lt hk0
    rw [ha, ha]
    by_cases e1 : k = j
    · subst e1
      rw [if_pos rfl, if_neg (by omega), if_pos rfl]
      exact hw.anti _ _ hl
    · rw [if_neg e1, if_neg hne]
      by_cases e2 : par k = j
      · rw [if_pos e2]
        exact h.over k hk hk0 e2 h0
      · rw [if_neg e2]
        by_cases e3 : par k = par j
        · rw [if_pos e3]
          have h1 := h.rest k hk hk0 e1
          rw [e3] at h1
          exact hw.trans _ _ _ (hw.anti _ _ hl) h1
        · rw [if_neg e3]
          exact h.rest k hk hk0 e1
  · have hpp := par_lt hp0
    have hkk := par_lt hk0
    rw [ha, ha, if_neg (show ¬ par (par j) = j by omega), if_neg (show ¬ par (par j) = par j by omega)]
    have h2 := h.rest (par j) (by omega) hp0 (by omega)
    by_cases e1 : k = j
    · subst e1
      rw [if_pos rfl]
      exact h2
    · rw [if_neg e1, if_neg (show ¬ k = par j by omega)]
      have h1 := h.rest k hk hk0 e1
      rw [hpk] at h1
      exact hw.trans _ _ _ h2 h1
theorem down_step (hw : Weak lt) {l : List α} {n i j : Nat} (hn : n ≤ l.length) (h : Down lt (at' l) n i) (hj : j < n) (hj0 : 0 < j) (hp : par j = i) (hl : lt (at' l j) (at' l i)) (hs : ∀ k, k < n → 0 < k → par k = i → ¬ lt (at' l k) (at' l j)) : Down lt (at' (swp l i j)) n j := by
  have hij := par_lt hj0
  rw [hp] at hij
  have ha := fun k => at_swp (l := l) (i := i) (j := j) (by omega) (by omega) k
  refine ⟨fun k hk hk0 hne => ?_, fun k hk hk0 hpk _ => ?_⟩
  · have hpk := par_lt hk0
    rw [ha, ha, if_neg hne]
    by_cases e1 : k = j
    · subst e1
      rw [if_pos rfl, if_pos hp]
      exact hw.anti _ _ hl
    · rw [if_neg e1]
      by_cases e2 : par k = i
      · rw [if_pos e2, if_neg (by omega)]
        exact hs k hk hk0 e2
      · rw [if_neg e2]
        by_cases e3 : k = i
        · subst e3
          rw [if_pos rfl]
          exact h.over j hj hj0 hp hk0
        · rw [if_neg e3]
          exact h.rest k hk hk0 e2
  · have hkj : j < k := by have := par_lt hk0; omega
    rw [ha, ha, if_neg (by omega), if_neg (by omega), hp, if_neg (by omega), if_pos rfl]
    have h1 := h.rest k hk hk0 (by omega)
    rw [hpk] at h1
    exact h1
/-- behind the exchange of the first and the last -/
theorem down_start {l : List α} {n : Nat} (hn : l.length = n + 1) (h : Ok lt (at' l) (n + 1)) : Down lt (at' (swp l 0 n)) n 0 := by
  have ha := fun k => at_swp (l := l) (i := 0) (j := n) (by omega) (by omega) k
  refine ⟨fun k hk h0 hne => ?_, fun k _ _ _ h0 => absurd h0 (by omega)⟩
  have hp := par_lt h0
  rw [ha, ha, if_neg (by omega), if_neg (by omega), if_neg (by omega), if_neg hne]
  exact h k (by omega) h0
theorem ok_take {l : List α} {n m : Nat} (h : Ok lt (at' l) n) (hm : n ≤ m) : Ok lt (at' (l.take m)) n := by
  intro k hk h0
  have := par_lt h0
  rw [at_take (by omega), at_take (by omega)]
  exact h k hk h0
end
end Heap
namespace Heap
section
variable {α : Type} {lt : α → α → Prop}
theorem up_end {f : Nat → α} {n j : Nat} (h : Up lt f n j) (he : j = 0 ∨ ¬ lt (f j) (f (par j))) : Ok lt f n := by
  intro k hk h0
  by_cases e : k = j
  · subst e
    rcases he with he | he
    · omega
    · exact he
  · exact h.rest k hk h0 e
theorem down_end {f : Nat → α} {n i : Nat} (h : Down lt f n i) (he : ∀ k, k < n → 0 < k → par k = i → ¬ lt (f k) (f i)) : Ok lt f n := by
  intro k hk h0
  by_cases e : par k = i
  · rw [e]; exact he k hk h0 e
  · exact h.rest k hk h0 e
/-- the first is no farther than any -/
theorem first_least (hw : Weak lt) (hi : ∀ a, ¬ lt a a) {f : Nat → α} {n : Nat} (h : Ok lt f n) : ∀ k, k < n → ¬ lt (f k) (f 0) := by
  intro k
  induction k using Nat.strongRecOn with
  | ind k ih =>
    intro hk
    by_cases h0 : k = 0
    · subst h0; exact hi _
    · have hp := par_lt (show 0 < k by omega)
      exact hw.trans _ _ _ (ih (par k) hp (by omega)) (h k hk (by omega))
end
end Heap
end Go.Proofs.YtenaelkbgkpllaaGreatDoor
/- The entries of the heap: how their methods are reached; how two compare. -/
namespace Go.Proofs.YtenaelkbgkpllaaGreatDoor
open Go.RowKit

theorem meth_parts {t : TypeId} {name : String} {f : FuncId} {b : Bool} (h : (Tryz.prog.info? t).bind (fun i => (i.methods.find? (·.name == name)).map fun m => (m.path.toList.isEmpty, m.func)) = some (true, some (f, b))) :
    ∃ i m, Tryz.prog.info? t = some i ∧ i.methods.find? (·.name == name) = some m ∧ m.path = #[] ∧ m.func = some (f, b) := by
  cases hi : Tryz.prog.info? t with
  | none => rw [hi] at h; cases h
  | some i =>
    rw [hi] at h
    simp only [Option.bind_some] at h
    cases hm : i.methods.find? (·.name == name) with
    | none => rw [hm] at h; cases h
    | some m =>
      rw [hm] at h
      simp only [Option.map_some, Option.some.injEq, Prod.mk.injEq] at h
      refine ⟨i, m, rfl, hm, ?_, h.2⟩
      have h1 := h.1
      cases hp : m.path with
      | mk l => rw [hp] at h1; cases l with | nil => rfl | cons _ _ => cases h1
theorem m_value {name : String} {f : FuncId} (hm : (Tryz.prog.info? 163).bind (fun i => (i.methods.find? (·.name == name)).map fun m => (m.path.toList.isEmpty, m.func)) = some (true, some (f, false))) (h : Nat) (v : Value) (w : World) (hc : w.cell? ⟨h, 0, none⟩ = some v) :
    (method 376 163 (.pointer (some ⟨h, 0, none⟩)) name).run Tryz.prog w = .ok (f, v) w := by
  obtain ⟨i, m, hi, hf, hp, hfn⟩ := meth_parts hm
  have a1 := Tryz.isAgg168
  have u1 := Tryz.underlying163
  rw [show (376 : Nat) = 375 + 1 from rfl]
  unfold method
  have e1 : (follow [] 163 (Place.val (Value.pointer (some ⟨h, 0, none⟩)))).run Tryz.prog w = .ok (163, Place.val (Value.pointer (some ⟨h, 0, none⟩))) w := rfl
  have e2 : ∀ nm : String, (receiverAt 163 (Place.val (Value.pointer (some ⟨h, 0, none⟩))) false (some nm)).run Tryz.prog w = .ok v w := by
    intro nm
    have e3 : Builtin.ssaWrapNilChk_ #[163] 163 #[Value.pointer (some ⟨h, 0, none⟩), strVal "", strVal nm] = pure (Value.pointer (some ⟨h, 0, none⟩)) := rfl
    unfold receiverAt
    simp only [Sem.run_bind, run_underlying u1 w, Result.andThen_ok, Place.get]
    go_simp
  simp only [typeInfo, Sem.run_bind]
  go_simp
theorem m_len (h : Nat) (v : Value) (w : World) (hc : w.cell? ⟨h, 0, none⟩ = some v) : (method 376 163 (.pointer (some ⟨h, 0, none⟩)) "Len").run Tryz.prog w = .ok (114, v) w := m_value (by kernel_rfl) h v w hc
theorem m_less (h : Nat) (v : Value) (w : World) (hc : w.cell? ⟨h, 0, none⟩ = some v) : (method 376 163 (.pointer (some ⟨h, 0, none⟩)) "Less").run Tryz.prog w = .ok (212, v) w := m_value (by kernel_rfl) h v w hc
theorem m_swap (h : Nat) (v : Value) (w : World) (hc : w.cell? ⟨h, 0, none⟩ = some v) : (method 376 163 (.pointer (some ⟨h, 0, none⟩)) "Swap").run Tryz.prog w = .ok (215, v) w := m_value (by kernel_rfl) h v w hc
theorem m_push (h : Nat) (w : World) : (method 376 163 (.pointer (some ⟨h, 0, none⟩)) "Push").run Tryz.prog w = .ok (214, .pointer (some ⟨h, 0, none⟩)) w := by kernel_rfl
theorem m_pop (h : Nat) (w : World) : (method 376 163 (.pointer (some ⟨h, 0, none⟩)) "Pop").run Tryz.prog w = .ok (213, .pointer (some ⟨h, 0, none⟩)) w := by kernel_rfl
/-- an entry: how far, a node's place or none, a point -/
structure En where
  d : Int
  nd : Option Addr
  p : Ward.Pt
instance : Inhabited En := ⟨⟨0, none, ⟨0, 0, 0⟩⟩⟩
/-- its cells -/
def E5 (e : En) : List Value := [I e.d, .pointer e.nd, I e.p.id, I e.p.x, I e.p.y]
abbrev Ev (e : En) : Value := .agg #[I e.d, .pointer e.nd, I e.p.id, I e.p.x, I e.p.y]
/-- which of two comes first -/
def enLt (a b : En) : Prop := a.d < b.d ∨ (a.d = b.d ∧ a.p.id < b.p.id)
instance (a b : En) : Decidable (enLt a b) := by unfold enLt; infer_instance
theorem enWeak : Heap.Weak enLt := ⟨fun a b h => by unfold enLt at *; omega, fun a b c h1 h2 => by unfold enLt at *; omega⟩
theorem enIrr (a : En) : ¬ enLt a a := by unfold enLt; omega
def orTwo (a b : Int) : Int := if a ≠ 0 then a else b
set_option maxHeartbeats 400000 in
theorem orTwo_any (g : Nat) (a b : Int) (w : World) (h0 : w.cell? ⟨g, 0, none⟩ = some (I a)) (h1 : w.cell? ⟨g, 1, none⟩ = some (I b)) :
    Calls Tryz.prog 66 #[.slice (some ⟨g, 0, none⟩) 2 2] w fun e w' => e = .returned (I (orTwo a b)) ∧ w' = w := by
  go_enter Tryz.func66, Tryz.ntmps66
  go_wp2
  go_loopw [8] (fun v wq => wq = w ∧ ∃ i : Nat, v = I i ∧ i ≤ 2 ∧ (1 ≤ i → a = 0) ∧ (2 ≤ i → b = 0)) (fun v _ => 2 - (intOf v).toNat)
  case atStart => exact ⟨rfl, 0, rfl, by omega, by omega, by omega⟩
  case round =>
    obtain ⟨rfl, i, rfl, hi, ha, hb⟩ := hrel
    match i, hi, ha, hb with
    | 0, _, _, _ =>
      by_cases ha : a = 0
      · subst ha
        go_wp2
        go_roundw
        case rel => exact ⟨trivial, 1, by go_num, by omega, by simp, by omega⟩
        case measure => simp [intOf]
      · go_wp2
        go_ret
        exact ⟨by simp [orTwo, ha], rfl⟩
    | 1, _, ha, _ =>
      have ha := ha (by omega)
      by_cases hb : b = 0
      · subst hb
        go_wp2
        go_roundw
        case rel => exact ⟨trivial, 2, by go_num, by omega, by simp [ha], by simp⟩
        case measure => simp [intOf]
      · go_wp2
        go_ret
        exact ⟨by simp [orTwo, ha], rfl⟩
    | 2, _, ha, hb =>
      have ha := ha (by omega)
      have hb := hb (by omega)
      go_wp2
      go_ret
      exact ⟨by simp [orTwo, ha, hb], rfl⟩
set_option maxHeartbeats 400000 in
theorem isNaN64_any (n : Int) (w : World) :
    Calls Tryz.prog 218 #[I n] w fun e w' => e = .returned (.bool false) ∧ w' = w := by
  go_enter Tryz.func218, Tryz.ntmps218
  go_wp2
  go_ret
  exact ⟨rfl, rfl⟩
set_option maxHeartbeats 400000 in
theorem cmp64_any (a b : Int) (w : World) :
    Calls Tryz.prog 217 #[I a, I b] w fun e w' => e = .returned (I (cmpI a b)) ∧ w' = w := by
  rcases Int.lt_trichotomy a b with h | h | h
  · have e : cmpI a b = -1 := by simp [cmpI, h]
    rw [e]
    go_enter Tryz.func217, Tryz.ntmps217
    go_wp2_with (go_at_call 218; refine (isNaN64_any _ _).mono ?_; rintro _ _ ⟨rfl, rfl⟩)
    go_ret
    exact ⟨rfl, rfl⟩
  · have e : cmpI a b = 0 := by subst h; simp [cmpI]
    rw [e]
    subst h
    go_enter Tryz.func217, Tryz.ntmps217
    go_wp2_with (go_at_call 218; refine (isNaN64_any _ _).mono ?_; rintro _ _ ⟨rfl, rfl⟩)
    go_ret
    exact ⟨rfl, rfl⟩
  · have e : cmpI a b = 1 := by simp [cmpI, h, show ¬ a < b by omega]
    have h' : ¬ a < b := by omega
    rw [e]
    go_enter Tryz.func217, Tryz.ntmps217
    go_wp2_with (go_at_call 218; refine (isNaN64_any _ _).mono ?_; rintro _ _ ⟨rfl, rfl⟩)
    go_ret
    exact ⟨rfl, rfl⟩
/-- what compare says of two entries -/
def cmpE (a b : En) : Int := orTwo (cmpI a.d b.d) (cmpI a.p.id b.p.id)
theorem cmpE_lt (a b : En) : cmpE a b < 0 ↔ enLt a b := by
  unfold cmpE orTwo cmpI enLt
  (repeat' split) <;> omega
/-- the cells of two entries that compare reads -/
def TwoE (g k : Nat) (a b : En) (W : World) : Prop := (W.cell? ⟨g, 0, none⟩ = some (I a.d) ∧ W.cell? ⟨g, 2, none⟩ = some (I a.p.id)) ∧ W.cell? ⟨k, 0, none⟩ = some (I b.d) ∧ W.cell? ⟨k, 2, none⟩ = some (I b.p.id)
theorem TwoE.below {g k B : Nat} {a b : En} {W W' : World} (h : TwoE g k a b W) (hb : Below B W W') (hg : g < B) (hk : k < B) : TwoE g k a b W' :=
  ⟨⟨(hb.cell (p := ⟨g, 0, none⟩) hg).trans h.1.1, (hb.cell (p := ⟨g, 2, none⟩) hg).trans h.1.2⟩, (hb.cell (p := ⟨k, 0, none⟩) hk).trans h.2.1, (hb.cell (p := ⟨k, 2, none⟩) hk).trans h.2.2⟩
theorem rowE2 {w : World} {g t : Nat} {a b : Value} (h : w.heap[g]? = some (.cells #[a, b] t (0, 0))) : w.cell? ⟨g, 0, none⟩ = some a ∧ w.cell? ⟨g, 1, none⟩ = some b := by
  refine ⟨?_, ?_⟩ <;> rw [cell_of_row _ _ _ _ _ _ h] <;> rfl
set_option maxRecDepth 100000 in
set_option maxHeartbeats 2000000 in
theorem compareE_any (a b : En) (w : World) :
    Calls Tryz.prog 216 #[Ev a, Ev b] w fun e w' => e = .returned (I (cmpE a b)) ∧ Below w.heap.size w w' := by
  obtain ⟨ad, an, ⟨ai, ax, ay⟩⟩ := a
  obtain ⟨bd, bn, ⟨bi, bx, bY⟩⟩ := b
  have HE := hide (show cmpE ⟨ad, an, ⟨ai, ax, ay⟩⟩ ⟨bd, bn, ⟨bi, bx, bY⟩⟩ = orTwo (cmpI ad bd) (cmpI ai bi) from rfl)
  go_enter Tryz.func216, Tryz.ntmps216
  go_wp2_with fail
  have hz1 := heap_alloc2_old w
  have hz2 := heap_alloc2_new w
  have hbb := fun o o' => ((Below.refl w.heap.size w).alloc (Nat.le_refl _) o).alloc (by simp) o'
  generalize hW : World.alloc _ _ = w0
  have r1 : w0.heap[w.heap.size]? = some (.cells #[I ad, .pointer an, I ai, I ax, I ay] 166 (0, 0)) := by rw [← hW]; exact hz1 _ _
  have r2 : w0.heap[w.heap.size + 1]? = some (.cells #[I bd, .pointer bn, I bi, I bx, I bY] 166 (0, 0)) := by rw [← hW]; exact hz2 _ _
  have hb0 : Below w.heap.size w w0 := by rw [← hW]; exact hbb _ _
  have hz0 : w0.heap.size = w.heap.size + 2 := by rw [← hW]; simp
  clear hz1 hz2 hbb hW
  have hS : TwoE w.heap.size (w.heap.size + 1) ⟨ad, an, ⟨ai, ax, ay⟩⟩ ⟨bd, bn, ⟨bi, bx, bY⟩⟩ w0 := by
    refine ⟨⟨?_, ?_⟩, ?_, ?_⟩
    · rw [cell_of_row _ _ _ _ _ _ r1]; rfl
    · rw [cell_of_row _ _ _ _ _ _ r1]; rfl
    · rw [cell_of_row _ _ _ _ _ _ r2]; rfl
    · rw [cell_of_row _ _ _ _ _ _ r2]; rfl
  have HZ := hide hz0
  have HB := hide hb0
  have HN := hide (show ∀ o, ((w0.alloc o).drew).heap[w0.heap.size]? = some o from fun o => heap_alloc_new w0 o)
  clear r1 r2 hz0 hb0
  go_region_held3 (fun W => (W.cell? ⟨w.heap.size, 0, none⟩ = some (I ad) ∧ W.cell? ⟨w.heap.size, 2, none⟩ = some (I ai)) ∧ W.cell? ⟨w.heap.size + 1, 0, none⟩ = some (I bd) ∧ W.cell? ⟨w.heap.size + 1, 2, none⟩ = some (I bi)) (first | assumption | exact hS | exact TwoE.below hS (((Below.refl _ _).alloc (Nat.le_refl _) _).drew) (by have := HZ.out; omega) (by have := HZ.out; omega)) ((first | (go_at_call 67; refine (cmpInt_any _ _ _).mono ?_; rintro _ _ ⟨rfl, rfl⟩) | (go_at_call 217; refine (cmp64_any _ _ _).mono ?_; rintro _ _ ⟨rfl, rfl⟩) | (go_at_call 66; refine (orTwo_any _ (cmpI ad bd) (cmpI ai bi) _ (rowE2 (HN.out _)).1 (rowE2 (HN.out _)).2).mono ?_; rintro _ _ ⟨rfl, rfl⟩)))
  go_wp2
  go_ret
  exact ⟨by rw [HE.out]; rfl, (HB.out.alloc (by have := HZ.out; omega) _).drew⟩
end Go.Proofs.YtenaelkbgkpllaaGreatDoor
/- The entries of the heap in a row of their own. -/
namespace Go.Proofs.YtenaelkbgkpllaaGreatDoor
open Go.RowKit

/-- entries in a row of their own -/
def OwnE (w : World) (B : Nat) (v : Value) (l : List En) : Prop := w.ownsRow B 166 5 v l.length (l.flatMap E5)
theorem E5_len (l : List En) : (l.flatMap E5).length = l.length * 5 := by
  induction l with
  | nil => rfl
  | cons e l ih => rw [List.flatMap_cons, List.length_append, ih, List.length_cons]; show 5 + _ = _; omega
theorem E5_one {l : List En} : ∀ v ∈ l.flatMap E5, v.oneCell' = true := fun v hv => by
  obtain ⟨e, _, hv⟩ := List.mem_flatMap.1 hv
  simp only [E5, List.mem_cons, List.not_mem_nil, or_false] at hv
  rcases hv with rfl | rfl | rfl | rfl | rfl <;> rfl
theorem OwnE.below {w w' : World} {B : Nat} {v : Value} {l : List En} (h : OwnE w B v l) (hb : Below w.heap.size w w') : OwnE w' B v l := by
  refine ⟨h.1, ?_⟩
  rcases h.2 with h0 | ⟨g, cap, cur, rfl, hB, hg, r⟩
  · exact .inl h0
  · exact .inr ⟨g, cap, cur, rfl, hB, (hb.block g (Array.getElem?_eq_some_iff.1 hg).1).trans hg, r⟩
theorem OwnE.keeps {S : Nat → Prop} {w w' : World} {B : Nat} {v : Value} {l : List En} (h : OwnE w B v l) (hk : Keeps S w w') (hn : ∀ g, v.ownBlock = some g → ¬ S g) : OwnE w' B v l := by
  refine ⟨h.1, ?_⟩
  rcases h.2 with h0 | ⟨g, cap, cur, rfl, hB, hg, r⟩
  · exact .inl h0
  · exact .inr ⟨g, cap, cur, rfl, hB, (hk.block g (Array.getElem?_eq_some_iff.1 hg).1 (hn g rfl)).trans hg, r⟩
theorem OwnE.slice {w : World} {B : Nat} {v : Value} {l : List En} (h : OwnE w B v l) : ∃ a c, v = .slice a l.length c := by
  rcases h.2 with ⟨rfl, h0⟩ | ⟨g, cap, cur, rfl, _⟩
  · exact ⟨none, 0, by rw [h0]⟩
  · exact ⟨_, cap, rfl⟩
theorem OwnE.lt {w : World} {B g : Nat} {v : Value} {l : List En} (h : OwnE w B v l) (hg : v.ownBlock = some g) : B ≤ g ∧ g < w.heap.size := World.ownsRow.lt h g hg
/-- an entry as it lies -/
def EnAt (w : World) (g o : Nat) (e : En) : Prop := w.cell? ⟨g, o, none⟩ = some (I e.d) ∧ w.cell? ⟨g, o + 1, none⟩ = some (.pointer e.nd) ∧ w.cell? ⟨g, o + 2, none⟩ = some (I e.p.id) ∧ w.cell? ⟨g, o + 3, none⟩ = some (I e.p.x) ∧ w.cell? ⟨g, o + 4, none⟩ = some (I e.p.y)
theorem E5_at (l : List En) (i : Nat) (h : i < l.length) : (l.flatMap E5)[i * 5]? = some (I l[i].d) ∧ (l.flatMap E5)[i * 5 + 1]? = some (.pointer l[i].nd) ∧ (l.flatMap E5)[i * 5 + 2]? = some (I l[i].p.id) ∧ (l.flatMap E5)[i * 5 + 3]? = some (I l[i].p.x) ∧ (l.flatMap E5)[i * 5 + 4]? = some (I l[i].p.y) := by
  have key : ∀ j, j < 5 → (l.flatMap E5)[i * 5 + j]? = (E5 l[i])[j]? := fun j hj => by
    rw [List.flatMap_def, flat_get (c := 5) _ i j (fun U hU => by
      obtain ⟨e, _, rfl⟩ := List.mem_map.1 hU
      rfl) hj, List.getElem?_map, List.getElem?_eq_getElem h]
    rfl
  exact ⟨key 0 (by decide), key 1 (by decide), key 2 (by decide), key 3 (by decide), key 4 (by decide)⟩
theorem OwnE.at {w : World} {B g c : Nat} {l : List En} (h : OwnE w B (.slice (some ⟨g, 0, none⟩) l.length c) l) (i : Nat) (hi : i < l.length) : EnAt w g (i * 5) l[i] := by
  obtain ⟨h0, h1, h2, h3, h4⟩ := E5_at l i hi
  have hc := fun j u hj => World.ownsRow.cells h (g := g) rfl j u hj
  have hc' : ∀ j u, (l.flatMap E5)[j]? = some u → w.cell? ⟨g, j, none⟩ = some u := fun j u hj => by
    have := hc j u hj
    rw [Addr.add_lit, Nat.zero_add] at this
    exact this
  exact ⟨hc' _ _ h0, hc' _ _ h1, hc' _ _ h2, hc' _ _ h3, hc' _ _ h4⟩
theorem EnAt.below {w w' : World} {g o B : Nat} {e : En} (h : EnAt w g o e) (hb : Below B w w') (hg : g < B) : EnAt w' g o e :=
  ⟨(hb.cell (p := ⟨g, o, none⟩) hg).trans h.1, (hb.cell (p := ⟨g, o + 1, none⟩) hg).trans h.2.1, (hb.cell (p := ⟨g, o + 2, none⟩) hg).trans h.2.2.1, (hb.cell (p := ⟨g, o + 3, none⟩) hg).trans h.2.2.2.1, (hb.cell (p := ⟨g, o + 4, none⟩) hg).trans h.2.2.2.2⟩
theorem OwnE.some {w : World} {B : Nat} {v : Value} {l : List En} (h : OwnE w B v l) (hl : 0 < l.length) : ∃ g c, v = .slice (some ⟨g, 0, none⟩) l.length c := by
  rcases h.2 with ⟨rfl, h0⟩ | ⟨g, cap, cur, rfl, _⟩
  · omega
  · exact ⟨g, cap, rfl⟩
set_option maxRecDepth 100000 in
set_option maxHeartbeats 2000000 in
theorem less_any (v : Value) (l : List En) (i j : Nat) (w : World) (B : Nat) (ho : OwnE w B v l) (hi : i < l.length) (hj : j < l.length) (hl : l.length ≤ 100000) :
    Calls Tryz.prog 212 #[v, I i, I j] w fun e w' => e = .returned (.bool (decide (enLt l[i] l[j]))) ∧ Below w.heap.size w w' := by
  obtain ⟨g, c, rfl⟩ := ho.some (by omega)
  have hgl := (ho.lt rfl).2
  have HI := hide (ho.at i hi)
  have HJ := hide (ho.at j hj)
  have HD := hide (show decide (enLt l[i] l[j]) = decide (cmpE l[i] l[j] < 0) by rw [decide_eq_decide]; exact (cmpE_lt _ _).symm)
  have HC := hide (fun W => compareE_any l[i] l[j] W)
  generalize l[i] = a at *
  generalize l[j] = b at *
  clear ho
  rw [HD.out]
  generalize cmpE a b = r at *
  obtain ⟨ad, an, ⟨ai, ax, ay⟩⟩ := a
  obtain ⟨bd, bn, ⟨bi, bx, bY⟩⟩ := b
  obtain ⟨a0, a1, a2, a3, a4⟩ := HI.out
  obtain ⟨b0, b1, b2, b3, b4⟩ := HJ.out
  simp only at a0 a1 a2 a3 a4 b0 b1 b2 b3 b4
  go_enter Tryz.func212, Tryz.ntmps212
  go_wp2_with fail
  go_region_with (first | (go_at_call 216; go_must (refine (HC.out w.drew).mono ?_; rintro _ w6 ⟨rfl, hb6⟩; have HB6 := hide hb6; clear hb6)))
  all_goals
    go_wp2
    go_ret
    exact ⟨rfl, (Below.refl w.heap.size w).drew.trans HB6.out⟩
end Go.Proofs.YtenaelkbgkpllaaGreatDoor
