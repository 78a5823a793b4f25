/- Part 16 of what the claims on Bound, Small, Right and Sole rest on. -/
import Derived.Test.YtenaelkbgkpllaaGreatDoorKeep03
/- A heap in a list: what goes up and down it. -/
namespace Go.Proofs.YtenaelkbgkpllaaGreatDoor
namespace Heap
variable {α : Type} [Inhabited α]
/-- what stands at a place -/
def at' (l : List α) (k : Nat) : α := l[k]?.getD default
def par (k : Nat) : Nat := (k - 1) / 2
/-- two places exchanged -/
def swp (l : List α) (i j : Nat) : List α := (l.set i (at' l j)).set j (at' l i)
theorem at_get {l : List α} {k : Nat} (h : k < l.length) : at' l k = l[k] := by
  unfold at'
  rw [List.getElem?_eq_getElem h]
  rfl
theorem swp_len (l : List α) (i j : Nat) : (swp l i j).length = l.length := by simp [swp]
theorem swp_perm {l : List α} {i j : Nat} (hi : i < l.length) (hj : j < l.length) : (swp l i j).Perm l := by
  unfold swp
  rw [at_get hi, at_get hj]
  exact List.set_set_perm hi hj
theorem at_swp {l : List α} {i j : Nat} (hi : i < l.length) (hj : j < l.length) (k : Nat) : at' (swp l i j) k = if k = j then at' l i else if k = i then at' l j else at' l k := by
  show ((l.set i (at' l j)).set j (at' l i))[k]?.getD default = _
  by_cases h1 : k = j
  · rw [if_pos h1, h1, List.getElem?_set, if_pos rfl, if_pos (by simpa using hj)]
    rfl
  · rw [if_neg h1, List.getElem?_set, if_neg (fun e => h1 e.symm), List.getElem?_set]
    by_cases h2 : k = i
    · rw [if_pos h2, if_pos h2.symm, if_pos hi]
      rfl
    · rw [if_neg h2, if_neg (fun e => h2 e.symm)]
      rfl
theorem at_app {l : List α} {x : α} {k : Nat} (h : k < l.length) : at' (l ++ [x]) k = at' l k := by
  unfold at'
  rw [List.getElem?_append_left h]
theorem at_last (l : List α) (x : α) : at' (l ++ [x]) l.length = x := by
  unfold at'
  rw [List.getElem?_append_right (Nat.le_refl _), Nat.sub_self]
  rfl
theorem at_take {l : List α} {n k : Nat} (h : k < n) : at' (l.take n) k = at' l k := by
  unfold at'
  rw [List.getElem?_take, if_pos h]
theorem at_mem {l : List α} {k : Nat} (h : k < l.length) : at' l k ∈ l := by rw [at_get h]; exact List.getElem_mem h
/-- no one stands below one that comes behind it -/
def Ok (lt : α → α → Prop) (f : Nat → α) (n : Nat) : Prop := ∀ k, k < n → 0 < k → ¬ lt (f k) (f (par k))
/-- but for one that may have to go up -/
structure Up (lt : α → α → Prop) (f : Nat → α) (n j : Nat) : Prop where
  inn : j < n
  rest : ∀ k, k < n → 0 < k → k ≠ j → ¬ lt (f k) (f (par k))
  over : ∀ k, k < n → 0 < k → par k = j → 0 < j → ¬ lt (f k) (f (par j))
/-- but for one that may have to go down -/
structure Down (lt : α → α → Prop) (f : Nat → α) (n i : Nat) : Prop where
  rest : ∀ k, k < n → 0 < k → par k ≠ i → ¬ lt (f k) (f (par k))
  over : ∀ k, k < n → 0 < k → par k = i → 0 < i → ¬ lt (f k) (f (par i))
/-- an order, some of which may be alike -/
structure Weak (lt : α → α → Prop) : Prop where
  anti : ∀ a b, lt a b → ¬ lt b a
  trans : ∀ a b c, ¬ lt b a → ¬ lt c b → ¬ lt c a
theorem par_lt {k : Nat} (h : 0 < k) : par k < k := by unfold par; omega
section
variable {lt : α → α → Prop}
theorem up_start {l : List α} {x : α} (h : Ok lt (at' l) l.length) : Up lt (at' (l ++ [x])) (l.length + 1) l.length := by
  refine ⟨by omega, fun k hk h0 hne => ?_, fun k hk h0 hp _ => ?_⟩
  · have h1 : k < l.length := by omega
    have h2 := par_lt h0
    rw [at_app h1, at_app (by omega)]
    exact h k h1 h0
  · have := par_lt h0
    omega
theorem up_step (hw : Weak lt) {l : List α} {n j : Nat} (hn : n ≤ l.length) (h : Up lt (at' l) n j) (h0 : 0 < j) (hl : lt (at' l j) (at' l (par j))) : Up lt (at' (swp l (par j) j)) n (par j) := by
  have hp := par_lt h0
  have hj := h.inn
  have ha := fun k => at_swp (l := l) (i := par j) (j := j) (by omega) (by omega) k
  refine ⟨by omega, fun k hk hk0 hne => ?_, fun k hk hk0 hpk hp0 => ?_⟩
  · have hpk := par_lt hk0
    rw [ha, ha]
    by_cases e1 : k = j
    · subst e1
      rw [if_pos rfl, if_neg (by omega), if_pos rfl]
      exact hw.anti _ _ hl
    · rw [if_neg e1, if_neg hne]
      by_cases e2 : par k = j
      · rw [if_pos e2]
        exact h.over k hk hk0 e2 h0
      · rw [if_neg e2]
        by_cases e3 : par k = par j
        · rw [if_pos e3]
          have h1 := h.rest k hk hk0 e1
          rw [e3] at h1
          exact hw.trans _ _ _ (hw.anti _ _ hl) h1
        · rw [if_neg e3]
          exact h.rest k hk hk0 e1
  · have hpp := par_lt hp0
    have hkk := par_lt hk0
    rw [ha, ha, if_neg (show ¬ par (par j) = j by omega), if_neg (show ¬ par (par j) = par j by omega)]
    have h2 := h.rest (par j) (by omega) hp0 (by omega)
    by_cases e1 : k = j
    · subst e1
      rw [if_pos rfl]
      exact h2
    · rw [if_neg e1, if_neg (show ¬ k = par j by omega)]
      have h1 := h.rest k hk hk0 e1
      rw [hpk] at h1
      exact hw.trans _ _ _ h2 h1
theorem down_step (hw : Weak lt) {l : List α} {n i j : Nat} (hn : n ≤ l.length) (h : Down lt (at' l) n i) (hj : j < n) (hj0 : 0 < j) (hp : par j = i) (hl : lt (at' l j) (at' l i)) (hs : ∀ k, k < n → 0 < k → par k = i → ¬ lt (at' l k) (at' l j)) : Down lt (at' (swp l i j)) n j := by
  have hij := par_lt hj0
  rw [hp] at hij
  have ha := fun k => at_swp (l := l) (i := i) (j := j) (by omega) (by omega) k
  refine ⟨fun k hk hk0 hne => ?_, fun k hk hk0 hpk _ => ?_⟩
  · have hpk := par_lt hk0
    rw [ha, ha, if_neg hne]
    by_cases e1 : k = j
    · subst e1
      rw [if_pos rfl, if_pos hp]
      exact hw.anti _ _ hl
    · rw [if_neg e1]
      by_cases e2 : par k = i
      · rw [if_pos e2, if_neg (by omega)]
        exact hs k hk hk0 e2
      · rw [if_neg e2]
        by_cases e3 : k = i
        · subst e3
          rw [if_pos rfl]
          exact h.over j hj hj0 hp hk0
        · rw [if_neg e3]
          exact h.rest k hk hk0 e2
  · have hkj : j < k := by have := par_lt hk0; omega
    rw [ha, ha, if_neg (by omega), if_neg (by omega), hp, if_neg (by omega), if_pos rfl]
    have h1 := h.rest k hk hk0 (by omega)
    rw [hpk] at h1
    exact h1
/-- behind the exchange of the first and the last -/
theorem down_start {l : List α} {n : Nat} (hn : l.length = n + 1) (h : Ok lt (at' l) (n + 1)) : Down lt (at' (swp l 0 n)) n 0 := by
  have ha := fun k => at_swp (l := l) (i := 0) (j := n) (by omega) (by omega) k
  refine ⟨fun k hk h0 hne => ?_, fun k _ _ _ h0 => absurd h0 (by omega)⟩
  have hp := par_lt h0
  rw [ha, ha, if_neg (by omega), if_neg (by omega), if_neg (by omega), if_neg hne]
  exact h k (by omega) h0
theorem ok_take {l : List α} {n m : Nat} (h : Ok lt (at' l) n) (hm : n ≤ m) : Ok lt (at' (l.take m)) n := by
  intro k hk h0
  have := par_lt h0
  rw [at_take (by omega), at_take (by omega)]
  exact h k hk h0
end
end Heap
namespace Heap
section
variable {α : Type} {lt : α → α → Prop}
theorem up_end {f : Nat → α} {n j : Nat} (h : Up lt f n j) (he : j = 0 ∨ ¬ lt (f j) (f (par j))) : Ok lt f n := by
  intro k hk h0
  by_cases e : k = j
  · subst e
    rcases he with he | he
    · omega
    · exact he
  · exact h.rest k hk h0 e
theorem down_end {f : Nat → α} {n i : Nat} (h : Down lt f n i) (he : ∀ k, k < n → 0 < k → par k = i → ¬ lt (f k) (f i)) : Ok lt f n := by
  intro k hk h0
  by_cases e : par k = i
  · rw [e]; exact he k hk h0 e
  · exact h.rest k hk h0 e
/-- the first is no farther than any -/
theorem first_least (hw : Weak lt) (hi : ∀ a, ¬ lt a a) {f : Nat → α} {n : Nat} (h : Ok lt f n) : ∀ k, k < n → ¬ lt (f k) (f 0) := by
  intro k
  induction k using Nat.strongRecOn with
  | ind k ih =>
    intro hk
    by_cases h0 : k = 0
    · subst h0; exact hi _
    · have hp := par_lt (show 0 < k by omega)
      exact hw.trans _ _ _ (ih (par k) hp (by omega)) (h k hk (by omega))
end
end Heap
end Go.Proofs.YtenaelkbgkpllaaGreatDoor
/- What a proof taken apart is, for those who go through it. -/
namespace Go.Proofs.YtenaelkbgkpllaaGreatDoor
namespace Ward
/-- the numbers said of children are small -/
def NumsN : (n : Nat) → NT n → Prop
  | 0, t => nomatch t
  | n + 1, t => ∀ c ∈ Nd.kids t, (0 ≤ numN n c ∧ numN n c ≤ 1000000) ∧ NumsN n c
structure Fine (n : Nat) (t : NT n) : Prop where
  few : Few n t
  inn : InN n t
  nums : NumsN n t
  ok : ∀ p ∈ allN n t, p.Ok
theorem form_fine : ∀ (d : Nat) (r : Bool) (t : NT (d + 1)), FormN d r t → Fine (d + 1) t
  | 0, _, _, h => h.elim
  | d + 1, r, t, h => by
    rcases h with ⟨h1, h2, _, h4⟩ | ⟨h1, h2, h3, h4⟩
    · refine ⟨⟨h2, by simp [h1], fun c hc => by simp [h1] at hc⟩, fun c hc => by simp [h1] at hc, fun c hc => by simp [h1] at hc, fun p hp => ?_⟩
      rw [show allN (d + 2) t = Nd.pts t ++ (Nd.kids t).flatMap (allN (d + 1)) from rfl, h1] at hp
      exact h4 p (by simpa using hp)
    · have key : ∀ c ∈ Nd.kids t, Fine (d + 1) c ∧ boxMay (Nd.box c) = true ∧ 1 ≤ Nd.n c ∧ Nd.n c ≤ 150 := by
        intro c hc
        obtain ⟨⟨k1, k2, k3, _⟩, k5⟩ := h4 c hc
        refine ⟨?_, k1, k2, k3⟩
        rcases k5 with ⟨e1, e2⟩ | k
        · refine ⟨⟨by simp [e1], by simp [e2], fun c hc => by simp [e2] at hc⟩, fun c hc => by simp [e2] at hc, fun c hc => by simp [e2] at hc, fun p hp => ?_⟩
          rw [show allN (d + 1) c = Nd.pts c ++ (Nd.kids c).flatMap (allN d) from rfl, e1, e2] at hp
          simp at hp
        · exact form_fine d false c k
      refine ⟨⟨by simp [h1], h3, fun c hc => (key c hc).1.few⟩, fun c hc => ⟨(may_in (key c hc).2.1).1, (key c hc).1.inn⟩, fun c hc => ⟨?_, (key c hc).1.nums⟩, fun p hp => ?_⟩
      · have := (key c hc).2.2
        show 0 ≤ Nd.n c ∧ Nd.n c ≤ 1000000
        omega
      · rw [show allN (d + 2) t = Nd.pts t ++ (Nd.kids t).flatMap (allN (d + 1)) from rfl, h1, List.nil_append] at hp
        obtain ⟨c, hc, hp⟩ := List.mem_flatMap.1 hp
        exact (key c hc).1.ok p hp
theorem boxEq_iff {a b : Box} (h : boxEq a b = true) : a = b := by
  unfold boxEq at h
  simp only [decide_eq_true_eq] at h
  cases a; cases b
  simp only at h
  obtain ⟨rfl, rfl, rfl, rfl⟩ := h
  rfl
theorem flat_len {α β : Type} (f : α → List β) (n : α → Int) : ∀ K : List α, (∀ c ∈ K, ((f c).length : Int) ≤ n c) → ((K.flatMap f).length : Int) ≤ (K.map n).sum
  | [], _ => by simp
  | c :: K, h => by
    have h1 := h c List.mem_cons_self
    have h2 := flat_len f n K (fun c hc => h c (List.mem_cons_of_mem _ hc))
    rw [List.flatMap_cons, List.length_append, List.map_cons, List.sum_cons]
    omega
/-- where boxes and numbers hold, a box holds all that is below it -/
theorem holds_encl : ∀ (d : Nat) (r : Bool) (t : NT (d + 1)), FormN d r t → everyN boxHolds (d + 1) t = true → Nd.box t = Nd.box (madeN (d + 1) t) → Nd.n t = Nd.n (madeN (d + 1) t) →
    Encl (d + 1) t ∧ (∀ p ∈ allN (d + 1) t, (Nd.box t).has (boxOf p)) ∧ ((allN (d + 1) t).length : Int) ≤ Nd.n t
  | 0, _, _, h, _, _, _ => h.elim
  | d + 1, r, t, h, he, hb, hn => by
    rcases h with ⟨h1, h2, _, h4⟩ | ⟨h1, h2, h3, h4⟩
    · have e0 : (Nd.kids t).length = 0 := by rw [h1]; rfl
      rw [made_leaf e0] at hb hn
      simp only at hb hn
      have ea : allN (d + 2) t = Nd.pts t := by
        rw [show allN (d + 2) t = Nd.pts t ++ (Nd.kids t).flatMap (allN (d + 1)) from rfl, h1]
        simp
      have hh : ∀ p ∈ Nd.pts t, (Nd.box t).has (boxOf p) := fun p hp => by
        rw [hb]
        exact boxL_has (List.mem_map.2 ⟨p, hp, rfl⟩)
      exact ⟨⟨hh, fun c hc => by simp [h1] at hc⟩, by rw [ea]; exact hh, by rw [ea, hn]; exact Int.le_refl _⟩
    · have e0 : ¬ (Nd.kids t).length = 0 := by omega
      rw [made_node e0] at hb hn
      simp only at hb hn
      have he' : ∀ c ∈ Nd.kids t, boxHolds (d + 1) c = true ∧ everyN boxHolds (d + 1) c = true := by
        intro c hc
        have := List.all_eq_true.1 (show (Nd.kids t).all (fun c => boxHolds (d + 1) c && everyN boxHolds (d + 1) c) = true from he) c hc
        simpa using this
      have key : ∀ c ∈ Nd.kids t, Encl (d + 1) c ∧ (∀ p ∈ allN (d + 1) c, (Nd.box c).has (boxOf p)) ∧ ((allN (d + 1) c).length : Int) ≤ Nd.n c := by
        intro c hc
        obtain ⟨⟨k1, k2, k3, _⟩, k5⟩ := h4 c hc
        rcases k5 with ⟨e1, e2⟩ | k
        · have ea : allN (d + 1) c = [] := by rw [show allN (d + 1) c = Nd.pts c ++ (Nd.kids c).flatMap (allN d) from rfl, e1, e2]; rfl
          refine ⟨⟨fun p hp => by simp [e1] at hp, fun c hc => by simp [e2] at hc⟩, fun p hp => by simp [ea] at hp, by rw [ea]; simp; omega⟩
        · obtain ⟨hh, hee⟩ := he' c hc
          unfold boxHolds at hh
          rw [form_shown k] at hh
          simp only [Bool.not_true, Bool.false_or, Bool.and_eq_true, decide_eq_true_eq] at hh
          exact holds_encl d false c k hee (boxEq_iff hh.1) hh.2
      have hall : allN (d + 2) t = (Nd.kids t).flatMap (allN (d + 1)) := by
        rw [show allN (d + 2) t = Nd.pts t ++ (Nd.kids t).flatMap (allN (d + 1)) from rfl, h1, List.nil_append]
      refine ⟨⟨fun p hp => by simp [h1] at hp, fun c hc => ⟨(key c hc).2.1, (key c hc).1⟩⟩, fun p hp => ?_, ?_⟩
      · rw [hall] at hp
        obtain ⟨c, hc, hp⟩ := List.mem_flatMap.1 hp
        rw [hb]
        exact has_trans (boxL_has (List.mem_map.2 ⟨c, hc, rfl⟩)) ((key c hc).2.1 p hp)
      · rw [hall, hn]
        exact flat_len (allN (d + 1)) (numN (d + 1)) _ (fun c hc => (key c hc).2.2)
theorem sum_few {α : Type} (n : α → Int) : ∀ K : List α, (∀ c ∈ K, n c ≤ 150) → (K.map n).sum ≤ 150 * K.length
  | [], _ => by simp
  | c :: K, h => by
    have h1 := h c List.mem_cons_self
    have h2 := sum_few n K (fun c hc => h c (List.mem_cons_of_mem _ hc))
    rw [List.map_cons, List.sum_cons, List.length_cons]
    omega
/-- what is known of a proof taken apart -/
theorem parse_fine {s : List UInt8} {t : NT 7} (h : parse s = some t) : Fine 7 t ∧ Ids (allN 7 t) := by
  obtain ⟨h1, _, h3, _⟩ := parse_sound h
  refine ⟨form_fine 6 true t h1, ?_⟩
  unfold idsN at h3
  exact List.pairwise_map.1 h3
theorem parse_holds {s : List UInt8} {t : NT 7} (h : parse s = some t) (hb : everyN boxHolds 7 t = true) : Encl 7 t ∧ (allN 7 t).length ≤ 600 := by
  obtain ⟨h1, _, _, h4⟩ := parse_sound h
  obtain ⟨k1, _, k3⟩ := holds_encl 6 true t h1 hb (by rw [h4]) (by rw [h4])
  refine ⟨k1, ?_⟩
  rcases (show _ ∨ _ from h1) with ⟨e1, e2, _, _⟩ | ⟨_, e2, e3, e4⟩
  · have ea : allN 7 t = Nd.pts t := by
      rw [show allN 7 t = Nd.pts t ++ (Nd.kids t).flatMap (allN 6) from rfl, e1]
      simp
    rw [ea]; omega
  · have hn : Nd.n t = ((Nd.kids t).map (numN 6)).sum := by
      have := made_node (n := 6) (t := t) (by omega)
      rw [h4] at this
      exact congrArg Nd.n this
    have := sum_few (numN 6) (Nd.kids t) (fun c hc => (e4 c hc).1.2.2.1)
    have k : ((allN 7 t).length : Int) ≤ Nd.n t := k3
    omega
end Ward
end Go.Proofs.YtenaelkbgkpllaaGreatDoor
/- Of all texts just one is taken, or two texts of one digest are there. -/
namespace Go.Proofs.YtenaelkbgkpllaaGreatDoor
namespace Ward
/-- a node's own text -/
def ownN : (n : Nat) → NT n → List UInt8
  | 0, t => nomatch t
  | n + 1, t => if (Nd.kids t).length = 0 then leafText (Nd.pts t) else textK n (Nd.kids t)
theorem own_leaf {n : Nat} {t : NT (n + 1)} (h : (Nd.kids t).length = 0) : ownN (n + 1) t = leafText (Nd.pts t) := by
  show (if (Nd.kids t).length = 0 then _ else _) = _
  rw [if_pos h]
theorem own_node {n : Nat} {t : NT (n + 1)} (h : ¬ (Nd.kids t).length = 0) : ownN (n + 1) t = textK n (Nd.kids t) := by
  show (if (Nd.kids t).length = 0 then _ else _) = _
  rw [if_neg h]
theorem made_dig {n : Nat} (t : NT (n + 1)) : digN (n + 1) (madeN (n + 1) t) = Sha.sha (ownN (n + 1) t) := by
  by_cases h : (Nd.kids t).length = 0
  · rw [made_leaf h, own_leaf h]; rfl
  · rw [made_node h, own_node h]; rfl
/-- the own texts of all that is shown -/
def ownsN : (n : Nat) → NT n → List (List UInt8)
  | 0, t => nomatch t
  | n + 1, t => (Nd.kids t).flatMap (fun c => if shownN n c = true then ownsN n c else []) ++ [ownN (n + 1) t]
theorem own_mem {n : Nat} (t : NT (n + 1)) : ownN (n + 1) t ∈ ownsN (n + 1) t := List.mem_append_right _ (by simp)
theorem owns_kid {n : Nat} {t : NT (n + 1)} {c : NT n} (hc : c ∈ Nd.kids t) (hs : shownN n c = true) {a : List UInt8} (ha : a ∈ ownsN n c) : a ∈ ownsN (n + 1) t :=
  List.mem_append_left _ (List.mem_flatMap.2 ⟨c, hc, by rw [if_pos hs]; exact ha⟩)
/-- two texts of one digest -/
def Clash (A B : List (List UInt8)) : Prop := ∃ a ∈ A, ∃ b ∈ B, a ≠ b ∧ Sha.sha a = Sha.sha b
/-- t shows some of the tree u -/
def Shows : (d n : Nat) → NT (d + 1) → T n → Prop
  | _, 0, t, l => Nd.kids t = [] ∧ Nd.pts t = (l : List Pt)
  | 0, _ + 1, _, _ => False
  | d + 1, n + 1, t, cs => Nd.pts t = [] ∧ (Nd.kids t).length = List.length (cs : List (T n)) ∧ ∀ i (h : i < (Nd.kids t).length) (h' : i < List.length (cs : List (T n))), (Nd.box (Nd.kids t)[i] = box n (List.get cs ⟨i, h'⟩) ∧ saidN (d + 1) (Nd.kids t)[i] = head Sha.sha n (List.get cs ⟨i, h'⟩)) ∧ (shownN (d + 1) (Nd.kids t)[i] = true → Shows d n (Nd.kids t)[i] (List.get cs ⟨i, h'⟩))
theorem flat_get_eq {α β : Type} {f : α → List UInt8} {g : β → List UInt8} : ∀ {K : List α} {cs : List β}, K.length = cs.length → (∀ x ∈ K, (f x).length = 52) → (∀ y ∈ cs, (g y).length = 52) → K.flatMap f = cs.flatMap g → ∀ i (h : i < K.length) (h' : i < cs.length), f K[i] = g cs[i]
  | [], _, _, _, _, _, _, h, _ => absurd h (by simp)
  | _ :: _, [], hl, _, _, _, _, _, _ => by simp at hl
  | x :: K, y :: cs, hl, hf, hg, e, i, h, h' => by
    rw [List.flatMap_cons, List.flatMap_cons] at e
    obtain ⟨e1, e2⟩ := List.append_inj e (by rw [hf x (by simp), hg y (by simp)])
    cases i with
    | zero => exact e1
    | succ i => exact flat_get_eq (by simpa using hl) (fun x hx => hf x (by simp [hx])) (fun y hy => hg y (by simp [hy])) e2 i (by simpa using h) (by simpa using h')
theorem said_box {b c : Box} {n m : Int} {d e : List UInt8} (hb : b.In) (hc : c.In) (h : boxText b ++ fourI n ++ d = boxText c ++ fourI m ++ e) : b = c := by
  rw [List.append_assoc, List.append_assoc] at h
  obtain ⟨h1, -⟩ := List.append_inj h (by rw [boxText_len, boxText_len])
  unfold boxText at h1
  obtain ⟨h123, h4⟩ := List.append_inj h1 rfl
  obtain ⟨h12, h3⟩ := List.append_inj h123 rfl
  obtain ⟨h1, h2⟩ := List.append_inj h12 rfl
  obtain ⟨a1, a2, b1, b2, c1, c2, d1, d2⟩ := hb
  obtain ⟨a1', a2', b1', b2', c1', c2', d1', d2'⟩ := hc
  have e1 := fourI_inj a1 a2 a1' a2' h1
  have e2 := fourI_inj b1 b2 b1' b2' h2
  have e3 := fourI_inj c1 c2 c1' c2' h3
  have e4 := fourI_inj d1 d2 d1' d2' h4
  cases b
  cases c
  simp only at e1 e2 e3 e4
  subst e1 e2 e3 e4
  rfl
theorem said_dig {b c : Box} {n m : Int} {d e : List UInt8} (h : boxText b ++ fourI n ++ d = boxText c ++ fourI m ++ e) : d = e :=
  (List.append_inj h (by simp [boxText_len, fourI_len])).2
/-- from the root down the texts are the map's own, or the first that differ have one digest -/
theorem shows_of : ∀ (d : Nat) (r : Bool) (t : NT (d + 1)) (n : Nat) (u : T n), FormN d r t → everyN digHolds (d + 1) t = true → Small n u → ownN (d + 1) t = text Sha.sha n u → Shows d n t u ∨ Clash (ownsN (d + 1) t) (texts Sha.sha n u)
  | 0, _, _, _, _, h, _, _, _ => absurd h (fun h => h)
  | d + 1, r, t, n, u, hf, hev, hs, ho => by
    rcases hf with ⟨hk, h4, _, hok⟩ | ⟨hp, h0, h4, hkids⟩
    · have hk0 : (Nd.kids t).length = 0 := by rw [hk]; rfl
      rw [own_leaf hk0] at ho
      cases n with
      | zero =>
        refine .inl ⟨hk, ?_⟩
        exact (leafText_inj (r := []) (s := []) h4 hs.1 hok hs.2 (by rw [List.append_nil, List.append_nil]; exact ho)).1
      | succ n => rw [text_succ] at ho; simp [leafText] at ho
    · have hk0 : ¬ (Nd.kids t).length = 0 := by omega
      rw [own_node hk0] at ho
      cases n with
      | zero => simp [textK, text, leafText] at ho
      | succ n =>
        rw [text_succ] at ho
        unfold textK at ho
        simp only [List.cons.injEq, true_and] at ho
        have hlen : (Nd.kids t).length = List.length (u : List (T n)) := ofNat_small h4 hs.1 ho.1
        have hget := flat_get_eq hlen (fun c hc => said_len52 (hkids c hc).1.2.2.2) (fun c _ => head_len sha_32 n c) ho.2
        have hall : ∀ i (h : i < (Nd.kids t).length) (h' : i < List.length (u : List (T n))), Nd.box (Nd.kids t)[i] = box n (List.get u ⟨i, h'⟩) ∧ saidN (d + 1) (Nd.kids t)[i] = head Sha.sha n (List.get u ⟨i, h'⟩) := by
          intro i h h'
          have e := hget i h h'
          refine ⟨?_, e⟩
          have hb := (hkids _ (List.getElem_mem h)).1.1
          exact said_box (may_in hb).1 (box_in n _ (hs.2 _ (List.getElem_mem h'))) e
        by_cases hcl : Clash (ownsN (d + 1 + 1) t) (texts Sha.sha (n + 1) u)
        · exact .inr hcl
        · refine .inl ⟨hp, hlen, fun i h h' => ⟨hall i h h', fun hsh => ?_⟩⟩
          have hmem := List.getElem_mem h
          have hmem' : List.get u ⟨i, h'⟩ ∈ (u : List (T n)) := List.getElem_mem h'
          have hsm := hs.2 _ hmem'
          have hkf := (hkids _ hmem).2
          have hform : FormN d false (Nd.kids t)[i] := by
            rcases hkf with ⟨h1, h2⟩ | h1
            · rw [shown_no h1 h2] at hsh; cases hsh
            · exact h1
          have hev' := List.all_eq_true.1 (show (Nd.kids t).all (fun c => digHolds (d + 1) c && everyN digHolds (d + 1) c) = true from hev) _ hmem
          rw [Bool.and_eq_true] at hev'
          have hd1 : digN (d + 1) (Nd.kids t)[i] = Sha.sha (ownN (d + 1) (Nd.kids t)[i]) := by
            have h1 := hev'.1
            unfold digHolds at h1
            rw [hsh, Bool.not_true, Bool.false_or, decide_eq_true_eq] at h1
            rw [h1, made_dig]
          have hd2 : digN (d + 1) (Nd.kids t)[i] = Sha.sha (text Sha.sha n (List.get u ⟨i, h'⟩)) := said_dig (hall i h h').2
          have hsub : ∀ b ∈ texts Sha.sha n (List.get u ⟨i, h'⟩), b ∈ texts Sha.sha (n + 1) u := fun b hb => List.mem_append_left _ (List.mem_flatMap.2 ⟨_, hmem', hb⟩)
          by_cases ho' : ownN (d + 1) (Nd.kids t)[i] = text Sha.sha n (List.get u ⟨i, h'⟩)
          · rcases shows_of d false (Nd.kids t)[i] n (List.get u ⟨i, h'⟩) hform hev'.2 hsm ho' with h1 | ⟨a, ha, b, hb, h1⟩
            · exact h1
            · exact absurd ⟨a, owns_kid hmem hsh ha, b, hsub b hb, h1⟩ hcl
          · exact absurd ⟨_, owns_kid hmem hsh (own_mem _), _, hsub _ (text_mem Sha.sha n _), ho', by rw [← hd1, hd2]⟩ hcl
theorem flatMap_get {α β γ : Type} {f : α → List γ} {g : β → List γ} : ∀ {K : List α} {cs : List β}, K.length = cs.length → (∀ i (h : i < K.length) (h' : i < cs.length), f K[i] = g cs[i]) → K.flatMap f = cs.flatMap g
  | [], [], _, _ => rfl
  | [], _ :: _, hl, _ => by simp at hl
  | _ :: _, [], hl, _ => by simp at hl
  | x :: K, y :: cs, hl, h => by
    rw [List.flatMap_cons, List.flatMap_cons, show f x = g y from h 0 (by simp) (by simp)]
    congr 1
    exact flatMap_get (by simpa using hl) fun i h1 h2 => h (i + 1) (by simpa using h1) (by simpa using h2)
theorem sublist_get {α β γ : Type} {f : α → List γ} {g : β → List γ} : ∀ {K : List α} {cs : List β}, K.length = cs.length → (∀ i (h : i < K.length) (h' : i < cs.length), (f K[i]).Sublist (g cs[i])) → (K.flatMap f).Sublist (cs.flatMap g)
  | [], [], _, _ => List.Sublist.refl _
  | [], _ :: _, hl, _ => by simp at hl
  | _ :: _, [], hl, _ => by simp at hl
  | x :: K, y :: cs, hl, h => by
    rw [List.flatMap_cons, List.flatMap_cons]
    exact List.Sublist.append (h 0 (by simp) (by simp)) (sublist_get (by simpa using hl) fun i h1 h2 => h (i + 1) (by simpa using h1) (by simpa using h2))
theorem all_hidden {n : Nat} {c : NT (n + 1)} (h : shownN (n + 1) c = false) : allN (n + 1) c = [] := by
  simp only [shownN, decide_eq_false_iff_not] at h
  have h1 : (Nd.pts c) = [] := List.length_eq_zero_iff.1 (by omega)
  have h2 : (Nd.kids c) = [] := List.length_eq_zero_iff.1 (by omega)
  show Nd.pts c ++ (Nd.kids c).flatMap (allN n) = []
  rw [h1, h2]; rfl
/-- the points that are shown are some of the tree's -/
theorem shows_sub : ∀ (d n : Nat) (t : NT (d + 1)) (u : T n), Shows d n t u → (allN (d + 1) t).Sublist (pts n u)
  | d, 0, t, l, h => by
    have h' : Nd.kids t = [] ∧ Nd.pts t = (l : List Pt) := by cases d <;> exact h
    show (Nd.pts t ++ (Nd.kids t).flatMap (allN d)).Sublist l
    rw [h'.1, h'.2, List.flatMap_nil, List.append_nil]
    exact List.Sublist.refl _
  | 0, _ + 1, _, _, h => absurd h (fun h => h)
  | d + 1, n + 1, t, cs, h => by
    obtain ⟨hp, hl, hi⟩ := h
    show (Nd.pts t ++ (Nd.kids t).flatMap (allN (d + 1))).Sublist (List.flatMap (pts n) cs)
    rw [hp, List.nil_append]
    refine sublist_get hl fun i h1 h2 => ?_
    cases hs : shownN (d + 1) (Nd.kids t)[i] with
    | false => rw [all_hidden hs]; exact List.nil_sublist _
    | true => exact shows_sub d n _ _ ((hi i h1 h2).2 hs)
/-- a point that is not shown lies in a box that is not -/
theorem shows_hidden (m : Box → Bool) : ∀ (d n : Nat) (t : NT (d + 1)) (u : T n), Shows d n t u → everyN (fun k c => shownN k c || !m (boxN k c)) (d + 1) t = true → ∀ p ∈ pts n u, p ∈ allN (d + 1) t ∨ ∃ b, m b = false ∧ b.has (boxOf p)
  | d, 0, t, l, h, _, p, hp => by
    have h' : Nd.kids t = [] ∧ Nd.pts t = (l : List Pt) := by cases d <;> exact h
    refine .inl (List.mem_append_left _ ?_)
    rw [h'.2]; exact hp
  | 0, _ + 1, _, _, h, _, _, _ => absurd h (fun h => h)
  | d + 1, n + 1, t, cs, h, hev, p, hp => by
    obtain ⟨-, hl, hi⟩ := h
    obtain ⟨c, hc, hp⟩ := List.mem_flatMap.1 hp
    obtain ⟨i, h2, rfl⟩ := List.getElem_of_mem hc
    have h1 : i < (Nd.kids t).length := by omega
    have hev' := List.all_eq_true.1 (show (Nd.kids t).all (fun c => (shownN (d + 1) c || !m (boxN (d + 1) c)) && everyN (fun k c => shownN k c || !m (boxN k c)) (d + 1) c) = true from hev) _ (List.getElem_mem h1)
    rw [Bool.and_eq_true] at hev'
    obtain ⟨⟨hb, -⟩, hsh⟩ := hi i h1 h2
    cases hs : shownN (d + 1) (Nd.kids t)[i] with
    | false =>
      refine .inr ⟨boxN (d + 1) (Nd.kids t)[i], ?_, ?_⟩
      · have h3 := hev'.1
        rw [hs, Bool.false_or, Bool.not_eq_true'] at h3
        exact h3
      · have hb' : boxN (d + 1) (Nd.kids t)[i] = box n (List.get cs ⟨i, h2⟩) := hb
        rw [hb']
        exact box_has n _ p hp
    | true =>
      rcases shows_hidden m d n _ _ (hsh hs) hev'.2 p hp with h3 | h3
      · exact .inl (List.mem_append_right _ (List.mem_flatMap.2 ⟨_, List.getElem_mem h1, h3⟩))
      · exact .inr h3
/-- what is shown as it must be is the proof itself -/
theorem shows_text (m : Box → Bool) : ∀ (d n : Nat) (t : NT (d + 1)) (u : T n), Shows d n t u → Full n u ∨ n = 0 → everyN (fun k c => shownN k c || !m (boxN k c)) (d + 1) t = true → everyN (fun k c => !shownN k c || m (boxN k c)) (d + 1) t = true → textS (d + 1) t = proof Sha.sha m n u
  | d, 0, t, l, h, _, _, _ => by
    have h' : Nd.kids t = [] ∧ Nd.pts t = (l : List Pt) := by cases d <;> exact h
    rw [textS_leaf _ _ (by rw [h'.1]; rfl), h'.2]
    rfl
  | 0, _ + 1, _, _, h, _, _, _ => absurd h (fun h => h)
  | d + 1, n + 1, t, cs, h, hfu, hev, hev2 => by
    obtain ⟨-, hl, hi⟩ := h
    obtain ⟨hne, hea⟩ := hfu.resolve_right (by omega)
    have hpos : 0 < List.length (cs : List (T n)) := List.length_pos_iff.2 hne
    rw [textS_kids _ _ (by omega)]
    show 2 :: UInt8.ofNat (Nd.kids t).length :: (Nd.kids t).flatMap (kidText (d + 1)) = 2 :: UInt8.ofNat (List.length cs) :: List.flatMap (fun c => head Sha.sha n c ++ (if m (box n c) then 1 :: proof Sha.sha m n c else [0])) cs
    rw [hl]
    congr 2
    refine flatMap_get hl fun i h1 h2 => ?_
    have e1 := List.all_eq_true.1 (show (Nd.kids t).all (fun c => (shownN (d + 1) c || !m (boxN (d + 1) c)) && everyN (fun k c => shownN k c || !m (boxN k c)) (d + 1) c) = true from hev) _ (List.getElem_mem h1)
    have e2 := List.all_eq_true.1 (show (Nd.kids t).all (fun c => (!shownN (d + 1) c || m (boxN (d + 1) c)) && everyN (fun k c => !shownN k c || m (boxN k c)) (d + 1) c) = true from hev2) _ (List.getElem_mem h1)
    rw [Bool.and_eq_true] at e1 e2
    obtain ⟨⟨hb, hsd⟩, hsh⟩ := hi i h1 h2
    have hb' : boxN (d + 1) (Nd.kids t)[i] = box n cs[i] := hb
    have hsd' : saidN (d + 1) (Nd.kids t)[i] = head Sha.sha n cs[i] := hsd
    rw [kidText, hsd']
    congr 1
    cases hs : shownN (d + 1) (Nd.kids t)[i] with
    | false =>
      have h3 := e1.1
      rw [hs, Bool.false_or, Bool.not_eq_true', hb'] at h3
      rw [if_neg (by simp), if_neg (by rw [h3]; simp)]
    | true =>
      have h3 := e2.1
      rw [hs, Bool.not_true, Bool.false_or, hb'] at h3
      rw [if_pos rfl, if_pos h3, shows_text m d n _ _ (hsh hs) (.inl (hea _ (List.getElem_mem h2))) e1.2 e2.2]
      rfl
/-- a text that is taken with the map's commitment is what Prove gives, or there are two texts of one digest -/
theorem verify_sole {q : Qr} {L : List Pt} (h : Well L) {s : List UInt8} {b : List Pt} (hv : verify (Sha.sha (rootText Sha.sha L)) (L.length : Nat) q s = (b, 0)) : s = proofText q L ∨ ∃ t, parse s = some t ∧ Clash (ownsN 7 t) (texts Sha.sha (tree L).1 (tree L).2) := by
  unfold verify at hv
  by_cases hq : mayBe q = false
  · rw [if_pos hq] at hv; cases hv
  · rw [if_neg hq] at hv
    have hq' : mayBe q = true := by simpa using hq
    cases hp : parse s with
    | none => rw [hp] at hv; cases hv
    | some t =>
      rw [hp] at hv
      simp only at hv
      by_cases h1 : everyN boxHolds 7 t = false
      · rw [if_pos h1] at hv; cases hv
      · rw [if_neg h1] at hv
        by_cases h2 : everyN digHolds 7 t = false ∨ ¬ (digN 7 t = Sha.sha (rootText Sha.sha L) ∧ numN 7 t = (L.length : Nat))
        · rw [if_pos h2] at hv; cases hv
        · rw [if_neg h2] at hv
          by_cases h3 : everyN (lackN q (ans q (allN 7 t))) 7 t = false
          · rw [if_pos h3] at hv; cases hv
          · rw [if_neg h3] at hv
            by_cases h4 : everyN (wasteN q (ans q (allN 7 t))) 7 t = false
            · rw [if_pos h4] at hv; cases hv
            · have hdg : everyN digHolds 7 t = true := by
                cases hh : everyN digHolds 7 t with
                | true => rfl
                | false => exact absurd (.inl hh) h2
              have hroot : digN 7 t = Sha.sha (rootText Sha.sha L) := by
                refine Classical.byContradiction fun hne => h2 (.inr fun e => hne e.1)
              have h3' : everyN (lackN q (ans q (allN 7 t))) 7 t = true := by simpa using h3
              have h4' : everyN (wasteN q (ans q (allN 7 t))) 7 t = true := by simpa using h4
              obtain ⟨hf, htx, -, hmd⟩ := parse_sound hp
              have hts := tree_small h.ok
              have hd : Sha.sha (ownN 7 t) = Sha.sha (rootText Sha.sha L) := by
                rw [← hroot, ← made_dig, hmd]
              by_cases ho : ownN 7 t = rootText Sha.sha L
              · rcases shows_of 6 true t _ _ hf hdg hts.1 ho with hs | hc
                · left
                  have hsub := shows_sub 6 _ t _ hs
                  rw [hts.2] at hsub
                  have hans : ans q (allN 7 t) = ans q L := by
                    refine ans_part (a := ans q (allN 7 t)) hq' hsub h.ids (fun p hp => ?_) (.inr rfl)
                    exact shows_hidden (must q (ans q (allN 7 t))) 6 _ t _ hs h3' p (by rw [hts.2]; exact hp)
                  rw [hans] at h3' h4'
                  rw [← htx]
                  exact shows_text (must q (ans q L)) 6 _ t _ hs (tree_some L) h3' h4'
                · exact .inr ⟨t, rfl, hc⟩
              · exact .inr ⟨t, rfl, _, own_mem t, _, text_mem Sha.sha _ _, ho, hd⟩
end Ward
end Go.Proofs.YtenaelkbgkpllaaGreatDoor
/- As many of a kind, read one by one. -/
namespace Go.Proofs.YtenaelkbgkpllaaGreatDoor
namespace Ward
/-- behind i rounds: what was read, and what is left -/
def Half {α : Type} (rd : Sta → Option (α × Sta)) (k : Nat) (s : Sta) (i : Nat) (l : List α) (si : Sta) : Prop :=
  l.length = i ∧ i ≤ k ∧ rdMany rd k s = match rdMany rd (k - i) si with | none => none | some (m, s') => some (l ++ m, s')
theorem half_start {α : Type} (rd : Sta → Option (α × Sta)) (k : Nat) (s : Sta) : Half rd k s 0 [] s := by
  refine ⟨rfl, Nat.zero_le _, ?_⟩
  rw [Nat.sub_zero]
  cases h : rdMany rd k s with
  | none => rfl
  | some m => rfl
theorem half_end {α : Type} {rd : Sta → Option (α × Sta)} {k : Nat} {s : Sta} {l : List α} {si : Sta} (h : Half rd k s k l si) : rdMany rd k s = some (l, si) := by
  rw [h.2.2, Nat.sub_self]
  simp [rdMany]
theorem half_none {α : Type} {rd : Sta → Option (α × Sta)} {k : Nat} {s : Sta} {i : Nat} {l : List α} {si : Sta} (h : Half rd k s i l si) (hi : i < k) (hr : rd si = none) : rdMany rd k s = none := by
  rw [h.2.2, show k - i = (k - i - 1) + 1 by omega, rdMany, hr]
theorem half_step {α : Type} {rd : Sta → Option (α × Sta)} {k : Nat} {s : Sta} {i : Nat} {l : List α} {si sj : Sta} {x : α} (h : Half rd k s i l si) (hi : i < k) (hr : rd si = some (x, sj)) : Half rd k s (i + 1) (l ++ [x]) sj := by
  refine ⟨by rw [List.length_append, h.1]; rfl, hi, ?_⟩
  rw [h.2.2, show k - i = (k - (i + 1)) + 1 by omega, rdMany, hr]
  simp only
  cases rdMany rd (k - (i + 1)) sj with
  | none => rfl
  | some m => simp
end Ward
end Go.Proofs.YtenaelkbgkpllaaGreatDoor
