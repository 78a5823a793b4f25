/- What the boxes of a tree hold; the points of a window by the boxes; the nodes as what stands below them makes them. -/
import Derived.Test.YtenaelkbgkpllaaGreatDoorWardE
namespace Go.Proofs.YtenaelkbgkpllaaGreatDoor
namespace Ward
theorem has_refl (b : Box) : b.has b := ⟨Int.le_refl _, Int.le_refl _, Int.le_refl _, Int.le_refl _⟩
theorem has_trans {a b c : Box} (h : a.has b) (k : b.has c) : a.has c := by
  obtain ⟨_, _, _, _⟩ := h
  obtain ⟨_, _, _, _⟩ := k
  exact ⟨by omega, by omega, by omega, by omega⟩
theorem join_left (a b : Box) : (join a b).has a := by
  refine ⟨?_, ?_, ?_, ?_⟩ <;> simp only [join] <;> omega
theorem join_right (a b : Box) : (join a b).has b := by
  refine ⟨?_, ?_, ?_, ?_⟩ <;> simp only [join] <;> omega
theorem fold_has_start : ∀ (l : List Box) (b : Box), (l.foldl join b).has b
  | [], b => has_refl b
  | c :: l, b => has_trans (fold_has_start l (join b c)) (join_left b c)
theorem fold_has : ∀ (l : List Box) (b : Box), ∀ c ∈ l, (l.foldl join b).has c
  | d :: l, b, c, hc => by
    rcases List.mem_cons.1 hc with rfl | hc
    · exact has_trans (fold_has_start l (join b c)) (join_right b c)
    · exact fold_has l (join b d) c hc
theorem boxL_has {l : List Box} {c : Box} (h : c ∈ l) : (boxL l).has c := fold_has l _ c h
theorem meets_mono {a b c : Box} (h : b.has c) (hm : meets a c = true) : meets a b = true := by
  obtain ⟨h1, h2, h3, h4⟩ := h
  simp only [meets, Bool.and_eq_true, decide_eq_true_eq] at hm ⊢
  omega
theorem all_mk (dig : List UInt8 → List UInt8) : ∀ (n : Nat) (t : T n), allN (n + 1) (mk dig n t) = pts n t
  | 0, l => by simp [allN, mk, pts]
  | n + 1, cs => by
    show [] ++ List.flatMap (allN (n + 1)) (List.map (mk dig n) cs) = List.flatMap (pts n) cs
    rw [List.nil_append, List.flatMap_map]
    exact flatMap_congr fun c _ => all_mk dig n c
theorem box_has : ∀ (n : Nat) (t : T n), ∀ p ∈ pts n t, (box n t).has (boxOf p)
  | 0, l, p, hp => boxL_has (List.mem_map_of_mem hp)
  | n + 1, cs, p, hp => by
    obtain ⟨c, hc, hp⟩ := List.mem_flatMap.1 hp
    exact has_trans (boxL_has (List.mem_map_of_mem hc)) (box_has n c p hp)
theorem encl_mk (dig : List UInt8 → List UInt8) : ∀ (n : Nat) (t : T n), Encl (n + 1) (mk dig n t)
  | 0, l => ⟨fun p hp => box_has 0 l p hp, fun c hc => by simp [mk] at hc⟩
  | n + 1, cs => by
    refine ⟨fun p hp => by simp [mk] at hp, fun c hc => ?_⟩
    obtain ⟨t, _, rfl⟩ := List.mem_map.1 (show c ∈ List.map (mk dig n) cs from hc)
    exact ⟨fun p hp => by rw [all_mk] at hp; rw [mk_box]; exact box_has n t p hp, encl_mk dig n t⟩
theorem filter_none {b : Box} {c : Box} {l : List Pt} (h : ∀ p ∈ l, c.has (boxOf p)) (hm : meets b c = false) : l.filter (inB b) = [] := by
  rw [List.filter_eq_nil_iff]
  intro p hp he
  have := meets_mono (h p hp) he
  rw [hm] at this
  cases this
theorem filter_flatMap {α : Type} (f : α → List Pt) (P : Pt → Bool) : ∀ (l : List α), (l.flatMap f).filter P = l.flatMap fun x => (f x).filter P
  | [] => rfl
  | x :: l => by rw [List.flatMap_cons, List.filter_append, filter_flatMap f P l, List.flatMap_cons]
/-- by the boxes no point of a window is passed by -/
theorem within_all {b : Box} : ∀ (n : Nat) (t : NT n), Encl n t → withinN b n t = (allN n t).filter (inB b)
  | 0, t, _ => nomatch t
  | n + 1, t, h => by
    show (Nd.pts t).filter (inB b) ++ ((Nd.kids t).flatMap fun c => if meets b (boxN n c) then withinN b n c else []) = (Nd.pts t ++ (Nd.kids t).flatMap (allN n)).filter (inB b)
    rw [List.filter_append, filter_flatMap]
    congr 1
    refine flatMap_congr fun c hc => ?_
    obtain ⟨h1, h2⟩ := h.2 c hc
    by_cases hm : meets b (boxN n c) = true
    · rw [if_pos hm, within_all n c h2]
    · have hm' : meets b (boxN n c) = false := by simpa using hm
      rw [if_neg hm, filter_none h1 hm']
theorem tree_encl (dig : List UInt8 → List UInt8) (L : List Pt) : Encl ((tree L).1 + 1) (mk dig (tree L).1 (tree L).2) := encl_mk dig _ _
theorem tree_all (dig : List UInt8 → List UInt8) {L : List Pt} (h : ∀ p ∈ L, p.Ok) : allN ((tree L).1 + 1) (mk dig (tree L).1 (tree L).2) = L := by
  rw [all_mk, (tree_small h).2]
/-- how many points lie below -/
theorem within_le (b : Box) : ∀ (n : Nat) (t : NT n), (withinN b n t).length ≤ (allN n t).length
  | 0, t => nomatch t
  | n + 1, t => by
    have key : ∀ (l : List (NT n)), (l.flatMap fun c => if meets b (boxN n c) then withinN b n c else []).length ≤ (l.flatMap (allN n)).length := by
      intro l
      induction l with
      | nil => simp
      | cons c l ih =>
        rw [List.flatMap_cons, List.flatMap_cons, List.length_append, List.length_append]
        have := within_le b n c
        have h1 : (if meets b (boxN n c) then withinN b n c else []).length ≤ (allN n c).length := by
          split
          · exact this
          · exact Nat.zero_le _
        omega
    show ((Nd.pts t).filter _ ++ ((Nd.kids t).flatMap fun c => if meets b (boxN n c) then withinN b n c else [])).length ≤ (Nd.pts t ++ (Nd.kids t).flatMap (allN n)).length
    rw [List.length_append, List.length_append]
    have h1 := List.length_filter_le (fun p => meets b (boxOf p)) (Nd.pts t)
    have h2 := key (Nd.kids t)
    omega
/-- at most four of each kind below every node -/
def Few : (n : Nat) → NT n → Prop
  | 0, t => nomatch t
  | n + 1, t => (Nd.pts t).length ≤ 4 ∧ (Nd.kids t).length ≤ 4 ∧ ∀ c ∈ Nd.kids t, Few n c
theorem few_mk (dig : List UInt8 → List UInt8) : ∀ (n : Nat) (t : T n), Small n t → Few (n + 1) (mk dig n t)
  | 0, _, h => ⟨h.1, by simp [mk], fun c hc => by simp [mk] at hc⟩
  | n + 1, cs, h => by
    refine ⟨by simp [mk], by show (List.map (mk dig n) cs).length ≤ 4; rw [List.length_map]; exact h.1, fun c hc => ?_⟩
    obtain ⟨t, ht, rfl⟩ := List.mem_map.1 (show c ∈ List.map (mk dig n) cs from hc)
    exact few_mk dig n t (h.2 t ht)
/-- what is said of the boxes of children lies within bounds -/
def InN : (n : Nat) → NT n → Prop
  | 0, t => nomatch t
  | n + 1, t => ∀ c ∈ Nd.kids t, (boxN n c).In ∧ InN n c
theorem in_mk (dig : List UInt8 → List UInt8) : ∀ (n : Nat) (t : T n), Small n t → InN (n + 1) (mk dig n t)
  | 0, _, _ => fun c hc => by simp [mk] at hc
  | n + 1, cs, h => fun c hc => by
    obtain ⟨t, ht, rfl⟩ := List.mem_map.1 (show c ∈ List.map (mk dig n) cs from hc)
    exact ⟨by rw [mk_box]; exact box_in n t (h.2 t ht), in_mk dig n t (h.2 t ht)⟩
end Ward
end Go.Proofs.YtenaelkbgkpllaaGreatDoor
