/- Part 1 of what the claims on Bound, Small, Right and Sole rest on. -/
/- The points, the tree and its texts as plain functions, and what follows of them (no word of the program stands here). -/
namespace Go.Proofs.YtenaelkbgkpllaaGreatDoor
namespace Ward
structure Pt where
  id : Int
  x : Int
  y : Int
structure Box where
  a : Int
  b : Int
  c : Int
  d : Int
def lt (p q : Pt) : Prop := p.x < q.x ∨ (p.x = q.x ∧ (p.y < q.y ∨ (p.y = q.y ∧ p.id < q.id)))
instance (p q : Pt) : Decidable (lt p q) := by unfold lt; infer_instance
theorem lt_irrefl (p : Pt) : ¬ lt p p := by unfold lt; omega
theorem lt_trans {p q r : Pt} (h : lt p q) (k : lt q r) : lt p r := by unfold lt at *; omega
theorem lt_total (p q : Pt) (h : ¬ lt p q) (k : ¬ lt q p) : p = q := by
  obtain ⟨a, b, c⟩ := p
  obtain ⟨a', b', c'⟩ := q
  unfold lt at *
  simp only at *
  have : a = a' ∧ b = b' ∧ c = c' := by omega
  obtain ⟨rfl, rfl, rfl⟩ := this
  rfl
def Sorted (l : List Pt) : Prop := l.Pairwise lt
/-- the point put in at its place -/
def ins (p : Pt) (l : List Pt) : List Pt := l.takeWhile (fun q => decide (lt q p)) ++ p :: l.dropWhile (fun q => decide (lt q p))
/-- a place that parts a list -/
structure Parts (p : Pt) (l : List Pt) (k : Nat) : Prop where
  le : k ≤ l.length
  low : ∀ i, (h : i < l.length) → i < k → lt l[i] p
  high : ∀ i, (h : i < l.length) → k ≤ i → ¬ lt l[i] p
theorem Parts.cut {p : Pt} : ∀ {l : List Pt} {k : Nat}, Parts p l k → l.takeWhile (fun q => decide (lt q p)) = l.take k ∧ l.dropWhile (fun q => decide (lt q p)) = l.drop k
  | [], k, h => by simp
  | q :: l, 0, h => by
    have := h.high 0 (by simp) (by omega)
    simp only [List.getElem_cons_zero] at this
    simp [List.takeWhile, List.dropWhile, this]
  | q :: l, k + 1, h => by
    have hq := h.low 0 (by simp) (by omega)
    simp only [List.getElem_cons_zero] at hq
    have ih : Parts p l k := ⟨by have := h.le; simp at this; omega, fun i hi hk => by have := h.low (i + 1) (by simp; omega) (by omega); simpa using this, fun i hi hk => by have := h.high (i + 1) (by simp; omega) (by omega); simpa using this⟩
    have := ih.cut
    simp [List.takeWhile, List.dropWhile, hq, this]
theorem Parts.ins {p : Pt} {l : List Pt} {k : Nat} (h : Parts p l k) : ins p l = l.take k ++ p :: l.drop k := by
  rw [Ward.ins, h.cut.1, h.cut.2]
theorem ins_perm (p : Pt) (l : List Pt) : (ins p l).Perm (p :: l) := by
  unfold ins
  have := List.perm_middle (a := p) (l₁ := l.takeWhile (fun q => decide (lt q p))) (l₂ := l.dropWhile (fun q => decide (lt q p)))
  rw [List.takeWhile_append_dropWhile] at this
  exact this
theorem ins_length (p : Pt) (l : List Pt) : (ins p l).length = l.length + 1 := (ins_perm p l).length_eq
theorem takeWhile_lt {p : Pt} : ∀ {l : List Pt}, ∀ q ∈ l.takeWhile (fun q => decide (lt q p)), lt q p
  | q :: l, r, hr => by
    by_cases h : lt q p
    · simp [List.takeWhile, h] at hr
      rcases hr with rfl | hr
      · exact h
      · exact takeWhile_lt r hr
    · simp [List.takeWhile, h] at hr
theorem dropWhile_ge {p : Pt} : ∀ {l : List Pt}, Sorted l → ∀ q ∈ l.dropWhile (fun q => decide (lt q p)), ¬ lt q p
  | q :: l, hs, r, hr => by
    obtain ⟨h1, h2⟩ := List.pairwise_cons.1 hs
    by_cases h : lt q p
    · simp [List.dropWhile, h] at hr
      exact dropWhile_ge h2 r hr
    · simp [List.dropWhile, h] at hr
      rcases hr with rfl | hr
      · exact h
      · exact fun k => h (lt_trans (h1 r hr) k)
/-- ids are all different -/
def Ids (l : List Pt) : Prop := l.Pairwise fun p q => p.id ≠ q.id
theorem ins_sorted {p : Pt} {l : List Pt} (h : Sorted l) (hn : ∀ q ∈ l, q.id ≠ p.id) : Sorted (ins p l) := by
  unfold ins Sorted
  refine List.pairwise_append.2 ⟨h.sublist (List.takeWhile_sublist _), List.pairwise_cons.2 ⟨fun q hq => ?_, h.sublist (List.dropWhile_sublist _)⟩, fun q hq r hr => ?_⟩
  · have h1 := dropWhile_ge h q hq
    rcases Decidable.em (lt p q) with h2 | h2
    · exact h2
    · exact absurd (congrArg Pt.id (lt_total q p h1 h2)) (hn q ((List.dropWhile_sublist _).subset hq))
  · rcases List.mem_cons.1 hr with rfl | hr
    · exact takeWhile_lt q hq
    · have hall : Sorted (l.takeWhile (fun q => decide (lt q p)) ++ l.dropWhile (fun q => decide (lt q p))) := by rw [List.takeWhile_append_dropWhile]; exact h
      exact (List.pairwise_append.1 hall).2.2 q hq r hr
theorem ids_perm {l m : List Pt} (h : l.Perm m) : Ids l ↔ Ids m := h.pairwise_iff (fun k => Ne.symm k)
theorem ins_ids {p : Pt} {l : List Pt} (h : Ids l) (hn : ∀ q ∈ l, q.id ≠ p.id) : Ids (ins p l) :=
  (ids_perm (ins_perm p l)).2 (List.pairwise_cons.2 ⟨fun q hq => (hn q hq).symm, h⟩)
theorem sorted_eq {l m : List Pt} (hl : Sorted l) (hm : Sorted m) (h : l.Perm m) : l = m :=
  h.eq_of_pairwise (fun a _ _ _ hab hba => absurd (lt_trans hab hba) (lt_irrefl a)) hl hm
end Ward
namespace Ward
/-- groups of four -/
def fours {α : Type} (l : List α) : List (List α) := (List.range ((l.length + 3) / 4)).map fun i => (l.drop (4 * i)).take 4
theorem fours_length {α : Type} (l : List α) : (fours l).length = (l.length + 3) / 4 := by simp [fours]
theorem fours_get {α : Type} (l : List α) (i : Nat) (h : i < (fours l).length) : (fours l)[i] = (l.drop (4 * i)).take 4 := by simp [fours]
theorem range_flat {α : Type} (l : List α) : ∀ n, ((List.range n).map fun i => (l.drop (4 * i)).take 4).flatten = l.take (4 * n)
  | 0 => by simp
  | n + 1 => by
    rw [List.range_succ, List.map_append, List.flatten_append, range_flat l n]
    simp only [List.map_cons, List.map_nil, List.flatten_cons, List.flatten_nil, List.append_nil]
    rw [show 4 * (n + 1) = 4 * n + 4 by omega, List.take_add]
theorem fours_flat {α : Type} (l : List α) : (fours l).flatten = l := by
  rw [fours, range_flat, List.take_of_length_le (by omega)]
theorem fours_small {α : Type} (l : List α) : ∀ g ∈ fours l, g.length ≤ 4 ∧ g ≠ [] := by
  intro g hg
  simp only [fours, List.mem_map, List.mem_range] at hg
  obtain ⟨i, hi, rfl⟩ := hg
  refine ⟨by simp; omega, fun h => ?_⟩
  have := congrArg List.length h
  simp at this
  omega
/-- trees all of whose leaves lie equally deep -/
@[reducible] def T : Nat → Type
  | 0 => List Pt
  | n + 1 => List (T n)
def pts : (n : Nat) → T n → List Pt
  | 0, l => (l : List Pt)
  | n + 1, cs => List.flatMap (pts n) (cs : List (T n))
def join (p q : Box) : Box := ⟨min p.a q.a, min p.b q.b, max p.c q.c, max p.d q.d⟩
def boxOf (p : Pt) : Box := ⟨p.x, p.y, p.x, p.y⟩
def boxL (l : List Box) : Box := l.foldl join (l.headD ⟨0, 0, 0, 0⟩)
def box : (n : Nat) → T n → Box
  | 0, l => boxL (List.map boxOf (l : List Pt))
  | n + 1, cs => boxL (List.map (box n) (cs : List (T n)))
def count : (n : Nat) → T n → Nat
  | 0, l => List.length (l : List Pt)
  | n + 1, cs => (List.map (count n) (cs : List (T n))).sum
def kids : (n : Nat) → T n → Nat
  | 0, l => List.length (l : List Pt)
  | n + 1, cs => List.length (cs : List (T n))
/-- a number as four bytes -/
def four (n : Nat) : List UInt8 := [UInt8.ofNat (n / 16777216), UInt8.ofNat (n / 65536), UInt8.ofNat (n / 256), UInt8.ofNat n]
def fourI (n : Int) : List UInt8 := four (n % 4294967296).toNat
theorem four_len (n : Nat) : (four n).length = 4 := rfl
theorem fourI_len (n : Int) : (fourI n).length = 4 := rfl
theorem u8_eq {a b : Nat} (h : UInt8.ofNat a = UInt8.ofNat b) : a % 256 = b % 256 := by
  have := congrArg UInt8.toNat h
  simpa using this
theorem four_inj {a b : Nat} (ha : a < 4294967296) (hb : b < 4294967296) (h : four a = four b) : a = b := by
  unfold four at h
  simp only [List.cons.injEq, and_true] at h
  have h1 := u8_eq h.1
  have h2 := u8_eq h.2.1
  have h3 := u8_eq h.2.2.1
  have h4 := u8_eq h.2.2.2
  omega
theorem fourI_inj {a b : Int} (ha : -1000000 ≤ a) (ha' : a ≤ 1000000) (hb : -1000000 ≤ b) (hb' : b ≤ 1000000) (h : fourI a = fourI b) : a = b := by
  have := four_inj (by omega) (by omega) h
  omega
def ptText (p : Pt) : List UInt8 := fourI p.id ++ fourI p.x ++ fourI p.y
def boxText (b : Box) : List UInt8 := fourI b.a ++ fourI b.b ++ fourI b.c ++ fourI b.d
theorem ptText_len (p : Pt) : (ptText p).length = 12 := rfl
theorem boxText_len (b : Box) : (boxText b).length = 16 := rfl
structure Pt.Ok (p : Pt) : Prop where
  id1 : 1 ≤ p.id
  id2 : p.id ≤ 1000000
  x1 : -1000000 ≤ p.x
  x2 : p.x ≤ 1000000
  y1 : -1000000 ≤ p.y
  y2 : p.y ≤ 1000000
theorem ptText_inj {p q : Pt} (hp : p.Ok) (hq : q.Ok) (h : ptText p = ptText q) : p = q := by
  unfold ptText at h
  obtain ⟨h12, h3⟩ := List.append_inj h rfl
  obtain ⟨h1, h2⟩ := List.append_inj h12 rfl
  have e1 := fourI_inj (by have := hp.id1; omega) hp.id2 (by have := hq.id1; omega) hq.id2 h1
  have e2 := fourI_inj hp.x1 hp.x2 hq.x1 hq.x2 h2
  have e3 := fourI_inj hp.y1 hp.y2 hq.y1 hq.y2 h3
  obtain ⟨a, b, c⟩ := p
  obtain ⟨a', b', c'⟩ := q
  simp only at e1 e2 e3
  subst e1 e2 e3
  rfl
section
variable (dig : List UInt8 → List UInt8)
def leafText (l : List Pt) : List UInt8 := 1 :: UInt8.ofNat l.length :: l.flatMap ptText
/-- what a node says of a child -/
def headText (b : Box) (n : Nat) (d : List UInt8) : List UInt8 := boxText b ++ fourI n ++ d
def text : (n : Nat) → T n → List UInt8
  | 0, l => leafText l
  | n + 1, cs => 2 :: UInt8.ofNat (List.length (cs : List (T n))) :: List.flatMap (fun c => headText (box n c) (count n c) (dig (text n c))) (cs : List (T n))
def head (n : Nat) (c : T n) : List UInt8 := headText (box n c) (count n c) (dig (text dig n c))
def proof (must : Box → Bool) : (n : Nat) → T n → List UInt8
  | 0, l => leafText l
  | n + 1, cs => 2 :: UInt8.ofNat (List.length (cs : List (T n))) :: List.flatMap (fun c => head dig n c ++ (if must (box n c) then 1 :: proof must n c else [0])) (cs : List (T n))
/-- all is shown -/
def full (n : Nat) (t : T n) : List UInt8 := proof dig (fun _ => true) n t
theorem full_succ (n : Nat) (cs : T (n + 1)) : full dig (n + 1) cs = 2 :: UInt8.ofNat (List.length (cs : List (T n))) :: List.flatMap (fun c => head dig n c ++ 1 :: full dig n c) (cs : List (T n)) := by
  simp [full, proof]
theorem text_succ (n : Nat) (cs : T (n + 1)) : text dig (n + 1) cs = 2 :: UInt8.ofNat (List.length (cs : List (T n))) :: List.flatMap (head dig n) (cs : List (T n)) := rfl
/-- the texts of a tree's parts, the root's last -/
def texts : (n : Nat) → T n → List (List UInt8)
  | 0, l => [leafText l]
  | n + 1, cs => List.flatMap (texts n) (cs : List (T n)) ++ [text dig (n + 1) cs]
theorem text_mem : ∀ (n : Nat) (t : T n), text dig n t ∈ texts dig n t
  | 0, _ => by simp [texts, text]
  | n + 1, _ => by simp [texts]
end
def Each {α : Type} (P : α → Prop) (l : List α) : Prop := ∀ x ∈ l, P x
def Small : (n : Nat) → T n → Prop
  | 0, l => List.length (l : List Pt) ≤ 4 ∧ Each Pt.Ok (l : List Pt)
  | n + 1, cs => List.length (cs : List (T n)) ≤ 4 ∧ Each (Small n) (cs : List (T n))
theorem ofNat_small {a b : Nat} (ha : a ≤ 4) (hb : b ≤ 4) (h : UInt8.ofNat a = UInt8.ofNat b) : a = b := by
  have := u8_eq h; omega
theorem leaf_inj {r s : List UInt8} : ∀ {l m : List Pt}, l.length = m.length → (∀ p ∈ l, p.Ok) → (∀ p ∈ m, p.Ok) → l.flatMap ptText ++ r = m.flatMap ptText ++ s → l = m ∧ r = s
  | [], [], _, _, _, h => by simpa using h
  | p :: l, q :: m, hlen, hl, hm, h => by
    simp only [List.flatMap_cons, List.append_assoc] at h
    obtain ⟨h1, h2⟩ := List.append_inj h rfl
    have e := ptText_inj (hl p (by simp)) (hm q (by simp)) h1
    have ih := leaf_inj (by simpa using hlen) (fun p hp => hl p (by simp [hp])) (fun p hp => hm p (by simp [hp])) h2
    exact ⟨by rw [e, ih.1], ih.2⟩
theorem leafText_inj {l m : List Pt} {r s : List UInt8} (hl : l.length ≤ 4) (hm : m.length ≤ 4) (hlo : ∀ p ∈ l, p.Ok) (hmo : ∀ p ∈ m, p.Ok) (h : leafText l ++ r = leafText m ++ s) : l = m ∧ r = s := by
  unfold leafText at h
  simp only [List.cons_append, List.cons.injEq, true_and] at h
  exact leaf_inj (ofNat_small hl hm h.1) hlo hmo h.2
section
variable {dig : List UInt8 → List UInt8}
theorem head_len (hd : ∀ l, (dig l).length = 32) (n : Nat) (c : T n) : (head dig n c).length = 52 := by
  simp [head, headText, boxText_len, fourI_len, hd]
/-- the points can be read off the whole text -/
theorem full_inj (hd : ∀ l, (dig l).length = 32) : ∀ (n m : Nat) (s : T n) (t : T m) (r q : List UInt8), Small n s → Small m t → full dig n s ++ r = full dig m t ++ q → pts n s = pts m t ∧ r = q
  | 0, 0, s, t, r, q, hs, ht, h => leafText_inj hs.1 ht.1 hs.2 ht.2 h
  | 0, m + 1, s, t, r, q, hs, ht, h => by
    rw [full_succ] at h
    simp [full, proof, leafText] at h
  | n + 1, 0, s, t, r, q, hs, ht, h => by
    rw [full_succ] at h
    simp [full, proof, leafText] at h
  | n + 1, m + 1, s, t, r, q, hs, ht, h => by
    rw [full_succ, full_succ] at h
    simp only [List.cons_append, List.cons.injEq, true_and] at h
    have hlen := ofNat_small hs.1 ht.1 h.1
    have key : ∀ (l : List (T n)) (k : List (T m)), l.length = k.length → (∀ c ∈ l, Small n c) → (∀ c ∈ k, Small m c) → List.flatMap (fun c => head dig n c ++ 1 :: full dig n c) l ++ r = List.flatMap (fun c => head dig m c ++ 1 :: full dig m c) k ++ q → List.flatMap (pts n) l = List.flatMap (pts m) k ∧ r = q := by
      intro l
      induction l with
      | nil => intro k hk _ _ h; cases k with | nil => exact ⟨rfl, by simpa using h⟩ | cons _ _ => simp at hk
      | cons c l ih =>
        intro k hk hl hk' h
        cases k with
        | nil => simp at hk
        | cons e k =>
          simp only [List.flatMap_cons, List.append_assoc, List.cons_append] at h
          obtain ⟨-, h2⟩ := List.append_inj h (by rw [head_len hd, head_len hd])
          simp only [List.cons.injEq, true_and] at h2
          obtain ⟨e1, e2⟩ := full_inj hd n m c e _ _ (hl c (by simp)) (hk' e (by simp)) h2
          obtain ⟨e3, e4⟩ := ih k (by simpa using hk) (fun c hc => hl c (by simp [hc])) (fun c hc => hk' c (by simp [hc])) e2
          exact ⟨by simp only [List.flatMap_cons, e1, e3], e4⟩
    exact key s t hlen hs.2 ht.2 h.2
/-- of two trees with one digest and two whole texts, two parts have one digest and two texts -/
theorem found (hd : ∀ l, (dig l).length = 32) : ∀ (n m : Nat) (s : T n) (t : T m), Small n s → Small m t → dig (text dig n s) = dig (text dig m t) → full dig n s ≠ full dig m t → ∃ a ∈ texts dig n s, ∃ b ∈ texts dig m t, a ≠ b ∧ dig a = dig b := by
  intro n
  induction n with
  | zero =>
    intro m s t hs ht hdig hne
    by_cases e : text dig 0 s = text dig m t
    · cases m with
      | zero => exact absurd e hne
      | succ m => rw [text_succ] at e; simp [text, leafText] at e
    · exact ⟨_, text_mem dig 0 s, _, text_mem dig m t, e, hdig⟩
  | succ n ih =>
    intro m s t hs ht hdig hne
    by_cases e : text dig (n + 1) s = text dig m t
    · cases m with
      | zero => rw [text_succ] at e; simp [text, leafText] at e
      | succ m =>
        rw [text_succ, text_succ] at e
        simp only [List.cons.injEq, true_and] at e
        have hlen := ofNat_small hs.1 ht.1 e.1
        rw [full_succ, full_succ, hlen] at hne
        have key : ∀ (l : List (T n)) (k : List (T m)), l.length = k.length → (∀ c ∈ l, Small n c) → (∀ c ∈ k, Small m c) → List.flatMap (head dig n) l = List.flatMap (head dig m) k → List.flatMap (fun c => head dig n c ++ 1 :: full dig n c) l ≠ List.flatMap (fun c => head dig m c ++ 1 :: full dig m c) k → ∃ a ∈ List.flatMap (texts dig n) l, ∃ b ∈ List.flatMap (texts dig m) k, a ≠ b ∧ dig a = dig b := by
          intro l
          induction l with
          | nil => intro k hk _ _ _ h; cases k with | nil => exact absurd rfl h | cons _ _ => simp at hk
          | cons c l ihl =>
            intro k hk hl hk' h hn
            cases k with
            | nil => simp at hk
            | cons e k =>
              simp only [List.flatMap_cons] at h hn ⊢
              obtain ⟨h1, h2⟩ := List.append_inj h (by rw [head_len hd, head_len hd])
              by_cases ef : full dig n c = full dig m e
              · obtain ⟨a, ha, b, hb, r⟩ := ihl k (by simpa using hk) (fun c hc => hl c (by simp [hc])) (fun c hc => hk' c (by simp [hc])) h2 (fun h => hn (by rw [h1, ef, h]))
                exact ⟨a, List.mem_append_right _ ha, b, List.mem_append_right _ hb, r⟩
              · have hdd : dig (text dig n c) = dig (text dig m e) := by
                  unfold head headText at h1
                  exact (List.append_inj h1 (by simp [boxText_len, fourI_len])).2
                obtain ⟨a, ha, b, hb, r⟩ := ih m c e (hl c (by simp)) (hk' e (by simp)) hdd ef
                exact ⟨a, List.mem_append_left _ ha, b, List.mem_append_left _ hb, r⟩
        obtain ⟨a, ha, b, hb, r⟩ := key s t hlen hs.2 ht.2 e.2 (fun h => hne (by rw [h]))
        refine ⟨a, ?_, b, ?_, r⟩
        · simp only [texts]; exact List.mem_append_left _ ha
        · simp only [texts]; exact List.mem_append_left _ hb
    · exact ⟨_, text_mem dig (n + 1) s, _, text_mem dig m t, e, hdig⟩
end
end Ward
namespace Ward
/-- from a level up to the root -/
def climb : Nat → (n : Nat) → List (T n) → (m : Nat) × T m
  | 0, _, _ => ⟨0, ([] : List Pt)⟩
  | k + 1, n, ls => match ls with
    | [t] => ⟨n, t⟩
    | _ => climb k (n + 1) (fours ls)
theorem climb_one (k n : Nat) (t : T n) : climb (k + 1) n [t] = ⟨n, t⟩ := rfl
theorem climb_more (k n : Nat) (ls : List (T n)) (h : ls.length ≠ 1) : climb (k + 1) n ls = climb k (n + 1) (fours ls) := by
  rw [climb]
  intro t e
  subst e
  simp at h
def leaves (l : List Pt) : List (T 0) := if l.length = 0 then [([] : List Pt)] else fours l
def tree (l : List Pt) : (m : Nat) × T m := climb (l.length + 2) 0 (leaves l)
def ptsL (n : Nat) (ls : List (T n)) : List Pt := ls.flatMap (pts n)
theorem ptsL_fours (n : Nat) (ls : List (T n)) : ptsL (n + 1) (fours ls) = ptsL n ls := by
  show List.flatMap (fun g : List (T n) => List.flatMap (pts n) g) (fours ls) = List.flatMap (pts n) ls
  have h := congrArg (List.flatMap (pts n)) (fours_flat ls)
  rw [← h]
  generalize fours ls = gs
  induction gs with
  | nil => rfl
  | cons g gs ih => rw [List.flatMap_cons, List.flatten_cons, List.flatMap_append, ih]
theorem climb_all {P : (n : Nat) → T n → Prop} (hP : ∀ n (ls : List (T n)), (∀ t ∈ ls, P n t) → ∀ g ∈ fours ls, P (n + 1) g) :
    ∀ (k n : Nat) (ls : List (T n)), ls ≠ [] → ls.length < k → (∀ t ∈ ls, P n t) → P (climb k n ls).1 (climb k n ls).2 ∧ pts (climb k n ls).1 (climb k n ls).2 = ptsL n ls
  | 0, _, _, _, h, _ => absurd h (by omega)
  | k + 1, n, ls, h0, hk, h => by
    by_cases h1 : ls.length = 1
    · obtain ⟨t, rfl⟩ := List.length_eq_one_iff.1 h1
      rw [climb_one]
      exact ⟨h t (by simp), by simp [ptsL]⟩
    · have hl : ls.length ≠ 0 := fun e => h0 (List.length_eq_zero_iff.1 e)
      rw [climb_more _ _ _ h1]
      have := climb_all hP k (n + 1) (fours ls) (fun e => by have := congrArg List.length e; rw [fours_length] at this; simp at this; omega) (by rw [fours_length]; omega) (hP n ls h)
      rw [ptsL_fours] at this
      exact this
theorem leaves_ne (l : List Pt) : leaves l ≠ [] := by
  unfold leaves
  split
  · simp
  · intro e; have := congrArg List.length e; rw [fours_length] at this; simp at this; omega
theorem leaves_lt (l : List Pt) : (leaves l).length < l.length + 2 := by
  unfold leaves
  split
  · simp
  · rw [fours_length]; omega
theorem leaves_pts (l : List Pt) : ptsL 0 (leaves l) = l := by
  unfold leaves ptsL
  split
  · rename_i h
    rw [List.length_eq_zero_iff.1 h]
    rfl
  · have h := fours_flat l
    rw [List.flatten_eq_flatMap] at h
    exact h
theorem leaves_small {l : List Pt} (h : ∀ p ∈ l, p.Ok) : ∀ t ∈ leaves l, Small 0 t := by
  unfold leaves
  split
  · intro t ht
    rw [List.mem_singleton] at ht
    subst ht
    exact ⟨by simp, fun p hp => by simp at hp⟩
  · intro t ht
    refine ⟨(fours_small l t ht).1, fun p hp => h p ?_⟩
    rw [← fours_flat l]
    exact List.mem_flatten.2 ⟨t, ht, hp⟩
theorem fours_mem {α : Type} {l : List α} {g : List α} (hg : g ∈ fours l) : ∀ c ∈ g, c ∈ l := fun c hc => by
  rw [← fours_flat l]; exact List.mem_flatten.2 ⟨g, hg, hc⟩
theorem tree_small {l : List Pt} (h : ∀ p ∈ l, p.Ok) : Small (tree l).1 (tree l).2 ∧ pts (tree l).1 (tree l).2 = l := by
  have := climb_all (P := Small) (fun n ls hs g hg => ⟨(fours_small ls g hg).1, fun c hc => hs c (fours_mem hg c hc)⟩) (l.length + 2) 0 (leaves l) (leaves_ne l) (leaves_lt l) (leaves_small h)
  rw [leaves_pts] at this
  exact this
theorem climb_depth : ∀ (d k n : Nat) (ls : List (T n)), ls ≠ [] → ls.length < k → ls.length ≤ 4 ^ d → (climb k n ls).1 ≤ n + d
  | _, 0, _, _, _, h, _ => absurd h (by omega)
  | 0, k + 1, n, ls, h0, hk, h => by
    have h1 : ls.length = 1 := by
      have : ls.length ≠ 0 := fun e => h0 (List.length_eq_zero_iff.1 e)
      simp at h; omega
    obtain ⟨t, rfl⟩ := List.length_eq_one_iff.1 h1
    rw [climb_one]; simp
  | d + 1, k + 1, n, ls, h0, hk, h => by
    by_cases h1 : ls.length = 1
    · obtain ⟨t, rfl⟩ := List.length_eq_one_iff.1 h1
      rw [climb_one]; simp
    · have hl : ls.length ≠ 0 := fun e => h0 (List.length_eq_zero_iff.1 e)
      rw [climb_more _ _ _ h1]
      have := climb_depth d k (n + 1) (fours ls) (fun e => by have := congrArg List.length e; rw [fours_length] at this; simp at this; omega) (by rw [fours_length]; omega) (by rw [fours_length]; rw [Nat.pow_succ] at h; omega)
      omega
theorem tree_depth {l : List Pt} (h : l.length ≤ 256) : (tree l).1 ≤ 3 := by
  have := climb_depth 3 (l.length + 2) 0 (leaves l) (leaves_ne l) (leaves_lt l) (by unfold leaves; split; (· simp); (· rw [fours_length]; omega))
  exact Nat.le_trans this (by omega)
theorem count_pts : ∀ (n : Nat) (t : T n), count n t = (pts n t).length
  | 0, _ => rfl
  | n + 1, cs => by
    show (List.map (count n) cs).sum = (List.flatMap (pts n) cs).length
    rw [List.length_flatMap]
    congr 1
    exact List.map_congr_left fun c _ => count_pts n c
structure Box.In (b : Box) : Prop where
  a1 : -1000000 ≤ b.a
  a2 : b.a ≤ 1000000
  b1 : -1000000 ≤ b.b
  b2 : b.b ≤ 1000000
  c1 : -1000000 ≤ b.c
  c2 : b.c ≤ 1000000
  d1 : -1000000 ≤ b.d
  d2 : b.d ≤ 1000000
theorem join_in {p q : Box} (hp : p.In) (hq : q.In) : (join p q).In := by
  obtain ⟨_, _, _, _, _, _, _, _⟩ := hp
  obtain ⟨_, _, _, _, _, _, _, _⟩ := hq
  constructor <;> simp only [join] <;> omega
theorem zero_in : (⟨0, 0, 0, 0⟩ : Box).In := by constructor <;> simp
theorem fold_in : ∀ {l : List Box} {b : Box}, b.In → (∀ c ∈ l, c.In) → (l.foldl join b).In
  | [], _, hb, _ => hb
  | c :: l, _, hb, h => fold_in (l := l) (join_in hb (h c (by simp))) fun d hd => h d (by simp [hd])
theorem boxL_in {l : List Box} (h : ∀ c ∈ l, c.In) : (boxL l).In := by
  refine fold_in ?_ h
  cases l with
  | nil => exact zero_in
  | cons c l => exact h c (by simp)
theorem box_in : ∀ (n : Nat) (t : T n), Small n t → (box n t).In
  | 0, l, h => boxL_in fun c hc => by
    obtain ⟨p, hp, rfl⟩ := List.mem_map.1 hc
    have := h.2 p hp
    obtain ⟨_, _, _, _, _, _⟩ := this
    constructor <;> simp only [boxOf] <;> omega
  | n + 1, cs, h => boxL_in fun c hc => by
    obtain ⟨t, ht, rfl⟩ := List.mem_map.1 hc
    exact box_in n t (h.2 t ht)
theorem proof_full {dig : List UInt8 → List UInt8} {must : Box → Bool} (hm : ∀ b, b.In → must b = true) : ∀ (n : Nat) (t : T n), Small n t → proof dig must n t = full dig n t
  | 0, _, _ => rfl
  | n + 1, cs, h => by
    rw [full_succ]
    show 2 :: UInt8.ofNat (List.length cs) :: List.flatMap (fun c => head dig n c ++ (if must (box n c) then 1 :: proof dig must n c else [0])) cs = _
    congr 2
    rw [List.flatMap_def, List.flatMap_def]
    congr 1
    refine List.map_congr_left fun c hc => ?_
    have hc' := h.2 c hc
    rw [if_pos (hm _ (box_in n c hc')), proof_full hm n c hc']
end Ward
namespace Ward
/-- what a text shows, so deep: a leaf's bytes, or of each child 52 bytes and, where it is shown, what is shown of it; else a byte -/
inductive Sh (α : Type) : Type
  | leaf (b : List UInt8)
  | node (cs : List (List UInt8 × (UInt8 ⊕ α)))
@[reducible] def PT : Nat → Type
  | 0 => Empty
  | n + 1 => Sh (PT n)
/-- a leaf of so many points' bytes; a node of heads -/
def WF : (n : Nat) → PT n → Prop
  | 0, t => nomatch t
  | _ + 1, .leaf b => ∃ k, k ≤ 4 ∧ b.length = 12 * k
  | n + 1, .node cs => cs.length ≤ 4 ∧ Each (fun c : List UInt8 × (UInt8 ⊕ PT n) => c.1.length = 52 ∧ match c.2 with | .inl f => f ≠ 1 | .inr t => WF n t) cs
/-- its own text -/
def own : (n : Nat) → PT n → List UInt8
  | 0, t => nomatch t
  | _ + 1, .leaf b => 1 :: UInt8.ofNat (b.length / 12) :: b
  | _ + 1, .node cs => 2 :: UInt8.ofNat cs.length :: cs.flatMap (fun c => c.1)
/-- all of it -/
def shows : (n : Nat) → PT n → List UInt8
  | 0, t => nomatch t
  | _ + 1, .leaf b => 1 :: UInt8.ofNat (b.length / 12) :: b
  | n + 1, .node cs => 2 :: UInt8.ofNat cs.length :: cs.flatMap (fun c : List UInt8 × (UInt8 ⊕ PT n) => c.1 ++ match c.2 with | .inl f => [f] | .inr t => 1 :: shows n t)
/-- the texts of all that is shown -/
def alls : (n : Nat) → PT n → List (List UInt8)
  | 0, t => nomatch t
  | _ + 1, .leaf b => [1 :: UInt8.ofNat (b.length / 12) :: b]
  | n + 1, .node cs => cs.flatMap (fun c : List UInt8 × (UInt8 ⊕ PT n) => match c.2 with | .inl _ => [] | .inr t => alls n t) ++ [2 :: UInt8.ofNat cs.length :: cs.flatMap (fun c => c.1)]
/-- a map's tree, all shown -/
def emb (dig : List UInt8 → List UInt8) : (n : Nat) → T n → PT (n + 1)
  | 0, l => .leaf (List.flatMap ptText (l : List Pt))
  | n + 1, cs => .node (List.map (fun c => (head dig n c, .inr (emb dig n c))) (cs : List (T n)))
theorem pts_len (l : List Pt) : (l.flatMap ptText).length = 12 * l.length := by
  induction l with
  | nil => rfl
  | cons p l ih => rw [List.flatMap_cons, List.length_append, ih, ptText_len, List.length_cons]; omega
theorem emb_leaf (l : List Pt) : (1 :: UInt8.ofNat ((l.flatMap ptText).length / 12) :: l.flatMap ptText) = leafText l := by
  rw [pts_len, Nat.mul_div_cancel_left _ (by decide)]; rfl
section
variable {dig : List UInt8 → List UInt8}
theorem emb_wf (hd : ∀ l, (dig l).length = 32) : ∀ (n : Nat) (t : T n), Small n t → WF (n + 1) (emb dig n t)
  | 0, l, h => ⟨List.length (l : List Pt), h.1, pts_len l⟩
  | n + 1, cs, h => by
    refine ⟨by show (List.map _ cs).length ≤ 4; rw [List.length_map]; exact h.1, fun c hc => ?_⟩
    obtain ⟨t, ht, rfl⟩ := List.mem_map.1 hc
    exact ⟨head_len hd n t, emb_wf hd n t (h.2 t ht)⟩
end
theorem emb_own (dig : List UInt8 → List UInt8) : ∀ (n : Nat) (t : T n), own (n + 1) (emb dig n t) = text dig n t
  | 0, l => emb_leaf l
  | n + 1, cs => by
    show 2 :: UInt8.ofNat (List.map _ cs).length :: List.flatMap _ (List.map _ cs) = _
    rw [text_succ, List.length_map, List.flatMap_map]
theorem emb_shows (dig : List UInt8 → List UInt8) : ∀ (n : Nat) (t : T n), shows (n + 1) (emb dig n t) = full dig n t
  | 0, l => emb_leaf l
  | n + 1, cs => by
    show 2 :: UInt8.ofNat (List.map _ cs).length :: List.flatMap _ (List.map _ cs) = _
    rw [full_succ, List.length_map, List.flatMap_map]
    congr 2
    rw [List.flatMap_def, List.flatMap_def]
    congr 1
    exact List.map_congr_left fun c _ => by simp only [emb_shows dig n c]
theorem emb_alls (dig : List UInt8 → List UInt8) : ∀ (n : Nat) (t : T n), alls (n + 1) (emb dig n t) = texts dig n t
  | 0, l => by show [_] = [_]; rw [emb_leaf l]
  | n + 1, cs => by
    show List.flatMap _ (List.map _ cs) ++ [2 :: UInt8.ofNat (List.map _ cs).length :: List.flatMap _ (List.map _ cs)] = _
    rw [List.length_map, List.flatMap_map, List.flatMap_map]
    show _ = List.flatMap (texts dig n) cs ++ [text dig (n + 1) cs]
    congr 1
    rw [List.flatMap_def, List.flatMap_def]
    congr 1
    exact List.map_congr_left fun c _ => emb_alls dig n c
end Ward
end Go.Proofs.YtenaelkbgkpllaaGreatDoor
/- How long the texts of a tree are, and how many. -/
namespace Go.Proofs.YtenaelkbgkpllaaGreatDoor
namespace Ward
theorem heads_le : ∀ (cs : List (List UInt8)), (∀ c ∈ cs, c.length = 52) → cs.flatten.length = 52 * cs.length
  | [], _ => rfl
  | c :: cs, h => by rw [List.flatten_cons, List.length_append, heads_le cs (fun d hd => h d (by simp [hd])), h c (by simp), List.length_cons]; omega
theorem alls_small : ∀ (n : Nat) (t : PT n), WF n t → ∀ a ∈ alls n t, a.length ≤ 300
  | 0, t, _ => nomatch t
  | n + 1, .leaf b, ⟨k, hk, hb⟩ => by
    intro a ha
    have e : a = 1 :: UInt8.ofNat (b.length / 12) :: b := by simpa [alls] using ha
    rw [e]; simp; omega
  | n + 1, .node cs, ⟨h4, he⟩ => by
    intro a ha
    have ha' : a ∈ cs.flatMap (fun c : List UInt8 × (UInt8 ⊕ PT n) => match c.2 with | .inl _ => [] | .inr t => alls n t) ++ [2 :: UInt8.ofNat cs.length :: cs.flatMap (fun c => c.1)] := ha
    rcases List.mem_append.1 ha' with ha | ha
    · obtain ⟨⟨h, x⟩, hc, ha⟩ := List.mem_flatMap.1 ha
      have hx := he (h, x) hc
      cases x with
      | inl f => simp at ha
      | inr t => exact alls_small n t hx.2 a ha
    · rw [List.mem_singleton.1 ha]
      have := heads_le (cs.map (fun c => c.1)) (fun d hd => by obtain ⟨c, hc, rfl⟩ := List.mem_map.1 hd; exact (he c hc).1)
      rw [← List.flatMap_def, List.length_map] at this
      simp only [List.length_cons]
      omega
theorem texts_few (dig : List UInt8 → List UInt8) : ∀ (n : Nat) (t : T n), Small n t → (texts dig n t).length ≤ 5 ^ n
  | 0, _, _ => by simp [texts]
  | n + 1, cs, h => by
    show (List.flatMap (texts dig n) cs ++ [_]).length ≤ _
    have key : ∀ (l : List (T n)), (∀ c ∈ l, Small n c) → (List.flatMap (texts dig n) l).length ≤ 5 ^ n * l.length := by
      intro l
      induction l with
      | nil => intro _; simp
      | cons c l ih =>
        intro hl
        rw [List.flatMap_cons, List.length_append, List.length_cons]
        have h1 := texts_few dig n c (hl c (by simp))
        have h2 := ih (fun d hd => hl d (by simp [hd]))
        rw [Nat.mul_succ]; omega
    have h1 := key cs h.2
    have h2 : 5 ^ n * List.length cs ≤ 5 ^ n * 4 := Nat.mul_le_mul_left _ h.1
    have h3 : 1 ≤ 5 ^ n := Nat.one_le_pow _ _ (by decide)
    rw [List.length_append, Nat.pow_succ]
    simp only [List.length_singleton]
    omega
end Ward
end Go.Proofs.YtenaelkbgkpllaaGreatDoor
/- The whole text of a tree tells its points; two trees of one digest show two texts of one. -/
namespace Go.Proofs.YtenaelkbgkpllaaGreatDoor
namespace Ward
theorem sorted_sub : ∀ {L L' : List Pt}, Sorted L → Sorted L' → (∀ p ∈ L, p ∈ L') → L.Sublist L'
  | [], L', _, _, _ => List.nil_sublist _
  | a :: L, [], _, _, h => absurd (h a (by simp)) (by simp)
  | a :: L, b :: L', hs, hs', h => by
    obtain ⟨h1, h2⟩ := List.pairwise_cons.1 hs
    obtain ⟨h3, h4⟩ := List.pairwise_cons.1 hs'
    by_cases e : a = b
    · subst e
      refine List.Sublist.cons_cons _ (sorted_sub h2 h4 fun p hp => ?_)
      rcases List.mem_cons.1 (h p (by simp [hp])) with e | hp'
      · subst e; exact absurd (h1 p hp) (lt_irrefl p)
      · exact hp'
    · refine List.Sublist.cons _ (sorted_sub hs h4 fun p hp => ?_)
      have ha : a ∈ L' := by
        rcases List.mem_cons.1 (h a (by simp)) with e' | h'
        · exact absurd e' e
        · exact h'
      have hb : lt b a := h3 a ha
      rcases List.mem_cons.1 (h p hp) with e' | hp'
      · subst e'
        rcases List.mem_cons.1 hp with e'' | hp''
        · exact absurd e''.symm e
        · exact absurd (lt_trans hb (h1 p hp'')) (lt_irrefl p)
      · exact hp'
/-- the lists have the same points, as the statement looks at it -/
theorem alike_iff {L L' l k : List Pt} (hs : Sorted L) (hs' : Sorted L') (hl : L.Perm l) (hk : L'.Perm k) : (l.length = k.length ∧ ∀ p ∈ l, p ∈ k) ↔ L = L' := by
  constructor
  · rintro ⟨h1, h2⟩
    refine (sorted_sub hs hs' fun p hp => hk.mem_iff.2 (h2 p (hl.mem_iff.1 hp))).eq_of_length ?_
    rw [hl.length_eq, hk.length_eq, h1]
  · rintro rfl
    exact ⟨hl.length_eq.symm.trans hk.length_eq, fun p hp => hk.mem_iff.1 (hl.mem_iff.2 hp)⟩
section
variable (dig : List UInt8 → List UInt8)
def rootText (L : List Pt) : List UInt8 := text dig (tree L).1 (tree L).2
def fullText (L : List Pt) : List UInt8 := full dig (tree L).1 (tree L).2
def rootShow (L : List Pt) : PT ((tree L).1 + 1) := emb dig (tree L).1 (tree L).2
end
section
variable {dig : List UInt8 → List UInt8}
theorem fullText_inj (hd : ∀ l, (dig l).length = 32) {L L' : List Pt} (h : ∀ p ∈ L, p.Ok) (h' : ∀ p ∈ L', p.Ok) (e : fullText dig L = fullText dig L') : L = L' := by
  have h1 := tree_small h
  have h2 := tree_small h'
  have := (full_inj hd _ _ (tree L).2 (tree L').2 [] [] h1.1 h2.1 (by simpa [fullText] using e)).1
  rw [h1.2, h2.2] at this
  exact this
theorem root_found (hd : ∀ l, (dig l).length = 32) {L L' : List Pt} (h : ∀ p ∈ L, p.Ok) (h' : ∀ p ∈ L', p.Ok) (hne : L ≠ L') (e : dig (rootText dig L) = dig (rootText dig L')) :
    ∃ a ∈ alls _ (rootShow dig L), ∃ b ∈ alls _ (rootShow dig L'), a ≠ b ∧ dig a = dig b := by
  unfold rootShow
  rw [emb_alls, emb_alls]
  exact found hd _ _ _ _ (tree_small h).1 (tree_small h').1 e (fun e' => hne (fullText_inj hd h h' e'))
theorem root_wf (hd : ∀ l, (dig l).length = 32) {L : List Pt} (h : ∀ p ∈ L, p.Ok) : WF _ (rootShow dig L) := emb_wf hd _ _ (tree_small h).1
end
theorem root_shows (dig : List UInt8 → List UInt8) (L : List Pt) : shows _ (rootShow dig L) = fullText dig L := emb_shows dig _ _
theorem root_few (dig : List UInt8 → List UInt8) {L : List Pt} (h : ∀ p ∈ L, p.Ok) (hl : L.length ≤ 256) : (alls _ (rootShow dig L)).length ≤ 125 := by
  unfold rootShow
  rw [emb_alls]
  refine Nat.le_trans (texts_few dig _ _ (tree_small h).1) ?_
  exact Nat.le_trans (Nat.pow_le_pow_right (by decide) (tree_depth hl)) (by decide)
theorem full_ne (dig : List UInt8 → List UInt8) (n : Nat) (t : T n) : full dig n t ≠ [] := by
  cases n with
  | zero => simp [full, proof, leafText]
  | succ n => rw [full_succ]; simp
section
variable {dig : List UInt8 → List UInt8}
theorem full_len (hd : ∀ l, (dig l).length = 32) : ∀ (n : Nat) (t : T n), Small n t → (full dig n t).length ≤ 300 * 5 ^ n
  | 0, l, h => by
    have : (full dig 0 l).length = 2 + 12 * List.length (l : List Pt) := by
      show (leafText l).length = _
      simp only [leafText, List.length_cons]
      rw [pts_len]; omega
    have := h.1
    simp only [Nat.pow_zero]
    omega
  | n + 1, cs, h => by
    rw [full_succ]
    have key : ∀ (l : List (T n)), (∀ c ∈ l, Small n c) → (List.flatMap (fun c => head dig n c ++ 1 :: full dig n c) l).length ≤ (53 + 300 * 5 ^ n) * l.length := by
      intro l
      induction l with
      | nil => intro _; simp
      | cons c l ih =>
        intro hl
        rw [List.flatMap_cons, List.length_append, List.length_append, List.length_cons, List.length_cons, head_len hd]
        have h1 := full_len hd n c (hl c (by simp))
        have h2 := ih (fun d hd => hl d (by simp [hd]))
        rw [Nat.mul_succ]; omega
    have h1 := key cs h.2
    have h2 : (53 + 300 * 5 ^ n) * List.length cs ≤ (53 + 300 * 5 ^ n) * 4 := Nat.mul_le_mul_left _ h.1
    have h3 : 1 ≤ 5 ^ n := Nat.one_le_pow _ _ (by decide)
    simp only [List.length_cons]
    rw [Nat.pow_succ]
    omega
theorem fullText_len (hd : ∀ l, (dig l).length = 32) {L : List Pt} (h : ∀ p ∈ L, p.Ok) (hl : L.length ≤ 256) : (fullText dig L).length ≤ 37500 := by
  refine Nat.le_trans (full_len hd _ _ (tree_small h).1) ?_
  exact Nat.le_trans (Nat.mul_le_mul_left _ (Nat.pow_le_pow_right (by decide) (tree_depth hl))) (by decide)
end
end Ward
end Go.Proofs.YtenaelkbgkpllaaGreatDoor
/- Nodes with what is said of them. -/
namespace Go.Proofs.YtenaelkbgkpllaaGreatDoor
namespace Ward
/-- a node: points, children, and what is said of it: box, number, digest -/
structure Nd (α : Type) where
  pts : List Pt
  kids : List α
  box : Box
  n : Int
  dig : List UInt8
/-- nodes that are at most so deep -/
@[reducible] def NT : Nat → Type
  | 0 => Empty
  | n + 1 => Nd (NT n)
def boxN : (n : Nat) → NT n → Box
  | 0, t => nomatch t
  | _ + 1, t => Nd.box t
def numN : (n : Nat) → NT n → Int
  | 0, t => nomatch t
  | _ + 1, t => Nd.n t
def digN : (n : Nat) → NT n → List UInt8
  | 0, t => nomatch t
  | _ + 1, t => Nd.dig t
/-- what a node says of a child -/
def saidN (n : Nat) (t : NT n) : List UInt8 := boxText (boxN n t) ++ fourI (numN n t) ++ digN n t
/-- the text of a node of these children -/
def textK (n : Nat) (K : List (NT n)) : List UInt8 := 2 :: UInt8.ofNat K.length :: K.flatMap (saidN n)
/-- a map's tree as nodes -/
def mk (dig : List UInt8 → List UInt8) : (n : Nat) → T n → NT (n + 1)
  | 0, l => ⟨l, [], box 0 l, (List.length (l : List Pt) : Nat), dig (text dig 0 l)⟩
  | n + 1, cs => ⟨[], List.map (mk dig n) (cs : List (T n)), box (n + 1) cs, (count (n + 1) cs : Nat), dig (text dig (n + 1) cs)⟩
theorem mk_box (dig : List UInt8 → List UInt8) : ∀ (n : Nat) (t : T n), boxN (n + 1) (mk dig n t) = box n t
  | 0, _ => rfl
  | _ + 1, _ => rfl
theorem mk_num (dig : List UInt8 → List UInt8) : ∀ (n : Nat) (t : T n), numN (n + 1) (mk dig n t) = (count n t : Nat)
  | 0, _ => rfl
  | _ + 1, _ => rfl
theorem mk_dig (dig : List UInt8 → List UInt8) : ∀ (n : Nat) (t : T n), digN (n + 1) (mk dig n t) = dig (text dig n t)
  | 0, _ => rfl
  | _ + 1, _ => rfl
theorem mk_said (dig : List UInt8 → List UInt8) (n : Nat) (t : T n) : saidN (n + 1) (mk dig n t) = head dig n t := by
  rw [saidN, mk_box, mk_num, mk_dig, head, headText]
theorem mk_text (dig : List UInt8 → List UInt8) (n : Nat) (cs : List (T n)) : textK (n + 1) (cs.map (mk dig n)) = text dig (n + 1) cs := by
  rw [text_succ, textK, List.length_map, List.flatMap_map]
  congr 2
  rw [List.flatMap_def, List.flatMap_def]
  congr 1
  exact List.map_congr_left fun c _ => mk_said dig n c
end Ward
end Go.Proofs.YtenaelkbgkpllaaGreatDoor
/- Proofs and windows over nodes; a map's tree has no empty node. -/
namespace Go.Proofs.YtenaelkbgkpllaaGreatDoor
namespace Ward
/-- no node without children -/
def NE : (n : Nat) → T n → Prop
  | 0, _ => True
  | n + 1, cs => (cs : List (T n)) ≠ [] ∧ Each (NE n) (cs : List (T n))
theorem tree_ne (l : List Pt) : NE (tree l).1 (tree l).2 :=
  (climb_all (P := NE) (fun _ ls hs g hg => ⟨(fours_small ls g hg).2, fun c hc => hs c (fours_mem hg c hc)⟩) (l.length + 2) 0 (leaves l) (leaves_ne l) (leaves_lt l) (fun _ _ => trivial)).1
/-- two boxes have a place in common -/
def meets (p q : Box) : Bool := decide (p.a ≤ q.c) && decide (q.a ≤ p.c) && decide (p.b ≤ q.d) && decide (q.b ≤ p.d)
/-- the proof of what is below a node -/
def proofN (must : Box → Bool) : (n : Nat) → NT n → List UInt8
  | 0, t => nomatch t
  | n + 1, t => if (Nd.kids t).length = 0 then leafText (Nd.pts t) else 2 :: UInt8.ofNat (Nd.kids t).length :: (Nd.kids t).flatMap fun c => saidN n c ++ (if must (boxN n c) then 1 :: proofN must n c else [0])
/-- the points below a node that lie in a box -/
def withinN (b : Box) : (n : Nat) → NT n → List Pt
  | 0, t => nomatch t
  | n + 1, t => (Nd.pts t).filter (fun p => meets b (boxOf p)) ++ (Nd.kids t).flatMap fun c => if meets b (boxN n c) then withinN b n c else []
theorem flatMap_congr {α β : Type} {f g : α → List β} : ∀ {l : List α}, (∀ x ∈ l, f x = g x) → l.flatMap f = l.flatMap g
  | [], _ => rfl
  | x :: l, h => by rw [List.flatMap_cons, List.flatMap_cons, h x (by simp), flatMap_congr fun y hy => h y (by simp [hy])]
theorem mk_proof (dig : List UInt8 → List UInt8) (must : Box → Bool) : ∀ (n : Nat) (t : T n), NE n t → proofN must (n + 1) (mk dig n t) = proof dig must n t
  | 0, _, _ => rfl
  | n + 1, cs, h => by
    have hne : (cs.map (mk dig n)).length ≠ 0 := by
      rw [List.length_map]
      exact fun e => h.1 (List.length_eq_zero_iff.1 e)
    show (if (cs.map (mk dig n)).length = 0 then _ else 2 :: UInt8.ofNat (cs.map (mk dig n)).length :: (cs.map (mk dig n)).flatMap fun c => saidN (n + 1) c ++ (if must (boxN (n + 1) c) then 1 :: proofN must (n + 1) c else [0])) = 2 :: UInt8.ofNat (List.length cs) :: List.flatMap (fun c => head dig n c ++ (if must (box n c) then 1 :: proof dig must n c else [0])) cs
    rw [if_neg hne, List.length_map, List.flatMap_map]
    congr 2
    refine flatMap_congr fun c hc => ?_
    rw [mk_said, mk_box, mk_proof dig must n c (h.2 c hc)]
/-- bounds on what is said of a node and those below it -/
def OkN : (n : Nat) → NT n → Prop
  | 0, t => nomatch t
  | n + 1, t => (Nd.box t).In ∧ 0 ≤ Nd.n t ∧ Nd.n t ≤ 1000000 ∧ (Nd.pts t).length ≤ 4 ∧ (Nd.kids t).length ≤ 4 ∧ Each Pt.Ok (Nd.pts t) ∧ Each (OkN n) (Nd.kids t)
end Ward
end Go.Proofs.YtenaelkbgkpllaaGreatDoor
/- Queries, distances, the answers to them, what must be shown. -/
namespace Go.Proofs.YtenaelkbgkpllaaGreatDoor
namespace Ward
/-- a query -/
structure Qr where
  kind : Int
  a : Int
  b : Int
  c : Int
  d : Int
  x : Int
  y : Int
  k : Int
def coordOk (n : Int) : Bool := decide (-1000000 ≤ n ∧ n ≤ 1000000)
theorem coord_yes {n : Int} (h : -1000000 ≤ n ∧ n ≤ 1000000) : coordOk n = true := decide_eq_true h
theorem coord_no {n : Int} (h : ¬ (-1000000 ≤ n ∧ n ≤ 1000000)) : coordOk n = false := decide_eq_false h
def boxMay (b : Box) : Bool := coordOk b.a && coordOk b.b && coordOk b.c && coordOk b.d && decide (b.a ≤ b.c) && decide (b.b ≤ b.d)
def window (q : Qr) : Box := ⟨q.a, q.b, q.c, q.d⟩
def mayBe (q : Qr) : Bool := if q.kind = 0 then boxMay (window q) else if q.kind = 1 then coordOk q.x && coordOk q.y && decide (1 ≤ q.k) && decide (q.k ≤ 20) else false
/-- how far a box is from a place -/
def gap (lo hi x : Int) : Int := max (max (lo - x) 0) (x - hi)
def dist (b : Box) (x y : Int) : Int := gap b.a b.c x * gap b.a b.c x + gap b.b b.d y * gap b.b b.d y
def distP (p : Pt) (x y : Int) : Int := dist (boxOf p) x y
theorem gap_nonneg (lo hi x : Int) : 0 ≤ gap lo hi x := by unfold gap; omega
theorem dist_nonneg (b : Box) (x y : Int) : 0 ≤ dist b x y := by
  unfold dist
  have h1 := Int.mul_nonneg (gap_nonneg b.a b.c x) (gap_nonneg b.a b.c x)
  have h2 := Int.mul_nonneg (gap_nonneg b.b b.d y) (gap_nonneg b.b b.d y)
  omega
theorem gap_mono {lo hi lo' hi' x : Int} (h1 : lo ≤ lo') (h2 : hi' ≤ hi) : gap lo hi x ≤ gap lo' hi' x := by unfold gap; omega
/-- a box holds another -/
def Box.has (b c : Box) : Prop := b.a ≤ c.a ∧ b.b ≤ c.b ∧ c.c ≤ b.c ∧ c.d ≤ b.d
theorem dist_mono {b c : Box} (h : b.has c) (x y : Int) : dist b x y ≤ dist c x y := by
  obtain ⟨h1, h2, h3, h4⟩ := h
  unfold dist
  have g1 := gap_mono (x := x) h1 h3
  have g2 := gap_mono (x := y) h2 h4
  have e1 := Int.mul_le_mul g1 g1 (gap_nonneg _ _ _) (gap_nonneg _ _ _)
  have e2 := Int.mul_le_mul g2 g2 (gap_nonneg _ _ _) (gap_nonneg _ _ _)
  omega
/-- which of two points is nearer, by id where none is -/
def nr (x y : Int) (p q : Pt) : Prop := distP p x y < distP q x y ∨ (distP p x y = distP q x y ∧ p.id < q.id)
instance (x y : Int) (p q : Pt) : Decidable (nr x y p q) := by unfold nr; infer_instance
theorem nr_irrefl (x y : Int) (p : Pt) : ¬ nr x y p p := by unfold nr; omega
theorem nr_trans {x y : Int} {p q r : Pt} (h : nr x y p q) (k : nr x y q r) : nr x y p r := by unfold nr at *; omega
theorem nr_total {x y : Int} {p q : Pt} (hn : p.id ≠ q.id) (h : ¬ nr x y p q) : nr x y q p := by unfold nr at *; omega
section
variable (r : Pt → Pt → Prop) [∀ p q, Decidable (r p q)]
/-- a point put in at its place, by whatever order -/
def insR (p : Pt) (l : List Pt) : List Pt := l.takeWhile (fun q => decide (r q p)) ++ p :: l.dropWhile (fun q => decide (r q p))
def sortR (l : List Pt) : List Pt := l.foldr (insR r) []
theorem insR_perm (p : Pt) (l : List Pt) : (insR r p l).Perm (p :: l) := by
  unfold insR
  have := List.perm_middle (a := p) (l₁ := l.takeWhile (fun q => decide (r q p))) (l₂ := l.dropWhile (fun q => decide (r q p)))
  rw [List.takeWhile_append_dropWhile] at this
  exact this
theorem sortR_perm : ∀ (l : List Pt), (sortR r l).Perm l
  | [] => List.Perm.refl _
  | p :: l => (insR_perm r p (sortR r l)).trans ((sortR_perm l).cons p)
end
section
variable {r : Pt → Pt → Prop} [∀ p q, Decidable (r p q)]
theorem takeWhile_r {p : Pt} : ∀ {l : List Pt}, ∀ q ∈ l.takeWhile (fun q => decide (r q p)), r q p
  | q :: l, s, hs => by
    by_cases h : r q p
    · simp [List.takeWhile, h] at hs
      rcases hs with rfl | hs
      · exact h
      · exact takeWhile_r s hs
    · simp [List.takeWhile, h] at hs
theorem dropWhile_r {p : Pt} (ht : ∀ a b c : Pt, r a b → r b c → r a c) : ∀ {l : List Pt}, l.Pairwise r → ∀ q ∈ l.dropWhile (fun q => decide (r q p)), ¬ r q p
  | q :: l, hs, s, hr => by
    obtain ⟨h1, h2⟩ := List.pairwise_cons.1 hs
    by_cases h : r q p
    · simp [List.dropWhile, h] at hr
      exact dropWhile_r ht h2 s hr
    · simp [List.dropWhile, h] at hr
      rcases hr with rfl | hr
      · exact h
      · exact fun k => h (ht _ _ _ (h1 s hr) k)
theorem insR_sorted (ht : ∀ a b c : Pt, r a b → r b c → r a c) (hto : ∀ a b : Pt, a.id ≠ b.id → ¬ r a b → r b a) {p : Pt} {l : List Pt} (h : l.Pairwise r) (hn : ∀ q ∈ l, q.id ≠ p.id) : (insR r p l).Pairwise r := by
  unfold insR
  refine List.pairwise_append.2 ⟨h.sublist (List.takeWhile_sublist _), List.pairwise_cons.2 ⟨fun q hq => ?_, h.sublist (List.dropWhile_sublist _)⟩, fun q hq s hs => ?_⟩
  · exact hto _ _ (hn q ((List.dropWhile_sublist _).subset hq)) (dropWhile_r ht h q hq)
  · rcases List.mem_cons.1 hs with rfl | hs
    · exact takeWhile_r q hq
    · have hall : (l.takeWhile (fun q => decide (r q p)) ++ l.dropWhile (fun q => decide (r q p))).Pairwise r := by rw [List.takeWhile_append_dropWhile]; exact h
      exact (List.pairwise_append.1 hall).2.2 q hq s hs
theorem sortR_sorted (ht : ∀ a b c : Pt, r a b → r b c → r a c) (hto : ∀ a b : Pt, a.id ≠ b.id → ¬ r a b → r b a) : ∀ {l : List Pt}, Ids l → (sortR r l).Pairwise r
  | [], _ => List.Pairwise.nil
  | p :: l, h => by
    obtain ⟨h1, h2⟩ := List.pairwise_cons.1 h
    exact insR_sorted ht hto (sortR_sorted ht hto h2) fun q hq => (h1 q ((sortR_perm r l).mem_iff.1 hq)).symm
end
theorem eq_of_sorted {r : Pt → Pt → Prop} (hi : ∀ a, ¬ r a a) (ht : ∀ a b c : Pt, r a b → r b c → r a c) {l m : List Pt} (hl : l.Pairwise r) (hm : m.Pairwise r) (h : l.Perm m) : l = m :=
  h.eq_of_pairwise (fun a _ _ _ hab hba => absurd (ht _ _ _ hab hba) (hi a)) hl hm
theorem lt_tot {p q : Pt} (hn : p.id ≠ q.id) (h : ¬ lt p q) : lt q p := by unfold lt at *; omega
/-- in order -/
def sortP (l : List Pt) : List Pt := sortR lt l
/-- the nearest first -/
def sortN (x y : Int) (l : List Pt) : List Pt := sortR (nr x y) l
theorem sortP_perm (l : List Pt) : (sortP l).Perm l := sortR_perm _ l
theorem sortN_perm (x y : Int) (l : List Pt) : (sortN x y l).Perm l := sortR_perm _ l
theorem sortP_sorted {l : List Pt} (h : Ids l) : Sorted (sortP l) := sortR_sorted (r := lt) (fun _ _ _ => lt_trans) (fun _ _ => lt_tot) h
theorem sortN_sorted {x y : Int} {l : List Pt} (h : Ids l) : (sortN x y l).Pairwise (nr x y) := sortR_sorted (r := nr x y) (fun _ _ _ => nr_trans) (fun _ _ => nr_total) h
theorem sortP_eq {l m : List Pt} (hm : Sorted m) (h : m.Perm l) (hi : Ids l) : sortP l = m := sorted_eq (sortP_sorted hi) hm ((sortP_perm l).trans h.symm)
theorem sortN_eq {x y : Int} {l m : List Pt} (hm : m.Pairwise (nr x y)) (h : m.Perm l) (hi : Ids l) : sortN x y l = m := eq_of_sorted (r := nr x y) (nr_irrefl x y) (fun _ _ _ => nr_trans) (sortN_sorted hi) hm ((sortN_perm x y l).trans h.symm)
theorem sortN_congr {x y : Int} {l m : List Pt} (h : m.Perm l) (hi : Ids l) : sortN x y m = sortN x y l := (sortN_eq (x := x) (y := y) (sortN_sorted ((ids_perm h).2 hi)) ((sortN_perm x y m).trans h) hi).symm
theorem sortP_congr {l m : List Pt} (h : m.Perm l) (hi : Ids l) : sortP m = sortP l := (sortP_eq (sortP_sorted ((ids_perm h).2 hi)) ((sortP_perm m).trans h) hi).symm
/-- the nearest of all comes first -/
theorem sortN_head {x y : Int} {p : Pt} {l m : List Pt} (h : l.Perm (p :: m)) (hi : Ids l) (hp : ∀ q ∈ m, nr x y p q) : sortN x y l = p :: sortN x y m := by
  have hi' : Ids (p :: m) := (ids_perm h).1 hi
  refine sortN_eq (List.pairwise_cons.2 ⟨fun q hq => hp q ((sortN_perm x y m).mem_iff.1 hq), sortN_sorted (List.pairwise_cons.1 hi').2⟩) ?_ hi
  exact ((sortN_perm x y m).cons p).trans h.symm
/-- is a point in a box -/
def inB (b : Box) (p : Pt) : Bool := meets b (boxOf p)
/-- the answer of these points -/
def ans (q : Qr) (P : List Pt) : List Pt := if q.kind = 1 then (sortN q.x q.y P).take q.k.toNat else sortP (P.filter (inB (window q)))
theorem ids_sub {l m : List Pt} (h : m.Sublist l) (hl : Ids l) : Ids m := hl.sublist h
theorem ans_congr {q : Qr} {l m : List Pt} (h : m.Perm l) (hi : Ids l) : ans q m = ans q l := by
  unfold ans
  split
  · rw [sortN_congr h hi]
  · exact sortP_congr (h.filter _) (ids_sub List.filter_sublist hi)
/-- a child of that box must be shown -/
def must (q : Qr) (a : List Pt) (b : Box) : Bool :=
  if q.kind = 0 then meets (window q) b else if (a.length : Int) < q.k then true else decide (dist b q.x q.y ≤ match a.getLast? with | some p => distP p q.x q.y | none => 0)
/-- all points below a node -/
def allN : (n : Nat) → NT n → List Pt
  | 0, t => nomatch t
  | n + 1, t => Nd.pts t ++ (Nd.kids t).flatMap (allN n)
/-- what is said of the boxes holds all that is below -/
def Encl : (n : Nat) → NT n → Prop
  | 0, t => nomatch t
  | n + 1, t => (∀ p ∈ Nd.pts t, (Nd.box t).has (boxOf p)) ∧ ∀ c ∈ Nd.kids t, (∀ p ∈ allN n c, (boxN n c).has (boxOf p)) ∧ Encl n c
end Ward
end Go.Proofs.YtenaelkbgkpllaaGreatDoor
/- What a digest is, as plain functions on numbers and lists (no word of the program stands here). -/
namespace Go.Proofs.YtenaelkbgkpllaaGreatDoor
namespace Sha
def ror (n x : Nat) : Nat := (x * 2 ^ (32 - n) % 4294967296) ||| (x / 2 ^ n)
def ss0 (x : Nat) : Nat := (ror 7 x ^^^ ror 18 x) ^^^ (x / 8)
def ss1 (x : Nat) : Nat := (ror 17 x ^^^ ror 19 x) ^^^ (x / 1024)
def bs0 (x : Nat) : Nat := (ror 2 x ^^^ ror 13 x) ^^^ ror 22 x
def bs1 (x : Nat) : Nat := (ror 6 x ^^^ ror 11 x) ^^^ ror 25 x
def ch (x y z : Nat) : Nat := (x &&& y) ^^^ ((4294967295 ^^^ x) &&& z)
def maj (x y z : Nat) : Nat := ((x &&& y) ^^^ (x &&& z)) ^^^ (y &&& z)
structure St where
  a : Nat
  b : Nat
  c : Nat
  d : Nat
  e : Nat
  f : Nat
  g : Nat
  h : Nat
def Ok (s : St) : Prop := s.a < 4294967296 ∧ s.b < 4294967296 ∧ s.c < 4294967296 ∧ s.d < 4294967296 ∧ s.e < 4294967296 ∧ s.f < 4294967296 ∧ s.g < 4294967296 ∧ s.h < 4294967296
def t1 (k w : Nat) (s : St) : Nat := ((((s.h + bs1 s.e) % 4294967296 + ch s.e s.f s.g) % 4294967296 + k) % 4294967296 + w) % 4294967296
def t2 (s : St) : Nat := (bs0 s.a + maj s.a s.b s.c) % 4294967296
def round (k w : Nat) (s : St) : St := ⟨(t1 k w s + t2 s) % 4294967296, s.a, s.b, s.c, (s.d + t1 k w s) % 4294967296, s.e, s.f, s.g⟩
def Ks : List Nat := [1116352408, 1899447441, 3049323471, 3921009573, 961987163, 1508970993, 2453635748, 2870763221, 3624381080, 310598401, 607225278, 1426881987, 1925078388, 2162078206, 2614888103, 3248222580, 3835390401, 4022224774, 264347078, 604807628, 770255983, 1249150122, 1555081692, 1996064986, 2554220882, 2821834349, 2952996808, 3210313671, 3336571891, 3584528711, 113926993, 338241895, 666307205, 773529912, 1294757372, 1396182291, 1695183700, 1986661051, 2177026350, 2456956037, 2730485921, 2820302411, 3259730800, 3345764771, 3516065817, 3600352804, 4094571909, 275423344, 430227734, 506948616, 659060556, 883997877, 958139571, 1322822218, 1537002063, 1747873779, 1955562222, 2024104815, 2227730452, 2361852424, 2428436474, 2756734187, 3204031479, 3329325298]
def rounds (ws : List Nat) : Nat → St → St
  | 0, s => s
  | n + 1, s => round (Ks.getD n 0) (ws.getD n 0) (rounds ws n s)
def byteAt (l : List UInt8) (i : Nat) : Nat := (l.getD i 0).toNat
def word (l : List UInt8) (i : Nat) : Nat := ((byteAt l i * 16777216 ||| byteAt l (i + 1) * 65536) ||| byteAt l (i + 2) * 256) ||| byteAt l (i + 3)
/-- the first n numbers of a block's own -/
def first (l : List UInt8) : Nat → List Nat
  | 0 => []
  | n + 1 => first l n ++ [word l (4 * n)]
def nextW (l : List Nat) (n : Nat) : Nat := (((ss1 (l.getD (n + 14) 0) + l.getD (n + 9) 0) % 4294967296 + ss0 (l.getD (n + 1) 0)) % 4294967296 + l.getD n 0) % 4294967296
/-- the 16 numbers of a block, and n more -/
def spreadTo (l : List UInt8) : Nat → List Nat
  | 0 => first l 16
  | n + 1 => spreadTo l n ++ [nextW (spreadTo l n) n]
def add (s t : St) : St := ⟨(s.a + t.a) % 4294967296, (s.b + t.b) % 4294967296, (s.c + t.c) % 4294967296, (s.d + t.d) % 4294967296, (s.e + t.e) % 4294967296, (s.f + t.f) % 4294967296, (s.g + t.g) % 4294967296, (s.h + t.h) % 4294967296⟩
def stir (s : St) (l : List UInt8) : St := add s (rounds (spreadTo l 48) 64 s)
/-- the first n blocks of a text stirred in -/
def stirN (l : List UInt8) : Nat → St → St
  | 0, s => s
  | n + 1, s => stir (stirN l n s) ((l.drop (64 * n)).take 64)
def four (n : Nat) : List UInt8 := [UInt8.ofNat (n / 16777216), UInt8.ofNat (n / 65536), UInt8.ofNat (n / 256), UInt8.ofNat n]
def padding (n : Nat) : List UInt8 := (128 :: List.replicate ((119 - n % 64) % 64) 0) ++ (four (8 * n / 4294967296 % 4294967296) ++ four (8 * n % 4294967296))
def start : St := ⟨1779033703, 3144134277, 1013904242, 2773480762, 1359893119, 2600822924, 528734635, 1541459225⟩
def whole (n : Nat) : Nat := n - n % 64
def last (l : List UInt8) : List UInt8 := l.drop (whole l.length) ++ padding l.length
def state (l : List UInt8) : St := stirN (last l) ((last l).length / 64) (stirN (l.take (whole l.length)) (l.length / 64) start)
def join (s : St) : List UInt8 := four s.a ++ four s.b ++ four s.c ++ four s.d ++ four s.e ++ four s.f ++ four s.g ++ four s.h
def sha (l : List UInt8) : List UInt8 := join (state l)

theorem or_lt {x y : Nat} (hx : x < 4294967296) (hy : y < 4294967296) : x ||| y < 4294967296 := Nat.or_lt_two_pow (n := 32) hx hy
theorem xor_lt {x y : Nat} (hx : x < 4294967296) (hy : y < 4294967296) : x ^^^ y < 4294967296 := Nat.xor_lt_two_pow (n := 32) hx hy
theorem and_lt {x y : Nat} (hy : y < 4294967296) : x &&& y < 4294967296 := Nat.and_lt_two_pow (n := 32) x hy
theorem div_lt {x n : Nat} (hx : x < 4294967296) : x / n < 4294967296 := Nat.lt_of_le_of_lt (Nat.div_le_self _ _) hx
theorem ror_lt {n x : Nat} (hx : x < 4294967296) : ror n x < 4294967296 := or_lt (Nat.mod_lt _ (by decide)) (div_lt hx)
theorem ss0_lt {x : Nat} (hx : x < 4294967296) : ss0 x < 4294967296 := xor_lt (xor_lt (ror_lt hx) (ror_lt hx)) (div_lt hx)
theorem ss1_lt {x : Nat} (hx : x < 4294967296) : ss1 x < 4294967296 := xor_lt (xor_lt (ror_lt hx) (ror_lt hx)) (div_lt hx)
theorem bs0_lt {x : Nat} (hx : x < 4294967296) : bs0 x < 4294967296 := xor_lt (xor_lt (ror_lt hx) (ror_lt hx)) (ror_lt hx)
theorem bs1_lt {x : Nat} (hx : x < 4294967296) : bs1 x < 4294967296 := xor_lt (xor_lt (ror_lt hx) (ror_lt hx)) (ror_lt hx)
theorem ch_lt {x y z : Nat} (hy : y < 4294967296) (hz : z < 4294967296) : ch x y z < 4294967296 := xor_lt (and_lt hy) (and_lt hz)
theorem maj_lt {x y z : Nat} (hy : y < 4294967296) (hz : z < 4294967296) : maj x y z < 4294967296 := xor_lt (xor_lt (and_lt hy) (and_lt hz)) (and_lt hz)
theorem t1_lt {k w : Nat} {s : St} : t1 k w s < 4294967296 := Nat.mod_lt _ (by decide)
theorem t2_lt {s : St} : t2 s < 4294967296 := Nat.mod_lt _ (by decide)
theorem round_ok {k w : Nat} {s : St} (h : Ok s) : Ok (round k w s) :=
  ⟨Nat.mod_lt _ (by decide), h.1, h.2.1, h.2.2.1, Nat.mod_lt _ (by decide), h.2.2.2.2.1, h.2.2.2.2.2.1, h.2.2.2.2.2.2.1⟩
theorem rounds_ok {ws : List Nat} : ∀ (n : Nat) {s : St}, Ok s → Ok (rounds ws n s)
  | 0, _, h => h
  | n + 1, _, h => round_ok (rounds_ok n h)
theorem add_ok {s t : St} : Ok (add s t) := ⟨Nat.mod_lt _ (by decide), Nat.mod_lt _ (by decide), Nat.mod_lt _ (by decide), Nat.mod_lt _ (by decide), Nat.mod_lt _ (by decide), Nat.mod_lt _ (by decide), Nat.mod_lt _ (by decide), Nat.mod_lt _ (by decide)⟩
theorem stir_ok {s : St} {l : List UInt8} : Ok (stir s l) := add_ok
theorem start_ok : Ok start := by unfold Ok start; decide
theorem stirN_ok {l : List UInt8} : ∀ (n : Nat) {s : St}, Ok s → Ok (stirN l n s)
  | 0, _, h => h
  | _ + 1, _, _ => stir_ok
theorem byteAt_lt (l : List UInt8) (i : Nat) : byteAt l i < 256 := (l.getD i 0).toNat_lt
theorem up24 {x : Nat} (h : x < 256) : x * 16777216 < 4294967296 := by omega
theorem up16 {x : Nat} (h : x < 256) : x * 65536 < 4294967296 := by omega
theorem up8 {x : Nat} (h : x < 256) : x * 256 < 4294967296 := by omega
theorem cast_mul (a b : Nat) : (a : Int) * (b : Int) = ((a * b : Nat) : Int) := by simp
theorem word_lt (l : List UInt8) (i : Nat) : word l i < 4294967296 := by
  have h0 := byteAt_lt l i
  have h1 := byteAt_lt l (i + 1)
  have h2 := byteAt_lt l (i + 2)
  have h3 := byteAt_lt l (i + 3)
  exact or_lt (or_lt (or_lt (by omega) (by omega)) (by omega)) (by omega)
theorem first_length (l : List UInt8) : ∀ n, (first l n).length = n
  | 0 => rfl
  | n + 1 => by simp [first, first_length l n]
theorem first_lt (l : List UInt8) : ∀ n, ∀ x ∈ first l n, x < 4294967296
  | 0, x, h => by simp [first] at h
  | n + 1, x, h => by
    simp only [first, List.mem_append, List.mem_singleton] at h
    rcases h with h | rfl
    · exact first_lt l n x h
    · exact word_lt l _
theorem spreadTo_length (l : List UInt8) : ∀ n, (spreadTo l n).length = 16 + n
  | 0 => first_length l 16
  | n + 1 => by simp [spreadTo, spreadTo_length l n]; omega
theorem spreadTo_lt (l : List UInt8) : ∀ n, ∀ x ∈ spreadTo l n, x < 4294967296
  | 0, x, h => first_lt l 16 x h
  | n + 1, x, h => by
    simp only [spreadTo, List.mem_append, List.mem_singleton] at h
    rcases h with h | rfl
    · exact spreadTo_lt l n x h
    · exact Nat.mod_lt _ (by decide)
theorem getD_lt {l : List Nat} (h : ∀ x ∈ l, x < 4294967296) (i : Nat) : l.getD i 0 < 4294967296 := by
  by_cases hi : i < l.length
  · simp only [List.getD_eq_getElem?_getD, List.getElem?_eq_getElem hi, Option.getD_some]; exact h _ (List.getElem_mem hi)
  · simp only [List.getD_eq_getElem?_getD, List.getElem?_eq_none (Nat.le_of_not_lt hi), Option.getD_none]; decide
theorem Ks_lt : ∀ x ∈ Ks, x < 4294967296 := by decide
end Sha
end Go.Proofs.YtenaelkbgkpllaaGreatDoor
