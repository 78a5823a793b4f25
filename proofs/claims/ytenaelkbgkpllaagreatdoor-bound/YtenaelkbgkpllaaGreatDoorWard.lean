/- The points, the tree and its texts as plain functions, and what follows of them (no word of the program stands here). -/
namespace Go.Proofs.YtenaelkbgkpllaaGreatDoor
namespace Ward
structure Pt where
  id : Int
  x : Int
  y : Int
structure Box where
  a : Int
  b : Int
  c : Int
  d : Int
def lt (p q : Pt) : Prop := p.x < q.x ∨ (p.x = q.x ∧ (p.y < q.y ∨ (p.y = q.y ∧ p.id < q.id)))
instance (p q : Pt) : Decidable (lt p q) := by unfold lt; infer_instance
theorem lt_irrefl (p : Pt) : ¬ lt p p := by unfold lt; omega
theorem lt_trans {p q r : Pt} (h : lt p q) (k : lt q r) : lt p r := by unfold lt at *; omega
theorem lt_total (p q : Pt) (h : ¬ lt p q) (k : ¬ lt q p) : p = q := by
  obtain ⟨a, b, c⟩ := p
  obtain ⟨a', b', c'⟩ := q
  unfold lt at *
  simp only at *
  have : a = a' ∧ b = b' ∧ c = c' := by omega
  obtain ⟨rfl, rfl, rfl⟩ := this
  rfl
def Sorted (l : List Pt) : Prop := l.Pairwise lt
/-- the point put in at its place -/
def ins (p : Pt) (l : List Pt) : List Pt := l.takeWhile (fun q => decide (lt q p)) ++ p :: l.dropWhile (fun q => decide (lt q p))
/-- a place that parts a list -/
structure Parts (p : Pt) (l : List Pt) (k : Nat) : Prop where
  le : k ≤ l.length
  low : ∀ i, (h : i < l.length) → i < k → lt l[i] p
  high : ∀ i, (h : i < l.length) → k ≤ i → ¬ lt l[i] p
theorem Parts.cut {p : Pt} : ∀ {l : List Pt} {k : Nat}, Parts p l k → l.takeWhile (fun q => decide (lt q p)) = l.take k ∧ l.dropWhile (fun q => decide (lt q p)) = l.drop k
  | [], k, h => by simp
  | q :: l, 0, h => by
    have := h.high 0 (by simp) (by omega)
    simp only [List.getElem_cons_zero] at this
    simp [List.takeWhile, List.dropWhile, this]
  | q :: l, k + 1, h => by
    have hq := h.low 0 (by simp) (by omega)
    simp only [List.getElem_cons_zero] at hq
    have ih : Parts p l k := ⟨by have := h.le; simp at this; omega, fun i hi hk => by have := h.low (i + 1) (by simp; omega) (by omega); simpa using this, fun i hi hk => by have := h.high (i + 1) (by simp; omega) (by omega); simpa using this⟩
    have := ih.cut
    simp [List.takeWhile, List.dropWhile, hq, this]
theorem Parts.ins {p : Pt} {l : List Pt} {k : Nat} (h : Parts p l k) : ins p l = l.take k ++ p :: l.drop k := by
  rw [Ward.ins, h.cut.1, h.cut.2]
theorem ins_perm (p : Pt) (l : List Pt) : (ins p l).Perm (p :: l) := by
  unfold ins
  have := List.perm_middle (a := p) (l₁ := l.takeWhile (fun q => decide (lt q p))) (l₂ := l.dropWhile (fun q => decide (lt q p)))
  rw [List.takeWhile_append_dropWhile] at this
  exact this
theorem ins_length (p : Pt) (l : List Pt) : (ins p l).length = l.length + 1 := (ins_perm p l).length_eq
theorem takeWhile_lt {p : Pt} : ∀ {l : List Pt}, ∀ q ∈ l.takeWhile (fun q => decide (lt q p)), lt q p
  | q :: l, r, hr => by
    by_cases h : lt q p
    · simp [List.takeWhile, h] at hr
      rcases hr with rfl | hr
      · exact h
      · exact takeWhile_lt r hr
    · simp [List.takeWhile, h] at hr
theorem dropWhile_ge {p : Pt} : ∀ {l : List Pt}, Sorted l → ∀ q ∈ l.dropWhile (fun q => decide (lt q p)), ¬ lt q p
  | q :: l, hs, r, hr => by
    obtain ⟨h1, h2⟩ := List.pairwise_cons.1 hs
    by_cases h : lt q p
    · simp [List.dropWhile, h] at hr
      exact dropWhile_ge h2 r hr
    · simp [List.dropWhile, h] at hr
      rcases hr with rfl | hr
      · exact h
      · exact fun k => h (lt_trans (h1 r hr) k)
/-- ids are all different -/
def Ids (l : List Pt) : Prop := l.Pairwise fun p q => p.id ≠ q.id
theorem ins_sorted {p : Pt} {l : List Pt} (h : Sorted l) (hn : ∀ q ∈ l, q.id ≠ p.id) : Sorted (ins p l) := by
  unfold ins Sorted
  refine List.pairwise_append.2 ⟨h.sublist (List.takeWhile_sublist _), List.pairwise_cons.2 ⟨fun q hq => ?_, h.sublist (List.dropWhile_sublist _)⟩, fun q hq r hr => ?_⟩
  · have h1 := dropWhile_ge h q hq
    rcases Decidable.em (lt p q) with h2 | h2
    · exact h2
    · exact absurd (congrArg Pt.id (lt_total q p h1 h2)) (hn q ((List.dropWhile_sublist _).subset hq))
  · rcases List.mem_cons.1 hr with rfl | hr
    · exact takeWhile_lt q hq
    · have hall : Sorted (l.takeWhile (fun q => decide (lt q p)) ++ l.dropWhile (fun q => decide (lt q p))) := by rw [List.takeWhile_append_dropWhile]; exact h
      exact (List.pairwise_append.1 hall).2.2 q hq r hr
theorem ids_perm {l m : List Pt} (h : l.Perm m) : Ids l ↔ Ids m := h.pairwise_iff (fun k => Ne.symm k)
theorem ins_ids {p : Pt} {l : List Pt} (h : Ids l) (hn : ∀ q ∈ l, q.id ≠ p.id) : Ids (ins p l) :=
  (ids_perm (ins_perm p l)).2 (List.pairwise_cons.2 ⟨fun q hq => (hn q hq).symm, h⟩)
theorem sorted_eq {l m : List Pt} (hl : Sorted l) (hm : Sorted m) (h : l.Perm m) : l = m :=
  h.eq_of_pairwise (fun a _ _ _ hab hba => absurd (lt_trans hab hba) (lt_irrefl a)) hl hm
end Ward
namespace Ward
/-- groups of four -/
def fours {α : Type} (l : List α) : List (List α) := (List.range ((l.length + 3) / 4)).map fun i => (l.drop (4 * i)).take 4
theorem fours_length {α : Type} (l : List α) : (fours l).length = (l.length + 3) / 4 := by simp [fours]
theorem fours_get {α : Type} (l : List α) (i : Nat) (h : i < (fours l).length) : (fours l)[i] = (l.drop (4 * i)).take 4 := by simp [fours]
theorem range_flat {α : Type} (l : List α) : ∀ n, ((List.range n).map fun i => (l.drop (4 * i)).take 4).flatten = l.take (4 * n)
  | 0 => by simp
  | n + 1 => by
    rw [List.range_succ, List.map_append, List.flatten_append, range_flat l n]
    simp only [List.map_cons, List.map_nil, List.flatten_cons, List.flatten_nil, List.append_nil]
    rw [show 4 * (n + 1) = 4 * n + 4 by omega, List.take_add]
theorem fours_flat {α : Type} (l : List α) : (fours l).flatten = l := by
  rw [fours, range_flat, List.take_of_length_le (by omega)]
theorem fours_small {α : Type} (l : List α) : ∀ g ∈ fours l, g.length ≤ 4 ∧ g ≠ [] := by
  intro g hg
  simp only [fours, List.mem_map, List.mem_range] at hg
  obtain ⟨i, hi, rfl⟩ := hg
  refine ⟨by simp; omega, fun h => ?_⟩
  have := congrArg List.length h
  simp at this
  omega
/-- trees all of whose leaves lie equally deep -/
@[reducible] def T : Nat → Type
  | 0 => List Pt
  | n + 1 => List (T n)
def pts : (n : Nat) → T n → List Pt
  | 0, l => (l : List Pt)
  | n + 1, cs => List.flatMap (pts n) (cs : List (T n))
def join (p q : Box) : Box := ⟨min p.a q.a, min p.b q.b, max p.c q.c, max p.d q.d⟩
def boxOf (p : Pt) : Box := ⟨p.x, p.y, p.x, p.y⟩
def boxL (l : List Box) : Box := l.foldl join (l.headD ⟨0, 0, 0, 0⟩)
def box : (n : Nat) → T n → Box
  | 0, l => boxL (List.map boxOf (l : List Pt))
  | n + 1, cs => boxL (List.map (box n) (cs : List (T n)))
def count : (n : Nat) → T n → Nat
  | 0, l => List.length (l : List Pt)
  | n + 1, cs => (List.map (count n) (cs : List (T n))).sum
def kids : (n : Nat) → T n → Nat
  | 0, l => List.length (l : List Pt)
  | n + 1, cs => List.length (cs : List (T n))
/-- a number as four bytes -/
def four (n : Nat) : List UInt8 := [UInt8.ofNat (n / 16777216), UInt8.ofNat (n / 65536), UInt8.ofNat (n / 256), UInt8.ofNat n]
def fourI (n : Int) : List UInt8 := four (n % 4294967296).toNat
theorem four_len (n : Nat) : (four n).length = 4 := rfl
theorem fourI_len (n : Int) : (fourI n).length = 4 := rfl
theorem u8_eq {a b : Nat} (h : UInt8.ofNat a = UInt8.ofNat b) : a % 256 = b % 256 := by
  have := congrArg UInt8.toNat h
  simpa using this
theorem four_inj {a b : Nat} (ha : a < 4294967296) (hb : b < 4294967296) (h : four a = four b) : a = b := by
  unfold four at h
  simp only [List.cons.injEq, and_true] at h
  have h1 := u8_eq h.1
  have h2 := u8_eq h.2.1
  have h3 := u8_eq h.2.2.1
  have h4 := u8_eq h.2.2.2
  omega
theorem fourI_inj {a b : Int} (ha : -1000000 ≤ a) (ha' : a ≤ 1000000) (hb : -1000000 ≤ b) (hb' : b ≤ 1000000) (h : fourI a = fourI b) : a = b := by
  have := four_inj (by omega) (by omega) h
  omega
def ptText (p : Pt) : List UInt8 := fourI p.id ++ fourI p.x ++ fourI p.y
def boxText (b : Box) : List UInt8 := fourI b.a ++ fourI b.b ++ fourI b.c ++ fourI b.d
theorem ptText_len (p : Pt) : (ptText p).length = 12 := rfl
theorem boxText_len (b : Box) : (boxText b).length = 16 := rfl
structure Pt.Ok (p : Pt) : Prop where
  id1 : 1 ≤ p.id
  id2 : p.id ≤ 1000000
  x1 : -1000000 ≤ p.x
  x2 : p.x ≤ 1000000
  y1 : -1000000 ≤ p.y
  y2 : p.y ≤ 1000000
theorem ptText_inj {p q : Pt} (hp : p.Ok) (hq : q.Ok) (h : ptText p = ptText q) : p = q := by
  unfold ptText at h
  obtain ⟨h12, h3⟩ := List.append_inj h rfl
  obtain ⟨h1, h2⟩ := List.append_inj h12 rfl
  have e1 := fourI_inj (by have := hp.id1; omega) hp.id2 (by have := hq.id1; omega) hq.id2 h1
  have e2 := fourI_inj hp.x1 hp.x2 hq.x1 hq.x2 h2
  have e3 := fourI_inj hp.y1 hp.y2 hq.y1 hq.y2 h3
  obtain ⟨a, b, c⟩ := p
  obtain ⟨a', b', c'⟩ := q
  simp only at e1 e2 e3
  subst e1 e2 e3
  rfl
section
variable (dig : List UInt8 → List UInt8)
def leafText (l : List Pt) : List UInt8 := 1 :: UInt8.ofNat l.length :: l.flatMap ptText
/-- what a node says of a child -/
def headText (b : Box) (n : Nat) (d : List UInt8) : List UInt8 := boxText b ++ fourI n ++ d
def text : (n : Nat) → T n → List UInt8
  | 0, l => leafText l
  | n + 1, cs => 2 :: UInt8.ofNat (List.length (cs : List (T n))) :: List.flatMap (fun c => headText (box n c) (count n c) (dig (text n c))) (cs : List (T n))
def head (n : Nat) (c : T n) : List UInt8 := headText (box n c) (count n c) (dig (text dig n c))
def proof (must : Box → Bool) : (n : Nat) → T n → List UInt8
  | 0, l => leafText l
  | n + 1, cs => 2 :: UInt8.ofNat (List.length (cs : List (T n))) :: List.flatMap (fun c => head dig n c ++ (if must (box n c) then 1 :: proof must n c else [0])) (cs : List (T n))
/-- all is shown -/
def full (n : Nat) (t : T n) : List UInt8 := proof dig (fun _ => true) n t
theorem full_succ (n : Nat) (cs : T (n + 1)) : full dig (n + 1) cs = 2 :: UInt8.ofNat (List.length (cs : List (T n))) :: List.flatMap (fun c => head dig n c ++ 1 :: full dig n c) (cs : List (T n)) := by
  simp [full, proof]
theorem text_succ (n : Nat) (cs : T (n + 1)) : text dig (n + 1) cs = 2 :: UInt8.ofNat (List.length (cs : List (T n))) :: List.flatMap (head dig n) (cs : List (T n)) := rfl
/-- the texts of a tree's parts, the root's last -/
def texts : (n : Nat) → T n → List (List UInt8)
  | 0, l => [leafText l]
  | n + 1, cs => List.flatMap (texts n) (cs : List (T n)) ++ [text dig (n + 1) cs]
theorem text_mem : ∀ (n : Nat) (t : T n), text dig n t ∈ texts dig n t
  | 0, _ => by simp [texts, text]
  | n + 1, _ => by simp [texts]
end
def Each {α : Type} (P : α → Prop) (l : List α) : Prop := ∀ x ∈ l, P x
def Small : (n : Nat) → T n → Prop
  | 0, l => List.length (l : List Pt) ≤ 4 ∧ Each Pt.Ok (l : List Pt)
  | n + 1, cs => List.length (cs : List (T n)) ≤ 4 ∧ Each (Small n) (cs : List (T n))
theorem ofNat_small {a b : Nat} (ha : a ≤ 4) (hb : b ≤ 4) (h : UInt8.ofNat a = UInt8.ofNat b) : a = b := by
  have := u8_eq h; omega
theorem leaf_inj {r s : List UInt8} : ∀ {l m : List Pt}, l.length = m.length → (∀ p ∈ l, p.Ok) → (∀ p ∈ m, p.Ok) → l.flatMap ptText ++ r = m.flatMap ptText ++ s → l = m ∧ r = s
  | [], [], _, _, _, h => by simpa using h
  | p :: l, q :: m, hlen, hl, hm, h => by
    simp only [List.flatMap_cons, List.append_assoc] at h
    obtain ⟨h1, h2⟩ := List.append_inj h rfl
    have e := ptText_inj (hl p (by simp)) (hm q (by simp)) h1
    have ih := leaf_inj (by simpa using hlen) (fun p hp => hl p (by simp [hp])) (fun p hp => hm p (by simp [hp])) h2
    exact ⟨by rw [e, ih.1], ih.2⟩
theorem leafText_inj {l m : List Pt} {r s : List UInt8} (hl : l.length ≤ 4) (hm : m.length ≤ 4) (hlo : ∀ p ∈ l, p.Ok) (hmo : ∀ p ∈ m, p.Ok) (h : leafText l ++ r = leafText m ++ s) : l = m ∧ r = s := by
  unfold leafText at h
  simp only [List.cons_append, List.cons.injEq, true_and] at h
  exact leaf_inj (ofNat_small hl hm h.1) hlo hmo h.2
section
variable {dig : List UInt8 → List UInt8} (hd : ∀ l, (dig l).length = 32)
include hd
theorem head_len (n : Nat) (c : T n) : (head dig n c).length = 52 := by
  simp [head, headText, boxText_len, fourI_len, hd]
/-- the points can be read off the whole text -/
theorem full_inj : ∀ (n m : Nat) (s : T n) (t : T m) (r q : List UInt8), Small n s → Small m t → full dig n s ++ r = full dig m t ++ q → pts n s = pts m t ∧ r = q
  | 0, 0, s, t, r, q, hs, ht, h => leafText_inj hs.1 ht.1 hs.2 ht.2 h
  | 0, m + 1, s, t, r, q, hs, ht, h => by
    rw [full_succ] at h
    simp [full, proof, leafText] at h
  | n + 1, 0, s, t, r, q, hs, ht, h => by
    rw [full_succ] at h
    simp [full, proof, leafText] at h
  | n + 1, m + 1, s, t, r, q, hs, ht, h => by
    rw [full_succ, full_succ] at h
    simp only [List.cons_append, List.cons.injEq, true_and] at h
    have hlen := ofNat_small hs.1 ht.1 h.1
    have key : ∀ (l : List (T n)) (k : List (T m)), l.length = k.length → (∀ c ∈ l, Small n c) → (∀ c ∈ k, Small m c) → List.flatMap (fun c => head dig n c ++ 1 :: full dig n c) l ++ r = List.flatMap (fun c => head dig m c ++ 1 :: full dig m c) k ++ q → List.flatMap (pts n) l = List.flatMap (pts m) k ∧ r = q := by
      intro l
      induction l with
      | nil => intro k hk _ _ h; cases k with | nil => exact ⟨rfl, by simpa using h⟩ | cons _ _ => simp at hk
      | cons c l ih =>
        intro k hk hl hk' h
        cases k with
        | nil => simp at hk
        | cons e k =>
          simp only [List.flatMap_cons, List.append_assoc, List.cons_append] at h
          obtain ⟨-, h2⟩ := List.append_inj h (by rw [head_len hd, head_len hd])
          simp only [List.cons.injEq, true_and] at h2
          obtain ⟨e1, e2⟩ := full_inj n m c e _ _ (hl c (by simp)) (hk' e (by simp)) h2
          obtain ⟨e3, e4⟩ := ih k (by simpa using hk) (fun c hc => hl c (by simp [hc])) (fun c hc => hk' c (by simp [hc])) e2
          exact ⟨by simp only [List.flatMap_cons, e1, e3], e4⟩
    exact key s t hlen hs.2 ht.2 h.2
/-- of two trees with one digest and two whole texts, two parts have one digest and two texts -/
theorem found : ∀ (n m : Nat) (s : T n) (t : T m), Small n s → Small m t → dig (text dig n s) = dig (text dig m t) → full dig n s ≠ full dig m t → ∃ a ∈ texts dig n s, ∃ b ∈ texts dig m t, a ≠ b ∧ dig a = dig b := by
  intro n
  induction n with
  | zero =>
    intro m s t hs ht hdig hne
    by_cases e : text dig 0 s = text dig m t
    · cases m with
      | zero => exact absurd e hne
      | succ m => rw [text_succ] at e; simp [text, leafText] at e
    · exact ⟨_, text_mem dig 0 s, _, text_mem dig m t, e, hdig⟩
  | succ n ih =>
    intro m s t hs ht hdig hne
    by_cases e : text dig (n + 1) s = text dig m t
    · cases m with
      | zero => rw [text_succ] at e; simp [text, leafText] at e
      | succ m =>
        rw [text_succ, text_succ] at e
        simp only [List.cons.injEq, true_and] at e
        have hlen := ofNat_small hs.1 ht.1 e.1
        rw [full_succ, full_succ, hlen] at hne
        have key : ∀ (l : List (T n)) (k : List (T m)), l.length = k.length → (∀ c ∈ l, Small n c) → (∀ c ∈ k, Small m c) → List.flatMap (head dig n) l = List.flatMap (head dig m) k → List.flatMap (fun c => head dig n c ++ 1 :: full dig n c) l ≠ List.flatMap (fun c => head dig m c ++ 1 :: full dig m c) k → ∃ a ∈ List.flatMap (texts dig n) l, ∃ b ∈ List.flatMap (texts dig m) k, a ≠ b ∧ dig a = dig b := by
          intro l
          induction l with
          | nil => intro k hk _ _ _ h; cases k with | nil => exact absurd rfl h | cons _ _ => simp at hk
          | cons c l ihl =>
            intro k hk hl hk' h hn
            cases k with
            | nil => simp at hk
            | cons e k =>
              simp only [List.flatMap_cons] at h hn ⊢
              obtain ⟨h1, h2⟩ := List.append_inj h (by rw [head_len hd, head_len hd])
              by_cases ef : full dig n c = full dig m e
              · obtain ⟨a, ha, b, hb, r⟩ := ihl k (by simpa using hk) (fun c hc => hl c (by simp [hc])) (fun c hc => hk' c (by simp [hc])) h2 (fun h => hn (by rw [h1, ef, h]))
                exact ⟨a, List.mem_append_right _ ha, b, List.mem_append_right _ hb, r⟩
              · have hdd : dig (text dig n c) = dig (text dig m e) := by
                  unfold head headText at h1
                  exact (List.append_inj h1 (by simp [boxText_len, fourI_len])).2
                obtain ⟨a, ha, b, hb, r⟩ := ih m c e (hl c (by simp)) (hk' e (by simp)) hdd ef
                exact ⟨a, List.mem_append_left _ ha, b, List.mem_append_left _ hb, r⟩
        obtain ⟨a, ha, b, hb, r⟩ := key s t hlen hs.2 ht.2 e.2 (fun h => hne (by rw [h]))
        refine ⟨a, ?_, b, ?_, r⟩
        · simp only [texts]; exact List.mem_append_left _ ha
        · simp only [texts]; exact List.mem_append_left _ hb
    · exact ⟨_, text_mem dig (n + 1) s, _, text_mem dig m t, e, hdig⟩
end
end Ward
namespace Ward
/-- from a level up to the root -/
def climb : Nat → (n : Nat) → List (T n) → (m : Nat) × T m
  | 0, _, _ => ⟨0, ([] : List Pt)⟩
  | k + 1, n, ls => match ls with
    | [t] => ⟨n, t⟩
    | _ => climb k (n + 1) (fours ls)
theorem climb_one (k n : Nat) (t : T n) : climb (k + 1) n [t] = ⟨n, t⟩ := rfl
theorem climb_more (k n : Nat) (ls : List (T n)) (h : ls.length ≠ 1) : climb (k + 1) n ls = climb k (n + 1) (fours ls) := by
  rw [climb]
  intro t e
  subst e
  simp at h
def leaves (l : List Pt) : List (T 0) := if l.length = 0 then [([] : List Pt)] else fours l
def tree (l : List Pt) : (m : Nat) × T m := climb (l.length + 2) 0 (leaves l)
def ptsL (n : Nat) (ls : List (T n)) : List Pt := ls.flatMap (pts n)
theorem ptsL_fours (n : Nat) (ls : List (T n)) : ptsL (n + 1) (fours ls) = ptsL n ls := by
  show List.flatMap (fun g : List (T n) => List.flatMap (pts n) g) (fours ls) = List.flatMap (pts n) ls
  have h := congrArg (List.flatMap (pts n)) (fours_flat ls)
  rw [← h]
  generalize fours ls = gs
  induction gs with
  | nil => rfl
  | cons g gs ih => rw [List.flatMap_cons, List.flatten_cons, List.flatMap_append, ih]
theorem climb_all {P : (n : Nat) → T n → Prop} (hP : ∀ n (ls : List (T n)), (∀ t ∈ ls, P n t) → ∀ g ∈ fours ls, P (n + 1) g) :
    ∀ (k n : Nat) (ls : List (T n)), ls ≠ [] → ls.length < k → (∀ t ∈ ls, P n t) → P (climb k n ls).1 (climb k n ls).2 ∧ pts (climb k n ls).1 (climb k n ls).2 = ptsL n ls
  | 0, _, _, _, h, _ => absurd h (by omega)
  | k + 1, n, ls, h0, hk, h => by
    by_cases h1 : ls.length = 1
    · obtain ⟨t, rfl⟩ := List.length_eq_one_iff.1 h1
      rw [climb_one]
      exact ⟨h t (by simp), by simp [ptsL]⟩
    · have hl : ls.length ≠ 0 := fun e => h0 (List.length_eq_zero_iff.1 e)
      rw [climb_more _ _ _ h1]
      have := climb_all hP k (n + 1) (fours ls) (fun e => by have := congrArg List.length e; rw [fours_length] at this; simp at this; omega) (by rw [fours_length]; omega) (hP n ls h)
      rw [ptsL_fours] at this
      exact this
theorem leaves_ne (l : List Pt) : leaves l ≠ [] := by
  unfold leaves
  split
  · simp
  · intro e; have := congrArg List.length e; rw [fours_length] at this; simp at this; omega
theorem leaves_lt (l : List Pt) : (leaves l).length < l.length + 2 := by
  unfold leaves
  split
  · simp
  · rw [fours_length]; omega
theorem leaves_pts (l : List Pt) : ptsL 0 (leaves l) = l := by
  unfold leaves ptsL
  split
  · rename_i h
    rw [List.length_eq_zero_iff.1 h]
    rfl
  · have h := fours_flat l
    rw [List.flatten_eq_flatMap] at h
    exact h
theorem leaves_small {l : List Pt} (h : ∀ p ∈ l, p.Ok) : ∀ t ∈ leaves l, Small 0 t := by
  unfold leaves
  split
  · intro t ht
    rw [List.mem_singleton] at ht
    subst ht
    exact ⟨by simp, fun p hp => by simp at hp⟩
  · intro t ht
    refine ⟨(fours_small l t ht).1, fun p hp => h p ?_⟩
    rw [← fours_flat l]
    exact List.mem_flatten.2 ⟨t, ht, hp⟩
theorem fours_mem {α : Type} {l : List α} {g : List α} (hg : g ∈ fours l) : ∀ c ∈ g, c ∈ l := fun c hc => by
  rw [← fours_flat l]; exact List.mem_flatten.2 ⟨g, hg, hc⟩
theorem tree_small {l : List Pt} (h : ∀ p ∈ l, p.Ok) : Small (tree l).1 (tree l).2 ∧ pts (tree l).1 (tree l).2 = l := by
  have := climb_all (P := Small) (fun n ls hs g hg => ⟨(fours_small ls g hg).1, fun c hc => hs c (fours_mem hg c hc)⟩) (l.length + 2) 0 (leaves l) (leaves_ne l) (leaves_lt l) (leaves_small h)
  rw [leaves_pts] at this
  exact this
theorem climb_depth : ∀ (d k n : Nat) (ls : List (T n)), ls ≠ [] → ls.length < k → ls.length ≤ 4 ^ d → (climb k n ls).1 ≤ n + d
  | _, 0, _, _, _, h, _ => absurd h (by omega)
  | 0, k + 1, n, ls, h0, hk, h => by
    have h1 : ls.length = 1 := by
      have : ls.length ≠ 0 := fun e => h0 (List.length_eq_zero_iff.1 e)
      simp at h; omega
    obtain ⟨t, rfl⟩ := List.length_eq_one_iff.1 h1
    rw [climb_one]; simp
  | d + 1, k + 1, n, ls, h0, hk, h => by
    by_cases h1 : ls.length = 1
    · obtain ⟨t, rfl⟩ := List.length_eq_one_iff.1 h1
      rw [climb_one]; simp
    · have hl : ls.length ≠ 0 := fun e => h0 (List.length_eq_zero_iff.1 e)
      rw [climb_more _ _ _ h1]
      have := climb_depth d k (n + 1) (fours ls) (fun e => by have := congrArg List.length e; rw [fours_length] at this; simp at this; omega) (by rw [fours_length]; omega) (by rw [fours_length]; rw [Nat.pow_succ] at h; omega)
      omega
theorem tree_depth {l : List Pt} (h : l.length ≤ 256) : (tree l).1 ≤ 3 := by
  have := climb_depth 3 (l.length + 2) 0 (leaves l) (leaves_ne l) (leaves_lt l) (by unfold leaves; split; (· simp); (· rw [fours_length]; omega))
  exact Nat.le_trans this (by omega)
theorem count_pts : ∀ (n : Nat) (t : T n), count n t = (pts n t).length
  | 0, _ => rfl
  | n + 1, cs => by
    show (List.map (count n) cs).sum = (List.flatMap (pts n) cs).length
    rw [List.length_flatMap]
    congr 1
    exact List.map_congr_left fun c _ => count_pts n c
structure Box.In (b : Box) : Prop where
  a1 : -1000000 ≤ b.a
  a2 : b.a ≤ 1000000
  b1 : -1000000 ≤ b.b
  b2 : b.b ≤ 1000000
  c1 : -1000000 ≤ b.c
  c2 : b.c ≤ 1000000
  d1 : -1000000 ≤ b.d
  d2 : b.d ≤ 1000000
theorem join_in {p q : Box} (hp : p.In) (hq : q.In) : (join p q).In := by
  obtain ⟨_, _, _, _, _, _, _, _⟩ := hp
  obtain ⟨_, _, _, _, _, _, _, _⟩ := hq
  constructor <;> simp only [join] <;> omega
theorem zero_in : (⟨0, 0, 0, 0⟩ : Box).In := by constructor <;> simp
theorem fold_in : ∀ {l : List Box} {b : Box}, b.In → (∀ c ∈ l, c.In) → (l.foldl join b).In
  | [], _, hb, _ => hb
  | c :: l, _, hb, h => fold_in (l := l) (join_in hb (h c (by simp))) fun d hd => h d (by simp [hd])
theorem boxL_in {l : List Box} (h : ∀ c ∈ l, c.In) : (boxL l).In := by
  refine fold_in ?_ h
  cases l with
  | nil => exact zero_in
  | cons c l => exact h c (by simp)
theorem box_in : ∀ (n : Nat) (t : T n), Small n t → (box n t).In
  | 0, l, h => boxL_in fun c hc => by
    obtain ⟨p, hp, rfl⟩ := List.mem_map.1 hc
    have := h.2 p hp
    obtain ⟨_, _, _, _, _, _⟩ := this
    constructor <;> simp only [boxOf] <;> omega
  | n + 1, cs, h => boxL_in fun c hc => by
    obtain ⟨t, ht, rfl⟩ := List.mem_map.1 hc
    exact box_in n t (h.2 t ht)
theorem proof_full {dig : List UInt8 → List UInt8} {must : Box → Bool} (hm : ∀ b, b.In → must b = true) : ∀ (n : Nat) (t : T n), Small n t → proof dig must n t = full dig n t
  | 0, _, _ => rfl
  | n + 1, cs, h => by
    rw [full_succ]
    show 2 :: UInt8.ofNat (List.length cs) :: List.flatMap (fun c => head dig n c ++ (if must (box n c) then 1 :: proof dig must n c else [0])) cs = _
    congr 2
    rw [List.flatMap_def, List.flatMap_def]
    congr 1
    refine List.map_congr_left fun c hc => ?_
    have hc' := h.2 c hc
    rw [if_pos (hm _ (box_in n c hc')), proof_full hm n c hc']
end Ward
namespace Ward
/-- what a text shows, so deep: a leaf's bytes, or of each child 52 bytes and, where it is shown, what is shown of it; else a byte -/
inductive Sh (α : Type) : Type
  | leaf (b : List UInt8)
  | node (cs : List (List UInt8 × (UInt8 ⊕ α)))
@[reducible] def PT : Nat → Type
  | 0 => Empty
  | n + 1 => Sh (PT n)
/-- a leaf of so many points' bytes; a node of heads -/
def WF : (n : Nat) → PT n → Prop
  | 0, t => nomatch t
  | _ + 1, .leaf b => ∃ k, k ≤ 4 ∧ b.length = 12 * k
  | n + 1, .node cs => cs.length ≤ 4 ∧ Each (fun c : List UInt8 × (UInt8 ⊕ PT n) => c.1.length = 52 ∧ match c.2 with | .inl f => f ≠ 1 | .inr t => WF n t) cs
/-- its own text -/
def own : (n : Nat) → PT n → List UInt8
  | 0, t => nomatch t
  | _ + 1, .leaf b => 1 :: UInt8.ofNat (b.length / 12) :: b
  | _ + 1, .node cs => 2 :: UInt8.ofNat cs.length :: cs.flatMap (fun c => c.1)
/-- all of it -/
def shows : (n : Nat) → PT n → List UInt8
  | 0, t => nomatch t
  | _ + 1, .leaf b => 1 :: UInt8.ofNat (b.length / 12) :: b
  | n + 1, .node cs => 2 :: UInt8.ofNat cs.length :: cs.flatMap (fun c : List UInt8 × (UInt8 ⊕ PT n) => c.1 ++ match c.2 with | .inl f => [f] | .inr t => 1 :: shows n t)
/-- the texts of all that is shown -/
def alls : (n : Nat) → PT n → List (List UInt8)
  | 0, t => nomatch t
  | _ + 1, .leaf b => [1 :: UInt8.ofNat (b.length / 12) :: b]
  | n + 1, .node cs => cs.flatMap (fun c : List UInt8 × (UInt8 ⊕ PT n) => match c.2 with | .inl _ => [] | .inr t => alls n t) ++ [2 :: UInt8.ofNat cs.length :: cs.flatMap (fun c => c.1)]
/-- a map's tree, all shown -/
def emb (dig : List UInt8 → List UInt8) : (n : Nat) → T n → PT (n + 1)
  | 0, l => .leaf (List.flatMap ptText (l : List Pt))
  | n + 1, cs => .node (List.map (fun c => (head dig n c, .inr (emb dig n c))) (cs : List (T n)))
theorem pts_len (l : List Pt) : (l.flatMap ptText).length = 12 * l.length := by
  induction l with
  | nil => rfl
  | cons p l ih => rw [List.flatMap_cons, List.length_append, ih, ptText_len, List.length_cons]; omega
theorem emb_leaf (l : List Pt) : (1 :: UInt8.ofNat ((l.flatMap ptText).length / 12) :: l.flatMap ptText) = leafText l := by
  rw [pts_len, Nat.mul_div_cancel_left _ (by decide)]; rfl
section
variable {dig : List UInt8 → List UInt8} (hd : ∀ l, (dig l).length = 32)
include hd
theorem emb_wf : ∀ (n : Nat) (t : T n), Small n t → WF (n + 1) (emb dig n t)
  | 0, l, h => ⟨List.length (l : List Pt), h.1, pts_len l⟩
  | n + 1, cs, h => by
    refine ⟨by show (List.map _ cs).length ≤ 4; rw [List.length_map]; exact h.1, fun c hc => ?_⟩
    obtain ⟨t, ht, rfl⟩ := List.mem_map.1 hc
    exact ⟨head_len hd n t, emb_wf n t (h.2 t ht)⟩
end
theorem emb_own (dig : List UInt8 → List UInt8) : ∀ (n : Nat) (t : T n), own (n + 1) (emb dig n t) = text dig n t
  | 0, l => emb_leaf l
  | n + 1, cs => by
    show 2 :: UInt8.ofNat (List.map _ cs).length :: List.flatMap _ (List.map _ cs) = _
    rw [text_succ, List.length_map, List.flatMap_map]
theorem emb_shows (dig : List UInt8 → List UInt8) : ∀ (n : Nat) (t : T n), shows (n + 1) (emb dig n t) = full dig n t
  | 0, l => emb_leaf l
  | n + 1, cs => by
    show 2 :: UInt8.ofNat (List.map _ cs).length :: List.flatMap _ (List.map _ cs) = _
    rw [full_succ, List.length_map, List.flatMap_map]
    congr 2
    rw [List.flatMap_def, List.flatMap_def]
    congr 1
    exact List.map_congr_left fun c _ => by simp only [emb_shows dig n c]
theorem emb_alls (dig : List UInt8 → List UInt8) : ∀ (n : Nat) (t : T n), alls (n + 1) (emb dig n t) = texts dig n t
  | 0, l => by show [_] = [_]; rw [emb_leaf l]
  | n + 1, cs => by
    show List.flatMap _ (List.map _ cs) ++ [2 :: UInt8.ofNat (List.map _ cs).length :: List.flatMap _ (List.map _ cs)] = _
    rw [List.length_map, List.flatMap_map, List.flatMap_map]
    show _ = List.flatMap (texts dig n) cs ++ [text dig (n + 1) cs]
    congr 1
    rw [List.flatMap_def, List.flatMap_def]
    congr 1
    exact List.map_congr_left fun c _ => emb_alls dig n c
end Ward
end Go.Proofs.YtenaelkbgkpllaaGreatDoor
