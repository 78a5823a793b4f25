/- The points, the tree and its texts as plain functions, and what follows of them (no word of the program stands here). -/
import Derived.Test.YtenaelkbgkpllaaGreatDoorRows
import Derived.WalkKit
import Derived.WalkSpells
import Derived.WalkLawsBesides
import Derived.BigQuiet
import Derived.Deep.RegionHeld3
import Derived.Shelf.Spec.SlicesInsert
import Derived.Lib.AppendZerosOnto
namespace Go.Proofs.YtenaelkbgkpllaaGreatDoor
namespace Ward
structure Pt where
  id : Int
  x : Int
  y : Int
structure Box where
  a : Int
  b : Int
  c : Int
  d : Int
def lt (p q : Pt) : Prop := p.x < q.x ∨ (p.x = q.x ∧ (p.y < q.y ∨ (p.y = q.y ∧ p.id < q.id)))
instance (p q : Pt) : Decidable (lt p q) := by unfold lt; infer_instance
theorem lt_irrefl (p : Pt) : ¬ lt p p := by unfold lt; omega
theorem lt_trans {p q r : Pt} (h : lt p q) (k : lt q r) : lt p r := by unfold lt at *; omega
theorem lt_total (p q : Pt) (h : ¬ lt p q) (k : ¬ lt q p) : p = q := by
  obtain ⟨a, b, c⟩ := p
  obtain ⟨a', b', c'⟩ := q
  unfold lt at *
  simp only at *
  have : a = a' ∧ b = b' ∧ c = c' := by omega
  obtain ⟨rfl, rfl, rfl⟩ := this
  rfl
def Sorted (l : List Pt) : Prop := l.Pairwise lt
/-- the point put in at its place -/
def ins (p : Pt) (l : List Pt) : List Pt := l.takeWhile (fun q => decide (lt q p)) ++ p :: l.dropWhile (fun q => decide (lt q p))
/-- a place that parts a list -/
structure Parts (p : Pt) (l : List Pt) (k : Nat) : Prop where
  le : k ≤ l.length
  low : ∀ i, (h : i < l.length) → i < k → lt l[i] p
  high : ∀ i, (h : i < l.length) → k ≤ i → ¬ lt l[i] p
theorem Parts.cut {p : Pt} : ∀ {l : List Pt} {k : Nat}, Parts p l k → l.takeWhile (fun q => decide (lt q p)) = l.take k ∧ l.dropWhile (fun q => decide (lt q p)) = l.drop k
  | [], k, h => by simp
  | q :: l, 0, h => by
    have := h.high 0 (by simp) (by omega)
    simp only [List.getElem_cons_zero] at this
    simp [List.takeWhile, List.dropWhile, this]
  | q :: l, k + 1, h => by
    have hq := h.low 0 (by simp) (by omega)
    simp only [List.getElem_cons_zero] at hq
    have ih : Parts p l k := ⟨by have := h.le; simp at this; omega, fun i hi hk => by have := h.low (i + 1) (by simp; omega) (by omega); simpa using this, fun i hi hk => by have := h.high (i + 1) (by simp; omega) (by omega); simpa using this⟩
    have := ih.cut
    simp [List.takeWhile, List.dropWhile, hq, this]
theorem Parts.ins {p : Pt} {l : List Pt} {k : Nat} (h : Parts p l k) : ins p l = l.take k ++ p :: l.drop k := by
  rw [Ward.ins, h.cut.1, h.cut.2]
theorem ins_perm (p : Pt) (l : List Pt) : (ins p l).Perm (p :: l) := by
  unfold ins
  have := List.perm_middle (a := p) (l₁ := l.takeWhile (fun q => decide (lt q p))) (l₂ := l.dropWhile (fun q => decide (lt q p)))
  rw [List.takeWhile_append_dropWhile] at this
  exact this
theorem ins_length (p : Pt) (l : List Pt) : (ins p l).length = l.length + 1 := (ins_perm p l).length_eq
theorem takeWhile_lt {p : Pt} : ∀ {l : List Pt}, ∀ q ∈ l.takeWhile (fun q => decide (lt q p)), lt q p
  | q :: l, r, hr => by
    by_cases h : lt q p
    · simp [List.takeWhile, h] at hr
      rcases hr with rfl | hr
      · exact h
      · exact takeWhile_lt r hr
    · simp [List.takeWhile, h] at hr
theorem dropWhile_ge {p : Pt} : ∀ {l : List Pt}, Sorted l → ∀ q ∈ l.dropWhile (fun q => decide (lt q p)), ¬ lt q p
  | q :: l, hs, r, hr => by
    obtain ⟨h1, h2⟩ := List.pairwise_cons.1 hs
    by_cases h : lt q p
    · simp [List.dropWhile, h] at hr
      exact dropWhile_ge h2 r hr
    · simp [List.dropWhile, h] at hr
      rcases hr with rfl | hr
      · exact h
      · exact fun k => h (lt_trans (h1 r hr) k)
/-- ids are all different -/
def Ids (l : List Pt) : Prop := l.Pairwise fun p q => p.id ≠ q.id
theorem ins_sorted {p : Pt} {l : List Pt} (h : Sorted l) (hn : ∀ q ∈ l, q.id ≠ p.id) : Sorted (ins p l) := by
  unfold ins Sorted
  refine List.pairwise_append.2 ⟨h.sublist (List.takeWhile_sublist _), List.pairwise_cons.2 ⟨fun q hq => ?_, h.sublist (List.dropWhile_sublist _)⟩, fun q hq r hr => ?_⟩
  · have h1 := dropWhile_ge h q hq
    rcases Decidable.em (lt p q) with h2 | h2
    · exact h2
    · exact absurd (congrArg Pt.id (lt_total q p h1 h2)) (hn q ((List.dropWhile_sublist _).subset hq))
  · rcases List.mem_cons.1 hr with rfl | hr
    · exact takeWhile_lt q hq
    · have hall : Sorted (l.takeWhile (fun q => decide (lt q p)) ++ l.dropWhile (fun q => decide (lt q p))) := by rw [List.takeWhile_append_dropWhile]; exact h
      exact (List.pairwise_append.1 hall).2.2 q hq r hr
theorem ids_perm {l m : List Pt} (h : l.Perm m) : Ids l ↔ Ids m := h.pairwise_iff (fun k => Ne.symm k)
theorem ins_ids {p : Pt} {l : List Pt} (h : Ids l) (hn : ∀ q ∈ l, q.id ≠ p.id) : Ids (ins p l) :=
  (ids_perm (ins_perm p l)).2 (List.pairwise_cons.2 ⟨fun q hq => (hn q hq).symm, h⟩)
theorem sorted_eq {l m : List Pt} (hl : Sorted l) (hm : Sorted m) (h : l.Perm m) : l = m :=
  h.eq_of_pairwise (fun a _ _ _ hab hba => absurd (lt_trans hab hba) (lt_irrefl a)) hl hm
end Ward
namespace Ward
/-- groups of four -/
def fours {α : Type} (l : List α) : List (List α) := (List.range ((l.length + 3) / 4)).map fun i => (l.drop (4 * i)).take 4
theorem fours_length {α : Type} (l : List α) : (fours l).length = (l.length + 3) / 4 := by simp [fours]
theorem fours_get {α : Type} (l : List α) (i : Nat) (h : i < (fours l).length) : (fours l)[i] = (l.drop (4 * i)).take 4 := by simp [fours]
theorem range_flat {α : Type} (l : List α) : ∀ n, ((List.range n).map fun i => (l.drop (4 * i)).take 4).flatten = l.take (4 * n)
  | 0 => by simp
  | n + 1 => by
    rw [List.range_succ, List.map_append, List.flatten_append, range_flat l n]
    simp only [List.map_cons, List.map_nil, List.flatten_cons, List.flatten_nil, List.append_nil]
    rw [show 4 * (n + 1) = 4 * n + 4 by omega, List.take_add]
theorem fours_flat {α : Type} (l : List α) : (fours l).flatten = l := by
  rw [fours, range_flat, List.take_of_length_le (by omega)]
theorem fours_small {α : Type} (l : List α) : ∀ g ∈ fours l, g.length ≤ 4 ∧ g ≠ [] := by
  intro g hg
  simp only [fours, List.mem_map, List.mem_range] at hg
  obtain ⟨i, hi, rfl⟩ := hg
  refine ⟨by simp; omega, fun h => ?_⟩
  have := congrArg List.length h
  simp at this
  omega
/-- trees all of whose leaves lie equally deep -/
@[reducible] def T : Nat → Type
  | 0 => List Pt
  | n + 1 => List (T n)
def pts : (n : Nat) → T n → List Pt
  | 0, l => (l : List Pt)
  | n + 1, cs => List.flatMap (pts n) (cs : List (T n))
def join (p q : Box) : Box := ⟨min p.a q.a, min p.b q.b, max p.c q.c, max p.d q.d⟩
def boxOf (p : Pt) : Box := ⟨p.x, p.y, p.x, p.y⟩
def boxL (l : List Box) : Box := l.foldl join (l.headD ⟨0, 0, 0, 0⟩)
def box : (n : Nat) → T n → Box
  | 0, l => boxL (List.map boxOf (l : List Pt))
  | n + 1, cs => boxL (List.map (box n) (cs : List (T n)))
def count : (n : Nat) → T n → Nat
  | 0, l => List.length (l : List Pt)
  | n + 1, cs => (List.map (count n) (cs : List (T n))).sum
def kids : (n : Nat) → T n → Nat
  | 0, l => List.length (l : List Pt)
  | n + 1, cs => List.length (cs : List (T n))
/-- a number as four bytes -/
def four (n : Nat) : List UInt8 := [UInt8.ofNat (n / 16777216), UInt8.ofNat (n / 65536), UInt8.ofNat (n / 256), UInt8.ofNat n]
def fourI (n : Int) : List UInt8 := four (n % 4294967296).toNat
theorem four_len (n : Nat) : (four n).length = 4 := rfl
theorem fourI_len (n : Int) : (fourI n).length = 4 := rfl
theorem u8_eq {a b : Nat} (h : UInt8.ofNat a = UInt8.ofNat b) : a % 256 = b % 256 := by
  have := congrArg UInt8.toNat h
  simpa using this
theorem four_inj {a b : Nat} (ha : a < 4294967296) (hb : b < 4294967296) (h : four a = four b) : a = b := by
  unfold four at h
  simp only [List.cons.injEq, and_true] at h
  have h1 := u8_eq h.1
  have h2 := u8_eq h.2.1
  have h3 := u8_eq h.2.2.1
  have h4 := u8_eq h.2.2.2
  omega
theorem fourI_inj {a b : Int} (ha : -1000000 ≤ a) (ha' : a ≤ 1000000) (hb : -1000000 ≤ b) (hb' : b ≤ 1000000) (h : fourI a = fourI b) : a = b := by
  have := four_inj (by omega) (by omega) h
  omega
def ptText (p : Pt) : List UInt8 := fourI p.id ++ fourI p.x ++ fourI p.y
def boxText (b : Box) : List UInt8 := fourI b.a ++ fourI b.b ++ fourI b.c ++ fourI b.d
theorem ptText_len (p : Pt) : (ptText p).length = 12 := rfl
theorem boxText_len (b : Box) : (boxText b).length = 16 := rfl
structure Pt.Ok (p : Pt) : Prop where
  id1 : 1 ≤ p.id
  id2 : p.id ≤ 1000000
  x1 : -1000000 ≤ p.x
  x2 : p.x ≤ 1000000
  y1 : -1000000 ≤ p.y
  y2 : p.y ≤ 1000000
theorem ptText_inj {p q : Pt} (hp : p.Ok) (hq : q.Ok) (h : ptText p = ptText q) : p = q := by
  unfold ptText at h
  obtain ⟨h12, h3⟩ := List.append_inj h rfl
  obtain ⟨h1, h2⟩ := List.append_inj h12 rfl
  have e1 := fourI_inj (by have := hp.id1; omega) hp.id2 (by have := hq.id1; omega) hq.id2 h1
  have e2 := fourI_inj hp.x1 hp.x2 hq.x1 hq.x2 h2
  have e3 := fourI_inj hp.y1 hp.y2 hq.y1 hq.y2 h3
  obtain ⟨a, b, c⟩ := p
  obtain ⟨a', b', c'⟩ := q
  simp only at e1 e2 e3
  subst e1 e2 e3
  rfl
section
variable (dig : List UInt8 → List UInt8)
def leafText (l : List Pt) : List UInt8 := 1 :: UInt8.ofNat l.length :: l.flatMap ptText
/-- what a node says of a child -/
def headText (b : Box) (n : Nat) (d : List UInt8) : List UInt8 := boxText b ++ fourI n ++ d
def text : (n : Nat) → T n → List UInt8
  | 0, l => leafText l
  | n + 1, cs => 2 :: UInt8.ofNat (List.length (cs : List (T n))) :: List.flatMap (fun c => headText (box n c) (count n c) (dig (text n c))) (cs : List (T n))
def head (n : Nat) (c : T n) : List UInt8 := headText (box n c) (count n c) (dig (text dig n c))
def proof (must : Box → Bool) : (n : Nat) → T n → List UInt8
  | 0, l => leafText l
  | n + 1, cs => 2 :: UInt8.ofNat (List.length (cs : List (T n))) :: List.flatMap (fun c => head dig n c ++ (if must (box n c) then 1 :: proof must n c else [0])) (cs : List (T n))
/-- all is shown -/
def full (n : Nat) (t : T n) : List UInt8 := proof dig (fun _ => true) n t
theorem full_succ (n : Nat) (cs : T (n + 1)) : full dig (n + 1) cs = 2 :: UInt8.ofNat (List.length (cs : List (T n))) :: List.flatMap (fun c => head dig n c ++ 1 :: full dig n c) (cs : List (T n)) := by
  simp [full, proof]
theorem text_succ (n : Nat) (cs : T (n + 1)) : text dig (n + 1) cs = 2 :: UInt8.ofNat (List.length (cs : List (T n))) :: List.flatMap (head dig n) (cs : List (T n)) := rfl
/-- the texts of a tree's parts, the root's last -/
def texts : (n : Nat) → T n → List (List UInt8)
  | 0, l => [leafText l]
  | n + 1, cs => List.flatMap (texts n) (cs : List (T n)) ++ [text dig (n + 1) cs]
theorem text_mem : ∀ (n : Nat) (t : T n), text dig n t ∈ texts dig n t
  | 0, _ => by simp [texts, text]
  | n + 1, _ => by simp [texts]
end
def Each {α : Type} (P : α → Prop) (l : List α) : Prop := ∀ x ∈ l, P x
def Small : (n : Nat) → T n → Prop
  | 0, l => List.length (l : List Pt) ≤ 4 ∧ Each Pt.Ok (l : List Pt)
  | n + 1, cs => List.length (cs : List (T n)) ≤ 4 ∧ Each (Small n) (cs : List (T n))
theorem ofNat_small {a b : Nat} (ha : a ≤ 4) (hb : b ≤ 4) (h : UInt8.ofNat a = UInt8.ofNat b) : a = b := by
  have := u8_eq h; omega
theorem leaf_inj {r s : List UInt8} : ∀ {l m : List Pt}, l.length = m.length → (∀ p ∈ l, p.Ok) → (∀ p ∈ m, p.Ok) → l.flatMap ptText ++ r = m.flatMap ptText ++ s → l = m ∧ r = s
  | [], [], _, _, _, h => by simpa using h
  | p :: l, q :: m, hlen, hl, hm, h => by
    simp only [List.flatMap_cons, List.append_assoc] at h
    obtain ⟨h1, h2⟩ := List.append_inj h rfl
    have e := ptText_inj (hl p (by simp)) (hm q (by simp)) h1
    have ih := leaf_inj (by simpa using hlen) (fun p hp => hl p (by simp [hp])) (fun p hp => hm p (by simp [hp])) h2
    exact ⟨by rw [e, ih.1], ih.2⟩
theorem leafText_inj {l m : List Pt} {r s : List UInt8} (hl : l.length ≤ 4) (hm : m.length ≤ 4) (hlo : ∀ p ∈ l, p.Ok) (hmo : ∀ p ∈ m, p.Ok) (h : leafText l ++ r = leafText m ++ s) : l = m ∧ r = s := by
  unfold leafText at h
  simp only [List.cons_append, List.cons.injEq, true_and] at h
  exact leaf_inj (ofNat_small hl hm h.1) hlo hmo h.2
section
variable {dig : List UInt8 → List UInt8} (hd : ∀ l, (dig l).length = 32)
include hd
theorem head_len (n : Nat) (c : T n) : (head dig n c).length = 52 := by
  simp [head, headText, boxText_len, fourI_len, hd]
/-- the points can be read off the whole text -/
theorem full_inj : ∀ (n m : Nat) (s : T n) (t : T m) (r q : List UInt8), Small n s → Small m t → full dig n s ++ r = full dig m t ++ q → pts n s = pts m t ∧ r = q
  | 0, 0, s, t, r, q, hs, ht, h => leafText_inj hs.1 ht.1 hs.2 ht.2 h
  | 0, m + 1, s, t, r, q, hs, ht, h => by
    rw [full_succ] at h
    simp [full, proof, leafText] at h
  | n + 1, 0, s, t, r, q, hs, ht, h => by
    rw [full_succ] at h
    simp [full, proof, leafText] at h
  | n + 1, m + 1, s, t, r, q, hs, ht, h => by
    rw [full_succ, full_succ] at h
    simp only [List.cons_append, List.cons.injEq, true_and] at h
    have hlen := ofNat_small hs.1 ht.1 h.1
    have key : ∀ (l : List (T n)) (k : List (T m)), l.length = k.length → (∀ c ∈ l, Small n c) → (∀ c ∈ k, Small m c) → List.flatMap (fun c => head dig n c ++ 1 :: full dig n c) l ++ r = List.flatMap (fun c => head dig m c ++ 1 :: full dig m c) k ++ q → List.flatMap (pts n) l = List.flatMap (pts m) k ∧ r = q := by
      intro l
      induction l with
      | nil => intro k hk _ _ h; cases k with | nil => exact ⟨rfl, by simpa using h⟩ | cons _ _ => simp at hk
      | cons c l ih =>
        intro k hk hl hk' h
        cases k with
        | nil => simp at hk
        | cons e k =>
          simp only [List.flatMap_cons, List.append_assoc, List.cons_append] at h
          obtain ⟨-, h2⟩ := List.append_inj h (by rw [head_len hd, head_len hd])
          simp only [List.cons.injEq, true_and] at h2
          obtain ⟨e1, e2⟩ := full_inj n m c e _ _ (hl c (by simp)) (hk' e (by simp)) h2
          obtain ⟨e3, e4⟩ := ih k (by simpa using hk) (fun c hc => hl c (by simp [hc])) (fun c hc => hk' c (by simp [hc])) e2
          exact ⟨by simp only [List.flatMap_cons, e1, e3], e4⟩
    exact key s t hlen hs.2 ht.2 h.2
/-- of two trees with one digest and two whole texts, two parts have one digest and two texts -/
theorem found : ∀ (n m : Nat) (s : T n) (t : T m), Small n s → Small m t → dig (text dig n s) = dig (text dig m t) → full dig n s ≠ full dig m t → ∃ a ∈ texts dig n s, ∃ b ∈ texts dig m t, a ≠ b ∧ dig a = dig b := by
  intro n
  induction n with
  | zero =>
    intro m s t hs ht hdig hne
    by_cases e : text dig 0 s = text dig m t
    · cases m with
      | zero => exact absurd e hne
      | succ m => rw [text_succ] at e; simp [text, leafText] at e
    · exact ⟨_, text_mem dig 0 s, _, text_mem dig m t, e, hdig⟩
  | succ n ih =>
    intro m s t hs ht hdig hne
    by_cases e : text dig (n + 1) s = text dig m t
    · cases m with
      | zero => rw [text_succ] at e; simp [text, leafText] at e
      | succ m =>
        rw [text_succ, text_succ] at e
        simp only [List.cons.injEq, true_and] at e
        have hlen := ofNat_small hs.1 ht.1 e.1
        rw [full_succ, full_succ, hlen] at hne
        have key : ∀ (l : List (T n)) (k : List (T m)), l.length = k.length → (∀ c ∈ l, Small n c) → (∀ c ∈ k, Small m c) → List.flatMap (head dig n) l = List.flatMap (head dig m) k → List.flatMap (fun c => head dig n c ++ 1 :: full dig n c) l ≠ List.flatMap (fun c => head dig m c ++ 1 :: full dig m c) k → ∃ a ∈ List.flatMap (texts dig n) l, ∃ b ∈ List.flatMap (texts dig m) k, a ≠ b ∧ dig a = dig b := by
          intro l
          induction l with
          | nil => intro k hk _ _ _ h; cases k with | nil => exact absurd rfl h | cons _ _ => simp at hk
          | cons c l ihl =>
            intro k hk hl hk' h hn
            cases k with
            | nil => simp at hk
            | cons e k =>
              simp only [List.flatMap_cons] at h hn ⊢
              obtain ⟨h1, h2⟩ := List.append_inj h (by rw [head_len hd, head_len hd])
              by_cases ef : full dig n c = full dig m e
              · obtain ⟨a, ha, b, hb, r⟩ := ihl k (by simpa using hk) (fun c hc => hl c (by simp [hc])) (fun c hc => hk' c (by simp [hc])) h2 (fun h => hn (by rw [h1, ef, h]))
                exact ⟨a, List.mem_append_right _ ha, b, List.mem_append_right _ hb, r⟩
              · have hdd : dig (text dig n c) = dig (text dig m e) := by
                  unfold head headText at h1
                  exact (List.append_inj h1 (by simp [boxText_len, fourI_len])).2
                obtain ⟨a, ha, b, hb, r⟩ := ih m c e (hl c (by simp)) (hk' e (by simp)) hdd ef
                exact ⟨a, List.mem_append_left _ ha, b, List.mem_append_left _ hb, r⟩
        obtain ⟨a, ha, b, hb, r⟩ := key s t hlen hs.2 ht.2 e.2 (fun h => hne (by rw [h]))
        refine ⟨a, ?_, b, ?_, r⟩
        · simp only [texts]; exact List.mem_append_left _ ha
        · simp only [texts]; exact List.mem_append_left _ hb
    · exact ⟨_, text_mem dig (n + 1) s, _, text_mem dig m t, e, hdig⟩
end
end Ward
namespace Ward
/-- from a level up to the root -/
def climb : Nat → (n : Nat) → List (T n) → (m : Nat) × T m
  | 0, _, _ => ⟨0, ([] : List Pt)⟩
  | k + 1, n, ls => match ls with
    | [t] => ⟨n, t⟩
    | _ => climb k (n + 1) (fours ls)
theorem climb_one (k n : Nat) (t : T n) : climb (k + 1) n [t] = ⟨n, t⟩ := rfl
theorem climb_more (k n : Nat) (ls : List (T n)) (h : ls.length ≠ 1) : climb (k + 1) n ls = climb k (n + 1) (fours ls) := by
  rw [climb]
  intro t e
  subst e
  simp at h
def leaves (l : List Pt) : List (T 0) := if l.length = 0 then [([] : List Pt)] else fours l
def tree (l : List Pt) : (m : Nat) × T m := climb (l.length + 2) 0 (leaves l)
def ptsL (n : Nat) (ls : List (T n)) : List Pt := ls.flatMap (pts n)
theorem ptsL_fours (n : Nat) (ls : List (T n)) : ptsL (n + 1) (fours ls) = ptsL n ls := by
  show List.flatMap (fun g : List (T n) => List.flatMap (pts n) g) (fours ls) = List.flatMap (pts n) ls
  have h := congrArg (List.flatMap (pts n)) (fours_flat ls)
  rw [← h]
  generalize fours ls = gs
  induction gs with
  | nil => rfl
  | cons g gs ih => rw [List.flatMap_cons, List.flatten_cons, List.flatMap_append, ih]
theorem climb_all {P : (n : Nat) → T n → Prop} (hP : ∀ n (ls : List (T n)), (∀ t ∈ ls, P n t) → ∀ g ∈ fours ls, P (n + 1) g) :
    ∀ (k n : Nat) (ls : List (T n)), ls ≠ [] → ls.length < k → (∀ t ∈ ls, P n t) → P (climb k n ls).1 (climb k n ls).2 ∧ pts (climb k n ls).1 (climb k n ls).2 = ptsL n ls
  | 0, _, _, _, h, _ => absurd h (by omega)
  | k + 1, n, ls, h0, hk, h => by
    by_cases h1 : ls.length = 1
    · obtain ⟨t, rfl⟩ := List.length_eq_one_iff.1 h1
      rw [climb_one]
      exact ⟨h t (by simp), by simp [ptsL]⟩
    · have hl : ls.length ≠ 0 := fun e => h0 (List.length_eq_zero_iff.1 e)
      rw [climb_more _ _ _ h1]
      have := climb_all hP k (n + 1) (fours ls) (fun e => by have := congrArg List.length e; rw [fours_length] at this; simp at this; omega) (by rw [fours_length]; omega) (hP n ls h)
      rw [ptsL_fours] at this
      exact this
theorem leaves_ne (l : List Pt) : leaves l ≠ [] := by
  unfold leaves
  split
  · simp
  · intro e; have := congrArg List.length e; rw [fours_length] at this; simp at this; omega
theorem leaves_lt (l : List Pt) : (leaves l).length < l.length + 2 := by
  unfold leaves
  split
  · simp
  · rw [fours_length]; omega
theorem leaves_pts (l : List Pt) : ptsL 0 (leaves l) = l := by
  unfold leaves ptsL
  split
  · rename_i h
    rw [List.length_eq_zero_iff.1 h]
    rfl
  · have h := fours_flat l
    rw [List.flatten_eq_flatMap] at h
    exact h
theorem leaves_small {l : List Pt} (h : ∀ p ∈ l, p.Ok) : ∀ t ∈ leaves l, Small 0 t := by
  unfold leaves
  split
  · intro t ht
    rw [List.mem_singleton] at ht
    subst ht
    exact ⟨by simp, fun p hp => by simp at hp⟩
  · intro t ht
    refine ⟨(fours_small l t ht).1, fun p hp => h p ?_⟩
    rw [← fours_flat l]
    exact List.mem_flatten.2 ⟨t, ht, hp⟩
theorem fours_mem {α : Type} {l : List α} {g : List α} (hg : g ∈ fours l) : ∀ c ∈ g, c ∈ l := fun c hc => by
  rw [← fours_flat l]; exact List.mem_flatten.2 ⟨g, hg, hc⟩
theorem tree_small {l : List Pt} (h : ∀ p ∈ l, p.Ok) : Small (tree l).1 (tree l).2 ∧ pts (tree l).1 (tree l).2 = l := by
  have := climb_all (P := Small) (fun n ls hs g hg => ⟨(fours_small ls g hg).1, fun c hc => hs c (fours_mem hg c hc)⟩) (l.length + 2) 0 (leaves l) (leaves_ne l) (leaves_lt l) (leaves_small h)
  rw [leaves_pts] at this
  exact this
theorem climb_depth : ∀ (d k n : Nat) (ls : List (T n)), ls ≠ [] → ls.length < k → ls.length ≤ 4 ^ d → (climb k n ls).1 ≤ n + d
  | _, 0, _, _, _, h, _ => absurd h (by omega)
  | 0, k + 1, n, ls, h0, hk, h => by
    have h1 : ls.length = 1 := by
      have : ls.length ≠ 0 := fun e => h0 (List.length_eq_zero_iff.1 e)
      simp at h; omega
    obtain ⟨t, rfl⟩ := List.length_eq_one_iff.1 h1
    rw [climb_one]; simp
  | d + 1, k + 1, n, ls, h0, hk, h => by
    by_cases h1 : ls.length = 1
    · obtain ⟨t, rfl⟩ := List.length_eq_one_iff.1 h1
      rw [climb_one]; simp
    · have hl : ls.length ≠ 0 := fun e => h0 (List.length_eq_zero_iff.1 e)
      rw [climb_more _ _ _ h1]
      have := climb_depth d k (n + 1) (fours ls) (fun e => by have := congrArg List.length e; rw [fours_length] at this; simp at this; omega) (by rw [fours_length]; omega) (by rw [fours_length]; rw [Nat.pow_succ] at h; omega)
      omega
theorem tree_depth {l : List Pt} (h : l.length ≤ 256) : (tree l).1 ≤ 3 := by
  have := climb_depth 3 (l.length + 2) 0 (leaves l) (leaves_ne l) (leaves_lt l) (by unfold leaves; split; (· simp); (· rw [fours_length]; omega))
  exact Nat.le_trans this (by omega)
theorem count_pts : ∀ (n : Nat) (t : T n), count n t = (pts n t).length
  | 0, _ => rfl
  | n + 1, cs => by
    show (List.map (count n) cs).sum = (List.flatMap (pts n) cs).length
    rw [List.length_flatMap]
    congr 1
    exact List.map_congr_left fun c _ => count_pts n c
structure Box.In (b : Box) : Prop where
  a1 : -1000000 ≤ b.a
  a2 : b.a ≤ 1000000
  b1 : -1000000 ≤ b.b
  b2 : b.b ≤ 1000000
  c1 : -1000000 ≤ b.c
  c2 : b.c ≤ 1000000
  d1 : -1000000 ≤ b.d
  d2 : b.d ≤ 1000000
theorem join_in {p q : Box} (hp : p.In) (hq : q.In) : (join p q).In := by
  obtain ⟨_, _, _, _, _, _, _, _⟩ := hp
  obtain ⟨_, _, _, _, _, _, _, _⟩ := hq
  constructor <;> simp only [join] <;> omega
theorem zero_in : (⟨0, 0, 0, 0⟩ : Box).In := by constructor <;> simp
theorem fold_in : ∀ {l : List Box} {b : Box}, b.In → (∀ c ∈ l, c.In) → (l.foldl join b).In
  | [], _, hb, _ => hb
  | c :: l, _, hb, h => fold_in (l := l) (join_in hb (h c (by simp))) fun d hd => h d (by simp [hd])
theorem boxL_in {l : List Box} (h : ∀ c ∈ l, c.In) : (boxL l).In := by
  refine fold_in ?_ h
  cases l with
  | nil => exact zero_in
  | cons c l => exact h c (by simp)
theorem box_in : ∀ (n : Nat) (t : T n), Small n t → (box n t).In
  | 0, l, h => boxL_in fun c hc => by
    obtain ⟨p, hp, rfl⟩ := List.mem_map.1 hc
    have := h.2 p hp
    obtain ⟨_, _, _, _, _, _⟩ := this
    constructor <;> simp only [boxOf] <;> omega
  | n + 1, cs, h => boxL_in fun c hc => by
    obtain ⟨t, ht, rfl⟩ := List.mem_map.1 hc
    exact box_in n t (h.2 t ht)
theorem proof_full {dig : List UInt8 → List UInt8} {must : Box → Bool} (hm : ∀ b, b.In → must b = true) : ∀ (n : Nat) (t : T n), Small n t → proof dig must n t = full dig n t
  | 0, _, _ => rfl
  | n + 1, cs, h => by
    rw [full_succ]
    show 2 :: UInt8.ofNat (List.length cs) :: List.flatMap (fun c => head dig n c ++ (if must (box n c) then 1 :: proof dig must n c else [0])) cs = _
    congr 2
    rw [List.flatMap_def, List.flatMap_def]
    congr 1
    refine List.map_congr_left fun c hc => ?_
    have hc' := h.2 c hc
    rw [if_pos (hm _ (box_in n c hc')), proof_full hm n c hc']
end Ward
namespace Ward
/-- what a text shows, so deep: a leaf's bytes, or of each child 52 bytes and, where it is shown, what is shown of it; else a byte -/
inductive Sh (α : Type) : Type
  | leaf (b : List UInt8)
  | node (cs : List (List UInt8 × (UInt8 ⊕ α)))
@[reducible] def PT : Nat → Type
  | 0 => Empty
  | n + 1 => Sh (PT n)
/-- a leaf of so many points' bytes; a node of heads -/
def WF : (n : Nat) → PT n → Prop
  | 0, t => nomatch t
  | _ + 1, .leaf b => ∃ k, k ≤ 4 ∧ b.length = 12 * k
  | n + 1, .node cs => cs.length ≤ 4 ∧ Each (fun c : List UInt8 × (UInt8 ⊕ PT n) => c.1.length = 52 ∧ match c.2 with | .inl f => f ≠ 1 | .inr t => WF n t) cs
/-- its own text -/
def own : (n : Nat) → PT n → List UInt8
  | 0, t => nomatch t
  | _ + 1, .leaf b => 1 :: UInt8.ofNat (b.length / 12) :: b
  | _ + 1, .node cs => 2 :: UInt8.ofNat cs.length :: cs.flatMap (fun c => c.1)
/-- all of it -/
def shows : (n : Nat) → PT n → List UInt8
  | 0, t => nomatch t
  | _ + 1, .leaf b => 1 :: UInt8.ofNat (b.length / 12) :: b
  | n + 1, .node cs => 2 :: UInt8.ofNat cs.length :: cs.flatMap (fun c : List UInt8 × (UInt8 ⊕ PT n) => c.1 ++ match c.2 with | .inl f => [f] | .inr t => 1 :: shows n t)
/-- the texts of all that is shown -/
def alls : (n : Nat) → PT n → List (List UInt8)
  | 0, t => nomatch t
  | _ + 1, .leaf b => [1 :: UInt8.ofNat (b.length / 12) :: b]
  | n + 1, .node cs => cs.flatMap (fun c : List UInt8 × (UInt8 ⊕ PT n) => match c.2 with | .inl _ => [] | .inr t => alls n t) ++ [2 :: UInt8.ofNat cs.length :: cs.flatMap (fun c => c.1)]
/-- a map's tree, all shown -/
def emb (dig : List UInt8 → List UInt8) : (n : Nat) → T n → PT (n + 1)
  | 0, l => .leaf (List.flatMap ptText (l : List Pt))
  | n + 1, cs => .node (List.map (fun c => (head dig n c, .inr (emb dig n c))) (cs : List (T n)))
theorem pts_len (l : List Pt) : (l.flatMap ptText).length = 12 * l.length := by
  induction l with
  | nil => rfl
  | cons p l ih => rw [List.flatMap_cons, List.length_append, ih, ptText_len, List.length_cons]; omega
theorem emb_leaf (l : List Pt) : (1 :: UInt8.ofNat ((l.flatMap ptText).length / 12) :: l.flatMap ptText) = leafText l := by
  rw [pts_len, Nat.mul_div_cancel_left _ (by decide)]; rfl
section
variable {dig : List UInt8 → List UInt8} (hd : ∀ l, (dig l).length = 32)
include hd
theorem emb_wf : ∀ (n : Nat) (t : T n), Small n t → WF (n + 1) (emb dig n t)
  | 0, l, h => ⟨List.length (l : List Pt), h.1, pts_len l⟩
  | n + 1, cs, h => by
    refine ⟨by show (List.map _ cs).length ≤ 4; rw [List.length_map]; exact h.1, fun c hc => ?_⟩
    obtain ⟨t, ht, rfl⟩ := List.mem_map.1 hc
    exact ⟨head_len hd n t, emb_wf n t (h.2 t ht)⟩
end
theorem emb_own (dig : List UInt8 → List UInt8) : ∀ (n : Nat) (t : T n), own (n + 1) (emb dig n t) = text dig n t
  | 0, l => emb_leaf l
  | n + 1, cs => by
    show 2 :: UInt8.ofNat (List.map _ cs).length :: List.flatMap _ (List.map _ cs) = _
    rw [text_succ, List.length_map, List.flatMap_map]
theorem emb_shows (dig : List UInt8 → List UInt8) : ∀ (n : Nat) (t : T n), shows (n + 1) (emb dig n t) = full dig n t
  | 0, l => emb_leaf l
  | n + 1, cs => by
    show 2 :: UInt8.ofNat (List.map _ cs).length :: List.flatMap _ (List.map _ cs) = _
    rw [full_succ, List.length_map, List.flatMap_map]
    congr 2
    rw [List.flatMap_def, List.flatMap_def]
    congr 1
    exact List.map_congr_left fun c _ => by simp only [emb_shows dig n c]
theorem emb_alls (dig : List UInt8 → List UInt8) : ∀ (n : Nat) (t : T n), alls (n + 1) (emb dig n t) = texts dig n t
  | 0, l => by show [_] = [_]; rw [emb_leaf l]
  | n + 1, cs => by
    show List.flatMap _ (List.map _ cs) ++ [2 :: UInt8.ofNat (List.map _ cs).length :: List.flatMap _ (List.map _ cs)] = _
    rw [List.length_map, List.flatMap_map, List.flatMap_map]
    show _ = List.flatMap (texts dig n) cs ++ [text dig (n + 1) cs]
    congr 1
    rw [List.flatMap_def, List.flatMap_def]
    congr 1
    exact List.map_congr_left fun c _ => emb_alls dig n c
end Ward
end Go.Proofs.YtenaelkbgkpllaaGreatDoor
/- Points: which may be, and how two compare. -/
namespace Go.Proofs.YtenaelkbgkpllaaGreatDoor
open Go.RowKit

theorem hide {p : Prop} (h : p) : Hid p := h
/-- an int as a value -/
abbrev I (n : Int) : Value := .int .i64 n
/-- a point's cells -/
def P3 (p : Ward.Pt) : List Value := [I p.id, I p.x, I p.y]

set_option maxHeartbeats 400000 in
theorem isID_any (n : Int) (w : World) :
    Calls Tryz.prog 31 #[I n] w fun e w' => e = .returned (.bool (decide (1 ≤ n ∧ n ≤ 1000000))) ∧ w' = w := by
  by_cases h1 : 1 ≤ n
  · by_cases h2 : n ≤ 1000000
    · have e : decide (1 ≤ n ∧ n ≤ 1000000) = true := by simp [h1, h2]
      rw [e]
      go_enter Tryz.func31, Tryz.ntmps31
      go_wp2
      go_ret
      exact ⟨rfl, rfl⟩
    · have e : decide (1 ≤ n ∧ n ≤ 1000000) = false := by simp [h2]
      rw [e]
      go_enter Tryz.func31, Tryz.ntmps31
      go_wp2
      go_ret
      exact ⟨rfl, rfl⟩
  · have e : decide (1 ≤ n ∧ n ≤ 1000000) = false := by simp [h1]
    rw [e]
    go_enter Tryz.func31, Tryz.ntmps31
    go_wp2
    go_ret
    exact ⟨rfl, rfl⟩
set_option maxHeartbeats 400000 in
theorem isCoord_any (n : Int) (w : World) :
    Calls Tryz.prog 32 #[I n] w fun e w' => e = .returned (.bool (decide (-1000000 ≤ n ∧ n ≤ 1000000))) ∧ w' = w := by
  by_cases h1 : -1000000 ≤ n
  · by_cases h2 : n ≤ 1000000
    · have e : decide (-1000000 ≤ n ∧ n ≤ 1000000) = true := by simp [h1, h2]
      rw [e]
      go_enter Tryz.func32, Tryz.ntmps32
      go_wp2
      go_ret
      exact ⟨rfl, rfl⟩
    · have e : decide (-1000000 ≤ n ∧ n ≤ 1000000) = false := by simp [h2]
      rw [e]
      go_enter Tryz.func32, Tryz.ntmps32
      go_wp2
      go_ret
      exact ⟨rfl, rfl⟩
  · have e : decide (-1000000 ≤ n ∧ n ≤ 1000000) = false := by simp [h1]
    rw [e]
    go_enter Tryz.func32, Tryz.ntmps32
    go_wp2
    go_ret
    exact ⟨rfl, rfl⟩
/-- what cmp.Compare says of two numbers -/
def cmpI (a b : Int) : Int := if a < b then -1 else if b < a then 1 else 0
set_option maxHeartbeats 400000 in
theorem isNaN_any (n : Int) (w : World) :
    Calls Tryz.prog 108 #[I n] w fun e w' => e = .returned (.bool false) ∧ w' = w := by
  go_enter Tryz.func108, Tryz.ntmps108
  go_wp2
  go_ret
  exact ⟨rfl, rfl⟩
set_option maxHeartbeats 400000 in
theorem cmpInt_any (a b : Int) (w : World) :
    Calls Tryz.prog 67 #[I a, I b] w fun e w' => e = .returned (I (cmpI a b)) ∧ w' = w := by
  rcases Int.lt_trichotomy a b with h | h | h
  · have e : cmpI a b = -1 := by simp [cmpI, h]
    rw [e]
    go_enter Tryz.func67, Tryz.ntmps67
    go_wp2_with (go_at_call 108; refine (isNaN_any _ _).mono ?_; rintro _ _ ⟨rfl, rfl⟩)
    go_ret
    exact ⟨rfl, rfl⟩
  · have e : cmpI a b = 0 := by subst h; simp [cmpI]
    rw [e]
    subst h
    go_enter Tryz.func67, Tryz.ntmps67
    go_wp2_with (go_at_call 108; refine (isNaN_any _ _).mono ?_; rintro _ _ ⟨rfl, rfl⟩)
    go_ret
    exact ⟨rfl, rfl⟩
  · have e : cmpI a b = 1 := by simp [cmpI, h, show ¬ a < b by omega]
    have h' : ¬ a < b := by omega
    rw [e]
    go_enter Tryz.func67, Tryz.ntmps67
    go_wp2_with (go_at_call 108; refine (isNaN_any _ _).mono ?_; rintro _ _ ⟨rfl, rfl⟩)
    go_ret
    exact ⟨rfl, rfl⟩
end Go.Proofs.YtenaelkbgkpllaaGreatDoor
/- Points compared. -/
namespace Go.Proofs.YtenaelkbgkpllaaGreatDoor
open Go.RowKit

/-- the first that is not nought -/
def orI (a b c : Int) : Int := if a ≠ 0 then a else if b ≠ 0 then b else c
set_option maxHeartbeats 400000 in
theorem or_any (g : Nat) (a b c : Int) (w : World) (h0 : w.cell? ⟨g, 0, none⟩ = some (I a)) (h1 : w.cell? ⟨g, 1, none⟩ = some (I b)) (h2 : w.cell? ⟨g, 2, none⟩ = some (I c)) :
    Calls Tryz.prog 66 #[.slice (some ⟨g, 0, none⟩) 3 3] w fun e w' => e = .returned (I (orI a b c)) ∧ w' = w := by
  go_enter Tryz.func66, Tryz.ntmps66
  go_wp2
  go_loopw [8] (fun v wq => wq = w ∧ ∃ i : Nat, v = I i ∧ i ≤ 3 ∧ (1 ≤ i → a = 0) ∧ (2 ≤ i → b = 0) ∧ (3 ≤ i → c = 0)) (fun v _ => 3 - (intOf v).toNat)
  case atStart => exact ⟨rfl, 0, rfl, by omega, by omega, by omega, by omega⟩
  case round =>
    obtain ⟨rfl, i, rfl, hi, ha, hb, hc⟩ := hrel
    match i, hi, ha, hb, hc with
    | 0, _, _, _, _ =>
      by_cases ha : a = 0
      · subst ha
        go_wp2
        go_roundw
        case rel => exact ⟨trivial, 1, by go_num, by omega, by simp, by omega, by omega⟩
        case measure => simp [intOf]
      · go_wp2
        go_ret
        exact ⟨by simp [orI, ha], rfl⟩
    | 1, _, ha, _, _ =>
      have ha := ha (by omega)
      by_cases hb : b = 0
      · subst hb
        go_wp2
        go_roundw
        case rel => exact ⟨trivial, 2, by go_num, by omega, by simp [ha], by simp, by omega⟩
        case measure => simp [intOf]
      · go_wp2
        go_ret
        exact ⟨by simp [orI, ha, hb], rfl⟩
    | 2, _, ha, hb, _ =>
      have ha := ha (by omega)
      have hb := hb (by omega)
      by_cases hc : c = 0
      · subst hc
        go_wp2
        go_roundw
        case rel => exact ⟨trivial, 3, by go_num, by omega, by simp [ha], by simp [hb], by simp⟩
        case measure => simp [intOf]
      · go_wp2
        go_ret
        exact ⟨by simp [orI, ha, hb], rfl⟩
    | 3, _, ha, hb, hc =>
      have ha := ha (by omega)
      have hb := hb (by omega)
      have hc := hc (by omega)
      go_wp2
      go_ret
      exact ⟨by simp [orI, ha, hb, hc], rfl⟩
/-- what plane.Compare says of two points -/
def cmpP (p q : Ward.Pt) : Int := orI (cmpI p.x q.x) (cmpI p.y q.y) (cmpI p.id q.id)
theorem cmpP_lt (p q : Ward.Pt) : cmpP p q < 0 ↔ Ward.lt p q := by
  unfold cmpP orI cmpI Ward.lt
  (repeat' split) <;> omega
/-- a block of three ints, read -/
theorem row3 {w : World} {g t : Nat} {a b c : Value} (h : w.heap[g]? = some (.cells #[a, b, c] t (0, 0))) : w.cell? ⟨g, 0, none⟩ = some a ∧ w.cell? ⟨g, 1, none⟩ = some b ∧ w.cell? ⟨g, 2, none⟩ = some c := by
  refine ⟨?_, ?_, ?_⟩ <;> rw [cell_of_row _ _ _ _ _ _ h] <;> rfl
/-- the cells of two points in two blocks -/
def Two (g k : Nat) (p q : Ward.Pt) (W : World) : Prop := (W.cell? ⟨g, 0, none⟩ = some (I p.id) ∧ W.cell? ⟨g, 1, none⟩ = some (I p.x) ∧ W.cell? ⟨g, 2, none⟩ = some (I p.y)) ∧ W.cell? ⟨k, 0, none⟩ = some (I q.id) ∧ W.cell? ⟨k, 1, none⟩ = some (I q.x) ∧ W.cell? ⟨k, 2, none⟩ = some (I q.y)
theorem Two.below {g k B : Nat} {p q : Ward.Pt} {W W' : World} (h : Two g k p q W) (hb : Below B W W') (hg : g < B) (hk : k < B) : Two g k p q W' := by
  obtain ⟨⟨a, b, c⟩, d, e, f⟩ := h
  exact ⟨⟨(hb.cell (p := ⟨g, 0, none⟩) hg).trans a, (hb.cell (p := ⟨g, 1, none⟩) hg).trans b, (hb.cell (p := ⟨g, 2, none⟩) hg).trans c⟩, (hb.cell (p := ⟨k, 0, none⟩) hk).trans d, (hb.cell (p := ⟨k, 1, none⟩) hk).trans e, (hb.cell (p := ⟨k, 2, none⟩) hk).trans f⟩
set_option maxHeartbeats 1000000 in
theorem compare_any (p q : Ward.Pt) (w : World) :
    Calls Tryz.prog 35 #[.agg #[I p.id, I p.x, I p.y], .agg #[I q.id, I q.x, I q.y]] w fun e w' => e = .returned (I (cmpP p q)) ∧ Below w.heap.size w w' := by
  obtain ⟨pi, px, py⟩ := p
  obtain ⟨qi, qx, qy⟩ := q
  have HE := hide (show cmpP ⟨pi, px, py⟩ ⟨qi, qx, qy⟩ = orI (cmpI px qx) (cmpI py qy) (cmpI pi qi) from rfl)
  go_enter Tryz.func35, Tryz.ntmps35
  go_wp2_with fail
  have hz1 := heap_alloc2_old w
  have hz2 := heap_alloc2_new w
  have hbb := fun o o' => ((Below.refl w.heap.size w).alloc (Nat.le_refl _) o).alloc (by simp) o'
  generalize hW : World.alloc _ _ = w0
  have r1 : w0.heap[w.heap.size]? = some (.cells #[I pi, I px, I py] 36 (0, 0)) := by rw [← hW]; exact hz1 _ _
  have r2 : w0.heap[w.heap.size + 1]? = some (.cells #[I qi, I qx, I qy] 36 (0, 0)) := by rw [← hW]; exact hz2 _ _
  have hb0 : Below w.heap.size w w0 := by rw [← hW]; exact hbb _ _
  have hz0 : w0.heap.size = w.heap.size + 2 := by rw [← hW]; simp
  clear hz1 hz2 hbb hW
  obtain ⟨c1, c2, c3⟩ := row3 r1
  obtain ⟨d1, d2, d3⟩ := row3 r2
  have hS : Two w.heap.size (w.heap.size + 1) ⟨pi, px, py⟩ ⟨qi, qx, qy⟩ w0 := ⟨⟨c1, c2, c3⟩, d1, d2, d3⟩
  have HZ := hide hz0
  have HB := hide hb0
  have HN := hide (show ∀ o, ((w0.alloc o).drew).heap[w0.heap.size]? = some o from fun o => heap_alloc_new w0 o)
  clear r1 r2 c1 c2 c3 d1 d2 d3 hz0 hb0
  go_region_held3 (fun W => (W.cell? ⟨w.heap.size, 0, none⟩ = some (I pi) ∧ W.cell? ⟨w.heap.size, 1, none⟩ = some (I px) ∧ W.cell? ⟨w.heap.size, 2, none⟩ = some (I py)) ∧ W.cell? ⟨w.heap.size + 1, 0, none⟩ = some (I qi) ∧ W.cell? ⟨w.heap.size + 1, 1, none⟩ = some (I qx) ∧ W.cell? ⟨w.heap.size + 1, 2, none⟩ = some (I qy)) (first | assumption | exact hS | exact Two.below hS (((Below.refl _ _).alloc (Nat.le_refl _) _).drew) (by have := HZ.out; omega) (by have := HZ.out; omega)) (first | (go_at_call 67; refine (cmpInt_any _ _ _).mono ?_; rintro _ _ ⟨rfl, rfl⟩) | (go_at_call 66; refine (or_any _ (cmpI px qx) (cmpI py qy) (cmpI pi qi) _ (row3 (HN.out _)).1 (row3 (HN.out _)).2.1 (row3 (HN.out _)).2.2).mono ?_; rintro _ _ ⟨rfl, rfl⟩))
  go_wp2
  go_ret
  exact ⟨by rw [HE.out]; rfl, (HB.out.alloc (by have := HZ.out; omega) _).drew⟩
end Go.Proofs.YtenaelkbgkpllaaGreatDoor
/- A point looked for by its id. -/
namespace Go.Proofs.YtenaelkbgkpllaaGreatDoor
open Go.RowKit

/-- the cells of a point at a place -/
def PtAt (w : World) (g o : Nat) (p : Ward.Pt) : Prop := w.cell? ⟨g, o, none⟩ = some (I p.id) ∧ w.cell? ⟨g, o + 1, none⟩ = some (I p.x) ∧ w.cell? ⟨g, o + 2, none⟩ = some (I p.y)
/-- a slice of points reads as a list -/
def Reads (w : World) (v : Value) (L : List Ward.Pt) : Prop := ∃ (a : Option Addr) (c : Nat), v = .slice a L.length c ∧ (L ≠ [] → ∃ g o, a = some ⟨g, o, none⟩ ∧ ∀ i (h : i < L.length), PtAt w g (o + i * 3) L[i])
theorem PtAt.below {w w' : World} {g o B : Nat} {p : Ward.Pt} (h : PtAt w g o p) (hb : Below B w w') (hB : g < B) : PtAt w' g o p :=
  ⟨(hb.cell (p := ⟨g, o, none⟩) hB).trans h.1, (hb.cell (p := ⟨g, o + 1, none⟩) hB).trans h.2.1, (hb.cell (p := ⟨g, o + 2, none⟩) hB).trans h.2.2⟩
theorem PtAt.lt {w : World} {g o : Nat} {p : Ward.Pt} (h : PtAt w g o p) : g < w.heap.size := block_lt_of_cell h.1
theorem Reads.below {w w' : World} {v : Value} {L : List Ward.Pt} (h : Reads w v L) (hb : Below w.heap.size w w') : Reads w' v L := by
  obtain ⟨a, c, rfl, hc⟩ := h
  refine ⟨a, c, rfl, fun hne => ?_⟩
  obtain ⟨g, o, rfl, hp⟩ := hc hne
  exact ⟨g, o, rfl, fun i hi => (hp i hi).below hb (hp i hi).lt⟩

set_option maxHeartbeats 400000 in
/-- the closure of find -/
theorem sameID_any (p : Ward.Pt) (id : Int) (k : Nat) (w : World) (hk : w.cell? ⟨k, 0, none⟩ = some (I id)) :
    Calls Tryz.prog 65 #[.agg #[I p.id, I p.x, I p.y], .pointer (some ⟨k, 0, none⟩)] w fun e w' => e = .returned (.bool (p.id == id)) ∧ Below w.heap.size w w' := by
  have hk0 : k < w.heap.size := block_lt_of_cell hk
  have hk2 := (((Below.refl w.heap.size w).alloc (Nat.le_refl _) (.cells #[I p.id, I p.x, I p.y] 36)).cell (p := ⟨k, 0, none⟩) hk0).trans hk
  go_enter Tryz.func65, Tryz.ntmps65
  go_wp2
  go_ret
  exact ⟨rfl, (Below.refl w.heap.size w).alloc (Nat.le_refl _) _⟩
/-- where the point of an id stands -/
def Place (id : Int) (L : List Ward.Pt) (r : Int) : Prop := (r = -1 ∧ ∀ q ∈ L, q.id ≠ id) ∨ ∃ i, ∃ h : i < L.length, r = i ∧ L[i].id = id
set_option maxHeartbeats 1000000 in
theorem indexFunc_any (v : Value) (L : List Ward.Pt) (id : Int) (k : Nat) (w : World) (hL : Reads w v L) (hl : L.length ≤ 1000) (hk : w.cell? ⟨k, 0, none⟩ = some (I id)) :
    Calls Tryz.prog 64 #[v, .func (.func 65) #[] #[.pointer (some ⟨k, 0, none⟩)]] w fun e w' => ∃ r, e = .returned (I r) ∧ Place id L r ∧ Below w.heap.size w w' := by
  obtain ⟨a, c, rfl, hc⟩ := hL
  have HC := hide hc
  clear hc
  have hk0 : k < w.heap.size := block_lt_of_cell hk
  go_enter Tryz.func64, Tryz.ntmps64
  go_wp2
  go_loopw [8] (fun v wq => ∃ i : Nat, v = I i ∧ i ≤ L.length ∧ (∀ j (h : j < L.length), j < i → L[j].id ≠ id) ∧ Below w.heap.size w wq) (fun v _ => L.length - (intOf v).toNat)
  case atStart => exact ⟨0, rfl, by omega, fun j _ h => absurd h (by omega), Below.refl _ _⟩
  case round =>
    obtain ⟨i, rfl, hi, hno, hb⟩ := hrel
    have HNO := hide hno
    clear hno
    by_cases hlt : i < L.length
    · obtain ⟨g, o, rfl, hp⟩ := HC.out (fun e => by subst e; simp at hlt)
      have hpi := (hp i hlt).below hb (hp i hlt).lt
      have hkr := (hb.cell (p := ⟨k, 0, none⟩) hk0).trans hk
      have HI := hide (show L[i] = L[i] from rfl)
      generalize hq : L[i] = q at *
      have HQ := hide hq
      clear hq HI hp
      obtain ⟨h1, h2, h3⟩ := hpi
      obtain ⟨qi, qx, qy⟩ := q
      have hs := hb.size
      go_wp2_with fail
      refine (sameID_any ⟨qi, qx, qy⟩ id k _ hkr).mono ?_
      rintro e w1 ⟨rfl, hb1⟩
      have HB1 := hide (hb.trans (hb1.mono hs))
      clear hb1 h1 h2 h3 hkr hs hb
      by_cases hid : qi = id
      · rw [show ((⟨qi, qx, qy⟩ : Ward.Pt).id == id) = true by simp [hid]]
        go_wp2
        go_ret
        exact ⟨i, rfl, .inr ⟨i, hlt, rfl, by rw [HQ.out]; exact hid⟩, HB1.out⟩
      · rw [show ((⟨qi, qx, qy⟩ : Ward.Pt).id == id) = false by simp [hid]]
        go_wp2
        go_roundw
        case rel =>
          refine ⟨i + 1, by go_num, by omega, fun j hj hji => ?_, HB1.out⟩
          rcases Nat.lt_or_ge j i with h | h
          · exact HNO.out j hj h
          · have e : j = i := by omega
            subst e
            rw [HQ.out]; exact hid
        case measure => simp [intOf]; omega
    · have e : i = L.length := by omega
      have HB := hide hb
      clear hb
      go_wp2
      go_ret
      refine ⟨-1, rfl, .inl ⟨rfl, fun q hq => ?_⟩, HB.out⟩
      obtain ⟨j, hj, rfl⟩ := List.getElem_of_mem hq
      exact HNO.out j hj (by omega)
set_option maxHeartbeats 1000000 in
theorem find_any (m : Nat) (v : Value) (L : List Ward.Pt) (id : Int) (w : World) (hm : w.cell? ⟨m, 0, none⟩ = some v) (hL : Reads w v L) (hl : L.length ≤ 1000) :
    Calls Tryz.prog 33 #[.pointer (some ⟨m, 0, none⟩), I id] w fun e w' => ∃ r, e = .returned (I r) ∧ Place id L r ∧ Below w.heap.size w w' := by
  have hm0 : m < w.heap.size := block_lt_of_cell hm
  have hL1 := fun o => hL.below ((Below.refl w.heap.size w).alloc (Nat.le_refl _) o)
  obtain ⟨a, c, rfl, -⟩ := hL
  have hm2 := (((Below.refl w.heap.size w).alloc (Nat.le_refl _) (.cells #[I id] 3)).cell (p := ⟨m, 0, none⟩) hm0).trans hm
  go_enter Tryz.func33, Tryz.ntmps33
  go_wp2_with fail
  refine (indexFunc_any _ L id w.heap.size _ (hL1 _) hl (by simp)).mono ?_
  rintro e w1 ⟨r, rfl, hr, hb1⟩
  have HB := hide (((Below.refl w.heap.size w).alloc (Nat.le_refl _) _).trans (hb1.mono (by simp)))
  clear hb1 hm2 hL1
  go_wp2
  go_ret
  exact ⟨r, rfl, hr, HB.out⟩
end Go.Proofs.YtenaelkbgkpllaaGreatDoor
/- The place of a point among others, found by halving. -/
namespace Go.Proofs.YtenaelkbgkpllaaGreatDoor
open Go.RowKit

/-- what is known while halving -/
structure Half (p : Ward.Pt) (L : List Ward.Pt) (i j : Nat) : Prop where
  ij : i ≤ j
  jn : j ≤ L.length
  low : ∀ a, (h : a < L.length) → a < i → Ward.lt L[a] p
  high : ∀ a, (h : a < L.length) → j ≤ a → ¬ Ward.lt L[a] p
theorem sorted_lt {L : List Ward.Pt} (h : Ward.Sorted L) {a b : Nat} (hb : b < L.length) (hab : a < b) : Ward.lt (L[a]'(by omega)) L[b] :=
  List.pairwise_iff_getElem.1 h a b (by omega) hb hab
theorem Half.up {p : Ward.Pt} {L : List Ward.Pt} {i j h : Nat} (H : Half p L i j) (hs : Ward.Sorted L) (h1 : i ≤ h) (h2 : h < j) (hn : h < L.length) (hlt : Ward.lt L[h] p) : Half p L (h + 1) j :=
  ⟨by omega, H.jn, fun a ha hah => by
    rcases Nat.lt_or_ge a h with h' | h'
    · exact Ward.lt_trans (sorted_lt hs hn h') hlt
    · have e : a = h := by omega
      subst e; exact hlt, H.high⟩
theorem Half.down {p : Ward.Pt} {L : List Ward.Pt} {i j h : Nat} (H : Half p L i j) (hs : Ward.Sorted L) (h1 : i ≤ h) (h2 : h < j) (hn : h < L.length) (hlt : ¬ Ward.lt L[h] p) : Half p L i h :=
  ⟨h1, by omega, H.low, fun a ha hah => by
    rcases Nat.lt_or_ge h a with h' | h'
    · exact fun k => hlt (Ward.lt_trans (sorted_lt hs ha h') k)
    · have e : a = h := by omega
      subst e; exact hlt⟩
theorem Half.parts {p : Ward.Pt} {L : List Ward.Pt} {i : Nat} (H : Half p L i i) : Ward.Parts p L i := ⟨H.jn, H.low, H.high⟩

set_option maxHeartbeats 1000000 in
theorem search_any (v : Value) (L : List Ward.Pt) (p : Ward.Pt) (w : World) (hL : Reads w v L) (hs : Ward.Sorted L) (hl : L.length ≤ 1000) :
    Calls Tryz.prog 34 #[v, .agg #[I p.id, I p.x, I p.y], .func (.func 35) #[] #[]] w fun e w' => ∃ (k : Nat) (b : Bool), e = .returned (.tuple #[I k, .bool b]) ∧ Ward.Parts p L k ∧ Below w.heap.size w w' := by
  have hL1 := hL.below ((Below.refl w.heap.size w).alloc (Nat.le_refl _) (.cells #[I p.id, I p.x, I p.y] 36))
  obtain ⟨a, c, rfl, hc⟩ := hL
  have HC := hide hc
  have HS := hide hs
  clear hc hs hL1
  go_enter Tryz.func34, Tryz.ntmps34
  go_wp2
  go_loopw [9, 10] (fun vi vj wq => ∃ i j : Nat, vi = I i ∧ vj = I j ∧ Half p L i j ∧ PtAt wq w.heap.size 0 p ∧ Below w.heap.size w wq) (fun vi vj _ => (intOf vj).toNat - (intOf vi).toNat)
  case atStart => exact ⟨0, L.length, rfl, rfl, ⟨by omega, by omega, fun a _ h => absurd h (by omega), fun a h h' => absurd h (by omega)⟩, row3 (heap_alloc_new w _), (Below.refl _ _).alloc (Nat.le_refl _) _⟩
  case round =>
    obtain ⟨i, j, rfl, rfl, hH, hpt, hb⟩ := hrel
    have hij := hH.ij
    have hjn := hH.jn
    have HH := hide hH
    clear hH
    by_cases hlt : i < j
    · obtain ⟨h, hh⟩ : ∃ h : Nat, h = (i + j) / 2 := ⟨_, rfl⟩
      have hhn : h < L.length := by omega
      obtain ⟨g, o, rfl, hp⟩ := HC.out (fun e => by subst e; simp at hhn)
      have hpi := (hp _ hhn).below hb (hp _ hhn).lt
      have hgl := (hp _ hhn).lt
      have HU := hide (HH.out.up HS.out (h := h) (by omega) (by omega) hhn)
      have HD := hide (HH.out.down HS.out (h := h) (by omega) (by omega) hhn)
      generalize L[h] = q at *
      clear hp
      go_wp2_with fail
      rw [show ((i : Int) + (j : Int)) / 2 = (h : Int) by omega]
      have HX := hide hh
      have HB := hide hb
      have hs := hb.size
      clear hh hb
      obtain ⟨pi, px, py⟩ := p
      obtain ⟨qi, qx, qy⟩ := q
      have hS : (wr.cell? ⟨g, o + h * 3, none⟩ = some (I qi) ∧ wr.cell? ⟨g, o + h * 3 + 1, none⟩ = some (I qx) ∧ wr.cell? ⟨g, o + h * 3 + 2, none⟩ = some (I qy)) ∧ wr.cell? ⟨w.heap.size, 0, none⟩ = some (I pi) ∧ wr.cell? ⟨w.heap.size, 1, none⟩ = some (I px) ∧ wr.cell? ⟨w.heap.size, 2, none⟩ = some (I py) := ⟨hpi, hpt⟩
      have hgr : g < wr.heap.size := hpi.lt
      have hwr : w.heap.size < wr.heap.size := hpt.lt
      clear hpi hpt
      go_region_held3 (fun W => (W.cell? ⟨g, o + h * 3, none⟩ = some (I qi) ∧ W.cell? ⟨g, o + h * 3 + 1, none⟩ = some (I qx) ∧ W.cell? ⟨g, o + h * 3 + 2, none⟩ = some (I qy)) ∧ W.cell? ⟨w.heap.size, 0, none⟩ = some (I pi) ∧ W.cell? ⟨w.heap.size, 1, none⟩ = some (I px) ∧ W.cell? ⟨w.heap.size, 2, none⟩ = some (I py)) (first | assumption | exact hS) ((go_at_call 35; refine (compare_any ⟨qi, qx, qy⟩ ⟨pi, px, py⟩ _).mono ?_; rintro _ w1 ⟨rfl, hb1⟩; have hS1 := (show PtAt wr.drew g (o + h * 3) ⟨qi, qx, qy⟩ ∧ PtAt wr.drew w.heap.size 0 ⟨pi, px, py⟩ from hS); have hS2 := And.intro (hS1.1.below hb1 hgr) (hS1.2.below hb1 hwr); clear hS1))
      have HB1 := hide ((HB.out.drew).trans (hb1.mono hs))
      have HP1 := hide hS2.2
      clear hS2 hS hb1
      by_cases hq : Ward.lt ⟨qi, qx, qy⟩ ⟨pi, px, py⟩
      · have hc := (cmpP_lt ⟨qi, qx, qy⟩ ⟨pi, px, py⟩).2 hq
        have hU := HU.out hq
        go_wp2
        go_roundw
        case rel => exact ⟨h + 1, j, by go_num, rfl, hU, HP1.out, HB1.out⟩
        case measure => have := HX.out; simp [intOf]; omega
      · have hc : ¬ cmpP ⟨qi, qx, qy⟩ ⟨pi, px, py⟩ < 0 := fun k => hq ((cmpP_lt _ _).1 k)
        have hD := HD.out hq
        go_wp2
        go_roundw
        case rel => exact ⟨i, h, rfl, by go_num, hD, HP1.out, HB1.out⟩
        case measure => have := HX.out; simp [intOf]; omega
    · have e : i = j := by omega
      subst e
      have hk := HH.out.parts
      by_cases hn : i < L.length
      · obtain ⟨g, o, rfl, hp⟩ := HC.out (fun e => by subst e; simp at hn)
        have hpi := (hp _ hn).below hb (hp _ hn).lt
        generalize L[i] = q at *
        clear hp
        have HB := hide hb
        have hs := hb.size
        have HK := hide hk
        clear hb hk
        obtain ⟨pi, px, py⟩ := p
        obtain ⟨qi, qx, qy⟩ := q
        have hS : (wr.cell? ⟨g, o + i * 3, none⟩ = some (I qi) ∧ wr.cell? ⟨g, o + i * 3 + 1, none⟩ = some (I qx) ∧ wr.cell? ⟨g, o + i * 3 + 2, none⟩ = some (I qy)) ∧ wr.cell? ⟨w.heap.size, 0, none⟩ = some (I pi) ∧ wr.cell? ⟨w.heap.size, 1, none⟩ = some (I px) ∧ wr.cell? ⟨w.heap.size, 2, none⟩ = some (I py) := ⟨hpi, hpt⟩
        have hgr : g < wr.heap.size := hpi.lt
        have hwr : w.heap.size < wr.heap.size := hpt.lt
        clear hpi hpt
        go_wp2_with fail
        go_region_held3 (fun W => (W.cell? ⟨g, o + i * 3, none⟩ = some (I qi) ∧ W.cell? ⟨g, o + i * 3 + 1, none⟩ = some (I qx) ∧ W.cell? ⟨g, o + i * 3 + 2, none⟩ = some (I qy)) ∧ W.cell? ⟨w.heap.size, 0, none⟩ = some (I pi) ∧ W.cell? ⟨w.heap.size, 1, none⟩ = some (I px) ∧ W.cell? ⟨w.heap.size, 2, none⟩ = some (I py)) (first | assumption | exact hS) ((go_at_call 35; refine (compare_any ⟨qi, qx, qy⟩ ⟨pi, px, py⟩ _).mono ?_; rintro _ w1 ⟨rfl, hb1⟩; have hS1 := (show PtAt wr.drew g (o + i * 3) ⟨qi, qx, qy⟩ ∧ PtAt wr.drew w.heap.size 0 ⟨pi, px, py⟩ from hS); have hS2 := And.intro (hS1.1.below hb1 hgr) (hS1.2.below hb1 hwr); clear hS1))
        have HB1 := hide ((HB.out.drew).trans (hb1.mono hs))
        go_wp2
        go_ret2
        exact ⟨i, _, rfl, HK.out, HB1.out⟩
      · have hnf : decide ((i : Int) < (L.length : Int)) = false := decide_eq_false (by omega)
        have HB := hide hb
        have HK := hide hk
        clear hb hk hpt
        go_wp2_with fail
        go_quiet (fail)
        go_wp2
        go_ret2
        exact ⟨i, _, rfl, HK.out, ⟨HB.out.os, HB.out.tape, HB.out.output, HB.out.size, HB.out.block⟩⟩
end Go.Proofs.YtenaelkbgkpllaaGreatDoor
/- Rows of points: what a copy makes of them. -/
namespace Go.Proofs.YtenaelkbgkpllaaGreatDoor
open Go.RowKit

theorem Tryz.infoPt : (Tryz.prog.info? 36).map (fun i => (i.zero, i.size, i.bytes)) = some (some (.agg #[I 0, I 0, I 0]), 3, 24) := by kernel_rfl
theorem Tryz.sizePt : (Tryz.prog.info? 36).map (·.size) = some 3 := by kernel_rfl
theorem P3_len (p : Ward.Pt) : (P3 p).length = 3 := rfl
theorem cells_len : ∀ (L : List Ward.Pt), (L.flatMap P3).length = L.length * 3
  | [] => rfl
  | p :: L => by rw [List.flatMap_cons, List.length_append, cells_len L, P3_len, List.length_cons]; omega
theorem cells_one {L : List Ward.Pt} : ∀ v ∈ L.flatMap P3, v.oneCell' = true := fun v hv => by
  obtain ⟨p, _, hp⟩ := List.mem_flatMap.1 hv
  simp [P3] at hp
  rcases hp with rfl | rfl | rfl <;> rfl
theorem cells_take (L : List Ward.Pt) (k : Nat) : (L.flatMap P3).take (k * 3) = (L.take k).flatMap P3 := by
  induction L generalizing k with
  | nil => simp
  | cons p L ih =>
    cases k with
    | zero => simp
    | succ k =>
      rw [List.flatMap_cons, List.take_succ_cons, List.flatMap_cons, show (k + 1) * 3 = (P3 p).length + k * 3 by rw [P3_len]; omega, List.take_length_add_append, ih]
theorem cells_drop (L : List Ward.Pt) (k : Nat) : (L.flatMap P3).drop (k * 3) = (L.drop k).flatMap P3 := by
  induction L generalizing k with
  | nil => simp
  | cons p L ih =>
    cases k with
    | zero => simp
    | succ k =>
      rw [List.flatMap_cons, List.drop_succ_cons, show (k + 1) * 3 = (P3 p).length + k * 3 by rw [P3_len]; omega, List.drop_length_add_append, ih]
/-- a piece of a list written over -/
def over (R : List Value) (o : Nat) (cs : List Value) : List Value := R.take o ++ cs ++ R.drop (o + cs.length)
theorem over_take {R cs : List Value} {o : Nat} (h : o ≤ R.length) : (over R o cs).take (o + cs.length) = R.take o ++ cs := by
  unfold over
  rw [List.take_append_of_le_length (by simp; omega), List.take_of_length_le (by simp; omega)]
theorem over_len {R cs : List Value} {o : Nat} (h : o + cs.length ≤ R.length) : (over R o cs).length = R.length := by
  unfold over; simp; omega
theorem over_low {R cs : List Value} {o k : Nat} (hk : k ≤ o) (h : o ≤ R.length) : (over R o cs).take k = R.take k := by
  unfold over
  rw [List.append_assoc, List.take_append_of_le_length (by simp; omega), List.take_take, Nat.min_eq_left hk]
/-- first the piece, then what is behind it -/
theorem over_two {R a b : List Value} {o : Nat} (h : o + a.length + b.length ≤ R.length) : (over (over R o a) (o + a.length) b).take (o + a.length + b.length) = R.take o ++ a ++ b := by
  rw [over_take (by rw [over_len (by omega)]; omega), over_take (by omega)]
/-- first what is behind it, then the piece -/
theorem over_back {R a b : List Value} {o : Nat} (h : o + a.length + b.length ≤ R.length) : (over (over R (o + a.length) b) o a).take (o + a.length + b.length) = R.take o ++ a ++ b := by
  have e1 : (over (over R (o + a.length) b) o a) = R.take o ++ a ++ (over R (o + a.length) b).drop (o + a.length) := by
    show (over R (o + a.length) b).take o ++ a ++ _ = _
    rw [over_low (by omega) (by omega)]
  have e2 : (over R (o + a.length) b).drop (o + a.length) = b ++ R.drop (o + a.length + b.length) := by
    unfold over
    rw [List.append_assoc, List.drop_append, List.drop_eq_nil_of_le (by simp; omega), List.nil_append]
    simp only [List.length_take, Nat.min_eq_left (show o + a.length ≤ R.length by omega), Nat.sub_self, List.drop_zero]
  have hl : (R.take o ++ a).length = o + a.length := by simp; omega
  rw [e1, e2, ← hl, List.take_length_add_append, List.take_append_of_le_length (Nat.le_refl _), List.take_length]
/-- a row's piece as a source -/
theorem row_src {w : World} {g o t n : Nat} {cur : Array Value} {fr : Nat × Nat} (h : w.heap[g]? = some (.cells cur t fr)) : ∀ j v, ((cur.toList.drop o).take n)[j]? = some v → w.cell? ((⟨g, o, none⟩ : Addr).add j) = some v := fun j v hj => by
  have hadd : (⟨g, o, none⟩ : Addr).add j = ⟨g, o + j, none⟩ := by unfold Addr.add; split <;> simp_all
  rw [hadd, cell_of_row w g (o + j) cur t fr h]
  rw [List.getElem?_take] at hj
  split at hj
  · rw [List.getElem?_drop] at hj; simpa using hj
  · cases hj
/-- copy between rows of more cells than one -/
theorem run_copy_rowK {P : Program} (w : World) (dT sT ty elem : TypeId) (k g o dLen dCap : Nat) (a : Addr) (sLen sCap n : Nat) (cur : Array Value) (t : TypeId) (cs : List Value)
    (hu : P.underlying dT = some (.slice elem)) (hs : (P.info? elem).map (·.size) = some k)
    (hg : w.heap[g]? = some (.cells cur t (0, 0))) (hn : n = Nat.min sLen dLen) (hl : cs.length = n * k)
    (hsrc : ∀ j v, cs[j]? = some v → w.cell? (a.add j) = some v) (hfit : o + cs.length ≤ cur.size) (h1 : ∀ v ∈ cs, v.oneCell' = true) :
    (Builtin.copy_ #[dT, sT] ty #[.slice (some ⟨g, o, none⟩) dLen dCap, .slice (some a) sLen sCap]).run P w =
      .ok (goInt n) (w.setRow g (over cur.toList o cs).toArray) := by
  have hf := run_firstCells_some (P := P) w k n a sLen sCap cs hl hsrc
  have hst := run_storeCells_at P g o t cs 0 cur w hg (by simpa using hfit) h1
  cases hq : P.info? elem with
  | none => simp [hq] at hs
  | some i =>
    have hi : i.size = k := by simpa [hq] using hs
    simp [Builtin.copy_, run_underlying hu, Builtin.lenOf, sizeOf, typeInfo, hq, hi, ← hn, hf, hst, over]
/-- the row is the old one, or one that was not there -/
def Fresh (w : World) (v v' : Value) : Prop := v'.ownBlock = v.ownBlock ∨ ∃ g, v'.ownBlock = some g ∧ w.heap.size ≤ g
/-- append to a row of one's own, with word of where the new row lies -/
theorem run_append_own2 {P : Program} (w : World) (base : Nat) (t ty e : TypeId) (i : TypeInfo) (z : Value) (size bytes : Nat) (ht : P.underlying t = some (.slice e)) (hi : P.info? e = some i) (hz : i.zero = some z)
    (hsize : i.size = size) (hby : i.bytes = bytes) (hzs : z.cells.size = size) (hsz : 0 < size)
    (v : Value) (n : Nat) (xs : List Value) (hown : w.ownsRow base e size v n xs)
    (a : Addr) (m c : Nat) (news : List Value) (hl : news.length = m * size) (hnews : ∀ j u, news[j]? = some u → w.cell? (a.add j) = some u) (h1 : ∀ u ∈ news, u.oneCell' = true)
    (h63 : n + m ≤ maxLen) (hbytes : (n + m) * bytes ≤ 140737488355328) (hbase : base ≤ w.heap.size) :
    ∃ v' w', (Builtin.append_ #[t, t] ty #[v, .slice (some a) m c]).run P w = .ok v' w' ∧ w'.ownsRow base e size v' (n + m) (xs ++ news) ∧ w.grownBy w' v.ownBlock ∧ Fresh w v v' := by
  obtain ⟨v', w', hr, ho, hg, -⟩ := run_append_own w base t ty e i z size bytes ht hi hz hsize hby hzs hsz v n xs hown a m c news hl hnews h1 h63 hbytes hbase
  refine ⟨v', w', hr, ho, hg, ?_⟩
  have h63' := h63
  unfold maxLen at h63'
  rcases hown.2 with ⟨rfl, rfl⟩ | ⟨g, cap, cur, rfl, hb, hgg, hcap, hmax, hcs, htake⟩
  · obtain ⟨v2, w2, hr2, ho2, -⟩ := run_append_own w w.heap.size t ty e i z size bytes ht hi hz hsize hby hzs hsz (.slice none 0 0) 0 [] (World.ownsRow_nil _ _ _ _) a m c news hl hnews h1 h63 hbytes (Nat.le_refl _)
    rw [hr] at hr2
    injection hr2 with e1 e2
    subst e1
    rcases ho2.2 with ⟨rfl, _⟩ | ⟨g, cap, cur, rfl, hb, _⟩
    · exact .inl rfl
    · exact .inr ⟨g, rfl, hb⟩
  · subst hsize
    by_cases hroom : n + m ≤ cap
    · have hx : n * i.size + news.length ≤ cur.size := by
        rw [hl, hcs, ← Nat.add_mul]; exact Nat.mul_le_mul_right _ hroom
      have hr2 := run_append_room w t ty e i ht hi g n cap cur hgg a m c news hl hnews h1 hroom hx
      rw [hr] at hr2
      injection hr2 with e1 e2
      subst e1
      exact .inl rfl
    · have hold : ∀ j u, xs[j]? = some u → w.cell? ((⟨g, 0, none⟩ : Addr).add j) = some u := hown.cells rfl
      have hr2 := run_append_grow (P := P) w t ty e i z ht hi hz ⟨g, 0, none⟩ n cap xs hown.1 hold a m c news hl hnews (by omega) (by omega) (by rw [hby]; exact growslice_fits (by omega) hbytes)
      rw [hr] at hr2
      injection hr2 with e1 e2
      subst e1
      exact .inr ⟨_, rfl, Nat.le_refl _⟩
theorem wpList_append_own2 {P : Program} (w : World) {ops : Array Oper} {rest : List Oper} {o : Oper} {a : Act} {Q : Exit → Act → World → Prop} (hgd : o.guard = none) (s x : Operand) (t : TypeId)
    (ho : o.op = .call { callee := .builtin .append, args := #[s, x], argTypes := #[t, t] })
    (base : Nat) (e : TypeId) (i : TypeInfo) (z : Value) (size bytes : Nat) (ht : P.underlying t = some (.slice e)) (hi : P.info? e = some i) (hz : i.zero = some z)
    (hsize : i.size = size) (hby : i.bytes = bytes) (hzs : z.cells.size = size) (hsz : 0 < size)
    (v : Value) (n : Nat) (xs : List Value) (hs : a.eval s = v) (hown : w.ownsRow base e size v n xs)
    (ad : Addr) (m c : Nat) (news : List Value) (hx : a.eval x = .slice (some ad) m c) (hl : news.length = m * size) (hnews : ∀ j u, news[j]? = some u → w.cell? (ad.add j) = some u) (h1 : ∀ u ∈ news, u.oneCell' = true)
    (h63 : n + m ≤ maxLen) (hbytes : (n + m) * bytes ≤ 140737488355328) (hbase : base ≤ w.heap.size)
    (h : ∀ v' w', w'.ownsRow base e size v' (n + m) (xs ++ news) → w.grownBy w' v.ownBlock → Fresh w v v' → wpList P ops Q rest (a.put o.dst v') w') : wpList P ops Q (o :: rest) a w := by
  obtain ⟨v', w', hr, h1', h2', h3'⟩ := run_append_own2 (P := P) w base t o.type e i z size bytes ht hi hz hsize hby hzs hsz v n xs hown ad m c news hl hnews h1 h63 hbytes hbase
  exact Lib.wpList_append_run w hgd s x t t ho v _ hs hx v' w' hr (h v' w' h1' h2' h3')
end Go.Proofs.YtenaelkbgkpllaaGreatDoor
