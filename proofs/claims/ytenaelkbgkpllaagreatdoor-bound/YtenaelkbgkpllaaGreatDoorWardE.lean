/- Queries, distances, the answers to them, what must be shown. -/
import Derived.Test.YtenaelkbgkpllaaGreatDoorWardD
namespace Go.Proofs.YtenaelkbgkpllaaGreatDoor
namespace Ward
/-- a query -/
structure Qr where
  kind : Int
  a : Int
  b : Int
  c : Int
  d : Int
  x : Int
  y : Int
  k : Int
def coordOk (n : Int) : Bool := decide (-1000000 ≤ n ∧ n ≤ 1000000)
theorem coord_yes {n : Int} (h : -1000000 ≤ n ∧ n ≤ 1000000) : coordOk n = true := decide_eq_true h
theorem coord_no {n : Int} (h : ¬ (-1000000 ≤ n ∧ n ≤ 1000000)) : coordOk n = false := decide_eq_false h
def boxMay (b : Box) : Bool := coordOk b.a && coordOk b.b && coordOk b.c && coordOk b.d && decide (b.a ≤ b.c) && decide (b.b ≤ b.d)
def window (q : Qr) : Box := ⟨q.a, q.b, q.c, q.d⟩
def mayBe (q : Qr) : Bool := if q.kind = 0 then boxMay (window q) else if q.kind = 1 then coordOk q.x && coordOk q.y && decide (1 ≤ q.k) && decide (q.k ≤ 20) else false
/-- how far a box is from a place -/
def gap (lo hi x : Int) : Int := max (max (lo - x) 0) (x - hi)
def dist (b : Box) (x y : Int) : Int := gap b.a b.c x * gap b.a b.c x + gap b.b b.d y * gap b.b b.d y
def distP (p : Pt) (x y : Int) : Int := dist (boxOf p) x y
theorem gap_nonneg (lo hi x : Int) : 0 ≤ gap lo hi x := by unfold gap; omega
theorem dist_nonneg (b : Box) (x y : Int) : 0 ≤ dist b x y := by
  unfold dist
  have h1 := Int.mul_nonneg (gap_nonneg b.a b.c x) (gap_nonneg b.a b.c x)
  have h2 := Int.mul_nonneg (gap_nonneg b.b b.d y) (gap_nonneg b.b b.d y)
  omega
theorem gap_mono {lo hi lo' hi' x : Int} (h1 : lo ≤ lo') (h2 : hi' ≤ hi) : gap lo hi x ≤ gap lo' hi' x := by unfold gap; omega
/-- a box holds another -/
def Box.has (b c : Box) : Prop := b.a ≤ c.a ∧ b.b ≤ c.b ∧ c.c ≤ b.c ∧ c.d ≤ b.d
theorem dist_mono {b c : Box} (h : b.has c) (x y : Int) : dist b x y ≤ dist c x y := by
  obtain ⟨h1, h2, h3, h4⟩ := h
  unfold dist
  have g1 := gap_mono (x := x) h1 h3
  have g2 := gap_mono (x := y) h2 h4
  have e1 := Int.mul_le_mul g1 g1 (gap_nonneg _ _ _) (gap_nonneg _ _ _)
  have e2 := Int.mul_le_mul g2 g2 (gap_nonneg _ _ _) (gap_nonneg _ _ _)
  omega
/-- which of two points is nearer, by id where none is -/
def nr (x y : Int) (p q : Pt) : Prop := distP p x y < distP q x y ∨ (distP p x y = distP q x y ∧ p.id < q.id)
instance (x y : Int) (p q : Pt) : Decidable (nr x y p q) := by unfold nr; infer_instance
theorem nr_irrefl (x y : Int) (p : Pt) : ¬ nr x y p p := by unfold nr; omega
theorem nr_trans {x y : Int} {p q r : Pt} (h : nr x y p q) (k : nr x y q r) : nr x y p r := by unfold nr at *; omega
theorem nr_total {x y : Int} {p q : Pt} (hn : p.id ≠ q.id) (h : ¬ nr x y p q) : nr x y q p := by unfold nr at *; omega
section
variable (r : Pt → Pt → Prop) [∀ p q, Decidable (r p q)]
/-- a point put in at its place, by whatever order -/
def insR (p : Pt) (l : List Pt) : List Pt := l.takeWhile (fun q => decide (r q p)) ++ p :: l.dropWhile (fun q => decide (r q p))
def sortR (l : List Pt) : List Pt := l.foldr (insR r) []
theorem insR_perm (p : Pt) (l : List Pt) : (insR r p l).Perm (p :: l) := by
  unfold insR
  have := List.perm_middle (a := p) (l₁ := l.takeWhile (fun q => decide (r q p))) (l₂ := l.dropWhile (fun q => decide (r q p)))
  rw [List.takeWhile_append_dropWhile] at this
  exact this
theorem sortR_perm : ∀ (l : List Pt), (sortR r l).Perm l
  | [] => List.Perm.refl _
  | p :: l => (insR_perm r p (sortR r l)).trans ((sortR_perm l).cons p)
end
section
variable {r : Pt → Pt → Prop} [∀ p q, Decidable (r p q)]
theorem takeWhile_r {p : Pt} : ∀ {l : List Pt}, ∀ q ∈ l.takeWhile (fun q => decide (r q p)), r q p
  | q :: l, s, hs => by
    by_cases h : r q p
    · simp [List.takeWhile, h] at hs
      rcases hs with rfl | hs
      · exact h
      · exact takeWhile_r s hs
    · simp [List.takeWhile, h] at hs
theorem dropWhile_r {p : Pt} (ht : ∀ a b c : Pt, r a b → r b c → r a c) : ∀ {l : List Pt}, l.Pairwise r → ∀ q ∈ l.dropWhile (fun q => decide (r q p)), ¬ r q p
  | q :: l, hs, s, hr => by
    obtain ⟨h1, h2⟩ := List.pairwise_cons.1 hs
    by_cases h : r q p
    · simp [List.dropWhile, h] at hr
      exact dropWhile_r ht h2 s hr
    · simp [List.dropWhile, h] at hr
      rcases hr with rfl | hr
      · exact h
      · exact fun k => h (ht _ _ _ (h1 s hr) k)
theorem insR_sorted (ht : ∀ a b c : Pt, r a b → r b c → r a c) (hto : ∀ a b : Pt, a.id ≠ b.id → ¬ r a b → r b a) {p : Pt} {l : List Pt} (h : l.Pairwise r) (hn : ∀ q ∈ l, q.id ≠ p.id) : (insR r p l).Pairwise r := by
  unfold insR
  refine List.pairwise_append.2 ⟨h.sublist (List.takeWhile_sublist _), List.pairwise_cons.2 ⟨fun q hq => ?_, h.sublist (List.dropWhile_sublist _)⟩, fun q hq s hs => ?_⟩
  · exact hto _ _ (hn q ((List.dropWhile_sublist _).subset hq)) (dropWhile_r ht h q hq)
  · rcases List.mem_cons.1 hs with rfl | hs
    · exact takeWhile_r q hq
    · have hall : (l.takeWhile (fun q => decide (r q p)) ++ l.dropWhile (fun q => decide (r q p))).Pairwise r := by rw [List.takeWhile_append_dropWhile]; exact h
      exact (List.pairwise_append.1 hall).2.2 q hq s hs
theorem sortR_sorted (ht : ∀ a b c : Pt, r a b → r b c → r a c) (hto : ∀ a b : Pt, a.id ≠ b.id → ¬ r a b → r b a) : ∀ {l : List Pt}, Ids l → (sortR r l).Pairwise r
  | [], _ => List.Pairwise.nil
  | p :: l, h => by
    obtain ⟨h1, h2⟩ := List.pairwise_cons.1 h
    exact insR_sorted ht hto (sortR_sorted ht hto h2) fun q hq => (h1 q ((sortR_perm r l).mem_iff.1 hq)).symm
end
theorem eq_of_sorted {r : Pt → Pt → Prop} (hi : ∀ a, ¬ r a a) (ht : ∀ a b c : Pt, r a b → r b c → r a c) {l m : List Pt} (hl : l.Pairwise r) (hm : m.Pairwise r) (h : l.Perm m) : l = m :=
  h.eq_of_pairwise (fun a _ _ _ hab hba => absurd (ht _ _ _ hab hba) (hi a)) hl hm
theorem lt_tot {p q : Pt} (hn : p.id ≠ q.id) (h : ¬ lt p q) : lt q p := by unfold lt at *; omega
/-- in order -/
def sortP (l : List Pt) : List Pt := sortR lt l
/-- the nearest first -/
def sortN (x y : Int) (l : List Pt) : List Pt := sortR (nr x y) l
theorem sortP_perm (l : List Pt) : (sortP l).Perm l := sortR_perm _ l
theorem sortN_perm (x y : Int) (l : List Pt) : (sortN x y l).Perm l := sortR_perm _ l
theorem sortP_sorted {l : List Pt} (h : Ids l) : Sorted (sortP l) := sortR_sorted (r := lt) (fun _ _ _ => lt_trans) (fun _ _ => lt_tot) h
theorem sortN_sorted {x y : Int} {l : List Pt} (h : Ids l) : (sortN x y l).Pairwise (nr x y) := sortR_sorted (r := nr x y) (fun _ _ _ => nr_trans) (fun _ _ => nr_total) h
theorem sortP_eq {l m : List Pt} (hm : Sorted m) (h : m.Perm l) (hi : Ids l) : sortP l = m := sorted_eq (sortP_sorted hi) hm ((sortP_perm l).trans h.symm)
theorem sortN_eq {x y : Int} {l m : List Pt} (hm : m.Pairwise (nr x y)) (h : m.Perm l) (hi : Ids l) : sortN x y l = m := eq_of_sorted (r := nr x y) (nr_irrefl x y) (fun _ _ _ => nr_trans) (sortN_sorted hi) hm ((sortN_perm x y l).trans h.symm)
theorem sortN_congr {x y : Int} {l m : List Pt} (h : m.Perm l) (hi : Ids l) : sortN x y m = sortN x y l := (sortN_eq (x := x) (y := y) (sortN_sorted ((ids_perm h).2 hi)) ((sortN_perm x y m).trans h) hi).symm
theorem sortP_congr {l m : List Pt} (h : m.Perm l) (hi : Ids l) : sortP m = sortP l := (sortP_eq (sortP_sorted ((ids_perm h).2 hi)) ((sortP_perm m).trans h) hi).symm
/-- the nearest of all comes first -/
theorem sortN_head {x y : Int} {p : Pt} {l m : List Pt} (h : l.Perm (p :: m)) (hi : Ids l) (hp : ∀ q ∈ m, nr x y p q) : sortN x y l = p :: sortN x y m := by
  have hi' : Ids (p :: m) := (ids_perm h).1 hi
  refine sortN_eq (List.pairwise_cons.2 ⟨fun q hq => hp q ((sortN_perm x y m).mem_iff.1 hq), sortN_sorted (List.pairwise_cons.1 hi').2⟩) ?_ hi
  exact ((sortN_perm x y m).cons p).trans h.symm
/-- is a point in a box -/
def inB (b : Box) (p : Pt) : Bool := meets b (boxOf p)
/-- the answer of these points -/
def ans (q : Qr) (P : List Pt) : List Pt := if q.kind = 1 then (sortN q.x q.y P).take q.k.toNat else sortP (P.filter (inB (window q)))
theorem ids_sub {l m : List Pt} (h : m.Sublist l) (hl : Ids l) : Ids m := hl.sublist h
theorem ans_congr {q : Qr} {l m : List Pt} (h : m.Perm l) (hi : Ids l) : ans q m = ans q l := by
  unfold ans
  split
  · rw [sortN_congr h hi]
  · exact sortP_congr (h.filter _) (ids_sub List.filter_sublist hi)
/-- a child of that box must be shown -/
def must (q : Qr) (a : List Pt) (b : Box) : Bool :=
  if q.kind = 0 then meets (window q) b else if (a.length : Int) < q.k then true else decide (dist b q.x q.y ≤ match a.getLast? with | some p => distP p q.x q.y | none => 0)
/-- all points below a node -/
def allN : (n : Nat) → NT n → List Pt
  | 0, t => nomatch t
  | n + 1, t => Nd.pts t ++ (Nd.kids t).flatMap (allN n)
/-- what is said of the boxes holds all that is below -/
def Encl : (n : Nat) → NT n → Prop
  | 0, t => nomatch t
  | n + 1, t => (∀ p ∈ Nd.pts t, (Nd.box t).has (boxOf p)) ∧ ∀ c ∈ Nd.kids t, (∀ p ∈ allN n c, (boxN n c).has (boxOf p)) ∧ Encl n c
end Ward
end Go.Proofs.YtenaelkbgkpllaaGreatDoor
