/- The document's levels: parts in a row; the leaves. -/
import Derived.Test.YtenaelkbgkpllaaGreatDoorProven19
namespace Go.Proofs.YtenaelkbgkpllaaGreatDoor
open Go.RowKit

def zeroPart : Value := .agg (partV ⟨0, 0, 0, 0⟩ 0 [] 0 0 (.slice none 0 0))
theorem Tryz.infoPartZ : (Tryz.prog.info? 150).map (fun i => (i.zero, i.size, i.bytes)) = some (some zeroPart, 9, 96) := by kernel_rfl
theorem Tryz.infoPartsZ : (Tryz.prog.info? 151).map (fun i => (i.zero, i.size, i.bytes)) = some (some (.slice none 0 0), 1, 24) := by kernel_rfl
/-- a part put behind others -/
theorem append_part {w : World} {B : Nat} {v : Value} {n : Nat} {xs : List Value} (M : List Value) (h9 : M.length = 9) (h1 : ∀ u ∈ M, u.oneCell' = true) (hown : w.ownsRow B 150 9 v n xs) (hB : B ≤ w.heap.size) (hn : n ≤ 1000) :
    ∃ v' w', (Builtin.append_ #[151, 151] 151 #[v, .slice (some ⟨w.heap.size, 0, none⟩) 1 1]).run Tryz.prog (w.alloc (.cells M.toArray 150)) = .ok v' w' ∧ w'.ownsRow B 150 9 v' (n + 1) (xs ++ M) ∧ w.grownBy w' v.ownBlock ∧ Fresh w v v' := by
  obtain ⟨i0, hi0, hz0, hz1, hz2⟩ := info_parts Tryz.infoPartZ
  obtain ⟨v', w', hr, ho, hg, hf⟩ := run_append_own2 (P := Tryz.prog) (w.alloc (.cells M.toArray 150)) B 151 151 150 i0 zeroPart 9 96 Tryz.underlying151 hi0 hz0 hz1 hz2 rfl (by decide) v n xs (hown.alloc _) ⟨w.heap.size, 0, none⟩ 1 1 M (by rw [h9])
    (fun j u hj => by rw [Addr.add_lit, Nat.zero_add, cell_of_row _ _ _ _ _ _ (heap_alloc_new w _), List.getElem?_toArray]; exact hj)
    h1 (by unfold maxLen; omega) (by omega) (by simp; omega)
  refine ⟨v', w', hr, ho, ⟨hg.os, hg.tape, hg.output, Nat.le_trans (by simp) hg.size, fun j hj hne => (hg.block j (by simp; omega) hne).trans (Below.heap_alloc w _ j hj)⟩, ?_⟩
  rcases hf with hf | ⟨g, hf, hgs⟩
  · exact .inl hf
  · exact .inr ⟨g, hf, Nat.le_trans (by simp) hgs⟩
/-- a level's row put behind others -/
theorem append_level {w : World} {B : Nat} {v : Value} {n : Nat} {xs : List Value} (x : Value) (h1 : x.oneCell' = true) (hown : w.ownsRow B 151 1 v n xs) (hB : B ≤ w.heap.size) (hn : n ≤ 1000) :
    ∃ v' w', (Builtin.append_ #[145, 145] 145 #[v, .slice (some ⟨w.heap.size, 0, none⟩) 1 1]).run Tryz.prog (w.alloc (.cells #[x] 151)) = .ok v' w' ∧ w'.ownsRow B 151 1 v' (n + 1) (xs ++ [x]) ∧ w.grownBy w' v.ownBlock ∧ Fresh w v v' := by
  obtain ⟨i0, hi0, hz0, hz1, hz2⟩ := info_parts Tryz.infoPartsZ
  obtain ⟨v', w', hr, ho, hg, hf⟩ := run_append_own2 (P := Tryz.prog) (w.alloc (.cells #[x] 151)) B 145 145 151 i0 (.slice none 0 0) 1 24 Tryz.underlying145 hi0 hz0 hz1 hz2 rfl (by decide) v n xs (hown.alloc _) ⟨w.heap.size, 0, none⟩ 1 1 [x] rfl
    (fun j u hj => by rw [Addr.add_lit, Nat.zero_add, cell_of_row _ _ _ _ _ _ (heap_alloc_new w _), List.getElem?_toArray]; exact hj)
    (fun u hu => by rw [List.mem_singleton.1 hu]; exact h1) (by unfold maxLen; omega) (by omega) (by simp; omega)
  refine ⟨v', w', hr, ho, ⟨hg.os, hg.tape, hg.output, Nat.le_trans (by simp) hg.size, fun j hj hne => (hg.block j (by simp; omega) hne).trans (Below.heap_alloc w _ j hj)⟩, ?_⟩
  rcases hf with hf | ⟨g, hf, hgs⟩
  · exact .inl hf
  · exact .inr ⟨g, hf, Nat.le_trans (by simp) hgs⟩
/-- the part of a tree of that height at that place -/
def partL (n : Nat) (t : Ward.T n) (j : Nat) (x : Value) : List Value := (partV (Ward.box n t) (Ward.count n t : Nat) (Ward.text Sha.sha n t) (match n with | 0 => 0 | _ + 1 => 4 * (j : Int)) (match n, t with | 0, _ => 0 | m + 1, cs => (List.length (cs : List (Ward.T m)) : Nat)) x).toList
theorem partL_len (n : Nat) (t : Ward.T n) (j : Nat) (x : Value) : (partL n t j x).length = 9 := rfl
/-- a level in memory -/
def LevAt (w : World) (B : Nat) (v : Value) (n : Nat) (ls : List (Ward.T n)) : Prop := ∃ xs : Nat → Value, (∀ j, (xs j).oneCell' = true) ∧ w.ownsRow B 150 9 v ls.length ((List.range ls.length).flatMap fun j => match ls[j]? with | some t => partL n t j (xs j) | none => [])
theorem LevAt.keep {S : Nat → Prop} {w w' : World} {B n : Nat} {v : Value} {ls : List (Ward.T n)} (h : LevAt w B v n ls) (hk : Keeps S w w') (hn : ∀ g, v.ownBlock = some g → ¬ S g) : LevAt w' B v n ls := by
  obtain ⟨xs, h1, h2⟩ := h
  exact ⟨xs, h1, ownsRow_keepsS h2 hk hn⟩
theorem LevAt.below {w w' : World} {B n : Nat} {v : Value} {ls : List (Ward.T n)} (h : LevAt w B v n ls) (hb : Below w.heap.size w w') : LevAt w' B v n ls := h.keep (S := fun _ => False) (Keeps.of_below hb) (fun _ _ h => h)
/-- what stands in a level at a place -/
theorem LevAt.at {w : World} {B n : Nat} {v : Value} {ls : List (Ward.T n)} (h : LevAt w B v n ls) (j : Nat) (hj : j < ls.length) : ∃ g c x, v = .slice (some ⟨g, 0, none⟩) ls.length c ∧ B ≤ g ∧ g < w.heap.size ∧ ls.length ≤ c ∧ x.oneCell' = true ∧ w.rangeAt g (j * 9) (partL n ls[j] j x) := by
  obtain ⟨xs, h1, h2⟩ := h
  rcases h2.2 with ⟨_, h0⟩ | ⟨g, cap, cur, rfl, hB, hg, hcap, -, -, -⟩
  · omega
  refine ⟨g, cap, xs j, rfl, hB, (Array.getElem?_eq_some_iff.1 hg).1, hcap, h1 j, fun k u hu => ?_⟩
  have hk : k < 9 := (List.getElem?_eq_some_iff.1 hu).1
  have h := h2.cells (g := g) rfl (j * 9 + k) u (by
    rw [List.flatMap_def, flat_get (c := 9) _ j k (fun U hU => by
      obtain ⟨m, hm, rfl⟩ := List.mem_map.1 hU
      have hm' := List.mem_range.1 hm
      rw [List.getElem?_eq_getElem hm']
      rfl) hk, List.getElem?_map, List.getElem?_range hj, Option.map_some, Option.bind_some, List.getElem?_eq_getElem hj]
    exact hu)
  rw [Addr.add_lit, Nat.zero_add] at h
  exact h
end Go.Proofs.YtenaelkbgkpllaaGreatDoor
/- The document's levels: the leaves, one behind another. -/
namespace Go.Proofs.YtenaelkbgkpllaaGreatDoor
open Go.RowKit

theorem levAt_nil (w : World) (B n : Nat) : LevAt w B (.slice none 0 0) n [] := ⟨fun _ => .slice none 0 0, fun _ => rfl, World.ownsRow_nil _ _ _ _⟩
theorem levAt_push {w' : World} {B n : Nat} {v' : Value} {ls : List (Ward.T n)} {t : Ward.T n} {x : Value} (xs : Nat → Value) (h1 : ∀ j, (xs j).oneCell' = true) (hx : x.oneCell' = true)
    (h3 : w'.ownsRow B 150 9 v' (ls.length + 1) (((List.range ls.length).flatMap fun j => match ls[j]? with | some s => partL n s j (xs j) | none => []) ++ partL n t ls.length x)) : LevAt w' B v' n (ls ++ [t]) := by
  refine ⟨fun j => if j < ls.length then xs j else x, fun j => ?_, ?_⟩
  · show (if j < ls.length then xs j else x).oneCell' = true
    split
    · exact h1 j
    · exact hx
  · rw [List.length_append, List.length_singleton, List.range_succ, List.flatMap_append]
    have e1 : ((List.range ls.length).flatMap fun j => match (ls ++ [t])[j]? with | some s => partL n s j (if j < ls.length then xs j else x) | none => []) = (List.range ls.length).flatMap fun j => match ls[j]? with | some s => partL n s j (xs j) | none => [] := by
      refine Ward.flatMap_congr fun j hj => ?_
      have hj' := List.mem_range.1 hj
      rw [List.getElem?_append_left hj', if_pos hj']
    have e2 : ([ls.length].flatMap fun j => match (ls ++ [t])[j]? with | some s => partL n s j (if j < ls.length then xs j else x) | none => []) = partL n t ls.length x := by
      simp
    show w'.ownsRow B 150 9 v' (ls.length + 1) (((List.range ls.length).flatMap fun j => match (ls ++ [t])[j]? with | some s => partL n s j (if j < ls.length then xs j else x) | none => []) ++ ([ls.length].flatMap fun j => match (ls ++ [t])[j]? with | some s => partL n s j (if j < ls.length then xs j else x) | none => []))
    rw [e1, e2]
    exact h3
/-- the leaves, each -/
theorem leaves_at (K : List Ward.Pt) (j : Nat) (h : j < (Ward.leaves K).length) : (Ward.leaves K)[j] = (K.drop (4 * j)).take 4 := by
  unfold Ward.leaves at h ⊢
  by_cases h0 : K.length = 0
  · have e : K = [] := List.length_eq_zero_iff.1 h0
    subst e
    simp only [List.length_nil, if_true] at h ⊢
    have : j = 0 := by simp at h; omega
    subst this
    rfl
  · simp only [if_neg h0] at h ⊢
    exact Ward.fours_get K j h
theorem leaves_cond (K : List Ward.Pt) (j : Nat) (h : j ≤ (Ward.leaves K).length) : (j < (Ward.leaves K).length ↔ (4 * j < K.length ∨ 4 * j = 0)) := by
  unfold Ward.leaves at h ⊢
  by_cases h0 : K.length = 0
  · simp only [if_pos h0] at h ⊢
    simp at h ⊢
    omega
  · simp only [if_neg h0] at h ⊢
    rw [Ward.fours_length] at h ⊢
    omega
theorem leaf_part (G : List Ward.Pt) (x : Value) (j : Nat) : (partV (Ward.boxL (G.map Ward.boxOf)) G.length (Ward.leafText G) 0 0 x).toList = partL 0 G j x := rfl
/-- what Levels holds in hand -/
structure LvS (w : World) (r : Nat) (u : Value) (K : List Ward.Pt) (wq : World) : Prop where
  map : RMap wq r u K
  bl : Below w.heap.size w wq
/-- all levels in memory: the rows, one behind another; the last of them is v3 -/
def AllAt (w : World) (B : Nat) (v v3 : Value) (K : List Ward.Pt) (n : Nat) : Prop := ∃ vs : Nat → Value, (∀ m, (vs m).oneCell' = true) ∧ vs n = v3 ∧ w.ownsRow B 151 1 v (n + 1) ((List.range (n + 1)).map vs) ∧ ∀ m, m ≤ n → LevAt w B (vs m) m (Ward.lev K m)
theorem AllAt.below {w w' : World} {B : Nat} {v v3 : Value} {K : List Ward.Pt} {n : Nat} (h : AllAt w B v v3 K n) (hb : Below w.heap.size w w') : AllAt w' B v v3 K n := by
  obtain ⟨vs, h1, h2, h3, h4⟩ := h
  exact ⟨vs, h1, h2, ownsRow_keepsS (S := fun _ => False) h3 (Keeps.of_below hb) (fun _ _ h => h), fun m hm => (h4 m hm).below hb⟩
theorem AllAt.now {w : World} {B : Nat} {v v3 : Value} {K : List Ward.Pt} {n : Nat} (h : AllAt w B v v3 K n) : LevAt w B v3 n (Ward.lev K n) := by
  obtain ⟨vs, h1, h2, h3, h4⟩ := h
  rw [← h2]
  exact h4 n (Nat.le_refl _)
theorem LevAt.one {w : World} {B n : Nat} {v : Value} {ls : List (Ward.T n)} (h : LevAt w B v n ls) : v.oneCell' = true ∧ ∃ a c, v = .slice a ls.length c := by
  obtain ⟨xs, h1, h2⟩ := h
  rcases h2.2 with ⟨rfl, h0⟩ | ⟨g, cap, cur, rfl, _⟩
  · exact ⟨rfl, none, 0, by rw [h0]⟩
  · exact ⟨rfl, _, cap, rfl⟩
theorem allAt_first {w : World} {B : Nat} {v3 : Value} {K : List Ward.Pt} (h : LevAt w B v3 0 (Ward.lev K 0)) (hB : B ≤ w.heap.size) : AllAt (w.alloc (.cells #[v3] 151)) B (.slice (some ⟨w.heap.size, 0, none⟩) 1 1) v3 K 0 := by
  refine ⟨fun _ => v3, fun _ => h.one.1, rfl, ?_, fun m hm => ?_⟩
  · exact World.ownsRow_lit (size := 1) w #[v3] 1 hB (by unfold maxLen; omega) rfl
  · have : m = 0 := by omega
    subst this
    exact h.below ((Below.refl _ _).alloc (Nat.le_refl _) _)
/-- a level more -/
theorem allAt_push {w w' : World} {B : Nat} {v v' v3 v8 : Value} {K : List Ward.Pt} {n : Nat} (h : AllAt w B v v3 K n) (h8 : LevAt w B v8 (n + 1) (Ward.lev K (n + 1)))
    (hg : w.grownBy w' v.ownBlock) (ho : ∀ xs, w.ownsRow B 151 1 v (n + 1) xs → w'.ownsRow B 151 1 v' (n + 1 + 1) (xs ++ [v8])) : AllAt w' B v' v8 K (n + 1) := by
  obtain ⟨vs, h1, h2, h3, h4⟩ := h
  have key : ∀ m (x : Value) (ls : List (Ward.T m)), LevAt w B x m ls → LevAt w' B x m ls := fun m x ls hx => by
    refine hx.keep (Keeps.of_grown hg) (fun g hg' e => ?_)
    obtain ⟨xs, _, hr⟩ := hx
    rcases hr.2 with ⟨rfl, _⟩ | ⟨g1, c1, cur1, rfl, _, hh1, _⟩
    · simp [Value.ownBlock] at hg'
    rcases h3.2 with ⟨rfl, hz⟩ | ⟨g2, c2, cur2, rfl, _, hh2, _⟩
    · omega
    simp [Value.ownBlock] at hg' e
    subst hg' e
    rw [hh1] at hh2
    injection hh2 with hh2
    injection hh2 with _ hh2
    exact absurd hh2 (by decide)
  refine ⟨fun m => if m ≤ n then vs m else v8, fun m => ?_, if_neg (by omega), ?_, fun m hm => ?_⟩
  · show (if m ≤ n then vs m else v8).oneCell' = true
    split
    · exact h1 m
    · exact h8.one.1
  · have h5 := ho _ h3
    rw [List.range_succ, List.map_append]
    have e1 : (List.range (n + 1)).map (fun m => if m ≤ n then vs m else v8) = (List.range (n + 1)).map vs := List.map_congr_left fun m hm => if_pos (by have := List.mem_range.1 hm; omega)
    have e2 : [n + 1].map (fun m => if m ≤ n then vs m else v8) = [v8] := by rw [List.map_singleton, if_neg (by omega)]
    rw [e1, e2]
    exact h5
  · show LevAt w' B (if m ≤ n then vs m else v8) m (Ward.lev K m)
    by_cases hmn : m ≤ n
    · rw [if_pos hmn]; exact key m _ _ (h4 m hmn)
    · rw [if_neg hmn]
      have : m = n + 1 := by omega
      subst this
      exact key _ _ _ h8
theorem levAt_low {w : World} {B B' n : Nat} {v : Value} {ls : List (Ward.T n)} (h : LevAt w B v n ls) (hB : B' ≤ B) : LevAt w B' v n ls := by
  obtain ⟨xs, h1, h2⟩ := h
  refine ⟨xs, h1, h2.1, ?_⟩
  rcases h2.2 with h0 | ⟨g, cap, cur, e, hb, r⟩
  · exact .inl h0
  · exact .inr ⟨g, cap, cur, e, by omega, r⟩
/-- the cells of a part that stands in a row -/
structure PtCells (w : World) (g o : Nat) (b : Ward.Box) (c : Int) (t : List UInt8) : Prop where
  c0 : w.cell? ⟨g, o, none⟩ = some (I b.a)
  c1 : w.cell? ⟨g, o + 1, none⟩ = some (I b.b)
  c2 : w.cell? ⟨g, o + 2, none⟩ = some (I b.c)
  c3 : w.cell? ⟨g, o + 3, none⟩ = some (I b.d)
  c4 : w.cell? ⟨g, o + 4, none⟩ = some (I c)
  c5 : w.cell? ⟨g, o + 5, none⟩ = some (Sv t)
theorem PtCells.of {w : World} {g o n j : Nat} {t : Ward.T n} {x : Value} (h : w.rangeAt g o (partL n t j x)) : PtCells w g o (Ward.box n t) (Ward.count n t : Nat) (Ward.text Sha.sha n t) :=
  ⟨h 0 _ rfl, h 1 _ rfl, h 2 _ rfl, h 3 _ rfl, h 4 _ rfl, h 5 _ rfl⟩
theorem PtCells.below {w w' : World} {B g o : Nat} {b : Ward.Box} {c : Int} {t : List UInt8} (h : PtCells w g o b c t) (hb : Below B w w') (hg : g < B) : PtCells w' g o b c t :=
  ⟨(hb.cell (p := ⟨g, _, none⟩) hg).trans h.c0, (hb.cell (p := ⟨g, _, none⟩) hg).trans h.c1, (hb.cell (p := ⟨g, _, none⟩) hg).trans h.c2, (hb.cell (p := ⟨g, _, none⟩) hg).trans h.c3, (hb.cell (p := ⟨g, _, none⟩) hg).trans h.c4, (hb.cell (p := ⟨g, _, none⟩) hg).trans h.c5⟩
/-- what is known of a node behind some of its children -/
def boxQ' (n : Nat) (G : List (Ward.T n)) (b : Ward.Box) (q : Nat) : Ward.Box := ((G.take q).map (Ward.box n)).foldl Ward.join b
def cntQ (n : Nat) (G : List (Ward.T n)) (q : Nat) : Nat := ((G.take q).map (Ward.count n)).sum
def txtQ (n : Nat) (G : List (Ward.T n)) (q : Nat) : List UInt8 := (G.take q).flatMap (Ward.head Sha.sha n)
theorem txtQ_len (n : Nat) (G : List (Ward.T n)) (q : Nat) : (txtQ n G q).length = 52 * (G.take q).length := by
  unfold txtQ
  induction G.take q with
  | nil => rfl
  | cons t l ih => rw [List.flatMap_cons, List.length_append, ih, Ward.head_len sha_length, List.length_cons]; omega
end Go.Proofs.YtenaelkbgkpllaaGreatDoor
