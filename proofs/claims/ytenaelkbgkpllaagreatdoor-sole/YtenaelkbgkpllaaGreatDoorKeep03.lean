/- Part 3 of what the claims on Bound, Small, Right and Sole rest on. -/
import Derived.Test.YtenaelkbgkpllaaGreatDoorKeep02
/- The proof of a map's tree is taken: what it shows, and that all holds of it. -/
namespace Go.Proofs.YtenaelkbgkpllaaGreatDoor
namespace Ward
/-- no node without children, no leaf without points -/
def Full : (n : Nat) → T n → Prop
  | 0, l => (l : List Pt) ≠ []
  | n + 1, cs => (cs : List (T n)) ≠ [] ∧ Each (Full n) (cs : List (T n))
theorem tree_full {L : List Pt} (h : L ≠ []) : Full (tree L).1 (tree L).2 :=
  (climb_all (P := Full) (fun _ ls hs g hg => ⟨(fours_small ls g hg).2, fun c hc => hs c (fours_mem hg c hc)⟩) (L.length + 2) 0 (leaves L) (leaves_ne L) (leaves_lt L) (fun t ht => by
    unfold leaves at ht
    rw [if_neg (fun e => h (List.length_eq_zero_iff.1 e))] at ht
    exact (fours_small L t ht).2)).1
/-- a child that is hidden -/
def hidN (d n : Nat) (c : T n) : NT (d + 1) := ⟨[], [], box n c, (count n c : Nat), Sha.sha (text Sha.sha n c)⟩
/-- a map's tree with the children that must be shown -/
def veil (m : Box → Bool) : (d n : Nat) → T n → NT (d + 1)
  | _, 0, l => ⟨l, [], box 0 l, (List.length (l : List Pt) : Nat), Sha.sha (text Sha.sha 0 l)⟩
  | 0, n + 1, cs => hidN 0 (n + 1) cs
  | d + 1, n + 1, cs => ⟨[], List.map (fun c => if m (box n c) then veil m d n c else hidN d n c) (cs : List (T n)), box (n + 1) cs, (count (n + 1) cs : Nat), Sha.sha (text Sha.sha (n + 1) cs)⟩
section
variable (m : Box → Bool)
def kidV (d n : Nat) (c : T n) : NT (d + 1) := if m (box n c) then veil m d n c else hidN d n c
theorem veil_succ (d n : Nat) (cs : List (T n)) : veil m (d + 1) (n + 1) cs = ⟨[], cs.map (kidV m d n), box (n + 1) cs, (count (n + 1) cs : Nat), Sha.sha (text Sha.sha (n + 1) cs)⟩ := rfl
theorem veil_leaf (d : Nat) (l : List Pt) : veil m d 0 l = ⟨l, [], box 0 l, (l.length : Nat), Sha.sha (text Sha.sha 0 l)⟩ := by cases d <;> rfl
theorem veil_box : ∀ (d n : Nat) (t : T n), Nd.box (veil m d n t) = box n t
  | d, 0, l => by rw [veil_leaf]
  | 0, n + 1, cs => rfl
  | d + 1, n + 1, cs => rfl
theorem veil_num : ∀ (d n : Nat) (t : T n), Nd.n (veil m d n t) = (count n t : Nat)
  | d, 0, l => by rw [veil_leaf]; rfl
  | 0, n + 1, cs => rfl
  | d + 1, n + 1, cs => rfl
theorem veil_dig : ∀ (d n : Nat) (t : T n), Nd.dig (veil m d n t) = Sha.sha (text Sha.sha n t)
  | d, 0, l => by rw [veil_leaf]
  | 0, n + 1, cs => rfl
  | d + 1, n + 1, cs => rfl
theorem kid_box (d n : Nat) (c : T n) : boxN (d + 1) (kidV m d n c) = box n c := by
  unfold kidV
  split
  · exact veil_box m d n c
  · rfl
theorem kid_num (d n : Nat) (c : T n) : numN (d + 1) (kidV m d n c) = (count n c : Nat) := by
  unfold kidV
  split
  · exact veil_num m d n c
  · rfl
theorem kid_dig (d n : Nat) (c : T n) : digN (d + 1) (kidV m d n c) = Sha.sha (text Sha.sha n c) := by
  unfold kidV
  split
  · exact veil_dig m d n c
  · rfl
theorem kid_said (d n : Nat) (c : T n) : saidN (d + 1) (kidV m d n c) = head Sha.sha n c := by
  rw [saidN, kid_box, kid_num, kid_dig, head, headText]
theorem sum_count (n : Nat) (cs : List (T n)) : (cs.map fun c => ((count n c : Nat) : Int)).sum = ((cs.map (count n)).sum : Nat) := by
  induction cs with
  | nil => rfl
  | cons c cs ih => rw [List.map_cons, List.sum_cons, ih, List.map_cons, List.sum_cons]; omega
/-- as what stands below it makes it -/
theorem veil_made : ∀ (d n : Nat) (t : T n), n ≤ d → Full n t ∨ n = 0 → madeN (d + 1) (veil m d n t) = veil m d n t
  | d, 0, l, _, _ => by
    rw [veil_leaf, made_leaf (by rfl)]
    rfl
  | 0, n + 1, cs, h, _ => absurd h (by omega)
  | d + 1, n + 1, cs, h, hf => by
    have hne : (cs : List (T n)) ≠ [] := (hf.resolve_right (by omega)).1
    rw [veil_succ, made_node (by
      show ¬ (cs.map (kidV m d n)).length = 0
      rw [List.length_map]; exact fun e => hne (List.length_eq_zero_iff.1 e))]
    have e1 : (cs.map (kidV m d n)).map (boxN (d + 1)) = cs.map (box n) := by
      rw [List.map_map]; exact List.map_congr_left fun c _ => kid_box m d n c
    have e2 : ((cs.map (kidV m d n)).map (numN (d + 1))).sum = (count (n + 1) cs : Nat) := by
      rw [List.map_map]
      rw [show List.map (numN (d + 1) ∘ kidV m d n) cs = cs.map fun c => ((count n c : Nat) : Int) from List.map_congr_left fun c _ => kid_num m d n c]
      exact sum_count n cs
    have e3 : textK (d + 1) (cs.map (kidV m d n)) = text Sha.sha (n + 1) cs := by
      rw [textK, List.length_map, List.flatMap_map, text_succ]
      congr 2
      exact flatMap_congr fun c _ => kid_said m d n c
    refine nd_ext rfl rfl ?_ e2 ?_
    · show boxL ((cs.map (kidV m d n)).map (boxN (d + 1))) = _
      rw [e1]; rfl
    · show Sha.sha (textK (d + 1) (cs.map (kidV m d n))) = _
      rw [e3]
theorem veil_shown : ∀ (d n : Nat) (t : T n), n ≤ d → Full n t → shownN (d + 1) (veil m d n t) = true
  | d, 0, l, _, h => by
    have : 0 < List.length (l : List Pt) := List.length_pos_iff.2 h
    rw [veil_leaf]
    simp only [shownN, decide_eq_true_eq]
    show 0 < List.length (l : List Pt) + _
    omega
  | 0, n + 1, cs, h, _ => absurd h (by omega)
  | d + 1, n + 1, cs, _, h => by
    have : 0 < List.length (cs : List (T n)) := List.length_pos_iff.2 h.1
    rw [veil_succ]
    simp only [shownN, decide_eq_true_eq, List.length_map, List.length_nil]
    omega
theorem hid_shown (d n : Nat) (c : T n) : shownN (d + 1) (hidN d n c) = false := by simp [shownN, hidN]
theorem kid_shown (d n : Nat) (c : T n) (hn : n ≤ d) (hf : Full n c) : shownN (d + 1) (kidV m d n c) = m (box n c) := by
  unfold kidV
  cases hm : m (box n c) with
  | true => rw [if_pos rfl]; exact veil_shown m d n c hn hf
  | false => rw [if_neg (by simp)]; exact hid_shown d n c
/-- its text is the proof -/
theorem veil_text : ∀ (d n : Nat) (t : T n), n ≤ d → Full n t ∨ n = 0 → textS (d + 1) (veil m d n t) = proof Sha.sha m n t
  | d, 0, l, _, _ => by
    rw [veil_leaf, textS_leaf _ _ (by rfl)]
    rfl
  | 0, n + 1, cs, h, _ => absurd h (by omega)
  | d + 1, n + 1, cs, h, hf => by
    obtain ⟨hne, hea⟩ := hf.resolve_right (by omega)
    have hl : 0 < List.length (cs : List (T n)) := List.length_pos_iff.2 hne
    rw [veil_succ, textS_kids _ _ (by show 0 < (cs.map (kidV m d n)).length; rw [List.length_map]; exact hl)]
    show 2 :: UInt8.ofNat (cs.map (kidV m d n)).length :: (cs.map (kidV m d n)).flatMap (kidText (d + 1)) = 2 :: UInt8.ofNat (List.length cs) :: List.flatMap (fun c => head Sha.sha n c ++ (if m (box n c) then 1 :: proof Sha.sha m n c else [0])) cs
    rw [List.length_map, List.flatMap_map]
    congr 2
    refine flatMap_congr fun c hc => ?_
    have hfc := hea c hc
    rw [kidText, kid_said, kid_shown m d n c (by omega) hfc]
    congr 1
    cases hm : m (box n c) with
    | true =>
      rw [if_pos rfl, if_pos rfl]
      have : kidV m d n c = veil m d n c := by rw [kidV, if_pos hm]
      rw [this, veil_text d n c (by omega) (.inl hfc)]
    | false => rw [if_neg (by simp), if_neg (by simp)]
theorem kid_made {d n : Nat} {c : T n} (hn : n ≤ d) (hf : Full n c) : shownN (d + 1) (kidV m d n c) = true → madeN (d + 1) (kidV m d n c) = kidV m d n c := by
  intro hs
  rw [kid_shown m d n c hn hf] at hs
  have : kidV m d n c = veil m d n c := by rw [kidV, if_pos hs]
  rw [this, veil_made m d n c hn (.inl hf)]
theorem every_hid (P : (n : Nat) → NT n → Bool) (d n : Nat) (c : T n) : everyN P (d + 1) (hidN d n c) = true := rfl
/-- what holds of every child that is shown or hidden as it must be -/
theorem every_veil (P : (n : Nat) → NT n → Bool) (hP : ∀ d n (c : T n), n ≤ d → Full n c → P (d + 1) (kidV m d n c) = true) : ∀ (d n : Nat) (t : T n), n ≤ d → Full n t ∨ n = 0 → everyN P (d + 1) (veil m d n t) = true
  | d, 0, l, _, _ => by rw [veil_leaf]; rfl
  | 0, n + 1, cs, h, _ => absurd h (by omega)
  | d + 1, n + 1, cs, h, hf => by
    obtain ⟨-, hea⟩ := hf.resolve_right (by omega)
    rw [veil_succ]
    show (cs.map (kidV m d n)).all (fun c => P (d + 1) c && everyN P (d + 1) c) = true
    rw [List.all_eq_true]
    intro c hc
    obtain ⟨t, ht, rfl⟩ := List.mem_map.1 hc
    have hft := hea t ht
    rw [Bool.and_eq_true]
    refine ⟨hP d n t (by omega) hft, ?_⟩
    unfold kidV
    split
    · exact every_veil P hP d n t (by omega) (.inl hft)
    · exact every_hid P d n t
theorem boxEq_refl (b : Box) : boxEq b b = true := by simp [boxEq]
theorem veil_boxes (d n : Nat) (t : T n) (h : n ≤ d) (hf : Full n t ∨ n = 0) : everyN boxHolds (d + 1) (veil m d n t) = true := by
  refine every_veil m _ (fun d n c hn hf => ?_) d n t h hf
  unfold boxHolds
  cases hs : shownN (d + 1) (kidV m d n c) with
  | false => rfl
  | true => rw [kid_made m hn hf hs, boxEq_refl]; simp
theorem veil_digs (d n : Nat) (t : T n) (h : n ≤ d) (hf : Full n t ∨ n = 0) : everyN digHolds (d + 1) (veil m d n t) = true := by
  refine every_veil m _ (fun d n c hn hf => ?_) d n t h hf
  unfold digHolds
  cases hs : shownN (d + 1) (kidV m d n c) with
  | false => rfl
  | true => rw [kid_made m hn hf hs]; simp
/-- the points that are shown are some of all, in their order -/
theorem veil_sub : ∀ (d n : Nat) (t : T n), (allN (d + 1) (veil m d n t)).Sublist (pts n t)
  | d, 0, l => by
    rw [veil_leaf]
    show ((l : List Pt) ++ []).Sublist l
    rw [List.append_nil]
    exact List.Sublist.refl _
  | 0, n + 1, cs => List.nil_sublist _
  | d + 1, n + 1, cs => by
    rw [veil_succ]
    show ([] ++ (cs.map (kidV m d n)).flatMap (allN (d + 1))).Sublist (List.flatMap (pts n) cs)
    rw [List.nil_append, List.flatMap_map]
    have key : ∀ (l : List (T n)), (l.flatMap fun c => allN (d + 1) (kidV m d n c)).Sublist (l.flatMap (pts n)) := by
      intro l
      induction l with
      | nil => exact List.Sublist.refl _
      | cons c l ih =>
        rw [List.flatMap_cons, List.flatMap_cons]
        refine List.Sublist.append ?_ ih
        unfold kidV
        split
        · exact veil_sub d n c
        · exact List.nil_sublist _
    exact key cs
/-- a point that is not shown lies in a box that need not be -/
theorem veil_hidden : ∀ (d n : Nat) (t : T n), n ≤ d → ∀ p ∈ pts n t, p ∈ allN (d + 1) (veil m d n t) ∨ ∃ b, m b = false ∧ b.has (boxOf p)
  | d, 0, l, _, p, hp => by
    refine .inl ?_
    rw [veil_leaf]
    exact List.mem_append_left _ hp
  | 0, n + 1, cs, h, _, _ => absurd h (by omega)
  | d + 1, n + 1, cs, h, p, hp => by
    obtain ⟨c, hc, hp⟩ := List.mem_flatMap.1 hp
    cases hm : m (box n c) with
    | false => exact .inr ⟨box n c, hm, box_has n c p hp⟩
    | true =>
      rcases veil_hidden d n c (by omega) p hp with h1 | h1
      · refine .inl ?_
        rw [veil_succ]
        refine List.mem_append_right _ (List.mem_flatMap.2 ⟨kidV m d n c, List.mem_map_of_mem hc, ?_⟩)
        rw [kidV, if_pos hm]
        exact h1
      · exact .inr h1
end
end Ward
end Go.Proofs.YtenaelkbgkpllaaGreatDoor
/- The proof of a map's tree is taken, and its answer is the map's. -/
namespace Go.Proofs.YtenaelkbgkpllaaGreatDoor
namespace Ward
theorem sha_32 (l : List UInt8) : (Sha.sha l).length = 32 := rfl
/-- its least are not above its greatest -/
def Box.up (b : Box) : Prop := b.a ≤ b.c ∧ b.b ≤ b.d
theorem join_up {p q : Box} (hp : p.up) : (join p q).up := by
  obtain ⟨_, _⟩ := hp
  constructor <;> simp only [join] <;> omega
theorem fold_up : ∀ {l : List Box} {b : Box}, b.up → (l.foldl join b).up
  | [], _, hb => hb
  | c :: l, _, hb => fold_up (l := l) (join_up (q := c) hb)
theorem boxL_up {l : List Box} (h : ∀ c ∈ l, c.up) : (boxL l).up := by
  refine fold_up ?_
  cases l with
  | nil => exact ⟨by simp, by simp⟩
  | cons c l => exact h c (by simp)
theorem box_up : ∀ (n : Nat) (t : T n), (box n t).up
  | 0, l => boxL_up fun c hc => by
    obtain ⟨p, _, rfl⟩ := List.mem_map.1 hc
    exact ⟨by simp [boxOf], by simp [boxOf]⟩
  | n + 1, cs => boxL_up fun c hc => by
    obtain ⟨t, _, rfl⟩ := List.mem_map.1 hc
    exact box_up n t
theorem may_of {b : Box} (h : b.In) (hu : b.up) : boxMay b = true := by
  obtain ⟨_, _, _, _, _, _, _, _⟩ := h
  obtain ⟨_, _⟩ := hu
  simp only [boxMay, Bool.and_eq_true, coordOk_iff, decide_eq_true_eq]
  refine ⟨⟨⟨⟨⟨?_, ?_⟩, ?_⟩, ?_⟩, ?_⟩, ?_⟩ <;> omega
theorem full_count : ∀ (n : Nat) (t : T n), Full n t → 1 ≤ count n t
  | 0, _, h => List.length_pos_iff.2 h
  | n + 1, cs, h => by
    rw [count_pts]
    obtain ⟨h1, h2⟩ := h
    match cs, h1, h2 with
    | c :: cs, _, h2 =>
      have h3 := full_count n c (h2 c (by simp))
      rw [count_pts] at h3
      show 1 ≤ (List.flatMap (pts n) (c :: cs)).length
      rw [List.flatMap_cons, List.length_append]
      omega
theorem kid_count {n : Nat} {cs : List (T n)} {c : T n} (h : c ∈ cs) : count n c ≤ count (n + 1) cs := by
  rw [count_pts, count_pts]
  have := List.sublist_flatten_of_mem (List.mem_map_of_mem (f := pts n) h)
  rw [← List.flatMap_def] at this
  exact this.length_le
theorem kid_form {m : Box → Bool} {d n : Nat} {c : T n} (hs : Small n c) (hf : Full n c) (hc : count n c ≤ 150) (hv : m (box n c) = true → FormN d false (veil m d n c)) : KidForm d (kidV m d n c) := by
  have e1 : Nd.box (kidV m d n c) = box n c := kid_box m d n c
  have e2 : Nd.n (kidV m d n c) = (count n c : Nat) := kid_num m d n c
  have e3 : Nd.dig (kidV m d n c) = Sha.sha (text Sha.sha n c) := kid_dig m d n c
  have h1 := full_count n c hf
  refine ⟨⟨by rw [e1]; exact may_of (box_in n c hs) (box_up n c), by rw [e2]; omega, by rw [e2]; omega, by rw [e3]; rfl⟩, ?_⟩
  unfold kidV
  split
  · rename_i hm
    exact .inr (hv hm)
  · exact .inl ⟨rfl, rfl⟩
theorem veil_form (m : Box → Bool) : ∀ (d n : Nat) (t : T n) (r : Bool), n < d → Small n t → (r = true ∧ n = 0) ∨ Full n t → count n t ≤ 150 → FormN d r (veil m d n t)
  | 0, n, t, _, h, _, _, _ => absurd h (by omega)
  | d + 1, 0, l, r, _, hs, hf, _ => by
    rw [veil_leaf]
    refine .inl ⟨rfl, hs.1, ?_, hs.2⟩
    rcases hf with hf | hf
    · exact .inl hf.1
    · exact .inr (List.length_pos_iff.2 hf)
  | d + 1, n + 1, cs, r, h, hs, hf, hc => by
    have hF : Full (n + 1) cs := by
      rcases hf with hf | hf
      · exact absurd hf.2 (by omega)
      · exact hf
    have hl : 0 < List.length (cs : List (T n)) := List.length_pos_iff.2 hF.1
    rw [veil_succ]
    refine .inr ⟨rfl, by show 0 < (cs.map (kidV m d n)).length; rw [List.length_map]; exact hl, by show (cs.map (kidV m d n)).length ≤ 4; rw [List.length_map]; exact hs.1, fun c hcm => ?_⟩
    obtain ⟨t, ht, rfl⟩ := List.mem_map.1 hcm
    have hct : count n t ≤ 150 := Nat.le_trans (kid_count ht) hc
    exact kid_form (hs.2 t ht) (hF.2 t ht) hct fun _ => veil_form m d n t false (by omega) (hs.2 t ht) (.inr (hF.2 t ht)) hct
/-- the proof of an answer -/
def proofText (q : Qr) (L : List Pt) : List UInt8 := proof Sha.sha (must q (ans q L)) (tree L).1 (tree L).2
theorem tree_nil : tree [] = ⟨0, ([] : List Pt)⟩ := rfl
theorem tree_some (L : List Pt) : Full (tree L).1 (tree L).2 ∨ (tree L).1 = 0 := by
  by_cases h : L = []
  · exact .inr (by rw [h]; rfl)
  · exact .inl (tree_full h)
theorem tree_some' (L : List Pt) : ((true = true ∧ (tree L).1 = 0) ∨ Full (tree L).1 (tree L).2) := by
  rcases tree_some L with h | h
  · exact .inr h
  · exact .inl ⟨rfl, h⟩
/-- the tree that a proof shows -/
def shownTree (q : Qr) (L : List Pt) : NT 7 := veil (must q (ans q L)) 6 (tree L).1 (tree L).2
/-- points of a map, in whatever order -/
structure Well (L : List Pt) : Prop where
  ok : ∀ p ∈ L, p.Ok
  ids : Ids L
  len : L.length ≤ 150
theorem Well.deep {L : List Pt} (h : Well L) : (tree L).1 ≤ 3 := tree_depth (by have := h.len; omega)
theorem shown_text {q : Qr} {L : List Pt} (h : Well L) : textS 7 (shownTree q L) = proofText q L :=
  veil_text _ 6 _ _ (by have := h.deep; omega) (tree_some L)
theorem shown_made {q : Qr} {L : List Pt} (h : Well L) : madeN 7 (shownTree q L) = shownTree q L := veil_made _ 6 _ _ (by have := h.deep; omega) (tree_some L)
theorem shown_sub {q : Qr} {L : List Pt} (h : Well L) : (allN 7 (shownTree q L)).Sublist L := by
  have hsub := veil_sub (must q (ans q L)) 6 (tree L).1 (tree L).2
  rw [(tree_small h.ok).2] at hsub
  exact hsub
theorem shown_parse {q : Qr} {L : List Pt} (h : Well L) : parse (proofText q L) = some (shownTree q L) := by
  have hd := h.deep
  have ht := tree_small h.ok
  have hf : FormN 6 true (shownTree q L) := veil_form _ 6 _ _ true (by omega) ht.1 (tree_some' L) (by rw [count_pts, ht.2]; exact h.len)
  have hn : (idsN 7 (shownTree q L)).Nodup := List.pairwise_map.2 (ids_sub (shown_sub h) h.ids)
  rw [← shown_text h]
  exact parse_full hf hn (shown_made h)
theorem shown_ans {q : Qr} {L : List Pt} (hq : mayBe q = true) (h : Well L) : ans q (allN 7 (shownTree q L)) = ans q L := by
  have ht := tree_small h.ok
  refine ans_part (a := ans q L) hq (shown_sub h) h.ids (fun p hp => ?_) (.inl rfl)
  exact veil_hidden (must q (ans q L)) 6 (tree L).1 (tree L).2 (by have := h.deep; omega) p (by rw [ht.2]; exact hp)
theorem shown_boxes {q : Qr} {L : List Pt} (h : Well L) : everyN boxHolds 7 (shownTree q L) = true := veil_boxes _ 6 _ _ (by have := h.deep; omega) (tree_some L)
theorem shown_digs {q : Qr} {L : List Pt} (h : Well L) : everyN digHolds 7 (shownTree q L) = true := veil_digs _ 6 _ _ (by have := h.deep; omega) (tree_some L)
theorem shown_lacks {q : Qr} {L : List Pt} (h : Well L) : everyN (lackN q (ans q L)) 7 (shownTree q L) = true := by
  refine every_veil _ _ (fun d n c hn hf => ?_) 6 _ _ (by have := h.deep; omega) (tree_some L)
  unfold lackN
  rw [kid_shown _ d n c hn hf, kid_box]
  cases must q (ans q L) (box n c) <;> rfl
theorem shown_wastes {q : Qr} {L : List Pt} (h : Well L) : everyN (wasteN q (ans q L)) 7 (shownTree q L) = true := by
  refine every_veil _ _ (fun d n c hn hf => ?_) 6 _ _ (by have := h.deep; omega) (tree_some L)
  unfold wasteN
  rw [kid_shown _ d n c hn hf, kid_box]
  cases must q (ans q L) (box n c) <;> rfl
theorem shown_root {q : Qr} {L : List Pt} : digN 7 (shownTree q L) = Sha.sha (rootText Sha.sha L) := veil_dig _ 6 _ _
theorem shown_num {q : Qr} {L : List Pt} (h : Well L) : numN 7 (shownTree q L) = (L.length : Nat) := by
  have e : numN 7 (shownTree q L) = (count (tree L).1 (tree L).2 : Nat) := veil_num _ 6 _ _
  rw [e, count_pts, (tree_small h.ok).2]
/-- what Prove gives is taken, and the answer is Answer's -/
theorem verify_proof {q : Qr} {L : List Pt} (hq : mayBe q = true) (h : Well L) : verify (Sha.sha (rootText Sha.sha L)) (L.length : Nat) q (proofText q L) = (ans q L, 0) := by
  unfold verify
  rw [hq, if_neg (by simp), shown_parse h]
  simp only
  rw [shown_ans hq h, shown_boxes h, shown_digs h, shown_lacks h, shown_wastes h, if_neg (by simp), if_neg (by rw [shown_root, shown_num h]; simp), if_neg (by simp), if_neg (by simp)]
/-- with another number of points it is refused -/
theorem verify_count {q : Qr} {L : List Pt} (hq : mayBe q = true) (h : Well L) {c : Int} (hc : c ≠ (L.length : Nat)) : verify (Sha.sha (rootText Sha.sha L)) c q (proofText q L) = ([], 9) := by
  unfold verify
  rw [hq, if_neg (by simp), shown_parse h]
  simp only
  rw [shown_boxes h, if_neg (by simp), if_pos (.inr (by rw [shown_num h]; exact fun e => hc e.2.symm))]
theorem verify_nil {r : List UInt8} {c : Int} {q : Qr} {s : List UInt8} (h : (verify r c q s).2 ≠ 0) : (verify r c q s).1 = [] := by
  unfold verify at h ⊢
  split
  · rfl
  · split
    · rfl
    · split
      · rfl
      · split
        · rfl
        · split
          · rfl
          · split
            · rfl
            · rename_i h0 _ _ hp h1 h2 h3 h4
              rw [if_neg h0, hp] at h
              simp only at h
              rw [if_neg h1, if_neg h2, if_neg h3, if_neg h4] at h
              exact absurd rfl h
end Ward
end Go.Proofs.YtenaelkbgkpllaaGreatDoor
