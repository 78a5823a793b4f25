/- What a proof taken apart is, and that each text has one. -/
import Derived.Test.YtenaelkbgkpllaaGreatDoorWardG
namespace Go.Proofs.YtenaelkbgkpllaaGreatDoor
namespace Ward
/-- the text of what is shown below a node -/
def textS : (n : Nat) → NT n → List UInt8
  | 0, t => nomatch t
  | n + 1, t => if (Nd.kids t).length = 0 then leafText (Nd.pts t) else 2 :: UInt8.ofNat (Nd.kids t).length :: (Nd.kids t).flatMap fun c => saidN n c ++ (if shownN n c = true then 1 :: textS n c else [0])
def kidText (n : Nat) (c : NT n) : List UInt8 := saidN n c ++ (if shownN n c = true then 1 :: textS n c else [0])
theorem textS_kids (n : Nat) (t : NT (n + 1)) (h : 0 < (Nd.kids t).length) : textS (n + 1) t = 2 :: UInt8.ofNat (Nd.kids t).length :: (Nd.kids t).flatMap (kidText n) := by
  rw [textS, if_neg (by omega)]; rfl
theorem textS_leaf (n : Nat) (t : NT (n + 1)) (h : (Nd.kids t).length = 0) : textS (n + 1) t = leafText (Nd.pts t) := by rw [textS, if_pos h]
/-- a tree that a proof may show, so deep; of a child: what is said of it -/
def FormN : (d : Nat) → Bool → NT (d + 1) → Prop
  | 0, _, _ => False
  | d + 1, root, t => (Nd.kids t = [] ∧ (Nd.pts t).length ≤ 4 ∧ (root = true ∨ 0 < (Nd.pts t).length) ∧ Each Pt.Ok (Nd.pts t)) ∨
      (Nd.pts t = [] ∧ 0 < (Nd.kids t).length ∧ (Nd.kids t).length ≤ 4 ∧ Each (fun c : NT (d + 1) => (boxMay (Nd.box c) = true ∧ 1 ≤ Nd.n c ∧ Nd.n c ≤ 150 ∧ (Nd.dig c).length = 32) ∧ ((Nd.pts c = [] ∧ Nd.kids c = []) ∨ FormN d false c)) (Nd.kids t))
def KidForm (d : Nat) (c : NT (d + 1)) : Prop := (boxMay (Nd.box c) = true ∧ 1 ≤ Nd.n c ∧ Nd.n c ≤ 150 ∧ (Nd.dig c).length = 32) ∧ ((Nd.pts c = [] ∧ Nd.kids c = []) ∨ FormN d false c)
def idsN (n : Nat) (t : NT n) : List Int := (allN n t).map Pt.id
/-- ids that were read behind others -/
def Reads2 (ids : List Int) (s s' : List Int) : Prop := s' = ids.reverse ++ s ∧ ids.Nodup ∧ ∀ i ∈ ids, i ∉ s
theorem reads_nil (s : List Int) : Reads2 [] s s := ⟨rfl, List.nodup_nil, fun _ h => by simp at h⟩
theorem reads_app {a b s s' s'' : List Int} (h : Reads2 a s s') (k : Reads2 b s' s'') : Reads2 (a ++ b) s s'' := by
  obtain ⟨rfl, h2, h3⟩ := h
  obtain ⟨rfl, k2, k3⟩ := k
  refine ⟨by simp, List.nodup_append.2 ⟨h2, k2, fun x hx y hy e => ?_⟩, fun i hi => ?_⟩
  · subst e; exact k3 x hy (by simp [hx])
  · rcases List.mem_append.1 hi with hi | hi
    · exact h3 i hi
    · exact fun hs => k3 i hi (by simp [hs])
theorem reads_of {a b s s'' : List Int} (h : Reads2 (a ++ b) s s'') : Reads2 a s (a.reverse ++ s) ∧ Reads2 b (a.reverse ++ s) s'' := by
  obtain ⟨rfl, h2, h3⟩ := h
  obtain ⟨n1, n2, n3⟩ := List.nodup_append.1 h2
  refine ⟨⟨rfl, n1, fun i hi => h3 i (by simp [hi])⟩, ⟨by simp, n2, fun i hi hs => ?_⟩⟩
  rcases List.mem_append.1 hs with hs | hs
  · exact n3 i (by simpa using hs) i hi rfl
  · exact h3 i (by simp [hi]) hs
theorem idOk_iff (n : Int) : idOk n = true ↔ 1 ≤ n ∧ n ≤ 1000000 := by simp [idOk]
theorem coordOk_iff (n : Int) : coordOk n = true ↔ -1000000 ≤ n ∧ n ≤ 1000000 := by simp [coordOk]
theorem ok_of {p : Pt} (h1 : idOk p.id = true) (h2 : coordOk p.x = true) (h3 : coordOk p.y = true) : p.Ok := by
  rw [idOk_iff] at h1
  rw [coordOk_iff] at h2 h3
  exact ⟨h1.1, h1.2, h2.1, h2.2, h3.1, h3.2⟩
theorem take_three {l : List UInt8} (h : 12 ≤ l.length) : l = (fourI (numAt l 0) ++ fourI (numAt l 1) ++ fourI (numAt l 2)) ++ l.drop 12 := by
  rw [fourI_at (by omega), fourI_at (by omega), fourI_at (by omega)]
  match l, h with
  | a :: b :: c :: d :: e :: f :: g :: h :: i :: j :: k :: m :: l, _ => rfl
theorem rdPt_sound {s s' : Sta} {p : Pt} (h : rdPt s = some (p, s')) : p.Ok ∧ s.1 = ptText p ++ s'.1 ∧ Reads2 [p.id] s.2 s'.2 := by
  unfold rdPt at h
  by_cases hl : s.1.length < 12
  · rw [if_pos hl] at h; cases h
  · rw [if_neg hl] at h
    simp only at h
    split at h
    · rename_i hc
      simp only [Bool.and_eq_true, Bool.not_eq_true', List.contains_eq_mem, decide_eq_false_iff_not] at hc
      obtain ⟨⟨⟨h1, h2⟩, h3⟩, h4⟩ := hc
      cases h
      exact ⟨ok_of h1 h3 h4, take_three (by omega), ⟨rfl, by simp, fun i hi => by rw [List.mem_singleton.1 hi]; exact h2⟩⟩
    · cases h
theorem rdPt_full {p : Pt} {rest : List UInt8} {ids ids' : List Int} (hp : p.Ok) (h : Reads2 [p.id] ids ids') : rdPt (ptText p ++ rest, ids) = some (p, (rest, ids')) := by
  obtain ⟨rfl, -, h3⟩ := h
  have hlen : ¬ (ptText p ++ rest).length < 12 := by rw [List.length_append, ptText_len]; omega
  have e0 : numAt (ptText p ++ rest) 0 = p.id := by
    show numAt ((fourI p.id ++ fourI p.x ++ fourI p.y) ++ rest) 0 = _
    rw [List.append_assoc, List.append_assoc, numAt_zero _ (by have := hp.id1; omega) hp.id2]
  have e1 : numAt (ptText p ++ rest) 1 = p.x := by
    show numAt ((fourI p.id ++ fourI p.x ++ fourI p.y) ++ rest) (0 + 1) = _
    rw [List.append_assoc, List.append_assoc, numAt_succ, numAt_zero _ hp.x1 hp.x2]
  have e2 : numAt (ptText p ++ rest) 2 = p.y := by
    show numAt ((fourI p.id ++ fourI p.x ++ fourI p.y) ++ rest) (0 + 1 + 1) = _
    rw [List.append_assoc, List.append_assoc, numAt_succ, numAt_succ, numAt_zero _ hp.y1 hp.y2]
  unfold rdPt
  simp only
  rw [if_neg hlen, e0, e1, e2, if_pos (by
    simp only [Bool.and_eq_true, Bool.not_eq_true', List.contains_eq_mem, decide_eq_false_iff_not]
    exact ⟨⟨⟨(idOk_iff _).2 ⟨hp.id1, hp.id2⟩, h3 p.id (by simp)⟩, (coordOk_iff _).2 ⟨hp.x1, hp.x2⟩⟩, (coordOk_iff _).2 ⟨hp.y1, hp.y2⟩⟩)]
  rfl
section
variable {α : Type} {rd : Sta → Option (α × Sta)} {P : α → Prop} {tx : α → List UInt8} {ids : α → List Int}
theorem rdMany_sound (hrd : ∀ s x s', rd s = some (x, s') → P x ∧ s.1 = tx x ++ s'.1 ∧ Reads2 (ids x) s.2 s'.2) : ∀ (k : Nat) (s : Sta) (l : List α) (s' : Sta), rdMany rd k s = some (l, s') → l.length = k ∧ Each P l ∧ s.1 = l.flatMap tx ++ s'.1 ∧ Reads2 (l.flatMap ids) s.2 s'.2
  | 0, s, l, s', h => by
    cases h
    exact ⟨rfl, fun _ h => by simp at h, rfl, reads_nil _⟩
  | k + 1, s, l, s', h => by
    unfold rdMany at h
    cases hx : rd s with
    | none => rw [hx] at h; cases h
    | some xs =>
      obtain ⟨x, s1⟩ := xs
      rw [hx] at h
      simp only at h
      cases hm : rdMany rd k s1 with
      | none => rw [hm] at h; cases h
      | some ls =>
        obtain ⟨m, s2⟩ := ls
        rw [hm] at h
        cases h
        obtain ⟨p1, p2, p3⟩ := hrd s x s1 hx
        obtain ⟨q1, q2, q3, q4⟩ := rdMany_sound hrd k s1 m s' hm
        refine ⟨by simp [q1], fun y hy => ?_, ?_, ?_⟩
        · rcases List.mem_cons.1 hy with rfl | hy
          · exact p1
          · exact q2 y hy
        · rw [p2, q3, List.flatMap_cons, List.append_assoc]
        · rw [List.flatMap_cons]; exact reads_app p3 q4
theorem rdMany_full (hrd : ∀ x rest i i', P x → Reads2 (ids x) i i' → rd (tx x ++ rest, i) = some (x, (rest, i'))) : ∀ (l : List α) (rest : List UInt8) (i i' : List Int), Each P l → Reads2 (l.flatMap ids) i i' → rdMany rd l.length (l.flatMap tx ++ rest, i) = some (l, (rest, i'))
  | [], rest, i, i', _, h => by
    obtain ⟨rfl, -, -⟩ := h
    rfl
  | x :: l, rest, i, i', hP, h => by
    rw [List.flatMap_cons] at h
    obtain ⟨h1, h2⟩ := reads_of h
    have e1 := hrd x (l.flatMap tx ++ rest) i _ (hP x (by simp)) h1
    have e2 := rdMany_full hrd l rest _ i' (fun y hy => hP y (by simp [hy])) h2
    rw [List.flatMap_cons, List.append_assoc, List.length_cons]
    unfold rdMany
    rw [e1]
    simp only
    rw [e2]
end
theorem head_text {l : List UInt8} (n : Nat) (h : 53 ≤ l.length) : saidN (n + 1) (headN n l) = l.take 52 ∧ (Nd.dig (headN n l)).length = 32 := by
  have e : saidN (n + 1) (headN n l) = ((fourI (numAt l 0) ++ fourI (numAt l 1) ++ fourI (numAt l 2) ++ fourI (numAt l 3)) ++ fourI (numAt l 4)) ++ (l.drop 20).take 32 := rfl
  refine ⟨?_, ?_⟩
  · rw [e, fourI_at (by omega), fourI_at (by omega), fourI_at (by omega), fourI_at (by omega), fourI_at (by omega)]
    rw [show 52 = 4 * 0 + 4 + 4 + 4 + 4 + 4 + 32 from rfl, List.take_add, List.take_add, List.take_add, List.take_add, List.take_add]
    rfl
  · show ((l.drop 20).take 32).length = 32
    rw [List.length_take, List.length_drop]; omega
theorem shown_no {n : Nat} {c : NT (n + 1)} (h1 : Nd.pts c = []) (h2 : Nd.kids c = []) : shownN (n + 1) c = false := by simp [shownN, h1, h2]
theorem form_shown {d : Nat} {c : NT (d + 1)} (h : FormN d false c) : shownN (d + 1) c = true := by
  cases d with
  | zero => exact absurd h (fun h => h)
  | succ d =>
    rcases h with ⟨_, _, h3, _⟩ | ⟨_, h2, _, _⟩
    · rcases h3 with h3 | h3
      · cases h3
      · simp only [shownN, decide_eq_true_eq]; omega
    · simp only [shownN, decide_eq_true_eq]; omega
end Ward
end Go.Proofs.YtenaelkbgkpllaaGreatDoor
