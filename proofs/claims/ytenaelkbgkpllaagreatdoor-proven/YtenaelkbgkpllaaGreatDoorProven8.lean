/- What a proof taken apart is, and that each text has one. -/
import Derived.Test.YtenaelkbgkpllaaGreatDoorProven7
import Derived.Test.YtenaelkbgkpllaaGreatDoorProven6
import Derived.Test.YtenaelkbgkpllaaGreatDoorProven1
namespace Go.Proofs.YtenaelkbgkpllaaGreatDoor
namespace Ward
/-- the text of what is shown below a node -/
def textS : (n : Nat) → NT n → List UInt8
  | 0, t => nomatch t
  | n + 1, t => if (Nd.kids t).length = 0 then leafText (Nd.pts t) else 2 :: UInt8.ofNat (Nd.kids t).length :: (Nd.kids t).flatMap fun c => saidN n c ++ (if shownN n c = true then 1 :: textS n c else [0])
def kidText (n : Nat) (c : NT n) : List UInt8 := saidN n c ++ (if shownN n c = true then 1 :: textS n c else [0])
theorem textS_kids (n : Nat) (t : NT (n + 1)) (h : 0 < (Nd.kids t).length) : textS (n + 1) t = 2 :: UInt8.ofNat (Nd.kids t).length :: (Nd.kids t).flatMap (kidText n) := by
  rw [textS, if_neg (by omega)]; rfl
theorem textS_leaf (n : Nat) (t : NT (n + 1)) (h : (Nd.kids t).length = 0) : textS (n + 1) t = leafText (Nd.pts t) := by rw [textS, if_pos h]
/-- a tree that a proof may show, so deep; of a child: what is said of it -/
def FormN : (d : Nat) → Bool → NT (d + 1) → Prop
  | 0, _, _ => False
  | d + 1, root, t => (Nd.kids t = [] ∧ (Nd.pts t).length ≤ 4 ∧ (root = true ∨ 0 < (Nd.pts t).length) ∧ Each Pt.Ok (Nd.pts t)) ∨
      (Nd.pts t = [] ∧ 0 < (Nd.kids t).length ∧ (Nd.kids t).length ≤ 4 ∧ Each (fun c : NT (d + 1) => (boxMay (Nd.box c) = true ∧ 1 ≤ Nd.n c ∧ Nd.n c ≤ 150 ∧ (Nd.dig c).length = 32) ∧ ((Nd.pts c = [] ∧ Nd.kids c = []) ∨ FormN d false c)) (Nd.kids t))
def KidForm (d : Nat) (c : NT (d + 1)) : Prop := (boxMay (Nd.box c) = true ∧ 1 ≤ Nd.n c ∧ Nd.n c ≤ 150 ∧ (Nd.dig c).length = 32) ∧ ((Nd.pts c = [] ∧ Nd.kids c = []) ∨ FormN d false c)
def idsN (n : Nat) (t : NT n) : List Int := (allN n t).map Pt.id
/-- ids that were read behind others -/
def Reads2 (ids : List Int) (s s' : List Int) : Prop := s' = ids.reverse ++ s ∧ ids.Nodup ∧ ∀ i ∈ ids, i ∉ s
theorem reads_nil (s : List Int) : Reads2 [] s s := ⟨rfl, List.nodup_nil, fun _ h => by simp at h⟩
theorem reads_app {a b s s' s'' : List Int} (h : Reads2 a s s') (k : Reads2 b s' s'') : Reads2 (a ++ b) s s'' := by
  obtain ⟨rfl, h2, h3⟩ := h
  obtain ⟨rfl, k2, k3⟩ := k
  refine ⟨by simp, List.nodup_append.2 ⟨h2, k2, fun x hx y hy e => ?_⟩, fun i hi => ?_⟩
  · subst e; exact k3 x hy (by simp [hx])
  · rcases List.mem_append.1 hi with hi | hi
    · exact h3 i hi
    · exact fun hs => k3 i hi (by simp [hs])
theorem reads_of {a b s s'' : List Int} (h : Reads2 (a ++ b) s s'') : Reads2 a s (a.reverse ++ s) ∧ Reads2 b (a.reverse ++ s) s'' := by
  obtain ⟨rfl, h2, h3⟩ := h
  obtain ⟨n1, n2, n3⟩ := List.nodup_append.1 h2
  refine ⟨⟨rfl, n1, fun i hi => h3 i (by simp [hi])⟩, ⟨by simp, n2, fun i hi hs => ?_⟩⟩
  rcases List.mem_append.1 hs with hs | hs
  · exact n3 i (by simpa using hs) i hi rfl
  · exact h3 i (by simp [hi]) hs
theorem idOk_iff (n : Int) : idOk n = true ↔ 1 ≤ n ∧ n ≤ 1000000 := by simp [idOk]
theorem coordOk_iff (n : Int) : coordOk n = true ↔ -1000000 ≤ n ∧ n ≤ 1000000 := by simp [coordOk]
theorem ok_of {p : Pt} (h1 : idOk p.id = true) (h2 : coordOk p.x = true) (h3 : coordOk p.y = true) : p.Ok := by
  rw [idOk_iff] at h1
  rw [coordOk_iff] at h2 h3
  exact ⟨h1.1, h1.2, h2.1, h2.2, h3.1, h3.2⟩
theorem take_three {l : List UInt8} (h : 12 ≤ l.length) : l = (fourI (numAt l 0) ++ fourI (numAt l 1) ++ fourI (numAt l 2)) ++ l.drop 12 := by
  rw [fourI_at (by omega), fourI_at (by omega), fourI_at (by omega)]
  match l, h with
  | a :: b :: c :: d :: e :: f :: g :: h :: i :: j :: k :: m :: l, _ => rfl
theorem rdPt_sound {s s' : Sta} {p : Pt} (h : rdPt s = some (p, s')) : p.Ok ∧ s.1 = ptText p ++ s'.1 ∧ Reads2 [p.id] s.2 s'.2 := by
  unfold rdPt at h
  by_cases hl : s.1.length < 12
  · rw [if_pos hl] at h; cases h
  · rw [if_neg hl] at h
    simp only at h
    split at h
    · rename_i hc
      simp only [Bool.and_eq_true, Bool.not_eq_true', List.contains_eq_mem, decide_eq_false_iff_not] at hc
      obtain ⟨⟨⟨h1, h2⟩, h3⟩, h4⟩ := hc
      cases h
      exact ⟨ok_of h1 h3 h4, take_three (by omega), ⟨rfl, by simp, fun i hi => by rw [List.mem_singleton.1 hi]; exact h2⟩⟩
    · cases h
theorem rdPt_full {p : Pt} {rest : List UInt8} {ids ids' : List Int} (hp : p.Ok) (h : Reads2 [p.id] ids ids') : rdPt (ptText p ++ rest, ids) = some (p, (rest, ids')) := by
  obtain ⟨rfl, -, h3⟩ := h
  have hlen : ¬ (ptText p ++ rest).length < 12 := by rw [List.length_append, ptText_len]; omega
  have e0 : numAt (ptText p ++ rest) 0 = p.id := by
    show numAt ((fourI p.id ++ fourI p.x ++ fourI p.y) ++ rest) 0 = _
    rw [List.append_assoc, List.append_assoc, numAt_zero _ (by have := hp.id1; omega) hp.id2]
  have e1 : numAt (ptText p ++ rest) 1 = p.x := by
    show numAt ((fourI p.id ++ fourI p.x ++ fourI p.y) ++ rest) (0 + 1) = _
    rw [List.append_assoc, List.append_assoc, numAt_succ, numAt_zero _ hp.x1 hp.x2]
  have e2 : numAt (ptText p ++ rest) 2 = p.y := by
    show numAt ((fourI p.id ++ fourI p.x ++ fourI p.y) ++ rest) (0 + 1 + 1) = _
    rw [List.append_assoc, List.append_assoc, numAt_succ, numAt_succ, numAt_zero _ hp.y1 hp.y2]
  unfold rdPt
  simp only
  rw [if_neg hlen, e0, e1, e2, if_pos (by
    simp only [Bool.and_eq_true, Bool.not_eq_true', List.contains_eq_mem, decide_eq_false_iff_not]
    exact ⟨⟨⟨(idOk_iff _).2 ⟨hp.id1, hp.id2⟩, h3 p.id (by simp)⟩, (coordOk_iff _).2 ⟨hp.x1, hp.x2⟩⟩, (coordOk_iff _).2 ⟨hp.y1, hp.y2⟩⟩)]
  rfl
section
variable {α : Type} {rd : Sta → Option (α × Sta)} {P : α → Prop} {tx : α → List UInt8} {ids : α → List Int}
theorem rdMany_sound (hrd : ∀ s x s', rd s = some (x, s') → P x ∧ s.1 = tx x ++ s'.1 ∧ Reads2 (ids x) s.2 s'.2) : ∀ (k : Nat) (s : Sta) (l : List α) (s' : Sta), rdMany rd k s = some (l, s') → l.length = k ∧ Each P l ∧ s.1 = l.flatMap tx ++ s'.1 ∧ Reads2 (l.flatMap ids) s.2 s'.2
  | 0, s, l, s', h => by
    cases h
    exact ⟨rfl, fun _ h => by simp at h, rfl, reads_nil _⟩
  | k + 1, s, l, s', h => by
    unfold rdMany at h
    cases hx : rd s with
    | none => rw [hx] at h; cases h
    | some xs =>
      obtain ⟨x, s1⟩ := xs
      rw [hx] at h
      simp only at h
      cases hm : rdMany rd k s1 with
      | none => rw [hm] at h; cases h
      | some ls =>
        obtain ⟨m, s2⟩ := ls
        rw [hm] at h
        cases h
        obtain ⟨p1, p2, p3⟩ := hrd s x s1 hx
        obtain ⟨q1, q2, q3, q4⟩ := rdMany_sound hrd k s1 m s' hm
        refine ⟨by simp [q1], fun y hy => ?_, ?_, ?_⟩
        · rcases List.mem_cons.1 hy with rfl | hy
          · exact p1
          · exact q2 y hy
        · rw [p2, q3, List.flatMap_cons, List.append_assoc]
        · rw [List.flatMap_cons]; exact reads_app p3 q4
theorem rdMany_full (hrd : ∀ x rest i i', P x → Reads2 (ids x) i i' → rd (tx x ++ rest, i) = some (x, (rest, i'))) : ∀ (l : List α) (rest : List UInt8) (i i' : List Int), Each P l → Reads2 (l.flatMap ids) i i' → rdMany rd l.length (l.flatMap tx ++ rest, i) = some (l, (rest, i'))
  | [], rest, i, i', _, h => by
    obtain ⟨rfl, -, -⟩ := h
    rfl
  | x :: l, rest, i, i', hP, h => by
    rw [List.flatMap_cons] at h
    obtain ⟨h1, h2⟩ := reads_of h
    have e1 := hrd x (l.flatMap tx ++ rest) i _ (hP x (by simp)) h1
    have e2 := rdMany_full hrd l rest _ i' (fun y hy => hP y (by simp [hy])) h2
    rw [List.flatMap_cons, List.append_assoc, List.length_cons]
    unfold rdMany
    rw [e1]
    simp only
    rw [e2]
end
theorem head_text {l : List UInt8} (n : Nat) (h : 53 ≤ l.length) : saidN (n + 1) (headN n l) = l.take 52 ∧ (Nd.dig (headN n l)).length = 32 := by
  have e : saidN (n + 1) (headN n l) = ((fourI (numAt l 0) ++ fourI (numAt l 1) ++ fourI (numAt l 2) ++ fourI (numAt l 3)) ++ fourI (numAt l 4)) ++ (l.drop 20).take 32 := rfl
  refine ⟨?_, ?_⟩
  · rw [e, fourI_at (by omega), fourI_at (by omega), fourI_at (by omega), fourI_at (by omega), fourI_at (by omega)]
    rw [show 52 = 4 * 0 + 4 + 4 + 4 + 4 + 4 + 32 from rfl, List.take_add, List.take_add, List.take_add, List.take_add, List.take_add]
    rfl
  · show ((l.drop 20).take 32).length = 32
    rw [List.length_take, List.length_drop]; omega
theorem shown_no {n : Nat} {c : NT (n + 1)} (h1 : Nd.pts c = []) (h2 : Nd.kids c = []) : shownN (n + 1) c = false := by simp [shownN, h1, h2]
theorem form_shown {d : Nat} {c : NT (d + 1)} (h : FormN d false c) : shownN (d + 1) c = true := by
  cases d with
  | zero => exact absurd h (fun h => h)
  | succ d =>
    rcases h with ⟨_, _, h3, _⟩ | ⟨_, h2, _, _⟩
    · rcases h3 with h3 | h3
      · cases h3
      · simp only [shownN, decide_eq_true_eq]; omega
    · simp only [shownN, decide_eq_true_eq]; omega
end Ward
end Go.Proofs.YtenaelkbgkpllaaGreatDoor
/- A proof taken apart: sound and whole. -/
namespace Go.Proofs.YtenaelkbgkpllaaGreatDoor
namespace Ward
/-- nothing is said of it yet -/
def Bare (n : Nat) (t : NT (n + 1)) : Prop := Nd.box t = ⟨0, 0, 0, 0⟩ ∧ Nd.n t = 0 ∧ Nd.dig t = List.replicate 32 0
theorem nd_ext {α : Type} {a b : Nd α} (h1 : a.pts = b.pts) (h2 : a.kids = b.kids) (h3 : a.box = b.box) (h4 : a.n = b.n) (h5 : a.dig = b.dig) : a = b := by
  cases a
  cases b
  simp only at *
  subst h1 h2 h3 h4 h5
  rfl
theorem may_in {b : Box} (h : boxMay b = true) : b.In ∧ b.a ≤ b.c ∧ b.b ≤ b.d := by
  simp only [boxMay, Bool.and_eq_true, coordOk_iff, decide_eq_true_eq] at h
  obtain ⟨⟨⟨⟨⟨h1, h2⟩, h3⟩, h4⟩, h5⟩, h6⟩ := h
  exact ⟨⟨h1.1, h1.2, h2.1, h2.2, h3.1, h3.2, h4.1, h4.2⟩, h5, h6⟩
theorem said_of {n : Nat} {b c : NT (n + 1)} (h3 : Nd.box b = Nd.box c) (h4 : Nd.n b = Nd.n c) (h5 : Nd.dig b = Nd.dig c) : saidN (n + 1) b = saidN (n + 1) c := by
  show boxText (Nd.box b) ++ fourI (Nd.n b) ++ Nd.dig b = boxText (Nd.box c) ++ fourI (Nd.n c) ++ Nd.dig c
  rw [h3, h4, h5]
theorem text_of {n : Nat} {b c : NT (n + 1)} (h1 : Nd.pts b = Nd.pts c) (h2 : Nd.kids b = Nd.kids c) : textS (n + 1) b = textS (n + 1) c := by
  show (if (Nd.kids b).length = 0 then leafText (Nd.pts b) else _) = (if (Nd.kids c).length = 0 then leafText (Nd.pts c) else _)
  rw [h1, h2]
theorem all_of {n : Nat} {b c : NT (n + 1)} (h1 : Nd.pts b = Nd.pts c) (h2 : Nd.kids b = Nd.kids c) : allN (n + 1) b = allN (n + 1) c := by
  show Nd.pts b ++ (Nd.kids b).flatMap (allN n) = Nd.pts c ++ (Nd.kids c).flatMap (allN n)
  rw [h1, h2]
theorem form_of {d : Nat} {r : Bool} {b c : NT (d + 1)} (h1 : Nd.pts b = Nd.pts c) (h2 : Nd.kids b = Nd.kids c) (h : FormN d r b) : FormN d r c := by
  cases d with
  | zero => exact h
  | succ d =>
    unfold FormN at h ⊢
    rw [h1, h2] at h
    exact h
theorem shown_of {n : Nat} {b c : NT (n + 1)} (h1 : Nd.pts b = Nd.pts c) (h2 : Nd.kids b = Nd.kids c) : shownN (n + 1) b = shownN (n + 1) c := by
  show decide (0 < (Nd.pts b).length + (Nd.kids b).length) = decide (0 < (Nd.pts c).length + (Nd.kids c).length)
  rw [h1, h2]
theorem ids_all (n : Nat) (t : NT (n + 1)) (h : Nd.pts t = []) : idsN (n + 1) t = (Nd.kids t).flatMap (idsN n) := by
  show (Nd.pts t ++ (Nd.kids t).flatMap (allN n)).map Pt.id = _
  rw [h, List.nil_append, List.map_flatMap]
  rfl
theorem split53 {l : List UInt8} (h : 53 ≤ l.length) : l = l.take 52 ++ l.getD 52 0 :: l.drop 53 := by
  have h2 : l.drop 52 = l.getD 52 0 :: l.drop 53 := by
    rw [List.drop_eq_getElem_cons (by omega), List.getD_eq_getElem?_getD, List.getElem?_eq_getElem (by omega)]
    rfl
  rw [← h2, List.take_append_drop]
theorem rdKid_sound {d : Nat} {below : Sta → Option (NT (d + 1) × Sta)} (hb : ∀ s t s', below s = some (t, s') → FormN d false t ∧ s.1 = textS (d + 1) t ++ s'.1 ∧ Reads2 (idsN (d + 1) t) s.2 s'.2)
    (s : Sta) (c : NT (d + 1)) (s' : Sta) (h : rdKid d below s = some (c, s')) : KidForm d c ∧ s.1 = kidText (d + 1) c ++ s'.1 ∧ Reads2 (idsN (d + 1) c) s.2 s'.2 := by
  unfold rdKid at h
  by_cases hl : s.1.length < 53
  · rw [if_pos hl] at h; cases h
  · rw [if_neg hl] at h
    obtain ⟨ht, hd⟩ := head_text (l := s.1) d (by omega)
    have h53 := split53 (l := s.1) (by omega)
    simp only at h
    generalize hH : headN d s.1 = H at *
    have hp : Nd.pts H = [] := by rw [← hH]; rfl
    have hk : Nd.kids H = [] := by rw [← hH]; rfl
    split at h
    · rename_i hc
      simp only [Bool.and_eq_true, decide_eq_true_eq] at hc
      obtain ⟨⟨h1, h2⟩, h3⟩ := hc
      split at h
      · rename_i h0
        cases h
        refine ⟨⟨⟨h1, h2, h3, hd⟩, .inl ⟨hp, hk⟩⟩, ?_, ?_⟩
        · show s.1 = (saidN (d + 1) c ++ (if shownN (d + 1) c = true then _ else [0])) ++ s.1.drop 53
          rw [if_neg (by rw [shown_no hp hk]; simp), ht, List.append_assoc]
          rw [h0] at h53
          exact h53
        · have : idsN (d + 1) c = [] := by
            show (Nd.pts c ++ (Nd.kids c).flatMap (allN d)).map Pt.id = []
            rw [hp, hk]; rfl
          rw [this]
          exact reads_nil _
      · split at h
        · rename_i h1'
          cases hbe : below (s.1.drop 53, s.2) with
          | none => rw [hbe] at h; cases h
          | some bs =>
            obtain ⟨b, s1⟩ := bs
            rw [hbe] at h
            cases h
            obtain ⟨b1, b2, b3⟩ := hb _ _ _ hbe
            refine ⟨⟨⟨h1, h2, h3, hd⟩, .inr (form_of (b := b) rfl rfl b1)⟩, ?_, ?_⟩
            · have e1 : shownN (d + 1) { H with pts := Nd.pts b, kids := Nd.kids b } = true := by
                rw [shown_of (b := { H with pts := Nd.pts b, kids := Nd.kids b }) (c := b) rfl rfl]
                exact form_shown b1
              have e2 : textS (d + 1) { H with pts := Nd.pts b, kids := Nd.kids b } = textS (d + 1) b := text_of rfl rfl
              have e3 : saidN (d + 1) { H with pts := Nd.pts b, kids := Nd.kids b } = saidN (d + 1) H := said_of rfl rfl rfl
              rw [kidText, if_pos e1, e2, e3, ht, List.append_assoc, List.cons_append]
              rw [h1'] at h53
              rw [← b2]
              exact h53
            · have e : allN (d + 1) { H with pts := Nd.pts b, kids := Nd.kids b } = allN (d + 1) b := all_of rfl rfl
              rw [idsN, e]
              exact b3
        · cases h
    · cases h
theorem getD_zero {a : UInt8} {l : List UInt8} : (a :: l).getD 0 0 = a := rfl
theorem two_of {l : List UInt8} (h : ¬ l.length < 2) : l = l.getD 0 0 :: l.getD 1 0 :: l.drop 2 := by
  match l, h with
  | [], h => exact absurd (by decide) h
  | [_], h => exact absurd (by simp) h
  | a :: b :: l, _ => rfl
theorem ofNat_toNat8 (a : UInt8) : UInt8.ofNat a.toNat = a := by simp
theorem rdNode_sound : ∀ (d : Nat) (root : Bool) (s : Sta) (t : NT (d + 1)) (s' : Sta), rdNode d root s = some (t, s') → (FormN d root t ∧ s.1 = textS (d + 1) t ++ s'.1 ∧ Reads2 (idsN (d + 1) t) s.2 s'.2) ∧ Bare d t
  | 0, _, _, _, _, h => by cases h
  | d + 1, root, s, t, s', h => by
    unfold rdNode at h
    by_cases hl : s.1.length < 2
    · rw [if_pos hl] at h; cases h
    · rw [if_neg hl] at h
      simp only at h
      have h2 := two_of hl
      by_cases h4 : 4 < (s.1.getD 1 0).toNat
      · rw [if_pos h4] at h; cases h
      · rw [if_neg h4] at h
        by_cases hm1 : s.1.getD 0 0 = 1 ∧ (0 < (s.1.getD 1 0).toNat ∨ root = true)
        · rw [if_pos hm1] at h
          cases hr : rdMany rdPt (s.1.getD 1 0).toNat (s.1.drop 2, s.2) with
          | none => rw [hr] at h; cases h
          | some ls =>
            obtain ⟨l, s1⟩ := ls
            rw [hr] at h
            cases h
            obtain ⟨r1, r2, r3, r4⟩ := rdMany_sound (P := Pt.Ok) (tx := ptText) (ids := fun p => [p.id]) (fun s x s' h => rdPt_sound h) _ _ _ _ hr
            refine ⟨⟨.inl ⟨rfl, by show l.length ≤ 4; omega, by show root = true ∨ 0 < l.length; rw [r1]; exact hm1.2.symm, r2⟩, ?_, ?_⟩, rfl, rfl, rfl⟩
            · rw [textS_leaf _ _ (by rfl)]
              show s.1 = leafText l ++ s'.1
              unfold leafText
              rw [r1, ofNat_toNat8, List.cons_append, List.cons_append, ← r3]
              have e := hm1.1
              rw [← e]
              exact h2
            · have e : idsN (d + 1 + 1) { bareN (d + 1) with pts := l } = l.flatMap (fun p => [p.id]) := by
                show (l ++ ([] : List (NT (d + 1))).flatMap (allN (d + 1))).map Pt.id = _
                rw [List.flatMap_nil, List.append_nil]
                clear r1 r2 r3 r4 hr
                induction l with
                | nil => rfl
                | cons p l ih => rw [List.map_cons, List.flatMap_cons, ih]; rfl
              rw [e]
              exact r4
        · rw [if_neg hm1] at h
          by_cases hm2 : s.1.getD 0 0 = 2 ∧ 0 < (s.1.getD 1 0).toNat
          · rw [if_pos hm2] at h
            cases hr : rdMany (rdKid d (rdNode d false)) (s.1.getD 1 0).toNat (s.1.drop 2, s.2) with
            | none => rw [hr] at h; cases h
            | some ls =>
              obtain ⟨l, s1⟩ := ls
              rw [hr] at h
              cases h
              obtain ⟨r1, r2, r3, r4⟩ := rdMany_sound (P := KidForm d) (tx := kidText (d + 1)) (ids := idsN (d + 1)) (fun s x s' h => rdKid_sound (fun s t s' h => (rdNode_sound d false s t s' h).1) s x s' h) _ _ _ _ hr
              refine ⟨⟨.inr ⟨rfl, by show 0 < l.length; omega, by show l.length ≤ 4; omega, r2⟩, ?_, ?_⟩, rfl, rfl, rfl⟩
              · rw [textS_kids _ _ (by show 0 < l.length; omega)]
                show s.1 = (2 :: UInt8.ofNat l.length :: l.flatMap (kidText (d + 1))) ++ s'.1
                rw [r1, ofNat_toNat8, List.cons_append, List.cons_append, ← r3]
                have e := hm2.1
                rw [← e]
                exact h2
              · rw [ids_all _ _ (by rfl)]
                exact r4
          · rw [if_neg hm2] at h; cases h
end Ward
end Go.Proofs.YtenaelkbgkpllaaGreatDoor
/- Each tree of the right form is read off its text. -/
namespace Go.Proofs.YtenaelkbgkpllaaGreatDoor
namespace Ward
theorem headN_text {n : Nat} {c : NT (n + 1)} (hb : (Nd.box c).In) (h1 : 1 ≤ Nd.n c) (h2 : Nd.n c ≤ 150) (hd : (Nd.dig c).length = 32) (m : List UInt8) : headN n (saidN (n + 1) c ++ m) = { c with pts := [], kids := [] } := by
  obtain ⟨a1, a2, b1, b2, c1, c2, d1, d2⟩ := hb
  have e : saidN (n + 1) c ++ m = fourI (Nd.box c).a ++ (fourI (Nd.box c).b ++ (fourI (Nd.box c).c ++ (fourI (Nd.box c).d ++ (fourI (Nd.n c) ++ (Nd.dig c ++ m))))) := by
    show boxText (Nd.box c) ++ fourI (Nd.n c) ++ Nd.dig c ++ m = _
    simp only [boxText, List.append_assoc]
  have e0 : numAt (saidN (n + 1) c ++ m) 0 = (Nd.box c).a := by rw [e, numAt_zero _ a1 a2]
  have e1 : numAt (saidN (n + 1) c ++ m) 1 = (Nd.box c).b := by rw [e, show 1 = 0 + 1 from rfl, numAt_succ, numAt_zero _ b1 b2]
  have e2 : numAt (saidN (n + 1) c ++ m) 2 = (Nd.box c).c := by rw [e, show 2 = 0 + 1 + 1 from rfl, numAt_succ, numAt_succ, numAt_zero _ c1 c2]
  have e3 : numAt (saidN (n + 1) c ++ m) 3 = (Nd.box c).d := by rw [e, show 3 = 0 + 1 + 1 + 1 from rfl, numAt_succ, numAt_succ, numAt_succ, numAt_zero _ d1 d2]
  have e4 : numAt (saidN (n + 1) c ++ m) 4 = Nd.n c := by rw [e, show 4 = 0 + 1 + 1 + 1 + 1 from rfl, numAt_succ, numAt_succ, numAt_succ, numAt_succ, numAt_zero _ (by omega) (by omega)]
  have e5 : ((saidN (n + 1) c ++ m).drop 20).take 32 = Nd.dig c := by
    have hl : (boxText (Nd.box c) ++ fourI (Nd.n c)).length = 20 := by rw [List.length_append, boxText_len, fourI_len]
    have e6 : saidN (n + 1) c ++ m = (boxText (Nd.box c) ++ fourI (Nd.n c)) ++ (Nd.dig c ++ m) := by
      show boxText (Nd.box c) ++ fourI (Nd.n c) ++ Nd.dig c ++ m = _
      rw [List.append_assoc]
    rw [e6, ← hl, List.drop_left, ← hd, List.take_left]
  refine nd_ext rfl rfl ?_ e4 e5
  show (⟨numAt _ 0, numAt _ 1, numAt _ 2, numAt _ 3⟩ : Box) = Nd.box c
  rw [e0, e1, e2, e3]
theorem said_len52 {n : Nat} {c : NT (n + 1)} (hd : (Nd.dig c).length = 32) : (saidN (n + 1) c).length = 52 := by
  show (boxText (Nd.box c) ++ fourI (Nd.n c) ++ Nd.dig c).length = 52
  rw [List.length_append, List.length_append, boxText_len, fourI_len, hd]
theorem get52 {l : List UInt8} {a : UInt8} {m : List UInt8} (h : l.length = 52) : (l ++ a :: m).getD 52 0 = a ∧ (l ++ a :: m).drop 53 = m := by
  refine ⟨?_, ?_⟩
  · rw [List.getD_eq_getElem?_getD, List.getElem?_append_right (by omega), h]
    rfl
  · rw [show 53 = l.length + 1 by omega, ← List.drop_drop, List.drop_left]
    rfl
theorem rdKid_full {d : Nat} {below : Sta → Option (NT (d + 1) × Sta)} (hb : ∀ t rest i i', FormN d false t → Bare d t → Reads2 (idsN (d + 1) t) i i' → below (textS (d + 1) t ++ rest, i) = some (t, (rest, i')))
    (c : NT (d + 1)) (rest : List UInt8) (i i' : List Int) (hc : KidForm d c) (hi : Reads2 (idsN (d + 1) c) i i') : rdKid d below (kidText (d + 1) c ++ rest, i) = some (c, (rest, i')) := by
  obtain ⟨⟨h1, h2, h3, hd⟩, hs⟩ := hc
  have hbi := (may_in h1).1
  have hsl := said_len52 (c := c) hd
  have hcond : (boxMay (Nd.box c) && decide (1 ≤ Nd.n c) && decide (Nd.n c ≤ 150)) = true := by simp [h1, h2, h3]
  rcases hs with ⟨hp, hk⟩ | hf
  · have e : kidText (d + 1) c ++ rest = saidN (d + 1) c ++ 0 :: rest := by
      rw [kidText, if_neg (by rw [shown_no hp hk]; simp), List.append_assoc]; rfl
    obtain ⟨g1, g2⟩ := get52 (a := 0) (m := rest) hsl
    have hH := headN_text hbi h2 h3 hd (0 :: rest)
    have hcc : ({ c with pts := [], kids := [] } : NT (d + 1)) = c := nd_ext hp.symm hk.symm rfl rfl rfl
    rw [hcc] at hH
    unfold rdKid
    simp only
    rw [e, if_neg (by rw [List.length_append, hsl, List.length_cons]; omega), hH, if_pos hcond, if_pos g1, g2]
    obtain ⟨rfl, -, -⟩ := hi
    have : idsN (d + 1) c = [] := by
      show (Nd.pts c ++ (Nd.kids c).flatMap (allN d)).map Pt.id = []
      rw [hp, hk]; rfl
    rw [this]
    rfl
  · have e : kidText (d + 1) c ++ rest = saidN (d + 1) c ++ 1 :: (textS (d + 1) c ++ rest) := by
      rw [kidText, if_pos (form_shown hf), List.append_assoc]; rfl
    obtain ⟨g1, g2⟩ := get52 (a := 1) (m := textS (d + 1) c ++ rest) hsl
    have hH := headN_text hbi h2 h3 hd (1 :: (textS (d + 1) c ++ rest))
    obtain ⟨b, hbd⟩ : ∃ b : NT (d + 1), b = { bareN d with pts := Nd.pts c, kids := Nd.kids c } := ⟨_, rfl⟩
    have hb1 : Nd.pts b = Nd.pts c := by rw [hbd]
    have hb2 : Nd.kids b = Nd.kids c := by rw [hbd]
    have hb3 : Bare d b := by rw [hbd]; exact ⟨rfl, rfl, rfl⟩
    have hi2 : Reads2 (idsN (d + 1) b) i i' := by rw [idsN, all_of hb1 hb2]; exact hi
    have hbe := hb b rest i i' (form_of hb1.symm hb2.symm hf) hb3 hi2
    rw [text_of hb1 hb2] at hbe
    unfold rdKid
    simp only
    rw [e, if_neg (by rw [List.length_append, hsl, List.length_cons]; omega), hH, if_pos hcond, if_neg (by rw [g1]; decide), if_pos g1, g2, hbe]
    simp only
    rw [hb1, hb2]
theorem u8_small {k : Nat} (h : k ≤ 4) : (UInt8.ofNat k).toNat = k := by rw [UInt8.toNat_ofNat']; omega
theorem rdNode_full : ∀ (d : Nat) (root : Bool) (t : NT (d + 1)) (rest : List UInt8) (i i' : List Int), FormN d root t → Bare d t → Reads2 (idsN (d + 1) t) i i' → rdNode d root (textS (d + 1) t ++ rest, i) = some (t, (rest, i'))
  | 0, _, _, _, _, _, h, _, _ => absurd h (fun h => h)
  | d + 1, root, t, rest, i, i', h, hbare, hi => by
    rcases h with ⟨hk, h4, h0, hok⟩ | ⟨hp, h0, h4, hkids⟩
    · have hl : textS (d + 1 + 1) t = leafText (Nd.pts t) := textS_leaf _ _ (by rw [hk]; rfl)
      have e : textS (d + 1 + 1) t ++ rest = 1 :: UInt8.ofNat (Nd.pts t).length :: ((Nd.pts t).flatMap ptText ++ rest) := by rw [hl]; rfl
      have hids : idsN (d + 1 + 1) t = (Nd.pts t).flatMap (fun p => [p.id]) := by
        show (Nd.pts t ++ (Nd.kids t).flatMap (allN (d + 1))).map Pt.id = _
        rw [hk, List.flatMap_nil, List.append_nil]
        generalize Nd.pts t = l
        induction l with
        | nil => rfl
        | cons p l ih => rw [List.map_cons, List.flatMap_cons, ih]; rfl
      rw [hids] at hi
      have hm := rdMany_full (P := Pt.Ok) (tx := ptText) (ids := fun p => [p.id]) (rd := rdPt) (fun x rest i i' hx hr => rdPt_full hx hr) (Nd.pts t) rest i i' hok hi
      unfold rdNode
      simp only
      rw [e]
      have g0 : (1 :: UInt8.ofNat (Nd.pts t).length :: ((Nd.pts t).flatMap ptText ++ rest) : List UInt8).getD 0 0 = 1 := rfl
      have g1 : (1 :: UInt8.ofNat (Nd.pts t).length :: ((Nd.pts t).flatMap ptText ++ rest) : List UInt8).getD 1 0 = UInt8.ofNat (Nd.pts t).length := rfl
      have g2 : (1 :: UInt8.ofNat (Nd.pts t).length :: ((Nd.pts t).flatMap ptText ++ rest) : List UInt8).drop 2 = (Nd.pts t).flatMap ptText ++ rest := rfl
      rw [if_neg (by simp), g0, g1, g2, u8_small h4, if_neg (by omega), if_pos ⟨rfl, h0.symm⟩, hm]
      simp only
      congr 2
      exact nd_ext rfl hk.symm hbare.1.symm hbare.2.1.symm hbare.2.2.symm
    · have e : textS (d + 1 + 1) t ++ rest = 2 :: UInt8.ofNat (Nd.kids t).length :: ((Nd.kids t).flatMap (kidText (d + 1)) ++ rest) := by rw [textS_kids _ _ h0]; rfl
      rw [ids_all _ _ hp] at hi
      have hm := rdMany_full (P := KidForm d) (tx := kidText (d + 1)) (ids := idsN (d + 1)) (rd := rdKid d (rdNode d false)) (fun x rest i i' hx hr => rdKid_full (fun t rest i i' hf hb hr => rdNode_full d false t rest i i' hf hb hr) x rest i i' hx hr) (Nd.kids t) rest i i' hkids hi
      unfold rdNode
      simp only
      rw [e]
      have g0 : (2 :: UInt8.ofNat (Nd.kids t).length :: ((Nd.kids t).flatMap (kidText (d + 1)) ++ rest) : List UInt8).getD 0 0 = 2 := rfl
      have g1 : (2 :: UInt8.ofNat (Nd.kids t).length :: ((Nd.kids t).flatMap (kidText (d + 1)) ++ rest) : List UInt8).getD 1 0 = UInt8.ofNat (Nd.kids t).length := rfl
      have g2 : (2 :: UInt8.ofNat (Nd.kids t).length :: ((Nd.kids t).flatMap (kidText (d + 1)) ++ rest) : List UInt8).drop 2 = (Nd.kids t).flatMap (kidText (d + 1)) ++ rest := rfl
      rw [if_neg (by simp), g0, g1, g2, u8_small h4, if_neg (by omega), if_neg (fun h => absurd h.1 (by decide)), if_pos ⟨rfl, h0⟩, hm]
      simp only
      congr 2
      exact nd_ext hp.symm rfl hbare.1.symm hbare.2.1.symm hbare.2.2.symm
theorem made_leaf {n : Nat} {t : NT (n + 1)} (h : (Nd.kids t).length = 0) : madeN (n + 1) t = ⟨Nd.pts t, [], boxL ((Nd.pts t).map boxOf), ((Nd.pts t).length : Nat), Sha.sha (leafText (Nd.pts t))⟩ := by
  show (if (Nd.kids t).length = 0 then _ else _) = _
  rw [if_pos h]
theorem made_node {n : Nat} {t : NT (n + 1)} (h : ¬ (Nd.kids t).length = 0) : madeN (n + 1) t = ⟨[], Nd.kids t, boxL ((Nd.kids t).map (boxN n)), ((Nd.kids t).map (numN n)).sum, Sha.sha (textK n (Nd.kids t))⟩ := by
  show (if (Nd.kids t).length = 0 then _ else _) = _
  rw [if_neg h]
/-- the root as what stands below it makes it: the same below it -/
theorem made_same {d : Nat} {r : Bool} {t : NT (d + 1)} (h : FormN d r t) : Nd.pts (madeN (d + 1) t) = Nd.pts t ∧ Nd.kids (madeN (d + 1) t) = Nd.kids t := by
  cases d with
  | zero => exact absurd h (fun h => h)
  | succ d =>
    rcases h with ⟨hk, _⟩ | ⟨hp, h0, _⟩
    · rw [made_leaf (by rw [hk]; rfl)]
      exact ⟨rfl, hk.symm⟩
    · rw [made_node (by omega)]
      exact ⟨hp.symm, rfl⟩
theorem made_of {n : Nat} {b c : NT (n + 1)} (h1 : Nd.pts b = Nd.pts c) (h2 : Nd.kids b = Nd.kids c) : madeN (n + 1) b = madeN (n + 1) c := by
  by_cases h : (Nd.kids b).length = 0
  · rw [made_leaf h, made_leaf (by rw [← h2]; exact h), h1]
  · rw [made_node h, made_node (by rw [← h2]; exact h), h2]
theorem nodup_reads {l : List Int} (h : l.Nodup) : Reads2 l [] (l.reverse ++ []) := ⟨rfl, h, fun _ _ => by simp⟩
/-- what a text that is taken apart is -/
theorem parse_sound {s : List UInt8} {t : NT 7} (h : parse s = some t) : FormN 6 true t ∧ textS 7 t = s ∧ (idsN 7 t).Nodup ∧ madeN 7 t = t := by
  unfold parse at h
  split at h
  · rename_i t0 ids hr
    cases h
    obtain ⟨⟨h1, h2, h3⟩, -⟩ := rdNode_sound 6 true _ t0 _ hr
    obtain ⟨m1, m2⟩ := made_same h1
    refine ⟨form_of m1.symm m2.symm h1, ?_, ?_, made_of m1 m2⟩
    · rw [text_of m1 m2]
      have h2' : s = textS 7 t0 ++ [] := h2
      rw [h2', List.append_nil]
    · rw [idsN, all_of m1 m2]
      exact h3.2.1
  · cases h
theorem parse_full {t : NT 7} (hf : FormN 6 true t) (hn : (idsN 7 t).Nodup) (hm : madeN 7 t = t) : parse (textS 7 t) = some t := by
  obtain ⟨b, hbd⟩ : ∃ b : NT 7, b = { bareN 6 with pts := Nd.pts t, kids := Nd.kids t } := ⟨_, rfl⟩
  have hb1 : Nd.pts b = Nd.pts t := by rw [hbd]
  have hb2 : Nd.kids b = Nd.kids t := by rw [hbd]
  have hb3 : Bare 6 b := by rw [hbd]; exact ⟨rfl, rfl, rfl⟩
  have hr := rdNode_full 6 true b [] [] _ (form_of hb1.symm hb2.symm hf) hb3 (nodup_reads (by rw [idsN, all_of hb1 hb2]; exact hn))
  rw [List.append_nil, text_of hb1 hb2] at hr
  unfold parse
  rw [hr]
  simp only
  rw [made_of hb1 hb2, hm]
end Ward
end Go.Proofs.YtenaelkbgkpllaaGreatDoor
/- The answer of the points that are shown is that of all. -/
namespace Go.Proofs.YtenaelkbgkpllaaGreatDoor
namespace Ward
theorem pt_ext {p q : Pt} (h1 : p.id = q.id) (h2 : p.x = q.x) (h3 : p.y = q.y) : p = q := by
  cases p
  cases q
  simp only at h1 h2 h3
  subst h1 h2 h3
  rfl
instance : DecidableEq Pt := fun p q => decidable_of_iff (p.id = q.id ∧ p.x = q.x ∧ p.y = q.y) ⟨fun h => pt_ext h.1 h.2.1 h.2.2, fun h => by subst h; exact ⟨rfl, rfl, rfl⟩⟩
theorem ids_eq {P : List Pt} (h : Ids P) {p q : Pt} (hp : p ∈ P) (hq : q ∈ P) (e : p.id = q.id) : p = q := by
  induction P with
  | nil => simp at hp
  | cons a P ih =>
    obtain ⟨h1, h2⟩ := List.pairwise_cons.1 h
    rcases List.mem_cons.1 hp with hpa | hp <;> rcases List.mem_cons.1 hq with hqa | hq
    · rw [hpa, hqa]
    · rw [hpa] at e; exact absurd e (h1 q hq)
    · rw [hqa] at e; exact absurd e.symm (h1 p hp)
    · exact ih h2 hp hq
theorem ids_nodup {P : List Pt} (h : Ids P) : P.Nodup := h.imp fun hne e => hne (by rw [e])
/-- the points that are among others -/
theorem filter_sub {V P : List Pt} (hV : V.Sublist P) (hP : P.Nodup) : P.filter (fun p => decide (p ∈ V)) = V := by
  induction hV with
  | slnil => rfl
  | cons a h ih =>
    rename_i l₁ l₂
    obtain ⟨h1, h2⟩ := List.nodup_cons.1 hP
    rw [List.filter_cons_of_neg (by simp only [decide_eq_true_eq]; exact fun e => h1 (h.subset e)), ih h2]
  | cons_cons a h ih =>
    rename_i l₁ l₂
    obtain ⟨h1, h2⟩ := List.nodup_cons.1 hP
    rw [List.filter_cons_of_pos (by simp)]
    congr 1
    rw [← ih h2]
    refine List.filter_congr fun p hp => ?_
    have hpa : p ≠ a := fun e => h1 (e ▸ hp)
    rw [ih h2]
    simp [hpa]
theorem perm_part {A P : List Pt} (hA : ∀ p ∈ A, p ∈ P) (hN : A.Nodup) (hP : P.Nodup) : (A ++ P.filter (fun p => decide (p ∉ A))).Perm P := by
  have h1 : (P.filter (fun p => decide (p ∈ A))).Perm A := by
    refine (List.perm_ext_iff_of_nodup (hP.sublist List.filter_sublist) hN).2 fun p => ?_
    rw [List.mem_filter, decide_eq_true_eq]
    exact ⟨fun h => h.2, fun h => ⟨hA p h, h⟩⟩
  have h2 := List.filter_append_perm (fun p => decide (p ∈ A)) P
  refine ((h1.symm.append (List.Perm.refl _)).trans ?_)
  refine List.Perm.trans ?_ h2
  refine List.Perm.append (List.Perm.refl _) ?_
  rw [show (fun p => decide (p ∉ A)) = (fun p : Pt => !decide (p ∈ A)) from funext fun p => by simp]
/-- those that are nearer than all others stand first -/
theorem sortN_part {x y : Int} {A P : List Pt} (hI : Ids P) (hs : A.Pairwise (nr x y)) (hA : ∀ p ∈ A, p ∈ P) (hf : ∀ p ∈ P, p ∉ A → ∀ a ∈ A, nr x y a p) : sortN x y P = A ++ sortN x y (P.filter (fun p => decide (p ∉ A))) := by
  have hN : A.Nodup := hs.imp fun h e => by subst e; exact nr_irrefl x y _ h
  refine sortN_eq ?_ (((sortN_perm x y _).append_left A).trans (perm_part hA hN (ids_nodup hI))) hI
  refine List.pairwise_append.2 ⟨hs, sortN_sorted (ids_sub List.filter_sublist hI), fun a ha p hp => ?_⟩
  have hp' := (sortN_perm x y _).mem_iff.1 hp
  rw [List.mem_filter, decide_eq_true_eq] at hp'
  exact hf p hp'.1 hp'.2 a ha
/-- what is not among the first lies behind them -/
theorem behind {x y : Int} {P : List Pt} (hI : Ids P) (k : Nat) {p : Pt} (hp : p ∈ P) (hn : p ∉ (sortN x y P).take k) : ∀ a ∈ (sortN x y P).take k, nr x y a p := by
  intro a ha
  have hs := sortN_sorted (x := x) (y := y) hI
  rw [← List.take_append_drop k (sortN x y P)] at hs
  have hp2 := (sortN_perm x y P).mem_iff.2 hp
  rw [← List.take_append_drop k (sortN x y P)] at hp2
  rcases List.mem_append.1 hp2 with h | h
  · exact absurd h hn
  · exact (List.pairwise_append.1 hs).2.2 a ha p h
theorem last_far {x y : Int} {a : List Pt} (hs : a.Pairwise (nr x y)) {l p : Pt} (hl : a.getLast? = some l) (hp : distP l x y < distP p x y) : ∀ b ∈ a, nr x y b p := by
  intro b hb
  obtain ⟨m, rfl⟩ : ∃ m, a = m ++ [l] := List.getLast?_eq_some_iff.1 hl
  rcases List.mem_append.1 hb with hb | hb
  · have h1 := (List.pairwise_append.1 hs).2.2 b hb l (by simp)
    unfold nr at h1 ⊢
    omega
  · rw [List.mem_singleton.1 hb]; exact .inl hp
theorem must_far {q : Qr} {a : List Pt} {b : Box} (hk : q.kind = 1) (h : must q a b = false) : q.k ≤ a.length ∧ ∀ l, a.getLast? = some l → distP l q.x q.y < dist b q.x q.y := by
  unfold must at h
  rw [if_neg (by omega)] at h
  split at h
  · cases h
  · rename_i hl
    refine ⟨by omega, fun l hll => ?_⟩
    rw [hll] at h
    simp only [decide_eq_false_iff_not] at h
    omega
/-- the answer of the points that are shown -/
theorem ans_part {q : Qr} {a V P : List Pt} (hq : mayBe q = true) (hV : V.Sublist P) (hI : Ids P) (hid : ∀ p ∈ P, p ∈ V ∨ ∃ b, must q a b = false ∧ b.has (boxOf p)) (ha : a = ans q P ∨ a = ans q V) : ans q V = ans q P := by
  have hIV := ids_sub hV hI
  by_cases hk : q.kind = 1
  · have hk1 : 1 ≤ q.k := by
      unfold mayBe at hq
      rw [if_neg (by omega), if_pos hk] at hq
      simp only [Bool.and_eq_true, decide_eq_true_eq] at hq
      exact hq.1.2
    have eP : ans q P = (sortN q.x q.y P).take q.k.toNat := by rw [ans, if_pos hk]
    have eV : ans q V = (sortN q.x q.y V).take q.k.toNat := by rw [ans, if_pos hk]
    by_cases hall : ∀ p ∈ P, p ∈ V
    · have : V = P := by
        rw [← filter_sub hV (ids_nodup hI)]
        exact List.filter_eq_self.2 fun p hp => by simpa using hall p hp
      rw [this]
    · obtain ⟨p0, hp0, hn0⟩ : ∃ p ∈ P, p ∉ V := by
        refine Classical.byContradiction fun h => hall fun p hp => Classical.byContradiction fun h' => h ⟨p, hp, h'⟩
      obtain ⟨b0, hb0, -⟩ := (hid p0 hp0).resolve_left hn0
      obtain ⟨hlen, -⟩ := must_far hk hb0
      have hne : a ≠ [] := fun e => by rw [e] at hlen; simp at hlen; omega
      obtain ⟨l, hl⟩ : ∃ l, a.getLast? = some l := ⟨a.getLast hne, List.getLast?_eq_some_getLast hne⟩
      have hsa : a.Pairwise (nr q.x q.y) := by
        rcases ha with ha | ha
        · rw [ha, eP]; exact (sortN_sorted hI).sublist (List.take_sublist _ _)
        · rw [ha, eV]; exact (sortN_sorted hIV).sublist (List.take_sublist _ _)
      have hfar : ∀ p ∈ P, p ∉ V → ∀ x ∈ a, nr q.x q.y x p := fun p hp hn => by
        obtain ⟨b, hb, hh⟩ := (hid p hp).resolve_left hn
        have h1 := (must_far hk hb).2 l hl
        have h2 := dist_mono hh q.x q.y
        exact last_far hsa hl (Int.lt_of_lt_of_le h1 h2)
      have hal : a.length = q.k.toNat := by
        have : a.length ≤ q.k.toNat := by
          rcases ha with ha | ha
          · rw [ha, eP]; exact List.length_take_le _ _
          · rw [ha, eV]; exact List.length_take_le _ _
        omega
      rcases ha with ha | ha
      · have hmem : ∀ p ∈ a, p ∈ V := fun p hp => by
          have hpP : p ∈ P := by
            rw [ha, eP] at hp
            exact (sortN_perm _ _ P).mem_iff.1 (List.mem_of_mem_take hp)
          refine Classical.byContradiction fun hn => ?_
          exact nr_irrefl _ _ p (hfar p hpP hn p hp)
        have h := sortN_part hIV hsa hmem fun p hp hn x hx => by
          rw [ha, eP] at hn hx
          exact behind hI _ (hV.subset hp) hn x hx
        rw [eV, h, ← hal, List.take_left, ha]
      · have hmem : ∀ p ∈ a, p ∈ P := fun p hp => by
          rw [ha, eV] at hp
          exact hV.subset ((sortN_perm _ _ V).mem_iff.1 (List.mem_of_mem_take hp))
        have h := sortN_part hI hsa hmem fun p hp hn x hx => by
          by_cases hpV : p ∈ V
          · rw [ha, eV] at hn hx
            exact behind hIV _ hpV hn x hx
          · exact hfar p hp hpV x hx
        rw [eP, h, ← hal, List.take_left, ha]
  · have hk0 : q.kind = 0 := by
      unfold mayBe at hq
      by_cases h0 : q.kind = 0
      · exact h0
      · rw [if_neg h0, if_neg hk] at hq; cases hq
    rw [ans, if_neg hk, ans, if_neg hk]
    congr 1
    rw [← filter_sub hV (ids_nodup hI), List.filter_filter]
    refine List.filter_congr fun p hp => ?_
    by_cases hin : inB (window q) p = true
    · rw [hin, Bool.true_and, decide_eq_true_eq]
      refine (hid p hp).resolve_right fun ⟨b, hb, hh⟩ => ?_
      unfold must at hb
      rw [if_pos hk0] at hb
      have := meets_mono hh hin
      rw [hb] at this
      cases this
    · have : inB (window q) p = false := by simpa using hin
      rw [this, Bool.false_and]
end Ward
end Go.Proofs.YtenaelkbgkpllaaGreatDoor
/- The proof of a map's tree is taken: what it shows, and that all holds of it. -/
namespace Go.Proofs.YtenaelkbgkpllaaGreatDoor
namespace Ward
/-- no node without children, no leaf without points -/
def Full : (n : Nat) → T n → Prop
  | 0, l => (l : List Pt) ≠ []
  | n + 1, cs => (cs : List (T n)) ≠ [] ∧ Each (Full n) (cs : List (T n))
theorem tree_full {L : List Pt} (h : L ≠ []) : Full (tree L).1 (tree L).2 :=
  (climb_all (P := Full) (fun _ ls hs g hg => ⟨(fours_small ls g hg).2, fun c hc => hs c (fours_mem hg c hc)⟩) (L.length + 2) 0 (leaves L) (leaves_ne L) (leaves_lt L) (fun t ht => by
    unfold leaves at ht
    rw [if_neg (fun e => h (List.length_eq_zero_iff.1 e))] at ht
    exact (fours_small L t ht).2)).1
/-- a child that is hidden -/
def hidN (d n : Nat) (c : T n) : NT (d + 1) := ⟨[], [], box n c, (count n c : Nat), Sha.sha (text Sha.sha n c)⟩
/-- a map's tree with the children that must be shown -/
def veil (m : Box → Bool) : (d n : Nat) → T n → NT (d + 1)
  | _, 0, l => ⟨l, [], box 0 l, (List.length (l : List Pt) : Nat), Sha.sha (text Sha.sha 0 l)⟩
  | 0, n + 1, cs => hidN 0 (n + 1) cs
  | d + 1, n + 1, cs => ⟨[], List.map (fun c => if m (box n c) then veil m d n c else hidN d n c) (cs : List (T n)), box (n + 1) cs, (count (n + 1) cs : Nat), Sha.sha (text Sha.sha (n + 1) cs)⟩
section
variable (m : Box → Bool)
def kidV (d n : Nat) (c : T n) : NT (d + 1) := if m (box n c) then veil m d n c else hidN d n c
theorem veil_succ (d n : Nat) (cs : List (T n)) : veil m (d + 1) (n + 1) cs = ⟨[], cs.map (kidV m d n), box (n + 1) cs, (count (n + 1) cs : Nat), Sha.sha (text Sha.sha (n + 1) cs)⟩ := rfl
theorem veil_leaf (d : Nat) (l : List Pt) : veil m d 0 l = ⟨l, [], box 0 l, (l.length : Nat), Sha.sha (text Sha.sha 0 l)⟩ := by cases d <;> rfl
theorem veil_box : ∀ (d n : Nat) (t : T n), Nd.box (veil m d n t) = box n t
  | d, 0, l => by rw [veil_leaf]
  | 0, n + 1, cs => rfl
  | d + 1, n + 1, cs => rfl
theorem veil_num : ∀ (d n : Nat) (t : T n), Nd.n (veil m d n t) = (count n t : Nat)
  | d, 0, l => by rw [veil_leaf]; rfl
  | 0, n + 1, cs => rfl
  | d + 1, n + 1, cs => rfl
theorem veil_dig : ∀ (d n : Nat) (t : T n), Nd.dig (veil m d n t) = Sha.sha (text Sha.sha n t)
  | d, 0, l => by rw [veil_leaf]
  | 0, n + 1, cs => rfl
  | d + 1, n + 1, cs => rfl
theorem kid_box (d n : Nat) (c : T n) : boxN (d + 1) (kidV m d n c) = box n c := by
  unfold kidV
  split
  · exact veil_box m d n c
  · rfl
theorem kid_num (d n : Nat) (c : T n) : numN (d + 1) (kidV m d n c) = (count n c : Nat) := by
  unfold kidV
  split
  · exact veil_num m d n c
  · rfl
theorem kid_dig (d n : Nat) (c : T n) : digN (d + 1) (kidV m d n c) = Sha.sha (text Sha.sha n c) := by
  unfold kidV
  split
  · exact veil_dig m d n c
  · rfl
theorem kid_said (d n : Nat) (c : T n) : saidN (d + 1) (kidV m d n c) = head Sha.sha n c := by
  rw [saidN, kid_box, kid_num, kid_dig, head, headText]
theorem sum_count (n : Nat) (cs : List (T n)) : (cs.map fun c => ((count n c : Nat) : Int)).sum = ((cs.map (count n)).sum : Nat) := by
  induction cs with
  | nil => rfl
  | cons c cs ih => rw [List.map_cons, List.sum_cons, ih, List.map_cons, List.sum_cons]; omega
/-- as what stands below it makes it -/
theorem veil_made : ∀ (d n : Nat) (t : T n), n ≤ d → Full n t ∨ n = 0 → madeN (d + 1) (veil m d n t) = veil m d n t
  | d, 0, l, _, _ => by
    rw [veil_leaf, made_leaf (by rfl)]
    rfl
  | 0, n + 1, cs, h, _ => absurd h (by omega)
  | d + 1, n + 1, cs, h, hf => by
    have hne : (cs : List (T n)) ≠ [] := (hf.resolve_right (by omega)).1
    rw [veil_succ, made_node (by
      show ¬ (cs.map (kidV m d n)).length = 0
      rw [List.length_map]; exact fun e => hne (List.length_eq_zero_iff.1 e))]
    have e1 : (cs.map (kidV m d n)).map (boxN (d + 1)) = cs.map (box n) := by
      rw [List.map_map]; exact List.map_congr_left fun c _ => kid_box m d n c
    have e2 : ((cs.map (kidV m d n)).map (numN (d + 1))).sum = (count (n + 1) cs : Nat) := by
      rw [List.map_map]
      rw [show List.map (numN (d + 1) ∘ kidV m d n) cs = cs.map fun c => ((count n c : Nat) : Int) from List.map_congr_left fun c _ => kid_num m d n c]
      exact sum_count n cs
    have e3 : textK (d + 1) (cs.map (kidV m d n)) = text Sha.sha (n + 1) cs := by
      rw [textK, List.length_map, List.flatMap_map, text_succ]
      congr 2
      exact flatMap_congr fun c _ => kid_said m d n c
    refine nd_ext rfl rfl ?_ e2 ?_
    · show boxL ((cs.map (kidV m d n)).map (boxN (d + 1))) = _
      rw [e1]; rfl
    · show Sha.sha (textK (d + 1) (cs.map (kidV m d n))) = _
      rw [e3]
theorem veil_shown : ∀ (d n : Nat) (t : T n), n ≤ d → Full n t → shownN (d + 1) (veil m d n t) = true
  | d, 0, l, _, h => by
    have : 0 < List.length (l : List Pt) := List.length_pos_iff.2 h
    rw [veil_leaf]
    simp only [shownN, decide_eq_true_eq]
    show 0 < List.length (l : List Pt) + _
    omega
  | 0, n + 1, cs, h, _ => absurd h (by omega)
  | d + 1, n + 1, cs, _, h => by
    have : 0 < List.length (cs : List (T n)) := List.length_pos_iff.2 h.1
    rw [veil_succ]
    simp only [shownN, decide_eq_true_eq, List.length_map, List.length_nil]
    omega
theorem hid_shown (d n : Nat) (c : T n) : shownN (d + 1) (hidN d n c) = false := by simp [shownN, hidN]
theorem kid_shown (d n : Nat) (c : T n) (hn : n ≤ d) (hf : Full n c) : shownN (d + 1) (kidV m d n c) = m (box n c) := by
  unfold kidV
  cases hm : m (box n c) with
  | true => rw [if_pos rfl]; exact veil_shown m d n c hn hf
  | false => rw [if_neg (by simp)]; exact hid_shown d n c
/-- its text is the proof -/
theorem veil_text : ∀ (d n : Nat) (t : T n), n ≤ d → Full n t ∨ n = 0 → textS (d + 1) (veil m d n t) = proof Sha.sha m n t
  | d, 0, l, _, _ => by
    rw [veil_leaf, textS_leaf _ _ (by rfl)]
    rfl
  | 0, n + 1, cs, h, _ => absurd h (by omega)
  | d + 1, n + 1, cs, h, hf => by
    obtain ⟨hne, hea⟩ := hf.resolve_right (by omega)
    have hl : 0 < List.length (cs : List (T n)) := List.length_pos_iff.2 hne
    rw [veil_succ, textS_kids _ _ (by show 0 < (cs.map (kidV m d n)).length; rw [List.length_map]; exact hl)]
    show 2 :: UInt8.ofNat (cs.map (kidV m d n)).length :: (cs.map (kidV m d n)).flatMap (kidText (d + 1)) = 2 :: UInt8.ofNat (List.length cs) :: List.flatMap (fun c => head Sha.sha n c ++ (if m (box n c) then 1 :: proof Sha.sha m n c else [0])) cs
    rw [List.length_map, List.flatMap_map]
    congr 2
    refine flatMap_congr fun c hc => ?_
    have hfc := hea c hc
    rw [kidText, kid_said, kid_shown m d n c (by omega) hfc]
    congr 1
    cases hm : m (box n c) with
    | true =>
      rw [if_pos rfl, if_pos rfl]
      have : kidV m d n c = veil m d n c := by rw [kidV, if_pos hm]
      rw [this, veil_text d n c (by omega) (.inl hfc)]
    | false => rw [if_neg (by simp), if_neg (by simp)]
theorem kid_made {d n : Nat} {c : T n} (hn : n ≤ d) (hf : Full n c) : shownN (d + 1) (kidV m d n c) = true → madeN (d + 1) (kidV m d n c) = kidV m d n c := by
  intro hs
  rw [kid_shown m d n c hn hf] at hs
  have : kidV m d n c = veil m d n c := by rw [kidV, if_pos hs]
  rw [this, veil_made m d n c hn (.inl hf)]
theorem every_hid (P : (n : Nat) → NT n → Bool) (d n : Nat) (c : T n) : everyN P (d + 1) (hidN d n c) = true := rfl
/-- what holds of every child that is shown or hidden as it must be -/
theorem every_veil (P : (n : Nat) → NT n → Bool) (hP : ∀ d n (c : T n), n ≤ d → Full n c → P (d + 1) (kidV m d n c) = true) : ∀ (d n : Nat) (t : T n), n ≤ d → Full n t ∨ n = 0 → everyN P (d + 1) (veil m d n t) = true
  | d, 0, l, _, _ => by rw [veil_leaf]; rfl
  | 0, n + 1, cs, h, _ => absurd h (by omega)
  | d + 1, n + 1, cs, h, hf => by
    obtain ⟨-, hea⟩ := hf.resolve_right (by omega)
    rw [veil_succ]
    show (cs.map (kidV m d n)).all (fun c => P (d + 1) c && everyN P (d + 1) c) = true
    rw [List.all_eq_true]
    intro c hc
    obtain ⟨t, ht, rfl⟩ := List.mem_map.1 hc
    have hft := hea t ht
    rw [Bool.and_eq_true]
    refine ⟨hP d n t (by omega) hft, ?_⟩
    unfold kidV
    split
    · exact every_veil P hP d n t (by omega) (.inl hft)
    · exact every_hid P d n t
theorem boxEq_refl (b : Box) : boxEq b b = true := by simp [boxEq]
theorem veil_boxes (d n : Nat) (t : T n) (h : n ≤ d) (hf : Full n t ∨ n = 0) : everyN boxHolds (d + 1) (veil m d n t) = true := by
  refine every_veil m _ (fun d n c hn hf => ?_) d n t h hf
  unfold boxHolds
  cases hs : shownN (d + 1) (kidV m d n c) with
  | false => rfl
  | true => rw [kid_made m hn hf hs, boxEq_refl]; simp
theorem veil_digs (d n : Nat) (t : T n) (h : n ≤ d) (hf : Full n t ∨ n = 0) : everyN digHolds (d + 1) (veil m d n t) = true := by
  refine every_veil m _ (fun d n c hn hf => ?_) d n t h hf
  unfold digHolds
  cases hs : shownN (d + 1) (kidV m d n c) with
  | false => rfl
  | true => rw [kid_made m hn hf hs]; simp
/-- the points that are shown are some of all, in their order -/
theorem veil_sub : ∀ (d n : Nat) (t : T n), (allN (d + 1) (veil m d n t)).Sublist (pts n t)
  | d, 0, l => by
    rw [veil_leaf]
    show ((l : List Pt) ++ []).Sublist l
    rw [List.append_nil]
    exact List.Sublist.refl _
  | 0, n + 1, cs => List.nil_sublist _
  | d + 1, n + 1, cs => by
    rw [veil_succ]
    show ([] ++ (cs.map (kidV m d n)).flatMap (allN (d + 1))).Sublist (List.flatMap (pts n) cs)
    rw [List.nil_append, List.flatMap_map]
    have key : ∀ (l : List (T n)), (l.flatMap fun c => allN (d + 1) (kidV m d n c)).Sublist (l.flatMap (pts n)) := by
      intro l
      induction l with
      | nil => exact List.Sublist.refl _
      | cons c l ih =>
        rw [List.flatMap_cons, List.flatMap_cons]
        refine List.Sublist.append ?_ ih
        unfold kidV
        split
        · exact veil_sub d n c
        · exact List.nil_sublist _
    exact key cs
/-- a point that is not shown lies in a box that need not be -/
theorem veil_hidden : ∀ (d n : Nat) (t : T n), n ≤ d → ∀ p ∈ pts n t, p ∈ allN (d + 1) (veil m d n t) ∨ ∃ b, m b = false ∧ b.has (boxOf p)
  | d, 0, l, _, p, hp => by
    refine .inl ?_
    rw [veil_leaf]
    exact List.mem_append_left _ hp
  | 0, n + 1, cs, h, _, _ => absurd h (by omega)
  | d + 1, n + 1, cs, h, p, hp => by
    obtain ⟨c, hc, hp⟩ := List.mem_flatMap.1 hp
    cases hm : m (box n c) with
    | false => exact .inr ⟨box n c, hm, box_has n c p hp⟩
    | true =>
      rcases veil_hidden d n c (by omega) p hp with h1 | h1
      · refine .inl ?_
        rw [veil_succ]
        refine List.mem_append_right _ (List.mem_flatMap.2 ⟨kidV m d n c, List.mem_map_of_mem hc, ?_⟩)
        rw [kidV, if_pos hm]
        exact h1
      · exact .inr h1
end
end Ward
end Go.Proofs.YtenaelkbgkpllaaGreatDoor
/- The proof of a map's tree is taken, and its answer is the map's. -/
namespace Go.Proofs.YtenaelkbgkpllaaGreatDoor
namespace Ward
theorem sha_32 (l : List UInt8) : (Sha.sha l).length = 32 := rfl
/-- its least are not above its greatest -/
def Box.up (b : Box) : Prop := b.a ≤ b.c ∧ b.b ≤ b.d
theorem join_up {p q : Box} (hp : p.up) : (join p q).up := by
  obtain ⟨_, _⟩ := hp
  constructor <;> simp only [join] <;> omega
theorem fold_up : ∀ {l : List Box} {b : Box}, b.up → (l.foldl join b).up
  | [], _, hb => hb
  | c :: l, _, hb => fold_up (l := l) (join_up (q := c) hb)
theorem boxL_up {l : List Box} (h : ∀ c ∈ l, c.up) : (boxL l).up := by
  refine fold_up ?_
  cases l with
  | nil => exact ⟨by simp, by simp⟩
  | cons c l => exact h c (by simp)
theorem box_up : ∀ (n : Nat) (t : T n), (box n t).up
  | 0, l => boxL_up fun c hc => by
    obtain ⟨p, _, rfl⟩ := List.mem_map.1 hc
    exact ⟨by simp [boxOf], by simp [boxOf]⟩
  | n + 1, cs => boxL_up fun c hc => by
    obtain ⟨t, _, rfl⟩ := List.mem_map.1 hc
    exact box_up n t
theorem may_of {b : Box} (h : b.In) (hu : b.up) : boxMay b = true := by
  obtain ⟨_, _, _, _, _, _, _, _⟩ := h
  obtain ⟨_, _⟩ := hu
  simp only [boxMay, Bool.and_eq_true, coordOk_iff, decide_eq_true_eq]
  refine ⟨⟨⟨⟨⟨?_, ?_⟩, ?_⟩, ?_⟩, ?_⟩, ?_⟩ <;> omega
theorem full_count : ∀ (n : Nat) (t : T n), Full n t → 1 ≤ count n t
  | 0, _, h => List.length_pos_iff.2 h
  | n + 1, cs, h => by
    rw [count_pts]
    obtain ⟨h1, h2⟩ := h
    match cs, h1, h2 with
    | c :: cs, _, h2 =>
      have h3 := full_count n c (h2 c (by simp))
      rw [count_pts] at h3
      show 1 ≤ (List.flatMap (pts n) (c :: cs)).length
      rw [List.flatMap_cons, List.length_append]
      omega
theorem kid_count {n : Nat} {cs : List (T n)} {c : T n} (h : c ∈ cs) : count n c ≤ count (n + 1) cs := by
  rw [count_pts, count_pts]
  have := List.sublist_flatten_of_mem (List.mem_map_of_mem (f := pts n) h)
  rw [← List.flatMap_def] at this
  exact this.length_le
theorem kid_form {m : Box → Bool} {d n : Nat} {c : T n} (hs : Small n c) (hf : Full n c) (hc : count n c ≤ 150) (hv : m (box n c) = true → FormN d false (veil m d n c)) : KidForm d (kidV m d n c) := by
  have e1 : Nd.box (kidV m d n c) = box n c := kid_box m d n c
  have e2 : Nd.n (kidV m d n c) = (count n c : Nat) := kid_num m d n c
  have e3 : Nd.dig (kidV m d n c) = Sha.sha (text Sha.sha n c) := kid_dig m d n c
  have h1 := full_count n c hf
  refine ⟨⟨by rw [e1]; exact may_of (box_in n c hs) (box_up n c), by rw [e2]; omega, by rw [e2]; omega, by rw [e3]; rfl⟩, ?_⟩
  unfold kidV
  split
  · rename_i hm
    exact .inr (hv hm)
  · exact .inl ⟨rfl, rfl⟩
theorem veil_form (m : Box → Bool) : ∀ (d n : Nat) (t : T n) (r : Bool), n < d → Small n t → (r = true ∧ n = 0) ∨ Full n t → count n t ≤ 150 → FormN d r (veil m d n t)
  | 0, n, t, _, h, _, _, _ => absurd h (by omega)
  | d + 1, 0, l, r, _, hs, hf, _ => by
    rw [veil_leaf]
    refine .inl ⟨rfl, hs.1, ?_, hs.2⟩
    rcases hf with hf | hf
    · exact .inl hf.1
    · exact .inr (List.length_pos_iff.2 hf)
  | d + 1, n + 1, cs, r, h, hs, hf, hc => by
    have hF : Full (n + 1) cs := by
      rcases hf with hf | hf
      · exact absurd hf.2 (by omega)
      · exact hf
    have hl : 0 < List.length (cs : List (T n)) := List.length_pos_iff.2 hF.1
    rw [veil_succ]
    refine .inr ⟨rfl, by show 0 < (cs.map (kidV m d n)).length; rw [List.length_map]; exact hl, by show (cs.map (kidV m d n)).length ≤ 4; rw [List.length_map]; exact hs.1, fun c hcm => ?_⟩
    obtain ⟨t, ht, rfl⟩ := List.mem_map.1 hcm
    have hct : count n t ≤ 150 := Nat.le_trans (kid_count ht) hc
    exact kid_form (hs.2 t ht) (hF.2 t ht) hct fun _ => veil_form m d n t false (by omega) (hs.2 t ht) (.inr (hF.2 t ht)) hct
/-- the proof of an answer -/
def proofText (q : Qr) (L : List Pt) : List UInt8 := proof Sha.sha (must q (ans q L)) (tree L).1 (tree L).2
theorem tree_nil : tree [] = ⟨0, ([] : List Pt)⟩ := rfl
theorem tree_some (L : List Pt) : Full (tree L).1 (tree L).2 ∨ (tree L).1 = 0 := by
  by_cases h : L = []
  · exact .inr (by rw [h]; rfl)
  · exact .inl (tree_full h)
theorem tree_some' (L : List Pt) : ((true = true ∧ (tree L).1 = 0) ∨ Full (tree L).1 (tree L).2) := by
  rcases tree_some L with h | h
  · exact .inr h
  · exact .inl ⟨rfl, h⟩
/-- the tree that a proof shows -/
def shownTree (q : Qr) (L : List Pt) : NT 7 := veil (must q (ans q L)) 6 (tree L).1 (tree L).2
/-- points of a map, in whatever order -/
structure Well (L : List Pt) : Prop where
  ok : ∀ p ∈ L, p.Ok
  ids : Ids L
  len : L.length ≤ 150
theorem Well.deep {L : List Pt} (h : Well L) : (tree L).1 ≤ 3 := tree_depth (by have := h.len; omega)
theorem shown_text {q : Qr} {L : List Pt} (h : Well L) : textS 7 (shownTree q L) = proofText q L :=
  veil_text _ 6 _ _ (by have := h.deep; omega) (tree_some L)
theorem shown_made {q : Qr} {L : List Pt} (h : Well L) : madeN 7 (shownTree q L) = shownTree q L := veil_made _ 6 _ _ (by have := h.deep; omega) (tree_some L)
theorem shown_sub {q : Qr} {L : List Pt} (h : Well L) : (allN 7 (shownTree q L)).Sublist L := by
  have hsub := veil_sub (must q (ans q L)) 6 (tree L).1 (tree L).2
  rw [(tree_small h.ok).2] at hsub
  exact hsub
theorem shown_parse {q : Qr} {L : List Pt} (h : Well L) : parse (proofText q L) = some (shownTree q L) := by
  have hd := h.deep
  have ht := tree_small h.ok
  have hf : FormN 6 true (shownTree q L) := veil_form _ 6 _ _ true (by omega) ht.1 (tree_some' L) (by rw [count_pts, ht.2]; exact h.len)
  have hn : (idsN 7 (shownTree q L)).Nodup := List.pairwise_map.2 (ids_sub (shown_sub h) h.ids)
  rw [← shown_text h]
  exact parse_full hf hn (shown_made h)
theorem shown_ans {q : Qr} {L : List Pt} (hq : mayBe q = true) (h : Well L) : ans q (allN 7 (shownTree q L)) = ans q L := by
  have ht := tree_small h.ok
  refine ans_part (a := ans q L) hq (shown_sub h) h.ids (fun p hp => ?_) (.inl rfl)
  exact veil_hidden (must q (ans q L)) 6 (tree L).1 (tree L).2 (by have := h.deep; omega) p (by rw [ht.2]; exact hp)
theorem shown_boxes {q : Qr} {L : List Pt} (h : Well L) : everyN boxHolds 7 (shownTree q L) = true := veil_boxes _ 6 _ _ (by have := h.deep; omega) (tree_some L)
theorem shown_digs {q : Qr} {L : List Pt} (h : Well L) : everyN digHolds 7 (shownTree q L) = true := veil_digs _ 6 _ _ (by have := h.deep; omega) (tree_some L)
theorem shown_lacks {q : Qr} {L : List Pt} (h : Well L) : everyN (lackN q (ans q L)) 7 (shownTree q L) = true := by
  refine every_veil _ _ (fun d n c hn hf => ?_) 6 _ _ (by have := h.deep; omega) (tree_some L)
  unfold lackN
  rw [kid_shown _ d n c hn hf, kid_box]
  cases must q (ans q L) (box n c) <;> rfl
theorem shown_wastes {q : Qr} {L : List Pt} (h : Well L) : everyN (wasteN q (ans q L)) 7 (shownTree q L) = true := by
  refine every_veil _ _ (fun d n c hn hf => ?_) 6 _ _ (by have := h.deep; omega) (tree_some L)
  unfold wasteN
  rw [kid_shown _ d n c hn hf, kid_box]
  cases must q (ans q L) (box n c) <;> rfl
theorem shown_root {q : Qr} {L : List Pt} : digN 7 (shownTree q L) = Sha.sha (rootText Sha.sha L) := veil_dig _ 6 _ _
theorem shown_num {q : Qr} {L : List Pt} (h : Well L) : numN 7 (shownTree q L) = (L.length : Nat) := by
  have e : numN 7 (shownTree q L) = (count (tree L).1 (tree L).2 : Nat) := veil_num _ 6 _ _
  rw [e, count_pts, (tree_small h.ok).2]
/-- what Prove gives is taken, and the answer is Answer's -/
theorem verify_proof {q : Qr} {L : List Pt} (hq : mayBe q = true) (h : Well L) : verify (Sha.sha (rootText Sha.sha L)) (L.length : Nat) q (proofText q L) = (ans q L, 0) := by
  unfold verify
  rw [hq, if_neg (by simp), shown_parse h]
  simp only
  rw [shown_ans hq h, shown_boxes h, shown_digs h, shown_lacks h, shown_wastes h, if_neg (by simp), if_neg (by rw [shown_root, shown_num h]; simp), if_neg (by simp), if_neg (by simp)]
/-- with another number of points it is refused -/
theorem verify_count {q : Qr} {L : List Pt} (hq : mayBe q = true) (h : Well L) {c : Int} (hc : c ≠ (L.length : Nat)) : verify (Sha.sha (rootText Sha.sha L)) c q (proofText q L) = ([], 9) := by
  unfold verify
  rw [hq, if_neg (by simp), shown_parse h]
  simp only
  rw [shown_boxes h, if_neg (by simp), if_pos (.inr (by rw [shown_num h]; exact fun e => hc e.2.symm))]
theorem verify_nil {r : List UInt8} {c : Int} {q : Qr} {s : List UInt8} (h : (verify r c q s).2 ≠ 0) : (verify r c q s).1 = [] := by
  unfold verify at h ⊢
  split
  · rfl
  · split
    · rfl
    · split
      · rfl
      · split
        · rfl
        · split
          · rfl
          · split
            · rfl
            · rename_i h0 _ _ hp h1 h2 h3 h4
              rw [if_neg h0, hp] at h
              simp only at h
              rw [if_neg h1, if_neg h2, if_neg h3, if_neg h4] at h
              exact absurd rfl h
end Ward
end Go.Proofs.YtenaelkbgkpllaaGreatDoor
/- One level of nodes above another: the call. -/
namespace Go.Proofs.YtenaelkbgkpllaaGreatDoor
open Go.RowKit

theorem range_flat_step (f : Nat → List Value) (i : Nat) : (List.range (i + 1)).flatMap f = (List.range i).flatMap f ++ f i := by
  rw [List.range_succ, List.flatMap_append]; simp
theorem up_is {w : World} {S : Nat → Prop} {g o n : Nat} {K : List (Ward.NT n)} (hB : S g) (h : ∀ i (h : i < K.length), ∃ U, NodeIs w S n K[i] U ∧ w.rangeAt g (o + i * 39) U) (j : Nat) (hj : j < ((Ward.fours K).map (Ward.upN n)).length) :
    NodeIs w S (n + 1) ((Ward.fours K).map (Ward.upN n))[j] (upV g o n K j) := by
  rw [List.getElem_map, Ward.fours_get]
  exact ⟨.slice none 0 0, groupV 39 g o K.length j, rfl, sha_len _, ⟨none, 0, rfl, fun e => absurd rfl e⟩, group_rows hB h j⟩
set_option maxRecDepth 100000 in
set_option maxHeartbeats 4000000 in
theorem above_any (v : Value) (n : Nat) (K : List (Ward.NT n)) (w : World) (S : Nat → Prop) (hS : ∀ g, S g → g < w.heap.size) (h0 : K ≠ []) (hK : K.length ≤ 1000) (hk : Level w S v n K) (hnum : ∀ t ∈ K, 0 ≤ Ward.numN n t ∧ Ward.numN n t ≤ 1000000) (hKT : KT w) :
    Calls Tryz.prog 72 #[v] w fun e w' => ∃ v', e = .returned v' ∧ Level w' (fun g => S g ∨ w.heap.size ≤ g ∧ g < w'.heap.size) v' (n + 1) ((Ward.fours K).map (Ward.upN n)) ∧ Below w.heap.size w w' := by
  obtain ⟨⟨a, c, rfl, hrd⟩, ⟨a', c', e', hc1, hc2⟩⟩ := hk
  injection e' with e1 e2 e3
  subst e1 e3
  clear e2
  obtain ⟨g, o, rfl, hgS, hrows⟩ := hrd h0
  have hgB := hS g hgS
  have HSS := hide hS
  have HGS := hide hgS
  clear hS hgS
  have HRD := hide hrows
  have HNUM := hide hnum
  have HK := hide hKT
  have hp : 0 < K.length := List.length_pos_iff.2 h0
  obtain ⟨i0, hi0, hz0, hz1, hz2⟩ := info_parts Tryz.infoNodeZ
  have HZ1 := hide hz1
  clear hrd hrows hnum hKT
  go_enter Tryz.func72, Tryz.ntmps72
  go_wp2_with fail
  refine (foursNode_any g o K.length c w hK hc1 hc2).mono ?_
  rintro _ w1 ⟨v7, rfl, ho7, hb1⟩
  obtain ⟨gg, cg, rfl, hgg, hggl⟩ := ho7.form (by omega)
  have HO7 := hide ho7
  have HB1 := hide hb1
  have hm4 : (K.length + 3) / 4 ≤ 1000 := by omega
  have hm0 : 0 < (K.length + 3) / 4 := by omega
  have HM := hide (show (K.length + 3) / 4 ≤ 1000 ∧ 0 < (K.length + 3) / 4 from ⟨hm4, hm0⟩)
  have HML := hide (show ∀ j, j < (K.length + 3) / 4 → 4 * j < K.length from fun j hj => by omega)
  clear ho7 hb1 hm4 hm0
  generalize hmm : (K.length + 3) / 4 = m at *
  have HMM := hide hmm
  clear hmm
  go_wp2_with fail
  go_loopg [3, 9] m (fun gk v3 v9 wq => ∃ i : Nat, gk = m - i ∧ v9 = I i ∧ i ≤ m ∧ wq.ownsRow w1.heap.size 90 39 v3 i ((List.range i).flatMap (upV g o n K)) ∧ Below w1.heap.size w1 wq)
  case atStart => exact ⟨0, by omega, rfl, by omega, World.ownsRow_nil _ _ _ _, Below.refl _ _⟩
  case round =>
    obtain ⟨i, hgk, rfl, hi, ho, hb⟩ := hrel
    have HGK := hide hgk
    have HO := hide ho
    have HB := hide hb
    have hs := hb.size
    clear hgk ho hb
    by_cases hlt : i < m
    · have hm1 := HM.out.1
      have hci : wr.cell? ⟨gg, i, none⟩ = some (groupV 39 g o K.length i) := by
        refine (HB.out.cell (p := ⟨gg, i, none⟩) hggl).trans ?_
        rw [HO7.out.cellAt i (by omega)]
        simp [groupsV, hlt]
      have h4 := HML.out i hlt
      have HBW := hide (HB1.out.trans (HB.out.mono HB1.out.size))
      have hG0 : (K.drop (4 * i)).take 4 ≠ [] := fun e => by
        have := congrArg List.length e
        simp at this
        omega
      have hG4 : ((K.drop (4 * i)).take 4).length ≤ 4 := by simp; omega
      have hGR := group_rows (w := wr) (S := S) (o := o) (K := K) (P := NodeIs wr S n) (g := g) HGS.out (fun j hj => by
        obtain ⟨U, hU, hr⟩ := HRD.out j hj
        exact ⟨U, NodeIs.keep (below_same HBW.out HSS.out) (fun _ h => h) n _ _ hU, rangeAt_below hr HBW.out hgB⟩) i
      have HN := hide (nodeOf_any (groupV 39 g o K.length i) n ((K.drop (4 * i)).take 4) wr S (fun g hg => Nat.lt_of_lt_of_le (HSS.out g hg) HBW.out.size) hG0 hG4 hGR (fun t ht => HNUM.out t (List.mem_of_mem_drop (List.mem_of_mem_take ht))) (HK.out.below HBW.out))
      have HN := hide (show Calls Tryz.prog 113 #[groupV 39 g o K.length i] wr fun e w' => e = .returned (.agg (upV g o n K i).toArray) ∧ Below wr.heap.size wr w' from HN.out)
      have HR := hide (upV_row g o n K i)
      have HST := hide (range_flat_step (upV g o n K) i)
      generalize groupV 39 g o K.length i = gv at *
      generalize upV g o n K i = M at *
      clear hGR hG0 hG4 h4
      go_wp2_with fail
      refine HN.out.mono ?_
      rintro _ w2 ⟨rfl, hb2⟩
      have hs2 := hb2.size
      obtain ⟨v3, w3, h3, ho3, hg3, hf3⟩ := append_node (w := w2) M HR.out (ownsRow_below HO.out hb2) (by omega) (by have := HM.out; omega)
      have HO3 := hide (show w3.ownsRow w1.heap.size 90 39 v3 (i + 1) ((List.range (i + 1)).flatMap (upV g o n K)) by rw [HST.out]; exact ho3)
      have HB3 := hide ((HB.out.trans (hb2.mono hs)).grown hg3 (by omega) (fun k hk => (HO.out.lt k hk).1))
      have HF := hide (fun (cells : Array Value) (hc : cells.size = i0.size) => fill_one (s := i0.size) (by rw [HZ1.out]; decide) M.toArray cells (by rw [HZ1.out, HR.out.size]) hc)
      obtain ⟨a3, c3, e3⟩ : ∃ a c, u3 = .slice a i c := by
        rcases HO.out.2 with ⟨e, h⟩ | ⟨g', c', _, e, _⟩
        · exact ⟨none, 0, by rw [e, h]⟩
        · exact ⟨_, c', e⟩
      subst e3
      clear ho3 hg3 hf3 hb2 HN
      go_wp2_with (first | (refine wpList_buildSlice rfl 86 90 1 #[(0, .tmp 15)] rfl M.toArray i0 zeroNode Tryz.underlying86 hi0 hz0 (by rw [HZ1.out]; decide) (by rw [HZ1.out]; decide) (by rw [Array.toList_map]; exact HF.out _ (by simp)) ?_) | (at_builtin; refine Lib.wpList_append_run _ rfl (.tmp 13) (.tmp 16) 86 86 rfl _ _ rfl rfl _ _ h3 ?_))
      go_roundg (m - (i + 1))
      case measure => have := HGK.out; omega
      case rel => exact ⟨i + 1, rfl, by go_num, by omega, HO3.out, HB3.out⟩
    · have ei : i = m := by omega
      subst ei
      go_wp2
      go_ret
      have hBW := HB1.out.trans (HB.out.mono HB1.out.size)
      refine ⟨_, rfl, level_of_own HO.out (by rw [List.length_map, Ward.fours_length]; exact HMM.out) HM.out.2 (fun j _ => (upV_row g o n K j).len) (fun j hj => ?_) (fun g h1 h2 => .inr ⟨Nat.le_trans HB1.out.size h1, h2⟩), hBW⟩
      exact up_is (.inl HGS.out) (fun j hj => by
        obtain ⟨U, hU, hr⟩ := HRD.out j hj
        exact ⟨U, NodeIs.keep (below_same hBW HSS.out) (fun _ h => .inl h) n _ _ hU, rangeAt_below hr hBW hgB⟩) j hj
end Go.Proofs.YtenaelkbgkpllaaGreatDoor
