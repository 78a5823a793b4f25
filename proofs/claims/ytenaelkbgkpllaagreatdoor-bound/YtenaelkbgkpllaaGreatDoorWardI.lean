/- A proof taken apart: sound and whole. -/
import Derived.Test.YtenaelkbgkpllaaGreatDoorWardH
namespace Go.Proofs.YtenaelkbgkpllaaGreatDoor
namespace Ward
/-- nothing is said of it yet -/
def Bare (n : Nat) (t : NT (n + 1)) : Prop := Nd.box t = ⟨0, 0, 0, 0⟩ ∧ Nd.n t = 0 ∧ Nd.dig t = List.replicate 32 0
theorem nd_ext {α : Type} {a b : Nd α} (h1 : a.pts = b.pts) (h2 : a.kids = b.kids) (h3 : a.box = b.box) (h4 : a.n = b.n) (h5 : a.dig = b.dig) : a = b := by
  cases a
  cases b
  simp only at *
  subst h1 h2 h3 h4 h5
  rfl
theorem may_in {b : Box} (h : boxMay b = true) : b.In ∧ b.a ≤ b.c ∧ b.b ≤ b.d := by
  simp only [boxMay, Bool.and_eq_true, coordOk_iff, decide_eq_true_eq] at h
  obtain ⟨⟨⟨⟨⟨h1, h2⟩, h3⟩, h4⟩, h5⟩, h6⟩ := h
  exact ⟨⟨h1.1, h1.2, h2.1, h2.2, h3.1, h3.2, h4.1, h4.2⟩, h5, h6⟩
theorem said_of {n : Nat} {b c : NT (n + 1)} (h3 : Nd.box b = Nd.box c) (h4 : Nd.n b = Nd.n c) (h5 : Nd.dig b = Nd.dig c) : saidN (n + 1) b = saidN (n + 1) c := by
  show boxText (Nd.box b) ++ fourI (Nd.n b) ++ Nd.dig b = boxText (Nd.box c) ++ fourI (Nd.n c) ++ Nd.dig c
  rw [h3, h4, h5]
theorem text_of {n : Nat} {b c : NT (n + 1)} (h1 : Nd.pts b = Nd.pts c) (h2 : Nd.kids b = Nd.kids c) : textS (n + 1) b = textS (n + 1) c := by
  show (if (Nd.kids b).length = 0 then leafText (Nd.pts b) else _) = (if (Nd.kids c).length = 0 then leafText (Nd.pts c) else _)
  rw [h1, h2]
theorem all_of {n : Nat} {b c : NT (n + 1)} (h1 : Nd.pts b = Nd.pts c) (h2 : Nd.kids b = Nd.kids c) : allN (n + 1) b = allN (n + 1) c := by
  show Nd.pts b ++ (Nd.kids b).flatMap (allN n) = Nd.pts c ++ (Nd.kids c).flatMap (allN n)
  rw [h1, h2]
theorem form_of {d : Nat} {r : Bool} {b c : NT (d + 1)} (h1 : Nd.pts b = Nd.pts c) (h2 : Nd.kids b = Nd.kids c) (h : FormN d r b) : FormN d r c := by
  cases d with
  | zero => exact h
  | succ d =>
    unfold FormN at h ⊢
    rw [h1, h2] at h
    exact h
theorem shown_of {n : Nat} {b c : NT (n + 1)} (h1 : Nd.pts b = Nd.pts c) (h2 : Nd.kids b = Nd.kids c) : shownN (n + 1) b = shownN (n + 1) c := by
  show decide (0 < (Nd.pts b).length + (Nd.kids b).length) = decide (0 < (Nd.pts c).length + (Nd.kids c).length)
  rw [h1, h2]
theorem ids_all (n : Nat) (t : NT (n + 1)) (h : Nd.pts t = []) : idsN (n + 1) t = (Nd.kids t).flatMap (idsN n) := by
  show (Nd.pts t ++ (Nd.kids t).flatMap (allN n)).map Pt.id = _
  rw [h, List.nil_append, List.map_flatMap]
  rfl
theorem split53 {l : List UInt8} (h : 53 ≤ l.length) : l = l.take 52 ++ l.getD 52 0 :: l.drop 53 := by
  have h2 : l.drop 52 = l.getD 52 0 :: l.drop 53 := by
    rw [List.drop_eq_getElem_cons (by omega), List.getD_eq_getElem?_getD, List.getElem?_eq_getElem (by omega)]
    rfl
  rw [← h2, List.take_append_drop]
theorem rdKid_sound {d : Nat} {below : Sta → Option (NT (d + 1) × Sta)} (hb : ∀ s t s', below s = some (t, s') → FormN d false t ∧ s.1 = textS (d + 1) t ++ s'.1 ∧ Reads2 (idsN (d + 1) t) s.2 s'.2)
    (s : Sta) (c : NT (d + 1)) (s' : Sta) (h : rdKid d below s = some (c, s')) : KidForm d c ∧ s.1 = kidText (d + 1) c ++ s'.1 ∧ Reads2 (idsN (d + 1) c) s.2 s'.2 := by
  unfold rdKid at h
  by_cases hl : s.1.length < 53
  · rw [if_pos hl] at h; cases h
  · rw [if_neg hl] at h
    obtain ⟨ht, hd⟩ := head_text (l := s.1) d (by omega)
    have h53 := split53 (l := s.1) (by omega)
    simp only at h
    generalize hH : headN d s.1 = H at *
    have hp : Nd.pts H = [] := by rw [← hH]; rfl
    have hk : Nd.kids H = [] := by rw [← hH]; rfl
    split at h
    · rename_i hc
      simp only [Bool.and_eq_true, decide_eq_true_eq] at hc
      obtain ⟨⟨h1, h2⟩, h3⟩ := hc
      split at h
      · rename_i h0
        cases h
        refine ⟨⟨⟨h1, h2, h3, hd⟩, .inl ⟨hp, hk⟩⟩, ?_, ?_⟩
        · show s.1 = (saidN (d + 1) c ++ (if shownN (d + 1) c = true then _ else [0])) ++ s.1.drop 53
          rw [if_neg (by rw [shown_no hp hk]; simp), ht, List.append_assoc]
          rw [h0] at h53
          exact h53
        · have : idsN (d + 1) c = [] := by
            show (Nd.pts c ++ (Nd.kids c).flatMap (allN d)).map Pt.id = []
            rw [hp, hk]; rfl
          rw [this]
          exact reads_nil _
      · split at h
        · rename_i h1'
          cases hbe : below (s.1.drop 53, s.2) with
          | none => rw [hbe] at h; cases h
          | some bs =>
            obtain ⟨b, s1⟩ := bs
            rw [hbe] at h
            cases h
            obtain ⟨b1, b2, b3⟩ := hb _ _ _ hbe
            refine ⟨⟨⟨h1, h2, h3, hd⟩, .inr (form_of (b := b) rfl rfl b1)⟩, ?_, ?_⟩
            · have e1 : shownN (d + 1) { H with pts := Nd.pts b, kids := Nd.kids b } = true := by
                rw [shown_of (b := { H with pts := Nd.pts b, kids := Nd.kids b }) (c := b) rfl rfl]
                exact form_shown b1
              have e2 : textS (d + 1) { H with pts := Nd.pts b, kids := Nd.kids b } = textS (d + 1) b := text_of rfl rfl
              have e3 : saidN (d + 1) { H with pts := Nd.pts b, kids := Nd.kids b } = saidN (d + 1) H := said_of rfl rfl rfl
              rw [kidText, if_pos e1, e2, e3, ht, List.append_assoc, List.cons_append]
              rw [h1'] at h53
              rw [← b2]
              exact h53
            · have e : allN (d + 1) { H with pts := Nd.pts b, kids := Nd.kids b } = allN (d + 1) b := all_of rfl rfl
              rw [idsN, e]
              exact b3
        · cases h
    · cases h
theorem getD_zero {a : UInt8} {l : List UInt8} : (a :: l).getD 0 0 = a := rfl
theorem two_of {l : List UInt8} (h : ¬ l.length < 2) : l = l.getD 0 0 :: l.getD 1 0 :: l.drop 2 := by
  match l, h with
  | [], h => exact absurd (by decide) h
  | [_], h => exact absurd (by simp) h
  | a :: b :: l, _ => rfl
theorem ofNat_toNat8 (a : UInt8) : UInt8.ofNat a.toNat = a := by simp
theorem rdNode_sound : ∀ (d : Nat) (root : Bool) (s : Sta) (t : NT (d + 1)) (s' : Sta), rdNode d root s = some (t, s') → (FormN d root t ∧ s.1 = textS (d + 1) t ++ s'.1 ∧ Reads2 (idsN (d + 1) t) s.2 s'.2) ∧ Bare d t
  | 0, _, _, _, _, h => by cases h
  | d + 1, root, s, t, s', h => by
    unfold rdNode at h
    by_cases hl : s.1.length < 2
    · rw [if_pos hl] at h; cases h
    · rw [if_neg hl] at h
      simp only at h
      have h2 := two_of hl
      by_cases h4 : 4 < (s.1.getD 1 0).toNat
      · rw [if_pos h4] at h; cases h
      · rw [if_neg h4] at h
        by_cases hm1 : s.1.getD 0 0 = 1 ∧ (0 < (s.1.getD 1 0).toNat ∨ root = true)
        · rw [if_pos hm1] at h
          cases hr : rdMany rdPt (s.1.getD 1 0).toNat (s.1.drop 2, s.2) with
          | none => rw [hr] at h; cases h
          | some ls =>
            obtain ⟨l, s1⟩ := ls
            rw [hr] at h
            cases h
            obtain ⟨r1, r2, r3, r4⟩ := rdMany_sound (P := Pt.Ok) (tx := ptText) (ids := fun p => [p.id]) (fun s x s' h => rdPt_sound h) _ _ _ _ hr
            refine ⟨⟨.inl ⟨rfl, by show l.length ≤ 4; omega, by show root = true ∨ 0 < l.length; rw [r1]; exact hm1.2.symm, r2⟩, ?_, ?_⟩, rfl, rfl, rfl⟩
            · rw [textS_leaf _ _ (by rfl)]
              show s.1 = leafText l ++ s'.1
              unfold leafText
              rw [r1, ofNat_toNat8, List.cons_append, List.cons_append, ← r3]
              have e := hm1.1
              rw [← e]
              exact h2
            · have e : idsN (d + 1 + 1) { bareN (d + 1) with pts := l } = l.flatMap (fun p => [p.id]) := by
                show (l ++ ([] : List (NT (d + 1))).flatMap (allN (d + 1))).map Pt.id = _
                rw [List.flatMap_nil, List.append_nil]
                clear r1 r2 r3 r4 hr
                induction l with
                | nil => rfl
                | cons p l ih => rw [List.map_cons, List.flatMap_cons, ih]; rfl
              rw [e]
              exact r4
        · rw [if_neg hm1] at h
          by_cases hm2 : s.1.getD 0 0 = 2 ∧ 0 < (s.1.getD 1 0).toNat
          · rw [if_pos hm2] at h
            cases hr : rdMany (rdKid d (rdNode d false)) (s.1.getD 1 0).toNat (s.1.drop 2, s.2) with
            | none => rw [hr] at h; cases h
            | some ls =>
              obtain ⟨l, s1⟩ := ls
              rw [hr] at h
              cases h
              obtain ⟨r1, r2, r3, r4⟩ := rdMany_sound (P := KidForm d) (tx := kidText (d + 1)) (ids := idsN (d + 1)) (fun s x s' h => rdKid_sound (fun s t s' h => (rdNode_sound d false s t s' h).1) s x s' h) _ _ _ _ hr
              refine ⟨⟨.inr ⟨rfl, by show 0 < l.length; omega, by show l.length ≤ 4; omega, r2⟩, ?_, ?_⟩, rfl, rfl, rfl⟩
              · rw [textS_kids _ _ (by show 0 < l.length; omega)]
                show s.1 = (2 :: UInt8.ofNat l.length :: l.flatMap (kidText (d + 1))) ++ s'.1
                rw [r1, ofNat_toNat8, List.cons_append, List.cons_append, ← r3]
                have e := hm2.1
                rw [← e]
                exact h2
              · rw [ids_all _ _ (by rfl)]
                exact r4
          · rw [if_neg hm2] at h; cases h
end Ward
end Go.Proofs.YtenaelkbgkpllaaGreatDoor
