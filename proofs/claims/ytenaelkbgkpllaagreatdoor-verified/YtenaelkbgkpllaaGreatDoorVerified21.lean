/- Of all texts just one is taken, or two texts of one digest are there. -/
import Derived.Test.YtenaelkbgkpllaaGreatDoorVerified20
import Derived.Test.YtenaelkbgkpllaaGreatDoorVerified15
import Derived.Test.YtenaelkbgkpllaaGreatDoorVerified6
import Derived.Test.YtenaelkbgkpllaaGreatDoorVerified18
import Derived.Deep.CutRange
import Derived.Test.YtenaelkbgkpllaaGreatDoorVerified12
import Derived.Lib.BufferWrite
namespace Go.Proofs.YtenaelkbgkpllaaGreatDoor
namespace Ward
/-- a node's own text -/
def ownN : (n : Nat) → NT n → List UInt8
  | 0, t => nomatch t
  | n + 1, t => if (Nd.kids t).length = 0 then leafText (Nd.pts t) else textK n (Nd.kids t)
theorem own_leaf {n : Nat} {t : NT (n + 1)} (h : (Nd.kids t).length = 0) : ownN (n + 1) t = leafText (Nd.pts t) := by
  show (if (Nd.kids t).length = 0 then _ else _) = _
  rw [if_pos h]
theorem own_node {n : Nat} {t : NT (n + 1)} (h : ¬ (Nd.kids t).length = 0) : ownN (n + 1) t = textK n (Nd.kids t) := by
  show (if (Nd.kids t).length = 0 then _ else _) = _
  rw [if_neg h]
theorem made_dig {n : Nat} (t : NT (n + 1)) : digN (n + 1) (madeN (n + 1) t) = Sha.sha (ownN (n + 1) t) := by
  by_cases h : (Nd.kids t).length = 0
  · rw [made_leaf h, own_leaf h]; rfl
  · rw [made_node h, own_node h]; rfl
/-- the own texts of all that is shown -/
def ownsN : (n : Nat) → NT n → List (List UInt8)
  | 0, t => nomatch t
  | n + 1, t => (Nd.kids t).flatMap (fun c => if shownN n c = true then ownsN n c else []) ++ [ownN (n + 1) t]
theorem own_mem {n : Nat} (t : NT (n + 1)) : ownN (n + 1) t ∈ ownsN (n + 1) t := List.mem_append_right _ (by simp)
theorem owns_kid {n : Nat} {t : NT (n + 1)} {c : NT n} (hc : c ∈ Nd.kids t) (hs : shownN n c = true) {a : List UInt8} (ha : a ∈ ownsN n c) : a ∈ ownsN (n + 1) t :=
  List.mem_append_left _ (List.mem_flatMap.2 ⟨c, hc, by rw [if_pos hs]; exact ha⟩)
/-- two texts of one digest -/
def Clash (A B : List (List UInt8)) : Prop := ∃ a ∈ A, ∃ b ∈ B, a ≠ b ∧ Sha.sha a = Sha.sha b
/-- t shows some of the tree u -/
def Shows : (d n : Nat) → NT (d + 1) → T n → Prop
  | _, 0, t, l => Nd.kids t = [] ∧ Nd.pts t = (l : List Pt)
  | 0, _ + 1, _, _ => False
  | d + 1, n + 1, t, cs => Nd.pts t = [] ∧ (Nd.kids t).length = List.length (cs : List (T n)) ∧ ∀ i (h : i < (Nd.kids t).length) (h' : i < List.length (cs : List (T n))), (Nd.box (Nd.kids t)[i] = box n (List.get cs ⟨i, h'⟩) ∧ saidN (d + 1) (Nd.kids t)[i] = head Sha.sha n (List.get cs ⟨i, h'⟩)) ∧ (shownN (d + 1) (Nd.kids t)[i] = true → Shows d n (Nd.kids t)[i] (List.get cs ⟨i, h'⟩))
theorem flat_get_eq {α β : Type} {f : α → List UInt8} {g : β → List UInt8} : ∀ {K : List α} {cs : List β}, K.length = cs.length → (∀ x ∈ K, (f x).length = 52) → (∀ y ∈ cs, (g y).length = 52) → K.flatMap f = cs.flatMap g → ∀ i (h : i < K.length) (h' : i < cs.length), f K[i] = g cs[i]
  | [], _, _, _, _, _, _, h, _ => absurd h (by simp)
  | _ :: _, [], hl, _, _, _, _, _, _ => by simp at hl
  | x :: K, y :: cs, hl, hf, hg, e, i, h, h' => by
    rw [List.flatMap_cons, List.flatMap_cons] at e
    obtain ⟨e1, e2⟩ := List.append_inj e (by rw [hf x (by simp), hg y (by simp)])
    cases i with
    | zero => exact e1
    | succ i => exact flat_get_eq (by simpa using hl) (fun x hx => hf x (by simp [hx])) (fun y hy => hg y (by simp [hy])) e2 i (by simpa using h) (by simpa using h')
theorem said_box {b c : Box} {n m : Int} {d e : List UInt8} (hb : b.In) (hc : c.In) (h : boxText b ++ fourI n ++ d = boxText c ++ fourI m ++ e) : b = c := by
  rw [List.append_assoc, List.append_assoc] at h
  obtain ⟨h1, -⟩ := List.append_inj h (by rw [boxText_len, boxText_len])
  unfold boxText at h1
  obtain ⟨h123, h4⟩ := List.append_inj h1 rfl
  obtain ⟨h12, h3⟩ := List.append_inj h123 rfl
  obtain ⟨h1, h2⟩ := List.append_inj h12 rfl
  obtain ⟨a1, a2, b1, b2, c1, c2, d1, d2⟩ := hb
  obtain ⟨a1', a2', b1', b2', c1', c2', d1', d2'⟩ := hc
  have e1 := fourI_inj a1 a2 a1' a2' h1
  have e2 := fourI_inj b1 b2 b1' b2' h2
  have e3 := fourI_inj c1 c2 c1' c2' h3
  have e4 := fourI_inj d1 d2 d1' d2' h4
  cases b
  cases c
  simp only at e1 e2 e3 e4
  subst e1 e2 e3 e4
  rfl
theorem said_dig {b c : Box} {n m : Int} {d e : List UInt8} (h : boxText b ++ fourI n ++ d = boxText c ++ fourI m ++ e) : d = e :=
  (List.append_inj h (by simp [boxText_len, fourI_len])).2
/-- from the root down the texts are the map's own, or the first that differ have one digest -/
theorem shows_of : ∀ (d : Nat) (r : Bool) (t : NT (d + 1)) (n : Nat) (u : T n), FormN d r t → everyN digHolds (d + 1) t = true → Small n u → ownN (d + 1) t = text Sha.sha n u → Shows d n t u ∨ Clash (ownsN (d + 1) t) (texts Sha.sha n u)
  | 0, _, _, _, _, h, _, _, _ => absurd h (fun h => h)
  | d + 1, r, t, n, u, hf, hev, hs, ho => by
    rcases hf with ⟨hk, h4, _, hok⟩ | ⟨hp, h0, h4, hkids⟩
    · have hk0 : (Nd.kids t).length = 0 := by rw [hk]; rfl
      rw [own_leaf hk0] at ho
      cases n with
      | zero =>
        refine .inl ⟨hk, ?_⟩
        exact (leafText_inj (r := []) (s := []) h4 hs.1 hok hs.2 (by rw [List.append_nil, List.append_nil]; exact ho)).1
      | succ n => rw [text_succ] at ho; simp [leafText] at ho
    · have hk0 : ¬ (Nd.kids t).length = 0 := by omega
      rw [own_node hk0] at ho
      cases n with
      | zero => simp [textK, text, leafText] at ho
      | succ n =>
        rw [text_succ] at ho
        unfold textK at ho
        simp only [List.cons.injEq, true_and] at ho
        have hlen : (Nd.kids t).length = List.length (u : List (T n)) := ofNat_small h4 hs.1 ho.1
        have hget := flat_get_eq hlen (fun c hc => said_len52 (hkids c hc).1.2.2.2) (fun c _ => head_len sha_32 n c) ho.2
        have hall : ∀ i (h : i < (Nd.kids t).length) (h' : i < List.length (u : List (T n))), Nd.box (Nd.kids t)[i] = box n (List.get u ⟨i, h'⟩) ∧ saidN (d + 1) (Nd.kids t)[i] = head Sha.sha n (List.get u ⟨i, h'⟩) := by
          intro i h h'
          have e := hget i h h'
          refine ⟨?_, e⟩
          have hb := (hkids _ (List.getElem_mem h)).1.1
          exact said_box (may_in hb).1 (box_in n _ (hs.2 _ (List.getElem_mem h'))) e
        by_cases hcl : Clash (ownsN (d + 1 + 1) t) (texts Sha.sha (n + 1) u)
        · exact .inr hcl
        · refine .inl ⟨hp, hlen, fun i h h' => ⟨hall i h h', fun hsh => ?_⟩⟩
          have hmem := List.getElem_mem h
          have hmem' : List.get u ⟨i, h'⟩ ∈ (u : List (T n)) := List.getElem_mem h'
          have hsm := hs.2 _ hmem'
          have hkf := (hkids _ hmem).2
          have hform : FormN d false (Nd.kids t)[i] := by
            rcases hkf with ⟨h1, h2⟩ | h1
            · rw [shown_no h1 h2] at hsh; cases hsh
            · exact h1
          have hev' := List.all_eq_true.1 (show (Nd.kids t).all (fun c => digHolds (d + 1) c && everyN digHolds (d + 1) c) = true from hev) _ hmem
          rw [Bool.and_eq_true] at hev'
          have hd1 : digN (d + 1) (Nd.kids t)[i] = Sha.sha (ownN (d + 1) (Nd.kids t)[i]) := by
            have h1 := hev'.1
            unfold digHolds at h1
            rw [hsh, Bool.not_true, Bool.false_or, decide_eq_true_eq] at h1
            rw [h1, made_dig]
          have hd2 : digN (d + 1) (Nd.kids t)[i] = Sha.sha (text Sha.sha n (List.get u ⟨i, h'⟩)) := said_dig (hall i h h').2
          have hsub : ∀ b ∈ texts Sha.sha n (List.get u ⟨i, h'⟩), b ∈ texts Sha.sha (n + 1) u := fun b hb => List.mem_append_left _ (List.mem_flatMap.2 ⟨_, hmem', hb⟩)
          by_cases ho' : ownN (d + 1) (Nd.kids t)[i] = text Sha.sha n (List.get u ⟨i, h'⟩)
          · rcases shows_of d false (Nd.kids t)[i] n (List.get u ⟨i, h'⟩) hform hev'.2 hsm ho' with h1 | ⟨a, ha, b, hb, h1⟩
            · exact h1
            · exact absurd ⟨a, owns_kid hmem hsh ha, b, hsub b hb, h1⟩ hcl
          · exact absurd ⟨_, owns_kid hmem hsh (own_mem _), _, hsub _ (text_mem Sha.sha n _), ho', by rw [← hd1, hd2]⟩ hcl
theorem flatMap_get {α β γ : Type} {f : α → List γ} {g : β → List γ} : ∀ {K : List α} {cs : List β}, K.length = cs.length → (∀ i (h : i < K.length) (h' : i < cs.length), f K[i] = g cs[i]) → K.flatMap f = cs.flatMap g
  | [], [], _, _ => rfl
  | [], _ :: _, hl, _ => by simp at hl
  | _ :: _, [], hl, _ => by simp at hl
  | x :: K, y :: cs, hl, h => by
    rw [List.flatMap_cons, List.flatMap_cons, show f x = g y from h 0 (by simp) (by simp)]
    congr 1
    exact flatMap_get (by simpa using hl) fun i h1 h2 => h (i + 1) (by simpa using h1) (by simpa using h2)
theorem sublist_get {α β γ : Type} {f : α → List γ} {g : β → List γ} : ∀ {K : List α} {cs : List β}, K.length = cs.length → (∀ i (h : i < K.length) (h' : i < cs.length), (f K[i]).Sublist (g cs[i])) → (K.flatMap f).Sublist (cs.flatMap g)
  | [], [], _, _ => List.Sublist.refl _
  | [], _ :: _, hl, _ => by simp at hl
  | _ :: _, [], hl, _ => by simp at hl
  | x :: K, y :: cs, hl, h => by
    rw [List.flatMap_cons, List.flatMap_cons]
    exact List.Sublist.append (h 0 (by simp) (by simp)) (sublist_get (by simpa using hl) fun i h1 h2 => h (i + 1) (by simpa using h1) (by simpa using h2))
theorem all_hidden {n : Nat} {c : NT (n + 1)} (h : shownN (n + 1) c = false) : allN (n + 1) c = [] := by
  simp only [shownN, decide_eq_false_iff_not] at h
  have h1 : (Nd.pts c) = [] := List.length_eq_zero_iff.1 (by omega)
  have h2 : (Nd.kids c) = [] := List.length_eq_zero_iff.1 (by omega)
  show Nd.pts c ++ (Nd.kids c).flatMap (allN n) = []
  rw [h1, h2]; rfl
/-- the points that are shown are some of the tree's -/
theorem shows_sub : ∀ (d n : Nat) (t : NT (d + 1)) (u : T n), Shows d n t u → (allN (d + 1) t).Sublist (pts n u)
  | d, 0, t, l, h => by
    have h' : Nd.kids t = [] ∧ Nd.pts t = (l : List Pt) := by cases d <;> exact h
    show (Nd.pts t ++ (Nd.kids t).flatMap (allN d)).Sublist l
    rw [h'.1, h'.2, List.flatMap_nil, List.append_nil]
    exact List.Sublist.refl _
  | 0, _ + 1, _, _, h => absurd h (fun h => h)
  | d + 1, n + 1, t, cs, h => by
    obtain ⟨hp, hl, hi⟩ := h
    show (Nd.pts t ++ (Nd.kids t).flatMap (allN (d + 1))).Sublist (List.flatMap (pts n) cs)
    rw [hp, List.nil_append]
    refine sublist_get hl fun i h1 h2 => ?_
    cases hs : shownN (d + 1) (Nd.kids t)[i] with
    | false => rw [all_hidden hs]; exact List.nil_sublist _
    | true => exact shows_sub d n _ _ ((hi i h1 h2).2 hs)
/-- a point that is not shown lies in a box that is not -/
theorem shows_hidden (m : Box → Bool) : ∀ (d n : Nat) (t : NT (d + 1)) (u : T n), Shows d n t u → everyN (fun k c => shownN k c || !m (boxN k c)) (d + 1) t = true → ∀ p ∈ pts n u, p ∈ allN (d + 1) t ∨ ∃ b, m b = false ∧ b.has (boxOf p)
  | d, 0, t, l, h, _, p, hp => by
    have h' : Nd.kids t = [] ∧ Nd.pts t = (l : List Pt) := by cases d <;> exact h
    refine .inl (List.mem_append_left _ ?_)
    rw [h'.2]; exact hp
  | 0, _ + 1, _, _, h, _, _, _ => absurd h (fun h => h)
  | d + 1, n + 1, t, cs, h, hev, p, hp => by
    obtain ⟨-, hl, hi⟩ := h
    obtain ⟨c, hc, hp⟩ := List.mem_flatMap.1 hp
    obtain ⟨i, h2, rfl⟩ := List.getElem_of_mem hc
    have h1 : i < (Nd.kids t).length := by omega
    have hev' := List.all_eq_true.1 (show (Nd.kids t).all (fun c => (shownN (d + 1) c || !m (boxN (d + 1) c)) && everyN (fun k c => shownN k c || !m (boxN k c)) (d + 1) c) = true from hev) _ (List.getElem_mem h1)
    rw [Bool.and_eq_true] at hev'
    obtain ⟨⟨hb, -⟩, hsh⟩ := hi i h1 h2
    cases hs : shownN (d + 1) (Nd.kids t)[i] with
    | false =>
      refine .inr ⟨boxN (d + 1) (Nd.kids t)[i], ?_, ?_⟩
      · have h3 := hev'.1
        rw [hs, Bool.false_or, Bool.not_eq_true'] at h3
        exact h3
      · have hb' : boxN (d + 1) (Nd.kids t)[i] = box n (List.get cs ⟨i, h2⟩) := hb
        rw [hb']
        exact box_has n _ p hp
    | true =>
      rcases shows_hidden m d n _ _ (hsh hs) hev'.2 p hp with h3 | h3
      · exact .inl (List.mem_append_right _ (List.mem_flatMap.2 ⟨_, List.getElem_mem h1, h3⟩))
      · exact .inr h3
/-- what is shown as it must be is the proof itself -/
theorem shows_text (m : Box → Bool) : ∀ (d n : Nat) (t : NT (d + 1)) (u : T n), Shows d n t u → Full n u ∨ n = 0 → everyN (fun k c => shownN k c || !m (boxN k c)) (d + 1) t = true → everyN (fun k c => !shownN k c || m (boxN k c)) (d + 1) t = true → textS (d + 1) t = proof Sha.sha m n u
  | d, 0, t, l, h, _, _, _ => by
    have h' : Nd.kids t = [] ∧ Nd.pts t = (l : List Pt) := by cases d <;> exact h
    rw [textS_leaf _ _ (by rw [h'.1]; rfl), h'.2]
    rfl
  | 0, _ + 1, _, _, h, _, _, _ => absurd h (fun h => h)
  | d + 1, n + 1, t, cs, h, hfu, hev, hev2 => by
    obtain ⟨-, hl, hi⟩ := h
    obtain ⟨hne, hea⟩ := hfu.resolve_right (by omega)
    have hpos : 0 < List.length (cs : List (T n)) := List.length_pos_iff.2 hne
    rw [textS_kids _ _ (by omega)]
    show 2 :: UInt8.ofNat (Nd.kids t).length :: (Nd.kids t).flatMap (kidText (d + 1)) = 2 :: UInt8.ofNat (List.length cs) :: List.flatMap (fun c => head Sha.sha n c ++ (if m (box n c) then 1 :: proof Sha.sha m n c else [0])) cs
    rw [hl]
    congr 2
    refine flatMap_get hl fun i h1 h2 => ?_
    have e1 := List.all_eq_true.1 (show (Nd.kids t).all (fun c => (shownN (d + 1) c || !m (boxN (d + 1) c)) && everyN (fun k c => shownN k c || !m (boxN k c)) (d + 1) c) = true from hev) _ (List.getElem_mem h1)
    have e2 := List.all_eq_true.1 (show (Nd.kids t).all (fun c => (!shownN (d + 1) c || m (boxN (d + 1) c)) && everyN (fun k c => !shownN k c || m (boxN k c)) (d + 1) c) = true from hev2) _ (List.getElem_mem h1)
    rw [Bool.and_eq_true] at e1 e2
    obtain ⟨⟨hb, hsd⟩, hsh⟩ := hi i h1 h2
    have hb' : boxN (d + 1) (Nd.kids t)[i] = box n cs[i] := hb
    have hsd' : saidN (d + 1) (Nd.kids t)[i] = head Sha.sha n cs[i] := hsd
    rw [kidText, hsd']
    congr 1
    cases hs : shownN (d + 1) (Nd.kids t)[i] with
    | false =>
      have h3 := e1.1
      rw [hs, Bool.false_or, Bool.not_eq_true', hb'] at h3
      rw [if_neg (by simp), if_neg (by rw [h3]; simp)]
    | true =>
      have h3 := e2.1
      rw [hs, Bool.not_true, Bool.false_or, hb'] at h3
      rw [if_pos rfl, if_pos h3, shows_text m d n _ _ (hsh hs) (.inl (hea _ (List.getElem_mem h2))) e1.2 e2.2]
      rfl
/-- a text that is taken with the map's commitment is what Prove gives, or there are two texts of one digest -/
theorem verify_sole {q : Qr} {L : List Pt} (h : Well L) {s : List UInt8} {b : List Pt} (hv : verify (Sha.sha (rootText Sha.sha L)) (L.length : Nat) q s = (b, 0)) : s = proofText q L ∨ ∃ t, parse s = some t ∧ Clash (ownsN 7 t) (texts Sha.sha (tree L).1 (tree L).2) := by
  unfold verify at hv
  by_cases hq : mayBe q = false
  · rw [if_pos hq] at hv; cases hv
  · rw [if_neg hq] at hv
    have hq' : mayBe q = true := by simpa using hq
    cases hp : parse s with
    | none => rw [hp] at hv; cases hv
    | some t =>
      rw [hp] at hv
      simp only at hv
      by_cases h1 : everyN boxHolds 7 t = false
      · rw [if_pos h1] at hv; cases hv
      · rw [if_neg h1] at hv
        by_cases h2 : everyN digHolds 7 t = false ∨ ¬ (digN 7 t = Sha.sha (rootText Sha.sha L) ∧ numN 7 t = (L.length : Nat))
        · rw [if_pos h2] at hv; cases hv
        · rw [if_neg h2] at hv
          by_cases h3 : everyN (lackN q (ans q (allN 7 t))) 7 t = false
          · rw [if_pos h3] at hv; cases hv
          · rw [if_neg h3] at hv
            by_cases h4 : everyN (wasteN q (ans q (allN 7 t))) 7 t = false
            · rw [if_pos h4] at hv; cases hv
            · have hdg : everyN digHolds 7 t = true := by
                cases hh : everyN digHolds 7 t with
                | true => rfl
                | false => exact absurd (.inl hh) h2
              have hroot : digN 7 t = Sha.sha (rootText Sha.sha L) := by
                refine Classical.byContradiction fun hne => h2 (.inr fun e => hne e.1)
              have h3' : everyN (lackN q (ans q (allN 7 t))) 7 t = true := by simpa using h3
              have h4' : everyN (wasteN q (ans q (allN 7 t))) 7 t = true := by simpa using h4
              obtain ⟨hf, htx, -, hmd⟩ := parse_sound hp
              have hts := tree_small h.ok
              have hd : Sha.sha (ownN 7 t) = Sha.sha (rootText Sha.sha L) := by
                rw [← hroot, ← made_dig, hmd]
              by_cases ho : ownN 7 t = rootText Sha.sha L
              · rcases shows_of 6 true t _ _ hf hdg hts.1 ho with hs | hc
                · left
                  have hsub := shows_sub 6 _ t _ hs
                  rw [hts.2] at hsub
                  have hans : ans q (allN 7 t) = ans q L := by
                    refine ans_part (a := ans q (allN 7 t)) hq' hsub h.ids (fun p hp => ?_) (.inr rfl)
                    exact shows_hidden (must q (ans q (allN 7 t))) 6 _ t _ hs h3' p (by rw [hts.2]; exact hp)
                  rw [hans] at h3' h4'
                  rw [← htx]
                  exact shows_text (must q (ans q L)) 6 _ t _ hs (tree_some L) h3' h4'
                · exact .inr ⟨t, rfl, hc⟩
              · exact .inr ⟨t, rfl, _, own_mem t, _, text_mem Sha.sha _ _, ho, hd⟩
end Ward
end Go.Proofs.YtenaelkbgkpllaaGreatDoor
/- The digest of a child held against its text. -/
namespace Go.Proofs.YtenaelkbgkpllaaGreatDoor
open Go.RowKit

/-- a pointer to 32 cells -/
def ArrRow (w : World) (v : Value) : Prop := ∃ g o, v = .pointer (some ⟨g, o, none⟩) ∧ ∃ cs : List Value, w.rangeAt g o cs ∧ cs.length = 32
/-- what lies there -/
def arrVal (w : World) : Value → Value
  | .pointer (some ⟨g, o, none⟩) => .agg ((List.range 32).map fun j => (w.cell? ⟨g, o + j, none⟩).getD undef).toArray
  | _ => undef
theorem arrVal_row {w : World} {g o : Nat} {cs : List Value} (h : w.rangeAt g o cs) (hl : cs.length = 32) : arrVal w (.pointer (some ⟨g, o, none⟩)) = .agg cs.toArray := by
  show Value.agg ((List.range 32).map fun j => (w.cell? ⟨g, o + j, none⟩).getD undef).toArray = _
  congr 2
  apply List.ext_getElem
  · simp [hl]
  · intro j h1 h2
    rw [List.getElem_map, List.getElem_range, h j _ (List.getElem?_eq_getElem h2)]
    rfl
theorem Tryz.infoArr : (Tryz.prog.info? 39).map (·.size) = some 32 := by kernel_rfl
theorem wp_load_arr {d : Option Tmp} {x : Operand} {tt : TypeId} {ps : String} {af : Array Edge} {gd : Option (Nat × Bool)} {a : Act} {w : World} {K : Act → World → Prop} {Q : Exit → Act → World → Prop} (h : ArrRow w (a.eval x)) :
    Oper.wp Tryz.prog { dst := d, op := .load 39 x, type := tt, pos := ps, after := af, guard := gd } a w K Q = K (a.put d (arrVal w (a.eval x))) w := by
  obtain ⟨g, o, hv, cs, hc, hl⟩ := h
  have hr := run_loadVar_mid (P := Tryz.prog) w g o 39 cs _ hc Tryz.under22 rfl (by rw [hl]; exact Tryz.infoArr)
  rw [hv, arrVal_row hc hl]
  unfold Oper.wp execOp
  simp only [hv, Instr.loadAt, Instr.sureAddr, Sem.run_bind, Sem.run_pure, Result.andThen_ok, hr]
  rfl
/-- the digest, as it lies in a node's row -/
theorem dig_range {w : World} {g n : Nat} {t : Ward.NT n} {V : List Value} {W : World} {S : Nat → Prop} (hN : NodeIs W S n t V) (hr : w.heap[g]? = some (.cells V.toArray 90 (0, 0))) : w.rangeAt g 7 ((Ward.digN n t).map Y) ∧ (Ward.digN n t).length = 32 := by
  obtain ⟨a1, l1, c1, a2, l2, c2, hV, hd⟩ := hN.cells
  subst hV
  refine ⟨fun j v hv => ?_, hd⟩
  rw [cell_of_row _ _ _ _ _ _ hr, List.getElem?_toArray, Nat.add_comm 7 j]
  exact hv
theorem field_dig {vp vc : Value} {b : Ward.Box} {n : Int} {D : List UInt8} (hl : D.length = 32) (W : World) : (Instr.field 90 (.agg (nodeV vp vc b n (D.map Y)).toArray) 4).run Tryz.prog W = .ok (.agg (D.map Y).toArray) W := by
  have hu := Tryz.underlying90
  have ha := Tryz.isAgg39
  have hz := Tryz.sizeOf39
  unfold Instr.field
  simp [run_underlying hu, part, ha, hz, asAgg]
  show List.take 32 (D.map Y) = _
  rw [List.take_of_length_le (by rw [List.length_map, hl]; exact Nat.le_refl _)]
theorem field_node {w : World} {S : Nat → Prop} {n : Nat} {t : Ward.NT n} {V : List Value} (h : NodeIs w S n t V) (W : World) : (Instr.field 90 (.agg V.toArray) 4).run Tryz.prog W = .ok (.agg ((Ward.digN n t).map Y).toArray) W := by
  obtain ⟨a1, l1, c1, a2, l2, c2, hV, hd⟩ := h.cells
  rw [hV]
  exact field_dig hd W
attribute [local go_sem ↓] Go.wp_at_zero Go.wp_at_succ wp_load_nodeG wp_load_arr
set_option maxRecDepth 100000 in
set_option maxHeartbeats 4000000 in
theorem digHold_hidden (n : Nat) (t : Ward.NT n) (V : List Value) (w : World) (S : Nat → Prop) (hS : ∀ g, S g → g < w.heap.size) (hN : NodeIs w S n t V) (hfew : Ward.Few n t) (hs : Ward.shownN n t = false) :
    Calls Tryz.prog 87 #[.agg V.toArray] w fun e w' => e = .returned (.bool (Ward.digHolds n t)) ∧ Below w.heap.size w w' := by
  have HE := hide (show Ward.digHolds n t = true by unfold Ward.digHolds; rw [hs]; rfl)
  rw [HE.out]
  have HX := hide (fun (W : World) (hb : Below w.heap.size w W) => isShown_any n t V W S (NodeIs.keep (below_same hb hS) (fun _ h => h) n t V hN) hfew)
  rw [hs] at HX
  obtain ⟨a1, l1, c1, a2, l2, c2, hV, hd⟩ := hN.cells
  have HR := hide (show Row39 V by rw [hV]; exact nodeV_row hd)
  have hb1' := fun o => (Below.refl w.heap.size w).alloc (Nat.le_refl _) o
  have hr1' := heap_alloc_new w
  clear hN hfew hs hS hV hd HE
  go_enter Tryz.func87, Tryz.ntmps87
  go_upto_region 1 with fail
  generalize hW : World.alloc w _ = w1
  have hb1 : Below w.heap.size w w1 := by rw [← hW]; exact hb1' _
  have hr1 : w1.heap[w.heap.size]? = some (.cells V.toArray 90 (0, 0)) := by rw [← hW]; exact hr1' _
  clear hb1' hr1' hW
  have hs1 := hb1.size
  have HB1 := hide hb1
  have HXX := hide (HX.out w1.drew hb1.drew)
  have hnr1 : NodeRow w1.drew (.pointer (some ⟨w.heap.size, 0, none⟩)) := nodeRow_of (w := w1.drew) hr1 HR.out.size
  have hlv1 : loadVal w1.drew (.pointer (some ⟨w.heap.size, 0, none⟩)) = .agg V.toArray := loadVal_row (w := w1.drew) hr1
  clear hb1 hr1
  first | go_region_with (go_at_call 86; go_must (refine HXX.out.mono ?_; rintro _ w2 ⟨rfl, hb2⟩; have HB2 := hide (HB1.out.drew.trans (hb2.mono (by simp; omega))); clear hb2)) | fail
  all_goals
    go_wp2_with fail
    go_ret
    exact ⟨rfl, HB2.out⟩
set_option maxRecDepth 100000 in
set_option maxHeartbeats 4000000 in
theorem digHold_shown (n : Nat) (t : Ward.NT (n + 1)) (V : List Value) (w : World) (S : Nat → Prop) (hS : ∀ g, S g → g < w.heap.size) (hN : NodeIs w S (n + 1) t V) (hfew : Ward.Few (n + 1) t) (hnum : ∀ c ∈ Ward.Nd.kids t, 0 ≤ Ward.numN n c ∧ Ward.numN n c ≤ 1000000) (hK : KT w) (hs : Ward.shownN (n + 1) t = true) :
    Calls Tryz.prog 87 #[.agg V.toArray] w fun e w' => e = .returned (.bool (Ward.digHolds (n + 1) t)) ∧ Below w.heap.size w w' := by
  have HE := hide (show Ward.digHolds (n + 1) t = decide (Ward.digN (n + 1) t = Ward.digN (n + 1) (Ward.madeN (n + 1) t)) by unfold Ward.digHolds; rw [hs]; rfl)
  rw [HE.out]
  have HNK := hide (fun (W : World) (hb : Below w.heap.size w W) => NodeIs.keep (S' := S) (below_same hb hS) (fun _ h => h) (n + 1) t V hN)
  have HX := hide (fun (W : World) (hb : Below w.heap.size w W) => isShown_any (n + 1) t V W S (HNK.out W hb) hfew)
  rw [hs] at HX
  have HMD := hide (fun (W : World) (hb : Below w.heap.size w W) => made_any n t V W S (fun g hg => Nat.lt_of_lt_of_le (hS g hg) hb.size) (HNK.out W hb) hfew hnum (hK.below hb))
  have HML := hide (show (Ward.digN (n + 1) (Ward.madeN (n + 1) t)).length = 32 by rw [Ward.made_dig]; exact sha_len _)
  generalize hmt : Ward.madeN (n + 1) t = mt at *
  obtain ⟨a1, l1, c1, a2, l2, c2, hV, hd⟩ := hN.cells
  have HR := hide (show Row39 V by rw [hV]; exact nodeV_row hd)
  have HN := hide hN
  have HDG := hide (fun (W : World) (hr : W.heap[w.heap.size]? = some (.cells V.toArray 90 (0, 0))) => dig_range hN hr)
  obtain ⟨D, hD⟩ : ∃ D, Ward.digN (n + 1) t = D := ⟨_, rfl⟩
  rw [hD] at HDG ⊢
  clear hD
  have hb1' := fun o => (Below.refl w.heap.size w).alloc (Nat.le_refl _) o
  have hr1' := heap_alloc_new w
  clear hN hfew hs hS hV hd HE hmt hnum hK
  go_enter Tryz.func87, Tryz.ntmps87
  go_upto_region 1 with fail
  generalize hW : World.alloc w _ = w1
  have hb1 : Below w.heap.size w w1 := by rw [← hW]; exact hb1' _
  have hr1 : w1.heap[w.heap.size]? = some (.cells V.toArray 90 (0, 0)) := by rw [← hW]; exact hr1' _
  clear hb1' hr1' hW
  have hs1 : w.heap.size < w1.heap.size := (Array.getElem?_eq_some_iff.1 hr1).1
  have HB1 := hide hb1
  have HN1 := hide hr1
  have HXX := hide (HX.out w1.drew hb1.drew)
  have hnr1 : NodeRow w1.drew (.pointer (some ⟨w.heap.size, 0, none⟩)) := nodeRow_of (w := w1.drew) hr1 HR.out.size
  have hlv1 : loadVal w1.drew (.pointer (some ⟨w.heap.size, 0, none⟩)) = .agg V.toArray := loadVal_row (w := w1.drew) hr1
  clear hb1 hr1
  have HAR := hide (fun (W : World) (hr : W.heap[w.heap.size]? = some (.cells V.toArray 90 (0, 0))) => show ArrRow W (.pointer (some ⟨w.heap.size, 7, none⟩)) from ⟨_, _, rfl, _, (HDG.out W hr).1, by rw [List.length_map]; exact (HDG.out W hr).2⟩)
  have HAV := hide (fun (W : World) (hr : W.heap[w.heap.size]? = some (.cells V.toArray 90 (0, 0))) => arrVal_row (HDG.out W hr).1 (by rw [List.length_map]; exact (HDG.out W hr).2))
  have HDE := hide (show ∃ re, decide (D = Ward.digN (n + 1) mt) = re from ⟨_, rfl⟩)
  have HEQ := hide (fun (hD : D.length = 32) (W : World) => eqArr D (Ward.digN (n + 1) mt) hD HML.out W)
  first | go_region_with (first
    | (go_at_call 86; go_must (refine HXX.out.mono ?_; rintro _ w2 ⟨rfl, hb2⟩; have hs2 := hb2.size; have HB2 := hide (HB1.out.drew.trans (hb2.mono (by simp; omega))); have HN2 := hide ((hb2.block w.heap.size (by simp; omega)).trans (show w1.drew.heap[w.heap.size]? = _ from HN1.out)); have hnr2 := nodeRow_of HN2.out HR.out.size; have hlv2 := loadVal_row HN2.out; have har2 := HAR.out w2 HN2.out; have hav2 := HAV.out w2 HN2.out; have HMX := hide (HMD.out w2 HB2.out); clear hb2))
    | (go_at_call 83; go_must (refine HMX.out.mono ?_; rintro _ w3 ⟨V', rfl, hn3, hb3⟩; have HM3 := hide hn3; have HB3 := hide (HB2.out.trans (hb3.mono (by simp at hs2; omega))); have HN3 := hide ((hb3.block w.heap.size (by simp at hs2; omega)).trans HN2.out); have har3 := HAR.out w3 HN3.out; have hav3 := HAV.out w3 HN3.out; have hfl3 := field_node HM3.out; obtain ⟨re, hre⟩ := HDE.out; have heq3 := fun W => HEQ.out (HDG.out w2 HN2.out).2 W; rw [hre] at heq3; have HRE := hide hre; clear hb3 hn3 hre))) | fail
  all_goals
    go_wp2_with fail
    go_ret
    refine ⟨?_, HB3.out⟩
    rw [HRE.out]
    first | rfl | simp
/-- the closure of DigestsHold -/
theorem digHold_any (n : Nat) (t : Ward.NT n) (V : List Value) (w : World) (S : Nat → Prop) (hS : ∀ g, S g → g < w.heap.size) (hN : NodeIs w S n t V) (hfew : Ward.Few n t) (hnum : Ward.NumsN n t) (hK : KT w) :
    Calls Tryz.prog 87 #[.agg V.toArray] w fun e w' => e = .returned (.bool (Ward.digHolds n t)) ∧ Below w.heap.size w w' := by
  cases n with
  | zero => exact nomatch t
  | succ n =>
    cases hs : Ward.shownN (n + 1) t
    · exact digHold_hidden (n + 1) t V w S hS hN hfew hs
    · exact digHold_shown n t V w S hS hN hfew (fun c hc => (hnum c hc).1) hK hs
end Go.Proofs.YtenaelkbgkpllaaGreatDoor
/- A point read: the walk (not finished: region 7). -/
namespace Go.Proofs.YtenaelkbgkpllaaGreatDoor
open Go.RowKit

theorem Keeps.drew {S : Nat → Prop} {w w' : World} (h : Keeps S w w') : Keeps S w w'.drew := ⟨h.os, h.tape, h.output, h.size, h.block⟩
set_option maxRecDepth 100000 in
set_option maxHeartbeats 8000000 in
theorem point_walk (g b n : Nat) (s : Ward.Sta) (pi px py : Int) (t12 : List UInt8) (w : World) (H : RdAt w g b n s) (hs : 12 ≤ s.1.length) (ht : s.1.take 12 = t12) (hn : n ≤ 100000) (hp0 : -2147483648 ≤ pi ∧ pi < 2147483648)
    (hN0 : ∀ W, Calls Tryz.prog 157 #[Sv t12, I (0 : Nat)] W fun e w' => e = .returned (I pi) ∧ Below W.heap.size W w')
    (hN1 : ∀ W, Calls Tryz.prog 157 #[Sv t12, I (1 : Nat)] W fun e w' => e = .returned (I px) ∧ Below W.heap.size W w')
    (hN2 : ∀ W, Calls Tryz.prog 157 #[Sv t12, I (2 : Nat)] W fun e w' => e = .returned (I py) ∧ Below W.heap.size W w')
    (hrd : Ward.rdPt s = if (Ward.idOk pi && !(s.2.contains pi) && Ward.coordOk px && Ward.coordOk py) = true then some (⟨pi, px, py⟩, (s.1.drop 12, pi :: s.2)) else none) :
    Calls Tryz.prog 123 #[.pointer (some ⟨g, 0, none⟩)] w (PointRead w g b n s) := by
  have hb1' := fun o => (Below.refl w.heap.size w).alloc (Nat.le_refl _) o
  have hglt := H.lt
  have hblt := H.set.lt
  have HNE := hide H.ne
  have HH := hide H
  have HN0 := hide hN0
  have HN1 := hide hN1
  have HN2 := hide hN2
  have HRD := hide hrd
  clear H hN0 hN1 hN2 hrd
  go_enter Tryz.func123, Tryz.ntmps123
  go_upto_region 1 with fail
  generalize hW : World.alloc w _ = w1
  have hb1 : Below w.heap.size w w1 := by rw [← hW]; exact hb1' _
  have hr1 : w1.heap[w.heap.size]? = some (.cells #[I 0, I 0, I 0] 36 (0, 0)) := by rw [← hW]; exact heap_alloc_new _ _
  clear hb1' hW
  have hs1 : w.heap.size < w1.heap.size := (Array.getElem?_eq_some_iff.1 hr1).1
  have HT := hide (take_many g 12 s.1 _ w1 (HH.out.below hb1).row hs)
  rw [ht] at HT
  have HB1 := hide hb1
  have HR1 := hide hr1
  clear hb1 hr1
  go_wp2_with fail
  refine HT.out.mono ?_
  rintro _ w2 ⟨rfl, hg2, hk2⟩
  have hs2 := hk2.size
  have HG2 := hide hg2
  have HK2 := hide hk2
  have HR2 := hide ((hk2.block w.heap.size (by omega) (by omega)).trans HR1.out)
  clear hg2 hk2 HT
  go_wp2_with fail
  refine (HN0.out w2).mono ?_
  rintro _ w3 ⟨rfl, hb3⟩
  have hs3 := hb3.size
  have HB3 := hide hb3
  clear hb3
  go_wp2_with fail
  refine (HN1.out w3).mono ?_
  rintro _ w4 ⟨rfl, hb4⟩
  have hs4 := hb4.size
  have HB4 := hide (HB3.out.trans (hb4.mono (by omega)))
  clear hb4
  go_wp2_with fail
  refine (HN2.out w4).mono ?_
  rintro _ w5 ⟨rfl, hb5⟩
  have hs5 := hb5.size
  have HB5 := hide (HB4.out.trans (hb5.mono (by omega)))
  clear hb5
  have HR5 := hide ((HB5.out.block w.heap.size (by omega)).trans HR2.out)
  obtain ⟨e0, e1, e2⟩ := row3 HR5.out
  have f0 : w5.frozen? ⟨w.heap.size, 0, none⟩ = false := frozen_of_row _ _ _ _ _ HR5.out
  have f1 : w5.frozen? ⟨w.heap.size, 1, none⟩ = false := frozen_of_row _ _ _ _ _ HR5.out
  have f2 : w5.frozen? ⟨w.heap.size, 2, none⟩ = false := frozen_of_row _ _ _ _ _ HR5.out
  have hr6' := fun x y z => store3 x y z HR5.out
  go_upto_region 5 with fail
  generalize hW : World.setCell (World.setCell (World.setCell w5 _ _) _ _) _ _ = w6
  have hr6 : w6.heap[w.heap.size]? = some (.cells #[I pi, I px, I py] 36 (0, 0)) := by rw [← hW]; exact hr6' _ _ _
  have hb6 : Below w.heap.size w2 w6 := by rw [← hW]; exact below_store3 (HB5.out.mono (by omega)) (Nat.le_refl _) _ _ _
  clear hr6' hW e0 e1 e2 f0 f1 f2
  have hs6 : w.heap.size < w6.heap.size := (Array.getElem?_eq_some_iff.1 hr6).1
  have HR6 := hide hr6
  have HG6 := hide ((hb6.block g hglt).trans HG2.out)
  have HS6 := hide (HH.out.set.block ((hb6.block b hblt).trans ((HK2.out.block b (by omega) HNE.out).trans (HB1.out.block b hblt))))
  have HK6 := hide (show Keeps (Rd2 g b) w w6 from (show Keeps (Rd2 g b) w w2 from ⟨HK2.out.os.trans HB1.out.os, HK2.out.tape.trans HB1.out.tape, HK2.out.output.trans HB1.out.output, by omega, fun j hj hn => (HK2.out.block j (by omega) (fun e => hn (Or.inl e))).trans (HB1.out.block j hj)⟩).low hb6)
  obtain ⟨e0, e1, e2⟩ := row3 hr6
  have eg : w6.cell? ⟨g, 1, none⟩ = some (.map (some b)) := by rw [cell_of_row _ _ _ _ _ _ HG6.out]; rfl
  have HRW := hide (show ∃ r, s.2.contains pi = r from ⟨_, rfl⟩)
  obtain ⟨r, hr⟩ := HRW.out
  have hl6 := look_drew HS6.out hp0 hr
  have hl7 := look_alloc HS6.out hp0 hr (.cells #[] 222)
  have hba := Below.heap_alloc w6 (.cells #[] 222)
  have eg7 : (w6.alloc (.cells #[] 222)).cell? ⟨g, 1, none⟩ = some (.map (some b)) := by rw [cell_of_row _ _ _ _ _ _ ((hba g (by omega)).trans HG6.out)]; rfl
  have e07 : (w6.alloc (.cells #[] 222)).cell? ⟨w.heap.size, 0, none⟩ = some (I pi) := by rw [cell_of_row _ _ _ _ _ _ ((hba w.heap.size hs6).trans HR6.out)]; rfl
  clear hba
  have HR := hide hr
  clear hr6 hb6 hr HRW
  have hS6 : w6.drew.cell? ⟨g, 1, none⟩ = some (.map (some b)) ∧ w6.drew.cell? ⟨w.heap.size, 0, none⟩ = some (I pi) ∧ (Instr.lookup 135 (.map (some b)) (I pi) true).run Tryz.prog w6.drew = .ok (.tuple #[.agg #[], .bool r]) w6.drew := ⟨eg, e0, hl6⟩
  have hS7 : (w6.alloc (.cells #[] 222)).drew.cell? ⟨g, 1, none⟩ = some (.map (some b)) ∧ (w6.alloc (.cells #[] 222)).drew.cell? ⟨w.heap.size, 0, none⟩ = some (I pi) ∧ (Instr.lookup 135 (.map (some b)) (I pi) true).run Tryz.prog (w6.alloc (.cells #[] 222)).drew = .ok (.tuple #[.agg #[], .bool r]) (w6.alloc (.cells #[] 222)).drew := ⟨eg7, e07, hl7⟩
  clear eg eg7 e07 hl6 hl7 e0 e1 e2
  have HP0 := hide hp0
  have HN := hide hn
  have HGL := hide hglt
  have HBL := hide hblt
  clear hp0 hn hs hglt hblt
  go_cut [5, 6] from 22 to 31 (fun v5 v6 wx => v6 = .bool r ∧ Below w6.heap.size w6 wx)
  case first =>
    go_region_held3 (fun W => W.cell? ⟨g, 1, none⟩ = some (.map (some b)) ∧ W.cell? ⟨w.heap.size, 0, none⟩ = some (I pi) ∧ (Instr.lookup 135 (.map (some b)) (I pi) true).run Tryz.prog W = .ok (.tuple #[.agg #[], .bool r]) W) (first | exact hS6 | exact hS7) ((fail))
    all_goals
      go_wp2_with fail
      go_meet
      exact ⟨rfl, ((Below.refl w6.heap.size w6).alloc (Nat.le_refl _) (.cells #[] 222)).drew⟩
  case rest =>
    clear hS6 hS7
    have hglt := HGL.out
    have hblt := HBL.out
    obtain ⟨rfl, hb7⟩ := hcut
    generalize wc = w7 at *
    have hs7 := hb7.size
    have HR7 := hide ((hb7.block w.heap.size hs6).trans HR6.out)
    have HG7 := hide ((hb7.block g (by omega)).trans HG6.out)
    have HS7 := hide (HS6.out.block (hb7.block b HS6.out.lt))
    have HK7 := hide (HK6.out.low (hb7.mono (by omega)))
    obtain ⟨w8, hput, hset8, hgr8⟩ := SetIs.put (w := w7.drew) (HS7.out.block rfl) (by have := HN.out; omega) (look_small HP0.out)
    have HS8 := hide hset8
    have hs8 : w7.heap.size ≤ w8.heap.size := hgr8.size
    have HR8 := hide ((hgr8.block w.heap.size (show w.heap.size < w7.heap.size by omega) (fun e => by injection e with e; omega)).trans (show w7.drew.heap[w.heap.size]? = _ from HR7.out))
    have HG8 := hide ((hgr8.block g (show g < w7.heap.size by omega) (fun e => by injection e with e; exact HNE.out e.symm)).trans (show w7.drew.heap[g]? = _ from HG7.out))
    have HK8 := hide (show Keeps (Rd2 g b) w w8 from ⟨hgr8.os.trans HK7.out.os, hgr8.tape.trans HK7.out.tape, hgr8.output.trans HK7.out.output, by omega, fun j hj hn => (hgr8.block j (show j < w7.heap.size by omega) (fun e => hn (Or.inr (by injection e)))).trans (HK7.out.block j hj hn)⟩)
    have hS8 : w7.drew.cell? ⟨g, 1, none⟩ = some (.map (some b)) ∧ w7.drew.cell? ⟨w.heap.size, 0, none⟩ = some (I pi) ∧ (Instr.mapUpdate 135 (.map (some b)) (I pi) (.agg #[])).run Tryz.prog w7.drew = .ok () w8 := ⟨by rw [cell_of_row _ _ _ _ _ _ (show w7.drew.heap[g]? = _ from HG7.out)]; rfl, (row3 (w := w7.drew) HR7.out).1, hput⟩
    clear hb7 hset8 hgr8 hput
    go_upto_region 6 with fail
    obtain ⟨eg, e0, hput⟩ := hS8
    go_region
    clear eg e0 hput
    obtain ⟨fs, hu⟩ := underPt
    have HU := hide hu
    have HB9 := hide (fun x y z => below_store3 (Below.refl w.heap.size w8) (Nat.le_refl w.heap.size) x y z)
    have HR9 := hide (fun x y z => store3 x y z HR8.out)
    obtain ⟨e0, e1, e2⟩ := row3 HR8.out
    have f0 : w8.frozen? ⟨w.heap.size, 0, none⟩ = false := frozen_of_row _ _ _ _ _ HR8.out
    have f1 : w8.frozen? ⟨w.heap.size, 1, none⟩ = false := frozen_of_row _ _ _ _ _ HR8.out
    have f2 : w8.frozen? ⟨w.heap.size, 2, none⟩ = false := frozen_of_row _ _ _ _ _ HR8.out
    obtain ⟨rI, hI⟩ : ∃ r, Ward.idOk pi = r := ⟨_, rfl⟩
    obtain ⟨rX, hX⟩ : ∃ r, Ward.coordOk px = r := ⟨_, rfl⟩
    obtain ⟨rY, hY⟩ : ∃ r, Ward.coordOk py = r := ⟨_, rfl⟩
    have HID := hide (fun W => show Calls Tryz.prog 31 #[I pi] W fun e w' => e = .returned (.bool rI) ∧ w' = W by rw [← hI]; exact isID_any pi W)
    have HCX := hide (fun W => show Calls Tryz.prog 32 #[I px] W fun e w' => e = .returned (.bool rX) ∧ w' = W by rw [← hX]; exact isCoord_any px W)
    have HCY := hide (fun W => show Calls Tryz.prog 32 #[I py] W fun e w' => e = .returned (.bool rY) ∧ w' = W by rw [← hY]; exact isCoord_any py W)
    rw [hI, hX, hY, HR.out] at HRD
    clear hI hX hY hu
    go_upto_region 7 with fail
    have hsame : ((((w8.setCell ⟨w.heap.size, 0, none⟩ (I pi)).setCell ⟨w.heap.size, 1, none⟩ (I px)).setCell ⟨w.heap.size, 2, none⟩ (I py))).heap[w.heap.size]? = some (.cells #[I pi, I px, I py] 36 (0, 0)) := HR9.out _ _ _
    have hS9 : (fun W => (W.cell? ⟨w.heap.size, 0, none⟩ = some (I pi) ∧ W.cell? ⟨w.heap.size, 1, none⟩ = some (I px) ∧ W.cell? ⟨w.heap.size, 2, none⟩ = some (I py)) ∧ W.frozen? ⟨w.heap.size, 0, none⟩ = false ∧ W.frozen? ⟨w.heap.size, 1, none⟩ = false ∧ W.frozen? ⟨w.heap.size, 2, none⟩ = false) w8.drew := ⟨⟨e0, e1, e2⟩, f0, f1, f2⟩
    have hS10 : (fun W => (W.cell? ⟨w.heap.size, 0, none⟩ = some (I pi) ∧ W.cell? ⟨w.heap.size, 1, none⟩ = some (I px) ∧ W.cell? ⟨w.heap.size, 2, none⟩ = some (I py)) ∧ W.frozen? ⟨w.heap.size, 0, none⟩ = false ∧ W.frozen? ⟨w.heap.size, 1, none⟩ = false ∧ W.frozen? ⟨w.heap.size, 2, none⟩ = false) (((w8.setCell ⟨w.heap.size, 0, none⟩ (I pi)).setCell ⟨w.heap.size, 1, none⟩ (I px)).setCell ⟨w.heap.size, 2, none⟩ (I py)).drew := ⟨row3 hsame, frozen_of_row _ _ _ _ _ hsame, frozen_of_row _ _ _ _ _ hsame, frozen_of_row _ _ _ _ _ hsame⟩
    clear hsame
    cases rI
    · rw [show (false && !r && rX && rY) = false by simp, if_neg (by decide)] at HRD
      first | go_region_with (go_at_call 31; go_must (refine (HID.out _).mono ?_; rintro _ _ ⟨rfl, rfl⟩)) | fail
      all_goals
        go_wp2_with fail
        refine bodyPost_ret (results_row_tmp (p := 2) (u := 3) (ty := 36) rfl _ _ w.heap.size 36 _ (0, 0) _ rfl (HR9.out _ _ _) HU.out rfl sizePt) rfl ?_
        unfold PointRead
        rw [HRD.out]
        exact ⟨(HK8.out.low (HB9.out _ _ _)).drew, pi, px, py, rfl⟩
    · cases r
      · cases rX
        · rw [show (true && !false && false && rY) = false by simp, if_neg (by decide)] at HRD
          first | go_region_with (first | (go_at_call 31; go_must (refine (HID.out _).mono ?_; rintro _ _ ⟨rfl, rfl⟩)) | (go_at_call_of 32 (I px); go_must (refine (HCX.out _).mono ?_; rintro _ _ ⟨rfl, rfl⟩))) | fail
          all_goals
            go_wp2_with fail
            refine bodyPost_ret (results_row_tmp (p := 2) (u := 3) (ty := 36) rfl _ _ w.heap.size 36 _ (0, 0) _ rfl (HR9.out _ _ _) HU.out rfl sizePt) rfl ?_
            unfold PointRead
            rw [HRD.out]
            exact ⟨(HK8.out.low (HB9.out _ _ _)).drew, pi, px, py, rfl⟩
        · first | go_region_held3 (fun W => (W.cell? ⟨w.heap.size, 0, none⟩ = some (I pi) ∧ W.cell? ⟨w.heap.size, 1, none⟩ = some (I px) ∧ W.cell? ⟨w.heap.size, 2, none⟩ = some (I py)) ∧ W.frozen? ⟨w.heap.size, 0, none⟩ = false ∧ W.frozen? ⟨w.heap.size, 1, none⟩ = false ∧ W.frozen? ⟨w.heap.size, 2, none⟩ = false) (first | exact hS9 | exact hS10) ((first | (go_at_call 31; go_must (refine (HID.out _).mono ?_; rintro _ _ ⟨rfl, rfl⟩)) | (go_at_call_of 32 (I px); go_must (refine (HCX.out _).mono ?_; rintro _ _ ⟨rfl, rfl⟩)) | (go_at_call_of 32 (I py); go_must (refine (HCY.out _).mono ?_; rintro _ _ ⟨rfl, rfl⟩)))) | fail
          all_goals
            go_wp2_with fail
            refine bodyPost_ret (results_row_tmp (p := 2) (u := 3) (ty := 36) rfl _ _ w.heap.size 36 _ (0, 0) _ rfl (HR9.out _ _ _) HU.out rfl sizePt) rfl ?_
            unfold PointRead
            cases rY
            · rw [HRD.out, if_neg (by decide)]
              exact ⟨(HK8.out.low (HB9.out _ _ _)).drew, pi, px, py, rfl⟩
            · rw [HRD.out, if_pos (by decide)]
              exact ⟨(HK8.out.low (HB9.out _ _ _)).drew, rfl, ⟨((HB9.out _ _ _).block g hglt).trans HG8.out, HS8.out.block ((HB9.out _ _ _).block b hblt)⟩⟩
      · rw [show (true && !true && rX && rY) = false by simp, if_neg (by decide)] at HRD
        first | go_region_with (go_at_call 31; go_must (refine (HID.out _).mono ?_; rintro _ _ ⟨rfl, rfl⟩)) | fail
        all_goals
          go_wp2_with fail
          refine bodyPost_ret (results_row_tmp (p := 2) (u := 3) (ty := 36) rfl _ _ w.heap.size 36 _ (0, 0) _ rfl (HR9.out _ _ _) HU.out rfl sizePt) rfl ?_
          unfold PointRead
          rw [HRD.out]
          exact ⟨(HK8.out.low (HB9.out _ _ _)).drew, pi, px, py, rfl⟩
/-- a point read -/
theorem point_any (g b n : Nat) (s : Ward.Sta) (w : World) (H : RdAt w g b n s) (hn : n ≤ 100000) :
    Calls Tryz.prog 123 #[.pointer (some ⟨g, 0, none⟩)] w (PointRead w g b n s) := by
  by_cases hs : s.1.length < 12
  · exact point_short g b n s w H hs
  · obtain ⟨pi, px, py, h0, h1, h2, hrd⟩ := rdPt_long s (by omega)
    have ht : (s.1.take 12).length = 12 := by rw [List.length_take]; omega
    have key : ∀ (k : Nat), k < 3 → ∀ W, Calls Tryz.prog 157 #[Sv (s.1.take 12), I k] W fun e w' => e = .returned (I (Ward.numAt s.1 k)) ∧ Below W.heap.size W w' := fun k hk W => by
      have h := numberOf_any (s.1.take 12) k W (by omega) (by omega)
      rw [numAt_take (by omega) (by omega)] at h
      exact h
    exact point_walk g b n s pi px py _ w H (by omega) rfl hn (by rw [h0]; exact numAt_range _ _) (by rw [h0]; exact key 0 (by omega)) (by rw [h1]; exact key 1 (by omega)) (by rw [h2]; exact key 2 (by omega)) hrd
end Go.Proofs.YtenaelkbgkpllaaGreatDoor
/- The points of a leaf, read. -/
namespace Go.Proofs.YtenaelkbgkpllaaGreatDoor
open Go.RowKit

/-- what reading the points of a leaf leaves -/
def PointsRead (w : World) (g b n k : Nat) (s : Ward.Sta) (e : Ending) (w' : World) : Prop := Keeps (Rd2 g b) w w' ∧
  match Ward.rdMany Ward.rdPt k s with
  | none => e = .returned (.tuple #[.slice none 0 0, .bool false])
  | some (l, s') => ∃ v, e = .returned (.tuple #[v, .bool true]) ∧ Own w' w.heap.size v l ∧ RdAt w' g b (n + k) s'
theorem RdAt.grown {w w' : World} {g b n : Nat} {s : Ward.Sta} {r : Option Nat} (h : RdAt w g b n s) (hg : w.grownBy w' r) (h1 : some g ≠ r) (h2 : some b ≠ r) : RdAt w' g b n s := ⟨(hg.block g h.lt h1).trans h.row, h.set.block (hg.block b h.set.lt h2)⟩
theorem Keeps.grownR {w w' w'' : World} {S : Nat → Prop} {r : Option Nat} (h : Keeps S w w') (hg : w'.grownBy w'' r) (hr : ∀ j, j < w.heap.size → some j ≠ r) : Keeps S w w'' := ⟨hg.os.trans h.os, hg.tape.trans h.tape, hg.output.trans h.output, Nat.le_trans h.size hg.size, fun j hj hn => (hg.block j (Nat.lt_of_lt_of_le hj h.size) (hr j hj)).trans (h.block j hj hn)⟩
set_option maxRecDepth 100000 in
set_option maxHeartbeats 4000000 in
theorem several_points (g b n k : Nat) (s : Ward.Sta) (w : World) (H : RdAt w g b n s) (hk : k ≤ 4) (hn : n ≤ 90000) :
    Calls Tryz.prog 122 #[I k, .func (.func 123) #[.pointer (some ⟨g, 0, none⟩)] #[]] w (PointsRead w g b n k s) := by
  have hglt := H.lt
  have hblt := H.set.lt
  have HH := hide H
  clear H
  go_enter Tryz.func122, Tryz.ntmps122
  go_wp2_with fail
  go_loopg [6, 10] k (fun gk v6 v10 wq => ∃ (i : Nat) (l : List Ward.Pt) (si : Ward.Sta), gk = k - i ∧ v10 = I i ∧ Ward.Half Ward.rdPt k s i l si ∧ Own wq w.heap.size v6 l ∧ RdAt wq g b (n + i) si ∧ Keeps (Rd2 g b) w wq)
  case atStart => exact ⟨0, [], s, rfl, rfl, Ward.half_start _ _ _, World.ownsRow_nil _ _ _ _, HH.out, Keeps.refl _ _⟩
  case round =>
    obtain ⟨i, l, si, hgk, rfl, hhf, ho, hrd, hkp⟩ := hrel
    have HGK := hide hgk
    have HHF := hide hhf
    have HO := hide ho
    have HRD := hide hrd
    have HKP := hide hkp
    have hik : i ≤ k := hhf.2.1
    have hsz := hkp.size
    have hl5 : l.length ≤ 5 := by rw [hhf.1]; omega
    have HOB := hide (fun j (hj : u6.ownBlock = some j) => And.intro (ho.ge hj) (ho.lt hj))
    have HPA := hide (point_any g b (n + i) si wr hrd (by omega))
    clear hgk hhf ho hrd hkp
    by_cases hlt : i < k
    · go_wp2_with fail
      refine HPA.out.mono ?_
      rintro e w2 ⟨hk2, hm2⟩
      have hs2 := hk2.size
      cases hr : Ward.rdPt si with
      | none =>
        rw [hr] at hm2
        obtain ⟨x, y, z, rfl⟩ := hm2
        have HE := hide (Ward.half_none HHF.out hlt hr)
        have HK2 := hide (show Keeps (Rd2 g b) w w2 from HKP.out.trans hk2 (fun _ _ h => h))
        have hb3' := fun o => HK2.out.low ((Below.refl w2.heap.size w2).alloc (Nat.le_refl _) o |>.mono HK2.out.size)
        clear hk2 hr
        go_wp2_with fail
        go_ret2
        refine ⟨hb3' _, ?_⟩
        rw [HE.out]; rfl
      | some ps =>
        obtain ⟨p, sj⟩ := ps
        rw [hr] at hm2
        obtain ⟨rfl, hrd2⟩ := hm2
        have HST := hide (Ward.half_step HHF.out hlt hr)
        have HRD2 := hide hrd2
        have HK2 := hide (show Keeps (Rd2 g b) w w2 from HKP.out.trans hk2 (fun _ _ h => h))
        have HO2 := hide (HO.out.keeps hk2 (fun j hj hn => by
          have := (HOB.out j hj).1
          rcases hn with rfl | rfl <;> omega))
        clear hk2 hr hrd2
        have hb3' := fun o => (Below.refl w2.heap.size w2).alloc (Nat.le_refl _) o
        have hr3' := heap_alloc_new w2
        go_upto_region 7 with fail
        generalize hW : World.alloc w2 _ = w3
        have hb3 : Below w2.heap.size w2 w3 := by rw [← hW]; exact hb3' _
        have hr3 : w3.heap[w2.heap.size]? = some (.cells #[I p.id, I p.x, I p.y] 36 (0, 0)) := by rw [← hW]; exact hr3' _
        clear hb3' hr3' hW
        have hs3 := hb3.size
        obtain ⟨e0, e1, e2⟩ := row3 hr3
        have HO3 := hide (HO2.out.below hb3)
        have HRD3 := hide (HRD2.out.below hb3)
        have HK3 := hide (HK2.out.low (hb3.mono (by omega)))
        obtain ⟨v4, w4, h4, ho4, hg4, hf4⟩ := append_pt p HO3.out (by omega) (by omega)
        have HO4 := hide ho4
        have HRD4 := hide (HRD3.out.grown hg4 (fun e => by have := (HOB.out _ e.symm).1; omega) (fun e => by have := (HOB.out _ e.symm).1; omega))
        have HK4 := hide (HK3.out.grownR hg4 (fun j hj e => by have := (HOB.out _ e.symm).1; omega))
        clear hb3 hr3 ho4 hg4 hf4
        go_wp2_with (at_builtin; refine Lib.wpList_append_run _ rfl (.tmp 19) (.tmp 21) 27 27 rfl _ _ rfl rfl _ _ h4 ?_)
        go_roundg (k - (i + 1))
        case measure => have := HGK.out; omega
        case rel =>
          refine ⟨i + 1, l ++ [p], sj, rfl, by go_num, HST.out, HO4.out, ?_, HK4.out⟩
          have h := HRD4.out
          rw [show n + i + 1 = n + (i + 1) by omega] at h
          exact h
    · have ei : i = k := by omega
      subst ei
      have HE := hide (Ward.half_end HHF.out)
      go_wp2_with fail
      go_ret2
      refine ⟨HKP.out, ?_⟩
      rw [HE.out]
      exact ⟨_, rfl, HO.out, HRD.out⟩
end Go.Proofs.YtenaelkbgkpllaaGreatDoor
/- The children of a node, read. -/
namespace Go.Proofs.YtenaelkbgkpllaaGreatDoor
open Go.RowKit

/-- where nodes that were read lie: from a block on, but not where their row lies -/
def SK (w : World) (B : Nat) (v : Value) (j : Nat) : Prop := B ≤ j ∧ j < w.heap.size ∧ some j ≠ v.ownBlock
/-- nodes in a row of one's own -/
def KidsAt (w : World) (B : Nat) (v : Value) (n : Nat) (K : List (Ward.NT n)) : Prop :=
  ∃ VS : List (List Value), VS.length = K.length ∧ w.ownsRow B 90 39 v K.length VS.flatten ∧ (∀ U ∈ VS, U.length = 39) ∧ ∀ j (h : j < K.length) (h' : j < VS.length), NodeIs w (SK w B v) n K[j] VS[j]
theorem kidsAt_nil (w : World) (B n : Nat) : KidsAt w B (.slice none 0 0) n [] := ⟨[], rfl, World.ownsRow_nil _ _ _ _, fun U h => by simp at h, fun j h => by simp at h⟩
theorem ownsRow_keeps {w w' : World} {S : Nat → Prop} {B e size n : Nat} {v : Value} {xs : List Value} (h : w.ownsRow B e size v n xs) (hk : Keeps S w w') (hS : ∀ j, B ≤ j → ¬ S j) : w'.ownsRow B e size v n xs := by
  refine ⟨h.1, ?_⟩
  rcases h.2 with h0 | ⟨g, cap, cur, rfl, hB, hg, r⟩
  · exact .inl h0
  · exact .inr ⟨g, cap, cur, rfl, hB, (hk.block g (Array.getElem?_eq_some_iff.1 hg).1 (hS g hB)).trans hg, r⟩
theorem KidsAt.keeps {w w' : World} {S : Nat → Prop} {B n : Nat} {v : Value} {K : List (Ward.NT n)} (h : KidsAt w B v n K) (hk : Keeps S w w') (hS : ∀ j, B ≤ j → ¬ S j) : KidsAt w' B v n K := by
  obtain ⟨VS, h1, h2, h3, h4⟩ := h
  exact ⟨VS, h1, ownsRow_keeps h2 hk hS, h3, fun j hj hj' => NodeIs.keep (fun g hg => hk.block g hg.2.1 (hS g hg.1)) (fun g hg => ⟨hg.1, Nat.lt_of_lt_of_le hg.2.1 hk.size, hg.2.2⟩) n _ _ (h4 j hj hj')⟩
theorem KidsAt.below {w w' : World} {B n : Nat} {v : Value} {K : List (Ward.NT n)} (h : KidsAt w B v n K) (hb : Below w.heap.size w w') : KidsAt w' B v n K := h.keeps (S := fun _ => False) (Keeps.of_below hb) (fun _ _ h => h)
theorem KidsAt.own {w : World} {B n : Nat} {v : Value} {K : List (Ward.NT n)} (h : KidsAt w B v n K) : ∀ j, v.ownBlock = some j → B ≤ j ∧ j < w.heap.size := by
  obtain ⟨VS, h1, h2, h3, h4⟩ := h
  exact fun j hj => h2.lt j hj
theorem KidsAt.slice {w : World} {B n : Nat} {v : Value} {K : List (Ward.NT n)} (h : KidsAt w B v n K) : ∃ a c, v = .slice a K.length c := by
  obtain ⟨VS, h1, h2, h3, h4⟩ := h
  rcases h2.2 with ⟨rfl, h0⟩ | ⟨g, cap, cur, rfl, _⟩
  · exact ⟨none, 0, by rw [h0]⟩
  · exact ⟨_, cap, rfl⟩
/-- a node put behind them -/
theorem KidsAt.push {w : World} {B n : Nat} {v : Value} {K : List (Ward.NT n)} (h : KidsAt w B v n K) (c : Ward.NT n) (M : List Value) (hc : NodeIs w (SK w B v) n c M) (hM : Row39 M) (hB : B ≤ w.heap.size) (hn : K.length ≤ 1000) :
    ∃ v' w', (Builtin.append_ #[86, 86] 86 #[v, .slice (some ⟨w.heap.size, 0, none⟩) 1 1]).run Tryz.prog (w.alloc (.cells M.toArray 90)) = .ok v' w' ∧ KidsAt w' B v' n (K ++ [c]) ∧ w.grownBy w' v.ownBlock := by
  obtain ⟨VS, h1, h2, h3, h4⟩ := h
  obtain ⟨v', w', hr, ho, hg, hf⟩ := append_node M hM h2 hB hn
  refine ⟨v', w', hr, ⟨VS ++ [M], by rw [List.length_append, List.length_append, h1]; rfl, by rw [List.length_append, List.flatten_append]; simpa using ho, fun U hU => ?_, fun j hj hj' => ?_⟩, hg⟩
  · rcases List.mem_append.1 hU with hU | hU
    · exact h3 U hU
    · rw [List.mem_singleton.1 hU]; exact hM.len
  · have hsame : Same (SK w B v) w w' := fun g hg' => hg.block g hg'.2.1 hg'.2.2
    have hsub : ∀ g, SK w B v g → SK w' B v' g := fun g hg' => ⟨hg'.1, Nat.lt_of_lt_of_le hg'.2.1 hg.size, fun e => by
      rcases hf with hf | ⟨k, hf, hk⟩
      · rw [hf] at e; exact hg'.2.2 e
      · rw [hf] at e
        injection e with e
        have := hg'.2.1
        omega⟩
    by_cases hlt : j < K.length
    · have := NodeIs.keep hsame hsub n _ _ (h4 j hlt (by omega))
      rw [List.getElem_append_left hlt, List.getElem_append_left (by omega)]
      exact this
    · have hje : j = K.length := by rw [List.length_append] at hj; simp at hj; omega
      have := NodeIs.keep hsame hsub n c M hc
      subst hje
      rw [List.getElem_append_right (Nat.le_refl _), List.getElem_append_right (by omega)]
      simp only [h1, Nat.sub_self, List.getElem_cons_zero]
      exact this
/-- they are read as a node's children are -/
theorem KidsAt.rows {w : World} {B n : Nat} {v : Value} {K : List (Ward.NT n)} (h : KidsAt w B v n K) : RowsAt (NodeIs w (fun g => B ≤ g ∧ g < w.heap.size) n) w (fun g => B ≤ g ∧ g < w.heap.size) v K := by
  obtain ⟨VS, h1, h2, h3, h4⟩ := h
  have h2' := h2
  rcases h2.2 with ⟨rfl, h0⟩ | ⟨g, cap, cur, rfl, hB, hg, hcap, hmax, hcs, htake⟩
  · exact ⟨none, 0, by rw [h0], fun e => absurd (List.length_eq_zero_iff.1 h0) e⟩
  · refine ⟨some ⟨g, 0, none⟩, cap, rfl, fun _ => ⟨g, 0, rfl, ⟨hB, (Array.getElem?_eq_some_iff.1 hg).1⟩, fun j hj => ⟨VS[j]'(by omega), NodeIs.keep (fun _ _ => rfl) (fun g hg => ⟨hg.1, hg.2.1⟩) n _ _ (h4 j hj (by omega)), fun i u hu => ?_⟩⟩⟩
    have hi : i < 39 := by rw [← h3 _ (List.getElem_mem (show j < VS.length by omega))]; exact (List.getElem?_eq_some_iff.1 hu).1
    have h := h2'.cells (g := g) rfl (j * 39 + i) u (by
      rw [flat_get _ j i h3 hi, List.getElem?_eq_getElem (show j < VS.length by omega)]
      exact hu)
    rw [Addr.add_lit] at h
    rw [Nat.zero_add] at h ⊢
    exact h
/-- the cells are those of some node -/
def Shape (V : List Value) : Prop := ∃ (a : Option Addr) (l c : Nat) (a' : Option Addr) (l' c' : Nat) (bx : Ward.Box) (n : Int) (D : List UInt8), D.length = 32 ∧ V = nodeV (.slice a l c) (.slice a' l' c') bx n (D.map Y)
theorem Shape.row {V : List Value} (h : Shape V) : Row39 V := by
  obtain ⟨a, l, c, a', l', c', bx, n, D, hD, rfl⟩ := h
  exact nodeV_row hD
theorem NodeIs.shape {w : World} {S : Nat → Prop} {n : Nat} {t : Ward.NT n} {V : List Value} (h : NodeIs w S n t V) : Shape V := by
  obtain ⟨a1, l1, c1, a2, l2, c2, hV, hd⟩ := h.cells
  exact ⟨a1, l1, c1, a2, l2, c2, _, _, _, hd, hV⟩
/-- what reading one leaves -/
def OneRead {d : Nat} (rd : Ward.Sta → Option (Ward.NT (d + 1) × Ward.Sta)) (m : Nat) (w : World) (g b n : Nat) (s : Ward.Sta) (e : Ending) (w' : World) : Prop := Keeps (Rd2 g b) w w' ∧
  match rd s with
  | none => ∃ V : List Value, Shape V ∧ e = .returned (.tuple #[.agg V.toArray, .bool false])
  | some (t, s') => ∃ (V : List Value) (n' : Nat), e = .returned (.tuple #[.agg V.toArray, .bool true]) ∧ NodeIs w' (fun j => w.heap.size ≤ j ∧ j < w'.heap.size) (d + 1) t V ∧ n' ≤ n + m ∧ RdAt w' g b n' s'
/-- what reading the children leaves -/
def KidsRead {d : Nat} (rd : Ward.Sta → Option (Ward.NT (d + 1) × Ward.Sta)) (m : Nat) (w : World) (g b n k : Nat) (s : Ward.Sta) (e : Ending) (w' : World) : Prop := Keeps (Rd2 g b) w w' ∧
  match Ward.rdMany rd k s with
  | none => e = .returned (.tuple #[.slice none 0 0, .bool false])
  | some (l, s') => ∃ (v : Value) (n' : Nat), e = .returned (.tuple #[v, .bool true]) ∧ KidsAt w' w.heap.size v (d + 1) l ∧ n' ≤ n + k * m ∧ RdAt w' g b n' s'
set_option maxRecDepth 100000 in
set_option maxHeartbeats 4000000 in
theorem several_nodes {d : Nat} (rd : Ward.Sta → Option (Ward.NT (d + 1) × Ward.Sta)) (m N kr kd g b n k : Nat) (s : Ward.Sta) (w : World) (H : RdAt w g b n s) (hk : k ≤ 4) (hn : n + 4 * m ≤ N)
    (HC : ∀ W n s, Keeps (Rd2 g b) w W → RdAt W g b n s → n + m ≤ N → Calls Tryz.prog 125 #[.pointer (some ⟨kr, 0, none⟩), .pointer (some ⟨kd, 0, none⟩)] W (OneRead rd m W g b n s)) :
    Calls Tryz.prog 124 #[I k, .func (.func 125) #[] #[.pointer (some ⟨kr, 0, none⟩), .pointer (some ⟨kd, 0, none⟩)]] w (KidsRead rd m w g b n k s) := by
  have hglt := H.lt
  have hblt := H.set.lt
  have HH := hide H
  have HCC := hide HC
  obtain ⟨fs, hu⟩ := underNode
  have HU := hide hu
  clear H HC hu
  go_enter Tryz.func124, Tryz.ntmps124
  go_wp2_with fail
  go_loopg [6, 10] k (fun gk v6 v10 wq => ∃ (i : Nat) (l : List (Ward.NT (d + 1))) (si : Ward.Sta) (ni : Nat), gk = k - i ∧ v10 = I i ∧ Ward.Half rd k s i l si ∧ KidsAt wq w.heap.size v6 (d + 1) l ∧ ni ≤ n + i * m ∧ RdAt wq g b ni si ∧ Keeps (Rd2 g b) w wq)
  case atStart => exact ⟨0, [], s, n, rfl, rfl, Ward.half_start _ _ _, kidsAt_nil _ _ _, by omega, HH.out, Keeps.refl _ _⟩
  case round =>
    obtain ⟨i, l, si, ni, hgk, rfl, hhf, ho, hni, hrd, hkp⟩ := hrel
    have HGK := hide hgk
    have HHF := hide hhf
    have HO := hide ho
    have HRD := hide hrd
    have HKP := hide hkp
    have hik : i ≤ k := hhf.2.1
    have hsz := hkp.size
    have hl5 : l.length ≤ 5 := by rw [hhf.1]; omega
    have HOB := hide ho.own
    have HNI := hide hni
    by_cases hlt : i < k
    · have HNB := hide (show ni + m ≤ N by
        have h1 : (i + 1) * m ≤ 4 * m := Nat.mul_le_mul_right _ (by omega)
        rw [Nat.succ_mul] at h1
        omega)
      have HPA := hide (HCC.out wr ni si hkp hrd HNB.out)
      clear hgk hhf ho hrd hkp hni
      go_wp2_with fail
      refine HPA.out.mono ?_
      rintro e w2 ⟨hk2, hm2⟩
      have hs2 := hk2.size
      cases hr : rd si with
      | none =>
        rw [hr] at hm2
        obtain ⟨V, hV, rfl⟩ := hm2
        have HV := hide hV.row
        have HE := hide (Ward.half_none HHF.out hlt hr)
        have HK2 := hide (show Keeps (Rd2 g b) w w2 from HKP.out.trans hk2 (fun _ _ h => h))
        have hb3' := fun o => HK2.out.low ((Below.refl w2.heap.size w2).alloc (Nat.le_refl _) o |>.mono HK2.out.size)
        clear hk2 hr hV
        go_wp2_with (refine wpList_store_row rfl 90 (.tmp 7) (.tmp 15) rfl w2.heap.size V.toArray rfl rfl 90 _ (heap_alloc_new w2 _) HV.out.info (by rw [HV.out.size]; rfl) HV.out.one ?_; rw [World.setRow_alloc_new])
        go_ret2
        refine ⟨hb3' _, ?_⟩
        rw [HE.out]; rfl
      | some ps =>
        obtain ⟨c, sj⟩ := ps
        rw [hr] at hm2
        obtain ⟨V, nj, rfl, hc2, hnj, hrd2⟩ := hm2
        obtain ⟨a1, l1, c1, a2, l2, c2, hVe, hd⟩ := hc2.cells
        have HV := hide (show Row39 V by rw [hVe]; exact nodeV_row hd)
        have HST := hide (Ward.half_step HHF.out hlt hr)
        have HRD2 := hide hrd2
        have HNJ := hide (show nj ≤ n + (i + 1) * m by rw [Nat.succ_mul]; have := HNI.out; omega)
        have HK2 := hide (show Keeps (Rd2 g b) w w2 from HKP.out.trans hk2 (fun _ _ h => h))
        have HO2 := hide (HO.out.keeps hk2 (fun j hj hn => by rcases hn with rfl | rfl <;> omega))
        have HC2 := hide (show NodeIs w2 (SK w2 w.heap.size u6) (d + 1) c V from NodeIs.keep (fun _ _ => rfl) (fun j hj => ⟨by omega, hj.2, fun e => by have := (HOB.out j e.symm).2; have := hj.1; omega⟩) (d + 1) c V hc2)
        clear hk2 hr hrd2 hVe hd hc2 hnj
        have hb3' := fun o => (Below.refl w2.heap.size w2).alloc (Nat.le_refl _) o
        have hr3' := heap_alloc_new w2
        go_upto_region 7 with (refine wpList_store_row rfl 90 (.tmp 7) (.tmp 15) rfl w2.heap.size V.toArray rfl rfl 90 _ (heap_alloc_new w2 _) HV.out.info (by rw [HV.out.size]; rfl) HV.out.one ?_; rw [World.setRow_alloc_new])
        generalize hW : World.alloc w2 _ = w3
        have hb3 : Below w2.heap.size w2 w3 := by rw [← hW]; exact hb3' _
        have hr3 : w3.heap[w2.heap.size]? = some (.cells V.toArray 90 (0, 0)) := by rw [← hW]; exact hr3' _
        clear hb3' hr3' hW
        have hs3 := hb3.size
        have HR3 := hide hr3
        have HO3 := hide (HO2.out.below hb3)
        have HRD3 := hide (HRD2.out.below hb3)
        have HK3 := hide (HK2.out.low (hb3.mono (by omega)))
        have HC3 := hide (show NodeIs w3 (SK w3 w.heap.size u6) (d + 1) c V from NodeIs.keep (fun j hj => hb3.block j hj.2.1) (fun j hj => ⟨hj.1, by have := hj.2.1; omega, hj.2.2⟩) (d + 1) c V HC2.out)
        obtain ⟨v4, w4, h4, ho4, hg4⟩ := HO3.out.push c V HC3.out HV.out (by omega) (by omega)
        have HO4 := hide ho4
        have HRD4 := hide (HRD3.out.grown hg4 (fun e => by have := (HOB.out _ e.symm).1; omega) (fun e => by have := (HOB.out _ e.symm).1; omega))
        have HK4 := hide (HK3.out.grownR hg4 (fun j hj e => by have := (HOB.out _ e.symm).1; omega))
        clear hb3 hr3 ho4 hg4
        obtain ⟨i0, hi0, hz0, hz1, hz2⟩ := info_parts Tryz.infoNodeZ
        have HZ1 := hide hz1
        have HF := hide (fun (cells : Array Value) (hc : cells.size = i0.size) => fill_one (s := i0.size) (by rw [HZ1.out]; decide) V.toArray cells (by rw [HZ1.out, HV.out.size]) hc)
        obtain ⟨a3, c3, e3⟩ := HO.out.slice
        subst e3
        clear hz1 hz2
        go_wp2_with (first | (refine wpList_load_row rfl 90 (.tmp 7) rfl w2.heap.size rfl 90 V.toArray (0, 0) (.struct fs) HR3.out HU.out rfl HV.out.info ?_) | (refine wpList_buildSlice rfl 86 90 1 #[(0, .tmp 20)] rfl V.toArray i0 zeroNode Tryz.underlying86 hi0 hz0 (by rw [HZ1.out]; decide) (by rw [HZ1.out]; decide) (by rw [Array.toList_map]; exact HF.out _ (by simp)) ?_) | (at_builtin; refine Lib.wpList_append_run _ rfl (.tmp 19) (.tmp 21) 86 86 rfl _ _ rfl rfl _ _ h4 ?_))
        go_roundg (k - (i + 1))
        case measure => have := HGK.out; omega
        case rel => exact ⟨i + 1, l ++ [c], sj, nj, rfl, by go_num, HST.out, HO4.out, HNJ.out, HRD4.out, HK4.out⟩
    · have ei : i = k := by omega
      subst ei
      have HE := hide (Ward.half_end HHF.out)
      clear hgk hhf ho hrd hkp hni
      go_wp2_with fail
      go_ret2
      refine ⟨HKP.out, ?_⟩
      rw [HE.out]
      exact ⟨_, ni, rfl, HO.out, HNI.out, HRD.out⟩
end Go.Proofs.YtenaelkbgkpllaaGreatDoor
/- The closure of node: a child, read. -/
namespace Go.Proofs.YtenaelkbgkpllaaGreatDoor
open Go.RowKit

theorem OneRead.shape {d : Nat} {rd : Ward.Sta → Option (Ward.NT (d + 1) × Ward.Sta)} {m : Nat} {w : World} {g b n : Nat} {s : Ward.Sta} {e : Ending} {w' : World} (h : OneRead rd m w g b n s e w') : ∃ (V : List Value) (ok : Bool), Shape V ∧ e = .returned (.tuple #[.agg V.toArray, .bool ok]) := by
  obtain ⟨-, h⟩ := h
  cases hr : rd s with
  | none =>
    rw [hr] at h
    obtain ⟨V, hV, e⟩ := h
    exact ⟨V, false, hV, e⟩
  | some ps =>
    obtain ⟨t, s'⟩ := ps
    rw [hr] at h
    obtain ⟨V, n', e, hN, -⟩ := h
    exact ⟨V, true, hN.shape, e⟩
/-- with a row of one's own around it -/
theorem OneRead.lift {d : Nat} {rd : Ward.Sta → Option (Ward.NT (d + 1) × Ward.Sta)} {m : Nat} {w w1 w2 w3 : World} {g b n : Nat} {s : Ward.Sta} {e : Ending} (h : OneRead rd m w1 g b n s e w2) (hg : g < w.heap.size) (hb : b < w.heap.size) (hb1 : Below w.heap.size w w1) (hs1 : w.heap.size < w1.heap.size) (hk : Keeps (fun j => j = w.heap.size) w2 w3) : OneRead rd m w g b n s e w3 := by
  obtain ⟨h0, h⟩ := h
  have hs2 := h0.size
  have hs3 := hk.size
  refine ⟨⟨hk.os.trans (h0.os.trans hb1.os), hk.tape.trans (h0.tape.trans hb1.tape), hk.output.trans (h0.output.trans hb1.output), by omega, fun j hj hn => (hk.block j (by omega) (by omega)).trans ((h0.block j (by omega) hn).trans (hb1.block j hj))⟩, ?_⟩
  cases hr : rd s with
  | none =>
    rw [hr] at h
    exact h
  | some ps =>
    obtain ⟨t, s'⟩ := ps
    rw [hr] at h
    obtain ⟨V, n', e, hN, hn', hR⟩ := h
    exact ⟨V, n', e, NodeIs.keep (fun j hj => hk.block j hj.2 (by have := hj.1; omega)) (fun j hj => ⟨by omega, by omega⟩) _ _ _ hN, hn', ⟨(hk.block g (by omega) (by omega)).trans hR.row, hR.set.block (hk.block b (by omega) (by omega))⟩⟩
theorem keeps_setRow (w : World) (g : Nat) (cs : Array Value) : Keeps (fun j => j = g) w (w.setRow g cs) := ⟨rfl, rfl, rfl, by simp, fun j _ hn => setRow_other w g j cs hn⟩
set_option maxRecDepth 100000 in
set_option maxHeartbeats 4000000 in
theorem node1_any {d : Nat} (rd : Ward.Sta → Option (Ward.NT (d + 1) × Ward.Sta)) (m kr kd g b n deep : Nat) (s : Ward.Sta) (w : World) (H : RdAt w g b n s) (t1 t2 : Nat) (hkr : w.heap[kr]? = some (.cells #[.pointer (some ⟨g, 0, none⟩)] t1 (0, 0))) (hkd : w.heap[kd]? = some (.cells #[I deep] t2 (0, 0)))
    (HC : ∀ W, RdAt W g b n s → Calls Tryz.prog 126 #[.pointer (some ⟨g, 0, none⟩), I deep] W (OneRead rd m W g b n s)) :
    Calls Tryz.prog 125 #[.pointer (some ⟨kr, 0, none⟩), .pointer (some ⟨kd, 0, none⟩)] w (OneRead rd m w g b n s) := by
  have hglt := H.lt
  have hblt := H.set.lt
  have HCC := hide HC
  have HH := hide H
  obtain ⟨fs, hu⟩ := underNode
  have HU := hide hu
  have hb1' := fun o => (Below.refl w.heap.size w).alloc (Nat.le_refl _) o
  have hr1' := heap_alloc_new w
  have hkr0 := (Array.getElem?_eq_some_iff.1 hkr).1
  have hkd0 := (Array.getElem?_eq_some_iff.1 hkd).1
  clear H HC hu
  go_enter Tryz.func125, Tryz.ntmps125
  go_upto_region 1 with fail
  generalize hW : World.alloc w _ = w1
  have hb1 : Below w.heap.size w w1 := by rw [← hW]; exact hb1' _
  have hr1 : ∃ Z : Array Value, Z.size = 39 ∧ w1.heap[w.heap.size]? = some (.cells Z 90 (0, 0)) := by rw [← hW]; exact ⟨_, rfl, hr1' _⟩
  clear hb1' hr1' hW
  obtain ⟨Z, hZ, hr1⟩ := hr1
  have hs1 : w.heap.size < w1.heap.size := (Array.getElem?_eq_some_iff.1 hr1).1
  have c0 : w1.cell? ⟨kr, 0, none⟩ = some (.pointer (some ⟨g, 0, none⟩)) := by rw [cell_of_row _ _ _ _ _ _ ((hb1.block kr hkr0).trans hkr)]; rfl
  have c1 : w1.cell? ⟨kd, 0, none⟩ = some (I deep) := by rw [cell_of_row _ _ _ _ _ _ ((hb1.block kd hkd0).trans hkd)]; rfl
  have HB1 := hide hb1
  have HZ := hide hZ
  have HR1 := hide hr1
  have HX := hide (HCC.out w1 (HH.out.below hb1))
  clear hb1 hr1 hZ hkr hkd hkr0 hkd0
  go_wp2_with fail
  refine HX.out.mono ?_
  rintro e w2 h2
  obtain ⟨V, ok, hV, rfl⟩ := h2.shape
  have HV := hide hV.row
  have HZ2 := hide ((h2.1.block w.heap.size hs1 (fun e => by rcases e with e | e <;> omega)).trans HR1.out)
  have HL := hide (fun w3 => OneRead.lift (w3 := w3) h2 hglt hblt HB1.out hs1)
  clear h2 hV
  go_wp2_with (refine wpList_store_row rfl 90 (.tmp 2) (.tmp 7) rfl w.heap.size V.toArray rfl rfl 90 _ HZ2.out HV.out.info (by rw [HV.out.size, HZ.out]) HV.out.one ?_)
  refine bodyPost_ret (results_row_tmp (p := 2) (u := 3) (ty := 90) rfl _ _ w.heap.size 90 V.toArray (0, 0) (.struct fs) rfl (setRow_heap _ _ _ _ _ _ HZ2.out) HU.out rfl HV.out.info) rfl ?_
  exact HL.out _ (keeps_setRow _ _ _)
end Go.Proofs.YtenaelkbgkpllaaGreatDoor
/- A child, read. -/
namespace Go.Proofs.YtenaelkbgkpllaaGreatDoor
open Go.RowKit

/-- a node of nothing, as it lies -/
def zeroV : List Value := nodeV (.slice none 0 0) (.slice none 0 0) ⟨0, 0, 0, 0⟩ 0 ((List.replicate 32 (0 : UInt8)).map Y)
theorem zeroV_shape : Shape zeroV := ⟨none, 0, 0, none, 0, 0, _, _, _, by simp, rfl⟩
theorem zeroV_row : Row39 zeroV := zeroV_shape.row
theorem zeroV_lit : zeroV.toArray = (nodeV (.slice none 0 0) (.slice none 0 0) ⟨0, 0, 0, 0⟩ 0 zero32).toArray := rfl
set_option maxRecDepth 100000 in
set_option maxHeartbeats 4000000 in
theorem child_short {d : Nat} (rdB : Ward.Sta → Option (Ward.NT (d + 1) × Ward.Sta)) (m g b n deep : Nat) (s : Ward.Sta) (w : World) (H : RdAt w g b n s) (hs : s.1.length < 53) :
    Calls Tryz.prog 126 #[.pointer (some ⟨g, 0, none⟩), I deep] w (OneRead (Ward.rdKid d rdB) m w g b n s) := by
  have HE := hide (show Ward.rdKid d rdB s = none by unfold Ward.rdKid; rw [if_pos hs])
  have hb1' := fun o => (Below.refl w.heap.size w).alloc (Nat.le_refl _) o
  have hr1' := heap_alloc_new w
  have HH := hide H
  obtain ⟨fs, hu⟩ := underNode
  have HU := hide hu
  clear H hu
  go_enter Tryz.func126, Tryz.ntmps126
  go_upto_region 1 with fail
  generalize hW : World.alloc w _ = w1
  have hb1 : Below w.heap.size w w1 := by rw [← hW]; exact hb1' _
  have hr1 : w1.heap[w.heap.size]? = some (.cells zeroV.toArray 90 (0, 0)) := by rw [← hW]; exact hr1' _
  clear hb1' hr1' hW
  have HT := hide (take_few g 53 s.1 _ w1 (HH.out.below hb1).row hs)
  have HB1 := hide hb1
  have HR1 := hide hr1
  clear hb1 hr1
  go_wp2_with fail
  refine HT.out.mono ?_
  rintro _ w0 ⟨rfl, hw0⟩
  rw [hw0]
  clear hw0
  go_wp2_with (refine wpList_store_row rfl 90 (.tmp 4) (.tmp 16) rfl w.heap.size zeroV.toArray rfl rfl 90 _ HR1.out zeroV_row.info rfl zeroV_row.one ?_)
  refine bodyPost_ret (results_row_tmp (p := 4) (u := 5) (ty := 90) rfl _ _ w.heap.size 90 zeroV.toArray (0, 0) (.struct fs) rfl (setRow_heap _ _ _ _ _ _ HR1.out) HU.out rfl zeroV_row.info) rfl ?_
  unfold OneRead
  rw [HE.out]
  exact ⟨Keeps.of_below (below_setRow HB1.out (Nat.le_refl _) _), zeroV, zeroV_shape, rfl⟩
end Go.Proofs.YtenaelkbgkpllaaGreatDoor
