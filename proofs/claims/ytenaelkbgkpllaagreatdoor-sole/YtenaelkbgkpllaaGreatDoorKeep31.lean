/- Part 31 of what the claims on Bound, Small, Right and Sole rest on. -/
import Derived.Test.YtenaelkbgkpllaaGreatDoorKeep16
/- What a text that is taken apart shows, as the statement looks at it. -/
namespace Go.Proofs.YtenaelkbgkpllaaGreatDoor
namespace Ward
def toPT : (n : Nat) → NT n → PT n
  | 0, t => nomatch t
  | n + 1, t => if (Nd.kids t).length = 0 then .leaf ((Nd.pts t).flatMap ptText) else .node ((Nd.kids t).map fun c => (saidN n c, if shownN n c = true then .inr (toPT n c) else .inl 0))
theorem toPT_leaf {n : Nat} {t : NT (n + 1)} (h : (Nd.kids t).length = 0) : toPT (n + 1) t = .leaf ((Nd.pts t).flatMap ptText) := by
  show (if (Nd.kids t).length = 0 then _ else _) = _
  rw [if_pos h]
theorem toPT_node {n : Nat} {t : NT (n + 1)} (h : ¬ (Nd.kids t).length = 0) : toPT (n + 1) t = .node ((Nd.kids t).map fun c => (saidN n c, if shownN n c = true then .inr (toPT n c) else .inl 0)) := by
  show (if (Nd.kids t).length = 0 then _ else _) = _
  rw [if_neg h]
theorem toPT_shows : ∀ (n : Nat) (t : NT n), shows n (toPT n t) = textS n t
  | 0, t => nomatch t
  | n + 1, t => by
    by_cases h : (Nd.kids t).length = 0
    · rw [toPT_leaf h, textS_leaf _ _ h]
      exact emb_leaf _
    · rw [toPT_node h, textS_kids _ _ (by omega)]
      show 2 :: UInt8.ofNat (List.map _ (Nd.kids t)).length :: List.flatMap _ (List.map _ (Nd.kids t)) = _
      rw [List.length_map, List.flatMap_map]
      congr 2
      refine flatMap_congr fun c _ => ?_
      unfold kidText
      congr 1
      cases hs : shownN n c with
      | true => simp only [if_true]; rw [toPT_shows n c]
      | false => rfl
theorem toPT_alls : ∀ (n : Nat) (t : NT n), alls n (toPT n t) = ownsN n t
  | 0, t => nomatch t
  | n + 1, t => by
    by_cases h : (Nd.kids t).length = 0
    · rw [toPT_leaf h]
      show [_] = (Nd.kids t).flatMap _ ++ [ownN (n + 1) t]
      rw [List.length_eq_zero_iff.1 h, own_leaf h, List.flatMap_nil, List.nil_append, emb_leaf]
    · rw [toPT_node h]
      show List.flatMap _ (List.map _ (Nd.kids t)) ++ [2 :: UInt8.ofNat (List.map _ (Nd.kids t)).length :: List.flatMap _ (List.map _ (Nd.kids t))] = (Nd.kids t).flatMap _ ++ [ownN (n + 1) t]
      rw [List.length_map, List.flatMap_map, List.flatMap_map, own_node h]
      congr 1
      refine flatMap_congr fun c _ => ?_
      cases hs : shownN n c with
      | true => simp only [if_true]; rw [toPT_alls n c]
      | false => rfl
theorem toPT_wf : ∀ (d : Nat) (r : Bool) (t : NT (d + 1)), FormN d r t → WF (d + 1) (toPT (d + 1) t)
  | 0, _, _, h => absurd h (fun h => h)
  | d + 1, r, t, h => by
    rcases h with ⟨hk, h4, _, _⟩ | ⟨_, h0, h4, hkids⟩
    · rw [toPT_leaf (by rw [hk]; rfl)]
      exact ⟨(Nd.pts t).length, h4, pts_len _⟩
    · rw [toPT_node (by omega)]
      refine ⟨by rw [List.length_map]; exact h4, fun c hc => ?_⟩
      obtain ⟨u, hu, rfl⟩ := List.mem_map.1 hc
      obtain ⟨⟨_, _, _, hd⟩, hs⟩ := hkids u hu
      refine ⟨said_len52 hd, ?_⟩
      rcases hs with ⟨h1, h2⟩ | h1
      · simp only [shown_no h1 h2]
        exact show (0 : UInt8) ≠ 1 by decide
      · simp only [form_shown h1]
        exact toPT_wf d false u h1
theorem owns_few : ∀ (d : Nat) (r : Bool) (t : NT (d + 1)), FormN d r t → (ownsN (d + 1) t).length ≤ 5 ^ d
  | 0, _, _, h => absurd h (fun h => h)
  | d + 1, r, t, h => by
    have key : ∀ (l : List (NT (d + 1))), (∀ c ∈ l, shownN (d + 1) c = true → (ownsN (d + 1) c).length ≤ 5 ^ d) → (l.flatMap fun c => if shownN (d + 1) c = true then ownsN (d + 1) c else []).length ≤ 5 ^ d * l.length := by
      intro l
      induction l with
      | nil => intro _; simp
      | cons c l ih =>
        intro hl
        rw [List.flatMap_cons, List.length_append, List.length_cons]
        have h2 := ih fun x hx => hl x (by simp [hx])
        have h1 : (if shownN (d + 1) c = true then ownsN (d + 1) c else []).length ≤ 5 ^ d := by
          split
          · rename_i hs; exact hl c (by simp) hs
          · simp
        rw [Nat.mul_succ]; omega
    have h3 : 1 ≤ 5 ^ d := Nat.one_le_pow _ _ (by decide)
    show ((Nd.kids t).flatMap (fun c => if shownN (d + 1) c = true then ownsN (d + 1) c else []) ++ [ownN (d + 1 + 1) t]).length ≤ 5 ^ (d + 1)
    rw [List.length_append, List.length_singleton, Nat.pow_succ]
    rcases h with ⟨hk, _⟩ | ⟨_, _, h4, hkids⟩
    · rw [hk]; simp; omega
    · have h1 := key (Nd.kids t) fun c hc hs => by
        rcases (hkids c hc).2 with ⟨e1, e2⟩ | e1
        · rw [shown_no e1 e2] at hs; cases hs
        · exact owns_few d false c e1
      have h2 : 5 ^ d * (Nd.kids t).length ≤ 5 ^ d * 4 := Nat.mul_le_mul_left _ h4
      omega
end Ward
end Go.Proofs.YtenaelkbgkpllaaGreatDoor
/- What a text that is taken apart shows, no deeper than it is. -/
namespace Go.Proofs.YtenaelkbgkpllaaGreatDoor
namespace Ward
def kidShow (d : Nat) (c : List UInt8 × (UInt8 ⊕ PT d)) : List UInt8 := c.1 ++ match c.2 with | .inl f => [f] | .inr t => 1 :: shows d t
def kidAlls (d : Nat) (c : List UInt8 × (UInt8 ⊕ PT d)) : List (List UInt8) := match c.2 with | .inl _ => [] | .inr t => alls d t
def kidWF (d : Nat) (c : List UInt8 × (UInt8 ⊕ PT d)) : Prop := c.1.length = 52 ∧ match c.2 with | .inl f => f ≠ 1 | .inr t => WF d t
/-- it is shown by a tree that is not deeper -/
def Low (d : Nat) (t : NT (d + 1)) : Prop := ∃ S : PT d, WF d S ∧ shows d S = textS (d + 1) t ∧ alls d S = ownsN (d + 1) t
theorem low_kids (d : Nat) (IH : ∀ c : NT (d + 1), FormN d false c → Low d c) : ∀ K : List (NT (d + 1)), (∀ c ∈ K, KidForm d c) → ∃ cs : List (List UInt8 × (UInt8 ⊕ PT d)), cs.length = K.length ∧ Each (kidWF d) cs ∧ cs.flatMap (kidShow d) = K.flatMap (kidText (d + 1)) ∧ cs.flatMap (fun c => c.1) = K.flatMap (saidN (d + 1)) ∧ cs.flatMap (kidAlls d) = K.flatMap (fun c => if shownN (d + 1) c = true then ownsN (d + 1) c else [])
  | [], _ => ⟨[], rfl, fun c hc => by simp at hc, rfl, rfl, rfl⟩
  | c :: K, h => by
    obtain ⟨cs, h1, h2, h3, h4, h5⟩ := low_kids d IH K (fun c hc => h c (List.mem_cons_of_mem _ hc))
    obtain ⟨⟨_, _, _, hd⟩, hs⟩ := h c List.mem_cons_self
    rcases hs with ⟨k1, k2⟩ | k
    · refine ⟨(saidN (d + 1) c, .inl 0) :: cs, by rw [List.length_cons, List.length_cons, h1], fun x hx => ?_, ?_, ?_, ?_⟩
      · rcases List.mem_cons.1 hx with rfl | hx
        · exact ⟨said_len52 hd, show (0 : UInt8) ≠ 1 by decide⟩
        · exact h2 x hx
      · rw [List.flatMap_cons, List.flatMap_cons, h3]
        congr 1
        show saidN (d + 1) c ++ [0] = saidN (d + 1) c ++ (if shownN (d + 1) c = true then 1 :: textS (d + 1) c else [0])
        rw [shown_no k1 k2]
        rfl
      · rw [List.flatMap_cons, List.flatMap_cons, h4]
      · rw [List.flatMap_cons, List.flatMap_cons, h5]
        congr 1
        rw [shown_no k1 k2]
        rfl
    · obtain ⟨S, w1, w2, w3⟩ := IH c k
      refine ⟨(saidN (d + 1) c, .inr S) :: cs, by rw [List.length_cons, List.length_cons, h1], fun x hx => ?_, ?_, ?_, ?_⟩
      · rcases List.mem_cons.1 hx with rfl | hx
        · exact ⟨said_len52 hd, w1⟩
        · exact h2 x hx
      · rw [List.flatMap_cons, List.flatMap_cons, h3]
        congr 1
        show saidN (d + 1) c ++ 1 :: shows d S = saidN (d + 1) c ++ (if shownN (d + 1) c = true then 1 :: textS (d + 1) c else [0])
        rw [form_shown k, if_pos rfl, w2]
      · rw [List.flatMap_cons, List.flatMap_cons, h4]
      · rw [List.flatMap_cons, List.flatMap_cons, h5]
        congr 1
        rw [form_shown k, if_pos rfl]
        exact w3
theorem low_form : ∀ (d : Nat) (r : Bool) (t : NT (d + 1)), FormN d r t → Low d t
  | 0, _, _, h => h.elim
  | d + 1, r, t, h => by
    rcases h with ⟨hk, h4, _, _⟩ | ⟨_, h0, h4, hkids⟩
    · have e0 : (Nd.kids t).length = 0 := by rw [hk]; rfl
      refine ⟨(.leaf ((Nd.pts t).flatMap ptText) : Sh (PT d)), ⟨(Nd.pts t).length, h4, pts_len _⟩, ?_, ?_⟩
      · rw [textS_leaf _ _ e0]
        exact emb_leaf _
      · show [_] = (Nd.kids t).flatMap _ ++ [ownN (d + 1 + 1) t]
        rw [hk, own_leaf e0, List.flatMap_nil, List.nil_append, emb_leaf]
    · obtain ⟨cs, h1, h2, h3, h5, h6⟩ := low_kids d (fun c hc => low_form d false c hc) (Nd.kids t) hkids
      refine ⟨(.node cs : Sh (PT d)), ⟨by rw [h1]; exact h4, h2⟩, ?_, ?_⟩
      · rw [textS_kids _ _ h0, ← h1, ← h3]
        rfl
      · show cs.flatMap (kidAlls d) ++ [2 :: UInt8.ofNat cs.length :: cs.flatMap (fun c => c.1)] = (Nd.kids t).flatMap (fun c => if shownN (d + 1) c = true then ownsN (d + 1) c else []) ++ [ownN (d + 1 + 1) t]
        rw [h6, own_node (by omega), h1, h5]
        rfl
/-- a text that is taken and is not the proof shows two texts of one digest -/
theorem sole_found {q : Qr} {L : List Pt} (h : Well L) {s : List UInt8} {b : List Pt} (hv : verify (Sha.sha (rootText Sha.sha L)) (L.length : Nat) q s = (b, 0)) (hne : s ≠ proofText q L) : ∃ S : PT 6, WF 6 S ∧ shows 6 S = s ∧ (alls 6 S).length ≤ 50000 ∧ Clash (alls 6 S) (alls _ (rootShow Sha.sha L)) := by
  rcases verify_sole h hv with e | ⟨t, hp, hc⟩
  · exact absurd e hne
  · obtain ⟨h1, h2, _, _⟩ := parse_sound hp
    obtain ⟨S, w1, w2, w3⟩ := low_form 6 true t h1
    refine ⟨S, w1, w2.trans h2, ?_, ?_⟩
    · rw [w3]
      exact Nat.le_trans (owns_few 6 true t h1) (by decide)
    · rw [w3, show alls _ (rootShow Sha.sha L) = texts Sha.sha (tree L).1 (tree L).2 from emb_alls Sha.sha _ _]
      exact hc
end Ward
end Go.Proofs.YtenaelkbgkpllaaGreatDoor
