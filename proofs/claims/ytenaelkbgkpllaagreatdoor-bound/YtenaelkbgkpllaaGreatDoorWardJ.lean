/- Each tree of the right form is read off its text. -/
import Derived.Test.YtenaelkbgkpllaaGreatDoorWardI
namespace Go.Proofs.YtenaelkbgkpllaaGreatDoor
namespace Ward
theorem headN_text {n : Nat} {c : NT (n + 1)} (hb : (Nd.box c).In) (h1 : 1 ≤ Nd.n c) (h2 : Nd.n c ≤ 150) (hd : (Nd.dig c).length = 32) (m : List UInt8) : headN n (saidN (n + 1) c ++ m) = { c with pts := [], kids := [] } := by
  obtain ⟨a1, a2, b1, b2, c1, c2, d1, d2⟩ := hb
  have e : saidN (n + 1) c ++ m = fourI (Nd.box c).a ++ (fourI (Nd.box c).b ++ (fourI (Nd.box c).c ++ (fourI (Nd.box c).d ++ (fourI (Nd.n c) ++ (Nd.dig c ++ m))))) := by
    show boxText (Nd.box c) ++ fourI (Nd.n c) ++ Nd.dig c ++ m = _
    simp only [boxText, List.append_assoc]
  have e0 : numAt (saidN (n + 1) c ++ m) 0 = (Nd.box c).a := by rw [e, numAt_zero _ a1 a2]
  have e1 : numAt (saidN (n + 1) c ++ m) 1 = (Nd.box c).b := by rw [e, show 1 = 0 + 1 from rfl, numAt_succ, numAt_zero _ b1 b2]
  have e2 : numAt (saidN (n + 1) c ++ m) 2 = (Nd.box c).c := by rw [e, show 2 = 0 + 1 + 1 from rfl, numAt_succ, numAt_succ, numAt_zero _ c1 c2]
  have e3 : numAt (saidN (n + 1) c ++ m) 3 = (Nd.box c).d := by rw [e, show 3 = 0 + 1 + 1 + 1 from rfl, numAt_succ, numAt_succ, numAt_succ, numAt_zero _ d1 d2]
  have e4 : numAt (saidN (n + 1) c ++ m) 4 = Nd.n c := by rw [e, show 4 = 0 + 1 + 1 + 1 + 1 from rfl, numAt_succ, numAt_succ, numAt_succ, numAt_succ, numAt_zero _ (by omega) (by omega)]
  have e5 : ((saidN (n + 1) c ++ m).drop 20).take 32 = Nd.dig c := by
    have hl : (boxText (Nd.box c) ++ fourI (Nd.n c)).length = 20 := by rw [List.length_append, boxText_len, fourI_len]
    have e6 : saidN (n + 1) c ++ m = (boxText (Nd.box c) ++ fourI (Nd.n c)) ++ (Nd.dig c ++ m) := by
      show boxText (Nd.box c) ++ fourI (Nd.n c) ++ Nd.dig c ++ m = _
      rw [List.append_assoc]
    rw [e6, ← hl, List.drop_left, ← hd, List.take_left]
  refine nd_ext rfl rfl ?_ e4 e5
  show (⟨numAt _ 0, numAt _ 1, numAt _ 2, numAt _ 3⟩ : Box) = Nd.box c
  rw [e0, e1, e2, e3]
theorem said_len52 {n : Nat} {c : NT (n + 1)} (hd : (Nd.dig c).length = 32) : (saidN (n + 1) c).length = 52 := by
  show (boxText (Nd.box c) ++ fourI (Nd.n c) ++ Nd.dig c).length = 52
  rw [List.length_append, List.length_append, boxText_len, fourI_len, hd]
theorem get52 {l : List UInt8} {a : UInt8} {m : List UInt8} (h : l.length = 52) : (l ++ a :: m).getD 52 0 = a ∧ (l ++ a :: m).drop 53 = m := by
  refine ⟨?_, ?_⟩
  · rw [List.getD_eq_getElem?_getD, List.getElem?_append_right (by omega), h]
    rfl
  · rw [show 53 = l.length + 1 by omega, ← List.drop_drop, List.drop_left]
    rfl
theorem rdKid_full {d : Nat} {below : Sta → Option (NT (d + 1) × Sta)} (hb : ∀ t rest i i', FormN d false t → Bare d t → Reads2 (idsN (d + 1) t) i i' → below (textS (d + 1) t ++ rest, i) = some (t, (rest, i')))
    (c : NT (d + 1)) (rest : List UInt8) (i i' : List Int) (hc : KidForm d c) (hi : Reads2 (idsN (d + 1) c) i i') : rdKid d below (kidText (d + 1) c ++ rest, i) = some (c, (rest, i')) := by
  obtain ⟨⟨h1, h2, h3, hd⟩, hs⟩ := hc
  have hbi := (may_in h1).1
  have hsl := said_len52 (c := c) hd
  have hcond : (boxMay (Nd.box c) && decide (1 ≤ Nd.n c) && decide (Nd.n c ≤ 150)) = true := by simp [h1, h2, h3]
  rcases hs with ⟨hp, hk⟩ | hf
  · have e : kidText (d + 1) c ++ rest = saidN (d + 1) c ++ 0 :: rest := by
      rw [kidText, if_neg (by rw [shown_no hp hk]; simp), List.append_assoc]; rfl
    obtain ⟨g1, g2⟩ := get52 (a := 0) (m := rest) hsl
    have hH := headN_text hbi h2 h3 hd (0 :: rest)
    have hcc : ({ c with pts := [], kids := [] } : NT (d + 1)) = c := nd_ext hp.symm hk.symm rfl rfl rfl
    rw [hcc] at hH
    unfold rdKid
    simp only
    rw [e, if_neg (by rw [List.length_append, hsl, List.length_cons]; omega), hH, if_pos hcond, if_pos g1, g2]
    obtain ⟨rfl, -, -⟩ := hi
    have : idsN (d + 1) c = [] := by
      show (Nd.pts c ++ (Nd.kids c).flatMap (allN d)).map Pt.id = []
      rw [hp, hk]; rfl
    rw [this]
    rfl
  · have e : kidText (d + 1) c ++ rest = saidN (d + 1) c ++ 1 :: (textS (d + 1) c ++ rest) := by
      rw [kidText, if_pos (form_shown hf), List.append_assoc]; rfl
    obtain ⟨g1, g2⟩ := get52 (a := 1) (m := textS (d + 1) c ++ rest) hsl
    have hH := headN_text hbi h2 h3 hd (1 :: (textS (d + 1) c ++ rest))
    obtain ⟨b, hbd⟩ : ∃ b : NT (d + 1), b = { bareN d with pts := Nd.pts c, kids := Nd.kids c } := ⟨_, rfl⟩
    have hb1 : Nd.pts b = Nd.pts c := by rw [hbd]
    have hb2 : Nd.kids b = Nd.kids c := by rw [hbd]
    have hb3 : Bare d b := by rw [hbd]; exact ⟨rfl, rfl, rfl⟩
    have hi2 : Reads2 (idsN (d + 1) b) i i' := by rw [idsN, all_of hb1 hb2]; exact hi
    have hbe := hb b rest i i' (form_of hb1.symm hb2.symm hf) hb3 hi2
    rw [text_of hb1 hb2] at hbe
    unfold rdKid
    simp only
    rw [e, if_neg (by rw [List.length_append, hsl, List.length_cons]; omega), hH, if_pos hcond, if_neg (by rw [g1]; decide), if_pos g1, g2, hbe]
    simp only
    rw [hb1, hb2]
theorem u8_small {k : Nat} (h : k ≤ 4) : (UInt8.ofNat k).toNat = k := by rw [UInt8.toNat_ofNat']; omega
theorem rdNode_full : ∀ (d : Nat) (root : Bool) (t : NT (d + 1)) (rest : List UInt8) (i i' : List Int), FormN d root t → Bare d t → Reads2 (idsN (d + 1) t) i i' → rdNode d root (textS (d + 1) t ++ rest, i) = some (t, (rest, i'))
  | 0, _, _, _, _, _, h, _, _ => absurd h (fun h => h)
  | d + 1, root, t, rest, i, i', h, hbare, hi => by
    rcases h with ⟨hk, h4, h0, hok⟩ | ⟨hp, h0, h4, hkids⟩
    · have hl : textS (d + 1 + 1) t = leafText (Nd.pts t) := textS_leaf _ _ (by rw [hk]; rfl)
      have e : textS (d + 1 + 1) t ++ rest = 1 :: UInt8.ofNat (Nd.pts t).length :: ((Nd.pts t).flatMap ptText ++ rest) := by rw [hl]; rfl
      have hids : idsN (d + 1 + 1) t = (Nd.pts t).flatMap (fun p => [p.id]) := by
        show (Nd.pts t ++ (Nd.kids t).flatMap (allN (d + 1))).map Pt.id = _
        rw [hk, List.flatMap_nil, List.append_nil]
        generalize Nd.pts t = l
        induction l with
        | nil => rfl
        | cons p l ih => rw [List.map_cons, List.flatMap_cons, ih]; rfl
      rw [hids] at hi
      have hm := rdMany_full (P := Pt.Ok) (tx := ptText) (ids := fun p => [p.id]) (rd := rdPt) (fun x rest i i' hx hr => rdPt_full hx hr) (Nd.pts t) rest i i' hok hi
      unfold rdNode
      simp only
      rw [e]
      have g0 : (1 :: UInt8.ofNat (Nd.pts t).length :: ((Nd.pts t).flatMap ptText ++ rest) : List UInt8).getD 0 0 = 1 := rfl
      have g1 : (1 :: UInt8.ofNat (Nd.pts t).length :: ((Nd.pts t).flatMap ptText ++ rest) : List UInt8).getD 1 0 = UInt8.ofNat (Nd.pts t).length := rfl
      have g2 : (1 :: UInt8.ofNat (Nd.pts t).length :: ((Nd.pts t).flatMap ptText ++ rest) : List UInt8).drop 2 = (Nd.pts t).flatMap ptText ++ rest := rfl
      rw [if_neg (by simp), g0, g1, g2, u8_small h4, if_neg (by omega), if_pos ⟨rfl, h0.symm⟩, hm]
      simp only
      congr 2
      exact nd_ext rfl hk.symm hbare.1.symm hbare.2.1.symm hbare.2.2.symm
    · have e : textS (d + 1 + 1) t ++ rest = 2 :: UInt8.ofNat (Nd.kids t).length :: ((Nd.kids t).flatMap (kidText (d + 1)) ++ rest) := by rw [textS_kids _ _ h0]; rfl
      rw [ids_all _ _ hp] at hi
      have hm := rdMany_full (P := KidForm d) (tx := kidText (d + 1)) (ids := idsN (d + 1)) (rd := rdKid d (rdNode d false)) (fun x rest i i' hx hr => rdKid_full (fun t rest i i' hf hb hr => rdNode_full d false t rest i i' hf hb hr) x rest i i' hx hr) (Nd.kids t) rest i i' hkids hi
      unfold rdNode
      simp only
      rw [e]
      have g0 : (2 :: UInt8.ofNat (Nd.kids t).length :: ((Nd.kids t).flatMap (kidText (d + 1)) ++ rest) : List UInt8).getD 0 0 = 2 := rfl
      have g1 : (2 :: UInt8.ofNat (Nd.kids t).length :: ((Nd.kids t).flatMap (kidText (d + 1)) ++ rest) : List UInt8).getD 1 0 = UInt8.ofNat (Nd.kids t).length := rfl
      have g2 : (2 :: UInt8.ofNat (Nd.kids t).length :: ((Nd.kids t).flatMap (kidText (d + 1)) ++ rest) : List UInt8).drop 2 = (Nd.kids t).flatMap (kidText (d + 1)) ++ rest := rfl
      rw [if_neg (by simp), g0, g1, g2, u8_small h4, if_neg (by omega), if_neg (fun h => absurd h.1 (by decide)), if_pos ⟨rfl, h0⟩, hm]
      simp only
      congr 2
      exact nd_ext hp.symm rfl hbare.1.symm hbare.2.1.symm hbare.2.2.symm
theorem made_leaf {n : Nat} {t : NT (n + 1)} (h : (Nd.kids t).length = 0) : madeN (n + 1) t = ⟨Nd.pts t, [], boxL ((Nd.pts t).map boxOf), ((Nd.pts t).length : Nat), Sha.sha (leafText (Nd.pts t))⟩ := by
  show (if (Nd.kids t).length = 0 then _ else _) = _
  rw [if_pos h]
theorem made_node {n : Nat} {t : NT (n + 1)} (h : ¬ (Nd.kids t).length = 0) : madeN (n + 1) t = ⟨[], Nd.kids t, boxL ((Nd.kids t).map (boxN n)), ((Nd.kids t).map (numN n)).sum, Sha.sha (textK n (Nd.kids t))⟩ := by
  show (if (Nd.kids t).length = 0 then _ else _) = _
  rw [if_neg h]
/-- the root as what stands below it makes it: the same below it -/
theorem made_same {d : Nat} {r : Bool} {t : NT (d + 1)} (h : FormN d r t) : Nd.pts (madeN (d + 1) t) = Nd.pts t ∧ Nd.kids (madeN (d + 1) t) = Nd.kids t := by
  cases d with
  | zero => exact absurd h (fun h => h)
  | succ d =>
    rcases h with ⟨hk, _⟩ | ⟨hp, h0, _⟩
    · rw [made_leaf (by rw [hk]; rfl)]
      exact ⟨rfl, hk.symm⟩
    · rw [made_node (by omega)]
      exact ⟨hp.symm, rfl⟩
theorem made_of {n : Nat} {b c : NT (n + 1)} (h1 : Nd.pts b = Nd.pts c) (h2 : Nd.kids b = Nd.kids c) : madeN (n + 1) b = madeN (n + 1) c := by
  by_cases h : (Nd.kids b).length = 0
  · rw [made_leaf h, made_leaf (by rw [← h2]; exact h), h1]
  · rw [made_node h, made_node (by rw [← h2]; exact h), h2]
theorem nodup_reads {l : List Int} (h : l.Nodup) : Reads2 l [] (l.reverse ++ []) := ⟨rfl, h, fun _ _ => by simp⟩
/-- what a text that is taken apart is -/
theorem parse_sound {s : List UInt8} {t : NT 7} (h : parse s = some t) : FormN 6 true t ∧ textS 7 t = s ∧ (idsN 7 t).Nodup ∧ madeN 7 t = t := by
  unfold parse at h
  split at h
  · rename_i t0 ids hr
    cases h
    obtain ⟨⟨h1, h2, h3⟩, -⟩ := rdNode_sound 6 true _ t0 _ hr
    obtain ⟨m1, m2⟩ := made_same h1
    refine ⟨form_of m1.symm m2.symm h1, ?_, ?_, made_of m1 m2⟩
    · rw [text_of m1 m2]
      have h2' : s = textS 7 t0 ++ [] := h2
      rw [h2', List.append_nil]
    · rw [idsN, all_of m1 m2]
      exact h3.2.1
  · cases h
theorem parse_full {t : NT 7} (hf : FormN 6 true t) (hn : (idsN 7 t).Nodup) (hm : madeN 7 t = t) : parse (textS 7 t) = some t := by
  obtain ⟨b, hbd⟩ : ∃ b : NT 7, b = { bareN 6 with pts := Nd.pts t, kids := Nd.kids t } := ⟨_, rfl⟩
  have hb1 : Nd.pts b = Nd.pts t := by rw [hbd]
  have hb2 : Nd.kids b = Nd.kids t := by rw [hbd]
  have hb3 : Bare 6 b := by rw [hbd]; exact ⟨rfl, rfl, rfl⟩
  have hr := rdNode_full 6 true b [] [] _ (form_of hb1.symm hb2.symm hf) hb3 (nodup_reads (by rw [idsN, all_of hb1 hb2]; exact hn))
  rw [List.append_nil, text_of hb1 hb2] at hr
  unfold parse
  rw [hr]
  simp only
  rw [made_of hb1 hb2, hm]
end Ward
end Go.Proofs.YtenaelkbgkpllaaGreatDoor
