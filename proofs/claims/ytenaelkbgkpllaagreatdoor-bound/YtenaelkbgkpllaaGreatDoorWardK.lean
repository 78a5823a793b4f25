/- The answer of the points that are shown is that of all. -/
import Derived.Test.YtenaelkbgkpllaaGreatDoorWardE
import Derived.Test.YtenaelkbgkpllaaGreatDoorWardF
namespace Go.Proofs.YtenaelkbgkpllaaGreatDoor
namespace Ward
theorem pt_ext {p q : Pt} (h1 : p.id = q.id) (h2 : p.x = q.x) (h3 : p.y = q.y) : p = q := by
  cases p
  cases q
  simp only at h1 h2 h3
  subst h1 h2 h3
  rfl
instance : DecidableEq Pt := fun p q => decidable_of_iff (p.id = q.id ∧ p.x = q.x ∧ p.y = q.y) ⟨fun h => pt_ext h.1 h.2.1 h.2.2, fun h => by subst h; exact ⟨rfl, rfl, rfl⟩⟩
theorem ids_eq {P : List Pt} (h : Ids P) {p q : Pt} (hp : p ∈ P) (hq : q ∈ P) (e : p.id = q.id) : p = q := by
  induction P with
  | nil => simp at hp
  | cons a P ih =>
    obtain ⟨h1, h2⟩ := List.pairwise_cons.1 h
    rcases List.mem_cons.1 hp with hpa | hp <;> rcases List.mem_cons.1 hq with hqa | hq
    · rw [hpa, hqa]
    · rw [hpa] at e; exact absurd e (h1 q hq)
    · rw [hqa] at e; exact absurd e.symm (h1 p hp)
    · exact ih h2 hp hq
theorem ids_nodup {P : List Pt} (h : Ids P) : P.Nodup := h.imp fun hne e => hne (by rw [e])
/-- the points that are among others -/
theorem filter_sub {V P : List Pt} (hV : V.Sublist P) (hP : P.Nodup) : P.filter (fun p => decide (p ∈ V)) = V := by
  induction hV with
  | slnil => rfl
  | cons a h ih =>
    rename_i l₁ l₂
    obtain ⟨h1, h2⟩ := List.nodup_cons.1 hP
    rw [List.filter_cons_of_neg (by simp only [decide_eq_true_eq]; exact fun e => h1 (h.subset e)), ih h2]
  | cons_cons a h ih =>
    rename_i l₁ l₂
    obtain ⟨h1, h2⟩ := List.nodup_cons.1 hP
    rw [List.filter_cons_of_pos (by simp)]
    congr 1
    rw [← ih h2]
    refine List.filter_congr fun p hp => ?_
    have hpa : p ≠ a := fun e => h1 (e ▸ hp)
    rw [ih h2]
    simp [hpa]
theorem perm_part {A P : List Pt} (hA : ∀ p ∈ A, p ∈ P) (hN : A.Nodup) (hP : P.Nodup) : (A ++ P.filter (fun p => decide (p ∉ A))).Perm P := by
  have h1 : (P.filter (fun p => decide (p ∈ A))).Perm A := by
    refine (List.perm_ext_iff_of_nodup (hP.sublist List.filter_sublist) hN).2 fun p => ?_
    rw [List.mem_filter, decide_eq_true_eq]
    exact ⟨fun h => h.2, fun h => ⟨hA p h, h⟩⟩
  have h2 := List.filter_append_perm (fun p => decide (p ∈ A)) P
  refine ((h1.symm.append (List.Perm.refl _)).trans ?_)
  refine List.Perm.trans ?_ h2
  refine List.Perm.append (List.Perm.refl _) ?_
  rw [show (fun p => decide (p ∉ A)) = (fun p : Pt => !decide (p ∈ A)) from funext fun p => by simp]
/-- those that are nearer than all others stand first -/
theorem sortN_part {x y : Int} {A P : List Pt} (hI : Ids P) (hs : A.Pairwise (nr x y)) (hA : ∀ p ∈ A, p ∈ P) (hf : ∀ p ∈ P, p ∉ A → ∀ a ∈ A, nr x y a p) : sortN x y P = A ++ sortN x y (P.filter (fun p => decide (p ∉ A))) := by
  have hN : A.Nodup := hs.imp fun h e => by subst e; exact nr_irrefl x y _ h
  refine sortN_eq ?_ (((sortN_perm x y _).append_left A).trans (perm_part hA hN (ids_nodup hI))) hI
  refine List.pairwise_append.2 ⟨hs, sortN_sorted (ids_sub List.filter_sublist hI), fun a ha p hp => ?_⟩
  have hp' := (sortN_perm x y _).mem_iff.1 hp
  rw [List.mem_filter, decide_eq_true_eq] at hp'
  exact hf p hp'.1 hp'.2 a ha
/-- what is not among the first lies behind them -/
theorem behind {x y : Int} {P : List Pt} (hI : Ids P) (k : Nat) {p : Pt} (hp : p ∈ P) (hn : p ∉ (sortN x y P).take k) : ∀ a ∈ (sortN x y P).take k, nr x y a p := by
  intro a ha
  have hs := sortN_sorted (x := x) (y := y) hI
  rw [← List.take_append_drop k (sortN x y P)] at hs
  have hp2 := (sortN_perm x y P).mem_iff.2 hp
  rw [← List.take_append_drop k (sortN x y P)] at hp2
  rcases List.mem_append.1 hp2 with h | h
  · exact absurd h hn
  · exact (List.pairwise_append.1 hs).2.2 a ha p h
theorem last_far {x y : Int} {a : List Pt} (hs : a.Pairwise (nr x y)) {l p : Pt} (hl : a.getLast? = some l) (hp : distP l x y < distP p x y) : ∀ b ∈ a, nr x y b p := by
  intro b hb
  obtain ⟨m, rfl⟩ : ∃ m, a = m ++ [l] := List.getLast?_eq_some_iff.1 hl
  rcases List.mem_append.1 hb with hb | hb
  · have h1 := (List.pairwise_append.1 hs).2.2 b hb l (by simp)
    unfold nr at h1 ⊢
    omega
  · rw [List.mem_singleton.1 hb]; exact .inl hp
theorem must_far {q : Qr} {a : List Pt} {b : Box} (hk : q.kind = 1) (h : must q a b = false) : q.k ≤ a.length ∧ ∀ l, a.getLast? = some l → distP l q.x q.y < dist b q.x q.y := by
  unfold must at h
  rw [if_neg (by omega)] at h
  split at h
  · cases h
  · rename_i hl
    refine ⟨by omega, fun l hll => ?_⟩
    rw [hll] at h
    simp only [decide_eq_false_iff_not] at h
    omega
/-- the answer of the points that are shown -/
theorem ans_part {q : Qr} {a V P : List Pt} (hq : mayBe q = true) (hV : V.Sublist P) (hI : Ids P) (hid : ∀ p ∈ P, p ∈ V ∨ ∃ b, must q a b = false ∧ b.has (boxOf p)) (ha : a = ans q P ∨ a = ans q V) : ans q V = ans q P := by
  have hIV := ids_sub hV hI
  by_cases hk : q.kind = 1
  · have hk1 : 1 ≤ q.k := by
      unfold mayBe at hq
      rw [if_neg (by omega), if_pos hk] at hq
      simp only [Bool.and_eq_true, decide_eq_true_eq] at hq
      exact hq.1.2
    have eP : ans q P = (sortN q.x q.y P).take q.k.toNat := by rw [ans, if_pos hk]
    have eV : ans q V = (sortN q.x q.y V).take q.k.toNat := by rw [ans, if_pos hk]
    by_cases hall : ∀ p ∈ P, p ∈ V
    · have : V = P := by
        rw [← filter_sub hV (ids_nodup hI)]
        exact List.filter_eq_self.2 fun p hp => by simpa using hall p hp
      rw [this]
    · obtain ⟨p0, hp0, hn0⟩ : ∃ p ∈ P, p ∉ V := by
        refine Classical.byContradiction fun h => hall fun p hp => Classical.byContradiction fun h' => h ⟨p, hp, h'⟩
      obtain ⟨b0, hb0, -⟩ := (hid p0 hp0).resolve_left hn0
      obtain ⟨hlen, -⟩ := must_far hk hb0
      have hne : a ≠ [] := fun e => by rw [e] at hlen; simp at hlen; omega
      obtain ⟨l, hl⟩ : ∃ l, a.getLast? = some l := ⟨a.getLast hne, List.getLast?_eq_some_getLast hne⟩
      have hsa : a.Pairwise (nr q.x q.y) := by
        rcases ha with ha | ha
        · rw [ha, eP]; exact (sortN_sorted hI).sublist (List.take_sublist _ _)
        · rw [ha, eV]; exact (sortN_sorted hIV).sublist (List.take_sublist _ _)
      have hfar : ∀ p ∈ P, p ∉ V → ∀ x ∈ a, nr q.x q.y x p := fun p hp hn => by
        obtain ⟨b, hb, hh⟩ := (hid p hp).resolve_left hn
        have h1 := (must_far hk hb).2 l hl
        have h2 := dist_mono hh q.x q.y
        exact last_far hsa hl (Int.lt_of_lt_of_le h1 h2)
      have hal : a.length = q.k.toNat := by
        have : a.length ≤ q.k.toNat := by
          rcases ha with ha | ha
          · rw [ha, eP]; exact List.length_take_le _ _
          · rw [ha, eV]; exact List.length_take_le _ _
        omega
      rcases ha with ha | ha
      · have hmem : ∀ p ∈ a, p ∈ V := fun p hp => by
          have hpP : p ∈ P := by
            rw [ha, eP] at hp
            exact (sortN_perm _ _ P).mem_iff.1 (List.mem_of_mem_take hp)
          refine Classical.byContradiction fun hn => ?_
          exact nr_irrefl _ _ p (hfar p hpP hn p hp)
        have h := sortN_part hIV hsa hmem fun p hp hn x hx => by
          rw [ha, eP] at hn hx
          exact behind hI _ (hV.subset hp) hn x hx
        rw [eV, h, ← hal, List.take_left, ha]
      · have hmem : ∀ p ∈ a, p ∈ P := fun p hp => by
          rw [ha, eV] at hp
          exact hV.subset ((sortN_perm _ _ V).mem_iff.1 (List.mem_of_mem_take hp))
        have h := sortN_part hI hsa hmem fun p hp hn x hx => by
          by_cases hpV : p ∈ V
          · rw [ha, eV] at hn hx
            exact behind hIV _ hpV hn x hx
          · exact hfar p hp hpV x hx
        rw [eP, h, ← hal, List.take_left, ha]
  · have hk0 : q.kind = 0 := by
      unfold mayBe at hq
      by_cases h0 : q.kind = 0
      · exact h0
      · rw [if_neg h0, if_neg hk] at hq; cases hq
    rw [ans, if_neg hk, ans, if_neg hk]
    congr 1
    rw [← filter_sub hV (ids_nodup hI), List.filter_filter]
    refine List.filter_congr fun p hp => ?_
    by_cases hin : inB (window q) p = true
    · rw [hin, Bool.true_and, decide_eq_true_eq]
      refine (hid p hp).resolve_right fun ⟨b, hb, hh⟩ => ?_
      unfold must at hb
      rw [if_pos hk0] at hb
      have := meets_mono hh hin
      rw [hb] at this
      cases this
    · have : inB (window q) p = false := by simpa using hin
      rw [this, Bool.false_and]
end Ward
end Go.Proofs.YtenaelkbgkpllaaGreatDoor
