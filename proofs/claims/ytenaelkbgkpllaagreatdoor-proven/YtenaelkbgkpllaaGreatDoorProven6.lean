/- Windows, boxes that may be, queries that may be. -/
import Derived.Test.YtenaelkbgkpllaaGreatDoorProven5
import Derived.Test.YtenaelkbgkpllaaGreatDoorProven1
import Derived.Test.YtenaelkbgkpllaaGreatDoorProven2
namespace Go.Proofs.YtenaelkbgkpllaaGreatDoor
open Go.RowKit

/-- a query as a value -/
abbrev Qv (q : Ward.Qr) : Value := .agg #[I q.kind, I q.a, I q.b, I q.c, I q.d, I q.x, I q.y, I q.k]
theorem Tryz.infoQuery : (Tryz.prog.info? 46).map (·.size) = some 8 := by kernel_rfl

set_option maxHeartbeats 2000000 in
theorem meets_any (p q : Ward.Box) (w : World) :
    Calls Tryz.prog 78 #[Bx p, Bx q] w fun e w' => e = .returned (.bool (Ward.meets p q)) ∧ Below w.heap.size w w' := by
  obtain ⟨pa, pb, pc, pd⟩ := p
  obtain ⟨qa, qb, qc, qd⟩ := q
  by_cases h1 : pa ≤ qc
  · by_cases h2 : qa ≤ pc
    · by_cases h3 : pb ≤ qd
      · by_cases h4 : qb ≤ pd
        · rw [show Ward.meets ⟨pa, pb, pc, pd⟩ ⟨qa, qb, qc, qd⟩ = true by simp [Ward.meets, h1, h2, h3, h4]]
          go_enter Tryz.func78, Tryz.ntmps78
          go_wp2
          go_ret
          exact ⟨rfl, ((Below.refl w.heap.size w).alloc (Nat.le_refl _) _).alloc (by simp) _⟩
        · rw [show Ward.meets ⟨pa, pb, pc, pd⟩ ⟨qa, qb, qc, qd⟩ = false by simp [Ward.meets, h1, h2, h3, h4]]
          go_enter Tryz.func78, Tryz.ntmps78
          go_wp2
          go_ret
          exact ⟨rfl, ((Below.refl w.heap.size w).alloc (Nat.le_refl _) _).alloc (by simp) _⟩
      · rw [show Ward.meets ⟨pa, pb, pc, pd⟩ ⟨qa, qb, qc, qd⟩ = false by simp [Ward.meets, h1, h2, h3]]
        go_enter Tryz.func78, Tryz.ntmps78
        go_wp2
        go_ret
        exact ⟨rfl, ((Below.refl w.heap.size w).alloc (Nat.le_refl _) _).alloc (by simp) _⟩
    · rw [show Ward.meets ⟨pa, pb, pc, pd⟩ ⟨qa, qb, qc, qd⟩ = false by simp [Ward.meets, h1, h2]]
      go_enter Tryz.func78, Tryz.ntmps78
      go_wp2
      go_ret
      exact ⟨rfl, ((Below.refl w.heap.size w).alloc (Nat.le_refl _) _).alloc (by simp) _⟩
  · rw [show Ward.meets ⟨pa, pb, pc, pd⟩ ⟨qa, qb, qc, qd⟩ = false by simp [Ward.meets, h1]]
    go_enter Tryz.func78, Tryz.ntmps78
    go_wp2
    go_ret
    exact ⟨rfl, ((Below.refl w.heap.size w).alloc (Nat.le_refl _) _).alloc (by simp) _⟩
set_option maxHeartbeats 1000000 in
theorem windowOf_any (q : Ward.Qr) (w : World) :
    Calls Tryz.prog 73 #[Qv q] w fun e w' => e = .returned (Bx (Ward.window q)) ∧ Below w.heap.size w w' := by
  go_enter Tryz.func73, Tryz.ntmps73
  go_wp2
  refine bodyPost_ret (v := Bx (Ward.window q)) ?_ rfl ⟨rfl, ((Below.refl w.heap.size w).alloc (Nat.le_refl _) _).alloc (by simp) _⟩
  exact results_cell_row rfl _ _ (w.heap.size + 1) 88 _ (0, 0) _ rfl (heap_alloc2_new w _ _) Tryz.underlying88 rfl Tryz.infoBox
set_option maxHeartbeats 4000000 in
theorem boxMay_any (p : Ward.Box) (w : World) :
    Calls Tryz.prog 74 #[Bx p] w fun e w' => e = .returned (.bool (Ward.boxMay p)) ∧ Below w.heap.size w w' := by
  obtain ⟨pa, pb, pc, pd⟩ := p
  by_cases h1 : -1000000 ≤ pa ∧ pa ≤ 1000000
  · by_cases h2 : -1000000 ≤ pb ∧ pb ≤ 1000000
    · by_cases h3 : -1000000 ≤ pc ∧ pc ≤ 1000000
      · by_cases h4 : -1000000 ≤ pd ∧ pd ≤ 1000000
        · by_cases h5 : pa ≤ pc
          · by_cases h6 : pb ≤ pd
            · rw [show Ward.boxMay ⟨pa, pb, pc, pd⟩ = true by rw [Ward.boxMay, Ward.coord_yes h1, Ward.coord_yes h2, Ward.coord_yes h3, Ward.coord_yes h4, decide_eq_true h5, decide_eq_true h6]; rfl]
              have H1 := hide h1
              have H2 := hide h2
              have H3 := hide h3
              have H4 := hide h4
              clear h1 h2 h3 h4
              go_enter Tryz.func74, Tryz.ntmps74
              go_wp2_with (first | (go_at_call_of 32 (I pa); refine (isCoord_yes pa _ H1.out).mono ?_; rintro _ _ ⟨rfl, rfl⟩) | (go_at_call_of 32 (I pb); refine (isCoord_yes pb _ H2.out).mono ?_; rintro _ _ ⟨rfl, rfl⟩) | (go_at_call_of 32 (I pc); refine (isCoord_yes pc _ H3.out).mono ?_; rintro _ _ ⟨rfl, rfl⟩) | (go_at_call_of 32 (I pd); refine (isCoord_yes pd _ H4.out).mono ?_; rintro _ _ ⟨rfl, rfl⟩))
              go_ret
              exact ⟨rfl, (Below.refl w.heap.size w).alloc (Nat.le_refl _) _⟩
            · rw [show Ward.boxMay ⟨pa, pb, pc, pd⟩ = false by rw [Ward.boxMay, Ward.coord_yes h1, Ward.coord_yes h2, Ward.coord_yes h3, Ward.coord_yes h4, decide_eq_true h5, decide_eq_false h6]; rfl]
              have H1 := hide h1
              have H2 := hide h2
              have H3 := hide h3
              have H4 := hide h4
              clear h1 h2 h3 h4
              go_enter Tryz.func74, Tryz.ntmps74
              go_wp2_with (first | (go_at_call_of 32 (I pa); refine (isCoord_yes pa _ H1.out).mono ?_; rintro _ _ ⟨rfl, rfl⟩) | (go_at_call_of 32 (I pb); refine (isCoord_yes pb _ H2.out).mono ?_; rintro _ _ ⟨rfl, rfl⟩) | (go_at_call_of 32 (I pc); refine (isCoord_yes pc _ H3.out).mono ?_; rintro _ _ ⟨rfl, rfl⟩) | (go_at_call_of 32 (I pd); refine (isCoord_yes pd _ H4.out).mono ?_; rintro _ _ ⟨rfl, rfl⟩))
              go_ret
              exact ⟨congrArg (fun b => Ending.returned (Value.bool b)) (decide_eq_false (Int.not_le.2 h6)), (Below.refl w.heap.size w).alloc (Nat.le_refl _) _⟩
          · rw [show Ward.boxMay ⟨pa, pb, pc, pd⟩ = false by rw [Ward.boxMay, Ward.coord_yes h1, Ward.coord_yes h2, Ward.coord_yes h3, Ward.coord_yes h4, decide_eq_false h5]; rfl]
            have H1 := hide h1
            have H2 := hide h2
            have H3 := hide h3
            have H4 := hide h4
            clear h1 h2 h3 h4
            go_enter Tryz.func74, Tryz.ntmps74
            go_wp2_with (first | (go_at_call_of 32 (I pa); refine (isCoord_yes pa _ H1.out).mono ?_; rintro _ _ ⟨rfl, rfl⟩) | (go_at_call_of 32 (I pb); refine (isCoord_yes pb _ H2.out).mono ?_; rintro _ _ ⟨rfl, rfl⟩) | (go_at_call_of 32 (I pc); refine (isCoord_yes pc _ H3.out).mono ?_; rintro _ _ ⟨rfl, rfl⟩) | (go_at_call_of 32 (I pd); refine (isCoord_yes pd _ H4.out).mono ?_; rintro _ _ ⟨rfl, rfl⟩))
            go_ret
            exact ⟨rfl, (Below.refl w.heap.size w).alloc (Nat.le_refl _) _⟩
        · rw [show Ward.boxMay ⟨pa, pb, pc, pd⟩ = false by rw [Ward.boxMay, Ward.coord_yes h1, Ward.coord_yes h2, Ward.coord_yes h3, Ward.coord_no h4]; rfl]
          have H1 := hide h1
          have H2 := hide h2
          have H3 := hide h3
          have H4 := hide h4
          clear h1 h2 h3 h4
          go_enter Tryz.func74, Tryz.ntmps74
          go_wp2_with (first | (go_at_call_of 32 (I pa); refine (isCoord_yes pa _ H1.out).mono ?_; rintro _ _ ⟨rfl, rfl⟩) | (go_at_call_of 32 (I pb); refine (isCoord_yes pb _ H2.out).mono ?_; rintro _ _ ⟨rfl, rfl⟩) | (go_at_call_of 32 (I pc); refine (isCoord_yes pc _ H3.out).mono ?_; rintro _ _ ⟨rfl, rfl⟩) | (go_at_call_of 32 (I pd); refine (isCoord_no pd _ H4.out).mono ?_; rintro _ _ ⟨rfl, rfl⟩))
          go_ret
          exact ⟨rfl, (Below.refl w.heap.size w).alloc (Nat.le_refl _) _⟩
      · rw [show Ward.boxMay ⟨pa, pb, pc, pd⟩ = false by rw [Ward.boxMay, Ward.coord_yes h1, Ward.coord_yes h2, Ward.coord_no h3]; rfl]
        have H1 := hide h1
        have H2 := hide h2
        have H3 := hide h3
        clear h1 h2 h3
        go_enter Tryz.func74, Tryz.ntmps74
        go_wp2_with (first | (go_at_call_of 32 (I pa); refine (isCoord_yes pa _ H1.out).mono ?_; rintro _ _ ⟨rfl, rfl⟩) | (go_at_call_of 32 (I pb); refine (isCoord_yes pb _ H2.out).mono ?_; rintro _ _ ⟨rfl, rfl⟩) | (go_at_call_of 32 (I pc); refine (isCoord_no pc _ H3.out).mono ?_; rintro _ _ ⟨rfl, rfl⟩))
        go_ret
        exact ⟨rfl, (Below.refl w.heap.size w).alloc (Nat.le_refl _) _⟩
    · rw [show Ward.boxMay ⟨pa, pb, pc, pd⟩ = false by rw [Ward.boxMay, Ward.coord_yes h1, Ward.coord_no h2]; rfl]
      have H1 := hide h1
      have H2 := hide h2
      clear h1 h2
      go_enter Tryz.func74, Tryz.ntmps74
      go_wp2_with (first | (go_at_call_of 32 (I pa); refine (isCoord_yes pa _ H1.out).mono ?_; rintro _ _ ⟨rfl, rfl⟩) | (go_at_call_of 32 (I pb); refine (isCoord_no pb _ H2.out).mono ?_; rintro _ _ ⟨rfl, rfl⟩))
      go_ret
      exact ⟨rfl, (Below.refl w.heap.size w).alloc (Nat.le_refl _) _⟩
  · rw [show Ward.boxMay ⟨pa, pb, pc, pd⟩ = false by rw [Ward.boxMay, Ward.coord_no h1]; rfl]
    have H1 := hide h1
    clear h1
    go_enter Tryz.func74, Tryz.ntmps74
    go_wp2_with (first | (go_at_call_of 32 (I pa); refine (isCoord_no pa _ H1.out).mono ?_; rintro _ _ ⟨rfl, rfl⟩))
    go_ret
    exact ⟨rfl, (Below.refl w.heap.size w).alloc (Nat.le_refl _) _⟩
set_option maxHeartbeats 4000000 in
theorem mayBe_any (q : Ward.Qr) (w : World) :
    Calls Tryz.prog 39 #[Qv q] w fun e w' => e = .returned (.bool (Ward.mayBe q)) ∧ Below w.heap.size w w' := by
  by_cases hk : q.kind = 0
  · rw [show Ward.mayBe q = Ward.boxMay (Ward.window q) by simp [Ward.mayBe, hk]]
    obtain ⟨qk, qa, qb, qc, qd, qx, qy, qn⟩ := q
    simp only at hk
    subst hk
    generalize hW : Ward.window ⟨0, qa, qb, qc, qd, qx, qy, qn⟩ = W
    have HW := hide hW
    clear hW
    go_enter Tryz.func39, Tryz.ntmps39
    go_wp2_with fail
    refine (windowOf_any ⟨0, qa, qb, qc, qd, qx, qy, qn⟩ _).mono ?_
    rintro _ w1 ⟨rfl, hb1⟩
    rw [HW.out]
    have HB1 := hide hb1
    clear hb1
    go_wp2_with fail
    refine (boxMay_any W _).mono ?_
    rintro _ w2 ⟨rfl, hb2⟩
    have HB2 := hide hb2
    clear hb2
    go_wp2
    go_ret
    have h1 : Below w.heap.size w w1 := ((Below.refl w.heap.size w).alloc (Nat.le_refl _) _).trans (HB1.out.mono (by simp))
    exact ⟨rfl, h1.trans (HB2.out.mono h1.size)⟩
  · by_cases hk1 : q.kind = 1
    · obtain ⟨qk, qa, qb, qc, qd, qx, qy, qn⟩ := q
      simp only at hk hk1
      subst hk1
      clear hk
      by_cases h1 : -1000000 ≤ qx ∧ qx ≤ 1000000
      · by_cases h2 : -1000000 ≤ qy ∧ qy ≤ 1000000
        · by_cases h3 : 1 ≤ qn
          · by_cases h4 : qn ≤ 20
            · rw [show Ward.mayBe ⟨1, qa, qb, qc, qd, qx, qy, qn⟩ = true by rw [Ward.mayBe, if_neg (show ¬ (1 : Int) = 0 by decide), if_pos rfl]; rw [Ward.coord_yes h1, Ward.coord_yes h2, decide_eq_true h3, decide_eq_true h4]; rfl]
              have H1 := hide h1
              have H2 := hide h2
              clear h1 h2
              go_enter Tryz.func39, Tryz.ntmps39
              go_wp2_with (first | (go_at_call_of 32 (I qx); refine (isCoord_yes qx _ H1.out).mono ?_; rintro _ _ ⟨rfl, rfl⟩) | (go_at_call_of 32 (I qy); refine (isCoord_yes qy _ H2.out).mono ?_; rintro _ _ ⟨rfl, rfl⟩))
              go_ret
              exact ⟨rfl, (Below.refl w.heap.size w).alloc (Nat.le_refl _) _⟩
            · rw [show Ward.mayBe ⟨1, qa, qb, qc, qd, qx, qy, qn⟩ = false by rw [Ward.mayBe, if_neg (show ¬ (1 : Int) = 0 by decide), if_pos rfl]; rw [Ward.coord_yes h1, Ward.coord_yes h2, decide_eq_true h3, decide_eq_false h4]; rfl]
              have H1 := hide h1
              have H2 := hide h2
              clear h1 h2
              go_enter Tryz.func39, Tryz.ntmps39
              go_wp2_with (first | (go_at_call_of 32 (I qx); refine (isCoord_yes qx _ H1.out).mono ?_; rintro _ _ ⟨rfl, rfl⟩) | (go_at_call_of 32 (I qy); refine (isCoord_yes qy _ H2.out).mono ?_; rintro _ _ ⟨rfl, rfl⟩))
              go_ret
              exact ⟨congrArg (fun b => Ending.returned (Value.bool b)) (decide_eq_false (Int.not_le.2 h4)), (Below.refl w.heap.size w).alloc (Nat.le_refl _) _⟩
          · rw [show Ward.mayBe ⟨1, qa, qb, qc, qd, qx, qy, qn⟩ = false by rw [Ward.mayBe, if_neg (show ¬ (1 : Int) = 0 by decide), if_pos rfl]; rw [Ward.coord_yes h1, Ward.coord_yes h2, decide_eq_false h3]; rfl]
            have H1 := hide h1
            have H2 := hide h2
            clear h1 h2
            go_enter Tryz.func39, Tryz.ntmps39
            go_wp2_with (first | (go_at_call_of 32 (I qx); refine (isCoord_yes qx _ H1.out).mono ?_; rintro _ _ ⟨rfl, rfl⟩) | (go_at_call_of 32 (I qy); refine (isCoord_yes qy _ H2.out).mono ?_; rintro _ _ ⟨rfl, rfl⟩))
            go_ret
            exact ⟨rfl, (Below.refl w.heap.size w).alloc (Nat.le_refl _) _⟩
        · rw [show Ward.mayBe ⟨1, qa, qb, qc, qd, qx, qy, qn⟩ = false by rw [Ward.mayBe, if_neg (show ¬ (1 : Int) = 0 by decide), if_pos rfl]; rw [Ward.coord_yes h1, Ward.coord_no h2]; rfl]
          have H1 := hide h1
          have H2 := hide h2
          clear h1 h2
          go_enter Tryz.func39, Tryz.ntmps39
          go_wp2_with (first | (go_at_call_of 32 (I qx); refine (isCoord_yes qx _ H1.out).mono ?_; rintro _ _ ⟨rfl, rfl⟩) | (go_at_call_of 32 (I qy); refine (isCoord_no qy _ H2.out).mono ?_; rintro _ _ ⟨rfl, rfl⟩))
          go_ret
          exact ⟨rfl, (Below.refl w.heap.size w).alloc (Nat.le_refl _) _⟩
      · rw [show Ward.mayBe ⟨1, qa, qb, qc, qd, qx, qy, qn⟩ = false by rw [Ward.mayBe, if_neg (show ¬ (1 : Int) = 0 by decide), if_pos rfl]; rw [Ward.coord_no h1]; rfl]
        have H1 := hide h1
        clear h1
        go_enter Tryz.func39, Tryz.ntmps39
        go_wp2_with (first | (go_at_call_of 32 (I qx); refine (isCoord_no qx _ H1.out).mono ?_; rintro _ _ ⟨rfl, rfl⟩))
        go_ret
        exact ⟨rfl, (Below.refl w.heap.size w).alloc (Nat.le_refl _) _⟩
    · rw [show Ward.mayBe q = false by simp [Ward.mayBe, hk, hk1]]
      go_enter Tryz.func39, Tryz.ntmps39
      go_wp2
      go_ret
      exact ⟨rfl, (Below.refl w.heap.size w).alloc (Nat.le_refl _) _⟩
end Go.Proofs.YtenaelkbgkpllaaGreatDoor
/- What the boxes of a tree hold; the points of a window by the boxes; the nodes as what stands below them makes them. -/
namespace Go.Proofs.YtenaelkbgkpllaaGreatDoor
namespace Ward
theorem has_refl (b : Box) : b.has b := ⟨Int.le_refl _, Int.le_refl _, Int.le_refl _, Int.le_refl _⟩
theorem has_trans {a b c : Box} (h : a.has b) (k : b.has c) : a.has c := by
  obtain ⟨_, _, _, _⟩ := h
  obtain ⟨_, _, _, _⟩ := k
  exact ⟨by omega, by omega, by omega, by omega⟩
theorem join_left (a b : Box) : (join a b).has a := by
  refine ⟨?_, ?_, ?_, ?_⟩ <;> simp only [join] <;> omega
theorem join_right (a b : Box) : (join a b).has b := by
  refine ⟨?_, ?_, ?_, ?_⟩ <;> simp only [join] <;> omega
theorem fold_has_start : ∀ (l : List Box) (b : Box), (l.foldl join b).has b
  | [], b => has_refl b
  | c :: l, b => has_trans (fold_has_start l (join b c)) (join_left b c)
theorem fold_has : ∀ (l : List Box) (b : Box), ∀ c ∈ l, (l.foldl join b).has c
  | d :: l, b, c, hc => by
    rcases List.mem_cons.1 hc with rfl | hc
    · exact has_trans (fold_has_start l (join b c)) (join_right b c)
    · exact fold_has l (join b d) c hc
theorem boxL_has {l : List Box} {c : Box} (h : c ∈ l) : (boxL l).has c := fold_has l _ c h
theorem meets_mono {a b c : Box} (h : b.has c) (hm : meets a c = true) : meets a b = true := by
  obtain ⟨h1, h2, h3, h4⟩ := h
  simp only [meets, Bool.and_eq_true, decide_eq_true_eq] at hm ⊢
  omega
theorem all_mk (dig : List UInt8 → List UInt8) : ∀ (n : Nat) (t : T n), allN (n + 1) (mk dig n t) = pts n t
  | 0, l => by simp [allN, mk, pts]
  | n + 1, cs => by
    show [] ++ List.flatMap (allN (n + 1)) (List.map (mk dig n) cs) = List.flatMap (pts n) cs
    rw [List.nil_append, List.flatMap_map]
    exact flatMap_congr fun c _ => all_mk dig n c
theorem box_has : ∀ (n : Nat) (t : T n), ∀ p ∈ pts n t, (box n t).has (boxOf p)
  | 0, l, p, hp => boxL_has (List.mem_map_of_mem hp)
  | n + 1, cs, p, hp => by
    obtain ⟨c, hc, hp⟩ := List.mem_flatMap.1 hp
    exact has_trans (boxL_has (List.mem_map_of_mem hc)) (box_has n c p hp)
theorem encl_mk (dig : List UInt8 → List UInt8) : ∀ (n : Nat) (t : T n), Encl (n + 1) (mk dig n t)
  | 0, l => ⟨fun p hp => box_has 0 l p hp, fun c hc => by simp [mk] at hc⟩
  | n + 1, cs => by
    refine ⟨fun p hp => by simp [mk] at hp, fun c hc => ?_⟩
    obtain ⟨t, _, rfl⟩ := List.mem_map.1 (show c ∈ List.map (mk dig n) cs from hc)
    exact ⟨fun p hp => by rw [all_mk] at hp; rw [mk_box]; exact box_has n t p hp, encl_mk dig n t⟩
theorem filter_none {b : Box} {c : Box} {l : List Pt} (h : ∀ p ∈ l, c.has (boxOf p)) (hm : meets b c = false) : l.filter (inB b) = [] := by
  rw [List.filter_eq_nil_iff]
  intro p hp he
  have := meets_mono (h p hp) he
  rw [hm] at this
  cases this
theorem filter_flatMap {α : Type} (f : α → List Pt) (P : Pt → Bool) : ∀ (l : List α), (l.flatMap f).filter P = l.flatMap fun x => (f x).filter P
  | [] => rfl
  | x :: l => by rw [List.flatMap_cons, List.filter_append, filter_flatMap f P l, List.flatMap_cons]
/-- by the boxes no point of a window is passed by -/
theorem within_all {b : Box} : ∀ (n : Nat) (t : NT n), Encl n t → withinN b n t = (allN n t).filter (inB b)
  | 0, t, _ => nomatch t
  | n + 1, t, h => by
    show (Nd.pts t).filter (inB b) ++ ((Nd.kids t).flatMap fun c => if meets b (boxN n c) then withinN b n c else []) = (Nd.pts t ++ (Nd.kids t).flatMap (allN n)).filter (inB b)
    rw [List.filter_append, filter_flatMap]
    congr 1
    refine flatMap_congr fun c hc => ?_
    obtain ⟨h1, h2⟩ := h.2 c hc
    by_cases hm : meets b (boxN n c) = true
    · rw [if_pos hm, within_all n c h2]
    · have hm' : meets b (boxN n c) = false := by simpa using hm
      rw [if_neg hm, filter_none h1 hm']
theorem tree_encl (dig : List UInt8 → List UInt8) (L : List Pt) : Encl ((tree L).1 + 1) (mk dig (tree L).1 (tree L).2) := encl_mk dig _ _
theorem tree_all (dig : List UInt8 → List UInt8) {L : List Pt} (h : ∀ p ∈ L, p.Ok) : allN ((tree L).1 + 1) (mk dig (tree L).1 (tree L).2) = L := by
  rw [all_mk, (tree_small h).2]
/-- how many points lie below -/
theorem within_le (b : Box) : ∀ (n : Nat) (t : NT n), (withinN b n t).length ≤ (allN n t).length
  | 0, t => nomatch t
  | n + 1, t => by
    have key : ∀ (l : List (NT n)), (l.flatMap fun c => if meets b (boxN n c) then withinN b n c else []).length ≤ (l.flatMap (allN n)).length := by
      intro l
      induction l with
      | nil => simp
      | cons c l ih =>
        rw [List.flatMap_cons, List.flatMap_cons, List.length_append, List.length_append]
        have := within_le b n c
        have h1 : (if meets b (boxN n c) then withinN b n c else []).length ≤ (allN n c).length := by
          split
          · exact this
          · exact Nat.zero_le _
        omega
    show ((Nd.pts t).filter _ ++ ((Nd.kids t).flatMap fun c => if meets b (boxN n c) then withinN b n c else [])).length ≤ (Nd.pts t ++ (Nd.kids t).flatMap (allN n)).length
    rw [List.length_append, List.length_append]
    have h1 := List.length_filter_le (fun p => meets b (boxOf p)) (Nd.pts t)
    have h2 := key (Nd.kids t)
    omega
/-- at most four of each kind below every node -/
def Few : (n : Nat) → NT n → Prop
  | 0, t => nomatch t
  | n + 1, t => (Nd.pts t).length ≤ 4 ∧ (Nd.kids t).length ≤ 4 ∧ ∀ c ∈ Nd.kids t, Few n c
theorem few_mk (dig : List UInt8 → List UInt8) : ∀ (n : Nat) (t : T n), Small n t → Few (n + 1) (mk dig n t)
  | 0, _, h => ⟨h.1, by simp [mk], fun c hc => by simp [mk] at hc⟩
  | n + 1, cs, h => by
    refine ⟨by simp [mk], by show (List.map (mk dig n) cs).length ≤ 4; rw [List.length_map]; exact h.1, fun c hc => ?_⟩
    obtain ⟨t, ht, rfl⟩ := List.mem_map.1 (show c ∈ List.map (mk dig n) cs from hc)
    exact few_mk dig n t (h.2 t ht)
/-- what is said of the boxes of children lies within bounds -/
def InN : (n : Nat) → NT n → Prop
  | 0, t => nomatch t
  | n + 1, t => ∀ c ∈ Nd.kids t, (boxN n c).In ∧ InN n c
theorem in_mk (dig : List UInt8 → List UInt8) : ∀ (n : Nat) (t : T n), Small n t → InN (n + 1) (mk dig n t)
  | 0, _, _ => fun c hc => by simp [mk] at hc
  | n + 1, cs, h => fun c hc => by
    obtain ⟨t, ht, rfl⟩ := List.mem_map.1 (show c ∈ List.map (mk dig n) cs from hc)
    exact ⟨by rw [mk_box]; exact box_in n t (h.2 t ht), in_mk dig n t (h.2 t ht)⟩
end Ward
end Go.Proofs.YtenaelkbgkpllaaGreatDoor
/- A proof taken apart: the text's numbers, points, children, nodes. -/
namespace Go.Proofs.YtenaelkbgkpllaaGreatDoor
namespace Ward
theorem or_add {a b k : Nat} (ha : a % 2 ^ k = 0) (hb : b < 2 ^ k) : a ||| b = a + b := by
  have h : a = 2 ^ k * (a / 2 ^ k) := by
    have := Nat.div_add_mod a (2 ^ k)
    omega
  rw [h, ← Nat.two_pow_add_eq_or_of_lt hb]
/-- four bytes as a number -/
theorem word_add (l : List UInt8) (i : Nat) : Sha.word l i = Sha.byteAt l i * 16777216 + Sha.byteAt l (i + 1) * 65536 + Sha.byteAt l (i + 2) * 256 + Sha.byteAt l (i + 3) := by
  have h0 : Sha.byteAt l i < 256 := (l.getD i 0).toNat_lt
  have h1 : Sha.byteAt l (i + 1) < 256 := (l.getD (i + 1) 0).toNat_lt
  have h2 : Sha.byteAt l (i + 2) < 256 := (l.getD (i + 2) 0).toNat_lt
  have h3 : Sha.byteAt l (i + 3) < 256 := (l.getD (i + 3) 0).toNat_lt
  unfold Sha.word
  rw [or_add (a := Sha.byteAt l i * 16777216) (k := 24) (by omega) (by omega), or_add (a := Sha.byteAt l i * 16777216 + Sha.byteAt l (i + 1) * 65536) (k := 16) (by omega) (by omega), or_add (k := 8) (by omega) (by omega)]
theorem word_lt (l : List UInt8) (i : Nat) : Sha.word l i < 4294967296 := by
  have h0 : Sha.byteAt l i < 256 := (l.getD i 0).toNat_lt
  have h1 : Sha.byteAt l (i + 1) < 256 := (l.getD (i + 1) 0).toNat_lt
  have h2 : Sha.byteAt l (i + 2) < 256 := (l.getD (i + 2) 0).toNat_lt
  have h3 : Sha.byteAt l (i + 3) < 256 := (l.getD (i + 3) 0).toNat_lt
  rw [word_add]
  omega
/-- a number of 32 bits with a sign -/
def signed (n : Nat) : Int := if n < 2147483648 then n else (n : Int) - 4294967296
theorem signed_four {n : Int} (h1 : -1000000 ≤ n) (h2 : n ≤ 1000000) : signed (n % 4294967296).toNat = n := by
  unfold signed
  split <;> omega
/-- the number of that place -/
def numAt (l : List UInt8) (k : Nat) : Int := signed (Sha.word l (4 * k))
theorem byteAt_app {l m : List UInt8} {i : Nat} (h : i < l.length) : Sha.byteAt (l ++ m) i = Sha.byteAt l i := by
  unfold Sha.byteAt
  rw [List.getD_eq_getElem?_getD, List.getD_eq_getElem?_getD, List.getElem?_append_left h]
theorem byteAt_right {l m : List UInt8} {i : Nat} : Sha.byteAt (l ++ m) (l.length + i) = Sha.byteAt m i := by
  unfold Sha.byteAt
  rw [List.getD_eq_getElem?_getD, List.getD_eq_getElem?_getD, List.getElem?_append_right (by omega), Nat.add_sub_cancel_left]
theorem word_app {l m : List UInt8} {i : Nat} (h : i + 4 ≤ l.length) : Sha.word (l ++ m) i = Sha.word l i := by
  rw [word_add, word_add, byteAt_app (by omega), byteAt_app (by omega), byteAt_app (by omega), byteAt_app (by omega)]
theorem word_right {l m : List UInt8} {i : Nat} : Sha.word (l ++ m) (l.length + i) = Sha.word m i := by
  rw [word_add, word_add, show l.length + i + 1 = l.length + (i + 1) by omega, show l.length + i + 2 = l.length + (i + 2) by omega, show l.length + i + 3 = l.length + (i + 3) by omega, byteAt_right, byteAt_right, byteAt_right, byteAt_right]
theorem word_four {n : Nat} (h : n < 4294967296) : Sha.word (four n) 0 = n := by
  rw [word_add]
  show (UInt8.ofNat (n / 16777216)).toNat * 16777216 + (UInt8.ofNat (n / 65536)).toNat * 65536 + (UInt8.ofNat (n / 256)).toNat * 256 + (UInt8.ofNat n).toNat = n
  simp only [UInt8.toNat_ofNat']
  omega
theorem numAt_zero {n : Int} (m : List UInt8) (h1 : -1000000 ≤ n) (h2 : n ≤ 1000000) : numAt (fourI n ++ m) 0 = n := by
  unfold numAt
  rw [Nat.mul_zero, word_app (by rw [fourI_len]; decide)]
  unfold fourI
  rw [word_four (by omega), signed_four h1 h2]
theorem numAt_succ (n : Int) (m : List UInt8) (k : Nat) : numAt (fourI n ++ m) (k + 1) = numAt m k := by
  unfold numAt
  rw [show 4 * (k + 1) = (fourI n).length + 4 * k by rw [fourI_len]; omega, word_right]
/-- a word tells its four bytes -/
theorem four_word {a b c d : UInt8} (m : List UInt8) : four (Sha.word (a :: b :: c :: d :: m) 0) = [a, b, c, d] := by
  rw [word_add]
  show four (a.toNat * 16777216 + b.toNat * 65536 + c.toNat * 256 + d.toNat) = _
  have ha := a.toNat_lt
  have hb := b.toNat_lt
  have hc := c.toNat_lt
  have hd := d.toNat_lt
  have key : ∀ (x : UInt8) (n : Nat), n % 256 = x.toNat → UInt8.ofNat n = x := fun x n h => by
    apply UInt8.toNat_inj.1
    rw [UInt8.toNat_ofNat']
    exact h
  unfold four
  rw [key a _ (by omega), key b _ (by omega), key c _ (by omega), key d _ (by omega)]
theorem fourI_signed {n : Nat} (h : n < 4294967296) : fourI (signed n) = four n := by
  have h' : (signed n % 4294967296).toNat = n := by
    unfold signed
    by_cases h2 : n < 2147483648
    · rw [if_pos h2]; omega
    · rw [if_neg h2]; omega
  unfold fourI
  rw [h']
theorem fourI_numAt {a b c d : UInt8} (m : List UInt8) : fourI (numAt (a :: b :: c :: d :: m) 0) = [a, b, c, d] := by
  unfold numAt
  rw [Nat.mul_zero, fourI_signed (word_lt _ _), four_word]
theorem word_drop (l : List UInt8) (k : Nat) : Sha.word l k = Sha.word (l.drop k) 0 := by
  by_cases h : k ≤ l.length
  · have e := word_right (l := l.take k) (m := l.drop k) (i := 0)
    rw [List.take_append_drop, List.length_take, Nat.min_eq_left h] at e
    exact e
  · have e : l.drop k = [] := List.drop_eq_nil_of_le (by omega)
    rw [e, word_add, word_add]
    unfold Sha.byteAt
    simp only [List.getD_eq_getElem?_getD]
    rw [List.getElem?_eq_none (by omega), List.getElem?_eq_none (by omega), List.getElem?_eq_none (by omega), List.getElem?_eq_none (by omega)]
    rfl
theorem numAt_drop (l : List UInt8) (k : Nat) : numAt l k = numAt (l.drop (4 * k)) 0 := by
  unfold numAt
  rw [word_drop, Nat.mul_zero]
/-- the bytes of a number at a place -/
theorem fourI_at {l : List UInt8} {k : Nat} (h : 4 * k + 4 ≤ l.length) : fourI (numAt l k) = (l.drop (4 * k)).take 4 := by
  rw [numAt_drop]
  have hl : 4 ≤ (l.drop (4 * k)).length := by rw [List.length_drop]; omega
  generalize l.drop (4 * k) = m at *
  match m, hl with
  | a :: b :: c :: d :: m, _ => rw [fourI_numAt]; rfl
/-- what is still to be read, and the ids that were -/
abbrev Sta : Type := List UInt8 × List Int
def idOk (n : Int) : Bool := decide (1 ≤ n ∧ n ≤ 1000000)
/-- a point of a leaf -/
def rdPt (s : Sta) : Option (Pt × Sta) :=
  if s.1.length < 12 then none else
    let p : Pt := ⟨numAt s.1 0, numAt s.1 1, numAt s.1 2⟩
    if idOk p.id && !(s.2.contains p.id) && coordOk p.x && coordOk p.y then some (p, (s.1.drop 12, p.id :: s.2)) else none
/-- as many of a kind -/
def rdMany {α : Type} (rd : Sta → Option (α × Sta)) : Nat → Sta → Option (List α × Sta)
  | 0, s => some ([], s)
  | k + 1, s => match rd s with
    | none => none
    | some (x, s') => match rdMany rd k s' with
      | none => none
      | some (l, s'') => some (x :: l, s'')
/-- a node of nothing -/
def bareN (n : Nat) : NT (n + 1) := ⟨[], [], ⟨0, 0, 0, 0⟩, 0, List.replicate 32 0⟩
/-- what a node says of a child, of 52 bytes -/
def headN (n : Nat) (l : List UInt8) : NT (n + 1) := ⟨[], [], ⟨numAt l 0, numAt l 1, numAt l 2, numAt l 3⟩, numAt l 4, (l.drop 20).take 32⟩
/-- a child, behind it what is shown of it -/
def rdKid (n : Nat) (below : Sta → Option (NT (n + 1) × Sta)) (s : Sta) : Option (NT (n + 1) × Sta) :=
  if s.1.length < 53 then none else
    let c := headN n s.1
    if boxMay (Nd.box c) && decide (1 ≤ Nd.n c) && decide (Nd.n c ≤ 150) then
      if s.1.getD 52 0 = 0 then some (c, (s.1.drop 53, s.2))
      else if s.1.getD 52 0 = 1 then match below (s.1.drop 53, s.2) with
        | none => none
        | some (b, s') => some ({ c with pts := Nd.pts b, kids := Nd.kids b }, s')
      else none
    else none
/-- a leaf or a node, so many may lie within one another -/
def rdNode : (d : Nat) → (root : Bool) → Sta → Option (NT (d + 1) × Sta)
  | 0, _, _ => none
  | d + 1, root, s =>
    if s.1.length < 2 then none else
      let mark := s.1.getD 0 0
      let size := (s.1.getD 1 0).toNat
      let s' : Sta := (s.1.drop 2, s.2)
      if 4 < size then none
      else if mark = 1 ∧ (0 < size ∨ root = true) then match rdMany rdPt size s' with
        | none => none
        | some (l, s'') => some ({ bareN (d + 1) with pts := l }, s'')
      else if mark = 2 ∧ 0 < size then match rdMany (rdKid d (rdNode d false)) size s' with
        | none => none
        | some (l, s'') => some ({ bareN (d + 1) with kids := l }, s'')
      else none
/-- a node as what stands right below it makes it -/
def madeN : (n : Nat) → NT n → NT n
  | 0, t => nomatch t
  | n + 1, t => if (Nd.kids t).length = 0 then ⟨Nd.pts t, [], boxL ((Nd.pts t).map boxOf), ((Nd.pts t).length : Nat), Sha.sha (leafText (Nd.pts t))⟩ else ⟨[], Nd.kids t, boxL ((Nd.kids t).map (boxN n)), ((Nd.kids t).map (numN n)).sum, Sha.sha (textK n (Nd.kids t))⟩
/-- a proof taken apart -/
def parse (l : List UInt8) : Option (NT 7) := match rdNode 6 true (l, []) with
  | some (t, ([], _)) => some (madeN 7 t)
  | _ => none
def shownN : (n : Nat) → NT n → Bool
  | 0, t => nomatch t
  | _ + 1, t => decide (0 < (Nd.pts t).length + (Nd.kids t).length)
/-- it holds of every child and of those below them -/
def everyN (P : (n : Nat) → NT n → Bool) : (n : Nat) → NT n → Bool
  | 0, t => nomatch t
  | n + 1, t => (Nd.kids t).all fun c => P n c && everyN P n c
def boxEq (a b : Box) : Bool := decide (a.a = b.a ∧ a.b = b.b ∧ a.c = b.c ∧ a.d = b.d)
def boxHolds (n : Nat) (c : NT n) : Bool := !shownN n c || (boxEq (boxN n c) (boxN n (madeN n c)) && decide (numN n c = numN n (madeN n c)))
def digHolds (n : Nat) (c : NT n) : Bool := !shownN n c || decide (digN n c = digN n (madeN n c))
def lackN (q : Qr) (a : List Pt) (n : Nat) (c : NT n) : Bool := shownN n c || !must q a (boxN n c)
def wasteN (q : Qr) (a : List Pt) (n : Nat) (c : NT n) : Bool := !shownN n c || must q a (boxN n c)
/-- what Verify answers: the points, the error -/
def verify (root : List UInt8) (count : Int) (q : Qr) (s : List UInt8) : List Pt × Int :=
  if mayBe q = false then ([], 6) else match parse s with
  | none => ([], 7)
  | some t =>
    if everyN boxHolds 7 t = false then ([], 8)
    else if everyN digHolds 7 t = false ∨ ¬ (digN 7 t = root ∧ numN 7 t = count) then ([], 9)
    else if everyN (lackN q (ans q (allN 7 t))) 7 t = false then ([], 10)
    else if everyN (wasteN q (ans q (allN 7 t))) 7 t = false then ([], 11)
    else (ans q (allN 7 t), 0)
end Ward
end Go.Proofs.YtenaelkbgkpllaaGreatDoor
/- Digests once more, as the document's own answer works them out: the same numbers. -/
namespace Go.Proofs.YtenaelkbgkpllaaGreatDoor
namespace Sha
theorem maj_or (x y z : Nat) : ((x &&& y) ||| (x &&& z)) ||| (y &&& z) = maj x y z := by
  apply Nat.eq_of_testBit_eq
  intro i
  simp only [maj, Nat.testBit_or, Nat.testBit_and, Nat.testBit_xor]
  cases x.testBit i <;> cases y.testBit i <;> cases z.testBit i <;> rfl
theorem ch_or (x y z : Nat) (hx : x < 4294967296) : (x &&& y) ||| ((4294967295 ^^^ x) &&& z) = ch x y z := by
  apply Nat.eq_of_testBit_eq
  intro i
  simp only [ch, Nat.testBit_or, Nat.testBit_and, Nat.testBit_xor]
  by_cases hi : i < 32
  · have h : Nat.testBit 4294967295 i = true := by
      have := Nat.testBit_two_pow_sub_one 32 i
      rw [show (4294967295 : Nat) = 2 ^ 32 - 1 from rfl, this]
      exact decide_eq_true hi
    rw [h]
    cases x.testBit i <;> cases y.testBit i <;> cases z.testBit i <;> rfl
  · have h : x.testBit i = false := Nat.testBit_lt_two_pow (Nat.lt_of_lt_of_le hx (Nat.pow_le_pow_right (n := 2) (by decide) (show 32 ≤ i by omega)))
    rw [h]
    cases (Nat.testBit 4294967295 i) <;> cases y.testBit i <;> cases z.testBit i <;> rfl
theorem stirN_app (A B : List UInt8) (k : Nat) (hA : A.length = 64 * k) : ∀ (m : Nat) (s : St), stirN (A ++ B) (k + m) s = stirN B m (stirN A k s)
  | 0, s => by
    have key : ∀ j, j ≤ k → stirN (A ++ B) j s = stirN A j s := by
      intro j
      induction j with
      | zero => intro _; rfl
      | succ j ih =>
        intro hj
        show stir (stirN (A ++ B) j s) (((A ++ B).drop (64 * j)).take 64) = stir (stirN A j s) ((A.drop (64 * j)).take 64)
        rw [ih (by omega), List.drop_append_of_le_length (by omega), List.take_append_of_le_length (by rw [List.length_drop]; omega)]
    exact key k (Nat.le_refl _)
  | m + 1, s => by
    show stir (stirN (A ++ B) (k + m) s) (((A ++ B).drop (64 * (k + m))).take 64) = stir (stirN B m (stirN A k s)) ((B.drop (64 * m)).take 64)
    rw [stirN_app A B k hA m s, show 64 * (k + m) = A.length + 64 * m by omega, List.drop_append, List.drop_eq_nil_of_le (by omega), List.nil_append, Nat.add_sub_cancel_left]
theorem padding_length (n : Nat) : (padding n).length = 9 + (119 - n % 64) % 64 := by
  simp [padding, four]
  omega
/-- a text with what is put behind it -/
def padded (l : List UInt8) : List UInt8 := l ++ padding l.length
theorem padded_length (l : List UInt8) : (padded l).length = l.length + 9 + (119 - l.length % 64) % 64 := by
  simp [padded, padding_length]
  omega
theorem padded_mod (l : List UInt8) : (padded l).length % 64 = 0 := by
  rw [padded_length]
  omega
theorem state_padded (l : List UInt8) : stirN (padded l) ((padded l).length / 64) start = state l := by
  have h1 : padded l = l.take (whole l.length) ++ last l := by
    unfold padded last
    rw [← List.append_assoc, List.take_append_drop]
  have h2 : (l.take (whole l.length)).length = 64 * (l.length / 64) := by
    rw [List.length_take]
    unfold whole
    omega
  have h3 : (padded l).length / 64 = l.length / 64 + (last l).length / 64 := by
    rw [h1, List.length_append, h2]
    omega
  rw [h3, h1, stirN_app _ _ _ h2]
  rfl
theorem spread_take (l : List UInt8) (n : Nat) : ∀ m, n ≤ m → (spreadTo l m).take (16 + n) = spreadTo l n
  | 0, h => by
    have : n = 0 := by omega
    subst this
    rw [List.take_of_length_le (by rw [spreadTo_length]; omega)]
  | m + 1, h => by
    by_cases e : n = m + 1
    · subst e
      rw [List.take_of_length_le (by rw [spreadTo_length]; omega)]
    · show (spreadTo l m ++ [nextW (spreadTo l m) m]).take (16 + n) = _
      rw [List.take_append_of_le_length (by rw [spreadTo_length]; omega), spread_take l n m (by omega)]
theorem spread_get (l : List UInt8) (n j : Nat) (hn : n ≤ 48) (hj : j < 16 + n) : (spreadTo l n).getD j 0 = (spreadTo l 48).getD j 0 := by
  rw [← spread_take l n 48 hn, List.getD_eq_getElem?_getD, List.getD_eq_getElem?_getD, List.getElem?_take_of_lt hj]
theorem first_get (l : List UInt8) : ∀ (n j : Nat), j < n → (first l n).getD j 0 = word l (4 * j)
  | n + 1, j, h => by
    show (first l n ++ [word l (4 * n)]).getD j 0 = _
    by_cases e : j = n
    · subst e
      rw [List.getD_eq_getElem?_getD, List.getElem?_append_right (by rw [first_length]; omega), first_length, Nat.sub_self, List.getElem?_cons_zero, Option.getD_some]
    · rw [List.getD_eq_getElem?_getD, List.getElem?_append_left (by rw [first_length]; omega), ← List.getD_eq_getElem?_getD]
      exact first_get l n j (by omega)
theorem spread_low (l : List UInt8) (t : Nat) (h : t < 16) : (spreadTo l 48).getD t 0 = word l (4 * t) := by
  rw [← spread_get l 0 t (by omega) (by omega)]
  exact first_get l 16 t h
theorem spread_high (l : List UInt8) (n : Nat) (h : n < 48) : (spreadTo l 48).getD (n + 16) 0 = (((ss1 ((spreadTo l 48).getD (n + 14) 0) + (spreadTo l 48).getD (n + 9) 0) % 4294967296 + ss0 ((spreadTo l 48).getD (n + 1) 0)) % 4294967296 + (spreadTo l 48).getD n 0) % 4294967296 := by
  rw [← spread_get l (n + 1) (n + 16) (by omega) (by omega)]
  show (spreadTo l n ++ [nextW (spreadTo l n) n]).getD (n + 16) 0 = _
  rw [List.getD_eq_getElem?_getD, List.getElem?_append_right (by rw [spreadTo_length]; omega), spreadTo_length, show n + 16 - (16 + n) = 0 by omega, List.getElem?_cons_zero, Option.getD_some]
  unfold nextW
  rw [spread_get l n (n + 14) (by omega) (by omega), spread_get l n (n + 9) (by omega) (by omega), spread_get l n (n + 1) (by omega) (by omega), spread_get l n n (by omega) (by omega)]
theorem byteAt_part (l : List UInt8) (i k : Nat) (h : k < 64) : byteAt ((l.drop i).take 64) k = byteAt l (i + k) := by
  unfold byteAt
  rw [List.getD_eq_getElem?_getD, List.getD_eq_getElem?_getD, List.getElem?_take_of_lt h, List.getElem?_drop]
theorem word_part (l : List UInt8) (i k : Nat) (h : k + 4 ≤ 64) : word ((l.drop i).take 64) k = word l (i + k) := by
  unfold word
  rw [byteAt_part l i k (by omega), byteAt_part l i (k + 1) (by omega), byteAt_part l i (k + 2) (by omega), byteAt_part l i (k + 3) (by omega), ← Nat.add_assoc, ← Nat.add_assoc, ← Nat.add_assoc]
/-- the state moved on by a place, down to a place -/
def sh (l : List Nat) (k : Nat) : List Nat := [l.getD 0 0, if 1 ≤ k then l.getD 1 0 else l.getD 0 0, if 2 ≤ k then l.getD 2 0 else l.getD 1 0, if 3 ≤ k then l.getD 3 0 else l.getD 2 0, if 4 ≤ k then l.getD 4 0 else l.getD 3 0, if 5 ≤ k then l.getD 5 0 else l.getD 4 0, if 6 ≤ k then l.getD 6 0 else l.getD 5 0, if 7 ≤ k then l.getD 7 0 else l.getD 6 0]
theorem sh_step (a b c d e f g h : Nat) : ∀ k, 1 ≤ k → k ≤ 7 → (sh [a, b, c, d, e, f, g, h] k).set k ([a, b, c, d, e, f, g, h].getD (k - 1) 0) = sh [a, b, c, d, e, f, g, h] (k - 1)
  | 0, h, _ => absurd h (by omega)
  | 1, _, _ => rfl
  | 2, _, _ => rfl
  | 3, _, _ => rfl
  | 4, _, _ => rfl
  | 5, _, _ => rfl
  | 6, _, _ => rfl
  | 7, _, _ => rfl
  | k + 8, _, h => absurd h (by omega)
theorem sh_at (a b c d e f g h : Nat) : ∀ k, 1 ≤ k → k ≤ 7 → (sh [a, b, c, d, e, f, g, h] k)[k - 1]? = some ([a, b, c, d, e, f, g, h].getD (k - 1) 0)
  | 0, h, _ => absurd h (by omega)
  | 1, _, _ => rfl
  | 2, _, _ => rfl
  | 3, _, _ => rfl
  | 4, _, _ => rfl
  | 5, _, _ => rfl
  | 6, _, _ => rfl
  | 7, _, _ => rfl
  | k + 8, _, h => absurd h (by omega)
theorem sh_len (l : List Nat) (k : Nat) : (sh l k).length = 8 := rfl
theorem sh_first (a b c d e f g h : Nat) : sh [a, b, c, d, e, f, g, h] 7 = [a, b, c, d, e, f, g, h] := rfl
theorem sh_last (a b c d e f g h : Nat) : sh [a, b, c, d, e, f, g, h] 0 = [a, a, b, c, d, e, f, g] := rfl
end Sha
end Go.Proofs.YtenaelkbgkpllaaGreatDoor
/- The levels of a tree, one by one. -/
namespace Go.Proofs.YtenaelkbgkpllaaGreatDoor
namespace Ward
/-- the levels: the leaves first -/
def lev (L : List Pt) : (n : Nat) → List (T n)
  | 0 => leaves L
  | n + 1 => fours (lev L n)
/-- from this level on the tree is made -/
def Up (L : List Pt) (n : Nat) : Prop := ∃ k, (lev L n).length < k ∧ climb k n (lev L n) = tree L
theorem up_zero (L : List Pt) : Up L 0 := ⟨_, leaves_lt L, rfl⟩
theorem lev_ne (L : List Pt) : ∀ n, lev L n ≠ []
  | 0 => leaves_ne L
  | n + 1 => fun e => by
    have := congrArg List.length e
    have h : lev L n ≠ [] := lev_ne L n
    have hl : (lev L n).length ≠ 0 := fun e => h (List.length_eq_zero_iff.1 e)
    rw [lev, fours_length] at this
    simp at this
    omega
theorem up_succ {L : List Pt} {n : Nat} (h : Up L n) (hl : 1 < (lev L n).length) : Up L (n + 1) := by
  obtain ⟨k, hk, e⟩ := h
  match k, hk, e with
  | k + 1, hk, e =>
    rw [climb_more _ _ _ (by omega)] at e
    exact ⟨k, by rw [lev, fours_length]; omega, e⟩
theorem up_end {L : List Pt} {n : Nat} (h : Up L n) (hl : ¬ 1 < (lev L n).length) : ∃ t, lev L n = [t] ∧ tree L = ⟨n, t⟩ := by
  have h0 : (lev L n).length ≠ 0 := fun e => lev_ne L n (List.length_eq_zero_iff.1 e)
  obtain ⟨t, ht⟩ := List.length_eq_one_iff.1 (show (lev L n).length = 1 by omega)
  obtain ⟨k, hk, e⟩ := h
  match k, hk, e with
  | k + 1, hk, e =>
    refine ⟨t, ht, ?_⟩
    rw [← e, ht, climb_one]
theorem lev_small {L : List Pt} (h : ∀ p ∈ L, p.Ok) : ∀ n, ∀ t ∈ lev L n, Small n t
  | 0, t, ht => leaves_small h t ht
  | n + 1, t, ht => ⟨(fours_small (lev L n) t ht).1, fun c hc => lev_small h n c (fours_mem ht c hc)⟩
theorem lev_len (L : List Pt) (h : L.length ≤ 150) : ∀ n, (lev L n).length ≤ 38
  | 0 => by
    show (leaves L).length ≤ 38
    unfold leaves
    split
    · simp
    · rw [fours_length]; omega
  | n + 1 => by
    have := lev_len L h n
    rw [lev, fours_length]
    omega
end Ward
end Go.Proofs.YtenaelkbgkpllaaGreatDoor
/- The answer found point by point: one put in at its place; the nearest of what is left. -/
namespace Go.Proofs.YtenaelkbgkpllaaGreatDoor
namespace Ward
theorem sortP_snoc {l : List Pt} {p : Pt} {k : Nat} (hi : Ids (l ++ [p])) (hp : Parts p (sortP l) k) : sortP (l ++ [p]) = (sortP l).take k ++ p :: (sortP l).drop k := by
  rw [← hp.ins]
  have h1 : Ids l := ids_sub (List.sublist_append_left _ _) hi
  have h2 : ∀ q ∈ sortP l, q.id ≠ p.id := fun q hq => by
    have := (List.pairwise_append.1 hi).2.2 q ((sortP_perm l).mem_iff.1 hq) p (by simp)
    exact this
  refine sortP_eq (ins_sorted (sortP_sorted h1) h2) ?_ hi
  refine (ins_perm p (sortP l)).trans (((sortP_perm l).cons p).trans ?_)
  exact (List.perm_append_singleton p l).symm
theorem ids_index {l : List Pt} (h : Ids l) {i j : Nat} (hi : i < l.length) (hj : j < l.length) (e : l[i].id = l[j].id) : i = j := by
  have key := List.pairwise_iff_getElem.1 h
  rcases Nat.lt_trichotomy i j with h1 | h1 | h1
  · exact absurd e (key i j hi hj h1)
  · exact h1
  · exact absurd e.symm (key j i hj hi h1)
theorem sortN_length (x y : Int) (l : List Pt) : (sortN x y l).length = l.length := (sortN_perm x y l).length_eq
theorem near_next {x y : Int} {l : List Pt} {n : Nat} {p : Pt} (hi : Ids l) (hn : n < l.length) (hp : p ∈ l) (hno : p ∉ (sortN x y l).take n) (hb : ∀ q ∈ l, q ∉ (sortN x y l).take n → q = p ∨ nr x y p q) : (sortN x y l).take (n + 1) = (sortN x y l).take n ++ [p] := by
  have hs := sortN_sorted (x := x) (y := y) hi
  have hl : n < (sortN x y l).length := by rw [sortN_length]; exact hn
  have hpm : p ∈ sortN x y l := (sortN_perm x y l).mem_iff.2 hp
  have hmem := fun q => (sortN_perm x y l).mem_iff (a := q)
  generalize sortN x y l = S at *
  rw [List.take_succ_eq_append_getElem hl]
  congr 2
  have key := List.pairwise_iff_getElem.1 hs
  have h1 : S[n] ∉ S.take n := fun h => by
    obtain ⟨i, hi', e⟩ := List.getElem_of_mem h
    rw [List.length_take] at hi'
    rw [List.getElem_take] at e
    have := key i n (by omega) hl (by omega)
    rw [e] at this
    exact nr_irrefl x y _ this
  have h2 := hb S[n] ((hmem _).1 (List.getElem_mem hl)) h1
  obtain ⟨j, hj, e⟩ := List.getElem_of_mem hpm
  have h3 : n ≤ j := Nat.le_of_not_lt fun h => hno (by rw [← e]; exact List.mem_take_iff_getElem.2 ⟨j, by omega, rfl⟩)
  rcases Nat.lt_or_eq_of_le h3 with h4 | h4
  · have h5 := key n j hl hj h4
    rw [e] at h5
    rcases h2 with h2 | h2
    · exact h2
    · exact absurd (nr_trans h2 h5) (nr_irrefl x y p)
  · subst h4
    exact e
/-- the distance of a place from a box, worked out by cases -/
def offI (n lo hi : Int) : Int := if n < lo then lo - n else if hi < n then n - hi else 0
theorem off_gap {lo hi n : Int} (h : lo ≤ hi) : offI n lo hi = gap lo hi n := by
  unfold offI gap
  split
  · omega
  · split <;> omega
theorem sq_gap (a n : Int) : gap a a n * gap a a n = (a - n) * (a - n) := by
  unfold gap
  by_cases h : n ≤ a
  · rw [show max (max (a - n) 0) (n - a) = a - n by omega]
  · rw [show max (max (a - n) 0) (n - a) = -(a - n) by omega, Int.neg_mul_neg]
theorem distP_is (p : Pt) (x y : Int) : distP p x y = (p.x - x) * (p.x - x) + (p.y - y) * (p.y - y) := by
  unfold distP dist boxOf
  rw [sq_gap, sq_gap]
end Ward
end Go.Proofs.YtenaelkbgkpllaaGreatDoor
/- The document's small functions: coordinates, the order, numbers as bytes, boxes, turning. -/
namespace Go.Proofs.YtenaelkbgkpllaaGreatDoor
open Go.RowKit

theorem Tryz.infoRBox : (Tryz.prog.info? 148).map (·.size) = some 4 := by kernel_rfl
set_option maxHeartbeats 400000 in
theorem coord_ref (n : Int) (w : World) :
    Calls Tryz.prog 91 #[I n] w fun e w' => e = .returned (.bool (Ward.coordOk n)) ∧ w' = w := by
  by_cases h1 : -1000000 ≤ n
  · by_cases h2 : n ≤ 1000000
    · rw [Ward.coord_yes ⟨h1, h2⟩]
      go_enter Tryz.func91, Tryz.ntmps91
      go_wp2
      go_ret
      exact ⟨rfl, rfl⟩
    · rw [Ward.coord_no (fun h => h2 h.2)]
      go_enter Tryz.func91, Tryz.ntmps91
      go_wp2
      go_ret
      exact ⟨rfl, rfl⟩
  · rw [Ward.coord_no (fun h => h1 h.1)]
    go_enter Tryz.func91, Tryz.ntmps91
    go_wp2
    go_ret
    exact ⟨rfl, rfl⟩
set_option maxHeartbeats 1000000 in
theorem before_ref (p q : Ward.Pt) (w : World) :
    Calls Tryz.prog 93 #[.agg #[I p.id, I p.x, I p.y], .agg #[I q.id, I q.x, I q.y]] w fun e w' => e = .returned (.bool (decide (Ward.lt p q))) ∧ Below w.heap.size w w' := by
  obtain ⟨pi, px, py⟩ := p
  obtain ⟨qi, qx, qy⟩ := q
  have HB := hide (fun a b => (((Below.refl w.heap.size w).alloc (Nat.le_refl _) a).alloc (by simp) b))
  by_cases h1 : px = qx
  · by_cases h2 : py = qy
    · by_cases h3 : pi < qi
      · rw [decide_eq_true (show Ward.lt ⟨pi, px, py⟩ ⟨qi, qx, qy⟩ by unfold Ward.lt; simp only; omega)]
        go_enter Tryz.func93, Tryz.ntmps93
        go_wp2
        go_ret
        exact ⟨rfl, HB.out _ _⟩
      · rw [decide_eq_false (show ¬ Ward.lt ⟨pi, px, py⟩ ⟨qi, qx, qy⟩ by unfold Ward.lt; simp only; omega)]
        go_enter Tryz.func93, Tryz.ntmps93
        go_wp2
        go_ret
        exact ⟨rfl, HB.out _ _⟩
    · by_cases h3 : py < qy
      · rw [decide_eq_true (show Ward.lt ⟨pi, px, py⟩ ⟨qi, qx, qy⟩ by unfold Ward.lt; simp only; omega)]
        go_enter Tryz.func93, Tryz.ntmps93
        go_wp2
        go_ret
        exact ⟨rfl, HB.out _ _⟩
      · rw [decide_eq_false (show ¬ Ward.lt ⟨pi, px, py⟩ ⟨qi, qx, qy⟩ by unfold Ward.lt; simp only; omega)]
        go_enter Tryz.func93, Tryz.ntmps93
        go_wp2
        go_ret
        exact ⟨rfl, HB.out _ _⟩
  · by_cases h3 : px < qx
    · rw [decide_eq_true (show Ward.lt ⟨pi, px, py⟩ ⟨qi, qx, qy⟩ by unfold Ward.lt; simp only; omega)]
      go_enter Tryz.func93, Tryz.ntmps93
      go_wp2
      go_ret
      exact ⟨rfl, HB.out _ _⟩
    · rw [decide_eq_false (show ¬ Ward.lt ⟨pi, px, py⟩ ⟨qi, qx, qy⟩ by unfold Ward.lt; simp only; omega)]
      go_enter Tryz.func93, Tryz.ntmps93
      go_wp2
      go_ret
      exact ⟨rfl, HB.out _ _⟩
set_option maxHeartbeats 400000 in
theorem four_ref (n : Nat) (w : World) (hn : n < 4294967296) :
    Calls Tryz.prog 130 #[.int .u32 n] w fun e w' => e = .returned (Sv (Ward.four n)) ∧ Below w.heap.size w w' := by
  have HV := hide (four_values n hn)
  have hc := conv_bytes w.heap.size 4 4 (Sha.four n) rfl (w.alloc (.cells ((Sha.four n).map Y).toArray 5)) (fun j u hj => by
    rw [Nat.zero_add, cell_of_row _ _ _ _ _ _ (heap_alloc_new w _), List.getElem?_toArray]
    exact hj)
  rw [← HV.out] at hc
  have HB := hide (fun a => ((Below.refl w.heap.size w).alloc (Nat.le_refl _) a))
  have HF := hide (show Sha.four n = Ward.four n from rfl)
  generalize Sha.four n = F at *
  go_enter Tryz.func130, Tryz.ntmps130
  go_wp2
  go_ret
  exact ⟨by rw [HF.out]; rfl, HB.out _⟩
set_option maxHeartbeats 400000 in
theorem signed_ref (n : Int) (w : World) :
    Calls Tryz.prog 137 #[I n] w fun e w' => e = .returned (Sv (Ward.fourI n)) ∧ Below w.heap.size w w' := by
  obtain ⟨m, h0, hm, he⟩ : ∃ m : Nat, n % 4294967296 = (m : Int) ∧ m < 4294967296 ∧ Ward.fourI n = Ward.four m := ⟨(n % 4294967296).toNat, by omega, by omega, rfl⟩
  have HE := hide he
  clear he
  go_enter Tryz.func137, Tryz.ntmps137
  go_wp2_with fail
  refine (four_ref m _ hm).mono ?_
  rintro e w1 ⟨rfl, hb⟩
  go_wp2_with fail
  go_ret
  exact ⟨by rw [HE.out]; rfl, hb⟩
set_option maxHeartbeats 1000000 in
theorem both_ref (p q : Ward.Box) (w : World) :
    Calls Tryz.prog 135 #[Bx p, Bx q] w fun e w' => e = .returned (Bx (Ward.join p q)) ∧ Below w.heap.size w w' := by
  obtain ⟨pa, pb, pc, pd⟩ := p
  obtain ⟨qa, qb, qc, qd⟩ := q
  go_enter Tryz.func135, Tryz.ntmps135
  go_wp2
  refine bodyPost_ret (v := .agg #[I (min pa qa), I (min pb qb), I (max pc qc), I (max pd qd)]) ?_ rfl ⟨rfl, (((Below.refl w.heap.size w).alloc (Nat.le_refl _) _).alloc (by simp) _).alloc (by simp; omega) _⟩
  exact results_cell_row rfl _ _ (w.heap.size + 1 + 1) 148 #[I (min pa qa), I (min pb qb), I (max pc qc), I (max pd qd)] (0, 0) _ rfl (heap_alloc3_new w _ _ _) Tryz.underlying148 rfl Tryz.infoRBox
set_option maxHeartbeats 400000 in
theorem rturn2 (x : Nat) (w : World) (hx : x < 4294967296) :
    Calls Tryz.prog 159 #[.int .u32 x, .int .i64 2] w fun e w' => e = .returned (.int .u32 (Sha.ror 2 x : Nat)) ∧ ∃ n, w' = w.drewN n := by
  go_enter Tryz.func159, Tryz.ntmps159
  go_wp2
  go_quiet (fail)
  go_wp2
  go_ret
  refine ⟨ret_u32 ?_, nq, rfl⟩
  rw [Sha.ror, Nat.or_comm]
  exact or32 (x / 4) (x * 1073741824 % 4294967296) (by omega) (by omega) (Sha.div_lt hx) (Nat.mod_lt _ (by decide))
set_option maxHeartbeats 400000 in
theorem rturn6 (x : Nat) (w : World) (hx : x < 4294967296) :
    Calls Tryz.prog 159 #[.int .u32 x, .int .i64 6] w fun e w' => e = .returned (.int .u32 (Sha.ror 6 x : Nat)) ∧ ∃ n, w' = w.drewN n := by
  go_enter Tryz.func159, Tryz.ntmps159
  go_wp2
  go_quiet (fail)
  go_wp2
  go_ret
  refine ⟨ret_u32 ?_, nq, rfl⟩
  rw [Sha.ror, Nat.or_comm]
  exact or32 (x / 64) (x * 67108864 % 4294967296) (by omega) (by omega) (Sha.div_lt hx) (Nat.mod_lt _ (by decide))
set_option maxHeartbeats 400000 in
theorem rturn7 (x : Nat) (w : World) (hx : x < 4294967296) :
    Calls Tryz.prog 159 #[.int .u32 x, .int .i64 7] w fun e w' => e = .returned (.int .u32 (Sha.ror 7 x : Nat)) ∧ ∃ n, w' = w.drewN n := by
  go_enter Tryz.func159, Tryz.ntmps159
  go_wp2
  go_quiet (fail)
  go_wp2
  go_ret
  refine ⟨ret_u32 ?_, nq, rfl⟩
  rw [Sha.ror, Nat.or_comm]
  exact or32 (x / 128) (x * 33554432 % 4294967296) (by omega) (by omega) (Sha.div_lt hx) (Nat.mod_lt _ (by decide))
set_option maxHeartbeats 400000 in
theorem rturn11 (x : Nat) (w : World) (hx : x < 4294967296) :
    Calls Tryz.prog 159 #[.int .u32 x, .int .i64 11] w fun e w' => e = .returned (.int .u32 (Sha.ror 11 x : Nat)) ∧ ∃ n, w' = w.drewN n := by
  go_enter Tryz.func159, Tryz.ntmps159
  go_wp2
  go_quiet (fail)
  go_wp2
  go_ret
  refine ⟨ret_u32 ?_, nq, rfl⟩
  rw [Sha.ror, Nat.or_comm]
  exact or32 (x / 2048) (x * 2097152 % 4294967296) (by omega) (by omega) (Sha.div_lt hx) (Nat.mod_lt _ (by decide))
set_option maxHeartbeats 400000 in
theorem rturn13 (x : Nat) (w : World) (hx : x < 4294967296) :
    Calls Tryz.prog 159 #[.int .u32 x, .int .i64 13] w fun e w' => e = .returned (.int .u32 (Sha.ror 13 x : Nat)) ∧ ∃ n, w' = w.drewN n := by
  go_enter Tryz.func159, Tryz.ntmps159
  go_wp2
  go_quiet (fail)
  go_wp2
  go_ret
  refine ⟨ret_u32 ?_, nq, rfl⟩
  rw [Sha.ror, Nat.or_comm]
  exact or32 (x / 8192) (x * 524288 % 4294967296) (by omega) (by omega) (Sha.div_lt hx) (Nat.mod_lt _ (by decide))
set_option maxHeartbeats 400000 in
theorem rturn17 (x : Nat) (w : World) (hx : x < 4294967296) :
    Calls Tryz.prog 159 #[.int .u32 x, .int .i64 17] w fun e w' => e = .returned (.int .u32 (Sha.ror 17 x : Nat)) ∧ ∃ n, w' = w.drewN n := by
  go_enter Tryz.func159, Tryz.ntmps159
  go_wp2
  go_quiet (fail)
  go_wp2
  go_ret
  refine ⟨ret_u32 ?_, nq, rfl⟩
  rw [Sha.ror, Nat.or_comm]
  exact or32 (x / 131072) (x * 32768 % 4294967296) (by omega) (by omega) (Sha.div_lt hx) (Nat.mod_lt _ (by decide))
set_option maxHeartbeats 400000 in
theorem rturn18 (x : Nat) (w : World) (hx : x < 4294967296) :
    Calls Tryz.prog 159 #[.int .u32 x, .int .i64 18] w fun e w' => e = .returned (.int .u32 (Sha.ror 18 x : Nat)) ∧ ∃ n, w' = w.drewN n := by
  go_enter Tryz.func159, Tryz.ntmps159
  go_wp2
  go_quiet (fail)
  go_wp2
  go_ret
  refine ⟨ret_u32 ?_, nq, rfl⟩
  rw [Sha.ror, Nat.or_comm]
  exact or32 (x / 262144) (x * 16384 % 4294967296) (by omega) (by omega) (Sha.div_lt hx) (Nat.mod_lt _ (by decide))
set_option maxHeartbeats 400000 in
theorem rturn19 (x : Nat) (w : World) (hx : x < 4294967296) :
    Calls Tryz.prog 159 #[.int .u32 x, .int .i64 19] w fun e w' => e = .returned (.int .u32 (Sha.ror 19 x : Nat)) ∧ ∃ n, w' = w.drewN n := by
  go_enter Tryz.func159, Tryz.ntmps159
  go_wp2
  go_quiet (fail)
  go_wp2
  go_ret
  refine ⟨ret_u32 ?_, nq, rfl⟩
  rw [Sha.ror, Nat.or_comm]
  exact or32 (x / 524288) (x * 8192 % 4294967296) (by omega) (by omega) (Sha.div_lt hx) (Nat.mod_lt _ (by decide))
set_option maxHeartbeats 400000 in
theorem rturn22 (x : Nat) (w : World) (hx : x < 4294967296) :
    Calls Tryz.prog 159 #[.int .u32 x, .int .i64 22] w fun e w' => e = .returned (.int .u32 (Sha.ror 22 x : Nat)) ∧ ∃ n, w' = w.drewN n := by
  go_enter Tryz.func159, Tryz.ntmps159
  go_wp2
  go_quiet (fail)
  go_wp2
  go_ret
  refine ⟨ret_u32 ?_, nq, rfl⟩
  rw [Sha.ror, Nat.or_comm]
  exact or32 (x / 4194304) (x * 1024 % 4294967296) (by omega) (by omega) (Sha.div_lt hx) (Nat.mod_lt _ (by decide))
set_option maxHeartbeats 400000 in
theorem rturn25 (x : Nat) (w : World) (hx : x < 4294967296) :
    Calls Tryz.prog 159 #[.int .u32 x, .int .i64 25] w fun e w' => e = .returned (.int .u32 (Sha.ror 25 x : Nat)) ∧ ∃ n, w' = w.drewN n := by
  go_enter Tryz.func159, Tryz.ntmps159
  go_wp2
  go_quiet (fail)
  go_wp2
  go_ret
  refine ⟨ret_u32 ?_, nq, rfl⟩
  rw [Sha.ror, Nat.or_comm]
  exact or32 (x / 33554432) (x * 128 % 4294967296) (by omega) (by omega) (Sha.div_lt hx) (Nat.mod_lt _ (by decide))
set_option maxHeartbeats 800000 in
theorem number_ref (s : ByteArray) (k : Nat) (w : World) (hk : k + 4 ≤ s.size) (hs : s.size ≤ maxLen) :
    Calls Tryz.prog 158 #[.string s, .int .i64 k] w fun e w' => e = .returned (.int .u32 (Sha.word s.data.toList k : Nat)) ∧ ∃ n, w' = w.drewN n := by
  unfold maxLen at hs
  have i0 := idx_str s k k rfl (by omega)
  have i1 := idx_str s (k + 1) (k + 1) rfl (by omega)
  have i2 := idx_str s (k + 2) (k + 2) rfl (by omega)
  have i3 := idx_str s (k + 3) (k + 3) rfl (by omega)
  have b0 := Sha.byteAt_lt s.data.toList k
  have b1 := Sha.byteAt_lt s.data.toList (k + 1)
  have b2 := Sha.byteAt_lt s.data.toList (k + 2)
  have b3 := Sha.byteAt_lt s.data.toList (k + 3)
  have HW := hide (Ward.word_add s.data.toList k)
  generalize Sha.word s.data.toList k = W at *
  generalize Sha.byteAt s.data.toList k = B0 at *
  generalize Sha.byteAt s.data.toList (k + 1) = B1 at *
  generalize Sha.byteAt s.data.toList (k + 2) = B2 at *
  generalize Sha.byteAt s.data.toList (k + 3) = B3 at *
  go_enter Tryz.func158, Tryz.ntmps158
  go_wp2
  go_quiet (fail)
  go_wp2
  go_ret
  refine ⟨ret_u32 ?_, nq, rfl⟩
  rw [HW.out]
  omega
end Go.Proofs.YtenaelkbgkpllaaGreatDoor
/- The levels: how much they hold. -/
namespace Go.Proofs.YtenaelkbgkpllaaGreatDoor
namespace Ward
theorem lev_pts (L : List Pt) : ∀ n, ptsL n (lev L n) = L
  | 0 => leaves_pts L
  | n + 1 => by
    have h := lev_pts L n
    show List.flatMap (pts (n + 1)) (fours (lev L n)) = L
    have h2 : List.flatMap (pts (n + 1)) (fours (lev L n)) = List.flatMap (pts n) (fours (lev L n)).flatten := by
      rw [List.flatten_eq_flatMap, List.flatMap_assoc]
      rfl
    rw [h2, fours_flat]
    exact h
theorem flatMap_mem_le {α β : Type} (f : α → List β) : ∀ (l : List α) (x : α), x ∈ l → (f x).length ≤ (l.flatMap f).length
  | a :: l, x, h => by
    rw [List.flatMap_cons, List.length_append]
    rcases List.mem_cons.1 h with rfl | h
    · omega
    · have := flatMap_mem_le f l x h; omega
theorem lev_count (L : List Pt) (n : Nat) (t : T n) (h : t ∈ lev L n) : count n t ≤ L.length := by
  rw [count_pts]
  have h1 := flatMap_mem_le (pts n) (lev L n) t h
  have h2 := congrArg List.length (lev_pts L n)
  unfold ptsL at h2
  omega
theorem sum_take_le : ∀ (l : List Nat) (q : Nat), (l.take q).sum ≤ l.sum
  | _, 0 => by simp
  | [], _ + 1 => by simp
  | a :: l, q + 1 => by
    have := sum_take_le l q
    rw [List.take_succ_cons, List.sum_cons, List.sum_cons]; omega
theorem text_small {dig : List UInt8 → List UInt8} (hd : ∀ l, (dig l).length = 32) : ∀ (n : Nat) (t : T n), Small n t → (text dig n t).length ≤ 210
  | 0, l, h => by
    have : (text dig 0 l).length = 2 + 12 * List.length (l : List Pt) := by
      show (leafText l).length = _
      simp only [leafText, List.length_cons]
      rw [pts_len]; omega
    have := h.1
    omega
  | n + 1, cs, h => by
    rw [text_succ]
    have key : ∀ (l : List (T n)), (List.flatMap (head dig n) l).length = 52 * l.length := by
      intro l
      induction l with
      | nil => simp
      | cons c l ih =>
        rw [List.flatMap_cons, List.length_append, head_len hd, ih, List.length_cons]; omega
    have h1 := h.1
    simp only [List.length_cons]
    rw [key]
    omega
end Ward
end Go.Proofs.YtenaelkbgkpllaaGreatDoor
/- A proof, child by child, as the document's own text has it. -/
namespace Go.Proofs.YtenaelkbgkpllaaGreatDoor
namespace Ward
variable (dig : List UInt8 → List UInt8) (must : Box → Bool)
/-- what a proof has of one child -/
def showK (n : Nat) (c : T n) : List UInt8 := head dig n c ++ (if must (box n c) then 1 :: proof dig must n c else [0])
theorem proof_succ (n : Nat) (cs : List (T n)) : proof dig must (n + 1) cs = 2 :: UInt8.ofNat cs.length :: cs.flatMap (showK dig must n) := rfl
theorem proof_zero (l : List Pt) : proof dig must 0 l = text dig 0 l := rfl
theorem take_flat {α β : Type} (f : α → List β) (l : List α) (k : Nat) (h : k < l.length) : (l.take (k + 1)).flatMap f = (l.take k).flatMap f ++ f l[k] := by
  rw [List.take_succ_eq_append_getElem h, List.flatMap_append, List.flatMap_singleton]
theorem flat_fixed {α β : Type} (f : α → List β) (s : Nat) (l : List α) (h : ∀ x ∈ l, (f x).length = s) (k : Nat) (hk : k < l.length) : ((l.flatMap f).drop (s * k)).take s = f l[k] := by
  induction l generalizing k with
  | nil => simp at hk
  | cons a l ih =>
    have ha : (f a).length = s := h a (List.mem_cons_self ..)
    rw [List.flatMap_cons]
    cases k with
    | zero => simp [← ha]
    | succ k =>
      rw [show s * (k + 1) = (f a).length + s * k by rw [ha, Nat.mul_succ]; omega, List.drop_append]
      simp only [Nat.add_sub_cancel_left, List.drop_eq_nil_of_le (Nat.le_add_right (f a).length _), List.nil_append]
      exact ih (fun x hx => h x (List.mem_cons_of_mem _ hx)) k (by simpa using hk)
theorem flat_fix_len {α β : Type} (f : α → List β) (s : Nat) (l : List α) (h : ∀ x ∈ l, (f x).length = s) : (l.flatMap f).length = s * l.length := by
  induction l with
  | nil => simp
  | cons a l ih => rw [List.flatMap_cons, List.length_append, ih (fun x hx => h x (List.mem_cons_of_mem _ hx)), h a (List.mem_cons_self ..), List.length_cons, Nat.mul_succ]; omega
variable {dig}
theorem text_len (hd : ∀ l, (dig l).length = 32) (n : Nat) (cs : List (T n)) : (text dig (n + 1) cs).length = 2 + 52 * cs.length := by
  rw [text_succ]
  simp only [List.length_cons]
  rw [flat_fix_len _ 52 cs (fun c _ => head_len hd n c)]
  omega
theorem text_two (n : Nat) (cs : List (T n)) : (text dig (n + 1) cs).take 2 = [2, UInt8.ofNat cs.length] := rfl
theorem text_head (hd : ∀ l, (dig l).length = 32) (n : Nat) (cs : List (T n)) (k : Nat) (h : k < cs.length) : ((text dig (n + 1) cs).drop (2 + 52 * k)).take 52 = head dig n cs[k] := by
  rw [text_succ, show 2 + 52 * k = 52 * k + 1 + 1 by omega, List.drop_succ_cons, List.drop_succ_cons]
  exact flat_fixed _ 52 cs (fun c _ => head_len hd n c) k h
theorem lev_kids (K : List Pt) (n i : Nat) (h : i < (lev K (n + 1)).length) : (lev K (n + 1))[i] = ((lev K n).drop (4 * i)).take 4 := fours_get (lev K n) i h
theorem lev_few (K : List Pt) (n i : Nat) (h : i < (lev K (n + 1)).length) : List.length ((lev K (n + 1))[i] : List (T n)) ≤ 4 ∧ 4 * i + List.length ((lev K (n + 1))[i] : List (T n)) ≤ (lev K n).length := by
  have e := lev_kids K n i h
  have h' : i < ((lev K n).length + 3) / 4 := by
    have := h
    rw [lev, fours_length] at this
    exact this
  rw [e]
  simp only [List.length_take, List.length_drop]
  omega
theorem lev_kid (K : List Pt) (n i k : Nat) (h : i < (lev K (n + 1)).length) (hk : k < List.length ((lev K (n + 1))[i] : List (T n))) (hj : 4 * i + k < (lev K n).length) : ((lev K (n + 1))[i] : List (T n))[k] = (lev K n)[4 * i + k] := by
  have e := lev_kids K n i h
  have : ∀ (x : List (T n)) (hx : k < x.length), x = ((lev K n).drop (4 * i)).take 4 → x[k] = (lev K n)[4 * i + k] := by
    intro x hx ex
    subst ex
    simp [List.getElem_take, List.getElem_drop]
  exact this _ hk e
/-- how long a proof is -/
theorem proof_len (hd : ∀ l, (dig l).length = 32) : ∀ (n : Nat) (t : T n), Small n t → (proof dig must n t).length ≤ 300 * 5 ^ n
  | 0, l, h => by
    have h1 := text_small hd 0 l h
    rw [proof_zero]
    omega
  | n + 1, cs, h => by
    rw [proof_succ]
    have h4 : List.length (cs : List (T n)) ≤ 4 := h.1
    have hall : ∀ c ∈ (cs : List (T n)), (showK dig must n c).length ≤ 53 + 300 * 5 ^ n := fun c hc => by
      have ih := proof_len hd n c (h.2 c hc)
      unfold showK
      rw [List.length_append, head_len hd]
      split
      · rw [List.length_cons]; omega
      · simp
    have key : ∀ (l : List (T n)), (∀ c ∈ l, (showK dig must n c).length ≤ 53 + 300 * 5 ^ n) → (l.flatMap (showK dig must n)).length ≤ l.length * (53 + 300 * 5 ^ n) := by
      intro l hl
      induction l with
      | nil => simp
      | cons a l ih =>
        rw [List.flatMap_cons, List.length_append, List.length_cons, Nat.succ_mul]
        have := hl a (List.mem_cons_self ..)
        have := ih (fun c hc => hl c (List.mem_cons_of_mem _ hc))
        omega
    have h2 := key cs hall
    have h3 : List.length (cs : List (T n)) * (53 + 300 * 5 ^ n) ≤ 4 * (53 + 300 * 5 ^ n) := Nat.mul_le_mul_right _ h4
    have h5 : 1 ≤ 5 ^ n := Nat.one_le_pow n 5 (by decide)
    simp only [List.length_cons]
    rw [Nat.pow_succ]
    omega
end Ward
end Go.Proofs.YtenaelkbgkpllaaGreatDoor
/- The document's May, off, distance, far. -/
namespace Go.Proofs.YtenaelkbgkpllaaGreatDoor
open Go.RowKit

theorem may_eq (q : Ward.Qr) : Ward.mayBe q = (if q.kind = 0 then ((Ward.coordOk q.a && Ward.coordOk q.b && Ward.coordOk q.c && Ward.coordOk q.d) && decide (q.a ≤ q.c) && decide (q.b ≤ q.d)) else if q.kind = 1 then ((Ward.coordOk q.x && Ward.coordOk q.y) && decide (1 ≤ q.k) && decide (q.k ≤ 20)) else false) := rfl
set_option maxRecDepth 100000 in
set_option maxHeartbeats 4000000 in
theorem may_ref (q : Ward.Qr) (w : World) :
    Calls Tryz.prog 101 #[Qv q] w fun e w' => e = .returned (.bool (Ward.mayBe q)) ∧ Below w.heap.size w w' := by
  have HM := hide (may_eq q)
  have HAR := hide (coord_ref q.a)
  have HBR := hide (coord_ref q.b)
  have HCR := hide (coord_ref q.c)
  have HDR := hide (coord_ref q.d)
  have HXR := hide (coord_ref q.x)
  have HYR := hide (coord_ref q.y)
  have HB0 := hide (fun o => (Below.refl w.heap.size w).alloc (Nat.le_refl _) o)
  generalize Ward.mayBe q = res at *
  generalize Ward.coordOk q.a = ca at *
  generalize Ward.coordOk q.b = cb at *
  generalize Ward.coordOk q.c = cc at *
  generalize Ward.coordOk q.d = cd at *
  generalize Ward.coordOk q.x = cx at *
  generalize Ward.coordOk q.y = cy at *
  obtain ⟨kd, qa, qb, qc, qd, qx, qy, qk⟩ := q
  go_enter Tryz.func101, Tryz.ntmps101
  go_upto_region 1 with fail
  have hc0 := fun i => cell_of_row (w.alloc (.cells #[I kd, I qa, I qb, I qc, I qd, I qx, I qy, I qk] 46)) w.heap.size i #[I kd, I qa, I qb, I qc, I qd, I qx, I qy, I qk] 46 (0, 0) (heap_alloc_new w _)
  have hbl := HB0.out (.cells #[I kd, I qa, I qb, I qc, I qd, I qx, I qy, I qk] 46)
  generalize w.alloc (.cells #[I kd, I qa, I qb, I qc, I qd, I qx, I qy, I qk] 46) = w1 at hc0 hbl ⊢
  have c0 : w1.cell? ⟨w.heap.size, 0, none⟩ = some (I kd) := hc0 0
  have c1 : w1.cell? ⟨w.heap.size, 1, none⟩ = some (I qa) := hc0 1
  have c2 : w1.cell? ⟨w.heap.size, 2, none⟩ = some (I qb) := hc0 2
  have c3 : w1.cell? ⟨w.heap.size, 3, none⟩ = some (I qc) := hc0 3
  have c4 : w1.cell? ⟨w.heap.size, 4, none⟩ = some (I qd) := hc0 4
  have c5 : w1.cell? ⟨w.heap.size, 5, none⟩ = some (I qx) := hc0 5
  have c6 : w1.cell? ⟨w.heap.size, 6, none⟩ = some (I qy) := hc0 6
  have c7 : w1.cell? ⟨w.heap.size, 7, none⟩ = some (I qk) := hc0 7
  have HBL := hide hbl
  clear hc0 hbl HB0
  go_cut [3] from 5 to 22 (fun v3 wx => v3 = .bool (ca && cb && cc && cd) ∧ wx = w1)
  case first =>
    cases ca with
    | false =>
      go_wp2_with (first | (go_at_call_of 91 (I qa); refine (HAR.out _).mono ?_; rintro _ _ ⟨rfl, rfl⟩) | (go_at_call_of 91 (I qb); refine (HBR.out _).mono ?_; rintro _ _ ⟨rfl, rfl⟩) | (go_at_call_of 91 (I qc); refine (HCR.out _).mono ?_; rintro _ _ ⟨rfl, rfl⟩) | (go_at_call_of 91 (I qd); refine (HDR.out _).mono ?_; rintro _ _ ⟨rfl, rfl⟩))
      go_meet
      exact ⟨rfl, rfl⟩
    | true =>
      cases cb with
      | false =>
        go_wp2_with (first | (go_at_call_of 91 (I qa); refine (HAR.out _).mono ?_; rintro _ _ ⟨rfl, rfl⟩) | (go_at_call_of 91 (I qb); refine (HBR.out _).mono ?_; rintro _ _ ⟨rfl, rfl⟩) | (go_at_call_of 91 (I qc); refine (HCR.out _).mono ?_; rintro _ _ ⟨rfl, rfl⟩) | (go_at_call_of 91 (I qd); refine (HDR.out _).mono ?_; rintro _ _ ⟨rfl, rfl⟩))
        go_meet
        exact ⟨rfl, rfl⟩
      | true =>
        cases cc with
        | false =>
          go_wp2_with (first | (go_at_call_of 91 (I qa); refine (HAR.out _).mono ?_; rintro _ _ ⟨rfl, rfl⟩) | (go_at_call_of 91 (I qb); refine (HBR.out _).mono ?_; rintro _ _ ⟨rfl, rfl⟩) | (go_at_call_of 91 (I qc); refine (HCR.out _).mono ?_; rintro _ _ ⟨rfl, rfl⟩) | (go_at_call_of 91 (I qd); refine (HDR.out _).mono ?_; rintro _ _ ⟨rfl, rfl⟩))
          go_meet
          exact ⟨rfl, rfl⟩
        | true =>
          cases cd with
          | false =>
            go_wp2_with (first | (go_at_call_of 91 (I qa); refine (HAR.out _).mono ?_; rintro _ _ ⟨rfl, rfl⟩) | (go_at_call_of 91 (I qb); refine (HBR.out _).mono ?_; rintro _ _ ⟨rfl, rfl⟩) | (go_at_call_of 91 (I qc); refine (HCR.out _).mono ?_; rintro _ _ ⟨rfl, rfl⟩) | (go_at_call_of 91 (I qd); refine (HDR.out _).mono ?_; rintro _ _ ⟨rfl, rfl⟩))
            go_meet
            exact ⟨rfl, rfl⟩
          | true =>
            go_wp2_with (first | (go_at_call_of 91 (I qa); refine (HAR.out _).mono ?_; rintro _ _ ⟨rfl, rfl⟩) | (go_at_call_of 91 (I qb); refine (HBR.out _).mono ?_; rintro _ _ ⟨rfl, rfl⟩) | (go_at_call_of 91 (I qc); refine (HCR.out _).mono ?_; rintro _ _ ⟨rfl, rfl⟩) | (go_at_call_of 91 (I qd); refine (HDR.out _).mono ?_; rintro _ _ ⟨rfl, rfl⟩))
            go_meet
            exact ⟨rfl, rfl⟩
  case rest =>
    obtain ⟨rfl, rfl⟩ := hcut
    generalize hA : (ca && cb && cc && cd) = A at *
    clear hA HAR HBR HCR HDR
    go_upto_region 2 with fail
    go_cut [4] from 23 to 30 (fun v4 wx => v4 = .bool (cx && cy) ∧ wx = wc)
    case first =>
      cases cx with
      | false =>
        go_wp2_with (first | (go_at_call_of 91 (I qx); refine (HXR.out _).mono ?_; rintro _ _ ⟨rfl, rfl⟩) | (go_at_call_of 91 (I qy); refine (HYR.out _).mono ?_; rintro _ _ ⟨rfl, rfl⟩))
        go_meet
        exact ⟨rfl, rfl⟩
      | true =>
        cases cy with
        | false =>
          go_wp2_with (first | (go_at_call_of 91 (I qx); refine (HXR.out _).mono ?_; rintro _ _ ⟨rfl, rfl⟩) | (go_at_call_of 91 (I qy); refine (HYR.out _).mono ?_; rintro _ _ ⟨rfl, rfl⟩))
          go_meet
          exact ⟨rfl, rfl⟩
        | true =>
          go_wp2_with (first | (go_at_call_of 91 (I qx); refine (HXR.out _).mono ?_; rintro _ _ ⟨rfl, rfl⟩) | (go_at_call_of 91 (I qy); refine (HYR.out _).mono ?_; rintro _ _ ⟨rfl, rfl⟩))
          go_meet
          exact ⟨rfl, rfl⟩
    case rest =>
      obtain ⟨rfl, rfl⟩ := hcut
      generalize hB : (cx && cy) = B at *
      clear hB HXR HYR
      by_cases hk0 : kd = 0
      · subst hk0
        cases A with
        | false =>
          have hres : res = false := by have := HM.out; simpa using this
          subst hres
          go_wp2_with fail
          go_ret
          exact ⟨rfl, HBL.out⟩
        | true =>
          by_cases h1 : qa ≤ qc
          · by_cases h2 : qb ≤ qd
            · have hres : res = true := by have := HM.out; simpa [h1, h2] using this
              subst hres
              go_wp2_with fail
              go_ret
              exact ⟨rfl, HBL.out⟩
            · have hres : res = false := by have := HM.out; simpa [h2] using this
              subst hres
              go_wp2_with fail
              go_ret
              exact ⟨rfl, HBL.out⟩
          · have hres : res = false := by have := HM.out; simpa [h1] using this
            subst hres
            go_wp2_with fail
            go_ret
            exact ⟨rfl, HBL.out⟩
      · by_cases hk1 : kd = 1
        · subst hk1
          cases B with
          | false =>
            have hres : res = false := by have := HM.out; simpa using this
            subst hres
            go_wp2_with fail
            go_ret
            exact ⟨rfl, HBL.out⟩
          | true =>
            by_cases h1 : 1 ≤ qk
            · by_cases h2 : qk ≤ 20
              · have hres : res = true := by have := HM.out; simpa [h1, h2] using this
                subst hres
                go_wp2_with fail
                go_ret
                exact ⟨rfl, HBL.out⟩
              · have hres : res = false := by have := HM.out; simpa [h2] using this
                subst hres
                go_wp2_with fail
                go_ret
                exact ⟨rfl, HBL.out⟩
            · have hres : res = false := by have := HM.out; simpa [h1] using this
              subst hres
              go_wp2_with fail
              go_ret
              exact ⟨rfl, HBL.out⟩
        · have hres : res = false := by have := HM.out; simpa [hk0, hk1] using this
          subst hres
          go_wp2_with fail
          go_ret
          exact ⟨rfl, HBL.out⟩
end Go.Proofs.YtenaelkbgkpllaaGreatDoor
/- A node's text. -/
namespace Go.Proofs.YtenaelkbgkpllaaGreatDoor
open Go.RowKit

/-- what the laws for a row ask of a node's cells -/
structure Row39 (V : List Value) : Prop where
  len : V.length = 39
  one : V.toArray.all (·.oneCell') = true
  info : (Tryz.prog.info? 90).map (·.size) = some V.toArray.size
  infl : (Tryz.prog.info? 90).map (·.size) = some V.length
  size : V.toArray.size = 39
theorem nodeV_row {a : Option Addr} {l c : Nat} {a' : Option Addr} {l' c' : Nat} {b : Ward.Box} {n : Int} {D : List UInt8} (hD : D.length = 32) : Row39 (nodeV (.slice a l c) (.slice a' l' c') b n (D.map Y)) := by
  have h : (nodeV (.slice a l c) (.slice a' l' c') b n (D.map Y)).length = 39 := by simp [nodeV, hD]
  exact ⟨h, nodeV_one rfl rfl (fun v hv => by obtain ⟨x, _, rfl⟩ := List.mem_map.1 hv; rfl), by rw [List.size_toArray, h]; exact Tryz.infoNode, by rw [h]; exact Tryz.infoNode, by rw [List.size_toArray, h]⟩
theorem textK_two (n : Nat) (K : List (Ward.NT n)) : Ward.textK n K = [2, UInt8.ofNat K.length] ++ K.flatMap (Ward.saidN n) := rfl
theorem said_len {w : World} {S : Nat → Prop} {n : Nat} {t : Ward.NT n} {V : List Value} (h : NodeIs w S n t V) : (Ward.saidN n t).length = 52 := by
  obtain ⟨_, _, _, _, _, _, _, hd⟩ := h.cells
  simp [Ward.saidN, Ward.boxText_len, Ward.fourI_len, hd]
theorem flat_len {α β : Type} {f : α → List β} {c : Nat} : ∀ {l : List α}, (∀ x ∈ l, (f x).length = c) → (l.flatMap f).length = c * l.length
  | [], _ => by simp
  | x :: l, h => by
    rw [List.flatMap_cons, List.length_append, flat_len (l := l) fun y hy => h y (by simp [hy]), h x (by simp), List.length_cons, Nat.mul_succ]; omega
theorem take_said_len {w : World} {S : Nat → Prop} {n : Nat} {K : List (Ward.NT n)} (h : ∀ i (h : i < K.length), ∃ U, NodeIs w S n K[i] U) (i : Nat) : ((K.take i).flatMap (Ward.saidN n)).length ≤ 52 * K.length := by
  rw [flat_len (c := 52) fun t ht => by
    obtain ⟨j, hj, rfl⟩ := List.getElem_of_mem (List.mem_of_mem_take ht)
    obtain ⟨U, hU⟩ := h j hj
    exact said_len hU]
  exact Nat.mul_le_mul_left _ (by rw [List.length_take]; omega)
set_option maxRecDepth 100000 in
set_option maxHeartbeats 2000000 in
theorem nodeText_any (vc : Value) (n : Nat) (K : List (Ward.NT n)) (w : World) (S : Nat → Prop) (hS : ∀ g, S g → g < w.heap.size) (hK : K.length ≤ 4) (hk : RowsAt (NodeIs w S n) w S vc K) :
    Calls Tryz.prog 143 #[vc] w fun e w' => e = .returned (Sv (Ward.textK n K)) ∧ Below w.heap.size w w' := by
  obtain ⟨ap, cp, rfl, hrd⟩ := hk
  have HRD := hide hrd
  clear hrd
  have hB1 := (Below.refl w.heap.size w).alloc (Nat.le_refl _) (.cells #[.int .u8 2, .int .u8 K.length] 5)
  have hO1 : OwnB (w.alloc (.cells #[.int .u8 2, .int .u8 K.length] 5)) w.heap.size (.slice (some ⟨w.heap.size, 0, none⟩) 2 2) [2, UInt8.ofNat K.length] := by
    have hkk : (UInt8.ofNat K.length).toNat = K.length := by rw [UInt8.toNat_ofNat']; omega
    have h := World.ownsRow_lit (base := w.heap.size) (e := 5) (size := 1) w #[.int .u8 2, .int .u8 K.length] 2 (Nat.le_refl _) (by decide) rfl
    have e : [2, UInt8.ofNat K.length].map Y = [.int .u8 2, .int .u8 K.length] := by simp [Y, hkk]
    unfold OwnB
    rw [e]
    exact h
  have HB1 := hide hB1
  have HO1 := hide hO1
  clear hB1 hO1
  obtain ⟨fs, hu⟩ := underNode
  have HU := hide hu
  clear hu
  go_enter Tryz.func143, Tryz.ntmps143
  go_wp2_with fail
  go_loopg [3, 12] K.length (fun gk v3 v12 wq => ∃ i : Nat, gk = K.length - i ∧ v12 = I i ∧ i ≤ K.length ∧ OwnB wq w.heap.size v3 ([2, UInt8.ofNat K.length] ++ (K.take i).flatMap (Ward.saidN n)) ∧ Below w.heap.size w wq)
  case atStart => exact ⟨0, by omega, rfl, by omega, by simpa using HO1.out, HB1.out⟩
  case round =>
    clear HO1 HB1
    obtain ⟨i, hgk, rfl, hi, ho, hb⟩ := hrel
    have HGK := hide hgk
    have HO := hide ho
    have HB := hide hb
    clear hgk ho hb
    by_cases hlt : i < K.length
    · obtain ⟨g, o, rfl, hgS, hrows⟩ := HRD.out (fun e => by subst e; simp at hlt)
      have hgB := hS g hgS
      clear hgS
      obtain ⟨U, hU, hc⟩ := hrows i hlt
      have HT := hide (show (K.take (i + 1)).flatMap (Ward.saidN n) = (K.take i).flatMap (Ward.saidN n) ++ Ward.saidN n K[i] from flat_step (Ward.saidN n) K i hlt)
      have hlen : ((K.take i).flatMap (Ward.saidN n)).length ≤ 208 := Nat.le_trans (take_said_len (fun j hj => ⟨_, (hrows j hj).choose_spec.1⟩) i) (by omega)
      have HC := hide (rangeAt_below hc HB.out hgB)
      obtain ⟨a1, l1, c1, a2, l2, c2, hV, hd⟩ := hU.cells
      have HR := hide (show Row39 U by rw [hV]; exact nodeV_row hd)
      have hs : Ward.saidN n K[i] = childT (Ward.boxN n K[i]) (Ward.numN n K[i]) (Ward.digN n K[i]) := (childT_said _ _ _).symm
      have HA := hide (fun (v : Value) (l : List UInt8) (w2 : World) (hB : w.heap.size ≤ w2.heap.size) (hx : l.length ≤ 700000) (hown : OwnB w2 w.heap.size v l) => by
        have h := appendChild_any v l (.slice a1 l1 c1) (.slice a2 l2 c2) (Ward.boxN n K[i]) (Ward.numN n K[i]) (Ward.digN n K[i]) w2 w.heap.size hB hx hd hown
        rw [← hV, ← hs] at h
        exact h)
      clear hs hV hd hc hU hrows
      generalize Ward.saidN n K[i] = Sd at *
      generalize (K.take i).flatMap (Ward.saidN n) = N at *
      have hsz := HB.out.size
      go_wp2_with (first | (refine wpList_load_mid rfl 90 (.tmp 14) rfl g (o + i * 39) rfl U (.struct fs) HC.out HU.out rfl HR.out.infl ?_) | (refine wpList_store_row rfl 90 (.tmp 5) (.tmp 15) rfl wr.heap.size U.toArray rfl rfl 90 _ (heap_alloc_new wr _) HR.out.info (by rw [HR.out.size]; rfl) HR.out.one ?_; rw [World.setRow_alloc_new]) | (refine wpList_load_row rfl 90 (.tmp 5) rfl wr.heap.size rfl 90 U.toArray (0, 0) (.struct fs) (heap_alloc_new wr _) HU.out rfl HR.out.info ?_))
      have hb2 : Below wr.heap.size wr (wr.alloc (.cells U.toArray 90)) := (Below.refl wr.heap.size wr).alloc (Nat.le_refl _) _
      refine (HA.out _ _ _ (Nat.le_trans hsz hb2.size) (by simp; omega) (HO.out.below hb2)).mono ?_
      intro e w3 h3
      obtain ⟨v3, rfl, ho3, hg3, hf3⟩ := h3.lift hb2
      have HO3 := hide ho3
      have HB3 := hide (HB.out.grown hg3 hsz (fun k hk => (HO.out.lt hk).1))
      clear ho3 hg3 hf3 h3 hb2
      go_wp2_with fail
      go_roundg (K.length - (i + 1))
      case measure => have := HGK.out; omega
      case rel => exact ⟨i + 1, rfl, by go_num, hlt, by
        have h := HO3.out
        rw [HT.out, ← List.append_assoc]
        exact h, HB3.out⟩
    · have ei : i = K.length := by omega
      subst ei
      rw [List.take_length, ← textK_two] at HO
      have hc := HO.out.conv (by simp [Ward.textK])
      generalize hT : Ward.textK n K = T at *
      have HT := hide hT
      clear hT
      go_wp2
      go_ret
      exact ⟨by rw [HT.out]; rfl, HB.out⟩
end Go.Proofs.YtenaelkbgkpllaaGreatDoor
