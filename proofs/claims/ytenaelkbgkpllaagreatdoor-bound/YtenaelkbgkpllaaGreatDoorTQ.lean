/- Windows, boxes that may be, queries that may be. -/
import Derived.Test.YtenaelkbgkpllaaGreatDoorWardE
import Derived.Test.YtenaelkbgkpllaaGreatDoorTJ
namespace Go.Proofs.YtenaelkbgkpllaaGreatDoor
open Go.RowKit

/-- a query as a value -/
abbrev Qv (q : Ward.Qr) : Value := .agg #[I q.kind, I q.a, I q.b, I q.c, I q.d, I q.x, I q.y, I q.k]
theorem Tryz.infoQuery : (Tryz.prog.info? 46).map (·.size) = some 8 := by kernel_rfl

set_option maxHeartbeats 2000000 in
theorem meets_any (p q : Ward.Box) (w : World) :
    Calls Tryz.prog 78 #[Bx p, Bx q] w fun e w' => e = .returned (.bool (Ward.meets p q)) ∧ Below w.heap.size w w' := by
  obtain ⟨pa, pb, pc, pd⟩ := p
  obtain ⟨qa, qb, qc, qd⟩ := q
  by_cases h1 : pa ≤ qc
  · by_cases h2 : qa ≤ pc
    · by_cases h3 : pb ≤ qd
      · by_cases h4 : qb ≤ pd
        · rw [show Ward.meets ⟨pa, pb, pc, pd⟩ ⟨qa, qb, qc, qd⟩ = true by simp [Ward.meets, h1, h2, h3, h4]]
          go_enter Tryz.func78, Tryz.ntmps78
          go_wp2
          go_ret
          exact ⟨rfl, ((Below.refl w.heap.size w).alloc (Nat.le_refl _) _).alloc (by simp) _⟩
        · rw [show Ward.meets ⟨pa, pb, pc, pd⟩ ⟨qa, qb, qc, qd⟩ = false by simp [Ward.meets, h1, h2, h3, h4]]
          go_enter Tryz.func78, Tryz.ntmps78
          go_wp2
          go_ret
          exact ⟨rfl, ((Below.refl w.heap.size w).alloc (Nat.le_refl _) _).alloc (by simp) _⟩
      · rw [show Ward.meets ⟨pa, pb, pc, pd⟩ ⟨qa, qb, qc, qd⟩ = false by simp [Ward.meets, h1, h2, h3]]
        go_enter Tryz.func78, Tryz.ntmps78
        go_wp2
        go_ret
        exact ⟨rfl, ((Below.refl w.heap.size w).alloc (Nat.le_refl _) _).alloc (by simp) _⟩
    · rw [show Ward.meets ⟨pa, pb, pc, pd⟩ ⟨qa, qb, qc, qd⟩ = false by simp [Ward.meets, h1, h2]]
      go_enter Tryz.func78, Tryz.ntmps78
      go_wp2
      go_ret
      exact ⟨rfl, ((Below.refl w.heap.size w).alloc (Nat.le_refl _) _).alloc (by simp) _⟩
  · rw [show Ward.meets ⟨pa, pb, pc, pd⟩ ⟨qa, qb, qc, qd⟩ = false by simp [Ward.meets, h1]]
    go_enter Tryz.func78, Tryz.ntmps78
    go_wp2
    go_ret
    exact ⟨rfl, ((Below.refl w.heap.size w).alloc (Nat.le_refl _) _).alloc (by simp) _⟩
set_option maxHeartbeats 1000000 in
theorem windowOf_any (q : Ward.Qr) (w : World) :
    Calls Tryz.prog 73 #[Qv q] w fun e w' => e = .returned (Bx (Ward.window q)) ∧ Below w.heap.size w w' := by
  go_enter Tryz.func73, Tryz.ntmps73
  go_wp2
  refine bodyPost_ret (v := Bx (Ward.window q)) ?_ rfl ⟨rfl, ((Below.refl w.heap.size w).alloc (Nat.le_refl _) _).alloc (by simp) _⟩
  exact results_cell_row rfl _ _ (w.heap.size + 1) 88 _ (0, 0) _ rfl (heap_alloc2_new w _ _) Tryz.underlying88 rfl Tryz.infoBox
set_option maxHeartbeats 4000000 in
theorem boxMay_any (p : Ward.Box) (w : World) :
    Calls Tryz.prog 74 #[Bx p] w fun e w' => e = .returned (.bool (Ward.boxMay p)) ∧ Below w.heap.size w w' := by
  obtain ⟨pa, pb, pc, pd⟩ := p
  by_cases h1 : -1000000 ≤ pa ∧ pa ≤ 1000000
  · by_cases h2 : -1000000 ≤ pb ∧ pb ≤ 1000000
    · by_cases h3 : -1000000 ≤ pc ∧ pc ≤ 1000000
      · by_cases h4 : -1000000 ≤ pd ∧ pd ≤ 1000000
        · by_cases h5 : pa ≤ pc
          · by_cases h6 : pb ≤ pd
            · rw [show Ward.boxMay ⟨pa, pb, pc, pd⟩ = true by rw [Ward.boxMay, Ward.coord_yes h1, Ward.coord_yes h2, Ward.coord_yes h3, Ward.coord_yes h4, decide_eq_true h5, decide_eq_true h6]; rfl]
              have H1 := hide h1
              have H2 := hide h2
              have H3 := hide h3
              have H4 := hide h4
              clear h1 h2 h3 h4
              go_enter Tryz.func74, Tryz.ntmps74
              go_wp2_with (first | (go_at_call_of 32 (I pa); refine (isCoord_yes pa _ H1.out).mono ?_; rintro _ _ ⟨rfl, rfl⟩) | (go_at_call_of 32 (I pb); refine (isCoord_yes pb _ H2.out).mono ?_; rintro _ _ ⟨rfl, rfl⟩) | (go_at_call_of 32 (I pc); refine (isCoord_yes pc _ H3.out).mono ?_; rintro _ _ ⟨rfl, rfl⟩) | (go_at_call_of 32 (I pd); refine (isCoord_yes pd _ H4.out).mono ?_; rintro _ _ ⟨rfl, rfl⟩))
              go_ret
              exact ⟨rfl, (Below.refl w.heap.size w).alloc (Nat.le_refl _) _⟩
            · rw [show Ward.boxMay ⟨pa, pb, pc, pd⟩ = false by rw [Ward.boxMay, Ward.coord_yes h1, Ward.coord_yes h2, Ward.coord_yes h3, Ward.coord_yes h4, decide_eq_true h5, decide_eq_false h6]; rfl]
              have H1 := hide h1
              have H2 := hide h2
              have H3 := hide h3
              have H4 := hide h4
              clear h1 h2 h3 h4
              go_enter Tryz.func74, Tryz.ntmps74
              go_wp2_with (first | (go_at_call_of 32 (I pa); refine (isCoord_yes pa _ H1.out).mono ?_; rintro _ _ ⟨rfl, rfl⟩) | (go_at_call_of 32 (I pb); refine (isCoord_yes pb _ H2.out).mono ?_; rintro _ _ ⟨rfl, rfl⟩) | (go_at_call_of 32 (I pc); refine (isCoord_yes pc _ H3.out).mono ?_; rintro _ _ ⟨rfl, rfl⟩) | (go_at_call_of 32 (I pd); refine (isCoord_yes pd _ H4.out).mono ?_; rintro _ _ ⟨rfl, rfl⟩))
              go_ret
              exact ⟨congrArg (fun b => Ending.returned (Value.bool b)) (decide_eq_false (Int.not_le.2 h6)), (Below.refl w.heap.size w).alloc (Nat.le_refl _) _⟩
          · rw [show Ward.boxMay ⟨pa, pb, pc, pd⟩ = false by rw [Ward.boxMay, Ward.coord_yes h1, Ward.coord_yes h2, Ward.coord_yes h3, Ward.coord_yes h4, decide_eq_false h5]; rfl]
            have H1 := hide h1
            have H2 := hide h2
            have H3 := hide h3
            have H4 := hide h4
            clear h1 h2 h3 h4
            go_enter Tryz.func74, Tryz.ntmps74
            go_wp2_with (first | (go_at_call_of 32 (I pa); refine (isCoord_yes pa _ H1.out).mono ?_; rintro _ _ ⟨rfl, rfl⟩) | (go_at_call_of 32 (I pb); refine (isCoord_yes pb _ H2.out).mono ?_; rintro _ _ ⟨rfl, rfl⟩) | (go_at_call_of 32 (I pc); refine (isCoord_yes pc _ H3.out).mono ?_; rintro _ _ ⟨rfl, rfl⟩) | (go_at_call_of 32 (I pd); refine (isCoord_yes pd _ H4.out).mono ?_; rintro _ _ ⟨rfl, rfl⟩))
            go_ret
            exact ⟨rfl, (Below.refl w.heap.size w).alloc (Nat.le_refl _) _⟩
        · rw [show Ward.boxMay ⟨pa, pb, pc, pd⟩ = false by rw [Ward.boxMay, Ward.coord_yes h1, Ward.coord_yes h2, Ward.coord_yes h3, Ward.coord_no h4]; rfl]
          have H1 := hide h1
          have H2 := hide h2
          have H3 := hide h3
          have H4 := hide h4
          clear h1 h2 h3 h4
          go_enter Tryz.func74, Tryz.ntmps74
          go_wp2_with (first | (go_at_call_of 32 (I pa); refine (isCoord_yes pa _ H1.out).mono ?_; rintro _ _ ⟨rfl, rfl⟩) | (go_at_call_of 32 (I pb); refine (isCoord_yes pb _ H2.out).mono ?_; rintro _ _ ⟨rfl, rfl⟩) | (go_at_call_of 32 (I pc); refine (isCoord_yes pc _ H3.out).mono ?_; rintro _ _ ⟨rfl, rfl⟩) | (go_at_call_of 32 (I pd); refine (isCoord_no pd _ H4.out).mono ?_; rintro _ _ ⟨rfl, rfl⟩))
          go_ret
          exact ⟨rfl, (Below.refl w.heap.size w).alloc (Nat.le_refl _) _⟩
      · rw [show Ward.boxMay ⟨pa, pb, pc, pd⟩ = false by rw [Ward.boxMay, Ward.coord_yes h1, Ward.coord_yes h2, Ward.coord_no h3]; rfl]
        have H1 := hide h1
        have H2 := hide h2
        have H3 := hide h3
        clear h1 h2 h3
        go_enter Tryz.func74, Tryz.ntmps74
        go_wp2_with (first | (go_at_call_of 32 (I pa); refine (isCoord_yes pa _ H1.out).mono ?_; rintro _ _ ⟨rfl, rfl⟩) | (go_at_call_of 32 (I pb); refine (isCoord_yes pb _ H2.out).mono ?_; rintro _ _ ⟨rfl, rfl⟩) | (go_at_call_of 32 (I pc); refine (isCoord_no pc _ H3.out).mono ?_; rintro _ _ ⟨rfl, rfl⟩))
        go_ret
        exact ⟨rfl, (Below.refl w.heap.size w).alloc (Nat.le_refl _) _⟩
    · rw [show Ward.boxMay ⟨pa, pb, pc, pd⟩ = false by rw [Ward.boxMay, Ward.coord_yes h1, Ward.coord_no h2]; rfl]
      have H1 := hide h1
      have H2 := hide h2
      clear h1 h2
      go_enter Tryz.func74, Tryz.ntmps74
      go_wp2_with (first | (go_at_call_of 32 (I pa); refine (isCoord_yes pa _ H1.out).mono ?_; rintro _ _ ⟨rfl, rfl⟩) | (go_at_call_of 32 (I pb); refine (isCoord_no pb _ H2.out).mono ?_; rintro _ _ ⟨rfl, rfl⟩))
      go_ret
      exact ⟨rfl, (Below.refl w.heap.size w).alloc (Nat.le_refl _) _⟩
  · rw [show Ward.boxMay ⟨pa, pb, pc, pd⟩ = false by rw [Ward.boxMay, Ward.coord_no h1]; rfl]
    have H1 := hide h1
    clear h1
    go_enter Tryz.func74, Tryz.ntmps74
    go_wp2_with (first | (go_at_call_of 32 (I pa); refine (isCoord_no pa _ H1.out).mono ?_; rintro _ _ ⟨rfl, rfl⟩))
    go_ret
    exact ⟨rfl, (Below.refl w.heap.size w).alloc (Nat.le_refl _) _⟩
set_option maxHeartbeats 4000000 in
theorem mayBe_any (q : Ward.Qr) (w : World) :
    Calls Tryz.prog 39 #[Qv q] w fun e w' => e = .returned (.bool (Ward.mayBe q)) ∧ Below w.heap.size w w' := by
  by_cases hk : q.kind = 0
  · rw [show Ward.mayBe q = Ward.boxMay (Ward.window q) by simp [Ward.mayBe, hk]]
    obtain ⟨qk, qa, qb, qc, qd, qx, qy, qn⟩ := q
    simp only at hk
    subst hk
    generalize hW : Ward.window ⟨0, qa, qb, qc, qd, qx, qy, qn⟩ = W
    have HW := hide hW
    clear hW
    go_enter Tryz.func39, Tryz.ntmps39
    go_wp2_with fail
    refine (windowOf_any ⟨0, qa, qb, qc, qd, qx, qy, qn⟩ _).mono ?_
    rintro _ w1 ⟨rfl, hb1⟩
    rw [HW.out]
    have HB1 := hide hb1
    clear hb1
    go_wp2_with fail
    refine (boxMay_any W _).mono ?_
    rintro _ w2 ⟨rfl, hb2⟩
    have HB2 := hide hb2
    clear hb2
    go_wp2
    go_ret
    have h1 : Below w.heap.size w w1 := ((Below.refl w.heap.size w).alloc (Nat.le_refl _) _).trans (HB1.out.mono (by simp))
    exact ⟨rfl, h1.trans (HB2.out.mono h1.size)⟩
  · by_cases hk1 : q.kind = 1
    · obtain ⟨qk, qa, qb, qc, qd, qx, qy, qn⟩ := q
      simp only at hk hk1
      subst hk1
      clear hk
      by_cases h1 : -1000000 ≤ qx ∧ qx ≤ 1000000
      · by_cases h2 : -1000000 ≤ qy ∧ qy ≤ 1000000
        · by_cases h3 : 1 ≤ qn
          · by_cases h4 : qn ≤ 20
            · rw [show Ward.mayBe ⟨1, qa, qb, qc, qd, qx, qy, qn⟩ = true by rw [Ward.mayBe, if_neg (show ¬ (1 : Int) = 0 by decide), if_pos rfl]; rw [Ward.coord_yes h1, Ward.coord_yes h2, decide_eq_true h3, decide_eq_true h4]; rfl]
              have H1 := hide h1
              have H2 := hide h2
              clear h1 h2
              go_enter Tryz.func39, Tryz.ntmps39
              go_wp2_with (first | (go_at_call_of 32 (I qx); refine (isCoord_yes qx _ H1.out).mono ?_; rintro _ _ ⟨rfl, rfl⟩) | (go_at_call_of 32 (I qy); refine (isCoord_yes qy _ H2.out).mono ?_; rintro _ _ ⟨rfl, rfl⟩))
              go_ret
              exact ⟨rfl, (Below.refl w.heap.size w).alloc (Nat.le_refl _) _⟩
            · rw [show Ward.mayBe ⟨1, qa, qb, qc, qd, qx, qy, qn⟩ = false by rw [Ward.mayBe, if_neg (show ¬ (1 : Int) = 0 by decide), if_pos rfl]; rw [Ward.coord_yes h1, Ward.coord_yes h2, decide_eq_true h3, decide_eq_false h4]; rfl]
              have H1 := hide h1
              have H2 := hide h2
              clear h1 h2
              go_enter Tryz.func39, Tryz.ntmps39
              go_wp2_with (first | (go_at_call_of 32 (I qx); refine (isCoord_yes qx _ H1.out).mono ?_; rintro _ _ ⟨rfl, rfl⟩) | (go_at_call_of 32 (I qy); refine (isCoord_yes qy _ H2.out).mono ?_; rintro _ _ ⟨rfl, rfl⟩))
              go_ret
              exact ⟨congrArg (fun b => Ending.returned (Value.bool b)) (decide_eq_false (Int.not_le.2 h4)), (Below.refl w.heap.size w).alloc (Nat.le_refl _) _⟩
          · rw [show Ward.mayBe ⟨1, qa, qb, qc, qd, qx, qy, qn⟩ = false by rw [Ward.mayBe, if_neg (show ¬ (1 : Int) = 0 by decide), if_pos rfl]; rw [Ward.coord_yes h1, Ward.coord_yes h2, decide_eq_false h3]; rfl]
            have H1 := hide h1
            have H2 := hide h2
            clear h1 h2
            go_enter Tryz.func39, Tryz.ntmps39
            go_wp2_with (first | (go_at_call_of 32 (I qx); refine (isCoord_yes qx _ H1.out).mono ?_; rintro _ _ ⟨rfl, rfl⟩) | (go_at_call_of 32 (I qy); refine (isCoord_yes qy _ H2.out).mono ?_; rintro _ _ ⟨rfl, rfl⟩))
            go_ret
            exact ⟨rfl, (Below.refl w.heap.size w).alloc (Nat.le_refl _) _⟩
        · rw [show Ward.mayBe ⟨1, qa, qb, qc, qd, qx, qy, qn⟩ = false by rw [Ward.mayBe, if_neg (show ¬ (1 : Int) = 0 by decide), if_pos rfl]; rw [Ward.coord_yes h1, Ward.coord_no h2]; rfl]
          have H1 := hide h1
          have H2 := hide h2
          clear h1 h2
          go_enter Tryz.func39, Tryz.ntmps39
          go_wp2_with (first | (go_at_call_of 32 (I qx); refine (isCoord_yes qx _ H1.out).mono ?_; rintro _ _ ⟨rfl, rfl⟩) | (go_at_call_of 32 (I qy); refine (isCoord_no qy _ H2.out).mono ?_; rintro _ _ ⟨rfl, rfl⟩))
          go_ret
          exact ⟨rfl, (Below.refl w.heap.size w).alloc (Nat.le_refl _) _⟩
      · rw [show Ward.mayBe ⟨1, qa, qb, qc, qd, qx, qy, qn⟩ = false by rw [Ward.mayBe, if_neg (show ¬ (1 : Int) = 0 by decide), if_pos rfl]; rw [Ward.coord_no h1]; rfl]
        have H1 := hide h1
        clear h1
        go_enter Tryz.func39, Tryz.ntmps39
        go_wp2_with (first | (go_at_call_of 32 (I qx); refine (isCoord_no qx _ H1.out).mono ?_; rintro _ _ ⟨rfl, rfl⟩))
        go_ret
        exact ⟨rfl, (Below.refl w.heap.size w).alloc (Nat.le_refl _) _⟩
    · rw [show Ward.mayBe q = false by simp [Ward.mayBe, hk, hk1]]
      go_enter Tryz.func39, Tryz.ntmps39
      go_wp2
      go_ret
      exact ⟨rfl, (Below.refl w.heap.size w).alloc (Nat.le_refl _) _⟩
end Go.Proofs.YtenaelkbgkpllaaGreatDoor
