/- Part 12 of what the claims on Bound, Small, Right and Sole rest on. -/
import Derived.Test.YtenaelkbgkpllaaGreatDoorKeep10
import Derived.Test.YtenaelkbgkpllaaGreatDoorKeep11
import Derived.Deep.AppendLies
import Derived.Great.BuildSlice
/- Windows, boxes that may be, queries that may be. -/
namespace Go.Proofs.YtenaelkbgkpllaaGreatDoor
open Go.RowKit

/-- a query as a value -/
abbrev Qv (q : Ward.Qr) : Value := .agg #[I q.kind, I q.a, I q.b, I q.c, I q.d, I q.x, I q.y, I q.k]
theorem Tryz.infoQuery : (Tryz.prog.info? 46).map (·.size) = some 8 := by kernel_rfl

set_option maxHeartbeats 2000000 in
theorem meets_any (p q : Ward.Box) (w : World) :
    Calls Tryz.prog 78 #[Bx p, Bx q] w fun e w' => e = .returned (.bool (Ward.meets p q)) ∧ Below w.heap.size w w' := by
  obtain ⟨pa, pb, pc, pd⟩ := p
  obtain ⟨qa, qb, qc, qd⟩ := q
  by_cases h1 : pa ≤ qc
  · by_cases h2 : qa ≤ pc
    · by_cases h3 : pb ≤ qd
      · by_cases h4 : qb ≤ pd
        · rw [show Ward.meets ⟨pa, pb, pc, pd⟩ ⟨qa, qb, qc, qd⟩ = true by simp [Ward.meets, h1, h2, h3, h4]]
          go_enter Tryz.func78, Tryz.ntmps78
          go_wp2
          go_ret
          exact ⟨rfl, ((Below.refl w.heap.size w).alloc (Nat.le_refl _) _).alloc (by simp) _⟩
        · rw [show Ward.meets ⟨pa, pb, pc, pd⟩ ⟨qa, qb, qc, qd⟩ = false by simp [Ward.meets, h1, h2, h3, h4]]
          go_enter Tryz.func78, Tryz.ntmps78
          go_wp2
          go_ret
          exact ⟨rfl, ((Below.refl w.heap.size w).alloc (Nat.le_refl _) _).alloc (by simp) _⟩
      · rw [show Ward.meets ⟨pa, pb, pc, pd⟩ ⟨qa, qb, qc, qd⟩ = false by simp [Ward.meets, h1, h2, h3]]
        go_enter Tryz.func78, Tryz.ntmps78
        go_wp2
        go_ret
        exact ⟨rfl, ((Below.refl w.heap.size w).alloc (Nat.le_refl _) _).alloc (by simp) _⟩
    · rw [show Ward.meets ⟨pa, pb, pc, pd⟩ ⟨qa, qb, qc, qd⟩ = false by simp [Ward.meets, h1, h2]]
      go_enter Tryz.func78, Tryz.ntmps78
      go_wp2
      go_ret
      exact ⟨rfl, ((Below.refl w.heap.size w).alloc (Nat.le_refl _) _).alloc (by simp) _⟩
  · rw [show Ward.meets ⟨pa, pb, pc, pd⟩ ⟨qa, qb, qc, qd⟩ = false by simp [Ward.meets, h1]]
    go_enter Tryz.func78, Tryz.ntmps78
    go_wp2
    go_ret
    exact ⟨rfl, ((Below.refl w.heap.size w).alloc (Nat.le_refl _) _).alloc (by simp) _⟩
set_option maxHeartbeats 1000000 in
theorem windowOf_any (q : Ward.Qr) (w : World) :
    Calls Tryz.prog 73 #[Qv q] w fun e w' => e = .returned (Bx (Ward.window q)) ∧ Below w.heap.size w w' := by
  go_enter Tryz.func73, Tryz.ntmps73
  go_wp2
  refine bodyPost_ret (v := Bx (Ward.window q)) ?_ rfl ⟨rfl, ((Below.refl w.heap.size w).alloc (Nat.le_refl _) _).alloc (by simp) _⟩
  exact results_cell_row rfl _ _ (w.heap.size + 1) 88 _ (0, 0) _ rfl (heap_alloc2_new w _ _) Tryz.underlying88 rfl Tryz.infoBox
set_option maxHeartbeats 4000000 in
theorem boxMay_any (p : Ward.Box) (w : World) :
    Calls Tryz.prog 74 #[Bx p] w fun e w' => e = .returned (.bool (Ward.boxMay p)) ∧ Below w.heap.size w w' := by
  obtain ⟨pa, pb, pc, pd⟩ := p
  by_cases h1 : -1000000 ≤ pa ∧ pa ≤ 1000000
  · by_cases h2 : -1000000 ≤ pb ∧ pb ≤ 1000000
    · by_cases h3 : -1000000 ≤ pc ∧ pc ≤ 1000000
      · by_cases h4 : -1000000 ≤ pd ∧ pd ≤ 1000000
        · by_cases h5 : pa ≤ pc
          · by_cases h6 : pb ≤ pd
            · rw [show Ward.boxMay ⟨pa, pb, pc, pd⟩ = true by rw [Ward.boxMay, Ward.coord_yes h1, Ward.coord_yes h2, Ward.coord_yes h3, Ward.coord_yes h4, decide_eq_true h5, decide_eq_true h6]; rfl]
              have H1 := hide h1
              have H2 := hide h2
              have H3 := hide h3
              have H4 := hide h4
              clear h1 h2 h3 h4
              go_enter Tryz.func74, Tryz.ntmps74
              go_wp2_with (first | (go_at_call_of 32 (I pa); refine (isCoord_yes pa _ H1.out).mono ?_; rintro _ _ ⟨rfl, rfl⟩) | (go_at_call_of 32 (I pb); refine (isCoord_yes pb _ H2.out).mono ?_; rintro _ _ ⟨rfl, rfl⟩) | (go_at_call_of 32 (I pc); refine (isCoord_yes pc _ H3.out).mono ?_; rintro _ _ ⟨rfl, rfl⟩) | (go_at_call_of 32 (I pd); refine (isCoord_yes pd _ H4.out).mono ?_; rintro _ _ ⟨rfl, rfl⟩))
              go_ret
              exact ⟨rfl, (Below.refl w.heap.size w).alloc (Nat.le_refl _) _⟩
            · rw [show Ward.boxMay ⟨pa, pb, pc, pd⟩ = false by rw [Ward.boxMay, Ward.coord_yes h1, Ward.coord_yes h2, Ward.coord_yes h3, Ward.coord_yes h4, decide_eq_true h5, decide_eq_false h6]; rfl]
              have H1 := hide h1
              have H2 := hide h2
              have H3 := hide h3
              have H4 := hide h4
              clear h1 h2 h3 h4
              go_enter Tryz.func74, Tryz.ntmps74
              go_wp2_with (first | (go_at_call_of 32 (I pa); refine (isCoord_yes pa _ H1.out).mono ?_; rintro _ _ ⟨rfl, rfl⟩) | (go_at_call_of 32 (I pb); refine (isCoord_yes pb _ H2.out).mono ?_; rintro _ _ ⟨rfl, rfl⟩) | (go_at_call_of 32 (I pc); refine (isCoord_yes pc _ H3.out).mono ?_; rintro _ _ ⟨rfl, rfl⟩) | (go_at_call_of 32 (I pd); refine (isCoord_yes pd _ H4.out).mono ?_; rintro _ _ ⟨rfl, rfl⟩))
              go_ret
              exact ⟨congrArg (fun b => Ending.returned (Value.bool b)) (decide_eq_false (Int.not_le.2 h6)), (Below.refl w.heap.size w).alloc (Nat.le_refl _) _⟩
          · rw [show Ward.boxMay ⟨pa, pb, pc, pd⟩ = false by rw [Ward.boxMay, Ward.coord_yes h1, Ward.coord_yes h2, Ward.coord_yes h3, Ward.coord_yes h4, decide_eq_false h5]; rfl]
            have H1 := hide h1
            have H2 := hide h2
            have H3 := hide h3
            have H4 := hide h4
            clear h1 h2 h3 h4
            go_enter Tryz.func74, Tryz.ntmps74
            go_wp2_with (first | (go_at_call_of 32 (I pa); refine (isCoord_yes pa _ H1.out).mono ?_; rintro _ _ ⟨rfl, rfl⟩) | (go_at_call_of 32 (I pb); refine (isCoord_yes pb _ H2.out).mono ?_; rintro _ _ ⟨rfl, rfl⟩) | (go_at_call_of 32 (I pc); refine (isCoord_yes pc _ H3.out).mono ?_; rintro _ _ ⟨rfl, rfl⟩) | (go_at_call_of 32 (I pd); refine (isCoord_yes pd _ H4.out).mono ?_; rintro _ _ ⟨rfl, rfl⟩))
            go_ret
            exact ⟨rfl, (Below.refl w.heap.size w).alloc (Nat.le_refl _) _⟩
        · rw [show Ward.boxMay ⟨pa, pb, pc, pd⟩ = false by rw [Ward.boxMay, Ward.coord_yes h1, Ward.coord_yes h2, Ward.coord_yes h3, Ward.coord_no h4]; rfl]
          have H1 := hide h1
          have H2 := hide h2
          have H3 := hide h3
          have H4 := hide h4
          clear h1 h2 h3 h4
          go_enter Tryz.func74, Tryz.ntmps74
          go_wp2_with (first | (go_at_call_of 32 (I pa); refine (isCoord_yes pa _ H1.out).mono ?_; rintro _ _ ⟨rfl, rfl⟩) | (go_at_call_of 32 (I pb); refine (isCoord_yes pb _ H2.out).mono ?_; rintro _ _ ⟨rfl, rfl⟩) | (go_at_call_of 32 (I pc); refine (isCoord_yes pc _ H3.out).mono ?_; rintro _ _ ⟨rfl, rfl⟩) | (go_at_call_of 32 (I pd); refine (isCoord_no pd _ H4.out).mono ?_; rintro _ _ ⟨rfl, rfl⟩))
          go_ret
          exact ⟨rfl, (Below.refl w.heap.size w).alloc (Nat.le_refl _) _⟩
      · rw [show Ward.boxMay ⟨pa, pb, pc, pd⟩ = false by rw [Ward.boxMay, Ward.coord_yes h1, Ward.coord_yes h2, Ward.coord_no h3]; rfl]
        have H1 := hide h1
        have H2 := hide h2
        have H3 := hide h3
        clear h1 h2 h3
        go_enter Tryz.func74, Tryz.ntmps74
        go_wp2_with (first | (go_at_call_of 32 (I pa); refine (isCoord_yes pa _ H1.out).mono ?_; rintro _ _ ⟨rfl, rfl⟩) | (go_at_call_of 32 (I pb); refine (isCoord_yes pb _ H2.out).mono ?_; rintro _ _ ⟨rfl, rfl⟩) | (go_at_call_of 32 (I pc); refine (isCoord_no pc _ H3.out).mono ?_; rintro _ _ ⟨rfl, rfl⟩))
        go_ret
        exact ⟨rfl, (Below.refl w.heap.size w).alloc (Nat.le_refl _) _⟩
    · rw [show Ward.boxMay ⟨pa, pb, pc, pd⟩ = false by rw [Ward.boxMay, Ward.coord_yes h1, Ward.coord_no h2]; rfl]
      have H1 := hide h1
      have H2 := hide h2
      clear h1 h2
      go_enter Tryz.func74, Tryz.ntmps74
      go_wp2_with (first | (go_at_call_of 32 (I pa); refine (isCoord_yes pa _ H1.out).mono ?_; rintro _ _ ⟨rfl, rfl⟩) | (go_at_call_of 32 (I pb); refine (isCoord_no pb _ H2.out).mono ?_; rintro _ _ ⟨rfl, rfl⟩))
      go_ret
      exact ⟨rfl, (Below.refl w.heap.size w).alloc (Nat.le_refl _) _⟩
  · rw [show Ward.boxMay ⟨pa, pb, pc, pd⟩ = false by rw [Ward.boxMay, Ward.coord_no h1]; rfl]
    have H1 := hide h1
    clear h1
    go_enter Tryz.func74, Tryz.ntmps74
    go_wp2_with (first | (go_at_call_of 32 (I pa); refine (isCoord_no pa _ H1.out).mono ?_; rintro _ _ ⟨rfl, rfl⟩))
    go_ret
    exact ⟨rfl, (Below.refl w.heap.size w).alloc (Nat.le_refl _) _⟩
set_option maxHeartbeats 4000000 in
theorem mayBe_any (q : Ward.Qr) (w : World) :
    Calls Tryz.prog 39 #[Qv q] w fun e w' => e = .returned (.bool (Ward.mayBe q)) ∧ Below w.heap.size w w' := by
  by_cases hk : q.kind = 0
  · rw [show Ward.mayBe q = Ward.boxMay (Ward.window q) by simp [Ward.mayBe, hk]]
    obtain ⟨qk, qa, qb, qc, qd, qx, qy, qn⟩ := q
    simp only at hk
    subst hk
    generalize hW : Ward.window ⟨0, qa, qb, qc, qd, qx, qy, qn⟩ = W
    have HW := hide hW
    clear hW
    go_enter Tryz.func39, Tryz.ntmps39
    go_wp2_with fail
    refine (windowOf_any ⟨0, qa, qb, qc, qd, qx, qy, qn⟩ _).mono ?_
    rintro _ w1 ⟨rfl, hb1⟩
    rw [HW.out]
    have HB1 := hide hb1
    clear hb1
    go_wp2_with fail
    refine (boxMay_any W _).mono ?_
    rintro _ w2 ⟨rfl, hb2⟩
    have HB2 := hide hb2
    clear hb2
    go_wp2
    go_ret
    have h1 : Below w.heap.size w w1 := ((Below.refl w.heap.size w).alloc (Nat.le_refl _) _).trans (HB1.out.mono (by simp))
    exact ⟨rfl, h1.trans (HB2.out.mono h1.size)⟩
  · by_cases hk1 : q.kind = 1
    · obtain ⟨qk, qa, qb, qc, qd, qx, qy, qn⟩ := q
      simp only at hk hk1
      subst hk1
      clear hk
      by_cases h1 : -1000000 ≤ qx ∧ qx ≤ 1000000
      · by_cases h2 : -1000000 ≤ qy ∧ qy ≤ 1000000
        · by_cases h3 : 1 ≤ qn
          · by_cases h4 : qn ≤ 20
            · rw [show Ward.mayBe ⟨1, qa, qb, qc, qd, qx, qy, qn⟩ = true by rw [Ward.mayBe, if_neg (show ¬ (1 : Int) = 0 by decide), if_pos rfl]; rw [Ward.coord_yes h1, Ward.coord_yes h2, decide_eq_true h3, decide_eq_true h4]; rfl]
              have H1 := hide h1
              have H2 := hide h2
              clear h1 h2
              go_enter Tryz.func39, Tryz.ntmps39
              go_wp2_with (first | (go_at_call_of 32 (I qx); refine (isCoord_yes qx _ H1.out).mono ?_; rintro _ _ ⟨rfl, rfl⟩) | (go_at_call_of 32 (I qy); refine (isCoord_yes qy _ H2.out).mono ?_; rintro _ _ ⟨rfl, rfl⟩))
              go_ret
              exact ⟨rfl, (Below.refl w.heap.size w).alloc (Nat.le_refl _) _⟩
            · rw [show Ward.mayBe ⟨1, qa, qb, qc, qd, qx, qy, qn⟩ = false by rw [Ward.mayBe, if_neg (show ¬ (1 : Int) = 0 by decide), if_pos rfl]; rw [Ward.coord_yes h1, Ward.coord_yes h2, decide_eq_true h3, decide_eq_false h4]; rfl]
              have H1 := hide h1
              have H2 := hide h2
              clear h1 h2
              go_enter Tryz.func39, Tryz.ntmps39
              go_wp2_with (first | (go_at_call_of 32 (I qx); refine (isCoord_yes qx _ H1.out).mono ?_; rintro _ _ ⟨rfl, rfl⟩) | (go_at_call_of 32 (I qy); refine (isCoord_yes qy _ H2.out).mono ?_; rintro _ _ ⟨rfl, rfl⟩))
              go_ret
              exact ⟨congrArg (fun b => Ending.returned (Value.bool b)) (decide_eq_false (Int.not_le.2 h4)), (Below.refl w.heap.size w).alloc (Nat.le_refl _) _⟩
          · rw [show Ward.mayBe ⟨1, qa, qb, qc, qd, qx, qy, qn⟩ = false by rw [Ward.mayBe, if_neg (show ¬ (1 : Int) = 0 by decide), if_pos rfl]; rw [Ward.coord_yes h1, Ward.coord_yes h2, decide_eq_false h3]; rfl]
            have H1 := hide h1
            have H2 := hide h2
            clear h1 h2
            go_enter Tryz.func39, Tryz.ntmps39
            go_wp2_with (first | (go_at_call_of 32 (I qx); refine (isCoord_yes qx _ H1.out).mono ?_; rintro _ _ ⟨rfl, rfl⟩) | (go_at_call_of 32 (I qy); refine (isCoord_yes qy _ H2.out).mono ?_; rintro _ _ ⟨rfl, rfl⟩))
            go_ret
            exact ⟨rfl, (Below.refl w.heap.size w).alloc (Nat.le_refl _) _⟩
        · rw [show Ward.mayBe ⟨1, qa, qb, qc, qd, qx, qy, qn⟩ = false by rw [Ward.mayBe, if_neg (show ¬ (1 : Int) = 0 by decide), if_pos rfl]; rw [Ward.coord_yes h1, Ward.coord_no h2]; rfl]
          have H1 := hide h1
          have H2 := hide h2
          clear h1 h2
          go_enter Tryz.func39, Tryz.ntmps39
          go_wp2_with (first | (go_at_call_of 32 (I qx); refine (isCoord_yes qx _ H1.out).mono ?_; rintro _ _ ⟨rfl, rfl⟩) | (go_at_call_of 32 (I qy); refine (isCoord_no qy _ H2.out).mono ?_; rintro _ _ ⟨rfl, rfl⟩))
          go_ret
          exact ⟨rfl, (Below.refl w.heap.size w).alloc (Nat.le_refl _) _⟩
      · rw [show Ward.mayBe ⟨1, qa, qb, qc, qd, qx, qy, qn⟩ = false by rw [Ward.mayBe, if_neg (show ¬ (1 : Int) = 0 by decide), if_pos rfl]; rw [Ward.coord_no h1]; rfl]
        have H1 := hide h1
        clear h1
        go_enter Tryz.func39, Tryz.ntmps39
        go_wp2_with (first | (go_at_call_of 32 (I qx); refine (isCoord_no qx _ H1.out).mono ?_; rintro _ _ ⟨rfl, rfl⟩))
        go_ret
        exact ⟨rfl, (Below.refl w.heap.size w).alloc (Nat.le_refl _) _⟩
    · rw [show Ward.mayBe q = false by simp [Ward.mayBe, hk, hk1]]
      go_enter Tryz.func39, Tryz.ntmps39
      go_wp2
      go_ret
      exact ⟨rfl, (Below.refl w.heap.size w).alloc (Nat.le_refl _) _⟩
end Go.Proofs.YtenaelkbgkpllaaGreatDoor
/- A node's text. -/
namespace Go.Proofs.YtenaelkbgkpllaaGreatDoor
open Go.RowKit

/-- what the laws for a row ask of a node's cells -/
structure Row39 (V : List Value) : Prop where
  len : V.length = 39
  one : V.toArray.all (·.oneCell') = true
  info : (Tryz.prog.info? 90).map (·.size) = some V.toArray.size
  infl : (Tryz.prog.info? 90).map (·.size) = some V.length
  size : V.toArray.size = 39
theorem nodeV_row {a : Option Addr} {l c : Nat} {a' : Option Addr} {l' c' : Nat} {b : Ward.Box} {n : Int} {D : List UInt8} (hD : D.length = 32) : Row39 (nodeV (.slice a l c) (.slice a' l' c') b n (D.map Y)) := by
  have h : (nodeV (.slice a l c) (.slice a' l' c') b n (D.map Y)).length = 39 := by simp [nodeV, hD]
  exact ⟨h, nodeV_one rfl rfl (fun v hv => by obtain ⟨x, _, rfl⟩ := List.mem_map.1 hv; rfl), by rw [List.size_toArray, h]; exact Tryz.infoNode, by rw [h]; exact Tryz.infoNode, by rw [List.size_toArray, h]⟩
theorem textK_two (n : Nat) (K : List (Ward.NT n)) : Ward.textK n K = [2, UInt8.ofNat K.length] ++ K.flatMap (Ward.saidN n) := rfl
theorem said_len {w : World} {S : Nat → Prop} {n : Nat} {t : Ward.NT n} {V : List Value} (h : NodeIs w S n t V) : (Ward.saidN n t).length = 52 := by
  obtain ⟨_, _, _, _, _, _, _, hd⟩ := h.cells
  simp [Ward.saidN, Ward.boxText_len, Ward.fourI_len, hd]
theorem flat_len {α β : Type} {f : α → List β} {c : Nat} : ∀ {l : List α}, (∀ x ∈ l, (f x).length = c) → (l.flatMap f).length = c * l.length
  | [], _ => by simp
  | x :: l, h => by
    rw [List.flatMap_cons, List.length_append, flat_len (l := l) fun y hy => h y (by simp [hy]), h x (by simp), List.length_cons, Nat.mul_succ]; omega
theorem take_said_len {w : World} {S : Nat → Prop} {n : Nat} {K : List (Ward.NT n)} (h : ∀ i (h : i < K.length), ∃ U, NodeIs w S n K[i] U) (i : Nat) : ((K.take i).flatMap (Ward.saidN n)).length ≤ 52 * K.length := by
  rw [flat_len (c := 52) fun t ht => by
    obtain ⟨j, hj, rfl⟩ := List.getElem_of_mem (List.mem_of_mem_take ht)
    obtain ⟨U, hU⟩ := h j hj
    exact said_len hU]
  exact Nat.mul_le_mul_left _ (by rw [List.length_take]; omega)
set_option maxRecDepth 100000 in
set_option maxHeartbeats 2000000 in
theorem nodeText_any (vc : Value) (n : Nat) (K : List (Ward.NT n)) (w : World) (S : Nat → Prop) (hS : ∀ g, S g → g < w.heap.size) (hK : K.length ≤ 4) (hk : RowsAt (NodeIs w S n) w S vc K) :
    Calls Tryz.prog 143 #[vc] w fun e w' => e = .returned (Sv (Ward.textK n K)) ∧ Below w.heap.size w w' := by
  obtain ⟨ap, cp, rfl, hrd⟩ := hk
  have HRD := hide hrd
  clear hrd
  have hB1 := (Below.refl w.heap.size w).alloc (Nat.le_refl _) (.cells #[.int .u8 2, .int .u8 K.length] 5)
  have hO1 : OwnB (w.alloc (.cells #[.int .u8 2, .int .u8 K.length] 5)) w.heap.size (.slice (some ⟨w.heap.size, 0, none⟩) 2 2) [2, UInt8.ofNat K.length] := by
    have hkk : (UInt8.ofNat K.length).toNat = K.length := by rw [UInt8.toNat_ofNat']; omega
    have h := World.ownsRow_lit (base := w.heap.size) (e := 5) (size := 1) w #[.int .u8 2, .int .u8 K.length] 2 (Nat.le_refl _) (by decide) rfl
    have e : [2, UInt8.ofNat K.length].map Y = [.int .u8 2, .int .u8 K.length] := by simp [Y, hkk]
    unfold OwnB
    rw [e]
    exact h
  have HB1 := hide hB1
  have HO1 := hide hO1
  clear hB1 hO1
  obtain ⟨fs, hu⟩ := underNode
  have HU := hide hu
  clear hu
  go_enter Tryz.func143, Tryz.ntmps143
  go_wp2_with fail
  go_loopg [3, 12] K.length (fun gk v3 v12 wq => ∃ i : Nat, gk = K.length - i ∧ v12 = I i ∧ i ≤ K.length ∧ OwnB wq w.heap.size v3 ([2, UInt8.ofNat K.length] ++ (K.take i).flatMap (Ward.saidN n)) ∧ Below w.heap.size w wq)
  case atStart => exact ⟨0, by omega, rfl, by omega, by simpa using HO1.out, HB1.out⟩
  case round =>
    clear HO1 HB1
    obtain ⟨i, hgk, rfl, hi, ho, hb⟩ := hrel
    have HGK := hide hgk
    have HO := hide ho
    have HB := hide hb
    clear hgk ho hb
    by_cases hlt : i < K.length
    · obtain ⟨g, o, rfl, hgS, hrows⟩ := HRD.out (fun e => by subst e; simp at hlt)
      have hgB := hS g hgS
      clear hgS
      obtain ⟨U, hU, hc⟩ := hrows i hlt
      have HT := hide (show (K.take (i + 1)).flatMap (Ward.saidN n) = (K.take i).flatMap (Ward.saidN n) ++ Ward.saidN n K[i] from flat_step (Ward.saidN n) K i hlt)
      have hlen : ((K.take i).flatMap (Ward.saidN n)).length ≤ 208 := Nat.le_trans (take_said_len (fun j hj => ⟨_, (hrows j hj).choose_spec.1⟩) i) (by omega)
      have HC := hide (rangeAt_below hc HB.out hgB)
      obtain ⟨a1, l1, c1, a2, l2, c2, hV, hd⟩ := hU.cells
      have HR := hide (show Row39 U by rw [hV]; exact nodeV_row hd)
      have hs : Ward.saidN n K[i] = childT (Ward.boxN n K[i]) (Ward.numN n K[i]) (Ward.digN n K[i]) := (childT_said _ _ _).symm
      have HA := hide (fun (v : Value) (l : List UInt8) (w2 : World) (hB : w.heap.size ≤ w2.heap.size) (hx : l.length ≤ 700000) (hown : OwnB w2 w.heap.size v l) => by
        have h := appendChild_any v l (.slice a1 l1 c1) (.slice a2 l2 c2) (Ward.boxN n K[i]) (Ward.numN n K[i]) (Ward.digN n K[i]) w2 w.heap.size hB hx hd hown
        rw [← hV, ← hs] at h
        exact h)
      clear hs hV hd hc hU hrows
      generalize Ward.saidN n K[i] = Sd at *
      generalize (K.take i).flatMap (Ward.saidN n) = N at *
      have hsz := HB.out.size
      go_wp2_with (first | (refine wpList_load_mid rfl 90 (.tmp 14) rfl g (o + i * 39) rfl U (.struct fs) HC.out HU.out rfl HR.out.infl ?_) | (refine wpList_store_row rfl 90 (.tmp 5) (.tmp 15) rfl wr.heap.size U.toArray rfl rfl 90 _ (heap_alloc_new wr _) HR.out.info (by rw [HR.out.size]; rfl) HR.out.one ?_; rw [World.setRow_alloc_new]) | (refine wpList_load_row rfl 90 (.tmp 5) rfl wr.heap.size rfl 90 U.toArray (0, 0) (.struct fs) (heap_alloc_new wr _) HU.out rfl HR.out.info ?_))
      have hb2 : Below wr.heap.size wr (wr.alloc (.cells U.toArray 90)) := (Below.refl wr.heap.size wr).alloc (Nat.le_refl _) _
      refine (HA.out _ _ _ (Nat.le_trans hsz hb2.size) (by simp; omega) (HO.out.below hb2)).mono ?_
      intro e w3 h3
      obtain ⟨v3, rfl, ho3, hg3, hf3⟩ := h3.lift hb2
      have HO3 := hide ho3
      have HB3 := hide (HB.out.grown hg3 hsz (fun k hk => (HO.out.lt hk).1))
      clear ho3 hg3 hf3 h3 hb2
      go_wp2_with fail
      go_roundg (K.length - (i + 1))
      case measure => have := HGK.out; omega
      case rel => exact ⟨i + 1, rfl, by go_num, hlt, by
        have h := HO3.out
        rw [HT.out, ← List.append_assoc]
        exact h, HB3.out⟩
    · have ei : i = K.length := by omega
      subst ei
      rw [List.take_length, ← textK_two] at HO
      have hc := HO.out.conv (by simp [Ward.textK])
      generalize hT : Ward.textK n K = T at *
      have HT := hide hT
      clear hT
      go_wp2
      go_ret
      exact ⟨by rw [HT.out]; rfl, HB.out⟩
end Go.Proofs.YtenaelkbgkpllaaGreatDoor
/- A node made of children. -/
namespace Go.Proofs.YtenaelkbgkpllaaGreatDoor
open Go.RowKit

theorem node_num {w : World} {g : Nat} {vp vc : Value} {b : Ward.Box} {n : Int} {t : List Value} {ty : Nat} (c : Int) (h : w.heap[g]? = some (.cells (nodeV vp vc b n t).toArray ty (0, 0))) :
    (w.setCell ⟨g, 6, none⟩ (I c)).heap[g]? = some (.cells (nodeV vp vc b c t).toArray ty (0, 0)) := by
  have h1 := heap_setCell_same w g 6 _ ty (I c) h
  rw [List.setIfInBounds_toArray] at h1
  exact h1
theorem range_box {w : World} {g o : Nat} {vp vc : Value} {b : Ward.Box} {n : Int} {t : List Value} (h : w.rangeAt g o (nodeV vp vc b n t)) : w.rangeAt g (o + 2) [I b.a, I b.b, I b.c, I b.d] := fun j v hv => by
  rw [Nat.add_assoc]
  refine h (2 + j) v ?_
  match j, hv with
  | 0, hv => exact hv
  | 1, hv => exact hv
  | 2, hv => exact hv
  | 3, hv => exact hv
theorem sum_le {l : List Int} (h : ∀ x ∈ l, 0 ≤ x ∧ x ≤ 1000000) : 0 ≤ l.sum ∧ l.sum ≤ 1000000 * l.length := by
  induction l with
  | nil => simp
  | cons x l ih =>
    have h1 := h x (by simp)
    have h2 := ih fun y hy => h y (by simp [hy])
    rw [List.sum_cons, List.length_cons]
    omega
theorem sum_step (l : List Int) (i : Nat) (h : i < l.length) : (l.take (i + 1)).sum = (l.take i).sum + l[i] := by
  rw [List.take_succ_eq_append_getElem h, List.sum_append]; simp
theorem boxes_other {w : World} {g k : Nat} {c : Ward.Box} {m : Int} (h : k ≠ g) : (((((w.setCell ⟨g, 2, none⟩ (I c.a)).setCell ⟨g, 3, none⟩ (I c.b)).setCell ⟨g, 4, none⟩ (I c.c)).setCell ⟨g, 5, none⟩ (I c.d)).setCell ⟨g, 6, none⟩ (I m)).heap[k]? = w.heap[k]? := by
  rw [Below.heap_setCell _ _ _ _ h, box_other h]
set_option maxRecDepth 100000 in
set_option maxHeartbeats 4000000 in
theorem nodeOf_any (vc : Value) (n : Nat) (K : List (Ward.NT n)) (w : World) (S : Nat → Prop) (hS : ∀ g, S g → g < w.heap.size) (h0 : K ≠ []) (hK : K.length ≤ 4) (hk : RowsAt (NodeIs w S n) w S vc K) (hnum : ∀ t ∈ K, 0 ≤ Ward.numN n t ∧ Ward.numN n t ≤ 1000000) (hKT : KT w) :
    Calls Tryz.prog 113 #[vc] w fun e w' => e = .returned (.agg (nodeV (.slice none 0 0) vc (Ward.boxL (K.map (Ward.boxN n))) ((K.map (Ward.numN n)).sum) ((Sha.sha (Ward.textK n K)).map Y)).toArray) ∧ Below w.heap.size w w' := by
  have HP := hide hk
  have HK := hide hKT
  obtain ⟨ap, cp, rfl, hrd⟩ := hk
  obtain ⟨g, o, rfl, hgS, hrows⟩ := hrd h0
  have hgB := hS g hgS
  have HSS := hide hS
  clear hgS hS
  have HRD := hide hrows
  have h1 : 0 < K.length := List.length_pos_iff.2 h0
  have hrow0 := hrows 0 h1
  rw [Nat.zero_mul, Nat.add_zero] at hrow0
  obtain ⟨U0, hU0, hc0⟩ := hrow0
  have hq := fun i => sum_le (l := (K.map (Ward.numN n)).take i) (fun x hx => by
    obtain ⟨t, ht, rfl⟩ := List.mem_map.1 (List.mem_of_mem_take hx)
    exact hnum t ht)
  have HQ := hide hq
  have HNUM := hide hnum
  have HE0 := hide (show accBox (K.map (Ward.boxN n)) 0 = Ward.boxN n K[0] by
    obtain ⟨q, K', rfl⟩ : ∃ q K', K = q :: K' := by cases K with | nil => exact absurd rfl h0 | cons q K' => exact ⟨q, K', rfl⟩
    rfl)
  obtain ⟨a1, l1, c1, a2, l2, c2, hV, hd⟩ := hU0.cells
  subst hV
  have HC0 := hide (range_box hc0)
  clear hU0 hc0 hd hrows hrd hKT hq hnum
  generalize hb0 : Ward.boxN n K[0] = b0 at *
  have HB0 := hide hb0
  clear hb0
  obtain ⟨fs, hu⟩ := underNode
  have HU := hide hu
  clear hu
  go_enter Tryz.func113, Tryz.ntmps113
  go_upto_region 1 with fail
  have HC1 := hide (fun ob => rangeAt_below HC0.out ((Below.refl w.heap.size w).alloc (Nat.le_refl _) ob) hgB)
  go_upto_region 2 with (first | (refine wpList_load_mid rfl 88 (.tmp 9) rfl g (o + 2) rfl [I b0.a, I b0.b, I b0.c, I b0.d] _ (HC1.out _) Tryz.underlying88 rfl Tryz.infoBox ?_) | (refine wpList_store_row rfl 90 (.tmp 3) (.tmp 11) rfl (w.heap.size + 1) (nodeV (.slice none 0 0) (.slice (some ⟨g, o, none⟩) K.length cp) b0 0 zero32).toArray rfl rfl 90 _ (heap_alloc2_new w _ _) Tryz.infoNode rfl (nodeV_one rfl rfl zero32_one) ?_))
  rw [setRow_alloc2]
  have hb2 := fun o o' => ((Below.refl w.heap.size w).alloc (Nat.le_refl _) o).alloc (by simp) o'
  have hr2 := heap_alloc2_new w
  have hr1 := heap_alloc2_old w
  generalize hW : World.alloc (World.alloc w _) _ = w1
  have hb1 : Below w.heap.size w w1 := by rw [← hW]; exact hb2 _ _
  have hz1 : w1.heap[w.heap.size]? = some (.cells (nodeV (.slice none 0 0) (.slice none 0 0) ⟨0, 0, 0, 0⟩ 0 zero32).toArray 90 (0, 0)) := by rw [← hW]; exact hr1 _ _
  have hn1 : w1.heap[w.heap.size + 1]? = some (.cells (nodeV (.slice none 0 0) (.slice (some ⟨g, o, none⟩) K.length cp) b0 0 zero32).toArray 90 (0, 0)) := by rw [← hW]; exact hr2 _ _
  clear hb2 hr2 hr1 hW HC1 HC0
  generalize Value.agg _ = x10
  generalize Value.agg _ = x11
  have HZ1 := hide hz1
  have HN1 := hide hn1
  have HB1 := hide hb1
  clear hz1 hn1 hb1
  have hlb : (K.length : Int) ≤ 4 := by omega
  go_wp2_with fail
  go_loopg [14] K.length (fun gk v14 wq => ∃ i : Nat, gk = K.length - i ∧ v14 = I i ∧ i ≤ K.length ∧ wq.heap[w.heap.size]? = some (.cells (nodeV (.slice none 0 0) (.slice none 0 0) ⟨0, 0, 0, 0⟩ 0 zero32).toArray 90 (0, 0)) ∧ wq.heap[w.heap.size + 1]? = some (.cells (nodeV (.slice none 0 0) (.slice (some ⟨g, o, none⟩) K.length cp) (accBox (K.map (Ward.boxN n)) i) (((K.map (Ward.numN n)).take i).sum) zero32).toArray 90 (0, 0)) ∧ Below w.heap.size w wq)
  case atStart => exact ⟨0, by omega, rfl, by omega, HZ1.out, by rw [HE0.out]; exact HN1.out, HB1.out⟩
  case round =>
    clear HZ1 HN1 HB1 HE0
    obtain ⟨i, hgk, rfl, hi, hz, hn, hb⟩ := hrel
    have HGK := hide hgk
    have HZ := hide hz
    have HN := hide hn
    have HB := hide hb
    clear hgk hz hn hb
    by_cases hlt : i < K.length
    · obtain ⟨U, hU, hc⟩ := HRD.out i hlt
      have HC := hide (rangeAt_below hc HB.out hgB)
      obtain ⟨a3, l3, c3, a4, l4, c4, hV, hd⟩ := hU.cells
      have HR := hide (show Row39 U by rw [hV]; exact nodeV_row hd)
      have HE := hide (show accBox (K.map (Ward.boxN n)) (i + 1) = Ward.join (accBox (K.map (Ward.boxN n)) i) (Ward.boxN n K[i]) by
        rw [accBox_step _ _ (by simpa using hlt), List.getElem_map])
      have HS := hide (show ((K.map (Ward.numN n)).take (i + 1)).sum = ((K.map (Ward.numN n)).take i).sum + Ward.numN n K[i] by
        rw [sum_step _ _ (by simpa using hlt), List.getElem_map])
      obtain ⟨hs1, hs2'⟩ := HQ.out i
      have hs2 : ((K.map (Ward.numN n)).take i).sum ≤ 4000000 := by
        have : (((K.map (Ward.numN n)).take i).length : Int) ≤ 4 := by rw [List.length_take, List.length_map]; omega
        omega
      obtain ⟨hx1, hx2⟩ := HNUM.out K[i] (List.getElem_mem hlt)
      have HV := hide hV
      generalize Ward.numN n K[i] = x at *
      generalize Ward.boxN n K[i] = bi at *
      generalize (Ward.digN n K[i]).map Y = Di at *
      generalize ((K.map (Ward.numN n)).take i).sum = s at *
      generalize accBox (K.map (Ward.boxN n)) i = b at *
      clear hV hd hc hU hs2'
      go_upto_region 5 with (first | (refine wpList_load_mid rfl 90 (.tmp 16) rfl g (o + i * 39) rfl U (.struct fs) HC.out HU.out rfl HR.out.infl ?_) | (refine wpList_store_row rfl 90 (.tmp 5) (.tmp 17) rfl wr.heap.size U.toArray rfl rfl 90 _ (heap_alloc_new wr _) HR.out.info (by rw [HR.out.size]; rfl) HR.out.one ?_; rw [World.setRow_alloc_new]))
      have hb5' := (Below.refl wr.heap.size wr).alloc (Nat.le_refl _) (.cells U.toArray 90)
      have hr5' := heap_alloc_new wr (.cells U.toArray 90)
      have hs5' : (wr.alloc (.cells U.toArray 90)).heap.size = wr.heap.size + 1 := by simp
      generalize wr.alloc (.cells U.toArray 90) = w5 at *
      rw [HV.out] at hr5'
      have hnlt : w.heap.size + 1 < wr.heap.size := (Array.getElem?_eq_some_iff.1 HN.out).1
      have hn5 := (hb5'.block (w.heap.size + 1) hnlt).trans HN.out
      have HZ5 := hide ((hb5'.block w.heap.size (by omega)).trans HZ.out)
      have HB5 := hide (HB.out.trans (hb5'.mono (by omega)))
      have HN5 := hide hn5
      have HR5 := hide hr5'
      have HS5 := hide hs5'
      obtain ⟨-, ⟨a1, a2, a3, a4⟩, -⟩ := node_cells hn5
      obtain ⟨-, ⟨e1, e2, e3, e4⟩, -⟩ := node_cells hr5'
      clear hn5 hr5' hb5' hs5'
      go_wp2_with fail
      refine (join_any2 b bi _).mono ?_
      rintro _ w6 ⟨rfl, hb6⟩
      have hs6 := hb6.size
      have hs5 := HS5.out
      have hn6 := (hb6.block (w.heap.size + 1) (by omega)).trans HN5.out
      have hr6 := (hb6.block wr.heap.size (by omega)).trans HR5.out
      have HZ6 := hide ((hb6.block w.heap.size (by omega)).trans HZ5.out)
      have HB6 := hide (HB5.out.trans (hb6.mono (by omega)))
      obtain ⟨-, ⟨n1, n2, n3, n4⟩, -⟩ := node_cells hn6
      have f1 : w6.frozen? ⟨w.heap.size + 1, 2, none⟩ = false := frozen_of_row _ _ _ _ _ hn6
      have f2 : w6.frozen? ⟨w.heap.size + 1, 3, none⟩ = false := frozen_of_row _ _ _ _ _ hn6
      have f3 : w6.frozen? ⟨w.heap.size + 1, 4, none⟩ = false := frozen_of_row _ _ _ _ _ hn6
      have f4 : w6.frozen? ⟨w.heap.size + 1, 5, none⟩ = false := frozen_of_row _ _ _ _ _ hn6
      have HN6 := hide hn6
      have HR6 := hide hr6
      have HL := hide hnlt
      clear hn6 hr6 hb6 hs6 hs5 hnlt
      unfold Bx
      go_upto_region 6 with fail
      have hn7' := node_box (Ward.join b bi) HN6.out
      have hr7' := (box_other (w := w6) (g := w.heap.size + 1) (k := wr.heap.size) (c := Ward.join b bi) (by have := HL.out; omega)).trans HR6.out
      have hz7' := (box_other (w := w6) (g := w.heap.size + 1) (k := w.heap.size) (c := Ward.join b bi) (by omega)).trans HZ6.out
      have hb7' : Below w.heap.size w ((((w6.setCell ⟨w.heap.size + 1, 2, none⟩ (I (Ward.join b bi).a)).setCell ⟨w.heap.size + 1, 3, none⟩ (I (Ward.join b bi).b)).setCell ⟨w.heap.size + 1, 4, none⟩ (I (Ward.join b bi).c)).setCell ⟨w.heap.size + 1, 5, none⟩ (I (Ward.join b bi).d)) := (((HB6.out.setCell (by simp) _).setCell (by simp) _).setCell (by simp) _).setCell (by simp) _
      generalize ((((w6.setCell ⟨w.heap.size + 1, 2, none⟩ (I (Ward.join b bi).a)).setCell ⟨w.heap.size + 1, 3, none⟩ (I (Ward.join b bi).b)).setCell ⟨w.heap.size + 1, 4, none⟩ (I (Ward.join b bi).c)).setCell ⟨w.heap.size + 1, 5, none⟩ (I (Ward.join b bi).d)) = w7 at *
      obtain ⟨-, -, m1⟩ := node_cells hn7'
      obtain ⟨-, -, m2⟩ := node_cells hr7'
      have f5 : w7.frozen? ⟨w.heap.size + 1, 6, none⟩ = false := frozen_of_row _ _ _ _ _ hn7'
      have HN7 := hide hn7'
      have HZ7 := hide hz7'
      have HB7 := hide hb7'
      clear hn7' hr7' hz7' hb7' a1 a2 a3 a4 e1 e2 e3 e4 n1 n2 n3 n4 f1 f2 f3 f4
      go_wp2_with fail
      go_roundg (K.length - (i + 1))
      case measure => have := HGK.out; omega
      case rel =>
        refine ⟨i + 1, rfl, by go_num, hlt, (Below.heap_setCell _ _ _ _ (show w.heap.size ≠ w.heap.size + 1 by omega)).trans HZ7.out, ?_, HB7.out.setCell (by simp) _⟩
        rw [HE.out, HS.out]
        exact node_num (s + x) HN7.out
    · have ei : i = K.length := by omega
      subst ei
      have HE := hide (show accBox (K.map (Ward.boxN n)) K.length = Ward.boxL (K.map (Ward.boxN n)) by
        have h := accBox_all (K.map (Ward.boxN n))
        rw [List.length_map] at h
        exact h)
      have HS := hide (show (K.map (Ward.numN n)).take K.length = K.map (Ward.numN n) by
        rw [List.take_of_length_le (by simp)])
      rw [HE.out, HS.out] at HN
      have hnlt : w.heap.size + 1 < wr.heap.size := (Array.getElem?_eq_some_iff.1 HN.out).1
      have hsame : Same S w wr := below_same HB.out HSS.out
      have HRR := hide (show RowsAt (NodeIs wr S n) wr S (.slice (some ⟨g, o, none⟩) K.length cp) K from HP.out.keep hsame (fun _ h => h) (NodeIs.keep hsame (fun _ h => h) n))
      clear hsame
      have HD := hide (dig_of (Ward.textK n K))
      have HTL := hide (show (⟨(Ward.textK n K).toArray⟩ : ByteArray).size ≤ 140737488355327 by
        show (Ward.textK n K).toArray.size ≤ _
        have h := take_said_len (K := K) (fun j hj => ⟨_, (HRD.out j hj).choose_spec.1⟩) K.length
        rw [List.take_length] at h
        rw [List.size_toArray, textK_two, List.length_append]
        show 2 + _ ≤ _
        omega)
      generalize hBx : Ward.boxL (K.map (Ward.boxN n)) = b at *
      generalize hSm : (K.map (Ward.numN n)).sum = s at *
      have HBX := hide hBx
      have HSM := hide hSm
      clear HE HS HP hBx hSm HQ HNUM
      go_wp2_with fail
      refine (nodeText_any _ n K _ S (fun g hg => Nat.lt_of_lt_of_le (HSS.out g hg) HB.out.size) hK HRR.out).mono ?_
      rintro _ w2 ⟨rfl, hb2⟩
      have HB2 := hide hb2
      have hs2 := hb2.size
      clear hb2
      go_wp2_with fail
      refine (of_any _ _ HTL.out (HK.out.below (HB.out.trans (HB2.out.mono (by omega))))).mono ?_
      rintro _ w3 ⟨rfl, hb3⟩
      rw [show (⟨(Ward.textK n K).toArray⟩ : ByteArray).data.toList = Ward.textK n K from rfl]
      generalize hDe : (Sha.sha (Ward.textK n K)).map Y = D at *
      have HDE := hide hDe
      clear hDe
      have hs3 := hb3.size
      have hn3 := (hb3.block (w.heap.size + 1) (by omega)).trans ((HB2.out.block (w.heap.size + 1) (by omega)).trans HN.out)
      have HZ3 := hide ((hb3.block w.heap.size (by omega)).trans ((HB2.out.block w.heap.size (by omega)).trans HZ.out))
      have HB3 := hide ((HB.out.trans (HB2.out.mono (by omega))).trans (hb3.mono (by omega)))
      have HN3 := hide hn3
      clear hb3 hn3
      have HT := hide (there_row HN3.out 7 D.toArray.size (by rw [HD.out.size, nodeV_size (by rfl)]; decide))
      have HN4 := hide (show (w3.setCells (w.heap.size + 1) 7 D).heap[w.heap.size + 1]? = some (.cells (nodeV (.slice none 0 0) (.slice (some ⟨g, o, none⟩) K.length cp) b s D).toArray 90 (0, 0)) from node_digest (by rfl) HD.out.len HN3.out)
      have HZ4 := hide ((setCells_other (show w.heap.size ≠ w.heap.size + 1 by omega) D 7 w3).trans HZ3.out)
      have HB4 := hide (below_setCellsN (show w.heap.size ≤ w.heap.size + 1 by omega) D 7 w3 HB3.out)
      have HO := hide (nodeV_one (vp := .slice none 0 0) (vc := .slice (some ⟨g, o, none⟩) K.length cp) (b := b) (n := s) (t := D) rfl rfl (fun v hv => (Array.all_eq_true_iff_forall_mem.1 HD.out.one) v (by simpa using hv)))
      have HI := hide (nodeV_info (vp := .slice none 0 0) (vc := .slice (some ⟨g, o, none⟩) K.length cp) (b := b) (n := s) HD.out.len)
      have HS := hide (show (nodeV (.slice none 0 0) (.slice none 0 0) ⟨0, 0, 0, 0⟩ 0 zero32).toArray.size = (nodeV (.slice none 0 0) (.slice (some ⟨g, o, none⟩) K.length cp) b s D).toArray.size by rw [nodeV_size HD.out.len, nodeV_size (by rfl)])
      have HI22 := hide HD.out.info
      have HO22 := hide HD.out.one
      generalize hM : (nodeV (.slice none 0 0) (.slice (some ⟨g, o, none⟩) K.length cp) b s D).toArray = M at *
      have HM := hide hM
      clear hM
      go_wp2_with (first | (refine wpList_store_mid rfl 39 (.tmp 34) (.tmp 33) rfl (w.heap.size + 1) 7 D.toArray rfl rfl HT.out HI22.out HO22.out ?_) | (refine wpList_load_row rfl 90 (.tmp 3) rfl (w.heap.size + 1) rfl 90 M (0, 0) (.struct fs) HN4.out HU.out rfl HI.out ?_) | (refine wpList_store_row rfl 90 (.tmp 2) (.tmp 35) rfl w.heap.size M rfl rfl 90 _ HZ4.out HI.out HS.out HO.out ?_))
      refine bodyPost_ret (v := .agg M) ?_ rfl ⟨by rw [← HM.out, ← HBX.out, ← HSM.out, ← HDE.out], below_setRow HB4.out (Nat.le_refl _) _⟩
      exact results_cell_row rfl _ _ w.heap.size 90 M (0, 0) (.struct fs) rfl (setRow_heap _ _ _ _ _ _ HZ4.out) HU.out rfl HI.out
end Go.Proofs.YtenaelkbgkpllaaGreatDoor
/- One level of nodes above another: the parts. -/
namespace Go.Proofs.YtenaelkbgkpllaaGreatDoor
open Go.RowKit

def zeroNode : Value := .agg (nodeV (.slice none 0 0) (.slice none 0 0) ⟨0, 0, 0, 0⟩ 0 zero32).toArray
theorem Tryz.infoNodeZ : (Tryz.prog.info? 90).map (fun i => (i.zero, i.size, i.bytes)) = some (some zeroNode, 39, 120) := by kernel_rfl
theorem fill_one {s : Nat} (hs : 0 < s) (M cells : Array Value) (hM : M.size = s) (hc : cells.size = s) : Instr.fill (fun i => some (i * s, s)) cells [(0, .agg M)] = some M := by
  obtain ⟨r, hr, hsz, hk⟩ := Great.fill_dense hs [.agg M] 0 cells (fun v hv => by rw [List.mem_singleton.1 hv]; exact hM) (by simp; omega)
  have e : r = M := by
    apply Array.ext_getElem?
    intro k
    rw [hk k]
    by_cases h : k < s
    · rw [if_pos (by simp; omega), Nat.div_eq_of_lt h, Nat.mod_eq_of_lt h]; rfl
    · rw [if_neg (by simp; omega), Array.getElem?_eq_none (by omega), Array.getElem?_eq_none (by omega)]
  subst e
  exact hr
theorem ownsRow_below {w w' : World} {B e size n : Nat} {v : Value} {xs : List Value} (h : w.ownsRow B e size v n xs) (hb : Below w.heap.size w w') : w'.ownsRow B e size v n xs := by
  refine ⟨h.1, ?_⟩
  rcases h.2 with h0 | ⟨g, cap, cur, rfl, hB, hg, r⟩
  · exact .inl h0
  · exact .inr ⟨g, cap, cur, rfl, hB, (hb.block g (Array.getElem?_eq_some_iff.1 hg).1).trans hg, r⟩
/-- a node put behind others -/
theorem append_node {w : World} {B : Nat} {v : Value} {n : Nat} {xs : List Value} (M : List Value) (hM : Row39 M) (hown : w.ownsRow B 90 39 v n xs) (hB : B ≤ w.heap.size) (hn : n ≤ 1000) :
    ∃ v' w', (Builtin.append_ #[86, 86] 86 #[v, .slice (some ⟨w.heap.size, 0, none⟩) 1 1]).run Tryz.prog (w.alloc (.cells M.toArray 90)) = .ok v' w' ∧ w'.ownsRow B 90 39 v' (n + 1) (xs ++ M) ∧ w.grownBy w' v.ownBlock ∧ Fresh w v v' := by
  obtain ⟨i0, hi0, hz0, hz1, hz2⟩ := info_parts Tryz.infoNodeZ
  obtain ⟨v', w', hr, ho, hg, hf⟩ := run_append_own2 (P := Tryz.prog) (w.alloc (.cells M.toArray 90)) B 86 86 90 i0 zeroNode 39 120 Tryz.underlying86 hi0 hz0 hz1 hz2 (nodeV_size (by rfl)) (by decide) v n xs (hown.alloc _) ⟨w.heap.size, 0, none⟩ 1 1 M (by rw [hM.len])
    (fun j u hj => by rw [Addr.add_lit, Nat.zero_add, cell_of_row _ _ _ _ _ _ (heap_alloc_new w _), List.getElem?_toArray]; exact hj)
    (fun u hu => Array.all_eq_true_iff_forall_mem.1 hM.one u (by simpa using hu)) (by unfold maxLen; omega) (by omega) (by simp; omega)
  refine ⟨v', w', hr, ho, ⟨hg.os, hg.tape, hg.output, Nat.le_trans (by simp) hg.size, fun j hj hne => (hg.block j (by simp; omega) hne).trans (Below.heap_alloc w _ j hj)⟩, ?_⟩
  rcases hf with hf | ⟨g, hf, hgs⟩
  · exact .inl hf
  · exact .inr ⟨g, hf, Nat.le_trans (by simp) hgs⟩
theorem flat_get {c : Nat} : ∀ (Us : List (List Value)) (j i : Nat), (∀ U ∈ Us, U.length = c) → i < c → Us.flatten[j * c + i]? = (Us[j]?).bind (fun U => U[i]?)
  | [], j, i, _, _ => by simp
  | U :: Us, 0, i, h, hi => by
    rw [List.flatten_cons, Nat.zero_mul, Nat.zero_add, List.getElem?_append_left (by rw [h U (by simp)]; exact hi)]
    rfl
  | U :: Us, j + 1, i, h, hi => by
    have hU := h U (by simp)
    have e : (j + 1) * c + i = c + (j * c + i) := by rw [Nat.succ_mul]; omega
    rw [List.flatten_cons, e, List.getElem?_append_right (by omega), hU, Nat.add_sub_cancel_left, flat_get Us j i (fun V hV => h V (by simp [hV])) hi]
    rfl
/-- a level of the tree: nodes in a row -/
def Level (w : World) (S : Nat → Prop) (v : Value) (n : Nat) (K : List (Ward.NT n)) : Prop := RowsAt (NodeIs w S n) w S v K ∧ ∃ a c, v = .slice a K.length c ∧ K.length ≤ c ∧ c ≤ maxLen
theorem level_of_own {w : World} {S : Nat → Prop} {B n m : Nat} {v : Value} {K : List (Ward.NT n)} {f : Nat → List Value} (ho : w.ownsRow B 90 39 v m ((List.range m).flatMap f)) (hK : K.length = m) (hm : 0 < m) (h39 : ∀ j, j < m → (f j).length = 39) (hn : ∀ j (h : j < K.length), NodeIs w S n K[j] (f j)) (hS : ∀ g, B ≤ g → g < w.heap.size → S g) : Level w S v n K := by
  have ho' := ho
  rcases ho.2 with ⟨_, h0⟩ | ⟨g, cap, cur, rfl, hB, hg, hcap, hmax, hcs, htake⟩
  · omega
  · subst hK
    refine ⟨⟨some ⟨g, 0, none⟩, cap, rfl, fun _ => ⟨g, 0, rfl, hS g hB (Array.getElem?_eq_some_iff.1 hg).1, fun j hj => ⟨f j, hn j hj, fun i u hu => ?_⟩⟩⟩, _, _, rfl, hcap, hmax⟩
    have hi : i < 39 := by rw [← h39 j hj]; exact (List.getElem?_eq_some_iff.1 hu).1
    have h := ho'.cells (g := g) rfl (j * 39 + i) u (by
      rw [List.flatMap_def, flat_get _ j i (fun U hU => by
        obtain ⟨k, hk, rfl⟩ := List.mem_map.1 hU
        exact h39 k (List.mem_range.1 hk)) hi]
      rw [List.getElem?_map, List.getElem?_range hj]
      exact hu)
    rw [Addr.add_lit] at h
    rw [Nat.zero_add] at h ⊢
    exact h
namespace Ward
/-- a node above these -/
def upN (n : Nat) (G : List (NT n)) : NT (n + 1) := ⟨[], G, boxL (G.map (boxN n)), (G.map (numN n)).sum, Sha.sha (textK n G)⟩
theorem sum_nat : ∀ (l : List Nat), (l.map (fun (x : Nat) => (x : Int))).sum = (l.sum : Nat)
  | [] => rfl
  | x :: l => by rw [List.map_cons, List.sum_cons, List.sum_cons, sum_nat l]; omega
theorem up_mk (n : Nat) (G : List (T n)) : upN (n + 1) (G.map (mk Sha.sha n)) = mk Sha.sha (n + 1) G := by
  have h1 : (G.map (mk Sha.sha n)).map (boxN (n + 1)) = G.map (box n) := by
    rw [List.map_map]; exact List.map_congr_left fun c _ => mk_box Sha.sha n c
  have h2 : ((G.map (mk Sha.sha n)).map (numN (n + 1))).sum = ((G.map (count n)).sum : Nat) := by
    rw [← sum_nat, List.map_map, List.map_map]
    congr 1
    exact List.map_congr_left fun c _ => mk_num Sha.sha n c
  unfold upN
  rw [h1, h2, mk_text]
  rfl
theorem fours_map {α β : Type} (f : α → β) (l : List α) : fours (l.map f) = (fours l).map (List.map f) := by
  simp [fours, List.map_drop, List.map_take]
end Ward
/-- the cells of a node above a group -/
def upV (g o n : Nat) (K : List (Ward.NT n)) (j : Nat) : List Value := nodeV (.slice none 0 0) (groupV 39 g o K.length j) (Ward.boxL (((K.drop (4 * j)).take 4).map (Ward.boxN n))) ((((K.drop (4 * j)).take 4).map (Ward.numN n)).sum) ((Sha.sha (Ward.textK n ((K.drop (4 * j)).take 4))).map Y)
theorem upV_row (g o n : Nat) (K : List (Ward.NT n)) (j : Nat) : Row39 (upV g o n K j) := nodeV_row (sha_len _)
theorem group_rows {w : World} {S : Nat → Prop} {g o n : Nat} {K : List (Ward.NT n)} {P : Ward.NT n → List Value → Prop} (hB : S g) (h : ∀ i (h : i < K.length), ∃ U, P K[i] U ∧ w.rangeAt g (o + i * 39) U) (j : Nat) :
    RowsAt P w S (groupV 39 g o K.length j) ((K.drop (4 * j)).take 4) := by
  have hl : ((K.drop (4 * j)).take 4).length = min 4 (K.length - 4 * j) := by simp
  refine ⟨some ⟨g, o + 4 * j * 39, none⟩, min 4 (K.length - 4 * j), by rw [hl]; rfl, fun _ => ⟨g, o + 4 * j * 39, rfl, hB, fun i hi => ?_⟩⟩
  rw [hl] at hi
  obtain ⟨U, hU, hr⟩ := h (4 * j + i) (by omega)
  refine ⟨U, ?_, ?_⟩
  · rw [List.getElem_take, List.getElem_drop]
    exact hU
  · rw [show o + 4 * j * 39 + i * 39 = o + (4 * j + i) * 39 by omega]
    exact hr
end Go.Proofs.YtenaelkbgkpllaaGreatDoor
