/- The document's Insert and Delete. -/
import Derived.Test.YtenaelkbgkpllaaGreatDoorAll10
import Derived.OrdersHeld
import Derived.Deep.RegionHeld
import Derived.Test.YtenaelkbgkpllaaGreatDoorAll8
namespace Go.Proofs.YtenaelkbgkpllaaGreatDoor
open Go.RowKit

theorem insert_ref (r : Nat) (u : Value) (K : List Ward.Pt) (p : Ward.Pt) (w : World) (hm : RMap w r u K) (hG : Good K) :
    Calls Tryz.prog 56 #[.pointer (some ⟨r, 0, none⟩), .agg #[I p.id, I p.x, I p.y]] w fun e w' => InsertedR w r u (insList K p) (insCode K p) e w' := by
  have hl := hG.many
  obtain ⟨pi, px, py⟩ := p
  have key : ∀ c, c ≠ 0 → insCode K ⟨pi, px, py⟩ = c → (Calls Tryz.prog 56 #[.pointer (some ⟨r, 0, none⟩), .agg #[I pi, I px, I py]] w fun e w' => InsertedR w r u K c e w') → Calls Tryz.prog 56 #[.pointer (some ⟨r, 0, none⟩), .agg #[I pi, I px, I py]] w fun e w' => InsertedR w r u (insList K ⟨pi, px, py⟩) (insCode K ⟨pi, px, py⟩) e w' := by
    intro c hc e h
    unfold insList
    rw [e, if_neg hc]
    exact h
  by_cases h1 : 1 ≤ pi ∧ pi ≤ 1000000
  · by_cases h2 : -1000000 ≤ px ∧ px ≤ 1000000
    · by_cases h3 : -1000000 ≤ py ∧ py ≤ 1000000
      · by_cases h4 : ∃ q ∈ K, q.id = pi
        · refine key 3 (by decide) (by unfold insCode; rw [if_neg (fun h => h h1), if_neg (fun h => h.elim (fun h => h h2) (fun h => h h3)), if_pos h4]) ?_
          exact rinsert_taken r u K pi px py w hm (by omega) h1.1 h1.2 (Ward.coord_yes h2) (Ward.coord_yes h3) h4
        · by_cases h5 : 150 ≤ K.length
          · refine key 5 (by decide) (by unfold insCode; rw [if_neg (fun h => h h1), if_neg (fun h => h.elim (fun h => h h2) (fun h => h h3)), if_neg h4, if_pos h5]) ?_
            exact rinsert_limit r u K pi px py w hm (by omega) h1.1 h1.2 (Ward.coord_yes h2) (Ward.coord_yes h3) h4 h5
          · have hc : insCode K ⟨pi, px, py⟩ = 0 := by unfold insCode; rw [if_neg (fun h => h h1), if_neg (fun h => h.elim (fun h => h h2) (fun h => h h3)), if_neg h4, if_neg h5]
            unfold insList
            rw [hc, if_pos rfl]
            exact rinsert_in r u K pi px py w hm (by omega) h1.1 h1.2 (Ward.coord_yes h2) (Ward.coord_yes h3) h4 (by omega) hG.sorted
      · refine key 2 (by decide) (by unfold insCode; rw [if_neg (fun h => h h1), if_pos (.inr h3)]) ?_
        exact rinsert_xy r u K pi px py w hm h1.1 h1.2 (.inr (Ward.coord_no h3))
    · refine key 2 (by decide) (by unfold insCode; rw [if_neg (fun h => h h1), if_pos (.inl h2)]) ?_
      exact rinsert_xy r u K pi px py w hm h1.1 h1.2 (.inl (Ward.coord_no h2))
  · refine key 1 (by decide) (by unfold insCode; rw [if_pos h1]) ?_
    exact rinsert_id r u K pi px py w hm h1
set_option maxRecDepth 100000 in
set_option maxHeartbeats 1000000 in
theorem rdelete_no (r : Nat) (u : Value) (K : List Ward.Pt) (id : Int) (w : World) (hm : RMap w r u K) (hl : K.length ≤ 1000) (h4 : ¬ ∃ q ∈ K, q.id = id) :
    Calls Tryz.prog 57 #[.pointer (some ⟨r, 0, none⟩), I id] w fun e w' => InsertedR w r u K 4 e w' := by
  have HM := hide hm
  have HP := hide (place_ref r u K id w hm hl)
  clear hm
  go_enter Tryz.func57, Tryz.ntmps57
  go_wp2_with (go_at_call 92; refine HP.out.mono ?_; rintro _ _ ⟨⟨x, rfl, hpl⟩, rfl⟩; have hx0 := place_no hpl h4; subst hx0)
  go_ret
  exact InsertedR.none HM.out (Below.refl _ _)
set_option maxRecDepth 100000 in
set_option maxHeartbeats 2000000 in
theorem rdelete_yes (r : Nat) (u : Value) (K : List Ward.Pt) (id : Int) (w : World) (hm : RMap w r u K) (hl : K.length ≤ 1000) (h4 : ∃ q ∈ K, q.id = id) :
    Calls Tryz.prog 57 #[.pointer (some ⟨r, 0, none⟩), I id] w fun e w' => ∃ i, ∃ h : i < K.length, K[i].id = id ∧ InsertedR w r u (K.eraseIdx i) 0 e w' := by
  have HM := hide hm
  have HP := hide (place_ref r u K id w hm hl)
  have hcm := hm.cell
  have hrlt := hm.lt
  obtain ⟨g, c, e, hcc⟩ : ∃ g cap, u = .slice (some ⟨g, 0, none⟩) K.length cap ∧ K.length ≤ cap := by
    rcases hm.own.2 with ⟨_, h0⟩ | ⟨g', cap', cur', e', _, _, hcc, _⟩
    · obtain ⟨q, hq, _⟩ := h4
      rw [List.length_eq_zero_iff.1 h0] at hq
      cases hq
    · exact ⟨g', cap', e', hcc⟩
  subst e
  have HPT := hide (show ∀ j, (h : j < K.length) → PtAt w g (j * 3) K[j] from fun j hj => by
    obtain ⟨a0, c0, e0, hp⟩ := hm.own.reads
    obtain ⟨g9, o9, e9, hpp⟩ := hp (fun e => by subst e; simp at hj)
    injection e0 with e1
    rw [e9] at e1
    injection e1 with e1
    injection e1 with e4 e5
    subst e4 e5
    have := hpp j hj
    rwa [Nat.zero_add] at this)
  clear hm
  go_enter Tryz.func57, Tryz.ntmps57
  go_wp2_with fail
  refine HP.out.mono ?_
  rintro _ w' ⟨⟨x, rfl, hpl⟩, hw'⟩
  have hw2 := hw'.symm
  subst hw2
  clear hw'
  rcases hpl with ⟨_, hno⟩ | ⟨i, hi, rfl, hid⟩
  · obtain ⟨q, hq, e⟩ := h4
    exact absurd e (hno q hq)
  obtain ⟨v1, w1, hap1, ho1, hg1, hf1⟩ := append_pts (w := w) (B := w.heap.size) (v := .slice none 0 0) (l := []) (K.take i) g 0 c (World.ownsRow_nil _ _ _ _) (Nat.le_refl _) (by rw [List.length_take]; simp; omega) (fun j hj => by
    rw [List.length_take] at hj
    rw [List.getElem_take, Nat.zero_add]
    exact HPT.out j (by omega))
  rw [List.length_take, Nat.min_eq_left (by omega)] at hap1
  have hb1 : Below w.heap.size w w1 := ⟨hg1.os, hg1.tape, hg1.output, hg1.size, fun j hj => hg1.block j hj (by simp [Value.ownBlock])⟩
  rw [List.nil_append] at ho1
  have hcr1 := (HM.out.below hb1).cell
  have hfz : w1.frozen? ⟨r, 0, none⟩ = false := frozen_of_row _ _ _ _ _ (HM.out.below hb1).row
  have hs1 := hb1.size
  have HAP := hide (fun (o cc : Nat) (T : List Ward.Pt) (hT : T.length ≤ 1000) (h : ∀ j, (h : j < T.length) → PtAt w1 g (o + j * 3) T[j]) => append_pts (w := w1) T g o cc ho1 hs1 (by rw [List.length_take]; omega) h)
  have HFIN := hide (fun (v2 : Value) (w2 : World) (hg2 : w1.grownBy w2 v1.ownBlock) (ho2 : Own w2 w.heap.size v2 (K.take i ++ K.drop (i + 1))) => show InsertedR w r (.slice (some ⟨g, 0, none⟩) K.length c) (K.eraseIdx i) 0 (.returned (I 0)) (w2.setCell ⟨r, 0, none⟩ v2) ∧ RMap w2 r (.slice (some ⟨g, 0, none⟩) K.length c) K from by
    have hb2 : Below w.heap.size w1 w2 := ⟨hg2.os, hg2.tape, hg2.output, hg2.size, fun j hj => hg2.block j (by omega) (fun e => by have := ho1.ge e.symm; omega)⟩
    rw [List.eraseIdx_eq_take_drop_succ]
    exact ⟨insertedR_laid 0 HM.out (hb1.trans hb2) ho2, HM.out.below (hb1.trans hb2)⟩)
  have HI := hide hid
  obtain ⟨a1, c1, ev1⟩ := ho1.slice
  rw [List.length_take, Nat.min_eq_left (by omega)] at ev1
  subst ev1
  have HPT1 := hide (fun j (h : j < K.length) => (HPT.out j h).below hb1 (HPT.out j h).lt)
  clear ho1 hg1 hf1 hid
  by_cases hc : c = i + 1
  · obtain ⟨v2, w2, hap2, ho2, hg2, hf2⟩ := HAP.out 0 0 [] (by simp) (fun j hj => absurd hj (by simp))
    have HF := hide (HFIN.out v2 w2 hg2 (by rw [List.drop_eq_nil_of_le (by omega)]; exact ho2))
    have hap2' : (Builtin.append_ #[27, 27] 27 #[.slice a1 i c1, .slice (some ⟨g, 0, none⟩) 0 0]).run Tryz.prog w1 = .ok v2 w2 := hap2
    have hkl : K.length = i + 1 := by omega
    obtain ⟨a2, c2, ev2⟩ := ho2.slice
    generalize (K.take i ++ []).length = n2 at ev2
    subst ev2
    have hcr2 := HF.out.2.cell
    have hfz2 : w2.frozen? ⟨r, 0, none⟩ = false := frozen_of_row _ _ _ _ _ HF.out.2.row
    have HIX := hide (show ∃ i, ∃ h : i < K.length, K[i].id = id ∧ InsertedR w r (.slice (some ⟨g, 0, none⟩) K.length c) (K.eraseIdx i) 0 (.returned (I 0)) (w2.setCell ⟨r, 0, none⟩ (.slice a2 n2 c2)) from ⟨i, hi, HI.out, HF.out.1⟩)
    clear HAP HFIN ho2 hg2 hf2 hap2 hb1 HF
    subst hc
    rw [hkl] at hcm hcr1 hcr2
    go_wp2_with (first | (at_builtin; refine Lib.wpList_append_run _ rfl (.tmp 12) (.tmp 18) 27 27 rfl _ _ rfl rfl _ _ hap1 ?_) | (at_builtin; refine Lib.wpList_append_run _ rfl (.tmp 21) (.tmp 28) 27 27 rfl _ _ rfl rfl _ _ hap2' ?_))
    go_ret
    exact HIX.out
  · obtain ⟨v2, w2, hap2, ho2, hg2, hf2⟩ := HAP.out ((i + 1) * 3) (c - (i + 1)) (K.drop (i + 1)) (by rw [List.length_drop]; omega) (fun j hj => by
      rw [List.length_drop] at hj
      rw [List.getElem_drop, show (i + 1) * 3 + j * 3 = (i + 1 + j) * 3 by omega]
      exact HPT1.out (i + 1 + j) (by omega))
    have HF := hide (HFIN.out v2 w2 hg2 ho2)
    rw [List.length_drop] at hap2
    obtain ⟨a2, c2, ev2⟩ := ho2.slice
    generalize (K.take i ++ K.drop (i + 1)).length = n2 at ev2
    subst ev2
    have hcr2 := HF.out.2.cell
    have hfz2 : w2.frozen? ⟨r, 0, none⟩ = false := frozen_of_row _ _ _ _ _ HF.out.2.row
    have HIX := hide (show ∃ i, ∃ h : i < K.length, K[i].id = id ∧ InsertedR w r (.slice (some ⟨g, 0, none⟩) K.length c) (K.eraseIdx i) 0 (.returned (I 0)) (w2.setCell ⟨r, 0, none⟩ (.slice a2 n2 c2)) from ⟨i, hi, HI.out, HF.out.1⟩)
    have hic : i + 1 < c := by omega
    clear HAP HFIN ho2 hg2 hf2 hb1 HF hc
    obtain ⟨k, hk⟩ : ∃ k : Nat, k = i + 1 := ⟨_, rfl⟩
    go_wp2_with (first | (at_builtin; refine Lib.wpList_append_run _ rfl (.tmp 12) (.tmp 18) 27 27 rfl _ _ rfl rfl _ _ hap1 ?_) | (at_builtin; refine Lib.wpList_append_run _ rfl (.tmp 21) (.tmp 28) 27 27 rfl _ _ rfl rfl _ _ hap2 ?_))
    go_ret
    exact HIX.out
end Go.Proofs.YtenaelkbgkpllaaGreatDoor
/- The document's text of a box. -/
namespace Go.Proofs.YtenaelkbgkpllaaGreatDoor
open Go.RowKit

/-- texts put together -/
theorem add_str (x y : List UInt8) (h : x.length + y.length ≤ 9223372036854775807) (W : World) : (Op.stringOp .add ⟨x.toArray⟩ ⟨y.toArray⟩).run Tryz.prog W = .ok (.string ⟨(x ++ y).toArray⟩) W := by
  rw [run_string_add_sum W _ _ (by simp [ByteArray.size]; omega), ByteArray.mk_append_mk]
def Box4 (W : World) (g o : Nat) (a b c d : Int) : Prop := W.cell? ⟨g, o, none⟩ = some (I a) ∧ W.cell? ⟨g, o + 1, none⟩ = some (I b) ∧ W.cell? ⟨g, o + 2, none⟩ = some (I c) ∧ W.cell? ⟨g, o + 3, none⟩ = some (I d)
theorem Box4.below {W W' : World} {g o B : Nat} {a b c d : Int} (h : Box4 W g o a b c d) (hb : Below B W W') (hg : g < B) : Box4 W' g o a b c d := by
  obtain ⟨h0, h1, h2, h3⟩ := h
  have hc := fun o => hb.cell (p := ⟨g, o, none⟩) hg
  exact ⟨(hc _).trans h0, (hc _).trans h1, (hc _).trans h2, (hc _).trans h3⟩
theorem Box4.drew {W : World} {g o : Nat} {a b c d : Int} (h : Box4 W g o a b c d) : Box4 W.drew g o a b c d := by simpa [Box4] using h
set_option maxRecDepth 100000 in
set_option maxHeartbeats 2000000 in
theorem text_ref (b : Ward.Box) (w : World) :
    Calls Tryz.prog 136 #[Bx b] w fun e w' => e = .returned (Sv (Ward.boxText b)) ∧ Below w.heap.size w w' := by
  obtain ⟨ba, bb, bc, bd⟩ := b
  have HT := hide (show Ward.boxText ⟨ba, bb, bc, bd⟩ = Ward.fourI ba ++ Ward.fourI bb ++ Ward.fourI bc ++ Ward.fourI bd from rfl)
  have HSA := hide (fun W => signed_ref ba W)
  have HSB := hide (fun W => signed_ref bb W)
  have HSC := hide (fun W => signed_ref bc W)
  have HSD := hide (fun W => signed_ref bd W)
  have l1 : (Ward.fourI ba).length = 4 := rfl
  have l2 : (Ward.fourI bb).length = 4 := rfl
  have l3 : (Ward.fourI bc).length = 4 := rfl
  have l4 : (Ward.fourI bd).length = 4 := rfl
  generalize Ward.fourI ba = fa at *
  generalize Ward.fourI bb = fb at *
  generalize Ward.fourI bc = fc at *
  generalize Ward.fourI bd = fd at *
  have ha1 := add_str fa fb (by omega)
  have ha2 := add_str (fa ++ fb) fc (by rw [List.length_append]; omega)
  have ha3 := add_str (fa ++ fb ++ fc) fd (by rw [List.length_append, List.length_append]; omega)
  have hr' := heap_alloc_new w
  have hb' := fun o => (Below.refl w.heap.size w).alloc (Nat.le_refl _) o
  generalize fa ++ fb ++ fc ++ fd = t4 at *
  generalize fa ++ fb ++ fc = t3 at *
  generalize fa ++ fb = t2 at *
  clear l1 l2 l3 l4
  go_enter Tryz.func136, Tryz.ntmps136
  go_upto_region 1 with fail
  generalize hW : World.alloc w _ = w1
  have hrow : w1.heap[w.heap.size]? = some (.cells #[I ba, I bb, I bc, I bd] 148 (0, 0)) := by rw [← hW]; exact hr' _
  have HB1 := hide (show Below w.heap.size w w1 by rw [← hW]; exact hb' _)
  have hs1 : w.heap.size < w1.heap.size := by rw [← hW]; simp
  have hS : Box4 w1 w.heap.size 0 ba bb bc bd := ⟨by rw [cell_of_row _ _ _ _ _ _ hrow]; rfl, by rw [cell_of_row _ _ _ _ _ _ hrow]; rfl, by rw [cell_of_row _ _ _ _ _ _ hrow]; rfl, by rw [cell_of_row _ _ _ _ _ _ hrow]; rfl⟩
  clear hW hr' hb' hrow
  go_region_held3 (fun W => W.cell? ⟨w.heap.size, 0, none⟩ = some (I ba) ∧ W.cell? ⟨w.heap.size, 1, none⟩ = some (I bb) ∧ W.cell? ⟨w.heap.size, 2, none⟩ = some (I bc) ∧ W.cell? ⟨w.heap.size, 3, none⟩ = some (I bd)) (first | assumption | exact hS | exact hS.drew) ((first | (go_at_call_of 137 (I ba); refine (HSA.out _).mono ?_; rintro _ w2 ⟨rfl, hb2⟩; have hS2 := hS.drew.below hb2 (by simpa using hs1); have hs2 : w1.heap.size ≤ w2.heap.size := hb2.size; have hB2 : Below w1.heap.size w1 w2 := (show Below w1.heap.size w1 w1.drew from (Below.refl _ _).drew).trans hb2) | (go_at_call_of 137 (I bb); refine (HSB.out _).mono ?_; rintro _ w3 ⟨rfl, hb3⟩; have hS3 := hS2.below hb3 (by omega); have hs3 : w2.heap.size ≤ w3.heap.size := hb3.size; have hB3 := hB2.trans (hb3.mono hs2)) | (go_at_call_of 137 (I bc); refine (HSC.out _).mono ?_; rintro _ w4 ⟨rfl, hb4⟩; have hS4 := hS3.below hb4 (by omega); have hs4 : w3.heap.size ≤ w4.heap.size := hb4.size; have hB4 := hB3.trans (hb4.mono (show w1.heap.size ≤ w3.heap.size by omega))) | (go_at_call_of 137 (I bd); refine (HSD.out _).mono ?_; rintro _ w5 ⟨rfl, hb5⟩; have hS5 := hS4.below hb5 (by omega); have hB5 := hB4.trans (hb5.mono (show w1.heap.size ≤ w4.heap.size by omega)))))
  all_goals
    go_wp2_with fail
    go_ret
    exact ⟨by rw [HT.out]; rfl, HB1.out.trans (hB5.mono (by omega))⟩
end Go.Proofs.YtenaelkbgkpllaaGreatDoor
/- A statement that draws its order and whose last operation, that waits for all others, writes a cell that is read before: the cell need not be as it was behind that one. -/
namespace Go.Proofs.YtenaelkbgkpllaaGreatDoor
section
variable {P : Program} {md : Region.Mode} {ops : Array Oper} {Q : Exit → Act → World → Prop} {S : World → Prop} {n : Nat}
/-- whichever order: S holds behind each operation but the last -/
def wpAnyL (P : Program) (md : Region.Mode) (ops : Array Oper) (Q : Exit → Act → World → Prop) (S : World → Prop) (n : Nat) : Nat → Array Bool → Act → World → Prop
  | 0, listed, a, w => Region.ready md ops listed = [] ∧ Q .normal a w
  | k + 1, listed, a, w => (Region.ready md ops listed = [] → Q .normal a w) ∧ ∀ i ∈ Region.ready md ops listed, wpOp P ops Q i (fun a' w' => (i ≠ n → S w') ∧ wpAnyL P md ops Q S n k (listed.setIfInBounds i true) a' w') a w
theorem wpAny_of_L : ∀ (k : Nat) (listed : Array Bool) (a : Act) (w : World), wpAnyL P md ops Q S n k listed a w → wpAny P md ops Q k listed a w
  | 0, _, _, _, h => h
  | k + 1, _, _, _, h => ⟨h.1, fun i hi => wpOp_mono (fun a' w' h' => wpAny_of_L k _ a' w' h'.2) (h.2 i hi)⟩
/-- the last one waits for an operation -/
def Waits (md : Region.Mode) (ops : Array Oper) (n i : Nat) : Bool := match ops[n]? with
  | some o => o.after.any fun e => Region.binds md e && e.on == i
  | none => false
theorem not_ready {i : Nat} {listed : Array Bool} (hw : Waits md ops n i = true) (hi : listed.getD i false = false) : n ∉ Region.ready md ops listed := by
  intro hn
  obtain ⟨_, o, ho, hall⟩ := mem_ready.1 hn
  unfold Waits at hw
  rw [ho] at hw
  simp only [Array.any_eq_true, Bool.and_eq_true, beq_iff_eq] at hw
  obtain ⟨j, hj, hb, he⟩ := hw
  have := hall _ (Array.getElem_mem hj) hb
  rw [he, hi] at this
  cases this
theorem unlisted {i : Nat} {listed : Array Bool} (h : i ∈ Region.ready md ops listed) : listed.getD i false = false := by
  have h0 := (mem_ready.1 h).1
  by_cases hl : i < listed.size
  · simp only [Array.getD, hl, dif_pos] at h0 ⊢; exact h0
  · simp [Array.getD, hl]
theorem wpAnyL_first {i : Nat} {oi : Oper} {v : Value} (hi : ops[i]? = some oi) (hne : i ≠ n) (hwt : Waits md ops n i = true) (hsel : ∀ (j : Nat) (o : Oper) cs b, ops[j]? = some o → o.op ≠ .select cs b)
    (hQ : ∀ c a w, Q (.panic c) (a.put oi.dst v) w → Q (.panic c) a w) :
    ∀ (k : Nat) (listed : Array Bool) (a : Act) (w : World),
      (∀ j oj, ops[j]? = some oj → j ≠ i → listed.getD j true = false → (∀ e ∈ oj.after, Region.binds md e = true → e.on ≠ i) → oi.apart ops oj = true) →
      i ∈ Region.ready md ops listed → YieldsIf P ops S oi v a → S w →
      wpAnyL P md ops Q S n k (listed.setIfInBounds i true) (a.put oi.dst v) w → wpAnyL P md ops Q S n (k + 1) listed a w
  | 0, listed, a, w, _, hr, hy, hS, H => by
    refine ⟨fun h => (by rw [h] at hr; cases hr), fun j hj => ?_⟩
    by_cases e : j = i
    · subst e
      exact hy.wpOp hi hS ⟨fun _ => hS, H⟩
    · have h0 := ready_mono hj e
      rw [H.1] at h0
      cases h0
  | k + 1, listed, a, w, hfree, hr, hy, hS, H => by
    refine ⟨fun h => (by rw [h] at hr; cases hr), fun j hj => ?_⟩
    by_cases e : j = i
    · subst e
      exact hy.wpOp hi hS ⟨fun _ => hS, H⟩
    · have hjn : j ≠ n := fun h => by
        subst h
        exact not_ready hwt (unlisted hr) hj
      obtain ⟨hun, oj, hoj, hall⟩ := mem_ready.1 hj
      have hno : ∀ x ∈ oj.after, Region.binds md x = true → x.on ≠ i := fun x hx hb hx' => by
        have h1 := hall x hx hb
        rw [hx', unlisted hr] at h1
        cases h1
      have h2 := wpOp_putIf (S := S) hoj (hfree j oj hoj e hun hno) (fun cs b => hsel i oi cs b hi) (fun cs b => hsel j oj cs b hoj) hQ hy (H.2 j (ready_mono hj e))
      refine wpOp_mono (fun a' w' h3 => ⟨fun _ => h3.2.1 hjn, wpAnyL_first hi hne hwt hsel hQ k _ a' w' ?_ (ready_mono hr (Ne.symm e)) h3.1 (h3.2.1 hjn) ?_⟩) h2
      · intro m om hm hmi hmu hmn
        refine hfree m om hm hmi ?_ hmn
        by_cases hjm : j = m
        · subst hjm; exact hun
        · rw [getD_set_ne true hjm] at hmu; exact hmu
      · rw [Array.setIfInBounds_comm _ _ e]
        exact h3.2.2
theorem wpAnyL_take {i : Nat} {oi : Oper} {v : Value} {k : Nat} {listed : Array Bool} {a : Act} {w : World} (hi : ops[i]? = some oi) (hw : Waits md ops n i = true) (hne : Nat.beq i n = false)
    (hs : Region.noSelect ops = true) (hf : Region.free md ops listed i = true) (hr : (Region.ready md ops listed).contains i = true)
    (hQ : ∀ c a w, Q (.panic c) (a.put oi.dst v) w → Q (.panic c) a w) (hy : YieldsIf P ops S oi v a) (hS : S w)
    (h : wpAnyL P md ops Q S n k (listed.setIfInBounds i true) (a.put oi.dst v) w) : wpAnyL P md ops Q S n (k + 1) listed a w :=
  wpAnyL_first hi (fun e => by subst e; simp at hne) hw (Region.noSelect_spec hs) hQ k listed a w (Region.free_spec hi hf) (by simpa using hr) hy hS h
/-- one alone can come up: a call -/
theorem wpAnyL_one {i : Nat} {o : Oper} {k : Nat} {listed : Array Bool} {a : Act} {w : World} (hr : Region.ready md ops listed = [i]) (ho : ops[i]? = some o)
    (h : ∀ K' : Act → World → Prop, Shut (∀ a' w', (i ≠ n → S w') → wpAnyL P md ops Q S n k (listed.setIfInBounds i true) a' w' → K' a' w') → if Region.wanted o (yielded ops a.tmps) = true then Oper.wp P o a w K' Q else K' (a.put o.dst undef) w) : wpAnyL P md ops Q S n (k + 1) listed a w := by
  refine ⟨fun h0 => absurd (hr.symm.trans h0) (by simp), fun j hj => ?_⟩
  rw [hr, List.mem_singleton] at hj
  subst hj
  exact wpOp_step ho (fun K' hK => h K' (fun a' w' hS hW => hK a' w' ⟨hS, hW⟩))
theorem wpAnyL_done {listed : Array Bool} {a : Act} {w : World} (hr : Region.ready md ops listed = []) (h : Q .normal a w) : ∀ k, wpAnyL P md ops Q S n k listed a w
  | 0 => ⟨hr, h⟩
  | _ + 1 => ⟨fun _ => h, by rw [hr]; simp⟩
theorem wp_region_L {id : Nat} {a : Act} {w : World} (n : Nat) (S : World → Prop) (hm : P.follows .mixedOrders = true) (hS : S w.drew)
    (h : S w.drew → wpAnyL P .any ops Q S n ops.size (Array.replicate ops.size false) a w.drew) : (Code.region id ops true).wp P Q a w :=
  wp_region_any hm (wpAny_of_L _ _ _ _ (h hS))
end
end Go.Proofs.YtenaelkbgkpllaaGreatDoor
/- The document's leaf. -/
namespace Go.Proofs.YtenaelkbgkpllaaGreatDoor
open Go.RowKit

/-- a part's cells -/
def partV (b : Ward.Box) (n : Int) (t : List UInt8) (f k : Int) (v : Value) : Array Value := #[I b.a, I b.b, I b.c, I b.d, I n, Sv t, I f, I k, v]
theorem Tryz.infoPart : (Tryz.prog.info? 150).map (·.size) = some 9 := by kernel_rfl
theorem partV_one (b : Ward.Box) (n : Int) (t : List UInt8) (f k : Int) (v : Value) (hv : v.oneCell' = true) : (partV b n t f k v).all (·.oneCell') = true := all_oneCell_toArray (cs := [I b.a, I b.b, I b.c, I b.d, I n, Sv t, I f, I k, v]) (fun x hx => by
  simp only [List.mem_cons, List.not_mem_nil, or_false] at hx
  rcases hx with rfl | rfl | rfl | rfl | rfl | rfl | rfl | rfl | rfl <;> first | rfl | exact hv)
theorem boxL_more {l : List Ward.Box} (h : l ≠ []) (b : Ward.Box) : Ward.boxL (l ++ [b]) = Ward.join (Ward.boxL l) b := by
  cases l with
  | nil => exact absurd rfl h
  | cons c l => unfold Ward.boxL; rw [List.foldl_append]; rfl
theorem boxL_one (b : Ward.Box) : Ward.boxL [b] = Ward.join b b := rfl
/-- the box of the first points -/
def boxTo (L : List Ward.Pt) (i : Nat) : Ward.Box := Ward.boxL ((L.take i).map Ward.boxOf)
theorem boxTo_zero (L : List Ward.Pt) : boxTo L 0 = ⟨0, 0, 0, 0⟩ := rfl
theorem boxTo_one (L : List Ward.Pt) (h : 0 < L.length) : boxTo L 1 = Ward.join (Ward.boxOf L[0]) (Ward.boxOf L[0]) := by
  unfold boxTo
  rw [List.take_succ_eq_append_getElem h]
  rfl
theorem boxTo_succ (L : List Ward.Pt) (i : Nat) (h : i < L.length) (h0 : i ≠ 0) : boxTo L (i + 1) = Ward.join (boxTo L i) (Ward.boxOf L[i]) := by
  unfold boxTo
  rw [List.take_succ_eq_append_getElem h, List.map_append]
  exact boxL_more (fun e => by have h2 := congrArg List.length e; rw [List.length_map, List.length_take, List.length_nil] at h2; omega) _
/-- the text of the first points -/
def leafTo (L : List Ward.Pt) (i : Nat) : List UInt8 := 1 :: UInt8.ofNat L.length :: (L.take i).flatMap Ward.ptText
theorem leafTo_succ (L : List Ward.Pt) (i : Nat) (h : i < L.length) : leafTo L (i + 1) = leafTo L i ++ Ward.fourI L[i].id ++ Ward.fourI L[i].x ++ Ward.fourI L[i].y := by
  unfold leafTo
  rw [List.take_succ_eq_append_getElem h, List.flatMap_append]
  simp [Ward.ptText]
theorem leafTo_all (L : List Ward.Pt) : leafTo L L.length = Ward.leafText L := by
  unfold leafTo Ward.leafText
  rw [List.take_length]
theorem leafTo_len (L : List Ward.Pt) (i : Nat) (h : L.length ≤ 4) : (leafTo L i).length ≤ 50 := by
  unfold leafTo
  rw [List.length_cons, List.length_cons]
  have : ((L.take i).flatMap Ward.ptText).length = 12 * (L.take i).length := by
    induction L.take i with
    | nil => rfl
    | cons p l ih => rw [List.flatMap_cons, List.length_append, ih, Ward.ptText_len, List.length_cons]; omega
  rw [this, List.length_take]
  omega
theorem conv_two (g : Nat) (k : Nat) (hk : k ≤ 4) (w : World) : (convert 59 9 (.slice (some ⟨w.heap.size, 0, none⟩) 2 2)).run Tryz.prog (w.alloc (.cells #[.int .u8 (g : Nat), .int .u8 (k : Int)] 5)) = .ok (Sv [UInt8.ofNat g, UInt8.ofNat k]) (w.alloc (.cells #[.int .u8 (g : Nat), .int .u8 (k : Int)] 5)) ∨ 256 ≤ g := by
  by_cases hg : 256 ≤ g
  · exact .inr hg
  refine .inl (conv_bytes w.heap.size 2 2 [UInt8.ofNat g, UInt8.ofNat k] rfl _ (fun j u hj => ?_))
  have e1 : (UInt8.ofNat g).toNat = g := by rw [UInt8.toNat_ofNat']; omega
  have e2 : (UInt8.ofNat k).toNat = k := by rw [UInt8.toNat_ofNat']; omega
  rw [Nat.zero_add, cell_of_row _ _ _ _ _ _ (heap_alloc_new w _)]
  match j, hj with
  | 0, hj => simp at hj; subst hj; show some (Value.int .u8 (g : Int)) = some (Y (UInt8.ofNat g)); rw [Y, e1]
  | 1, hj => simp at hj; subst hj; show some (Value.int .u8 (k : Int)) = some (Y (UInt8.ofNat k)); rw [Y, e2]
theorem conv_lead1 (k : Nat) (hk : k ≤ 4) (w : World) : (convert 59 9 (.slice (some ⟨w.heap.size, 0, none⟩) 2 2)).run Tryz.prog (w.alloc (.cells #[.int .u8 1, .int .u8 (k : Int)] 5)) = .ok (Sv [1, UInt8.ofNat k]) (w.alloc (.cells #[.int .u8 1, .int .u8 (k : Int)] 5)) := (conv_two 1 k hk w).resolve_right (by decide)
theorem conv_lead2 (k : Nat) (hk : k ≤ 4) (w : World) : (convert 59 9 (.slice (some ⟨w.heap.size, 0, none⟩) 2 2)).run Tryz.prog (w.alloc (.cells #[.int .u8 2, .int .u8 (k : Int)] 5)) = .ok (Sv [2, UInt8.ofNat k]) (w.alloc (.cells #[.int .u8 2, .int .u8 (k : Int)] 5)) := (conv_two 2 k hk w).resolve_right (by decide)
theorem part_set4 {w : World} {g : Nat} {b : Ward.Box} {n : Int} {t : List UInt8} {f k : Int} {v : Value} {ty : Nat} (a b' c d : Int) (h : w.heap[g]? = some (.cells (partV b n t f k v) ty (0, 0))) :
    ((((w.setCell ⟨g, 0, none⟩ (I a)).setCell ⟨g, 1, none⟩ (I b')).setCell ⟨g, 2, none⟩ (I c)).setCell ⟨g, 3, none⟩ (I d)).heap[g]? = some (.cells (partV ⟨a, b', c, d⟩ n t f k v) ty (0, 0)) := by
  rw [heap_setCell_same _ _ _ _ _ _ (heap_setCell_same _ _ _ _ _ _ (heap_setCell_same _ _ _ _ _ _ (heap_setCell_same _ _ _ _ _ _ h)))]
  rfl
theorem set4_other {w : World} {g j : Nat} (a b' c d : Int) (h : j ≠ g) : ((((w.setCell ⟨g, 0, none⟩ (I a)).setCell ⟨g, 1, none⟩ (I b')).setCell ⟨g, 2, none⟩ (I c)).setCell ⟨g, 3, none⟩ (I d)).heap[j]? = w.heap[j]? := by
  rw [heap_setCell_other _ _ _ _ h, heap_setCell_other _ _ _ _ h, heap_setCell_other _ _ _ _ h, heap_setCell_other _ _ _ _ h]
theorem set4_below {w w' : World} {B g : Nat} (a b' c d : Int) (h : Below B w w') (hg : B ≤ g) : Below B w ((((w'.setCell ⟨g, 0, none⟩ (I a)).setCell ⟨g, 1, none⟩ (I b')).setCell ⟨g, 2, none⟩ (I c)).setCell ⟨g, 3, none⟩ (I d)) :=
  (((h.setCell hg _).setCell hg _).setCell hg _).setCell hg _
structure Cells4 (w : World) (g : Nat) (b : Ward.Box) : Prop where
  c0 : w.cell? ⟨g, 0, none⟩ = some (I b.a)
  c1 : w.cell? ⟨g, 1, none⟩ = some (I b.b)
  c2 : w.cell? ⟨g, 2, none⟩ = some (I b.c)
  c3 : w.cell? ⟨g, 3, none⟩ = some (I b.d)
  fz : ∀ j, w.frozen? ⟨g, j, none⟩ = false
theorem cells4 {w : World} {g : Nat} {b : Ward.Box} {n : Int} {t : List UInt8} {f k : Int} {v : Value} {ty : Nat} (h : w.heap[g]? = some (.cells (partV b n t f k v) ty (0, 0))) : Cells4 w g b :=
  ⟨by rw [cell_of_row _ _ _ _ _ _ h]; rfl, by rw [cell_of_row _ _ _ _ _ _ h]; rfl, by rw [cell_of_row _ _ _ _ _ _ h]; rfl, by rw [cell_of_row _ _ _ _ _ _ h]; rfl, fun j => frozen_of_row _ _ _ _ _ h⟩
structure LeafAt (w : World) (L : List Ward.Pt) (v : Value) (i : Nat) (wq : World) : Prop where
  r0 : ∃ z : Array Value, z.size = 9 ∧ wq.heap[w.heap.size]? = some (.cells z 150 (0, 0))
  r1 : wq.heap[w.heap.size + 1]? = some (.cells (partV (boxTo L i) L.length (leafTo L i) 0 0 v) 150 (0, 0))
  bl : Below w.heap.size w wq
set_option maxRecDepth 100000 in
set_option maxHeartbeats 2000000 in
theorem leaf_ref (v : Value) (L : List Ward.Pt) (w : World) (hv : Reads w v L) (hl : L.length ≤ 4) :
    Calls Tryz.prog 134 #[v] w fun e w' => e = .returned (.agg (partV (Ward.boxL (L.map Ward.boxOf)) L.length (Ward.leafText L) 0 0 v)) ∧ Below w.heap.size w w' := by
  obtain ⟨a, c, rfl, hrd⟩ := hv
  have HRD := hide hrd
  clear hrd
  have HCV := hide (conv_lead1 L.length hl)
  have hr' := fun (a b : Obj) => heap_alloc2_old w a b
  have hr1' := fun (a b : Obj) => heap_alloc2_new w a b
  have hb' := fun (a b : Obj) => ((Below.refl w.heap.size w).alloc (Nat.le_refl _) a).alloc (by simp) b
  go_enter Tryz.func134, Tryz.ntmps134
  go_upto_region 2 with fail
  generalize hW : World.alloc (World.alloc w _) _ = w1
  have hr0 : ∃ z : Array Value, z.size = 9 ∧ w1.heap[w.heap.size]? = some (.cells z 150 (0, 0)) := by rw [← hW]; exact ⟨_, rfl, hr' _ _⟩
  have hr1 : w1.heap[w.heap.size + 1]? = some (.cells #[I 0, I 0, I 0, I 0, I L.length, Sv [], I 0, I 0, .slice a L.length c] 150 (0, 0)) := by rw [← hW]; exact hr1' _ _
  have hb1 : Below w.heap.size w w1 := by rw [← hW]; exact hb' _ _
  have hs1 : w.heap.size + 1 < w1.heap.size := (Array.getElem?_eq_some_iff.1 hr1).1
  clear hW hr' hr1' hb'
  have hcv := HCV.out w1
  have HR2 := hide (fun o j (hj : j < w1.heap.size) => Below.heap_alloc w1 o j hj)
  have hc5 : ∀ o, (w1.alloc o).cell? ⟨w.heap.size + 1, 5, none⟩ = some (Sv []) := fun o => by rw [World.cell?_alloc_lt _ _ _ hs1, cell_of_row _ _ _ _ _ _ hr1]; rfl
  have hf5 : ∀ o, (w1.alloc o).frozen? ⟨w.heap.size + 1, 5, none⟩ = false := fun o => frozen_of_row _ _ _ _ _ ((HR2.out o _ hs1).trans hr1)
  have HB2 := hide (fun o => hb1.alloc (show w.heap.size ≤ w1.heap.size by omega) o)
  have HST := hide (fun o => show LeafAt w L (.slice a L.length c) 0 ((w1.setCell ⟨w.heap.size + 1, 5, none⟩ (Sv (leafTo L 0))).alloc o) from by
    obtain ⟨z, hz, hzr⟩ := hr0
    have hz1 : (w1.setCell ⟨w.heap.size + 1, 5, none⟩ (Sv (leafTo L 0))).heap.size = w1.heap.size := by simp
    refine ⟨⟨z, hz, ?_⟩, ?_, (hb1.setCell (by show w.heap.size ≤ w.heap.size + 1; omega) _).alloc (by omega) _⟩
    · rw [Below.heap_alloc _ _ _ (by omega), heap_setCell_other _ _ _ _ (by show w.heap.size ≠ w.heap.size + 1; omega)]; exact hzr
    · rw [Below.heap_alloc _ _ _ (by omega), heap_setCell_same _ _ _ _ _ _ hr1]; rfl)
  clear hr0 hr1 hb1 HCV HB2 HR2
  go_upto_region 4 with fail
  generalize hW : World.alloc (World.setCell _ _ _) _ = w2
  have HL2 := hide (show LeafAt w L (.slice a L.length c) 0 w2 from by rw [← hW]; exact HST.out _)
  clear hW HST hcv hc5 hf5 hs1
  go_loopw [4] (fun iv wq => ∃ i : Nat, i ≤ L.length ∧ iv = .int .i64 i ∧ LeafAt w L (.slice a L.length c) i wq) (fun iv _ => L.length - (intOf iv).toNat)
  case atStart => exact ⟨0, by omega, rfl, HL2.out⟩
  case round =>
    clear HL2
    obtain ⟨i, hi, rfl, hla⟩ := hrel
    have HLA := hide hla
    by_cases hlt : i < L.length
    · obtain ⟨g, o, rfl, hp⟩ := HRD.out (fun e => by subst e; simp at hlt)
      have hpi := (hp i hlt).below hla.bl (hp i hlt).lt
      have HTX := hide (leafTo_succ L i hlt)
      have HBX := hide (show (i = 0 → boxTo L (i + 1) = Ward.join (Ward.boxOf L[i]) (Ward.boxOf L[i])) ∧ (i ≠ 0 → boxTo L (i + 1) = Ward.join (boxTo L i) (Ward.boxOf L[i])) from ⟨fun e => by subst e; exact boxTo_one L hlt, fun e => boxTo_succ L i hlt e⟩)
      have hln := leafTo_len L i hl
      generalize L[i] = q at *
      obtain ⟨pi, px, py⟩ := q
      obtain ⟨q0, q1, q2⟩ := hpi
      have hsw : w.heap.size + 1 < wr.heap.size := (Array.getElem?_eq_some_iff.1 hla.r1).1
      have HN3 := hide (fun o => heap_alloc_new wr o)
      have HO3 := hide (fun o j (hj : j < wr.heap.size) => Below.heap_alloc wr o j hj)
      have HB3 := hide (fun o => hla.bl.alloc (show w.heap.size ≤ wr.heap.size by omega) o)
      clear hla hp
      dsimp only at q0 q1 q2 HTX HBX
      go_upto_region 7 with fail
      generalize hW : World.alloc wr _ = w3
      obtain ⟨gx, hgx⟩ : ∃ gx, gx = wr.heap.size := ⟨_, rfl⟩
      rw [← hgx] at HN3 HO3 hsw
      rw [← hgx]
      have hx3 : w3.heap[gx]? = some (.cells #[I pi, I px, I py] 36 (0, 0)) := by rw [← hW]; exact HN3.out _
      have h13 : w3.heap[w.heap.size + 1]? = some (.cells (partV (boxTo L i) L.length (leafTo L i) 0 0 (.slice (some ⟨g, o, none⟩) L.length c)) 150 (0, 0)) := by rw [← hW]; exact (HO3.out _ _ hsw).trans HLA.out.r1
      have H03 := hide (show ∃ z : Array Value, z.size = 9 ∧ w3.heap[w.heap.size]? = some (.cells z 150 (0, 0)) by
        obtain ⟨z, hz, hzr⟩ := HLA.out.r0
        rw [← hW]; exact ⟨z, hz, (HO3.out _ _ (by omega)).trans hzr⟩)
      have HB33 := hide (show Below w.heap.size w w3 by rw [← hW]; exact HB3.out _)
      have hs3 : gx < w3.heap.size := (Array.getElem?_eq_some_iff.1 hx3).1
      clear hW HN3 HO3 HB3 HLA q0 q1 q2 hgx
      have HSI := hide (fun W => signed_ref pi W)
      have HSX := hide (fun W => signed_ref px W)
      have HSY := hide (fun W => signed_ref py W)
      have l1 : (Ward.fourI pi).length = 4 := rfl
      have l2 : (Ward.fourI px).length = 4 := rfl
      have l3 : (Ward.fourI py).length = 4 := rfl
      generalize Ward.fourI pi = fi at *
      generalize Ward.fourI px = fx at *
      generalize Ward.fourI py = fy at *
      obtain ⟨T0, hT0⟩ : ∃ T, leafTo L i = T := ⟨_, rfl⟩
      rw [hT0] at h13 HTX hln
      clear hT0
      have ha1 := add_str T0 fi (by omega)
      have ha2 := add_str (T0 ++ fi) fx (by rw [List.length_append]; omega)
      have ha3 := add_str (T0 ++ fi ++ fx) fy (by rw [List.length_append, List.length_append]; omega)
      generalize T0 ++ fi ++ fx ++ fy = T3 at *
      generalize T0 ++ fi ++ fx = T2 at *
      generalize T0 ++ fi = T1 at *
      clear l1 l2 l3 hln
      have hS : (w3.cell? ⟨gx, 0, none⟩ = some (I pi) ∧ w3.cell? ⟨gx, 1, none⟩ = some (I px) ∧ w3.cell? ⟨gx, 2, none⟩ = some (I py)) := row3 hx3
      have t3 : w3.cell? ⟨w.heap.size + 1, 5, none⟩ = some (Sv T0) := by rw [cell_of_row _ _ _ _ _ _ h13]; rfl
      have HX3 := hide hx3
      have H13 := hide h13
      clear hx3 h13
      go_cut [] from 27 to 41 (fun wx => Below w.heap.size w wx ∧ (∃ z : Array Value, z.size = 9 ∧ wx.heap[w.heap.size]? = some (.cells z 150 (0, 0))) ∧ wx.heap[w.heap.size + 1]? = some (.cells (partV (boxTo L i) L.length T3 0 0 (.slice (some ⟨g, o, none⟩) L.length c)) 150 (0, 0)) ∧ wx.heap[gx]? = some (.cells #[I pi, I px, I py] 36 (0, 0)))
      case first =>
        have hS' : (w3.drew.cell? ⟨gx, 0, none⟩ = some (I pi) ∧ w3.drew.cell? ⟨gx, 1, none⟩ = some (I px) ∧ w3.drew.cell? ⟨gx, 2, none⟩ = some (I py)) := by simpa using hS
        have HCL := hide (fun (W W' : World) (hb : Below W.heap.size W W') (hg : gx < W.heap.size) (h : W.cell? ⟨gx, 0, none⟩ = some (I pi) ∧ W.cell? ⟨gx, 1, none⟩ = some (I px) ∧ W.cell? ⟨gx, 2, none⟩ = some (I py)) => show W'.cell? ⟨gx, 0, none⟩ = some (I pi) ∧ W'.cell? ⟨gx, 1, none⟩ = some (I px) ∧ W'.cell? ⟨gx, 2, none⟩ = some (I py) from ⟨(hb.cell (p := ⟨gx, 0, none⟩) hg).trans h.1, (hb.cell (p := ⟨gx, 1, none⟩) hg).trans h.2.1, (hb.cell (p := ⟨gx, 2, none⟩) hg).trans h.2.2⟩)
        have HTL := hide (fun (W W' : World) (hb : Below W.heap.size W W') (hg : w.heap.size + 1 < W.heap.size) (h : W.cell? ⟨w.heap.size + 1, 5, none⟩ = some (Sv T0)) => (hb.cell (p := ⟨w.heap.size + 1, 5, none⟩) hg).trans h)
        have hs3' : gx < w3.drew.heap.size := by simpa using hs3
        have hs3'' : w.heap.size + 1 < w3.drew.heap.size := by simp; omega
        have t3' : w3.drew.cell? ⟨w.heap.size + 1, 5, none⟩ = some (Sv T0) := by simpa using t3
        refine wp_region_L 15 (fun W => (W.cell? ⟨gx, 0, none⟩ = some (I pi) ∧ W.cell? ⟨gx, 1, none⟩ = some (I px) ∧ W.cell? ⟨gx, 2, none⟩ = some (I py)) ∧ W.cell? ⟨w.heap.size + 1, 5, none⟩ = some (Sv T0)) (by kernel_rfl) ⟨hS', t3'⟩ (fun hH => ?_)
        refine wpAnyL_take (i := 0) (v := ?_) rfl (by kernel_rfl) (by kernel_rfl) (by kernel_rfl) (by kernel_rfl) (by kernel_rfl) (fun _ _ _ h => h) (Or.inl ⟨by rfl, ?_⟩) hH ?_
        rotate_left
        · intro W hSW
          obtain ⟨⟨x0, x1, x2⟩, xt⟩ := hSW
          go_simp
          try with_reducible rfl
        try go_simp
        refine wpAnyL_take (i := 1) (v := ?_) rfl (by kernel_rfl) (by kernel_rfl) (by kernel_rfl) (by kernel_rfl) (by kernel_rfl) (fun _ _ _ h => h) (Or.inl ⟨by rfl, ?_⟩) hH ?_
        rotate_left
        · intro W hSW
          obtain ⟨⟨x0, x1, x2⟩, xt⟩ := hSW
          go_simp
          try with_reducible rfl
        try go_simp
        refine wpAnyL_take (i := 2) (v := ?_) rfl (by kernel_rfl) (by kernel_rfl) (by kernel_rfl) (by kernel_rfl) (by kernel_rfl) (fun _ _ _ h => h) (Or.inl ⟨by rfl, ?_⟩) hH ?_
        rotate_left
        · intro W hSW
          obtain ⟨⟨x0, x1, x2⟩, xt⟩ := hSW
          go_simp
          try with_reducible rfl
        try go_simp
        refine wpAnyL_take (i := 3) (v := ?_) rfl (by kernel_rfl) (by kernel_rfl) (by kernel_rfl) (by kernel_rfl) (by kernel_rfl) (fun _ _ _ h => h) (Or.inl ⟨by rfl, ?_⟩) hH ?_
        rotate_left
        · intro W hSW
          obtain ⟨⟨x0, x1, x2⟩, xt⟩ := hSW
          go_simp
          try with_reducible rfl
        try go_simp
        refine wpAnyL_take (i := 6) (v := ?_) rfl (by kernel_rfl) (by kernel_rfl) (by kernel_rfl) (by kernel_rfl) (by kernel_rfl) (fun _ _ _ h => h) (Or.inl ⟨by rfl, ?_⟩) hH ?_
        rotate_left
        · intro W hSW
          obtain ⟨⟨x0, x1, x2⟩, xt⟩ := hSW
          go_simp
          try with_reducible rfl
        try go_simp
        refine wpAnyL_take (i := 7) (v := ?_) rfl (by kernel_rfl) (by kernel_rfl) (by kernel_rfl) (by kernel_rfl) (by kernel_rfl) (fun _ _ _ h => h) (Or.inl ⟨by rfl, ?_⟩) hH ?_
        rotate_left
        · intro W hSW
          obtain ⟨⟨x0, x1, x2⟩, xt⟩ := hSW
          go_simp
          try with_reducible rfl
        try go_simp
        refine wpAnyL_take (i := 10) (v := ?_) rfl (by kernel_rfl) (by kernel_rfl) (by kernel_rfl) (by kernel_rfl) (by kernel_rfl) (fun _ _ _ h => h) (Or.inl ⟨by rfl, ?_⟩) hH ?_
        rotate_left
        · intro W hSW
          obtain ⟨⟨x0, x1, x2⟩, xt⟩ := hSW
          go_simp
          try with_reducible rfl
        try go_simp
        refine wpAnyL_take (i := 11) (v := ?_) rfl (by kernel_rfl) (by kernel_rfl) (by kernel_rfl) (by kernel_rfl) (by kernel_rfl) (fun _ _ _ h => h) (Or.inl ⟨by rfl, ?_⟩) hH ?_
        rotate_left
        · intro W hSW
          obtain ⟨⟨x0, x1, x2⟩, xt⟩ := hSW
          go_simp
          try with_reducible rfl
        try go_simp
        refine wpAnyL_one (i := 4) (by kernel_rfl) rfl (fun K hK => ?_)
        go_simp
        refine (HSI.out _).mono ?_
        rintro _ w4 ⟨rfl, hb4⟩
        have hS4 := HCL.out _ _ hb4 hs3' hS'
        have t4 := HTL.out _ _ hb4 hs3'' t3'
        have hs4 : w3.heap.size ≤ w4.heap.size := hb4.size
        have hB4 : Below w3.heap.size w3 w4 := (show Below w3.heap.size w3 w3.drew from (Below.refl _ _).drew).trans hb4
        refine hK.out _ _ (fun _ => ⟨hS4, t4⟩) ?_
        clear hK K hb4
        try go_simp
        refine wpAnyL_take (i := 5) (v := ?_) rfl (by kernel_rfl) (by kernel_rfl) (by kernel_rfl) (by kernel_rfl) (by kernel_rfl) (fun _ _ _ h => h) (Or.inl ⟨by rfl, ?_⟩) ⟨hS4, t4⟩ ?_
        rotate_left
        · intro W hSW
          obtain ⟨⟨x0, x1, x2⟩, xt⟩ := hSW
          go_simp
          try with_reducible rfl
        try go_simp
        refine wpAnyL_one (i := 8) (by kernel_rfl) rfl (fun K hK => ?_)
        go_simp
        refine (HSX.out _).mono ?_
        rintro _ w5 ⟨rfl, hb5⟩
        have hS5 := HCL.out _ _ hb5 (by omega) hS4
        have t5 := HTL.out _ _ hb5 (by omega) t4
        have hs5 : w4.heap.size ≤ w5.heap.size := hb5.size
        have hB5 := hB4.trans (hb5.mono hs4)
        refine hK.out _ _ (fun _ => ⟨hS5, t5⟩) ?_
        clear hK K hb5
        try go_simp
        refine wpAnyL_take (i := 9) (v := ?_) rfl (by kernel_rfl) (by kernel_rfl) (by kernel_rfl) (by kernel_rfl) (by kernel_rfl) (fun _ _ _ h => h) (Or.inl ⟨by rfl, ?_⟩) ⟨hS5, t5⟩ ?_
        rotate_left
        · intro W hSW
          obtain ⟨⟨x0, x1, x2⟩, xt⟩ := hSW
          go_simp
          try with_reducible rfl
        try go_simp
        refine wpAnyL_one (i := 12) (by kernel_rfl) rfl (fun K hK => ?_)
        go_simp
        refine (HSY.out _).mono ?_
        rintro _ w6 ⟨rfl, hb6⟩
        have hS6 := HCL.out _ _ hb6 (by omega) hS5
        have t6 := HTL.out _ _ hb6 (by omega) t5
        have hs6 : w5.heap.size ≤ w6.heap.size := hb6.size
        have hB6 := hB5.trans (hb6.mono (show w3.heap.size ≤ w5.heap.size by omega))
        have r6 := (hB6.block (w.heap.size + 1) (by omega)).trans H13.out
        have f6 : w6.frozen? ⟨w.heap.size + 1, 5, none⟩ = false := frozen_of_row _ _ _ _ _ r6
        have R6 := hide r6
        refine hK.out _ _ (fun _ => ⟨hS6, t6⟩) ?_
        clear hK K hb6 r6
        try go_simp
        refine wpAnyL_take (i := 13) (v := ?_) rfl (by kernel_rfl) (by kernel_rfl) (by kernel_rfl) (by kernel_rfl) (by kernel_rfl) (fun _ _ _ h => h) (Or.inl ⟨by rfl, ?_⟩) ⟨hS6, t6⟩ ?_
        rotate_left
        · intro W hSW
          obtain ⟨⟨x0, x1, x2⟩, xt⟩ := hSW
          go_simp
          try with_reducible rfl
        try go_simp
        refine wpAnyL_take (i := 14) (v := ?_) rfl (by kernel_rfl) (by kernel_rfl) (by kernel_rfl) (by kernel_rfl) (by kernel_rfl) (fun _ _ _ h => h) (Or.inl ⟨by rfl, ?_⟩) ⟨hS6, t6⟩ ?_
        rotate_left
        · intro W hSW
          obtain ⟨⟨x0, x1, x2⟩, xt⟩ := hSW
          go_simp
          try with_reducible rfl
        try go_simp
        refine wpAnyL_one (i := 15) (by kernel_rfl) rfl (fun K hK => ?_)
        go_simp
        refine hK.out _ _ (fun h => absurd rfl h) ?_
        clear hK K
        refine wpAnyL_done (by kernel_rfl) ?_ _
        go_wp2_with fail
        go_meet
        refine ⟨?_, ?_, ?_, ?_⟩
        · exact (HB33.out.trans (hB6.mono (by omega))).setCell (by show w.heap.size ≤ w.heap.size + 1; omega) _
        · obtain ⟨z, hz, hzr⟩ := H03.out
          refine ⟨z, hz, ?_⟩
          rw [heap_setCell_other _ _ _ _ (by show w.heap.size ≠ w.heap.size + 1; omega)]
          exact (hB6.block w.heap.size (by omega)).trans hzr
        · rw [heap_setCell_same _ _ _ _ _ _ R6.out]
          rfl
        · rw [heap_setCell_other _ _ _ _ (by show gx ≠ w.heap.size + 1; omega)]
          exact (hB6.block gx hs3).trans HX3.out
      case rest =>
        obtain ⟨hbc, h0c, h1c, hxc⟩ := hcut
        obtain ⟨x0, x1, x2⟩ := row3 hxc
        have hsc : gx < wc.heap.size := (Array.getElem?_eq_some_iff.1 hxc).1
        have hT3 := HTX.out
        rw [← hT3] at h1c
        clear hT3 HTX ha1 ha2 ha3 hS t3 HX3 H13 H03 HB33 hxc
        have HBOX := hide (show Ward.boxOf ⟨pi, px, py⟩ = ⟨px, py, px, py⟩ from rfl)
        obtain ⟨gb, hgb⟩ : ∃ gb, gb = wc.heap.size := ⟨_, rfl⟩
        have HN8 := hide (fun o => heap_alloc_new wc o)
        have HO8 := hide (fun o j (hj : j < wc.heap.size) => Below.heap_alloc wc o j hj)
        have HB8 := hide (fun o => hbc.alloc (show w.heap.size ≤ wc.heap.size by omega) o)
        have HB0 := hide h0c
        have HB1 := hide h1c
        clear h0c
        by_cases hi0 : i = 0
        · have HJ := hide (HBX.out.1 hi0)
          rw [HBOX.out] at HJ
          obtain ⟨y0, y1, y2, y3, yf⟩ := cells4 h1c
          have hlt1 : w.heap.size + 1 < wc.heap.size := by omega
          have hy0 : ∀ o, (wc.alloc o).cell? ⟨w.heap.size + 1, 0, none⟩ = some (I (boxTo L i).a) := fun o => by rw [World.cell?_alloc_lt _ _ _ hlt1]; exact y0
          have hy1 : ∀ o, (wc.alloc o).cell? ⟨w.heap.size + 1, 1, none⟩ = some (I (boxTo L i).b) := fun o => by rw [World.cell?_alloc_lt _ _ _ hlt1]; exact y1
          have hy2 : ∀ o, (wc.alloc o).cell? ⟨w.heap.size + 1, 2, none⟩ = some (I (boxTo L i).c) := fun o => by rw [World.cell?_alloc_lt _ _ _ hlt1]; exact y2
          have hy3 : ∀ o, (wc.alloc o).cell? ⟨w.heap.size + 1, 3, none⟩ = some (I (boxTo L i).d) := fun o => by rw [World.cell?_alloc_lt _ _ _ hlt1]; exact y3
          have hyf : ∀ o j, (wc.alloc o).frozen? ⟨w.heap.size + 1, j, none⟩ = false := fun o j => frozen_of_row _ _ _ _ _ ((HO8.out o _ hlt1).trans HB1.out)
          have KEY := hide (fun (ob : Obj) => show ((((((wc.setCell ⟨w.heap.size + 1, 0, none⟩ (I px)).setCell ⟨w.heap.size + 1, 1, none⟩ (I py)).setCell ⟨w.heap.size + 1, 2, none⟩ (I px)).setCell ⟨w.heap.size + 1, 3, none⟩ (I py)).alloc ob).heap[w.heap.size + 1]? = some (.cells (partV ⟨px, py, px, py⟩ L.length (leafTo L (i + 1)) 0 0 (.slice (some ⟨g, o, none⟩) L.length c)) 150 (0, 0)))
            ∧ (((((wc.setCell ⟨w.heap.size + 1, 0, none⟩ (I px)).setCell ⟨w.heap.size + 1, 1, none⟩ (I py)).setCell ⟨w.heap.size + 1, 2, none⟩ (I px)).setCell ⟨w.heap.size + 1, 3, none⟩ (I py)).alloc ob).heap[gb]? = some ob
            ∧ Below w.heap.size w (((((wc.setCell ⟨w.heap.size + 1, 0, none⟩ (I px)).setCell ⟨w.heap.size + 1, 1, none⟩ (I py)).setCell ⟨w.heap.size + 1, 2, none⟩ (I px)).setCell ⟨w.heap.size + 1, 3, none⟩ (I py)).alloc ob)
            ∧ (∃ z : Array Value, z.size = 9 ∧ (((((wc.setCell ⟨w.heap.size + 1, 0, none⟩ (I px)).setCell ⟨w.heap.size + 1, 1, none⟩ (I py)).setCell ⟨w.heap.size + 1, 2, none⟩ (I px)).setCell ⟨w.heap.size + 1, 3, none⟩ (I py)).alloc ob).heap[w.heap.size]? = some (.cells z 150 (0, 0)))
            ∧ wc.heap.size ≤ (((((wc.setCell ⟨w.heap.size + 1, 0, none⟩ (I px)).setCell ⟨w.heap.size + 1, 1, none⟩ (I py)).setCell ⟨w.heap.size + 1, 2, none⟩ (I px)).setCell ⟨w.heap.size + 1, 3, none⟩ (I py)).alloc ob).heap.size from by
            have q1 := part_set4 px py px py HB1.out
            have q2 := set4_below px py px py hbc (show w.heap.size ≤ w.heap.size + 1 by omega)
            have q3 := fun j (hj : j ≠ w.heap.size + 1) => set4_other (w := wc) px py px py hj
            have q4 : ((((wc.setCell ⟨w.heap.size + 1, 0, none⟩ (I px)).setCell ⟨w.heap.size + 1, 1, none⟩ (I py)).setCell ⟨w.heap.size + 1, 2, none⟩ (I px)).setCell ⟨w.heap.size + 1, 3, none⟩ (I py)).heap.size = wc.heap.size := by simp
            generalize ((((wc.setCell ⟨w.heap.size + 1, 0, none⟩ (I px)).setCell ⟨w.heap.size + 1, 1, none⟩ (I py)).setCell ⟨w.heap.size + 1, 2, none⟩ (I px)).setCell ⟨w.heap.size + 1, 3, none⟩ (I py)) = W at *
            refine ⟨(Below.heap_alloc W ob _ (by omega)).trans q1, ?_, q2.alloc (by omega) _, ?_, by rw [World.size_alloc]; omega⟩
            · rw [hgb, ← q4]; exact heap_alloc_new W ob
            · obtain ⟨z, hz, hzr⟩ := HB0.out
              exact ⟨z, hz, (Below.heap_alloc W ob _ (by omega)).trans ((q3 _ (by omega)).trans hzr)⟩)
          go_upto_region 11 with fail
          generalize hW : World.alloc _ _ = w8
          have HR8 := hide (show w8.heap[w.heap.size + 1]? = some (.cells (partV ⟨px, py, px, py⟩ L.length (leafTo L (i + 1)) 0 0 (.slice (some ⟨g, o, none⟩) L.length c)) 150 (0, 0)) by rw [← hW]; exact (KEY.out _).1)
          have HG8 := hide (show w8.heap[gb]? = some (.cells #[I px, I py, I px, I py] 148 (0, 0)) by rw [← hW]; exact (KEY.out _).2.1)
          have HBB8 := hide (show Below w.heap.size w w8 by rw [← hW]; exact (KEY.out _).2.2.1)
          have H08 := hide (show ∃ z : Array Value, z.size = 9 ∧ w8.heap[w.heap.size]? = some (.cells z 150 (0, 0)) by rw [← hW]; exact (KEY.out _).2.2.2.1)
          have HS8 := hide (show wc.heap.size ≤ w8.heap.size by rw [← hW]; exact (KEY.out _).2.2.2.2)
          try rw [← hgb]
          clear hW hy0 hy1 hy2 hy3 hyf y0 y1 y2 y3 yf hbc h1c x0 x1 x2 hgb HN8 HO8 HB8 hlt1 HB1 KEY
          have hs8 : gx < w8.heap.size := Nat.lt_of_lt_of_le hsc HS8.out
          obtain ⟨k0, k1, k2, k3, kf⟩ := cells4 HR8.out
          obtain ⟨m0, m1, m2, m3⟩ : Box4 w8 gb 0 px py px py := ⟨by rw [cell_of_row _ _ _ _ _ _ HG8.out]; rfl, by rw [cell_of_row _ _ _ _ _ _ HG8.out]; rfl, by rw [cell_of_row _ _ _ _ _ _ HG8.out]; rfl, by rw [cell_of_row _ _ _ _ _ _ HG8.out]; rfl⟩
          try dsimp only at k0 k1 k2 k3
          go_wp2_with fail
          refine (both_ref ⟨px, py, px, py⟩ ⟨px, py, px, py⟩ _).mono ?_
          rintro _ w9 ⟨rfl, hb9⟩
          have HR9 := hide ((hb9.block (w.heap.size + 1) (by omega)).trans HR8.out)
          obtain ⟨n0, n1, n2, n3, nf⟩ := cells4 HR9.out
          have HB9 := hide (HBB8.out.trans (hb9.mono (show w.heap.size ≤ w8.heap.size by omega)))
          have H09 := hide (show ∃ z : Array Value, z.size = 9 ∧ w9.heap[w.heap.size]? = some (.cells z 150 (0, 0)) by
            obtain ⟨z, hz, hzr⟩ := H08.out
            exact ⟨z, hz, (hb9.block w.heap.size (by omega)).trans hzr⟩)
          clear hb9 k0 k1 k2 k3 kf m0 m1 m2 m3 HR8 HBB8 H08 HG8
          try dsimp only at n0 n1 n2 n3
          generalize Ward.join ⟨px, py, px, py⟩ ⟨px, py, px, py⟩ = J at *
          obtain ⟨ja, jb, jc, jd⟩ := J
          go_wp2_with fail
          go_roundw
          case rel =>
            refine ⟨i + 1, hlt, by go_num, ?_, ?_, set4_below _ _ _ _ HB9.out (by omega)⟩
            · obtain ⟨z, hz, hzr⟩ := H09.out
              exact ⟨z, hz, (set4_other _ _ _ _ (by omega)).trans hzr⟩
            · rw [HJ.out]
              exact part_set4 _ _ _ _ HR9.out
          case measure => simp [intOf]; omega
        · have hi0' : ((i : Int) == 0) = false := by simp; omega
          have HJ := hide (HBX.out.2 hi0)
          rw [HBOX.out] at HJ
          go_upto_region 11 with fail
          generalize hW : World.alloc _ _ = w8
          generalize boxTo L i = BX at *
          have HR8 := hide (show w8.heap[w.heap.size + 1]? = some (.cells (partV BX L.length (leafTo L (i + 1)) 0 0 (.slice (some ⟨g, o, none⟩) L.length c)) 150 (0, 0)) by
            rw [← hW, Below.heap_alloc _ _ _ (by omega)]
            exact HB1.out)
          have HG8 := hide (show w8.heap[gb]? = some (.cells #[I px, I py, I px, I py] 148 (0, 0)) by
            rw [← hW, hgb]
            exact heap_alloc_new _ _)
          have HBB8 := hide (show Below w.heap.size w w8 by
            rw [← hW]
            exact hbc.alloc (by omega) _)
          have H08 := hide (show ∃ z : Array Value, z.size = 9 ∧ w8.heap[w.heap.size]? = some (.cells z 150 (0, 0)) by
            obtain ⟨z, hz, hzr⟩ := HB0.out
            refine ⟨z, hz, ?_⟩
            rw [← hW, Below.heap_alloc _ _ _ (by omega)]
            exact hzr)
          have HS8 := hide (show wc.heap.size ≤ w8.heap.size by rw [← hW, World.size_alloc]; omega)
          try rw [← hgb]
          clear hW hbc h1c x0 x1 x2 hgb HN8 HO8 HB8 HB1
          have hs8 : gx < w8.heap.size := Nat.lt_of_lt_of_le hsc HS8.out
          obtain ⟨k0, k1, k2, k3, kf⟩ := cells4 HR8.out
          obtain ⟨m0, m1, m2, m3⟩ : Box4 w8 gb 0 px py px py := ⟨by rw [cell_of_row _ _ _ _ _ _ HG8.out]; rfl, by rw [cell_of_row _ _ _ _ _ _ HG8.out]; rfl, by rw [cell_of_row _ _ _ _ _ _ HG8.out]; rfl, by rw [cell_of_row _ _ _ _ _ _ HG8.out]; rfl⟩
          try dsimp only at k0 k1 k2 k3
          go_wp2_with fail
          refine (both_ref BX ⟨px, py, px, py⟩ _).mono ?_
          rintro _ w9 ⟨rfl, hb9⟩
          have HR9 := hide ((hb9.block (w.heap.size + 1) (by omega)).trans HR8.out)
          obtain ⟨n0, n1, n2, n3, nf⟩ := cells4 HR9.out
          have HB9 := hide (HBB8.out.trans (hb9.mono (show w.heap.size ≤ w8.heap.size by omega)))
          have H09 := hide (show ∃ z : Array Value, z.size = 9 ∧ w9.heap[w.heap.size]? = some (.cells z 150 (0, 0)) by
            obtain ⟨z, hz, hzr⟩ := H08.out
            exact ⟨z, hz, (hb9.block w.heap.size (by omega)).trans hzr⟩)
          clear hb9 k0 k1 k2 k3 kf m0 m1 m2 m3 HR8 HBB8 H08 HG8
          try dsimp only at n0 n1 n2 n3
          generalize Ward.join BX ⟨px, py, px, py⟩ = J at *
          obtain ⟨ja, jb, jc, jd⟩ := J
          go_wp2_with fail
          go_roundw
          case rel =>
            refine ⟨i + 1, hlt, by go_num, ?_, ?_, set4_below _ _ _ _ HB9.out (by omega)⟩
            · obtain ⟨z, hz, hzr⟩ := H09.out
              exact ⟨z, hz, (set4_other _ _ _ _ (by omega)).trans hzr⟩
            · rw [HJ.out]
              exact part_set4 _ _ _ _ HR9.out
          case measure => simp [intOf]; omega
    · have ei : i = L.length := by omega
      subst ei
      obtain ⟨⟨z, hz, h0⟩, h1, hb⟩ := hla
      have HF := hide (show partV (Ward.boxL (L.map Ward.boxOf)) L.length (Ward.leafText L) 0 0 (.slice a L.length c) = partV (boxTo L L.length) L.length (leafTo L L.length) 0 0 (.slice a L.length c) by rw [leafTo_all, boxTo, List.take_length])
      have hM9 : (partV (boxTo L L.length) L.length (leafTo L L.length) 0 0 (.slice a L.length c)).size = 9 := rfl
      have hM1 : (partV (boxTo L L.length) L.length (leafTo L L.length) 0 0 (.slice a L.length c)).all (·.oneCell') = true := partV_one _ _ _ _ _ _ rfl
      have H0 := hide h0
      have H1 := hide h1
      have HZ := hide hz
      have HB := hide hb
      generalize partV (boxTo L L.length) L.length (leafTo L L.length) 0 0 (.slice a L.length c) = M at *
      have HM9 := hide hM9
      have HM1 := hide hM1
      clear h0 h1 hb hz hM9 hM1 HLA
      go_wp2_with (first | (refine wpList_load_row rfl 150 (.tmp 3) rfl (w.heap.size + 1) rfl 150 M (0, 0) _ H1.out Tryz.underlying150 rfl (by rw [HM9.out]; exact Tryz.infoPart) ?_) | (refine wpList_store_row rfl 150 (.tmp 2) (.tmp 60) rfl w.heap.size M rfl rfl 150 z H0.out (by rw [HM9.out]; exact Tryz.infoPart) (by rw [HM9.out, HZ.out]) HM1.out ?_))
      refine bodyPost_ret (v := .agg M) ?_ rfl ⟨by rw [HF.out], below_setRow HB.out (by omega) _⟩
      exact results_cell_row rfl _ _ w.heap.size 150 M (0, 0) _ rfl (setRow_heap _ _ _ _ _ _ H0.out) Tryz.underlying150 rfl (by rw [HM9.out]; exact Tryz.infoPart)
end Go.Proofs.YtenaelkbgkpllaaGreatDoor
/- The document's levels: parts in a row; the leaves. -/
namespace Go.Proofs.YtenaelkbgkpllaaGreatDoor
open Go.RowKit

def zeroPart : Value := .agg (partV ⟨0, 0, 0, 0⟩ 0 [] 0 0 (.slice none 0 0))
theorem Tryz.infoPartZ : (Tryz.prog.info? 150).map (fun i => (i.zero, i.size, i.bytes)) = some (some zeroPart, 9, 96) := by kernel_rfl
theorem Tryz.infoPartsZ : (Tryz.prog.info? 151).map (fun i => (i.zero, i.size, i.bytes)) = some (some (.slice none 0 0), 1, 24) := by kernel_rfl
/-- a part put behind others -/
theorem append_part {w : World} {B : Nat} {v : Value} {n : Nat} {xs : List Value} (M : List Value) (h9 : M.length = 9) (h1 : ∀ u ∈ M, u.oneCell' = true) (hown : w.ownsRow B 150 9 v n xs) (hB : B ≤ w.heap.size) (hn : n ≤ 1000) :
    ∃ v' w', (Builtin.append_ #[151, 151] 151 #[v, .slice (some ⟨w.heap.size, 0, none⟩) 1 1]).run Tryz.prog (w.alloc (.cells M.toArray 150)) = .ok v' w' ∧ w'.ownsRow B 150 9 v' (n + 1) (xs ++ M) ∧ w.grownBy w' v.ownBlock ∧ Fresh w v v' := by
  obtain ⟨i0, hi0, hz0, hz1, hz2⟩ := info_parts Tryz.infoPartZ
  obtain ⟨v', w', hr, ho, hg, hf⟩ := run_append_own2 (P := Tryz.prog) (w.alloc (.cells M.toArray 150)) B 151 151 150 i0 zeroPart 9 96 Tryz.underlying151 hi0 hz0 hz1 hz2 rfl (by decide) v n xs (hown.alloc _) ⟨w.heap.size, 0, none⟩ 1 1 M (by rw [h9])
    (fun j u hj => by rw [Addr.add_lit, Nat.zero_add, cell_of_row _ _ _ _ _ _ (heap_alloc_new w _), List.getElem?_toArray]; exact hj)
    h1 (by unfold maxLen; omega) (by omega) (by simp; omega)
  refine ⟨v', w', hr, ho, ⟨hg.os, hg.tape, hg.output, Nat.le_trans (by simp) hg.size, fun j hj hne => (hg.block j (by simp; omega) hne).trans (Below.heap_alloc w _ j hj)⟩, ?_⟩
  rcases hf with hf | ⟨g, hf, hgs⟩
  · exact .inl hf
  · exact .inr ⟨g, hf, Nat.le_trans (by simp) hgs⟩
/-- a level's row put behind others -/
theorem append_level {w : World} {B : Nat} {v : Value} {n : Nat} {xs : List Value} (x : Value) (h1 : x.oneCell' = true) (hown : w.ownsRow B 151 1 v n xs) (hB : B ≤ w.heap.size) (hn : n ≤ 1000) :
    ∃ v' w', (Builtin.append_ #[145, 145] 145 #[v, .slice (some ⟨w.heap.size, 0, none⟩) 1 1]).run Tryz.prog (w.alloc (.cells #[x] 151)) = .ok v' w' ∧ w'.ownsRow B 151 1 v' (n + 1) (xs ++ [x]) ∧ w.grownBy w' v.ownBlock ∧ Fresh w v v' := by
  obtain ⟨i0, hi0, hz0, hz1, hz2⟩ := info_parts Tryz.infoPartsZ
  obtain ⟨v', w', hr, ho, hg, hf⟩ := run_append_own2 (P := Tryz.prog) (w.alloc (.cells #[x] 151)) B 145 145 151 i0 (.slice none 0 0) 1 24 Tryz.underlying145 hi0 hz0 hz1 hz2 rfl (by decide) v n xs (hown.alloc _) ⟨w.heap.size, 0, none⟩ 1 1 [x] rfl
    (fun j u hj => by rw [Addr.add_lit, Nat.zero_add, cell_of_row _ _ _ _ _ _ (heap_alloc_new w _), List.getElem?_toArray]; exact hj)
    (fun u hu => by rw [List.mem_singleton.1 hu]; exact h1) (by unfold maxLen; omega) (by omega) (by simp; omega)
  refine ⟨v', w', hr, ho, ⟨hg.os, hg.tape, hg.output, Nat.le_trans (by simp) hg.size, fun j hj hne => (hg.block j (by simp; omega) hne).trans (Below.heap_alloc w _ j hj)⟩, ?_⟩
  rcases hf with hf | ⟨g, hf, hgs⟩
  · exact .inl hf
  · exact .inr ⟨g, hf, Nat.le_trans (by simp) hgs⟩
/-- the part of a tree of that height at that place -/
def partL (n : Nat) (t : Ward.T n) (j : Nat) (x : Value) : List Value := (partV (Ward.box n t) (Ward.count n t : Nat) (Ward.text Sha.sha n t) (match n with | 0 => 0 | _ + 1 => 4 * (j : Int)) (match n, t with | 0, _ => 0 | m + 1, cs => (List.length (cs : List (Ward.T m)) : Nat)) x).toList
theorem partL_len (n : Nat) (t : Ward.T n) (j : Nat) (x : Value) : (partL n t j x).length = 9 := rfl
/-- a level in memory -/
def LevAt (w : World) (B : Nat) (v : Value) (n : Nat) (ls : List (Ward.T n)) : Prop := ∃ xs : Nat → Value, (∀ j, (xs j).oneCell' = true) ∧ w.ownsRow B 150 9 v ls.length ((List.range ls.length).flatMap fun j => match ls[j]? with | some t => partL n t j (xs j) | none => [])
theorem LevAt.keep {S : Nat → Prop} {w w' : World} {B n : Nat} {v : Value} {ls : List (Ward.T n)} (h : LevAt w B v n ls) (hk : Keeps S w w') (hn : ∀ g, v.ownBlock = some g → ¬ S g) : LevAt w' B v n ls := by
  obtain ⟨xs, h1, h2⟩ := h
  exact ⟨xs, h1, ownsRow_keepsS h2 hk hn⟩
theorem LevAt.below {w w' : World} {B n : Nat} {v : Value} {ls : List (Ward.T n)} (h : LevAt w B v n ls) (hb : Below w.heap.size w w') : LevAt w' B v n ls := h.keep (S := fun _ => False) (Keeps.of_below hb) (fun _ _ h => h)
/-- what stands in a level at a place -/
theorem LevAt.at {w : World} {B n : Nat} {v : Value} {ls : List (Ward.T n)} (h : LevAt w B v n ls) (j : Nat) (hj : j < ls.length) : ∃ g c x, v = .slice (some ⟨g, 0, none⟩) ls.length c ∧ B ≤ g ∧ g < w.heap.size ∧ ls.length ≤ c ∧ x.oneCell' = true ∧ w.rangeAt g (j * 9) (partL n ls[j] j x) := by
  obtain ⟨xs, h1, h2⟩ := h
  rcases h2.2 with ⟨_, h0⟩ | ⟨g, cap, cur, rfl, hB, hg, hcap, -, -, -⟩
  · omega
  refine ⟨g, cap, xs j, rfl, hB, (Array.getElem?_eq_some_iff.1 hg).1, hcap, h1 j, fun k u hu => ?_⟩
  have hk : k < 9 := (List.getElem?_eq_some_iff.1 hu).1
  have h := h2.cells (g := g) rfl (j * 9 + k) u (by
    rw [List.flatMap_def, flat_get (c := 9) _ j k (fun U hU => by
      obtain ⟨m, hm, rfl⟩ := List.mem_map.1 hU
      have hm' := List.mem_range.1 hm
      rw [List.getElem?_eq_getElem hm']
      rfl) hk, List.getElem?_map, List.getElem?_range hj, Option.map_some, Option.bind_some, List.getElem?_eq_getElem hj]
    exact hu)
  rw [Addr.add_lit, Nat.zero_add] at h
  exact h
end Go.Proofs.YtenaelkbgkpllaaGreatDoor
/- The document's levels: the leaves, one behind another. -/
namespace Go.Proofs.YtenaelkbgkpllaaGreatDoor
open Go.RowKit

theorem levAt_nil (w : World) (B n : Nat) : LevAt w B (.slice none 0 0) n [] := ⟨fun _ => .slice none 0 0, fun _ => rfl, World.ownsRow_nil _ _ _ _⟩
theorem levAt_push {w' : World} {B n : Nat} {v' : Value} {ls : List (Ward.T n)} {t : Ward.T n} {x : Value} (xs : Nat → Value) (h1 : ∀ j, (xs j).oneCell' = true) (hx : x.oneCell' = true)
    (h3 : w'.ownsRow B 150 9 v' (ls.length + 1) (((List.range ls.length).flatMap fun j => match ls[j]? with | some s => partL n s j (xs j) | none => []) ++ partL n t ls.length x)) : LevAt w' B v' n (ls ++ [t]) := by
  refine ⟨fun j => if j < ls.length then xs j else x, fun j => ?_, ?_⟩
  · show (if j < ls.length then xs j else x).oneCell' = true
    split
    · exact h1 j
    · exact hx
  · rw [List.length_append, List.length_singleton, List.range_succ, List.flatMap_append]
    have e1 : ((List.range ls.length).flatMap fun j => match (ls ++ [t])[j]? with | some s => partL n s j (if j < ls.length then xs j else x) | none => []) = (List.range ls.length).flatMap fun j => match ls[j]? with | some s => partL n s j (xs j) | none => [] := by
      refine Ward.flatMap_congr fun j hj => ?_
      have hj' := List.mem_range.1 hj
      rw [List.getElem?_append_left hj', if_pos hj']
    have e2 : ([ls.length].flatMap fun j => match (ls ++ [t])[j]? with | some s => partL n s j (if j < ls.length then xs j else x) | none => []) = partL n t ls.length x := by
      simp
    show w'.ownsRow B 150 9 v' (ls.length + 1) (((List.range ls.length).flatMap fun j => match (ls ++ [t])[j]? with | some s => partL n s j (if j < ls.length then xs j else x) | none => []) ++ ([ls.length].flatMap fun j => match (ls ++ [t])[j]? with | some s => partL n s j (if j < ls.length then xs j else x) | none => []))
    rw [e1, e2]
    exact h3
/-- the leaves, each -/
theorem leaves_at (K : List Ward.Pt) (j : Nat) (h : j < (Ward.leaves K).length) : (Ward.leaves K)[j] = (K.drop (4 * j)).take 4 := by
  unfold Ward.leaves at h ⊢
  by_cases h0 : K.length = 0
  · have e : K = [] := List.length_eq_zero_iff.1 h0
    subst e
    simp only [List.length_nil, if_true] at h ⊢
    have : j = 0 := by simp at h; omega
    subst this
    rfl
  · simp only [if_neg h0] at h ⊢
    exact Ward.fours_get K j h
theorem leaves_cond (K : List Ward.Pt) (j : Nat) (h : j ≤ (Ward.leaves K).length) : (j < (Ward.leaves K).length ↔ (4 * j < K.length ∨ 4 * j = 0)) := by
  unfold Ward.leaves at h ⊢
  by_cases h0 : K.length = 0
  · simp only [if_pos h0] at h ⊢
    simp at h ⊢
    omega
  · simp only [if_neg h0] at h ⊢
    rw [Ward.fours_length] at h ⊢
    omega
theorem leaf_part (G : List Ward.Pt) (x : Value) (j : Nat) : (partV (Ward.boxL (G.map Ward.boxOf)) G.length (Ward.leafText G) 0 0 x).toList = partL 0 G j x := rfl
/-- what Levels holds in hand -/
structure LvS (w : World) (r : Nat) (u : Value) (K : List Ward.Pt) (wq : World) : Prop where
  map : RMap wq r u K
  bl : Below w.heap.size w wq
/-- all levels in memory: the rows, one behind another; the last of them is v3 -/
def AllAt (w : World) (B : Nat) (v v3 : Value) (K : List Ward.Pt) (n : Nat) : Prop := ∃ vs : Nat → Value, (∀ m, (vs m).oneCell' = true) ∧ vs n = v3 ∧ w.ownsRow B 151 1 v (n + 1) ((List.range (n + 1)).map vs) ∧ ∀ m, m ≤ n → LevAt w B (vs m) m (Ward.lev K m)
theorem AllAt.below {w w' : World} {B : Nat} {v v3 : Value} {K : List Ward.Pt} {n : Nat} (h : AllAt w B v v3 K n) (hb : Below w.heap.size w w') : AllAt w' B v v3 K n := by
  obtain ⟨vs, h1, h2, h3, h4⟩ := h
  exact ⟨vs, h1, h2, ownsRow_keepsS (S := fun _ => False) h3 (Keeps.of_below hb) (fun _ _ h => h), fun m hm => (h4 m hm).below hb⟩
theorem AllAt.now {w : World} {B : Nat} {v v3 : Value} {K : List Ward.Pt} {n : Nat} (h : AllAt w B v v3 K n) : LevAt w B v3 n (Ward.lev K n) := by
  obtain ⟨vs, h1, h2, h3, h4⟩ := h
  rw [← h2]
  exact h4 n (Nat.le_refl _)
theorem LevAt.one {w : World} {B n : Nat} {v : Value} {ls : List (Ward.T n)} (h : LevAt w B v n ls) : v.oneCell' = true ∧ ∃ a c, v = .slice a ls.length c := by
  obtain ⟨xs, h1, h2⟩ := h
  rcases h2.2 with ⟨rfl, h0⟩ | ⟨g, cap, cur, rfl, _⟩
  · exact ⟨rfl, none, 0, by rw [h0]⟩
  · exact ⟨rfl, _, cap, rfl⟩
theorem allAt_first {w : World} {B : Nat} {v3 : Value} {K : List Ward.Pt} (h : LevAt w B v3 0 (Ward.lev K 0)) (hB : B ≤ w.heap.size) : AllAt (w.alloc (.cells #[v3] 151)) B (.slice (some ⟨w.heap.size, 0, none⟩) 1 1) v3 K 0 := by
  refine ⟨fun _ => v3, fun _ => h.one.1, rfl, ?_, fun m hm => ?_⟩
  · exact World.ownsRow_lit (size := 1) w #[v3] 1 hB (by unfold maxLen; omega) rfl
  · have : m = 0 := by omega
    subst this
    exact h.below ((Below.refl _ _).alloc (Nat.le_refl _) _)
/-- a level more -/
theorem allAt_push {w w' : World} {B : Nat} {v v' v3 v8 : Value} {K : List Ward.Pt} {n : Nat} (h : AllAt w B v v3 K n) (h8 : LevAt w B v8 (n + 1) (Ward.lev K (n + 1)))
    (hg : w.grownBy w' v.ownBlock) (ho : ∀ xs, w.ownsRow B 151 1 v (n + 1) xs → w'.ownsRow B 151 1 v' (n + 1 + 1) (xs ++ [v8])) : AllAt w' B v' v8 K (n + 1) := by
  obtain ⟨vs, h1, h2, h3, h4⟩ := h
  have key : ∀ m (x : Value) (ls : List (Ward.T m)), LevAt w B x m ls → LevAt w' B x m ls := fun m x ls hx => by
    refine hx.keep (Keeps.of_grown hg) (fun g hg' e => ?_)
    obtain ⟨xs, _, hr⟩ := hx
    rcases hr.2 with ⟨rfl, _⟩ | ⟨g1, c1, cur1, rfl, _, hh1, _⟩
    · simp [Value.ownBlock] at hg'
    rcases h3.2 with ⟨rfl, hz⟩ | ⟨g2, c2, cur2, rfl, _, hh2, _⟩
    · omega
    simp [Value.ownBlock] at hg' e
    subst hg' e
    rw [hh1] at hh2
    injection hh2 with hh2
    injection hh2 with _ hh2
    exact absurd hh2 (by decide)
  refine ⟨fun m => if m ≤ n then vs m else v8, fun m => ?_, if_neg (by omega), ?_, fun m hm => ?_⟩
  · show (if m ≤ n then vs m else v8).oneCell' = true
    split
    · exact h1 m
    · exact h8.one.1
  · have h5 := ho _ h3
    rw [List.range_succ, List.map_append]
    have e1 : (List.range (n + 1)).map (fun m => if m ≤ n then vs m else v8) = (List.range (n + 1)).map vs := List.map_congr_left fun m hm => if_pos (by have := List.mem_range.1 hm; omega)
    have e2 : [n + 1].map (fun m => if m ≤ n then vs m else v8) = [v8] := by rw [List.map_singleton, if_neg (by omega)]
    rw [e1, e2]
    exact h5
  · show LevAt w' B (if m ≤ n then vs m else v8) m (Ward.lev K m)
    by_cases hmn : m ≤ n
    · rw [if_pos hmn]; exact key m _ _ (h4 m hmn)
    · rw [if_neg hmn]
      have : m = n + 1 := by omega
      subst this
      exact key _ _ _ h8
theorem levAt_low {w : World} {B B' n : Nat} {v : Value} {ls : List (Ward.T n)} (h : LevAt w B v n ls) (hB : B' ≤ B) : LevAt w B' v n ls := by
  obtain ⟨xs, h1, h2⟩ := h
  refine ⟨xs, h1, h2.1, ?_⟩
  rcases h2.2 with h0 | ⟨g, cap, cur, e, hb, r⟩
  · exact .inl h0
  · exact .inr ⟨g, cap, cur, e, by omega, r⟩
/-- the cells of a part that stands in a row -/
structure PtCells (w : World) (g o : Nat) (b : Ward.Box) (c : Int) (t : List UInt8) : Prop where
  c0 : w.cell? ⟨g, o, none⟩ = some (I b.a)
  c1 : w.cell? ⟨g, o + 1, none⟩ = some (I b.b)
  c2 : w.cell? ⟨g, o + 2, none⟩ = some (I b.c)
  c3 : w.cell? ⟨g, o + 3, none⟩ = some (I b.d)
  c4 : w.cell? ⟨g, o + 4, none⟩ = some (I c)
  c5 : w.cell? ⟨g, o + 5, none⟩ = some (Sv t)
theorem PtCells.of {w : World} {g o n j : Nat} {t : Ward.T n} {x : Value} (h : w.rangeAt g o (partL n t j x)) : PtCells w g o (Ward.box n t) (Ward.count n t : Nat) (Ward.text Sha.sha n t) :=
  ⟨h 0 _ rfl, h 1 _ rfl, h 2 _ rfl, h 3 _ rfl, h 4 _ rfl, h 5 _ rfl⟩
theorem PtCells.below {w w' : World} {B g o : Nat} {b : Ward.Box} {c : Int} {t : List UInt8} (h : PtCells w g o b c t) (hb : Below B w w') (hg : g < B) : PtCells w' g o b c t :=
  ⟨(hb.cell (p := ⟨g, _, none⟩) hg).trans h.c0, (hb.cell (p := ⟨g, _, none⟩) hg).trans h.c1, (hb.cell (p := ⟨g, _, none⟩) hg).trans h.c2, (hb.cell (p := ⟨g, _, none⟩) hg).trans h.c3, (hb.cell (p := ⟨g, _, none⟩) hg).trans h.c4, (hb.cell (p := ⟨g, _, none⟩) hg).trans h.c5⟩
/-- what is known of a node behind some of its children -/
def boxQ' (n : Nat) (G : List (Ward.T n)) (b : Ward.Box) (q : Nat) : Ward.Box := ((G.take q).map (Ward.box n)).foldl Ward.join b
def cntQ (n : Nat) (G : List (Ward.T n)) (q : Nat) : Nat := ((G.take q).map (Ward.count n)).sum
def txtQ (n : Nat) (G : List (Ward.T n)) (q : Nat) : List UInt8 := (G.take q).flatMap (Ward.head Sha.sha n)
theorem txtQ_len (n : Nat) (G : List (Ward.T n)) (q : Nat) : (txtQ n G q).length = 52 * (G.take q).length := by
  unfold txtQ
  induction G.take q with
  | nil => rfl
  | cons t l ih => rw [List.flatMap_cons, List.length_append, ih, Ward.head_len sha_length, List.length_cons]; omega
end Go.Proofs.YtenaelkbgkpllaaGreatDoor
/- The levels: how much they hold. -/
namespace Go.Proofs.YtenaelkbgkpllaaGreatDoor
namespace Ward
theorem lev_pts (L : List Pt) : ∀ n, ptsL n (lev L n) = L
  | 0 => leaves_pts L
  | n + 1 => by
    have h := lev_pts L n
    show List.flatMap (pts (n + 1)) (fours (lev L n)) = L
    have h2 : List.flatMap (pts (n + 1)) (fours (lev L n)) = List.flatMap (pts n) (fours (lev L n)).flatten := by
      rw [List.flatten_eq_flatMap, List.flatMap_assoc]
      rfl
    rw [h2, fours_flat]
    exact h
theorem flatMap_mem_le {α β : Type} (f : α → List β) : ∀ (l : List α) (x : α), x ∈ l → (f x).length ≤ (l.flatMap f).length
  | a :: l, x, h => by
    rw [List.flatMap_cons, List.length_append]
    rcases List.mem_cons.1 h with rfl | h
    · omega
    · have := flatMap_mem_le f l x h; omega
theorem lev_count (L : List Pt) (n : Nat) (t : T n) (h : t ∈ lev L n) : count n t ≤ L.length := by
  rw [count_pts]
  have h1 := flatMap_mem_le (pts n) (lev L n) t h
  have h2 := congrArg List.length (lev_pts L n)
  unfold ptsL at h2
  omega
theorem sum_take_le : ∀ (l : List Nat) (q : Nat), (l.take q).sum ≤ l.sum
  | _, 0 => by simp
  | [], _ + 1 => by simp
  | a :: l, q + 1 => by
    have := sum_take_le l q
    rw [List.take_succ_cons, List.sum_cons, List.sum_cons]; omega
theorem text_small {dig : List UInt8 → List UInt8} (hd : ∀ l, (dig l).length = 32) : ∀ (n : Nat) (t : T n), Small n t → (text dig n t).length ≤ 210
  | 0, l, h => by
    have : (text dig 0 l).length = 2 + 12 * List.length (l : List Pt) := by
      show (leafText l).length = _
      simp only [leafText, List.length_cons]
      rw [pts_len]; omega
    have := h.1
    omega
  | n + 1, cs, h => by
    rw [text_succ]
    have key : ∀ (l : List (T n)), (List.flatMap (head dig n) l).length = 52 * l.length := by
      intro l
      induction l with
      | nil => simp
      | cons c l ih =>
        rw [List.flatMap_cons, List.length_append, head_len hd, ih, List.length_cons]; omega
    have h1 := h.1
    simp only [List.length_cons]
    rw [key]
    omega
end Ward
end Go.Proofs.YtenaelkbgkpllaaGreatDoor
/- A proof, child by child, as the document's own text has it. -/
namespace Go.Proofs.YtenaelkbgkpllaaGreatDoor
namespace Ward
variable (dig : List UInt8 → List UInt8) (must : Box → Bool)
/-- what a proof has of one child -/
def showK (n : Nat) (c : T n) : List UInt8 := head dig n c ++ (if must (box n c) then 1 :: proof dig must n c else [0])
theorem proof_succ (n : Nat) (cs : List (T n)) : proof dig must (n + 1) cs = 2 :: UInt8.ofNat cs.length :: cs.flatMap (showK dig must n) := rfl
theorem proof_zero (l : List Pt) : proof dig must 0 l = text dig 0 l := rfl
theorem take_flat {α β : Type} (f : α → List β) (l : List α) (k : Nat) (h : k < l.length) : (l.take (k + 1)).flatMap f = (l.take k).flatMap f ++ f l[k] := by
  rw [List.take_succ_eq_append_getElem h, List.flatMap_append, List.flatMap_singleton]
theorem flat_fixed {α β : Type} (f : α → List β) (s : Nat) (l : List α) (h : ∀ x ∈ l, (f x).length = s) (k : Nat) (hk : k < l.length) : ((l.flatMap f).drop (s * k)).take s = f l[k] := by
  induction l generalizing k with
  | nil => simp at hk
  | cons a l ih =>
    have ha : (f a).length = s := h a (List.mem_cons_self ..)
    rw [List.flatMap_cons]
    cases k with
    | zero => simp [← ha]
    | succ k =>
      rw [show s * (k + 1) = (f a).length + s * k by rw [ha, Nat.mul_succ]; omega, List.drop_append]
      simp only [Nat.add_sub_cancel_left, List.drop_eq_nil_of_le (Nat.le_add_right (f a).length _), List.nil_append]
      exact ih (fun x hx => h x (List.mem_cons_of_mem _ hx)) k (by simpa using hk)
theorem flat_fix_len {α β : Type} (f : α → List β) (s : Nat) (l : List α) (h : ∀ x ∈ l, (f x).length = s) : (l.flatMap f).length = s * l.length := by
  induction l with
  | nil => simp
  | cons a l ih => rw [List.flatMap_cons, List.length_append, ih (fun x hx => h x (List.mem_cons_of_mem _ hx)), h a (List.mem_cons_self ..), List.length_cons, Nat.mul_succ]; omega
variable {dig}
theorem text_len (hd : ∀ l, (dig l).length = 32) (n : Nat) (cs : List (T n)) : (text dig (n + 1) cs).length = 2 + 52 * cs.length := by
  rw [text_succ]
  simp only [List.length_cons]
  rw [flat_fix_len _ 52 cs (fun c _ => head_len hd n c)]
  omega
theorem text_two (n : Nat) (cs : List (T n)) : (text dig (n + 1) cs).take 2 = [2, UInt8.ofNat cs.length] := rfl
theorem text_head (hd : ∀ l, (dig l).length = 32) (n : Nat) (cs : List (T n)) (k : Nat) (h : k < cs.length) : ((text dig (n + 1) cs).drop (2 + 52 * k)).take 52 = head dig n cs[k] := by
  rw [text_succ, show 2 + 52 * k = 52 * k + 1 + 1 by omega, List.drop_succ_cons, List.drop_succ_cons]
  exact flat_fixed _ 52 cs (fun c _ => head_len hd n c) k h
theorem lev_kids (K : List Pt) (n i : Nat) (h : i < (lev K (n + 1)).length) : (lev K (n + 1))[i] = ((lev K n).drop (4 * i)).take 4 := fours_get (lev K n) i h
theorem lev_few (K : List Pt) (n i : Nat) (h : i < (lev K (n + 1)).length) : List.length ((lev K (n + 1))[i] : List (T n)) ≤ 4 ∧ 4 * i + List.length ((lev K (n + 1))[i] : List (T n)) ≤ (lev K n).length := by
  have e := lev_kids K n i h
  have h' : i < ((lev K n).length + 3) / 4 := by
    have := h
    rw [lev, fours_length] at this
    exact this
  rw [e]
  simp only [List.length_take, List.length_drop]
  omega
theorem lev_kid (K : List Pt) (n i k : Nat) (h : i < (lev K (n + 1)).length) (hk : k < List.length ((lev K (n + 1))[i] : List (T n))) (hj : 4 * i + k < (lev K n).length) : ((lev K (n + 1))[i] : List (T n))[k] = (lev K n)[4 * i + k] := by
  have e := lev_kids K n i h
  have : ∀ (x : List (T n)) (hx : k < x.length), x = ((lev K n).drop (4 * i)).take 4 → x[k] = (lev K n)[4 * i + k] := by
    intro x hx ex
    subst ex
    simp [List.getElem_take, List.getElem_drop]
  exact this _ hk e
/-- how long a proof is -/
theorem proof_len (hd : ∀ l, (dig l).length = 32) : ∀ (n : Nat) (t : T n), Small n t → (proof dig must n t).length ≤ 300 * 5 ^ n
  | 0, l, h => by
    have h1 := text_small hd 0 l h
    rw [proof_zero]
    omega
  | n + 1, cs, h => by
    rw [proof_succ]
    have h4 : List.length (cs : List (T n)) ≤ 4 := h.1
    have hall : ∀ c ∈ (cs : List (T n)), (showK dig must n c).length ≤ 53 + 300 * 5 ^ n := fun c hc => by
      have ih := proof_len hd n c (h.2 c hc)
      unfold showK
      rw [List.length_append, head_len hd]
      split
      · rw [List.length_cons]; omega
      · simp
    have key : ∀ (l : List (T n)), (∀ c ∈ l, (showK dig must n c).length ≤ 53 + 300 * 5 ^ n) → (l.flatMap (showK dig must n)).length ≤ l.length * (53 + 300 * 5 ^ n) := by
      intro l hl
      induction l with
      | nil => simp
      | cons a l ih =>
        rw [List.flatMap_cons, List.length_append, List.length_cons, Nat.succ_mul]
        have := hl a (List.mem_cons_self ..)
        have := ih (fun c hc => hl c (List.mem_cons_of_mem _ hc))
        omega
    have h2 := key cs hall
    have h3 : List.length (cs : List (T n)) * (53 + 300 * 5 ^ n) ≤ 4 * (53 + 300 * 5 ^ n) := Nat.mul_le_mul_right _ h4
    have h5 : 1 ≤ 5 ^ n := Nat.one_le_pow n 5 (by decide)
    simp only [List.length_cons]
    rw [Nat.pow_succ]
    omega
end Ward
end Go.Proofs.YtenaelkbgkpllaaGreatDoor
