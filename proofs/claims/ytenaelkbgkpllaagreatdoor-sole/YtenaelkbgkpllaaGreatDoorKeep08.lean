/- Part 8 of what the claims on Bound, Small, Right and Sole rest on. -/
import Derived.Test.YtenaelkbgkpllaaGreatDoorKeep07
import Derived.Deep.RegionWith
/- A point put into a map: the call. -/
namespace Go.Proofs.YtenaelkbgkpllaaGreatDoor
open Go.RowKit

theorem isID_yes (n : Int) (w : World) (h : 1 ≤ n ∧ n ≤ 1000000) : Calls Tryz.prog 31 #[I n] w fun e w' => e = .returned (.bool true) ∧ w' = w :=
  (isID_any n w).mono fun _ _ ⟨he, hw⟩ => ⟨by rw [he, decide_eq_true h], hw⟩
theorem isID_no (n : Int) (w : World) (h : ¬ (1 ≤ n ∧ n ≤ 1000000)) : Calls Tryz.prog 31 #[I n] w fun e w' => e = .returned (.bool false) ∧ w' = w :=
  (isID_any n w).mono fun _ _ ⟨he, hw⟩ => ⟨by rw [he, decide_eq_false h], hw⟩
theorem isCoord_yes (n : Int) (w : World) (h : -1000000 ≤ n ∧ n ≤ 1000000) : Calls Tryz.prog 32 #[I n] w fun e w' => e = .returned (.bool true) ∧ w' = w :=
  (isCoord_any n w).mono fun _ _ ⟨he, hw⟩ => ⟨by rw [he, decide_eq_true h], hw⟩
theorem isCoord_no (n : Int) (w : World) (h : ¬ (-1000000 ≤ n ∧ n ≤ 1000000)) : Calls Tryz.prog 32 #[I n] w fun e w' => e = .returned (.bool false) ∧ w' = w :=
  (isCoord_any n w).mono fun _ _ ⟨he, hw⟩ => ⟨by rw [he, decide_eq_false h], hw⟩

/-- what a call of Insert leaves behind -/
def Inserted (w : World) (m : Nat) (v : Value) (L : List Ward.Pt) (c : Int) (e : Ending) (w' : World) : Prop := e = .returned (I c) ∧ ∃ v', IsMap w' m v' L ∧ Fresh w v v' ∧ Keeps (Mine m v) w w'
theorem Inserted.none {w w' : World} {m : Nat} {v : Value} {L : List Ward.Pt} {c : Int} (h : IsMap w m v L) (hb : Below w.heap.size w w') : Inserted w m v L c (.returned (I c)) w' :=
  ⟨rfl, v, h.keeps (S := fun _ => False) (Keeps.of_below hb) (fun _ _ h => h), .inl rfl, Keeps.of_below hb⟩

set_option maxHeartbeats 1000000 in
theorem insert_id (m : Nat) (v : Value) (L : List Ward.Pt) (p : Ward.Pt) (w : World) (hm : IsMap w m v L) (h1 : ¬ (1 ≤ p.id ∧ p.id ≤ 1000000)) :
    Calls Tryz.prog 15 #[.pointer (some ⟨m, 0, none⟩), .agg #[I p.id, I p.x, I p.y]] w fun e w' => Inserted w m v L 1 e w' := by
  go_enter Tryz.func15, Tryz.ntmps15
  go_wp2_with (go_at_call 31; refine (isID_no _ _ h1).mono ?_; rintro _ _ ⟨rfl, rfl⟩)
  go_ret
  exact Inserted.none hm ((Below.refl w.heap.size w).alloc (Nat.le_refl _) _)
set_option maxHeartbeats 1000000 in
theorem insert_x (m : Nat) (v : Value) (L : List Ward.Pt) (p : Ward.Pt) (w : World) (hm : IsMap w m v L) (h1 : 1 ≤ p.id ∧ p.id ≤ 1000000) (h2 : ¬ (-1000000 ≤ p.x ∧ p.x ≤ 1000000)) :
    Calls Tryz.prog 15 #[.pointer (some ⟨m, 0, none⟩), .agg #[I p.id, I p.x, I p.y]] w fun e w' => Inserted w m v L 2 e w' := by
  go_enter Tryz.func15, Tryz.ntmps15
  go_wp2_with (first | (go_at_call 31; refine (isID_yes _ _ h1).mono ?_; rintro _ _ ⟨rfl, rfl⟩) | (go_at_call 32; refine (isCoord_no p.x _ h2).mono ?_; rintro _ _ ⟨rfl, rfl⟩))
  go_ret
  exact Inserted.none hm ((Below.refl w.heap.size w).alloc (Nat.le_refl _) _)
set_option maxHeartbeats 1000000 in
theorem insert_y (m : Nat) (v : Value) (L : List Ward.Pt) (p : Ward.Pt) (w : World) (hm : IsMap w m v L) (h1 : 1 ≤ p.id ∧ p.id ≤ 1000000) (h2 : -1000000 ≤ p.x ∧ p.x ≤ 1000000) (h3 : ¬ (-1000000 ≤ p.y ∧ p.y ≤ 1000000)) :
    Calls Tryz.prog 15 #[.pointer (some ⟨m, 0, none⟩), .agg #[I p.id, I p.x, I p.y]] w fun e w' => Inserted w m v L 2 e w' := by
  go_enter Tryz.func15, Tryz.ntmps15
  go_wp2_with (first | (go_at_call 31; refine (isID_yes _ _ h1).mono ?_; rintro _ _ ⟨rfl, rfl⟩) | (go_at_call_of 32 (I p.x); refine (isCoord_yes p.x _ h2).mono ?_; rintro _ _ ⟨rfl, rfl⟩) | (go_at_call_of 32 (I p.y); refine (isCoord_no p.y _ h3).mono ?_; rintro _ _ ⟨rfl, rfl⟩))
  go_ret
  exact Inserted.none hm ((Below.refl w.heap.size w).alloc (Nat.le_refl _) _)
theorem IsMap.cell {w : World} {m : Nat} {v : Value} {L : List Ward.Pt} (h : IsMap w m v L) : w.cell? ⟨m, 0, none⟩ = some v := by
  rw [cell_of_row _ _ _ _ _ _ h.row]; rfl
theorem IsMap.below {w w' : World} {m : Nat} {v : Value} {L : List Ward.Pt} (h : IsMap w m v L) (hb : Below w.heap.size w w') : IsMap w' m v L := h.keeps (S := fun _ => False) (Keeps.of_below hb) (fun _ _ h => h)
theorem IsMap.slice {w : World} {m : Nat} {v : Value} {L : List Ward.Pt} (h : IsMap w m v L) : ∃ a c, v = .slice a L.length c := by
  obtain ⟨a, c, rfl, _⟩ := h.own.reads
  exact ⟨a, c, rfl⟩
theorem place_no {id : Int} {L : List Ward.Pt} {r : Int} (h : Place id L r) (hn : ¬ ∃ q ∈ L, q.id = id) : r = -1 := by
  rcases h with ⟨h, _⟩ | ⟨i, hi, _, e⟩
  · exact h
  · exact absurd ⟨_, List.getElem_mem hi, e⟩ hn
theorem place_yes {id : Int} {L : List Ward.Pt} {r : Int} (h : Place id L r) (hn : ∃ q ∈ L, q.id = id) : 0 ≤ r := by
  rcases h with ⟨_, h⟩ | ⟨i, hi, e, _⟩
  · obtain ⟨q, hq, e⟩ := hn
    exact absurd e (h q hq)
  · omega
set_option maxHeartbeats 1000000 in
theorem insert_taken (m : Nat) (v : Value) (L : List Ward.Pt) (p : Ward.Pt) (w : World) (hm : IsMap w m v L) (hG : Good L) (h1 : 1 ≤ p.id ∧ p.id ≤ 1000000) (h2 : -1000000 ≤ p.x ∧ p.x ≤ 1000000) (h3 : -1000000 ≤ p.y ∧ p.y ≤ 1000000) (h4 : ∃ q ∈ L, q.id = p.id) :
    Calls Tryz.prog 15 #[.pointer (some ⟨m, 0, none⟩), .agg #[I p.id, I p.x, I p.y]] w fun e w' => Inserted w m v L 3 e w' := by
  have HM := hide hm
  have hM0 := fun o => hm.below ((Below.refl w.heap.size w).alloc (Nat.le_refl _) o)
  have HM0 := hide hM0
  have hl := hG.many
  clear hm hM0
  go_enter Tryz.func15, Tryz.ntmps15
  go_wp2_with (first | (go_at_call 31; refine (isID_yes _ _ h1).mono ?_; rintro _ _ ⟨rfl, rfl⟩) | (go_at_call_of 32 (I p.x); refine (isCoord_yes p.x _ h2).mono ?_; rintro _ _ ⟨rfl, rfl⟩) | (go_at_call_of 32 (I p.y); refine (isCoord_yes p.y _ h3).mono ?_; rintro _ _ ⟨rfl, rfl⟩) | (go_at_call 33; refine (find_any m v L p.id _ (HM0.out _).cell (HM0.out _).own.reads (by omega)).mono ?_; rintro _ w1 ⟨r, rfl, hr, hb1⟩; have hr0 := place_yes hr h4; clear hr))
  go_ret
  exact Inserted.none HM.out (((Below.refl w.heap.size w).alloc (Nat.le_refl _) _).trans (hb1.mono (by simp)))
set_option maxRecDepth 100000 in
set_option maxHeartbeats 1000000 in
theorem insert_limit (m : Nat) (v : Value) (L : List Ward.Pt) (p : Ward.Pt) (w : World) (hm : IsMap w m v L) (hG : Good L) (h1 : 1 ≤ p.id ∧ p.id ≤ 1000000) (h2 : -1000000 ≤ p.x ∧ p.x ≤ 1000000) (h3 : -1000000 ≤ p.y ∧ p.y ≤ 1000000) (h4 : ¬ ∃ q ∈ L, q.id = p.id) (h5 : 150 ≤ L.length) :
    Calls Tryz.prog 15 #[.pointer (some ⟨m, 0, none⟩), .agg #[I p.id, I p.x, I p.y]] w fun e w' => Inserted w m v L 5 e w' := by
  have HM := hide hm
  have hM0 := fun o => hm.below ((Below.refl w.heap.size w).alloc (Nat.le_refl _) o)
  have HM0 := hide hM0
  have hl := hG.many
  have hsl := hm.slice
  obtain ⟨a, c, rfl⟩ := hsl
  clear hm hM0
  go_enter Tryz.func15, Tryz.ntmps15
  go_wp2_with (first | (go_at_call 31; refine (isID_yes _ _ h1).mono ?_; rintro _ _ ⟨rfl, rfl⟩) | (go_at_call_of 32 (I p.x); refine (isCoord_yes p.x _ h2).mono ?_; rintro _ _ ⟨rfl, rfl⟩) | (go_at_call_of 32 (I p.y); refine (isCoord_yes p.y _ h3).mono ?_; rintro _ _ ⟨rfl, rfl⟩) | (go_at_call 33; refine (find_any m _ L p.id _ (HM0.out _).cell (HM0.out _).own.reads (by omega)).mono ?_; rintro _ w1 ⟨r, rfl, hr, hb1⟩; have hr0 := place_no hr h4; subst hr0; clear hr; have hc1 := ((HM0.out _).below hb1).cell))
  go_ret
  exact Inserted.none HM.out (((Below.refl w.heap.size w).alloc (Nat.le_refl _) _).trans (hb1.mono (by simp)))
theorem Fresh.apart {w : World} {m : Nat} {v v' : Value} (h : Fresh w v v') (hm : m < w.heap.size) (hn : v.ownBlock ≠ some m) : v'.ownBlock ≠ some m := by
  rcases h with h | ⟨g, h, hg⟩
  · rw [h]; exact hn
  · rw [h]; intro e; injection e with e; omega
/-- the end of Insert: the new list is laid into the map -/
theorem insert_end2 {w w2 w3 : World} {m k : Nat} {v v3 : Value} {L : List Ward.Pt} {p : Ward.Pt} {o : Obj} (hM2 : IsMap w2 m v L) (hb : Below w.heap.size w w2) (hm : m < w.heap.size) (hk : Ward.Parts p L k)
    (ho : Own w3 0 v3 (putIn L k p)) (hg : (w2.alloc o).drew.grownBy w3 v.ownBlock) (hf : Fresh (w2.alloc o).drew v v3) :
    ∃ v', IsMap (w3.setCell ⟨m, 0, none⟩ v3) m v' (Ward.ins p L) ∧ Fresh w v v' ∧ Keeps (Mine m v) w (w3.setCell ⟨m, 0, none⟩ v3) := by
  have hz := hb.size
  have hm2 : m < (w2.alloc o).drew.heap.size := by show m < (w2.alloc o).heap.size; simp; omega
  have hrow : w3.heap[m]? = some (.cells #[v] 79 (0, 0)) := (hg.block m hm2 (fun e => hM2.apart e.symm)).trans ((Below.heap_alloc w2 o m hM2.lt).trans hM2.row)
  have hap := hf.apart hm2 hM2.apart
  refine ⟨v3, ⟨?_, ?_, hap⟩, ?_, ?_⟩
  · rw [heap_setCell_same _ _ _ _ _ _ hrow]; rfl
  · rw [hk.ins]
    refine Own.keeps (S := fun j => j = m) ho ⟨rfl, rfl, rfl, by simp, fun j _ hj => heap_setCell_other w3 ⟨m, 0, none⟩ j v3 hj⟩ (fun g hg e => hap (by rw [hg, e]))
  · rcases hf with h | ⟨g, h, hgs⟩
    · exact .inl h
    · refine .inr ⟨g, h, ?_⟩
      have : (w2.alloc o).heap.size ≤ g := hgs
      simp at this
      omega
  · have k1 : Keeps (fun j => j = m) w3 (w3.setCell ⟨m, 0, none⟩ v3) := ⟨rfl, rfl, rfl, by simp, fun j _ hj => heap_setCell_other w3 ⟨m, 0, none⟩ j v3 hj⟩
    have k2 := Keeps.of_grown hg
    have k3 : Below w.heap.size w (w2.alloc o).drew := (hb.alloc hz o).drew
    have k4 : Keeps (Mine m v) w w3 := (Keeps.of_below k3).trans k2 (fun j _ e => .inr e)
    exact k4.trans k1 (fun j _ e => .inl e)
set_option maxRecDepth 100000 in
set_option maxHeartbeats 2000000 in
theorem insert_in (m : Nat) (v : Value) (L : List Ward.Pt) (p : Ward.Pt) (w : World) (hm : IsMap w m v L) (hG : Good L) (h1 : 1 ≤ p.id ∧ p.id ≤ 1000000) (h2 : -1000000 ≤ p.x ∧ p.x ≤ 1000000) (h3 : -1000000 ≤ p.y ∧ p.y ≤ 1000000) (h4 : ¬ ∃ q ∈ L, q.id = p.id) (h5 : L.length < 150) :
    Calls Tryz.prog 15 #[.pointer (some ⟨m, 0, none⟩), .agg #[I p.id, I p.x, I p.y]] w fun e w' => e = .returned (I 0) ∧ ∃ v', IsMap w' m v' (Ward.ins p L) ∧ Fresh w v v' ∧ Keeps (Mine m v) w w' := by
  have HM := hide hm
  have hM0 := fun o => hm.below ((Below.refl w.heap.size w).alloc (Nat.le_refl _) o)
  have HM0 := hide hM0
  have hl := hG.many
  have HS := hide hG.sorted
  have hsl := hm.slice
  obtain ⟨a, c, rfl⟩ := hsl
  clear hm hM0
  go_enter Tryz.func15, Tryz.ntmps15
  go_wp2_with (first | (go_at_call 31; refine (isID_yes _ _ h1).mono ?_; rintro _ _ ⟨rfl, rfl⟩) | (go_at_call_of 32 (I p.x); refine (isCoord_yes p.x _ h2).mono ?_; rintro _ _ ⟨rfl, rfl⟩) | (go_at_call_of 32 (I p.y); refine (isCoord_yes p.y _ h3).mono ?_; rintro _ _ ⟨rfl, rfl⟩) | (go_at_call 33; refine (find_any m _ L p.id _ (HM0.out _).cell (HM0.out _).own.reads (by omega)).mono ?_; rintro _ w1 ⟨r, rfl, hr, hb1⟩; have hr0 := place_no hr h4; subst hr0; clear hr; have hc1 := ((HM0.out _).below hb1).cell))
  have hM1 := (HM0.out _).below hb1
  have hbx : PtAt w1 w.heap.size 0 p := row3 ((hb1.block w.heap.size (by simp)).trans (heap_alloc_new w _))
  have hbw : Below w.heap.size w w1 := ((Below.refl w.heap.size w).alloc (Nat.le_refl _) _).trans (hb1.mono (by simp))
  have hz1 : w.heap.size < w1.heap.size := hbx.lt
  have HM1 := hide hM1
  have HBW := hide hbw
  have hS : w1.cell? ⟨m, 0, none⟩ = some (.slice a L.length c) ∧ w1.cell? ⟨w.heap.size, 0, none⟩ = some (I p.id) ∧ w1.cell? ⟨w.heap.size, 1, none⟩ = some (I p.x) ∧ w1.cell? ⟨w.heap.size, 2, none⟩ = some (I p.y) := ⟨hc1, hbx⟩
  clear hb1 hM1 hc1 hbx hbw
  go_region_held3 (fun W => W.cell? ⟨m, 0, none⟩ = some (.slice a L.length c) ∧ W.cell? ⟨w.heap.size, 0, none⟩ = some (I p.id) ∧ W.cell? ⟨w.heap.size, 1, none⟩ = some (I p.x) ∧ W.cell? ⟨w.heap.size, 2, none⟩ = some (I p.y)) (first | assumption | exact hS) ((go_at_call 34; refine (search_any _ L p w1.drew HM1.out.own.reads HS.out (by omega)).mono ?_; rintro _ w2 ⟨k, b, rfl, hk, hb2⟩; have hS2 := And.intro ((hb2.cell (p := ⟨m, 0, none⟩) HM1.out.lt).trans hS.1) ((show PtAt w1.drew w.heap.size 0 p from hS.2).below hb2 hz1)))
  have hb2' : Below w1.heap.size w1 w2 := (Below.refl w1.heap.size w1).drew.trans hb2
  have hM2 := HM1.out.below hb2'
  have HBW2 := hide (HBW.out.trans (hb2'.mono (Nat.le_of_lt hz1)))
  have hz2 : w.heap.size < w2.heap.size := hS2.2.lt
  have HM2 := hide hM2
  obtain ⟨c0, c1, c2, c3⟩ := hS2
  have HK := hide hk
  clear hb2 hb2' hM2 hk HM1 HBW hS hz1
  go_wp2_with fail
  have hfz : w2.frozen? ⟨m, 0, none⟩ = false := frozen_of_row _ _ _ _ _ HM2.out.row
  have hA : ∀ o, Own (w2.alloc o).drew 0 (.slice a L.length c) L ∧ (w2.alloc o).drew.heap[w2.heap.size]? = some o ∧ (w2.alloc o).heap[m]? = w2.heap[m]? := fun o => ⟨HM2.out.own.keeps (S := fun _ => False) (Keeps.of_below (((Below.refl w2.heap.size w2).alloc (Nat.le_refl _) o).drew)) (fun _ _ h => h), heap_alloc_new w2 o, Below.heap_alloc w2 o m HM2.out.lt⟩
  have HA := hide hA
  have d0 : (w2.alloc (.cells #[I p.id, I p.x, I p.y] 36)).cell? ⟨m, 0, none⟩ = some (.slice a L.length c) := (World.cell?_of_block (w := w2) (hA _).2.2).trans c0
  have hml : m < w2.heap.size := HM2.out.lt
  have hap : (Value.slice a L.length c).ownBlock ≠ some w2.heap.size := fun e => by have := HM2.out.own.lt e; omega
  clear hA
  go_region_with (go_at_call 36; go_must (refine (insert_any 0 k (.slice a L.length c) L p w2.heap.size _ (HA.out (.cells #[I p.id, I p.x, I p.y] 36)).1 (HA.out (.cells #[I p.id, I p.x, I p.y] 36)).2.1 hap (by omega) (Nat.zero_le _) HK.out.le).mono ?_; rintro _ w3 ⟨v3, rfl, ho3, hg3, hf3⟩; obtain ⟨a3, q3, rfl, -⟩ := ho3.reads; have hr3 := (hg3.block m (by show m < (w2.alloc _).heap.size; simp; omega) (fun e => HM2.out.apart e.symm)).trans ((HA.out _).2.2.trans HM2.out.row); have e0 := cell_of_row _ _ 0 _ _ _ hr3; have ef := frozen_of_row _ _ 0 _ _ hr3; simp at e0; clear hr3))
  all_goals
    clear d0 e0 ef c0 c1 c2 c3 hfz
    go_wp2
    go_ret
    exact ⟨rfl, insert_end2 HM2.out HBW2.out HM.out.lt HK.out ho3 hg3 hf3⟩
/-- Insert, whatever the point -/
theorem mapInsert_any (m : Nat) (v : Value) (L : List Ward.Pt) (p : Ward.Pt) (w : World) (hm : IsMap w m v L) (hG : Good L) :
    Calls Tryz.prog 15 #[.pointer (some ⟨m, 0, none⟩), .agg #[I p.id, I p.x, I p.y]] w fun e w' => e = .returned (I (insCode L p)) ∧ ∃ v', IsMap w' m v' (insList L p) ∧ Fresh w v v' ∧ Keeps (Mine m v) w w' := by
  have hl := hG.many
  unfold insList insCode
  by_cases h1 : 1 ≤ p.id ∧ p.id ≤ 1000000
  · rw [if_neg (fun h => h h1)]
    by_cases h2 : -1000000 ≤ p.x ∧ p.x ≤ 1000000
    · by_cases h3 : -1000000 ≤ p.y ∧ p.y ≤ 1000000
      · rw [if_neg (fun h => h.elim (fun h => h h2) (fun h => h h3))]
        by_cases h4 : ∃ q ∈ L, q.id = p.id
        · rw [if_pos h4, if_neg (by decide)]
          exact insert_taken m v L p w hm hG h1 h2 h3 h4
        · rw [if_neg h4]
          by_cases h5 : 150 ≤ L.length
          · rw [if_pos h5, if_neg (by decide)]
            exact insert_limit m v L p w hm hG h1 h2 h3 h4 h5
          · rw [if_neg h5, if_pos rfl]
            exact insert_in m v L p w hm hG h1 h2 h3 h4 (by omega)
      · rw [if_pos (.inr h3), if_neg (by decide)]
        exact insert_y m v L p w hm h1 h2 h3
    · rw [if_pos (.inl h2), if_neg (by decide)]
      exact insert_x m v L p w hm h1 h2
  · rw [if_pos h1, if_neg (by decide)]
    exact insert_id m v L p w hm h1
theorem insCode_ok {L : List Ward.Pt} {p : Ward.Pt} (h : insCode L p = 0) : p.Ok ∧ (∀ q ∈ L, q.id ≠ p.id) ∧ L.length < 150 := by
  unfold insCode at h
  by_cases h1 : 1 ≤ p.id ∧ p.id ≤ 1000000
  · rw [if_neg (fun h => h h1)] at h
    by_cases h2 : -1000000 ≤ p.x ∧ p.x ≤ 1000000
    · by_cases h3 : -1000000 ≤ p.y ∧ p.y ≤ 1000000
      · rw [if_neg (fun h => h.elim (fun h => h h2) (fun h => h h3))] at h
        by_cases h4 : ∃ q ∈ L, q.id = p.id
        · rw [if_pos h4] at h; omega
        · rw [if_neg h4] at h
          by_cases h5 : 150 ≤ L.length
          · rw [if_pos h5] at h; omega
          · exact ⟨⟨h1.1, h1.2, h2.1, h2.2, h3.1, h3.2⟩, fun q hq e => h4 ⟨q, hq, e⟩, by omega⟩
      · rw [if_pos (.inr h3)] at h; omega
    · rw [if_pos (.inl h2)] at h; omega
  · rw [if_pos h1] at h; omega
theorem Good.insert {L : List Ward.Pt} (hG : Good L) (p : Ward.Pt) : Good (insList L p) := by
  unfold insList
  by_cases h : insCode L p = 0
  · rw [if_pos h]
    obtain ⟨h1, h2, h3⟩ := insCode_ok h
    refine ⟨Ward.ins_sorted hG.sorted h2, Ward.ins_ids hG.ids h2, fun q hq => ?_, by rw [Ward.ins_length]; omega⟩
    rcases List.mem_cons.1 ((Ward.ins_perm p L).mem_iff.1 hq) with rfl | hq
    · exact h1
    · exact hG.ok q hq
  · rw [if_neg h]; exact hG
theorem good_nil : Good [] := ⟨List.Pairwise.nil, List.Pairwise.nil, fun p hp => by simp at hp, by simp⟩
end Go.Proofs.YtenaelkbgkpllaaGreatDoor
