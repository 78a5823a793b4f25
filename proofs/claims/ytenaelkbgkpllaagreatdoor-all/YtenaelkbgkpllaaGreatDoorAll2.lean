/- A point put in among others (slices.Insert). -/
import Derived.Test.YtenaelkbgkpllaaGreatDoorAll1
import Derived.Laws.CopyOwn
import Derived.Deep.RegionWith
import Derived.Test.YtenaelkbgkpllaaGreatDoorRows
import Derived.WalkKit
import Derived.WalkSpells
import Derived.WalkLawsBesides
import Derived.BigQuiet
import Derived.Laws.Tables
import Derived.Deep.RegionHeld3
namespace Go.Proofs.YtenaelkbgkpllaaGreatDoor
open Go.RowKit

/-- a list of points in a row of its own -/
def Own (w : World) (B : Nat) (v : Value) (L : List Ward.Pt) : Prop := w.ownsRow B 36 3 v L.length (L.flatMap P3)
/-- the list with a point put in -/
def putIn (L : List Ward.Pt) (k : Nat) (p : Ward.Pt) : List Ward.Pt := L.take k ++ p :: L.drop k
theorem putIn_len (L : List Ward.Pt) (k : Nat) (p : Ward.Pt) (h : k ≤ L.length) : (putIn L k p).length = L.length + 1 := by simp [putIn]; omega
theorem putIn_cells (L : List Ward.Pt) (k : Nat) (p : Ward.Pt) : (putIn L k p).flatMap P3 = (L.take k).flatMap P3 ++ P3 p ++ (L.drop k).flatMap P3 := by simp [putIn]

set_option maxRecDepth 100000 in
set_option maxHeartbeats 2000000 in
/-- at the end -/
theorem insert_end (B : Nat) (v : Value) (L : List Ward.Pt) (p : Ward.Pt) (k : Nat) (w : World) (hown : Own w B v L) (hk : w.heap[k]? = some (.cells (P3 p).toArray 36 (0, 0))) (hl : L.length ≤ 1000) (hB : B ≤ w.heap.size) :
    Calls Tryz.prog 36 #[v, I L.length, .slice (some ⟨k, 0, none⟩) 1 1] w fun e w' => ∃ v', e = .returned v' ∧ Own w' B v' (putIn L L.length p) ∧ w.grownBy w' v.ownBlock ∧ Fresh w v v' := by
  obtain ⟨i0, hi, hz0, hz1, hz2⟩ := info_parts Tryz.infoPt
  have HO := hide hown
  have HN := hide (row_src (o := 0) (n := 3) hk)
  have fin : ∀ (v' : Value) (w' : World), w'.ownsRow B 36 3 v' (L.length + 1) (L.flatMap P3 ++ P3 p) → Own w' B v' (putIn L L.length p) := fun _ _ h => by
    unfold Own
    rw [putIn_len L _ p (Nat.le_refl _), putIn_cells, List.take_length, List.drop_length]
    simpa using h
  have FIN := hide fin
  clear fin hk
  rcases hown.2 with ⟨rfl, h0⟩ | ⟨g, c, cur, rfl, _, _, hc, hcm, _⟩
  · have hL : L = [] := by simpa using h0
    subst hL
    clear hown
    go_enter Tryz.func36, Tryz.ntmps36
    go_wp2_with (at_builtin; refine wpList_append_own2 _ rfl (.tmp 23) (.tmp 24) 27 rfl B 36 i0 (.agg #[I 0, I 0, I 0]) 3 24 Tryz.underlying27 hi hz0 hz1 hz2 rfl (by decide) _ 0 [] rfl HO.out ⟨k, 0, none⟩ 1 1 (P3 p) rfl rfl HN.out (fun u hu => cells_one (L := [p]) u (by simpa using hu)) (by unfold maxLen; omega) (by omega) hB ?_)
    intro v' w1 hown' hgrow hfr
    go_wp2
    go_ret
    exact ⟨v', rfl, FIN.out _ _ hown', hgrow, hfr⟩
  · unfold maxLen at hcm
    clear hown
    by_cases hce : c = L.length
    · subst hce
      go_enter Tryz.func36, Tryz.ntmps36
      go_wp2_with (at_builtin; refine wpList_append_own2 _ rfl (.tmp 23) (.tmp 24) 27 rfl B 36 i0 (.agg #[I 0, I 0, I 0]) 3 24 Tryz.underlying27 hi hz0 hz1 hz2 rfl (by decide) _ L.length (L.flatMap P3) rfl HO.out ⟨k, 0, none⟩ 1 1 (P3 p) rfl rfl HN.out (fun u hu => cells_one (L := [p]) u (by simpa using hu)) (by unfold maxLen; omega) (by omega) hB ?_)
      intro v' w1 hown' hgrow hfr
      go_wp2
      go_ret
      exact ⟨v', rfl, FIN.out _ _ hown', hgrow, hfr⟩
    · go_enter Tryz.func36, Tryz.ntmps36
      go_wp2_with (at_builtin; refine wpList_append_own2 _ rfl (.tmp 23) (.tmp 24) 27 rfl B 36 i0 (.agg #[I 0, I 0, I 0]) 3 24 Tryz.underlying27 hi hz0 hz1 hz2 rfl (by decide) _ L.length (L.flatMap P3) rfl HO.out ⟨k, 0, none⟩ 1 1 (P3 p) rfl rfl HN.out (fun u hu => cells_one (L := [p]) u (by simpa using hu)) (by unfold maxLen; omega) (by omega) hB ?_)
      intro v' w1 hown' hgrow hfr
      go_wp2
      go_ret
      exact ⟨v', rfl, FIN.out _ _ hown', hgrow, hfr⟩

theorem shape_of {w : World} {g t : Nat} {cur : Array Value} {fr : Nat × Nat} (h : w.heap[g]? = some (.cells cur t fr)) : w.shape? g = some (t, cur.size) := by simp [World.shape?, h]
theorem overlaps_not (w : World) (g k n c o : Nat) (cur : Array Value) (p : Ward.Pt) (hk : w.heap[k]? = some (.cells (P3 p).toArray 36 (0, 0))) (hg : w.heap[g]? = some (.cells cur 36 (0, 0))) (hne : k ≠ g) (h0 : cur.size ≠ 0) :
    (callFunc 68 #[.slice (some ⟨k, 0, none⟩) 1 1, .slice (some ⟨g, o, none⟩) n c]).run Tryz.prog w = .ok (.value (.bool false)) w := by
  rw [run_callFunc_extern Tryz.func68 (by kernel_rfl) (by kernel_rfl) (by kernel_rfl) (e := Extern.SlicesOverlaps.overlaps #[27, 27] #[4]) (by kernel_rfl),
    Lib.run_overlaps_apart w 27 4 36 Tryz.underlying27 3 (fun _ => by kernel_rfl) ⟨k, 0, none⟩ ⟨g, o, none⟩ 1 1 n c hne _ _ _ _ (shape_of hk) (shape_of hg) h0 (frozen_of_row _ _ _ _ _ hk) (frozen_of_row _ _ _ _ _ hk)]
  rfl

set_option maxRecDepth 100000 in
set_option maxHeartbeats 2000000 in
/-- there is room -/
theorem insert_room (B g c pos : Nat) (cur : Array Value) (L : List Ward.Pt) (p : Ward.Pt) (k : Nat) (w : World) (hBg : B ≤ g) (hg : w.heap[g]? = some (.cells cur 36 (0, 0))) (hcur : cur.toList.take (L.length * 3) = L.flatMap P3) (hcs : cur.size = c * 3) (hc : L.length + 1 ≤ c) (hcm : c ≤ maxLen)
    (hk : w.heap[k]? = some (.cells (P3 p).toArray 36 (0, 0))) (hne : k ≠ g) (hl : L.length ≤ 1000) (hpos : pos < L.length) :
    Calls Tryz.prog 36 #[.slice (some ⟨g, 0, none⟩) L.length c, I pos, .slice (some ⟨k, 0, none⟩) 1 1] w fun e w' => ∃ v', e = .returned v' ∧ Own w' B v' (putIn L pos p) ∧ w.grownBy w' (some g) ∧ Fresh w (.slice (some ⟨g, 0, none⟩) 0 0) v' := by
  have hov := fun o n c => overlaps_not w g k n c o cur p hk hg hne (by omega)
  unfold maxLen at hcm
  have hz2 : ¬ ((pos : Int) = (L.length : Int)) := by omega
  have hz3 : ¬ ((c : Int) < (L.length : Int) + 1) := by omega
  have H1 := hide hg
  have H2 := hide hk
  have H3 := hide hcur
  clear hg hk hcur
  go_enter Tryz.func36, Tryz.ntmps36
  go_wp2_with (simp only [hov])
  have hw1 : IntKind.i64.wrap ((pos : Int) + 1) = (pos : Int) + 1 := by rw [IntKind.wrap_i64]; omega
  have hb1 : (0 : Int) ≤ (pos : Int) + 1 := by omega
  have htn : ((pos : Int) + 1).toNat = pos + 1 := by omega
  have hb2 : ¬ (c = pos + 1) := by omega
  have hb3 : (pos : Int) + 1 ≤ (L.length : Int) + 1 := by omega
  have hb4 : ¬ (c = pos) := by omega
  have hb5 : (pos : Int) ≤ (L.length : Int) + 1 := by omega
  have hcl : ((L.drop pos).flatMap P3).length = (L.length - pos) * 3 := by rw [cells_len, List.length_drop]
  have hsl : ((cur.toList.drop (pos * 3)).take ((L.length - pos) * 3)) = (L.drop pos).flatMap P3 := by
    rw [← cells_drop, ← H3.out, List.drop_take, show L.length * 3 - pos * 3 = (L.length - pos) * 3 by omega]
  have hcp1 : ∀ ty dc sc, (Builtin.copy_ #[27, 27] ty #[.slice (some ⟨g, (pos + 1) * 3, none⟩) (L.length - pos) dc, .slice (some ⟨g, pos * 3, none⟩) (L.length + 1 - pos) sc]).run Tryz.prog w.drew = .ok (goInt ((L.length - pos : Nat) : Int)) (w.drew.setRow g (over cur.toList ((pos + 1) * 3) ((L.drop pos).flatMap P3)).toArray) := fun ty dc sc =>
    run_copy_rowK w.drew _ _ ty 36 3 g ((pos + 1) * 3) (L.length - pos) dc ⟨g, pos * 3, none⟩ (L.length + 1 - pos) sc (L.length - pos) cur 36 ((L.drop pos).flatMap P3) Tryz.underlying27 Tryz.sizePt H1.out (by simp only [Nat.min_def]; split <;> omega) hcl (by rw [← hsl]; exact row_src (w := w.drew) H1.out) (by rw [hcl]; omega) cells_one
  go_region_law (refine step_copy_runI rfl _ _ 27 27 rfl _ _ (by simp [Act.eval, Act.put]) (by simp [Act.eval, Act.put]) (hcp1 _ _ _) ?_)
  generalize hW : World.setRow w.drew g _ = W1
  have hg1 : W1.heap[g]? = some (.cells (over cur.toList ((pos + 1) * 3) ((L.drop pos).flatMap P3)).toArray 36 (0, 0)) := by rw [← hW]; exact setRow_heap w.drew g cur _ _ _ H1.out
  have hgr : w.grownBy W1 (some g) := by rw [← hW]; exact ⟨rfl, rfl, rfl, by simp [World.setRow], fun j _ hj => setRow_other w.drew g j _ (fun e => hj (by rw [e]))⟩
  have hk1 : W1.heap[k]? = some (.cells (P3 p).toArray 36 (0, 0)) := (hgr.block k (Array.getElem?_eq_some_iff.1 H2.out).1 (fun e => hne (by injection e))).trans H2.out
  have G1 := hide hg1
  have GR := hide hgr
  have K1 := hide hk1
  have hol := over_len (R := cur.toList) (cs := (L.drop pos).flatMap P3) (o := (pos + 1) * 3) (by rw [hcl]; simp; omega)
  clear hcp1 hW hg1 hgr hk1 hov
  generalize hR : over cur.toList ((pos + 1) * 3) ((L.drop pos).flatMap P3) = R1 at *
  have HR := hide hR
  clear hR
  have hcp2 : ∀ ty dc, (Builtin.copy_ #[27, 27] ty #[.slice (some ⟨g, pos * 3, none⟩) (L.length + 1 - pos) dc, .slice (some ⟨k, 0, none⟩) 1 1]).run Tryz.prog W1 = .ok (goInt ((1 : Nat) : Int)) (W1.setRow g (over R1.toArray.toList (pos * 3) (P3 p)).toArray) := fun ty dc =>
    run_copy_rowK W1 _ 27 ty 36 3 g (pos * 3) (L.length + 1 - pos) dc ⟨k, 0, none⟩ 1 1 1 R1.toArray 36 (P3 p) Tryz.underlying27 Tryz.sizePt G1.out (by simp only [Nat.min_def]; split <;> omega) rfl (row_src (o := 0) (n := 3) K1.out) (by rw [P3_len]; simp at hol ⊢; omega) (fun u hu => cells_one (L := [p]) u (by simpa using hu))
  go_wp2_with (at_builtin; refine wpList_copy_runI _ rfl _ _ 27 27 rfl _ _ rfl rfl (hcp2 _ _) ?_)
  go_ret
  refine ⟨.slice (some ⟨g, 0, none⟩) (L.length + 1) c, rfl, ⟨by rw [putIn_len _ _ _ (by omega), cells_len, putIn_len _ _ _ (by omega)], .inr ⟨g, c, _, by rw [putIn_len _ _ _ (by omega)], hBg, setRow_heap _ g _ _ _ _ G1.out, by rw [putIn_len _ _ _ (by omega)]; exact hc, by unfold maxLen; exact hcm, ?_, ?_⟩⟩, ?_, .inl rfl⟩
  · have := over_len (R := R1) (cs := P3 p) (o := pos * 3) (by rw [P3_len]; simp at hol; omega)
    simp at this hol ⊢
    omega
  · have hb := over_back (R := cur.toList) (a := P3 p) (b := (L.drop pos).flatMap P3) (o := pos * 3) (by rw [P3_len, hcl]; simp; omega)
    rw [P3_len, hcl, show pos * 3 + 3 = (pos + 1) * 3 by omega, HR.out] at hb
    rw [putIn_len _ _ _ (by omega), putIn_cells, ← cells_take, ← H3.out, List.take_take, Nat.min_eq_left (by omega), show (L.length + 1) * 3 = (pos + 1) * 3 + (L.length - pos) * 3 by omega]
    simpa using hb
  · have g0 := GR.out
    exact ⟨g0.os, g0.tape, g0.output, by simpa using g0.size, fun j hj hne => (setRow_other W1 g j _ (fun e => hne (by rw [e]))).trans (g0.block j hj hne)⟩

set_option maxRecDepth 100000 in
set_option maxHeartbeats 2000000 in
/-- there is no room -/
theorem insert_grow (B g pos : Nat) (cur : Array Value) (L : List Ward.Pt) (p : Ward.Pt) (k : Nat) (w : World) (hg : w.heap[g]? = some (.cells cur 36 (0, 0))) (hcur : cur.toList.take (L.length * 3) = L.flatMap P3) (hB : B ≤ w.heap.size)
    (hk : w.heap[k]? = some (.cells (P3 p).toArray 36 (0, 0))) (hl : L.length ≤ 1000) (hpos : pos < L.length) :
    Calls Tryz.prog 36 #[.slice (some ⟨g, 0, none⟩) L.length L.length, I pos, .slice (some ⟨k, 0, none⟩) 1 1] w fun e w' => ∃ v', e = .returned v' ∧ Own w' B v' (putIn L pos p) ∧ w.grownBy w' (some g) ∧ Fresh w (.slice (some ⟨g, 0, none⟩) 0 0) v' := by
  obtain ⟨i0, hi, hz0, hz1, hz2⟩ := info_parts Tryz.infoPt
  have hz4 : ¬ ((pos : Int) = (L.length : Int)) := by omega
  have hz3 : (L.length : Int) < (L.length : Int) + 1 := by omega
  have hcl : ((L.drop pos).flatMap P3).length = (L.length - pos) * 3 := by rw [cells_len, List.length_drop]
  have htl : ((L.take pos).flatMap P3).length = pos * 3 := by rw [cells_len, List.length_take, Nat.min_eq_left (by omega)]
  have hst : (cur.toList.drop 0).take (pos * 3) = (L.take pos).flatMap P3 := by
    rw [List.drop_zero, ← cells_take, ← hcur, List.take_take, Nat.min_eq_left (by omega)]
  have hsl : ((cur.toList.drop (pos * 3)).take ((L.length - pos) * 3)) = (L.drop pos).flatMap P3 := by
    rw [← cells_drop, ← hcur, List.drop_take, show L.length * 3 - pos * 3 = (L.length - pos) * 3 by omega]
  have hold : (Builtin.firstCells i0.size pos (.slice (some ⟨g, 0, none⟩) pos L.length)).run Tryz.prog w.drew = .ok ((L.take pos).flatMap P3).toArray w.drew := by
    rw [hz1]
    exact run_firstCells_some w.drew 3 pos ⟨g, 0, none⟩ pos L.length _ htl (by rw [← hst]; exact row_src (w := w.drew) hg)
  have hrz : ∀ ty, (Builtin.append_ #[27, 3] ty #[.slice (some ⟨g, 0, none⟩) pos L.length, .int .i64 ((L.length + 1 - pos : Nat) : Int)]).run Tryz.prog w =
      .ok (.slice (some ⟨w.heap.size, 0, none⟩) (L.length + 1) (grownCap w (L.length + 1) L.length 36)) (w.drew.alloc (.cells (((L.take pos).flatMap P3).toArray ++ Builtin.zeroCells (.agg #[I 0, I 0, I 0] : Value).cells (L.length + 1 - pos) ++ Builtin.zeroCells (.agg #[I 0, I 0, I 0] : Value).cells (grownCap w (L.length + 1) L.length 36 - (L.length + 1))) 36)) := fun ty => by
    have h := Lib.run_append_grow_zeros w 27 3 ty 36 i0 _ .i64 .i64 Tryz.underlying27 Tryz.underlying3 hi hz0 (some ⟨g, 0, none⟩) pos L.length ((L.take pos).flatMap P3) hold (L.length + 1 - pos) (by omega) (by omega) (by omega) (by omega) (by rw [hz2]; omega) (by rw [hz2, show pos + (L.length + 1 - pos) = L.length + 1 by omega]; exact growslice_fits (by omega) (by omega))
    rw [show pos + (L.length + 1 - pos) = L.length + 1 by omega] at h
    exact h
  have hG1 := grownCap_ge w (L.length + 1) L.length 36
  have hG2 := grownCap_le_maxLen w (L.length + 1) L.length 36 (by unfold maxLen; omega)
  unfold maxLen at hG2
  generalize grownCap w (L.length + 1) L.length 36 = G at *
  have hRs : (((L.take pos).flatMap P3).toArray ++ Builtin.zeroCells (.agg #[I 0, I 0, I 0] : Value).cells (L.length + 1 - pos) ++ Builtin.zeroCells (.agg #[I 0, I 0, I 0] : Value).cells (G - (L.length + 1))).size = G * 3 := by
    simp only [Array.size_append, size_zeroCells, List.size_toArray, htl]
    simp [Value.cells]
    omega
  have hRt : (((L.take pos).flatMap P3).toArray ++ Builtin.zeroCells (.agg #[I 0, I 0, I 0] : Value).cells (L.length + 1 - pos) ++ Builtin.zeroCells (.agg #[I 0, I 0, I 0] : Value).cells (G - (L.length + 1))).toList.take (pos * 3) = (L.take pos).flatMap P3 := by
    rw [Array.toList_append, Array.toList_append, List.append_assoc, List.take_append_of_le_length (by rw [List.toList_toArray, htl]; exact Nat.le_refl _), List.toList_toArray, List.take_of_length_le (by rw [htl]; exact Nat.le_refl _)]
  generalize ((L.take pos).flatMap P3).toArray ++ Builtin.zeroCells (.agg #[I 0, I 0, I 0] : Value).cells (L.length + 1 - pos) ++ Builtin.zeroCells (.agg #[I 0, I 0, I 0] : Value).cells (G - (L.length + 1)) = R0 at *
  have hw1 : IntKind.i64.wrap ((pos : Int) + 1) = (pos : Int) + 1 := by rw [IntKind.wrap_i64]; omega
  have hcast : (L.length : Int) + 1 - (pos : Int) = ((L.length + 1 - pos : Nat) : Int) := by omega
  have HCS := hide hcast
  have H1 := hide hg
  have H2 := hide hk
  have HT := hide hRt
  have HST := hide hst
  have HSL := hide hsl
  have HRZ := hide hrz
  have hkl : k < w.heap.size := (Array.getElem?_eq_some_iff.1 hk).1
  have hgl : g < w.heap.size := (Array.getElem?_eq_some_iff.1 hg).1
  have hcpA : ∀ ty dc, (Builtin.copy_ #[27, 27] ty #[.slice (some ⟨w.heap.size, pos * 3, none⟩) (L.length + 1 - pos) dc, .slice (some ⟨k, 0, none⟩) 1 1]).run Tryz.prog (w.alloc (.cells R0 36)).drew = .ok (goInt ((1 : Nat) : Int)) ((w.alloc (.cells R0 36)).drew.setRow w.heap.size (over R0.toList (pos * 3) (P3 p)).toArray) := fun ty dc =>
    run_copy_rowK (w.alloc (.cells R0 36)).drew _ 27 ty 36 3 w.heap.size (pos * 3) (L.length + 1 - pos) dc ⟨k, 0, none⟩ 1 1 1 R0 36 (P3 p) Tryz.underlying27 Tryz.sizePt (heap_alloc_new w _) (by simp only [Nat.min_def]; split <;> omega) rfl (row_src (w := (w.alloc (.cells R0 36)).drew) (o := 0) (n := 3) ((Below.heap_alloc w _ k hkl).trans hk)) (by rw [P3_len]; omega) (fun u hu => cells_one (L := [p]) u (by simpa using hu))
  have HCA := hide hcpA
  have hb1 : (0 : Int) ≤ (pos : Int) + 1 := by omega
  have htn : ((pos : Int) + 1).toNat = pos + 1 := by omega
  have hb0 : ¬ (G = pos) := by omega
  have hb2 : ¬ (G = pos + 1) := by omega
  have hb3 : (pos : Int) + 1 ≤ (L.length : Int) + 1 := by omega
  have hb4 : ¬ (L.length = pos) := by omega
  have hb5 : (pos : Int) ≤ (L.length : Int) := by omega
  clear hg hk hcur hRt hst hsl hrz hold hcast hcpA
  go_enter Tryz.func36, Tryz.ntmps36
  go_wp2_with (first | (at_builtin; refine Lib.wpList_append_run _ rfl (.tmp 34) (.tmp 39) 27 3 rfl _ _ rfl rfl _ _ (by first | exact HRZ.out _ | (simp only [Act.eval, HCS.out]; exact HRZ.out _)) ?_) | (simp only [HCA.out]))
  generalize hW : World.setRow _ _ _ = W1
  have hg1 : W1.heap[w.heap.size]? = some (.cells (over R0.toList (pos * 3) (P3 p)).toArray 36 (0, 0)) := by rw [← hW]; exact setRow_heap _ w.heap.size R0 _ _ _ (heap_alloc_new w _)
  have hgr : Below w.heap.size w W1 := by rw [← hW]; exact below_setRow (((Below.refl w.heap.size w).alloc (Nat.le_refl _) _).drew) (Nat.le_refl _) _
  have hgg : W1.heap[g]? = some (.cells cur 36 (0, 0)) := (hgr.block g hgl).trans H1.out
  have hol := over_len (R := R0.toList) (cs := P3 p) (o := pos * 3) (by rw [P3_len]; simp; omega)
  have hcpB : ∀ ty dc sc, (Builtin.copy_ #[27, 27] ty #[.slice (some ⟨w.heap.size, (pos + 1) * 3, none⟩) (L.length - pos) dc, .slice (some ⟨g, pos * 3, none⟩) (L.length - pos) sc]).run Tryz.prog W1.drew = .ok (goInt ((L.length - pos : Nat) : Int)) (W1.drew.setRow w.heap.size (over (over R0.toList (pos * 3) (P3 p)).toArray.toList ((pos + 1) * 3) ((L.drop pos).flatMap P3)).toArray) := fun ty dc sc =>
    run_copy_rowK W1.drew _ _ ty 36 3 w.heap.size ((pos + 1) * 3) (L.length - pos) dc ⟨g, pos * 3, none⟩ (L.length - pos) sc (L.length - pos) _ 36 ((L.drop pos).flatMap P3) Tryz.underlying27 Tryz.sizePt hg1 (by simp only [Nat.min_def]; split <;> omega) hcl (by rw [← HSL.out]; exact row_src (w := W1.drew) hgg) (by rw [hcl]; simp at hol ⊢; omega) cells_one
  have G1 := hide hg1
  have GR := hide hgr
  clear hW hg1 hgr hgg HCA HRZ HCS
  go_wp2_with fail
  go_region_law (refine step_copy_runI rfl _ _ 27 27 rfl _ _ (by simp [Act.eval, Act.put]) (by simp [Act.eval, Act.put]) (hcpB _ _ _) ?_)
  have hG2' : G ≤ maxLen := by unfold maxLen; exact hG2
  clear hcpB
  go_wp2
  go_ret
  refine ⟨.slice (some ⟨w.heap.size, 0, none⟩) (L.length + 1) G, rfl, ⟨by rw [putIn_len _ _ _ (by omega), cells_len, putIn_len _ _ _ (by omega)], .inr ⟨w.heap.size, G, _, by rw [putIn_len _ _ _ (by omega)], hB, setRow_heap _ w.heap.size _ _ _ _ G1.out, by rw [putIn_len _ _ _ (by omega)]; exact hG1, hG2', ?_, ?_⟩⟩, ?_, .inr ⟨_, rfl, Nat.le_refl _⟩⟩
  · have := over_len (R := over R0.toList (pos * 3) (P3 p)) (cs := (L.drop pos).flatMap P3) (o := (pos + 1) * 3) (by rw [hcl]; simp at hol; omega)
    simp at this hol ⊢
    omega
  · have hb := over_two (R := R0.toList) (a := P3 p) (b := (L.drop pos).flatMap P3) (o := pos * 3) (by rw [P3_len, hcl]; simp; omega)
    rw [P3_len, hcl, show pos * 3 + 3 = (pos + 1) * 3 by omega, HT.out] at hb
    rw [putIn_len _ _ _ (by omega), putIn_cells, show (L.length + 1) * 3 = (pos + 1) * 3 + (L.length - pos) * 3 by omega]
    simpa using hb
  · have g0 := below_setRow GR.out.drew (Nat.le_refl _) (over (over R0.toList (pos * 3) (P3 p)).toArray.toList ((pos + 1) * 3) ((L.drop pos).flatMap P3)).toArray
    exact ⟨g0.os, g0.tape, g0.output, g0.size, fun j hj _ => g0.block j hj⟩

theorem insert_any (B pos : Nat) (v : Value) (L : List Ward.Pt) (p : Ward.Pt) (k : Nat) (w : World) (hown : Own w B v L) (hk : w.heap[k]? = some (.cells (P3 p).toArray 36 (0, 0))) (hne : v.ownBlock ≠ some k) (hl : L.length ≤ 1000) (hB : B ≤ w.heap.size) (hpos : pos ≤ L.length) :
    Calls Tryz.prog 36 #[v, I pos, .slice (some ⟨k, 0, none⟩) 1 1] w fun e w' => ∃ v', e = .returned v' ∧ Own w' B v' (putIn L pos p) ∧ w.grownBy w' v.ownBlock ∧ Fresh w v v' := by
  rcases Nat.lt_or_ge pos L.length with hlt | hge
  · rcases hown.2 with ⟨rfl, h0⟩ | ⟨g, c, cur, rfl, hBg, hg, hc, hcm, hcs, htake⟩
    · omega
    · rcases Nat.lt_or_ge L.length c with h | h
      · exact insert_room B g c pos cur L p k w hBg hg htake hcs h hcm hk (fun e => hne (by rw [e]; rfl)) hl hlt
      · have e : c = L.length := by omega
        subst e
        exact insert_grow B g pos cur L p k w hg htake hB hk hl hlt
  · have e : pos = L.length := by omega
    subst e
    exact insert_end B v L p k w hown hk hl hB
end Go.Proofs.YtenaelkbgkpllaaGreatDoor
/- A point put into a map. -/
namespace Go.Proofs.YtenaelkbgkpllaaGreatDoor
open Go.RowKit

/-- but for some blocks all is as it was -/
structure Keeps (S : Nat → Prop) (w w' : World) : Prop where
  os : w'.os = w.os
  tape : w'.tape = w.tape
  output : w'.output = w.output
  size : w.heap.size ≤ w'.heap.size
  block : ∀ k, k < w.heap.size → ¬ S k → w'.heap[k]? = w.heap[k]?
theorem Keeps.refl (S : Nat → Prop) (w : World) : Keeps S w w := ⟨rfl, rfl, rfl, Nat.le_refl _, fun _ _ _ => rfl⟩
theorem Keeps.trans {S S' : Nat → Prop} {a b c : World} (h : Keeps S a b) (k : Keeps S' b c) (hs : ∀ j, j < a.heap.size → S' j → S j) : Keeps S a c :=
  ⟨k.os.trans h.os, k.tape.trans h.tape, k.output.trans h.output, Nat.le_trans h.size k.size, fun j hj hn => (k.block j (Nat.lt_of_lt_of_le hj h.size) (fun e => hn (hs j hj e))).trans (h.block j hj hn)⟩
theorem Keeps.mono {S S' : Nat → Prop} {a b : World} (h : Keeps S a b) (hs : ∀ j, j < a.heap.size → S j → S' j) : Keeps S' a b :=
  ⟨h.os, h.tape, h.output, h.size, fun j hj hn => h.block j hj (fun e => hn (hs j hj e))⟩
theorem Keeps.of_below {S : Nat → Prop} {a b : World} (h : Below a.heap.size a b) : Keeps S a b := ⟨h.os, h.tape, h.output, h.size, fun j hj _ => h.block j hj⟩
theorem Keeps.of_grown {a b : World} {row : Option Nat} (h : a.grownBy b row) : Keeps (fun k => some k = row) a b := ⟨h.os, h.tape, h.output, h.size, fun j hj hn => h.block j hj hn⟩
theorem Keeps.below {a b : World} (h : Keeps (fun _ => False) a b) : Below a.heap.size a b := ⟨h.os, h.tape, h.output, h.size, fun j hj => h.block j hj (fun e => e)⟩

theorem P3_at (L : List Ward.Pt) (i : Nat) (h : i < L.length) : (L.flatMap P3)[i * 3]? = some (I L[i].id) ∧ (L.flatMap P3)[i * 3 + 1]? = some (I L[i].x) ∧ (L.flatMap P3)[i * 3 + 2]? = some (I L[i].y) := by
  have e : ∀ j, (L.flatMap P3)[i * 3 + j]? = ((L.drop i).flatMap P3)[j]? := fun j => by rw [← cells_drop, List.getElem?_drop]
  have hd : L.drop i = L[i] :: L.drop (i + 1) := by rw [List.drop_eq_getElem_cons h]
  have e0 := e 0
  rw [Nat.add_zero] at e0
  rw [e0, e 1, e 2, hd]
  exact ⟨rfl, rfl, rfl⟩
theorem Own.reads {w : World} {B : Nat} {v : Value} {L : List Ward.Pt} (h : Own w B v L) : Reads w v L := by
  rcases h.2 with ⟨rfl, h0⟩ | ⟨g, c, cur, rfl, _⟩
  · have e : L = [] := by simpa using h0
    subst e
    exact ⟨none, 0, rfl, fun k => absurd rfl k⟩
  · refine ⟨_, c, rfl, fun _ => ⟨g, 0, rfl, fun i hi => ?_⟩⟩
    have hc := h.cells (g := g) rfl
    obtain ⟨h1, h2, h3⟩ := P3_at L i hi
    have a1 := hc _ _ h1
    have a2 := hc _ _ h2
    have a3 := hc _ _ h3
    rw [Addr.add_lit] at a1 a2 a3
    exact ⟨a1, a2, a3⟩
theorem Own.keeps {S : Nat → Prop} {w w' : World} {B : Nat} {v : Value} {L : List Ward.Pt} (h : Own w B v L) (hk : Keeps S w w') (hn : ∀ g, v.ownBlock = some g → ¬ S g) : Own w' B v L := by
  refine ⟨h.1, ?_⟩
  rcases h.2 with h0 | ⟨g, cap, cur, rfl, hb, hg, r⟩
  · exact .inl h0
  · exact .inr ⟨g, cap, cur, rfl, hb, (hk.block g (Array.getElem?_eq_some_iff.1 hg).1 (hn g rfl)).trans hg, r⟩
theorem Own.lt {w : World} {B g : Nat} {v : Value} {L : List Ward.Pt} (h : Own w B v L) (hg : v.ownBlock = some g) : g < w.heap.size := (World.ownsRow.lt h g hg).2
/-- a map: its block, its points' list -/
structure IsMap (w : World) (m : Nat) (v : Value) (L : List Ward.Pt) : Prop where
  row : w.heap[m]? = some (.cells #[v] 79 (0, 0))
  own : Own w 0 v L
  apart : v.ownBlock ≠ some m
/-- a map's points are as they must be -/
structure Good (L : List Ward.Pt) : Prop where
  sorted : Ward.Sorted L
  ids : Ward.Ids L
  ok : ∀ p ∈ L, p.Ok
  many : L.length ≤ 150
/-- a map's own blocks -/
def Mine (m : Nat) (v : Value) (k : Nat) : Prop := k = m ∨ some k = v.ownBlock
theorem IsMap.lt {w : World} {m : Nat} {v : Value} {L : List Ward.Pt} (h : IsMap w m v L) : m < w.heap.size := (Array.getElem?_eq_some_iff.1 h.row).1
theorem IsMap.keeps {S : Nat → Prop} {w w' : World} {m : Nat} {v : Value} {L : List Ward.Pt} (h : IsMap w m v L) (hk : Keeps S w w') (hn : ∀ k, Mine m v k → ¬ S k) : IsMap w' m v L :=
  ⟨(hk.block m h.lt (hn m (.inl rfl))).trans h.row, h.own.keeps hk (fun g hg => hn g (.inr hg.symm)), h.apart⟩

set_option maxHeartbeats 400000 in
theorem new_any (w : World) :
    Calls Tryz.prog 14 #[] w fun e w' => e = .returned (.pointer (some ⟨w.heap.size, 0, none⟩)) ∧ IsMap w' w.heap.size (.slice none 0 0) [] ∧ w'.heap.size = w.heap.size + 1 ∧ Below w.heap.size w w' := by
  go_enter Tryz.func14, Tryz.ntmps14
  go_wp2
  go_ret
  exact ⟨rfl, ⟨heap_alloc_new w _, World.ownsRow_nil _ _ _ _, by simp [Value.ownBlock]⟩, by simp, (Below.refl w.heap.size w).alloc (Nat.le_refl _) _⟩

/-- what Insert says, and what is there then -/
def insCode (L : List Ward.Pt) (p : Ward.Pt) : Int :=
  if ¬ (1 ≤ p.id ∧ p.id ≤ 1000000) then 1 else if ¬ (-1000000 ≤ p.x ∧ p.x ≤ 1000000) ∨ ¬ (-1000000 ≤ p.y ∧ p.y ≤ 1000000) then 2
  else if ∃ q ∈ L, q.id = p.id then 3 else if 150 ≤ L.length then 5 else 0
def insList (L : List Ward.Pt) (p : Ward.Pt) : List Ward.Pt := if insCode L p = 0 then Ward.ins p L else L
end Go.Proofs.YtenaelkbgkpllaaGreatDoor
/- A point put into a map: the call. -/
namespace Go.Proofs.YtenaelkbgkpllaaGreatDoor
open Go.RowKit

theorem isID_yes (n : Int) (w : World) (h : 1 ≤ n ∧ n ≤ 1000000) : Calls Tryz.prog 31 #[I n] w fun e w' => e = .returned (.bool true) ∧ w' = w :=
  (isID_any n w).mono fun _ _ ⟨he, hw⟩ => ⟨by rw [he, decide_eq_true h], hw⟩
theorem isID_no (n : Int) (w : World) (h : ¬ (1 ≤ n ∧ n ≤ 1000000)) : Calls Tryz.prog 31 #[I n] w fun e w' => e = .returned (.bool false) ∧ w' = w :=
  (isID_any n w).mono fun _ _ ⟨he, hw⟩ => ⟨by rw [he, decide_eq_false h], hw⟩
theorem isCoord_yes (n : Int) (w : World) (h : -1000000 ≤ n ∧ n ≤ 1000000) : Calls Tryz.prog 32 #[I n] w fun e w' => e = .returned (.bool true) ∧ w' = w :=
  (isCoord_any n w).mono fun _ _ ⟨he, hw⟩ => ⟨by rw [he, decide_eq_true h], hw⟩
theorem isCoord_no (n : Int) (w : World) (h : ¬ (-1000000 ≤ n ∧ n ≤ 1000000)) : Calls Tryz.prog 32 #[I n] w fun e w' => e = .returned (.bool false) ∧ w' = w :=
  (isCoord_any n w).mono fun _ _ ⟨he, hw⟩ => ⟨by rw [he, decide_eq_false h], hw⟩

/-- what a call of Insert leaves behind -/
def Inserted (w : World) (m : Nat) (v : Value) (L : List Ward.Pt) (c : Int) (e : Ending) (w' : World) : Prop := e = .returned (I c) ∧ ∃ v', IsMap w' m v' L ∧ Fresh w v v' ∧ Keeps (Mine m v) w w'
theorem Inserted.none {w w' : World} {m : Nat} {v : Value} {L : List Ward.Pt} {c : Int} (h : IsMap w m v L) (hb : Below w.heap.size w w') : Inserted w m v L c (.returned (I c)) w' :=
  ⟨rfl, v, h.keeps (S := fun _ => False) (Keeps.of_below hb) (fun _ _ h => h), .inl rfl, Keeps.of_below hb⟩

set_option maxHeartbeats 1000000 in
theorem insert_id (m : Nat) (v : Value) (L : List Ward.Pt) (p : Ward.Pt) (w : World) (hm : IsMap w m v L) (h1 : ¬ (1 ≤ p.id ∧ p.id ≤ 1000000)) :
    Calls Tryz.prog 15 #[.pointer (some ⟨m, 0, none⟩), .agg #[I p.id, I p.x, I p.y]] w fun e w' => Inserted w m v L 1 e w' := by
  go_enter Tryz.func15, Tryz.ntmps15
  go_wp2_with (go_at_call 31; refine (isID_no _ _ h1).mono ?_; rintro _ _ ⟨rfl, rfl⟩)
  go_ret
  exact Inserted.none hm ((Below.refl w.heap.size w).alloc (Nat.le_refl _) _)
set_option maxHeartbeats 1000000 in
theorem insert_x (m : Nat) (v : Value) (L : List Ward.Pt) (p : Ward.Pt) (w : World) (hm : IsMap w m v L) (h1 : 1 ≤ p.id ∧ p.id ≤ 1000000) (h2 : ¬ (-1000000 ≤ p.x ∧ p.x ≤ 1000000)) :
    Calls Tryz.prog 15 #[.pointer (some ⟨m, 0, none⟩), .agg #[I p.id, I p.x, I p.y]] w fun e w' => Inserted w m v L 2 e w' := by
  go_enter Tryz.func15, Tryz.ntmps15
  go_wp2_with (first | (go_at_call 31; refine (isID_yes _ _ h1).mono ?_; rintro _ _ ⟨rfl, rfl⟩) | (go_at_call 32; refine (isCoord_no p.x _ h2).mono ?_; rintro _ _ ⟨rfl, rfl⟩))
  go_ret
  exact Inserted.none hm ((Below.refl w.heap.size w).alloc (Nat.le_refl _) _)
set_option maxHeartbeats 1000000 in
theorem insert_y (m : Nat) (v : Value) (L : List Ward.Pt) (p : Ward.Pt) (w : World) (hm : IsMap w m v L) (h1 : 1 ≤ p.id ∧ p.id ≤ 1000000) (h2 : -1000000 ≤ p.x ∧ p.x ≤ 1000000) (h3 : ¬ (-1000000 ≤ p.y ∧ p.y ≤ 1000000)) :
    Calls Tryz.prog 15 #[.pointer (some ⟨m, 0, none⟩), .agg #[I p.id, I p.x, I p.y]] w fun e w' => Inserted w m v L 2 e w' := by
  go_enter Tryz.func15, Tryz.ntmps15
  go_wp2_with (first | (go_at_call 31; refine (isID_yes _ _ h1).mono ?_; rintro _ _ ⟨rfl, rfl⟩) | (go_at_call_of 32 (I p.x); refine (isCoord_yes p.x _ h2).mono ?_; rintro _ _ ⟨rfl, rfl⟩) | (go_at_call_of 32 (I p.y); refine (isCoord_no p.y _ h3).mono ?_; rintro _ _ ⟨rfl, rfl⟩))
  go_ret
  exact Inserted.none hm ((Below.refl w.heap.size w).alloc (Nat.le_refl _) _)
theorem IsMap.cell {w : World} {m : Nat} {v : Value} {L : List Ward.Pt} (h : IsMap w m v L) : w.cell? ⟨m, 0, none⟩ = some v := by
  rw [cell_of_row _ _ _ _ _ _ h.row]; rfl
theorem IsMap.below {w w' : World} {m : Nat} {v : Value} {L : List Ward.Pt} (h : IsMap w m v L) (hb : Below w.heap.size w w') : IsMap w' m v L := h.keeps (S := fun _ => False) (Keeps.of_below hb) (fun _ _ h => h)
theorem IsMap.slice {w : World} {m : Nat} {v : Value} {L : List Ward.Pt} (h : IsMap w m v L) : ∃ a c, v = .slice a L.length c := by
  obtain ⟨a, c, rfl, _⟩ := h.own.reads
  exact ⟨a, c, rfl⟩
theorem place_no {id : Int} {L : List Ward.Pt} {r : Int} (h : Place id L r) (hn : ¬ ∃ q ∈ L, q.id = id) : r = -1 := by
  rcases h with ⟨h, _⟩ | ⟨i, hi, _, e⟩
  · exact h
  · exact absurd ⟨_, List.getElem_mem hi, e⟩ hn
theorem place_yes {id : Int} {L : List Ward.Pt} {r : Int} (h : Place id L r) (hn : ∃ q ∈ L, q.id = id) : 0 ≤ r := by
  rcases h with ⟨_, h⟩ | ⟨i, hi, e, _⟩
  · obtain ⟨q, hq, e⟩ := hn
    exact absurd e (h q hq)
  · omega
set_option maxHeartbeats 1000000 in
theorem insert_taken (m : Nat) (v : Value) (L : List Ward.Pt) (p : Ward.Pt) (w : World) (hm : IsMap w m v L) (hG : Good L) (h1 : 1 ≤ p.id ∧ p.id ≤ 1000000) (h2 : -1000000 ≤ p.x ∧ p.x ≤ 1000000) (h3 : -1000000 ≤ p.y ∧ p.y ≤ 1000000) (h4 : ∃ q ∈ L, q.id = p.id) :
    Calls Tryz.prog 15 #[.pointer (some ⟨m, 0, none⟩), .agg #[I p.id, I p.x, I p.y]] w fun e w' => Inserted w m v L 3 e w' := by
  have HM := hide hm
  have hM0 := fun o => hm.below ((Below.refl w.heap.size w).alloc (Nat.le_refl _) o)
  have HM0 := hide hM0
  have hl := hG.many
  clear hm hM0
  go_enter Tryz.func15, Tryz.ntmps15
  go_wp2_with (first | (go_at_call 31; refine (isID_yes _ _ h1).mono ?_; rintro _ _ ⟨rfl, rfl⟩) | (go_at_call_of 32 (I p.x); refine (isCoord_yes p.x _ h2).mono ?_; rintro _ _ ⟨rfl, rfl⟩) | (go_at_call_of 32 (I p.y); refine (isCoord_yes p.y _ h3).mono ?_; rintro _ _ ⟨rfl, rfl⟩) | (go_at_call 33; refine (find_any m v L p.id _ (HM0.out _).cell (HM0.out _).own.reads (by omega)).mono ?_; rintro _ w1 ⟨r, rfl, hr, hb1⟩; have hr0 := place_yes hr h4; clear hr))
  go_ret
  exact Inserted.none HM.out (((Below.refl w.heap.size w).alloc (Nat.le_refl _) _).trans (hb1.mono (by simp)))
set_option maxRecDepth 100000 in
set_option maxHeartbeats 1000000 in
theorem insert_limit (m : Nat) (v : Value) (L : List Ward.Pt) (p : Ward.Pt) (w : World) (hm : IsMap w m v L) (hG : Good L) (h1 : 1 ≤ p.id ∧ p.id ≤ 1000000) (h2 : -1000000 ≤ p.x ∧ p.x ≤ 1000000) (h3 : -1000000 ≤ p.y ∧ p.y ≤ 1000000) (h4 : ¬ ∃ q ∈ L, q.id = p.id) (h5 : 150 ≤ L.length) :
    Calls Tryz.prog 15 #[.pointer (some ⟨m, 0, none⟩), .agg #[I p.id, I p.x, I p.y]] w fun e w' => Inserted w m v L 5 e w' := by
  have HM := hide hm
  have hM0 := fun o => hm.below ((Below.refl w.heap.size w).alloc (Nat.le_refl _) o)
  have HM0 := hide hM0
  have hl := hG.many
  have hsl := hm.slice
  obtain ⟨a, c, rfl⟩ := hsl
  clear hm hM0
  go_enter Tryz.func15, Tryz.ntmps15
  go_wp2_with (first | (go_at_call 31; refine (isID_yes _ _ h1).mono ?_; rintro _ _ ⟨rfl, rfl⟩) | (go_at_call_of 32 (I p.x); refine (isCoord_yes p.x _ h2).mono ?_; rintro _ _ ⟨rfl, rfl⟩) | (go_at_call_of 32 (I p.y); refine (isCoord_yes p.y _ h3).mono ?_; rintro _ _ ⟨rfl, rfl⟩) | (go_at_call 33; refine (find_any m _ L p.id _ (HM0.out _).cell (HM0.out _).own.reads (by omega)).mono ?_; rintro _ w1 ⟨r, rfl, hr, hb1⟩; have hr0 := place_no hr h4; subst hr0; clear hr; have hc1 := ((HM0.out _).below hb1).cell))
  go_ret
  exact Inserted.none HM.out (((Below.refl w.heap.size w).alloc (Nat.le_refl _) _).trans (hb1.mono (by simp)))
theorem Fresh.apart {w : World} {m : Nat} {v v' : Value} (h : Fresh w v v') (hm : m < w.heap.size) (hn : v.ownBlock ≠ some m) : v'.ownBlock ≠ some m := by
  rcases h with h | ⟨g, h, hg⟩
  · rw [h]; exact hn
  · rw [h]; intro e; injection e with e; omega
/-- the end of Insert: the new list is laid into the map -/
theorem insert_end2 {w w2 w3 : World} {m k : Nat} {v v3 : Value} {L : List Ward.Pt} {p : Ward.Pt} {o : Obj} (hM2 : IsMap w2 m v L) (hb : Below w.heap.size w w2) (hm : m < w.heap.size) (hk : Ward.Parts p L k)
    (ho : Own w3 0 v3 (putIn L k p)) (hg : (w2.alloc o).drew.grownBy w3 v.ownBlock) (hf : Fresh (w2.alloc o).drew v v3) :
    ∃ v', IsMap (w3.setCell ⟨m, 0, none⟩ v3) m v' (Ward.ins p L) ∧ Fresh w v v' ∧ Keeps (Mine m v) w (w3.setCell ⟨m, 0, none⟩ v3) := by
  have hz := hb.size
  have hm2 : m < (w2.alloc o).drew.heap.size := by show m < (w2.alloc o).heap.size; simp; omega
  have hrow : w3.heap[m]? = some (.cells #[v] 79 (0, 0)) := (hg.block m hm2 (fun e => hM2.apart e.symm)).trans ((Below.heap_alloc w2 o m hM2.lt).trans hM2.row)
  have hap := hf.apart hm2 hM2.apart
  refine ⟨v3, ⟨?_, ?_, hap⟩, ?_, ?_⟩
  · rw [heap_setCell_same _ _ _ _ _ _ hrow]; rfl
  · rw [hk.ins]
    refine Own.keeps (S := fun j => j = m) ho ⟨rfl, rfl, rfl, by simp, fun j _ hj => heap_setCell_other w3 ⟨m, 0, none⟩ j v3 hj⟩ (fun g hg e => hap (by rw [hg, e]))
  · rcases hf with h | ⟨g, h, hgs⟩
    · exact .inl h
    · refine .inr ⟨g, h, ?_⟩
      have : (w2.alloc o).heap.size ≤ g := hgs
      simp at this
      omega
  · have k1 : Keeps (fun j => j = m) w3 (w3.setCell ⟨m, 0, none⟩ v3) := ⟨rfl, rfl, rfl, by simp, fun j _ hj => heap_setCell_other w3 ⟨m, 0, none⟩ j v3 hj⟩
    have k2 := Keeps.of_grown hg
    have k3 : Below w.heap.size w (w2.alloc o).drew := (hb.alloc hz o).drew
    have k4 : Keeps (Mine m v) w w3 := (Keeps.of_below k3).trans k2 (fun j _ e => .inr e)
    exact k4.trans k1 (fun j _ e => .inl e)
set_option maxRecDepth 100000 in
set_option maxHeartbeats 2000000 in
theorem insert_in (m : Nat) (v : Value) (L : List Ward.Pt) (p : Ward.Pt) (w : World) (hm : IsMap w m v L) (hG : Good L) (h1 : 1 ≤ p.id ∧ p.id ≤ 1000000) (h2 : -1000000 ≤ p.x ∧ p.x ≤ 1000000) (h3 : -1000000 ≤ p.y ∧ p.y ≤ 1000000) (h4 : ¬ ∃ q ∈ L, q.id = p.id) (h5 : L.length < 150) :
    Calls Tryz.prog 15 #[.pointer (some ⟨m, 0, none⟩), .agg #[I p.id, I p.x, I p.y]] w fun e w' => e = .returned (I 0) ∧ ∃ v', IsMap w' m v' (Ward.ins p L) ∧ Fresh w v v' ∧ Keeps (Mine m v) w w' := by
  have HM := hide hm
  have hM0 := fun o => hm.below ((Below.refl w.heap.size w).alloc (Nat.le_refl _) o)
  have HM0 := hide hM0
  have hl := hG.many
  have HS := hide hG.sorted
  have hsl := hm.slice
  obtain ⟨a, c, rfl⟩ := hsl
  clear hm hM0
  go_enter Tryz.func15, Tryz.ntmps15
  go_wp2_with (first | (go_at_call 31; refine (isID_yes _ _ h1).mono ?_; rintro _ _ ⟨rfl, rfl⟩) | (go_at_call_of 32 (I p.x); refine (isCoord_yes p.x _ h2).mono ?_; rintro _ _ ⟨rfl, rfl⟩) | (go_at_call_of 32 (I p.y); refine (isCoord_yes p.y _ h3).mono ?_; rintro _ _ ⟨rfl, rfl⟩) | (go_at_call 33; refine (find_any m _ L p.id _ (HM0.out _).cell (HM0.out _).own.reads (by omega)).mono ?_; rintro _ w1 ⟨r, rfl, hr, hb1⟩; have hr0 := place_no hr h4; subst hr0; clear hr; have hc1 := ((HM0.out _).below hb1).cell))
  have hM1 := (HM0.out _).below hb1
  have hbx : PtAt w1 w.heap.size 0 p := row3 ((hb1.block w.heap.size (by simp)).trans (heap_alloc_new w _))
  have hbw : Below w.heap.size w w1 := ((Below.refl w.heap.size w).alloc (Nat.le_refl _) _).trans (hb1.mono (by simp))
  have hz1 : w.heap.size < w1.heap.size := hbx.lt
  have HM1 := hide hM1
  have HBW := hide hbw
  have hS : w1.cell? ⟨m, 0, none⟩ = some (.slice a L.length c) ∧ w1.cell? ⟨w.heap.size, 0, none⟩ = some (I p.id) ∧ w1.cell? ⟨w.heap.size, 1, none⟩ = some (I p.x) ∧ w1.cell? ⟨w.heap.size, 2, none⟩ = some (I p.y) := ⟨hc1, hbx⟩
  clear hb1 hM1 hc1 hbx hbw
  go_region_held3 (fun W => W.cell? ⟨m, 0, none⟩ = some (.slice a L.length c) ∧ W.cell? ⟨w.heap.size, 0, none⟩ = some (I p.id) ∧ W.cell? ⟨w.heap.size, 1, none⟩ = some (I p.x) ∧ W.cell? ⟨w.heap.size, 2, none⟩ = some (I p.y)) (first | assumption | exact hS) ((go_at_call 34; refine (search_any _ L p w1.drew HM1.out.own.reads HS.out (by omega)).mono ?_; rintro _ w2 ⟨k, b, rfl, hk, hb2⟩; have hS2 := And.intro ((hb2.cell (p := ⟨m, 0, none⟩) HM1.out.lt).trans hS.1) ((show PtAt w1.drew w.heap.size 0 p from hS.2).below hb2 hz1)))
  have hb2' : Below w1.heap.size w1 w2 := (Below.refl w1.heap.size w1).drew.trans hb2
  have hM2 := HM1.out.below hb2'
  have HBW2 := hide (HBW.out.trans (hb2'.mono (Nat.le_of_lt hz1)))
  have hz2 : w.heap.size < w2.heap.size := hS2.2.lt
  have HM2 := hide hM2
  obtain ⟨c0, c1, c2, c3⟩ := hS2
  have HK := hide hk
  clear hb2 hb2' hM2 hk HM1 HBW hS hz1
  go_wp2_with fail
  have hfz : w2.frozen? ⟨m, 0, none⟩ = false := frozen_of_row _ _ _ _ _ HM2.out.row
  have hA : ∀ o, Own (w2.alloc o).drew 0 (.slice a L.length c) L ∧ (w2.alloc o).drew.heap[w2.heap.size]? = some o ∧ (w2.alloc o).heap[m]? = w2.heap[m]? := fun o => ⟨HM2.out.own.keeps (S := fun _ => False) (Keeps.of_below (((Below.refl w2.heap.size w2).alloc (Nat.le_refl _) o).drew)) (fun _ _ h => h), heap_alloc_new w2 o, Below.heap_alloc w2 o m HM2.out.lt⟩
  have HA := hide hA
  have d0 : (w2.alloc (.cells #[I p.id, I p.x, I p.y] 36)).cell? ⟨m, 0, none⟩ = some (.slice a L.length c) := (World.cell?_of_block (w := w2) (hA _).2.2).trans c0
  have hml : m < w2.heap.size := HM2.out.lt
  have hap : (Value.slice a L.length c).ownBlock ≠ some w2.heap.size := fun e => by have := HM2.out.own.lt e; omega
  clear hA
  go_region_with (go_at_call 36; go_must (refine (insert_any 0 k (.slice a L.length c) L p w2.heap.size _ (HA.out (.cells #[I p.id, I p.x, I p.y] 36)).1 (HA.out (.cells #[I p.id, I p.x, I p.y] 36)).2.1 hap (by omega) (Nat.zero_le _) HK.out.le).mono ?_; rintro _ w3 ⟨v3, rfl, ho3, hg3, hf3⟩; obtain ⟨a3, q3, rfl, -⟩ := ho3.reads; have hr3 := (hg3.block m (by show m < (w2.alloc _).heap.size; simp; omega) (fun e => HM2.out.apart e.symm)).trans ((HA.out _).2.2.trans HM2.out.row); have e0 := cell_of_row _ _ 0 _ _ _ hr3; have ef := frozen_of_row _ _ 0 _ _ hr3; simp at e0; clear hr3))
  all_goals
    clear d0 e0 ef c0 c1 c2 c3 hfz
    go_wp2
    go_ret
    exact ⟨rfl, insert_end2 HM2.out HBW2.out HM.out.lt HK.out ho3 hg3 hf3⟩
/-- Insert, whatever the point -/
theorem mapInsert_any (m : Nat) (v : Value) (L : List Ward.Pt) (p : Ward.Pt) (w : World) (hm : IsMap w m v L) (hG : Good L) :
    Calls Tryz.prog 15 #[.pointer (some ⟨m, 0, none⟩), .agg #[I p.id, I p.x, I p.y]] w fun e w' => e = .returned (I (insCode L p)) ∧ ∃ v', IsMap w' m v' (insList L p) ∧ Fresh w v v' ∧ Keeps (Mine m v) w w' := by
  have hl := hG.many
  unfold insList insCode
  by_cases h1 : 1 ≤ p.id ∧ p.id ≤ 1000000
  · rw [if_neg (fun h => h h1)]
    by_cases h2 : -1000000 ≤ p.x ∧ p.x ≤ 1000000
    · by_cases h3 : -1000000 ≤ p.y ∧ p.y ≤ 1000000
      · rw [if_neg (fun h => h.elim (fun h => h h2) (fun h => h h3))]
        by_cases h4 : ∃ q ∈ L, q.id = p.id
        · rw [if_pos h4, if_neg (by decide)]
          exact insert_taken m v L p w hm hG h1 h2 h3 h4
        · rw [if_neg h4]
          by_cases h5 : 150 ≤ L.length
          · rw [if_pos h5, if_neg (by decide)]
            exact insert_limit m v L p w hm hG h1 h2 h3 h4 h5
          · rw [if_neg h5, if_pos rfl]
            exact insert_in m v L p w hm hG h1 h2 h3 h4 (by omega)
      · rw [if_pos (.inr h3), if_neg (by decide)]
        exact insert_y m v L p w hm h1 h2 h3
    · rw [if_pos (.inl h2), if_neg (by decide)]
      exact insert_x m v L p w hm h1 h2
  · rw [if_pos h1, if_neg (by decide)]
    exact insert_id m v L p w hm h1
theorem insCode_ok {L : List Ward.Pt} {p : Ward.Pt} (h : insCode L p = 0) : p.Ok ∧ (∀ q ∈ L, q.id ≠ p.id) ∧ L.length < 150 := by
  unfold insCode at h
  by_cases h1 : 1 ≤ p.id ∧ p.id ≤ 1000000
  · rw [if_neg (fun h => h h1)] at h
    by_cases h2 : -1000000 ≤ p.x ∧ p.x ≤ 1000000
    · by_cases h3 : -1000000 ≤ p.y ∧ p.y ≤ 1000000
      · rw [if_neg (fun h => h.elim (fun h => h h2) (fun h => h h3))] at h
        by_cases h4 : ∃ q ∈ L, q.id = p.id
        · rw [if_pos h4] at h; omega
        · rw [if_neg h4] at h
          by_cases h5 : 150 ≤ L.length
          · rw [if_pos h5] at h; omega
          · exact ⟨⟨h1.1, h1.2, h2.1, h2.2, h3.1, h3.2⟩, fun q hq e => h4 ⟨q, hq, e⟩, by omega⟩
      · rw [if_pos (.inr h3)] at h; omega
    · rw [if_pos (.inl h2)] at h; omega
  · rw [if_pos h1] at h; omega
theorem Good.insert {L : List Ward.Pt} (hG : Good L) (p : Ward.Pt) : Good (insList L p) := by
  unfold insList
  by_cases h : insCode L p = 0
  · rw [if_pos h]
    obtain ⟨h1, h2, h3⟩ := insCode_ok h
    refine ⟨Ward.ins_sorted hG.sorted h2, Ward.ins_ids hG.ids h2, fun q hq => ?_, by rw [Ward.ins_length]; omega⟩
    rcases List.mem_cons.1 ((Ward.ins_perm p L).mem_iff.1 hq) with rfl | hq
    · exact h1
    · exact hG.ok q hq
  · rw [if_neg h]; exact hG
theorem good_nil : Good [] := ⟨List.Pairwise.nil, List.Pairwise.nil, fun p hp => by simp at hp, by simp⟩
end Go.Proofs.YtenaelkbgkpllaaGreatDoor
/- What a digest is, as plain functions on numbers and lists (no word of the program stands here). -/
namespace Go.Proofs.YtenaelkbgkpllaaGreatDoor
namespace Sha
def ror (n x : Nat) : Nat := (x * 2 ^ (32 - n) % 4294967296) ||| (x / 2 ^ n)
def ss0 (x : Nat) : Nat := (ror 7 x ^^^ ror 18 x) ^^^ (x / 8)
def ss1 (x : Nat) : Nat := (ror 17 x ^^^ ror 19 x) ^^^ (x / 1024)
def bs0 (x : Nat) : Nat := (ror 2 x ^^^ ror 13 x) ^^^ ror 22 x
def bs1 (x : Nat) : Nat := (ror 6 x ^^^ ror 11 x) ^^^ ror 25 x
def ch (x y z : Nat) : Nat := (x &&& y) ^^^ ((4294967295 ^^^ x) &&& z)
def maj (x y z : Nat) : Nat := ((x &&& y) ^^^ (x &&& z)) ^^^ (y &&& z)
structure St where
  a : Nat
  b : Nat
  c : Nat
  d : Nat
  e : Nat
  f : Nat
  g : Nat
  h : Nat
def Ok (s : St) : Prop := s.a < 4294967296 ∧ s.b < 4294967296 ∧ s.c < 4294967296 ∧ s.d < 4294967296 ∧ s.e < 4294967296 ∧ s.f < 4294967296 ∧ s.g < 4294967296 ∧ s.h < 4294967296
def t1 (k w : Nat) (s : St) : Nat := ((((s.h + bs1 s.e) % 4294967296 + ch s.e s.f s.g) % 4294967296 + k) % 4294967296 + w) % 4294967296
def t2 (s : St) : Nat := (bs0 s.a + maj s.a s.b s.c) % 4294967296
def round (k w : Nat) (s : St) : St := ⟨(t1 k w s + t2 s) % 4294967296, s.a, s.b, s.c, (s.d + t1 k w s) % 4294967296, s.e, s.f, s.g⟩
def Ks : List Nat := [1116352408, 1899447441, 3049323471, 3921009573, 961987163, 1508970993, 2453635748, 2870763221, 3624381080, 310598401, 607225278, 1426881987, 1925078388, 2162078206, 2614888103, 3248222580, 3835390401, 4022224774, 264347078, 604807628, 770255983, 1249150122, 1555081692, 1996064986, 2554220882, 2821834349, 2952996808, 3210313671, 3336571891, 3584528711, 113926993, 338241895, 666307205, 773529912, 1294757372, 1396182291, 1695183700, 1986661051, 2177026350, 2456956037, 2730485921, 2820302411, 3259730800, 3345764771, 3516065817, 3600352804, 4094571909, 275423344, 430227734, 506948616, 659060556, 883997877, 958139571, 1322822218, 1537002063, 1747873779, 1955562222, 2024104815, 2227730452, 2361852424, 2428436474, 2756734187, 3204031479, 3329325298]
def rounds (ws : List Nat) : Nat → St → St
  | 0, s => s
  | n + 1, s => round (Ks.getD n 0) (ws.getD n 0) (rounds ws n s)
def byteAt (l : List UInt8) (i : Nat) : Nat := (l.getD i 0).toNat
def word (l : List UInt8) (i : Nat) : Nat := ((byteAt l i * 16777216 ||| byteAt l (i + 1) * 65536) ||| byteAt l (i + 2) * 256) ||| byteAt l (i + 3)
/-- the first n numbers of a block's own -/
def first (l : List UInt8) : Nat → List Nat
  | 0 => []
  | n + 1 => first l n ++ [word l (4 * n)]
def nextW (l : List Nat) (n : Nat) : Nat := (((ss1 (l.getD (n + 14) 0) + l.getD (n + 9) 0) % 4294967296 + ss0 (l.getD (n + 1) 0)) % 4294967296 + l.getD n 0) % 4294967296
/-- the 16 numbers of a block, and n more -/
def spreadTo (l : List UInt8) : Nat → List Nat
  | 0 => first l 16
  | n + 1 => spreadTo l n ++ [nextW (spreadTo l n) n]
def add (s t : St) : St := ⟨(s.a + t.a) % 4294967296, (s.b + t.b) % 4294967296, (s.c + t.c) % 4294967296, (s.d + t.d) % 4294967296, (s.e + t.e) % 4294967296, (s.f + t.f) % 4294967296, (s.g + t.g) % 4294967296, (s.h + t.h) % 4294967296⟩
def stir (s : St) (l : List UInt8) : St := add s (rounds (spreadTo l 48) 64 s)
/-- the first n blocks of a text stirred in -/
def stirN (l : List UInt8) : Nat → St → St
  | 0, s => s
  | n + 1, s => stir (stirN l n s) ((l.drop (64 * n)).take 64)
def four (n : Nat) : List UInt8 := [UInt8.ofNat (n / 16777216), UInt8.ofNat (n / 65536), UInt8.ofNat (n / 256), UInt8.ofNat n]
def padding (n : Nat) : List UInt8 := (128 :: List.replicate ((119 - n % 64) % 64) 0) ++ (four (8 * n / 4294967296 % 4294967296) ++ four (8 * n % 4294967296))
def start : St := ⟨1779033703, 3144134277, 1013904242, 2773480762, 1359893119, 2600822924, 528734635, 1541459225⟩
def whole (n : Nat) : Nat := n - n % 64
def last (l : List UInt8) : List UInt8 := l.drop (whole l.length) ++ padding l.length
def state (l : List UInt8) : St := stirN (last l) ((last l).length / 64) (stirN (l.take (whole l.length)) (l.length / 64) start)
def join (s : St) : List UInt8 := four s.a ++ four s.b ++ four s.c ++ four s.d ++ four s.e ++ four s.f ++ four s.g ++ four s.h
def sha (l : List UInt8) : List UInt8 := join (state l)

theorem or_lt {x y : Nat} (hx : x < 4294967296) (hy : y < 4294967296) : x ||| y < 4294967296 := Nat.or_lt_two_pow (n := 32) hx hy
theorem xor_lt {x y : Nat} (hx : x < 4294967296) (hy : y < 4294967296) : x ^^^ y < 4294967296 := Nat.xor_lt_two_pow (n := 32) hx hy
theorem and_lt {x y : Nat} (hy : y < 4294967296) : x &&& y < 4294967296 := Nat.and_lt_two_pow (n := 32) x hy
theorem div_lt {x n : Nat} (hx : x < 4294967296) : x / n < 4294967296 := Nat.lt_of_le_of_lt (Nat.div_le_self _ _) hx
theorem ror_lt {n x : Nat} (hx : x < 4294967296) : ror n x < 4294967296 := or_lt (Nat.mod_lt _ (by decide)) (div_lt hx)
theorem ss0_lt {x : Nat} (hx : x < 4294967296) : ss0 x < 4294967296 := xor_lt (xor_lt (ror_lt hx) (ror_lt hx)) (div_lt hx)
theorem ss1_lt {x : Nat} (hx : x < 4294967296) : ss1 x < 4294967296 := xor_lt (xor_lt (ror_lt hx) (ror_lt hx)) (div_lt hx)
theorem bs0_lt {x : Nat} (hx : x < 4294967296) : bs0 x < 4294967296 := xor_lt (xor_lt (ror_lt hx) (ror_lt hx)) (ror_lt hx)
theorem bs1_lt {x : Nat} (hx : x < 4294967296) : bs1 x < 4294967296 := xor_lt (xor_lt (ror_lt hx) (ror_lt hx)) (ror_lt hx)
theorem ch_lt {x y z : Nat} (hy : y < 4294967296) (hz : z < 4294967296) : ch x y z < 4294967296 := xor_lt (and_lt hy) (and_lt hz)
theorem maj_lt {x y z : Nat} (hy : y < 4294967296) (hz : z < 4294967296) : maj x y z < 4294967296 := xor_lt (xor_lt (and_lt hy) (and_lt hz)) (and_lt hz)
theorem t1_lt {k w : Nat} {s : St} : t1 k w s < 4294967296 := Nat.mod_lt _ (by decide)
theorem t2_lt {s : St} : t2 s < 4294967296 := Nat.mod_lt _ (by decide)
theorem round_ok {k w : Nat} {s : St} (h : Ok s) : Ok (round k w s) :=
  ⟨Nat.mod_lt _ (by decide), h.1, h.2.1, h.2.2.1, Nat.mod_lt _ (by decide), h.2.2.2.2.1, h.2.2.2.2.2.1, h.2.2.2.2.2.2.1⟩
theorem rounds_ok {ws : List Nat} : ∀ (n : Nat) {s : St}, Ok s → Ok (rounds ws n s)
  | 0, _, h => h
  | n + 1, _, h => round_ok (rounds_ok n h)
theorem add_ok {s t : St} : Ok (add s t) := ⟨Nat.mod_lt _ (by decide), Nat.mod_lt _ (by decide), Nat.mod_lt _ (by decide), Nat.mod_lt _ (by decide), Nat.mod_lt _ (by decide), Nat.mod_lt _ (by decide), Nat.mod_lt _ (by decide), Nat.mod_lt _ (by decide)⟩
theorem stir_ok {s : St} {l : List UInt8} : Ok (stir s l) := add_ok
theorem start_ok : Ok start := by unfold Ok start; decide
theorem stirN_ok {l : List UInt8} : ∀ (n : Nat) {s : St}, Ok s → Ok (stirN l n s)
  | 0, _, h => h
  | _ + 1, _, _ => stir_ok
theorem byteAt_lt (l : List UInt8) (i : Nat) : byteAt l i < 256 := (l.getD i 0).toNat_lt
theorem up24 {x : Nat} (h : x < 256) : x * 16777216 < 4294967296 := by omega
theorem up16 {x : Nat} (h : x < 256) : x * 65536 < 4294967296 := by omega
theorem up8 {x : Nat} (h : x < 256) : x * 256 < 4294967296 := by omega
theorem cast_mul (a b : Nat) : (a : Int) * (b : Int) = ((a * b : Nat) : Int) := by simp
theorem word_lt (l : List UInt8) (i : Nat) : word l i < 4294967296 := by
  have h0 := byteAt_lt l i
  have h1 := byteAt_lt l (i + 1)
  have h2 := byteAt_lt l (i + 2)
  have h3 := byteAt_lt l (i + 3)
  exact or_lt (or_lt (or_lt (by omega) (by omega)) (by omega)) (by omega)
theorem first_length (l : List UInt8) : ∀ n, (first l n).length = n
  | 0 => rfl
  | n + 1 => by simp [first, first_length l n]
theorem first_lt (l : List UInt8) : ∀ n, ∀ x ∈ first l n, x < 4294967296
  | 0, x, h => by simp [first] at h
  | n + 1, x, h => by
    simp only [first, List.mem_append, List.mem_singleton] at h
    rcases h with h | rfl
    · exact first_lt l n x h
    · exact word_lt l _
theorem spreadTo_length (l : List UInt8) : ∀ n, (spreadTo l n).length = 16 + n
  | 0 => first_length l 16
  | n + 1 => by simp [spreadTo, spreadTo_length l n]; omega
theorem spreadTo_lt (l : List UInt8) : ∀ n, ∀ x ∈ spreadTo l n, x < 4294967296
  | 0, x, h => first_lt l 16 x h
  | n + 1, x, h => by
    simp only [spreadTo, List.mem_append, List.mem_singleton] at h
    rcases h with h | rfl
    · exact spreadTo_lt l n x h
    · exact Nat.mod_lt _ (by decide)
theorem getD_lt {l : List Nat} (h : ∀ x ∈ l, x < 4294967296) (i : Nat) : l.getD i 0 < 4294967296 := by
  by_cases hi : i < l.length
  · simp only [List.getD_eq_getElem?_getD, List.getElem?_eq_getElem hi, Option.getD_some]; exact h _ (List.getElem_mem hi)
  · simp only [List.getD_eq_getElem?_getD, List.getElem?_eq_none (Nat.le_of_not_lt hi), Option.getD_none]; decide
theorem Ks_lt : ∀ x ∈ Ks, x < 4294967296 := by decide
end Sha
end Go.Proofs.YtenaelkbgkpllaaGreatDoor
/- The program's small functions of digests (turning, mixing, reading four bytes) answer what the plain functions say. -/
namespace Go.Proofs.YtenaelkbgkpllaaGreatDoor
open Go.RowKit

theorem ret_u32 {a b : Int} (h : a = b) : Ending.returned (.int .u32 a) = .returned (.int .u32 b) := by rw [h]
theorem or32 {x y : Int} (a b : Nat) (hx : x = a) (hy : y = b) (ha : a < 4294967296) (hb : b < 4294967296) : bits .or .u32 x y = ((a ||| b : Nat) : Int) := by
  rw [hx, hy]; exact u32_or_nat a b ha hb
theorem and32 {x y : Int} (a b : Nat) (hx : x = a) (hy : y = b) (ha : a < 4294967296) (hb : b < 4294967296) : bits .and .u32 x y = ((a &&& b : Nat) : Int) := by
  rw [hx, hy]; exact u32_and_nat a b ha hb
theorem xor32 {x y : Int} (a b : Nat) (hx : x = a) (hy : y = b) (ha : a < 4294967296) (hb : b < 4294967296) : bits .xor .u32 x y = ((a ^^^ b : Nat) : Int) := by
  rw [hx, hy]; exact u32_xor_nat a b ha hb
theorem max32 : IntKind.u32.max = ((4294967295 : Nat) : Int) := by decide

set_option maxHeartbeats 400000 in
theorem turn2 (x : Nat) (w : World) (hx : x < 4294967296) :
    Calls Tryz.prog 186 #[.int .u32 x, .int .i64 2] w fun e w' => e = .returned (.int .u32 (Sha.ror 2 x : Nat)) ∧ w' = w := by
  have hb : bits BinOp.and IntKind.u64 (IntKind.u64.wrap (-2)) 31 = 30 := by decide
  go_enter Tryz.func186, Tryz.ntmps186
  go_wp2
  go_ret
  refine ⟨ret_u32 ?_, rfl⟩
  exact or32 (x * 1073741824 % 4294967296) (x / 4) (by omega) (by omega) (Nat.mod_lt _ (by decide)) (Sha.div_lt hx)

set_option maxHeartbeats 400000 in
theorem turn6 (x : Nat) (w : World) (hx : x < 4294967296) :
    Calls Tryz.prog 186 #[.int .u32 x, .int .i64 6] w fun e w' => e = .returned (.int .u32 (Sha.ror 6 x : Nat)) ∧ w' = w := by
  have hb : bits BinOp.and IntKind.u64 (IntKind.u64.wrap (-6)) 31 = 26 := by decide
  go_enter Tryz.func186, Tryz.ntmps186
  go_wp2
  go_ret
  refine ⟨ret_u32 ?_, rfl⟩
  exact or32 (x * 67108864 % 4294967296) (x / 64) (by omega) (by omega) (Nat.mod_lt _ (by decide)) (Sha.div_lt hx)

set_option maxHeartbeats 400000 in
theorem turn7 (x : Nat) (w : World) (hx : x < 4294967296) :
    Calls Tryz.prog 186 #[.int .u32 x, .int .i64 7] w fun e w' => e = .returned (.int .u32 (Sha.ror 7 x : Nat)) ∧ w' = w := by
  have hb : bits BinOp.and IntKind.u64 (IntKind.u64.wrap (-7)) 31 = 25 := by decide
  go_enter Tryz.func186, Tryz.ntmps186
  go_wp2
  go_ret
  refine ⟨ret_u32 ?_, rfl⟩
  exact or32 (x * 33554432 % 4294967296) (x / 128) (by omega) (by omega) (Nat.mod_lt _ (by decide)) (Sha.div_lt hx)

set_option maxHeartbeats 400000 in
theorem turn11 (x : Nat) (w : World) (hx : x < 4294967296) :
    Calls Tryz.prog 186 #[.int .u32 x, .int .i64 11] w fun e w' => e = .returned (.int .u32 (Sha.ror 11 x : Nat)) ∧ w' = w := by
  have hb : bits BinOp.and IntKind.u64 (IntKind.u64.wrap (-11)) 31 = 21 := by decide
  go_enter Tryz.func186, Tryz.ntmps186
  go_wp2
  go_ret
  refine ⟨ret_u32 ?_, rfl⟩
  exact or32 (x * 2097152 % 4294967296) (x / 2048) (by omega) (by omega) (Nat.mod_lt _ (by decide)) (Sha.div_lt hx)

set_option maxHeartbeats 400000 in
theorem turn13 (x : Nat) (w : World) (hx : x < 4294967296) :
    Calls Tryz.prog 186 #[.int .u32 x, .int .i64 13] w fun e w' => e = .returned (.int .u32 (Sha.ror 13 x : Nat)) ∧ w' = w := by
  have hb : bits BinOp.and IntKind.u64 (IntKind.u64.wrap (-13)) 31 = 19 := by decide
  go_enter Tryz.func186, Tryz.ntmps186
  go_wp2
  go_ret
  refine ⟨ret_u32 ?_, rfl⟩
  exact or32 (x * 524288 % 4294967296) (x / 8192) (by omega) (by omega) (Nat.mod_lt _ (by decide)) (Sha.div_lt hx)

set_option maxHeartbeats 400000 in
theorem turn17 (x : Nat) (w : World) (hx : x < 4294967296) :
    Calls Tryz.prog 186 #[.int .u32 x, .int .i64 17] w fun e w' => e = .returned (.int .u32 (Sha.ror 17 x : Nat)) ∧ w' = w := by
  have hb : bits BinOp.and IntKind.u64 (IntKind.u64.wrap (-17)) 31 = 15 := by decide
  go_enter Tryz.func186, Tryz.ntmps186
  go_wp2
  go_ret
  refine ⟨ret_u32 ?_, rfl⟩
  exact or32 (x * 32768 % 4294967296) (x / 131072) (by omega) (by omega) (Nat.mod_lt _ (by decide)) (Sha.div_lt hx)

set_option maxHeartbeats 400000 in
theorem turn18 (x : Nat) (w : World) (hx : x < 4294967296) :
    Calls Tryz.prog 186 #[.int .u32 x, .int .i64 18] w fun e w' => e = .returned (.int .u32 (Sha.ror 18 x : Nat)) ∧ w' = w := by
  have hb : bits BinOp.and IntKind.u64 (IntKind.u64.wrap (-18)) 31 = 14 := by decide
  go_enter Tryz.func186, Tryz.ntmps186
  go_wp2
  go_ret
  refine ⟨ret_u32 ?_, rfl⟩
  exact or32 (x * 16384 % 4294967296) (x / 262144) (by omega) (by omega) (Nat.mod_lt _ (by decide)) (Sha.div_lt hx)

set_option maxHeartbeats 400000 in
theorem turn19 (x : Nat) (w : World) (hx : x < 4294967296) :
    Calls Tryz.prog 186 #[.int .u32 x, .int .i64 19] w fun e w' => e = .returned (.int .u32 (Sha.ror 19 x : Nat)) ∧ w' = w := by
  have hb : bits BinOp.and IntKind.u64 (IntKind.u64.wrap (-19)) 31 = 13 := by decide
  go_enter Tryz.func186, Tryz.ntmps186
  go_wp2
  go_ret
  refine ⟨ret_u32 ?_, rfl⟩
  exact or32 (x * 8192 % 4294967296) (x / 524288) (by omega) (by omega) (Nat.mod_lt _ (by decide)) (Sha.div_lt hx)

set_option maxHeartbeats 400000 in
theorem turn22 (x : Nat) (w : World) (hx : x < 4294967296) :
    Calls Tryz.prog 186 #[.int .u32 x, .int .i64 22] w fun e w' => e = .returned (.int .u32 (Sha.ror 22 x : Nat)) ∧ w' = w := by
  have hb : bits BinOp.and IntKind.u64 (IntKind.u64.wrap (-22)) 31 = 10 := by decide
  go_enter Tryz.func186, Tryz.ntmps186
  go_wp2
  go_ret
  refine ⟨ret_u32 ?_, rfl⟩
  exact or32 (x * 1024 % 4294967296) (x / 4194304) (by omega) (by omega) (Nat.mod_lt _ (by decide)) (Sha.div_lt hx)

set_option maxHeartbeats 400000 in
theorem turn25 (x : Nat) (w : World) (hx : x < 4294967296) :
    Calls Tryz.prog 186 #[.int .u32 x, .int .i64 25] w fun e w' => e = .returned (.int .u32 (Sha.ror 25 x : Nat)) ∧ w' = w := by
  have hb : bits BinOp.and IntKind.u64 (IntKind.u64.wrap (-25)) 31 = 7 := by decide
  go_enter Tryz.func186, Tryz.ntmps186
  go_wp2
  go_ret
  refine ⟨ret_u32 ?_, rfl⟩
  exact or32 (x * 128 % 4294967296) (x / 33554432) (by omega) (by omega) (Nat.mod_lt _ (by decide)) (Sha.div_lt hx)

set_option maxHeartbeats 400000 in
theorem bs1_any (x : Nat) (w : World) (hx : x < 4294967296) :
    Calls Tryz.prog 165 #[.int .u32 x] w fun e w' => e = .returned (.int .u32 (Sha.bs1 x : Nat)) ∧ w' = w := by
  go_enter Tryz.func165, Tryz.ntmps165
  go_wp2_with fail
  refine (turn6 x _ hx).mono ?_
  rintro e w' ⟨rfl, rfl⟩
  go_wp2_with fail
  refine (turn11 x _ hx).mono ?_
  rintro e w' ⟨rfl, rfl⟩
  go_wp2_with fail
  refine (turn25 x _ hx).mono ?_
  rintro e w' ⟨rfl, rfl⟩
  go_wp2_with fail
  go_ret
  refine ⟨ret_u32 ?_, rfl⟩
  exact xor32 (Sha.ror 6 x ^^^ Sha.ror 11 x) (Sha.ror 25 x) (xor32 _ _ rfl rfl (Sha.ror_lt hx) (Sha.ror_lt hx)) rfl (Sha.xor_lt (Sha.ror_lt hx) (Sha.ror_lt hx)) (Sha.ror_lt hx)

set_option maxHeartbeats 400000 in
theorem bs0_any (x : Nat) (w : World) (hx : x < 4294967296) :
    Calls Tryz.prog 167 #[.int .u32 x] w fun e w' => e = .returned (.int .u32 (Sha.bs0 x : Nat)) ∧ w' = w := by
  go_enter Tryz.func167, Tryz.ntmps167
  go_wp2_with fail
  refine (turn2 x _ hx).mono ?_
  rintro e w' ⟨rfl, rfl⟩
  go_wp2_with fail
  refine (turn13 x _ hx).mono ?_
  rintro e w' ⟨rfl, rfl⟩
  go_wp2_with fail
  refine (turn22 x _ hx).mono ?_
  rintro e w' ⟨rfl, rfl⟩
  go_wp2_with fail
  go_ret
  refine ⟨ret_u32 ?_, rfl⟩
  exact xor32 (Sha.ror 2 x ^^^ Sha.ror 13 x) (Sha.ror 22 x) (xor32 _ _ rfl rfl (Sha.ror_lt hx) (Sha.ror_lt hx)) rfl (Sha.xor_lt (Sha.ror_lt hx) (Sha.ror_lt hx)) (Sha.ror_lt hx)

set_option maxHeartbeats 400000 in
theorem ss1_any (x : Nat) (w : World) (hx : x < 4294967296) :
    Calls Tryz.prog 184 #[.int .u32 x] w fun e w' => e = .returned (.int .u32 (Sha.ss1 x : Nat)) ∧ w' = w := by
  go_enter Tryz.func184, Tryz.ntmps184
  go_wp2_with fail
  refine (turn17 x _ hx).mono ?_
  rintro e w' ⟨rfl, rfl⟩
  go_wp2_with fail
  refine (turn19 x _ hx).mono ?_
  rintro e w' ⟨rfl, rfl⟩
  go_wp2_with fail
  go_ret
  refine ⟨ret_u32 ?_, rfl⟩
  exact xor32 (Sha.ror 17 x ^^^ Sha.ror 19 x) (x / 1024) (xor32 _ _ rfl rfl (Sha.ror_lt hx) (Sha.ror_lt hx)) (by omega) (Sha.xor_lt (Sha.ror_lt hx) (Sha.ror_lt hx)) (Sha.div_lt hx)

set_option maxHeartbeats 400000 in
theorem ss0_any (x : Nat) (w : World) (hx : x < 4294967296) :
    Calls Tryz.prog 185 #[.int .u32 x] w fun e w' => e = .returned (.int .u32 (Sha.ss0 x : Nat)) ∧ w' = w := by
  go_enter Tryz.func185, Tryz.ntmps185
  go_wp2_with fail
  refine (turn7 x _ hx).mono ?_
  rintro e w' ⟨rfl, rfl⟩
  go_wp2_with fail
  refine (turn18 x _ hx).mono ?_
  rintro e w' ⟨rfl, rfl⟩
  go_wp2_with fail
  go_ret
  refine ⟨ret_u32 ?_, rfl⟩
  exact xor32 (Sha.ror 7 x ^^^ Sha.ror 18 x) (x / 8) (xor32 _ _ rfl rfl (Sha.ror_lt hx) (Sha.ror_lt hx)) (by omega) (Sha.xor_lt (Sha.ror_lt hx) (Sha.ror_lt hx)) (Sha.div_lt hx)

set_option maxHeartbeats 400000 in
theorem choose_any (x y z : Nat) (w : World) (hx : x < 4294967296) (hy : y < 4294967296) (hz : z < 4294967296) :
    Calls Tryz.prog 166 #[.int .u32 x, .int .u32 y, .int .u32 z] w fun e w' => e = .returned (.int .u32 (Sha.ch x y z : Nat)) ∧ w' = w := by
  have hsg : IntKind.u32.signed = false := rfl
  go_enter Tryz.func166, Tryz.ntmps166
  go_wp2
  go_ret
  refine ⟨ret_u32 ?_, rfl⟩
  have hn : (4294967295 ^^^ x) < 4294967296 := Sha.xor_lt (by decide) hx
  exact xor32 (x &&& y) ((4294967295 ^^^ x) &&& z) (and32 x y rfl rfl hx hy) (and32 (4294967295 ^^^ x) z (xor32 4294967295 x max32 rfl (by decide) hx) rfl hn hz) (Sha.and_lt hy) (Sha.and_lt hz)

set_option maxHeartbeats 400000 in
theorem majority_any (x y z : Nat) (w : World) (hx : x < 4294967296) (hy : y < 4294967296) (hz : z < 4294967296) :
    Calls Tryz.prog 168 #[.int .u32 x, .int .u32 y, .int .u32 z] w fun e w' => e = .returned (.int .u32 (Sha.maj x y z : Nat)) ∧ w' = w := by
  go_enter Tryz.func168, Tryz.ntmps168
  go_wp2
  go_ret
  refine ⟨ret_u32 ?_, rfl⟩
  exact xor32 ((x &&& y) ^^^ (x &&& z)) (y &&& z) (xor32 (x &&& y) (x &&& z) (and32 x y rfl rfl hx hy) (and32 x z rfl rfl hx hz) (Sha.and_lt hy) (Sha.and_lt hz)) (and32 y z rfl rfl hy hz) (Sha.xor_lt (Sha.and_lt hy) (Sha.and_lt hz)) (Sha.and_lt hz)

theorem byteAt_of (s : ByteArray) (i : Nat) (h : i < s.size) : Sha.byteAt s.data.toList i = (s[i]).toNat := by
  have h' : i < s.data.toList.length := by simpa using h
  simp only [Sha.byteAt, List.getD_eq_getElem?_getD, List.getElem?_eq_getElem h', Option.getD_some]
  rfl

theorem word_or (B0 B1 B2 B3 : Nat) (b0 : B0 < 256) (b1 : B1 < 256) (b2 : B2 < 256) (b3 : B3 < 256) :
    bits .or .u32 (bits .or .u32 (bits .or .u32 ((B0 : Int) * 16777216) ((B1 : Int) * 65536)) ((B2 : Int) * 256)) (B3 : Int) = ((((B0 * 16777216 ||| B1 * 65536) ||| B2 * 256) ||| B3 : Nat) : Int) := by
  have q0 := Sha.up24 b0
  have q1 := Sha.up16 b1
  have q2 := Sha.up8 b2
  have q3 : B3 < 4294967296 := Nat.lt_trans b3 (by decide)
  exact or32 _ _ (or32 _ _ (or32 (B0 * 16777216) (B1 * 65536) (Sha.cast_mul B0 16777216) (Sha.cast_mul B1 65536) q0 q1) (Sha.cast_mul B2 256) (Sha.or_lt q0 q1) q2) rfl (Sha.or_lt (Sha.or_lt q0 q1) q2) q3
theorem idx_str (s : ByteArray) (i : Int) (k : Nat) (h : i = k) (hk : k < s.size) (w : World) :
    (Instr.index 9 (.string s) (.int .i64 i)).run Tryz.prog w = .ok (.int .u8 (Sha.byteAt s.data.toList k : Nat)) w := by
  subst h
  rw [run_index_string w 9 s .i64 k Tryz.underlying9, dif_pos (by omega), byteAt_of s k hk]
  rfl

set_option maxHeartbeats 800000 in
theorem at_any (s : ByteArray) (k : Nat) (w : World) (hk : k + 4 ≤ s.size) (hs : s.size ≤ maxLen) :
    Calls Tryz.prog 181 #[.string s, .int .i64 k] w fun e w' => e = .returned (.int .u32 (Sha.word s.data.toList k : Nat)) ∧ ∃ n, w' = w.drewN n := by
  unfold maxLen at hs
  have i0 := idx_str s k k rfl (by omega)
  have i1 := idx_str s (k + 1) (k + 1) rfl (by omega)
  have i2 := idx_str s (k + 2) (k + 2) rfl (by omega)
  have i3 := idx_str s (k + 3) (k + 3) rfl (by omega)
  have b0 := Sha.byteAt_lt s.data.toList k
  have b1 := Sha.byteAt_lt s.data.toList (k + 1)
  have b2 := Sha.byteAt_lt s.data.toList (k + 2)
  have b3 := Sha.byteAt_lt s.data.toList (k + 3)
  have HW : Hid (Sha.word s.data.toList k = ((Sha.byteAt s.data.toList k * 16777216 ||| Sha.byteAt s.data.toList (k + 1) * 65536) ||| Sha.byteAt s.data.toList (k + 2) * 256) ||| Sha.byteAt s.data.toList (k + 3)) := rfl
  generalize Sha.word s.data.toList k = W at *
  generalize Sha.byteAt s.data.toList k = B0 at *
  generalize Sha.byteAt s.data.toList (k + 1) = B1 at *
  generalize Sha.byteAt s.data.toList (k + 2) = B2 at *
  generalize Sha.byteAt s.data.toList (k + 3) = B3 at *
  go_enter Tryz.func181, Tryz.ntmps181
  go_wp2
  go_quiet (fail)
  go_wp2
  go_ret
  refine ⟨ret_u32 ?_, nq, rfl⟩
  rw [HW.out]
  exact word_or B0 B1 B2 B3 b0 b1 b2 b3
end Go.Proofs.YtenaelkbgkpllaaGreatDoor
/- The program's table of 64 numbers of a block is the plain function's. -/
namespace Go.Proofs.YtenaelkbgkpllaaGreatDoor
open Go.RowKit

abbrev U (n : Nat) : Value := .int .u32 n
/-- 64 cells: the numbers of a list, then noughts -/
def arr (l : List Nat) : Array Value := ((l ++ List.replicate (64 - l.length) 0).map U).toArray
theorem arr_size (l : List Nat) (h : l.length ≤ 64) : (arr l).size = 64 := by
  simp [arr]; omega
theorem arr_at (l : List Nat) (i : Nat) (hi : i < 64) (h : l.length ≤ 64) : (arr l)[i]? = some (U (l.getD i 0)) := by
  unfold arr
  rw [List.getElem?_toArray, List.getElem?_map]
  by_cases hl : i < l.length
  · rw [List.getElem?_append_left hl, List.getD_eq_getElem?_getD, List.getElem?_eq_getElem hl]; rfl
  · have e1 : l[i]? = none := by simp; omega
    rw [List.getElem?_append_right (by omega), List.getElem?_replicate, if_pos (by omega), List.getD_eq_getElem?_getD, e1]; rfl
theorem arr_snoc (l : List Nat) (x : Nat) (h : l.length < 64) : (arr l).setIfInBounds l.length (U x) = arr (l ++ [x]) := by
  apply Array.ext_getElem?
  intro i
  rw [Array.getElem?_setIfInBounds]
  by_cases hi : i < 64
  · rw [arr_at (l ++ [x]) i hi (by simp; omega)]
    by_cases e : l.length = i
    · subst e
      rw [if_pos rfl, if_pos (by rw [arr_size l (by omega)]; omega)]
      simp
    · rw [if_neg e, arr_at l i hi (by omega)]
      by_cases hl : i < l.length
      · simp [hl, List.getElem?_append_left hl]
      · have e1 : l[i]? = none := by simp; omega
        have e2 : (l ++ [x])[i]? = none := by simp; omega
        simp [e2, e1]
  · have e1 : (arr l)[i]? = none := by rw [Array.getElem?_eq_none]; rw [arr_size l (by omega)]; omega
    have e2 : (arr (l ++ [x]))[i]? = none := by rw [Array.getElem?_eq_none]; rw [arr_size _ (by simp; omega)]; omega
    rw [e1, e2]
    have : ¬ l.length = i := by omega
    simp [this]
theorem arr_full (l : List Nat) (h : l.length = 64) : arr l = (l.map U).toArray := by simp [arr, h]

theorem at_anyI (s : ByteArray) (i : Int) (k : Nat) (w : World) (hi : i = k) (hk : k + 4 ≤ s.size) (hs : s.size ≤ maxLen) :
    Calls Tryz.prog 181 #[.string s, .int .i64 i] w fun e w' => e = .returned (.int .u32 (Sha.word s.data.toList k : Nat)) ∧ ∃ n, w' = w.drewN n := by
  subst hi; exact at_any s k w hk hs

theorem Tryz.arrayLen37 : Tryz.prog.arrayLen 65 = 64 := by kernel_rfl
theorem Tryz.elem37 : Tryz.prog.elem 65 = 63 := by kernel_rfl
theorem Tryz.array37 : Tryz.prog.underlying 65 = some (.array (Tryz.prog.arrayLen 65) (Tryz.prog.elem 65)) := by kernel_rfl
theorem Tryz.size27 (w : World) : (sizeOf 63).run Tryz.prog w = .ok 1 w := by kernel_rfl
theorem idx37 (g : Nat) (i : Int) (k : Nat) (h : i = k) (hk : k < 64) (W : World) :
    (Instr.indexAt 65 (.pointer (some ⟨g, 0, none⟩)) (.int .i64 i)).run Tryz.prog W = .ok (.pointer (some ⟨g, k, none⟩)) W := by
  subst h
  rw [run_indexAt_array W 65 _ _ _ Tryz.array37, Tryz.arrayLen37, Tryz.elem37, if_pos (by omega), Tryz.size27]
  by_cases h0 : k = 0
  · subst h0; rfl
  · simp [Addr.add, h0]
theorem wrap_small (n : Int) (h0 : -1000000 ≤ n) (h1 : n ≤ 1000000) : IntKind.i64.wrap n = n := by
  rw [IntKind.wrap_i64]; omega
theorem cs_ne {w : World} {g i k : Nat} {v : Value} {x : Option Value} (h : w.cell? ⟨g, i, none⟩ = x) (hne : i ≠ k) : ((w.setCell ⟨g, k, none⟩ v).drew).cell? ⟨g, i, none⟩ = x := by
  rw [← h]
  exact World.cell?_setCell_other _ _ _ _ (fun e => hne (by injection e with _ e2 _; exact e2.symm))
theorem cs_eq {w : World} {g k : Nat} {v x : Value} (h : w.cell? ⟨g, k, none⟩ = some x) : ((w.setCell ⟨g, k, none⟩ v).drew).cell? ⟨g, k, none⟩ = some v :=
  World.cell?_setCell_same _ _ _ h
theorem wrap32_add (a b : Nat) : IntKind.u32.wrap ((a : Int) + (b : Int)) = (((a + b) % 4294967296 : Nat) : Int) := by
  rw [IntKind.wrap_u32]; omega
theorem arr_next (l : List UInt8) (n : Nat) (h : n < 48) : (arr (Sha.spreadTo l n)).setIfInBounds (n + 16) (U (Sha.nextW (Sha.spreadTo l n) n)) = arr (Sha.spreadTo l (n + 1)) := by
  have e := Sha.spreadTo_length l n
  have := arr_snoc (Sha.spreadTo l n) (Sha.nextW (Sha.spreadTo l n) n) (by omega)
  rw [e, show 16 + n = n + 16 by omega] at this
  exact this
theorem arr_first (l : List UInt8) (n : Nat) (h : n < 16) : (arr (Sha.first l n)).setIfInBounds n (U (Sha.word l (4 * n))) = arr (Sha.first l (n + 1)) := by
  have e := Sha.first_length l n
  have := arr_snoc (Sha.first l n) (Sha.word l (4 * n)) (by omega)
  rw [e] at this
  exact this
theorem next_cast (a b c d : Nat) : ((((a : Int) + b) % 4294967296 + c) % 4294967296 + d) % 4294967296 = (((((a + b) % 4294967296 + c) % 4294967296 + d) % 4294967296 : Nat) : Int) := by
  omega
theorem Tryz.info37 : (Tryz.prog.info? 65).map (·.size) = some 64 := by kernel_rfl
theorem arr_one (l : List Nat) : (arr l).all (·.oneCell') = true := by
  unfold arr
  rw [List.all_toArray]
  simp [Value.oneCell']
theorem drewN_heap (w : World) (n : Nat) : (w.drewN n).heap = w.heap := by
  induction n <;> simp_all [World.drewN]
theorem row_same {w : World} {g i n : Nat} {cs : Array Value} {t : TypeId} {v : Value} (h : w.heap[g]? = some (.cells cs t (0, 0))) :
    ((w.drewN n).setCell ⟨g, i, none⟩ v).heap[g]? = some (.cells (cs.setIfInBounds i v) t (0, 0)) :=
  heap_setCell_same (w.drewN n) g i cs t v (by rw [drewN_heap]; exact h)
theorem row_other {w : World} {g k i n : Nat} {v : Value} {o : Option Obj} (hk : k ≠ g) (h : w.heap[k]? = o) :
    ((w.drewN n).setCell ⟨g, i, none⟩ v).heap[k]? = o := by
  rw [heap_setCell_other _ _ _ _ (by simpa using hk), drewN_heap]; exact h
theorem size_set {w : World} {n : Nat} {a : Addr} {v : Value} : ((w.drewN n).setCell a v).heap.size = w.heap.size := by
  simp
theorem below_set {B : Nat} {w wr : World} {n : Nat} {a : Addr} {v : Value} (h : Below B w wr) (ha : B ≤ a.block) : Below B w ((wr.drewN n).setCell a v) :=
  (below_drewN h n).setCell ha _

set_option maxRecDepth 100000 in
set_option maxHeartbeats 400000 in
theorem spread_any (s : ByteArray) (w : World) (hs : s.size = 64) :
    Calls Tryz.prog 164 #[.string s] w fun e w' => e = .returned (.agg (arr (Sha.spreadTo s.data.toList 48))) ∧ Below w.heap.size w w' := by
  have hm : s.size ≤ maxLen := by unfold maxLen; omega
  have HM : Hid (s.size ≤ maxLen) := hm
  have HS : Hid (s.size = 64) := hs
  clear hm hs
  go_enter Tryz.func164, Tryz.ntmps164
  go_wp2
  go_loopw [6] (fun i wr => ∃ k : Nat, k ≤ 16 ∧ i = .int .i64 k ∧ wr.heap[w.heap.size]? = some (.cells (arr []) 65 (0, 0)) ∧ wr.heap[w.heap.size + 1]? = some (.cells (arr (Sha.first s.data.toList k)) 65 (0, 0)) ∧ wr.heap.size = w.heap.size + 2 ∧ Below w.heap.size w wr)
    (fun i _ => 16 - (intOf i).toNat)
  case atStart =>
    refine ⟨0, by omega, rfl, heap_alloc2_old _ _ _, heap_alloc2_new _ _ _, by simp, ?_⟩
    exact ((Below.refl _ _).alloc (Nat.le_refl _) _).alloc (by simp) _
  case round =>
    obtain ⟨k, hk, rfl, h2, h3, hz, hb⟩ := hrel
    have H2 : Hid (wr.heap[w.heap.size]? = some (.cells (arr []) 65 (0, 0))) := h2
    have H3 : Hid (wr.heap[w.heap.size + 1]? = some (.cells (arr (Sha.first s.data.toList k)) 65 (0, 0))) := h3
    have HZ : Hid (wr.heap.size = w.heap.size + 2) := hz
    have hl := Sha.first_length s.data.toList k
    have HL : Hid ((Sha.first s.data.toList k).length = k) := hl
    by_cases hlt : k < 16
    · have hc : wr.cell? ⟨w.heap.size + 1, k, none⟩ = some (U 0) := by
        rw [cell_of_row _ _ _ _ _ _ h3, arr_at _ _ (by omega) (by omega)]
        simp [hl]
      have hf : wr.frozen? ⟨w.heap.size + 1, k, none⟩ = false := frozen_of_row _ _ _ _ _ h3
      clear h2 h3 hl hz
      go_wp2_with fail
      refine (at_anyI s _ (4 * k) _ (by omega) (by rw [HS.out]; omega) HM.out).mono ?_
      rintro e w' ⟨rfl, nq, rfl⟩
      go_wp2
      refine ⟨⟨k + 1, by omega, by go_num, row_other (by omega) H2.out, ?_, size_set.trans HZ.out, below_set hb (by simp)⟩, by simp [intOf]; omega⟩
      rw [row_same H3.out, arr_first _ _ hlt]
    · have e16 : k = 16 := by omega
      subst e16
      clear h2 h3 hl hz
      go_wp2
      go_loopw [5] (fun i wq => ∃ n : Nat, n ≤ 48 ∧ i = .int .i64 (n + 16 : Nat) ∧ wq.heap[w.heap.size]? = some (.cells (arr []) 65 (0, 0)) ∧ wq.heap[w.heap.size + 1]? = some (.cells (arr (Sha.spreadTo s.data.toList n)) 65 (0, 0)) ∧ wq.heap.size = w.heap.size + 2 ∧ Below w.heap.size w wq)
        (fun i _ => 64 - (intOf i).toNat)
      case atStart => exact ⟨0, by omega, rfl, H2.out, H3.out, HZ.out, hb⟩
      case round =>
        clear H2 H3 HZ HL hb hlt hk
        obtain ⟨n, hn, rfl, h2, h3, hz, hb⟩ := hrel
        have H2 : Hid (wr.heap[w.heap.size]? = some (.cells (arr []) 65 (0, 0))) := h2
        have H3 : Hid (wr.heap[w.heap.size + 1]? = some (.cells (arr (Sha.spreadTo s.data.toList n)) 65 (0, 0))) := h3
        have HZ : Hid (wr.heap.size = w.heap.size + 2) := hz
        have hl := Sha.spreadTo_length s.data.toList n
        have HL : Hid ((Sha.spreadTo s.data.toList n).length = 16 + n) := hl
        have hcells : ∀ i, i < 64 → wr.cell? ⟨w.heap.size + 1, i, none⟩ = some (U ((Sha.spreadTo s.data.toList n).getD i 0)) := fun i hi => by
          rw [cell_of_row _ _ _ _ _ _ h3, arr_at _ _ hi (by omega)]
        have hf : wr.frozen? ⟨w.heap.size + 1, n + 16, none⟩ = false := frozen_of_row _ _ _ _ _ h3
        by_cases hlt : n < 48
        · have c14 := hcells (n + 14) (by omega)
          have c9 := hcells (n + 9) (by omega)
          have c1 := hcells (n + 1) (by omega)
          have c0 := hcells n (by omega)
          have c16 := hcells (n + 16) (by omega)
          have HN : Hid (Sha.nextW (Sha.spreadTo s.data.toList n) n = (((Sha.ss1 ((Sha.spreadTo s.data.toList n).getD (n + 14) 0) + (Sha.spreadTo s.data.toList n).getD (n + 9) 0) % 4294967296 + Sha.ss0 ((Sha.spreadTo s.data.toList n).getD (n + 1) 0)) % 4294967296 + (Sha.spreadTo s.data.toList n).getD n 0) % 4294967296) := rfl
          have l14 := Sha.getD_lt (Sha.spreadTo_lt s.data.toList n) (n + 14)
          have l9 := Sha.getD_lt (Sha.spreadTo_lt s.data.toList n) (n + 9)
          have l1 := Sha.getD_lt (Sha.spreadTo_lt s.data.toList n) (n + 1)
          have l0 := Sha.getD_lt (Sha.spreadTo_lt s.data.toList n) n
          clear h2 h3 hl hz hcells
          generalize (Sha.spreadTo s.data.toList n).getD (n + 14) 0 = x14 at *
          generalize (Sha.spreadTo s.data.toList n).getD (n + 9) 0 = x9 at *
          generalize (Sha.spreadTo s.data.toList n).getD (n + 1) 0 = x1 at *
          generalize (Sha.spreadTo s.data.toList n).getD n 0 = x0 at *
          generalize (Sha.spreadTo s.data.toList n).getD (n + 16) 0 = x16 at *
          obtain ⟨t, ht⟩ : ∃ t : Int, t = ((n + 16 : Nat) : Int) := ⟨_, rfl⟩
          have t0 : 16 ≤ t := by omega
          have t1 : t < 64 := by omega
          have i14 := idx37 (w.heap.size + 1) (t - 2) (n + 14) (by omega) (by omega)
          have i9 := idx37 (w.heap.size + 1) (t - 7) (n + 9) (by omega) (by omega)
          have i1 := idx37 (w.heap.size + 1) (t - 15) (n + 1) (by omega) (by omega)
          have i0 := idx37 (w.heap.size + 1) (t - 16) n (by omega) (by omega)
          have i16 := idx37 (w.heap.size + 1) t (n + 16) (by omega) (by omega)
          have w14 := wrap_small (t - 2) (by omega) (by omega)
          have w9 := wrap_small (t - 7) (by omega) (by omega)
          have w1 := wrap_small (t - 15) (by omega) (by omega)
          have w0 := wrap_small (t - 16) (by omega) (by omega)
          have HT : Hid (t = ((n + 16 : Nat) : Int)) := ht
          rw [← ht]
          have HLT : Hid (n < 48) := hlt
          clear ht hlt hn
          go_wp2_with fail
          go_region_held3 (fun w' => w'.cell? ⟨w.heap.size + 1, n + 14, none⟩ = some (U x14) ∧ w'.cell? ⟨w.heap.size + 1, n + 9, none⟩ = some (U x9) ∧ w'.cell? ⟨w.heap.size + 1, n + 1, none⟩ = some (U x1) ∧ w'.cell? ⟨w.heap.size + 1, n, none⟩ = some (U x0) ∧ (∃ v, w'.cell? ⟨w.heap.size + 1, n + 16, none⟩ = some v) ∧ w'.frozen? ⟨w.heap.size + 1, n + 16, none⟩ = false) (first | exact ⟨c14, c9, c1, c0, ⟨_, c16⟩, hf⟩ | exact ⟨cs_ne c14 (by omega), cs_ne c9 (by omega), cs_ne c1 (by omega), cs_ne c0 (by omega), ⟨_, cs_eq c16⟩, by simp [hf]⟩)
            (first | (go_at_call 184; refine (ss1_any x14 _ l14).mono ?_; rintro e w' ⟨rfl, rfl⟩) | (go_at_call 185; refine (ss0_any x1 _ l1).mono ?_; rintro e w' ⟨rfl, rfl⟩))
          all_goals
            go_wp2
            go_roundw
            case rel =>
              (repeat apply Exists.intro)
              have hlt := HLT.out
              refine ⟨⟨n + 1, hlt, by rw [HT.out]; go_num, ?_, ?_, ?_, ?_⟩, rfl⟩
              · exact row_other (n := 1) (by omega) H2.out
              · exact (row_same (n := 1) H3.out).trans (by rw [next_cast, ← HN.out, arr_next _ _ HLT.out])
              · exact (size_set (n := 1)).trans HZ.out
              · exact below_set (n := 1) hb (by simp)
            case measure => simp [intOf]; omega
        · have e48 : n = 48 := by omega
          subst e48
          have hA : (arr (Sha.spreadTo s.data.toList 48)).size = 64 := arr_size _ (by rw [hl]; omega)
          have h1 := arr_one (Sha.spreadTo s.data.toList 48)
          have hB : (arr []).size = 64 := arr_size _ (by decide)
          clear hcells hf hl h2 h3 hz HL HS HM
          generalize hAe : arr (Sha.spreadTo s.data.toList 48) = A at *
          have HAe : Hid (arr (Sha.spreadTo s.data.toList 48) = A) := hAe
          clear hAe
          generalize arr [] = B at *
          have HA : Hid (A.size = 64) := hA
          have HB : Hid (B.size = 64) := hB
          clear hA hB hlt
          go_wp2_with (first | (refine wpList_load_row rfl 65 (.tmp 3) rfl (w.heap.size + 1) rfl 65 A (0, 0) _ H3.out Tryz.underlying65 rfl (by rw [HA.out]; exact Tryz.info37) ?_) | (refine wpList_store_row rfl 65 (.tmp 2) (.tmp 43) rfl w.heap.size A rfl rfl 65 B H2.out (by rw [HA.out]; exact Tryz.info37) (by rw [HA.out, HB.out]) h1 ?_))
          refine bodyPost_ret (v := .agg A) ?_ rfl ⟨by rw [HAe.out], below_setRow hb (Nat.le_refl _) A⟩
          exact results_cell_row rfl _ _ w.heap.size 65 A (0, 0) _ rfl (setRow_heap _ _ _ _ _ _ H2.out) Tryz.underlying65 rfl (by rw [HA.out]; exact Tryz.info37)
end Go.Proofs.YtenaelkbgkpllaaGreatDoor
