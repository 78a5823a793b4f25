/- A point put in among others (slices.Insert). -/
import Derived.Test.YtenaelkbgkpllaaGreatDoorPE
import Derived.Laws.CopyOwn
namespace Go.Proofs.YtenaelkbgkpllaaGreatDoor
open Go.RowKit

/-- a list of points in a row of its own -/
def Own (w : World) (B : Nat) (v : Value) (L : List Ward.Pt) : Prop := w.ownsRow B 36 3 v L.length (L.flatMap P3)
/-- the list with a point put in -/
def putIn (L : List Ward.Pt) (k : Nat) (p : Ward.Pt) : List Ward.Pt := L.take k ++ p :: L.drop k
theorem putIn_len (L : List Ward.Pt) (k : Nat) (p : Ward.Pt) (h : k ≤ L.length) : (putIn L k p).length = L.length + 1 := by simp [putIn]; omega
theorem putIn_cells (L : List Ward.Pt) (k : Nat) (p : Ward.Pt) : (putIn L k p).flatMap P3 = (L.take k).flatMap P3 ++ P3 p ++ (L.drop k).flatMap P3 := by simp [putIn]

set_option maxRecDepth 100000 in
set_option maxHeartbeats 2000000 in
/-- at the end -/
theorem insert_end (B : Nat) (v : Value) (L : List Ward.Pt) (p : Ward.Pt) (k : Nat) (w : World) (hown : Own w B v L) (hk : w.heap[k]? = some (.cells (P3 p).toArray 36 (0, 0))) (hl : L.length ≤ 1000) (hB : B ≤ w.heap.size) :
    Calls Tryz.prog 36 #[v, I L.length, .slice (some ⟨k, 0, none⟩) 1 1] w fun e w' => ∃ v', e = .returned v' ∧ Own w' B v' (putIn L L.length p) ∧ w.grownBy w' v.ownBlock ∧ Fresh w v v' := by
  obtain ⟨i0, hi, hz0, hz1, hz2⟩ := info_parts Tryz.infoPt
  have HO := hide hown
  have HN := hide (row_src (o := 0) (n := 3) hk)
  have fin : ∀ (v' : Value) (w' : World), w'.ownsRow B 36 3 v' (L.length + 1) (L.flatMap P3 ++ P3 p) → Own w' B v' (putIn L L.length p) := fun _ _ h => by
    unfold Own
    rw [putIn_len L _ p (Nat.le_refl _), putIn_cells, List.take_length, List.drop_length]
    simpa using h
  have FIN := hide fin
  clear fin hk
  rcases hown.2 with ⟨rfl, h0⟩ | ⟨g, c, cur, rfl, _, _, hc, hcm, _⟩
  · have hL : L = [] := by simpa using h0
    subst hL
    clear hown
    go_enter Tryz.func36, Tryz.ntmps36
    go_wp2_with (at_builtin; refine wpList_append_own2 _ rfl (.tmp 23) (.tmp 24) 27 rfl B 36 i0 (.agg #[I 0, I 0, I 0]) 3 24 Tryz.underlying27 hi hz0 hz1 hz2 rfl (by decide) _ 0 [] rfl HO.out ⟨k, 0, none⟩ 1 1 (P3 p) rfl rfl HN.out (fun u hu => cells_one (L := [p]) u (by simpa using hu)) (by unfold maxLen; omega) (by omega) hB ?_)
    intro v' w1 hown' hgrow hfr
    go_wp2
    go_ret
    exact ⟨v', rfl, FIN.out _ _ hown', hgrow, hfr⟩
  · unfold maxLen at hcm
    clear hown
    by_cases hce : c = L.length
    · subst hce
      go_enter Tryz.func36, Tryz.ntmps36
      go_wp2_with (at_builtin; refine wpList_append_own2 _ rfl (.tmp 23) (.tmp 24) 27 rfl B 36 i0 (.agg #[I 0, I 0, I 0]) 3 24 Tryz.underlying27 hi hz0 hz1 hz2 rfl (by decide) _ L.length (L.flatMap P3) rfl HO.out ⟨k, 0, none⟩ 1 1 (P3 p) rfl rfl HN.out (fun u hu => cells_one (L := [p]) u (by simpa using hu)) (by unfold maxLen; omega) (by omega) hB ?_)
      intro v' w1 hown' hgrow hfr
      go_wp2
      go_ret
      exact ⟨v', rfl, FIN.out _ _ hown', hgrow, hfr⟩
    · go_enter Tryz.func36, Tryz.ntmps36
      go_wp2_with (at_builtin; refine wpList_append_own2 _ rfl (.tmp 23) (.tmp 24) 27 rfl B 36 i0 (.agg #[I 0, I 0, I 0]) 3 24 Tryz.underlying27 hi hz0 hz1 hz2 rfl (by decide) _ L.length (L.flatMap P3) rfl HO.out ⟨k, 0, none⟩ 1 1 (P3 p) rfl rfl HN.out (fun u hu => cells_one (L := [p]) u (by simpa using hu)) (by unfold maxLen; omega) (by omega) hB ?_)
      intro v' w1 hown' hgrow hfr
      go_wp2
      go_ret
      exact ⟨v', rfl, FIN.out _ _ hown', hgrow, hfr⟩

theorem shape_of {w : World} {g t : Nat} {cur : Array Value} {fr : Nat × Nat} (h : w.heap[g]? = some (.cells cur t fr)) : w.shape? g = some (t, cur.size) := by simp [World.shape?, h]
theorem overlaps_not (w : World) (g k n c o : Nat) (cur : Array Value) (p : Ward.Pt) (hk : w.heap[k]? = some (.cells (P3 p).toArray 36 (0, 0))) (hg : w.heap[g]? = some (.cells cur 36 (0, 0))) (hne : k ≠ g) (h0 : cur.size ≠ 0) :
    (callFunc 68 #[.slice (some ⟨k, 0, none⟩) 1 1, .slice (some ⟨g, o, none⟩) n c]).run Tryz.prog w = .ok (.value (.bool false)) w := by
  rw [run_callFunc_extern Tryz.func68 (by kernel_rfl) (by kernel_rfl) (by kernel_rfl) (e := Extern.SlicesOverlaps.overlaps #[27, 27] #[4]) (by kernel_rfl),
    Lib.run_overlaps_apart w 27 4 36 Tryz.underlying27 3 (fun _ => by kernel_rfl) ⟨k, 0, none⟩ ⟨g, o, none⟩ 1 1 n c hne _ _ _ _ (shape_of hk) (shape_of hg) h0 (frozen_of_row _ _ _ _ _ hk) (frozen_of_row _ _ _ _ _ hk)]
  rfl

set_option maxRecDepth 100000 in
set_option maxHeartbeats 2000000 in
/-- there is room -/
theorem insert_room (B g c pos : Nat) (cur : Array Value) (L : List Ward.Pt) (p : Ward.Pt) (k : Nat) (w : World) (hBg : B ≤ g) (hg : w.heap[g]? = some (.cells cur 36 (0, 0))) (hcur : cur.toList.take (L.length * 3) = L.flatMap P3) (hcs : cur.size = c * 3) (hc : L.length + 1 ≤ c) (hcm : c ≤ maxLen)
    (hk : w.heap[k]? = some (.cells (P3 p).toArray 36 (0, 0))) (hne : k ≠ g) (hl : L.length ≤ 1000) (hpos : pos < L.length) :
    Calls Tryz.prog 36 #[.slice (some ⟨g, 0, none⟩) L.length c, I pos, .slice (some ⟨k, 0, none⟩) 1 1] w fun e w' => ∃ v', e = .returned v' ∧ Own w' B v' (putIn L pos p) ∧ w.grownBy w' (some g) ∧ Fresh w (.slice (some ⟨g, 0, none⟩) 0 0) v' := by
  have hov := fun o n c => overlaps_not w g k n c o cur p hk hg hne (by omega)
  unfold maxLen at hcm
  have hz2 : ¬ ((pos : Int) = (L.length : Int)) := by omega
  have hz3 : ¬ ((c : Int) < (L.length : Int) + 1) := by omega
  have H1 := hide hg
  have H2 := hide hk
  have H3 := hide hcur
  clear hg hk hcur
  go_enter Tryz.func36, Tryz.ntmps36
  go_wp2_with (simp only [hov])
  have hw1 : IntKind.i64.wrap ((pos : Int) + 1) = (pos : Int) + 1 := by rw [IntKind.wrap_i64]; omega
  have hb1 : (0 : Int) ≤ (pos : Int) + 1 := by omega
  have htn : ((pos : Int) + 1).toNat = pos + 1 := by omega
  have hb2 : ¬ (c = pos + 1) := by omega
  have hb3 : (pos : Int) + 1 ≤ (L.length : Int) + 1 := by omega
  have hb4 : ¬ (c = pos) := by omega
  have hb5 : (pos : Int) ≤ (L.length : Int) + 1 := by omega
  have hcl : ((L.drop pos).flatMap P3).length = (L.length - pos) * 3 := by rw [cells_len, List.length_drop]
  have hsl : ((cur.toList.drop (pos * 3)).take ((L.length - pos) * 3)) = (L.drop pos).flatMap P3 := by
    rw [← cells_drop, ← H3.out, List.drop_take, show L.length * 3 - pos * 3 = (L.length - pos) * 3 by omega]
  have hcp1 : ∀ ty dc sc, (Builtin.copy_ #[27, 27] ty #[.slice (some ⟨g, (pos + 1) * 3, none⟩) (L.length - pos) dc, .slice (some ⟨g, pos * 3, none⟩) (L.length + 1 - pos) sc]).run Tryz.prog w.drew = .ok (goInt ((L.length - pos : Nat) : Int)) (w.drew.setRow g (over cur.toList ((pos + 1) * 3) ((L.drop pos).flatMap P3)).toArray) := fun ty dc sc =>
    run_copy_rowK w.drew _ _ ty 36 3 g ((pos + 1) * 3) (L.length - pos) dc ⟨g, pos * 3, none⟩ (L.length + 1 - pos) sc (L.length - pos) cur 36 ((L.drop pos).flatMap P3) Tryz.underlying27 Tryz.sizePt H1.out (by simp only [Nat.min_def]; split <;> omega) hcl (by rw [← hsl]; exact row_src (w := w.drew) H1.out) (by rw [hcl]; omega) cells_one
  go_region_law (refine step_copy_runI rfl _ _ 27 27 rfl _ _ (by simp [Act.eval, Act.put]) (by simp [Act.eval, Act.put]) (hcp1 _ _ _) ?_)
  generalize hW : World.setRow w.drew g _ = W1
  have hg1 : W1.heap[g]? = some (.cells (over cur.toList ((pos + 1) * 3) ((L.drop pos).flatMap P3)).toArray 36 (0, 0)) := by rw [← hW]; exact setRow_heap w.drew g cur _ _ _ H1.out
  have hgr : w.grownBy W1 (some g) := by rw [← hW]; exact ⟨rfl, rfl, rfl, by simp [World.setRow], fun j _ hj => setRow_other w.drew g j _ (fun e => hj (by rw [e]))⟩
  have hk1 : W1.heap[k]? = some (.cells (P3 p).toArray 36 (0, 0)) := (hgr.block k (Array.getElem?_eq_some_iff.1 H2.out).1 (fun e => hne (by injection e))).trans H2.out
  have G1 := hide hg1
  have GR := hide hgr
  have K1 := hide hk1
  have hol := over_len (R := cur.toList) (cs := (L.drop pos).flatMap P3) (o := (pos + 1) * 3) (by rw [hcl]; simp; omega)
  clear hcp1 hW hg1 hgr hk1 hov
  generalize hR : over cur.toList ((pos + 1) * 3) ((L.drop pos).flatMap P3) = R1 at *
  have HR := hide hR
  clear hR
  have hcp2 : ∀ ty dc, (Builtin.copy_ #[27, 27] ty #[.slice (some ⟨g, pos * 3, none⟩) (L.length + 1 - pos) dc, .slice (some ⟨k, 0, none⟩) 1 1]).run Tryz.prog W1 = .ok (goInt ((1 : Nat) : Int)) (W1.setRow g (over R1.toArray.toList (pos * 3) (P3 p)).toArray) := fun ty dc =>
    run_copy_rowK W1 _ 27 ty 36 3 g (pos * 3) (L.length + 1 - pos) dc ⟨k, 0, none⟩ 1 1 1 R1.toArray 36 (P3 p) Tryz.underlying27 Tryz.sizePt G1.out (by simp only [Nat.min_def]; split <;> omega) rfl (row_src (o := 0) (n := 3) K1.out) (by rw [P3_len]; simp at hol ⊢; omega) (fun u hu => cells_one (L := [p]) u (by simpa using hu))
  go_wp2_with (at_builtin; refine wpList_copy_runI _ rfl _ _ 27 27 rfl _ _ rfl rfl (hcp2 _ _) ?_)
  go_ret
  refine ⟨.slice (some ⟨g, 0, none⟩) (L.length + 1) c, rfl, ⟨by rw [putIn_len _ _ _ (by omega), cells_len, putIn_len _ _ _ (by omega)], .inr ⟨g, c, _, by rw [putIn_len _ _ _ (by omega)], hBg, setRow_heap _ g _ _ _ _ G1.out, by rw [putIn_len _ _ _ (by omega)]; exact hc, by unfold maxLen; exact hcm, ?_, ?_⟩⟩, ?_, .inl rfl⟩
  · have := over_len (R := R1) (cs := P3 p) (o := pos * 3) (by rw [P3_len]; simp at hol; omega)
    simp at this hol ⊢
    omega
  · have hb := over_back (R := cur.toList) (a := P3 p) (b := (L.drop pos).flatMap P3) (o := pos * 3) (by rw [P3_len, hcl]; simp; omega)
    rw [P3_len, hcl, show pos * 3 + 3 = (pos + 1) * 3 by omega, HR.out] at hb
    rw [putIn_len _ _ _ (by omega), putIn_cells, ← cells_take, ← H3.out, List.take_take, Nat.min_eq_left (by omega), show (L.length + 1) * 3 = (pos + 1) * 3 + (L.length - pos) * 3 by omega]
    simpa using hb
  · have g0 := GR.out
    exact ⟨g0.os, g0.tape, g0.output, by simpa using g0.size, fun j hj hne => (setRow_other W1 g j _ (fun e => hne (by rw [e]))).trans (g0.block j hj hne)⟩

set_option maxRecDepth 100000 in
set_option maxHeartbeats 2000000 in
/-- there is no room -/
theorem insert_grow (B g pos : Nat) (cur : Array Value) (L : List Ward.Pt) (p : Ward.Pt) (k : Nat) (w : World) (hg : w.heap[g]? = some (.cells cur 36 (0, 0))) (hcur : cur.toList.take (L.length * 3) = L.flatMap P3) (hB : B ≤ w.heap.size)
    (hk : w.heap[k]? = some (.cells (P3 p).toArray 36 (0, 0))) (hl : L.length ≤ 1000) (hpos : pos < L.length) :
    Calls Tryz.prog 36 #[.slice (some ⟨g, 0, none⟩) L.length L.length, I pos, .slice (some ⟨k, 0, none⟩) 1 1] w fun e w' => ∃ v', e = .returned v' ∧ Own w' B v' (putIn L pos p) ∧ w.grownBy w' (some g) ∧ Fresh w (.slice (some ⟨g, 0, none⟩) 0 0) v' := by
  obtain ⟨i0, hi, hz0, hz1, hz2⟩ := info_parts Tryz.infoPt
  have hz4 : ¬ ((pos : Int) = (L.length : Int)) := by omega
  have hz3 : (L.length : Int) < (L.length : Int) + 1 := by omega
  have hcl : ((L.drop pos).flatMap P3).length = (L.length - pos) * 3 := by rw [cells_len, List.length_drop]
  have htl : ((L.take pos).flatMap P3).length = pos * 3 := by rw [cells_len, List.length_take, Nat.min_eq_left (by omega)]
  have hst : (cur.toList.drop 0).take (pos * 3) = (L.take pos).flatMap P3 := by
    rw [List.drop_zero, ← cells_take, ← hcur, List.take_take, Nat.min_eq_left (by omega)]
  have hsl : ((cur.toList.drop (pos * 3)).take ((L.length - pos) * 3)) = (L.drop pos).flatMap P3 := by
    rw [← cells_drop, ← hcur, List.drop_take, show L.length * 3 - pos * 3 = (L.length - pos) * 3 by omega]
  have hold : (Builtin.firstCells i0.size pos (.slice (some ⟨g, 0, none⟩) pos L.length)).run Tryz.prog w.drew = .ok ((L.take pos).flatMap P3).toArray w.drew := by
    rw [hz1]
    exact run_firstCells_some w.drew 3 pos ⟨g, 0, none⟩ pos L.length _ htl (by rw [← hst]; exact row_src (w := w.drew) hg)
  have hrz : ∀ ty, (Builtin.append_ #[27, 3] ty #[.slice (some ⟨g, 0, none⟩) pos L.length, .int .i64 ((L.length + 1 - pos : Nat) : Int)]).run Tryz.prog w =
      .ok (.slice (some ⟨w.heap.size, 0, none⟩) (L.length + 1) (grownCap w (L.length + 1) L.length 36)) (w.drew.alloc (.cells (((L.take pos).flatMap P3).toArray ++ Builtin.zeroCells (.agg #[I 0, I 0, I 0] : Value).cells (L.length + 1 - pos) ++ Builtin.zeroCells (.agg #[I 0, I 0, I 0] : Value).cells (grownCap w (L.length + 1) L.length 36 - (L.length + 1))) 36)) := fun ty => by
    have h := Lib.run_append_grow_zeros w 27 3 ty 36 i0 _ .i64 .i64 Tryz.underlying27 Tryz.underlying3 hi hz0 (some ⟨g, 0, none⟩) pos L.length ((L.take pos).flatMap P3) hold (L.length + 1 - pos) (by omega) (by omega) (by omega) (by omega) (by rw [hz2]; omega) (by rw [hz2, show pos + (L.length + 1 - pos) = L.length + 1 by omega]; exact growslice_fits (by omega) (by omega))
    rw [show pos + (L.length + 1 - pos) = L.length + 1 by omega] at h
    exact h
  have hG1 := grownCap_ge w (L.length + 1) L.length 36
  have hG2 := grownCap_le_maxLen w (L.length + 1) L.length 36 (by unfold maxLen; omega)
  unfold maxLen at hG2
  generalize grownCap w (L.length + 1) L.length 36 = G at *
  have hRs : (((L.take pos).flatMap P3).toArray ++ Builtin.zeroCells (.agg #[I 0, I 0, I 0] : Value).cells (L.length + 1 - pos) ++ Builtin.zeroCells (.agg #[I 0, I 0, I 0] : Value).cells (G - (L.length + 1))).size = G * 3 := by
    simp only [Array.size_append, size_zeroCells, List.size_toArray, htl]
    simp [Value.cells]
    omega
  have hRt : (((L.take pos).flatMap P3).toArray ++ Builtin.zeroCells (.agg #[I 0, I 0, I 0] : Value).cells (L.length + 1 - pos) ++ Builtin.zeroCells (.agg #[I 0, I 0, I 0] : Value).cells (G - (L.length + 1))).toList.take (pos * 3) = (L.take pos).flatMap P3 := by
    rw [Array.toList_append, Array.toList_append, List.append_assoc, List.take_append_of_le_length (by rw [List.toList_toArray, htl]; exact Nat.le_refl _), List.toList_toArray, List.take_of_length_le (by rw [htl]; exact Nat.le_refl _)]
  generalize ((L.take pos).flatMap P3).toArray ++ Builtin.zeroCells (.agg #[I 0, I 0, I 0] : Value).cells (L.length + 1 - pos) ++ Builtin.zeroCells (.agg #[I 0, I 0, I 0] : Value).cells (G - (L.length + 1)) = R0 at *
  have hw1 : IntKind.i64.wrap ((pos : Int) + 1) = (pos : Int) + 1 := by rw [IntKind.wrap_i64]; omega
  have hcast : (L.length : Int) + 1 - (pos : Int) = ((L.length + 1 - pos : Nat) : Int) := by omega
  have HCS := hide hcast
  have H1 := hide hg
  have H2 := hide hk
  have HT := hide hRt
  have HST := hide hst
  have HSL := hide hsl
  have HRZ := hide hrz
  have hkl : k < w.heap.size := (Array.getElem?_eq_some_iff.1 hk).1
  have hgl : g < w.heap.size := (Array.getElem?_eq_some_iff.1 hg).1
  have hcpA : ∀ ty dc, (Builtin.copy_ #[27, 27] ty #[.slice (some ⟨w.heap.size, pos * 3, none⟩) (L.length + 1 - pos) dc, .slice (some ⟨k, 0, none⟩) 1 1]).run Tryz.prog (w.alloc (.cells R0 36)).drew = .ok (goInt ((1 : Nat) : Int)) ((w.alloc (.cells R0 36)).drew.setRow w.heap.size (over R0.toList (pos * 3) (P3 p)).toArray) := fun ty dc =>
    run_copy_rowK (w.alloc (.cells R0 36)).drew _ 27 ty 36 3 w.heap.size (pos * 3) (L.length + 1 - pos) dc ⟨k, 0, none⟩ 1 1 1 R0 36 (P3 p) Tryz.underlying27 Tryz.sizePt (heap_alloc_new w _) (by simp only [Nat.min_def]; split <;> omega) rfl (row_src (w := (w.alloc (.cells R0 36)).drew) (o := 0) (n := 3) ((Below.heap_alloc w _ k hkl).trans hk)) (by rw [P3_len]; omega) (fun u hu => cells_one (L := [p]) u (by simpa using hu))
  have HCA := hide hcpA
  have hb1 : (0 : Int) ≤ (pos : Int) + 1 := by omega
  have htn : ((pos : Int) + 1).toNat = pos + 1 := by omega
  have hb0 : ¬ (G = pos) := by omega
  have hb2 : ¬ (G = pos + 1) := by omega
  have hb3 : (pos : Int) + 1 ≤ (L.length : Int) + 1 := by omega
  have hb4 : ¬ (L.length = pos) := by omega
  have hb5 : (pos : Int) ≤ (L.length : Int) := by omega
  clear hg hk hcur hRt hst hsl hrz hold hcast hcpA
  go_enter Tryz.func36, Tryz.ntmps36
  go_wp2_with (first | (at_builtin; refine Lib.wpList_append_run _ rfl (.tmp 34) (.tmp 39) 27 3 rfl _ _ rfl rfl _ _ (by first | exact HRZ.out _ | (simp only [Act.eval, HCS.out]; exact HRZ.out _)) ?_) | (simp only [HCA.out]))
  generalize hW : World.setRow _ _ _ = W1
  have hg1 : W1.heap[w.heap.size]? = some (.cells (over R0.toList (pos * 3) (P3 p)).toArray 36 (0, 0)) := by rw [← hW]; exact setRow_heap _ w.heap.size R0 _ _ _ (heap_alloc_new w _)
  have hgr : Below w.heap.size w W1 := by rw [← hW]; exact below_setRow (((Below.refl w.heap.size w).alloc (Nat.le_refl _) _).drew) (Nat.le_refl _) _
  have hgg : W1.heap[g]? = some (.cells cur 36 (0, 0)) := (hgr.block g hgl).trans H1.out
  have hol := over_len (R := R0.toList) (cs := P3 p) (o := pos * 3) (by rw [P3_len]; simp; omega)
  have hcpB : ∀ ty dc sc, (Builtin.copy_ #[27, 27] ty #[.slice (some ⟨w.heap.size, (pos + 1) * 3, none⟩) (L.length - pos) dc, .slice (some ⟨g, pos * 3, none⟩) (L.length - pos) sc]).run Tryz.prog W1.drew = .ok (goInt ((L.length - pos : Nat) : Int)) (W1.drew.setRow w.heap.size (over (over R0.toList (pos * 3) (P3 p)).toArray.toList ((pos + 1) * 3) ((L.drop pos).flatMap P3)).toArray) := fun ty dc sc =>
    run_copy_rowK W1.drew _ _ ty 36 3 w.heap.size ((pos + 1) * 3) (L.length - pos) dc ⟨g, pos * 3, none⟩ (L.length - pos) sc (L.length - pos) _ 36 ((L.drop pos).flatMap P3) Tryz.underlying27 Tryz.sizePt hg1 (by simp only [Nat.min_def]; split <;> omega) hcl (by rw [← HSL.out]; exact row_src (w := W1.drew) hgg) (by rw [hcl]; simp at hol ⊢; omega) cells_one
  have G1 := hide hg1
  have GR := hide hgr
  clear hW hg1 hgr hgg HCA HRZ HCS
  go_wp2_with fail
  go_region_law (refine step_copy_runI rfl _ _ 27 27 rfl _ _ (by simp [Act.eval, Act.put]) (by simp [Act.eval, Act.put]) (hcpB _ _ _) ?_)
  have hG2' : G ≤ maxLen := by unfold maxLen; exact hG2
  clear hcpB
  go_wp2
  go_ret
  refine ⟨.slice (some ⟨w.heap.size, 0, none⟩) (L.length + 1) G, rfl, ⟨by rw [putIn_len _ _ _ (by omega), cells_len, putIn_len _ _ _ (by omega)], .inr ⟨w.heap.size, G, _, by rw [putIn_len _ _ _ (by omega)], hB, setRow_heap _ w.heap.size _ _ _ _ G1.out, by rw [putIn_len _ _ _ (by omega)]; exact hG1, hG2', ?_, ?_⟩⟩, ?_, .inr ⟨_, rfl, Nat.le_refl _⟩⟩
  · have := over_len (R := over R0.toList (pos * 3) (P3 p)) (cs := (L.drop pos).flatMap P3) (o := (pos + 1) * 3) (by rw [hcl]; simp at hol; omega)
    simp at this hol ⊢
    omega
  · have hb := over_two (R := R0.toList) (a := P3 p) (b := (L.drop pos).flatMap P3) (o := pos * 3) (by rw [P3_len, hcl]; simp; omega)
    rw [P3_len, hcl, show pos * 3 + 3 = (pos + 1) * 3 by omega, HT.out] at hb
    rw [putIn_len _ _ _ (by omega), putIn_cells, show (L.length + 1) * 3 = (pos + 1) * 3 + (L.length - pos) * 3 by omega]
    simpa using hb
  · have g0 := below_setRow GR.out.drew (Nat.le_refl _) (over (over R0.toList (pos * 3) (P3 p)).toArray.toList ((pos + 1) * 3) ((L.drop pos).flatMap P3)).toArray
    exact ⟨g0.os, g0.tape, g0.output, g0.size, fun j hj _ => g0.block j hj⟩

theorem insert_any (B pos : Nat) (v : Value) (L : List Ward.Pt) (p : Ward.Pt) (k : Nat) (w : World) (hown : Own w B v L) (hk : w.heap[k]? = some (.cells (P3 p).toArray 36 (0, 0))) (hne : v.ownBlock ≠ some k) (hl : L.length ≤ 1000) (hB : B ≤ w.heap.size) (hpos : pos ≤ L.length) :
    Calls Tryz.prog 36 #[v, I pos, .slice (some ⟨k, 0, none⟩) 1 1] w fun e w' => ∃ v', e = .returned v' ∧ Own w' B v' (putIn L pos p) ∧ w.grownBy w' v.ownBlock ∧ Fresh w v v' := by
  rcases Nat.lt_or_ge pos L.length with hlt | hge
  · rcases hown.2 with ⟨rfl, h0⟩ | ⟨g, c, cur, rfl, hBg, hg, hc, hcm, hcs, htake⟩
    · omega
    · rcases Nat.lt_or_ge L.length c with h | h
      · exact insert_room B g c pos cur L p k w hBg hg htake hcs h hcm hk (fun e => hne (by rw [e]; rfl)) hl hlt
      · have e : c = L.length := by omega
        subst e
        exact insert_grow B g pos cur L p k w hg htake hB hk hl hlt
  · have e : pos = L.length := by omega
    subst e
    exact insert_end B v L p k w hown hk hl hB
end Go.Proofs.YtenaelkbgkpllaaGreatDoor
