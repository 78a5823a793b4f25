/- Part 30 of what the claims on Bound, Small, Right and Sole rest on. -/
import Derived.Test.YtenaelkbgkpllaaGreatDoorKeep28
import Derived.Test.YtenaelkbgkpllaaGreatDoorKeep29
/- A point taken out of a list. -/
namespace Go.Proofs.YtenaelkbgkpllaaGreatDoor
open Go.RowKit

theorem zeroPt (w : World) : (zeroValue 36).run Tryz.prog w = .ok (.agg #[I 0, I 0, I 0]) w := by kernel_rfl
/-- clear, of one point of a row -/
theorem clear_pt (w : World) (g o c : Nat) (cur : Array Value) (ty : TypeId) (hg : w.heap[g]? = some (.cells cur 36 (0, 0))) (hfit : o + 3 ≤ cur.size) :
    (Builtin.clear_ #[27] ty #[.slice (some ⟨g, o, none⟩) 1 c]).run Tryz.prog w = .ok (.tuple #[]) (w.setRow g (cur.toList.take o ++ [I 0, I 0, I 0] ++ cur.toList.drop (o + 3)).toArray) := by
  have hst := run_storeCells_at Tryz.prog g o 36 [I 0, I 0, I 0] 0 cur w hg (by simpa using hfit) (fun v hv => by
    simp only [List.mem_cons, List.not_mem_nil, or_false] at hv
    rcases hv with rfl | rfl | rfl <;> rfl)
  simp only [Nat.add_zero] at hst
  have hzc : (Builtin.zeroCells (Value.agg #[I 0, I 0, I 0]).cells 1).toList = [I 0, I 0, I 0] := by
    simp [Builtin.zeroCells, Value.cells]
    rfl
  have hz := zeroPt
  simp [Builtin.clear_, run_underlying Tryz.underlying27, hz, hzc, hst]
set_option maxRecDepth 100000 in
set_option maxHeartbeats 4000000 in
theorem delete_any (g c pos m : Nat) (cur : Array Value) (L : List Ward.Pt) (w : World) (hg : w.heap[g]? = some (.cells cur 36 (0, 0))) (hcur : cur.toList.take (L.length * 3) = L.flatMap P3) (hcs : cur.size = c * 3) (hL : L.length = pos + m + 1) (hc : pos + m + 1 ≤ c) (hcm : c ≤ maxLen) :
    Calls Tryz.prog 45 #[.slice (some ⟨g, 0, none⟩) (pos + m + 1) c, I pos, I ((pos : Int) + 1)] w fun e w' => e = .returned (.slice (some ⟨g, 0, none⟩) (pos + m) c) ∧ (∃ cur' : Array Value, w'.heap[g]? = some (.cells cur' 36 (0, 0)) ∧ cur'.size = cur.size ∧ cur'.toList.take ((pos + m) * 3) = (L.eraseIdx pos).flatMap P3) ∧ Keeps (fun j => j = g) w w' := by
  unfold maxLen at hcm
  have HG := hide hg
  have HCU := hide hcur
  have HCS := hide hcs
  have HLL := hide hL
  have h1 : (pos : Int) + 1 ≤ (pos : Int) + (m : Int) + 1 := by omega
  have h2 : (pos : Int) + (m : Int) + 1 ≤ (c : Int) := by omega
  have h3 : (0 : Int) ≤ (pos : Int) + 1 := by omega
  have h4 : (pos : Int) ≤ (c : Int) := by omega
  have h5 : (pos : Int) + 1 ≤ (c : Int) := by omega
  clear hg hcur hcs hL
  go_enter Tryz.func45, Tryz.ntmps45
  obtain ⟨R1, hR1⟩ : ∃ R1, (cur.toList.take (pos * 3) ++ (L.drop (pos + 1)).flatMap P3 ++ cur.toList.drop (pos * 3 + m * 3)) = R1 := ⟨_, rfl⟩
  have hap : ∀ (cc : Nat), (Builtin.append_ #[27, 27] 27 #[.slice (some ⟨g, 0, none⟩) pos c, .slice (if c = pos + 1 then some ⟨g, 0, none⟩ else some ⟨g, (pos + 1) * 3, none⟩) m cc]).run Tryz.prog w.drew = .ok (.slice (some ⟨g, 0, none⟩) (pos + m) c) (w.drew.setRow g (cur.toList.take (pos * 3) ++ (L.drop (pos + 1)).flatMap P3 ++ cur.toList.drop (pos * 3 + m * 3)).toArray) := by
    intro cc
    obtain ⟨i0, hi, hz0, hz1, hz2⟩ := info_parts Tryz.infoPt
    have hdl : ((L.drop (pos + 1)).flatMap P3).length = m * 3 := by
      rw [cells_len, List.length_drop, HLL.out]
      congr 1
      omega
    have key : ∀ a : Addr, (∀ j u, ((L.drop (pos + 1)).flatMap P3)[j]? = some u → w.cell? (a.add j) = some u) → (Builtin.append_ #[27, 27] 27 #[.slice (some ⟨g, 0, none⟩) pos c, .slice (some a) m cc]).run Tryz.prog w.drew = .ok (.slice (some ⟨g, 0, none⟩) (pos + m) c) (w.drew.setRow g (cur.toList.take (pos * 3) ++ (L.drop (pos + 1)).flatMap P3 ++ cur.toList.drop (pos * 3 + m * 3)).toArray) := fun a hn => by
      have h := run_append_room (P := Tryz.prog) w.drew 27 27 36 i0 Tryz.underlying27 hi g pos c cur HG.out a m cc ((L.drop (pos + 1)).flatMap P3) (by rw [hz1]; exact hdl) hn (fun u hu => cells_one u hu) (by omega) (by rw [hz1, hdl, HCS.out]; omega)
      rw [hz1, hdl] at h
      exact h
    by_cases hcp : c = pos + 1
    · rw [if_pos hcp]
      refine key _ (fun j u hj => ?_)
      have hm0 : m = 0 := by omega
      rw [List.getElem?_eq_none (by rw [hdl, hm0]; omega)] at hj
      cases hj
    · rw [if_neg hcp]
      refine key _ (fun j u hj => ?_)
      have hjl : j < m * 3 := by rw [← hdl]; exact (List.getElem?_eq_some_iff.1 hj).1
      rw [Addr.add_lit, cell_of_row _ _ _ _ _ _ HG.out, ← Array.getElem?_toList]
      have h0 : (cur.toList.take (L.length * 3))[(pos + 1) * 3 + j]? = (L.flatMap P3)[(pos + 1) * 3 + j]? := by rw [HCU.out]
      rw [List.getElem?_take_of_lt (by rw [HLL.out]; omega)] at h0
      rw [h0]
      have h1 : L.flatMap P3 = (L.take (pos + 1)).flatMap P3 ++ (L.drop (pos + 1)).flatMap P3 := by rw [← List.flatMap_append, List.take_append_drop]
      rw [h1, List.getElem?_append_right (by rw [cells_len, List.length_take, HLL.out]; omega)]
      rw [cells_len, List.length_take, HLL.out, show (pos + 1) * 3 + j - min (pos + 1) (pos + m + 1) * 3 = j by rw [Nat.min_eq_left (by omega)]; omega]
      exact hj
  have hl1 : R1.length = c * 3 := by
    have hdl : ((L.drop (pos + 1)).flatMap P3).length = m * 3 := by
      rw [cells_len, List.length_drop, HLL.out]
      congr 1
      omega
    rw [← hR1, List.length_append, List.length_append, hdl, List.length_take, List.length_drop, Array.length_toList, HCS.out]
    omega
  have ht1 : R1.take ((pos + m) * 3) = (L.eraseIdx pos).flatMap P3 := by
    have hdl : ((L.drop (pos + 1)).flatMap P3).length = m * 3 := by
      rw [cells_len, List.length_drop, HLL.out]
      congr 1
      omega
    have htk : cur.toList.take (pos * 3) = (L.take pos).flatMap P3 := by
      have h0 := congrArg (List.take (pos * 3)) HCU.out
      rw [List.take_take, Nat.min_eq_left (by rw [HLL.out]; omega)] at h0
      rw [h0]
      have h1 : L.flatMap P3 = (L.take pos).flatMap P3 ++ (L.drop pos).flatMap P3 := by rw [← List.flatMap_append, List.take_append_drop]
      rw [h1, List.take_append_of_le_length (by rw [cells_len, List.length_take, HLL.out]; omega), List.take_of_length_le (by rw [cells_len, List.length_take]; omega)]
    rw [← hR1, htk, List.take_append_of_le_length (by rw [List.length_append, hdl, cells_len, List.length_take, HLL.out]; omega), List.take_of_length_le (by rw [List.length_append, hdl, cells_len, List.length_take]; omega), ← List.flatMap_append, List.eraseIdx_eq_take_drop_succ]
  have HT1 := hide ht1
  have HL1 := hide hl1
  have hg1 := setRow_heap w.drew g cur R1.toArray 36 (0, 0) HG.out
  have hk1 : Keeps (fun j => j = g) w (w.drew.setRow g R1.toArray) := ⟨rfl, rfl, rfl, by simp, fun j _ hn => setRow_other w.drew g j _ hn⟩
  rw [hR1] at hap
  generalize World.setRow w.drew g R1.toArray = w1 at *
  have HK1 := hide hk1
  have HG1 := hide hg1
  clear hR1 hl1 ht1 hg1 hk1
  go_upto_region 5 with fail
  go_region_law (refine step_append_run rfl _ _ 27 27 rfl (.slice (some ⟨g, 0, none⟩) pos c) (.slice (if c = pos + 1 then some ⟨g, 0, none⟩ else some ⟨g, (pos + 1) * 3, none⟩) m (c - (pos + 1))) rfl rfl (hap _) ?_)
  clear hap
  generalize (if c = pos + 1 then some (⟨g, 0, none⟩ : Addr) else some ⟨g, (pos + 1) * 3, none⟩) = src
  obtain ⟨R2, hR2⟩ : ∃ R2, (R1.take ((pos + m) * 3) ++ [I 0, I 0, I 0] ++ R1.drop ((pos + m) * 3 + 3)) = R2 := ⟨_, rfl⟩
  have hcl := fun (ty : TypeId) (cc : Nat) => clear_pt w1 g ((pos + m) * 3) cc R1.toArray ty HG1.out (by rw [List.size_toArray, HL1.out]; omega)
  have hl2 : R2.length = c * 3 := by
    rw [← hR2]
    simp only [List.length_append, List.length_take, List.length_drop, List.length_cons, List.length_nil, HL1.out]
    omega
  have ht2 : R2.take ((pos + m) * 3) = (L.eraseIdx pos).flatMap P3 := by
    rw [← hR2, List.append_assoc, List.take_append_of_le_length (by rw [List.length_take, HL1.out]; omega), List.take_take, Nat.min_self]
    exact HT1.out
  simp only [hR2] at hcl
  have HG2 := hide (setRow_heap w1 g R1.toArray R2.toArray 36 (0, 0) HG1.out)
  have HK2 := hide (HK1.out.trans (keeps_setRow w1 g R2.toArray) (fun _ _ h => h))
  have HL2 := hide hl2
  have HT2 := hide ht2
  generalize World.setRow w1 g R2.toArray = w2 at *
  have h6 : ¬ c = pos + m := by omega
  have h7 : (pos : Int) + (m : Int) ≤ (pos : Int) + (m : Int) + 1 := by omega
  clear hR2 hl2 ht2
  go_wp2_with fail
  go_ret
  exact ⟨rfl, ⟨R2.toArray, HG2.out, by rw [List.size_toArray, HL2.out, HCS.out], HT2.out⟩, HK2.out⟩
end Go.Proofs.YtenaelkbgkpllaaGreatDoor
/- A map's Delete. -/
namespace Go.Proofs.YtenaelkbgkpllaaGreatDoor
open Go.RowKit

set_option maxRecDepth 100000 in
set_option maxHeartbeats 4000000 in
theorem mapDelete_any (m : Nat) (v : Value) (L : List Ward.Pt) (id : Int) (w : World) (hm : IsMap w m v L) (hn : L.length ≤ 1000) (hid : ∃ q ∈ L, q.id = id) :
    Calls Tryz.prog 19 #[.pointer (some ⟨m, 0, none⟩), I id] w fun e w' => e = .returned (I 0) ∧ ∃ v' i, ∃ h : i < L.length, L[i].id = id ∧ IsMap w' m v' (L.eraseIdx i) ∧ Fresh w v v' ∧ Keeps (Mine m v) w w' := by
  have HFI := hide (find_any m v L id w hm.cell hm.own.reads hn)
  have HM := hide hm
  have HID := hide hid
  have hmlt := hm.lt
  clear hm hid
  go_enter Tryz.func19, Tryz.ntmps19
  go_wp2_with fail
  refine HFI.out.mono ?_
  rintro _ w1 ⟨r, rfl, hpl, hb1⟩
  rcases hpl with ⟨-, hno⟩ | ⟨i, hi, rfl, hii⟩
  · obtain ⟨q, hq, e⟩ := HID.out
    exact absurd e (hno q hq)
  · have HII := hide hii
    have hM1 := HM.out.below hb1
    have HB1 := hide hb1
    have hs1 := hb1.size
    obtain ⟨m2, hm2⟩ : ∃ m2, L.length = i + m2 + 1 := ⟨L.length - i - 1, by omega⟩
    have HM2 := hide hm2
    obtain ⟨-, ho⟩ := hM1.own
    rcases ho with ⟨-, h0⟩ | ⟨g, c, cur, ev, -, hg, hc, hcm, hcs, htk⟩
    · omega
    · have hap := hM1.apart
      rw [hm2] at ev hc
      subst ev
      have hgm : g ≠ m := fun e => hap (by rw [e]; rfl)
      have hc1 := hM1.cell
      have HCS := hide hcs
      have HD := hide (delete_any g c i m2 cur L w1 hg htk hcs hm2 hc hcm)
      have HMR := hide hM1.row
      have hglt : g < w1.heap.size := (Array.getElem?_eq_some_iff.1 hg).1
      clear hii hb1 hM1 hm2 hap hg htk hcs HFI
      unfold maxLen at hcm
      have hi9 : (i : Int) ≤ 1000 := by omega
      go_wp2_with fail
      refine HD.out.mono ?_
      rintro _ w2 ⟨rfl, ⟨cur', hg2, hs2', ht2⟩, hk2⟩
      have hs2 := hk2.size
      have hmr2 := (hk2.block m (by omega) (fun e => hgm e.symm)).trans HMR.out
      have hc2 : w2.cell? ⟨m, 0, none⟩ = some (.slice (some ⟨g, 0, none⟩) (i + m2 + 1) c) := by rw [cell_of_row _ _ _ _ _ _ hmr2]; rfl
      have hf2 := frozen_node hmr2 0
      have HR3 := hide (heap_setCell_same w2 m 0 _ 79 (.slice (some ⟨g, 0, none⟩) (i + m2) c) hmr2)
      have HG3 := hide ((Below.heap_setCell w2 ⟨m, 0, none⟩ (.slice (some ⟨g, 0, none⟩) (i + m2) c) g (fun e => hgm e)).trans hg2)
      have HK3 := hide (show Keeps (Mine m (.slice (some ⟨g, 0, none⟩) (i + m2 + 1) c)) w (w2.setCell ⟨m, 0, none⟩ (.slice (some ⟨g, 0, none⟩) (i + m2) c)) from ⟨hk2.os.trans HB1.out.os, hk2.tape.trans HB1.out.tape, hk2.output.trans HB1.out.output, by simp; omega, fun j hj hn => (Below.heap_setCell _ _ _ _ (fun e => hn (Or.inl e))).trans ((hk2.block j (by omega) (fun e => hn (Or.inr (by rw [e]; rfl)))).trans (HB1.out.block j hj))⟩)
      have HT := hide ht2
      have HSZ := hide hs2'
      have HCC := hide hc
      clear hk2 hg2 ht2 hmr2 hs2'
      go_wp2_with fail
      go_ret
      have hel : (L.eraseIdx i).length = i + m2 := by rw [List.length_eraseIdx_of_lt hi, HM2.out]; rfl
      refine ⟨rfl, _, i, hi, HII.out, ⟨HR3.out, ⟨cells_len _, Or.inr ⟨g, c, cur', by rw [hel], Nat.zero_le _, HG3.out, by rw [hel]; omega, by unfold maxLen; omega, ?_, by rw [hel]; exact HT.out⟩⟩, fun e => hgm (by injection e)⟩, Or.inl rfl, HK3.out⟩
      rw [HSZ.out, HCS.out]
end Go.Proofs.YtenaelkbgkpllaaGreatDoor
/- Twin maps side by side; right, of no points. -/
namespace Go.Proofs.YtenaelkbgkpllaaGreatDoor
open Go.RowKit

theorem erase_same {N L l : List Ward.Pt} {p : Ward.Pt} {i : Nat} (hN : Good N) (hp : N.Perm (p :: l)) (hL : L.Perm l) (hs : Ward.Sorted L) (hi : i < N.length) (he : N[i].id = p.id) : N.eraseIdx i = L := by
  have hmem : p ∈ N := hp.mem_iff.2 (List.mem_cons_self)
  have hNi : N[i] = p := Ward.ids_eq hN.ids (List.getElem_mem hi) hmem he
  have h1 : (N[i] :: N.eraseIdx i).Perm N := by
    rw [List.eraseIdx_eq_take_drop_succ]
    have h := List.perm_middle (a := N[i]) (l₁ := N.take i) (l₂ := N.drop (i + 1))
    rw [← List.drop_eq_getElem_cons hi, List.take_append_drop] at h
    exact h.symm
  rw [hNi] at h1
  have h2 : (N.eraseIdx i).Perm l := (List.perm_cons p).1 (h1.trans hp)
  exact Ward.sorted_eq (hN.sorted.sublist (List.eraseIdx_sublist N i)) hs (h2.trans hL.symm)
def p999 : Ward.Pt := ⟨999, 1, 1⟩
theorem first_code : insCode [] p999 = 0 := by
  unfold insCode
  rw [if_neg (fun e => e ⟨by decide, by decide⟩), if_neg (fun e => by
    rcases e with e | e
    · exact e ⟨by decide, by decide⟩
    · exact e ⟨by decide, by decide⟩), if_neg (fun ⟨q, hq, _⟩ => by simp at hq), if_neg (by decide)]
theorem first_list : insList [] p999 = [p999] := by
  unfold insList
  rw [if_pos first_code]
  try rfl
theorem back_code {N l : List Ward.Pt} {j : Nat} (hj : j < l.length) (hp : N.Perm (p999 :: l.drop (j + 1))) (hn : Near l) (hi : Ward.Ids l) (hl : l.length ≤ 39) : insCode N l[j] = 0 := by
  have h := hn l[j] (List.getElem_mem hj)
  have hll : N.length = (l.drop (j + 1)).length + 1 := hp.length_eq
  have hno : ¬ ∃ q ∈ N, q.id = l[j].id := by
    rintro ⟨q, hq, e⟩
    rcases List.mem_cons.1 (hp.mem_iff.1 hq) with rfl | hq
    · simp only [p999] at e; omega
    · obtain ⟨i, hi', rfl⟩ := List.mem_iff_getElem.1 hq
      rw [List.getElem_drop] at e
      exact List.pairwise_iff_getElem.1 hi j (j + 1 + i) hj (by rw [List.length_drop] at hi'; omega) (by omega) e.symm
  unfold insCode
  rw [if_neg (by omega), if_neg (by omega), if_neg hno, if_neg (by rw [List.length_drop] at hll; omega)]
theorem back_perm {N l : List Ward.Pt} {j : Nat} (hj : j < l.length) (hp : N.Perm (p999 :: l.drop (j + 1))) (hc : insCode N l[j] = 0) : (insList N l[j]).Perm (p999 :: l.drop j) := by
  unfold insList
  rw [if_pos hc, List.drop_eq_getElem_cons hj]
  exact (Ward.ins_perm _ _).trans ((List.Perm.cons _ hp).trans (List.Perm.swap _ _ _))
/-- a first map with what came with it, and a second one in newer blocks -/
structure Twin (B : Nat) (w0 : World) (X d : Nat) (code : List Int) (k m : Nat) (v : Value) (L : List Ward.Pt) (vl : Value) (l : List Ward.Pt) (n : Nat) (v2 : Value) (N : List Ward.Pt) (W : World) : Prop where
  held : Held B w0 W d code k m v L vl l
  map2 : IsMap W n v2 N
  hn : X ≤ n
  hv : ∀ g, v2.ownBlock = some g → X ≤ g
  lm : m < X
  lv : ∀ g, v.ownBlock = some g → g < X
  ll : ∀ g, vl.ownBlock = some g → g < X
  ld : d < X
  lB : B ≤ X
  l0 : w0.heap.size ≤ X
section
variable {B : Nat} {w0 : World} {X d : Nat} {code : List Int} {k m : Nat} {v : Value} {L : List Ward.Pt} {vl : Value} {l : List Ward.Pt} {n : Nat} {v2 v2' : Value} {N N' : List Ward.Pt} {W W' : World}
theorem Twin.below (h : Twin B w0 X d code k m v L vl l n v2 N W) (hb : Below W.heap.size W W') : Twin B w0 X d code k m v L vl l n v2 N W' := ⟨h.held.below hb, h.map2.below hb, h.hn, h.hv, h.lm, h.lv, h.ll, h.ld, h.lB, h.l0⟩
theorem Twin.step (h : Twin B w0 X d code k m v L vl l n v2 N W) (hX : X ≤ W.heap.size) (hm : IsMap W' n v2' N') (hf : Fresh W v2 v2') (hk : Keeps (Mine n v2) W W') : Twin B w0 X d code k m v L vl l n v2' N' W' := by
  have hS : ∀ j, Mine n v2 j → X ≤ j := fun j hj => by
    rcases hj with rfl | hj
    · exact h.hn
    · exact h.hv j hj.symm
  have hd := h.held
  refine ⟨⟨hd.map.keeps hk (fun j hj e => ?_), hd.good, hd.list.keeps hk (fun g hg e => ?_), hd.dice.keeps hk (fun j hj e => ?_), hd.newm, hd.newv, hd.apart, hd.keeps.trans hk (fun j hj e => ?_)⟩, hm, h.hn, fun g hg => ?_, h.lm, h.lv, h.ll, h.ld, h.lB, h.l0⟩
  · have := hS j e
    rcases hj with rfl | hj
    · have := h.lm; omega
    · have := h.lv j hj.symm; omega
  · have := hS g e; have := h.ll g hg; omega
  · have := hS j e; have := h.lB; omega
  · have := hS j e; have := h.l0; omega
  · rcases hf with hf | ⟨g', hf, hg'⟩
    · rw [hf] at hg; exact h.hv g hg
    · rw [hf] at hg
      injection hg with hg
      omega
theorem Twin.next {k' : Nat} (h : Twin B w0 X d code k m v L vl l n v2 N W) (hd : d < w0.heap.size) (hD : Dice W' B d code k') (hk : Keeps (fun j => j = d) W W') : Twin B w0 X d code k' m v L vl l n v2 N W' :=
  ⟨h.held.next hd hD hk, h.map2.keeps hk (fun j hj e => by
    have := h.ld
    rcases hj with rfl | hj
    · have := h.hn; omega
    · have := h.hv j hj.symm; omega), h.hn, h.hv, h.lm, h.lv, h.ll, h.ld, h.lB, h.l0⟩
end
set_option maxRecDepth 100000 in
set_option maxHeartbeats 4000000 in
theorem right_none (a1 a2 : Option Addr) (c1 c2 : Nat) (qa qb qc qd qx qy qk : Int) (w : World) (hq : 0 ≤ qk) :
    Calls Tryz.prog 23 #[.slice a1 0 c1, .slice a2 0 c2, Qv ⟨1, qa, qb, qc, qd, qx, qy, qk⟩] w fun e w' => e = .returned (.bool true) ∧ Below w.heap.size w w' := by
  have hb1' := fun o => (Below.refl w.heap.size w).alloc (Nat.le_refl _) o
  have hr1' := heap_alloc_new w
  go_enter Tryz.func23, Tryz.ntmps23
  go_upto_region 1 with fail
  generalize hW : World.alloc w _ = w1
  have hb1 : Below w.heap.size w w1 := by rw [← hW]; exact hb1' _
  have hr1 : w1.heap[w.heap.size]? = some (.cells #[I 1, I qa, I qb, I qc, I qd, I qx, I qy, I qk] 46 (0, 0)) := by rw [← hW]; exact hr1' _
  clear hb1' hr1' hW
  obtain ⟨k0, k1, k2, k3, k4, k5, k6, k7⟩ := rowQ8 hr1
  have HB1 := hide hb1
  clear hb1 hr1
  go_wp2_with fail
  go_loopg [7, 8, 9, 10, 11] 0 (fun _ v7 _ _ _ _ wq => v7 = I 0 ∧ wq = w1)
  case atStart => exact ⟨rfl, rfl⟩
  case round =>
    obtain ⟨rfl, rfl⟩ := hrel
    go_wp2_with fail
    go_loopg [12, 13, 14, 15, 16, 17, 18] 0 (fun _ v12 v13 _ _ _ _ _ wq => v12 = I 0 ∧ v13 = I 0 ∧ wq = wr)
    case atStart => exact ⟨rfl, rfl, rfl⟩
    case round =>
      obtain ⟨rfl, rfl, rfl⟩ := hrel
      go_wp2_with fail
      go_ret
      exact ⟨rfl, HB1.out⟩
/-- right, whatever the query -/
theorem right_any {q : Ward.Qr} (va vl : Value) (A l : List Ward.Pt) (w : World) (ha : Reads w va A) (hl : Reads w vl l) (hR : Ward.RightIs q A l) (hq : SmallQ q) (hok : ∀ p ∈ l, p.Ok) (hn1 : A.length ≤ 1000) (hn2 : l.length ≤ 1000) :
    Calls Tryz.prog 23 #[va, vl, Qv q] w fun e w' => e = .returned (.bool true) ∧ Below w.heap.size w w' := by
  obtain ⟨qk, qa, qb, qc, qd, qx, qy, qn⟩ := q
  rcases kind_two hq.1 with h | h
  · simp only at h
    subst h
    exact right_window va vl A l qa qb qc qd qx qy qn w ha hl hR hn1 hn2
  · simp only at h
    subst h
    obtain ⟨hx, hy, h1, h2⟩ := near_bounds rfl hq.1
    by_cases hA : A.length = 0
    · have hl0 : l.length = 0 := by
        have := (hR.near rfl).2.2
        simp only at this h1
        omega
      obtain ⟨a1, c1, e1, -⟩ := ha
      obtain ⟨a2, c2, e2, -⟩ := hl
      rw [hA] at e1
      rw [hl0] at e2
      subst e1 e2
      exact right_none a1 a2 c1 c2 qa qb qc qd qx qy qn w (by simp only at h1; omega)
    · exact right_near va vl A l qa qb qc qd qx qy qn w ha hl hR hok hx hy (by omega) hn1 hn2
end Go.Proofs.YtenaelkbgkpllaaGreatDoor
/- The law Right: the walk. -/
namespace Go.Proofs.YtenaelkbgkpllaaGreatDoor
open Go.RowKit

theorem commit_count {L l : List Ward.Pt} (h : L.Perm l) : (commitV L).toArray[32]? = some (I l.length) := by
  rw [List.getElem?_toArray]
  unfold commitV rootV
  rw [List.getElem?_append_right (by rw [List.length_map]; exact Nat.le_refl 32), List.length_map, h.length_eq]
  rfl
theorem held_kt {B : Nat} {w w0 W : World} {d : Nat} {code : List Int} {k m : Nat} {v : Value} {L : List Ward.Pt} {vl : Value} {l : List Ward.Pt} (hK : KT w) (hb : Below w.heap.size w w0) (hd : w.heap.size ≤ d) (h : Held B w0 W d code k m v L vl l) : Below w.heap.size w W ∧ KT W := by
  have h2 := keeps_new hb h.keeps (fun j e => by omega)
  exact ⟨h2, hK.below h2⟩
theorem near_ok {l : List Ward.Pt} (h : Near l) : ∀ p ∈ l, p.Ok := fun p hp => by
  have := h p hp
  constructor <;> omega
attribute [local go_sem ↓] Go.wp_at_zero Go.wp_at_succ wp_load_com
set_option maxRecDepth 100000 in
set_option maxHeartbeats 20000000 in
theorem right_law (a1 : Option Addr) (c1 : Nat) (code : List Int) (w : World) (h1 : Arg w a1 code) (hK : KT w) :
    Calls Tryz.prog 8 #[.slice a1 code.length c1] w fun e w' => e = .returned (.bool true) ∧ Below w.heap.size w w' := by
  have H1 := hide h1
  have HK := hide hK
  obtain ⟨fsc, huc⟩ := underCom
  have HUC := hide huc
  clear h1 hK huc
  go_enter Tryz.func8, Tryz.ntmps8
  go_wp2_with fail
  have hd1 := dice_new (w := w) (c := c1) H1.out.len H1.out.fits H1.out.lies
  refine (began_any (w.heap.size + 1) w.heap.size code 0 _ (by simp) hd1 (HK.out.below ((Below.refl _ _).alloc (Nat.le_refl _) _))).mono ?_
  rintro e w1 ⟨k1, m, v, L, vl, l, rfl, hH1, hp1, hn1, hl1⟩
  have hb0 := (Below.refl w.heap.size w).alloc (Nat.le_refl _) (.cells #[.slice a1 code.length c1, I 0] 32)
  have hs0 : w.heap.size < (w.alloc (.cells #[.slice a1 code.length c1, I 0] 32)).heap.size := by simp
  generalize World.alloc w (.cells #[.slice a1 code.length c1, I 0] 32) = w0 at *
  have HH1 := hide hH1
  have HB0 := hide hb0
  have HPM := hide hp1
  have HNR := hide hn1
  have HGL := hide hH1.good
  have HIL := hide ((Ward.ids_perm hp1).1 hH1.good.ids)
  have HKH := hide (fun W k => held_kt (k := k) (W := W) (B := w.heap.size + 1) (code := code) (m := m) (v := v) (L := L) (vl := vl) (l := l) HK.out hb0 (Nat.le_refl w.heap.size))
  have HCN := hide (commit_count hp1)
  have HCM := hide (com_of L)
  have HEQ := hide (eqCom L L)
  have HCO := hide (fun (n : Nat) (v : Value) (W : World) (hm : IsMap W n v L) (hk : KT W) => commitment_any n v L W hm HGL.out hk)
  have HVA := hide (fun (q : Ward.Qr) (s : List UInt8) (W : World) (hk : KT W) => show Calls Tryz.prog 22 #[.agg (commitV L).toArray, Qv q, Sv s] W (Verified W (Sha.sha (Ward.rootText Sha.sha L)) (L.length : Nat) q s) from verify_any _ _ q s W (sha_len _) hk)
  obtain ⟨al, cl, el, -⟩ := hH1.list.reads
  subst el
  have hls : l.length ≤ 39 := hl1
  have hkt1 := (HKH.out w1 k1 hH1).2
  have HKT1 := hide hkt1
  have hm1 := hH1.map
  clear hd1 hH1 hp1 hn1 hl1 hb0
  generalize commitV L = C at *
  go_wp2_with fail
  refine (HCO.out m v w1 hm1 HKT1.out).mono ?_
  rintro _ w2 ⟨rfl, hb2⟩
  have HH2 := hide (HH1.out.below hb2)
  have hs2 := hb2.size
  clear hb2 hm1 hkt1
  have hb3' := fun o => (Below.refl w2.heap.size w2).alloc (Nat.le_refl _) o
  have hr3' := heap_alloc_new w2
  go_upto_region 6 with (refine wpList_store_row rfl 41 (.tmp 6) (.tmp 36) rfl w2.heap.size C.toArray rfl rfl 41 _ (heap_alloc_new w2 _) HCM.out.info (by rw [HCM.out.size]; rfl) HCM.out.one ?_; rw [World.setRow_alloc_new])
  generalize hW : World.alloc w2 _ = w3
  have hb3 : Below w2.heap.size w2 w3 := by rw [← hW]; exact hb3' _
  have hr3 : w3.heap[w2.heap.size]? = some (.cells C.toArray 41 (0, 0)) := by rw [← hW]; exact hr3' _
  clear hb3' hr3' hW
  have hs3 : w2.heap.size < w3.heap.size := (Array.getElem?_eq_some_iff.1 hr3).1
  have HH3 := hide (HH2.out.below hb3)
  have HR3 := hide hr3
  clear hb3 hr3
  go_wp2_with fail
  refine (new_any w3).mono ?_
  rintro _ w4 ⟨rfl, hm4, hz4, hb4⟩
  have hs4 : w3.heap.size < w4.heap.size := by omega
  have hw0 : w0.heap.size ≤ w3.heap.size := HH3.out.keeps.size
  have HT4 := hide (show Twin (w.heap.size + 1) w0 w3.heap.size w.heap.size code k1 m v L (.slice al l.length cl) l w3.heap.size (.slice none 0 0) [] w4 from ⟨HH3.out.below hb4, hm4, Nat.le_refl _, fun g hg => by simp [Value.ownBlock] at hg, HH3.out.map.lt, fun g hg => HH3.out.map.own.lt hg, fun g hg => HH3.out.list.lt hg, HH3.out.dice.lt, by omega, hw0⟩)
  have HR4 := hide ((hb4.block w2.heap.size hs3).trans HR3.out)
  have c32 : w4.cell? ⟨w2.heap.size, 32, none⟩ = some (I l.length) := by rw [cell_of_row _ _ _ _ _ _ HR4.out]; exact HCN.out
  have HIN := hide (mapInsert_any w3.heap.size (.slice none 0 0) [] p999 w4 hm4 good_nil)
  rw [first_code, first_list] at HIN
  clear hm4 hz4 hb4
  go_wp2_with fail
  refine HIN.out.mono ?_
  rintro _ w5 ⟨rfl, v5, hm5, hf5, hk5⟩
  have hs5 := hk5.size
  have HT5 := hide (HT4.out.step (by omega) hm5 hf5 hk5)
  have HR5 := hide ((hk5.block w2.heap.size (by omega) (fun e => by
    rcases e with e | e
    · omega
    · simp [Value.ownBlock] at e)).trans HR4.out)
  have HG5 := hide (show Good [p999] by have := good_nil.insert p999; rw [first_list] at this; exact this)
  clear hm5 hf5 hk5 HIN c32
  go_wp2_with fail
  go_loopg [9, 10] l.length (fun gk v9 _ wq => ∃ (j : Nat) (v2 : Value) (N : List Ward.Pt), gk = j ∧ v9 = I ((j : Int) - 1) ∧ j ≤ l.length ∧ N.Perm (p999 :: l.drop j) ∧ Good N ∧ Twin (w.heap.size + 1) w0 w3.heap.size w.heap.size code k1 m v L (.slice al l.length cl) l w3.heap.size v2 N wq ∧ w3.heap.size ≤ wq.heap.size ∧ wq.heap[w2.heap.size]? = some (.cells C.toArray 41 (0, 0)))
  case atStart => exact ⟨l.length, v5, [p999], rfl, rfl, Nat.le_refl _, by rw [List.drop_length], HG5.out, HT5.out, by omega, HR5.out⟩
  case round =>
    clear HT4 HT5 HR4 HR5 HG5 HH1 HH2 HH3
    obtain ⟨j, v2, N, rfl, rfl, hj, hpm, hgd, htw, hsz, hrow⟩ := hrel
    have HPN := hide hpm
    have HGN := hide hgd
    have HTW := hide htw
    have HRW := hide hrow
    clear hpm hgd htw hrow
    cases gk with
    | succ j =>
      have ej : (((j + 1 : Nat) : Int) - 1) = (j : Int) := by omega
      rw [ej]
      have hjl : j < l.length := by omega
      obtain ⟨g, o, eg, hpt⟩ := HTW.out.held.list.reads.point.2 j hjl
      subst eg
      have hp0 := hpt wr (Below.refl _ _)
      have hc := back_code hjl HPN.out HNR.out HIL.out hls
      have HPN2 := hide (back_perm hjl HPN.out hc)
      have HGN2 := hide (HGN.out.insert l[j])
      have HIN := hide (mapInsert_any w3.heap.size v2 N l[j] wr HTW.out.map2 HGN.out)
      rw [hc] at HIN
      generalize insList N l[j] = N2 at *
      generalize l[j] = p at *
      obtain ⟨p1, p2, p3⟩ := hp0
      clear hpt hc ej
      go_wp2_with fail
      refine HIN.out.mono ?_
      rintro _ w6 ⟨rfl, v6, hm6, hf6, hk6⟩
      have hs6 := hk6.size
      have HT6 := hide (HTW.out.step hsz hm6 hf6 hk6)
      have HR6 := hide ((hk6.block w2.heap.size (by omega) (fun e => by
        rcases e with e | e
        · omega
        · have := HTW.out.hv _ e.symm; omega)).trans HRW.out)
      clear hm6 hf6 hk6 HIN p1 p2 p3
      go_wp2_with fail
      go_roundg j
      case measure => omega
      case rel => exact ⟨j, v6, N2, rfl, rfl, by omega, HPN2.out, HGN2.out, HT6.out, by omega, HR6.out⟩
    | zero =>
      have e0 : (((0 : Nat) : Int) - 1) = -1 := by decide
      rw [e0]
      clear e0
      rw [List.drop_zero] at HPN
      have HDL := hide (mapDelete_any w3.heap.size v2 N 999 wr HTW.out.map2 (by have := HGN.out.many; omega) ⟨p999, HPN.out.mem_iff.2 List.mem_cons_self, rfl⟩)
      go_wp2_with fail
      refine HDL.out.mono ?_
      rintro _ w6 ⟨rfl, v6, i, hi, hii, hm6, hf6, hk6⟩
      have hNL : N.eraseIdx i = L := erase_same HGN.out HPN.out HPM.out HGL.out.sorted hi hii
      rw [hNL] at hm6
      have hs6 := hk6.size
      have HT6 := hide (HTW.out.step hsz hm6 hf6 hk6)
      have HR6 := hide ((hk6.block w2.heap.size (by omega) (fun e => by
        rcases e with e | e
        · omega
        · have := HTW.out.hv _ e.symm; omega)).trans HRW.out)
      clear hm6 hf6 hk6 hNL hi hii HDL HTW HRW HPN HGN
      have hk6 := (HKH.out w6 k1 HT6.out.held).2
      have HK6 := hide hk6
      clear hk6
      go_wp2_with fail
      refine (HCO.out w3.heap.size v6 w6 HT6.out.map2 HK6.out).mono ?_
      rintro _ w7 ⟨rfl, hb7⟩
      have hs7 := hb7.size
      have HT7 := hide (HT6.out.below hb7)
      have HR7 := hide ((hb7.block w2.heap.size (by omega)).trans HR6.out)
      clear hb7
      have hb8' := fun o => (Below.refl w7.heap.size w7).alloc (Nat.le_refl _) o
      have hr8' := heap_alloc_new w7
      go_upto_region 18 with (refine wpList_store_row rfl 41 (.tmp 12) (.tmp 68) rfl w7.heap.size C.toArray rfl rfl 41 _ (heap_alloc_new w7 _) HCM.out.info (by rw [HCM.out.size]; rfl) HCM.out.one ?_; rw [World.setRow_alloc_new])
      generalize hW : World.alloc w7 _ = w8
      have hb8 : Below w7.heap.size w7 w8 := by rw [← hW]; exact hb8' _
      have hr8 : w8.heap[w7.heap.size]? = some (.cells C.toArray 41 (0, 0)) := by rw [← hW]; exact hr8' _
      clear hb8' hr8' hW
      have hs8 : w7.heap.size < w8.heap.size := (Array.getElem?_eq_some_iff.1 hr8).1
      have HT8 := hide (HT7.out.below hb8)
      have HR8 := hide ((hb8.block w2.heap.size (by omega)).trans HR7.out)
      have HD8 := hide hr8
      have hcr1 := comRow_of HR8.out HCM.out.size
      have hcv1 := loadVal_row HR8.out
      have hcr2 := comRow_of HD8.out HCM.out.size
      have hcv2 := loadVal_row HD8.out
      have heq : ∀ W, (Op.equalIn 10000 41 (.agg C.toArray) (.agg C.toArray)).run Tryz.prog W = .ok true W := fun W => by rw [HEQ.out W]; simp
      clear hb8 hr8 HT6 HR6 HK6 HT7 HR7
      go_wp2_with fail
      clear hcr1 hcv1 hcr2 hcv2 heq
      have hkd : w3.heap.size < w7.heap.size + 1 := by omega
      go_loopg [13, 14, 15, 16, 17, 18, 19, 20, 21, 22, 23, 24] 4 (fun gk v13 _ _ _ _ _ _ _ _ _ _ _ wq => ∃ (i k : Nat), gk = 4 - i ∧ v13 = I i ∧ i ≤ 4 ∧ Twin (w.heap.size + 1) w0 w3.heap.size w.heap.size code k m v L (.slice al l.length cl) l w3.heap.size v6 L wq ∧ w8.heap.size ≤ wq.heap.size ∧ wq.heap[w7.heap.size]? = some (.cells C.toArray 41 (0, 0)))
      case atStart => exact ⟨0, k1, rfl, rfl, by omega, HT8.out, Nat.le_refl _, HD8.out⟩
      case round =>
        clear HT8 HR8 HD8
        obtain ⟨i, k, hgk, rfl, hi, htw, hsz2, hrow⟩ := hrel
        have HGK := hide hgk
        have HTW := hide htw
        have HRW := hide hrow
        clear hgk htw hrow
        by_cases hlt : i < 4
        · have HQU := hide (query_any (w.heap.size + 1) w.heap.size code k wr HTW.out.held.dice (by omega))
          go_wp2_with fail
          refine HQU.out.mono ?_
          rintro _ w9 ⟨q, k', rfl, hsq, hd9, hk9⟩
          have hs9 := hk9.size
          have HT9 := hide (HTW.out.next hs0 hd9 hk9)
          have HR9 := hide ((hk9.block w7.heap.size (by omega) (fun e => by omega)).trans HRW.out)
          have HSQ := hide hsq
          clear hd9 hk9 hsq HQU
          have hb10' := fun o => (Below.refl w9.heap.size w9).alloc (Nat.le_refl _) o
          have hr10' := heap_alloc_new w9
          go_upto_region 24 with (refine wpList_store_row rfl 46 (.tmp 14) (.tmp 85) rfl w9.heap.size #[I q.kind, I q.a, I q.b, I q.c, I q.d, I q.x, I q.y, I q.k] rfl rfl 46 _ (heap_alloc_new w9 _) sizeQ rfl (one8 _ _ _ _ _ _ _ _) ?_; rw [World.setRow_alloc_new])
          generalize hW : World.alloc w9 _ = w10
          have hb10 : Below w9.heap.size w9 w10 := by rw [← hW]; exact hb10' _
          have hr10 : w10.heap[w9.heap.size]? = some (.cells #[I q.kind, I q.a, I q.b, I q.c, I q.d, I q.x, I q.y, I q.k] 46 (0, 0)) := by rw [← hW]; exact hr10' _
          clear hb10' hr10' hW
          have hs10 : w9.heap.size < w10.heap.size := (Array.getElem?_eq_some_iff.1 hr10).1
          have HT10 := hide (HT9.out.below hb10)
          have HR10 := hide ((hb10.block w7.heap.size (by omega)).trans HR9.out)
          have HQ10 := hide hr10
          obtain ⟨q0, q1, q2, q3, q4, q5, q6, q7⟩ := rowQ8 hr10
          clear hb10 hr10 HT9 HR9
          have HA10 := hide (map_answer m v L w10 HSQ.out.1 HT10.out.held.map HGL.out (HKH.out w10 k' HT10.out.held).2)
          have HRI := hide (Ward.right_ans HSQ.out.1 HPM.out HGL.out.ids)
          have HVF := hide (Ward.verify_proof HSQ.out.1 HGL.out.well)
          have HAL := hide (show (Ward.ans q L).length ≤ 1000 by
            have h1 : L.length ≤ 150 := HGL.out.many
            unfold Ward.ans
            split
            · rw [List.length_take, (Ward.sortN_perm _ _ _).length_eq]; omega
            · rw [(Ward.sortP_perm _).length_eq]; exact Nat.le_trans (List.length_filter_le _ _) (by omega))
          have HPR := hide (fun (n : Nat) (v : Value) (W : World) (hm : IsMap W n v L) (hk : KT W) => prove_any n v L W HSQ.out.1 hm HGL.out hk)
          have HVX := hide (fun W hk => HVA.out q (Ward.proofText q L) W hk)
          generalize Ward.proofText q L = S at *
          generalize Ward.ans q L = A at *
          go_wp2_with fail
          refine HA10.out.mono ?_
          rintro _ w11 ⟨va, rfl, ho11, hb11⟩
          have hs11 := hb11.size
          have HT11 := hide (HT10.out.below hb11)
          have HR11 := hide ((hb11.block w7.heap.size (by omega)).trans HR10.out)
          have HQ11 := hide ((hb11.block w9.heap.size (by omega)).trans HQ10.out)
          have HO11 := hide ho11
          obtain ⟨q0, q1, q2, q3, q4, q5, q6, q7⟩ := rowQ8 HQ11.out
          clear hb11 ho11 HT10 HR10 HQ10 HA10
          go_wp2_with fail
          refine (HPR.out m v w11 HT11.out.held.map (HKH.out w11 k' HT11.out.held).2).mono ?_
          rintro _ w12 ⟨rfl, hb12⟩
          have hs12 := hb12.size
          have HT12 := hide (HT11.out.below hb12)
          have HR12 := hide ((hb12.block w7.heap.size (by omega)).trans HR11.out)
          have HQ12 := hide ((hb12.block w9.heap.size (by omega)).trans HQ11.out)
          have HO12 := hide (HO11.out.below hb12)
          obtain ⟨q0, q1, q2, q3, q4, q5, q6, q7⟩ := rowQ8 HQ12.out
          clear hb12 HT11 HR11 HQ11 HO11
          go_wp2_with fail
          refine (HPR.out w3.heap.size v6 w12 HT12.out.map2 (HKH.out w12 k' HT12.out.held).2).mono ?_
          rintro _ w13 ⟨rfl, hb13⟩
          have hs13 := hb13.size
          have HT13 := hide (HT12.out.below hb13)
          have HR13 := hide ((hb13.block w7.heap.size (by omega)).trans HR12.out)
          have HQ13 := hide ((hb13.block w9.heap.size (by omega)).trans HQ12.out)
          have HO13 := hide (HO12.out.below hb13)
          obtain ⟨q0, q1, q2, q3, q4, q5, q6, q7⟩ := rowQ8 HQ13.out
          clear hb13 HT12 HR12 HQ12 HO12
          have HV13 := hide (HVX.out w13 (HKH.out w13 k' HT13.out.held).2)
          have hcr := comRow_of HR13.out HCM.out.size
          have hcv := loadVal_row HR13.out
          go_wp2_with fail
          refine HV13.out.mono ?_
          rintro e w14 ⟨vb, he, ho14, hb14⟩
          rw [HVF.out] at he ho14
          subst he
          have hs14 := hb14.size
          have HT14 := hide (HT13.out.below hb14)
          have HR14 := hide ((hb14.block w7.heap.size (by omega)).trans HR13.out)
          have HQ14 := hide ((hb14.block w9.heap.size (by omega)).trans HQ13.out)
          have HO14 := hide (HO13.out.below hb14)
          have HP14 := hide ho14
          obtain ⟨q0, q1, q2, q3, q4, q5, q6, q7⟩ := rowQ8 HQ14.out
          clear hb14 ho14 HT13 HR13 HQ13 HO13 hcr hcv HV13
          have HRT := hide (right_any va (.slice al l.length cl) A l w14 HO14.out.reads HT14.out.held.list.reads HRI.out HSQ.out (near_ok HNR.out) HAL.out (by omega))
          go_wp2_with fail
          refine HRT.out.mono ?_
          rintro _ w15 ⟨rfl, hb15⟩
          have hs15 := hb15.size
          have HT15 := hide (HT14.out.below hb15)
          have HR15 := hide ((hb15.block w7.heap.size (by omega)).trans HR14.out)
          have HO15 := hide (HO14.out.below hb15)
          have HP15 := hide (HP14.out.below hb15)
          clear hb15 HT14 HR14 HQ14 HO14 HP14 HRT q0 q1 q2 q3 q4 q5 q6 q7
          have HSM := hide (same_any va vb A A w15 HO15.out.reads HP15.out.reads HAL.out)
          go_wp2_with fail
          refine HSM.out.mono ?_
          rintro e w16 ⟨⟨r, rfl, hr⟩, hb16⟩
          have hr1 : r = true := hr.2 (by trivial)
          subst hr1
          have hs16 := hb16.size
          have HT16 := hide (HT15.out.below hb16)
          have HR16 := hide ((hb16.block w7.heap.size (by omega)).trans HR15.out)
          clear hb16 hr HSM HT15 HR15 HO15 HP15
          go_wp2_with fail
          go_roundg (4 - (i + 1))
          case measure => have := HGK.out; omega
          case rel => exact ⟨i + 1, k', rfl, by go_num, by omega, HT16.out, by omega, HR16.out⟩
        · have ei : i = 4 := by omega
          subst ei
          go_wp2_with fail
          go_ret
          exact ⟨rfl, (HKH.out wr k HTW.out.held).1⟩
end Go.Proofs.YtenaelkbgkpllaaGreatDoor
