/- Two entries exchanged. -/
import Derived.Test.YtenaelkbgkpllaaGreatDoorVerified13
import Derived.Test.YtenaelkbgkpllaaGreatDoorVerified5
namespace Go.Proofs.YtenaelkbgkpllaaGreatDoor
open Go.RowKit

theorem over_takeM {R cs : List Value} {o m : Nat} (h : o + cs.length ≤ m) (hm : m ≤ R.length) : (over R o cs).take m = over (R.take m) o cs := by
  apply List.ext_getElem?
  intro k
  unfold over
  rw [List.getElem?_take]
  by_cases hk : k < m
  · rw [if_pos hk]
    by_cases h1 : k < o
    · rw [List.getElem?_append_left (by simp; omega), List.getElem?_append_left (by simp; omega), List.getElem?_append_left (by simp; omega), List.getElem?_append_left (by simp; omega), List.getElem?_take, if_pos h1, List.getElem?_take, if_pos h1, List.getElem?_take, if_pos hk]
    · by_cases h2 : k < o + cs.length
      · rw [List.getElem?_append_left (by simp; omega), List.getElem?_append_right (by simp; omega), List.getElem?_append_left (by simp; omega), List.getElem?_append_right (by simp; omega)]
        congr 1
        simp
        omega
      · rw [List.getElem?_append_right (by simp; omega), List.getElem?_append_right (by simp; omega), List.getElem?_drop, List.getElem?_drop, List.getElem?_take]
        simp only [List.length_append, List.length_take]
        rw [if_pos (by omega)]
        congr 1
        omega
  · rw [if_neg hk, List.getElem?_eq_none (by simp; omega)]
theorem set_cells (l : List En) (i : Nat) (e : En) (h : i < l.length) : (l.set i e).flatMap E5 = over (l.flatMap E5) (i * 5) (E5 e) := by
  have hl : l = l.take i ++ l[i] :: l.drop (i + 1) := by rw [← List.drop_eq_getElem_cons h, List.take_append_drop]
  have h1 : l.set i e = l.take i ++ e :: l.drop (i + 1) := List.set_eq_take_append_cons_drop ▸ by rw [if_pos h]
  have ht : ((l.take i).flatMap E5).length = i * 5 := by rw [E5_len, List.length_take]; congr 1; omega
  have hf : l.flatMap E5 = (l.take i).flatMap E5 ++ (E5 l[i] ++ (l.drop (i + 1)).flatMap E5) := by
    have := congrArg (List.flatMap E5) hl
    rw [List.flatMap_append, List.flatMap_cons] at this
    exact this
  rw [h1, List.flatMap_append, List.flatMap_cons, hf, ← ht]
  generalize (l.drop (i + 1)).flatMap E5 = R
  generalize (l.take i).flatMap E5 = Q
  generalize hE : E5 l[i] = X
  have hX : (E5 e).length = X.length := by rw [← hE]; rfl
  unfold over
  rw [List.take_left, List.append_assoc, hX, ← List.drop_drop, List.drop_left, List.drop_left]
theorem ownE_set {w : World} {B g c : Nat} {l : List En} (h : OwnE w B (.slice (some ⟨g, 0, none⟩) l.length c) l) (i : Nat) (hi : i < l.length) (e : En) :
    OwnE (w.setCells g (i * 5) (E5 e)) B (.slice (some ⟨g, 0, none⟩) l.length c) (l.set i e) ∧ w.grownBy (w.setCells g (i * 5) (E5 e)) (some g) := by
  rcases h.2 with ⟨e', _⟩ | ⟨g', cap, cur, e', hB, hg, hcap, hmax, hcs, htake⟩
  · cases e'
  · injection e' with e1 e2 e3
    injection e1 with e1
    injection e1 with e1
    subst e1 e3
    have hlen : (l.set i e).length = l.length := List.length_set
    have hcl : cur.toList.length = c * 5 := by
      have h1 : cur.toList.length = cur.size := Array.length_toList
      omega
    have hle : l.length * 5 ≤ cur.toList.length := by
      rw [hcl]; exact Nat.mul_le_mul_right _ hcap
    have hb := below_setCellsN (B := 0) (a := w) (Nat.zero_le g) (E5 e) (i * 5) w (Below.refl 0 w)
    have hi5 : i * 5 + (E5 e).length ≤ l.length * 5 := by
      show i * 5 + 5 ≤ _
      omega
    have hr := setCells_row (g := g) (ty := 166) (E5 e) (i * 5) cur.toList w (by rw [Array.toArray_toList]; exact hg) (by omega)
    refine ⟨⟨by rw [E5_len], .inr ⟨g, c, _, by rw [hlen], hB, hr, by rw [hlen]; exact hcap, hmax, ?_, ?_⟩⟩, ⟨hb.os, hb.tape, hb.output, hb.size, fun k hk hne => setCells_other (fun e => hne (by rw [e])) _ _ _⟩⟩
    · rw [List.size_toArray, over_len (by omega), hcl]
    · rw [List.toList_toArray, hlen, over_takeM hi5 hle, htake, set_cells l i e hi]
theorem OwnE.drew {w : World} {B : Nat} {v : Value} {l : List En} (h : OwnE w B v l) : OwnE w.drew B v l := h
theorem grown_drew {w w' : World} {r : Option Nat} (h : w.grownBy w' r) : w.grownBy w'.drew r := ⟨h.os, h.tape, h.output, h.size, h.block⟩
theorem grown_grown {a b c : World} {r : Option Nat} (h : a.grownBy b r) (k : b.grownBy c r) : a.grownBy c r := ⟨k.os.trans h.os, k.tape.trans h.tape, k.output.trans h.output, Nat.le_trans h.size k.size, fun j hj hne => (k.block j (Nat.lt_of_lt_of_le hj h.size) hne).trans (h.block j hj hne)⟩
theorem setCells5 (w : World) (g o : Nat) (a b c d e : Value) : w.setCells g o [a, b, c, d, e] = ((((w.setCell ⟨g, o, none⟩ a).setCell ⟨g, o + 1, none⟩ b).setCell ⟨g, o + 2, none⟩ c).setCell ⟨g, o + 3, none⟩ d).setCell ⟨g, o + 4, none⟩ e := rfl
set_option maxRecDepth 100000 in
set_option maxHeartbeats 4000000 in
theorem swap_any (v : Value) (l : List En) (i j : Nat) (w : World) (B : Nat) (ho : OwnE w B v l) (hi : i < l.length) (hj : j < l.length) (hl : l.length ≤ 100000) :
    Calls Tryz.prog 215 #[v, I i, I j] w fun e w' => e = .returned (.tuple #[]) ∧ OwnE w' B v (Heap.swp l i j) ∧ w.grownBy w' v.ownBlock := by
  obtain ⟨g, c, rfl⟩ := ho.some (by omega)
  have HO := hide ho
  have HI := hide (ho.at i hi)
  have HJ := hide (ho.at j hj)
  have HS := hide (show Heap.swp l i j = (l.set i l[j]).set j l[i] by unfold Heap.swp; rw [Heap.at_get hi, Heap.at_get hj])
  have HFZ := hide (show ∀ k, w.frozen? ⟨g, k, none⟩ = false from fun k => by
    rcases ho.2 with ⟨e', _⟩ | ⟨g', cap, cur, e', hB, hg, _⟩
    · cases e'
    · injection e' with e1
      injection e1 with e1
      injection e1 with e1
      subst e1
      exact frozen_of_row _ _ _ _ _ hg)
  have HR := hide (show OwnE (((w.setCells g (i * 5) (E5 l[j])).setCells g (j * 5) (E5 l[i])).drew) B (.slice (some ⟨g, 0, none⟩) l.length c) (Heap.swp l i j) ∧ w.grownBy (((w.setCells g (i * 5) (E5 l[j])).setCells g (j * 5) (E5 l[i])).drew) (some g) by
    have h1 := ownE_set (w := w) (e := l[j]) ho i hi
    have h2 := ownE_set (w := w.setCells g (i * 5) (E5 l[j])) (l := l.set i l[j]) (e := l[i]) (by rw [List.length_set]; exact h1.1) j (by rw [List.length_set]; exact hj)
    rw [List.length_set] at h2
    rw [HS.out]
    exact ⟨h2.1.drew, grown_drew (grown_grown h1.2 h2.2)⟩)
  clear ho
  generalize l[i] = a at *
  generalize l[j] = b at *
  obtain ⟨ad, an, ⟨ai, ax, ay⟩⟩ := a
  obtain ⟨bd, bn, ⟨bi, bx, bY⟩⟩ := b
  have hr2 := HR.out
  simp only [E5, setCells5] at hr2
  have HR2 := hide hr2
  clear hr2 HR
  obtain ⟨a0, a1, a2, a3, a4⟩ := HI.out
  obtain ⟨b0, b1, b2, b3, b4⟩ := HJ.out
  simp only at a0 a1 a2 a3 a4 b0 b1 b2 b3 b4
  have f0 := HFZ.out (i * 5)
  have f1 := HFZ.out (i * 5 + 1)
  have f2 := HFZ.out (i * 5 + 2)
  have f3 := HFZ.out (i * 5 + 3)
  have f4 := HFZ.out (i * 5 + 4)
  have g0 := HFZ.out (j * 5)
  have g1 := HFZ.out (j * 5 + 1)
  have g2 := HFZ.out (j * 5 + 2)
  have g3 := HFZ.out (j * 5 + 3)
  have g4 := HFZ.out (j * 5 + 4)
  obtain ⟨u00, h00⟩ := cell?_setCell_some (w := w) (p := ⟨g, i * 5, none⟩) (x := I bd) (q := ⟨g, j * 5, none⟩) b0
  obtain ⟨u10, h10⟩ := cell?_setCell_some (w := w) (p := ⟨g, i * 5, none⟩) (x := I bd) (q := ⟨g, j * 5 + 1, none⟩) b1
  obtain ⟨u11, h11⟩ := cell?_setCell_some (w := (w.setCell ⟨g, i * 5, none⟩ (I bd))) (p := ⟨g, i * 5 + 1, none⟩) (x := .pointer bn) (q := ⟨g, j * 5 + 1, none⟩) h10
  obtain ⟨u20, h20⟩ := cell?_setCell_some (w := w) (p := ⟨g, i * 5, none⟩) (x := I bd) (q := ⟨g, j * 5 + 2, none⟩) b2
  obtain ⟨u21, h21⟩ := cell?_setCell_some (w := (w.setCell ⟨g, i * 5, none⟩ (I bd))) (p := ⟨g, i * 5 + 1, none⟩) (x := .pointer bn) (q := ⟨g, j * 5 + 2, none⟩) h20
  obtain ⟨u22, h22⟩ := cell?_setCell_some (w := ((w.setCell ⟨g, i * 5, none⟩ (I bd)).setCell ⟨g, i * 5 + 1, none⟩ (.pointer bn))) (p := ⟨g, i * 5 + 2, none⟩) (x := I bi) (q := ⟨g, j * 5 + 2, none⟩) h21
  obtain ⟨u30, h30⟩ := cell?_setCell_some (w := w) (p := ⟨g, i * 5, none⟩) (x := I bd) (q := ⟨g, j * 5 + 3, none⟩) b3
  obtain ⟨u31, h31⟩ := cell?_setCell_some (w := (w.setCell ⟨g, i * 5, none⟩ (I bd))) (p := ⟨g, i * 5 + 1, none⟩) (x := .pointer bn) (q := ⟨g, j * 5 + 3, none⟩) h30
  obtain ⟨u32, h32⟩ := cell?_setCell_some (w := ((w.setCell ⟨g, i * 5, none⟩ (I bd)).setCell ⟨g, i * 5 + 1, none⟩ (.pointer bn))) (p := ⟨g, i * 5 + 2, none⟩) (x := I bi) (q := ⟨g, j * 5 + 3, none⟩) h31
  obtain ⟨u33, h33⟩ := cell?_setCell_some (w := (((w.setCell ⟨g, i * 5, none⟩ (I bd)).setCell ⟨g, i * 5 + 1, none⟩ (.pointer bn)).setCell ⟨g, i * 5 + 2, none⟩ (I bi))) (p := ⟨g, i * 5 + 3, none⟩) (x := I bx) (q := ⟨g, j * 5 + 3, none⟩) h32
  obtain ⟨u40, h40⟩ := cell?_setCell_some (w := w) (p := ⟨g, i * 5, none⟩) (x := I bd) (q := ⟨g, j * 5 + 4, none⟩) b4
  obtain ⟨u41, h41⟩ := cell?_setCell_some (w := (w.setCell ⟨g, i * 5, none⟩ (I bd))) (p := ⟨g, i * 5 + 1, none⟩) (x := .pointer bn) (q := ⟨g, j * 5 + 4, none⟩) h40
  obtain ⟨u42, h42⟩ := cell?_setCell_some (w := ((w.setCell ⟨g, i * 5, none⟩ (I bd)).setCell ⟨g, i * 5 + 1, none⟩ (.pointer bn))) (p := ⟨g, i * 5 + 2, none⟩) (x := I bi) (q := ⟨g, j * 5 + 4, none⟩) h41
  obtain ⟨u43, h43⟩ := cell?_setCell_some (w := (((w.setCell ⟨g, i * 5, none⟩ (I bd)).setCell ⟨g, i * 5 + 1, none⟩ (.pointer bn)).setCell ⟨g, i * 5 + 2, none⟩ (I bi))) (p := ⟨g, i * 5 + 3, none⟩) (x := I bx) (q := ⟨g, j * 5 + 4, none⟩) h42
  obtain ⟨u44, h44⟩ := cell?_setCell_some (w := ((((w.setCell ⟨g, i * 5, none⟩ (I bd)).setCell ⟨g, i * 5 + 1, none⟩ (.pointer bn)).setCell ⟨g, i * 5 + 2, none⟩ (I bi)).setCell ⟨g, i * 5 + 3, none⟩ (I bx))) (p := ⟨g, i * 5 + 4, none⟩) (x := I bY) (q := ⟨g, j * 5 + 4, none⟩) h43
  go_enter Tryz.func215, Tryz.ntmps215
  go_wp2_with fail
  go_region
  have hx := HR2.out
  clear HR2
  revert hx
  generalize World.drew _ = w9
  intro hx
  have HX := hide hx
  clear hx
  go_end0
  exact ⟨rfl, HX.out⟩
end Go.Proofs.YtenaelkbgkpllaaGreatDoor
/- An entry put in, one taken out: the methods. -/
namespace Go.Proofs.YtenaelkbgkpllaaGreatDoor
open Go.RowKit

theorem Tryz.infoEn : (Tryz.prog.info? 166).map (fun i => (i.zero, i.size, i.bytes)) = some (some (.agg #[I 0, .pointer none, I 0, I 0, I 0]), 5, 40) := by kernel_rfl
/-- an entry put behind others -/
theorem append_en {w : World} {B : Nat} {v : Value} {l : List En} (e : En) (hown : OwnE w B v l) (hB : B ≤ w.heap.size) (hn : l.length ≤ 100000) :
    ∃ v' w', (Builtin.append_ #[168, 168] 168 #[v, .slice (some ⟨w.heap.size, 0, none⟩) 1 1]).run Tryz.prog (w.alloc (.cells #[I e.d, .pointer e.nd, I e.p.id, I e.p.x, I e.p.y] 166)) = .ok v' w' ∧ OwnE w' B v' (l ++ [e]) ∧ w.grownBy w' v.ownBlock ∧ Fresh w v v' := by
  obtain ⟨i0, hi0, hz0, hz1, hz2⟩ := info_parts Tryz.infoEn
  have hown' : (w.alloc (.cells #[I e.d, .pointer e.nd, I e.p.id, I e.p.x, I e.p.y] 166)).ownsRow B 166 5 v l.length (l.flatMap E5) := World.ownsRow.alloc hown _
  obtain ⟨v', w', hr, ho, hg, hf⟩ := run_append_own2 (P := Tryz.prog) (w.alloc (.cells #[I e.d, .pointer e.nd, I e.p.id, I e.p.x, I e.p.y] 166)) B 168 168 166 i0 (.agg #[I 0, .pointer none, I 0, I 0, I 0]) 5 40 Tryz.underlying168 hi0 hz0 hz1 hz2 rfl (by decide) v l.length (l.flatMap E5) hown' ⟨w.heap.size, 0, none⟩ 1 1 (E5 e) rfl
    (fun j u hj => by
      rw [Addr.add_lit, Nat.zero_add, cell_of_row _ _ _ _ _ _ (heap_alloc_new w _)]
      rw [List.getElem?_toArray]
      exact hj)
    (fun u hu => E5_one (l := [e]) u (by simpa using hu)) (by unfold maxLen; omega) (by omega) (by simp; omega)
  refine ⟨v', w', hr, ?_, grown_lift ((Below.refl w.heap.size w).alloc (Nat.le_refl _) _) hg, fresh_lift (by simp) hf⟩
  unfold OwnE
  rw [List.length_append, List.flatMap_append]
  have e1 : [e].flatMap E5 = E5 e := by simp
  rw [e1]
  exact ho
theorem ta_en (x : Value) (w : World) : (Instr.typeAssert (.iface 166 x) 20 166 false).run Tryz.prog w = .ok x w := by kernel_rfl
/-- the heap's list, where it is kept -/
structure HeapAt (w : World) (h : Nat) (B : Nat) (v : Value) (l : List En) : Prop where
  row : w.heap[h]? = some (.cells #[v] 168 (0, 0))
  own : OwnE w B v l
  apart : v.ownBlock ≠ some h
theorem HeapAt.cell {w : World} {h B : Nat} {v : Value} {l : List En} (H : HeapAt w h B v l) : w.cell? ⟨h, 0, none⟩ = some v := by
  rw [cell_of_row _ _ _ _ _ _ H.row]; rfl
theorem HeapAt.lt {w : World} {h B : Nat} {v : Value} {l : List En} (H : HeapAt w h B v l) : h < w.heap.size := (Array.getElem?_eq_some_iff.1 H.row).1
theorem HeapAt.below {w w' : World} {h B : Nat} {v : Value} {l : List En} (H : HeapAt w h B v l) (hb : Below w.heap.size w w') : HeapAt w' h B v l := ⟨(hb.block h H.lt).trans H.row, H.own.below hb, H.apart⟩
/-- what the heap's calls may change -/
def Heaps (h : Nat) (v : Value) (k : Nat) : Prop := k = h ∨ some k = v.ownBlock
theorem Keeps.grown {a b : World} {v : Value} {h : Nat} (hg : a.grownBy b v.ownBlock) : Keeps (Heaps h v) a b := ⟨hg.os, hg.tape, hg.output, hg.size, fun k hk hn => hg.block k hk (fun e => hn (.inr e))⟩
set_option maxRecDepth 100000 in
set_option maxHeartbeats 4000000 in
theorem push_any (h : Nat) (v : Value) (l : List En) (e : En) (w : World) (B : Nat) (H : HeapAt w h B v l) (hB : B ≤ w.heap.size) (hl : l.length ≤ 100000) :
    Calls Tryz.prog 214 #[.pointer (some ⟨h, 0, none⟩), .iface 166 (Ev e)] w fun r w' => r = .returned (.tuple #[]) ∧ ∃ v', HeapAt w' h B v' (l ++ [e]) ∧ Keeps (Heaps h v) w w' ∧ Fresh w v v' := by
  obtain ⟨v', w', hr, ho, hg, hf⟩ := append_en (w := w.drew) e (show OwnE w.drew B v l from H.own) hB hl
  have hlt := H.lt
  have hc := H.cell
  have hrow : w'.heap[h]? = some (.cells #[v] 168 (0, 0)) := (hg.block h hlt (fun e => H.apart e.symm)).trans H.row
  have hc' : w'.cell? ⟨h, 0, none⟩ = some v := by rw [cell_of_row _ _ _ _ _ _ hrow]; rfl
  have hfz : w'.frozen? ⟨h, 0, none⟩ = false := frozen_of_row _ _ _ _ _ hrow
  obtain ⟨av, cv, ev⟩ := H.own.slice
  subst ev
  obtain ⟨a', c', ev'⟩ := ho.slice
  rw [List.length_append, List.length_singleton] at ev'
  have HAP : v'.ownBlock ≠ some h := fun e => by
    rcases hf with hf | ⟨g, hf, hgs⟩
    · rw [hf] at e; exact H.apart e
    · rw [hf] at e
      injection e with e
      have : w.drew.heap.size = w.heap.size := rfl
      omega
  have HEND := hide (show HeapAt (w'.setCell ⟨h, 0, none⟩ v') h B v' (l ++ [e]) ∧ Keeps (Heaps h (.slice av l.length cv)) w (w'.setCell ⟨h, 0, none⟩ v') ∧ Fresh w (.slice av l.length cv) v' by
    refine ⟨⟨?_, ?_, HAP⟩, ?_, hf⟩
    · have := heap_setCell_same w' h 0 #[.slice av l.length cv] 168 v' hrow
      exact this
    · refine ⟨ho.1, ?_⟩
      rcases ho.2 with h0 | ⟨g, cap, cur, e1, hB', hg', r⟩
      · exact .inl h0
      · refine .inr ⟨g, cap, cur, e1, hB', (Below.heap_setCell _ _ _ _ (fun e2 => HAP (by rw [e1, e2]; rfl))).trans hg', r⟩
    · refine ⟨hg.os, hg.tape, hg.output, ?_, fun k hk hn => ?_⟩
      · have : (w'.setCell ⟨h, 0, none⟩ v').heap.size = w'.heap.size := by simp
        rw [this]; exact hg.size
      · exact (Below.heap_setCell _ _ _ _ (fun e2 => hn (.inl e2))).trans (hg.block k hk (fun e => hn (.inr e))))
  obtain ⟨ed, en, ⟨ei, ex, ey⟩⟩ := e
  have hr' : (Builtin.append_ #[168, 168] 168 #[.slice av l.length cv, .slice (some ⟨w.heap.size, 0, none⟩) 1 1]).run Tryz.prog ((w.alloc (.cells #[I ed, .pointer en, I ei, I ex, I ey] 166)).drew) = .ok v' w' := hr
  clear hr ho hg hf hrow H HAP
  subst ev'
  have hta := ta_en (Ev ⟨ed, en, ⟨ei, ex, ey⟩⟩)
  go_enter Tryz.func214, Tryz.ntmps214
  go_wp2_with fail
  go_region_law (refine step_append_run rfl _ _ 168 168 rfl _ _ (by simp [Act.eval]) (by simp [Act.eval]) hr' ?_)
  all_goals
    go_end0
    exact ⟨rfl, _, HEND.out⟩
theorem heapAt_cut {w : World} {h B g c : Nat} {l : List En} {e : En} (H : HeapAt w h B (.slice (some ⟨g, 0, none⟩) (l.length + 1) c) (l ++ [e])) :
    HeapAt (w.setCell ⟨h, 0, none⟩ (.slice (some ⟨g, 0, none⟩) l.length c)) h B (.slice (some ⟨g, 0, none⟩) l.length c) l := by
  have hgh : g ≠ h := fun e => H.apart (by rw [e]; rfl)
  refine ⟨?_, ?_, fun e => hgh (by injection e)⟩
  · exact heap_setCell_same w h 0 #[.slice (some ⟨g, 0, none⟩) (l.length + 1) c] 168 _ H.row
  · refine ⟨E5_len l, ?_⟩
    rcases H.own.2 with ⟨e', _⟩ | ⟨g', cap, cur, e', hB, hg, hcap, hmax, hcs, htake⟩
    · cases e'
    · injection e' with e1 e2 e3
      injection e1 with e1
      injection e1 with e1
      subst e1 e3
      rw [List.length_append, List.length_singleton] at hcap htake
      refine .inr ⟨g, c, cur, rfl, hB, (Below.heap_setCell _ _ _ _ hgh).trans hg, by omega, hmax, hcs, ?_⟩
      have h1 := congrArg (List.take (l.length * 5)) htake
      rw [List.take_take, Nat.min_eq_left (by omega), List.flatMap_append, ← E5_len l, List.take_left] at h1
      rw [E5_len] at h1
      exact h1
set_option maxRecDepth 100000 in
set_option maxHeartbeats 4000000 in
theorem pop_any (h : Nat) (v : Value) (l : List En) (e : En) (w : World) (B : Nat) (H : HeapAt w h B v (l ++ [e])) (hl : l.length ≤ 100000) :
    Calls Tryz.prog 213 #[.pointer (some ⟨h, 0, none⟩)] w fun r w' => r = .returned (.iface 166 (Ev e)) ∧ ∃ v', HeapAt w' h B v' l ∧ Keeps (Heaps h v) w w' ∧ v'.ownBlock = v.ownBlock := by
  obtain ⟨g, c, ev⟩ := H.own.some (by simp)
  subst ev
  rw [List.length_append, List.length_singleton] at H
  have hlt := H.lt
  have hgl := (H.own.lt (g := g) rfl).2
  have hc := H.cell
  have hen : EnAt w g (l.length * 5) e := by
    have h1 := OwnE.at (w := w) (B := B) (g := g) (c := c) (l := l ++ [e]) (by rw [List.length_append, List.length_singleton]; exact H.own) l.length (by simp)
    rw [List.getElem_append_right (Nat.le_refl _)] at h1
    simpa using h1
  have hcap : l.length ≤ c := by
    rcases H.own.2 with ⟨e', _⟩ | ⟨g', cap, cur, e', hB, hg, hcap, hmax, hcs, htake⟩
    · cases e'
    · injection e' with e1 e2 e3
      subst e3
      rw [List.length_append, List.length_singleton] at hcap
      omega
  have hgh : g ≠ h := fun e => H.apart (by rw [e]; rfl)
  have HH := hide H
  clear H
  obtain ⟨ed, en, ⟨ei, ex, ey⟩⟩ := e
  obtain ⟨e0, e1, e2, e3, e4⟩ := hen
  simp only at e0 e1 e2 e3 e4
  have hb2 := fun o => (Below.refl w.heap.size w).alloc (Nat.le_refl _) o
  have hr2 := heap_alloc_new w
  have hs2 := fun o => show (w.alloc o).heap.size = w.heap.size + 1 by simp
  go_enter Tryz.func213, Tryz.ntmps213
  go_upto_region 3 with fail
  generalize hW : World.alloc w _ = w1
  have hb1 : Below w.heap.size w w1 := by rw [← hW]; exact hb2 _
  have hn1 : w1.heap[w.heap.size]? = some (.cells #[I ed, .pointer en, I ei, I ex, I ey] 166 (0, 0)) := by rw [← hW]; exact hr2 _
  have hs1 : w.heap.size + 1 ≤ w1.heap.size := by rw [← hW, hs2]; exact Nat.le_refl _
  clear hb2 hr2 hs2 hW
  have HH1 := hide (HH.out.below hb1)
  have hc1 := HH1.out.cell
  have hfz : w1.frozen? ⟨h, 0, none⟩ = false := frozen_of_row _ _ _ _ _ HH1.out.row
  have HN1 := hide hn1
  have HB1 := hide hb1
  clear hb1 hn1 hc e0 e1 e2 e3 e4
  go_upto_region 4 with fail
  have hh2 := heapAt_cut HH1.out
  have hn2 : (w1.setCell ⟨h, 0, none⟩ (.slice (some ⟨g, 0, none⟩) l.length c)).heap[w.heap.size]? = some (.cells #[I ed, .pointer en, I ei, I ex, I ey] 166 (0, 0)) := (Below.heap_setCell _ _ _ _ (show w.heap.size ≠ h by omega)).trans HN1.out
  have hk2 : Keeps (Heaps h (.slice (some ⟨g, 0, none⟩) (l.length + 1) c)) w (w1.setCell ⟨h, 0, none⟩ (.slice (some ⟨g, 0, none⟩) l.length c)) := by
    refine ⟨HB1.out.os, HB1.out.tape, HB1.out.output, ?_, fun k hk hn => (Below.heap_setCell _ _ _ _ (fun e2 => hn (.inl e2))).trans (HB1.out.block k hk)⟩
    have : (w1.setCell ⟨h, 0, none⟩ (.slice (some ⟨g, 0, none⟩) l.length c)).heap.size = w1.heap.size := by simp
    rw [this]; exact HB1.out.size
  generalize w1.setCell ⟨h, 0, none⟩ (.slice (some ⟨g, 0, none⟩) l.length c) = w2 at *
  have c0 : w2.cell? ⟨w.heap.size, 0, none⟩ = some (I ed) := by rw [cell_of_row _ _ _ _ _ _ hn2]; rfl
  have c1 : w2.cell? ⟨w.heap.size, 1, none⟩ = some (.pointer en) := by rw [cell_of_row _ _ _ _ _ _ hn2]; rfl
  have c2 : w2.cell? ⟨w.heap.size, 2, none⟩ = some (I ei) := by rw [cell_of_row _ _ _ _ _ _ hn2]; rfl
  have c3 : w2.cell? ⟨w.heap.size, 3, none⟩ = some (I ex) := by rw [cell_of_row _ _ _ _ _ _ hn2]; rfl
  have c4 : w2.cell? ⟨w.heap.size, 4, none⟩ = some (I ey) := by rw [cell_of_row _ _ _ _ _ _ hn2]; rfl
  have HH2 := hide hh2
  have HK2 := hide hk2
  clear hh2 hk2 hn2
  go_wp2
  go_ret
  exact ⟨rfl, _, HH2.out, HK2.out, rfl⟩
end Go.Proofs.YtenaelkbgkpllaaGreatDoor
/- What goes up the heap. -/
namespace Go.Proofs.YtenaelkbgkpllaaGreatDoor
open Go.RowKit

abbrev Hv (h : Nat) : Value := .iface 163 (.pointer (some ⟨h, 0, none⟩))
/-- the heap's list put in another order -/
structure Turned (w w' : World) (h B : Nat) (v : Value) (l l' : List En) : Prop where
  at' : HeapAt w' h B v l'
  perm : l'.Perm l
  keeps : Keeps (Heaps h v) w w'
theorem Turned.refl {w : World} {h B : Nat} {v : Value} {l : List En} (H : HeapAt w h B v l) : Turned w w h B v l l := ⟨H, List.Perm.refl _, Keeps.refl _ _⟩
theorem Turned.below {w w' w'' : World} {h B : Nat} {v : Value} {l l' : List En} (H : Turned w w' h B v l l') (hb : Below w'.heap.size w' w'') : Turned w w'' h B v l l' := ⟨H.at'.below hb, H.perm, H.keeps.trans (Keeps.of_below (S := Heaps h v) hb) (fun _ _ h => h)⟩
theorem Turned.swap {w w' w'' : World} {h B : Nat} {v : Value} {l l' : List En} (H : Turned w w' h B v l l') {i j : Nat} (hi : i < l'.length) (hj : j < l'.length) (ho : OwnE w'' B v (Heap.swp l' i j)) (hg : w'.grownBy w'' v.ownBlock) : Turned w w'' h B v l (Heap.swp l' i j) :=
  ⟨⟨(hg.block h H.at'.lt (fun e => H.at'.apart e.symm)).trans H.at'.row, ho, H.at'.apart⟩, (Heap.swp_perm hi hj).trans H.perm, H.keeps.trans (Keeps.grown (h := h) hg) (fun _ _ h => h)⟩
theorem less_at (v : Value) (l : List En) (i j : Nat) (w : World) (B : Nat) (ho : OwnE w B v l) (hi : i < l.length) (hj : j < l.length) (hl : l.length ≤ 100000) :
    Calls Tryz.prog 212 #[v, I i, I j] w fun e w' => e = .returned (.bool (decide (enLt (Heap.at' l i) (Heap.at' l j)))) ∧ Below w.heap.size w w' := by
  rw [Heap.at_get hi, Heap.at_get hj]
  exact less_any v l i j w B ho hi hj hl
set_option maxRecDepth 100000 in
set_option maxHeartbeats 4000000 in
theorem up_any (h : Nat) (v : Value) (l : List En) (j : Nat) (w : World) (B : Nat) (H : HeapAt w h B v l) (hl : l.length ≤ 100000) (hu : Heap.Up enLt (Heap.at' l) l.length j) :
    Calls Tryz.prog 175 #[Hv h, I j] w fun r w' => r = .returned (.tuple #[]) ∧ ∃ l', Turned w w' h B v l l' ∧ Heap.Ok enLt (Heap.at' l') l'.length := by
  have HT := hide (Turned.refl H)
  have HU := hide hu
  have hj := hu.inn
  clear H hu
  go_enter Tryz.func175, Tryz.ntmps175
  go_wp2_with fail
  go_loopg [1] j (fun gk v1 wq => ∃ (k : Nat) (l' : List En), gk = k ∧ v1 = I k ∧ Turned w wq h B v l l' ∧ Heap.Up enLt (Heap.at' l') l'.length k)
  case atStart => exact ⟨j, l, rfl, rfl, HT.out, HU.out⟩
  case round =>
    clear HT HU hj
    obtain ⟨k, l', rfl, rfl, hT, hU⟩ := hrel
    have hlen : l'.length ≤ 100000 := by rw [hT.perm.length_eq]; exact hl
    have hk := hU.inn
    have hm := m_less h v wr hT.at'.cell
    have hm2 := m_swap h v wr hT.at'.cell
    have HT := hide hT
    have HU := hide hU
    clear hT hU
    by_cases h0 : gk = 0
    · subst h0
      go_wp2_with fail
      go_end0
      exact ⟨rfl, l', HT.out, Heap.up_end HU.out (.inl rfl)⟩
    · have hp := Heap.par_lt (show 0 < gk by omega)
      have HPE := hide (show ((gk : Int) - 1) / 2 = ((Heap.par gk : Nat) : Int) by
        unfold Heap.par
        omega)
      have HLE := hide (less_at v l' gk (Heap.par gk) wr B HT.out.at'.own hk (by omega) hlen)
      have hne : ¬ ((Heap.par gk : Nat) : Int) = (gk : Int) := by omega
      go_upto_region 1 with fail
      rw [HPE.out]
      generalize hpk : Heap.par gk = pk at *
      have HPK := hide hpk
      clear hpk
      generalize hcond : decide (enLt (Heap.at' l' gk) (Heap.at' l' pk)) = r at *
      have HCO := hide hcond
      clear hcond
      go_wp2_with fail
      refine HLE.out.mono ?_
      rintro _ w1 ⟨rfl, hb1⟩
      have HT1 := hide (HT.out.below hb1)
      have hm3 := m_swap h v w1 HT1.out.at'.cell
      clear hb1 hm hm2 HLE
      cases r with
      | false =>
        go_wp2_with fail
        go_end0
        refine ⟨rfl, l', HT1.out, Heap.up_end HU.out (.inr ?_)⟩
        rw [HPK.out]
        exact of_decide_eq_false HCO.out
      | true =>
        have HSW := hide (swap_any v l' pk gk w1 B HT1.out.at'.own (by omega) hk hlen)
        go_wp2_with fail
        refine HSW.out.mono ?_
        rintro _ w2 ⟨rfl, ho2, hg2⟩
        have HT2 := hide (HT1.out.swap (by omega) hk ho2 hg2)
        clear ho2 hg2 HSW hm3
        go_wp2_with fail
        go_roundg pk
        case measure => exact hp
        case rel =>
          refine ⟨pk, Heap.swp l' pk gk, rfl, by go_num, HT2.out, ?_⟩
          rw [Heap.swp_len]
          have hs := Heap.up_step enWeak (Nat.le_refl _) HU.out (by omega) (by rw [HPK.out]; exact of_decide_eq_true HCO.out)
          rw [HPK.out] at hs
          exact hs
end Go.Proofs.YtenaelkbgkpllaaGreatDoor
/- What goes down the heap. -/
namespace Go.Proofs.YtenaelkbgkpllaaGreatDoor
open Go.RowKit

set_option maxRecDepth 100000 in
set_option maxHeartbeats 4000000 in
theorem down_any (h : Nat) (v : Value) (l : List En) (n : Nat) (w : World) (B : Nat) (H : HeapAt w h B v l) (hl : l.length ≤ 100000) (hn : n < l.length) (hd : Heap.Down enLt (Heap.at' l) n 0) :
    Calls Tryz.prog 144 #[Hv h, I 0, I n] w fun r w' => ∃ b : Bool, r = .returned (.bool b) ∧ ∃ l', Turned w w' h B v l l' ∧ Heap.Ok enLt (Heap.at' l') n ∧ ∀ k, n ≤ k → Heap.at' l' k = Heap.at' l k := by
  have HT0 := hide (Turned.refl H)
  have HD0 := hide hd
  clear H hd
  go_enter Tryz.func144, Tryz.ntmps144
  go_wp2_with fail
  go_loopg [7] n (fun gk v7 wq => ∃ (i : Nat) (l' : List En), gk = n - i ∧ v7 = I i ∧ i ≤ n ∧ Turned w wq h B v l l' ∧ Heap.Down enLt (Heap.at' l') n i ∧ ∀ k, n ≤ k → Heap.at' l' k = Heap.at' l k)
  case atStart => exact ⟨0, l, rfl, rfl, by omega, HT0.out, HD0.out, fun _ _ => rfl⟩
  case round =>
    clear HT0 HD0
    obtain ⟨i, l', hgk, rfl, hi, hT, hD, hsame⟩ := hrel
    have hll : l'.length = l.length := hT.perm.length_eq
    have hlen : l'.length ≤ 100000 := by omega
    have hnl : n ≤ l'.length := by omega
    have hnl2 : n < l'.length := by omega
    clear hll
    have HGK := hide hgk
    have HT := hide hT
    have HD := hide hD
    have HSAME := hide hsame
    clear hgk hT hD hsame
    by_cases h1 : n ≤ 2 * i + 1
    · have HOK := hide (Heap.down_end HD.out fun k hk hk0 hp => by unfold Heap.par at hp; omega)
      have hge : (n : Int) ≤ 2 * (i : Int) + 1 := by omega
      go_wp2_with fail
      go_ret
      exact ⟨_, rfl, l', HT.out, HOK.out, HSAME.out⟩
    · have hlt1 : ¬ (n : Int) ≤ 2 * (i : Int) + 1 := by omega
      have hpos1 : ¬ 2 * (i : Int) + 1 < 0 := by omega
      obtain ⟨j1, hj1⟩ : ∃ j1, j1 = 2 * i + 1 := ⟨_, rfl⟩
      have HJ1 := hide (show (2 * (i : Int) + 1) = ((j1 : Nat) : Int) by omega)
      have HJ1N := hide hj1
      by_cases h2 : n ≤ 2 * i + 2
      · have hlt2 : ¬ 2 * (i : Int) + 1 + 1 < (n : Int) := by omega
        have HSM := hide (show ∀ k, k < n → 0 < k → Heap.par k = i → ¬ enLt (Heap.at' l' k) (Heap.at' l' j1) from fun k hk hk0 hp => by
          have e : k = j1 := by unfold Heap.par at hp; omega
          rw [e]; exact enIrr _)
        go_upto_region 8 with fail
        rw [HJ1.out]
        obtain ⟨W, hW⟩ : ∃ W, W = wr := ⟨_, rfl⟩
        subst hW
        have HT1 := hide HT.out
        have hj1' : 2 * i < j1 := by omega
        have hj1n : j1 < n := by omega
        clear hj1 hlt1 hpos1 hlt2
        have hj0 : 0 < j1 := by omega
        have hij : i < j1 := by omega
        have HPJ := hide (show Heap.par j1 = i by have := HJ1N.out; unfold Heap.par; omega)
        have HLE2 := hide (less_at v l' j1 i W B HT1.out.at'.own (by omega) (by omega) hlen)
        have hmL := m_less h v W HT1.out.at'.cell
        generalize hcond2 : decide (enLt (Heap.at' l' j1) (Heap.at' l' i)) = r2 at *
        have HC2 := hide hcond2
        clear hcond2
        go_wp2_with fail
        refine HLE2.out.mono ?_
        rintro _ w2 ⟨rfl, hb2⟩
        have HT2 := hide (HT1.out.below hb2)
        have hmS := m_swap h v w2 HT2.out.at'.cell
        clear hb2 hmL HLE2
        cases r2 with
        | false =>
          have HOK := hide (Heap.down_end HD.out fun k hk hk0 hp => enWeak.trans _ _ _ (of_decide_eq_false HC2.out) (HSM.out k hk hk0 hp))
          go_wp2_with fail
          go_ret
          exact ⟨_, rfl, l', HT2.out, HOK.out, HSAME.out⟩
        | true =>
          have HSW := hide (swap_any v l' i j1 w2 B HT2.out.at'.own (by omega) (by omega) hlen)
          have HDN := hide (Heap.down_step enWeak hnl HD.out (show j1 < n by omega) hj0 HPJ.out (of_decide_eq_true HC2.out) HSM.out)
          have HSA := hide (show ∀ k, n ≤ k → Heap.at' (Heap.swp l' i j1) k = Heap.at' l k from fun k hk => by
            rw [Heap.at_swp (by omega) (by omega), if_neg (by omega), if_neg (by omega)]
            exact HSAME.out k hk)
          go_wp2_with fail
          refine HSW.out.mono ?_
          rintro _ w3 ⟨rfl, ho3, hg3⟩
          have HT3 := hide (HT2.out.swap (by omega) (by omega) ho3 hg3)
          clear ho3 hg3 HSW hmS
          go_wp2_with fail
          go_roundg (n - j1)
          case measure => have := HGK.out; omega
          case rel => exact ⟨j1, Heap.swp l' i j1, rfl, by go_num, by omega, HT3.out, HDN.out, HSA.out⟩
      · have hlt2 : 2 * (i : Int) + 1 + 1 < (n : Int) := by omega
        obtain ⟨j2, hj2⟩ : ∃ j2, j2 = 2 * i + 2 := ⟨_, rfl⟩
        have HJ2 := hide (show (2 * (i : Int) + 1 + 1) = ((j2 : Nat) : Int) by omega)
        have HLE := hide (less_at v l' j2 j1 wr B HT.out.at'.own (by omega) (by omega) hlen)
        have hm := m_less h v wr HT.out.at'.cell
        generalize hcond : decide (enLt (Heap.at' l' j2) (Heap.at' l' j1)) = r at *
        have HCO := hide hcond
        clear hcond
        go_upto_region 6 with fail
        rw [HJ2.out, HJ1.out]
        have hlt3 : ((j2 : Nat) : Int) < (n : Int) := by omega
        have HJ2N := hide hj2
        clear hlt1 hpos1 hlt2 hj1 hj2
        go_wp2_with fail
        refine HLE.out.mono ?_
        rintro _ W ⟨rfl, hb1⟩
        have HT1 := hide (HT.out.below hb1)
        clear hb1 hm HLE
        have hj1' : 2 * i < j1 := by have := HJ1N.out; omega
        have hj2' : 2 * i < j2 := by have := HJ2N.out; omega
        have hj1n : j1 < n := by have := HJ1N.out; omega
        have hj2n : j2 < n := by have := HJ2N.out; omega
        cases r with
        | false =>
          have HSM := hide (show ∀ k, k < n → 0 < k → Heap.par k = i → ¬ enLt (Heap.at' l' k) (Heap.at' l' j1) from fun k hk hk0 hp => by
            have e : k = j1 ∨ k = j2 := by
              have := HJ1N.out
              have := HJ2N.out
              unfold Heap.par at hp; omega
            rcases e with e | e
            · rw [e]; exact enIrr _
            · rw [e]; exact of_decide_eq_false HCO.out)
          have hj0 : 0 < j1 := by omega
          have hij : i < j1 := by omega
          have HPJ := hide (show Heap.par j1 = i by have := HJ1N.out; unfold Heap.par; omega)
          have HLE2 := hide (less_at v l' j1 i W B HT1.out.at'.own (by omega) (by omega) hlen)
          have hmL := m_less h v W HT1.out.at'.cell
          generalize hcond2 : decide (enLt (Heap.at' l' j1) (Heap.at' l' i)) = r2 at *
          have HC2 := hide hcond2
          clear hcond2
          go_wp2_with fail
          refine HLE2.out.mono ?_
          rintro _ w2 ⟨rfl, hb2⟩
          have HT2 := hide (HT1.out.below hb2)
          have hmS := m_swap h v w2 HT2.out.at'.cell
          clear hb2 hmL HLE2
          cases r2 with
          | false =>
            have HOK := hide (Heap.down_end HD.out fun k hk hk0 hp => enWeak.trans _ _ _ (of_decide_eq_false HC2.out) (HSM.out k hk hk0 hp))
            go_wp2_with fail
            go_ret
            exact ⟨_, rfl, l', HT2.out, HOK.out, HSAME.out⟩
          | true =>
            have HSW := hide (swap_any v l' i j1 w2 B HT2.out.at'.own (by omega) (by omega) hlen)
            have HDN := hide (Heap.down_step enWeak hnl HD.out (show j1 < n by omega) hj0 HPJ.out (of_decide_eq_true HC2.out) HSM.out)
            have HSA := hide (show ∀ k, n ≤ k → Heap.at' (Heap.swp l' i j1) k = Heap.at' l k from fun k hk => by
              rw [Heap.at_swp (by omega) (by omega), if_neg (by omega), if_neg (by omega)]
              exact HSAME.out k hk)
            go_wp2_with fail
            refine HSW.out.mono ?_
            rintro _ w3 ⟨rfl, ho3, hg3⟩
            have HT3 := hide (HT2.out.swap (by omega) (by omega) ho3 hg3)
            clear ho3 hg3 HSW hmS
            go_wp2_with fail
            go_roundg (n - j1)
            case measure => have := HGK.out; omega
            case rel => exact ⟨j1, Heap.swp l' i j1, rfl, by go_num, by omega, HT3.out, HDN.out, HSA.out⟩
        | true =>
          have HSM := hide (show ∀ k, k < n → 0 < k → Heap.par k = i → ¬ enLt (Heap.at' l' k) (Heap.at' l' j2) from fun k hk hk0 hp => by
            have e : k = j1 ∨ k = j2 := by
              have := HJ1N.out
              have := HJ2N.out
              unfold Heap.par at hp; omega
            rcases e with e | e
            · rw [e]; exact enWeak.anti _ _ (of_decide_eq_true HCO.out)
            · rw [e]; exact enIrr _)
          have hj0 : 0 < j2 := by omega
          have hij : i < j2 := by omega
          have HPJ := hide (show Heap.par j2 = i by have := HJ2N.out; unfold Heap.par; omega)
          have HLE2 := hide (less_at v l' j2 i W B HT1.out.at'.own (by omega) (by omega) hlen)
          have hmL := m_less h v W HT1.out.at'.cell
          generalize hcond2 : decide (enLt (Heap.at' l' j2) (Heap.at' l' i)) = r2 at *
          have HC2 := hide hcond2
          clear hcond2
          go_wp2_with fail
          refine HLE2.out.mono ?_
          rintro _ w2 ⟨rfl, hb2⟩
          have HT2 := hide (HT1.out.below hb2)
          have hmS := m_swap h v w2 HT2.out.at'.cell
          clear hb2 hmL HLE2
          cases r2 with
          | false =>
            have HOK := hide (Heap.down_end HD.out fun k hk hk0 hp => enWeak.trans _ _ _ (of_decide_eq_false HC2.out) (HSM.out k hk hk0 hp))
            go_wp2_with fail
            go_ret
            exact ⟨_, rfl, l', HT2.out, HOK.out, HSAME.out⟩
          | true =>
            have HSW := hide (swap_any v l' i j2 w2 B HT2.out.at'.own (by omega) (by omega) hlen)
            have HDN := hide (Heap.down_step enWeak hnl HD.out (show j2 < n by omega) hj0 HPJ.out (of_decide_eq_true HC2.out) HSM.out)
            have HSA := hide (show ∀ k, n ≤ k → Heap.at' (Heap.swp l' i j2) k = Heap.at' l k from fun k hk => by
              rw [Heap.at_swp (by omega) (by omega), if_neg (by omega), if_neg (by omega)]
              exact HSAME.out k hk)
            go_wp2_with fail
            refine HSW.out.mono ?_
            rintro _ w3 ⟨rfl, ho3, hg3⟩
            have HT3 := hide (HT2.out.swap (by omega) (by omega) ho3 hg3)
            clear ho3 hg3 HSW hmS
            go_wp2_with fail
            go_roundg (n - j2)
            case measure => have := HGK.out; omega
            case rel => exact ⟨j2, Heap.swp l' i j2, rfl, by go_num, by omega, HT3.out, HDN.out, HSA.out⟩
end Go.Proofs.YtenaelkbgkpllaaGreatDoor
/- Push and Pop of the heap. -/
namespace Go.Proofs.YtenaelkbgkpllaaGreatDoor
open Go.RowKit

set_option maxHeartbeats 400000 in
theorem lenE_any (a : Option Addr) (n c : Nat) (w : World) :
    Calls Tryz.prog 114 #[.slice a n c] w fun e w' => e = .returned (I n) ∧ w' = w := by
  go_enter Tryz.func114, Tryz.ntmps114
  go_wp2
  go_ret
  exact ⟨rfl, rfl⟩
theorem heaps_fresh {w : World} {h : Nat} {v v' : Value} (hf : Fresh w v v') : ∀ j, j < w.heap.size → Heaps h v' j → Heaps h v j := fun j hj hh => by
  rcases hh with hh | hh
  · exact .inl hh
  · rcases hf with hf | ⟨g, hf, hg⟩
    · exact .inr (by rw [← hf]; exact hh)
    · rw [hf] at hh
      injection hh with hh
      omega
set_option maxRecDepth 100000 in
set_option maxHeartbeats 4000000 in
theorem heapPush_any (h : Nat) (v : Value) (l : List En) (e : En) (w : World) (B : Nat) (H : HeapAt w h B v l) (hB : B ≤ w.heap.size) (hl : l.length ≤ 90000) (hok : Heap.Ok enLt (Heap.at' l) l.length) :
    Calls Tryz.prog 145 #[Hv h, .iface 166 (Ev e)] w fun r w' => r = .returned (.tuple #[]) ∧ ∃ v' l', HeapAt w' h B v' l' ∧ l'.Perm (l ++ [e]) ∧ Heap.Ok enLt (Heap.at' l') l'.length ∧ Keeps (Heaps h v) w w' ∧ Fresh w v v' := by
  have HP := hide (push_any h v l e w B H hB (by omega))
  have HUP := hide (Heap.up_start (lt := enLt) (x := e) hok)
  have hm := m_push h w
  clear H hok
  go_enter Tryz.func145, Tryz.ntmps145
  go_wp2_with fail
  refine HP.out.mono ?_
  rintro _ w1 ⟨rfl, v1, hh1, hk1, hf1⟩
  have HH1 := hide hh1
  have HK1 := hide hk1
  have HF1 := hide hf1
  have hm1 := m_len h v1 w1 hh1.cell
  obtain ⟨a1, c1, e1⟩ := hh1.own.slice
  rw [List.length_append, List.length_singleton] at e1
  subst e1
  have HLN := hide (lenE_any a1 (l.length + 1) c1 w1)
  have HU := hide (up_any h (.slice a1 (l.length + 1) c1) (l ++ [e]) l.length w1 B HH1.out (by simp; omega) (by rw [List.length_append, List.length_singleton]; exact HUP.out))
  clear hh1 hk1 hf1 hm HP
  go_wp2_with fail
  refine HLN.out.mono ?_
  rintro _ _ ⟨rfl, rfl⟩
  go_wp2_with fail
  refine HU.out.mono ?_
  rintro _ w2 ⟨rfl, l2, hT, hok2⟩
  have HE := hide (show HeapAt w2 h B (.slice a1 (l.length + 1) c1) l2 ∧ l2.Perm (l ++ [e]) ∧ Heap.Ok enLt (Heap.at' l2) l2.length ∧ Keeps (Heaps h v) w w2 ∧ Fresh w v (.slice a1 (l.length + 1) c1) from ⟨hT.at', hT.perm, hok2, HK1.out.trans hT.keeps (heaps_fresh HF1.out), HF1.out⟩)
  clear hT hok2 HU hm1
  go_wp2_with fail
  go_end0
  exact ⟨rfl, _, l2, HE.out⟩
theorem take_last {l : List En} {n : Nat} (h : l.length = n + 1) : l = l.take n ++ [Heap.at' l n] := by
  rw [Heap.at_get (by omega)]
  have : l.drop n = [l[n]] := by
    rw [List.drop_eq_getElem_cons (by omega), List.drop_eq_nil_of_le (by omega)]
  rw [← this, List.take_append_drop]
set_option maxRecDepth 100000 in
set_option maxHeartbeats 4000000 in
theorem heapPop_any (h : Nat) (v : Value) (l : List En) (n : Nat) (w : World) (B : Nat) (H : HeapAt w h B v l) (hn : l.length = n + 1) (hl : n ≤ 90000) (hok : Heap.Ok enLt (Heap.at' l) l.length) :
    Calls Tryz.prog 115 #[Hv h] w fun r w' => ∃ e v' l', r = .returned (.iface 166 (Ev e)) ∧ l.Perm (e :: l') ∧ (∀ x ∈ l', ¬ enLt x e) ∧ HeapAt w' h B v' l' ∧ Heap.Ok enLt (Heap.at' l') l'.length ∧ Keeps (Heaps h v) w w' ∧ v'.ownBlock = v.ownBlock := by
  have hm := m_len h v w H.cell
  have hm2 := m_swap h v w H.cell
  have hm3 := fun W => m_pop h W
  obtain ⟨av, cv, ev⟩ := H.own.slice
  have HT0 := hide (Turned.refl H)
  have HSW := hide (swap_any v l 0 n w B H.own (by omega) (by omega) (by omega))
  rw [hn] at ev
  subst ev
  have HLN := hide (lenE_any av (n + 1) cv w)
  have HDS := hide (Heap.down_start (lt := enLt) hn (by rw [← hn]; exact hok))
  have HLEAST := hide (Heap.first_least enWeak enIrr hok)
  clear H hok
  go_enter Tryz.func115, Tryz.ntmps115
  go_wp2_with fail
  refine HLN.out.mono ?_
  rintro _ w0 ⟨rfl, hw0⟩
  rw [hw0]
  clear hw0
  go_wp2_with fail
  refine HSW.out.mono ?_
  rintro _ w1 ⟨rfl, ho1, hg1⟩
  have HT1 := hide (HT0.out.swap (show 0 < l.length by omega) (show n < l.length by omega) ho1 hg1)
  have HD := hide (down_any h (.slice av (n + 1) cv) (Heap.swp l 0 n) n w1 B HT1.out.at' (by rw [Heap.swp_len]; omega) (by rw [Heap.swp_len]; omega) HDS.out)
  clear ho1 hg1 HSW HLN hm hm2
  go_wp2_with fail
  refine HD.out.mono ?_
  rintro _ w2 ⟨b, rfl, l2, hT2, hok2, hsame⟩
  have hl2 : l2.length = n + 1 := by rw [hT2.perm.length_eq, Heap.swp_len]; exact hn
  have hlast : Heap.at' l2 n = Heap.at' l 0 := by
    rw [hsame n (Nat.le_refl _), Heap.at_swp (by omega) (by omega), if_pos rfl]
  have hl2e := take_last hl2
  rw [hlast] at hl2e
  have hperm : l2.Perm l := hT2.perm.trans (Heap.swp_perm (by omega) (by omega))
  have HPM := hide (show l.Perm (Heap.at' l 0 :: l2.take n) by
    have h1 := List.perm_append_singleton (Heap.at' l 0) (l2.take n)
    rw [← hl2e] at h1
    exact hperm.symm.trans h1)
  have HLE := hide (show ∀ x ∈ l2.take n, ¬ enLt x (Heap.at' l 0) from fun x hx => by
    have hxl : x ∈ l := HPM.out.mem_iff.2 (List.mem_cons_of_mem _ hx)
    obtain ⟨k, hk, rfl⟩ := List.getElem_of_mem hxl
    have h1 := HLEAST.out k hk
    rw [Heap.at_get hk] at h1
    exact h1)
  have HOK := hide (show Heap.Ok enLt (Heap.at' (l2.take n)) (l2.take n).length by
    have h1 : (l2.take n).length = n := by rw [List.length_take]; omega
    rw [h1]
    exact Heap.ok_take hok2 (Nat.le_refl _))
  have HPOP := hide (pop_any h (.slice av (n + 1) cv) (l2.take n) (Heap.at' l 0) w2 B (by rw [← hl2e]; exact hT2.at') (by rw [List.length_take]; omega))
  have HK := hide (HT1.out.keeps.trans hT2.keeps (fun _ _ h => h))
  have hm4 := hm3 w2
  clear hT2 hok2 hsame hl2 hlast hl2e hperm hm3 HD
  generalize l2.take n = l3 at *
  generalize Heap.at' l 0 = e0 at *
  go_wp2_with fail
  refine HPOP.out.mono ?_
  rintro _ w3 ⟨rfl, v3, hh3, hk3, hb3⟩
  have HE := hide (show l.Perm (e0 :: l3) ∧ (∀ x ∈ l3, ¬ enLt x e0) ∧ HeapAt w3 h B v3 l3 ∧ Heap.Ok enLt (Heap.at' l3) l3.length ∧ Keeps (Heaps h (.slice av (n + 1) cv)) w w3 ∧ v3.ownBlock = (Value.slice av (n + 1) cv).ownBlock from ⟨HPM.out, HLE.out, hh3, HOK.out, HK.out.trans hk3 (fun _ _ h => h), hb3⟩)
  clear hh3 hk3 hb3 HPOP hm4
  go_wp2_with fail
  go_ret
  exact ⟨e0, v3, l3, rfl, HE.out⟩
end Go.Proofs.YtenaelkbgkpllaaGreatDoor
/- Which children must be shown to what is nearest. -/
namespace Go.Proofs.YtenaelkbgkpllaaGreatDoor
open Go.RowKit

theorem must_few {q : Ward.Qr} {a : List Ward.Pt} {b : Ward.Box} (h : q.kind = 1) (hl : (a.length : Int) < q.k) : Ward.must q a b = true := by
  unfold Ward.must; rw [if_neg (by omega), if_pos hl]
theorem must_last {q : Ward.Qr} {a : List Ward.Pt} {b : Ward.Box} {p : Ward.Pt} (h : q.kind = 1) (hl : ¬ (a.length : Int) < q.k) (hp : a.getLast? = some p) : Ward.must q a b = decide (Ward.dist b q.x q.y ≤ Ward.dist (Ward.boxOf p) q.x q.y) := by
  unfold Ward.must; rw [if_neg (by omega), if_neg hl, hp]; rfl
set_option maxRecDepth 100000 in
set_option maxHeartbeats 4000000 in
theorem mustShow_few (q : Ward.Qr) (ad : Option Addr) (c : Nat) (a : List Ward.Pt) (b : Ward.Box) (w : World) (hk : q.kind = 1) (hl : (a.length : Int) < q.k) :
    Calls Tryz.prog 42 #[Qv q, .slice ad a.length c, Bx b] w fun e w' => e = .returned (.bool true) ∧ Below w.heap.size w w' := by
  obtain ⟨qk, qa, qb, qc, qd, qx, qy, qn⟩ := q
  simp only at hk hl
  subst hk
  go_enter Tryz.func42, Tryz.ntmps42
  go_wp2
  go_ret
  exact ⟨rfl, ((Below.refl w.heap.size w).alloc (Nat.le_refl _) _).alloc (by simp) _⟩
/-- a query, a box and another as they lie -/
def QryTwo (w : World) (g k j : Nat) (q : Ward.Qr) (b c : Ward.Box) : Prop :=
  (w.cell? ⟨g, 5, none⟩ = some (I q.x) ∧ w.cell? ⟨g, 6, none⟩ = some (I q.y)) ∧ (w.cell? ⟨k, 0, none⟩ = some (I b.a) ∧ w.cell? ⟨k, 1, none⟩ = some (I b.b) ∧ w.cell? ⟨k, 2, none⟩ = some (I b.c) ∧ w.cell? ⟨k, 3, none⟩ = some (I b.d)) ∧ (w.cell? ⟨j, 0, none⟩ = some (I c.a) ∧ w.cell? ⟨j, 1, none⟩ = some (I c.b) ∧ w.cell? ⟨j, 2, none⟩ = some (I c.c) ∧ w.cell? ⟨j, 3, none⟩ = some (I c.d))
theorem QryTwo.below {w w' : World} {g k j B : Nat} {q : Ward.Qr} {b c : Ward.Box} (h : QryTwo w g k j q b c) (hb : Below B w w') (hg : g < B) (hk : k < B) (hj : j < B) : QryTwo w' g k j q b c :=
  ⟨⟨(hb.cell (p := ⟨g, 5, none⟩) hg).trans h.1.1, (hb.cell (p := ⟨g, 6, none⟩) hg).trans h.1.2⟩,
   ⟨(hb.cell (p := ⟨k, 0, none⟩) hk).trans h.2.1.1, (hb.cell (p := ⟨k, 1, none⟩) hk).trans h.2.1.2.1, (hb.cell (p := ⟨k, 2, none⟩) hk).trans h.2.1.2.2.1, (hb.cell (p := ⟨k, 3, none⟩) hk).trans h.2.1.2.2.2⟩,
   ⟨(hb.cell (p := ⟨j, 0, none⟩) hj).trans h.2.2.1, (hb.cell (p := ⟨j, 1, none⟩) hj).trans h.2.2.2.1, (hb.cell (p := ⟨j, 2, none⟩) hj).trans h.2.2.2.2.1, (hb.cell (p := ⟨j, 3, none⟩) hj).trans h.2.2.2.2.2⟩⟩
theorem QryTwo.drew {w : World} {g k j : Nat} {q : Ward.Qr} {b c : Ward.Box} (h : QryTwo w g k j q b c) : QryTwo w.drew g k j q b c := by simpa [QryTwo] using h
theorem boxOf_in {p : Ward.Pt} (h : p.Ok) : (Ward.boxOf p).In := ⟨h.x1, h.x2, h.y1, h.y2, h.x1, h.x2, h.y1, h.y2⟩
set_option maxRecDepth 100000 in
set_option maxHeartbeats 4000000 in
theorem mustShow_last (q : Ward.Qr) (g o c : Nat) (a : List Ward.Pt) (p : Ward.Pt) (b : Ward.Box) (w : World) (hk : q.kind = 1) (hl : ¬ (a.length : Int) < q.k) (hl0 : 0 < a.length) (hl2 : a.length ≤ 1000) (hp : PtAt w g (o + (a.length - 1) * 3) p) (hok : p.Ok) (hb : b.In) (hx : -1000000 ≤ q.x ∧ q.x ≤ 1000000) (hy : -1000000 ≤ q.y ∧ q.y ≤ 1000000) :
    Calls Tryz.prog 42 #[Qv q, .slice (some ⟨g, o, none⟩) a.length c, Bx b] w fun e w' => e = .returned (.bool (decide (Ward.dist b q.x q.y ≤ Ward.dist (Ward.boxOf p) q.x q.y))) ∧ Below w.heap.size w w' := by
  have hglt := hp.lt
  have HDB := hide (fun W => distance_any b q.x q.y W hb hx hy)
  have HDP := hide (fun W => distance_any (Ward.boxOf p) q.x q.y W (boxOf_in hok) hx hy)
  clear hok hb hx hy
  obtain ⟨qk, qa, qb, qc, qd, qx, qy, qn⟩ := q
  simp only at hk hl HDB HDP
  subst hk
  have hb2 := fun o o' => ((Below.refl w.heap.size w).alloc (Nat.le_refl _) o).alloc (by simp) o'
  have hr2 := heap_alloc2_new w
  have hr1 := heap_alloc2_old w
  have hs2 := fun o o' => show ((w.alloc o).alloc o').heap.size = w.heap.size + 2 by simp
  go_enter Tryz.func42, Tryz.ntmps42
  go_upto_region 3 with fail
  generalize hW : World.alloc (World.alloc w _) _ = w1
  have hb1 : Below w.heap.size w w1 := by rw [← hW]; exact hb2 _ _
  have hq1 : w1.heap[w.heap.size]? = some (.cells #[I 1, I qa, I qb, I qc, I qd, I qx, I qy, I qn] 46 (0, 0)) := by rw [← hW]; exact hr1 _ _
  have hx1 : w1.heap[w.heap.size + 1]? = some (.cells #[I b.a, I b.b, I b.c, I b.d] 88 (0, 0)) := by rw [← hW]; exact hr2 _ _
  have hs1 : w.heap.size + 2 ≤ w1.heap.size := by rw [← hW, hs2]; exact Nat.le_refl _
  clear hb2 hr1 hr2 hs2 hW
  have HB1 := hide hb1
  have HQ1 := hide hq1
  have HX1 := hide hx1
  obtain ⟨k0, k1, k2, k3, k4, k5, k6, k7⟩ := rowQ8 hq1
  have hp1 := hp.below hb1 hglt
  have e1 : ((a.length - 1 : Nat) : Int) = (a.length : Int) - 1 := by omega
  have HI := hide e1
  obtain ⟨p1, p2, p3⟩ := hp1
  have hl' : ¬ (a.length : Int) < qn := hl
  clear hb1 hq1 hx1 e1 hp
  have hix : ((a.length : Int) - 1).toNat = a.length - 1 := by omega
  go_wp2_with fail
  refine (boxOf_any p _).mono ?_
  rintro _ w2 ⟨rfl, hb2⟩
  have hs2 := hb2.size
  have HB2 := hide (HB1.out.trans (hb2.mono (by omega)))
  have HQ2 := hide ((hb2.block w.heap.size (by omega)).trans HQ1.out)
  have HX2 := hide ((hb2.block (w.heap.size + 1) (by omega)).trans HX1.out)
  clear hb2 k0 k1 k2 k3 k4 k5 k6 k7 p1 p2 p3
  have hr3' := heap_alloc_new w2
  have hb3' := fun o => (Below.refl w2.heap.size w2).alloc (Nat.le_refl _) o
  have hs3' := fun o => show (w2.alloc o).heap.size = w2.heap.size + 1 by simp
  go_upto_region 6 with fail
  generalize hW : World.alloc w2 _ = w3
  have hb3 : Below w2.heap.size w2 w3 := by rw [← hW]; exact hb3' _
  have hr3 : w3.heap[w2.heap.size]? = some (.cells #[I (Ward.boxOf p).a, I (Ward.boxOf p).b, I (Ward.boxOf p).c, I (Ward.boxOf p).d] 88 (0, 0)) := by rw [← hW]; exact hr3' _
  have hs3 : w2.heap.size + 1 ≤ w3.heap.size := by rw [← hW, hs3']; exact Nat.le_refl _
  clear hb3' hr3' hs3' hW
  have HB3 := hide (HB2.out.trans (hb3.mono (by omega)))
  obtain ⟨-, -, -, -, -, q5, q6, -⟩ := rowQ8 ((hb3.block w.heap.size (by omega)).trans HQ2.out)
  have hS : QryTwo w3 w.heap.size (w.heap.size + 1) w2.heap.size ⟨1, qa, qb, qc, qd, qx, qy, qn⟩ b (Ward.boxOf p) := ⟨⟨q5, q6⟩, row4 ((hb3.block (w.heap.size + 1) (by omega)).trans HX2.out), row4 hr3⟩
  have HS := hide hS
  clear hb3 hr3 q5 q6
  have HRW := hide (show decide (Ward.dist b qx qy ≤ Ward.dist (Ward.boxOf p) qx qy) = decide (Ward.dist b qx qy ≤ Ward.dist (Ward.boxOf p) qx qy) from rfl)
  generalize hbp : Ward.boxOf p = bp at *
  have HBP := hide hbp
  generalize hd1 : Ward.dist b qx qy = d1 at *
  have HD1 := hide hd1
  generalize hd2 : Ward.dist bp qx qy = d2 at *
  have HD2 := hide hd2
  clear hbp hd1 hd2 HRW
  obtain ⟨ba, bb, bc, bd⟩ := b
  obtain ⟨ca, cb, cc, cd⟩ := bp
  go_region_held3 (fun W => (W.cell? ⟨w.heap.size, 5, none⟩ = some (I qx) ∧ W.cell? ⟨w.heap.size, 6, none⟩ = some (I qy)) ∧ (W.cell? ⟨w.heap.size + 1, 0, none⟩ = some (I ba) ∧ W.cell? ⟨w.heap.size + 1, 1, none⟩ = some (I bb) ∧ W.cell? ⟨w.heap.size + 1, 2, none⟩ = some (I bc) ∧ W.cell? ⟨w.heap.size + 1, 3, none⟩ = some (I bd)) ∧ (W.cell? ⟨w2.heap.size, 0, none⟩ = some (I ca) ∧ W.cell? ⟨w2.heap.size, 1, none⟩ = some (I cb) ∧ W.cell? ⟨w2.heap.size, 2, none⟩ = some (I cc) ∧ W.cell? ⟨w2.heap.size, 3, none⟩ = some (I cd))) (first | assumption | exact hS | exact hS.drew) ((first | (go_at_call_of 80 (I ba); refine (HDB.out _).mono ?_; rintro _ w6 ⟨rfl, hb6⟩; first | (have hS6 := HS.out.drew.below hb6 (by simp; omega) (by simp; omega) (by simp; omega); have hs6 : w3.heap.size ≤ w6.heap.size := hb6.size) | (have hs6 := hb6.size; have hS6 := hS7.below hb6 (by omega) (by omega) (by omega))) | (go_at_call_of 80 (I ca); refine (HDP.out _).mono ?_; rintro _ w7 ⟨rfl, hb7⟩; first | (have hs7 := hb7.size; have hS7 := hS6.below hb7 (by omega) (by omega) (by omega)) | (have hS7 := HS.out.drew.below hb7 (by simp; omega) (by simp; omega) (by simp; omega); have hs7 : w3.heap.size ≤ w7.heap.size := hb7.size))))
  go_wp2
  go_ret
  refine ⟨by rw [HBP.out, HD1.out, HD2.out]; rfl, (HB3.out.drew.trans (hb6.mono ?_)).trans (hb7.mono ?_)⟩
  · show w.heap.size ≤ w3.heap.size
    omega
  · omega
end Go.Proofs.YtenaelkbgkpllaaGreatDoor
/- What stands right below a node, put onto the heap: the points. -/
namespace Go.Proofs.YtenaelkbgkpllaaGreatDoor
open Go.RowKit

/-- the entry of a point -/
def ptEn (x y : Int) (p : Ward.Pt) : En := ⟨Ward.distP p x y, none, p⟩
/-- the entry of a child -/
def kidEn (x y : Int) (g o : Nat) (n : Nat) (c : Ward.NT n) (i : Nat) : En := ⟨Ward.dist (Ward.boxN n c) x y, some ⟨g, o + i * 39, none⟩, ⟨0, 0, 0⟩⟩
/-- a heap with some more -/
structure Grew (w w' : World) (h B : Nat) (v v' : Value) (l l' : List En) : Prop where
  at' : HeapAt w' h B v' l'
  perm : l'.Perm l
  ok : Heap.Ok enLt (Heap.at' l') l'.length
  keeps : Keeps (Heaps h v) w w'
  fresh : Fresh w v v'
theorem Grew.below {w w' w'' : World} {h B : Nat} {v v' : Value} {l l' : List En} (H : Grew w w' h B v v' l l') (hb : Below w'.heap.size w' w'') : Grew w w'' h B v v' l l' := ⟨H.at'.below hb, H.perm, H.ok, H.keeps.trans (Keeps.of_below (S := Heaps h v) hb) (fun _ _ h => h), H.fresh⟩
theorem Grew.push {w w' w'' : World} {h B : Nat} {v v' v'' : Value} {l l' l'' : List En} {e : En} (H : Grew w w' h B v v' l l') (h1 : HeapAt w'' h B v'' l'') (h2 : l''.Perm (l' ++ [e])) (h3 : Heap.Ok enLt (Heap.at' l'') l''.length) (h4 : Keeps (Heaps h v') w' w'') (h5 : Fresh w' v' v'') : Grew w w'' h B v v'' (l ++ [e]) l'' :=
  ⟨h1, h2.trans (H.perm.append_right [e]), h3, H.keeps.trans h4 (fun j hj hh => heaps_fresh H.fresh j hj hh), fresh_trans H.fresh H.keeps.size h5⟩
/-- what the round of a point reads -/
def PtQry (w : World) (k g : Nat) (p : Ward.Pt) (x y : Int) : Prop := (w.cell? ⟨k, 0, none⟩ = some (I p.id) ∧ w.cell? ⟨k, 1, none⟩ = some (I p.x) ∧ w.cell? ⟨k, 2, none⟩ = some (I p.y)) ∧ w.cell? ⟨g, 5, none⟩ = some (I x) ∧ w.cell? ⟨g, 6, none⟩ = some (I y)
theorem PtQry.below {w w' : World} {k g B : Nat} {p : Ward.Pt} {x y : Int} (h : PtQry w k g p x y) (hb : Below B w w') (hk : k < B) (hg : g < B) : PtQry w' k g p x y :=
  ⟨⟨(hb.cell (p := ⟨k, 0, none⟩) hk).trans h.1.1, (hb.cell (p := ⟨k, 1, none⟩) hk).trans h.1.2.1, (hb.cell (p := ⟨k, 2, none⟩) hk).trans h.1.2.2⟩, (hb.cell (p := ⟨g, 5, none⟩) hg).trans h.2.1, (hb.cell (p := ⟨g, 6, none⟩) hg).trans h.2.2⟩
theorem PtQry.drew {w : World} {k g : Nat} {p : Ward.Pt} {x y : Int} (h : PtQry w k g p x y) : PtQry w.drew k g p x y := by simpa [PtQry] using h
theorem Keeps.cell {S : Nat → Prop} {w w' : World} (hk : Keeps S w w') {g o : Nat} {v : Value} (hg : ¬ S g) (hc : w.cell? ⟨g, o, none⟩ = some v) : w'.cell? ⟨g, o, none⟩ = some v :=
  (World.cell?_of_block (w := w) (a := ⟨g, o, none⟩) (hk.block g (block_lt_of_cell hc) hg)).trans hc
theorem PtQry.keeps {S : Nat → Prop} {w w' : World} {k g : Nat} {p : Ward.Pt} {x y : Int} (h : PtQry w k g p x y) (hk : Keeps S w w') (h1 : ¬ S k) (h2 : ¬ S g) : PtQry w' k g p x y :=
  ⟨⟨hk.cell h1 h.1.1, hk.cell h1 h.1.2.1, hk.cell h1 h.1.2.2⟩, hk.cell h2 h.2.1, hk.cell h2 h.2.2⟩
/-- what the round of a child reads -/
def KdQry (w : World) (k o g : Nat) (b : Ward.Box) (x y : Int) : Prop := (w.cell? ⟨k, o + 2, none⟩ = some (I b.a) ∧ w.cell? ⟨k, o + 3, none⟩ = some (I b.b) ∧ w.cell? ⟨k, o + 4, none⟩ = some (I b.c) ∧ w.cell? ⟨k, o + 5, none⟩ = some (I b.d)) ∧ w.cell? ⟨g, 5, none⟩ = some (I x) ∧ w.cell? ⟨g, 6, none⟩ = some (I y)
theorem KdQry.below {w w' : World} {k o g B : Nat} {b : Ward.Box} {x y : Int} (h : KdQry w k o g b x y) (hb : Below B w w') (hk : k < B) (hg : g < B) : KdQry w' k o g b x y :=
  ⟨⟨(hb.cell (p := ⟨k, o + 2, none⟩) hk).trans h.1.1, (hb.cell (p := ⟨k, o + 3, none⟩) hk).trans h.1.2.1, (hb.cell (p := ⟨k, o + 4, none⟩) hk).trans h.1.2.2.1, (hb.cell (p := ⟨k, o + 5, none⟩) hk).trans h.1.2.2.2⟩, (hb.cell (p := ⟨g, 5, none⟩) hg).trans h.2.1, (hb.cell (p := ⟨g, 6, none⟩) hg).trans h.2.2⟩
theorem KdQry.drew {w : World} {k o g : Nat} {b : Ward.Box} {x y : Int} (h : KdQry w k o g b x y) : KdQry w.drew k o g b x y := by simpa [KdQry] using h
theorem KdQry.keeps {S : Nat → Prop} {w w' : World} {k o g : Nat} {b : Ward.Box} {x y : Int} (h : KdQry w k o g b x y) (hk : Keeps S w w') (h1 : ¬ S k) (h2 : ¬ S g) : KdQry w' k o g b x y :=
  ⟨⟨hk.cell h1 h.1.1, hk.cell h1 h.1.2.1, hk.cell h1 h.1.2.2.1, hk.cell h1 h.1.2.2.2⟩, hk.cell h2 h.2.1, hk.cell h2 h.2.2⟩
theorem ownE_other {w : World} {B g : Nat} {v : Value} {l : List En} {c : Array Value} {ty : Nat} {fr : Nat × Nat} (h : OwnE w B v l) (hg : w.heap[g]? = some (Obj.cells c ty fr)) (ht : ty ≠ 166) : v.ownBlock ≠ some g := fun e => by
  rcases h.2 with ⟨rfl, _⟩ | ⟨g', cap, cur, rfl, _, hg', _⟩
  · cases e
  · injection e with e
    have e' : g' = g := e
    subst e'
    rw [hg] at hg'
    injection hg' with hg'
    injection hg' with _ h2 _
    exact ht h2
theorem built_en (d : Int) (p : Ward.Pt) : Tryz.prog.built 166 [(0, I d), (2, .agg #[I p.id, I p.x, I p.y])] = some #[I d, .pointer none, I p.id, I p.x, I p.y] := by kernel_rfl
/-- the entries of children -/
def kidsEn (x y : Int) (g o n : Nat) (K : List (Ward.NT n)) : List En := K.mapIdx (fun i c => kidEn x y g o n c i)
theorem kidsEn_step (x y : Int) (g o n : Nat) (K : List (Ward.NT n)) (i : Nat) (h : i < K.length) : kidsEn x y g o n (K.take (i + 1)) = kidsEn x y g o n (K.take i) ++ [kidEn x y g o n K[i] i] := by
  unfold kidsEn
  rw [List.take_succ_eq_append_getElem h, List.mapIdx_concat, List.length_take, Nat.min_eq_left (by omega)]
theorem range_cell {w : World} {g o : Nat} {U : List Value} (h : w.rangeAt g o U) {j : Nat} {v : Value} (hj : U[j]? = some v) : w.cell? ⟨g, o + j, none⟩ = some v := h j v hj
theorem Keeps.same {S : Nat → Prop} {w w' : World} {h B : Nat} {v : Value} {l : List En} (hk : Keeps (Heaps h v) w w') (hS : ∀ g, S g → g < B) (hhB : B ≤ h) (hB : B ≤ w.heap.size) (ho : OwnE w B v l) : Same S w w' := fun g hg => hk.block g (Nat.lt_of_lt_of_le (hS g hg) hB) (fun e => by
  have := hS g hg
  rcases e with e | e
  · omega
  · have := (ho.lt e.symm).1; omega)
set_option maxRecDepth 100000 in
set_option maxHeartbeats 4000000 in
theorem open_any (h : Nat) (v : Value) (l : List En) (g o n : Nat) (t : Ward.NT (n + 1)) (U : List Value) (q : Ward.Qr) (w : World) (B : Nat) (S : Nat → Prop) (hS : ∀ g, S g → g < B) (hhB : B ≤ h) (hB : B ≤ w.heap.size) (H : HeapAt w h B v l) (hok : Heap.Ok enLt (Heap.at' l) l.length)
    (hN : NodeIs w S (n + 1) t U) (hg : S g) (hU : w.rangeAt g o U) (hfew : Ward.Few (n + 1) t) (hin : Ward.InN (n + 1) t) (hpt : ∀ p ∈ Ward.Nd.pts t, p.Ok) (hl : l.length ≤ 80000) (hx : -1000000 ≤ q.x ∧ q.x ≤ 1000000) (hy : -1000000 ≤ q.y ∧ q.y ≤ 1000000) :
    Calls Tryz.prog 116 #[.pointer (some ⟨h, 0, none⟩), .pointer (some ⟨g, o, none⟩), Qv q] w fun r w' => r = .returned (.tuple #[]) ∧ ∃ v' l' gc oc, Grew w w' h B v v' (l ++ ((Ward.Nd.pts t).map (ptEn q.x q.y) ++ kidsEn q.x q.y gc oc n (Ward.Nd.kids t))) l' ∧ (Ward.Nd.kids t ≠ [] → S gc) ∧ ∀ i (h : i < (Ward.Nd.kids t).length), ∃ V, NodeIs w S n (Ward.Nd.kids t)[i] V ∧ w.rangeAt gc (oc + i * 39) V := by
  obtain ⟨vp, vc, hVe, -, ⟨ap, cp, rfl, hpts⟩, ⟨ac, cc, rfl, hkids⟩⟩ := hN
  have hp4 : (Ward.Nd.pts t).length ≤ 4 := hfew.1
  have hk4 : (Ward.Nd.kids t).length ≤ 4 := hfew.2.1
  have HU0 := hide (range_cell hU (j := 0) (v := .slice ap (Ward.Nd.pts t).length cp) (by rw [hVe]; rfl))
  have HU1 := hide (range_cell hU (j := 1) (v := .slice ac (Ward.Nd.kids t).length cc) (by rw [hVe]; rfl))
  have hgB := hS g hg
  have HS := hide hS
  have HPT := hide hpts
  have HKD := hide hkids
  have HPO := hide hpt
  have HIN := hide hin
  have HX := hide hx
  have HY := hide hy
  have HGS := hide hg
  have HH := hide H
  have HG0 := hide (show Grew w w h B v v l l from ⟨H, List.Perm.refl _, hok, Keeps.refl _ _, .inl rfl⟩)
  clear hVe hpts hkids hpt hin hU hS H hok hfew hx hy hg
  have hb2 := fun o => (Below.refl w.heap.size w).alloc (Nat.le_refl _) o
  have hr2 := heap_alloc_new w
  have hs2 := fun o => show (w.alloc o).heap.size = w.heap.size + 1 by simp
  obtain ⟨qk, qa, qb, qc, qd, qx, qy, qn⟩ := q
  simp only at HX HY ⊢
  go_enter Tryz.func116, Tryz.ntmps116
  go_upto_region 1 with fail
  generalize hW : World.alloc w _ = w1
  have hb1 : Below w.heap.size w w1 := by rw [← hW]; exact hb2 _
  have hr1 : w1.heap[w.heap.size]? = some (.cells #[I qk, I qa, I qb, I qc, I qd, I qx, I qy, I qn] 46 (0, 0)) := by rw [← hW]; exact hr2 _
  have hs1 : w.heap.size + 1 ≤ w1.heap.size := by rw [← hW, hs2]; exact Nat.le_refl _
  clear hb2 hr2 hs2 hW
  have HB1 := hide hb1
  have HR1 := hide hr1
  have HG1 := hide (HG0.out.below hb1)
  have c0 := (hb1.cell (p := ⟨g, o + 0, none⟩) (show g < w.heap.size by omega)).trans HU0.out
  simp only [Nat.add_zero] at c0
  clear hb1 hr1 HG0
  go_wp2_with fail
  go_loopg [15] (Ward.Nd.pts t).length (fun gk v15 wq => ∃ (i : Nat) (v' : Value) (l' : List En), gk = (Ward.Nd.pts t).length - i ∧ v15 = I i ∧ i ≤ (Ward.Nd.pts t).length ∧ Grew w wq h B v v' (l ++ ((Ward.Nd.pts t).take i).map (ptEn qx qy)) l' ∧ wq.heap[w.heap.size]? = some (.cells #[I qk, I qa, I qb, I qc, I qd, I qx, I qy, I qn] 46 (0, 0)))
  case atStart => exact ⟨0, v, l, rfl, rfl, by omega, by simpa using HG1.out, HR1.out⟩
  case round =>
    clear HG1 HR1 c0
    obtain ⟨i, v', l', hgk, rfl, hi, hG, hR⟩ := hrel
    have HGK := hide hgk
    have HG := hide hG
    have HR := hide hR
    have hwr := hG.keeps.size
    have hlw : w.heap.size < wr.heap.size := (Array.getElem?_eq_some_iff.1 hR).1
    have HSM := hide (Keeps.same hG.keeps HS.out hhB hB HH.out.own)
    have hl' : l'.length = l.length + i := by
      rw [hG.perm.length_eq, List.length_append, List.length_map, List.length_take]; omega
    clear hgk hG hR
    by_cases hlt : i < (Ward.Nd.pts t).length
    · obtain ⟨gp, op, rfl, hgpS, hpp⟩ := HPT.out (fun e => by rw [e] at hlt; simp at hlt)
      have hpi := (hpp i hlt).block (w' := wr) (HSM.out gp hgpS)
      have hpok := HPO.out _ (List.getElem_mem hlt)
      have HT := hide (show l ++ ((Ward.Nd.pts t).take (i + 1)).map (ptEn qx qy) = (l ++ ((Ward.Nd.pts t).take i).map (ptEn qx qy)) ++ [ptEn qx qy (Ward.Nd.pts t)[i]] by rw [List.take_succ_eq_append_getElem hlt, List.map_append, List.append_assoc]; rfl)
      clear hpp
      generalize (Ward.Nd.pts t)[i] = p at *
      generalize l ++ ((Ward.Nd.pts t).take i).map (ptEn qx qy) = M at *
      have hll : l'.length ≤ 80004 := by omega
      clear hl'
      obtain ⟨p1, p2, p3⟩ := hpi
      go_upto_region 4 with fail
      have hb5' := fun o => (Below.refl wr.heap.size wr).alloc (Nat.le_refl _) o
      have hr5' := heap_alloc_new wr
      have hs5' := fun o => show (wr.alloc o).heap.size = wr.heap.size + 1 by simp
      generalize hW : World.alloc wr _ = w5
      have hb5 : Below wr.heap.size wr w5 := by rw [← hW]; exact hb5' _
      have hr5 : w5.heap[wr.heap.size]? = some (.cells #[I p.id, I p.x, I p.y] 36 (0, 0)) := by rw [← hW]; exact hr5' _
      have hs5 : wr.heap.size + 1 ≤ w5.heap.size := by rw [← hW, hs5']; exact Nat.le_refl _
      clear hb5' hr5' hs5' hW
      have HG5 := hide (HG.out.below hb5)
      obtain ⟨-, -, -, -, -, q5, q6, -⟩ := rowQ8 ((hb5.block w.heap.size (by omega)).trans HR.out)
      have hS5 : PtQry w5 wr.heap.size w.heap.size p qx qy := ⟨row3 hr5, q5, q6⟩
      have HS5 := hide hS5
      have HR5 := hide ((hb5.block w.heap.size (by omega)).trans HR.out)
      have HDI := hide (fun W => distance_any (Ward.boxOf p) qx qy W (boxOf_in hpok) HX.out HY.out)
      have HPE := hide (show ptEn qx qy p = ⟨Ward.dist (Ward.boxOf p) qx qy, none, p⟩ from rfl)
      have HPU := hide (fun (W : World) (hb : Below w5.heap.size w5 W) => heapPush_any h v' l' (ptEn qx qy p) W B (HG5.out.at'.below hb) (by have := hb.size; omega) (by omega) HG5.out.ok)
      have HNA := hide (show ¬ Heaps h v' wr.heap.size ∧ ¬ Heaps h v' w.heap.size from ⟨fun e => by
        have hhw := HH.out.lt
        rcases e with e | e
        · omega
        · have := (HG.out.at'.own.lt e.symm).2; omega, fun e => by
        have hhw := HH.out.lt
        rcases e with e | e
        · omega
        · exact ownE_other HG.out.at'.own HR.out (by decide) e.symm⟩)
      clear hb5 hr5 q5 q6 p1 p2 p3
      rw [HPE.out] at HPU
      generalize Ward.dist (Ward.boxOf p) qx qy = dd at *
      have HBO := hide (fun W => boxOf_any p W)
      generalize Ward.boxOf p = bp at *
      obtain ⟨pi, px, py⟩ := p
      simp only at *
      go_region_held3 (fun W => (W.cell? ⟨wr.heap.size, 0, none⟩ = some (I pi) ∧ W.cell? ⟨wr.heap.size, 1, none⟩ = some (I px) ∧ W.cell? ⟨wr.heap.size, 2, none⟩ = some (I py)) ∧ W.cell? ⟨w.heap.size, 5, none⟩ = some (I qx) ∧ W.cell? ⟨w.heap.size, 6, none⟩ = some (I qy)) (first | assumption | exact hS5 | exact HS5.out.drew) ((first | (go_at_call 79; refine (HBO.out _).mono ?_; rintro _ w6 ⟨rfl, hb6⟩; have hs6 : w5.heap.size ≤ w6.heap.size := hb6.size; have hS6 := HS5.out.drew.below hb6 (by simp; omega) (by simp; omega)) | (go_at_call 80; refine (HDI.out _).mono ?_; rintro _ w7 ⟨rfl, hb7⟩; have hs7 := hb7.size; have hS7 := hS6.below hb7 (by omega) (by omega)) | (go_at_call 145; refine (HPU.out _ ((((Below.refl w5.heap.size w5).drew).trans hb6).trans (hb7.mono hs6))).mono ?_; rintro _ w8 ⟨rfl, v8, l8, hh8, hp8, ho8, hk8, hf8⟩; have hS8 := hS7.keeps hk8 HNA.out.1 HNA.out.2)))
      have HB7 := hide (show Below w5.heap.size w5 w7 from (((Below.refl w5.heap.size w5).drew).trans hb6).trans (hb7.mono hs6))
      have HR8 := hide ((hk8.block w.heap.size (by omega) HNA.out.2).trans ((HB7.out.block w.heap.size (by omega)).trans HR5.out))
      have HG8 := hide ((HG5.out.below HB7.out).push hh8 hp8 ho8 hk8 hf8)
      clear hb6 hb7 hh8 hp8 ho8 hk8 hf8 hS5 hS6 hS7 hS8 hs6 hs7
      go_wp2_with fail
      go_roundg ((Ward.Nd.pts t).length - (i + 1))
      case measure => have := HGK.out; omega
      case rel =>
        refine ⟨i + 1, v8, l8, rfl, by go_num, hlt, ?_, HR8.out⟩
        rw [HT.out, HPE.out]
        exact HG8.out
    · have ei : i = (Ward.Nd.pts t).length := by omega
      subst ei
      rw [List.take_length] at HG
      obtain ⟨wx, hwx⟩ : ∃ wx, wx = wr := ⟨_, rfl⟩
      subst hwx
      obtain ⟨vx, hvx⟩ : ∃ vx, vx = v' := ⟨_, rfl⟩
      subst hvx
      obtain ⟨lx, hlx⟩ : ∃ lx, lx = l' := ⟨_, rfl⟩
      subst hlx
      have HU1x := hide ((World.cell?_of_block (w := w) (a := ⟨g, o + 1, none⟩) (HSM.out g HGS.out)).trans HU1.out)
      generalize hME : l ++ (Ward.Nd.pts t).map (ptEn qx qy) = M at *
      have HME := hide hME
      have hlx' : lx.length ≤ 80004 := by omega
      clear hME hl' hi hlt HGK HPT
      have cx := HU1x.out
      have HKD2 := hide (show ∃ gc oc, (Ward.Nd.kids t ≠ [] → ac = some ⟨gc, oc, none⟩ ∧ S gc) ∧ ∀ i (h : i < (Ward.Nd.kids t).length), ∃ V, NodeIs w S n (Ward.Nd.kids t)[i] V ∧ w.rangeAt gc (oc + i * 39) V by
        by_cases hk0 : Ward.Nd.kids t = []
        · exact ⟨0, 0, fun e => absurd hk0 e, fun i h => by rw [hk0] at h; simp at h⟩
        · obtain ⟨gc, oc, e, hgcS, hrows⟩ := HKD.out hk0
          exact ⟨gc, oc, fun _ => ⟨e, hgcS⟩, hrows⟩)
      obtain ⟨gc, oc, hac, hrows⟩ := HKD2.out
      have HAC := hide hac
      have HRW := hide hrows
      clear hac hrows HKD HKD2
      go_wp2_with fail
      go_loopg [38] (Ward.Nd.kids t).length (fun gk v38 wq => ∃ (i : Nat) (v' : Value) (l' : List En), gk = (Ward.Nd.kids t).length - i ∧ v38 = I i ∧ i ≤ (Ward.Nd.kids t).length ∧ Grew w wq h B v v' (M ++ kidsEn qx qy gc oc n ((Ward.Nd.kids t).take i)) l' ∧ wq.heap[w.heap.size]? = some (.cells #[I qk, I qa, I qb, I qc, I qd, I qx, I qy, I qn] 46 (0, 0)))
      case atStart => exact ⟨0, vx, lx, rfl, rfl, by omega, by rw [List.take_zero]; show Grew w wx h B v vx (M ++ []) lx; rw [List.append_nil]; exact HG.out, HR.out⟩
      case round =>
        clear HG HR HSM HU1x cx hwr hlw hlx'
        obtain ⟨i, v', l', hgk, rfl, hi, hG, hR⟩ := hrel
        have HGK := hide hgk
        have HG := hide hG
        have HR := hide hR
        have hwr := hG.keeps.size
        have hlw : w.heap.size < wr.heap.size := (Array.getElem?_eq_some_iff.1 hR).1
        have HSM := hide (Keeps.same hG.keeps HS.out hhB hB HH.out.own)
        have hl' : l'.length ≤ 80008 := by
          rw [hG.perm.length_eq, List.length_append, ← HME.out, List.length_append, List.length_map]
          unfold kidsEn
          rw [List.length_mapIdx, List.length_take]; omega
        have cx := (World.cell?_of_block (w := w) (a := ⟨g, o + 1, none⟩) (HSM.out g HGS.out)).trans HU1.out
        clear hgk hG hR
        by_cases hlt : i < (Ward.Nd.kids t).length
        · obtain ⟨rfl, hgcS⟩ := HAC.out (fun e => by rw [e] at hlt; simp at hlt)
          obtain ⟨V, hV, hc⟩ := HRW.out i hlt
          have hcr := rangeAt_block hc (HSM.out gc hgcS)
          obtain ⟨d1, m1, e1, d2, m2, e2, hVV, hd⟩ := hV.cells
          have b0 := range_cell hcr (j := 2) (v := I (Ward.boxN n (Ward.Nd.kids t)[i]).a) (by rw [hVV]; rfl)
          have b1 := range_cell hcr (j := 3) (v := I (Ward.boxN n (Ward.Nd.kids t)[i]).b) (by rw [hVV]; rfl)
          have b2 := range_cell hcr (j := 4) (v := I (Ward.boxN n (Ward.Nd.kids t)[i]).c) (by rw [hVV]; rfl)
          have b3 := range_cell hcr (j := 5) (v := I (Ward.boxN n (Ward.Nd.kids t)[i]).d) (by rw [hVV]; rfl)
          have hbi := (HIN.out _ (List.getElem_mem hlt)).1
          have HT := hide (show M ++ kidsEn qx qy gc oc n ((Ward.Nd.kids t).take (i + 1)) = (M ++ kidsEn qx qy gc oc n ((Ward.Nd.kids t).take i)) ++ [kidEn qx qy gc oc n (Ward.Nd.kids t)[i] i] by rw [kidsEn_step _ _ _ _ _ _ _ hlt, List.append_assoc])
          have HKE := hide (show kidEn qx qy gc oc n (Ward.Nd.kids t)[i] i = ⟨Ward.dist (Ward.boxN n (Ward.Nd.kids t)[i]) qx qy, some ⟨gc, oc + i * 39, none⟩, ⟨0, 0, 0⟩⟩ from rfl)
          have hgcl : gc < w.heap.size := by have := HS.out gc hgcS; omega
          clear hVV hd hcr hV hc
          generalize kidEn qx qy gc oc n (Ward.Nd.kids t)[i] i = ke at *
          generalize Ward.boxN n (Ward.Nd.kids t)[i] = bk at *
          generalize M ++ kidsEn qx qy gc oc n ((Ward.Nd.kids t).take i) = N at *
          have HDI := hide (fun W => distance_any bk qx qy W hbi HX.out HY.out)
          have HPU := hide (fun (W : World) (hb : Below wr.heap.size wr W) => heapPush_any h v' l' ke W B (HG.out.at'.below hb) (by have := hb.size; omega) (by omega) HG.out.ok)
          rw [HKE.out] at HPU
          generalize Ward.dist bk qx qy = dd at *
          go_upto_region 10 with fail
          obtain ⟨-, -, -, -, -, q5, q6, -⟩ := rowQ8 HR.out
          have hS5 : KdQry wr gc (oc + i * 39) w.heap.size bk qx qy := ⟨⟨b0, b1, b2, b3⟩, q5, q6⟩
          have HS5 := hide hS5
          have HNA := hide (show ¬ Heaps h v' gc ∧ ¬ Heaps h v' w.heap.size from ⟨fun e => by
            have hhw := HS.out gc hgcS
            rcases e with e | e
            · omega
            · have := (HG.out.at'.own.lt e.symm).1; omega, fun e => by
            have hhw := HH.out.lt
            rcases e with e | e
            · omega
            · exact ownE_other HG.out.at'.own HR.out (by decide) e.symm⟩)
          clear q5 q6 b0 b1 b2 b3
          obtain ⟨ba, bb, bc, bd⟩ := bk
          simp only at *
          go_region_held3 (fun W => (W.cell? ⟨gc, oc + i * 39 + 2, none⟩ = some (I ba) ∧ W.cell? ⟨gc, oc + i * 39 + 3, none⟩ = some (I bb) ∧ W.cell? ⟨gc, oc + i * 39 + 4, none⟩ = some (I bc) ∧ W.cell? ⟨gc, oc + i * 39 + 5, none⟩ = some (I bd)) ∧ W.cell? ⟨w.heap.size, 5, none⟩ = some (I qx) ∧ W.cell? ⟨w.heap.size, 6, none⟩ = some (I qy)) (first | assumption | exact hS5 | exact HS5.out.drew) ((first | (go_at_call 80; refine (HDI.out _).mono ?_; rintro _ w7 ⟨rfl, hb7⟩; have hs7 : wr.heap.size ≤ w7.heap.size := hb7.size; have hS7 := HS5.out.drew.below hb7 (by simp; omega) (by simp; omega)) | (go_at_call 145; refine (HPU.out _ (((Below.refl wr.heap.size wr).drew).trans hb7)).mono ?_; rintro _ w8 ⟨rfl, v8, l8, hh8, hp8, ho8, hk8, hf8⟩; have hS8 := hS7.keeps hk8 HNA.out.1 HNA.out.2)))
          have HB7 := hide (show Below wr.heap.size wr w7 from ((Below.refl wr.heap.size wr).drew).trans hb7)
          have HR8 := hide ((hk8.block w.heap.size (by omega) HNA.out.2).trans ((HB7.out.block w.heap.size (by omega)).trans HR.out))
          have HG8 := hide ((HG.out.below HB7.out).push hh8 hp8 ho8 hk8 hf8)
          clear hb7 hh8 hp8 ho8 hk8 hf8 hS5 hS7 hS8 hs7
          go_wp2_with fail
          go_roundg ((Ward.Nd.kids t).length - (i + 1))
          case measure => have := HGK.out; omega
          case rel =>
            refine ⟨i + 1, v8, l8, rfl, by go_num, hlt, ?_, HR8.out⟩
            rw [HT.out, HKE.out]
            exact HG8.out
        · have ei : i = (Ward.Nd.kids t).length := by omega
          subst ei
          rw [List.take_length, ← HME.out, List.append_assoc] at HG
          go_wp2_with fail
          go_end0
          exact ⟨rfl, v', l', gc, oc, HG.out, fun e => (HAC.out e).2, HRW.out⟩
end Go.Proofs.YtenaelkbgkpllaaGreatDoor
