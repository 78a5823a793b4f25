/- The entries of the heap in a row of their own. -/
import Derived.Test.YtenaelkbgkpllaaGreatDoorProven11
import Derived.Test.YtenaelkbgkpllaaGreatDoorProven5
import Derived.Test.YtenaelkbgkpllaaGreatDoorProven6
import Derived.Deep.DrawnRows
import Derived.Test.YtenaelkbgkpllaaGreatDoorProven7
import Derived.Test.YtenaelkbgkpllaaGreatDoorProven9
import Derived.Maps.OwnSet
namespace Go.Proofs.YtenaelkbgkpllaaGreatDoor
open Go.RowKit

/-- entries in a row of their own -/
def OwnE (w : World) (B : Nat) (v : Value) (l : List En) : Prop := w.ownsRow B 166 5 v l.length (l.flatMap E5)
theorem E5_len (l : List En) : (l.flatMap E5).length = l.length * 5 := by
  induction l with
  | nil => rfl
  | cons e l ih => rw [List.flatMap_cons, List.length_append, ih, List.length_cons]; show 5 + _ = _; omega
theorem E5_one {l : List En} : ∀ v ∈ l.flatMap E5, v.oneCell' = true := fun v hv => by
  obtain ⟨e, _, hv⟩ := List.mem_flatMap.1 hv
  simp only [E5, List.mem_cons, List.not_mem_nil, or_false] at hv
  rcases hv with rfl | rfl | rfl | rfl | rfl <;> rfl
theorem OwnE.below {w w' : World} {B : Nat} {v : Value} {l : List En} (h : OwnE w B v l) (hb : Below w.heap.size w w') : OwnE w' B v l := by
  refine ⟨h.1, ?_⟩
  rcases h.2 with h0 | ⟨g, cap, cur, rfl, hB, hg, r⟩
  · exact .inl h0
  · exact .inr ⟨g, cap, cur, rfl, hB, (hb.block g (Array.getElem?_eq_some_iff.1 hg).1).trans hg, r⟩
theorem OwnE.keeps {S : Nat → Prop} {w w' : World} {B : Nat} {v : Value} {l : List En} (h : OwnE w B v l) (hk : Keeps S w w') (hn : ∀ g, v.ownBlock = some g → ¬ S g) : OwnE w' B v l := by
  refine ⟨h.1, ?_⟩
  rcases h.2 with h0 | ⟨g, cap, cur, rfl, hB, hg, r⟩
  · exact .inl h0
  · exact .inr ⟨g, cap, cur, rfl, hB, (hk.block g (Array.getElem?_eq_some_iff.1 hg).1 (hn g rfl)).trans hg, r⟩
theorem OwnE.slice {w : World} {B : Nat} {v : Value} {l : List En} (h : OwnE w B v l) : ∃ a c, v = .slice a l.length c := by
  rcases h.2 with ⟨rfl, h0⟩ | ⟨g, cap, cur, rfl, _⟩
  · exact ⟨none, 0, by rw [h0]⟩
  · exact ⟨_, cap, rfl⟩
theorem OwnE.lt {w : World} {B g : Nat} {v : Value} {l : List En} (h : OwnE w B v l) (hg : v.ownBlock = some g) : B ≤ g ∧ g < w.heap.size := World.ownsRow.lt h g hg
/-- an entry as it lies -/
def EnAt (w : World) (g o : Nat) (e : En) : Prop := w.cell? ⟨g, o, none⟩ = some (I e.d) ∧ w.cell? ⟨g, o + 1, none⟩ = some (.pointer e.nd) ∧ w.cell? ⟨g, o + 2, none⟩ = some (I e.p.id) ∧ w.cell? ⟨g, o + 3, none⟩ = some (I e.p.x) ∧ w.cell? ⟨g, o + 4, none⟩ = some (I e.p.y)
theorem E5_at (l : List En) (i : Nat) (h : i < l.length) : (l.flatMap E5)[i * 5]? = some (I l[i].d) ∧ (l.flatMap E5)[i * 5 + 1]? = some (.pointer l[i].nd) ∧ (l.flatMap E5)[i * 5 + 2]? = some (I l[i].p.id) ∧ (l.flatMap E5)[i * 5 + 3]? = some (I l[i].p.x) ∧ (l.flatMap E5)[i * 5 + 4]? = some (I l[i].p.y) := by
  have key : ∀ j, j < 5 → (l.flatMap E5)[i * 5 + j]? = (E5 l[i])[j]? := fun j hj => by
    rw [List.flatMap_def, flat_get (c := 5) _ i j (fun U hU => by
      obtain ⟨e, _, rfl⟩ := List.mem_map.1 hU
      rfl) hj, List.getElem?_map, List.getElem?_eq_getElem h]
    rfl
  exact ⟨key 0 (by decide), key 1 (by decide), key 2 (by decide), key 3 (by decide), key 4 (by decide)⟩
theorem OwnE.at {w : World} {B g c : Nat} {l : List En} (h : OwnE w B (.slice (some ⟨g, 0, none⟩) l.length c) l) (i : Nat) (hi : i < l.length) : EnAt w g (i * 5) l[i] := by
  obtain ⟨h0, h1, h2, h3, h4⟩ := E5_at l i hi
  have hc := fun j u hj => World.ownsRow.cells h (g := g) rfl j u hj
  have hc' : ∀ j u, (l.flatMap E5)[j]? = some u → w.cell? ⟨g, j, none⟩ = some u := fun j u hj => by
    have := hc j u hj
    rw [Addr.add_lit, Nat.zero_add] at this
    exact this
  exact ⟨hc' _ _ h0, hc' _ _ h1, hc' _ _ h2, hc' _ _ h3, hc' _ _ h4⟩
theorem EnAt.below {w w' : World} {g o B : Nat} {e : En} (h : EnAt w g o e) (hb : Below B w w') (hg : g < B) : EnAt w' g o e :=
  ⟨(hb.cell (p := ⟨g, o, none⟩) hg).trans h.1, (hb.cell (p := ⟨g, o + 1, none⟩) hg).trans h.2.1, (hb.cell (p := ⟨g, o + 2, none⟩) hg).trans h.2.2.1, (hb.cell (p := ⟨g, o + 3, none⟩) hg).trans h.2.2.2.1, (hb.cell (p := ⟨g, o + 4, none⟩) hg).trans h.2.2.2.2⟩
theorem OwnE.some {w : World} {B : Nat} {v : Value} {l : List En} (h : OwnE w B v l) (hl : 0 < l.length) : ∃ g c, v = .slice (some ⟨g, 0, none⟩) l.length c := by
  rcases h.2 with ⟨rfl, h0⟩ | ⟨g, cap, cur, rfl, _⟩
  · omega
  · exact ⟨g, cap, rfl⟩
set_option maxRecDepth 100000 in
set_option maxHeartbeats 2000000 in
theorem less_any (v : Value) (l : List En) (i j : Nat) (w : World) (B : Nat) (ho : OwnE w B v l) (hi : i < l.length) (hj : j < l.length) (hl : l.length ≤ 100000) :
    Calls Tryz.prog 212 #[v, I i, I j] w fun e w' => e = .returned (.bool (decide (enLt l[i] l[j]))) ∧ Below w.heap.size w w' := by
  obtain ⟨g, c, rfl⟩ := ho.some (by omega)
  have hgl := (ho.lt rfl).2
  have HI := hide (ho.at i hi)
  have HJ := hide (ho.at j hj)
  have HD := hide (show decide (enLt l[i] l[j]) = decide (cmpE l[i] l[j] < 0) by rw [decide_eq_decide]; exact (cmpE_lt _ _).symm)
  have HC := hide (fun W => compareE_any l[i] l[j] W)
  generalize l[i] = a at *
  generalize l[j] = b at *
  clear ho
  rw [HD.out]
  generalize cmpE a b = r at *
  obtain ⟨ad, an, ⟨ai, ax, ay⟩⟩ := a
  obtain ⟨bd, bn, ⟨bi, bx, bY⟩⟩ := b
  obtain ⟨a0, a1, a2, a3, a4⟩ := HI.out
  obtain ⟨b0, b1, b2, b3, b4⟩ := HJ.out
  simp only at a0 a1 a2 a3 a4 b0 b1 b2 b3 b4
  go_enter Tryz.func212, Tryz.ntmps212
  go_wp2_with fail
  go_region_with (first | (go_at_call 216; go_must (refine (HC.out w.drew).mono ?_; rintro _ w6 ⟨rfl, hb6⟩; have HB6 := hide hb6; clear hb6)))
  all_goals
    go_wp2
    go_ret
    exact ⟨rfl, (Below.refl w.heap.size w).drew.trans HB6.out⟩
end Go.Proofs.YtenaelkbgkpllaaGreatDoor
/- Two entries exchanged. -/
namespace Go.Proofs.YtenaelkbgkpllaaGreatDoor
open Go.RowKit

theorem over_takeM {R cs : List Value} {o m : Nat} (h : o + cs.length ≤ m) (hm : m ≤ R.length) : (over R o cs).take m = over (R.take m) o cs := by
  apply List.ext_getElem?
  intro k
  unfold over
  rw [List.getElem?_take]
  by_cases hk : k < m
  · rw [if_pos hk]
    by_cases h1 : k < o
    · rw [List.getElem?_append_left (by simp; omega), List.getElem?_append_left (by simp; omega), List.getElem?_append_left (by simp; omega), List.getElem?_append_left (by simp; omega), List.getElem?_take, if_pos h1, List.getElem?_take, if_pos h1, List.getElem?_take, if_pos hk]
    · by_cases h2 : k < o + cs.length
      · rw [List.getElem?_append_left (by simp; omega), List.getElem?_append_right (by simp; omega), List.getElem?_append_left (by simp; omega), List.getElem?_append_right (by simp; omega)]
        congr 1
        simp
        omega
      · rw [List.getElem?_append_right (by simp; omega), List.getElem?_append_right (by simp; omega), List.getElem?_drop, List.getElem?_drop, List.getElem?_take]
        simp only [List.length_append, List.length_take]
        rw [if_pos (by omega)]
        congr 1
        omega
  · rw [if_neg hk, List.getElem?_eq_none (by simp; omega)]
theorem set_cells (l : List En) (i : Nat) (e : En) (h : i < l.length) : (l.set i e).flatMap E5 = over (l.flatMap E5) (i * 5) (E5 e) := by
  have hl : l = l.take i ++ l[i] :: l.drop (i + 1) := by rw [← List.drop_eq_getElem_cons h, List.take_append_drop]
  have h1 : l.set i e = l.take i ++ e :: l.drop (i + 1) := List.set_eq_take_append_cons_drop ▸ by rw [if_pos h]
  have ht : ((l.take i).flatMap E5).length = i * 5 := by rw [E5_len, List.length_take]; congr 1; omega
  have hf : l.flatMap E5 = (l.take i).flatMap E5 ++ (E5 l[i] ++ (l.drop (i + 1)).flatMap E5) := by
    have := congrArg (List.flatMap E5) hl
    rw [List.flatMap_append, List.flatMap_cons] at this
    exact this
  rw [h1, List.flatMap_append, List.flatMap_cons, hf, ← ht]
  generalize (l.drop (i + 1)).flatMap E5 = R
  generalize (l.take i).flatMap E5 = Q
  generalize hE : E5 l[i] = X
  have hX : (E5 e).length = X.length := by rw [← hE]; rfl
  unfold over
  rw [List.take_left, List.append_assoc, hX, ← List.drop_drop, List.drop_left, List.drop_left]
theorem ownE_set {w : World} {B g c : Nat} {l : List En} (h : OwnE w B (.slice (some ⟨g, 0, none⟩) l.length c) l) (i : Nat) (hi : i < l.length) (e : En) :
    OwnE (w.setCells g (i * 5) (E5 e)) B (.slice (some ⟨g, 0, none⟩) l.length c) (l.set i e) ∧ w.grownBy (w.setCells g (i * 5) (E5 e)) (some g) := by
  rcases h.2 with ⟨e', _⟩ | ⟨g', cap, cur, e', hB, hg, hcap, hmax, hcs, htake⟩
  · cases e'
  · injection e' with e1 e2 e3
    injection e1 with e1
    injection e1 with e1
    subst e1 e3
    have hlen : (l.set i e).length = l.length := List.length_set
    have hcl : cur.toList.length = c * 5 := by
      have h1 : cur.toList.length = cur.size := Array.length_toList
      omega
    have hle : l.length * 5 ≤ cur.toList.length := by
      rw [hcl]; exact Nat.mul_le_mul_right _ hcap
    have hb := below_setCellsN (B := 0) (a := w) (Nat.zero_le g) (E5 e) (i * 5) w (Below.refl 0 w)
    have hi5 : i * 5 + (E5 e).length ≤ l.length * 5 := by
      show i * 5 + 5 ≤ _
      omega
    have hr := setCells_row (g := g) (ty := 166) (E5 e) (i * 5) cur.toList w (by rw [Array.toArray_toList]; exact hg) (by omega)
    refine ⟨⟨by rw [E5_len], .inr ⟨g, c, _, by rw [hlen], hB, hr, by rw [hlen]; exact hcap, hmax, ?_, ?_⟩⟩, ⟨hb.os, hb.tape, hb.output, hb.size, fun k hk hne => setCells_other (fun e => hne (by rw [e])) _ _ _⟩⟩
    · rw [List.size_toArray, over_len (by omega), hcl]
    · rw [List.toList_toArray, hlen, over_takeM hi5 hle, htake, set_cells l i e hi]
theorem OwnE.drew {w : World} {B : Nat} {v : Value} {l : List En} (h : OwnE w B v l) : OwnE w.drew B v l := h
theorem grown_drew {w w' : World} {r : Option Nat} (h : w.grownBy w' r) : w.grownBy w'.drew r := ⟨h.os, h.tape, h.output, h.size, h.block⟩
theorem grown_grown {a b c : World} {r : Option Nat} (h : a.grownBy b r) (k : b.grownBy c r) : a.grownBy c r := ⟨k.os.trans h.os, k.tape.trans h.tape, k.output.trans h.output, Nat.le_trans h.size k.size, fun j hj hne => (k.block j (Nat.lt_of_lt_of_le hj h.size) hne).trans (h.block j hj hne)⟩
theorem setCells5 (w : World) (g o : Nat) (a b c d e : Value) : w.setCells g o [a, b, c, d, e] = ((((w.setCell ⟨g, o, none⟩ a).setCell ⟨g, o + 1, none⟩ b).setCell ⟨g, o + 2, none⟩ c).setCell ⟨g, o + 3, none⟩ d).setCell ⟨g, o + 4, none⟩ e := rfl
set_option maxRecDepth 100000 in
set_option maxHeartbeats 4000000 in
theorem swap_any (v : Value) (l : List En) (i j : Nat) (w : World) (B : Nat) (ho : OwnE w B v l) (hi : i < l.length) (hj : j < l.length) (hl : l.length ≤ 100000) :
    Calls Tryz.prog 215 #[v, I i, I j] w fun e w' => e = .returned (.tuple #[]) ∧ OwnE w' B v (Heap.swp l i j) ∧ w.grownBy w' v.ownBlock := by
  obtain ⟨g, c, rfl⟩ := ho.some (by omega)
  have HO := hide ho
  have HI := hide (ho.at i hi)
  have HJ := hide (ho.at j hj)
  have HS := hide (show Heap.swp l i j = (l.set i l[j]).set j l[i] by unfold Heap.swp; rw [Heap.at_get hi, Heap.at_get hj])
  have HFZ := hide (show ∀ k, w.frozen? ⟨g, k, none⟩ = false from fun k => by
    rcases ho.2 with ⟨e', _⟩ | ⟨g', cap, cur, e', hB, hg, _⟩
    · cases e'
    · injection e' with e1
      injection e1 with e1
      injection e1 with e1
      subst e1
      exact frozen_of_row _ _ _ _ _ hg)
  have HR := hide (show OwnE (((w.setCells g (i * 5) (E5 l[j])).setCells g (j * 5) (E5 l[i])).drew) B (.slice (some ⟨g, 0, none⟩) l.length c) (Heap.swp l i j) ∧ w.grownBy (((w.setCells g (i * 5) (E5 l[j])).setCells g (j * 5) (E5 l[i])).drew) (some g) by
    have h1 := ownE_set (w := w) (e := l[j]) ho i hi
    have h2 := ownE_set (w := w.setCells g (i * 5) (E5 l[j])) (l := l.set i l[j]) (e := l[i]) (by rw [List.length_set]; exact h1.1) j (by rw [List.length_set]; exact hj)
    rw [List.length_set] at h2
    rw [HS.out]
    exact ⟨h2.1.drew, grown_drew (grown_grown h1.2 h2.2)⟩)
  clear ho
  generalize l[i] = a at *
  generalize l[j] = b at *
  obtain ⟨ad, an, ⟨ai, ax, ay⟩⟩ := a
  obtain ⟨bd, bn, ⟨bi, bx, bY⟩⟩ := b
  have hr2 := HR.out
  simp only [E5, setCells5] at hr2
  have HR2 := hide hr2
  clear hr2 HR
  obtain ⟨a0, a1, a2, a3, a4⟩ := HI.out
  obtain ⟨b0, b1, b2, b3, b4⟩ := HJ.out
  simp only at a0 a1 a2 a3 a4 b0 b1 b2 b3 b4
  have f0 := HFZ.out (i * 5)
  have f1 := HFZ.out (i * 5 + 1)
  have f2 := HFZ.out (i * 5 + 2)
  have f3 := HFZ.out (i * 5 + 3)
  have f4 := HFZ.out (i * 5 + 4)
  have g0 := HFZ.out (j * 5)
  have g1 := HFZ.out (j * 5 + 1)
  have g2 := HFZ.out (j * 5 + 2)
  have g3 := HFZ.out (j * 5 + 3)
  have g4 := HFZ.out (j * 5 + 4)
  obtain ⟨u00, h00⟩ := cell?_setCell_some (w := w) (p := ⟨g, i * 5, none⟩) (x := I bd) (q := ⟨g, j * 5, none⟩) b0
  obtain ⟨u10, h10⟩ := cell?_setCell_some (w := w) (p := ⟨g, i * 5, none⟩) (x := I bd) (q := ⟨g, j * 5 + 1, none⟩) b1
  obtain ⟨u11, h11⟩ := cell?_setCell_some (w := (w.setCell ⟨g, i * 5, none⟩ (I bd))) (p := ⟨g, i * 5 + 1, none⟩) (x := .pointer bn) (q := ⟨g, j * 5 + 1, none⟩) h10
  obtain ⟨u20, h20⟩ := cell?_setCell_some (w := w) (p := ⟨g, i * 5, none⟩) (x := I bd) (q := ⟨g, j * 5 + 2, none⟩) b2
  obtain ⟨u21, h21⟩ := cell?_setCell_some (w := (w.setCell ⟨g, i * 5, none⟩ (I bd))) (p := ⟨g, i * 5 + 1, none⟩) (x := .pointer bn) (q := ⟨g, j * 5 + 2, none⟩) h20
  obtain ⟨u22, h22⟩ := cell?_setCell_some (w := ((w.setCell ⟨g, i * 5, none⟩ (I bd)).setCell ⟨g, i * 5 + 1, none⟩ (.pointer bn))) (p := ⟨g, i * 5 + 2, none⟩) (x := I bi) (q := ⟨g, j * 5 + 2, none⟩) h21
  obtain ⟨u30, h30⟩ := cell?_setCell_some (w := w) (p := ⟨g, i * 5, none⟩) (x := I bd) (q := ⟨g, j * 5 + 3, none⟩) b3
  obtain ⟨u31, h31⟩ := cell?_setCell_some (w := (w.setCell ⟨g, i * 5, none⟩ (I bd))) (p := ⟨g, i * 5 + 1, none⟩) (x := .pointer bn) (q := ⟨g, j * 5 + 3, none⟩) h30
  obtain ⟨u32, h32⟩ := cell?_setCell_some (w := ((w.setCell ⟨g, i * 5, none⟩ (I bd)).setCell ⟨g, i * 5 + 1, none⟩ (.pointer bn))) (p := ⟨g, i * 5 + 2, none⟩) (x := I bi) (q := ⟨g, j * 5 + 3, none⟩) h31
  obtain ⟨u33, h33⟩ := cell?_setCell_some (w := (((w.setCell ⟨g, i * 5, none⟩ (I bd)).setCell ⟨g, i * 5 + 1, none⟩ (.pointer bn)).setCell ⟨g, i * 5 + 2, none⟩ (I bi))) (p := ⟨g, i * 5 + 3, none⟩) (x := I bx) (q := ⟨g, j * 5 + 3, none⟩) h32
  obtain ⟨u40, h40⟩ := cell?_setCell_some (w := w) (p := ⟨g, i * 5, none⟩) (x := I bd) (q := ⟨g, j * 5 + 4, none⟩) b4
  obtain ⟨u41, h41⟩ := cell?_setCell_some (w := (w.setCell ⟨g, i * 5, none⟩ (I bd))) (p := ⟨g, i * 5 + 1, none⟩) (x := .pointer bn) (q := ⟨g, j * 5 + 4, none⟩) h40
  obtain ⟨u42, h42⟩ := cell?_setCell_some (w := ((w.setCell ⟨g, i * 5, none⟩ (I bd)).setCell ⟨g, i * 5 + 1, none⟩ (.pointer bn))) (p := ⟨g, i * 5 + 2, none⟩) (x := I bi) (q := ⟨g, j * 5 + 4, none⟩) h41
  obtain ⟨u43, h43⟩ := cell?_setCell_some (w := (((w.setCell ⟨g, i * 5, none⟩ (I bd)).setCell ⟨g, i * 5 + 1, none⟩ (.pointer bn)).setCell ⟨g, i * 5 + 2, none⟩ (I bi))) (p := ⟨g, i * 5 + 3, none⟩) (x := I bx) (q := ⟨g, j * 5 + 4, none⟩) h42
  obtain ⟨u44, h44⟩ := cell?_setCell_some (w := ((((w.setCell ⟨g, i * 5, none⟩ (I bd)).setCell ⟨g, i * 5 + 1, none⟩ (.pointer bn)).setCell ⟨g, i * 5 + 2, none⟩ (I bi)).setCell ⟨g, i * 5 + 3, none⟩ (I bx))) (p := ⟨g, i * 5 + 4, none⟩) (x := I bY) (q := ⟨g, j * 5 + 4, none⟩) h43
  go_enter Tryz.func215, Tryz.ntmps215
  go_wp2_with fail
  go_region
  have hx := HR2.out
  clear HR2
  revert hx
  generalize World.drew _ = w9
  intro hx
  have HX := hide hx
  clear hx
  go_end0
  exact ⟨rfl, HX.out⟩
end Go.Proofs.YtenaelkbgkpllaaGreatDoor
/- The document's map: where an id stands; a point put in. -/
namespace Go.Proofs.YtenaelkbgkpllaaGreatDoor
open Go.RowKit

theorem RMap.cell {w : World} {r : Nat} {u : Value} {L : List Ward.Pt} (h : RMap w r u L) : w.cell? ⟨r, 0, none⟩ = some u := by
  rw [cell_of_row _ _ _ _ _ _ h.row]; rfl
theorem RMap.below {w w' : World} {r : Nat} {u : Value} {L : List Ward.Pt} (h : RMap w r u L) (hb : Below w.heap.size w w') : RMap w' r u L := h.keeps (S := fun _ => False) (Keeps.of_below hb) (fun _ _ h => h)
theorem RMap.slice {w : World} {r : Nat} {u : Value} {L : List Ward.Pt} (h : RMap w r u L) : ∃ a c, u = .slice a L.length c := by
  obtain ⟨a, c, rfl, _⟩ := h.own.reads
  exact ⟨a, c, rfl⟩
/-- points that lie somewhere, put behind others -/
theorem append_pts {w : World} {B : Nat} {v : Value} {l : List Ward.Pt} (T : List Ward.Pt) (g o c : Nat) (hown : Own w B v l) (hB : B ≤ w.heap.size) (hn : l.length + T.length ≤ 100000) (hT : ∀ j, (h : j < T.length) → PtAt w g (o + j * 3) T[j]) :
    ∃ v' w', (Builtin.append_ #[27, 27] 27 #[v, .slice (some ⟨g, o, none⟩) T.length c]).run Tryz.prog w = .ok v' w' ∧ Own w' B v' (l ++ T) ∧ w.grownBy w' v.ownBlock ∧ Fresh w v v' := by
  obtain ⟨i0, hi0, hz0, hz1, hz2⟩ := info_parts Tryz.infoPt
  obtain ⟨v', w', hr, ho, hg, hf⟩ := run_append_own2 (P := Tryz.prog) w B 27 27 36 i0 (.agg #[I 0, I 0, I 0]) 3 24 Tryz.underlying27 hi0 hz0 hz1 hz2 rfl (by decide) v l.length (l.flatMap P3) hown ⟨g, o, none⟩ T.length c (T.flatMap P3) (by rw [cells_len])
    (fun j u hj => by
      have hjl : j < T.length * 3 := by
        have := (List.getElem?_eq_some_iff.1 hj).1
        rwa [cells_len] at this
      have hi : j / 3 < T.length := by omega
      obtain ⟨h0, h1, h2⟩ := P3_at T (j / 3) hi
      obtain ⟨k0, k1, k2⟩ := hT (j / 3) hi
      rw [Addr.add_lit]
      have e3 : j = j / 3 * 3 ∨ j = j / 3 * 3 + 1 ∨ j = j / 3 * 3 + 2 := by omega
      generalize j / 3 = i at *
      rcases e3 with e3 | e3 | e3
      · rw [e3] at hj ⊢; rw [h0] at hj; rw [← hj]; exact k0
      · rw [e3] at hj ⊢; rw [h1] at hj; rw [← hj]; exact k1
      · rw [e3] at hj ⊢; rw [h2] at hj; rw [← hj]; exact k2)
    (fun u hu => cells_one u hu) (by unfold maxLen; omega) (by omega) hB
  refine ⟨v', w', hr, ?_, hg, hf⟩
  unfold Own
  rw [List.length_append, List.flatMap_append]
  exact ho
/-- nothing put behind points -/
theorem append_none {w : World} {g n cap : Nat} (hc : n ≤ cap) : (Builtin.append_ #[27, 27] 27 #[.slice (some ⟨g, 0, none⟩) n cap, .slice none 0 0]).run Tryz.prog w = .ok (.slice (some ⟨g, 0, none⟩) n cap) w := by
  obtain ⟨i0, hi0, hz0, hz1, hz2⟩ := info_parts Tryz.infoPt
  simp [Builtin.append_, run_underlying Tryz.underlying27, sizeOf, typeInfo, hi0, Builtin.lenOf, hc, run_firstCells_none, storeCells]
set_option maxHeartbeats 1000000 in
theorem place_ref (r : Nat) (u : Value) (K : List Ward.Pt) (id : Int) (w : World) (hm : RMap w r u K) (hl : K.length ≤ 1000) :
    Calls Tryz.prog 92 #[.pointer (some ⟨r, 0, none⟩), I id] w fun e w' => (∃ x, e = .returned (I x) ∧ Place id K x) ∧ w' = w := by
  have hc := hm.cell
  obtain ⟨a, c, rfl, hrd⟩ := hm.own.reads
  have HRD := hide hrd
  clear hm hrd
  go_enter Tryz.func92, Tryz.ntmps92
  go_wp2_with fail
  go_loopw [5] (fun iv wq => ∃ i : Nat, i ≤ K.length ∧ iv = .int .i64 i ∧ (∀ j, (h : j < K.length) → j < i → K[j].id ≠ id) ∧ wq = w) (fun iv _ => K.length - (intOf iv).toNat)
  case atStart => exact ⟨0, by omega, rfl, fun j _ h => absurd h (by omega), rfl⟩
  case round =>
    obtain ⟨i, hi, rfl, hno, rfl⟩ := hrel
    have HNO := hide hno
    clear hno
    by_cases hlt : i < K.length
    · obtain ⟨g, o, rfl, hp⟩ := HRD.out (fun e => by subst e; simp at hlt)
      have hpi := (hp i hlt).1
      have HX := hide (fun (h : K[i].id = id) => show Place id K i from .inr ⟨i, hlt, rfl, h⟩)
      have HN := hide (fun (h : K[i].id ≠ id) j (hj : j < K.length) (hji : j < i + 1) => show K[j].id ≠ id from by
        by_cases e : j = i
        · subst e; exact h
        · exact HNO.out j hj (by omega))
      generalize K[i].id = qi at *
      clear hp
      by_cases e : qi = id
      · go_wp2_with fail
        go_ret
        exact ⟨⟨i, rfl, HX.out e⟩, rfl⟩
      · go_wp2_with fail
        go_roundw
        case rel => exact ⟨i + 1, hlt, by go_num, HN.out e, trivial⟩
        case measure => simp [intOf]; omega
    · go_wp2_with fail
      go_ret
      refine ⟨⟨-1, rfl, .inl ⟨rfl, fun q hq e => ?_⟩⟩, rfl⟩
      obtain ⟨j, hj, rfl⟩ := List.getElem_of_mem hq
      exact HNO.out j hj (by omega) e
/-- what a call of the document's Insert leaves -/
def InsertedR (w : World) (r : Nat) (u : Value) (L : List Ward.Pt) (c : Int) (e : Ending) (w' : World) : Prop := e = .returned (I c) ∧ ∃ u', RMap w' r u' L ∧ FreshR w u u' ∧ Keeps (Mine r u) w w'
theorem InsertedR.none {w w' : World} {r : Nat} {u : Value} {L : List Ward.Pt} {c : Int} (h : RMap w r u L) (hb : Below w.heap.size w w') : InsertedR w r u L c (.returned (I c)) w' :=
  ⟨rfl, u, h.keeps (S := fun _ => False) (Keeps.of_below hb) (fun _ _ h => h), fun _ h => .inl h, Keeps.of_below hb⟩
/-- a new list is laid into the map -/
theorem own_low {w : World} {B : Nat} {v : Value} {L : List Ward.Pt} (h : Own w B v L) : Own w 0 v L := by
  refine ⟨h.1, ?_⟩
  rcases h.2 with h0 | ⟨g, cap, cur, e, _, r⟩
  · exact .inl h0
  · exact .inr ⟨g, cap, cur, e, Nat.zero_le _, r⟩
theorem insertedR_laid {w w2 : World} {r : Nat} {u v2 : Value} {K L : List Ward.Pt} (c : Int) (hM : RMap w r u K) (hb : Below w.heap.size w w2) (ho : Own w2 w.heap.size v2 L) : InsertedR w r u L c (.returned (I c)) (w2.setCell ⟨r, 0, none⟩ v2) := by
  have hr := hM.lt
  have hrow := (hb.block r hr).trans hM.row
  have k1 : Keeps (fun j => j = r) w2 (w2.setCell ⟨r, 0, none⟩ v2) := ⟨rfl, rfl, rfl, by simp, fun j _ hj => heap_setCell_other w2 ⟨r, 0, none⟩ j v2 hj⟩
  have hap : ∀ g, v2.ownBlock = some g → w.heap.size ≤ g := fun g hg => ho.ge hg
  refine ⟨rfl, v2, ⟨?_, ?_, fun e => by have := hap r e; omega⟩, fun k hk => .inr (hap k hk), (Keeps.of_below hb).trans k1 (fun j _ e => .inl e)⟩
  · rw [heap_setCell_same _ _ _ _ _ _ hrow]; rfl
  · exact own_low (ho.keeps k1 (fun g hg e => by have := hap g hg; omega))
section
variable (r : Nat) (u : Value) (K : List Ward.Pt) (pi px py : Int) (w : World)
set_option maxHeartbeats 1000000 in
theorem rinsert_id (hm : RMap w r u K) (h1 : ¬ (1 ≤ pi ∧ pi ≤ 1000000)) :
    Calls Tryz.prog 56 #[.pointer (some ⟨r, 0, none⟩), .agg #[I pi, I px, I py]] w fun e w' => InsertedR w r u K 1 e w' := by
  have HM := hide hm
  clear hm
  by_cases h2 : pi < 1
  · go_enter Tryz.func56, Tryz.ntmps56
    go_wp2_with (first | (go_at_call_of 91 (I px); refine (coord_ref px _).mono ?_; rintro _ _ ⟨rfl, rfl⟩) | (go_at_call_of 91 (I py); refine (coord_ref py _).mono ?_; rintro _ _ ⟨rfl, rfl⟩))
    go_ret
    exact InsertedR.none HM.out ((Below.refl w.heap.size w).alloc (Nat.le_refl _) _)
  · have h3 : 1000000 < pi := by omega
    go_enter Tryz.func56, Tryz.ntmps56
    go_wp2_with (first | (go_at_call_of 91 (I px); refine (coord_ref px _).mono ?_; rintro _ _ ⟨rfl, rfl⟩) | (go_at_call_of 91 (I py); refine (coord_ref py _).mono ?_; rintro _ _ ⟨rfl, rfl⟩))
    go_ret
    exact InsertedR.none HM.out ((Below.refl w.heap.size w).alloc (Nat.le_refl _) _)
set_option maxHeartbeats 1000000 in
theorem rinsert_xy (hm : RMap w r u K) (h1 : 1 ≤ pi) (h1' : pi ≤ 1000000) (h2 : Ward.coordOk px = false ∨ Ward.coordOk py = false) :
    Calls Tryz.prog 56 #[.pointer (some ⟨r, 0, none⟩), .agg #[I pi, I px, I py]] w fun e w' => InsertedR w r u K 2 e w' := by
  have HM := hide hm
  clear hm
  cases hx : Ward.coordOk px with
  | false =>
    go_enter Tryz.func56, Tryz.ntmps56
    go_wp2_with (first | (go_at_call_of 91 (I px); refine (coord_ref px _).mono ?_; rintro _ _ ⟨rfl, rfl⟩) | (go_at_call_of 91 (I py); refine (coord_ref py _).mono ?_; rintro _ _ ⟨rfl, rfl⟩))
    go_ret
    exact InsertedR.none HM.out ((Below.refl w.heap.size w).alloc (Nat.le_refl _) _)
  | true =>
    have hy : Ward.coordOk py = false := by
      rcases h2 with h2 | h2
      · rw [hx] at h2; cases h2
      · exact h2
    clear h2
    go_enter Tryz.func56, Tryz.ntmps56
    go_wp2_with (first | (go_at_call_of 91 (I px); refine (coord_ref px _).mono ?_; rintro _ _ ⟨rfl, rfl⟩) | (go_at_call_of 91 (I py); refine (coord_ref py _).mono ?_; rintro _ _ ⟨rfl, rfl⟩))
    go_ret
    exact InsertedR.none HM.out ((Below.refl w.heap.size w).alloc (Nat.le_refl _) _)
set_option maxHeartbeats 1000000 in
theorem rinsert_taken (hm : RMap w r u K) (hl : K.length ≤ 1000) (h1 : 1 ≤ pi) (h1' : pi ≤ 1000000) (hx : Ward.coordOk px = true) (hy : Ward.coordOk py = true) (h4 : ∃ q ∈ K, q.id = pi) :
    Calls Tryz.prog 56 #[.pointer (some ⟨r, 0, none⟩), .agg #[I pi, I px, I py]] w fun e w' => InsertedR w r u K 3 e w' := by
  have HM := hide hm
  have HP := hide (fun o => place_ref r u K pi (w.alloc o) (hm.below ((Below.refl w.heap.size w).alloc (Nat.le_refl _) _)) hl)
  clear hm
  go_enter Tryz.func56, Tryz.ntmps56
  go_wp2_with (first | (go_at_call_of 91 (I px); refine (coord_ref px _).mono ?_; rintro _ _ ⟨rfl, rfl⟩) | (go_at_call_of 91 (I py); refine (coord_ref py _).mono ?_; rintro _ _ ⟨rfl, rfl⟩) | (go_at_call 92; refine (HP.out _).mono ?_; rintro _ _ ⟨⟨x, rfl, hpl⟩, rfl⟩; have hx0 := place_yes hpl h4))
  go_ret
  exact InsertedR.none HM.out ((Below.refl w.heap.size w).alloc (Nat.le_refl _) _)
set_option maxRecDepth 100000 in
set_option maxHeartbeats 1000000 in
theorem rinsert_limit (hm : RMap w r u K) (hl : K.length ≤ 1000) (h1 : 1 ≤ pi) (h1' : pi ≤ 1000000) (hx : Ward.coordOk px = true) (hy : Ward.coordOk py = true) (h4 : ¬ ∃ q ∈ K, q.id = pi) (h5 : 150 ≤ K.length) :
    Calls Tryz.prog 56 #[.pointer (some ⟨r, 0, none⟩), .agg #[I pi, I px, I py]] w fun e w' => InsertedR w r u K 5 e w' := by
  have HM := hide hm
  have HP := hide (fun o => place_ref r u K pi (w.alloc o) (hm.below ((Below.refl w.heap.size w).alloc (Nat.le_refl _) _)) hl)
  obtain ⟨a, c, rfl⟩ := hm.slice
  have hcm := fun o => (hm.below ((Below.refl w.heap.size w).alloc (Nat.le_refl _) o)).cell
  clear hm
  go_enter Tryz.func56, Tryz.ntmps56
  go_wp2_with (first | (go_at_call_of 91 (I px); refine (coord_ref px _).mono ?_; rintro _ _ ⟨rfl, rfl⟩) | (go_at_call_of 91 (I py); refine (coord_ref py _).mono ?_; rintro _ _ ⟨rfl, rfl⟩) | (go_at_call 92; refine (HP.out _).mono ?_; rintro _ _ ⟨⟨x, rfl, hpl⟩, rfl⟩; have hx0 := place_no hpl h4; subst hx0))
  go_ret
  exact InsertedR.none HM.out ((Below.refl w.heap.size w).alloc (Nat.le_refl _) _)
end
end Go.Proofs.YtenaelkbgkpllaaGreatDoor
/- The document's Insert: the point put in at its place. -/
namespace Go.Proofs.YtenaelkbgkpllaaGreatDoor
open Go.RowKit

def RdPt (W : World) (r g o k : Nat) (u : Value) (q p : Ward.Pt) : Prop := W.cell? ⟨r, 0, none⟩ = some u ∧ (W.cell? ⟨g, o, none⟩ = some (I q.id) ∧ W.cell? ⟨g, o + 1, none⟩ = some (I q.x) ∧ W.cell? ⟨g, o + 2, none⟩ = some (I q.y)) ∧ W.cell? ⟨k, 0, none⟩ = some (I p.id) ∧ W.cell? ⟨k, 1, none⟩ = some (I p.x) ∧ W.cell? ⟨k, 2, none⟩ = some (I p.y)
theorem RdPt.below {W W' : World} {r g o k B : Nat} {u : Value} {q p : Ward.Pt} (h : RdPt W r g o k u q p) (hb : Below B W W') (hr : r < B) (hg : g < B) (hk : k < B) : RdPt W' r g o k u q p := by
  obtain ⟨h0, ⟨q0, q1, q2⟩, p0, p1, p2⟩ := h
  exact ⟨(hb.cell (p := ⟨r, 0, none⟩) hr).trans h0, ⟨(hb.cell (p := ⟨g, _, none⟩) hg).trans q0, (hb.cell (p := ⟨g, _, none⟩) hg).trans q1, (hb.cell (p := ⟨g, _, none⟩) hg).trans q2⟩, (hb.cell (p := ⟨k, _, none⟩) hk).trans p0, (hb.cell (p := ⟨k, _, none⟩) hk).trans p1, (hb.cell (p := ⟨k, _, none⟩) hk).trans p2⟩
theorem RdPt.drew {W : World} {r g o k : Nat} {u : Value} {q p : Ward.Pt} (h : RdPt W r g o k u q p) : RdPt W.drew r g o k u q p := by simpa [RdPt] using h
set_option maxRecDepth 100000 in
set_option maxHeartbeats 2000000 in
theorem rinsert_in (r : Nat) (u : Value) (K : List Ward.Pt) (pi px py : Int) (w : World) (hm : RMap w r u K) (hl : K.length ≤ 1000) (h1 : 1 ≤ pi) (h1' : pi ≤ 1000000) (hx : Ward.coordOk px = true) (hy : Ward.coordOk py = true) (h4 : ¬ ∃ q ∈ K, q.id = pi) (h5 : K.length < 150) (hS : Ward.Sorted K) :
    Calls Tryz.prog 56 #[.pointer (some ⟨r, 0, none⟩), .agg #[I pi, I px, I py]] w fun e w' => InsertedR w r u (Ward.ins ⟨pi, px, py⟩ K) 0 e w' := by
  have HM := hide hm
  have HP := hide (fun o => place_ref r u K pi (w.alloc o) (hm.below ((Below.refl w.heap.size w).alloc (Nat.le_refl _) _)) hl)
  have HRD := hide hm.own.reads
  have hrlt := hm.lt
  obtain ⟨a, c, rfl⟩ := hm.slice
  have hcm := fun o => (hm.below ((Below.refl w.heap.size w).alloc (Nat.le_refl _) o)).cell
  have hrow' := heap_alloc_new w
  have hb' := fun o => (Below.refl w.heap.size w).alloc (Nat.le_refl _) o
  have HSo := hide hS
  have hd1 : decide (pi < 1) = false := decide_eq_false (by omega)
  have hd2 : decide (1000000 < pi) = false := decide_eq_false (by omega)
  have hd3 : decide ((150 : Int) ≤ (K.length : Int)) = false := decide_eq_false (by omega)
  have HOWN := hide (show (Value.slice a K.length c = .slice none 0 0 ∧ K.length = 0) ∨ ∃ g cap, Value.slice a K.length c = .slice (some ⟨g, 0, none⟩) K.length cap ∧ K.length ≤ cap from by
    rcases hm.own.2 with h | ⟨g', cap', cur', e', _, _, hcc, _⟩
    · exact .inl h
    · exact .inr ⟨g', cap', e', hcc⟩)
  have HCAP := hide (show K = [] ∨ K.length ≤ c from by
    rcases hm.own.2 with ⟨_, h0⟩ | ⟨g', cap', cur', e', _, _, hcc, _⟩
    · exact .inl (List.length_eq_zero_iff.1 h0)
    · injection e' with _ _ e'; subst e'; exact .inr hcc)
  clear hm hS
  go_enter Tryz.func56, Tryz.ntmps56
  go_upto_region 13 with (first | (go_at_call_of 91 (I px); refine (coord_ref px _).mono ?_; rintro _ _ ⟨rfl, rfl⟩) | (go_at_call_of 91 (I py); refine (coord_ref py _).mono ?_; rintro _ _ ⟨rfl, rfl⟩) | (go_at_call 92; refine (HP.out _).mono ?_; rintro _ _ ⟨⟨x, rfl, hpl⟩, rfl⟩; have hx0 := place_no hpl h4; subst hx0))
  generalize hW : World.alloc w _ = w1
  have HR1 := hide (show w1.heap[w.heap.size]? = some (.cells #[I pi, I px, I py] 36 (0, 0)) by rw [← hW]; exact hrow' _)
  have HB1 := hide (show Below w.heap.size w w1 by rw [← hW]; exact hb' _)
  have hs1 : w.heap.size + 1 ≤ w1.heap.size := by rw [← hW]; simp
  clear hW hrow' hb' hcm HP hpl h1 h1' hx hy h4 hd1 hd2 hd3
  go_loopw [7, 8] (fun v7 v8 wq => ∃ i : Nat, i ≤ K.length ∧ v8 = .int .i64 i ∧ Own wq (w.heap.size + 1) v7 (K.take i) ∧ (∀ j, (h : j < K.length) → j < i → Ward.lt K[j] ⟨pi, px, py⟩) ∧ wq.heap[w.heap.size]? = some (.cells #[I pi, I px, I py] 36 (0, 0)) ∧ Below w.heap.size w wq ∧ w.heap.size + 1 ≤ wq.heap.size)
    (fun _ v8 _ => K.length - (intOf v8).toNat)
  case atStart => exact ⟨0, by omega, rfl, World.ownsRow_nil _ _ _ _, fun j _ h => absurd h (by omega), HR1.out, HB1.out, hs1⟩
  case round =>
    clear HR1 HB1 hs1
    obtain ⟨i, hi, rfl, hown, hlow, hrow, hb, hsz⟩ := hrel
    obtain ⟨av, cv, rfl⟩ := hown.slice
    have HO := hide hown
    have HLO := hide hlow
    have HRO := hide hrow
    have HB := hide hb
    have hcr := (HM.out.below hb).cell
    have hpt := row3 hrow
    have hlen : (K.take i).length = i := by rw [List.length_take]; omega
    rw [hlen]
    clear hown hlow hb hrow hlen
    by_cases hlt : i < K.length
    · obtain ⟨a0, c0, e0, hp⟩ := HRD.out
      obtain ⟨g, o, rfl, hpp⟩ := hp (fun e => by subst e; simp at hlt)
      injection e0 with e1 e2 e3
      subst e1
      clear e2 e3
      have hq0 := (hpp i hlt).below HB.out (hpp i hlt).lt
      have hg0 : g < wr.heap.size := hq0.lt
      have hrr : r < wr.heap.size := block_lt_of_cell hcr
      have HX := hide (fun (h : Ward.lt K[i] ⟨pi, px, py⟩) j (hj : j < K.length) (hji : j < i + 1) => show Ward.lt K[j] ⟨pi, px, py⟩ from by
        by_cases e : j = i
        · subst e; exact h
        · exact HLO.out j hj (by omega))
      have HTK := hide (show K.take (i + 1) = K.take i ++ [K[i]] from List.take_succ_eq_append_getElem hlt)
      have HHI := hide (fun (h : ¬ Ward.lt K[i] ⟨pi, px, py⟩) => show Ward.Parts ⟨pi, px, py⟩ K i from ⟨hi, HLO.out, fun j hj hij => by
        by_cases e : i = j
        · subst e; exact h
        · exact fun k => h (Ward.lt_trans ((List.pairwise_iff_getElem.1 HSo.out) i j hlt hj (by omega)) k)⟩)
      obtain ⟨q, hqe⟩ : ∃ q, K[i] = q := ⟨_, rfl⟩
      rw [hqe] at hq0 HX HTK HHI
      clear hqe hpp hp
      have hS : RdPt wr r g (o + i * 3) w.heap.size (.slice (some ⟨g, o, none⟩) K.length c) q ⟨pi, px, py⟩ := ⟨hcr, hq0, hpt⟩
      have hwr : w.heap.size < wr.heap.size := by omega
      have HBF := hide (fun W => before_ref q ⟨pi, px, py⟩ W)
      obtain ⟨qi, qx, qy⟩ := q
      go_upto_region 14 with fail
      go_cut [9] from 52 to 60 (fun v9 wx => v9 = .bool (decide (Ward.lt ⟨qi, qx, qy⟩ ⟨pi, px, py⟩)) ∧ Below wr.heap.size wr wx)
      case first =>
        obtain ⟨s0, ⟨s1, s2, s3⟩, s4, s5, s6⟩ := id hS
        go_region_held3 (fun W => W.cell? ⟨r, 0, none⟩ = some (.slice (some ⟨g, o, none⟩) K.length c) ∧ (W.cell? ⟨g, o + i * 3, none⟩ = some (I qi) ∧ W.cell? ⟨g, o + i * 3 + 1, none⟩ = some (I qx) ∧ W.cell? ⟨g, o + i * 3 + 2, none⟩ = some (I qy)) ∧ W.cell? ⟨w.heap.size, 0, none⟩ = some (I pi) ∧ W.cell? ⟨w.heap.size, 1, none⟩ = some (I px) ∧ W.cell? ⟨w.heap.size, 2, none⟩ = some (I py)) (first | assumption | exact hS | exact hS.drew | exact hS6) ((go_at_call 93; refine (HBF.out _).mono ?_; rintro _ w6 ⟨rfl, hb6⟩; have hS6 := hS.drew.below hb6 (by simpa using hrr) (by simpa using hg0) (by simpa using hwr); have hB6 : Below wr.heap.size wr w6 := (show Below wr.heap.size wr wr.drew from (Below.refl _ _).drew).trans hb6))
        all_goals
          go_wp2_with fail
          go_meet
          exact ⟨rfl, hB6⟩
      case rest =>
        obtain ⟨rfl, hbc⟩ := hcut
        generalize wc = w5 at *
        have HOc := hide (HO.out.below hbc)
        have HBc := hide (HB.out.trans (hbc.mono (show w.heap.size ≤ wr.heap.size by omega)))
        have HROc := hide ((hbc.block w.heap.size (by omega)).trans HRO.out)
        have hszc : w.heap.size + 1 ≤ w5.heap.size := Nat.le_trans hsz hbc.size
        have hlen : (K.take i).length = i := by rw [List.length_take]; omega
        have hcrc := (HM.out.below HBc.out).cell
        have hqc : PtAt w5 g (o + i * 3) ⟨qi, qx, qy⟩ := PtAt.block hq0 (hbc.block g hg0)
        clear hcr hpt hS HO HB HRO hbc hq0
        by_cases hq : Ward.lt ⟨qi, qx, qy⟩ ⟨pi, px, py⟩
        · rw [decide_eq_true hq]
          obtain ⟨v1, w1, hap1, ho1, hg1, hf1⟩ := append_pt ⟨qi, qx, qy⟩ HOc.out hszc (by rw [List.length_take]; omega)
          rw [hlen] at hap1
          have hap1' : (Builtin.append_ #[27, 27] 27 #[.slice av i cv, .slice (some ⟨w5.heap.size, 0, none⟩) 1 1]).run Tryz.prog (w5.alloc (.cells #[I qi, I qx, I qy] 36)) = .ok v1 w1 := hap1
          have hb1 : Below (w.heap.size + 1) w5 w1 := ⟨hg1.os, hg1.tape, hg1.output, hg1.size, fun j hj => hg1.block j (by omega) (fun e => by have := HOc.out.ge e.symm; omega)⟩
          have HO1 := hide (show Own w1 (w.heap.size + 1) v1 (K.take (i + 1)) by rw [HTK.out]; exact ho1)
          have HRO1 := hide ((hb1.block w.heap.size (by omega)).trans HROc.out)
          have HB1 := hide (show Below w.heap.size w w1 from HBc.out.trans (hb1.mono (by omega)))
          have hs1 : w.heap.size + 1 ≤ w1.heap.size := Nat.le_trans hszc hb1.size
          obtain ⟨q0, q1, q2⟩ := hqc
          have HS1 := hide hs1
          clear hap1 ho1 hg1 hf1 hb1 hlen hs1
          go_wp2_with (at_builtin; refine Lib.wpList_append_run _ rfl (.tmp 63) (.tmp 71) 27 27 rfl _ _ rfl rfl _ _ hap1' ?_)
          go_roundw
          case rel => exact ⟨i + 1, hlt, by go_num, HO1.out, HX.out hq, HRO1.out, HB1.out, HS1.out⟩
          case measure => simp [intOf]; omega
        · rw [decide_eq_false hq]
          have HPA := hide (HHI.out hq)
          have hcap : i < c := by
            rcases HCAP.out with h | h
            · subst h; simp at hlt
            · omega
          obtain ⟨v1, w1, hap1, ho1, hg1, hf1⟩ := append_pt ⟨pi, px, py⟩ HOc.out hszc (by rw [List.length_take]; omega)
          rw [hlen] at hap1
          have hap1' : (Builtin.append_ #[27, 27] 27 #[.slice av i cv, .slice (some ⟨w5.heap.size, 0, none⟩) 1 1]).run Tryz.prog (w5.alloc (.cells #[I pi, I px, I py] 36)) = .ok v1 w1 := hap1
          have hb1 : Below (w.heap.size + 1) w5 w1 := ⟨hg1.os, hg1.tape, hg1.output, hg1.size, fun j hj => hg1.block j (by omega) (fun e => by have := HOc.out.ge e.symm; omega)⟩
          have hbw1 : Below w.heap.size w w1 := HBc.out.trans (hb1.mono (by omega))
          have hM1 := HM.out.below hbw1
          have hcr1 := hM1.cell
          obtain ⟨p0, p1, p2⟩ := row3 HROc.out
          have hs1 : w.heap.size + 1 ≤ w1.heap.size := Nat.le_trans hszc hb1.size
          have hfz : w1.frozen? ⟨r, 0, none⟩ = false := frozen_of_row _ _ _ _ _ hM1.row
          obtain ⟨a0, c0, e0, hp⟩ := HRD.out
          obtain ⟨g9, o9, e9, hpp⟩ := hp (fun e => by subst e; simp at hlt)
          injection e0 with e1 e2 e3
          rw [e9] at e1
          injection e1 with e1
          injection e1 with e4 e5
          subst e4 e5
          clear e2 e3 e9
          have hdl : (K.drop i).length = K.length - i := List.length_drop
          obtain ⟨v2, w2, hap2, ho2, hg2, hf2⟩ := append_pts (K.drop i) g (o + i * 3) (c - i) ho1 hs1 (by rw [List.length_append, List.length_take, List.length_drop]; simp; omega) (fun j hj => by
            rw [List.length_drop] at hj
            have h := hpp (i + j) (by omega)
            rw [List.getElem_drop, show o + i * 3 + j * 3 = o + (i + j) * 3 by omega]
            exact h.below hbw1 h.lt)
          rw [hdl] at hap2
          obtain ⟨a2, c2, ev2⟩ := ho2.slice
          generalize (K.take i ++ [(⟨pi, px, py⟩ : Ward.Pt)] ++ K.drop i).length = n2 at ev2
          subst ev2
          have hb2 : Below (w.heap.size + 1) w1 w2 := ⟨hg2.os, hg2.tape, hg2.output, hg2.size, fun j hj => hg2.block j (by omega) (fun e => by have := ho1.ge e.symm; omega)⟩
          have hbw2 : Below w.heap.size w w2 := hbw1.trans (hb2.mono (by omega))
          have HFIN := hide (insertedR_laid (L := Ward.ins ⟨pi, px, py⟩ K) 0 HM.out hbw2 (by
            have e : K.take i ++ [⟨pi, px, py⟩] ++ K.drop i = Ward.ins ⟨pi, px, py⟩ K := by rw [HPA.out.ins]; simp
            rw [← e]
            refine ⟨ho2.1, ?_⟩
            rcases ho2.2 with h0 | ⟨g', cap', cur', e', hB', r'⟩
            · exact .inl h0
            · exact .inr ⟨g', cap', cur', e', by omega, r'⟩))
          have hcr2 := (HM.out.below hbw2).cell
          have hfz2 : w2.frozen? ⟨r, 0, none⟩ = false := frozen_of_row _ _ _ _ _ (HM.out.below hbw2).row
          clear hap1 ho1 hg1 hf1 hb1 hlen ho2 hg2 hf2 hb2 hbw1 hbw2 hM1 hpp hp hqc
          go_wp2_with (first | (at_builtin; refine Lib.wpList_append_run _ rfl (.tmp 75) (.tmp 77) 27 27 rfl _ _ rfl rfl _ _ hap1' ?_) | (at_builtin; refine Lib.wpList_append_run _ rfl (.tmp 80) (.tmp 86) 27 27 rfl _ _ rfl rfl _ _ hap2 ?_))
          go_ret
          exact HFIN.out
    · have ei : i = K.length := by omega
      have HPA := hide (show Ward.Parts ⟨pi, px, py⟩ K i from ⟨hi, HLO.out, fun j hj hij => absurd hj (by omega)⟩)
      have HKA := hide (show K.take i = K from List.take_of_length_le (by omega))
      obtain ⟨v1, w1, hap1, ho1, hg1, hf1⟩ := append_pt ⟨pi, px, py⟩ HO.out hsz (by rw [List.length_take]; omega)
      have hlen : (K.take i).length = i := by rw [List.length_take]; omega
      rw [hlen] at hap1
      have hap1' : (Builtin.append_ #[27, 27] 27 #[.slice av i cv, .slice (some ⟨wr.heap.size, 0, none⟩) 1 1]).run Tryz.prog (wr.alloc (.cells #[I pi, I px, I py] 36)) = .ok v1 w1 := hap1
      have hb1 : Below (w.heap.size + 1) wr w1 := ⟨hg1.os, hg1.tape, hg1.output, hg1.size, fun j hj => hg1.block j (by omega) (fun e => by have := HO.out.ge e.symm; omega)⟩
      have hbw1 : Below w.heap.size w w1 := HB.out.trans (hb1.mono (by omega))
      have hM1 := HM.out.below hbw1
      have hcr1 := hM1.cell
      obtain ⟨p0, p1, p2⟩ := row3 HRO.out
      have hs1 : w.heap.size + 1 ≤ w1.heap.size := Nat.le_trans hsz hb1.size
      have HFIN := hide (fun (v2 : Value) (w2 : World) (hb2 : Below (w.heap.size + 1) w1 w2) (ho2 : Own w2 (w.heap.size + 1) v2 (K.take i ++ [⟨pi, px, py⟩])) => insertedR_laid (L := Ward.ins ⟨pi, px, py⟩ K) 0 HM.out (hbw1.trans (hb2.mono (by omega))) (by
        have e : K.take i ++ [⟨pi, px, py⟩] = Ward.ins ⟨pi, px, py⟩ K := by rw [HPA.out.ins, List.drop_eq_nil_of_le (by omega)]
        rw [← e]
        refine ⟨ho2.1, ?_⟩
        rcases ho2.2 with h0 | ⟨g', cap', cur', e', hB', r'⟩
        · exact .inl h0
        · exact .inr ⟨g', cap', cur', e', by omega, r'⟩))
      have hfz : w1.frozen? ⟨r, 0, none⟩ = false := frozen_of_row _ _ _ _ _ hM1.row
      have HAP := hide (fun (g o : Nat) (cc : Nat) => append_pts (w := w1) [] g o cc ho1 hs1 (by rw [List.length_append, List.length_take]; simp; omega) (fun j hj => absurd hj (by simp)))
      have HO1 := hide ho1
      obtain ⟨g1, cap1, ev1, hc1, -⟩ : ∃ g1 cap1, v1 = .slice (some ⟨g1, 0, none⟩) (i + 1) cap1 ∧ i + 1 ≤ cap1 ∧ True := by
        have hl1 : (K.take i ++ [(⟨pi, px, py⟩ : Ward.Pt)]).length = i + 1 := by rw [List.length_append, hlen]; rfl
        rcases ho1.2 with ⟨_, h0⟩ | ⟨g', cap', cur', e', _, _, hcc, _⟩
        · rw [hl1] at h0; cases h0
        · rw [hl1] at e' hcc; exact ⟨g', cap', e', hcc, trivial⟩
      subst ev1
      have hap0 := append_none (w := w1) (g := g1) hc1
      clear ho1 hg1 hf1 hap1 hM1 hlen
      subst ei
      rcases HOWN.out with ⟨e, h0⟩ | ⟨g, cap, e, hcc⟩
      · injection e with e1 e2 e3
        subst e1 e3
        have HF := hide (HFIN.out _ w1 (Below.refl _ _) HO1.out)
        have eK : K = [] := List.length_eq_zero_iff.1 h0
        clear HFIN HAP hb1 hbw1 HOWN HCAP HRD e2 h0 HLO
        subst eK
        go_wp2_with (first | (at_builtin; refine Lib.wpList_append_run _ rfl (.tmp 75) (.tmp 77) 27 27 rfl _ _ rfl rfl _ _ hap1' ?_) | (at_builtin; refine Lib.wpList_append_run _ rfl (.tmp 80) (.tmp 86) 27 27 rfl _ _ rfl rfl _ _ hap0 ?_))
        go_ret
        exact HF.out
      · injection e with e1 e2 e3
        subst e1 e3
        clear e2
        by_cases hc : c = K.length
        · obtain ⟨v2, w2, hap2, ho2, hg2, hf2⟩ := HAP.out g 0 0
          rw [List.append_nil] at ho2
          obtain ⟨a2, c2, ev2⟩ := ho2.slice
          generalize (K.take K.length ++ [(⟨pi, px, py⟩ : Ward.Pt)]).length = n2 at ev2
          subst ev2
          have hb2 : Below (w.heap.size + 1) w1 w2 := ⟨hg2.os, hg2.tape, hg2.output, hg2.size, fun j hj => hg2.block j (by omega) (fun e => by have := HO1.out.ge e.symm; omega)⟩
          have HF := hide (HFIN.out _ w2 hb2 ho2)
          have hbw2 : Below w.heap.size w w2 := hbw1.trans (hb2.mono (by omega))
          have hcr2 := (HM.out.below hbw2).cell
          have hfz2 : w2.frozen? ⟨r, 0, none⟩ = false := frozen_of_row _ _ _ _ _ (HM.out.below hbw2).row
          have hap2' : (Builtin.append_ #[27, 27] 27 #[.slice (some ⟨g1, 0, none⟩) (K.length + 1) cap1, .slice (some ⟨g, 0, none⟩) 0 0]).run Tryz.prog w1 = .ok (.slice a2 n2 c2) w2 := hap2
          clear HFIN HAP hb1 hbw1 HOWN HCAP HRD HLO ho2 hg2 hf2 hb2 hbw2 hap2 hap0
          go_wp2_with (first | (at_builtin; refine Lib.wpList_append_run _ rfl (.tmp 75) (.tmp 77) 27 27 rfl _ _ rfl rfl _ _ hap1' ?_) | (at_builtin; refine Lib.wpList_append_run _ rfl (.tmp 80) (.tmp 86) 27 27 rfl _ _ rfl rfl _ _ hap2' ?_))
          go_ret
          exact HF.out
        · obtain ⟨v2, w2, hap2, ho2, hg2, hf2⟩ := HAP.out g (K.length * 3) (c - K.length)
          rw [List.append_nil] at ho2
          obtain ⟨a2, c2, ev2⟩ := ho2.slice
          generalize (K.take K.length ++ [(⟨pi, px, py⟩ : Ward.Pt)]).length = n2 at ev2
          subst ev2
          have hb2 : Below (w.heap.size + 1) w1 w2 := ⟨hg2.os, hg2.tape, hg2.output, hg2.size, fun j hj => hg2.block j (by omega) (fun e => by have := HO1.out.ge e.symm; omega)⟩
          have HF := hide (HFIN.out _ w2 hb2 ho2)
          have hbw2 : Below w.heap.size w w2 := hbw1.trans (hb2.mono (by omega))
          have hcr2 := (HM.out.below hbw2).cell
          have hfz2 : w2.frozen? ⟨r, 0, none⟩ = false := frozen_of_row _ _ _ _ _ (HM.out.below hbw2).row
          have hap2' : (Builtin.append_ #[27, 27] 27 #[.slice (some ⟨g1, 0, none⟩) (K.length + 1) cap1, .slice (some ⟨g, K.length * 3, none⟩) 0 (c - K.length)]).run Tryz.prog w1 = .ok (.slice a2 n2 c2) w2 := hap2
          have hcc2 : K.length < c := by omega
          clear HFIN HAP hb1 hbw1 HOWN HCAP HRD HLO ho2 hg2 hf2 hb2 hbw2 hap2 hap0 hc
          go_wp2_with (first | (at_builtin; refine Lib.wpList_append_run _ rfl (.tmp 75) (.tmp 77) 27 27 rfl _ _ rfl rfl _ _ hap1' ?_) | (at_builtin; refine Lib.wpList_append_run _ rfl (.tmp 80) (.tmp 86) 27 27 rfl _ _ rfl rfl _ _ hap2' ?_))
          go_ret
          exact HF.out
end Go.Proofs.YtenaelkbgkpllaaGreatDoor
/- A point that slides down to its place among others in order. -/
namespace Go.Proofs.YtenaelkbgkpllaaGreatDoor
namespace Ward
/-- a point at a place between others -/
def slid (S : List Pt) (p : Pt) (k : Nat) : List Pt := S.take k ++ p :: S.drop k
theorem slid_len {S : List Pt} {p : Pt} {k : Nat} : (slid S p k).length = S.length + 1 := by
  unfold slid
  simp only [List.length_append, List.length_cons, List.length_take, List.length_drop]
  omega
theorem slid_end (S : List Pt) (p : Pt) : slid S p S.length = S ++ [p] := by
  unfold slid
  rw [List.take_length, List.drop_length]
theorem slid_get {S : List Pt} {p : Pt} {k : Nat} (hk : k + 1 ≤ S.length) (h : k < (slid S p (k + 1)).length) : (slid S p (k + 1))[k] = S[k] := by
  have h0 : k < (S.take (k + 1)).length := by simp; omega
  have e : (slid S p (k + 1))[k] = (S.take (k + 1))[k] := List.getElem_append_left h0
  rw [e, List.getElem_take]
theorem slid_set {S : List Pt} {p : Pt} {k : Nat} (hk : k + 1 ≤ S.length) : ((slid S p (k + 1)).set (k + 1) S[k]).set k p = slid S p k := by
  have h1 : S.take (k + 1) = S.take k ++ [S[k]] := List.take_succ_eq_append_getElem (by omega)
  have h2 : S.drop k = S[k] :: S.drop (k + 1) := List.drop_eq_getElem_cons (by omega)
  have hl : (S.take k).length = k := by rw [List.length_take]; omega
  unfold slid
  rw [h2, h1]
  generalize S.take k = A at *
  generalize S.drop (k + 1) = D at *
  generalize S[k] = x at *
  subst hl
  rw [List.append_assoc, List.set_append_right _ _ (by omega), show A.length + 1 - A.length = 1 by omega]
  show (A ++ x :: x :: D).set A.length p = _
  rw [List.set_append_right _ _ (Nat.le_refl _), Nat.sub_self]
  rfl
theorem slid_parts {S : List Pt} {p : Pt} {k : Nat} (hs : Sorted S) (hi : ∀ q ∈ S, q.id ≠ p.id) (hk : k ≤ S.length) (hh : ∀ i, (h : i < S.length) → k ≤ i → lt p S[i]) (hl : ∀ j, (h : j < S.length) → j + 1 = k → ¬ lt p S[j]) : Parts p S k := by
  refine ⟨hk, fun i h hik => ?_, fun i h hik e => lt_irrefl p (lt_trans (hh i h hik) e)⟩
  have hj : k - 1 < S.length := by omega
  have h1 : lt S[k - 1] p := lt_tot (fun e => hi _ (List.getElem_mem hj) e.symm) (hl (k - 1) hj (by omega))
  by_cases e : i = k - 1
  · subst e; exact h1
  · exact lt_trans ((List.pairwise_iff_getElem.1 hs) i (k - 1) h hj (by omega)) h1
/-- the points within a window, one more looked at -/
theorem within_step {b : Box} {L : List Pt} {i : Nat} (h : i < L.length) : ((L.take (i + 1)).filter (inB b)) = if inB b L[i] = true then (L.take i).filter (inB b) ++ [L[i]] else (L.take i).filter (inB b) := by
  rw [List.take_succ_eq_append_getElem h, List.filter_append]
  by_cases e : inB b L[i] = true
  · rw [if_pos e, List.filter_cons_of_pos e, List.filter_nil]
  · rw [if_neg e, List.filter_cons_of_neg e, List.filter_nil, List.append_nil]
theorem within_ids {b : Box} {L : List Pt} (hi : Ids L) (i : Nat) : Ids ((L.take i).filter (inB b)) := ids_sub (List.filter_sublist.trans (List.take_sublist _ _)) hi
theorem within_len {b : Box} {L : List Pt} (i : Nat) : (sortP ((L.take i).filter (inB b))).length ≤ L.length := by
  rw [(sortP_perm _).length_eq]
  exact Nat.le_trans (List.length_filter_le _ _) (by rw [List.length_take]; omega)
theorem within_fresh {b : Box} {L : List Pt} (hi : Ids L) {i : Nat} (h : i < L.length) : ∀ q ∈ sortP ((L.take i).filter (inB b)), q.id ≠ (L[i]).id := fun q hq => by
  have h1 := (List.mem_filter.1 ((sortP_perm _).mem_iff.1 hq)).1
  obtain ⟨j, hj, e⟩ := List.getElem_of_mem h1
  rw [List.length_take] at hj
  rw [List.getElem_take] at e
  rw [← e]
  exact (List.pairwise_iff_getElem.1 hi) j i (by omega) h (by omega)
/-- the answer of a window, one more looked at -/
theorem within_in {b : Box} {L : List Pt} (hi : Ids L) {i k : Nat} (h : i < L.length) (hb : inB b L[i] = true) (hp : Parts L[i] (sortP ((L.take i).filter (inB b))) k) : sortP ((L.take (i + 1)).filter (inB b)) = slid (sortP ((L.take i).filter (inB b))) L[i] k := by
  have h1 := within_ids (b := b) hi (i + 1)
  rw [within_step h, if_pos hb] at h1 ⊢
  exact sortP_snoc h1 hp
theorem within_out {b : Box} {L : List Pt} {i : Nat} (h : i < L.length) (hb : inB b L[i] = false) : sortP ((L.take (i + 1)).filter (inB b)) = sortP ((L.take i).filter (inB b)) := by
  rw [within_step h, if_neg (by rw [hb]; decide)]
end Ward
end Go.Proofs.YtenaelkbgkpllaaGreatDoor
/- The document's Answered, of a window: its parts. -/
namespace Go.Proofs.YtenaelkbgkpllaaGreatDoor
open Go.RowKit

theorem setP_cells (l : List Ward.Pt) (i : Nat) (e : Ward.Pt) (h : i < l.length) : (l.set i e).flatMap P3 = over (l.flatMap P3) (i * 3) (P3 e) := by
  have hl : l = l.take i ++ l[i] :: l.drop (i + 1) := by rw [← List.drop_eq_getElem_cons h, List.take_append_drop]
  have h1 : l.set i e = l.take i ++ e :: l.drop (i + 1) := List.set_eq_take_append_cons_drop ▸ by rw [if_pos h]
  have ht : ((l.take i).flatMap P3).length = i * 3 := by rw [cells_len, List.length_take]; congr 1; omega
  have hf : l.flatMap P3 = (l.take i).flatMap P3 ++ (P3 l[i] ++ (l.drop (i + 1)).flatMap P3) := by
    have := congrArg (List.flatMap P3) hl
    rw [List.flatMap_append, List.flatMap_cons] at this
    exact this
  rw [h1, List.flatMap_append, List.flatMap_cons, hf, ← ht]
  generalize (l.drop (i + 1)).flatMap P3 = R
  generalize (l.take i).flatMap P3 = Q
  generalize hE : P3 l[i] = X
  have hX : (P3 e).length = X.length := by rw [← hE]; rfl
  unfold over
  rw [List.take_left, List.append_assoc, hX, ← List.drop_drop, List.drop_left, List.drop_left]
theorem ownP_set {w : World} {B g n c : Nat} {l : List Ward.Pt} (h : Own w B (.slice (some ⟨g, 0, none⟩) n c) l) (i : Nat) (hi : i < l.length) (e : Ward.Pt) :
    Own (w.setCells g (i * 3) (P3 e)) B (.slice (some ⟨g, 0, none⟩) n c) (l.set i e) ∧ w.grownBy (w.setCells g (i * 3) (P3 e)) (some g) := by
  rcases h.2 with ⟨e', _⟩ | ⟨g', cap, cur, e', hB, hg, hcap, hmax, hcs, htake⟩
  · cases e'
  · injection e' with e1 e2 e3
    injection e1 with e1
    injection e1 with e1
    subst e1 e3 e2
    have hlen : (l.set i e).length = l.length := List.length_set
    have hcl : cur.toList.length = c * 3 := by
      have h1 : cur.toList.length = cur.size := Array.length_toList
      omega
    have hle : l.length * 3 ≤ cur.toList.length := by
      rw [hcl]; exact Nat.mul_le_mul_right _ hcap
    have hb := below_setCellsN (B := 0) (a := w) (Nat.zero_le g) (P3 e) (i * 3) w (Below.refl 0 w)
    have hi5 : i * 3 + (P3 e).length ≤ l.length * 3 := by
      show i * 3 + 3 ≤ _
      omega
    have hr := setCells_row (g := g) (ty := 36) (P3 e) (i * 3) cur.toList w (by rw [Array.toArray_toList]; exact hg) (by omega)
    refine ⟨⟨by rw [cells_len], .inr ⟨g, c, _, by rw [hlen], hB, hr, by rw [hlen]; exact hcap, hmax, ?_, ?_⟩⟩, ⟨hb.os, hb.tape, hb.output, hb.size, fun k hk hne => setCells_other (fun e => hne (by rw [e])) _ _ _⟩⟩
    · rw [List.size_toArray, over_len (by omega), hcl]
    · rw [List.toList_toArray, hlen, over_takeM hi5 hle, htake, setP_cells l i e hi]
/-- a slice of one's own, not empty: where it lies, that it may be written -/
theorem Own.open' {w : World} {B : Nat} {v : Value} {l : List Ward.Pt} (h : Own w B v l) (hl : 0 < l.length) : ∃ g c, v = .slice (some ⟨g, 0, none⟩) l.length c ∧ B ≤ g ∧ g < w.heap.size ∧ l.length ≤ c ∧ (∀ k, w.frozen? ⟨g, k, none⟩ = false) ∧ ∀ i, (hi : i < l.length) → PtAt w g (i * 3) l[i] := by
  rcases h.2 with ⟨_, h0⟩ | ⟨g, c, cur, e, hB, hg, hc, _⟩
  · omega
  · refine ⟨g, c, e, hB, (Array.getElem?_eq_some_iff.1 hg).1, hc, fun k => frozen_of_row _ _ _ _ _ hg, fun i hi => ?_⟩
    obtain ⟨a', c', e', hr⟩ := h.reads
    obtain ⟨g2, o2, ea, hp⟩ := hr (fun e => by rw [e] at hl; simp at hl)
    rw [e] at e'
    injection e' with e1
    rw [← e1] at ea
    injection ea with ea
    injection ea with ea eo
    have := hp i hi
    rw [← ea, ← eo, Nat.zero_add] at this
    exact this
end Go.Proofs.YtenaelkbgkpllaaGreatDoor
/- A whole node read where the order is drawn. -/
namespace Go.Proofs.YtenaelkbgkpllaaGreatDoor
open Go.RowKit

/-- the whole row that a pointer leads to -/
def loadVal (w : World) : Value → Value
  | .pointer (some ⟨g, 0, none⟩) => match w.heap[g]? with | some (.cells cs _ _) => .agg cs | _ => undef
  | _ => undef
/-- a pointer to a row of a node's cells -/
def NodeRow (w : World) (v : Value) : Prop := ∃ g cs t fr, v = .pointer (some ⟨g, 0, none⟩) ∧ w.heap[g]? = some (.cells cs t fr) ∧ cs.size = 39
theorem loadVal_row {w : World} {g t : Nat} {cs : Array Value} {fr : Nat × Nat} (h : w.heap[g]? = some (.cells cs t fr)) : loadVal w (.pointer (some ⟨g, 0, none⟩)) = .agg cs := by
  show (match w.heap[g]? with | some (.cells cs _ _) => Value.agg cs | _ => undef) = _
  rw [h]
theorem nodeRow_of {w : World} {g t : Nat} {cs : Array Value} {fr : Nat × Nat} (h : w.heap[g]? = some (.cells cs t fr)) (hs : cs.size = 39) : NodeRow w (.pointer (some ⟨g, 0, none⟩)) := ⟨g, cs, t, fr, rfl, h, hs⟩
theorem wp_load_node {d : Option Tmp} {x : Operand} {tt : TypeId} {ps : String} {af : Array Edge} {a : Act} {w : World} {K : Act → World → Prop} {Q : Exit → Act → World → Prop} (h : NodeRow w (a.eval x)) :
    Oper.wp Tryz.prog { dst := d, op := .load 90 x, type := tt, pos := ps, after := af, guard := none } a w K Q = K (a.put d (loadVal w (a.eval x))) w := by
  obtain ⟨g, cs, t, fr, hv, hg, hs⟩ := h
  obtain ⟨fs, hu⟩ := underNode
  have hr := run_loadVar_row (P := Tryz.prog) w g t 90 cs fr (.struct fs) hg hu rfl (by rw [hs]; exact Tryz.infoNode)
  rw [hv, loadVal_row hg]
  unfold Oper.wp execOp
  simp only [hv, Instr.loadAt, Instr.sureAddr, Sem.run_bind, Sem.run_pure, Result.andThen_ok, hr]
  rfl
end Go.Proofs.YtenaelkbgkpllaaGreatDoor
/- Reading a proof: its numbers, its next bytes. -/
namespace Go.Proofs.YtenaelkbgkpllaaGreatDoor
open Go.RowKit

set_option maxRecDepth 100000 in
set_option maxHeartbeats 4000000 in
theorem numberOf_any (l : List UInt8) (k : Nat) (w : World) (hk : 4 * k + 4 ≤ l.length) (hl : l.length ≤ 1000) :
    Calls Tryz.prog 157 #[Sv l, I k] w fun e w' => e = .returned (I (Ward.numAt l k)) ∧ Below w.heap.size w w' := by
  go_enter Tryz.func157, Tryz.ntmps157
  go_wp2_with fail
  refine (at_anyI ⟨l.toArray⟩ (4 * k) (4 * k) w (by omega) (by simpa [ByteArray.size] using hk) (by simp [ByteArray.size]; unfold maxLen; omega)).mono ?_
  rintro _ w1 ⟨rfl, n, rfl⟩
  go_wp2_with fail
  go_ret
  have hw := Ward.word_lt l (4 * k)
  refine ⟨?_, below_drewN (Below.refl _ _) n⟩
  have e : wrap64 (wrap32 (Sha.word l (4 * k) : Nat)) = Ward.numAt l k := by
    unfold Ward.numAt Ward.signed wrap64 wrap32
    split <;> omega
  rw [e]
  rfl
theorem sv_size (l : List UInt8) : (⟨l.toArray⟩ : ByteArray).size = l.length := by simp [ByteArray.size]
theorem cut_to (l : List UInt8) (k : Nat) (h : k ≤ l.length) (W : World) : (Instr.slice 9 (Sv l) none (some (I k)) none).run Tryz.prog W = .ok (Sv (l.take k)) W := by
  rw [run_slice_string_to_if W 9 ⟨l.toArray⟩ .i64 _ Tryz.underlying9, if_pos (by rw [sv_size]; omega)]
  rw [ba_eq (s := (⟨l.toArray⟩ : ByteArray).extract 0 (k : Int).toNat) (l := l.take k) (by rw [cut_list]; simp)]
theorem cut_from (l : List UInt8) (k : Nat) (h : k ≤ l.length) (W : World) : (Instr.slice 9 (Sv l) (some (I k)) none none).run Tryz.prog W = .ok (Sv (l.drop k)) W := by
  rw [run_slice_string_from_if W 9 ⟨l.toArray⟩ .i64 _ Tryz.underlying9, if_pos (by rw [sv_size]; omega)]
  rw [ba_eq (s := (⟨l.toArray⟩ : ByteArray).extract (k : Int).toNat (⟨l.toArray⟩ : ByteArray).size) (l := l.drop k) (by rw [cut_list, sv_size]; exact List.take_of_length_le (by simp))]
set_option maxRecDepth 100000 in
set_option maxHeartbeats 4000000 in
theorem take_few (g k : Nat) (l : List UInt8) (m : Value) (w : World) (hr : w.heap[g]? = some (.cells #[Sv l, m] 137 (0, 0))) (hk : l.length < k) :
    Calls Tryz.prog 121 #[.pointer (some ⟨g, 0, none⟩), I k] w fun e w' => e = .returned (.tuple #[Sv [], .bool false]) ∧ w' = w := by
  have c0 : w.cell? ⟨g, 0, none⟩ = some (Sv l) := by rw [cell_of_row _ _ _ _ _ _ hr]; rfl
  clear hr
  go_enter Tryz.func121, Tryz.ntmps121
  go_wp2
  go_ret2
  exact ⟨rfl, rfl⟩
set_option maxRecDepth 100000 in
set_option maxHeartbeats 4000000 in
theorem take_many (g k : Nat) (l : List UInt8) (m : Value) (w : World) (hr : w.heap[g]? = some (.cells #[Sv l, m] 137 (0, 0))) (hk : k ≤ l.length) :
    Calls Tryz.prog 121 #[.pointer (some ⟨g, 0, none⟩), I k] w fun e w' => e = .returned (.tuple #[Sv (l.take k), .bool true]) ∧ w'.heap[g]? = some (.cells #[Sv (l.drop k), m] 137 (0, 0)) ∧ Keeps (fun j => j = g) w w' := by
  have c0 : w.cell? ⟨g, 0, none⟩ = some (Sv l) := by rw [cell_of_row _ _ _ _ _ _ hr]; rfl
  have hf : w.frozen? ⟨g, 0, none⟩ = false := frozen_of_row _ _ _ _ _ hr
  have HR := hide hr
  clear hr
  go_enter Tryz.func121, Tryz.ntmps121
  have s1 := cut_to l k hk
  have s2 := cut_from l k hk
  have HE := hide (show (w.setCell ⟨g, 0, none⟩ (Sv (l.drop k))).heap[g]? = some (.cells #[Sv (l.drop k), m] 137 (0, 0)) from heap_setCell_same w g 0 #[Sv l, m] 137 _ HR.out)
  go_upto_region 3 with fail
  go_region
  all_goals
    go_wp2
    go_ret2
    exact ⟨rfl, HE.out, rfl, rfl, rfl, by simp, fun j _ hn => Below.heap_setCell _ _ _ _ (fun e => hn e)⟩
end Go.Proofs.YtenaelkbgkpllaaGreatDoor
/- The ids that were read: a set of the program's own. -/
namespace Go.Proofs.YtenaelkbgkpllaaGreatDoor
open Go.RowKit

/-- the map of that block holds these ids -/
def SetIs (w : World) (b n : Nat) (ids : List Int) : Prop := ∃ D : DataW Unit, w.ownsMap Tryz.prog 3 unitElem b n D ∧ ∀ x, Maps.has D (.int .i64 x) = ids.contains x
theorem setKey : Maps.Keyed Tryz.prog 3 := Maps.int_keyed Tryz.underlying3
theorem setZero (w : World) : (zeroValue 222).run Tryz.prog w = .ok (.agg #[]) w := by kernel_rfl
theorem keyI {x : Int} (h : -9223372036854775808 ≤ x ∧ x < 9223372036854775808) : keyOf Tryz.prog 3 (I x) = some (.int .i64 x) := Maps.keyOf_int_mk Tryz.underlying3 (by
  simp [Lit.wf, IntKind.min, IntKind.max, IntKind.bits, IntKind.signed]
  omega)
theorem SetIs.block {w w' : World} {b n : Nat} {ids : List Int} (h : SetIs w b n ids) (hb : w'.heap[b]? = w.heap[b]?) : SetIs w' b n ids := by
  obtain ⟨D, ⟨es, clock, h1, h2⟩, hD⟩ := h
  exact ⟨D, ⟨es, clock, hb.trans h1, h2⟩, hD⟩
theorem SetIs.lt {w : World} {b n : Nat} {ids : List Int} (h : SetIs w b n ids) : b < w.heap.size := by
  obtain ⟨D, h, _⟩ := h
  exact h.lt
theorem SetIs.look {w : World} {b n : Nat} {ids : List Int} (h : SetIs w b n ids) {x : Int} (hx : -9223372036854775808 ≤ x ∧ x < 9223372036854775808) : (Instr.lookup 135 (.map (some b)) (I x) true).run Tryz.prog w = .ok (.tuple #[.agg #[], .bool (ids.contains x)]) w := by
  obtain ⟨D, h, hD⟩ := h
  obtain ⟨v, ps, hr, hv⟩ := h.look_ok setKey Tryz.underlying135 (setZero w) unitElem_mk (keyI hx)
  obtain ⟨rfl, _⟩ := unitElem_inv hv
  rw [hr, hD]
theorem SetIs.put {w : World} {b n : Nat} {ids : List Int} (h : SetIs w b n ids) (hn : n ≤ 1000000) {x : Int} (hx : -9223372036854775808 ≤ x ∧ x < 9223372036854775808) : ∃ w', (Instr.mapUpdate 135 (.map (some b)) (I x) (.agg #[])).run Tryz.prog w = .ok () w' ∧ SetIs w' b (n + 1) (x :: ids) ∧ w.grownBy w' (some b) := by
  obtain ⟨D, h, hD⟩ := h
  obtain ⟨w', hr, ho, hg⟩ := h.update setKey Tryz.underlying135 (by unfold maxLen; omega) (keyI hx) unitElem_mk
  refine ⟨w', hr, ⟨_, ho, fun y => ?_⟩, hg⟩
  by_cases e : y = x
  · subst e
    rw [Maps.has_put_same h.isMap (show WideAt.IsKeyLit (.int .i64 y) from trivial)]
    simp
  · rw [Maps.has_put_other (fun e2 => e (by injection e2)), hD]
    simp [e]
theorem look_small {x : Int} (hx : -2147483648 ≤ x ∧ x < 2147483648) : -9223372036854775808 ≤ x ∧ x < 9223372036854775808 := by omega
theorem look_drew {w : World} {b n : Nat} {ids : List Int} {x : Int} {r : Bool} (h : SetIs w b n ids) (hx : -2147483648 ≤ x ∧ x < 2147483648) (hr : ids.contains x = r) : (Instr.lookup 135 (.map (some b)) (I x) true).run Tryz.prog w.drew = .ok (.tuple #[.agg #[], .bool r]) w.drew := by
  rw [← hr]
  exact SetIs.look (w := w.drew) (h.block rfl) (look_small hx)
theorem look_alloc {w : World} {b n : Nat} {ids : List Int} {x : Int} {r : Bool} (h : SetIs w b n ids) (hx : -2147483648 ≤ x ∧ x < 2147483648) (hr : ids.contains x = r) (o : Obj) : (Instr.lookup 135 (.map (some b)) (I x) true).run Tryz.prog (w.alloc o).drew = .ok (.tuple #[.agg #[], .bool r]) (w.alloc o).drew := by
  have hb : (w.alloc o).heap[b]? = w.heap[b]? := Below.heap_alloc w o b h.lt
  exact look_drew (h.block hb) hx hr
end Go.Proofs.YtenaelkbgkpllaaGreatDoor
/- A point read. -/
namespace Go.Proofs.YtenaelkbgkpllaaGreatDoor
open Go.RowKit

/-- the reader, as it lies -/
structure RdAt (w : World) (g b n : Nat) (s : Ward.Sta) : Prop where
  row : w.heap[g]? = some (.cells #[Sv s.1, .map (some b)] 137 (0, 0))
  set : SetIs w b n s.2
theorem RdAt.ne {w : World} {g b n : Nat} {s : Ward.Sta} (h : RdAt w g b n s) : b ≠ g := fun e => by
  obtain ⟨D, ⟨es, clock, h1, h2⟩, hD⟩ := h.set
  rw [e, h.row] at h1
  injection h1 with h1
  cases h1
theorem RdAt.lt {w : World} {g b n : Nat} {s : Ward.Sta} (h : RdAt w g b n s) : g < w.heap.size := (Array.getElem?_eq_some_iff.1 h.row).1
theorem RdAt.below {w w' : World} {g b n : Nat} {s : Ward.Sta} (h : RdAt w g b n s) (hb : Below w.heap.size w w') : RdAt w' g b n s := ⟨(hb.block g h.lt).trans h.row, h.set.block (hb.block b h.set.lt)⟩
/-- what reading changes -/
def Rd2 (g b j : Nat) : Prop := j = g ∨ j = b
theorem numAt_take {l : List UInt8} {k n : Nat} (h : 4 * k + 4 ≤ n) (hn : n ≤ l.length) : Ward.numAt (l.take n) k = Ward.numAt l k := by
  have e := Ward.word_app (l := l.take n) (m := l.drop n) (i := 4 * k) (by rw [List.length_take]; omega)
  rw [List.take_append_drop] at e
  unfold Ward.numAt
  rw [e]
theorem numAt_range (l : List UInt8) (k : Nat) : -2147483648 ≤ Ward.numAt l k ∧ Ward.numAt l k < 2147483648 := by
  have h := Ward.word_lt l (4 * k)
  unfold Ward.numAt Ward.signed
  split <;> omega
theorem underPt : ∃ fs, Tryz.prog.underlying 36 = some (.struct fs) := by
  have h : (Tryz.prog.underlying 36).map (fun d => match d with | .struct _ => true | _ => false) = some true := by kernel_rfl
  cases e : Tryz.prog.underlying 36 with
  | none => rw [e] at h; cases h
  | some d =>
    rw [e] at h
    cases d <;> first | exact ⟨_, rfl⟩ | cases h
theorem sizePt : (Tryz.prog.info? 36).map (·.size) = some 3 := by kernel_rfl
theorem results_row_tmp {P : Program} {fn : Func} {p u : Tmp} {ty : TypeId} (h : fn.results = #[.cell p ty, .tmp u]) (tmps : Array Value) (w : World) (g : Nat) (t : TypeId) (cs : Array Value) (fr : Nat × Nat) (d : TypeDesc)
    (hp : tmps.getD p undef = .pointer (some ⟨g, 0, none⟩)) (hg : w.heap[g]? = some (.cells cs t fr))
    (hu : P.underlying ty = some d) (hd : (match d with | .struct _ | .array _ _ => true | _ => false) = true) (hi : (P.info? ty).map (·.size) = some cs.size) :
    (results fn tmps).run P w = .ok (.tuple #[.agg cs, tmps.getD u undef]) w := by
  have hp' : tmps[p]?.getD undef = .pointer (some ⟨g, 0, none⟩) := by simpa using hp
  simp [results, h, hp', asAddr, run_loadVar_row w g t ty cs fr d hg hu hd hi]
theorem store3 {w : World} {g ty : Nat} {a b c : Value} (x y z : Value) (h : w.heap[g]? = some (.cells #[a, b, c] ty (0, 0))) : (((w.setCell ⟨g, 0, none⟩ x).setCell ⟨g, 1, none⟩ y).setCell ⟨g, 2, none⟩ z).heap[g]? = some (.cells #[x, y, z] ty (0, 0)) := by
  have h1 := heap_setCell_same w g 0 _ ty x h
  have h2 := heap_setCell_same _ g 1 _ ty y h1
  exact heap_setCell_same _ g 2 _ ty z h2
theorem below_store3 {B : Nat} {w w' : World} {g : Nat} (h : Below B w w') (hg : B ≤ g) (x y z : Value) : Below B w (((w'.setCell ⟨g, 0, none⟩ x).setCell ⟨g, 1, none⟩ y).setCell ⟨g, 2, none⟩ z) :=
  ⟨h.os, h.tape, h.output, by simpa using h.size, fun j hj => by
    rw [Below.heap_setCell _ _ _ _ (by show j ≠ g; omega), Below.heap_setCell _ _ _ _ (by show j ≠ g; omega), Below.heap_setCell _ _ _ _ (by show j ≠ g; omega)]
    exact h.block j hj⟩
theorem Keeps.low {S : Nat → Prop} {w w' w'' : World} (h : Keeps S w w') (hb : Below w.heap.size w' w'') : Keeps S w w'' := ⟨hb.os.trans h.os, hb.tape.trans h.tape, hb.output.trans h.output, Nat.le_trans h.size hb.size, fun j hj hn => (hb.block j hj).trans (h.block j hj hn)⟩
/-- what reading a point leaves -/
def PointRead (w : World) (g b n : Nat) (s : Ward.Sta) (e : Ending) (w' : World) : Prop := Keeps (Rd2 g b) w w' ∧
  match Ward.rdPt s with
  | none => ∃ x y z : Int, e = .returned (.tuple #[.agg #[I x, I y, I z], .bool false])
  | some (p, s') => e = .returned (.tuple #[.agg #[I p.id, I p.x, I p.y], .bool true]) ∧ RdAt w' g b (n + 1) s'
set_option maxRecDepth 100000 in
set_option maxHeartbeats 4000000 in
theorem point_short (g b n : Nat) (s : Ward.Sta) (w : World) (H : RdAt w g b n s) (hs : s.1.length < 12) :
    Calls Tryz.prog 123 #[.pointer (some ⟨g, 0, none⟩)] w (PointRead w g b n s) := by
  have HE := hide (show Ward.rdPt s = none by unfold Ward.rdPt; rw [if_pos hs])
  have hb1' := fun o => (Below.refl w.heap.size w).alloc (Nat.le_refl _) o
  have HH := hide H
  clear H
  go_enter Tryz.func123, Tryz.ntmps123
  go_upto_region 1 with fail
  generalize hW : World.alloc w _ = w1
  have hb1 : Below w.heap.size w w1 := by rw [← hW]; exact hb1' _
  have hr1 : w1.heap[w.heap.size]? = some (.cells #[I 0, I 0, I 0] 36 (0, 0)) := by rw [← hW]; exact heap_alloc_new _ _
  clear hb1' hW
  have HT := hide (take_few g 12 s.1 _ w1 (HH.out.below hb1).row hs)
  have HB1 := hide hb1
  obtain ⟨e0, e1, e2⟩ := row3 hr1
  have f0 : w1.frozen? ⟨w.heap.size, 0, none⟩ = false := frozen_of_row _ _ _ _ _ hr1
  have f1 : w1.frozen? ⟨w.heap.size, 1, none⟩ = false := frozen_of_row _ _ _ _ _ hr1
  have f2 : w1.frozen? ⟨w.heap.size, 2, none⟩ = false := frozen_of_row _ _ _ _ _ hr1
  clear hb1
  go_wp2_with fail
  refine HT.out.mono ?_
  rintro _ w0 ⟨rfl, hw0⟩
  rw [hw0]
  clear hw0
  go_wp2_with fail
  obtain ⟨fs, hu⟩ := underPt
  refine bodyPost_ret (results_row_tmp (p := 2) (u := 3) (ty := 36) rfl _ _ w.heap.size 36 _ (0, 0) _ rfl (store3 _ _ _ hr1) hu rfl sizePt) rfl ?_
  unfold PointRead
  rw [HE.out]
  exact ⟨Keeps.of_below (below_store3 HB1.out (Nat.le_refl _) _ _ _), 0, 0, 0, rfl⟩
/-- what a point's text says -/
theorem rdPt_long (s : Ward.Sta) (hs : 12 ≤ s.1.length) : ∃ pi px py, pi = Ward.numAt s.1 0 ∧ px = Ward.numAt s.1 1 ∧ py = Ward.numAt s.1 2 ∧ Ward.rdPt s = if (Ward.idOk pi && !(s.2.contains pi) && Ward.coordOk px && Ward.coordOk py) = true then some (⟨pi, px, py⟩, (s.1.drop 12, pi :: s.2)) else none := by
  refine ⟨_, _, _, rfl, rfl, rfl, ?_⟩
  unfold Ward.rdPt
  rw [if_neg (by omega)]
end Go.Proofs.YtenaelkbgkpllaaGreatDoor
/- Is a node shown? -/
namespace Go.Proofs.YtenaelkbgkpllaaGreatDoor
open Go.RowKit

set_option maxRecDepth 100000 in
set_option maxHeartbeats 4000000 in
theorem isShown_any (n : Nat) (t : Ward.NT n) (V : List Value) (w : World) (S : Nat → Prop) (hN : NodeIs w S n t V) (hfew : Ward.Few n t) :
    Calls Tryz.prog 86 #[.agg V.toArray] w fun e w' => e = .returned (.bool (Ward.shownN n t)) ∧ Below w.heap.size w w' := by
  cases n with
  | zero => exact nomatch t
  | succ n =>
    obtain ⟨vp, vc, hV, -, ⟨ap, cp, rfl, -⟩, ⟨ac, cc, rfl, -⟩⟩ := hN
    have h1 : (Ward.Nd.pts t).length ≤ 4 := hfew.1
    have h2 : (Ward.Nd.kids t).length ≤ 4 := hfew.2.1
    have HE := hide (show Ward.shownN (n + 1) t = decide (0 < (Ward.Nd.pts t).length + (Ward.Nd.kids t).length) from rfl)
    rw [HE.out]
    have hv0 : V[0]? = some (.slice ap (Ward.Nd.pts t).length cp) := by rw [hV]; rfl
    have hv1 : V[1]? = some (.slice ac (Ward.Nd.kids t).length cc) := by rw [hV]; rfl
    generalize (Ward.Nd.pts t).length = lp at *
    generalize (Ward.Nd.kids t).length = lk at *
    have hb1' := fun o => (Below.refl w.heap.size w).alloc (Nat.le_refl _) o
    have hr1' := heap_alloc_new w
    clear hV hfew HE
    go_enter Tryz.func86, Tryz.ntmps86
    go_upto_region 1 with fail
    generalize hW : World.alloc w _ = w1
    have hb1 : Below w.heap.size w w1 := by rw [← hW]; exact hb1' _
    have hr1 : w1.heap[w.heap.size]? = some (.cells V.toArray 90 (0, 0)) := by rw [← hW]; exact hr1' _
    clear hb1' hr1' hW
    have c0 : w1.cell? ⟨w.heap.size, 0, none⟩ = some (.slice ap lp cp) := by rw [cell_of_row _ _ _ _ _ _ hr1, List.getElem?_toArray]; exact hv0
    have c1 : w1.cell? ⟨w.heap.size, 1, none⟩ = some (.slice ac lk cc) := by rw [cell_of_row _ _ _ _ _ _ hr1, List.getElem?_toArray]; exact hv1
    have HB1 := hide hb1
    clear hb1 hr1 hv0 hv1
    go_wp2
    go_ret
    refine ⟨?_, HB1.out⟩
    show Ending.returned (Value.bool _) = _
    congr 2
    first | rfl | (apply decide_eq_decide.2; omega)
end Go.Proofs.YtenaelkbgkpllaaGreatDoor
/- A node as what stands right below it makes it. -/
namespace Go.Proofs.YtenaelkbgkpllaaGreatDoor
open Go.RowKit

theorem leaf_made {w w' : World} {S : Nat → Prop} {vp : Value} {L : List Ward.Pt} (n : Nat) (h : ReadsS w S vp L) (hb : Below w.heap.size w w') (hS : ∀ g, S g → g < w.heap.size) :
    NodeIs w' S (n + 1) (⟨L, [], Ward.boxL (L.map Ward.boxOf), (L.length : Nat), Sha.sha (Ward.leafText L)⟩ : Ward.NT (n + 1)) (nodeV vp (.slice none 0 0) (Ward.box 0 L) L.length ((Sha.sha (Ward.leafText L)).map Y)) :=
  ⟨vp, .slice none 0 0, rfl, sha_len _, h.keep (below_same hb hS) (fun _ h => h), none, 0, rfl, fun e => absurd rfl e⟩
theorem node_made {w w' : World} {S : Nat → Prop} {vc : Value} (n : Nat) {K : List (Ward.NT n)} (h : RowsAt (NodeIs w S n) w S vc K) (hb : Below w.heap.size w w') (hS : ∀ g, S g → g < w.heap.size) :
    NodeIs w' S (n + 1) (⟨[], K, Ward.boxL (K.map (Ward.boxN n)), (K.map (Ward.numN n)).sum, Sha.sha (Ward.textK n K)⟩ : Ward.NT (n + 1)) (nodeV (.slice none 0 0) vc (Ward.boxL (K.map (Ward.boxN n))) ((K.map (Ward.numN n)).sum) ((Sha.sha (Ward.textK n K)).map Y)) :=
  ⟨.slice none 0 0, vc, rfl, sha_len _, ⟨none, 0, rfl, fun e => absurd rfl e⟩, h.keep (below_same hb hS) (fun _ h => h) (NodeIs.keep (below_same hb hS) (fun _ h => h) n)⟩
set_option maxRecDepth 100000 in
set_option maxHeartbeats 4000000 in
theorem made_any (n : Nat) (t : Ward.NT (n + 1)) (V : List Value) (w : World) (S : Nat → Prop) (hS : ∀ g, S g → g < w.heap.size) (hN : NodeIs w S (n + 1) t V) (hfew : Ward.Few (n + 1) t) (hnum : ∀ c ∈ Ward.Nd.kids t, 0 ≤ Ward.numN n c ∧ Ward.numN n c ≤ 1000000) (hK : KT w) :
    Calls Tryz.prog 83 #[.agg V.toArray] w fun e w' => ∃ V', e = .returned (.agg V'.toArray) ∧ NodeIs w' S (n + 1) (Ward.madeN (n + 1) t) V' ∧ Below w.heap.size w w' := by
  obtain ⟨vp, vc, hV, -, hp, hk⟩ := hN
  obtain ⟨ac, cc, evc, hkr⟩ := hk
  obtain ⟨ap, cp, evp, hpr⟩ := hp
  have hp4 : (Ward.Nd.pts t).length ≤ 4 := hfew.1
  have hk4 : (Ward.Nd.kids t).length ≤ 4 := hfew.2.1
  have HP := hide (show ReadsS w S vp (Ward.Nd.pts t) from ⟨ap, cp, evp, hpr⟩)
  have HKD := hide (show RowsAt (NodeIs w S n) w S vc (Ward.Nd.kids t) from ⟨ac, cc, evc, hkr⟩)
  have hv0 : V[0]? = some vp := by rw [hV]; rfl
  have hv1 : V[1]? = some vc := by rw [hV]; rfl
  have HLF := hide (fun (W : World) (hb : Below w.heap.size w W) => leafOf_any vp (Ward.Nd.pts t) W hp4 ((HP.out.keep (below_same hb hS) (fun _ h => h)).low (fun g hg => Nat.lt_of_lt_of_le (hS g hg) hb.size)) (hK.below hb))
  have HND := hide (fun (W : World) (hb : Below w.heap.size w W) (h0 : Ward.Nd.kids t ≠ []) => nodeOf_any vc n (Ward.Nd.kids t) W S (fun g hg => Nat.lt_of_lt_of_le (hS g hg) hb.size) h0 hk4 (HKD.out.keep (below_same hb hS) (fun _ h => h) (NodeIs.keep (below_same hb hS) (fun _ h => h) n)) hnum (hK.below hb))
  obtain ⟨fs, hu⟩ := underNode
  have HU := hide hu
  have HS := hide hS
  have hb1' := fun o o' => ((Below.refl w.heap.size w).alloc (Nat.le_refl _) o).alloc (by simp) o'
  have hr1' := heap_alloc2_old w
  have hr2' := heap_alloc2_new w
  have hs1' := fun o o' => show ((w.alloc o).alloc o').heap.size = w.heap.size + 2 by simp
  have HMD := hide (show Ward.madeN (n + 1) t = if (Ward.Nd.kids t).length = 0 then ⟨Ward.Nd.pts t, [], Ward.boxL ((Ward.Nd.pts t).map Ward.boxOf), ((Ward.Nd.pts t).length : Nat), Sha.sha (Ward.leafText (Ward.Nd.pts t))⟩ else ⟨[], Ward.Nd.kids t, Ward.boxL ((Ward.Nd.kids t).map (Ward.boxN n)), ((Ward.Nd.kids t).map (Ward.numN n)).sum, Sha.sha (Ward.textK n (Ward.Nd.kids t))⟩ from rfl)
  clear hV hfew hnum hK hu hS hkr hpr
  subst evp evc
  go_enter Tryz.func83, Tryz.ntmps83
  go_upto_region 1 with fail
  generalize hW : World.alloc (World.alloc w _) _ = w1
  have hb1 : Below w.heap.size w w1 := by rw [← hW]; exact hb1' _ _
  have hr1 : w1.heap[w.heap.size]? = some (.cells V.toArray 90 (0, 0)) := by rw [← hW]; exact hr1' _ _
  have hr2 : ∃ Z : Array Value, Z.size = 39 ∧ w1.heap[w.heap.size + 1]? = some (.cells Z 90 (0, 0)) := by rw [← hW]; exact ⟨_, rfl, hr2' _ _⟩
  have hs1 : w.heap.size + 2 ≤ w1.heap.size := by rw [← hW, hs1']; exact Nat.le_refl _
  clear hb1' hr1' hr2' hs1' hW
  obtain ⟨Z, hZ, hr2⟩ := hr2
  have c0 : w1.cell? ⟨w.heap.size, 0, none⟩ = some (.slice ap (Ward.Nd.pts t).length cp) := by rw [cell_of_row _ _ _ _ _ _ hr1, List.getElem?_toArray]; exact hv0
  have c1 : w1.cell? ⟨w.heap.size, 1, none⟩ = some (.slice ac (Ward.Nd.kids t).length cc) := by rw [cell_of_row _ _ _ _ _ _ hr1, List.getElem?_toArray]; exact hv1
  have HB1 := hide hb1
  have HZ := hide hZ
  have HR2 := hide hr2
  clear hb1 hr1 hr2 hZ hv0 hv1
  by_cases h0 : (Ward.Nd.kids t).length = 0
  · rw [if_pos h0] at HMD
    have HX := hide (HLF.out w1 HB1.out)
    have HROW := hide (show Row39 (nodeV (.slice ap (Ward.Nd.pts t).length cp) (.slice none 0 0) (Ward.box 0 (Ward.Nd.pts t)) (Ward.Nd.pts t).length ((Sha.sha (Ward.leafText (Ward.Nd.pts t))).map Y)) from nodeV_row (sha_len _))
    have HRES := hide (fun (W : World) (hb : Below w.heap.size w W) => leaf_made n HP.out hb HS.out)
    generalize nodeV (.slice ap (Ward.Nd.pts t).length cp) (.slice none 0 0) (Ward.box 0 (Ward.Nd.pts t)) (Ward.Nd.pts t).length ((Sha.sha (Ward.leafText (Ward.Nd.pts t))).map Y) = R at *
    go_wp2_with fail
    refine HX.out.mono ?_
    rintro _ w2 ⟨rfl, hb2⟩
    have HB2 := hide (HB1.out.trans (hb2.mono (by omega)))
    have HZ2 := hide ((hb2.block (w.heap.size + 1) (by omega)).trans HR2.out)
    clear hb2
    go_wp2_with (refine wpList_store_row rfl 90 (.tmp 2) (.tmp 9) rfl (w.heap.size + 1) R.toArray rfl rfl 90 _ HZ2.out HROW.out.info (by rw [HROW.out.size, HZ.out]) HROW.out.one ?_)
    refine bodyPost_ret (v := .agg R.toArray) (results_cell_row rfl _ _ (w.heap.size + 1) 90 R.toArray (0, 0) (.struct fs) rfl (setRow_heap _ _ _ _ _ _ HZ2.out) HU.out rfl HROW.out.info) rfl ⟨R, rfl, ?_, below_setRow HB2.out (by omega) _⟩
    rw [HMD.out]
    exact HRES.out _ (below_setRow HB2.out (by omega) _)
  · rw [if_neg h0] at HMD
    have HX := hide (HND.out w1 HB1.out (fun e => h0 (by rw [e]; rfl)))
    have HROW := hide (show Row39 (nodeV (.slice none 0 0) (.slice ac (Ward.Nd.kids t).length cc) (Ward.boxL ((Ward.Nd.kids t).map (Ward.boxN n))) (((Ward.Nd.kids t).map (Ward.numN n)).sum) ((Sha.sha (Ward.textK n (Ward.Nd.kids t))).map Y)) from nodeV_row (sha_len _))
    have HRES := hide (fun (W : World) (hb : Below w.heap.size w W) => node_made n HKD.out hb HS.out)
    generalize nodeV (.slice none 0 0) (.slice ac (Ward.Nd.kids t).length cc) (Ward.boxL ((Ward.Nd.kids t).map (Ward.boxN n))) (((Ward.Nd.kids t).map (Ward.numN n)).sum) ((Sha.sha (Ward.textK n (Ward.Nd.kids t))).map Y) = R at *
    go_wp2_with fail
    refine HX.out.mono ?_
    rintro _ w2 ⟨rfl, hb2⟩
    have HB2 := hide (HB1.out.trans (hb2.mono (by omega)))
    have HZ2 := hide ((hb2.block (w.heap.size + 1) (by omega)).trans HR2.out)
    clear hb2
    go_wp2_with (refine wpList_store_row rfl 90 (.tmp 2) (.tmp 12) rfl (w.heap.size + 1) R.toArray rfl rfl 90 _ HZ2.out HROW.out.info (by rw [HROW.out.size, HZ.out]) HROW.out.one ?_)
    refine bodyPost_ret (v := .agg R.toArray) (results_cell_row rfl _ _ (w.heap.size + 1) 90 R.toArray (0, 0) (.struct fs) rfl (setRow_heap _ _ _ _ _ _ HZ2.out) HU.out rfl HROW.out.info) rfl ⟨R, rfl, ?_, below_setRow HB2.out (by omega) _⟩
    rw [HMD.out]
    exact HRES.out _ (below_setRow HB2.out (by omega) _)
end Go.Proofs.YtenaelkbgkpllaaGreatDoor
