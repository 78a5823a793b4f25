/- What a node says of a child. -/
import Derived.Test.YtenaelkbgkpllaaGreatDoorTH
namespace Go.Proofs.YtenaelkbgkpllaaGreatDoor
open Go.RowKit

/-- what a node says of a child: its box, its count, its digest -/
def childT (b : Ward.Box) (n : Int) (D : List UInt8) : List UInt8 := nums [b.a, b.b, b.c, b.d, n] ++ D

set_option maxRecDepth 100000 in
set_option maxHeartbeats 2000000 in
theorem appendChild_any (v : Value) (l : List UInt8) (vp vc : Value) (b : Ward.Box) (n : Int) (D : List UInt8) (w : World) (B : Nat) (hB : B ≤ w.heap.size) (hx : l.length ≤ 700000) (hD : D.length = 32) (hown : OwnB w B v l) :
    Calls Tryz.prog 120 #[v, .agg (nodeV vp vc b n (D.map Y)).toArray] w fun e w' => Put w B v l (childT b n D) e w' := by
  have HO := hide hown
  obtain ⟨a, c, rfl⟩ := hown.slice
  have HI := hide (nodeV_info (vp := vp) (vc := vc) (b := b) (n := n) (t := D.map Y) (by simpa using hD))
  generalize hM : (nodeV vp vc b n (D.map Y)).toArray = M at *
  have HM := hide hM
  clear hM hown
  go_enter Tryz.func120, Tryz.ntmps120
  go_upto_region 1 with fail
  have hb1' := (Below.refl w.heap.size w).alloc (Nat.le_refl _) (.cells M 90)
  have hr1' := heap_alloc_new w (.cells M 90)
  have hs1 : (w.alloc (.cells M 90)).heap.size = w.heap.size + 1 := by simp
  generalize w.alloc (.cells M 90) = w1 at *
  have hn1 : w1.heap[w.heap.size]? = some (.cells (nodeV vp vc b n (D.map Y)).toArray 90 (0, 0)) := by rw [HM.out]; exact hr1'
  obtain ⟨-, ⟨c1, c2, c3, c4⟩, c5⟩ := node_cells hn1
  have HN1 := hide hn1
  have HB1 := hide hb1'
  have HS1 := hide hs1
  clear hb1' hr1' hn1 hs1
  have hlt1 : w.heap.size < w1.heap.size := by have := HS1.out; omega
  have c6 : ∀ o, (w1.alloc o).cell? ⟨w.heap.size, 6, none⟩ = some (I n) := fun o => ((((Below.refl w1.heap.size w1).alloc (Nat.le_refl _) o)).cell (p := ⟨w.heap.size, 6, none⟩) hlt1).trans c5
  go_wp2_with fail
  have hb2 := fun o o' => ((Below.refl w1.heap.size w1).alloc (Nat.le_refl _) o).alloc (by simp) o'
  have hr2 := heap_alloc2_new w1
  have hs2' := fun o o' => show ((w1.alloc o).alloc o').heap.size = w1.heap.size + 2 by simp
  generalize hW : World.alloc (World.alloc w1 _) _ = w2
  have hb : Below w1.heap.size w1 w2 := by rw [← hW]; exact hb2 _ _
  have hrow : w2.heap[w1.heap.size + 1]? = some (.cells #[I b.a, I b.b, I b.c, I b.d, I n] 3 (0, 0)) := by rw [← hW]; exact hr2 _ _
  clear hb2 hr2 hs2' hW
  have HBB := hide (HB1.out.trans (hb.mono (by omega)))
  have hN2 := (hb.block w.heap.size (by omega)).trans HN1.out
  have hcs : ∀ i (h : i < [b.a, b.b, b.c, b.d, n].length), w2.cell? ⟨w1.heap.size + 1, i, none⟩ = some (I [b.a, b.b, b.c, b.d, n][i]) := fun i h => by
    rw [cell_of_row _ _ _ _ _ _ hrow]
    match i, h with
    | 0, _ => rfl
    | 1, _ => rfl
    | 2, _ => rfl
    | 3, _ => rfl
    | 4, _ => rfl
  have hn := appendNumbers_any (.slice a l.length c) l [b.a, b.b, b.c, b.d, n] (w1.heap.size + 1) w2 B (Nat.le_trans hB HBB.out.size) (by omega) (by simp) (HO.out.old (by have := HS1.out; omega)) hcs (by simp) (HO.out.below HBB.out)
  refine hn.mono ?_
  rintro e w3 ⟨v3, rfl, ho3, hg3, hf3⟩
  clear hn hcs hrow
  have HB2 := hide hb
  have HP3 := hide (Put.lift HBB.out ⟨v3, rfl, ho3, hg3, hf3⟩)
  have hn3 : w3.heap[w.heap.size]? = some (.cells (nodeV vp vc b n (D.map Y)).toArray 90 (0, 0)) := (hg3.block w.heap.size (by have := hb.size; omega) (fun e => HO.out.old (Nat.le_refl _) e.symm)).trans hN2
  obtain ⟨v4, w4, h4, ho4, hg4, hf4⟩ := append_bytes (w := w3) D ⟨w.heap.size, 7, none⟩ 32 ho3 (Nat.le_trans (Nat.le_trans hB HBB.out.size) hg3.size) (by simp [nums_len]; omega) (fun j x hj => by
    rw [Addr.add_mid, cell_of_row _ _ _ _ _ _ hn3]
    rw [show 7 + j = j + 7 by omega]
    simp [nodeV, hj])
  rw [hD] at h4
  obtain ⟨v3', e3, ho3', hg3', hf3'⟩ := HP3.out
  obtain rfl : v3 = v3' := by cases e3; rfl
  have HP4 := hide (show Put w B (.slice a l.length c) l (childT b n D) (.returned v4) w4 from ⟨v4, rfl, by rw [childT, ← List.append_assoc]; exact ho4, grown_trans hg3' hf3' hg4, fresh_trans hf3' hg3'.size hf4⟩)
  obtain ⟨a3, k3, rfl⟩ := ho3.slice
  generalize hl3 : (l ++ nums [b.a, b.b, b.c, b.d, n]).length = n3 at *
  clear hl3 ho3 hg3 hf3 ho3' hg3' hf3' e3 ho4 hg4 hf4 hn3 hN2 hb HP3
  go_wp2_with (at_builtin; refine Lib.wpList_append_run _ rfl (.tmp 21) (.tmp 23) 59 59 rfl _ _ rfl rfl _ _ h4 ?_)
  go_ret
  exact HP4.out
end Go.Proofs.YtenaelkbgkpllaaGreatDoor
