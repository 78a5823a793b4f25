/- Points compared. -/
import Derived.Test.YtenaelkbgkpllaaGreatDoorPA
namespace Go.Proofs.YtenaelkbgkpllaaGreatDoor
open Go.RowKit

/-- the first that is not nought -/
def orI (a b c : Int) : Int := if a ≠ 0 then a else if b ≠ 0 then b else c
set_option maxHeartbeats 400000 in
theorem or_any (g : Nat) (a b c : Int) (w : World) (h0 : w.cell? ⟨g, 0, none⟩ = some (I a)) (h1 : w.cell? ⟨g, 1, none⟩ = some (I b)) (h2 : w.cell? ⟨g, 2, none⟩ = some (I c)) :
    Calls Tryz.prog 66 #[.slice (some ⟨g, 0, none⟩) 3 3] w fun e w' => e = .returned (I (orI a b c)) ∧ w' = w := by
  go_enter Tryz.func66, Tryz.ntmps66
  go_wp2
  go_loopw [8] (fun v wq => wq = w ∧ ∃ i : Nat, v = I i ∧ i ≤ 3 ∧ (1 ≤ i → a = 0) ∧ (2 ≤ i → b = 0) ∧ (3 ≤ i → c = 0)) (fun v _ => 3 - (intOf v).toNat)
  case atStart => exact ⟨rfl, 0, rfl, by omega, by omega, by omega, by omega⟩
  case round =>
    obtain ⟨rfl, i, rfl, hi, ha, hb, hc⟩ := hrel
    match i, hi, ha, hb, hc with
    | 0, _, _, _, _ =>
      by_cases ha : a = 0
      · subst ha
        go_wp2
        go_roundw
        case rel => exact ⟨trivial, 1, by go_num, by omega, by simp, by omega, by omega⟩
        case measure => simp [intOf]
      · go_wp2
        go_ret
        exact ⟨by simp [orI, ha], rfl⟩
    | 1, _, ha, _, _ =>
      have ha := ha (by omega)
      by_cases hb : b = 0
      · subst hb
        go_wp2
        go_roundw
        case rel => exact ⟨trivial, 2, by go_num, by omega, by simp [ha], by simp, by omega⟩
        case measure => simp [intOf]
      · go_wp2
        go_ret
        exact ⟨by simp [orI, ha, hb], rfl⟩
    | 2, _, ha, hb, _ =>
      have ha := ha (by omega)
      have hb := hb (by omega)
      by_cases hc : c = 0
      · subst hc
        go_wp2
        go_roundw
        case rel => exact ⟨trivial, 3, by go_num, by omega, by simp [ha], by simp [hb], by simp⟩
        case measure => simp [intOf]
      · go_wp2
        go_ret
        exact ⟨by simp [orI, ha, hb], rfl⟩
    | 3, _, ha, hb, hc =>
      have ha := ha (by omega)
      have hb := hb (by omega)
      have hc := hc (by omega)
      go_wp2
      go_ret
      exact ⟨by simp [orI, ha, hb, hc], rfl⟩
/-- what plane.Compare says of two points -/
def cmpP (p q : Ward.Pt) : Int := orI (cmpI p.x q.x) (cmpI p.y q.y) (cmpI p.id q.id)
theorem cmpP_lt (p q : Ward.Pt) : cmpP p q < 0 ↔ Ward.lt p q := by
  unfold cmpP orI cmpI Ward.lt
  (repeat' split) <;> omega
/-- a block of three ints, read -/
theorem row3 {w : World} {g t : Nat} {a b c : Value} (h : w.heap[g]? = some (.cells #[a, b, c] t (0, 0))) : w.cell? ⟨g, 0, none⟩ = some a ∧ w.cell? ⟨g, 1, none⟩ = some b ∧ w.cell? ⟨g, 2, none⟩ = some c := by
  refine ⟨?_, ?_, ?_⟩ <;> rw [cell_of_row _ _ _ _ _ _ h] <;> rfl
/-- the cells of two points in two blocks -/
def Two (g k : Nat) (p q : Ward.Pt) (W : World) : Prop := (W.cell? ⟨g, 0, none⟩ = some (I p.id) ∧ W.cell? ⟨g, 1, none⟩ = some (I p.x) ∧ W.cell? ⟨g, 2, none⟩ = some (I p.y)) ∧ W.cell? ⟨k, 0, none⟩ = some (I q.id) ∧ W.cell? ⟨k, 1, none⟩ = some (I q.x) ∧ W.cell? ⟨k, 2, none⟩ = some (I q.y)
theorem Two.below {g k B : Nat} {p q : Ward.Pt} {W W' : World} (h : Two g k p q W) (hb : Below B W W') (hg : g < B) (hk : k < B) : Two g k p q W' := by
  obtain ⟨⟨a, b, c⟩, d, e, f⟩ := h
  exact ⟨⟨(hb.cell (p := ⟨g, 0, none⟩) hg).trans a, (hb.cell (p := ⟨g, 1, none⟩) hg).trans b, (hb.cell (p := ⟨g, 2, none⟩) hg).trans c⟩, (hb.cell (p := ⟨k, 0, none⟩) hk).trans d, (hb.cell (p := ⟨k, 1, none⟩) hk).trans e, (hb.cell (p := ⟨k, 2, none⟩) hk).trans f⟩
set_option maxHeartbeats 1000000 in
theorem compare_any (p q : Ward.Pt) (w : World) :
    Calls Tryz.prog 35 #[.agg #[I p.id, I p.x, I p.y], .agg #[I q.id, I q.x, I q.y]] w fun e w' => e = .returned (I (cmpP p q)) ∧ Below w.heap.size w w' := by
  obtain ⟨pi, px, py⟩ := p
  obtain ⟨qi, qx, qy⟩ := q
  have HE := hide (show cmpP ⟨pi, px, py⟩ ⟨qi, qx, qy⟩ = orI (cmpI px qx) (cmpI py qy) (cmpI pi qi) from rfl)
  go_enter Tryz.func35, Tryz.ntmps35
  go_wp2_with fail
  have hz1 := heap_alloc2_old w
  have hz2 := heap_alloc2_new w
  have hbb := fun o o' => ((Below.refl w.heap.size w).alloc (Nat.le_refl _) o).alloc (by simp) o'
  generalize hW : World.alloc _ _ = w0
  have r1 : w0.heap[w.heap.size]? = some (.cells #[I pi, I px, I py] 36 (0, 0)) := by rw [← hW]; exact hz1 _ _
  have r2 : w0.heap[w.heap.size + 1]? = some (.cells #[I qi, I qx, I qy] 36 (0, 0)) := by rw [← hW]; exact hz2 _ _
  have hb0 : Below w.heap.size w w0 := by rw [← hW]; exact hbb _ _
  have hz0 : w0.heap.size = w.heap.size + 2 := by rw [← hW]; simp
  clear hz1 hz2 hbb hW
  obtain ⟨c1, c2, c3⟩ := row3 r1
  obtain ⟨d1, d2, d3⟩ := row3 r2
  have hS : Two w.heap.size (w.heap.size + 1) ⟨pi, px, py⟩ ⟨qi, qx, qy⟩ w0 := ⟨⟨c1, c2, c3⟩, d1, d2, d3⟩
  have HZ := hide hz0
  have HB := hide hb0
  have HN := hide (show ∀ o, ((w0.alloc o).drew).heap[w0.heap.size]? = some o from fun o => heap_alloc_new w0 o)
  clear r1 r2 c1 c2 c3 d1 d2 d3 hz0 hb0
  go_region_held3 (fun W => (W.cell? ⟨w.heap.size, 0, none⟩ = some (I pi) ∧ W.cell? ⟨w.heap.size, 1, none⟩ = some (I px) ∧ W.cell? ⟨w.heap.size, 2, none⟩ = some (I py)) ∧ W.cell? ⟨w.heap.size + 1, 0, none⟩ = some (I qi) ∧ W.cell? ⟨w.heap.size + 1, 1, none⟩ = some (I qx) ∧ W.cell? ⟨w.heap.size + 1, 2, none⟩ = some (I qy)) (first | assumption | exact hS | exact Two.below hS (((Below.refl _ _).alloc (Nat.le_refl _) _).drew) (by have := HZ.out; omega) (by have := HZ.out; omega)) (first | (go_at_call 67; refine (cmpInt_any _ _ _).mono ?_; rintro _ _ ⟨rfl, rfl⟩) | (go_at_call 66; refine (or_any _ (cmpI px qx) (cmpI py qy) (cmpI pi qi) _ (row3 (HN.out _)).1 (row3 (HN.out _)).2.1 (row3 (HN.out _)).2.2).mono ?_; rintro _ _ ⟨rfl, rfl⟩))
  go_wp2
  go_ret
  exact ⟨by rw [HE.out]; rfl, (HB.out.alloc (by have := HZ.out; omega) _).drew⟩
end Go.Proofs.YtenaelkbgkpllaaGreatDoor
