/- A point looked for by its id. -/
import Derived.Test.YtenaelkbgkpllaaGreatDoorPB
namespace Go.Proofs.YtenaelkbgkpllaaGreatDoor
open Go.RowKit

/-- the cells of a point at a place -/
def PtAt (w : World) (g o : Nat) (p : Ward.Pt) : Prop := w.cell? ⟨g, o, none⟩ = some (I p.id) ∧ w.cell? ⟨g, o + 1, none⟩ = some (I p.x) ∧ w.cell? ⟨g, o + 2, none⟩ = some (I p.y)
/-- a slice of points reads as a list -/
def Reads (w : World) (v : Value) (L : List Ward.Pt) : Prop := ∃ (a : Option Addr) (c : Nat), v = .slice a L.length c ∧ (L ≠ [] → ∃ g o, a = some ⟨g, o, none⟩ ∧ ∀ i (h : i < L.length), PtAt w g (o + i * 3) L[i])
theorem PtAt.below {w w' : World} {g o B : Nat} {p : Ward.Pt} (h : PtAt w g o p) (hb : Below B w w') (hB : g < B) : PtAt w' g o p :=
  ⟨(hb.cell (p := ⟨g, o, none⟩) hB).trans h.1, (hb.cell (p := ⟨g, o + 1, none⟩) hB).trans h.2.1, (hb.cell (p := ⟨g, o + 2, none⟩) hB).trans h.2.2⟩
theorem PtAt.lt {w : World} {g o : Nat} {p : Ward.Pt} (h : PtAt w g o p) : g < w.heap.size := block_lt_of_cell h.1
theorem Reads.below {w w' : World} {v : Value} {L : List Ward.Pt} (h : Reads w v L) (hb : Below w.heap.size w w') : Reads w' v L := by
  obtain ⟨a, c, rfl, hc⟩ := h
  refine ⟨a, c, rfl, fun hne => ?_⟩
  obtain ⟨g, o, rfl, hp⟩ := hc hne
  exact ⟨g, o, rfl, fun i hi => (hp i hi).below hb (hp i hi).lt⟩

set_option maxHeartbeats 400000 in
/-- the closure of find -/
theorem sameID_any (p : Ward.Pt) (id : Int) (k : Nat) (w : World) (hk : w.cell? ⟨k, 0, none⟩ = some (I id)) :
    Calls Tryz.prog 65 #[.agg #[I p.id, I p.x, I p.y], .pointer (some ⟨k, 0, none⟩)] w fun e w' => e = .returned (.bool (p.id == id)) ∧ Below w.heap.size w w' := by
  have hk0 : k < w.heap.size := block_lt_of_cell hk
  have hk2 := (((Below.refl w.heap.size w).alloc (Nat.le_refl _) (.cells #[I p.id, I p.x, I p.y] 36)).cell (p := ⟨k, 0, none⟩) hk0).trans hk
  go_enter Tryz.func65, Tryz.ntmps65
  go_wp2
  go_ret
  exact ⟨rfl, (Below.refl w.heap.size w).alloc (Nat.le_refl _) _⟩
/-- where the point of an id stands -/
def Place (id : Int) (L : List Ward.Pt) (r : Int) : Prop := (r = -1 ∧ ∀ q ∈ L, q.id ≠ id) ∨ ∃ i, ∃ h : i < L.length, r = i ∧ L[i].id = id
set_option maxHeartbeats 1000000 in
theorem indexFunc_any (v : Value) (L : List Ward.Pt) (id : Int) (k : Nat) (w : World) (hL : Reads w v L) (hl : L.length ≤ 1000) (hk : w.cell? ⟨k, 0, none⟩ = some (I id)) :
    Calls Tryz.prog 64 #[v, .func (.func 65) #[] #[.pointer (some ⟨k, 0, none⟩)]] w fun e w' => ∃ r, e = .returned (I r) ∧ Place id L r ∧ Below w.heap.size w w' := by
  obtain ⟨a, c, rfl, hc⟩ := hL
  have HC := hide hc
  clear hc
  have hk0 : k < w.heap.size := block_lt_of_cell hk
  go_enter Tryz.func64, Tryz.ntmps64
  go_wp2
  go_loopw [8] (fun v wq => ∃ i : Nat, v = I i ∧ i ≤ L.length ∧ (∀ j (h : j < L.length), j < i → L[j].id ≠ id) ∧ Below w.heap.size w wq) (fun v _ => L.length - (intOf v).toNat)
  case atStart => exact ⟨0, rfl, by omega, fun j _ h => absurd h (by omega), Below.refl _ _⟩
  case round =>
    obtain ⟨i, rfl, hi, hno, hb⟩ := hrel
    have HNO := hide hno
    clear hno
    by_cases hlt : i < L.length
    · obtain ⟨g, o, rfl, hp⟩ := HC.out (fun e => by subst e; simp at hlt)
      have hpi := (hp i hlt).below hb (hp i hlt).lt
      have hkr := (hb.cell (p := ⟨k, 0, none⟩) hk0).trans hk
      have HI := hide (show L[i] = L[i] from rfl)
      generalize hq : L[i] = q at *
      have HQ := hide hq
      clear hq HI hp
      obtain ⟨h1, h2, h3⟩ := hpi
      obtain ⟨qi, qx, qy⟩ := q
      have hs := hb.size
      go_wp2_with fail
      refine (sameID_any ⟨qi, qx, qy⟩ id k _ hkr).mono ?_
      rintro e w1 ⟨rfl, hb1⟩
      have HB1 := hide (hb.trans (hb1.mono hs))
      clear hb1 h1 h2 h3 hkr hs hb
      by_cases hid : qi = id
      · rw [show ((⟨qi, qx, qy⟩ : Ward.Pt).id == id) = true by simp [hid]]
        go_wp2
        go_ret
        exact ⟨i, rfl, .inr ⟨i, hlt, rfl, by rw [HQ.out]; exact hid⟩, HB1.out⟩
      · rw [show ((⟨qi, qx, qy⟩ : Ward.Pt).id == id) = false by simp [hid]]
        go_wp2
        go_roundw
        case rel =>
          refine ⟨i + 1, by go_num, by omega, fun j hj hji => ?_, HB1.out⟩
          rcases Nat.lt_or_ge j i with h | h
          · exact HNO.out j hj h
          · have e : j = i := by omega
            subst e
            rw [HQ.out]; exact hid
        case measure => simp [intOf]; omega
    · have e : i = L.length := by omega
      have HB := hide hb
      clear hb
      go_wp2
      go_ret
      refine ⟨-1, rfl, .inl ⟨rfl, fun q hq => ?_⟩, HB.out⟩
      obtain ⟨j, hj, rfl⟩ := List.getElem_of_mem hq
      exact HNO.out j hj (by omega)
set_option maxHeartbeats 1000000 in
theorem find_any (m : Nat) (v : Value) (L : List Ward.Pt) (id : Int) (w : World) (hm : w.cell? ⟨m, 0, none⟩ = some v) (hL : Reads w v L) (hl : L.length ≤ 1000) :
    Calls Tryz.prog 33 #[.pointer (some ⟨m, 0, none⟩), I id] w fun e w' => ∃ r, e = .returned (I r) ∧ Place id L r ∧ Below w.heap.size w w' := by
  have hm0 : m < w.heap.size := block_lt_of_cell hm
  have hL1 := fun o => hL.below ((Below.refl w.heap.size w).alloc (Nat.le_refl _) o)
  obtain ⟨a, c, rfl, -⟩ := hL
  have hm2 := (((Below.refl w.heap.size w).alloc (Nat.le_refl _) (.cells #[I id] 3)).cell (p := ⟨m, 0, none⟩) hm0).trans hm
  go_enter Tryz.func33, Tryz.ntmps33
  go_wp2_with fail
  refine (indexFunc_any _ L id w.heap.size _ (hL1 _) hl (by simp)).mono ?_
  rintro e w1 ⟨r, rfl, hr, hb1⟩
  have HB := hide (((Below.refl w.heap.size w).alloc (Nat.le_refl _) _).trans (hb1.mono (by simp)))
  clear hb1 hm2 hL1
  go_wp2
  go_ret
  exact ⟨r, rfl, hr, HB.out⟩
end Go.Proofs.YtenaelkbgkpllaaGreatDoor
