/- Part 7 of what the claims on Bound, Small, Right and Sole rest on. -/
import Derived.Test.YtenaelkbgkpllaaGreatDoorKeep01
import Derived.BigQuiet
import Derived.Deep.RegionHeld3
import Derived.Laws.CopyOwn
import Derived.Lib.AppendZerosOnto
import Derived.Shelf.Spec.SlicesInsert
import Derived.Test.YtenaelkbgkpllaaGreatDoorRows
import Derived.WalkKit
import Derived.WalkLawsBesides
import Derived.WalkSpells
/- Points: which may be, and how two compare. -/
namespace Go.Proofs.YtenaelkbgkpllaaGreatDoor
open Go.RowKit

theorem hide {p : Prop} (h : p) : Hid p := h
/-- an int as a value -/
abbrev I (n : Int) : Value := .int .i64 n
/-- a point's cells -/
def P3 (p : Ward.Pt) : List Value := [I p.id, I p.x, I p.y]

set_option maxHeartbeats 400000 in
theorem isID_any (n : Int) (w : World) :
    Calls Tryz.prog 31 #[I n] w fun e w' => e = .returned (.bool (decide (1 ≤ n ∧ n ≤ 1000000))) ∧ w' = w := by
  by_cases h1 : 1 ≤ n
  · by_cases h2 : n ≤ 1000000
    · have e : decide (1 ≤ n ∧ n ≤ 1000000) = true := by simp [h1, h2]
      rw [e]
      go_enter Tryz.func31, Tryz.ntmps31
      go_wp2
      go_ret
      exact ⟨rfl, rfl⟩
    · have e : decide (1 ≤ n ∧ n ≤ 1000000) = false := by simp [h2]
      rw [e]
      go_enter Tryz.func31, Tryz.ntmps31
      go_wp2
      go_ret
      exact ⟨rfl, rfl⟩
  · have e : decide (1 ≤ n ∧ n ≤ 1000000) = false := by simp [h1]
    rw [e]
    go_enter Tryz.func31, Tryz.ntmps31
    go_wp2
    go_ret
    exact ⟨rfl, rfl⟩
set_option maxHeartbeats 400000 in
theorem isCoord_any (n : Int) (w : World) :
    Calls Tryz.prog 32 #[I n] w fun e w' => e = .returned (.bool (decide (-1000000 ≤ n ∧ n ≤ 1000000))) ∧ w' = w := by
  by_cases h1 : -1000000 ≤ n
  · by_cases h2 : n ≤ 1000000
    · have e : decide (-1000000 ≤ n ∧ n ≤ 1000000) = true := by simp [h1, h2]
      rw [e]
      go_enter Tryz.func32, Tryz.ntmps32
      go_wp2
      go_ret
      exact ⟨rfl, rfl⟩
    · have e : decide (-1000000 ≤ n ∧ n ≤ 1000000) = false := by simp [h2]
      rw [e]
      go_enter Tryz.func32, Tryz.ntmps32
      go_wp2
      go_ret
      exact ⟨rfl, rfl⟩
  · have e : decide (-1000000 ≤ n ∧ n ≤ 1000000) = false := by simp [h1]
    rw [e]
    go_enter Tryz.func32, Tryz.ntmps32
    go_wp2
    go_ret
    exact ⟨rfl, rfl⟩
/-- what cmp.Compare says of two numbers -/
def cmpI (a b : Int) : Int := if a < b then -1 else if b < a then 1 else 0
set_option maxHeartbeats 400000 in
theorem isNaN_any (n : Int) (w : World) :
    Calls Tryz.prog 108 #[I n] w fun e w' => e = .returned (.bool false) ∧ w' = w := by
  go_enter Tryz.func108, Tryz.ntmps108
  go_wp2
  go_ret
  exact ⟨rfl, rfl⟩
set_option maxHeartbeats 400000 in
theorem cmpInt_any (a b : Int) (w : World) :
    Calls Tryz.prog 67 #[I a, I b] w fun e w' => e = .returned (I (cmpI a b)) ∧ w' = w := by
  rcases Int.lt_trichotomy a b with h | h | h
  · have e : cmpI a b = -1 := by simp [cmpI, h]
    rw [e]
    go_enter Tryz.func67, Tryz.ntmps67
    go_wp2_with (go_at_call 108; refine (isNaN_any _ _).mono ?_; rintro _ _ ⟨rfl, rfl⟩)
    go_ret
    exact ⟨rfl, rfl⟩
  · have e : cmpI a b = 0 := by subst h; simp [cmpI]
    rw [e]
    subst h
    go_enter Tryz.func67, Tryz.ntmps67
    go_wp2_with (go_at_call 108; refine (isNaN_any _ _).mono ?_; rintro _ _ ⟨rfl, rfl⟩)
    go_ret
    exact ⟨rfl, rfl⟩
  · have e : cmpI a b = 1 := by simp [cmpI, h, show ¬ a < b by omega]
    have h' : ¬ a < b := by omega
    rw [e]
    go_enter Tryz.func67, Tryz.ntmps67
    go_wp2_with (go_at_call 108; refine (isNaN_any _ _).mono ?_; rintro _ _ ⟨rfl, rfl⟩)
    go_ret
    exact ⟨rfl, rfl⟩
end Go.Proofs.YtenaelkbgkpllaaGreatDoor
/- Points compared. -/
namespace Go.Proofs.YtenaelkbgkpllaaGreatDoor
open Go.RowKit

/-- the first that is not nought -/
def orI (a b c : Int) : Int := if a ≠ 0 then a else if b ≠ 0 then b else c
set_option maxHeartbeats 400000 in
theorem or_any (g : Nat) (a b c : Int) (w : World) (h0 : w.cell? ⟨g, 0, none⟩ = some (I a)) (h1 : w.cell? ⟨g, 1, none⟩ = some (I b)) (h2 : w.cell? ⟨g, 2, none⟩ = some (I c)) :
    Calls Tryz.prog 66 #[.slice (some ⟨g, 0, none⟩) 3 3] w fun e w' => e = .returned (I (orI a b c)) ∧ w' = w := by
  go_enter Tryz.func66, Tryz.ntmps66
  go_wp2
  go_loopw [8] (fun v wq => wq = w ∧ ∃ i : Nat, v = I i ∧ i ≤ 3 ∧ (1 ≤ i → a = 0) ∧ (2 ≤ i → b = 0) ∧ (3 ≤ i → c = 0)) (fun v _ => 3 - (intOf v).toNat)
  case atStart => exact ⟨rfl, 0, rfl, by omega, by omega, by omega, by omega⟩
  case round =>
    obtain ⟨rfl, i, rfl, hi, ha, hb, hc⟩ := hrel
    match i, hi, ha, hb, hc with
    | 0, _, _, _, _ =>
      by_cases ha : a = 0
      · subst ha
        go_wp2
        go_roundw
        case rel => exact ⟨trivial, 1, by go_num, by omega, by simp, by omega, by omega⟩
        case measure => simp [intOf]
      · go_wp2
        go_ret
        exact ⟨by simp [orI, ha], rfl⟩
    | 1, _, ha, _, _ =>
      have ha := ha (by omega)
      by_cases hb : b = 0
      · subst hb
        go_wp2
        go_roundw
        case rel => exact ⟨trivial, 2, by go_num, by omega, by simp [ha], by simp, by omega⟩
        case measure => simp [intOf]
      · go_wp2
        go_ret
        exact ⟨by simp [orI, ha, hb], rfl⟩
    | 2, _, ha, hb, _ =>
      have ha := ha (by omega)
      have hb := hb (by omega)
      by_cases hc : c = 0
      · subst hc
        go_wp2
        go_roundw
        case rel => exact ⟨trivial, 3, by go_num, by omega, by simp [ha], by simp [hb], by simp⟩
        case measure => simp [intOf]
      · go_wp2
        go_ret
        exact ⟨by simp [orI, ha, hb], rfl⟩
    | 3, _, ha, hb, hc =>
      have ha := ha (by omega)
      have hb := hb (by omega)
      have hc := hc (by omega)
      go_wp2
      go_ret
      exact ⟨by simp [orI, ha, hb, hc], rfl⟩
/-- what plane.Compare says of two points -/
def cmpP (p q : Ward.Pt) : Int := orI (cmpI p.x q.x) (cmpI p.y q.y) (cmpI p.id q.id)
theorem cmpP_lt (p q : Ward.Pt) : cmpP p q < 0 ↔ Ward.lt p q := by
  unfold cmpP orI cmpI Ward.lt
  (repeat' split) <;> omega
/-- a block of three ints, read -/
theorem row3 {w : World} {g t : Nat} {a b c : Value} (h : w.heap[g]? = some (.cells #[a, b, c] t (0, 0))) : w.cell? ⟨g, 0, none⟩ = some a ∧ w.cell? ⟨g, 1, none⟩ = some b ∧ w.cell? ⟨g, 2, none⟩ = some c := by
  refine ⟨?_, ?_, ?_⟩ <;> rw [cell_of_row _ _ _ _ _ _ h] <;> rfl
/-- the cells of two points in two blocks -/
def Two (g k : Nat) (p q : Ward.Pt) (W : World) : Prop := (W.cell? ⟨g, 0, none⟩ = some (I p.id) ∧ W.cell? ⟨g, 1, none⟩ = some (I p.x) ∧ W.cell? ⟨g, 2, none⟩ = some (I p.y)) ∧ W.cell? ⟨k, 0, none⟩ = some (I q.id) ∧ W.cell? ⟨k, 1, none⟩ = some (I q.x) ∧ W.cell? ⟨k, 2, none⟩ = some (I q.y)
theorem Two.below {g k B : Nat} {p q : Ward.Pt} {W W' : World} (h : Two g k p q W) (hb : Below B W W') (hg : g < B) (hk : k < B) : Two g k p q W' := by
  obtain ⟨⟨a, b, c⟩, d, e, f⟩ := h
  exact ⟨⟨(hb.cell (p := ⟨g, 0, none⟩) hg).trans a, (hb.cell (p := ⟨g, 1, none⟩) hg).trans b, (hb.cell (p := ⟨g, 2, none⟩) hg).trans c⟩, (hb.cell (p := ⟨k, 0, none⟩) hk).trans d, (hb.cell (p := ⟨k, 1, none⟩) hk).trans e, (hb.cell (p := ⟨k, 2, none⟩) hk).trans f⟩
set_option maxHeartbeats 1000000 in
theorem compare_any (p q : Ward.Pt) (w : World) :
    Calls Tryz.prog 35 #[.agg #[I p.id, I p.x, I p.y], .agg #[I q.id, I q.x, I q.y]] w fun e w' => e = .returned (I (cmpP p q)) ∧ Below w.heap.size w w' := by
  obtain ⟨pi, px, py⟩ := p
  obtain ⟨qi, qx, qy⟩ := q
  have HE := hide (show cmpP ⟨pi, px, py⟩ ⟨qi, qx, qy⟩ = orI (cmpI px qx) (cmpI py qy) (cmpI pi qi) from rfl)
  go_enter Tryz.func35, Tryz.ntmps35
  go_wp2_with fail
  have hz1 := heap_alloc2_old w
  have hz2 := heap_alloc2_new w
  have hbb := fun o o' => ((Below.refl w.heap.size w).alloc (Nat.le_refl _) o).alloc (by simp) o'
  generalize hW : World.alloc _ _ = w0
  have r1 : w0.heap[w.heap.size]? = some (.cells #[I pi, I px, I py] 36 (0, 0)) := by rw [← hW]; exact hz1 _ _
  have r2 : w0.heap[w.heap.size + 1]? = some (.cells #[I qi, I qx, I qy] 36 (0, 0)) := by rw [← hW]; exact hz2 _ _
  have hb0 : Below w.heap.size w w0 := by rw [← hW]; exact hbb _ _
  have hz0 : w0.heap.size = w.heap.size + 2 := by rw [← hW]; simp
  clear hz1 hz2 hbb hW
  obtain ⟨c1, c2, c3⟩ := row3 r1
  obtain ⟨d1, d2, d3⟩ := row3 r2
  have hS : Two w.heap.size (w.heap.size + 1) ⟨pi, px, py⟩ ⟨qi, qx, qy⟩ w0 := ⟨⟨c1, c2, c3⟩, d1, d2, d3⟩
  have HZ := hide hz0
  have HB := hide hb0
  have HN := hide (show ∀ o, ((w0.alloc o).drew).heap[w0.heap.size]? = some o from fun o => heap_alloc_new w0 o)
  clear r1 r2 c1 c2 c3 d1 d2 d3 hz0 hb0
  go_region_held3 (fun W => (W.cell? ⟨w.heap.size, 0, none⟩ = some (I pi) ∧ W.cell? ⟨w.heap.size, 1, none⟩ = some (I px) ∧ W.cell? ⟨w.heap.size, 2, none⟩ = some (I py)) ∧ W.cell? ⟨w.heap.size + 1, 0, none⟩ = some (I qi) ∧ W.cell? ⟨w.heap.size + 1, 1, none⟩ = some (I qx) ∧ W.cell? ⟨w.heap.size + 1, 2, none⟩ = some (I qy)) (first | assumption | exact hS | exact Two.below hS (((Below.refl _ _).alloc (Nat.le_refl _) _).drew) (by have := HZ.out; omega) (by have := HZ.out; omega)) (first | (go_at_call 67; refine (cmpInt_any _ _ _).mono ?_; rintro _ _ ⟨rfl, rfl⟩) | (go_at_call 66; refine (or_any _ (cmpI px qx) (cmpI py qy) (cmpI pi qi) _ (row3 (HN.out _)).1 (row3 (HN.out _)).2.1 (row3 (HN.out _)).2.2).mono ?_; rintro _ _ ⟨rfl, rfl⟩))
  go_wp2
  go_ret
  exact ⟨by rw [HE.out]; rfl, (HB.out.alloc (by have := HZ.out; omega) _).drew⟩
end Go.Proofs.YtenaelkbgkpllaaGreatDoor
/- A point looked for by its id. -/
namespace Go.Proofs.YtenaelkbgkpllaaGreatDoor
open Go.RowKit

/-- the cells of a point at a place -/
def PtAt (w : World) (g o : Nat) (p : Ward.Pt) : Prop := w.cell? ⟨g, o, none⟩ = some (I p.id) ∧ w.cell? ⟨g, o + 1, none⟩ = some (I p.x) ∧ w.cell? ⟨g, o + 2, none⟩ = some (I p.y)
/-- a slice of points reads as a list -/
def Reads (w : World) (v : Value) (L : List Ward.Pt) : Prop := ∃ (a : Option Addr) (c : Nat), v = .slice a L.length c ∧ (L ≠ [] → ∃ g o, a = some ⟨g, o, none⟩ ∧ ∀ i (h : i < L.length), PtAt w g (o + i * 3) L[i])
theorem PtAt.below {w w' : World} {g o B : Nat} {p : Ward.Pt} (h : PtAt w g o p) (hb : Below B w w') (hB : g < B) : PtAt w' g o p :=
  ⟨(hb.cell (p := ⟨g, o, none⟩) hB).trans h.1, (hb.cell (p := ⟨g, o + 1, none⟩) hB).trans h.2.1, (hb.cell (p := ⟨g, o + 2, none⟩) hB).trans h.2.2⟩
theorem PtAt.lt {w : World} {g o : Nat} {p : Ward.Pt} (h : PtAt w g o p) : g < w.heap.size := block_lt_of_cell h.1
theorem Reads.below {w w' : World} {v : Value} {L : List Ward.Pt} (h : Reads w v L) (hb : Below w.heap.size w w') : Reads w' v L := by
  obtain ⟨a, c, rfl, hc⟩ := h
  refine ⟨a, c, rfl, fun hne => ?_⟩
  obtain ⟨g, o, rfl, hp⟩ := hc hne
  exact ⟨g, o, rfl, fun i hi => (hp i hi).below hb (hp i hi).lt⟩

set_option maxHeartbeats 400000 in
/-- the closure of find -/
theorem sameID_any (p : Ward.Pt) (id : Int) (k : Nat) (w : World) (hk : w.cell? ⟨k, 0, none⟩ = some (I id)) :
    Calls Tryz.prog 65 #[.agg #[I p.id, I p.x, I p.y], .pointer (some ⟨k, 0, none⟩)] w fun e w' => e = .returned (.bool (p.id == id)) ∧ Below w.heap.size w w' := by
  have hk0 : k < w.heap.size := block_lt_of_cell hk
  have hk2 := (((Below.refl w.heap.size w).alloc (Nat.le_refl _) (.cells #[I p.id, I p.x, I p.y] 36)).cell (p := ⟨k, 0, none⟩) hk0).trans hk
  go_enter Tryz.func65, Tryz.ntmps65
  go_wp2
  go_ret
  exact ⟨rfl, (Below.refl w.heap.size w).alloc (Nat.le_refl _) _⟩
/-- where the point of an id stands -/
def Place (id : Int) (L : List Ward.Pt) (r : Int) : Prop := (r = -1 ∧ ∀ q ∈ L, q.id ≠ id) ∨ ∃ i, ∃ h : i < L.length, r = i ∧ L[i].id = id
set_option maxHeartbeats 1000000 in
theorem indexFunc_any (v : Value) (L : List Ward.Pt) (id : Int) (k : Nat) (w : World) (hL : Reads w v L) (hl : L.length ≤ 1000) (hk : w.cell? ⟨k, 0, none⟩ = some (I id)) :
    Calls Tryz.prog 64 #[v, .func (.func 65) #[] #[.pointer (some ⟨k, 0, none⟩)]] w fun e w' => ∃ r, e = .returned (I r) ∧ Place id L r ∧ Below w.heap.size w w' := by
  obtain ⟨a, c, rfl, hc⟩ := hL
  have HC := hide hc
  clear hc
  have hk0 : k < w.heap.size := block_lt_of_cell hk
  go_enter Tryz.func64, Tryz.ntmps64
  go_wp2
  go_loopw [8] (fun v wq => ∃ i : Nat, v = I i ∧ i ≤ L.length ∧ (∀ j (h : j < L.length), j < i → L[j].id ≠ id) ∧ Below w.heap.size w wq) (fun v _ => L.length - (intOf v).toNat)
  case atStart => exact ⟨0, rfl, by omega, fun j _ h => absurd h (by omega), Below.refl _ _⟩
  case round =>
    obtain ⟨i, rfl, hi, hno, hb⟩ := hrel
    have HNO := hide hno
    clear hno
    by_cases hlt : i < L.length
    · obtain ⟨g, o, rfl, hp⟩ := HC.out (fun e => by subst e; simp at hlt)
      have hpi := (hp i hlt).below hb (hp i hlt).lt
      have hkr := (hb.cell (p := ⟨k, 0, none⟩) hk0).trans hk
      have HI := hide (show L[i] = L[i] from rfl)
      generalize hq : L[i] = q at *
      have HQ := hide hq
      clear hq HI hp
      obtain ⟨h1, h2, h3⟩ := hpi
      obtain ⟨qi, qx, qy⟩ := q
      have hs := hb.size
      go_wp2_with fail
      refine (sameID_any ⟨qi, qx, qy⟩ id k _ hkr).mono ?_
      rintro e w1 ⟨rfl, hb1⟩
      have HB1 := hide (hb.trans (hb1.mono hs))
      clear hb1 h1 h2 h3 hkr hs hb
      by_cases hid : qi = id
      · rw [show ((⟨qi, qx, qy⟩ : Ward.Pt).id == id) = true by simp [hid]]
        go_wp2
        go_ret
        exact ⟨i, rfl, .inr ⟨i, hlt, rfl, by rw [HQ.out]; exact hid⟩, HB1.out⟩
      · rw [show ((⟨qi, qx, qy⟩ : Ward.Pt).id == id) = false by simp [hid]]
        go_wp2
        go_roundw
        case rel =>
          refine ⟨i + 1, by go_num, by omega, fun j hj hji => ?_, HB1.out⟩
          rcases Nat.lt_or_ge j i with h | h
          · exact HNO.out j hj h
          · have e : j = i := by omega
            subst e
            rw [HQ.out]; exact hid
        case measure => simp [intOf]; omega
    · have e : i = L.length := by omega
      have HB := hide hb
      clear hb
      go_wp2
      go_ret
      refine ⟨-1, rfl, .inl ⟨rfl, fun q hq => ?_⟩, HB.out⟩
      obtain ⟨j, hj, rfl⟩ := List.getElem_of_mem hq
      exact HNO.out j hj (by omega)
set_option maxHeartbeats 1000000 in
theorem find_any (m : Nat) (v : Value) (L : List Ward.Pt) (id : Int) (w : World) (hm : w.cell? ⟨m, 0, none⟩ = some v) (hL : Reads w v L) (hl : L.length ≤ 1000) :
    Calls Tryz.prog 33 #[.pointer (some ⟨m, 0, none⟩), I id] w fun e w' => ∃ r, e = .returned (I r) ∧ Place id L r ∧ Below w.heap.size w w' := by
  have hm0 : m < w.heap.size := block_lt_of_cell hm
  have hL1 := fun o => hL.below ((Below.refl w.heap.size w).alloc (Nat.le_refl _) o)
  obtain ⟨a, c, rfl, -⟩ := hL
  have hm2 := (((Below.refl w.heap.size w).alloc (Nat.le_refl _) (.cells #[I id] 3)).cell (p := ⟨m, 0, none⟩) hm0).trans hm
  go_enter Tryz.func33, Tryz.ntmps33
  go_wp2_with fail
  refine (indexFunc_any _ L id w.heap.size _ (hL1 _) hl (by simp)).mono ?_
  rintro e w1 ⟨r, rfl, hr, hb1⟩
  have HB := hide (((Below.refl w.heap.size w).alloc (Nat.le_refl _) _).trans (hb1.mono (by simp)))
  clear hb1 hm2 hL1
  go_wp2
  go_ret
  exact ⟨r, rfl, hr, HB.out⟩
end Go.Proofs.YtenaelkbgkpllaaGreatDoor
/- The place of a point among others, found by halving. -/
namespace Go.Proofs.YtenaelkbgkpllaaGreatDoor
open Go.RowKit

/-- what is known while halving -/
structure Half (p : Ward.Pt) (L : List Ward.Pt) (i j : Nat) : Prop where
  ij : i ≤ j
  jn : j ≤ L.length
  low : ∀ a, (h : a < L.length) → a < i → Ward.lt L[a] p
  high : ∀ a, (h : a < L.length) → j ≤ a → ¬ Ward.lt L[a] p
theorem sorted_lt {L : List Ward.Pt} (h : Ward.Sorted L) {a b : Nat} (hb : b < L.length) (hab : a < b) : Ward.lt (L[a]'(by omega)) L[b] :=
  List.pairwise_iff_getElem.1 h a b (by omega) hb hab
theorem Half.up {p : Ward.Pt} {L : List Ward.Pt} {i j h : Nat} (H : Half p L i j) (hs : Ward.Sorted L) (h1 : i ≤ h) (h2 : h < j) (hn : h < L.length) (hlt : Ward.lt L[h] p) : Half p L (h + 1) j :=
  ⟨by omega, H.jn, fun a ha hah => by
    rcases Nat.lt_or_ge a h with h' | h'
    · exact Ward.lt_trans (sorted_lt hs hn h') hlt
    · have e : a = h := by omega
      subst e; exact hlt, H.high⟩
theorem Half.down {p : Ward.Pt} {L : List Ward.Pt} {i j h : Nat} (H : Half p L i j) (hs : Ward.Sorted L) (h1 : i ≤ h) (h2 : h < j) (hn : h < L.length) (hlt : ¬ Ward.lt L[h] p) : Half p L i h :=
  ⟨h1, by omega, H.low, fun a ha hah => by
    rcases Nat.lt_or_ge h a with h' | h'
    · exact fun k => hlt (Ward.lt_trans (sorted_lt hs ha h') k)
    · have e : a = h := by omega
      subst e; exact hlt⟩
theorem Half.parts {p : Ward.Pt} {L : List Ward.Pt} {i : Nat} (H : Half p L i i) : Ward.Parts p L i := ⟨H.jn, H.low, H.high⟩

set_option maxHeartbeats 1000000 in
theorem search_any (v : Value) (L : List Ward.Pt) (p : Ward.Pt) (w : World) (hL : Reads w v L) (hs : Ward.Sorted L) (hl : L.length ≤ 1000) :
    Calls Tryz.prog 34 #[v, .agg #[I p.id, I p.x, I p.y], .func (.func 35) #[] #[]] w fun e w' => ∃ (k : Nat) (b : Bool), e = .returned (.tuple #[I k, .bool b]) ∧ Ward.Parts p L k ∧ Below w.heap.size w w' := by
  have hL1 := hL.below ((Below.refl w.heap.size w).alloc (Nat.le_refl _) (.cells #[I p.id, I p.x, I p.y] 36))
  obtain ⟨a, c, rfl, hc⟩ := hL
  have HC := hide hc
  have HS := hide hs
  clear hc hs hL1
  go_enter Tryz.func34, Tryz.ntmps34
  go_wp2
  go_loopw [9, 10] (fun vi vj wq => ∃ i j : Nat, vi = I i ∧ vj = I j ∧ Half p L i j ∧ PtAt wq w.heap.size 0 p ∧ Below w.heap.size w wq) (fun vi vj _ => (intOf vj).toNat - (intOf vi).toNat)
  case atStart => exact ⟨0, L.length, rfl, rfl, ⟨by omega, by omega, fun a _ h => absurd h (by omega), fun a h h' => absurd h (by omega)⟩, row3 (heap_alloc_new w _), (Below.refl _ _).alloc (Nat.le_refl _) _⟩
  case round =>
    obtain ⟨i, j, rfl, rfl, hH, hpt, hb⟩ := hrel
    have hij := hH.ij
    have hjn := hH.jn
    have HH := hide hH
    clear hH
    by_cases hlt : i < j
    · obtain ⟨h, hh⟩ : ∃ h : Nat, h = (i + j) / 2 := ⟨_, rfl⟩
      have hhn : h < L.length := by omega
      obtain ⟨g, o, rfl, hp⟩ := HC.out (fun e => by subst e; simp at hhn)
      have hpi := (hp _ hhn).below hb (hp _ hhn).lt
      have hgl := (hp _ hhn).lt
      have HU := hide (HH.out.up HS.out (h := h) (by omega) (by omega) hhn)
      have HD := hide (HH.out.down HS.out (h := h) (by omega) (by omega) hhn)
      generalize L[h] = q at *
      clear hp
      go_wp2_with fail
      rw [show ((i : Int) + (j : Int)) / 2 = (h : Int) by omega]
      have HX := hide hh
      have HB := hide hb
      have hs := hb.size
      clear hh hb
      obtain ⟨pi, px, py⟩ := p
      obtain ⟨qi, qx, qy⟩ := q
      have hS : (wr.cell? ⟨g, o + h * 3, none⟩ = some (I qi) ∧ wr.cell? ⟨g, o + h * 3 + 1, none⟩ = some (I qx) ∧ wr.cell? ⟨g, o + h * 3 + 2, none⟩ = some (I qy)) ∧ wr.cell? ⟨w.heap.size, 0, none⟩ = some (I pi) ∧ wr.cell? ⟨w.heap.size, 1, none⟩ = some (I px) ∧ wr.cell? ⟨w.heap.size, 2, none⟩ = some (I py) := ⟨hpi, hpt⟩
      have hgr : g < wr.heap.size := hpi.lt
      have hwr : w.heap.size < wr.heap.size := hpt.lt
      clear hpi hpt
      go_region_held3 (fun W => (W.cell? ⟨g, o + h * 3, none⟩ = some (I qi) ∧ W.cell? ⟨g, o + h * 3 + 1, none⟩ = some (I qx) ∧ W.cell? ⟨g, o + h * 3 + 2, none⟩ = some (I qy)) ∧ W.cell? ⟨w.heap.size, 0, none⟩ = some (I pi) ∧ W.cell? ⟨w.heap.size, 1, none⟩ = some (I px) ∧ W.cell? ⟨w.heap.size, 2, none⟩ = some (I py)) (first | assumption | exact hS) ((go_at_call 35; refine (compare_any ⟨qi, qx, qy⟩ ⟨pi, px, py⟩ _).mono ?_; rintro _ w1 ⟨rfl, hb1⟩; have hS1 := (show PtAt wr.drew g (o + h * 3) ⟨qi, qx, qy⟩ ∧ PtAt wr.drew w.heap.size 0 ⟨pi, px, py⟩ from hS); have hS2 := And.intro (hS1.1.below hb1 hgr) (hS1.2.below hb1 hwr); clear hS1))
      have HB1 := hide ((HB.out.drew).trans (hb1.mono hs))
      have HP1 := hide hS2.2
      clear hS2 hS hb1
      by_cases hq : Ward.lt ⟨qi, qx, qy⟩ ⟨pi, px, py⟩
      · have hc := (cmpP_lt ⟨qi, qx, qy⟩ ⟨pi, px, py⟩).2 hq
        have hU := HU.out hq
        go_wp2
        go_roundw
        case rel => exact ⟨h + 1, j, by go_num, rfl, hU, HP1.out, HB1.out⟩
        case measure => have := HX.out; simp [intOf]; omega
      · have hc : ¬ cmpP ⟨qi, qx, qy⟩ ⟨pi, px, py⟩ < 0 := fun k => hq ((cmpP_lt _ _).1 k)
        have hD := HD.out hq
        go_wp2
        go_roundw
        case rel => exact ⟨i, h, rfl, by go_num, hD, HP1.out, HB1.out⟩
        case measure => have := HX.out; simp [intOf]; omega
    · have e : i = j := by omega
      subst e
      have hk := HH.out.parts
      by_cases hn : i < L.length
      · obtain ⟨g, o, rfl, hp⟩ := HC.out (fun e => by subst e; simp at hn)
        have hpi := (hp _ hn).below hb (hp _ hn).lt
        generalize L[i] = q at *
        clear hp
        have HB := hide hb
        have hs := hb.size
        have HK := hide hk
        clear hb hk
        obtain ⟨pi, px, py⟩ := p
        obtain ⟨qi, qx, qy⟩ := q
        have hS : (wr.cell? ⟨g, o + i * 3, none⟩ = some (I qi) ∧ wr.cell? ⟨g, o + i * 3 + 1, none⟩ = some (I qx) ∧ wr.cell? ⟨g, o + i * 3 + 2, none⟩ = some (I qy)) ∧ wr.cell? ⟨w.heap.size, 0, none⟩ = some (I pi) ∧ wr.cell? ⟨w.heap.size, 1, none⟩ = some (I px) ∧ wr.cell? ⟨w.heap.size, 2, none⟩ = some (I py) := ⟨hpi, hpt⟩
        have hgr : g < wr.heap.size := hpi.lt
        have hwr : w.heap.size < wr.heap.size := hpt.lt
        clear hpi hpt
        go_wp2_with fail
        go_region_held3 (fun W => (W.cell? ⟨g, o + i * 3, none⟩ = some (I qi) ∧ W.cell? ⟨g, o + i * 3 + 1, none⟩ = some (I qx) ∧ W.cell? ⟨g, o + i * 3 + 2, none⟩ = some (I qy)) ∧ W.cell? ⟨w.heap.size, 0, none⟩ = some (I pi) ∧ W.cell? ⟨w.heap.size, 1, none⟩ = some (I px) ∧ W.cell? ⟨w.heap.size, 2, none⟩ = some (I py)) (first | assumption | exact hS) ((go_at_call 35; refine (compare_any ⟨qi, qx, qy⟩ ⟨pi, px, py⟩ _).mono ?_; rintro _ w1 ⟨rfl, hb1⟩; have hS1 := (show PtAt wr.drew g (o + i * 3) ⟨qi, qx, qy⟩ ∧ PtAt wr.drew w.heap.size 0 ⟨pi, px, py⟩ from hS); have hS2 := And.intro (hS1.1.below hb1 hgr) (hS1.2.below hb1 hwr); clear hS1))
        have HB1 := hide ((HB.out.drew).trans (hb1.mono hs))
        go_wp2
        go_ret2
        exact ⟨i, _, rfl, HK.out, HB1.out⟩
      · have hnf : decide ((i : Int) < (L.length : Int)) = false := decide_eq_false (by omega)
        have HB := hide hb
        have HK := hide hk
        clear hb hk hpt
        go_wp2_with fail
        go_quiet (fail)
        go_wp2
        go_ret2
        exact ⟨i, _, rfl, HK.out, ⟨HB.out.os, HB.out.tape, HB.out.output, HB.out.size, HB.out.block⟩⟩
end Go.Proofs.YtenaelkbgkpllaaGreatDoor
/- Rows of points: what a copy makes of them. -/
namespace Go.Proofs.YtenaelkbgkpllaaGreatDoor
open Go.RowKit

theorem Tryz.infoPt : (Tryz.prog.info? 36).map (fun i => (i.zero, i.size, i.bytes)) = some (some (.agg #[I 0, I 0, I 0]), 3, 24) := by kernel_rfl
theorem Tryz.sizePt : (Tryz.prog.info? 36).map (·.size) = some 3 := by kernel_rfl
theorem P3_len (p : Ward.Pt) : (P3 p).length = 3 := rfl
theorem cells_len : ∀ (L : List Ward.Pt), (L.flatMap P3).length = L.length * 3
  | [] => rfl
  | p :: L => by rw [List.flatMap_cons, List.length_append, cells_len L, P3_len, List.length_cons]; omega
theorem cells_one {L : List Ward.Pt} : ∀ v ∈ L.flatMap P3, v.oneCell' = true := fun v hv => by
  obtain ⟨p, _, hp⟩ := List.mem_flatMap.1 hv
  simp [P3] at hp
  rcases hp with rfl | rfl | rfl <;> rfl
theorem cells_take (L : List Ward.Pt) (k : Nat) : (L.flatMap P3).take (k * 3) = (L.take k).flatMap P3 := by
  induction L generalizing k with
  | nil => simp
  | cons p L ih =>
    cases k with
    | zero => simp
    | succ k =>
      rw [List.flatMap_cons, List.take_succ_cons, List.flatMap_cons, show (k + 1) * 3 = (P3 p).length + k * 3 by rw [P3_len]; omega, List.take_length_add_append, ih]
theorem cells_drop (L : List Ward.Pt) (k : Nat) : (L.flatMap P3).drop (k * 3) = (L.drop k).flatMap P3 := by
  induction L generalizing k with
  | nil => simp
  | cons p L ih =>
    cases k with
    | zero => simp
    | succ k =>
      rw [List.flatMap_cons, List.drop_succ_cons, show (k + 1) * 3 = (P3 p).length + k * 3 by rw [P3_len]; omega, List.drop_length_add_append, ih]
/-- a piece of a list written over -/
def over (R : List Value) (o : Nat) (cs : List Value) : List Value := R.take o ++ cs ++ R.drop (o + cs.length)
theorem over_take {R cs : List Value} {o : Nat} (h : o ≤ R.length) : (over R o cs).take (o + cs.length) = R.take o ++ cs := by
  unfold over
  rw [List.take_append_of_le_length (by simp; omega), List.take_of_length_le (by simp; omega)]
theorem over_len {R cs : List Value} {o : Nat} (h : o + cs.length ≤ R.length) : (over R o cs).length = R.length := by
  unfold over; simp; omega
theorem over_low {R cs : List Value} {o k : Nat} (hk : k ≤ o) (h : o ≤ R.length) : (over R o cs).take k = R.take k := by
  unfold over
  rw [List.append_assoc, List.take_append_of_le_length (by simp; omega), List.take_take, Nat.min_eq_left hk]
/-- first the piece, then what is behind it -/
theorem over_two {R a b : List Value} {o : Nat} (h : o + a.length + b.length ≤ R.length) : (over (over R o a) (o + a.length) b).take (o + a.length + b.length) = R.take o ++ a ++ b := by
  rw [over_take (by rw [over_len (by omega)]; omega), over_take (by omega)]
/-- first what is behind it, then the piece -/
theorem over_back {R a b : List Value} {o : Nat} (h : o + a.length + b.length ≤ R.length) : (over (over R (o + a.length) b) o a).take (o + a.length + b.length) = R.take o ++ a ++ b := by
  have e1 : (over (over R (o + a.length) b) o a) = R.take o ++ a ++ (over R (o + a.length) b).drop (o + a.length) := by
    show (over R (o + a.length) b).take o ++ a ++ _ = _
    rw [over_low (by omega) (by omega)]
  have e2 : (over R (o + a.length) b).drop (o + a.length) = b ++ R.drop (o + a.length + b.length) := by
    unfold over
    rw [List.append_assoc, List.drop_append, List.drop_eq_nil_of_le (by simp; omega), List.nil_append]
    simp only [List.length_take, Nat.min_eq_left (show o + a.length ≤ R.length by omega), Nat.sub_self, List.drop_zero]
  have hl : (R.take o ++ a).length = o + a.length := by simp; omega
  rw [e1, e2, ← hl, List.take_length_add_append, List.take_append_of_le_length (Nat.le_refl _), List.take_length]
/-- a row's piece as a source -/
theorem row_src {w : World} {g o t n : Nat} {cur : Array Value} {fr : Nat × Nat} (h : w.heap[g]? = some (.cells cur t fr)) : ∀ j v, ((cur.toList.drop o).take n)[j]? = some v → w.cell? ((⟨g, o, none⟩ : Addr).add j) = some v := fun j v hj => by
  have hadd : (⟨g, o, none⟩ : Addr).add j = ⟨g, o + j, none⟩ := by unfold Addr.add; split <;> simp_all
  rw [hadd, cell_of_row w g (o + j) cur t fr h]
  rw [List.getElem?_take] at hj
  split at hj
  · rw [List.getElem?_drop] at hj; simpa using hj
  · cases hj
/-- copy between rows of more cells than one -/
theorem run_copy_rowK {P : Program} (w : World) (dT sT ty elem : TypeId) (k g o dLen dCap : Nat) (a : Addr) (sLen sCap n : Nat) (cur : Array Value) (t : TypeId) (cs : List Value)
    (hu : P.underlying dT = some (.slice elem)) (hs : (P.info? elem).map (·.size) = some k)
    (hg : w.heap[g]? = some (.cells cur t (0, 0))) (hn : n = Nat.min sLen dLen) (hl : cs.length = n * k)
    (hsrc : ∀ j v, cs[j]? = some v → w.cell? (a.add j) = some v) (hfit : o + cs.length ≤ cur.size) (h1 : ∀ v ∈ cs, v.oneCell' = true) :
    (Builtin.copy_ #[dT, sT] ty #[.slice (some ⟨g, o, none⟩) dLen dCap, .slice (some a) sLen sCap]).run P w =
      .ok (goInt n) (w.setRow g (over cur.toList o cs).toArray) := by
  have hf := run_firstCells_some (P := P) w k n a sLen sCap cs hl hsrc
  have hst := run_storeCells_at P g o t cs 0 cur w hg (by simpa using hfit) h1
  cases hq : P.info? elem with
  | none => simp [hq] at hs
  | some i =>
    have hi : i.size = k := by simpa [hq] using hs
    simp [Builtin.copy_, run_underlying hu, Builtin.lenOf, sizeOf, typeInfo, hq, hi, ← hn, hf, hst, over]
/-- the row is the old one, or one that was not there -/
def Fresh (w : World) (v v' : Value) : Prop := v'.ownBlock = v.ownBlock ∨ ∃ g, v'.ownBlock = some g ∧ w.heap.size ≤ g
/-- append to a row of one's own, with word of where the new row lies -/
theorem run_append_own2 {P : Program} (w : World) (base : Nat) (t ty e : TypeId) (i : TypeInfo) (z : Value) (size bytes : Nat) (ht : P.underlying t = some (.slice e)) (hi : P.info? e = some i) (hz : i.zero = some z)
    (hsize : i.size = size) (hby : i.bytes = bytes) (hzs : z.cells.size = size) (hsz : 0 < size)
    (v : Value) (n : Nat) (xs : List Value) (hown : w.ownsRow base e size v n xs)
    (a : Addr) (m c : Nat) (news : List Value) (hl : news.length = m * size) (hnews : ∀ j u, news[j]? = some u → w.cell? (a.add j) = some u) (h1 : ∀ u ∈ news, u.oneCell' = true)
    (h63 : n + m ≤ maxLen) (hbytes : (n + m) * bytes ≤ 140737488355328) (hbase : base ≤ w.heap.size) :
    ∃ v' w', (Builtin.append_ #[t, t] ty #[v, .slice (some a) m c]).run P w = .ok v' w' ∧ w'.ownsRow base e size v' (n + m) (xs ++ news) ∧ w.grownBy w' v.ownBlock ∧ Fresh w v v' := by
  obtain ⟨v', w', hr, ho, hg, -⟩ := run_append_own w base t ty e i z size bytes ht hi hz hsize hby hzs hsz v n xs hown a m c news hl hnews h1 h63 hbytes hbase
  refine ⟨v', w', hr, ho, hg, ?_⟩
  have h63' := h63
  unfold maxLen at h63'
  rcases hown.2 with ⟨rfl, rfl⟩ | ⟨g, cap, cur, rfl, hb, hgg, hcap, hmax, hcs, htake⟩
  · obtain ⟨v2, w2, hr2, ho2, -⟩ := run_append_own w w.heap.size t ty e i z size bytes ht hi hz hsize hby hzs hsz (.slice none 0 0) 0 [] (World.ownsRow_nil _ _ _ _) a m c news hl hnews h1 h63 hbytes (Nat.le_refl _)
    rw [hr] at hr2
    injection hr2 with e1 e2
    subst e1
    rcases ho2.2 with ⟨rfl, _⟩ | ⟨g, cap, cur, rfl, hb, _⟩
    · exact .inl rfl
    · exact .inr ⟨g, rfl, hb⟩
  · subst hsize
    by_cases hroom : n + m ≤ cap
    · have hx : n * i.size + news.length ≤ cur.size := by
        rw [hl, hcs, ← Nat.add_mul]; exact Nat.mul_le_mul_right _ hroom
      have hr2 := run_append_room w t ty e i ht hi g n cap cur hgg a m c news hl hnews h1 hroom hx
      rw [hr] at hr2
      injection hr2 with e1 e2
      subst e1
      exact .inl rfl
    · have hold : ∀ j u, xs[j]? = some u → w.cell? ((⟨g, 0, none⟩ : Addr).add j) = some u := hown.cells rfl
      have hr2 := run_append_grow (P := P) w t ty e i z ht hi hz ⟨g, 0, none⟩ n cap xs hown.1 hold a m c news hl hnews (by omega) (by omega) (by rw [hby]; exact growslice_fits (by omega) hbytes)
      rw [hr] at hr2
      injection hr2 with e1 e2
      subst e1
      exact .inr ⟨_, rfl, Nat.le_refl _⟩
theorem wpList_append_own2 {P : Program} (w : World) {ops : Array Oper} {rest : List Oper} {o : Oper} {a : Act} {Q : Exit → Act → World → Prop} (hgd : o.guard = none) (s x : Operand) (t : TypeId)
    (ho : o.op = .call { callee := .builtin .append, args := #[s, x], argTypes := #[t, t] })
    (base : Nat) (e : TypeId) (i : TypeInfo) (z : Value) (size bytes : Nat) (ht : P.underlying t = some (.slice e)) (hi : P.info? e = some i) (hz : i.zero = some z)
    (hsize : i.size = size) (hby : i.bytes = bytes) (hzs : z.cells.size = size) (hsz : 0 < size)
    (v : Value) (n : Nat) (xs : List Value) (hs : a.eval s = v) (hown : w.ownsRow base e size v n xs)
    (ad : Addr) (m c : Nat) (news : List Value) (hx : a.eval x = .slice (some ad) m c) (hl : news.length = m * size) (hnews : ∀ j u, news[j]? = some u → w.cell? (ad.add j) = some u) (h1 : ∀ u ∈ news, u.oneCell' = true)
    (h63 : n + m ≤ maxLen) (hbytes : (n + m) * bytes ≤ 140737488355328) (hbase : base ≤ w.heap.size)
    (h : ∀ v' w', w'.ownsRow base e size v' (n + m) (xs ++ news) → w.grownBy w' v.ownBlock → Fresh w v v' → wpList P ops Q rest (a.put o.dst v') w') : wpList P ops Q (o :: rest) a w := by
  obtain ⟨v', w', hr, h1', h2', h3'⟩ := run_append_own2 (P := P) w base t o.type e i z size bytes ht hi hz hsize hby hzs hsz v n xs hown ad m c news hl hnews h1 h63 hbytes hbase
  exact Lib.wpList_append_run w hgd s x t t ho v _ hs hx v' w' hr (h v' w' h1' h2' h3')
end Go.Proofs.YtenaelkbgkpllaaGreatDoor
/- A point put in among others (slices.Insert). -/
namespace Go.Proofs.YtenaelkbgkpllaaGreatDoor
open Go.RowKit

/-- a list of points in a row of its own -/
def Own (w : World) (B : Nat) (v : Value) (L : List Ward.Pt) : Prop := w.ownsRow B 36 3 v L.length (L.flatMap P3)
/-- the list with a point put in -/
def putIn (L : List Ward.Pt) (k : Nat) (p : Ward.Pt) : List Ward.Pt := L.take k ++ p :: L.drop k
theorem putIn_len (L : List Ward.Pt) (k : Nat) (p : Ward.Pt) (h : k ≤ L.length) : (putIn L k p).length = L.length + 1 := by simp [putIn]; omega
theorem putIn_cells (L : List Ward.Pt) (k : Nat) (p : Ward.Pt) : (putIn L k p).flatMap P3 = (L.take k).flatMap P3 ++ P3 p ++ (L.drop k).flatMap P3 := by simp [putIn]

set_option maxRecDepth 100000 in
set_option maxHeartbeats 2000000 in
/-- at the end -/
theorem insert_end (B : Nat) (v : Value) (L : List Ward.Pt) (p : Ward.Pt) (k : Nat) (w : World) (hown : Own w B v L) (hk : w.heap[k]? = some (.cells (P3 p).toArray 36 (0, 0))) (hl : L.length ≤ 1000) (hB : B ≤ w.heap.size) :
    Calls Tryz.prog 36 #[v, I L.length, .slice (some ⟨k, 0, none⟩) 1 1] w fun e w' => ∃ v', e = .returned v' ∧ Own w' B v' (putIn L L.length p) ∧ w.grownBy w' v.ownBlock ∧ Fresh w v v' := by
  obtain ⟨i0, hi, hz0, hz1, hz2⟩ := info_parts Tryz.infoPt
  have HO := hide hown
  have HN := hide (row_src (o := 0) (n := 3) hk)
  have fin : ∀ (v' : Value) (w' : World), w'.ownsRow B 36 3 v' (L.length + 1) (L.flatMap P3 ++ P3 p) → Own w' B v' (putIn L L.length p) := fun _ _ h => by
    unfold Own
    rw [putIn_len L _ p (Nat.le_refl _), putIn_cells, List.take_length, List.drop_length]
    simpa using h
  have FIN := hide fin
  clear fin hk
  rcases hown.2 with ⟨rfl, h0⟩ | ⟨g, c, cur, rfl, _, _, hc, hcm, _⟩
  · have hL : L = [] := by simpa using h0
    subst hL
    clear hown
    go_enter Tryz.func36, Tryz.ntmps36
    go_wp2_with (at_builtin; refine wpList_append_own2 _ rfl (.tmp 23) (.tmp 24) 27 rfl B 36 i0 (.agg #[I 0, I 0, I 0]) 3 24 Tryz.underlying27 hi hz0 hz1 hz2 rfl (by decide) _ 0 [] rfl HO.out ⟨k, 0, none⟩ 1 1 (P3 p) rfl rfl HN.out (fun u hu => cells_one (L := [p]) u (by simpa using hu)) (by unfold maxLen; omega) (by omega) hB ?_)
    intro v' w1 hown' hgrow hfr
    go_wp2
    go_ret
    exact ⟨v', rfl, FIN.out _ _ hown', hgrow, hfr⟩
  · unfold maxLen at hcm
    clear hown
    by_cases hce : c = L.length
    · subst hce
      go_enter Tryz.func36, Tryz.ntmps36
      go_wp2_with (at_builtin; refine wpList_append_own2 _ rfl (.tmp 23) (.tmp 24) 27 rfl B 36 i0 (.agg #[I 0, I 0, I 0]) 3 24 Tryz.underlying27 hi hz0 hz1 hz2 rfl (by decide) _ L.length (L.flatMap P3) rfl HO.out ⟨k, 0, none⟩ 1 1 (P3 p) rfl rfl HN.out (fun u hu => cells_one (L := [p]) u (by simpa using hu)) (by unfold maxLen; omega) (by omega) hB ?_)
      intro v' w1 hown' hgrow hfr
      go_wp2
      go_ret
      exact ⟨v', rfl, FIN.out _ _ hown', hgrow, hfr⟩
    · go_enter Tryz.func36, Tryz.ntmps36
      go_wp2_with (at_builtin; refine wpList_append_own2 _ rfl (.tmp 23) (.tmp 24) 27 rfl B 36 i0 (.agg #[I 0, I 0, I 0]) 3 24 Tryz.underlying27 hi hz0 hz1 hz2 rfl (by decide) _ L.length (L.flatMap P3) rfl HO.out ⟨k, 0, none⟩ 1 1 (P3 p) rfl rfl HN.out (fun u hu => cells_one (L := [p]) u (by simpa using hu)) (by unfold maxLen; omega) (by omega) hB ?_)
      intro v' w1 hown' hgrow hfr
      go_wp2
      go_ret
      exact ⟨v', rfl, FIN.out _ _ hown', hgrow, hfr⟩

theorem shape_of {w : World} {g t : Nat} {cur : Array Value} {fr : Nat × Nat} (h : w.heap[g]? = some (.cells cur t fr)) : w.shape? g = some (t, cur.size) := by simp [World.shape?, h]
theorem overlaps_not (w : World) (g k n c o : Nat) (cur : Array Value) (p : Ward.Pt) (hk : w.heap[k]? = some (.cells (P3 p).toArray 36 (0, 0))) (hg : w.heap[g]? = some (.cells cur 36 (0, 0))) (hne : k ≠ g) (h0 : cur.size ≠ 0) :
    (callFunc 68 #[.slice (some ⟨k, 0, none⟩) 1 1, .slice (some ⟨g, o, none⟩) n c]).run Tryz.prog w = .ok (.value (.bool false)) w := by
  rw [run_callFunc_extern Tryz.func68 (by kernel_rfl) (by kernel_rfl) (by kernel_rfl) (e := Extern.SlicesOverlaps.overlaps #[27, 27] #[4]) (by kernel_rfl),
    Lib.run_overlaps_apart w 27 4 36 Tryz.underlying27 3 (fun _ => by kernel_rfl) ⟨k, 0, none⟩ ⟨g, o, none⟩ 1 1 n c hne _ _ _ _ (shape_of hk) (shape_of hg) h0 (frozen_of_row _ _ _ _ _ hk) (frozen_of_row _ _ _ _ _ hk)]
  rfl

set_option maxRecDepth 100000 in
set_option maxHeartbeats 2000000 in
/-- there is room -/
theorem insert_room (B g c pos : Nat) (cur : Array Value) (L : List Ward.Pt) (p : Ward.Pt) (k : Nat) (w : World) (hBg : B ≤ g) (hg : w.heap[g]? = some (.cells cur 36 (0, 0))) (hcur : cur.toList.take (L.length * 3) = L.flatMap P3) (hcs : cur.size = c * 3) (hc : L.length + 1 ≤ c) (hcm : c ≤ maxLen)
    (hk : w.heap[k]? = some (.cells (P3 p).toArray 36 (0, 0))) (hne : k ≠ g) (hl : L.length ≤ 1000) (hpos : pos < L.length) :
    Calls Tryz.prog 36 #[.slice (some ⟨g, 0, none⟩) L.length c, I pos, .slice (some ⟨k, 0, none⟩) 1 1] w fun e w' => ∃ v', e = .returned v' ∧ Own w' B v' (putIn L pos p) ∧ w.grownBy w' (some g) ∧ Fresh w (.slice (some ⟨g, 0, none⟩) 0 0) v' := by
  have hov := fun o n c => overlaps_not w g k n c o cur p hk hg hne (by omega)
  unfold maxLen at hcm
  have hz2 : ¬ ((pos : Int) = (L.length : Int)) := by omega
  have hz3 : ¬ ((c : Int) < (L.length : Int) + 1) := by omega
  have H1 := hide hg
  have H2 := hide hk
  have H3 := hide hcur
  clear hg hk hcur
  go_enter Tryz.func36, Tryz.ntmps36
  go_wp2_with (simp only [hov])
  have hw1 : IntKind.i64.wrap ((pos : Int) + 1) = (pos : Int) + 1 := by rw [IntKind.wrap_i64]; omega
  have hb1 : (0 : Int) ≤ (pos : Int) + 1 := by omega
  have htn : ((pos : Int) + 1).toNat = pos + 1 := by omega
  have hb2 : ¬ (c = pos + 1) := by omega
  have hb3 : (pos : Int) + 1 ≤ (L.length : Int) + 1 := by omega
  have hb4 : ¬ (c = pos) := by omega
  have hb5 : (pos : Int) ≤ (L.length : Int) + 1 := by omega
  have hcl : ((L.drop pos).flatMap P3).length = (L.length - pos) * 3 := by rw [cells_len, List.length_drop]
  have hsl : ((cur.toList.drop (pos * 3)).take ((L.length - pos) * 3)) = (L.drop pos).flatMap P3 := by
    rw [← cells_drop, ← H3.out, List.drop_take, show L.length * 3 - pos * 3 = (L.length - pos) * 3 by omega]
  have hcp1 : ∀ ty dc sc, (Builtin.copy_ #[27, 27] ty #[.slice (some ⟨g, (pos + 1) * 3, none⟩) (L.length - pos) dc, .slice (some ⟨g, pos * 3, none⟩) (L.length + 1 - pos) sc]).run Tryz.prog w.drew = .ok (goInt ((L.length - pos : Nat) : Int)) (w.drew.setRow g (over cur.toList ((pos + 1) * 3) ((L.drop pos).flatMap P3)).toArray) := fun ty dc sc =>
    run_copy_rowK w.drew _ _ ty 36 3 g ((pos + 1) * 3) (L.length - pos) dc ⟨g, pos * 3, none⟩ (L.length + 1 - pos) sc (L.length - pos) cur 36 ((L.drop pos).flatMap P3) Tryz.underlying27 Tryz.sizePt H1.out (by simp only [Nat.min_def]; split <;> omega) hcl (by rw [← hsl]; exact row_src (w := w.drew) H1.out) (by rw [hcl]; omega) cells_one
  go_region_law (refine step_copy_runI rfl _ _ 27 27 rfl _ _ (by simp [Act.eval, Act.put]) (by simp [Act.eval, Act.put]) (hcp1 _ _ _) ?_)
  generalize hW : World.setRow w.drew g _ = W1
  have hg1 : W1.heap[g]? = some (.cells (over cur.toList ((pos + 1) * 3) ((L.drop pos).flatMap P3)).toArray 36 (0, 0)) := by rw [← hW]; exact setRow_heap w.drew g cur _ _ _ H1.out
  have hgr : w.grownBy W1 (some g) := by rw [← hW]; exact ⟨rfl, rfl, rfl, by simp [World.setRow], fun j _ hj => setRow_other w.drew g j _ (fun e => hj (by rw [e]))⟩
  have hk1 : W1.heap[k]? = some (.cells (P3 p).toArray 36 (0, 0)) := (hgr.block k (Array.getElem?_eq_some_iff.1 H2.out).1 (fun e => hne (by injection e))).trans H2.out
  have G1 := hide hg1
  have GR := hide hgr
  have K1 := hide hk1
  have hol := over_len (R := cur.toList) (cs := (L.drop pos).flatMap P3) (o := (pos + 1) * 3) (by rw [hcl]; simp; omega)
  clear hcp1 hW hg1 hgr hk1 hov
  generalize hR : over cur.toList ((pos + 1) * 3) ((L.drop pos).flatMap P3) = R1 at *
  have HR := hide hR
  clear hR
  have hcp2 : ∀ ty dc, (Builtin.copy_ #[27, 27] ty #[.slice (some ⟨g, pos * 3, none⟩) (L.length + 1 - pos) dc, .slice (some ⟨k, 0, none⟩) 1 1]).run Tryz.prog W1 = .ok (goInt ((1 : Nat) : Int)) (W1.setRow g (over R1.toArray.toList (pos * 3) (P3 p)).toArray) := fun ty dc =>
    run_copy_rowK W1 _ 27 ty 36 3 g (pos * 3) (L.length + 1 - pos) dc ⟨k, 0, none⟩ 1 1 1 R1.toArray 36 (P3 p) Tryz.underlying27 Tryz.sizePt G1.out (by simp only [Nat.min_def]; split <;> omega) rfl (row_src (o := 0) (n := 3) K1.out) (by rw [P3_len]; simp at hol ⊢; omega) (fun u hu => cells_one (L := [p]) u (by simpa using hu))
  go_wp2_with (at_builtin; refine wpList_copy_runI _ rfl _ _ 27 27 rfl _ _ rfl rfl (hcp2 _ _) ?_)
  go_ret
  refine ⟨.slice (some ⟨g, 0, none⟩) (L.length + 1) c, rfl, ⟨by rw [putIn_len _ _ _ (by omega), cells_len, putIn_len _ _ _ (by omega)], .inr ⟨g, c, _, by rw [putIn_len _ _ _ (by omega)], hBg, setRow_heap _ g _ _ _ _ G1.out, by rw [putIn_len _ _ _ (by omega)]; exact hc, by unfold maxLen; exact hcm, ?_, ?_⟩⟩, ?_, .inl rfl⟩
  · have := over_len (R := R1) (cs := P3 p) (o := pos * 3) (by rw [P3_len]; simp at hol; omega)
    simp at this hol ⊢
    omega
  · have hb := over_back (R := cur.toList) (a := P3 p) (b := (L.drop pos).flatMap P3) (o := pos * 3) (by rw [P3_len, hcl]; simp; omega)
    rw [P3_len, hcl, show pos * 3 + 3 = (pos + 1) * 3 by omega, HR.out] at hb
    rw [putIn_len _ _ _ (by omega), putIn_cells, ← cells_take, ← H3.out, List.take_take, Nat.min_eq_left (by omega), show (L.length + 1) * 3 = (pos + 1) * 3 + (L.length - pos) * 3 by omega]
    simpa using hb
  · have g0 := GR.out
    exact ⟨g0.os, g0.tape, g0.output, by simpa using g0.size, fun j hj hne => (setRow_other W1 g j _ (fun e => hne (by rw [e]))).trans (g0.block j hj hne)⟩

set_option maxRecDepth 100000 in
set_option maxHeartbeats 2000000 in
/-- there is no room -/
theorem insert_grow (B g pos : Nat) (cur : Array Value) (L : List Ward.Pt) (p : Ward.Pt) (k : Nat) (w : World) (hg : w.heap[g]? = some (.cells cur 36 (0, 0))) (hcur : cur.toList.take (L.length * 3) = L.flatMap P3) (hB : B ≤ w.heap.size)
    (hk : w.heap[k]? = some (.cells (P3 p).toArray 36 (0, 0))) (hl : L.length ≤ 1000) (hpos : pos < L.length) :
    Calls Tryz.prog 36 #[.slice (some ⟨g, 0, none⟩) L.length L.length, I pos, .slice (some ⟨k, 0, none⟩) 1 1] w fun e w' => ∃ v', e = .returned v' ∧ Own w' B v' (putIn L pos p) ∧ w.grownBy w' (some g) ∧ Fresh w (.slice (some ⟨g, 0, none⟩) 0 0) v' := by
  obtain ⟨i0, hi, hz0, hz1, hz2⟩ := info_parts Tryz.infoPt
  have hz4 : ¬ ((pos : Int) = (L.length : Int)) := by omega
  have hz3 : (L.length : Int) < (L.length : Int) + 1 := by omega
  have hcl : ((L.drop pos).flatMap P3).length = (L.length - pos) * 3 := by rw [cells_len, List.length_drop]
  have htl : ((L.take pos).flatMap P3).length = pos * 3 := by rw [cells_len, List.length_take, Nat.min_eq_left (by omega)]
  have hst : (cur.toList.drop 0).take (pos * 3) = (L.take pos).flatMap P3 := by
    rw [List.drop_zero, ← cells_take, ← hcur, List.take_take, Nat.min_eq_left (by omega)]
  have hsl : ((cur.toList.drop (pos * 3)).take ((L.length - pos) * 3)) = (L.drop pos).flatMap P3 := by
    rw [← cells_drop, ← hcur, List.drop_take, show L.length * 3 - pos * 3 = (L.length - pos) * 3 by omega]
  have hold : (Builtin.firstCells i0.size pos (.slice (some ⟨g, 0, none⟩) pos L.length)).run Tryz.prog w.drew = .ok ((L.take pos).flatMap P3).toArray w.drew := by
    rw [hz1]
    exact run_firstCells_some w.drew 3 pos ⟨g, 0, none⟩ pos L.length _ htl (by rw [← hst]; exact row_src (w := w.drew) hg)
  have hrz : ∀ ty, (Builtin.append_ #[27, 3] ty #[.slice (some ⟨g, 0, none⟩) pos L.length, .int .i64 ((L.length + 1 - pos : Nat) : Int)]).run Tryz.prog w =
      .ok (.slice (some ⟨w.heap.size, 0, none⟩) (L.length + 1) (grownCap w (L.length + 1) L.length 36)) (w.drew.alloc (.cells (((L.take pos).flatMap P3).toArray ++ Builtin.zeroCells (.agg #[I 0, I 0, I 0] : Value).cells (L.length + 1 - pos) ++ Builtin.zeroCells (.agg #[I 0, I 0, I 0] : Value).cells (grownCap w (L.length + 1) L.length 36 - (L.length + 1))) 36)) := fun ty => by
    have h := Lib.run_append_grow_zeros w 27 3 ty 36 i0 _ .i64 .i64 Tryz.underlying27 Tryz.underlying3 hi hz0 (some ⟨g, 0, none⟩) pos L.length ((L.take pos).flatMap P3) hold (L.length + 1 - pos) (by omega) (by omega) (by omega) (by omega) (by rw [hz2]; omega) (by rw [hz2, show pos + (L.length + 1 - pos) = L.length + 1 by omega]; exact growslice_fits (by omega) (by omega))
    rw [show pos + (L.length + 1 - pos) = L.length + 1 by omega] at h
    exact h
  have hG1 := grownCap_ge w (L.length + 1) L.length 36
  have hG2 := grownCap_le_maxLen w (L.length + 1) L.length 36 (by unfold maxLen; omega)
  unfold maxLen at hG2
  generalize grownCap w (L.length + 1) L.length 36 = G at *
  have hRs : (((L.take pos).flatMap P3).toArray ++ Builtin.zeroCells (.agg #[I 0, I 0, I 0] : Value).cells (L.length + 1 - pos) ++ Builtin.zeroCells (.agg #[I 0, I 0, I 0] : Value).cells (G - (L.length + 1))).size = G * 3 := by
    simp only [Array.size_append, size_zeroCells, List.size_toArray, htl]
    simp [Value.cells]
    omega
  have hRt : (((L.take pos).flatMap P3).toArray ++ Builtin.zeroCells (.agg #[I 0, I 0, I 0] : Value).cells (L.length + 1 - pos) ++ Builtin.zeroCells (.agg #[I 0, I 0, I 0] : Value).cells (G - (L.length + 1))).toList.take (pos * 3) = (L.take pos).flatMap P3 := by
    rw [Array.toList_append, Array.toList_append, List.append_assoc, List.take_append_of_le_length (by rw [List.toList_toArray, htl]; exact Nat.le_refl _), List.toList_toArray, List.take_of_length_le (by rw [htl]; exact Nat.le_refl _)]
  generalize ((L.take pos).flatMap P3).toArray ++ Builtin.zeroCells (.agg #[I 0, I 0, I 0] : Value).cells (L.length + 1 - pos) ++ Builtin.zeroCells (.agg #[I 0, I 0, I 0] : Value).cells (G - (L.length + 1)) = R0 at *
  have hw1 : IntKind.i64.wrap ((pos : Int) + 1) = (pos : Int) + 1 := by rw [IntKind.wrap_i64]; omega
  have hcast : (L.length : Int) + 1 - (pos : Int) = ((L.length + 1 - pos : Nat) : Int) := by omega
  have HCS := hide hcast
  have H1 := hide hg
  have H2 := hide hk
  have HT := hide hRt
  have HST := hide hst
  have HSL := hide hsl
  have HRZ := hide hrz
  have hkl : k < w.heap.size := (Array.getElem?_eq_some_iff.1 hk).1
  have hgl : g < w.heap.size := (Array.getElem?_eq_some_iff.1 hg).1
  have hcpA : ∀ ty dc, (Builtin.copy_ #[27, 27] ty #[.slice (some ⟨w.heap.size, pos * 3, none⟩) (L.length + 1 - pos) dc, .slice (some ⟨k, 0, none⟩) 1 1]).run Tryz.prog (w.alloc (.cells R0 36)).drew = .ok (goInt ((1 : Nat) : Int)) ((w.alloc (.cells R0 36)).drew.setRow w.heap.size (over R0.toList (pos * 3) (P3 p)).toArray) := fun ty dc =>
    run_copy_rowK (w.alloc (.cells R0 36)).drew _ 27 ty 36 3 w.heap.size (pos * 3) (L.length + 1 - pos) dc ⟨k, 0, none⟩ 1 1 1 R0 36 (P3 p) Tryz.underlying27 Tryz.sizePt (heap_alloc_new w _) (by simp only [Nat.min_def]; split <;> omega) rfl (row_src (w := (w.alloc (.cells R0 36)).drew) (o := 0) (n := 3) ((Below.heap_alloc w _ k hkl).trans hk)) (by rw [P3_len]; omega) (fun u hu => cells_one (L := [p]) u (by simpa using hu))
  have HCA := hide hcpA
  have hb1 : (0 : Int) ≤ (pos : Int) + 1 := by omega
  have htn : ((pos : Int) + 1).toNat = pos + 1 := by omega
  have hb0 : ¬ (G = pos) := by omega
  have hb2 : ¬ (G = pos + 1) := by omega
  have hb3 : (pos : Int) + 1 ≤ (L.length : Int) + 1 := by omega
  have hb4 : ¬ (L.length = pos) := by omega
  have hb5 : (pos : Int) ≤ (L.length : Int) := by omega
  clear hg hk hcur hRt hst hsl hrz hold hcast hcpA
  go_enter Tryz.func36, Tryz.ntmps36
  go_wp2_with (first | (at_builtin; refine Lib.wpList_append_run _ rfl (.tmp 34) (.tmp 39) 27 3 rfl _ _ rfl rfl _ _ (by first | exact HRZ.out _ | (simp only [Act.eval, HCS.out]; exact HRZ.out _)) ?_) | (simp only [HCA.out]))
  generalize hW : World.setRow _ _ _ = W1
  have hg1 : W1.heap[w.heap.size]? = some (.cells (over R0.toList (pos * 3) (P3 p)).toArray 36 (0, 0)) := by rw [← hW]; exact setRow_heap _ w.heap.size R0 _ _ _ (heap_alloc_new w _)
  have hgr : Below w.heap.size w W1 := by rw [← hW]; exact below_setRow (((Below.refl w.heap.size w).alloc (Nat.le_refl _) _).drew) (Nat.le_refl _) _
  have hgg : W1.heap[g]? = some (.cells cur 36 (0, 0)) := (hgr.block g hgl).trans H1.out
  have hol := over_len (R := R0.toList) (cs := P3 p) (o := pos * 3) (by rw [P3_len]; simp; omega)
  have hcpB : ∀ ty dc sc, (Builtin.copy_ #[27, 27] ty #[.slice (some ⟨w.heap.size, (pos + 1) * 3, none⟩) (L.length - pos) dc, .slice (some ⟨g, pos * 3, none⟩) (L.length - pos) sc]).run Tryz.prog W1.drew = .ok (goInt ((L.length - pos : Nat) : Int)) (W1.drew.setRow w.heap.size (over (over R0.toList (pos * 3) (P3 p)).toArray.toList ((pos + 1) * 3) ((L.drop pos).flatMap P3)).toArray) := fun ty dc sc =>
    run_copy_rowK W1.drew _ _ ty 36 3 w.heap.size ((pos + 1) * 3) (L.length - pos) dc ⟨g, pos * 3, none⟩ (L.length - pos) sc (L.length - pos) _ 36 ((L.drop pos).flatMap P3) Tryz.underlying27 Tryz.sizePt hg1 (by simp only [Nat.min_def]; split <;> omega) hcl (by rw [← HSL.out]; exact row_src (w := W1.drew) hgg) (by rw [hcl]; simp at hol ⊢; omega) cells_one
  have G1 := hide hg1
  have GR := hide hgr
  clear hW hg1 hgr hgg HCA HRZ HCS
  go_wp2_with fail
  go_region_law (refine step_copy_runI rfl _ _ 27 27 rfl _ _ (by simp [Act.eval, Act.put]) (by simp [Act.eval, Act.put]) (hcpB _ _ _) ?_)
  have hG2' : G ≤ maxLen := by unfold maxLen; exact hG2
  clear hcpB
  go_wp2
  go_ret
  refine ⟨.slice (some ⟨w.heap.size, 0, none⟩) (L.length + 1) G, rfl, ⟨by rw [putIn_len _ _ _ (by omega), cells_len, putIn_len _ _ _ (by omega)], .inr ⟨w.heap.size, G, _, by rw [putIn_len _ _ _ (by omega)], hB, setRow_heap _ w.heap.size _ _ _ _ G1.out, by rw [putIn_len _ _ _ (by omega)]; exact hG1, hG2', ?_, ?_⟩⟩, ?_, .inr ⟨_, rfl, Nat.le_refl _⟩⟩
  · have := over_len (R := over R0.toList (pos * 3) (P3 p)) (cs := (L.drop pos).flatMap P3) (o := (pos + 1) * 3) (by rw [hcl]; simp at hol; omega)
    simp at this hol ⊢
    omega
  · have hb := over_two (R := R0.toList) (a := P3 p) (b := (L.drop pos).flatMap P3) (o := pos * 3) (by rw [P3_len, hcl]; simp; omega)
    rw [P3_len, hcl, show pos * 3 + 3 = (pos + 1) * 3 by omega, HT.out] at hb
    rw [putIn_len _ _ _ (by omega), putIn_cells, show (L.length + 1) * 3 = (pos + 1) * 3 + (L.length - pos) * 3 by omega]
    simpa using hb
  · have g0 := below_setRow GR.out.drew (Nat.le_refl _) (over (over R0.toList (pos * 3) (P3 p)).toArray.toList ((pos + 1) * 3) ((L.drop pos).flatMap P3)).toArray
    exact ⟨g0.os, g0.tape, g0.output, g0.size, fun j hj _ => g0.block j hj⟩

theorem insert_any (B pos : Nat) (v : Value) (L : List Ward.Pt) (p : Ward.Pt) (k : Nat) (w : World) (hown : Own w B v L) (hk : w.heap[k]? = some (.cells (P3 p).toArray 36 (0, 0))) (hne : v.ownBlock ≠ some k) (hl : L.length ≤ 1000) (hB : B ≤ w.heap.size) (hpos : pos ≤ L.length) :
    Calls Tryz.prog 36 #[v, I pos, .slice (some ⟨k, 0, none⟩) 1 1] w fun e w' => ∃ v', e = .returned v' ∧ Own w' B v' (putIn L pos p) ∧ w.grownBy w' v.ownBlock ∧ Fresh w v v' := by
  rcases Nat.lt_or_ge pos L.length with hlt | hge
  · rcases hown.2 with ⟨rfl, h0⟩ | ⟨g, c, cur, rfl, hBg, hg, hc, hcm, hcs, htake⟩
    · omega
    · rcases Nat.lt_or_ge L.length c with h | h
      · exact insert_room B g c pos cur L p k w hBg hg htake hcs h hcm hk (fun e => hne (by rw [e]; rfl)) hl hlt
      · have e : c = L.length := by omega
        subst e
        exact insert_grow B g pos cur L p k w hg htake hB hk hl hlt
  · have e : pos = L.length := by omega
    subst e
    exact insert_end B v L p k w hown hk hl hB
end Go.Proofs.YtenaelkbgkpllaaGreatDoor
/- A point put into a map. -/
namespace Go.Proofs.YtenaelkbgkpllaaGreatDoor
open Go.RowKit

/-- but for some blocks all is as it was -/
structure Keeps (S : Nat → Prop) (w w' : World) : Prop where
  os : w'.os = w.os
  tape : w'.tape = w.tape
  output : w'.output = w.output
  size : w.heap.size ≤ w'.heap.size
  block : ∀ k, k < w.heap.size → ¬ S k → w'.heap[k]? = w.heap[k]?
theorem Keeps.refl (S : Nat → Prop) (w : World) : Keeps S w w := ⟨rfl, rfl, rfl, Nat.le_refl _, fun _ _ _ => rfl⟩
theorem Keeps.trans {S S' : Nat → Prop} {a b c : World} (h : Keeps S a b) (k : Keeps S' b c) (hs : ∀ j, j < a.heap.size → S' j → S j) : Keeps S a c :=
  ⟨k.os.trans h.os, k.tape.trans h.tape, k.output.trans h.output, Nat.le_trans h.size k.size, fun j hj hn => (k.block j (Nat.lt_of_lt_of_le hj h.size) (fun e => hn (hs j hj e))).trans (h.block j hj hn)⟩
theorem Keeps.mono {S S' : Nat → Prop} {a b : World} (h : Keeps S a b) (hs : ∀ j, j < a.heap.size → S j → S' j) : Keeps S' a b :=
  ⟨h.os, h.tape, h.output, h.size, fun j hj hn => h.block j hj (fun e => hn (hs j hj e))⟩
theorem Keeps.of_below {S : Nat → Prop} {a b : World} (h : Below a.heap.size a b) : Keeps S a b := ⟨h.os, h.tape, h.output, h.size, fun j hj _ => h.block j hj⟩
theorem Keeps.of_grown {a b : World} {row : Option Nat} (h : a.grownBy b row) : Keeps (fun k => some k = row) a b := ⟨h.os, h.tape, h.output, h.size, fun j hj hn => h.block j hj hn⟩
theorem Keeps.below {a b : World} (h : Keeps (fun _ => False) a b) : Below a.heap.size a b := ⟨h.os, h.tape, h.output, h.size, fun j hj => h.block j hj (fun e => e)⟩

theorem P3_at (L : List Ward.Pt) (i : Nat) (h : i < L.length) : (L.flatMap P3)[i * 3]? = some (I L[i].id) ∧ (L.flatMap P3)[i * 3 + 1]? = some (I L[i].x) ∧ (L.flatMap P3)[i * 3 + 2]? = some (I L[i].y) := by
  have e : ∀ j, (L.flatMap P3)[i * 3 + j]? = ((L.drop i).flatMap P3)[j]? := fun j => by rw [← cells_drop, List.getElem?_drop]
  have hd : L.drop i = L[i] :: L.drop (i + 1) := by rw [List.drop_eq_getElem_cons h]
  have e0 := e 0
  rw [Nat.add_zero] at e0
  rw [e0, e 1, e 2, hd]
  exact ⟨rfl, rfl, rfl⟩
theorem Own.reads {w : World} {B : Nat} {v : Value} {L : List Ward.Pt} (h : Own w B v L) : Reads w v L := by
  rcases h.2 with ⟨rfl, h0⟩ | ⟨g, c, cur, rfl, _⟩
  · have e : L = [] := by simpa using h0
    subst e
    exact ⟨none, 0, rfl, fun k => absurd rfl k⟩
  · refine ⟨_, c, rfl, fun _ => ⟨g, 0, rfl, fun i hi => ?_⟩⟩
    have hc := h.cells (g := g) rfl
    obtain ⟨h1, h2, h3⟩ := P3_at L i hi
    have a1 := hc _ _ h1
    have a2 := hc _ _ h2
    have a3 := hc _ _ h3
    rw [Addr.add_lit] at a1 a2 a3
    exact ⟨a1, a2, a3⟩
theorem Own.keeps {S : Nat → Prop} {w w' : World} {B : Nat} {v : Value} {L : List Ward.Pt} (h : Own w B v L) (hk : Keeps S w w') (hn : ∀ g, v.ownBlock = some g → ¬ S g) : Own w' B v L := by
  refine ⟨h.1, ?_⟩
  rcases h.2 with h0 | ⟨g, cap, cur, rfl, hb, hg, r⟩
  · exact .inl h0
  · exact .inr ⟨g, cap, cur, rfl, hb, (hk.block g (Array.getElem?_eq_some_iff.1 hg).1 (hn g rfl)).trans hg, r⟩
theorem Own.lt {w : World} {B g : Nat} {v : Value} {L : List Ward.Pt} (h : Own w B v L) (hg : v.ownBlock = some g) : g < w.heap.size := (World.ownsRow.lt h g hg).2
/-- a map: its block, its points' list -/
structure IsMap (w : World) (m : Nat) (v : Value) (L : List Ward.Pt) : Prop where
  row : w.heap[m]? = some (.cells #[v] 79 (0, 0))
  own : Own w 0 v L
  apart : v.ownBlock ≠ some m
/-- a map's points are as they must be -/
structure Good (L : List Ward.Pt) : Prop where
  sorted : Ward.Sorted L
  ids : Ward.Ids L
  ok : ∀ p ∈ L, p.Ok
  many : L.length ≤ 150
/-- a map's own blocks -/
def Mine (m : Nat) (v : Value) (k : Nat) : Prop := k = m ∨ some k = v.ownBlock
theorem IsMap.lt {w : World} {m : Nat} {v : Value} {L : List Ward.Pt} (h : IsMap w m v L) : m < w.heap.size := (Array.getElem?_eq_some_iff.1 h.row).1
theorem IsMap.keeps {S : Nat → Prop} {w w' : World} {m : Nat} {v : Value} {L : List Ward.Pt} (h : IsMap w m v L) (hk : Keeps S w w') (hn : ∀ k, Mine m v k → ¬ S k) : IsMap w' m v L :=
  ⟨(hk.block m h.lt (hn m (.inl rfl))).trans h.row, h.own.keeps hk (fun g hg => hn g (.inr hg.symm)), h.apart⟩

set_option maxHeartbeats 400000 in
theorem new_any (w : World) :
    Calls Tryz.prog 14 #[] w fun e w' => e = .returned (.pointer (some ⟨w.heap.size, 0, none⟩)) ∧ IsMap w' w.heap.size (.slice none 0 0) [] ∧ w'.heap.size = w.heap.size + 1 ∧ Below w.heap.size w w' := by
  go_enter Tryz.func14, Tryz.ntmps14
  go_wp2
  go_ret
  exact ⟨rfl, ⟨heap_alloc_new w _, World.ownsRow_nil _ _ _ _, by simp [Value.ownBlock]⟩, by simp, (Below.refl w.heap.size w).alloc (Nat.le_refl _) _⟩

/-- what Insert says, and what is there then -/
def insCode (L : List Ward.Pt) (p : Ward.Pt) : Int :=
  if ¬ (1 ≤ p.id ∧ p.id ≤ 1000000) then 1 else if ¬ (-1000000 ≤ p.x ∧ p.x ≤ 1000000) ∨ ¬ (-1000000 ≤ p.y ∧ p.y ≤ 1000000) then 2
  else if ∃ q ∈ L, q.id = p.id then 3 else if 150 ≤ L.length then 5 else 0
def insList (L : List Ward.Pt) (p : Ward.Pt) : List Ward.Pt := if insCode L p = 0 then Ward.ins p L else L
end Go.Proofs.YtenaelkbgkpllaaGreatDoor
