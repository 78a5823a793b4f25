/- The place of a point among others, found by halving. -/
import Derived.Test.YtenaelkbgkpllaaGreatDoorPC
namespace Go.Proofs.YtenaelkbgkpllaaGreatDoor
open Go.RowKit

/-- what is known while halving -/
structure Half (p : Ward.Pt) (L : List Ward.Pt) (i j : Nat) : Prop where
  ij : i ≤ j
  jn : j ≤ L.length
  low : ∀ a, (h : a < L.length) → a < i → Ward.lt L[a] p
  high : ∀ a, (h : a < L.length) → j ≤ a → ¬ Ward.lt L[a] p
theorem sorted_lt {L : List Ward.Pt} (h : Ward.Sorted L) {a b : Nat} (hb : b < L.length) (hab : a < b) : Ward.lt (L[a]'(by omega)) L[b] :=
  List.pairwise_iff_getElem.1 h a b (by omega) hb hab
theorem Half.up {p : Ward.Pt} {L : List Ward.Pt} {i j h : Nat} (H : Half p L i j) (hs : Ward.Sorted L) (h1 : i ≤ h) (h2 : h < j) (hn : h < L.length) (hlt : Ward.lt L[h] p) : Half p L (h + 1) j :=
  ⟨by omega, H.jn, fun a ha hah => by
    rcases Nat.lt_or_ge a h with h' | h'
    · exact Ward.lt_trans (sorted_lt hs hn h') hlt
    · have e : a = h := by omega
      subst e; exact hlt, H.high⟩
theorem Half.down {p : Ward.Pt} {L : List Ward.Pt} {i j h : Nat} (H : Half p L i j) (hs : Ward.Sorted L) (h1 : i ≤ h) (h2 : h < j) (hn : h < L.length) (hlt : ¬ Ward.lt L[h] p) : Half p L i h :=
  ⟨h1, by omega, H.low, fun a ha hah => by
    rcases Nat.lt_or_ge h a with h' | h'
    · exact fun k => hlt (Ward.lt_trans (sorted_lt hs ha h') k)
    · have e : a = h := by omega
      subst e; exact hlt⟩
theorem Half.parts {p : Ward.Pt} {L : List Ward.Pt} {i : Nat} (H : Half p L i i) : Ward.Parts p L i := ⟨H.jn, H.low, H.high⟩

set_option maxHeartbeats 1000000 in
theorem search_any (v : Value) (L : List Ward.Pt) (p : Ward.Pt) (w : World) (hL : Reads w v L) (hs : Ward.Sorted L) (hl : L.length ≤ 1000) :
    Calls Tryz.prog 34 #[v, .agg #[I p.id, I p.x, I p.y], .func (.func 35) #[] #[]] w fun e w' => ∃ (k : Nat) (b : Bool), e = .returned (.tuple #[I k, .bool b]) ∧ Ward.Parts p L k ∧ Below w.heap.size w w' := by
  have hL1 := hL.below ((Below.refl w.heap.size w).alloc (Nat.le_refl _) (.cells #[I p.id, I p.x, I p.y] 36))
  obtain ⟨a, c, rfl, hc⟩ := hL
  have HC := hide hc
  have HS := hide hs
  clear hc hs hL1
  go_enter Tryz.func34, Tryz.ntmps34
  go_wp2
  go_loopw [9, 10] (fun vi vj wq => ∃ i j : Nat, vi = I i ∧ vj = I j ∧ Half p L i j ∧ PtAt wq w.heap.size 0 p ∧ Below w.heap.size w wq) (fun vi vj _ => (intOf vj).toNat - (intOf vi).toNat)
  case atStart => exact ⟨0, L.length, rfl, rfl, ⟨by omega, by omega, fun a _ h => absurd h (by omega), fun a h h' => absurd h (by omega)⟩, row3 (heap_alloc_new w _), (Below.refl _ _).alloc (Nat.le_refl _) _⟩
  case round =>
    obtain ⟨i, j, rfl, rfl, hH, hpt, hb⟩ := hrel
    have hij := hH.ij
    have hjn := hH.jn
    have HH := hide hH
    clear hH
    by_cases hlt : i < j
    · obtain ⟨h, hh⟩ : ∃ h : Nat, h = (i + j) / 2 := ⟨_, rfl⟩
      have hhn : h < L.length := by omega
      obtain ⟨g, o, rfl, hp⟩ := HC.out (fun e => by subst e; simp at hhn)
      have hpi := (hp _ hhn).below hb (hp _ hhn).lt
      have hgl := (hp _ hhn).lt
      have HU := hide (HH.out.up HS.out (h := h) (by omega) (by omega) hhn)
      have HD := hide (HH.out.down HS.out (h := h) (by omega) (by omega) hhn)
      generalize L[h] = q at *
      clear hp
      go_wp2_with fail
      rw [show ((i : Int) + (j : Int)) / 2 = (h : Int) by omega]
      have HX := hide hh
      have HB := hide hb
      have hs := hb.size
      clear hh hb
      obtain ⟨pi, px, py⟩ := p
      obtain ⟨qi, qx, qy⟩ := q
      have hS : (wr.cell? ⟨g, o + h * 3, none⟩ = some (I qi) ∧ wr.cell? ⟨g, o + h * 3 + 1, none⟩ = some (I qx) ∧ wr.cell? ⟨g, o + h * 3 + 2, none⟩ = some (I qy)) ∧ wr.cell? ⟨w.heap.size, 0, none⟩ = some (I pi) ∧ wr.cell? ⟨w.heap.size, 1, none⟩ = some (I px) ∧ wr.cell? ⟨w.heap.size, 2, none⟩ = some (I py) := ⟨hpi, hpt⟩
      have hgr : g < wr.heap.size := hpi.lt
      have hwr : w.heap.size < wr.heap.size := hpt.lt
      clear hpi hpt
      go_region_held3 (fun W => (W.cell? ⟨g, o + h * 3, none⟩ = some (I qi) ∧ W.cell? ⟨g, o + h * 3 + 1, none⟩ = some (I qx) ∧ W.cell? ⟨g, o + h * 3 + 2, none⟩ = some (I qy)) ∧ W.cell? ⟨w.heap.size, 0, none⟩ = some (I pi) ∧ W.cell? ⟨w.heap.size, 1, none⟩ = some (I px) ∧ W.cell? ⟨w.heap.size, 2, none⟩ = some (I py)) (first | assumption | exact hS) ((go_at_call 35; refine (compare_any ⟨qi, qx, qy⟩ ⟨pi, px, py⟩ _).mono ?_; rintro _ w1 ⟨rfl, hb1⟩; have hS1 := (show PtAt wr.drew g (o + h * 3) ⟨qi, qx, qy⟩ ∧ PtAt wr.drew w.heap.size 0 ⟨pi, px, py⟩ from hS); have hS2 := And.intro (hS1.1.below hb1 hgr) (hS1.2.below hb1 hwr); clear hS1))
      have HB1 := hide ((HB.out.drew).trans (hb1.mono hs))
      have HP1 := hide hS2.2
      clear hS2 hS hb1
      by_cases hq : Ward.lt ⟨qi, qx, qy⟩ ⟨pi, px, py⟩
      · have hc := (cmpP_lt ⟨qi, qx, qy⟩ ⟨pi, px, py⟩).2 hq
        have hU := HU.out hq
        go_wp2
        go_roundw
        case rel => exact ⟨h + 1, j, by go_num, rfl, hU, HP1.out, HB1.out⟩
        case measure => have := HX.out; simp [intOf]; omega
      · have hc : ¬ cmpP ⟨qi, qx, qy⟩ ⟨pi, px, py⟩ < 0 := fun k => hq ((cmpP_lt _ _).1 k)
        have hD := HD.out hq
        go_wp2
        go_roundw
        case rel => exact ⟨i, h, rfl, by go_num, hD, HP1.out, HB1.out⟩
        case measure => have := HX.out; simp [intOf]; omega
    · have e : i = j := by omega
      subst e
      have hk := HH.out.parts
      by_cases hn : i < L.length
      · obtain ⟨g, o, rfl, hp⟩ := HC.out (fun e => by subst e; simp at hn)
        have hpi := (hp _ hn).below hb (hp _ hn).lt
        generalize L[i] = q at *
        clear hp
        have HB := hide hb
        have hs := hb.size
        have HK := hide hk
        clear hb hk
        obtain ⟨pi, px, py⟩ := p
        obtain ⟨qi, qx, qy⟩ := q
        have hS : (wr.cell? ⟨g, o + i * 3, none⟩ = some (I qi) ∧ wr.cell? ⟨g, o + i * 3 + 1, none⟩ = some (I qx) ∧ wr.cell? ⟨g, o + i * 3 + 2, none⟩ = some (I qy)) ∧ wr.cell? ⟨w.heap.size, 0, none⟩ = some (I pi) ∧ wr.cell? ⟨w.heap.size, 1, none⟩ = some (I px) ∧ wr.cell? ⟨w.heap.size, 2, none⟩ = some (I py) := ⟨hpi, hpt⟩
        have hgr : g < wr.heap.size := hpi.lt
        have hwr : w.heap.size < wr.heap.size := hpt.lt
        clear hpi hpt
        go_wp2_with fail
        go_region_held3 (fun W => (W.cell? ⟨g, o + i * 3, none⟩ = some (I qi) ∧ W.cell? ⟨g, o + i * 3 + 1, none⟩ = some (I qx) ∧ W.cell? ⟨g, o + i * 3 + 2, none⟩ = some (I qy)) ∧ W.cell? ⟨w.heap.size, 0, none⟩ = some (I pi) ∧ W.cell? ⟨w.heap.size, 1, none⟩ = some (I px) ∧ W.cell? ⟨w.heap.size, 2, none⟩ = some (I py)) (first | assumption | exact hS) ((go_at_call 35; refine (compare_any ⟨qi, qx, qy⟩ ⟨pi, px, py⟩ _).mono ?_; rintro _ w1 ⟨rfl, hb1⟩; have hS1 := (show PtAt wr.drew g (o + i * 3) ⟨qi, qx, qy⟩ ∧ PtAt wr.drew w.heap.size 0 ⟨pi, px, py⟩ from hS); have hS2 := And.intro (hS1.1.below hb1 hgr) (hS1.2.below hb1 hwr); clear hS1))
        have HB1 := hide ((HB.out.drew).trans (hb1.mono hs))
        go_wp2
        go_ret2
        exact ⟨i, _, rfl, HK.out, HB1.out⟩
      · have hnf : decide ((i : Int) < (L.length : Int)) = false := decide_eq_false (by omega)
        have HB := hide hb
        have HK := hide hk
        clear hb hk hpt
        go_wp2_with fail
        go_quiet (fail)
        go_wp2
        go_ret2
        exact ⟨i, _, rfl, HK.out, ⟨HB.out.os, HB.out.tape, HB.out.output, HB.out.size, HB.out.block⟩⟩
end Go.Proofs.YtenaelkbgkpllaaGreatDoor
