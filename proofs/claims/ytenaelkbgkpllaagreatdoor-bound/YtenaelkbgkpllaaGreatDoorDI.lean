/- The digest of a text. -/
import Derived.Test.YtenaelkbgkpllaaGreatDoorDH
import Derived.Deep.DeepCutAuto
namespace Go.Proofs.YtenaelkbgkpllaaGreatDoor
open Go.RowKit

theorem stirAll_lit (a b c d e f g h : Nat) (s : ByteArray) (m : Nat) (l : List UInt8) (w : World) (hs : Sha.Ok ⟨a, b, c, d, e, f, g, h⟩) (hm : s.size = 64 * m) (hl : s.size ≤ 140737488355328) (hK : KT w) (hd : s.data.toList = l) :
    Calls Tryz.prog 104 #[.agg #[U a, U b, U c, U d, U e, U f, U g, U h], .string s] w fun e' w' => ∃ x : Sha.St, x = Sha.stirN l m ⟨a, b, c, d, e, f, g, h⟩ ∧ e' = .returned (.agg #[U x.a, U x.b, U x.c, U x.d, U x.e, U x.f, U x.g, U x.h]) ∧ Below w.heap.size w w' :=
  (stirAll_any a b c d e f g h s m w hs hm hl hK).mono fun _ _ ⟨he, hb⟩ => ⟨_, rfl, by rw [he, hd]; rfl, hb⟩
theorem KT.drew {w : World} (h : KT w) : KT w.drew := fun i hi => h i hi

theorem padding_length (n : Nat) : (Sha.padding n).length = 9 + (119 - n % 64) % 64 := by
  simp [Sha.padding, Sha.four]; omega
theorem last_length (l : List UInt8) : (Sha.last l).length = 64 * ((Sha.last l).length / 64) ∧ (Sha.last l).length ≤ 128 := by
  have h : (Sha.last l).length = l.length % 64 + (9 + (119 - l.length % 64) % 64) := by
    rw [Sha.last, List.length_append, padding_length, List.length_drop, Sha.whole]; omega
  rw [h]; omega
theorem keep9 {B g b xa xb xc xd xe xf xg xh : Nat} {W W' : World} (hb : Below B W W') (hg : g < B) (hr : b < B) (h : W.cell? ⟨g, 0, none⟩ = some (U xa) ∧ W.cell? ⟨g, 1, none⟩ = some (U xb) ∧ W.cell? ⟨g, 2, none⟩ = some (U xc) ∧ W.cell? ⟨g, 3, none⟩ = some (U xd) ∧ W.cell? ⟨g, 4, none⟩ = some (U xe) ∧ W.cell? ⟨g, 5, none⟩ = some (U xf) ∧ W.cell? ⟨g, 6, none⟩ = some (U xg) ∧ W.cell? ⟨g, 7, none⟩ = some (U xh) ∧ W.there b 0 32) : W'.cell? ⟨g, 0, none⟩ = some (U xa) ∧ W'.cell? ⟨g, 1, none⟩ = some (U xb) ∧ W'.cell? ⟨g, 2, none⟩ = some (U xc) ∧ W'.cell? ⟨g, 3, none⟩ = some (U xd) ∧ W'.cell? ⟨g, 4, none⟩ = some (U xe) ∧ W'.cell? ⟨g, 5, none⟩ = some (U xf) ∧ W'.cell? ⟨g, 6, none⟩ = some (U xg) ∧ W'.cell? ⟨g, 7, none⟩ = some (U xh) ∧ W'.there b 0 32 := by
  obtain ⟨c0, c1, c2, c3, c4, c5, c6, c7, ht⟩ := h
  refine ⟨(hb.cell hg).trans c0, (hb.cell hg).trans c1, (hb.cell hg).trans c2, (hb.cell hg).trans c3, (hb.cell hg).trans c4, (hb.cell hg).trans c5, (hb.cell hg).trans c6, (hb.cell hg).trans c7, fun j hj => ?_⟩
  rw [hb.cell (p := ⟨b, 0 + j, none⟩) hr, hb.frozen (p := ⟨b, 0 + j, none⟩) hr]
  exact ht j hj
theorem keepSet {g b xa xb xc xd xe xf xg xh : Nat} {W : World} (L : List Value) (hne : g ≠ b) (h : W.cell? ⟨g, 0, none⟩ = some (U xa) ∧ W.cell? ⟨g, 1, none⟩ = some (U xb) ∧ W.cell? ⟨g, 2, none⟩ = some (U xc) ∧ W.cell? ⟨g, 3, none⟩ = some (U xd) ∧ W.cell? ⟨g, 4, none⟩ = some (U xe) ∧ W.cell? ⟨g, 5, none⟩ = some (U xf) ∧ W.cell? ⟨g, 6, none⟩ = some (U xg) ∧ W.cell? ⟨g, 7, none⟩ = some (U xh) ∧ W.there b 0 32) : (W.setCells b 0 L).cell? ⟨g, 0, none⟩ = some (U xa) ∧ (W.setCells b 0 L).cell? ⟨g, 1, none⟩ = some (U xb) ∧ (W.setCells b 0 L).cell? ⟨g, 2, none⟩ = some (U xc) ∧ (W.setCells b 0 L).cell? ⟨g, 3, none⟩ = some (U xd) ∧ (W.setCells b 0 L).cell? ⟨g, 4, none⟩ = some (U xe) ∧ (W.setCells b 0 L).cell? ⟨g, 5, none⟩ = some (U xf) ∧ (W.setCells b 0 L).cell? ⟨g, 6, none⟩ = some (U xg) ∧ (W.setCells b 0 L).cell? ⟨g, 7, none⟩ = some (U xh) ∧ (W.setCells b 0 L).there b 0 32 := by
  obtain ⟨c0, c1, c2, c3, c4, c5, c6, c7, ht⟩ := h
  have o : ∀ i, (W.setCells b 0 L).cell? ⟨g, i, none⟩ = W.cell? ⟨g, i, none⟩ := fun i => World.cell?_setCells_out b L 0 W ⟨g, i, none⟩ (fun e => absurd e hne)
  exact ⟨(o 0).trans c0, (o 1).trans c1, (o 2).trans c2, (o 3).trans c3, (o 4).trans c4, (o 5).trans c5, (o 6).trans c6, (o 7).trans c7, World.there_setCells ht b 0 L⟩
theorem there_of_row {w : World} {b n : Nat} {z : Array Value} {t : TypeId} (h : w.heap[b]? = some (.cells z t (0, 0))) (hn : z.size = n) : w.there b 0 n := fun j hj => by
  rw [cell_of_row _ _ _ _ _ _ h, Nat.zero_add, frozen_of_row _ _ _ _ _ h, Array.getElem?_eq_getElem (by omega)]
  exact ⟨rfl, rfl⟩
theorem stirAll_to (a b c d e f g h a' b' c' d' e' f' g' h' : Nat) (s : ByteArray) (m : Nat) (l : List UInt8) (w : World) (hs : Sha.Ok ⟨a, b, c, d, e, f, g, h⟩) (hm : s.size = 64 * m) (hl : s.size ≤ 140737488355328) (hd : s.data.toList = l) (hy : Sha.stirN l m ⟨a, b, c, d, e, f, g, h⟩ = ⟨a', b', c', d', e', f', g', h'⟩) (hK : KT w) :
    Calls Tryz.prog 104 #[.agg #[U a, U b, U c, U d, U e, U f, U g, U h], .string s] w fun r w' => r = .returned (.agg #[U a', U b', U c', U d', U e', U f', U g', U h']) ∧ Below w.heap.size w w' :=
  (stirAll_any a b c d e f g h s m w hs hm hl hK).mono fun _ _ ⟨he, hb⟩ => ⟨by rw [he, hd, hy]; rfl, hb⟩
theorem join_to (a b c d e f g h : Nat) (L : List Value) (w : World) (hs : Sha.Ok ⟨a, b, c, d, e, f, g, h⟩) (hL : (Sha.join ⟨a, b, c, d, e, f, g, h⟩).map Y = L) :
    Calls Tryz.prog 106 #[.agg #[U a, U b, U c, U d, U e, U f, U g, U h]] w fun e' w' => e' = .returned (.agg L.toArray) ∧ Below w.heap.size w w' := by
  subst hL; exact join_any a b c d e f g h w hs
theorem below_setCells {B b : Nat} (hB : B ≤ b) : ∀ (L : List Value) (o : Nat) {w w' : World}, Below B w w' → Below B w (w'.setCells b o L)
  | [], _, _, _, h => h
  | v :: L, o, _, _, h => below_setCells hB L (o + 1) (h.setCell (p := ⟨b, o, none⟩) hB v)
theorem results_cell_mid {fn : Func} {p : Tmp} {ty : TypeId} (h : fn.results = #[.cell p ty]) (tmps : Array Value) (w : World) (g : Nat) (L : List Value) (d : TypeDesc)
    (hp : tmps.getD p undef = .pointer (some ⟨g, 0, none⟩)) (hg : w.rangeAt g 0 L)
    (hu : Tryz.prog.underlying ty = some d) (hd : d.isRow = true) (hi : (Tryz.prog.info? ty).map (·.size) = some L.length) :
    (results fn tmps).run Tryz.prog w = .ok (.agg L.toArray) w := by
  have hp' : tmps[p]?.getD undef = .pointer (some ⟨g, 0, none⟩) := by simpa using hp
  simp [results, h, hp', asAddr, run_loadVar_mid w g 0 ty L d hg hu hd hi]
theorem below_set8 {B g : Nat} {w w2 : World} {v0 v1 v2 v3 v4 v5 v6 v7 : Value} (h : Below B w w2) (hg : B ≤ g) : Below B w ((((((((w2.setCell ⟨g, 0, none⟩ v0).setCell ⟨g, 1, none⟩ v1).setCell ⟨g, 2, none⟩ v2).setCell ⟨g, 3, none⟩ v3).setCell ⟨g, 4, none⟩ v4).setCell ⟨g, 5, none⟩ v5).setCell ⟨g, 6, none⟩ v6).setCell ⟨g, 7, none⟩ v7) :=
  (((((((h.setCell hg _).setCell hg _).setCell hg _).setCell hg _).setCell hg _).setCell hg _).setCell hg _).setCell hg _
theorem KT.le {B : Nat} {w w' : World} (h : KT w) (hb : Below B w w') (hB : 1 < B) : KT w' := fun i hi => (hb.cell (p := ⟨1, i, none⟩) hB).trans (h i hi)
theorem wayC {w w0 w1 w2 : World} {z : Array Value} {x X : Sha.St} (hR : w0.heap[w.heap.size]? = some (.cells z 39 (0, 0))) (h0 : Below w.heap.size w w0) (hz : w0.heap.size = w.heap.size + 1) (hK : KT w0)
    (hb1 : Below w0.drew.heap.size w0.drew w1) (hb2 : Below w1.heap.size w1 w2) (hx : x = X) :
    ∃ g', Value.pointer (some ⟨w2.heap.size, 0, none⟩) = .pointer (some ⟨g', 0, none⟩) ∧ w.heap.size < g' ∧ (∃ y : Sha.St, y = X ∧ (w2.alloc (.cells #[U x.a, U x.b, U x.c, U x.d, U x.e, U x.f, U x.g, U x.h] 64)).heap[g']? = some (.cells #[U y.a, U y.b, U y.c, U y.d, U y.e, U y.f, U y.g, U y.h] 64 (0, 0))) ∧ (w2.alloc (.cells #[U x.a, U x.b, U x.c, U x.d, U x.e, U x.f, U x.g, U x.h] 64)).heap[w.heap.size]? = some (.cells z 39 (0, 0)) ∧ Below w.heap.size w (w2.alloc (.cells #[U x.a, U x.b, U x.c, U x.d, U x.e, U x.f, U x.g, U x.h] 64)) ∧ KT (w2.alloc (.cells #[U x.a, U x.b, U x.c, U x.d, U x.e, U x.f, U x.g, U x.h] 64)) := by
  have s1 : w0.heap.size ≤ w1.heap.size := hb1.size
  have s2 := hb2.size
  have b1 : Below w0.heap.size w0 w1 := ((Below.refl _ _).drew).trans hb1
  have b2 : Below w0.heap.size w0 w2 := b1.trans (hb2.mono s1)
  have b3 : Below w0.heap.size w0 (w2.alloc (.cells #[U x.a, U x.b, U x.c, U x.d, U x.e, U x.f, U x.g, U x.h] 64)) := b2.alloc (by omega) _
  exact ⟨_, rfl, by omega, ⟨x, hx, heap_alloc_new w2 _⟩, (b3.block _ (by omega)).trans hR, h0.trans (b3.mono (by omega)), hK.below b3⟩
theorem wayB {w w0 w1 w2 : World} {z : Array Value} {x X : Sha.St} (hR : w0.heap[w.heap.size]? = some (.cells z 39 (0, 0))) (h0 : Below w.heap.size w w0) (hz : w0.heap.size = w.heap.size + 1) (hK : KT w0)
    (hb1 : Below w0.drew.heap.size w0.drew w1) (hb2 : Below (w1.alloc (.cells #[.int .u32 0, .int .u32 0, .int .u32 0, .int .u32 0, .int .u32 0, .int .u32 0, .int .u32 0, .int .u32 0] 64)).heap.size (w1.alloc (.cells #[.int .u32 0, .int .u32 0, .int .u32 0, .int .u32 0, .int .u32 0, .int .u32 0, .int .u32 0, .int .u32 0] 64)) w2) (hx : x = X) :
    ∃ g', Value.pointer (some ⟨w1.heap.size, 0, none⟩) = .pointer (some ⟨g', 0, none⟩) ∧ w.heap.size < g' ∧ (∃ y : Sha.St, y = X ∧ ((((((((w2.setCell ⟨w1.heap.size, 0, none⟩ (U x.a)).setCell ⟨w1.heap.size, 1, none⟩ (U x.b)).setCell ⟨w1.heap.size, 2, none⟩ (U x.c)).setCell ⟨w1.heap.size, 3, none⟩ (U x.d)).setCell ⟨w1.heap.size, 4, none⟩ (U x.e)).setCell ⟨w1.heap.size, 5, none⟩ (U x.f)).setCell ⟨w1.heap.size, 6, none⟩ (U x.g)).setCell ⟨w1.heap.size, 7, none⟩ (U x.h)).heap[g']? = some (.cells #[U y.a, U y.b, U y.c, U y.d, U y.e, U y.f, U y.g, U y.h] 64 (0, 0))) ∧ ((((((((w2.setCell ⟨w1.heap.size, 0, none⟩ (U x.a)).setCell ⟨w1.heap.size, 1, none⟩ (U x.b)).setCell ⟨w1.heap.size, 2, none⟩ (U x.c)).setCell ⟨w1.heap.size, 3, none⟩ (U x.d)).setCell ⟨w1.heap.size, 4, none⟩ (U x.e)).setCell ⟨w1.heap.size, 5, none⟩ (U x.f)).setCell ⟨w1.heap.size, 6, none⟩ (U x.g)).setCell ⟨w1.heap.size, 7, none⟩ (U x.h)).heap[w.heap.size]? = some (.cells z 39 (0, 0)) ∧ Below w.heap.size w ((((((((w2.setCell ⟨w1.heap.size, 0, none⟩ (U x.a)).setCell ⟨w1.heap.size, 1, none⟩ (U x.b)).setCell ⟨w1.heap.size, 2, none⟩ (U x.c)).setCell ⟨w1.heap.size, 3, none⟩ (U x.d)).setCell ⟨w1.heap.size, 4, none⟩ (U x.e)).setCell ⟨w1.heap.size, 5, none⟩ (U x.f)).setCell ⟨w1.heap.size, 6, none⟩ (U x.g)).setCell ⟨w1.heap.size, 7, none⟩ (U x.h)) ∧ KT ((((((((w2.setCell ⟨w1.heap.size, 0, none⟩ (U x.a)).setCell ⟨w1.heap.size, 1, none⟩ (U x.b)).setCell ⟨w1.heap.size, 2, none⟩ (U x.c)).setCell ⟨w1.heap.size, 3, none⟩ (U x.d)).setCell ⟨w1.heap.size, 4, none⟩ (U x.e)).setCell ⟨w1.heap.size, 5, none⟩ (U x.f)).setCell ⟨w1.heap.size, 6, none⟩ (U x.g)).setCell ⟨w1.heap.size, 7, none⟩ (U x.h)) := by
  have s1 : w0.heap.size ≤ w1.heap.size := hb1.size
  have b1 : Below w0.heap.size w0 w1 := ((Below.refl _ _).drew).trans hb1
  have b2 : Below w0.heap.size w0 w2 := (b1.alloc s1 _).trans (hb2.mono (by simp; omega))
  have b3 : Below w0.heap.size w0 ((((((((w2.setCell ⟨w1.heap.size, 0, none⟩ (U x.a)).setCell ⟨w1.heap.size, 1, none⟩ (U x.b)).setCell ⟨w1.heap.size, 2, none⟩ (U x.c)).setCell ⟨w1.heap.size, 3, none⟩ (U x.d)).setCell ⟨w1.heap.size, 4, none⟩ (U x.e)).setCell ⟨w1.heap.size, 5, none⟩ (U x.f)).setCell ⟨w1.heap.size, 6, none⟩ (U x.g)).setCell ⟨w1.heap.size, 7, none⟩ (U x.h)) := below_set8 b2 s1
  exact ⟨_, rfl, by omega, ⟨x, hx, set8 ((hb2.block w1.heap.size (by simp)).trans (heap_alloc_new w1 _))⟩, (b3.block _ (by omega)).trans hR, h0.trans (b3.mono (by omega)), hK.below b3⟩
theorem wayA {w w0 w1 w2 : World} {z : Array Value} {x X : Sha.St} (hR : w0.heap[w.heap.size]? = some (.cells z 39 (0, 0))) (h0 : Below w.heap.size w w0) (hz : w0.heap.size = w.heap.size + 1) (hK : KT w0)
    (hb1 : Below (w0.alloc (.cells #[.int .u32 0, .int .u32 0, .int .u32 0, .int .u32 0, .int .u32 0, .int .u32 0, .int .u32 0, .int .u32 0] 64)).drew.heap.size (w0.alloc (.cells #[.int .u32 0, .int .u32 0, .int .u32 0, .int .u32 0, .int .u32 0, .int .u32 0, .int .u32 0, .int .u32 0] 64)).drew w1) (hb2 : Below w1.heap.size w1 w2) (hx : x = X) :
    ∃ g', Value.pointer (some ⟨w0.heap.size, 0, none⟩) = .pointer (some ⟨g', 0, none⟩) ∧ w.heap.size < g' ∧ (∃ y : Sha.St, y = X ∧ ((((((((w2.setCell ⟨w0.heap.size, 0, none⟩ (U x.a)).setCell ⟨w0.heap.size, 1, none⟩ (U x.b)).setCell ⟨w0.heap.size, 2, none⟩ (U x.c)).setCell ⟨w0.heap.size, 3, none⟩ (U x.d)).setCell ⟨w0.heap.size, 4, none⟩ (U x.e)).setCell ⟨w0.heap.size, 5, none⟩ (U x.f)).setCell ⟨w0.heap.size, 6, none⟩ (U x.g)).setCell ⟨w0.heap.size, 7, none⟩ (U x.h)).heap[g']? = some (.cells #[U y.a, U y.b, U y.c, U y.d, U y.e, U y.f, U y.g, U y.h] 64 (0, 0))) ∧ ((((((((w2.setCell ⟨w0.heap.size, 0, none⟩ (U x.a)).setCell ⟨w0.heap.size, 1, none⟩ (U x.b)).setCell ⟨w0.heap.size, 2, none⟩ (U x.c)).setCell ⟨w0.heap.size, 3, none⟩ (U x.d)).setCell ⟨w0.heap.size, 4, none⟩ (U x.e)).setCell ⟨w0.heap.size, 5, none⟩ (U x.f)).setCell ⟨w0.heap.size, 6, none⟩ (U x.g)).setCell ⟨w0.heap.size, 7, none⟩ (U x.h)).heap[w.heap.size]? = some (.cells z 39 (0, 0)) ∧ Below w.heap.size w ((((((((w2.setCell ⟨w0.heap.size, 0, none⟩ (U x.a)).setCell ⟨w0.heap.size, 1, none⟩ (U x.b)).setCell ⟨w0.heap.size, 2, none⟩ (U x.c)).setCell ⟨w0.heap.size, 3, none⟩ (U x.d)).setCell ⟨w0.heap.size, 4, none⟩ (U x.e)).setCell ⟨w0.heap.size, 5, none⟩ (U x.f)).setCell ⟨w0.heap.size, 6, none⟩ (U x.g)).setCell ⟨w0.heap.size, 7, none⟩ (U x.h)) ∧ KT ((((((((w2.setCell ⟨w0.heap.size, 0, none⟩ (U x.a)).setCell ⟨w0.heap.size, 1, none⟩ (U x.b)).setCell ⟨w0.heap.size, 2, none⟩ (U x.c)).setCell ⟨w0.heap.size, 3, none⟩ (U x.d)).setCell ⟨w0.heap.size, 4, none⟩ (U x.e)).setCell ⟨w0.heap.size, 5, none⟩ (U x.f)).setCell ⟨w0.heap.size, 6, none⟩ (U x.g)).setCell ⟨w0.heap.size, 7, none⟩ (U x.h)) := by
  have s1 : w0.heap.size + 1 ≤ w1.heap.size := by have := hb1.size; simpa using this
  have b1 : Below w0.heap.size w0 w1 := (((Below.refl _ _).alloc (Nat.le_refl _) _).drew).trans (hb1.mono (by simp))
  have b2 : Below w0.heap.size w0 w2 := b1.trans (hb2.mono (by omega))
  have b3 : Below w0.heap.size w0 ((((((((w2.setCell ⟨w0.heap.size, 0, none⟩ (U x.a)).setCell ⟨w0.heap.size, 1, none⟩ (U x.b)).setCell ⟨w0.heap.size, 2, none⟩ (U x.c)).setCell ⟨w0.heap.size, 3, none⟩ (U x.d)).setCell ⟨w0.heap.size, 4, none⟩ (U x.e)).setCell ⟨w0.heap.size, 5, none⟩ (U x.f)).setCell ⟨w0.heap.size, 6, none⟩ (U x.g)).setCell ⟨w0.heap.size, 7, none⟩ (U x.h)) := below_set8 b2 (Nat.le_refl _)
  have hr : w2.heap[w0.heap.size]? = some (.cells #[.int .u32 0, .int .u32 0, .int .u32 0, .int .u32 0, .int .u32 0, .int .u32 0, .int .u32 0, .int .u32 0] 64) := ((hb2.block w0.heap.size (by omega)).trans (hb1.block w0.heap.size (by simp))).trans (heap_alloc_new w0 _)
  exact ⟨_, rfl, by omega, ⟨x, hx, set8 hr⟩, (b3.block _ (by omega)).trans hR, h0.trans (b3.mono (by omega)), hK.below b3⟩

set_option maxRecDepth 100000 in
set_option maxHeartbeats 1200000 in
theorem of_any (s : ByteArray) (w : World) (hs : s.size ≤ 140737488355327) (hK : KT w) :
    Calls Tryz.prog 63 #[.string s] w fun e w' => e = .returned (.agg ((Sha.sha s.data.toList).map Y).toArray) ∧ Below w.heap.size w w' := by
  have HK := hide hK
  clear hK
  have h1 : ∀ W, (Instr.slice 9 (.string s) none (some (.int .i64 ((s.size : Int) - (s.size : Int) % 64))) none).run Tryz.prog W = .ok (.string (s.extract 0 (s.size - s.size % 64))) W := fun W => by
    rw [run_slice_string_to_if W 9 s .i64 _ Tryz.underlying9, if_pos (by omega), show ((s.size : Int) - (s.size : Int) % 64).toNat = s.size - s.size % 64 by omega]
  have hc1 := hide (cut_size s 0 (s.size - s.size % 64) (by omega))
  have hd1 := hide (cut_list s 0 (s.size - s.size % 64))
  go_enter Tryz.func63, Tryz.ntmps63
  go_wp2_with fail
  have hz1 := heap_alloc_new w
  have hbb := fun o => (Below.refl w.heap.size w).alloc (Nat.le_refl _) o
  generalize hW : w.alloc _ = w0
  obtain ⟨z, hz32, hrow⟩ : ∃ z : Array Value, z.size = 32 ∧ w0.heap[w.heap.size]? = some (.cells z 39 (0, 0)) := by
    rw [← hW]; exact ⟨_, rfl, hz1 _⟩
  have hb0 : Below w.heap.size w w0 := by rw [← hW]; exact hbb _
  have hz0 : w0.heap.size = w.heap.size + 1 := by rw [← hW]; simp
  have HK0 := hide (HK.out.below hb0)
  have HZ0 := hide hz0
  have HB0 := hide hb0
  have HR := hide hrow
  have H32 := hide hz32
  clear hz1 hbb hW hrow hz32 hz0 hb0
  go_cut [4] (fun s4 wx => ∃ g, s4 = .pointer (some ⟨g, 0, none⟩) ∧ w.heap.size < g ∧ (∃ x : Sha.St, x = Sha.stirN (s.data.toList.take (Sha.whole s.data.toList.length)) (s.size / 64) Sha.start ∧ wx.heap[g]? = some (.cells #[U x.a, U x.b, U x.c, U x.d, U x.e, U x.f, U x.g, U x.h] 64 (0, 0))) ∧ wx.heap[w.heap.size]? = some (.cells z 39 (0, 0)) ∧ Below w.heap.size w wx ∧ KT wx)
  case first =>
    go_region_with ((first | (go_at_call 105; go_must (refine (start_any _).mono ?_; rintro e w1 ⟨rfl, hb1⟩)) | (go_at_call 104; go_must (refine (stirAll_lit 1779033703 3144134277 1013904242 2773480762 1359893119 2600822924 528734635 1541459225 _ (s.size / 64) (s.data.toList.take (Sha.whole s.data.toList.length)) _ Sha.start_ok (by rw [hc1.out]; omega) (by rw [hc1.out]; omega) (by first | exact HK0.out.drew.below hb1 | exact (HK0.out.drew.below hb1).below ((Below.refl _ _).alloc (Nat.le_refl _) _) | exact (HK0.out.below ((Below.refl _ _).alloc (Nat.le_refl _) _)).drew.below hb1) (by rw [hd1.out]; rfl)).mono ?_; rintro e w2 ⟨x, hx, rfl, hb2⟩; have HX := hide hx; clear hx; first | (have hr := ((hb2.block w0.heap.size (Nat.lt_of_lt_of_le (by simp) hb1.size)).trans (hb1.block w0.heap.size (by simp))).trans (heap_alloc_new w0 _); have HRA := hide hr; obtain ⟨⟨d0, d1, d2, d3, d4, d5, d6, d7⟩, df⟩ := row8 hr; clear hr) | (have hr := (hb2.block w1.heap.size (by simp)).trans (heap_alloc_new w1 _); have HRB := hide hr; obtain ⟨⟨d0, d1, d2, d3, d4, d5, d6, d7⟩, df⟩ := row8 hr; clear hr) | skip))))
    all_goals (go_wp2_with fail; go_meet)
    all_goals first
      | (have h_ := HRA; clear h_; exact wayA HR.out HB0.out HZ0.out HK0.out hb1 hb2 HX.out)
      | (have h_ := HRB; clear h_; exact wayB HR.out HB0.out HZ0.out HK0.out hb1 hb2 HX.out)
      | exact wayC HR.out HB0.out HZ0.out HK0.out hb1 hb2 HX.out
  case rest =>
    clear h1 hc1 hd1 HR HB0 HZ0 HK0
    obtain ⟨g, rfl, hg, ⟨x, hx, hrow⟩, hres, hb, hKc⟩ := hcut
    have hlast := hide (last_length s.data.toList)
    have hsha := hide (show Sha.sha s.data.toList = Sha.join (Sha.stirN (Sha.last s.data.toList) ((Sha.last s.data.toList).length / 64) x) by rw [hx]; rfl)
    have hxo : Sha.Ok x := by rw [hx]; exact Sha.stirN_ok _ Sha.start_ok
    have h2 : ∀ W, (Instr.slice 9 (.string s) (some (.int .i64 ((s.size : Int) - (s.size : Int) % 64))) none none).run Tryz.prog W = .ok (.string (s.extract (s.size - s.size % 64) s.size)) W := fun W => by
      rw [run_slice_string_from_if W 9 s .i64 _ Tryz.underlying9, if_pos (by omega), show ((s.size : Int) - (s.size : Int) % 64).toNat = s.size - s.size % 64 by omega]
    have hps := padding_length s.size
    have hcs := cut_size s (s.size - s.size % 64) s.size (Nat.le_refl _)
    have h3 : ∀ W, (Op.stringOp .add (s.extract (s.size - s.size % 64) s.size) ⟨(Sha.padding s.size).toArray⟩).run Tryz.prog W = .ok (.string (s.extract (s.size - s.size % 64) s.size ++ ⟨(Sha.padding s.size).toArray⟩)) W := fun W =>
      run_string_add_sum W _ _ (by rw [hcs]; show _ + (Sha.padding s.size).toArray.size ≤ _; rw [List.size_toArray, hps]; omega)
    have hdl : (s.extract (s.size - s.size % 64) s.size ++ (⟨(Sha.padding s.size).toArray⟩ : ByteArray)).data.toList = Sha.last s.data.toList := by
      rw [ByteArray.data_append, Array.toList_append, cut_list]
      show _ ++ Sha.padding s.size = List.drop (Sha.whole s.data.toList.length) s.data.toList ++ Sha.padding s.data.toList.length
      have hlen : s.data.toList.length = s.size := by simp
      rw [hlen, List.take_of_length_le (by simp)]; rfl
    have hp := fun W => padding_any s.size W (by omega)
    generalize (⟨(Sha.padding s.size).toArray⟩ : ByteArray) = pd at *
    generalize s.extract (s.size - s.size % 64) s.size = tl at *
    have hdz : (tl ++ pd).size = (Sha.last s.data.toList).length := by rw [← hdl]; simp
    have HDL := hide hdl
    have HDZ := hide hdz
    have HPC := hide hp
    have HX := hide hx
    have HXO := hide hxo
    have HKc := hide hKc
    have HRow := hide hrow
    have HRes := hide hres
    clear hdl hdz hp hx hxo hKc hps hcs
    generalize tl ++ pd = td at *
    obtain ⟨xa, xb, xc, xd, xe, xf, xg, xh⟩ := x
    obtain ⟨⟨c0, c1, c2, c3, c4, c5, c6, c7⟩, -⟩ := row8 hrow
    clear hrow hres
    obtain ⟨y, hy⟩ : ∃ y, Sha.stirN (Sha.last s.data.toList) ((Sha.last s.data.toList).length / 64) ⟨xa, xb, xc, xd, xe, xf, xg, xh⟩ = y := ⟨_, rfl⟩
    have hyo : Sha.Ok y := by rw [← hy]; exact Sha.stirN_ok _ HXO.out
    have hsha2 := hide (show Sha.sha s.data.toList = Sha.join y by rw [hsha.out, hy])
    obtain ⟨ya, yb, yc, yd, ye, yf, yg, yh⟩ := y
    have hL1 : ∀ v ∈ (Sha.join ⟨ya, yb, yc, yd, ye, yf, yg, yh⟩).map Y, v.oneCell' = true := fun v hv => by
      obtain ⟨n, _, rfl⟩ := List.mem_map.1 hv; rfl
    have hL2 : ((Sha.join ⟨ya, yb, yc, yd, ye, yf, yg, yh⟩).map Y).length = 32 := rfl
    have hsha3 := hide (show (Sha.sha s.data.toList).map Y = (Sha.join ⟨ya, yb, yc, yd, ye, yf, yg, yh⟩).map Y by rw [hsha2.out])
    have HY := hide hy
    have HYO := hide hyo
    clear hy hyo hsha hsha2 HX
    generalize hLe : (Sha.join ⟨ya, yb, yc, yd, ye, yf, yg, yh⟩).map Y = L at *
    have HL := hide hLe
    have hu22 := Tryz.under22
    have hi22 : (Tryz.prog.info? 39).map (·.size) = some L.length := by rw [hL2]; exact Tryz.info22
    have hth := there_of_row HRes.out H32.out
    have hgl : g < wc.heap.size := block_lt_of_cell c0
    have hH0 := hide (show wc.drew.cell? ⟨g, 0, none⟩ = some (U xa) ∧ wc.drew.cell? ⟨g, 1, none⟩ = some (U xb) ∧ wc.drew.cell? ⟨g, 2, none⟩ = some (U xc) ∧ wc.drew.cell? ⟨g, 3, none⟩ = some (U xd) ∧ wc.drew.cell? ⟨g, 4, none⟩ = some (U xe) ∧ wc.drew.cell? ⟨g, 5, none⟩ = some (U xf) ∧ wc.drew.cell? ⟨g, 6, none⟩ = some (U xg) ∧ wc.drew.cell? ⟨g, 7, none⟩ = some (U xh) ∧ wc.drew.there w.heap.size 0 32 from ⟨c0, c1, c2, c3, c4, c5, c6, c7, hth⟩)
    clear hLe c0 c1 c2 c3 c4 c5 c6 c7 hth
    go_wp2_with fail
    go_region_held3 (fun W => W.cell? ⟨g, 0, none⟩ = some (U xa) ∧ W.cell? ⟨g, 1, none⟩ = some (U xb) ∧ W.cell? ⟨g, 2, none⟩ = some (U xc) ∧ W.cell? ⟨g, 3, none⟩ = some (U xd) ∧ W.cell? ⟨g, 4, none⟩ = some (U xe) ∧ W.cell? ⟨g, 5, none⟩ = some (U xf) ∧ W.cell? ⟨g, 6, none⟩ = some (U xg) ∧ W.cell? ⟨g, 7, none⟩ = some (U xh) ∧ W.there w.heap.size 0 32) (first | exact hH0.out | assumption | exact keepSet _ (by omega) (by assumption)) ((first | (go_at_call 107; refine (HPC.out _).mono ?_; rintro e w3 ⟨rfl, hb3⟩; have hS3 := keep9 hb3 (show g < wc.heap.size from hgl) (show w.heap.size < wc.heap.size by omega) hH0.out; have hK3 := hide (HKc.out.drew.below hb3)) | (go_at_call 104; refine (stirAll_to xa xb xc xd xe xf xg xh ya yb yc yd ye yf yg yh td ((Sha.last s.data.toList).length / 64) (Sha.last s.data.toList) _ HXO.out (by rw [HDZ.out]; exact hlast.out.1) (by rw [HDZ.out]; have := hlast.out.2; omega) HDL.out HY.out hK3.out).mono ?_; rintro e w4 ⟨rfl, hb4⟩; have hS4 := keep9 hb4 (Nat.lt_of_lt_of_le (show g < wc.heap.size from hgl) hb3.size) (Nat.lt_of_lt_of_le (show w.heap.size < wc.heap.size by omega) hb3.size) hS3) | (go_at_call 106; refine (join_to ya yb yc yd ye yf yg yh L _ HYO.out HL.out).mono ?_; rintro e w5 ⟨rfl, hb5⟩; have hS5 := keep9 hb5 (Nat.lt_of_lt_of_le (Nat.lt_of_lt_of_le (show g < wc.heap.size from hgl) hb3.size) hb4.size) (Nat.lt_of_lt_of_le (Nat.lt_of_lt_of_le (show w.heap.size < wc.heap.size by omega) hb3.size) hb4.size) hS4)))
    have hb6 : Below w.heap.size w w5 := ((hb.drew.trans (hb3.mono (show w.heap.size ≤ wc.heap.size by omega))).trans (hb4.mono (Nat.le_trans (show w.heap.size ≤ wc.heap.size by omega) hb3.size))).trans (hb5.mono (Nat.le_trans (Nat.le_trans (show w.heap.size ≤ wc.heap.size by omega) hb3.size) hb4.size))
    have hr6 := World.rangeAt_setCells_same w5 w.heap.size 0 L (by rw [hL2]; exact hS5.2.2.2.2.2.2.2.2)
    clear hS3 hS4 hS5 hH0
    go_wp2
    refine bodyPost_ret (v := .agg L.toArray) ?_ rfl ⟨by rw [hsha3.out], below_setCells (Nat.le_refl _) L 0 hb6⟩
    exact results_cell_mid rfl _ _ w.heap.size L _ rfl hr6 Tryz.under22 rfl hi22
end Go.Proofs.YtenaelkbgkpllaaGreatDoor
