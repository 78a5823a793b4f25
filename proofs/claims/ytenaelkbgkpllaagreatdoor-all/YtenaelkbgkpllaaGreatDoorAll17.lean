/- The document's Look: a child. -/
import Derived.Test.YtenaelkbgkpllaaGreatDoorAll16
import Derived.Test.YtenaelkbgkpllaaGreatDoorAll15
import Derived.Test.YtenaelkbgkpllaaGreatDoorAll6
namespace Go.Proofs.YtenaelkbgkpllaaGreatDoor
open Go.RowKit

theorem ext_at (x : List UInt8) (a b : Nat) : (⟨x.toArray⟩ : ByteArray).extract a b = ⟨((x.drop a).take (b - a)).toArray⟩ := by
  apply ByteArray.ext
  apply Array.ext'
  rw [cut_list]
theorem slice_at (x : List UInt8) (a b : Nat) (h : a ≤ b) (hb : b ≤ x.length) (W : World) : (Instr.slice 9 (Sv x) (some (.int .i64 (a : Int))) (some (.int .i64 (b : Int))) none).run Tryz.prog W = .ok (Sv ((x.drop a).take (b - a))) W := by
  have e : (⟨x.toArray⟩ : ByteArray).size = x.length := by show x.toArray.size = _; rw [List.size_toArray]
  have h1 := run_slice_string W 9 ⟨x.toArray⟩ .i64 .i64 (a : Int) (b : Int) Tryz.underlying9 (by omega) (by omega) (by rw [e]; omega)
  rw [Int.toNat_natCast, Int.toNat_natCast, ext_at] at h1
  exact h1
/-- a part's contract, that is used below it -/
def PartRef (d : Nat) (root : Bool) : Prop := ∀ (dp : Nat) (w : World) (B l : Nat) (s : List UInt8) (i : Nat) (vL vK : Value) (L : List Ward.Pt) (K : List Ward.Chd), dp + d = 7 → LookAt w B l s i false vL vK L K → B ≤ w.heap.size → i ≤ s.length → s.length ≤ 140737488355328 → L.length + Ward.room d ≤ 29000 → K.length + Ward.room d ≤ 29000 →
  Calls Tryz.prog 132 #[.pointer (some ⟨l, 0, none⟩), I dp] w (PartOut w B l s vL vK (L.length + Ward.room d) (K.length + Ward.room d) (Ward.rdNode d root (Ward.at' s i L) = none) (fun i' L' K' b n x => ∃ t, Ward.PartGood d root s i L K t i' L' K' b n x))
/-- where a child stands while its head is read -/
structure KidSt (w : World) (B l : Nat) (s : List UInt8) (j : Nat) (vL vK : Value) (L : List Ward.Pt) (K : List Ward.Chd) (cs : Array Value) (wq : World) : Prop where
  look : LookAt wq B l s j false vL vK L K
  row : wq.heap[w.heap.size + 1]? = some (.cells cs 196 (0, 0))
  res : ∃ z : Array Value, z.size = 16 ∧ wq.heap[w.heap.size]? = some (.cells z 196 (0, 0))
  tw : LookTo w l vL vK wq vL vK
theorem KidSt.lt {w wq : World} {B l : Nat} {s : List UInt8} {j : Nat} {vL vK : Value} {L : List Ward.Pt} {K : List Ward.Chd} {cs : Array Value} (h : KidSt w B l s j vL vK L K cs wq) : w.heap.size + 1 < wq.heap.size := (Array.getElem?_eq_some_iff.1 h.row).1
/-- its own Look was written -/
theorem KidSt.moved {w wq w' : World} {B l : Nat} {s : List UInt8} {j j' : Nat} {vL vK : Value} {L : List Ward.Pt} {K : List Ward.Chd} {cs : Array Value} (h : KidSt w B l s j vL vK L K cs wq) (hl : l < w.heap.size) (hr : LookRow w' l s j' false vL vK) (hk : Keeps (fun k => k = l) wq w') : KidSt w B l s j' vL vK L K cs w' := by
  have hlt := h.lt
  obtain ⟨z, hz, hzr⟩ := h.res
  exact ⟨h.look.to hk hr, (hk.block _ hlt (by omega)).trans h.row, ⟨z, hz, (hk.block w.heap.size (by omega) (by omega)).trans hzr⟩, h.tw.step hk⟩
/-- a cell of the child was written -/
theorem KidSt.wrote {w wq : World} {B l : Nat} {s : List UInt8} {j : Nat} {vL vK : Value} {L : List Ward.Pt} {K : List Ward.Chd} {cs : Array Value} (h : KidSt w B l s j vL vK L K cs wq) (hw : ¬ LS l vL vK (w.heap.size + 1)) (k : Nat) (v : Value) : KidSt w B l s j vL vK L K (cs.setIfInBounds k v) (wq.setCell ⟨w.heap.size + 1, k, none⟩ v) := by
  have hk : Keeps (fun j => j = w.heap.size + 1) wq (wq.setCell ⟨w.heap.size + 1, k, none⟩ v) := ⟨rfl, rfl, rfl, by simp, fun j _ hj => heap_setCell_other wq ⟨w.heap.size + 1, k, none⟩ j v hj⟩
  have hlt := h.lt
  obtain ⟨z, hz, hzr⟩ := h.res
  exact ⟨h.look.keep hk (fun g hg e => hw (e ▸ hg)), heap_setCell_same _ _ _ _ _ _ h.row, ⟨z, hz, (hk.block w.heap.size (by omega) (by omega)).trans hzr⟩, h.tw.more hk (fun g hg e => by omega)⟩
theorem KidSt.below {w wq w' : World} {B l : Nat} {s : List UInt8} {j : Nat} {vL vK : Value} {L : List Ward.Pt} {K : List Ward.Chd} {cs : Array Value} (h : KidSt w B l s j vL vK L K cs wq) (hb : Below wq.heap.size wq w') : KidSt w B l s j vL vK L K cs w' := by
  have hlt := h.lt
  obtain ⟨z, hz, hzr⟩ := h.res
  exact ⟨h.look.below hb, (hb.block _ hlt).trans h.row, ⟨z, hz, (hb.block w.heap.size (by omega)).trans hzr⟩, h.tw.more (Keeps.of_below (S := fun _ => False) hb) (fun _ _ e => e)⟩
theorem row_cell {w : World} {g t : Nat} {cs : Array Value} (h : w.heap[g]? = some (.cells cs t (0, 0))) {k : Nat} {v : Value} (hv : cs[k]? = some v) : w.cell? ⟨g, k, none⟩ = some v := by rw [cell_of_row _ _ _ _ _ _ h]; exact hv
theorem kid_num {s : List UInt8} {i : Nat} (j : Nat) : Ward.numAt (s.drop i) j = Ward.signed (Sha.word s (i + 4 * j)) := by
  unfold Ward.numAt
  rw [Ward.word_drop (s.drop i), List.drop_drop, ← Ward.word_drop]
theorem signed_small (n : Nat) (h : n < 4294967296) : -2147483648 ≤ Ward.signed n ∧ Ward.signed n < 2147483648 := by
  unfold Ward.signed
  split <;> omega
theorem Tryz.infoKid : (Tryz.prog.info? 196).map (·.size) = some 16 := by kernel_rfl
theorem kidV_all (c : Ward.Chd) (x : Value) (hx : x.oneCell' = true) : (kidV c x).toArray.all (·.oneCell') = true := all_oneCell_toArray (kidV_one c x hx)
/-- a child goes out -/
theorem kid_end {w wq : World} {B l : Nat} {s : List UInt8} {vL vK vL' vK' : Value} {nL nK : Nat} {F : Prop} {G : Nat → List Ward.Pt → List Ward.Chd → Ward.Chd → Prop} {L' : List Ward.Pt} {K' : List Ward.Chd} {j : Nat} {bad : Bool} (c : Ward.Chd) (x : Value) (hx : x.oneCell' = true) (hd : c.dig.length ≤ 32) (hn : -2147483648 ≤ c.n ∧ c.n < 2147483648)
    (hl : LookAt wq B l s j bad vL' vK' L' K') (ht : LookTo w l vL vK wq vL' vK') (hr : ¬ LS l vL' vK' w.heap.size) (hj : j ≤ s.length) (h1 : L'.length ≤ nL) (h2 : K'.length ≤ nK) (h : (bad = true ∧ F) ∨ (bad = false ∧ G j L' K' c)) :
    KidOut w B l s vL vK nL nK F G (.returned (.agg (kidV c x).toArray)) (wq.setRow w.heap.size (kidV c x).toArray) := by
  have k := keeps_rowTo wq w.heap.size (kidV c x).toArray
  exact ⟨c, x, vL', vK', L', K', j, bad, rfl, hx, hd, hn, hl.keep k (fun g hg e => hr (e ▸ hg)), ht.more k (fun g hg e => by omega), hj, h1, h2, h⟩
/-- a child, with what was shown of it, ahead of its being put behind the others -/
structure KidCut (d : Nat) (w : World) (B l : Nat) (s : List UInt8) (i : Nat) (vL vK : Value) (L : List Ward.Pt) (K : List Ward.Chd) (wx : World) (c : Ward.Chd) (x vL' vK' : Value) (L' : List Ward.Pt) (K' : List Ward.Chd) (j : Nat) (bad : Bool) : Prop where
  row : wx.heap[w.heap.size + 1]? = some (.cells (kidV c x).toArray 196 (0, 0))
  res : ∃ z : Array Value, z.size = 16 ∧ wx.heap[w.heap.size]? = some (.cells z 196 (0, 0))
  one : x.oneCell' = true
  dig : c.dig.length ≤ 32
  num : -2147483648 ≤ c.n ∧ c.n < 2147483648
  look : LookAt wx B l s j bad vL' vK' L' K'
  tw : LookTo w l vL vK wx vL' vK'
  n0 : ¬ LS l vL' vK' w.heap.size
  n1 : ¬ LS l vL' vK' (w.heap.size + 1)
  le : j ≤ s.length
  lL : L'.length ≤ L.length + Ward.room d
  lK : K'.length ≤ K.length + Ward.room d
  is : (bad = true ∧ Ward.rdKid d (Ward.rdNode d false) (Ward.at' s i L) = none) ∨ (bad = false ∧ ∃ t, Ward.rdKid d (Ward.rdNode d false) (Ward.at' s i L) = some (t, Ward.at' s j L') ∧ L' = L ++ Ward.allN (d + 1) t ∧ K' = K ++ Ward.post (d + 1) t ∧ c = Ward.chd (d + 1) t)
theorem keeps_cellsTo (g : Nat) : ∀ (vs : List Value) (o : Nat) (w : World), Keeps (fun k => k = g) w (w.setCells g o vs)
  | [], _, w => Keeps.refl _ _
  | v :: vs, o, w => Keeps.trans (S := fun k => k = g) (b := w.setCell ⟨g, o, none⟩ v) ⟨rfl, rfl, rfl, by simp, fun j _ hj => heap_setCell_other w ⟨g, o, none⟩ j v hj⟩ (keeps_cellsTo g vs (o + 1) _) (fun _ _ e => e)
theorem there_mid {w : World} {b o n : Nat} {z : Array Value} {t : TypeId} (h : w.heap[b]? = some (.cells z t (0, 0))) (hn : o + n ≤ z.size) : w.there b o n := fun j hj => by
  rw [cell_of_row _ _ _ _ _ _ h, frozen_of_row _ _ _ _ _ h, Array.getElem?_eq_getElem (by omega)]
  exact ⟨rfl, rfl⟩
/-- what is shown of a child was written into it -/
theorem kid_shown {w : World} {g : Nat} {b0 b1 b2 b3 n : Int} {D : List UInt8} (h : w.heap[g]? = some (.cells #[I b0, I b1, I b2, I b3, I n, Sv D, .bool true, I 0, I 0, I 0, I 0, I 0, Sv [], I 0, I 0, .slice none 0 0] 196 (0, 0))) (b : Ward.Box) (m : Int) (x : List UInt8) (v : Value) :
    (w.setCells g 7 (partV b m x 0 0 v).toList).heap[g]? = some (.cells (kidV ⟨⟨b0, b1, b2, b3⟩, n, D, true, b, m, x⟩ v).toArray 196 (0, 0)) := by
  have h1 : (w.setCell ⟨g, 7, none⟩ (I b.a)).heap[g]? = some (.cells #[I b0, I b1, I b2, I b3, I n, Sv D, .bool true, I b.a, I 0, I 0, I 0, I 0, Sv [], I 0, I 0, .slice none 0 0] 196 (0, 0)) := heap_setCell_same _ g 7 _ _ _ h
  have h2 : ((w.setCell ⟨g, 7, none⟩ (I b.a)).setCell ⟨g, 8, none⟩ (I b.b)).heap[g]? = some (.cells #[I b0, I b1, I b2, I b3, I n, Sv D, .bool true, I b.a, I b.b, I 0, I 0, I 0, Sv [], I 0, I 0, .slice none 0 0] 196 (0, 0)) := heap_setCell_same _ g 8 _ _ _ h1
  have h3 : (((w.setCell ⟨g, 7, none⟩ (I b.a)).setCell ⟨g, 8, none⟩ (I b.b)).setCell ⟨g, 9, none⟩ (I b.c)).heap[g]? = some (.cells #[I b0, I b1, I b2, I b3, I n, Sv D, .bool true, I b.a, I b.b, I b.c, I 0, I 0, Sv [], I 0, I 0, .slice none 0 0] 196 (0, 0)) := heap_setCell_same _ g 9 _ _ _ h2
  have h4 : ((((w.setCell ⟨g, 7, none⟩ (I b.a)).setCell ⟨g, 8, none⟩ (I b.b)).setCell ⟨g, 9, none⟩ (I b.c)).setCell ⟨g, 10, none⟩ (I b.d)).heap[g]? = some (.cells #[I b0, I b1, I b2, I b3, I n, Sv D, .bool true, I b.a, I b.b, I b.c, I b.d, I 0, Sv [], I 0, I 0, .slice none 0 0] 196 (0, 0)) := heap_setCell_same _ g 10 _ _ _ h3
  have h5 : (((((w.setCell ⟨g, 7, none⟩ (I b.a)).setCell ⟨g, 8, none⟩ (I b.b)).setCell ⟨g, 9, none⟩ (I b.c)).setCell ⟨g, 10, none⟩ (I b.d)).setCell ⟨g, 11, none⟩ (I m)).heap[g]? = some (.cells #[I b0, I b1, I b2, I b3, I n, Sv D, .bool true, I b.a, I b.b, I b.c, I b.d, I m, Sv [], I 0, I 0, .slice none 0 0] 196 (0, 0)) := heap_setCell_same _ g 11 _ _ _ h4
  have h6 : ((((((w.setCell ⟨g, 7, none⟩ (I b.a)).setCell ⟨g, 8, none⟩ (I b.b)).setCell ⟨g, 9, none⟩ (I b.c)).setCell ⟨g, 10, none⟩ (I b.d)).setCell ⟨g, 11, none⟩ (I m)).setCell ⟨g, 12, none⟩ (Sv x)).heap[g]? = some (.cells #[I b0, I b1, I b2, I b3, I n, Sv D, .bool true, I b.a, I b.b, I b.c, I b.d, I m, Sv x, I 0, I 0, .slice none 0 0] 196 (0, 0)) := heap_setCell_same _ g 12 _ _ _ h5
  have h7 : (((((((w.setCell ⟨g, 7, none⟩ (I b.a)).setCell ⟨g, 8, none⟩ (I b.b)).setCell ⟨g, 9, none⟩ (I b.c)).setCell ⟨g, 10, none⟩ (I b.d)).setCell ⟨g, 11, none⟩ (I m)).setCell ⟨g, 12, none⟩ (Sv x)).setCell ⟨g, 13, none⟩ (I 0)).heap[g]? = some (.cells #[I b0, I b1, I b2, I b3, I n, Sv D, .bool true, I b.a, I b.b, I b.c, I b.d, I m, Sv x, I 0, I 0, .slice none 0 0] 196 (0, 0)) := heap_setCell_same _ g 13 _ _ _ h6
  have h8 : ((((((((w.setCell ⟨g, 7, none⟩ (I b.a)).setCell ⟨g, 8, none⟩ (I b.b)).setCell ⟨g, 9, none⟩ (I b.c)).setCell ⟨g, 10, none⟩ (I b.d)).setCell ⟨g, 11, none⟩ (I m)).setCell ⟨g, 12, none⟩ (Sv x)).setCell ⟨g, 13, none⟩ (I 0)).setCell ⟨g, 14, none⟩ (I 0)).heap[g]? = some (.cells #[I b0, I b1, I b2, I b3, I n, Sv D, .bool true, I b.a, I b.b, I b.c, I b.d, I m, Sv x, I 0, I 0, .slice none 0 0] 196 (0, 0)) := heap_setCell_same _ g 14 _ _ _ h7
  have h9 : (((((((((w.setCell ⟨g, 7, none⟩ (I b.a)).setCell ⟨g, 8, none⟩ (I b.b)).setCell ⟨g, 9, none⟩ (I b.c)).setCell ⟨g, 10, none⟩ (I b.d)).setCell ⟨g, 11, none⟩ (I m)).setCell ⟨g, 12, none⟩ (Sv x)).setCell ⟨g, 13, none⟩ (I 0)).setCell ⟨g, 14, none⟩ (I 0)).setCell ⟨g, 15, none⟩ (v)).heap[g]? = some (.cells #[I b0, I b1, I b2, I b3, I n, Sv D, .bool true, I b.a, I b.b, I b.c, I b.d, I m, Sv x, I 0, I 0, v] 196 (0, 0)) := heap_setCell_same _ g 15 _ _ _ h8
  exact h9
theorem drop_getD {s : List UInt8} {i k : Nat} : (s.drop i).getD k 0 = s.getD (i + k) 0 := by
  rw [List.getD_eq_getElem?_getD, List.getD_eq_getElem?_getD, List.getElem?_drop]
set_option maxRecDepth 100000 in
set_option maxHeartbeats 8000000 in
theorem look_child (d dp : Nat) (hdp : dp + d = 6) (HP : PartRef d false) {w : World} {B l : Nat} {s : List UInt8} {i : Nat} {vL vK : Value} {L : List Ward.Pt} {K : List Ward.Chd} (h : LookAt w B l s i false vL vK L K) (hB : B ≤ w.heap.size) (hi : i ≤ s.length) (hs : s.length ≤ 140737488355328) (hL : L.length + Ward.room d ≤ 29000) (hK : K.length + (Ward.room d + 1) ≤ 29000) :
    Calls Tryz.prog 162 #[.pointer (some ⟨l, 0, none⟩), I dp] w (KidOut w B l s vL vK (L.length + Ward.room d) (K.length + (Ward.room d + 1)) (Ward.rdKid d (Ward.rdNode d false) (Ward.at' s i L) = none) (fun i' L' K' c => ∃ t, Ward.KidGood d s i L K t i' L' K' c)) := by
  have HH := hide h
  have hlt := h.lt
  have HNL := hide (show ¬ LS l vL vK (w.heap.size + 1) from h.new (by omega))
  have HA0 := hide (fun o o' => ((Below.refl w.heap.size w).alloc (Nat.le_refl _) o).alloc (by simp) o')
  have HN0 := hide (fun a b => And.intro (heap_alloc2_old w a b) (heap_alloc2_new w a b))
  have HHA := hide (fun W (hW : LookRow W l s i false vL vK) => has_ref l s i 53 false vL vK W hW hi hs)
  have HSG := hide (fun W j (hW : LookRow W l s j false vL vK) (hj : j + 4 ≤ s.length) => lsigned_ref l s j false vL vK W hW hj hs)
  clear h
  go_enter Tryz.func162, Tryz.ntmps162
  go_upto_region 2 with fail
  generalize hW : World.alloc (World.alloc w _) _ = w1
  have hb1 : Below w.heap.size w w1 := by rw [← hW]; exact HA0.out _ _
  have hr1 : ∃ z : Array Value, z.size = 16 ∧ w1.heap[w.heap.size]? = some (.cells z 196 (0, 0)) := by rw [← hW]; exact ⟨_, rfl, (HN0.out _ _).1⟩
  have hc1 : w1.heap[w.heap.size + 1]? = some (.cells #[I 0, I 0, I 0, I 0, I 0, Sv [], .bool false, I 0, I 0, I 0, I 0, I 0, Sv [], I 0, I 0, .slice none 0 0] 196 (0, 0)) := by rw [← hW]; exact (HN0.out _ _).2
  clear hW HA0 HN0
  have HS1 := hide (show KidSt w B l s i vL vK L K _ w1 from ⟨HH.out.below hb1, hc1, hr1, LookTo.below vL vK hb1⟩)
  have HC := hide (HHA.out w1 HS1.out.look.row)
  have hgs : w.heap.size + 1 < w1.heap.size := HS1.out.lt
  clear hb1 hr1 hc1 HHA
  go_wp2_with fail
  refine HC.out.mono ?_
  rintro _ w2 ⟨rfl, hrow2, hk2⟩
  rw [Bool.false_or] at hrow2 ⊢
  clear HC
  by_cases hc : s.length < i + 53
  · rw [decide_eq_true hc] at hrow2 ⊢
    have HF := hide (show Ward.rdKid d (Ward.rdNode d false) (Ward.at' s i L) = none from Ward.rdKid_short (by show (s.drop i).length < 53; rw [List.length_drop]; omega))
    have HL2 := hide (HS1.out.look.to hk2 hrow2)
    have HT2 := hide (HS1.out.tw.step hk2)
    have hgc := (hk2.block _ HS1.out.lt (by omega)).trans HS1.out.row
    obtain ⟨z, hz, hzr⟩ := HS1.out.res
    have hr2 := (hk2.block w.heap.size (by omega) (by omega)).trans hzr
    have hs2 := hk2.size
    have HNR := hide (show ¬ LS l vL vK w.heap.size from HH.out.new (Nat.le_refl _))
    clear hzr hrow2 hk2
    have hz0 := hz
    have HZ := hide hz
    have HR0 := hide hr2
    have HGC := hide (show w2.heap[w.heap.size + 1]? = some (.cells (kidV ⟨⟨0, 0, 0, 0⟩, 0, [], false, ⟨0, 0, 0, 0⟩, 0, []⟩ (.slice none 0 0)).toArray 196 (0, 0)) from hgc)
    clear hz hr2 hgc
    have HM9 := hide (show (kidV ⟨⟨0, 0, 0, 0⟩, 0, [], false, ⟨0, 0, 0, 0⟩, 0, []⟩ (.slice none 0 0)).toArray.size = 16 from rfl)
    have HM1 := hide (kidV_all ⟨⟨0, 0, 0, 0⟩, 0, [], false, ⟨0, 0, 0, 0⟩, 0, []⟩ (.slice none 0 0) rfl)
    have HPO := hide (show KidOut w B l s vL vK (L.length + Ward.room d) (K.length + (Ward.room d + 1)) (Ward.rdKid d (Ward.rdNode d false) (Ward.at' s i L) = none) (fun i' L' K' c => ∃ t, Ward.KidGood d s i L K t i' L' K' c) (.returned (.agg (kidV ⟨⟨0, 0, 0, 0⟩, 0, [], false, ⟨0, 0, 0, 0⟩, 0, []⟩ (.slice none 0 0)).toArray)) (w2.setRow w.heap.size (kidV ⟨⟨0, 0, 0, 0⟩, 0, [], false, ⟨0, 0, 0, 0⟩, 0, []⟩ (.slice none 0 0)).toArray) from kid_end ⟨⟨0, 0, 0, 0⟩, 0, [], false, ⟨0, 0, 0, 0⟩, 0, []⟩ _ rfl (by simp) (by decide) HL2.out HT2.out (HNR.out) hi (by omega) (by omega) (.inl ⟨rfl, HF.out⟩))
    generalize (kidV ⟨⟨0, 0, 0, 0⟩, 0, [], false, ⟨0, 0, 0, 0⟩, 0, []⟩ (.slice none 0 0)).toArray = M at *
    clear hz0
    go_wp2_with (first | (refine wpList_load_row rfl 196 (.tmp 5) rfl (w.heap.size + 1) rfl 196 M (0, 0) _ HGC.out Tryz.underlying196 rfl (by rw [HM9.out]; exact Tryz.infoKid) ?_) | (refine wpList_store_row rfl 196 (.tmp 4) (.tmp 14) rfl w.heap.size M rfl rfl 196 z HR0.out (by rw [HM9.out]; exact Tryz.infoKid) (by rw [HM9.out, HZ.out]) HM1.out ?_))
    refine bodyPost_ret (v := .agg M) ?_ rfl HPO.out
    exact results_cell_row rfl _ _ w.heap.size 196 M (0, 0) _ rfl (setRow_heap _ _ _ _ _ _ HR0.out) Tryz.underlying196 rfl (by rw [HM9.out]; exact Tryz.infoKid)
  · rw [decide_eq_false hc] at hrow2 ⊢
    have HS2 := hide (HS1.out.moved hlt hrow2 hk2)
    clear hrow2 hk2 HS1
    have hlen : i + 53 ≤ s.length := by omega
    clear hc
    obtain ⟨n0, hn0⟩ : ∃ n, Ward.signed (Sha.word s (i)) = n := ⟨_, rfl⟩
    have HN0 := hide (show Ward.numAt (s.drop i) 0 = n0 by rw [kid_num]; exact hn0)
    have HB0 := hide (show -2147483648 ≤ n0 ∧ n0 < 2147483648 by rw [← hn0]; exact signed_small _ (Ward.word_lt _ _))
    have C0 := hide (HSG.out w2 (i) HS2.out.look.row (by omega))
    rw [hn0] at C0
    clear hn0
    go_wp2_with fail
    refine C0.out.mono ?_
    rintro _ a0 ⟨rfl, hrow, hk⟩
    have HA0 := hide (HS2.out.moved hlt hrow hk)
    have q0 : a0.cell? ⟨w.heap.size + 1, 0, none⟩ = some (I 0) := row_cell HA0.out.row rfl
    have qf : a0.frozen? ⟨w.heap.size + 1, 0, none⟩ = false := frozen_of_row _ _ _ _ _ HA0.out.row
    clear hrow hk C0 HS2
    go_upto_region 6 with fail
    have HU0 : Hid (KidSt w B l s (i + 4) vL vK L K #[I n0, I 0, I 0, I 0, I 0, Sv [], .bool false, I 0, I 0, I 0, I 0, I 0, Sv [], I 0, I 0, .slice none 0 0] (a0.setCell ⟨w.heap.size + 1, 0, none⟩ (I n0))) := hide (HA0.out.wrote HNL.out 0 (I n0))
    generalize a0.setCell ⟨w.heap.size + 1, 0, none⟩ (I n0) = u0 at HU0 ⊢
    clear q0 qf HA0
    obtain ⟨n1, hn1⟩ : ∃ n, Ward.signed (Sha.word s (i + 4)) = n := ⟨_, rfl⟩
    have HN1 := hide (show Ward.numAt (s.drop i) 1 = n1 by rw [kid_num]; exact hn1)
    have HB1 := hide (show -2147483648 ≤ n1 ∧ n1 < 2147483648 by rw [← hn1]; exact signed_small _ (Ward.word_lt _ _))
    have C1 := hide (HSG.out u0 (i + 4) HU0.out.look.row (by omega))
    rw [hn1] at C1
    clear hn1
    go_wp2_with fail
    refine C1.out.mono ?_
    rintro _ a1 ⟨rfl, hrow, hk⟩
    have HA1 := hide (HU0.out.moved hlt hrow hk)
    have q0 : a1.cell? ⟨w.heap.size + 1, 1, none⟩ = some (I 0) := row_cell HA1.out.row rfl
    have qf : a1.frozen? ⟨w.heap.size + 1, 1, none⟩ = false := frozen_of_row _ _ _ _ _ HA1.out.row
    clear hrow hk C1 HU0
    go_upto_region 7 with fail
    have HU1 : Hid (KidSt w B l s (i + 8) vL vK L K #[I n0, I n1, I 0, I 0, I 0, Sv [], .bool false, I 0, I 0, I 0, I 0, I 0, Sv [], I 0, I 0, .slice none 0 0] (a1.setCell ⟨w.heap.size + 1, 1, none⟩ (I n1))) := hide (HA1.out.wrote HNL.out 1 (I n1))
    generalize a1.setCell ⟨w.heap.size + 1, 1, none⟩ (I n1) = u1 at HU1 ⊢
    clear q0 qf HA1
    obtain ⟨n2, hn2⟩ : ∃ n, Ward.signed (Sha.word s (i + 8)) = n := ⟨_, rfl⟩
    have HN2 := hide (show Ward.numAt (s.drop i) 2 = n2 by rw [kid_num]; exact hn2)
    have HB2 := hide (show -2147483648 ≤ n2 ∧ n2 < 2147483648 by rw [← hn2]; exact signed_small _ (Ward.word_lt _ _))
    have C2 := hide (HSG.out u1 (i + 8) HU1.out.look.row (by omega))
    rw [hn2] at C2
    clear hn2
    go_wp2_with fail
    refine C2.out.mono ?_
    rintro _ a2 ⟨rfl, hrow, hk⟩
    have HA2 := hide (HU1.out.moved hlt hrow hk)
    have q0 : a2.cell? ⟨w.heap.size + 1, 2, none⟩ = some (I 0) := row_cell HA2.out.row rfl
    have qf : a2.frozen? ⟨w.heap.size + 1, 2, none⟩ = false := frozen_of_row _ _ _ _ _ HA2.out.row
    clear hrow hk C2 HU1
    go_upto_region 8 with fail
    have HU2 : Hid (KidSt w B l s (i + 12) vL vK L K #[I n0, I n1, I n2, I 0, I 0, Sv [], .bool false, I 0, I 0, I 0, I 0, I 0, Sv [], I 0, I 0, .slice none 0 0] (a2.setCell ⟨w.heap.size + 1, 2, none⟩ (I n2))) := hide (HA2.out.wrote HNL.out 2 (I n2))
    generalize a2.setCell ⟨w.heap.size + 1, 2, none⟩ (I n2) = u2 at HU2 ⊢
    clear q0 qf HA2
    obtain ⟨n3, hn3⟩ : ∃ n, Ward.signed (Sha.word s (i + 12)) = n := ⟨_, rfl⟩
    have HN3 := hide (show Ward.numAt (s.drop i) 3 = n3 by rw [kid_num]; exact hn3)
    have HB3 := hide (show -2147483648 ≤ n3 ∧ n3 < 2147483648 by rw [← hn3]; exact signed_small _ (Ward.word_lt _ _))
    have C3 := hide (HSG.out u2 (i + 12) HU2.out.look.row (by omega))
    rw [hn3] at C3
    clear hn3
    go_wp2_with fail
    refine C3.out.mono ?_
    rintro _ a3 ⟨rfl, hrow, hk⟩
    have HA3 := hide (HU2.out.moved hlt hrow hk)
    have q0 : a3.cell? ⟨w.heap.size + 1, 3, none⟩ = some (I 0) := row_cell HA3.out.row rfl
    have qf : a3.frozen? ⟨w.heap.size + 1, 3, none⟩ = false := frozen_of_row _ _ _ _ _ HA3.out.row
    clear hrow hk C3 HU2
    go_upto_region 9 with fail
    have HU3 : Hid (KidSt w B l s (i + 16) vL vK L K #[I n0, I n1, I n2, I n3, I 0, Sv [], .bool false, I 0, I 0, I 0, I 0, I 0, Sv [], I 0, I 0, .slice none 0 0] (a3.setCell ⟨w.heap.size + 1, 3, none⟩ (I n3))) := hide (HA3.out.wrote HNL.out 3 (I n3))
    generalize a3.setCell ⟨w.heap.size + 1, 3, none⟩ (I n3) = u3 at HU3 ⊢
    clear q0 qf HA3
    obtain ⟨n4, hn4⟩ : ∃ n, Ward.signed (Sha.word s (i + 16)) = n := ⟨_, rfl⟩
    have HN4 := hide (show Ward.numAt (s.drop i) 4 = n4 by rw [kid_num]; exact hn4)
    have HB4 := hide (show -2147483648 ≤ n4 ∧ n4 < 2147483648 by rw [← hn4]; exact signed_small _ (Ward.word_lt _ _))
    have C4 := hide (HSG.out u3 (i + 16) HU3.out.look.row (by omega))
    rw [hn4] at C4
    clear hn4
    go_wp2_with fail
    refine C4.out.mono ?_
    rintro _ a4 ⟨rfl, hrow, hk⟩
    have HA4 := hide (HU3.out.moved hlt hrow hk)
    have q0 : a4.cell? ⟨w.heap.size + 1, 4, none⟩ = some (I 0) := row_cell HA4.out.row rfl
    have qf : a4.frozen? ⟨w.heap.size + 1, 4, none⟩ = false := frozen_of_row _ _ _ _ _ HA4.out.row
    clear hrow hk C4 HU3
    go_upto_region 10 with fail
    have HU4 : Hid (KidSt w B l s (i + 20) vL vK L K #[I n0, I n1, I n2, I n3, I n4, Sv [], .bool false, I 0, I 0, I 0, I 0, I 0, Sv [], I 0, I 0, .slice none 0 0] (a4.setCell ⟨w.heap.size + 1, 4, none⟩ (I n4))) := hide (HA4.out.wrote HNL.out 4 (I n4))
    generalize a4.setCell ⟨w.heap.size + 1, 4, none⟩ (I n4) = u4 at HU4 ⊢
    clear q0 qf HA4
    obtain ⟨p, hp⟩ : ∃ p, i + 20 = p := ⟨_, rfl⟩
    rw [hp] at HU4
    have hpl : p + 33 ≤ s.length := by omega
    have HPI := hide hp
    clear hp
    obtain ⟨D, hD⟩ : ∃ D, (s.drop p).take 32 = D := ⟨_, rfl⟩
    have HDE := hide (show ((s.drop i).drop 20).take 32 = D by rw [List.drop_drop, HPI.out]; exact hD)
    have hDl : D.length = 32 := by rw [← hD, List.length_take, List.length_drop]; omega
    have hsl := fun W => slice_at s p (p + 32) (by omega) (by omega) W
    rw [Nat.add_sub_cancel_left, hD, show ((p + 32 : Nat) : Int) = (p : Int) + 32 by omega] at hsl
    clear hD
    have y0 : u4.cell? ⟨l, 0, none⟩ = some (Sv s) := row_cell HU4.out.look.row rfl
    have y1 : u4.cell? ⟨l, 1, none⟩ = some (I p) := row_cell HU4.out.look.row rfl
    have q0 : u4.cell? ⟨w.heap.size + 1, 5, none⟩ = some (Sv []) := row_cell HU4.out.row rfl
    have qf : u4.frozen? ⟨w.heap.size + 1, 5, none⟩ = false := frozen_of_row _ _ _ _ _ HU4.out.row
    have hwp : IntKind.i64.wrap ((p : Int) + 32) = (p : Int) + 32 := by rw [IntKind.wrap_i64]; omega
    go_cut [] from 34 to 48 (fun wx => ∃ k, wx = (u4.setCell ⟨w.heap.size + 1, 5, none⟩ (Sv D)).drewN k)
    case first =>
      have hS : u4.cell? ⟨l, 0, none⟩ = some (Sv s) ∧ u4.cell? ⟨l, 1, none⟩ = some (I p) := ⟨y0, y1⟩
      have x0 : (u4.setCell ⟨w.heap.size + 1, 5, none⟩ (Sv D)).cell? ⟨l, 0, none⟩ = some (Sv s) := (World.cell?_of_block (a := ⟨l, 0, none⟩) (heap_setCell_other u4 ⟨w.heap.size + 1, 5, none⟩ l (Sv D) (by show l ≠ w.heap.size + 1; omega))).trans y0
      have x1 : (u4.setCell ⟨w.heap.size + 1, 5, none⟩ (Sv D)).cell? ⟨l, 1, none⟩ = some (I p) := (World.cell?_of_block (a := ⟨l, 1, none⟩) (heap_setCell_other u4 ⟨w.heap.size + 1, 5, none⟩ l (Sv D) (by show l ≠ w.heap.size + 1; omega))).trans y1
      go_region_held3 (fun W => W.cell? ⟨l, 0, none⟩ = some (Sv s) ∧ W.cell? ⟨l, 1, none⟩ = some (I p)) (first | assumption | exact hS | exact ⟨by simpa using y0, by simpa using y1⟩ | exact ⟨by simpa using x0, by simpa using x1⟩) (fail)
      all_goals
        go_wp2_with fail
        go_meet
        exact ⟨_, rfl⟩
    case rest =>
      obtain ⟨kk, rfl⟩ := hcut
      have HU5 := hide (show KidSt w B l s p vL vK L K #[I n0, I n1, I n2, I n3, I n4, Sv D, .bool false, I 0, I 0, I 0, I 0, I 0, Sv [], I 0, I 0, .slice none 0 0] ((u4.setCell ⟨w.heap.size + 1, 5, none⟩ (Sv D)).drewN kk) from (HU4.out.wrote HNL.out 5 (Sv D)).below (by exact ⟨rfl, rfl, rfl, Nat.le_refl _, fun _ _ => rfl⟩))
      generalize (u4.setCell ⟨w.heap.size + 1, 5, none⟩ (Sv D)).drewN kk = u5 at HU5 ⊢
      clear y0 y1 q0 qf hsl HU4
      have y0 : u5.cell? ⟨l, 0, none⟩ = some (Sv s) := row_cell HU5.out.look.row rfl
      have y1 : u5.cell? ⟨l, 1, none⟩ = some (I p) := row_cell HU5.out.look.row rfl
      have hsz : (⟨s.toArray⟩ : ByteArray).size = s.length := by show s.toArray.size = _; rw [List.size_toArray]
      have hix := idx_str ⟨s.toArray⟩ ((p : Int) + 32) (p + 32) (by omega) (by rw [hsz]; omega)
      obtain ⟨fl, hfl⟩ : ∃ fl, Sha.byteAt s (p + 32) = fl := ⟨_, rfl⟩
      have HFL := hide (show ((s.drop i).getD 52 0).toNat = fl by rw [drop_getD, show i + 52 = p + 32 by have := HPI.out; omega]; exact hfl)
      have hfb : fl < 256 := by rw [← HFL.out]; exact UInt8.toNat_lt _
      rw [show (⟨s.toArray⟩ : ByteArray).data.toList = s from rfl, hfl] at hix
      clear hfl
      go_upto_region 11 with fail
      go_quiet (fail)
      go_upto_region 12 with fail
      have HU6 := hide (HU5.out.below (w' := u5.drewN nq) ⟨rfl, rfl, rfl, Nat.le_refl _, fun _ _ => rfl⟩)
      generalize u5.drewN nq = u6 at HU6 ⊢
      clear y0 y1 hix HU5
      have y1 : u6.cell? ⟨l, 1, none⟩ = some (I p) := row_cell HU6.out.look.row rfl
      have yf : u6.frozen? ⟨l, 1, none⟩ = false := frozen_of_row _ _ _ _ _ HU6.out.look.row
      go_upto_region 13 with fail
      have HU7 := hide (HU6.out.moved hlt (HU6.out.look.placeTo (p + 33)).1.row (HU6.out.look.placeTo (p + 33)).2)
      rw [show ((p + 33 : Nat) : Int) = (p : Int) + 33 by omega] at HU7
      generalize u6.setCell ⟨l, 1, none⟩ (.int .i64 ((p : Int) + 33)) = u7 at HU7 ⊢
      clear y1 yf HU6
      have c0 : u7.cell? ⟨w.heap.size + 1, 0, none⟩ = some (I n0) := row_cell HU7.out.row rfl
      have c1 : u7.cell? ⟨w.heap.size + 1, 1, none⟩ = some (I n1) := row_cell HU7.out.row rfl
      have c2 : u7.cell? ⟨w.heap.size + 1, 2, none⟩ = some (I n2) := row_cell HU7.out.row rfl
      have c3 : u7.cell? ⟨w.heap.size + 1, 3, none⟩ = some (I n3) := row_cell HU7.out.row rfl
      have c4 : u7.cell? ⟨w.heap.size + 1, 4, none⟩ = some (I n4) := row_cell HU7.out.row rfl
      have HGD := hide (show (Ward.boxMay (Ward.Nd.box (Ward.headN d (s.drop i))) && decide (1 ≤ Ward.Nd.n (Ward.headN d (s.drop i))) && decide (Ward.Nd.n (Ward.headN d (s.drop i)) ≤ 150)) = ((Ward.coordOk n0 && Ward.coordOk n1) && (Ward.coordOk n2 && Ward.coordOk n3) && decide (n0 ≤ n2) && decide (n1 ≤ n3) && decide (1 ≤ n4) && decide (n4 ≤ 150)) by
        rw [(Ward.headN_said d (s.drop i)).1, (Ward.headN_said d (s.drop i)).2.1, HN0.out, HN1.out, HN2.out, HN3.out, HN4.out]
        unfold Ward.boxMay
        simp only [Bool.and_assoc])
      have K0 := hide (coord_ref n0 u7)
      have K1 := hide (coord_ref n1 u7)
      have K2 := hide (coord_ref n2 u7)
      have K3 := hide (coord_ref n3 u7)
      generalize Ward.coordOk n0 = b0 at *
      generalize Ward.coordOk n1 = b1 at *
      generalize Ward.coordOk n2 = b2 at *
      generalize Ward.coordOk n3 = b3 at *
      go_cut [8] from 67 to 76 (fun v8 wx => v8 = .bool (b0 && b1) ∧ wx = u7)
      case first =>
        cases b0
        · go_wp2_with fail
          refine K0.out.mono ?_
          rintro _ wz ⟨rfl, hz⟩
          rw [hz]; clear hz
          go_wp2_with fail
          go_meet
          exact ⟨rfl, rfl⟩
        · go_wp2_with fail
          refine K0.out.mono ?_
          rintro _ wz ⟨rfl, hz⟩
          rw [hz]; clear hz
          go_wp2_with fail
          refine K1.out.mono ?_
          rintro _ wz ⟨rfl, hz⟩
          rw [hz]; clear hz
          go_wp2_with fail
          go_meet
          exact ⟨by simp, rfl⟩
      case rest =>
        obtain ⟨rfl, hwc⟩ := hcut
        rw [hwc]
        clear hwc K0 K1
        go_upto_region 14 with fail
        go_cut [9] from 77 to 86 (fun v9 wx => v9 = .bool (b2 && b3) ∧ wx = u7)
        case first =>
          cases b2
          · go_wp2_with fail
            refine K2.out.mono ?_
            rintro _ wz ⟨rfl, hz⟩
            rw [hz]; clear hz
            go_wp2_with fail
            go_meet
            exact ⟨rfl, rfl⟩
          · go_wp2_with fail
            refine K2.out.mono ?_
            rintro _ wz ⟨rfl, hz⟩
            rw [hz]; clear hz
            go_wp2_with fail
            refine K3.out.mono ?_
            rintro _ wz ⟨rfl, hz⟩
            rw [hz]; clear hz
            go_wp2_with fail
            go_meet
            exact ⟨by simp, rfl⟩
        case rest =>
          obtain ⟨rfl, hwc⟩ := hcut
          rw [hwc]
          clear hwc K2 K3
          go_upto_region 15 with fail
          generalize (b0 && b1) = bp at *
          generalize (b2 && b3) = bq at *
          have HGE := hide (show ∃ G, (bp && bq && decide (n0 ≤ n2) && decide (n1 ≤ n3) && decide (1 ≤ n4) && decide (n4 ≤ 150) && decide (fl ≤ 1)) = G from ⟨_, rfl⟩)
          obtain ⟨G, hG⟩ := HGE.out
          have HG := hide hG
          clear HGE hG
          go_cut [124] from 87 to 124 (fun v124 wx => v124 = .bool (!G) ∧ wx = u7)
          case first =>
            cases bp with
            | false =>
              have HE := hide (show G = false by rw [← HG.out]; simp)
              go_wp2_with fail
              go_meet
              rw [HE.out]; exact ⟨rfl, rfl⟩
            | true =>
              cases bq with
              | false =>
                have HE := hide (show G = false by rw [← HG.out]; simp)
                go_wp2_with fail
                go_meet
                rw [HE.out]; exact ⟨rfl, rfl⟩
              | true =>
                by_cases e0 : n2 < n0
                · have HE := hide (show G = false by rw [← HG.out, decide_eq_false (show ¬ n0 ≤ n2 by omega)]; simp)
                  go_wp2_with fail
                  go_meet
                  rw [HE.out]; exact ⟨rfl, rfl⟩
                · have f0 : n0 ≤ n2 := by omega
                  by_cases e1 : n3 < n1
                  · have HE := hide (show G = false by rw [← HG.out, decide_eq_false (show ¬ n1 ≤ n3 by omega)]; simp)
                    go_wp2_with fail
                    go_meet
                    rw [HE.out]; exact ⟨rfl, rfl⟩
                  · have f1 : n1 ≤ n3 := by omega
                    by_cases e2 : n4 < 1
                    · have HE := hide (show G = false by rw [← HG.out, decide_eq_false (show ¬ 1 ≤ n4 by omega)]; simp)
                      go_wp2_with fail
                      go_meet
                      rw [HE.out]; exact ⟨rfl, rfl⟩
                    · have f2 : 1 ≤ n4 := by omega
                      by_cases e3 : 150 < n4
                      · have HE := hide (show G = false by rw [← HG.out, decide_eq_false (show ¬ n4 ≤ 150 by omega)]; simp)
                        go_wp2_with fail
                        go_meet
                        rw [HE.out]; exact ⟨rfl, rfl⟩
                      · have f3 : n4 ≤ 150 := by omega
                        by_cases e5 : 1 < fl
                        · have HE := hide (show G = false by rw [← HG.out, decide_eq_false (show ¬ fl ≤ 1 by omega)]; simp)
                          have e5' : (1 : Int) < (fl : Int) := by omega
                          go_wp2_with fail
                          go_meet
                          rw [HE.out]; exact ⟨rfl, rfl⟩
                        · have HE := hide (show G = true by rw [← HG.out, decide_eq_true f0, decide_eq_true f1, decide_eq_true f2, decide_eq_true f3, decide_eq_true (show fl ≤ 1 by omega)]; rfl)
                          have e5' : ¬ (1 : Int) < (fl : Int) := by omega
                          go_wp2_with fail
                          go_meet
                          rw [HE.out]; exact ⟨rfl, rfl⟩
          case rest =>
            obtain ⟨rfl, hwc⟩ := hcut
            rw [hwc]
            clear hwc
            cases G with
            | false =>
              have HF := hide (show Ward.rdKid d (Ward.rdNode d false) (Ward.at' s i L) = none from Ward.rdKid_bad (s := Ward.at' s i L) (by show 53 ≤ (s.drop i).length; rw [List.length_drop]; omega) (by
                rcases Bool.and_eq_false_iff.1 HG.out with h | h
                · left
                  show (Ward.boxMay (Ward.Nd.box (Ward.headN d (s.drop i))) && decide (1 ≤ Ward.Nd.n (Ward.headN d (s.drop i))) && decide (Ward.Nd.n (Ward.headN d (s.drop i)) ≤ 150)) = false
                  rw [HGD.out]
                  exact h
                · right
                  show 1 < ((s.drop i).getD 52 0).toNat
                  rw [HFL.out]
                  have := of_decide_eq_false h
                  omega))
              have y2 : u7.cell? ⟨l, 2, none⟩ = some (.bool false) := row_cell HU7.out.look.row rfl
              have yf : u7.frozen? ⟨l, 2, none⟩ = false := frozen_of_row _ _ _ _ _ HU7.out.look.row
              go_upto_region 17 with fail
              have HB8 := hide (HU7.out.look.badTo true)
              have HT8 := hide (HU7.out.tw.step HB8.out.2)
              have hs7 := HU7.out.lt
              obtain ⟨z, hz, hzr⟩ := HU7.out.res
              have HR0 := hide ((HB8.out.2.block w.heap.size (by omega) (by omega)).trans hzr)
              have HGC := hide (show (u7.setCell ⟨l, 2, none⟩ (.bool true)).heap[w.heap.size + 1]? = some (.cells (kidV ⟨⟨n0, n1, n2, n3⟩, n4, D, false, ⟨0, 0, 0, 0⟩, 0, []⟩ (.slice none 0 0)).toArray 196 (0, 0)) from (HB8.out.2.block (w.heap.size + 1) (by omega) (by omega)).trans HU7.out.row)
              generalize u7.setCell ⟨l, 2, none⟩ (.bool true) = u8 at *
              have HNR := hide (show ¬ LS l vL vK w.heap.size from HH.out.new (Nat.le_refl _))
              have hz0 := hz
              have HZ := hide hz
              clear hz hzr y2 yf c0 c1 c2 c3 c4
              have HM9 := hide (show (kidV ⟨⟨n0, n1, n2, n3⟩, n4, D, false, ⟨0, 0, 0, 0⟩, 0, []⟩ (.slice none 0 0)).toArray.size = 16 from rfl)
              have HM1 := hide (kidV_all ⟨⟨n0, n1, n2, n3⟩, n4, D, false, ⟨0, 0, 0, 0⟩, 0, []⟩ (.slice none 0 0) rfl)
              have HPO := hide (show KidOut w B l s vL vK (L.length + Ward.room d) (K.length + (Ward.room d + 1)) (Ward.rdKid d (Ward.rdNode d false) (Ward.at' s i L) = none) (fun i' L' K' c => ∃ t, Ward.KidGood d s i L K t i' L' K' c) (.returned (.agg (kidV ⟨⟨n0, n1, n2, n3⟩, n4, D, false, ⟨0, 0, 0, 0⟩, 0, []⟩ (.slice none 0 0)).toArray)) (u8.setRow w.heap.size (kidV ⟨⟨n0, n1, n2, n3⟩, n4, D, false, ⟨0, 0, 0, 0⟩, 0, []⟩ (.slice none 0 0)).toArray) from kid_end ⟨⟨n0, n1, n2, n3⟩, n4, D, false, ⟨0, 0, 0, 0⟩, 0, []⟩ _ rfl (by show D.length ≤ 32; omega) HB4.out HB8.out.1 HT8.out HNR.out (by omega) (by omega) (by omega) (.inl ⟨rfl, HF.out⟩))
              generalize (kidV ⟨⟨n0, n1, n2, n3⟩, n4, D, false, ⟨0, 0, 0, 0⟩, 0, []⟩ (.slice none 0 0)).toArray = M at *
              clear hz0
              go_wp2_with (first | (refine wpList_load_row rfl 196 (.tmp 5) rfl (w.heap.size + 1) rfl 196 M (0, 0) _ HGC.out Tryz.underlying196 rfl (by rw [HM9.out]; exact Tryz.infoKid) ?_) | (refine wpList_store_row rfl 196 (.tmp 4) (.tmp 128) rfl w.heap.size M rfl rfl 196 z HR0.out (by rw [HM9.out]; exact Tryz.infoKid) (by rw [HM9.out, HZ.out]) HM1.out ?_))
              refine bodyPost_ret (v := .agg M) ?_ rfl HPO.out
              exact results_cell_row rfl _ _ w.heap.size 196 M (0, 0) _ rfl (setRow_heap _ _ _ _ _ _ HR0.out) Tryz.underlying196 rfl (by rw [HM9.out]; exact Tryz.infoKid)
            | true =>
              have HGT := hide (show (Ward.boxMay (Ward.Nd.box (Ward.headN d (s.drop i))) && decide (1 ≤ Ward.Nd.n (Ward.headN d (s.drop i))) && decide (Ward.Nd.n (Ward.headN d (s.drop i)) ≤ 150)) = true by
                rw [HGD.out]
                exact (Bool.and_eq_true_iff.1 HG.out).1)
              have hf1 : fl ≤ 1 := of_decide_eq_true (Bool.and_eq_true_iff.1 HG.out).2
              have HL53 := hide (show 53 ≤ (Ward.at' s i L).1.length by show 53 ≤ (s.drop i).length; rw [List.length_drop]; omega)
              have HDR := hide (show ((Ward.at' s i L).1.drop 53, (Ward.at' s i L).2) = Ward.at' s (p + 33) L by
                show ((s.drop i).drop 53, (L.map Ward.Pt.id).reverse) = (s.drop (p + 33), (L.map Ward.Pt.id).reverse)
                rw [List.drop_drop, show i + 53 = p + 33 by have := HPI.out; omega])
              clear c0 c1 c2 c3 c4
              go_upto_if 130 with fail
              go_cut [] from 129 to 136 (fun wx => ∃ c x vL' vK' L' K' j bad, KidCut d w B l s i vL vK L K wx c x vL' vK' L' K' j bad)
              case first =>
                by_cases hf : fl = 1
                · subst hf
                  have q6 : u7.cell? ⟨w.heap.size + 1, 6, none⟩ = some (.bool false) := row_cell HU7.out.row rfl
                  have qf : u7.frozen? ⟨w.heap.size + 1, 6, none⟩ = false := frozen_of_row _ _ _ _ _ HU7.out.row
                  have HU8 : Hid (KidSt w B l s (p + 33) vL vK L K #[I n0, I n1, I n2, I n3, I n4, Sv D, .bool true, I 0, I 0, I 0, I 0, I 0, Sv [], I 0, I 0, .slice none 0 0] (u7.setCell ⟨w.heap.size + 1, 6, none⟩ (.bool true))) := hide (HU7.out.wrote HNL.out 6 (.bool true))
                  go_upto_region 20 with fail
                  generalize u7.setCell ⟨w.heap.size + 1, 6, none⟩ (.bool true) = u8 at HU8 ⊢
                  have hs8 := HU8.out.lt
                  have HPC := hide (HP (dp + 1) u8 B l s (p + 33) vL vK L K (by omega) HU8.out.look (by omega) hpl hs hL (by omega))
                  rw [show ((dp + 1 : Nat) : Int) = (dp : Int) + 1 by omega] at HPC
                  clear q6 qf HU7
                  go_wp2_with fail
                  refine HPC.out.mono ?_
                  rintro e u9 ⟨b, m, x, v, vL', vK', L', K', j, bad, rfl, hv, hx, hl9, ht9, hj, h1, h2, h3⟩
                  have hg9 := (ht9.keeps.block (w.heap.size + 1) hs8 HNL.out).trans HU8.out.row
                  have HG9 := hide hg9
                  have HTH := hide (there_mid (o := 7) (n := 9) hg9 (Nat.le_refl 16))
                  have HKC := hide (show KidCut d w B l s i vL vK L K (u9.setCells (w.heap.size + 1) 7 (partV b m x 0 0 v).toList) ⟨⟨n0, n1, n2, n3⟩, n4, D, true, b, m, x⟩ v vL' vK' L' K' j bad from by
                    have kk := keeps_cellsTo (w.heap.size + 1) (partV b m x 0 0 v).toList 7 u9
                    have nr : ∀ g, w.heap.size ≤ g → g < u8.heap.size → ¬ LS l vL' vK' g := fun g hg hg2 e => by
                      rcases e with e | e | e
                      · omega
                      · rcases ht9.fl g e with e | e
                        · exact HH.out.new hg (.inr (.inl e))
                        · omega
                      · rcases ht9.fk g e with e | e
                        · exact HH.out.new hg (.inr (.inr e))
                        · omega
                    obtain ⟨z, hz, hzr⟩ := HU8.out.res
                    have n1' := nr (w.heap.size + 1) (by omega) hs8
                    have hr9 := (ht9.keeps.block w.heap.size (by omega) (HH.out.new (Nat.le_refl _))).trans hzr
                    have hsz9 := ht9.keeps.size
                    refine ⟨kid_shown HG9.out b m x v, ⟨z, hz, (kk.block w.heap.size (by omega) (by omega)).trans hr9⟩, hv, by show D.length ≤ 32; omega, HB4.out, hl9.keep kk (fun g hg e => n1' (e ▸ hg)), (HU8.out.tw.trans ht9).more kk (fun g hg e => by omega), nr _ (Nat.le_refl _) (by omega), n1', hj, h1, h2, ?_⟩
                    have hone : (Ward.at' s i L).1.getD 52 0 = 1 := by
                      show (s.drop i).getD 52 0 = 1
                      exact UInt8.toNat_inj.1 HFL.out
                    rcases h3 with ⟨e, h3⟩ | ⟨e, t, g⟩
                    · refine .inl ⟨e, ?_⟩
                      rw [Ward.rdKid_shown HL53.out HGT.out hone, HDR.out, h3]
                    · have hb : Ward.rdNode d false ((Ward.at' s i L).1.drop 53, (Ward.at' s i L).2) = some (t, Ward.at' s j L') := by rw [HDR.out]; exact g.rd
                      refine .inr ⟨e, Ward.withN d (Ward.headN d (s.drop i)) t, Ward.rdKid_with HL53.out HGT.out hone hb, ?_, ?_, ?_⟩
                      · rw [Ward.all_with]; exact g.pts
                      · rw [Ward.post_with]; exact g.kids
                      · rw [Ward.chd_shown g.rd, HN0.out, HN1.out, HN2.out, HN3.out, HN4.out, HDE.out, g.box, g.num, g.text])
                  have HP9 := hide (show (partV b m x 0 0 v).size = 9 from rfl)
                  have HP1 := hide (partV_one b m x 0 0 v hv)
                  generalize partV b m x 0 0 v = M at *
                  clear hg9 hl9 ht9 h1 h2 h3 hx
                  go_wp2_with (refine wpList_store_mid rfl 150 (.tmp 136) (.tmp 135) rfl (w.heap.size + 1) 7 M rfl rfl (by rw [HP9.out]; exact HTH.out) (by rw [HP9.out]; exact Tryz.infoPart) HP1.out ?_)
                  go_meet
                  exact ⟨_, _, _, _, _, _, _, _, HKC.out⟩
                · have hf0 : fl = 0 := by omega
                  subst hf0
                  have HKC := hide (show KidCut d w B l s i vL vK L K u7 ⟨⟨n0, n1, n2, n3⟩, n4, D, false, ⟨0, 0, 0, 0⟩, 0, []⟩ (.slice none 0 0) vL vK L K (p + 33) false from by
                    refine ⟨HU7.out.row, HU7.out.res, rfl, by show D.length ≤ 32; omega, HB4.out, HU7.out.look, HU7.out.tw, HH.out.new (Nat.le_refl _), HNL.out, by omega, by omega, by omega, .inr ⟨rfl, Ward.headN d (s.drop i), ?_, ?_, ?_, ?_⟩⟩
                    · have h0 : (Ward.at' s i L).1.getD 52 0 = 0 := by
                        show (s.drop i).getD 52 0 = 0
                        exact UInt8.toNat_inj.1 HFL.out
                      rw [Ward.rdKid_hidden HL53.out HGT.out h0, HDR.out]
                      rfl
                    · rw [Ward.all_head, List.append_nil]
                    · rw [Ward.post_hidden, List.append_nil]
                    · rw [Ward.chd_hidden, HN0.out, HN1.out, HN2.out, HN3.out, HN4.out, HDE.out])
                  go_wp2_with fail
                  go_meet
                  exact ⟨_, _, _, _, _, _, _, _, HKC.out⟩
              case rest =>
                obtain ⟨c, x, vL', vK', L', K', j, bad, hkc⟩ := hcut
                have HKC := hide hkc
                obtain ⟨aK, cK, eK⟩ := hkc.look.kids.slice
                subst eK
                have hwx : w.heap.size + 1 < wc.heap.size := (Array.getElem?_eq_some_iff.1 hkc.row).1
                have k4 : wc.cell? ⟨l, 4, none⟩ = some (.slice aK K'.length cK) := row_cell hkc.look.row rfl
                have hrg : wc.rangeAt (w.heap.size + 1) 0 (kidV c x) := fun k v hv => by
                  rw [cell_of_row _ _ _ _ _ _ hkc.row, Nat.zero_add, List.getElem?_toArray]
                  exact hv
                have hLd := hkc.look.below (w' := wc.drew) ((Below.refl _ _).drew)
                have hlK := hkc.lK
                obtain ⟨v', w4, hr, ho, hg, hf⟩ := append_kid (w := wc.drew) c x hkc.one hLd.kids (by show B ≤ wc.heap.size; omega) (by omega)
                obtain ⟨a', c', ev⟩ := ho.slice
                rw [List.length_append, List.length_singleton] at ev
                subst ev
                have hr' : (Builtin.append_ #[191, 191] 191 #[.slice aK K'.length cK, .slice (some ⟨wc.heap.size, 0, none⟩) 1 1]).run Tryz.prog ((wc.alloc (.cells (kidV c x).toArray 196)).drew) = .ok (.slice a' (K'.length + 1) c') w4 := hr
                have HPT := hide (hLd.kidded hg ho hf)
                have hle : l < wc.heap.size := by omega
                have e1 : w4.heap[l]? = wc.heap[l]? := hg.block l hle (fun e => hLd.apartK e.symm)
                have e2 : w4.heap[w.heap.size + 1]? = wc.heap[w.heap.size + 1]? := hg.block (w.heap.size + 1) hwx (fun e => HKC.out.n1 (.inr (.inr e.symm)))
                have f4 : w4.frozen? ⟨l, 4, none⟩ = false := frozen_of_row _ _ _ _ _ (e1.trans hLd.row)
                have g4 : w4.cell? ⟨l, 4, none⟩ = some (.slice aK K'.length cK) := (World.cell?_of_block (a := ⟨l, 4, none⟩) e1).trans k4
                have H9 := hide (show ((wc.alloc (.cells (kidV c x).toArray 196)).drew).cell? ⟨l, 4, none⟩ = some (.slice aK K'.length cK) ∧ ((wc.alloc (.cells (kidV c x).toArray 196)).drew).rangeAt (w.heap.size + 1) 0 (kidV c x) from by
                  have hb := ((Below.refl wc.heap.size wc).alloc (Nat.le_refl _) (.cells (kidV c x).toArray 196)).drew
                  exact ⟨(hb.cell (p := ⟨l, 4, none⟩) hle).trans k4, fun k v hv => (hb.cell (p := ⟨w.heap.size + 1, 0 + k, none⟩) hwx).trans (hrg k v hv)⟩)
                have H21 := hide (show w4.cell? ⟨l, 4, none⟩ = some (.slice aK K'.length cK) ∧ w4.rangeAt (w.heap.size + 1) 0 (kidV c x) from ⟨g4, fun k v hv => (World.cell?_of_block (a := ⟨w.heap.size + 1, 0 + k, none⟩) e2).trans (hrg k v hv)⟩)
                have HGC := hide (show (w4.setCell ⟨l, 4, none⟩ (.slice a' (K'.length + 1) c')).heap[w.heap.size + 1]? = some (.cells (kidV c x).toArray 196 (0, 0)) from (heap_setCell_other w4 ⟨l, 4, none⟩ (w.heap.size + 1) _ (by show w.heap.size + 1 ≠ l; omega)).trans (e2.trans HKC.out.row))
                obtain ⟨z, hz, hzr⟩ := hkc.res
                have HR0 := hide (show (w4.setCell ⟨l, 4, none⟩ (.slice a' (K'.length + 1) c')).heap[w.heap.size]? = some (.cells z 196 (0, 0)) from (heap_setCell_other w4 ⟨l, 4, none⟩ w.heap.size _ (by show w.heap.size ≠ l; omega)).trans ((hg.block w.heap.size (by show w.heap.size < wc.heap.size; omega) (fun e => HKC.out.n0 (.inr (.inr e.symm)))).trans hzr))
                have HNR := hide (show ¬ LS l vL' (.slice a' (K'.length + 1) c') w.heap.size from by
                  rintro (e | e | e)
                  · omega
                  · exact HKC.out.n0 (.inr (.inl e))
                  · rcases hf with h | ⟨g', h, hgs⟩
                    · exact HKC.out.n0 (.inr (.inr (h.symm.trans e)))
                    · rw [h] at e
                      injection e with e
                      have : wc.heap.size ≤ g' := hgs
                      omega)
                have HTW := hide ((HKC.out.tw.more (keeps_drew (Keeps.refl (fun _ => False) wc)) (fun _ _ e => e)).trans HPT.out.2)
                have hz0 := hz
                have HZ := hide hz
                clear hr ho hg hf hLd hkc hzr hz e1 e2
                obtain ⟨i0, hi0, hz0', hz1, hz2⟩ := info_parts Tryz.infoKidZ
                have HZ1 := hide hz1
                have HFI := hide (fun (cells : Array Value) (hc : cells.size = i0.size) => fill_one (s := i0.size) (by rw [HZ1.out]; decide) (kidV c x).toArray cells (by rw [HZ1.out]; rfl) hc)
                have hz0s := hz0'
                clear hz1 hz2 hz0'
                go_upto_region 21 with fail
                have hS : wc.drew.cell? ⟨l, 4, none⟩ = some (.slice aK K'.length cK) ∧ wc.drew.rangeAt (w.heap.size + 1) 0 (kidV c x) := ⟨by simpa using k4, fun k v hv => hrg k v hv⟩
                refine wp_region_L 10 (fun W => W.cell? ⟨l, 4, none⟩ = some (.slice aK K'.length cK) ∧ W.rangeAt (w.heap.size + 1) 0 (kidV c x)) (by kernel_rfl) hS (fun hH => ?_)
                clear hS
                refine wpAnyL_take (i := 0) (v := ?_) rfl (by kernel_rfl) (by kernel_rfl) (by kernel_rfl) (by kernel_rfl) (by kernel_rfl) (fun _ _ _ h => h) (Or.inl ⟨by rfl, ?_⟩) hH ?_
                rotate_left
                · intro W hSW
                  obtain ⟨z0, z1⟩ := hSW
                  go_simp
                  try with_reducible rfl
                try go_simp
                refine wpAnyL_take (i := 1) (v := ?_) rfl (by kernel_rfl) (by kernel_rfl) (by kernel_rfl) (by kernel_rfl) (by kernel_rfl) (fun _ _ _ h => h) (Or.inl ⟨by rfl, ?_⟩) hH ?_
                rotate_left
                · intro W hSW
                  obtain ⟨z0, z1⟩ := hSW
                  go_simp
                  try with_reducible rfl
                try go_simp
                refine wpAnyL_take (i := 2) (v := ?_) rfl (by kernel_rfl) (by kernel_rfl) (by kernel_rfl) (by kernel_rfl) (by kernel_rfl) (fun _ _ _ h => h) (Or.inl ⟨by rfl, ?_⟩) hH ?_
                rotate_left
                · intro W hSW
                  obtain ⟨z0, z1⟩ := hSW
                  go_simp
                  try with_reducible rfl
                try go_simp
                refine wpAnyL_take (i := 3) (v := ?_) rfl (by kernel_rfl) (by kernel_rfl) (by kernel_rfl) (by kernel_rfl) (by kernel_rfl) (fun _ _ _ h => h) (Or.inl ⟨by rfl, ?_⟩) hH ?_
                rotate_left
                · intro W hSW
                  obtain ⟨z0, z1⟩ := hSW
                  go_simp
                  try with_reducible rfl
                try go_simp
                refine wpAnyL_take (i := 4) (v := ?_) rfl (by kernel_rfl) (by kernel_rfl) (by kernel_rfl) (by kernel_rfl) (by kernel_rfl) (fun _ _ _ h => h) (Or.inl ⟨by rfl, ?_⟩) hH ?_
                rotate_left
                · intro W hSW
                  obtain ⟨z0, z1⟩ := hSW
                  go_simp
                  try with_reducible rfl
                try go_simp
                refine wpAnyL_take (i := 5) (v := .agg (kidV c x).toArray) rfl (by kernel_rfl) (by kernel_rfl) (by kernel_rfl) (by kernel_rfl) (by kernel_rfl) (fun _ _ _ h => h) (yieldsIf_load_mid (by rfl) _ _ rfl (w.heap.size + 1) 0 rfl (kidV c x) _ (fun W hW => hW.2) Tryz.underlying196 rfl (by rw [kidV_len]; exact Tryz.infoKid)) hH ?_
                try go_simp
                refine wpAnyL_one (i := 6) (by kernel_rfl) rfl (fun K hK => ?_)
                rw [if_pos (by rfl)]
                refine wp_buildSlice 191 196 1 #[(0, .tmp 142)] rfl (kidV c x).toArray i0 zeroKid Tryz.underlying191 hi0 hz0s (by rw [HZ1.out]; decide) (by rw [HZ1.out]; decide) (by rw [Array.toList_map]; exact HFI.out _ (by simp)) ?_
                refine hK.out _ _ (fun _ => H9.out) ?_
                clear hK K
                try go_simp
                refine wpAnyL_one (i := 7) (by kernel_rfl) rfl (fun K hK => ?_)
                rw [if_pos (by rfl)]
                refine Lib.wp_append_run _ _ _ 191 191 rfl _ _ rfl rfl _ _ hr' ?_
                refine hK.out _ _ (fun _ => H21.out) ?_
                clear hK K hr'
                try go_simp
                refine wpAnyL_one (i := 8) (by kernel_rfl) rfl (fun K hK => ?_)
                go_simp
                refine hK.out _ _ (fun _ => H21.out) ?_
                clear hK K
                try go_simp
                refine wpAnyL_one (i := 9) (by kernel_rfl) rfl (fun K hK => ?_)
                go_simp
                refine hK.out _ _ (fun _ => H21.out) ?_
                clear hK K
                try go_simp
                refine wpAnyL_one (i := 10) (by kernel_rfl) rfl (fun K hK => ?_)
                go_simp
                refine hK.out _ _ (fun h => absurd rfl h) ?_
                clear hK K
                refine wpAnyL_done (by kernel_rfl) ?_ _
                generalize w4.setCell ⟨l, 4, none⟩ (.slice a' (K'.length + 1) c') = w5 at *
                clear k4 hrg f4 g4 H9 H21
                have HM9 := hide (show (kidV c x).toArray.size = 16 from rfl)
                have HM1 := hide (kidV_all c x HKC.out.one)
                have HPO := hide (show KidOut w B l s vL vK (L.length + Ward.room d) (K.length + (Ward.room d + 1)) (Ward.rdKid d (Ward.rdNode d false) (Ward.at' s i L) = none) (fun i' L' K' c => ∃ t, Ward.KidGood d s i L K t i' L' K' c) (.returned (.agg (kidV c x).toArray)) (w5.setRow w.heap.size (kidV c x).toArray) from kid_end c x HKC.out.one HKC.out.dig HKC.out.num HPT.out.1 HTW.out HNR.out HKC.out.le HKC.out.lL (by rw [List.length_append, List.length_singleton]; omega) (by
                  rcases HKC.out.is with ⟨e, h⟩ | ⟨e, t, h1, h2, h3, h4⟩
                  · exact .inl ⟨e, h⟩
                  · exact .inr ⟨e, t, h1, h2, by rw [h3, h4, List.append_assoc], h4⟩))
                generalize (kidV c x).toArray = M at *
                clear hz0
                go_wp2_with (first | (refine wpList_load_row rfl 196 (.tmp 5) rfl (w.heap.size + 1) rfl 196 M (0, 0) _ HGC.out Tryz.underlying196 rfl (by rw [HM9.out]; exact Tryz.infoKid) ?_) | (refine wpList_store_row rfl 196 (.tmp 4) (.tmp 147) rfl w.heap.size M rfl rfl 196 z HR0.out (by rw [HM9.out]; exact Tryz.infoKid) (by rw [HM9.out, HZ.out]) HM1.out ?_))
                refine bodyPost_ret (v := .agg M) ?_ rfl HPO.out
                exact results_cell_row rfl _ _ w.heap.size 196 M (0, 0) _ rfl (setRow_heap _ _ _ _ _ _ HR0.out) Tryz.underlying196 rfl (by rw [HM9.out]; exact Tryz.infoKid)
end Go.Proofs.YtenaelkbgkpllaaGreatDoor
