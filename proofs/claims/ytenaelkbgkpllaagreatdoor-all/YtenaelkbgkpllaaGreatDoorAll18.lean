/- The document's Look: a part. -/
import Derived.Test.YtenaelkbgkpllaaGreatDoorAll17
import Derived.Test.YtenaelkbgkpllaaGreatDoorAll16
import Derived.Test.YtenaelkbgkpllaaGreatDoorAll12
import Derived.Test.YtenaelkbgkpllaaGreatDoorAll13
import Derived.Test.YtenaelkbgkpllaaGreatDoorAll15
import Derived.Test.YtenaelkbgkpllaaGreatDoorAll10
import Derived.Test.YtenaelkbgkpllaaGreatDoorAll14
import Derived.Test.YtenaelkbgkpllaaGreatDoorAll5
import Derived.Deep.DrawnRows
import Derived.Test.YtenaelkbgkpllaaGreatDoorAll7
import Derived.Test.YtenaelkbgkpllaaGreatDoorAll8
import Derived.Maps.OwnSet
namespace Go.Proofs.YtenaelkbgkpllaaGreatDoor
open Go.RowKit

def KidRef (d : Nat) : Prop := ∀ (dp : Nat) (w : World) (B l : Nat) (s : List UInt8) (i : Nat) (vL vK : Value) (L : List Ward.Pt) (K : List Ward.Chd), dp + d = 6 → LookAt w B l s i false vL vK L K → B ≤ w.heap.size → i ≤ s.length → s.length ≤ 140737488355328 → L.length + Ward.room d ≤ 29000 → K.length + (Ward.room d + 1) ≤ 29000 →
  Calls Tryz.prog 162 #[.pointer (some ⟨l, 0, none⟩), I dp] w (KidOut w B l s vL vK (L.length + Ward.room d) (K.length + (Ward.room d + 1)) (Ward.rdKid d (Ward.rdNode d false) (Ward.at' s i L) = none) (fun i' L' K' c => ∃ t, Ward.KidGood d s i L K t i' L' K' c))
/-- what is wrong with a part's head -/
def headBad (dp : Nat) (kind : UInt8) (m : Nat) : Bool := decide (6 < dp) || decide (4 < m) || (!(kind == 1) && !(kind == 2)) || (decide (m = 0) && (kind == 2 || decide (1 < dp)))
theorem head_none {d dp : Nat} {s : List UInt8} {i : Nat} {L : List Ward.Pt} (hdp : dp + d = 7) (h2 : i + 2 ≤ s.length) (h : headBad dp ((s.drop i).getD 0 0) ((s.drop i).getD 1 0).toNat = true) : Ward.rdNode d (decide (d = 6)) (Ward.at' s i L) = none := by
  cases d with
  | zero => rfl
  | succ d =>
    refine Ward.rdNode_bad (by show 2 ≤ (s.drop i).length; rw [List.length_drop]; omega) ?_
    show 4 < ((s.drop i).getD 1 0).toNat ∨ ((s.drop i).getD 0 0 ≠ 1 ∧ (s.drop i).getD 0 0 ≠ 2) ∨ (((s.drop i).getD 1 0).toNat = 0 ∧ ((s.drop i).getD 0 0 = 2 ∨ decide (d + 1 = 6) = false))
    generalize (s.drop i).getD 0 0 = kind at *
    generalize ((s.drop i).getD 1 0).toNat = m at *
    unfold headBad at h
    simp only [Bool.or_eq_true, Bool.and_eq_true, decide_eq_true_eq, Bool.not_eq_true', beq_eq_false_iff_ne, beq_iff_eq] at h
    rcases h with ((h | h) | h) | ⟨h0, h⟩
    · omega
    · exact .inl h
    · exact .inr (.inl h)
    · refine .inr (.inr ⟨h0, ?_⟩)
      rcases h with h | h
      · exact .inl h
      · exact .inr (by simp; omega)
theorem head_good {d dp : Nat} {kind : UInt8} {m : Nat} (hdp : dp + d = 7) (hd6 : d ≤ 6) (h : headBad dp kind m = false) : (∃ e, d = e + 1) ∧ m ≤ 4 ∧ (kind = 1 ∨ kind = 2) ∧ (0 < m ∨ (kind = 1 ∧ d = 6)) := by
  unfold headBad at h
  simp only [Bool.or_eq_false_iff, Bool.and_eq_false_iff, decide_eq_false_iff_not, Bool.not_eq_false', beq_iff_eq, beq_eq_false_iff_ne] at h
  obtain ⟨⟨⟨h1, h2⟩, h3⟩, h4⟩ := h
  refine ⟨⟨d - 1, by omega⟩, by omega, h3, ?_⟩
  rcases h4 with h4 | ⟨h4, h5⟩
  · exact .inl (Nat.pos_of_ne_zero (by simpa using h4))
  · rcases h3 with h3 | h3
    · exact .inr ⟨h3, by omega⟩
    · exact absurd h3 h4
/-- while a part is read -/
structure PaSt (w : World) (B l : Nat) (s : List UInt8) (j : Nat) (bad : Bool) (vL vK vL' vK' : Value) (L : List Ward.Pt) (K : List Ward.Chd) (cs : Array Value) (wq : World) : Prop where
  look : LookAt wq B l s j bad vL' vK' L K
  row : wq.heap[w.heap.size + 1]? = some (.cells cs 150 (0, 0))
  res : ∃ z : Array Value, z.size = 9 ∧ wq.heap[w.heap.size]? = some (.cells z 150 (0, 0))
  tw : LookTo w l vL vK wq vL' vK'
section
variable {w wq w' : World} {B l : Nat} {s : List UInt8} {j j' : Nat} {bad bad' : Bool} {vL vK vL' vK' : Value} {L : List Ward.Pt} {K : List Ward.Chd} {cs : Array Value}
theorem PaSt.lt (h : PaSt w B l s j bad vL vK vL' vK' L K cs wq) : w.heap.size + 1 < wq.heap.size := (Array.getElem?_eq_some_iff.1 h.row).1
/-- its blocks are none of the Look's -/
theorem PaSt.n0 (h : PaSt w B l s j bad vL vK vL' vK' L K cs wq) : ¬ LS l vL' vK' w.heap.size := by
  obtain ⟨z, _, hzr⟩ := h.res
  rintro (e | e | e)
  · have hr := h.look.row
    unfold LookRow at hr
    rw [← e, hzr] at hr
    injection hr with hr
    injection hr with _ h2 _
    exact absurd h2 (by decide)
  · exact ownsRow_other h.look.pts hzr (by decide) e
  · obtain ⟨xs, _, _, h3⟩ := h.look.kids
    exact ownsRow_other h3 hzr (by decide) e
theorem PaSt.n1 (h : PaSt w B l s j bad vL vK vL' vK' L K cs wq) : ¬ LS l vL' vK' (w.heap.size + 1) := by
  have hzr := h.row
  rintro (e | e | e)
  · have hr := h.look.row
    unfold LookRow at hr
    rw [← e, hzr] at hr
    injection hr with hr
    injection hr with _ h2 _
    exact absurd h2 (by decide)
  · exact ownsRow_other h.look.pts hzr (by decide) e
  · obtain ⟨xs, _, _, h3⟩ := h.look.kids
    exact ownsRow_other h3 hzr (by decide) e
theorem PaSt.ne (h : PaSt w B l s j bad vL vK vL' vK' L K cs wq) : l ≠ w.heap.size ∧ l ≠ w.heap.size + 1 := ⟨fun e => h.n0 (.inl e.symm), fun e => h.n1 (.inl e.symm)⟩
/-- its own Look was written -/
theorem PaSt.moved (h : PaSt w B l s j bad vL vK vL' vK' L K cs wq) (hr : LookRow w' l s j' bad' vL' vK') (hk : Keeps (fun k => k = l) wq w') : PaSt w B l s j' bad' vL vK vL' vK' L K cs w' := by
  have hlt := h.lt
  have hne := h.ne
  obtain ⟨z, hz, hzr⟩ := h.res
  exact ⟨h.look.to hk hr, (hk.block _ hlt (fun e => hne.2 e.symm)).trans h.row, ⟨z, hz, (hk.block w.heap.size (by omega) (fun e => hne.1 e.symm)).trans hzr⟩, h.tw.step hk⟩
/-- a cell of the part was written -/
theorem PaSt.wrote (h : PaSt w B l s j bad vL vK vL' vK' L K cs wq) (k : Nat) (v : Value) : PaSt w B l s j bad vL vK vL' vK' L K (cs.setIfInBounds k v) (wq.setCell ⟨w.heap.size + 1, k, none⟩ v) := by
  have hk : Keeps (fun j => j = w.heap.size + 1) wq (wq.setCell ⟨w.heap.size + 1, k, none⟩ v) := ⟨rfl, rfl, rfl, by simp, fun j _ hj => heap_setCell_other wq ⟨w.heap.size + 1, k, none⟩ j v hj⟩
  have hlt := h.lt
  have hn := h.n1
  obtain ⟨z, hz, hzr⟩ := h.res
  exact ⟨h.look.keep hk (fun g hg e => hn (e ▸ hg)), heap_setCell_same _ _ _ _ _ _ h.row, ⟨z, hz, (hk.block w.heap.size (by omega) (by omega)).trans hzr⟩, h.tw.more hk (fun g hg e => by omega)⟩
theorem PaSt.below (h : PaSt w B l s j bad vL vK vL' vK' L K cs wq) (hb : Below wq.heap.size wq w') : PaSt w B l s j bad vL vK vL' vK' L K cs w' := by
  have hlt := h.lt
  obtain ⟨z, hz, hzr⟩ := h.res
  exact ⟨h.look.below hb, (hb.block _ hlt).trans h.row, ⟨z, hz, (hb.block w.heap.size (by omega)).trans hzr⟩, h.tw.more (Keeps.of_below (S := fun _ => False) hb) (fun _ _ e => e)⟩
/-- a call went on with the Look -/
theorem PaSt.called (h : PaSt w B l s j bad vL vK vL' vK' L K cs wq) {vL'' vK'' : Value} {L' : List Ward.Pt} {K' : List Ward.Chd} (hl : LookAt w' B l s j' bad' vL'' vK'' L' K') (ht : LookTo wq l vL' vK' w' vL'' vK'') : PaSt w B l s j' bad' vL vK vL'' vK'' L' K' cs w' := by
  have hlt := h.lt
  obtain ⟨z, hz, hzr⟩ := h.res
  exact ⟨hl, (ht.keeps.block _ hlt h.n1).trans h.row, ⟨z, hz, (ht.keeps.block w.heap.size (by omega) h.n0).trans hzr⟩, h.tw.trans ht⟩
/-- a part goes out -/
theorem part_end {nL nK : Nat} {F : Prop} {G : Nat → List Ward.Pt → List Ward.Chd → Ward.Box → Int → List UInt8 → Prop} (b : Ward.Box) (n : Int) (x : List UInt8) (v : Value) (hv : v.oneCell' = true) (hx : x.length ≤ 250) (h : PaSt w B l s j bad vL vK vL' vK' L K cs wq) (hj : j ≤ s.length) (h1 : L.length ≤ nL) (h2 : K.length ≤ nK) (hg : (bad = true ∧ F) ∨ (bad = false ∧ G j L K b n x)) :
    PartOut w B l s vL vK nL nK F G (.returned (.agg (partV b n x 0 0 v))) (wq.setRow w.heap.size (partV b n x 0 0 v)) := by
  have k := keeps_rowTo wq w.heap.size (partV b n x 0 0 v)
  have hn := h.n0
  exact ⟨b, n, x, v, vL', vK', L, K, j, bad, rfl, hv, hx, h.look.keep k (fun g hg e => hn (e ▸ hg)), h.tw.more k (fun g hg e => by omega), hj, h1, h2, hg⟩
end
/-- where the loop of children stands -/
structure PaLoop (w : World) (B l : Nat) (s : List UInt8) (i e m : Nat) (vL vK : Value) (L : List Ward.Pt) (K : List Ward.Chd) (q : Nat) (j : Nat) (bad : Bool) (vL' vK' : Value) (L' : List Ward.Pt) (K' : List Ward.Chd) (b : Ward.Box) (n : Int) (x : List UInt8) (wq : World) : Prop where
  st : PaSt w B l s j bad vL vK vL' vK' L' K' (partV b n x 0 0 (.slice none 0 0)) wq
  le : j ≤ s.length
  lL : L'.length ≤ L.length + q * (1 + Ward.room e)
  lK : K'.length ≤ K.length + q * (1 + Ward.room e)
  lx : x.length ≤ 2 + 52 * q
  ln : -2147483648 * (q : Int) ≤ n ∧ n ≤ 2147483648 * (q : Int)
  is : (bad = true ∧ Ward.rdMany (Ward.rdKid e (Ward.rdNode e false)) m (Ward.at' s (i + 2) L) = none) ∨ (bad = false ∧ ∃ cs, Ward.KidsGood e m s (i + 2) L K q cs j L' K' b n x)
/-- within a round: the child as it lies -/
structure PaKid (w : World) (B l : Nat) (s : List UInt8) (j : Nat) (bad : Bool) (vL vK vL' vK' : Value) (L : List Ward.Pt) (K : List Ward.Chd) (cs : Array Value) (gk : Nat) (ks : Array Value) (wq : World) : Prop where
  st : PaSt w B l s j bad vL vK vL' vK' L K cs wq
  kid : wq.heap[gk]? = some (.cells ks 196 (0, 0))
  low : w.heap.size + 1 < gk
section
variable {w wq w' : World} {B l : Nat} {s : List UInt8} {j : Nat} {bad : Bool} {vL vK vL' vK' : Value} {L : List Ward.Pt} {K : List Ward.Chd} {cs ks : Array Value} {gk : Nat}
theorem PaKid.lt (h : PaKid w B l s j bad vL vK vL' vK' L K cs gk ks wq) : gk < wq.heap.size := (Array.getElem?_eq_some_iff.1 h.kid).1
theorem PaKid.below (h : PaKid w B l s j bad vL vK vL' vK' L K cs gk ks wq) (hb : Below wq.heap.size wq w') : PaKid w B l s j bad vL vK vL' vK' L K cs gk ks w' := ⟨h.st.below hb, (hb.block gk h.lt).trans h.kid, h.low⟩
theorem PaKid.wrote (h : PaKid w B l s j bad vL vK vL' vK' L K cs gk ks wq) (k : Nat) (v : Value) : PaKid w B l s j bad vL vK vL' vK' L K (cs.setIfInBounds k v) gk ks (wq.setCell ⟨w.heap.size + 1, k, none⟩ v) := by
  have hl := h.low
  exact ⟨h.st.wrote k v, (heap_setCell_other wq ⟨w.heap.size + 1, k, none⟩ gk v (by show gk ≠ w.heap.size + 1; omega)).trans h.kid, h.low⟩
/-- the box of the part was written -/
theorem PaKid.boxed {b : Ward.Box} {n : Int} {x : List UInt8} {v : Value} (h : PaKid w B l s j bad vL vK vL' vK' L K (partV b n x 0 0 v) gk ks wq) (a' b' c' d' : Int) : PaKid w B l s j bad vL vK vL' vK' L K (partV ⟨a', b', c', d'⟩ n x 0 0 v) gk ks ((((wq.setCell ⟨w.heap.size + 1, 0, none⟩ (I a')).setCell ⟨w.heap.size + 1, 1, none⟩ (I b')).setCell ⟨w.heap.size + 1, 2, none⟩ (I c')).setCell ⟨w.heap.size + 1, 3, none⟩ (I d')) :=
  (((h.wrote 0 (I a')).wrote 1 (I b')).wrote 2 (I c')).wrote 3 (I d')
end
theorem kid4 {w : World} {g : Nat} {c : Ward.Chd} {v : Value} (h : w.heap[g]? = some (.cells (kidV c v).toArray 196 (0, 0))) : w.cell? ⟨g, 0, none⟩ = some (I c.box.a) ∧ w.cell? ⟨g, 1, none⟩ = some (I c.box.b) ∧ w.cell? ⟨g, 2, none⟩ = some (I c.box.c) ∧ w.cell? ⟨g, 3, none⟩ = some (I c.box.d) ∧ w.cell? ⟨g, 4, none⟩ = some (I c.n) ∧ w.cell? ⟨g, 5, none⟩ = some (Sv c.dig) := ⟨row_cell h rfl, row_cell h rfl, row_cell h rfl, row_cell h rfl, row_cell h rfl, row_cell h rfl⟩
set_option maxRecDepth 100000 in
set_option maxHeartbeats 8000000 in
theorem look_part (d : Nat) (hd6 : d ≤ 6) (HKR : ∀ e, d = e + 1 → KidRef e) : PartRef d (decide (d = 6)) := by
  intro dp w B l s i vL vK L K hdp h hB hi hs hL hK
  have HH := hide h
  have hlt := h.lt
  have HA0 := hide (fun o o' => ((Below.refl w.heap.size w).alloc (Nat.le_refl _) o).alloc (by simp) o')
  have HN0 := hide (fun a b => And.intro (heap_alloc2_old w a b) (heap_alloc2_new w a b))
  have HHA := hide (fun W (hW : LookRow W l s i false vL vK) => has_ref l s i 2 false vL vK W hW hi hs)
  have HKR' := hide HKR
  clear h HKR
  go_enter Tryz.func132, Tryz.ntmps132
  go_upto_region 2 with fail
  generalize hW : World.alloc (World.alloc w _) _ = w1
  have hb1 : Below w.heap.size w w1 := by rw [← hW]; exact HA0.out _ _
  have hr1 : ∃ z : Array Value, z.size = 9 ∧ w1.heap[w.heap.size]? = some (.cells z 150 (0, 0)) := by rw [← hW]; exact ⟨_, rfl, (HN0.out _ _).1⟩
  have hc1 : w1.heap[w.heap.size + 1]? = some (.cells (partV ⟨0, 0, 0, 0⟩ 0 [] 0 0 (.slice none 0 0)) 150 (0, 0)) := by rw [← hW]; exact (HN0.out _ _).2
  clear hW HA0 HN0
  have HS1 := hide (show PaSt w B l s i false vL vK vL vK L K _ w1 from ⟨HH.out.below hb1, hc1, hr1, LookTo.below vL vK hb1⟩)
  have HC := hide (HHA.out w1 HS1.out.look.row)
  have hgs : w.heap.size + 1 < w1.heap.size := HS1.out.lt
  clear hb1 hr1 hc1 HHA
  go_wp2_with fail
  refine HC.out.mono ?_
  rintro _ w2 ⟨rfl, hrow2, hk2⟩
  rw [Bool.false_or] at hrow2 ⊢
  have HS2 := hide (HS1.out.moved hrow2 hk2)
  clear HC hrow2 hk2 HS1
  by_cases hc : s.length < i + 2
  · rw [decide_eq_true hc] at HS2 ⊢
    have HF := hide (show Ward.rdNode d (decide (d = 6)) (Ward.at' s i L) = none from Ward.rdNode_short (by show (s.drop i).length < 2; rw [List.length_drop]; omega))
    have HM9 := hide (show (partV ⟨0, 0, 0, 0⟩ 0 [] 0 0 (.slice none 0 0)).size = 9 from rfl)
    have HM1 := hide (partV_one ⟨0, 0, 0, 0⟩ 0 [] 0 0 (.slice none 0 0) rfl)
    have HPO := hide (show PartOut w B l s vL vK (L.length + Ward.room d) (K.length + Ward.room d) (Ward.rdNode d (decide (d = 6)) (Ward.at' s i L) = none) (fun i' L' K' b n x => ∃ t, Ward.PartGood d (decide (d = 6)) s i L K t i' L' K' b n x) (.returned (.agg (partV ⟨0, 0, 0, 0⟩ 0 [] 0 0 (.slice none 0 0)))) (w2.setRow w.heap.size (partV ⟨0, 0, 0, 0⟩ 0 [] 0 0 (.slice none 0 0))) from part_end ⟨0, 0, 0, 0⟩ 0 [] (.slice none 0 0) rfl (by simp) HS2.out hi (by omega) (by omega) (.inl ⟨rfl, HF.out⟩))
    obtain ⟨z, hz, hzr⟩ := HS2.out.res
    have HZ := hide hz
    have HR0 := hide hzr
    have HGC := hide HS2.out.row
    generalize (partV ⟨0, 0, 0, 0⟩ 0 [] 0 0 (.slice none 0 0)) = M at *
    clear hz hzr
    go_wp2_with (first | (refine wpList_load_row rfl 150 (.tmp 5) rfl (w.heap.size + 1) rfl 150 M (0, 0) _ HGC.out Tryz.underlying150 rfl (by rw [HM9.out]; exact Tryz.infoPart) ?_) | (refine wpList_store_row rfl 150 (.tmp 4) (.tmp 16) rfl w.heap.size M rfl rfl 150 z HR0.out (by rw [HM9.out]; exact Tryz.infoPart) (by rw [HM9.out, HZ.out]) HM1.out ?_))
    refine bodyPost_ret (v := .agg M) ?_ rfl HPO.out
    exact results_cell_row rfl _ _ w.heap.size 150 M (0, 0) _ rfl (setRow_heap _ _ _ _ _ _ HR0.out) Tryz.underlying150 rfl (by rw [HM9.out]; exact Tryz.infoPart)
  · rw [decide_eq_false hc] at HS2 ⊢
    have h2l : i + 2 ≤ s.length := by omega
    clear hc
    have hsz : (⟨s.toArray⟩ : ByteArray).size = s.length := by show s.toArray.size = _; rw [List.size_toArray]
    have y0 : w2.cell? ⟨l, 0, none⟩ = some (Sv s) := row_cell HS2.out.look.row rfl
    have y1 : w2.cell? ⟨l, 1, none⟩ = some (I i) := row_cell HS2.out.look.row rfl
    have hix := idx_str ⟨s.toArray⟩ (i : Int) i rfl (by rw [hsz]; omega)
    rw [show (⟨s.toArray⟩ : ByteArray).data.toList = s from rfl] at hix
    obtain ⟨kd, hkd⟩ : ∃ kd, (s.drop i).getD 0 0 = kd := ⟨_, rfl⟩
    have hkb : Sha.byteAt s i = kd.toNat := by rw [← hkd, drop_getD]; rfl
    rw [hkb] at hix
    obtain ⟨m, hm⟩ : ∃ m, ((s.drop i).getD 1 0).toNat = m := ⟨_, rfl⟩
    have hmb : Sha.byteAt s (i + 1) = m := by rw [← hm, drop_getD]; rfl
    have hm256 : m < 256 := by rw [← hm]; exact UInt8.toNat_lt _
    have HKD := hide hkd
    have HMM := hide hm
    clear hkd hm hkb
    go_upto_region 5 with fail
    go_quiet (fail)
    go_upto_region 6 with fail
    have HS3 := hide (HS2.out.below (w' := w2.drewN nq) ⟨rfl, rfl, rfl, Nat.le_refl _, fun _ _ => rfl⟩)
    generalize w2.drewN nq = w3 at HS3 ⊢
    clear y0 y1 hix HS2
    have y0 : w3.cell? ⟨l, 0, none⟩ = some (Sv s) := row_cell HS3.out.look.row rfl
    have y1 : w3.cell? ⟨l, 1, none⟩ = some (I i) := row_cell HS3.out.look.row rfl
    have hix := idx_str ⟨s.toArray⟩ ((i : Int) + 1) (i + 1) (by omega) (by rw [hsz]; omega)
    rw [show (⟨s.toArray⟩ : ByteArray).data.toList = s from rfl, hmb] at hix
    have hcv : IntKind.i64.wrap (m : Int) = (m : Int) := by rw [IntKind.wrap_i64]; omega
    go_quiet (fail)
    go_upto_region 7 with fail
    have HS4 := hide (HS3.out.below (w' := w3.drewN nq) ⟨rfl, rfl, rfl, Nat.le_refl _, fun _ _ => rfl⟩)
    generalize w3.drewN nq = w4 at HS4 ⊢
    clear y0 y1 hix HS3
    have y1 : w4.cell? ⟨l, 1, none⟩ = some (I i) := row_cell HS4.out.look.row rfl
    have yf : w4.frozen? ⟨l, 1, none⟩ = false := frozen_of_row _ _ _ _ _ HS4.out.look.row
    go_upto_region 8 with fail
    have HS5 := hide (HS4.out.moved (HS4.out.look.placeTo (i + 2)).1.row (HS4.out.look.placeTo (i + 2)).2)
    rw [show ((i + 2 : Nat) : Int) = (i : Int) + 2 by omega] at HS5
    generalize w4.setCell ⟨l, 1, none⟩ (.int .i64 ((i : Int) + 2)) = w5 at HS5 ⊢
    clear y1 yf HS4 hcv hmb
    obtain ⟨k, hk⟩ : ∃ k, kd.toNat = k := ⟨_, rfl⟩
    have HK1 := hide (show (kd == 1) = decide (k = 1) by
      rw [Bool.eq_iff_iff, beq_iff_eq, decide_eq_true_eq, ← hk, ← UInt8.toNat_inj]
      rfl)
    have HK2 := hide (show (kd == 2) = decide (k = 2) by
      rw [Bool.eq_iff_iff, beq_iff_eq, decide_eq_true_eq, ← hk, ← UInt8.toNat_inj]
      rfl)
    obtain ⟨G, hG⟩ : ∃ G, headBad dp kd m = G := ⟨_, rfl⟩
    have HG := hide hG
    have HGX := hide (show G = (decide (6 < dp) || decide (4 < m) || (!decide (k = 1) && !decide (k = 2)) || (decide (m = 0) && (decide (k = 2) || decide (1 < dp)))) by
      rw [← hG]
      unfold headBad
      rw [HK1.out, HK2.out])
    clear hG
    rw [hk]
    go_cut [70] from 45 to 70 (fun v70 wx => v70 = .bool G ∧ wx = w5)
    case first =>
      by_cases c1 : 6 < dp
      · have HE := hide (show G = true by rw [HGX.out, decide_eq_true c1]; rfl)
        have c1' : (6 : Int) < (dp : Int) := by omega
        go_wp2_with fail
        go_meet
        rw [HE.out]; exact ⟨rfl, rfl⟩
      · have c1' : ¬ (6 : Int) < (dp : Int) := by omega
        by_cases c2 : 4 < m
        · have HE := hide (show G = true by rw [HGX.out, decide_eq_true c2, Bool.or_true]; rfl)
          have c2' : (4 : Int) < (m : Int) := by omega
          go_wp2_with fail
          go_meet
          rw [HE.out]; exact ⟨rfl, rfl⟩
        · have c2' : ¬ (4 : Int) < (m : Int) := by omega
          by_cases c3 : k = 1
          · subst c3
            by_cases c4 : m = 0
            · subst c4
              by_cases c5 : 1 < dp
              · have HE := hide (show G = true by rw [HGX.out]; simp [c5])
                have c5' : (1 : Int) < (dp : Int) := by omega
                go_wp2_with fail
                go_meet
                rw [HE.out]; exact ⟨rfl, rfl⟩
              · have HE := hide (show G = false by rw [HGX.out]; simp [c5]; omega)
                have c5' : ¬ (1 : Int) < (dp : Int) := by omega
                go_wp2_with fail
                go_meet
                rw [HE.out]; exact ⟨rfl, rfl⟩
            · have HE := hide (show G = false by rw [HGX.out]; simp [c4]; omega)
              have c4' : ¬ (m : Int) = 0 := by omega
              have c4b : ((m : Int) == 0) = false := by simp; omega
              go_wp2_with fail
              go_meet
              rw [HE.out]; exact ⟨rfl, rfl⟩
          · have c3' : ¬ (k : Int) = 1 := by omega
            have c3b : ((k : Int) != 1) = true := by simp; omega
            by_cases c6 : k = 2
            · subst c6
              by_cases c4 : m = 0
              · subst c4
                have HE := hide (show G = true by rw [HGX.out]; simp)
                go_wp2_with fail
                go_meet
                rw [HE.out]; exact ⟨rfl, rfl⟩
              · have HE := hide (show G = false by rw [HGX.out]; simp [c4]; omega)
                have c4' : ¬ (m : Int) = 0 := by omega
                have c4b : ((m : Int) == 0) = false := by simp; omega
                go_wp2_with fail
                go_meet
                rw [HE.out]; exact ⟨rfl, rfl⟩
            · have HE := hide (show G = true by rw [HGX.out]; simp [c3, c6])
              have c6' : ¬ (k : Int) = 2 := by omega
              have c6b : ((k : Int) != 2) = true := by simp; omega
              go_wp2_with fail
              go_meet
              rw [HE.out]; exact ⟨rfl, rfl⟩
    case rest =>
      obtain ⟨rfl, hwc⟩ := hcut
      rw [hwc]
      clear hwc
      cases G with
      | true =>
        have HF := hide (head_none (L := L) hdp h2l (by rw [HKD.out, HMM.out]; exact HG.out))
        have y2 : w5.cell? ⟨l, 2, none⟩ = some (.bool false) := row_cell HS5.out.look.row rfl
        have yf : w5.frozen? ⟨l, 2, none⟩ = false := frozen_of_row _ _ _ _ _ HS5.out.look.row
        go_upto_region 10 with fail
        have HS6 := hide (HS5.out.moved (HS5.out.look.badTo true).1.row (HS5.out.look.badTo true).2)
        generalize w5.setCell ⟨l, 2, none⟩ (.bool true) = w6 at HS6 ⊢
        clear y2 yf HS5
        have HM9 := hide (show (partV ⟨0, 0, 0, 0⟩ 0 [] 0 0 (.slice none 0 0)).size = 9 from rfl)
        have HM1 := hide (partV_one ⟨0, 0, 0, 0⟩ 0 [] 0 0 (.slice none 0 0) rfl)
        have HPO := hide (show PartOut w B l s vL vK (L.length + Ward.room d) (K.length + Ward.room d) (Ward.rdNode d (decide (d = 6)) (Ward.at' s i L) = none) (fun i' L' K' b n x => ∃ t, Ward.PartGood d (decide (d = 6)) s i L K t i' L' K' b n x) (.returned (.agg (partV ⟨0, 0, 0, 0⟩ 0 [] 0 0 (.slice none 0 0)))) (w6.setRow w.heap.size (partV ⟨0, 0, 0, 0⟩ 0 [] 0 0 (.slice none 0 0))) from part_end ⟨0, 0, 0, 0⟩ 0 [] (.slice none 0 0) rfl (by simp) HS6.out h2l (by omega) (by omega) (.inl ⟨rfl, HF.out⟩))
        obtain ⟨z, hz, hzr⟩ := HS6.out.res
        have HZ := hide hz
        have HR0 := hide hzr
        have HGC := hide HS6.out.row
        generalize (partV ⟨0, 0, 0, 0⟩ 0 [] 0 0 (.slice none 0 0)) = M at *
        clear hz hzr
        go_wp2_with (first | (refine wpList_load_row rfl 150 (.tmp 5) rfl (w.heap.size + 1) rfl 150 M (0, 0) _ HGC.out Tryz.underlying150 rfl (by rw [HM9.out]; exact Tryz.infoPart) ?_) | (refine wpList_store_row rfl 150 (.tmp 4) (.tmp 74) rfl w.heap.size M rfl rfl 150 z HR0.out (by rw [HM9.out]; exact Tryz.infoPart) (by rw [HM9.out, HZ.out]) HM1.out ?_))
        refine bodyPost_ret (v := .agg M) ?_ rfl HPO.out
        exact results_cell_row rfl _ _ w.heap.size 150 M (0, 0) _ rfl (setRow_heap _ _ _ _ _ _ HR0.out) Tryz.underlying150 rfl (by rw [HM9.out]; exact Tryz.infoPart)
      | false =>
        obtain ⟨⟨e, he⟩, hm4, hk12, hm0⟩ := head_good hdp hd6 HG.out
        have HHD := hide HG.out
        have hroom : 4 * (1 + Ward.room e) ≤ Ward.room d := by rw [he]; exact Nat.le_refl _
        have hk12' : k = 1 ∨ k = 2 := by
          rcases hk12 with h | h
          · exact .inl (by rw [← hk, h]; rfl)
          · exact .inr (by rw [← hk, h]; rfl)
        by_cases hk1 : k = 1
        · subst hk1
          have hkd : kd = 1 := UInt8.toNat_inj.1 hk
          have HLF := hide (look_leaf m hm4 HS5.out.look (by have := HS5.out.lt; omega) h2l hs (by omega))
          have HR1 := hide (show ∀ (b : Ward.Box) (n : Int) (x : List UInt8) (j : Nat) (bad : Bool) (L' : List Ward.Pt) (K' : List Ward.Chd), ((bad = true ∧ Ward.leafOk s (i + 2) m L = false) ∨ (bad = false ∧ Ward.leafOk s (i + 2) m L = true ∧ j = i + 2 + 12 * m ∧ L' = L ++ Ward.ptsAt (s.drop (i + 2)) m ∧ K' = K ∧ b = Ward.boxL ((Ward.ptsAt (s.drop (i + 2)) m).map Ward.boxOf) ∧ n = ((Ward.ptsAt (s.drop (i + 2)) m).length : Nat) ∧ x = Ward.leafText (Ward.ptsAt (s.drop (i + 2)) m))) → ((bad = true ∧ Ward.rdNode d (decide (d = 6)) (Ward.at' s i L) = none) ∨ (bad = false ∧ ∃ t, Ward.PartGood d (decide (d = 6)) s i L K t j L' K' b n x)) from by
            intro b n x j bad L' K' h
            have hr : 0 < m ∨ decide (d = 6) = true := by
              rcases hm0 with h | ⟨_, h⟩
              · exact .inl h
              · exact .inr (decide_eq_true h)
            subst he
            rcases h with ⟨h, h1⟩ | ⟨h, h1, rfl, rfl, rfl, rfl, rfl, rfl⟩
            · exact .inl ⟨h, Ward.leaf_none h1 h2l hm4 hr (by rw [HKD.out, hkd]) HMM.out⟩
            · exact .inr ⟨h, _, Ward.leaf_good h1 h2l hm4 hr (by rw [HKD.out, hkd]) HMM.out⟩)
          clear hk12 hk12' hm0 hkd hk
          go_wp2_with fail
          refine HLF.out.mono ?_
          rintro _ w6 ⟨b, n, x, v, vL', vK', L', K', j, bad, rfl, hv, hx, hl6, ht6, hj, h1, h2, h3⟩
          have HS6 := hide (HS5.out.called hl6 ht6)
          have H3 := hide (HR1.out b n x j bad L' K' h3)
          clear hl6 ht6 h3 HLF HR1
          have HM9 := hide (show (partV b n x 0 0 v).size = 9 from rfl)
          have HM1 := hide (partV_one b n x 0 0 v hv)
          have HPO := hide (show PartOut w B l s vL vK (L.length + Ward.room d) (K.length + Ward.room d) (Ward.rdNode d (decide (d = 6)) (Ward.at' s i L) = none) (fun i' L' K' b n x => ∃ t, Ward.PartGood d (decide (d = 6)) s i L K t i' L' K' b n x) (.returned (.agg (partV b n x 0 0 v))) (w6.setRow w.heap.size (partV b n x 0 0 v)) from part_end b n x v hv hx HS6.out hj (by omega) (by omega) H3.out)
          obtain ⟨z, hz, hzr⟩ := HS6.out.res
          have HZ := hide hz
          have HR0 := hide hzr
          generalize (partV b n x 0 0 v) = M at *
          clear hz hzr
          go_wp2_with (first | (fail) | (refine wpList_store_row rfl 150 (.tmp 4) (.tmp 79) rfl w.heap.size M rfl rfl 150 z HR0.out (by rw [HM9.out]; exact Tryz.infoPart) (by rw [HM9.out, HZ.out]) HM1.out ?_))
          refine bodyPost_ret (v := .agg M) ?_ rfl HPO.out
          exact results_cell_row rfl _ _ w.heap.size 150 M (0, 0) _ rfl (setRow_heap _ _ _ _ _ _ HR0.out) Tryz.underlying150 rfl (by rw [HM9.out]; exact Tryz.infoPart)
        · have hk2 : k = 2 := by omega
          subst hk2
          have hkd : kd = 2 := UInt8.toNat_inj.1 hk
          have hm1 : 0 < m := by
            rcases hm0 with h | ⟨h, _⟩
            · exact h
            · rw [h] at hkd; exact absurd hkd (by decide)
          have HREF := hide (HKR'.out e he)
          have hde : dp + e = 6 := by omega
          have HFN := hide (show Ward.rdMany (Ward.rdKid e (Ward.rdNode e false)) m (Ward.at' s (i + 2) L) = none → Ward.rdNode d (decide (d = 6)) (Ward.at' s i L) = none from fun h => by
            subst he
            exact Ward.node_none h h2l hm4 hm1 (by rw [HKD.out, hkd]) HMM.out)
          have HGN := hide (show ∀ cs j L' K' b n x, Ward.KidsGood e m s (i + 2) L K m cs j L' K' b n x → ∃ t, Ward.PartGood d (decide (d = 6)) s i L K t j L' K' b n x from fun cs j L' K' b n x h => by
            subst he
            exact ⟨_, h.node h2l hm4 hm1 (by rw [HKD.out, hkd]) HMM.out⟩)
          clear hk12 hk12' hm0 hkd hk hk1 HKR' he
          have HCV := hide (conv_lead2 m hm4 w5)
          have hcv := HCV.out
          have hw8 : IntKind.u8.wrap (m : Int) = (m : Int) := by
            simp [IntKind.wrap, IntKind.signed, IntKind.bits]
            omega
          have HS6' := hide (fun o => HS5.out.below ((Below.refl w5.heap.size w5).alloc (Nat.le_refl _) o))
          have q5 : ∀ o, (w5.alloc o).cell? ⟨w.heap.size + 1, 5, none⟩ = some (Sv []) := fun o => row_cell (HS6'.out o).row rfl
          have qf : ∀ o, (w5.alloc o).frozen? ⟨w.heap.size + 1, 5, none⟩ = false := fun o => frozen_of_row _ _ _ _ _ (HS6'.out o).row
          go_upto_region 15 with fail
          have HL0 := hide (show PaLoop w B l s i e m vL vK L K 0 (i + 2) false vL vK L K ⟨0, 0, 0, 0⟩ 0 [2, UInt8.ofNat m] ((w5.alloc (.cells #[.int .u8 2, .int .u8 (m : Int)] 5)).setCell ⟨w.heap.size + 1, 5, none⟩ (Sv [2, UInt8.ofNat m])) from
            ⟨(HS6'.out _).wrote 5 (Sv [2, UInt8.ofNat m]), h2l, by omega, by omega, by simp, by omega, .inr ⟨rfl, [], Ward.KidsGood.start e m s (i + 2) L K⟩⟩)
          generalize (w5.alloc (.cells #[.int .u8 2, .int .u8 (m : Int)] 5)).setCell ⟨w.heap.size + 1, 5, none⟩ (Sv [2, UInt8.ofNat m]) = w6 at HL0 ⊢
          clear HCV hcv HS6' q5 qf HS5 hw8
          go_loopw [9] (fun v9 wq => ∃ (q j : Nat) (bad : Bool) (vL' vK' : Value) (L' : List Ward.Pt) (K' : List Ward.Chd) (b : Ward.Box) (n : Int) (x : List UInt8), q ≤ m ∧ v9 = .int .i64 q ∧ PaLoop w B l s i e m vL vK L K q j bad vL' vK' L' K' b n x wq) (fun v9 _ => m - (intOf v9).toNat)
          case atStart => exact ⟨0, i + 2, false, vL, vK, L, K, _, _, _, by omega, rfl, HL0.out⟩
          case round =>
            obtain ⟨q, j, bad, vL', vK', L', K', b, n, x, hq, rfl, hlo⟩ := hrel
            have HLO := hide hlo
            have hqr : q * (1 + Ward.room e) ≤ 4 * (1 + Ward.room e) := Nat.mul_le_mul_right _ (by omega)
            have hj := hlo.le
            have hlL := hlo.lL
            have hlK := hlo.lK
            have hlx := hlo.lx
            have hln := hlo.ln
            have hbc : wr.cell? ⟨l, 2, none⟩ = some (.bool bad) := row_cell hlo.st.look.row rfl
            clear hlo HL0
            by_cases hq2 : q < m
            · have hqI : (q : Int) < (m : Int) := by omega
              cases bad with
              | true =>
                have H3 := hide (show (true = true ∧ Ward.rdNode d (decide (d = 6)) (Ward.at' s i L) = none) ∨ (true = false ∧ ∃ t, Ward.PartGood d (decide (d = 6)) s i L K t j L' K' b n x) from by
                  rcases HLO.out.is with ⟨h, h1⟩ | ⟨h, _⟩
                  · exact .inl ⟨h, HFN.out h1⟩
                  · cases h)
                have HST := hide HLO.out.st
                have HM9 := hide (show (partV b n x 0 0 (.slice none 0 0)).size = 9 from rfl)
                have HM1 := hide (partV_one b n x 0 0 (.slice none 0 0) rfl)
                have HPO := hide (show PartOut w B l s vL vK (L.length + Ward.room d) (K.length + Ward.room d) (Ward.rdNode d (decide (d = 6)) (Ward.at' s i L) = none) (fun i' L' K' b n x => ∃ t, Ward.PartGood d (decide (d = 6)) s i L K t i' L' K' b n x) (.returned (.agg (partV b n x 0 0 (.slice none 0 0)))) (wr.setRow w.heap.size (partV b n x 0 0 (.slice none 0 0))) from part_end b n x (.slice none 0 0) rfl (by omega) HST.out hj (by omega) (by omega) H3.out)
                obtain ⟨z, hz, hzr⟩ := HST.out.res
                have HZ := hide hz
                have HR0 := hide hzr
                have HGC := hide HST.out.row
                generalize (partV b n x 0 0 (.slice none 0 0)) = M at *
                clear hz hzr
                go_wp2_with (first | (refine wpList_load_row rfl 150 (.tmp 5) rfl (w.heap.size + 1) rfl 150 M (0, 0) _ HGC.out Tryz.underlying150 rfl (by rw [HM9.out]; exact Tryz.infoPart) ?_) | (refine wpList_store_row rfl 150 (.tmp 4) (.tmp 132) rfl w.heap.size M rfl rfl 150 z HR0.out (by rw [HM9.out]; exact Tryz.infoPart) (by rw [HM9.out, HZ.out]) HM1.out ?_))
                refine bodyPost_ret (v := .agg M) ?_ rfl HPO.out
                exact results_cell_row rfl _ _ w.heap.size 150 M (0, 0) _ rfl (setRow_heap _ _ _ _ _ _ HR0.out) Tryz.underlying150 rfl (by rw [HM9.out]; exact Tryz.infoPart)
              | false =>
                have hq3 : q * (1 + Ward.room e) ≤ 3 * (1 + Ward.room e) := Nat.mul_le_mul_right _ (by omega)
                have HCH := hide (HREF.out dp wr B l s j vL' vK' L' K' hde HLO.out.st.look (by have := HLO.out.st.lt; omega) hj hs (by omega) (by omega))
                clear HREF
                go_wp2_with fail
                refine HCH.out.mono ?_
                rintro _ w7 ⟨c, v, vL2, vK2, L2, K2, j2, bad2, rfl, hv, hcd, hcn, hl7, ht7, hj2, h1, h2, h3⟩
                have HS7 := hide (HLO.out.st.called hl7 ht7)
                have HQE := hide (show ((bad2 = true ∧ Ward.rdMany (Ward.rdKid e (Ward.rdNode e false)) m (Ward.at' s (i + 2) L) = none) ∨ (bad2 = false ∧ ∃ cs, Ward.KidsGood e m s (i + 2) L K (q + 1) cs j2 L2 K2 (if q = 0 then Ward.join c.box c.box else Ward.join b c.box) (n + c.n) (x ++ (Ward.boxText c.box ++ Ward.fourI c.n ++ c.dig)))) from by
                  rcases HLO.out.is with ⟨h, _⟩ | ⟨_, cs, hg⟩
                  · cases h
                  rcases h3 with ⟨e1, h3⟩ | ⟨e1, t, h3⟩
                  · exact .inl ⟨e1, hg.none hq2 h3⟩
                  · exact .inr ⟨e1, _, hg.step hq2 h3⟩)
                have HLL := hide (show L2.length ≤ L.length + (q + 1) * (1 + Ward.room e) by rw [Nat.succ_mul]; omega)
                have HLK := hide (show K2.length ≤ K.length + (q + 1) * (1 + Ward.room e) by rw [Nat.succ_mul]; omega)
                have HM16 := hide (show (kidV c v).toArray.size = 16 from rfl)
                have HM1 := hide (kidV_all c v hv)
                have HK8 := hide (show PaKid w B l s j2 bad2 vL vK vL2 vK2 L2 K2 (partV b n x 0 0 (.slice none 0 0)) w7.heap.size (kidV c v).toArray (w7.alloc (.cells (kidV c v).toArray 196)) from
                  ⟨HS7.out.below ((Below.refl w7.heap.size w7).alloc (Nat.le_refl _) _), heap_alloc_new w7 _, HS7.out.lt⟩)
                obtain ⟨M, hM⟩ : ∃ M, (kidV c v).toArray = M := ⟨_, rfl⟩
                rw [hM] at HM16 HM1 ⊢
                have HM := hide hM
                clear hM hl7 ht7 h1 h2 h3 HCH hbc
                go_upto_region 18 with (refine wpList_store_row rfl 196 (.tmp 10) (.tmp 99) rfl w7.heap.size M rfl rfl 196 _ (heap_alloc_new w7 _) (by rw [HM16.out]; exact Tryz.infoKid) (by rw [HM16.out]; rfl) HM1.out ?_; rw [World.setRow_alloc_new])
                rw [← HM.out]
                generalize w7.alloc (.cells (kidV c v).toArray 196) = w8 at HK8 ⊢
                generalize w7.heap.size = gk at HK8 ⊢
                obtain ⟨⟨ca, cb, cc, cdd⟩, cn, cd, csh, crb, crn, crt⟩ := c
                simp only at hcd hcn HQE
                have HKL := hide (show ∀ W : World, W.heap[gk]? = some (.cells (kidV ⟨⟨ca, cb, cc, cdd⟩, cn, cd, csh, crb, crn, crt⟩ v).toArray 196 (0, 0)) → W.cell? ⟨gk, 0, none⟩ = some (I ca) ∧ W.cell? ⟨gk, 1, none⟩ = some (I cb) ∧ W.cell? ⟨gk, 2, none⟩ = some (I cc) ∧ W.cell? ⟨gk, 3, none⟩ = some (I cdd) ∧ W.cell? ⟨gk, 4, none⟩ = some (I cn) ∧ W.cell? ⟨gk, 5, none⟩ = some (Sv cd) from fun W h => kid4 h)
                generalize (kidV ⟨⟨ca, cb, cc, cdd⟩, cn, cd, csh, crb, crn, crt⟩ v).toArray = ks at *
                obtain ⟨k0, k1, k2, k3, k4, k5⟩ := HKL.out w8 HK8.out.kid
                have HTX := hide (text_ref ⟨ca, cb, cc, cdd⟩ w8)
                have HSG := hide (fun W => signed_ref cn W)
                have lt : (Ward.boxText ⟨ca, cb, cc, cdd⟩).length = 16 := rfl
                have lf : (Ward.fourI cn).length = 4 := rfl
                generalize Ward.boxText ⟨ca, cb, cc, cdd⟩ = tx at *
                generalize Ward.fourI cn = tf at *
                clear HM16 HM1 HM HS7
                go_wp2_with fail
                refine HTX.out.mono ?_
                rintro _ w9 ⟨rfl, hb9⟩
                have HK9 := hide (HK8.out.below hb9)
                clear hb9 k0 k1 k2 k3 k4 k5 HTX HK8
                go_upto_region 19 with fail
                have ha1 := add_str x tx (by omega)
                have ha2 := add_str (x ++ tx) tf (by rw [List.length_append]; omega)
                have ha3 := add_str (x ++ tx ++ tf) cd (by rw [List.length_append, List.length_append]; omega)
                obtain ⟨X3, hX3⟩ : ∃ X, x ++ tx ++ tf ++ cd = X := ⟨_, rfl⟩
                have HX3 := hide (show x ++ (tx ++ tf ++ cd) = X3 by rw [← hX3]; simp)
                have hX3l : X3.length ≤ 2 + 52 * (q + 1) := by rw [← hX3, List.length_append, List.length_append, List.length_append]; omega
                rw [hX3] at ha3
                obtain ⟨X2, hX2⟩ : ∃ X, x ++ tx ++ tf = X := ⟨_, rfl⟩
                rw [hX2] at ha2 ha3
                obtain ⟨X1, hX1⟩ : ∃ X, x ++ tx = X := ⟨_, rfl⟩
                rw [hX1] at ha1 ha2
                clear hX3 hX2 hX1 lt lf
                rw [HX3.out] at HQE
                go_cut [] from 103 to 114 (fun wx => PaKid w B l s j2 bad2 vL vK vL2 vK2 L2 K2 (partV b n X3 0 0 (.slice none 0 0)) gk ks wx)
                case first =>
                  obtain ⟨-, -, -, -, k4, k5⟩ := HKL.out w9 HK9.out.kid
                  have p5 : w9.cell? ⟨w.heap.size + 1, 5, none⟩ = some (Sv x) := row_cell HK9.out.st.row rfl
                  have hgp : w.heap.size + 1 < w9.heap.size := HK9.out.st.lt
                  have hgk : gk < w9.heap.size := HK9.out.lt
                  have HCL := hide (fun (W W' : World) (hb : Below W.heap.size W W') (h1 : w.heap.size + 1 < W.heap.size) (h2 : gk < W.heap.size) (h : W.cell? ⟨w.heap.size + 1, 5, none⟩ = some (Sv x) ∧ W.cell? ⟨gk, 4, none⟩ = some (I cn) ∧ W.cell? ⟨gk, 5, none⟩ = some (Sv cd)) => show W'.cell? ⟨w.heap.size + 1, 5, none⟩ = some (Sv x) ∧ W'.cell? ⟨gk, 4, none⟩ = some (I cn) ∧ W'.cell? ⟨gk, 5, none⟩ = some (Sv cd) from ⟨(hb.cell (p := ⟨w.heap.size + 1, 5, none⟩) h1).trans h.1, (hb.cell (p := ⟨gk, 4, none⟩) h2).trans h.2.1, (hb.cell (p := ⟨gk, 5, none⟩) h2).trans h.2.2⟩)
                  have hS : w9.drew.cell? ⟨w.heap.size + 1, 5, none⟩ = some (Sv x) ∧ w9.drew.cell? ⟨gk, 4, none⟩ = some (I cn) ∧ w9.drew.cell? ⟨gk, 5, none⟩ = some (Sv cd) := ⟨by simpa using p5, by simpa using k4, by simpa using k5⟩
                  refine wp_region_L 12 (fun W => W.cell? ⟨w.heap.size + 1, 5, none⟩ = some (Sv x) ∧ W.cell? ⟨gk, 4, none⟩ = some (I cn) ∧ W.cell? ⟨gk, 5, none⟩ = some (Sv cd)) (by kernel_rfl) hS (fun hH => ?_)
                  refine wpAnyL_take (i := 0) (v := ?_) rfl (by kernel_rfl) (by kernel_rfl) (by kernel_rfl) (by kernel_rfl) (by kernel_rfl) (fun _ _ _ h => h) (Or.inl ⟨by rfl, ?_⟩) hH ?_
                  rotate_left
                  · intro W hSW
                    obtain ⟨z0, z1, z2⟩ := hSW
                    go_simp
                    try with_reducible rfl
                  try go_simp
                  refine wpAnyL_take (i := 1) (v := ?_) rfl (by kernel_rfl) (by kernel_rfl) (by kernel_rfl) (by kernel_rfl) (by kernel_rfl) (fun _ _ _ h => h) (Or.inl ⟨by rfl, ?_⟩) hH ?_
                  rotate_left
                  · intro W hSW
                    obtain ⟨z0, z1, z2⟩ := hSW
                    go_simp
                    try with_reducible rfl
                  try go_simp
                  refine wpAnyL_take (i := 2) (v := ?_) rfl (by kernel_rfl) (by kernel_rfl) (by kernel_rfl) (by kernel_rfl) (by kernel_rfl) (fun _ _ _ h => h) (Or.inl ⟨by rfl, ?_⟩) hH ?_
                  rotate_left
                  · intro W hSW
                    obtain ⟨z0, z1, z2⟩ := hSW
                    go_simp
                    try with_reducible rfl
                  try go_simp
                  refine wpAnyL_take (i := 3) (v := ?_) rfl (by kernel_rfl) (by kernel_rfl) (by kernel_rfl) (by kernel_rfl) (by kernel_rfl) (fun _ _ _ h => h) (Or.inl ⟨by rfl, ?_⟩) hH ?_
                  rotate_left
                  · intro W hSW
                    obtain ⟨z0, z1, z2⟩ := hSW
                    go_simp
                    try with_reducible rfl
                  try go_simp
                  refine wpAnyL_take (i := 4) (v := ?_) rfl (by kernel_rfl) (by kernel_rfl) (by kernel_rfl) (by kernel_rfl) (by kernel_rfl) (fun _ _ _ h => h) (Or.inl ⟨by rfl, ?_⟩) hH ?_
                  rotate_left
                  · intro W hSW
                    obtain ⟨z0, z1, z2⟩ := hSW
                    go_simp
                    try with_reducible rfl
                  try go_simp
                  refine wpAnyL_take (i := 5) (v := ?_) rfl (by kernel_rfl) (by kernel_rfl) (by kernel_rfl) (by kernel_rfl) (by kernel_rfl) (fun _ _ _ h => h) (Or.inl ⟨by rfl, ?_⟩) hH ?_
                  rotate_left
                  · intro W hSW
                    obtain ⟨z0, z1, z2⟩ := hSW
                    go_simp
                    try with_reducible rfl
                  try go_simp
                  refine wpAnyL_take (i := 8) (v := ?_) rfl (by kernel_rfl) (by kernel_rfl) (by kernel_rfl) (by kernel_rfl) (by kernel_rfl) (fun _ _ _ h => h) (Or.inl ⟨by rfl, ?_⟩) hH ?_
                  rotate_left
                  · intro W hSW
                    obtain ⟨z0, z1, z2⟩ := hSW
                    go_simp
                    try with_reducible rfl
                  try go_simp
                  refine wpAnyL_take (i := 9) (v := ?_) rfl (by kernel_rfl) (by kernel_rfl) (by kernel_rfl) (by kernel_rfl) (by kernel_rfl) (fun _ _ _ h => h) (Or.inl ⟨by rfl, ?_⟩) hH ?_
                  rotate_left
                  · intro W hSW
                    obtain ⟨z0, z1, z2⟩ := hSW
                    go_simp
                    try with_reducible rfl
                  try go_simp
                  refine wpAnyL_one (i := 6) (by kernel_rfl) rfl (fun K hK => ?_)
                  go_simp
                  refine (HSG.out _).mono ?_
                  rintro _ w10 ⟨rfl, hb10⟩
                  have hS10 := HCL.out _ _ hb10 hgp hgk hS
                  have HK10 := hide (HK9.out.below ((show Below w9.heap.size w9 w9.drew from (Below.refl _ _).drew).trans hb10))
                  have f10 : w10.frozen? ⟨w.heap.size + 1, 5, none⟩ = false := frozen_of_row _ _ _ _ _ HK10.out.st.row
                  refine hK.out _ _ (fun _ => hS10) ?_
                  clear hK K hb10 hS
                  try go_simp
                  refine wpAnyL_take (i := 7) (v := ?_) rfl (by kernel_rfl) (by kernel_rfl) (by kernel_rfl) (by kernel_rfl) (by kernel_rfl) (fun _ _ _ h => h) (Or.inl ⟨by rfl, ?_⟩) hS10 ?_
                  rotate_left
                  · intro W hSW
                    obtain ⟨z0, z1, z2⟩ := hSW
                    go_simp
                    try with_reducible rfl
                  try go_simp
                  refine wpAnyL_take (i := 10) (v := ?_) rfl (by kernel_rfl) (by kernel_rfl) (by kernel_rfl) (by kernel_rfl) (by kernel_rfl) (fun _ _ _ h => h) (Or.inl ⟨by rfl, ?_⟩) hS10 ?_
                  rotate_left
                  · intro W hSW
                    obtain ⟨z0, z1, z2⟩ := hSW
                    go_simp
                    try with_reducible rfl
                  try go_simp
                  refine wpAnyL_take (i := 11) (v := ?_) rfl (by kernel_rfl) (by kernel_rfl) (by kernel_rfl) (by kernel_rfl) (by kernel_rfl) (fun _ _ _ h => h) (Or.inl ⟨by rfl, ?_⟩) hS10 ?_
                  rotate_left
                  · intro W hSW
                    obtain ⟨z0, z1, z2⟩ := hSW
                    go_simp
                    try with_reducible rfl
                  try go_simp
                  refine wpAnyL_one (i := 12) (by kernel_rfl) rfl (fun K hK => ?_)
                  go_simp
                  refine hK.out _ _ (fun h => absurd rfl h) ?_
                  clear hK K
                  refine wpAnyL_done (by kernel_rfl) ?_ _
                  go_wp2_with fail
                  go_meet
                  exact HK10.out.wrote 5 (Sv X3)
                case rest =>
                  have HK11 := hide hcut
                  clear hcut HK9 ha1 ha2 ha3
                  have p4 : wc.cell? ⟨w.heap.size + 1, 4, none⟩ = some (I n) := row_cell HK11.out.st.row rfl
                  have pf4 : wc.frozen? ⟨w.heap.size + 1, 4, none⟩ = false := frozen_of_row _ _ _ _ _ HK11.out.st.row
                  obtain ⟨-, -, -, -, k4, -⟩ := HKL.out wc HK11.out.kid
                  have hwn : IntKind.i64.wrap (n + cn) = n + cn := by rw [IntKind.wrap_i64]; omega
                  go_upto_region 21 with fail
                  have HK12 : Hid (PaKid w B l s j2 bad2 vL vK vL2 vK2 L2 K2 (partV b (n + cn) X3 0 0 (.slice none 0 0)) gk ks (wc.setCell ⟨w.heap.size + 1, 4, none⟩ (I (n + cn)))) := hide (HK11.out.wrote 4 (I (n + cn)))
                  generalize wc.setCell ⟨w.heap.size + 1, 4, none⟩ (I (n + cn)) = w12 at HK12 ⊢
                  clear p4 pf4 k4 HK11 hwn
                  obtain ⟨k0, k1, k2, k3, -, -⟩ := HKL.out w12 HK12.out.kid
                  obtain ⟨p0, p1, p2, p3, pf⟩ := cells4 HK12.out.st.row
                  by_cases hq0 : q = 0
                  · rw [if_pos hq0] at HQE
                    have hqb : ((q : Int) == 0) = true := by simp; omega
                    have hq0I : (q : Int) = 0 := by omega
                    obtain ⟨ba, bb, bc, bd⟩ := b
                    dsimp only at p0 p1 p2 p3
                    go_upto_region 23 with fail
                    have HKX := hide (HK12.out.boxed ca cb cc cdd)
                    generalize ((((w12.setCell ⟨w.heap.size + 1, 0, none⟩ (I ca)).setCell ⟨w.heap.size + 1, 1, none⟩ (I cb)).setCell ⟨w.heap.size + 1, 2, none⟩ (I cc)).setCell ⟨w.heap.size + 1, 3, none⟩ (I cdd)) = w13 at HKX ⊢
                    clear k0 k1 k2 k3 p0 p1 p2 p3 pf HK12
                    obtain ⟨k0, k1, k2, k3, -, -⟩ := HKL.out w13 HKX.out.kid
                    obtain ⟨p0, p1, p2, p3, pf⟩ := cells4 HKX.out.st.row
                    dsimp only at p0 p1 p2 p3
                    have HBO := hide (both_ref ⟨ca, cb, cc, cdd⟩ ⟨ca, cb, cc, cdd⟩ w13)
                    go_wp2_with fail
                    refine HBO.out.mono ?_
                    rintro _ wJ ⟨rfl, hbJ⟩
                    have HK14 := hide (HKX.out.below hbJ)
                    obtain ⟨m0, m1, m2, m3, mf⟩ := cells4 HK14.out.st.row
                    clear hbJ p0 p1 p2 p3 pf k0 k1 k2 k3 HKX HBO
                    generalize Ward.join ⟨ca, cb, cc, cdd⟩ ⟨ca, cb, cc, cdd⟩ = J at *
                    obtain ⟨ja, jb, jc, jd⟩ := J
                    try dsimp only at m0 m1 m2 m3
                    have HEND := hide (show PaLoop w B l s i e m vL vK L K (q + 1) j2 bad2 vL2 vK2 L2 K2 ⟨ja, jb, jc, jd⟩ (n + cn) X3 ((((wJ.setCell ⟨w.heap.size + 1, 0, none⟩ (I ja)).setCell ⟨w.heap.size + 1, 1, none⟩ (I jb)).setCell ⟨w.heap.size + 1, 2, none⟩ (I jc)).setCell ⟨w.heap.size + 1, 3, none⟩ (I jd)) from
                      ⟨(HK14.out.boxed ja jb jc jd).st, hj2, HLL.out, HLK.out, hX3l, by omega, HQE.out⟩)
                    go_wp2_with fail
                    go_roundw
                    case rel => exact ⟨q + 1, j2, bad2, vL2, vK2, L2, K2, _, _, _, hq2, by go_num, HEND.out⟩
                    case measure => simp [intOf]; omega
                  · rw [if_neg hq0] at HQE
                    have hqb : ((q : Int) == 0) = false := by simp; omega
                    have hq0I : ¬ (q : Int) = 0 := by omega
                    have HKX := hide HK12.out
                    obtain ⟨BA, hBA⟩ : ∃ BA : Ward.Box, BA = b := ⟨_, rfl⟩
                    have HBO := hide (both_ref b ⟨ca, cb, cc, cdd⟩ w12)
                    go_wp2_with fail
                    refine HBO.out.mono ?_
                    rintro _ wJ ⟨rfl, hbJ⟩
                    rw [← hBA] at HQE ⊢
                    clear HK12
                    have HK14 := hide (HKX.out.below hbJ)
                    obtain ⟨m0, m1, m2, m3, mf⟩ := cells4 HK14.out.st.row
                    clear hbJ p0 p1 p2 p3 pf k0 k1 k2 k3 HKX HBO
                    generalize Ward.join BA ⟨ca, cb, cc, cdd⟩ = J at *
                    obtain ⟨ja, jb, jc, jd⟩ := J
                    try dsimp only at m0 m1 m2 m3
                    have HEND := hide (show PaLoop w B l s i e m vL vK L K (q + 1) j2 bad2 vL2 vK2 L2 K2 ⟨ja, jb, jc, jd⟩ (n + cn) X3 ((((wJ.setCell ⟨w.heap.size + 1, 0, none⟩ (I ja)).setCell ⟨w.heap.size + 1, 1, none⟩ (I jb)).setCell ⟨w.heap.size + 1, 2, none⟩ (I jc)).setCell ⟨w.heap.size + 1, 3, none⟩ (I jd)) from
                      ⟨(HK14.out.boxed ja jb jc jd).st, hj2, HLL.out, HLK.out, hX3l, by omega, HQE.out⟩)
                    go_wp2_with fail
                    go_roundw
                    case rel => exact ⟨q + 1, j2, bad2, vL2, vK2, L2, K2, _, _, _, hq2, by go_num, HEND.out⟩
                    case measure => simp [intOf]; omega
            · have hqI : ¬ (q : Int) < (m : Int) := by omega
              obtain rfl : q = m := by omega
              have H3 := hide (show (bad = true ∧ Ward.rdNode d (decide (d = 6)) (Ward.at' s i L) = none) ∨ (bad = false ∧ ∃ t, Ward.PartGood d (decide (d = 6)) s i L K t j L' K' b n x) from by
                rcases HLO.out.is with ⟨h, h1⟩ | ⟨h, cs, h1⟩
                · exact .inl ⟨h, HFN.out h1⟩
                · exact .inr ⟨h, HGN.out cs j L' K' b n x h1⟩)
              have HST := hide HLO.out.st
              have HM9 := hide (show (partV b n x 0 0 (.slice none 0 0)).size = 9 from rfl)
              have HM1 := hide (partV_one b n x 0 0 (.slice none 0 0) rfl)
              have HPO := hide (show PartOut w B l s vL vK (L.length + Ward.room d) (K.length + Ward.room d) (Ward.rdNode d (decide (d = 6)) (Ward.at' s i L) = none) (fun i' L' K' b n x => ∃ t, Ward.PartGood d (decide (d = 6)) s i L K t i' L' K' b n x) (.returned (.agg (partV b n x 0 0 (.slice none 0 0)))) (wr.setRow w.heap.size (partV b n x 0 0 (.slice none 0 0))) from part_end b n x (.slice none 0 0) rfl (by omega) HST.out hj (by omega) (by omega) H3.out)
              obtain ⟨z, hz, hzr⟩ := HST.out.res
              have HZ := hide hz
              have HR0 := hide hzr
              have HGC := hide HST.out.row
              generalize (partV b n x 0 0 (.slice none 0 0)) = M at *
              clear hz hzr
              go_wp2_with (first | (refine wpList_load_row rfl 150 (.tmp 5) rfl (w.heap.size + 1) rfl 150 M (0, 0) _ HGC.out Tryz.underlying150 rfl (by rw [HM9.out]; exact Tryz.infoPart) ?_) | (refine wpList_store_row rfl 150 (.tmp 4) (.tmp 132) rfl w.heap.size M rfl rfl 150 z HR0.out (by rw [HM9.out]; exact Tryz.infoPart) (by rw [HM9.out, HZ.out]) HM1.out ?_))
              refine bodyPost_ret (v := .agg M) ?_ rfl HPO.out
              exact results_cell_row rfl _ _ w.heap.size 150 M (0, 0) _ rfl (setRow_heap _ _ _ _ _ _ HR0.out) Tryz.underlying150 rfl (by rw [HM9.out]; exact Tryz.infoPart)
end Go.Proofs.YtenaelkbgkpllaaGreatDoor
/- The document's Look: a part, so deep; two boxes held against each other. -/
namespace Go.Proofs.YtenaelkbgkpllaaGreatDoor
open Go.RowKit

theorem kidRef_of {d : Nat} (h : PartRef d false) : KidRef d := fun dp _ _ _ _ _ _ _ _ _ hdp hl hB hi hs hL hK => look_child d dp hdp h hl hB hi hs hL hK
theorem look_ref : ∀ d, d ≤ 6 → PartRef d (decide (d = 6))
  | 0, _ => look_part 0 (by omega) (fun e h => by omega)
  | d + 1, hd => look_part (d + 1) hd (fun e h => by
    obtain rfl : d = e := by omega
    have h1 := look_ref d (by omega)
    rw [decide_eq_false (by omega)] at h1
    exact kidRef_of h1)
theorem look_root : PartRef 6 true := look_ref 6 (by omega)
theorem eqBoxR (b c : Ward.Box) (W : World) : (Op.equalIn 10000 148 (.agg #[I b.a, I b.b, I b.c, I b.d]) (.agg #[I c.a, I c.b, I c.c, I c.d])).run Tryz.prog W = .ok (Ward.boxEq b c) W := by
  have u3 := Tryz.underlying3
  have a3 := Tryz.isAgg3
  have z3 := Tryz.sizeOf3
  have hS : Tryz.prog.underlying 148 = some (.struct (Tryz.prog.fieldsOf 148)) := by kernel_rfl
  have hp : Tryz.prog.stoodInHeld 148 = false := by kernel_rfl
  rw [show (10000 : Nat) = 9999 + 1 from rfl, run_equalIn_agg W 9999 148 _ _ hS hp]
  simp only [Program.fieldsOf, Tryz.underlying148]
  go_simp
  unfold Ward.boxEq
  by_cases h1 : b.a = c.a <;> by_cases h2 : b.b = c.b <;> by_cases h3 : b.c = c.c <;> by_cases h4 : b.d = c.d <;> simp [h1, h2, h3, h4]
end Go.Proofs.YtenaelkbgkpllaaGreatDoor
/- The document's off, far, distance. -/
namespace Go.Proofs.YtenaelkbgkpllaaGreatDoor
open Go.RowKit

abbrev Bxr (b : Ward.Box) : Value := .agg #[I b.a, I b.b, I b.c, I b.d]
/-- a number that is a coordinate -/
def Co (n : Int) : Prop := -1000000 ≤ n ∧ n ≤ 1000000
set_option maxRecDepth 100000 in
set_option maxHeartbeats 1000000 in
theorem off_ref (n lo hi : Int) (w : World) (hn : Co n) (hl : Co lo) (hh : Co hi) :
    Calls Tryz.prog 183 #[I n, I lo, I hi] w fun e w' => e = .returned (I (Ward.offI n lo hi)) ∧ w' = w := by
  obtain ⟨n1, n2⟩ := hn
  obtain ⟨l1, l2⟩ := hl
  obtain ⟨h1, h2⟩ := hh
  go_enter Tryz.func183, Tryz.ntmps183
  by_cases c1 : n < lo
  · go_wp2
    go_ret
    exact ⟨by rw [show Ward.offI n lo hi = lo - n by unfold Ward.offI; rw [if_pos (by omega)]]; rfl, rfl⟩
  · by_cases c2 : hi < n
    · go_wp2
      go_ret
      exact ⟨by rw [show Ward.offI n lo hi = n - hi by unfold Ward.offI; rw [if_neg (by omega), if_pos (by omega)]]; rfl, rfl⟩
    · go_wp2
      go_ret
      exact ⟨by rw [show Ward.offI n lo hi = 0 by unfold Ward.offI; rw [if_neg (by omega), if_neg (by omega)]]; rfl, rfl⟩
theorem off_le {n lo hi : Int} (hn : Co n) (hl : Co lo) (hh : Co hi) : 0 ≤ Ward.offI n lo hi ∧ Ward.offI n lo hi ≤ 2000000 := by
  unfold Co at *
  unfold Ward.offI
  split
  · omega
  · split <;> omega
theorem sq_small {a : Int} (h1 : -2000000 ≤ a) (h2 : a ≤ 2000000) : 0 ≤ a * a ∧ a * a ≤ 4000000000000 := by
  rcases Int.le_total 0 a with h | h
  · exact sq_le h h2
  · have := sq_le (u := -a) (by omega) (by omega)
    rwa [Int.neg_mul_neg] at this
set_option maxRecDepth 100000 in
set_option maxHeartbeats 2000000 in
theorem distance_ref (p : Ward.Pt) (q : Ward.Qr) (w : World) (hx : Co p.x) (hy : Co p.y) (hqx : Co q.x) (hqy : Co q.y) :
    Calls Tryz.prog 138 #[.agg #[I p.id, I p.x, I p.y], Qv q] w fun e w' => e = .returned (I (Ward.distP p q.x q.y)) ∧ Below w.heap.size w w' := by
  have HD := hide (Ward.distP_is p q.x q.y)
  obtain ⟨pi, px, py⟩ := p
  obtain ⟨kd, qa, qb, qc, qd, qx, qy, qk⟩ := q
  obtain ⟨x1, x2⟩ := hx
  obtain ⟨y1, y2⟩ := hy
  obtain ⟨u1, u2⟩ := hqx
  obtain ⟨v1, v2⟩ := hqy
  simp only at *
  obtain ⟨s0, s1⟩ := sq_small (a := px - qx) (by omega) (by omega)
  obtain ⟨t0, t1⟩ := sq_small (a := py - qy) (by omega) (by omega)
  have e1 : IntKind.i64.wrap ((px - qx) * (px - qx)) = (px - qx) * (px - qx) := by rw [IntKind.wrap_i64]; omega
  have e2 : IntKind.i64.wrap ((py - qy) * (py - qy)) = (py - qy) * (py - qy) := by rw [IntKind.wrap_i64]; omega
  have e3 : IntKind.i64.wrap ((px - qx) * (px - qx) + (py - qy) * (py - qy)) = (px - qx) * (px - qx) + (py - qy) * (py - qy) := by rw [IntKind.wrap_i64]; omega
  go_enter Tryz.func138, Tryz.ntmps138
  go_wp2
  go_ret
  exact ⟨by rw [HD.out]; rfl, ((Below.refl w.heap.size w).alloc (Nat.le_refl _) _).alloc (by simp) _⟩
/-- a box and a query, laid -/
theorem two_rows (w : World) (X Z : Array Value) (a b : TypeId) : Below w.heap.size w ((w.alloc (.cells X a)).alloc (.cells Z b)) ∧ ((w.alloc (.cells X a)).alloc (.cells Z b)).heap[w.heap.size]? = some (.cells X a (0, 0)) ∧ ((w.alloc (.cells X a)).alloc (.cells Z b)).heap[w.heap.size + 1]? = some (.cells Z b (0, 0)) := by
  have h1 := (Below.refl w.heap.size w).alloc (Nat.le_refl _) (.cells X a)
  have e1 : (w.alloc (.cells X a)).heap.size = w.heap.size + 1 := by simp
  refine ⟨h1.alloc (by omega) _, ?_, ?_⟩
  · rw [Below.heap_alloc _ _ _ (by omega)]; exact heap_alloc_new w _
  · have := heap_alloc_new (w.alloc (.cells X a)) (.cells Z b)
    rw [e1] at this
    exact this
set_option maxRecDepth 100000 in
set_option maxHeartbeats 2000000 in
theorem far_ref (b : Ward.Box) (q : Ward.Qr) (w : World) (hb : b.In) (hu : b.up) (hqx : Co q.x) (hqy : Co q.y) :
    Calls Tryz.prog 163 #[Bxr b, Qv q] w fun e w' => e = .returned (I (Ward.dist b q.x q.y)) ∧ Below w.heap.size w w' := by
  obtain ⟨a1, a2, b1, b2, c1, c2, d1, d2⟩ := hb
  have HD := hide (show Ward.dist b q.x q.y = Ward.offI q.x b.a b.c * Ward.offI q.x b.a b.c + Ward.offI q.y b.b b.d * Ward.offI q.y b.b b.d by unfold Ward.dist; rw [Ward.off_gap hu.1, Ward.off_gap hu.2])
  have HX := hide (fun W => off_ref q.x b.a b.c W hqx ⟨a1, a2⟩ ⟨c1, c2⟩)
  have HY := hide (fun W => off_ref q.y b.b b.d W hqy ⟨b1, b2⟩ ⟨d1, d2⟩)
  obtain ⟨x0, x1⟩ := off_le hqx ⟨a1, a2⟩ (⟨c1, c2⟩ : Co b.c)
  obtain ⟨y0, y1⟩ := off_le hqy ⟨b1, b2⟩ (⟨d1, d2⟩ : Co b.d)
  obtain ⟨s0, s1⟩ := sq_le x0 x1
  obtain ⟨t0, t1⟩ := sq_le y0 y1
  have HTR := hide (two_rows w #[I b.a, I b.b, I b.c, I b.d] #[I q.kind, I q.a, I q.b, I q.c, I q.d, I q.x, I q.y, I q.k] 148 46)
  generalize Ward.offI q.x b.a b.c = ox at *
  generalize Ward.offI q.y b.b b.d = oy at *
  obtain ⟨ba, bb, bc, bd⟩ := b
  obtain ⟨kd, qa, qb, qc, qd, qx, qy, qk⟩ := q
  simp only at *
  go_enter Tryz.func163, Tryz.ntmps163
  go_upto_region 1 with fail
  have htr := HTR.out
  clear HTR
  generalize (w.alloc (.cells #[I ba, I bb, I bc, I bd] 148)).alloc (.cells #[I kd, I qa, I qb, I qc, I qd, I qx, I qy, I qk] 46) = w1 at htr ⊢
  obtain ⟨hb1, hr1, hr2⟩ := htr
  have z0 : w1.cell? ⟨w.heap.size, 0, none⟩ = some (I ba) := by rw [cell_of_row _ _ _ _ _ _ hr1]; rfl
  have z1 : w1.cell? ⟨w.heap.size, 1, none⟩ = some (I bb) := by rw [cell_of_row _ _ _ _ _ _ hr1]; rfl
  have z2 : w1.cell? ⟨w.heap.size, 2, none⟩ = some (I bc) := by rw [cell_of_row _ _ _ _ _ _ hr1]; rfl
  have z3 : w1.cell? ⟨w.heap.size, 3, none⟩ = some (I bd) := by rw [cell_of_row _ _ _ _ _ _ hr1]; rfl
  have z5 : w1.cell? ⟨w.heap.size + 1, 5, none⟩ = some (I qx) := by rw [cell_of_row _ _ _ _ _ _ hr2]; rfl
  have z6 : w1.cell? ⟨w.heap.size + 1, 6, none⟩ = some (I qy) := by rw [cell_of_row _ _ _ _ _ _ hr2]; rfl
  have HB1 := hide hb1
  clear hb1 hr1 hr2
  go_upto_region 3 with (first | (go_at_call_of 183 (I qx); refine (HX.out _).mono ?_; rintro _ _ ⟨rfl, rfl⟩) | (go_at_call_of 183 (I qy); refine (HY.out _).mono ?_; rintro _ _ ⟨rfl, rfl⟩))
  go_wp2
  go_ret
  exact ⟨by rw [HD.out]; rfl, HB1.out⟩
end Go.Proofs.YtenaelkbgkpllaaGreatDoor
/- The document's Answered, of a window: its parts. -/
namespace Go.Proofs.YtenaelkbgkpllaaGreatDoor
open Go.RowKit

theorem setP_cells (l : List Ward.Pt) (i : Nat) (e : Ward.Pt) (h : i < l.length) : (l.set i e).flatMap P3 = over (l.flatMap P3) (i * 3) (P3 e) := by
  have hl : l = l.take i ++ l[i] :: l.drop (i + 1) := by rw [← List.drop_eq_getElem_cons h, List.take_append_drop]
  have h1 : l.set i e = l.take i ++ e :: l.drop (i + 1) := List.set_eq_take_append_cons_drop ▸ by rw [if_pos h]
  have ht : ((l.take i).flatMap P3).length = i * 3 := by rw [cells_len, List.length_take]; congr 1; omega
  have hf : l.flatMap P3 = (l.take i).flatMap P3 ++ (P3 l[i] ++ (l.drop (i + 1)).flatMap P3) := by
    have := congrArg (List.flatMap P3) hl
    rw [List.flatMap_append, List.flatMap_cons] at this
    exact this
  rw [h1, List.flatMap_append, List.flatMap_cons, hf, ← ht]
  generalize (l.drop (i + 1)).flatMap P3 = R
  generalize (l.take i).flatMap P3 = Q
  generalize hE : P3 l[i] = X
  have hX : (P3 e).length = X.length := by rw [← hE]; rfl
  unfold over
  rw [List.take_left, List.append_assoc, hX, ← List.drop_drop, List.drop_left, List.drop_left]
theorem ownP_set {w : World} {B g n c : Nat} {l : List Ward.Pt} (h : Own w B (.slice (some ⟨g, 0, none⟩) n c) l) (i : Nat) (hi : i < l.length) (e : Ward.Pt) :
    Own (w.setCells g (i * 3) (P3 e)) B (.slice (some ⟨g, 0, none⟩) n c) (l.set i e) ∧ w.grownBy (w.setCells g (i * 3) (P3 e)) (some g) := by
  rcases h.2 with ⟨e', _⟩ | ⟨g', cap, cur, e', hB, hg, hcap, hmax, hcs, htake⟩
  · cases e'
  · injection e' with e1 e2 e3
    injection e1 with e1
    injection e1 with e1
    subst e1 e3 e2
    have hlen : (l.set i e).length = l.length := List.length_set
    have hcl : cur.toList.length = c * 3 := by
      have h1 : cur.toList.length = cur.size := Array.length_toList
      omega
    have hle : l.length * 3 ≤ cur.toList.length := by
      rw [hcl]; exact Nat.mul_le_mul_right _ hcap
    have hb := below_setCellsN (B := 0) (a := w) (Nat.zero_le g) (P3 e) (i * 3) w (Below.refl 0 w)
    have hi5 : i * 3 + (P3 e).length ≤ l.length * 3 := by
      show i * 3 + 3 ≤ _
      omega
    have hr := setCells_row (g := g) (ty := 36) (P3 e) (i * 3) cur.toList w (by rw [Array.toArray_toList]; exact hg) (by omega)
    refine ⟨⟨by rw [cells_len], .inr ⟨g, c, _, by rw [hlen], hB, hr, by rw [hlen]; exact hcap, hmax, ?_, ?_⟩⟩, ⟨hb.os, hb.tape, hb.output, hb.size, fun k hk hne => setCells_other (fun e => hne (by rw [e])) _ _ _⟩⟩
    · rw [List.size_toArray, over_len (by omega), hcl]
    · rw [List.toList_toArray, hlen, over_takeM hi5 hle, htake, setP_cells l i e hi]
/-- a slice of one's own, not empty: where it lies, that it may be written -/
theorem Own.open' {w : World} {B : Nat} {v : Value} {l : List Ward.Pt} (h : Own w B v l) (hl : 0 < l.length) : ∃ g c, v = .slice (some ⟨g, 0, none⟩) l.length c ∧ B ≤ g ∧ g < w.heap.size ∧ l.length ≤ c ∧ (∀ k, w.frozen? ⟨g, k, none⟩ = false) ∧ ∀ i, (hi : i < l.length) → PtAt w g (i * 3) l[i] := by
  rcases h.2 with ⟨_, h0⟩ | ⟨g, c, cur, e, hB, hg, hc, _⟩
  · omega
  · refine ⟨g, c, e, hB, (Array.getElem?_eq_some_iff.1 hg).1, hc, fun k => frozen_of_row _ _ _ _ _ hg, fun i hi => ?_⟩
    obtain ⟨a', c', e', hr⟩ := h.reads
    obtain ⟨g2, o2, ea, hp⟩ := hr (fun e => by rw [e] at hl; simp at hl)
    rw [e] at e'
    injection e' with e1
    rw [← e1] at ea
    injection ea with ea
    injection ea with ea eo
    have := hp i hi
    rw [← ea, ← eo, Nat.zero_add] at this
    exact this
end Go.Proofs.YtenaelkbgkpllaaGreatDoor
/- A whole node read where the order is drawn. -/
namespace Go.Proofs.YtenaelkbgkpllaaGreatDoor
open Go.RowKit

/-- the whole row that a pointer leads to -/
def loadVal (w : World) : Value → Value
  | .pointer (some ⟨g, 0, none⟩) => match w.heap[g]? with | some (.cells cs _ _) => .agg cs | _ => undef
  | _ => undef
/-- a pointer to a row of a node's cells -/
def NodeRow (w : World) (v : Value) : Prop := ∃ g cs t fr, v = .pointer (some ⟨g, 0, none⟩) ∧ w.heap[g]? = some (.cells cs t fr) ∧ cs.size = 39
theorem loadVal_row {w : World} {g t : Nat} {cs : Array Value} {fr : Nat × Nat} (h : w.heap[g]? = some (.cells cs t fr)) : loadVal w (.pointer (some ⟨g, 0, none⟩)) = .agg cs := by
  show (match w.heap[g]? with | some (.cells cs _ _) => Value.agg cs | _ => undef) = _
  rw [h]
theorem nodeRow_of {w : World} {g t : Nat} {cs : Array Value} {fr : Nat × Nat} (h : w.heap[g]? = some (.cells cs t fr)) (hs : cs.size = 39) : NodeRow w (.pointer (some ⟨g, 0, none⟩)) := ⟨g, cs, t, fr, rfl, h, hs⟩
theorem wp_load_node {d : Option Tmp} {x : Operand} {tt : TypeId} {ps : String} {af : Array Edge} {a : Act} {w : World} {K : Act → World → Prop} {Q : Exit → Act → World → Prop} (h : NodeRow w (a.eval x)) :
    Oper.wp Tryz.prog { dst := d, op := .load 90 x, type := tt, pos := ps, after := af, guard := none } a w K Q = K (a.put d (loadVal w (a.eval x))) w := by
  obtain ⟨g, cs, t, fr, hv, hg, hs⟩ := h
  obtain ⟨fs, hu⟩ := underNode
  have hr := run_loadVar_row (P := Tryz.prog) w g t 90 cs fr (.struct fs) hg hu rfl (by rw [hs]; exact Tryz.infoNode)
  rw [hv, loadVal_row hg]
  unfold Oper.wp execOp
  simp only [hv, Instr.loadAt, Instr.sureAddr, Sem.run_bind, Sem.run_pure, Result.andThen_ok, hr]
  rfl
end Go.Proofs.YtenaelkbgkpllaaGreatDoor
/- Reading a proof: its numbers, its next bytes. -/
namespace Go.Proofs.YtenaelkbgkpllaaGreatDoor
open Go.RowKit

set_option maxRecDepth 100000 in
set_option maxHeartbeats 4000000 in
theorem numberOf_any (l : List UInt8) (k : Nat) (w : World) (hk : 4 * k + 4 ≤ l.length) (hl : l.length ≤ 1000) :
    Calls Tryz.prog 157 #[Sv l, I k] w fun e w' => e = .returned (I (Ward.numAt l k)) ∧ Below w.heap.size w w' := by
  go_enter Tryz.func157, Tryz.ntmps157
  go_wp2_with fail
  refine (at_anyI ⟨l.toArray⟩ (4 * k) (4 * k) w (by omega) (by simpa [ByteArray.size] using hk) (by simp [ByteArray.size]; unfold maxLen; omega)).mono ?_
  rintro _ w1 ⟨rfl, n, rfl⟩
  go_wp2_with fail
  go_ret
  have hw := Ward.word_lt l (4 * k)
  refine ⟨?_, below_drewN (Below.refl _ _) n⟩
  have e : wrap64 (wrap32 (Sha.word l (4 * k) : Nat)) = Ward.numAt l k := by
    unfold Ward.numAt Ward.signed wrap64 wrap32
    split <;> omega
  rw [e]
  rfl
theorem sv_size (l : List UInt8) : (⟨l.toArray⟩ : ByteArray).size = l.length := by simp [ByteArray.size]
theorem cut_to (l : List UInt8) (k : Nat) (h : k ≤ l.length) (W : World) : (Instr.slice 9 (Sv l) none (some (I k)) none).run Tryz.prog W = .ok (Sv (l.take k)) W := by
  rw [run_slice_string_to_if W 9 ⟨l.toArray⟩ .i64 _ Tryz.underlying9, if_pos (by rw [sv_size]; omega)]
  rw [ba_eq (s := (⟨l.toArray⟩ : ByteArray).extract 0 (k : Int).toNat) (l := l.take k) (by rw [cut_list]; simp)]
theorem cut_from (l : List UInt8) (k : Nat) (h : k ≤ l.length) (W : World) : (Instr.slice 9 (Sv l) (some (I k)) none none).run Tryz.prog W = .ok (Sv (l.drop k)) W := by
  rw [run_slice_string_from_if W 9 ⟨l.toArray⟩ .i64 _ Tryz.underlying9, if_pos (by rw [sv_size]; omega)]
  rw [ba_eq (s := (⟨l.toArray⟩ : ByteArray).extract (k : Int).toNat (⟨l.toArray⟩ : ByteArray).size) (l := l.drop k) (by rw [cut_list, sv_size]; exact List.take_of_length_le (by simp))]
set_option maxRecDepth 100000 in
set_option maxHeartbeats 4000000 in
theorem take_few (g k : Nat) (l : List UInt8) (m : Value) (w : World) (hr : w.heap[g]? = some (.cells #[Sv l, m] 137 (0, 0))) (hk : l.length < k) :
    Calls Tryz.prog 121 #[.pointer (some ⟨g, 0, none⟩), I k] w fun e w' => e = .returned (.tuple #[Sv [], .bool false]) ∧ w' = w := by
  have c0 : w.cell? ⟨g, 0, none⟩ = some (Sv l) := by rw [cell_of_row _ _ _ _ _ _ hr]; rfl
  clear hr
  go_enter Tryz.func121, Tryz.ntmps121
  go_wp2
  go_ret2
  exact ⟨rfl, rfl⟩
set_option maxRecDepth 100000 in
set_option maxHeartbeats 4000000 in
theorem take_many (g k : Nat) (l : List UInt8) (m : Value) (w : World) (hr : w.heap[g]? = some (.cells #[Sv l, m] 137 (0, 0))) (hk : k ≤ l.length) :
    Calls Tryz.prog 121 #[.pointer (some ⟨g, 0, none⟩), I k] w fun e w' => e = .returned (.tuple #[Sv (l.take k), .bool true]) ∧ w'.heap[g]? = some (.cells #[Sv (l.drop k), m] 137 (0, 0)) ∧ Keeps (fun j => j = g) w w' := by
  have c0 : w.cell? ⟨g, 0, none⟩ = some (Sv l) := by rw [cell_of_row _ _ _ _ _ _ hr]; rfl
  have hf : w.frozen? ⟨g, 0, none⟩ = false := frozen_of_row _ _ _ _ _ hr
  have HR := hide hr
  clear hr
  go_enter Tryz.func121, Tryz.ntmps121
  have s1 := cut_to l k hk
  have s2 := cut_from l k hk
  have HE := hide (show (w.setCell ⟨g, 0, none⟩ (Sv (l.drop k))).heap[g]? = some (.cells #[Sv (l.drop k), m] 137 (0, 0)) from heap_setCell_same w g 0 #[Sv l, m] 137 _ HR.out)
  go_upto_region 3 with fail
  go_region
  all_goals
    go_wp2
    go_ret2
    exact ⟨rfl, HE.out, rfl, rfl, rfl, by simp, fun j _ hn => Below.heap_setCell _ _ _ _ (fun e => hn e)⟩
end Go.Proofs.YtenaelkbgkpllaaGreatDoor
/- The ids that were read: a set of the program's own. -/
namespace Go.Proofs.YtenaelkbgkpllaaGreatDoor
open Go.RowKit

/-- the map of that block holds these ids -/
def SetIs (w : World) (b n : Nat) (ids : List Int) : Prop := ∃ D : DataW Unit, w.ownsMap Tryz.prog 3 unitElem b n D ∧ ∀ x, Maps.has D (.int .i64 x) = ids.contains x
theorem setKey : Maps.Keyed Tryz.prog 3 := Maps.int_keyed Tryz.underlying3
theorem setZero (w : World) : (zeroValue 222).run Tryz.prog w = .ok (.agg #[]) w := by kernel_rfl
theorem keyI {x : Int} (h : -9223372036854775808 ≤ x ∧ x < 9223372036854775808) : keyOf Tryz.prog 3 (I x) = some (.int .i64 x) := Maps.keyOf_int_mk Tryz.underlying3 (by
  simp [Lit.wf, IntKind.min, IntKind.max, IntKind.bits, IntKind.signed]
  omega)
theorem SetIs.block {w w' : World} {b n : Nat} {ids : List Int} (h : SetIs w b n ids) (hb : w'.heap[b]? = w.heap[b]?) : SetIs w' b n ids := by
  obtain ⟨D, ⟨es, clock, h1, h2⟩, hD⟩ := h
  exact ⟨D, ⟨es, clock, hb.trans h1, h2⟩, hD⟩
theorem SetIs.lt {w : World} {b n : Nat} {ids : List Int} (h : SetIs w b n ids) : b < w.heap.size := by
  obtain ⟨D, h, _⟩ := h
  exact h.lt
theorem SetIs.look {w : World} {b n : Nat} {ids : List Int} (h : SetIs w b n ids) {x : Int} (hx : -9223372036854775808 ≤ x ∧ x < 9223372036854775808) : (Instr.lookup 135 (.map (some b)) (I x) true).run Tryz.prog w = .ok (.tuple #[.agg #[], .bool (ids.contains x)]) w := by
  obtain ⟨D, h, hD⟩ := h
  obtain ⟨v, ps, hr, hv⟩ := h.look_ok setKey Tryz.underlying135 (setZero w) unitElem_mk (keyI hx)
  obtain ⟨rfl, _⟩ := unitElem_inv hv
  rw [hr, hD]
theorem SetIs.put {w : World} {b n : Nat} {ids : List Int} (h : SetIs w b n ids) (hn : n ≤ 1000000) {x : Int} (hx : -9223372036854775808 ≤ x ∧ x < 9223372036854775808) : ∃ w', (Instr.mapUpdate 135 (.map (some b)) (I x) (.agg #[])).run Tryz.prog w = .ok () w' ∧ SetIs w' b (n + 1) (x :: ids) ∧ w.grownBy w' (some b) := by
  obtain ⟨D, h, hD⟩ := h
  obtain ⟨w', hr, ho, hg⟩ := h.update setKey Tryz.underlying135 (by unfold maxLen; omega) (keyI hx) unitElem_mk
  refine ⟨w', hr, ⟨_, ho, fun y => ?_⟩, hg⟩
  by_cases e : y = x
  · subst e
    rw [Maps.has_put_same h.isMap (show WideAt.IsKeyLit (.int .i64 y) from trivial)]
    simp
  · rw [Maps.has_put_other (fun e2 => e (by injection e2)), hD]
    simp [e]
theorem look_small {x : Int} (hx : -2147483648 ≤ x ∧ x < 2147483648) : -9223372036854775808 ≤ x ∧ x < 9223372036854775808 := by omega
theorem look_drew {w : World} {b n : Nat} {ids : List Int} {x : Int} {r : Bool} (h : SetIs w b n ids) (hx : -2147483648 ≤ x ∧ x < 2147483648) (hr : ids.contains x = r) : (Instr.lookup 135 (.map (some b)) (I x) true).run Tryz.prog w.drew = .ok (.tuple #[.agg #[], .bool r]) w.drew := by
  rw [← hr]
  exact SetIs.look (w := w.drew) (h.block rfl) (look_small hx)
theorem look_alloc {w : World} {b n : Nat} {ids : List Int} {x : Int} {r : Bool} (h : SetIs w b n ids) (hx : -2147483648 ≤ x ∧ x < 2147483648) (hr : ids.contains x = r) (o : Obj) : (Instr.lookup 135 (.map (some b)) (I x) true).run Tryz.prog (w.alloc o).drew = .ok (.tuple #[.agg #[], .bool r]) (w.alloc o).drew := by
  have hb : (w.alloc o).heap[b]? = w.heap[b]? := Below.heap_alloc w o b h.lt
  exact look_drew (h.block hb) hx hr
end Go.Proofs.YtenaelkbgkpllaaGreatDoor
/- A point read. -/
namespace Go.Proofs.YtenaelkbgkpllaaGreatDoor
open Go.RowKit

/-- the reader, as it lies -/
structure RdAt (w : World) (g b n : Nat) (s : Ward.Sta) : Prop where
  row : w.heap[g]? = some (.cells #[Sv s.1, .map (some b)] 137 (0, 0))
  set : SetIs w b n s.2
theorem RdAt.ne {w : World} {g b n : Nat} {s : Ward.Sta} (h : RdAt w g b n s) : b ≠ g := fun e => by
  obtain ⟨D, ⟨es, clock, h1, h2⟩, hD⟩ := h.set
  rw [e, h.row] at h1
  injection h1 with h1
  cases h1
theorem RdAt.lt {w : World} {g b n : Nat} {s : Ward.Sta} (h : RdAt w g b n s) : g < w.heap.size := (Array.getElem?_eq_some_iff.1 h.row).1
theorem RdAt.below {w w' : World} {g b n : Nat} {s : Ward.Sta} (h : RdAt w g b n s) (hb : Below w.heap.size w w') : RdAt w' g b n s := ⟨(hb.block g h.lt).trans h.row, h.set.block (hb.block b h.set.lt)⟩
/-- what reading changes -/
def Rd2 (g b j : Nat) : Prop := j = g ∨ j = b
theorem numAt_take {l : List UInt8} {k n : Nat} (h : 4 * k + 4 ≤ n) (hn : n ≤ l.length) : Ward.numAt (l.take n) k = Ward.numAt l k := by
  have e := Ward.word_app (l := l.take n) (m := l.drop n) (i := 4 * k) (by rw [List.length_take]; omega)
  rw [List.take_append_drop] at e
  unfold Ward.numAt
  rw [e]
theorem numAt_range (l : List UInt8) (k : Nat) : -2147483648 ≤ Ward.numAt l k ∧ Ward.numAt l k < 2147483648 := by
  have h := Ward.word_lt l (4 * k)
  unfold Ward.numAt Ward.signed
  split <;> omega
theorem underPt : ∃ fs, Tryz.prog.underlying 36 = some (.struct fs) := by
  have h : (Tryz.prog.underlying 36).map (fun d => match d with | .struct _ => true | _ => false) = some true := by kernel_rfl
  cases e : Tryz.prog.underlying 36 with
  | none => rw [e] at h; cases h
  | some d =>
    rw [e] at h
    cases d <;> first | exact ⟨_, rfl⟩ | cases h
theorem sizePt : (Tryz.prog.info? 36).map (·.size) = some 3 := by kernel_rfl
theorem results_row_tmp {P : Program} {fn : Func} {p u : Tmp} {ty : TypeId} (h : fn.results = #[.cell p ty, .tmp u]) (tmps : Array Value) (w : World) (g : Nat) (t : TypeId) (cs : Array Value) (fr : Nat × Nat) (d : TypeDesc)
    (hp : tmps.getD p undef = .pointer (some ⟨g, 0, none⟩)) (hg : w.heap[g]? = some (.cells cs t fr))
    (hu : P.underlying ty = some d) (hd : (match d with | .struct _ | .array _ _ => true | _ => false) = true) (hi : (P.info? ty).map (·.size) = some cs.size) :
    (results fn tmps).run P w = .ok (.tuple #[.agg cs, tmps.getD u undef]) w := by
  have hp' : tmps[p]?.getD undef = .pointer (some ⟨g, 0, none⟩) := by simpa using hp
  simp [results, h, hp', asAddr, run_loadVar_row w g t ty cs fr d hg hu hd hi]
theorem store3 {w : World} {g ty : Nat} {a b c : Value} (x y z : Value) (h : w.heap[g]? = some (.cells #[a, b, c] ty (0, 0))) : (((w.setCell ⟨g, 0, none⟩ x).setCell ⟨g, 1, none⟩ y).setCell ⟨g, 2, none⟩ z).heap[g]? = some (.cells #[x, y, z] ty (0, 0)) := by
  have h1 := heap_setCell_same w g 0 _ ty x h
  have h2 := heap_setCell_same _ g 1 _ ty y h1
  exact heap_setCell_same _ g 2 _ ty z h2
theorem below_store3 {B : Nat} {w w' : World} {g : Nat} (h : Below B w w') (hg : B ≤ g) (x y z : Value) : Below B w (((w'.setCell ⟨g, 0, none⟩ x).setCell ⟨g, 1, none⟩ y).setCell ⟨g, 2, none⟩ z) :=
  ⟨h.os, h.tape, h.output, by simpa using h.size, fun j hj => by
    rw [Below.heap_setCell _ _ _ _ (by show j ≠ g; omega), Below.heap_setCell _ _ _ _ (by show j ≠ g; omega), Below.heap_setCell _ _ _ _ (by show j ≠ g; omega)]
    exact h.block j hj⟩
theorem Keeps.low {S : Nat → Prop} {w w' w'' : World} (h : Keeps S w w') (hb : Below w.heap.size w' w'') : Keeps S w w'' := ⟨hb.os.trans h.os, hb.tape.trans h.tape, hb.output.trans h.output, Nat.le_trans h.size hb.size, fun j hj hn => (hb.block j hj).trans (h.block j hj hn)⟩
/-- what reading a point leaves -/
def PointRead (w : World) (g b n : Nat) (s : Ward.Sta) (e : Ending) (w' : World) : Prop := Keeps (Rd2 g b) w w' ∧
  match Ward.rdPt s with
  | none => ∃ x y z : Int, e = .returned (.tuple #[.agg #[I x, I y, I z], .bool false])
  | some (p, s') => e = .returned (.tuple #[.agg #[I p.id, I p.x, I p.y], .bool true]) ∧ RdAt w' g b (n + 1) s'
set_option maxRecDepth 100000 in
set_option maxHeartbeats 4000000 in
theorem point_short (g b n : Nat) (s : Ward.Sta) (w : World) (H : RdAt w g b n s) (hs : s.1.length < 12) :
    Calls Tryz.prog 123 #[.pointer (some ⟨g, 0, none⟩)] w (PointRead w g b n s) := by
  have HE := hide (show Ward.rdPt s = none by unfold Ward.rdPt; rw [if_pos hs])
  have hb1' := fun o => (Below.refl w.heap.size w).alloc (Nat.le_refl _) o
  have HH := hide H
  clear H
  go_enter Tryz.func123, Tryz.ntmps123
  go_upto_region 1 with fail
  generalize hW : World.alloc w _ = w1
  have hb1 : Below w.heap.size w w1 := by rw [← hW]; exact hb1' _
  have hr1 : w1.heap[w.heap.size]? = some (.cells #[I 0, I 0, I 0] 36 (0, 0)) := by rw [← hW]; exact heap_alloc_new _ _
  clear hb1' hW
  have HT := hide (take_few g 12 s.1 _ w1 (HH.out.below hb1).row hs)
  have HB1 := hide hb1
  obtain ⟨e0, e1, e2⟩ := row3 hr1
  have f0 : w1.frozen? ⟨w.heap.size, 0, none⟩ = false := frozen_of_row _ _ _ _ _ hr1
  have f1 : w1.frozen? ⟨w.heap.size, 1, none⟩ = false := frozen_of_row _ _ _ _ _ hr1
  have f2 : w1.frozen? ⟨w.heap.size, 2, none⟩ = false := frozen_of_row _ _ _ _ _ hr1
  clear hb1
  go_wp2_with fail
  refine HT.out.mono ?_
  rintro _ w0 ⟨rfl, hw0⟩
  rw [hw0]
  clear hw0
  go_wp2_with fail
  obtain ⟨fs, hu⟩ := underPt
  refine bodyPost_ret (results_row_tmp (p := 2) (u := 3) (ty := 36) rfl _ _ w.heap.size 36 _ (0, 0) _ rfl (store3 _ _ _ hr1) hu rfl sizePt) rfl ?_
  unfold PointRead
  rw [HE.out]
  exact ⟨Keeps.of_below (below_store3 HB1.out (Nat.le_refl _) _ _ _), 0, 0, 0, rfl⟩
/-- what a point's text says -/
theorem rdPt_long (s : Ward.Sta) (hs : 12 ≤ s.1.length) : ∃ pi px py, pi = Ward.numAt s.1 0 ∧ px = Ward.numAt s.1 1 ∧ py = Ward.numAt s.1 2 ∧ Ward.rdPt s = if (Ward.idOk pi && !(s.2.contains pi) && Ward.coordOk px && Ward.coordOk py) = true then some (⟨pi, px, py⟩, (s.1.drop 12, pi :: s.2)) else none := by
  refine ⟨_, _, _, rfl, rfl, rfl, ?_⟩
  unfold Ward.rdPt
  rw [if_neg (by omega)]
end Go.Proofs.YtenaelkbgkpllaaGreatDoor
/- Is a node shown? -/
namespace Go.Proofs.YtenaelkbgkpllaaGreatDoor
open Go.RowKit

set_option maxRecDepth 100000 in
set_option maxHeartbeats 4000000 in
theorem isShown_any (n : Nat) (t : Ward.NT n) (V : List Value) (w : World) (S : Nat → Prop) (hN : NodeIs w S n t V) (hfew : Ward.Few n t) :
    Calls Tryz.prog 86 #[.agg V.toArray] w fun e w' => e = .returned (.bool (Ward.shownN n t)) ∧ Below w.heap.size w w' := by
  cases n with
  | zero => exact nomatch t
  | succ n =>
    obtain ⟨vp, vc, hV, -, ⟨ap, cp, rfl, -⟩, ⟨ac, cc, rfl, -⟩⟩ := hN
    have h1 : (Ward.Nd.pts t).length ≤ 4 := hfew.1
    have h2 : (Ward.Nd.kids t).length ≤ 4 := hfew.2.1
    have HE := hide (show Ward.shownN (n + 1) t = decide (0 < (Ward.Nd.pts t).length + (Ward.Nd.kids t).length) from rfl)
    rw [HE.out]
    have hv0 : V[0]? = some (.slice ap (Ward.Nd.pts t).length cp) := by rw [hV]; rfl
    have hv1 : V[1]? = some (.slice ac (Ward.Nd.kids t).length cc) := by rw [hV]; rfl
    generalize (Ward.Nd.pts t).length = lp at *
    generalize (Ward.Nd.kids t).length = lk at *
    have hb1' := fun o => (Below.refl w.heap.size w).alloc (Nat.le_refl _) o
    have hr1' := heap_alloc_new w
    clear hV hfew HE
    go_enter Tryz.func86, Tryz.ntmps86
    go_upto_region 1 with fail
    generalize hW : World.alloc w _ = w1
    have hb1 : Below w.heap.size w w1 := by rw [← hW]; exact hb1' _
    have hr1 : w1.heap[w.heap.size]? = some (.cells V.toArray 90 (0, 0)) := by rw [← hW]; exact hr1' _
    clear hb1' hr1' hW
    have c0 : w1.cell? ⟨w.heap.size, 0, none⟩ = some (.slice ap lp cp) := by rw [cell_of_row _ _ _ _ _ _ hr1, List.getElem?_toArray]; exact hv0
    have c1 : w1.cell? ⟨w.heap.size, 1, none⟩ = some (.slice ac lk cc) := by rw [cell_of_row _ _ _ _ _ _ hr1, List.getElem?_toArray]; exact hv1
    have HB1 := hide hb1
    clear hb1 hr1 hv0 hv1
    go_wp2
    go_ret
    refine ⟨?_, HB1.out⟩
    show Ending.returned (Value.bool _) = _
    congr 2
    first | rfl | (apply decide_eq_decide.2; omega)
end Go.Proofs.YtenaelkbgkpllaaGreatDoor
