/- The ids that were read: a set of the program's own. -/
import Derived.Test.YtenaelkbgkpllaaGreatDoorKept13
import Derived.Maps.OwnSet
import Derived.Test.YtenaelkbgkpllaaGreatDoorKept10
import Derived.Test.YtenaelkbgkpllaaGreatDoorKept8
import Derived.Test.YtenaelkbgkpllaaGreatDoorKept5
namespace Go.Proofs.YtenaelkbgkpllaaGreatDoor
open Go.RowKit

/-- the map of that block holds these ids -/
def SetIs (w : World) (b n : Nat) (ids : List Int) : Prop := ∃ D : DataW Unit, w.ownsMap Tryz.prog 3 unitElem b n D ∧ ∀ x, Maps.has D (.int .i64 x) = ids.contains x
theorem setKey : Maps.Keyed Tryz.prog 3 := Maps.int_keyed Tryz.underlying3
theorem setZero (w : World) : (zeroValue 222).run Tryz.prog w = .ok (.agg #[]) w := by kernel_rfl
theorem keyI {x : Int} (h : -9223372036854775808 ≤ x ∧ x < 9223372036854775808) : keyOf Tryz.prog 3 (I x) = some (.int .i64 x) := Maps.keyOf_int_mk Tryz.underlying3 (by
  simp [Lit.wf, IntKind.min, IntKind.max, IntKind.bits, IntKind.signed]
  omega)
theorem SetIs.block {w w' : World} {b n : Nat} {ids : List Int} (h : SetIs w b n ids) (hb : w'.heap[b]? = w.heap[b]?) : SetIs w' b n ids := by
  obtain ⟨D, ⟨es, clock, h1, h2⟩, hD⟩ := h
  exact ⟨D, ⟨es, clock, hb.trans h1, h2⟩, hD⟩
theorem SetIs.lt {w : World} {b n : Nat} {ids : List Int} (h : SetIs w b n ids) : b < w.heap.size := by
  obtain ⟨D, h, _⟩ := h
  exact h.lt
theorem SetIs.look {w : World} {b n : Nat} {ids : List Int} (h : SetIs w b n ids) {x : Int} (hx : -9223372036854775808 ≤ x ∧ x < 9223372036854775808) : (Instr.lookup 135 (.map (some b)) (I x) true).run Tryz.prog w = .ok (.tuple #[.agg #[], .bool (ids.contains x)]) w := by
  obtain ⟨D, h, hD⟩ := h
  obtain ⟨v, ps, hr, hv⟩ := h.look_ok setKey Tryz.underlying135 (setZero w) unitElem_mk (keyI hx)
  obtain ⟨rfl, _⟩ := unitElem_inv hv
  rw [hr, hD]
theorem SetIs.put {w : World} {b n : Nat} {ids : List Int} (h : SetIs w b n ids) (hn : n ≤ 1000000) {x : Int} (hx : -9223372036854775808 ≤ x ∧ x < 9223372036854775808) : ∃ w', (Instr.mapUpdate 135 (.map (some b)) (I x) (.agg #[])).run Tryz.prog w = .ok () w' ∧ SetIs w' b (n + 1) (x :: ids) ∧ w.grownBy w' (some b) := by
  obtain ⟨D, h, hD⟩ := h
  obtain ⟨w', hr, ho, hg⟩ := h.update setKey Tryz.underlying135 (by unfold maxLen; omega) (keyI hx) unitElem_mk
  refine ⟨w', hr, ⟨_, ho, fun y => ?_⟩, hg⟩
  by_cases e : y = x
  · subst e
    rw [Maps.has_put_same h.isMap (show WideAt.IsKeyLit (.int .i64 y) from trivial)]
    simp
  · rw [Maps.has_put_other (fun e2 => e (by injection e2)), hD]
    simp [e]
theorem look_small {x : Int} (hx : -2147483648 ≤ x ∧ x < 2147483648) : -9223372036854775808 ≤ x ∧ x < 9223372036854775808 := by omega
theorem look_drew {w : World} {b n : Nat} {ids : List Int} {x : Int} {r : Bool} (h : SetIs w b n ids) (hx : -2147483648 ≤ x ∧ x < 2147483648) (hr : ids.contains x = r) : (Instr.lookup 135 (.map (some b)) (I x) true).run Tryz.prog w.drew = .ok (.tuple #[.agg #[], .bool r]) w.drew := by
  rw [← hr]
  exact SetIs.look (w := w.drew) (h.block rfl) (look_small hx)
theorem look_alloc {w : World} {b n : Nat} {ids : List Int} {x : Int} {r : Bool} (h : SetIs w b n ids) (hx : -2147483648 ≤ x ∧ x < 2147483648) (hr : ids.contains x = r) (o : Obj) : (Instr.lookup 135 (.map (some b)) (I x) true).run Tryz.prog (w.alloc o).drew = .ok (.tuple #[.agg #[], .bool r]) (w.alloc o).drew := by
  have hb : (w.alloc o).heap[b]? = w.heap[b]? := Below.heap_alloc w o b h.lt
  exact look_drew (h.block hb) hx hr
end Go.Proofs.YtenaelkbgkpllaaGreatDoor
/- A point read. -/
namespace Go.Proofs.YtenaelkbgkpllaaGreatDoor
open Go.RowKit

/-- the reader, as it lies -/
structure RdAt (w : World) (g b n : Nat) (s : Ward.Sta) : Prop where
  row : w.heap[g]? = some (.cells #[Sv s.1, .map (some b)] 137 (0, 0))
  set : SetIs w b n s.2
theorem RdAt.ne {w : World} {g b n : Nat} {s : Ward.Sta} (h : RdAt w g b n s) : b ≠ g := fun e => by
  obtain ⟨D, ⟨es, clock, h1, h2⟩, hD⟩ := h.set
  rw [e, h.row] at h1
  injection h1 with h1
  cases h1
theorem RdAt.lt {w : World} {g b n : Nat} {s : Ward.Sta} (h : RdAt w g b n s) : g < w.heap.size := (Array.getElem?_eq_some_iff.1 h.row).1
theorem RdAt.below {w w' : World} {g b n : Nat} {s : Ward.Sta} (h : RdAt w g b n s) (hb : Below w.heap.size w w') : RdAt w' g b n s := ⟨(hb.block g h.lt).trans h.row, h.set.block (hb.block b h.set.lt)⟩
/-- what reading changes -/
def Rd2 (g b j : Nat) : Prop := j = g ∨ j = b
theorem numAt_take {l : List UInt8} {k n : Nat} (h : 4 * k + 4 ≤ n) (hn : n ≤ l.length) : Ward.numAt (l.take n) k = Ward.numAt l k := by
  have e := Ward.word_app (l := l.take n) (m := l.drop n) (i := 4 * k) (by rw [List.length_take]; omega)
  rw [List.take_append_drop] at e
  unfold Ward.numAt
  rw [e]
theorem numAt_range (l : List UInt8) (k : Nat) : -2147483648 ≤ Ward.numAt l k ∧ Ward.numAt l k < 2147483648 := by
  have h := Ward.word_lt l (4 * k)
  unfold Ward.numAt Ward.signed
  split <;> omega
theorem underPt : ∃ fs, Tryz.prog.underlying 36 = some (.struct fs) := by
  have h : (Tryz.prog.underlying 36).map (fun d => match d with | .struct _ => true | _ => false) = some true := by kernel_rfl
  cases e : Tryz.prog.underlying 36 with
  | none => rw [e] at h; cases h
  | some d =>
    rw [e] at h
    cases d <;> first | exact ⟨_, rfl⟩ | cases h
theorem sizePt : (Tryz.prog.info? 36).map (·.size) = some 3 := by kernel_rfl
theorem results_row_tmp {P : Program} {fn : Func} {p u : Tmp} {ty : TypeId} (h : fn.results = #[.cell p ty, .tmp u]) (tmps : Array Value) (w : World) (g : Nat) (t : TypeId) (cs : Array Value) (fr : Nat × Nat) (d : TypeDesc)
    (hp : tmps.getD p undef = .pointer (some ⟨g, 0, none⟩)) (hg : w.heap[g]? = some (.cells cs t fr))
    (hu : P.underlying ty = some d) (hd : (match d with | .struct _ | .array _ _ => true | _ => false) = true) (hi : (P.info? ty).map (·.size) = some cs.size) :
    (results fn tmps).run P w = .ok (.tuple #[.agg cs, tmps.getD u undef]) w := by
  have hp' : tmps[p]?.getD undef = .pointer (some ⟨g, 0, none⟩) := by simpa using hp
  simp [results, h, hp', asAddr, run_loadVar_row w g t ty cs fr d hg hu hd hi]
theorem store3 {w : World} {g ty : Nat} {a b c : Value} (x y z : Value) (h : w.heap[g]? = some (.cells #[a, b, c] ty (0, 0))) : (((w.setCell ⟨g, 0, none⟩ x).setCell ⟨g, 1, none⟩ y).setCell ⟨g, 2, none⟩ z).heap[g]? = some (.cells #[x, y, z] ty (0, 0)) := by
  have h1 := heap_setCell_same w g 0 _ ty x h
  have h2 := heap_setCell_same _ g 1 _ ty y h1
  exact heap_setCell_same _ g 2 _ ty z h2
theorem below_store3 {B : Nat} {w w' : World} {g : Nat} (h : Below B w w') (hg : B ≤ g) (x y z : Value) : Below B w (((w'.setCell ⟨g, 0, none⟩ x).setCell ⟨g, 1, none⟩ y).setCell ⟨g, 2, none⟩ z) :=
  ⟨h.os, h.tape, h.output, by simpa using h.size, fun j hj => by
    rw [Below.heap_setCell _ _ _ _ (by show j ≠ g; omega), Below.heap_setCell _ _ _ _ (by show j ≠ g; omega), Below.heap_setCell _ _ _ _ (by show j ≠ g; omega)]
    exact h.block j hj⟩
theorem Keeps.low {S : Nat → Prop} {w w' w'' : World} (h : Keeps S w w') (hb : Below w.heap.size w' w'') : Keeps S w w'' := ⟨hb.os.trans h.os, hb.tape.trans h.tape, hb.output.trans h.output, Nat.le_trans h.size hb.size, fun j hj hn => (hb.block j hj).trans (h.block j hj hn)⟩
/-- what reading a point leaves -/
def PointRead (w : World) (g b n : Nat) (s : Ward.Sta) (e : Ending) (w' : World) : Prop := Keeps (Rd2 g b) w w' ∧
  match Ward.rdPt s with
  | none => ∃ x y z : Int, e = .returned (.tuple #[.agg #[I x, I y, I z], .bool false])
  | some (p, s') => e = .returned (.tuple #[.agg #[I p.id, I p.x, I p.y], .bool true]) ∧ RdAt w' g b (n + 1) s'
set_option maxRecDepth 100000 in
set_option maxHeartbeats 4000000 in
theorem point_short (g b n : Nat) (s : Ward.Sta) (w : World) (H : RdAt w g b n s) (hs : s.1.length < 12) :
    Calls Tryz.prog 123 #[.pointer (some ⟨g, 0, none⟩)] w (PointRead w g b n s) := by
  have HE := hide (show Ward.rdPt s = none by unfold Ward.rdPt; rw [if_pos hs])
  have hb1' := fun o => (Below.refl w.heap.size w).alloc (Nat.le_refl _) o
  have HH := hide H
  clear H
  go_enter Tryz.func123, Tryz.ntmps123
  go_upto_region 1 with fail
  generalize hW : World.alloc w _ = w1
  have hb1 : Below w.heap.size w w1 := by rw [← hW]; exact hb1' _
  have hr1 : w1.heap[w.heap.size]? = some (.cells #[I 0, I 0, I 0] 36 (0, 0)) := by rw [← hW]; exact heap_alloc_new _ _
  clear hb1' hW
  have HT := hide (take_few g 12 s.1 _ w1 (HH.out.below hb1).row hs)
  have HB1 := hide hb1
  obtain ⟨e0, e1, e2⟩ := row3 hr1
  have f0 : w1.frozen? ⟨w.heap.size, 0, none⟩ = false := frozen_of_row _ _ _ _ _ hr1
  have f1 : w1.frozen? ⟨w.heap.size, 1, none⟩ = false := frozen_of_row _ _ _ _ _ hr1
  have f2 : w1.frozen? ⟨w.heap.size, 2, none⟩ = false := frozen_of_row _ _ _ _ _ hr1
  clear hb1
  go_wp2_with fail
  refine HT.out.mono ?_
  rintro _ w0 ⟨rfl, hw0⟩
  rw [hw0]
  clear hw0
  go_wp2_with fail
  obtain ⟨fs, hu⟩ := underPt
  refine bodyPost_ret (results_row_tmp (p := 2) (u := 3) (ty := 36) rfl _ _ w.heap.size 36 _ (0, 0) _ rfl (store3 _ _ _ hr1) hu rfl sizePt) rfl ?_
  unfold PointRead
  rw [HE.out]
  exact ⟨Keeps.of_below (below_store3 HB1.out (Nat.le_refl _) _ _ _), 0, 0, 0, rfl⟩
/-- what a point's text says -/
theorem rdPt_long (s : Ward.Sta) (hs : 12 ≤ s.1.length) : ∃ pi px py, pi = Ward.numAt s.1 0 ∧ px = Ward.numAt s.1 1 ∧ py = Ward.numAt s.1 2 ∧ Ward.rdPt s = if (Ward.idOk pi && !(s.2.contains pi) && Ward.coordOk px && Ward.coordOk py) = true then some (⟨pi, px, py⟩, (s.1.drop 12, pi :: s.2)) else none := by
  refine ⟨_, _, _, rfl, rfl, rfl, ?_⟩
  unfold Ward.rdPt
  rw [if_neg (by omega)]
end Go.Proofs.YtenaelkbgkpllaaGreatDoor
/- Is a node shown? -/
namespace Go.Proofs.YtenaelkbgkpllaaGreatDoor
open Go.RowKit

set_option maxRecDepth 100000 in
set_option maxHeartbeats 4000000 in
theorem isShown_any (n : Nat) (t : Ward.NT n) (V : List Value) (w : World) (S : Nat → Prop) (hN : NodeIs w S n t V) (hfew : Ward.Few n t) :
    Calls Tryz.prog 86 #[.agg V.toArray] w fun e w' => e = .returned (.bool (Ward.shownN n t)) ∧ Below w.heap.size w w' := by
  cases n with
  | zero => exact nomatch t
  | succ n =>
    obtain ⟨vp, vc, hV, -, ⟨ap, cp, rfl, -⟩, ⟨ac, cc, rfl, -⟩⟩ := hN
    have h1 : (Ward.Nd.pts t).length ≤ 4 := hfew.1
    have h2 : (Ward.Nd.kids t).length ≤ 4 := hfew.2.1
    have HE := hide (show Ward.shownN (n + 1) t = decide (0 < (Ward.Nd.pts t).length + (Ward.Nd.kids t).length) from rfl)
    rw [HE.out]
    have hv0 : V[0]? = some (.slice ap (Ward.Nd.pts t).length cp) := by rw [hV]; rfl
    have hv1 : V[1]? = some (.slice ac (Ward.Nd.kids t).length cc) := by rw [hV]; rfl
    generalize (Ward.Nd.pts t).length = lp at *
    generalize (Ward.Nd.kids t).length = lk at *
    have hb1' := fun o => (Below.refl w.heap.size w).alloc (Nat.le_refl _) o
    have hr1' := heap_alloc_new w
    clear hV hfew HE
    go_enter Tryz.func86, Tryz.ntmps86
    go_upto_region 1 with fail
    generalize hW : World.alloc w _ = w1
    have hb1 : Below w.heap.size w w1 := by rw [← hW]; exact hb1' _
    have hr1 : w1.heap[w.heap.size]? = some (.cells V.toArray 90 (0, 0)) := by rw [← hW]; exact hr1' _
    clear hb1' hr1' hW
    have c0 : w1.cell? ⟨w.heap.size, 0, none⟩ = some (.slice ap lp cp) := by rw [cell_of_row _ _ _ _ _ _ hr1, List.getElem?_toArray]; exact hv0
    have c1 : w1.cell? ⟨w.heap.size, 1, none⟩ = some (.slice ac lk cc) := by rw [cell_of_row _ _ _ _ _ _ hr1, List.getElem?_toArray]; exact hv1
    have HB1 := hide hb1
    clear hb1 hr1 hv0 hv1
    go_wp2
    go_ret
    refine ⟨?_, HB1.out⟩
    show Ending.returned (Value.bool _) = _
    congr 2
    first | rfl | (apply decide_eq_decide.2; omega)
end Go.Proofs.YtenaelkbgkpllaaGreatDoor
/- A node as what stands right below it makes it. -/
namespace Go.Proofs.YtenaelkbgkpllaaGreatDoor
open Go.RowKit

theorem leaf_made {w w' : World} {S : Nat → Prop} {vp : Value} {L : List Ward.Pt} (n : Nat) (h : ReadsS w S vp L) (hb : Below w.heap.size w w') (hS : ∀ g, S g → g < w.heap.size) :
    NodeIs w' S (n + 1) (⟨L, [], Ward.boxL (L.map Ward.boxOf), (L.length : Nat), Sha.sha (Ward.leafText L)⟩ : Ward.NT (n + 1)) (nodeV vp (.slice none 0 0) (Ward.box 0 L) L.length ((Sha.sha (Ward.leafText L)).map Y)) :=
  ⟨vp, .slice none 0 0, rfl, sha_len _, h.keep (below_same hb hS) (fun _ h => h), none, 0, rfl, fun e => absurd rfl e⟩
theorem node_made {w w' : World} {S : Nat → Prop} {vc : Value} (n : Nat) {K : List (Ward.NT n)} (h : RowsAt (NodeIs w S n) w S vc K) (hb : Below w.heap.size w w') (hS : ∀ g, S g → g < w.heap.size) :
    NodeIs w' S (n + 1) (⟨[], K, Ward.boxL (K.map (Ward.boxN n)), (K.map (Ward.numN n)).sum, Sha.sha (Ward.textK n K)⟩ : Ward.NT (n + 1)) (nodeV (.slice none 0 0) vc (Ward.boxL (K.map (Ward.boxN n))) ((K.map (Ward.numN n)).sum) ((Sha.sha (Ward.textK n K)).map Y)) :=
  ⟨.slice none 0 0, vc, rfl, sha_len _, ⟨none, 0, rfl, fun e => absurd rfl e⟩, h.keep (below_same hb hS) (fun _ h => h) (NodeIs.keep (below_same hb hS) (fun _ h => h) n)⟩
set_option maxRecDepth 100000 in
set_option maxHeartbeats 4000000 in
theorem made_any (n : Nat) (t : Ward.NT (n + 1)) (V : List Value) (w : World) (S : Nat → Prop) (hS : ∀ g, S g → g < w.heap.size) (hN : NodeIs w S (n + 1) t V) (hfew : Ward.Few (n + 1) t) (hnum : ∀ c ∈ Ward.Nd.kids t, 0 ≤ Ward.numN n c ∧ Ward.numN n c ≤ 1000000) (hK : KT w) :
    Calls Tryz.prog 83 #[.agg V.toArray] w fun e w' => ∃ V', e = .returned (.agg V'.toArray) ∧ NodeIs w' S (n + 1) (Ward.madeN (n + 1) t) V' ∧ Below w.heap.size w w' := by
  obtain ⟨vp, vc, hV, -, hp, hk⟩ := hN
  obtain ⟨ac, cc, evc, hkr⟩ := hk
  obtain ⟨ap, cp, evp, hpr⟩ := hp
  have hp4 : (Ward.Nd.pts t).length ≤ 4 := hfew.1
  have hk4 : (Ward.Nd.kids t).length ≤ 4 := hfew.2.1
  have HP := hide (show ReadsS w S vp (Ward.Nd.pts t) from ⟨ap, cp, evp, hpr⟩)
  have HKD := hide (show RowsAt (NodeIs w S n) w S vc (Ward.Nd.kids t) from ⟨ac, cc, evc, hkr⟩)
  have hv0 : V[0]? = some vp := by rw [hV]; rfl
  have hv1 : V[1]? = some vc := by rw [hV]; rfl
  have HLF := hide (fun (W : World) (hb : Below w.heap.size w W) => leafOf_any vp (Ward.Nd.pts t) W hp4 ((HP.out.keep (below_same hb hS) (fun _ h => h)).low (fun g hg => Nat.lt_of_lt_of_le (hS g hg) hb.size)) (hK.below hb))
  have HND := hide (fun (W : World) (hb : Below w.heap.size w W) (h0 : Ward.Nd.kids t ≠ []) => nodeOf_any vc n (Ward.Nd.kids t) W S (fun g hg => Nat.lt_of_lt_of_le (hS g hg) hb.size) h0 hk4 (HKD.out.keep (below_same hb hS) (fun _ h => h) (NodeIs.keep (below_same hb hS) (fun _ h => h) n)) hnum (hK.below hb))
  obtain ⟨fs, hu⟩ := underNode
  have HU := hide hu
  have HS := hide hS
  have hb1' := fun o o' => ((Below.refl w.heap.size w).alloc (Nat.le_refl _) o).alloc (by simp) o'
  have hr1' := heap_alloc2_old w
  have hr2' := heap_alloc2_new w
  have hs1' := fun o o' => show ((w.alloc o).alloc o').heap.size = w.heap.size + 2 by simp
  have HMD := hide (show Ward.madeN (n + 1) t = if (Ward.Nd.kids t).length = 0 then ⟨Ward.Nd.pts t, [], Ward.boxL ((Ward.Nd.pts t).map Ward.boxOf), ((Ward.Nd.pts t).length : Nat), Sha.sha (Ward.leafText (Ward.Nd.pts t))⟩ else ⟨[], Ward.Nd.kids t, Ward.boxL ((Ward.Nd.kids t).map (Ward.boxN n)), ((Ward.Nd.kids t).map (Ward.numN n)).sum, Sha.sha (Ward.textK n (Ward.Nd.kids t))⟩ from rfl)
  clear hV hfew hnum hK hu hS hkr hpr
  subst evp evc
  go_enter Tryz.func83, Tryz.ntmps83
  go_upto_region 1 with fail
  generalize hW : World.alloc (World.alloc w _) _ = w1
  have hb1 : Below w.heap.size w w1 := by rw [← hW]; exact hb1' _ _
  have hr1 : w1.heap[w.heap.size]? = some (.cells V.toArray 90 (0, 0)) := by rw [← hW]; exact hr1' _ _
  have hr2 : ∃ Z : Array Value, Z.size = 39 ∧ w1.heap[w.heap.size + 1]? = some (.cells Z 90 (0, 0)) := by rw [← hW]; exact ⟨_, rfl, hr2' _ _⟩
  have hs1 : w.heap.size + 2 ≤ w1.heap.size := by rw [← hW, hs1']; exact Nat.le_refl _
  clear hb1' hr1' hr2' hs1' hW
  obtain ⟨Z, hZ, hr2⟩ := hr2
  have c0 : w1.cell? ⟨w.heap.size, 0, none⟩ = some (.slice ap (Ward.Nd.pts t).length cp) := by rw [cell_of_row _ _ _ _ _ _ hr1, List.getElem?_toArray]; exact hv0
  have c1 : w1.cell? ⟨w.heap.size, 1, none⟩ = some (.slice ac (Ward.Nd.kids t).length cc) := by rw [cell_of_row _ _ _ _ _ _ hr1, List.getElem?_toArray]; exact hv1
  have HB1 := hide hb1
  have HZ := hide hZ
  have HR2 := hide hr2
  clear hb1 hr1 hr2 hZ hv0 hv1
  by_cases h0 : (Ward.Nd.kids t).length = 0
  · rw [if_pos h0] at HMD
    have HX := hide (HLF.out w1 HB1.out)
    have HROW := hide (show Row39 (nodeV (.slice ap (Ward.Nd.pts t).length cp) (.slice none 0 0) (Ward.box 0 (Ward.Nd.pts t)) (Ward.Nd.pts t).length ((Sha.sha (Ward.leafText (Ward.Nd.pts t))).map Y)) from nodeV_row (sha_len _))
    have HRES := hide (fun (W : World) (hb : Below w.heap.size w W) => leaf_made n HP.out hb HS.out)
    generalize nodeV (.slice ap (Ward.Nd.pts t).length cp) (.slice none 0 0) (Ward.box 0 (Ward.Nd.pts t)) (Ward.Nd.pts t).length ((Sha.sha (Ward.leafText (Ward.Nd.pts t))).map Y) = R at *
    go_wp2_with fail
    refine HX.out.mono ?_
    rintro _ w2 ⟨rfl, hb2⟩
    have HB2 := hide (HB1.out.trans (hb2.mono (by omega)))
    have HZ2 := hide ((hb2.block (w.heap.size + 1) (by omega)).trans HR2.out)
    clear hb2
    go_wp2_with (refine wpList_store_row rfl 90 (.tmp 2) (.tmp 9) rfl (w.heap.size + 1) R.toArray rfl rfl 90 _ HZ2.out HROW.out.info (by rw [HROW.out.size, HZ.out]) HROW.out.one ?_)
    refine bodyPost_ret (v := .agg R.toArray) (results_cell_row rfl _ _ (w.heap.size + 1) 90 R.toArray (0, 0) (.struct fs) rfl (setRow_heap _ _ _ _ _ _ HZ2.out) HU.out rfl HROW.out.info) rfl ⟨R, rfl, ?_, below_setRow HB2.out (by omega) _⟩
    rw [HMD.out]
    exact HRES.out _ (below_setRow HB2.out (by omega) _)
  · rw [if_neg h0] at HMD
    have HX := hide (HND.out w1 HB1.out (fun e => h0 (by rw [e]; rfl)))
    have HROW := hide (show Row39 (nodeV (.slice none 0 0) (.slice ac (Ward.Nd.kids t).length cc) (Ward.boxL ((Ward.Nd.kids t).map (Ward.boxN n))) (((Ward.Nd.kids t).map (Ward.numN n)).sum) ((Sha.sha (Ward.textK n (Ward.Nd.kids t))).map Y)) from nodeV_row (sha_len _))
    have HRES := hide (fun (W : World) (hb : Below w.heap.size w W) => node_made n HKD.out hb HS.out)
    generalize nodeV (.slice none 0 0) (.slice ac (Ward.Nd.kids t).length cc) (Ward.boxL ((Ward.Nd.kids t).map (Ward.boxN n))) (((Ward.Nd.kids t).map (Ward.numN n)).sum) ((Sha.sha (Ward.textK n (Ward.Nd.kids t))).map Y) = R at *
    go_wp2_with fail
    refine HX.out.mono ?_
    rintro _ w2 ⟨rfl, hb2⟩
    have HB2 := hide (HB1.out.trans (hb2.mono (by omega)))
    have HZ2 := hide ((hb2.block (w.heap.size + 1) (by omega)).trans HR2.out)
    clear hb2
    go_wp2_with (refine wpList_store_row rfl 90 (.tmp 2) (.tmp 12) rfl (w.heap.size + 1) R.toArray rfl rfl 90 _ HZ2.out HROW.out.info (by rw [HROW.out.size, HZ.out]) HROW.out.one ?_)
    refine bodyPost_ret (v := .agg R.toArray) (results_cell_row rfl _ _ (w.heap.size + 1) 90 R.toArray (0, 0) (.struct fs) rfl (setRow_heap _ _ _ _ _ _ HZ2.out) HU.out rfl HROW.out.info) rfl ⟨R, rfl, ?_, below_setRow HB2.out (by omega) _⟩
    rw [HMD.out]
    exact HRES.out _ (below_setRow HB2.out (by omega) _)
end Go.Proofs.YtenaelkbgkpllaaGreatDoor
/- The boxes of a child that is hidden. -/
namespace Go.Proofs.YtenaelkbgkpllaaGreatDoor
open Go.RowKit

set_option maxRecDepth 100000 in
set_option maxHeartbeats 4000000 in
theorem boxHold_hidden (n : Nat) (t : Ward.NT n) (V : List Value) (w : World) (S : Nat → Prop) (hS : ∀ g, S g → g < w.heap.size) (hN : NodeIs w S n t V) (hfew : Ward.Few n t) (hs : Ward.shownN n t = false) :
    Calls Tryz.prog 85 #[.agg V.toArray] w fun e w' => e = .returned (.bool (Ward.boxHolds n t)) ∧ Below w.heap.size w w' := by
  have HE := hide (show Ward.boxHolds n t = true by unfold Ward.boxHolds; rw [hs]; rfl)
  rw [HE.out]
  have HX := hide (fun (W : World) (hb : Below w.heap.size w W) => isShown_any n t V W S (NodeIs.keep (below_same hb hS) (fun _ h => h) n t V hN) hfew)
  rw [hs] at HX
  obtain ⟨fs, hu⟩ := underNode
  have HU := hide hu
  obtain ⟨a1, l1, c1, a2, l2, c2, hV, hd⟩ := hN.cells
  have HR := hide (show Row39 V by rw [hV]; exact nodeV_row hd)
  have hb1' := fun o => (Below.refl w.heap.size w).alloc (Nat.le_refl _) o
  have hr1' := heap_alloc_new w
  clear hN hfew hs hS hu hV hd HE
  go_enter Tryz.func85, Tryz.ntmps85
  go_upto_region 1 with fail
  generalize hW : World.alloc w _ = w1
  have hb1 : Below w.heap.size w w1 := by rw [← hW]; exact hb1' _
  have hr1 : w1.heap[w.heap.size]? = some (.cells V.toArray 90 (0, 0)) := by rw [← hW]; exact hr1' _
  clear hb1' hr1' hW
  have hs1 := hb1.size
  have HN1 := hide hr1
  have HB1 := hide hb1
  have HXX := hide (HX.out w1 hb1)
  clear hb1 hr1
  go_wp2_with (refine wpList_load_row rfl 90 (.tmp 1) rfl w.heap.size rfl 90 V.toArray (0, 0) (.struct fs) HN1.out HU.out rfl HR.out.info ?_)
  refine HXX.out.mono ?_
  rintro _ w2 ⟨rfl, hb2⟩
  have HB2 := hide (HB1.out.trans (hb2.mono hs1))
  clear hb2
  go_wp2_with fail
  go_ret
  exact ⟨rfl, HB2.out⟩
end Go.Proofs.YtenaelkbgkpllaaGreatDoor
/- Two boxes held against each other. -/
namespace Go.Proofs.YtenaelkbgkpllaaGreatDoor
open Go.RowKit

theorem eqBox (b c : Ward.Box) (W : World) : (Op.equalIn 10000 88 (.agg #[I b.a, I b.b, I b.c, I b.d]) (.agg #[I c.a, I c.b, I c.c, I c.d])).run Tryz.prog W = .ok (Ward.boxEq b c) W := by
  have u3 := Tryz.underlying3
  have a3 := Tryz.isAgg3
  have z3 := Tryz.sizeOf3
  have hS : Tryz.prog.underlying 88 = some (.struct (Tryz.prog.fieldsOf 88)) := by kernel_rfl
  have hp : Tryz.prog.stoodInHeld 88 = false := by kernel_rfl
  rw [show (10000 : Nat) = 9999 + 1 from rfl, run_equalIn_agg W 9999 88 _ _ hS hp]
  simp only [Program.fieldsOf, Tryz.underlying88]
  go_simp
  unfold Ward.boxEq
  by_cases h1 : b.a = c.a <;> by_cases h2 : b.b = c.b <;> by_cases h3 : b.c = c.c <;> by_cases h4 : b.d = c.d <;> simp [h1, h2, h3, h4]
end Go.Proofs.YtenaelkbgkpllaaGreatDoor
/- The boxes of a child that is shown. -/
namespace Go.Proofs.YtenaelkbgkpllaaGreatDoor
open Go.RowKit

/-- the box and the number, as they lie in a node's row -/
theorem box_cells {w : World} {g n : Nat} {t : Ward.NT n} {V : List Value} {W : World} {S : Nat → Prop} (hN : NodeIs W S n t V) (hr : w.heap[g]? = some (.cells V.toArray 90 (0, 0))) : w.cell? ⟨g, 2, none⟩ = some (I (Ward.boxN n t).a) ∧ w.cell? ⟨g, 3, none⟩ = some (I (Ward.boxN n t).b) ∧ w.cell? ⟨g, 4, none⟩ = some (I (Ward.boxN n t).c) ∧ w.cell? ⟨g, 5, none⟩ = some (I (Ward.boxN n t).d) ∧ w.cell? ⟨g, 6, none⟩ = some (I (Ward.numN n t)) := by
  obtain ⟨a1, l1, c1, a2, l2, c2, hV, hd⟩ := hN.cells
  subst hV
  refine ⟨?_, ?_, ?_, ?_, ?_⟩ <;> (rw [cell_of_row _ _ _ _ _ _ hr, List.getElem?_toArray]; rfl)
set_option maxRecDepth 100000 in
set_option maxHeartbeats 4000000 in
theorem boxHold_shown (n : Nat) (t : Ward.NT (n + 1)) (V : List Value) (w : World) (S : Nat → Prop) (hS : ∀ g, S g → g < w.heap.size) (hN : NodeIs w S (n + 1) t V) (hfew : Ward.Few (n + 1) t) (hnum : ∀ c ∈ Ward.Nd.kids t, 0 ≤ Ward.numN n c ∧ Ward.numN n c ≤ 1000000) (hK : KT w) (hs : Ward.shownN (n + 1) t = true) :
    Calls Tryz.prog 85 #[.agg V.toArray] w fun e w' => e = .returned (.bool (Ward.boxHolds (n + 1) t)) ∧ Below w.heap.size w w' := by
  have HE := hide (show Ward.boxHolds (n + 1) t = (Ward.boxEq (Ward.boxN (n + 1) t) (Ward.boxN (n + 1) (Ward.madeN (n + 1) t)) && decide (Ward.numN (n + 1) t = Ward.numN (n + 1) (Ward.madeN (n + 1) t))) by unfold Ward.boxHolds; rw [hs]; rfl)
  rw [HE.out]
  have HNK := hide (fun (W : World) (hb : Below w.heap.size w W) => NodeIs.keep (S' := S) (below_same hb hS) (fun _ h => h) (n + 1) t V hN)
  have HX := hide (fun (W : World) (hb : Below w.heap.size w W) => isShown_any (n + 1) t V W S (HNK.out W hb) hfew)
  rw [hs] at HX
  have HMD := hide (fun (W : World) (hb : Below w.heap.size w W) => made_any n t V W S (fun g hg => Nat.lt_of_lt_of_le (hS g hg) hb.size) (HNK.out W hb) hfew hnum (hK.below hb))
  generalize hmt : Ward.madeN (n + 1) t = mt at *
  obtain ⟨fs, hu⟩ := underNode
  have HU := hide hu
  obtain ⟨a1, l1, c1, a2, l2, c2, hV, hd⟩ := hN.cells
  have HR := hide (show Row39 V by rw [hV]; exact nodeV_row hd)
  have HN := hide hN
  have hb1' := fun o => (Below.refl w.heap.size w).alloc (Nat.le_refl _) o
  have hr1' := heap_alloc_new w
  clear hN hfew hs hS hu hV hd HE hmt hnum hK
  go_enter Tryz.func85, Tryz.ntmps85
  go_upto_region 1 with fail
  generalize hW : World.alloc w _ = w1
  have hb1 : Below w.heap.size w w1 := by rw [← hW]; exact hb1' _
  have hr1 : w1.heap[w.heap.size]? = some (.cells V.toArray 90 (0, 0)) := by rw [← hW]; exact hr1' _
  clear hb1' hr1' hW
  have hs1 : w.heap.size < w1.heap.size := (Array.getElem?_eq_some_iff.1 hr1).1
  have HN1 := hide hr1
  have HB1 := hide hb1
  have HXX := hide (HX.out w1 hb1)
  clear hb1 hr1
  go_wp2_with (refine wpList_load_row rfl 90 (.tmp 1) rfl w.heap.size rfl 90 V.toArray (0, 0) (.struct fs) HN1.out HU.out rfl HR.out.info ?_)
  refine HXX.out.mono ?_
  rintro _ w2 ⟨rfl, hb2⟩
  have hs2 := hb2.size
  have HB2 := hide (HB1.out.trans (hb2.mono (by omega)))
  have HN2 := hide ((hb2.block w.heap.size hs1).trans HN1.out)
  have HMX := hide (HMD.out w2 HB2.out)
  clear hb2
  go_wp2_with (refine wpList_load_row rfl 90 (.tmp 1) rfl w.heap.size rfl 90 V.toArray (0, 0) (.struct fs) HN2.out HU.out rfl HR.out.info ?_)
  refine HMX.out.mono ?_
  rintro _ w3 ⟨V', rfl, hn3, hb3⟩
  have hs3 := hb3.size
  have HB3 := hide (HB2.out.trans (hb3.mono (by omega)))
  have HN3 := hide ((hb3.block w.heap.size (by omega)).trans HN2.out)
  have HM3 := hide hn3
  have HR' := hide (show Row39 V' by
    obtain ⟨a1, l1, c1, a2, l2, c2, hV, hd⟩ := hn3.cells
    rw [hV]; exact nodeV_row hd)
  clear hb3 hn3
  have hb4' := fun o => (Below.refl w3.heap.size w3).alloc (Nat.le_refl _) o
  have hr4' := heap_alloc_new w3
  go_upto_region 4 with (refine wpList_store_row rfl 90 (.tmp 3) (.tmp 8) rfl w3.heap.size V'.toArray rfl rfl 90 _ (heap_alloc_new w3 _) HR'.out.info (by rw [HR'.out.size]; rfl) HR'.out.one ?_; rw [World.setRow_alloc_new])
  generalize hW : World.alloc w3 _ = w4
  have hb4 : Below w3.heap.size w3 w4 := by rw [← hW]; exact hb4' _
  have hr4 : w4.heap[w3.heap.size]? = some (.cells V'.toArray 90 (0, 0)) := by rw [← hW]; exact hr4' _
  clear hb4' hr4' hW
  have HB4 := hide (HB3.out.trans (hb4.mono (by omega)))
  obtain ⟨k2, k3, k4, k5, k6⟩ := box_cells HN.out ((hb4.block w.heap.size (by omega)).trans HN3.out)
  obtain ⟨m2, m3, m4, m5, m6⟩ := box_cells HM3.out hr4
  have heq := eqBox (Ward.boxN (n + 1) t) (Ward.boxN (n + 1) mt)
  obtain ⟨r, hr⟩ : ∃ r, Ward.boxEq (Ward.boxN (n + 1) t) (Ward.boxN (n + 1) mt) = r := ⟨_, rfl⟩
  rw [hr] at heq
  have HRR := hide hr
  clear hb4 hr4 hr
  cases r
  all_goals
    go_wp2
    go_ret
    refine ⟨?_, HB4.out⟩
    rw [HRR.out]
    first | rfl | simp
end Go.Proofs.YtenaelkbgkpllaaGreatDoor
/- How far a box is; which children must be shown. -/
namespace Go.Proofs.YtenaelkbgkpllaaGreatDoor
open Go.RowKit

theorem gap_le {lo hi x : Int} (h1 : -1000000 ≤ lo) (h2 : lo ≤ 1000000) (h3 : -1000000 ≤ hi) (h4 : hi ≤ 1000000) (h5 : -1000000 ≤ x) (h6 : x ≤ 1000000) : Ward.gap lo hi x ≤ 2000000 := by
  unfold Ward.gap; omega
theorem sq_le {u : Int} (h0 : 0 ≤ u) (h1 : u ≤ 2000000) : 0 ≤ u * u ∧ u * u ≤ 4000000000000 :=
  ⟨Int.mul_nonneg h0 h0, Int.le_trans (Int.mul_le_mul h1 h1 h0 (by decide)) (by decide)⟩
theorem gap_if (lo hi x : Int) : (if (if lo - x < 0 then 0 else lo - x) < x - hi then x - hi else if lo - x < 0 then 0 else lo - x) = Ward.gap lo hi x := by
  unfold Ward.gap
  (repeat' split) <;> omega
set_option maxRecDepth 100000 in
set_option maxHeartbeats 2000000 in
theorem distance_any (b : Ward.Box) (x y : Int) (w : World) (hb : b.In) (hx : -1000000 ≤ x ∧ x ≤ 1000000) (hy : -1000000 ≤ y ∧ y ≤ 1000000) :
    Calls Tryz.prog 80 #[Bx b, I x, I y] w fun e w' => e = .returned (I (Ward.dist b x y)) ∧ Below w.heap.size w w' := by
  obtain ⟨a1, a2, b1, b2, c1, c2, d1, d2⟩ := hb
  obtain ⟨x1, x2⟩ := hx
  obtain ⟨y1, y2⟩ := hy
  have HD := hide (show Ward.dist b x y = Ward.gap b.a b.c x * Ward.gap b.a b.c x + Ward.gap b.b b.d y * Ward.gap b.b b.d y from rfl)
  have HGX := hide (gap_if b.a b.c x)
  have HGY := hide (gap_if b.b b.d y)
  have u0 := Ward.gap_nonneg b.a b.c x
  have u1 := gap_le a1 a2 c1 c2 x1 x2
  have v0 := Ward.gap_nonneg b.b b.d y
  have v1 := gap_le b1 b2 d1 d2 y1 y2
  obtain ⟨s0, s1⟩ := sq_le u0 u1
  obtain ⟨t0, t1⟩ := sq_le v0 v1
  obtain ⟨ba, bb, bc, bd⟩ := b
  simp only at *
  go_enter Tryz.func80, Tryz.ntmps80
  go_upto_region 3 with fail
  rw [HGX.out, HGY.out]
  generalize Ward.gap ba bc x = u at *
  generalize Ward.gap bb bd y = v at *
  go_wp2
  go_ret
  exact ⟨by rw [HD.out]; rfl, (Below.refl w.heap.size w).alloc (Nat.le_refl _) _⟩
theorem must_window {q : Ward.Qr} (h : q.kind = 0) (a : List Ward.Pt) (b : Ward.Box) : Ward.must q a b = Ward.meets (Ward.window q) b := by unfold Ward.must; rw [if_pos h]
/-- a query and a box as they lie -/
def QryBox (w : World) (g k : Nat) (q : Ward.Qr) (b : Ward.Box) : Prop :=
  w.heap[g]? = some (.cells #[I q.kind, I q.a, I q.b, I q.c, I q.d, I q.x, I q.y, I q.k] 46 (0, 0)) ∧ w.heap[k]? = some (.cells #[I b.a, I b.b, I b.c, I b.d] 88 (0, 0))
theorem QryBox.below {w w' : World} {g k B : Nat} {q : Ward.Qr} {b : Ward.Box} (h : QryBox w g k q b) (hb : Below B w w') (hg : g < B) (hk : k < B) : QryBox w' g k q b := ⟨(hb.block g hg).trans h.1, (hb.block k hk).trans h.2⟩
theorem rowQ8 {w : World} {g t : Nat} {a b c d e f h i : Value} (hr : w.heap[g]? = some (.cells #[a, b, c, d, e, f, h, i] t (0, 0))) : w.cell? ⟨g, 0, none⟩ = some a ∧ w.cell? ⟨g, 1, none⟩ = some b ∧ w.cell? ⟨g, 2, none⟩ = some c ∧ w.cell? ⟨g, 3, none⟩ = some d ∧ w.cell? ⟨g, 4, none⟩ = some e ∧ w.cell? ⟨g, 5, none⟩ = some f ∧ w.cell? ⟨g, 6, none⟩ = some h ∧ w.cell? ⟨g, 7, none⟩ = some i := by
  refine ⟨?_, ?_, ?_, ?_, ?_, ?_, ?_, ?_⟩ <;> rw [cell_of_row _ _ _ _ _ _ hr] <;> rfl
set_option maxRecDepth 100000 in
set_option maxHeartbeats 4000000 in
theorem mustShow_window (q : Ward.Qr) (v : Value) (b : Ward.Box) (w : World) (hk : q.kind = 0) :
    Calls Tryz.prog 42 #[Qv q, v, Bx b] w fun e w' => e = .returned (.bool (Ward.meets (Ward.window q) b)) ∧ Below w.heap.size w w' := by
  have HWI := hide (fun W => windowOf_any q W)
  generalize Ward.window q = wq at *
  have HMT := hide (fun W => meets_any wq b W)
  generalize Ward.meets wq b = r at *
  obtain ⟨qk, qa, qb, qc, qd, qx, qy, qn⟩ := q
  simp only at hk
  subst hk
  have hb2 := fun o o' => ((Below.refl w.heap.size w).alloc (Nat.le_refl _) o).alloc (by simp) o'
  have hr2 := heap_alloc2_new w
  have hr1 := heap_alloc2_old w
  have hs2 := fun o o' => show ((w.alloc o).alloc o').heap.size = w.heap.size + 2 by simp
  go_enter Tryz.func42, Tryz.ntmps42
  go_upto_region 2 with fail
  generalize hW : World.alloc (World.alloc w _) _ = w1
  have hb1 : Below w.heap.size w w1 := by rw [← hW]; exact hb2 _ _
  have h1 : QryBox w1 w.heap.size (w.heap.size + 1) ⟨0, qa, qb, qc, qd, qx, qy, qn⟩ b := by rw [← hW]; exact ⟨hr1 _ _, hr2 _ _⟩
  have hs1 : w.heap.size + 2 ≤ w1.heap.size := by rw [← hW, hs2]; exact Nat.le_refl _
  clear hb2 hr1 hr2 hs2 hW
  have HB1 := hide hb1
  have H1 := hide h1
  obtain ⟨k0, k1, k2, k3, k4, k5, k6, k7⟩ := rowQ8 h1.1
  obtain ⟨c1, c2, c3, c4⟩ := row4 h1.2
  clear hb1 h1
  go_region_with (first | (go_at_call 73; go_must (refine (HWI.out w1.drew).mono ?_; rintro _ w6 ⟨rfl, hb6⟩; have hs6 := hb6.size; have H6 := hide (QryBox.below (w := w1.drew) H1.out hb6 (by simp; omega) (by simp; omega)); obtain ⟨e1, e2, e3, e4⟩ := row4 H6.out.2; have HB6 := hide hb6; clear hb6)) | (go_at_call 78; go_must (refine (HMT.out w6).mono ?_; rintro _ w7 ⟨rfl, hb7⟩; have HB7 := hide hb7; have hs7 := hb7.size; clear hb7)))
  all_goals
    go_wp2
    go_ret
    have hd : w1.drew.heap.size = w1.heap.size := by simp
    rw [hd] at hs6
    exact ⟨rfl, (HB1.out.drew.trans (HB6.out.mono (by simp; omega))).trans (HB7.out.mono (by omega))⟩
end Go.Proofs.YtenaelkbgkpllaaGreatDoor
/- A heap in a list: what goes up and down it. -/
namespace Go.Proofs.YtenaelkbgkpllaaGreatDoor
namespace Heap
variable {α : Type} [Inhabited α]
/-- what stands at a place -/
def at' (l : List α) (k : Nat) : α := l[k]?.getD default
def par (k : Nat) : Nat := (k - 1) / 2
/-- two places exchanged -/
def swp (l : List α) (i j : Nat) : List α := (l.set i (at' l j)).set j (at' l i)
theorem at_get {l : List α} {k : Nat} (h : k < l.length) : at' l k = l[k] := by
  unfold at'
  rw [List.getElem?_eq_getElem h]
  rfl
theorem swp_len (l : List α) (i j : Nat) : (swp l i j).length = l.length := by simp [swp]
theorem swp_perm {l : List α} {i j : Nat} (hi : i < l.length) (hj : j < l.length) : (swp l i j).Perm l := by
  unfold swp
  rw [at_get hi, at_get hj]
  exact List.set_set_perm hi hj
theorem at_swp {l : List α} {i j : Nat} (hi : i < l.length) (hj : j < l.length) (k : Nat) : at' (swp l i j) k = if k = j then at' l i else if k = i then at' l j else at' l k := by
  show ((l.set i (at' l j)).set j (at' l i))[k]?.getD default = _
  by_cases h1 : k = j
  · rw [if_pos h1, h1, List.getElem?_set, if_pos rfl, if_pos (by simpa using hj)]
    rfl
  · rw [if_neg h1, List.getElem?_set, if_neg (fun e => h1 e.symm), List.getElem?_set]
    by_cases h2 : k = i
    · rw [if_pos h2, if_pos h2.symm, if_pos hi]
      rfl
    · rw [if_neg h2, if_neg (fun e => h2 e.symm)]
      rfl
theorem at_app {l : List α} {x : α} {k : Nat} (h : k < l.length) : at' (l ++ [x]) k = at' l k := by
  unfold at'
  rw [List.getElem?_append_left h]
theorem at_last (l : List α) (x : α) : at' (l ++ [x]) l.length = x := by
  unfold at'
  rw [List.getElem?_append_right (Nat.le_refl _), Nat.sub_self]
  rfl
theorem at_take {l : List α} {n k : Nat} (h : k < n) : at' (l.take n) k = at' l k := by
  unfold at'
  rw [List.getElem?_take, if_pos h]
theorem at_mem {l : List α} {k : Nat} (h : k < l.length) : at' l k ∈ l := by rw [at_get h]; exact List.getElem_mem h
/-- no one stands below one that comes behind it -/
def Ok (lt : α → α → Prop) (f : Nat → α) (n : Nat) : Prop := ∀ k, k < n → 0 < k → ¬ lt (f k) (f (par k))
/-- but for one that may have to go up -/
structure Up (lt : α → α → Prop) (f : Nat → α) (n j : Nat) : Prop where
  inn : j < n
  rest : ∀ k, k < n → 0 < k → k ≠ j → ¬ lt (f k) (f (par k))
  over : ∀ k, k < n → 0 < k → par k = j → 0 < j → ¬ lt (f k) (f (par j))
/-- but for one that may have to go down -/
structure Down (lt : α → α → Prop) (f : Nat → α) (n i : Nat) : Prop where
  rest : ∀ k, k < n → 0 < k → par k ≠ i → ¬ lt (f k) (f (par k))
  over : ∀ k, k < n → 0 < k → par k = i → 0 < i → ¬ lt (f k) (f (par i))
/-- an order, some of which may be alike -/
structure Weak (lt : α → α → Prop) : Prop where
  anti : ∀ a b, lt a b → ¬ lt b a
  trans : ∀ a b c, ¬ lt b a → ¬ lt c b → ¬ lt c a
theorem par_lt {k : Nat} (h : 0 < k) : par k < k := by unfold par; omega
section
variable {lt : α → α → Prop}
theorem up_start {l : List α} {x : α} (h : Ok lt (at' l) l.length) : Up lt (at' (l ++ [x])) (l.length + 1) l.length := by
  refine ⟨by omega, fun k hk h0 hne => ?_, fun k hk h0 hp _ => ?_⟩
  · have h1 : k < l.length := by omega
    have h2 := par_lt h0
    rw [at_app h1, at_app (by omega)]
    exact h k h1 h0
  · have := par_lt h0
    omega
theorem up_step (hw : Weak lt) {l : List α} {n j : Nat} (hn : n ≤ l.length) (h : Up lt (at' l) n j) (h0 : 0 < j) (hl : lt (at' l j) (at' l (par j))) : Up lt (at' (swp l (par j) j)) n (par j) := by
  have hp := par_lt h0
  have hj := h.inn
  have ha := fun k => at_swp (l := l) (i := par j) (j := j) (by omega) (by omega) k
  refine ⟨by omega, fun k hk hk0 hne => ?_, fun k hk hk0 hpk hp0 => ?_⟩
  · have hpk := par_lt hk0
    rw [ha, ha]
    by_cases e1 : k = j
    · subst e1
      rw [if_pos rfl, if_neg (by omega), if_pos rfl]
      exact hw.anti _ _ hl
    · rw [if_neg e1, if_neg hne]
      by_cases e2 : par k = j
      · rw [if_pos e2]
        exact h.over k hk hk0 e2 h0
      · rw [if_neg e2]
        by_cases e3 : par k = par j
        · rw [if_pos e3]
          have h1 := h.rest k hk hk0 e1
          rw [e3] at h1
          exact hw.trans _ _ _ (hw.anti _ _ hl) h1
        · rw [if_neg e3]
          exact h.rest k hk hk0 e1
  · have hpp := par_lt hp0
    have hkk := par_lt hk0
    rw [ha, ha, if_neg (show ¬ par (par j) = j by omega), if_neg (show ¬ par (par j) = par j by omega)]
    have h2 := h.rest (par j) (by omega) hp0 (by omega)
    by_cases e1 : k = j
    · subst e1
      rw [if_pos rfl]
      exact h2
    · rw [if_neg e1, if_neg (show ¬ k = par j by omega)]
      have h1 := h.rest k hk hk0 e1
      rw [hpk] at h1
      exact hw.trans _ _ _ h2 h1
theorem down_step (hw : Weak lt) {l : List α} {n i j : Nat} (hn : n ≤ l.length) (h : Down lt (at' l) n i) (hj : j < n) (hj0 : 0 < j) (hp : par j = i) (hl : lt (at' l j) (at' l i)) (hs : ∀ k, k < n → 0 < k → par k = i → ¬ lt (at' l k) (at' l j)) : Down lt (at' (swp l i j)) n j := by
  have hij := par_lt hj0
  rw [hp] at hij
  have ha := fun k => at_swp (l := l) (i := i) (j := j) (by omega) (by omega) k
  refine ⟨fun k hk hk0 hne => ?_, fun k hk hk0 hpk _ => ?_⟩
  · have hpk := par_lt hk0
    rw [ha, ha, if_neg hne]
    by_cases e1 : k = j
    · subst e1
      rw [if_pos rfl, if_pos hp]
      exact hw.anti _ _ hl
    · rw [if_neg e1]
      by_cases e2 : par k = i
      · rw [if_pos e2, if_neg (by omega)]
        exact hs k hk hk0 e2
      · rw [if_neg e2]
        by_cases e3 : k = i
        · subst e3
          rw [if_pos rfl]
          exact h.over j hj hj0 hp hk0
        · rw [if_neg e3]
          exact h.rest k hk hk0 e2
  · have hkj : j < k := by have := par_lt hk0; omega
    rw [ha, ha, if_neg (by omega), if_neg (by omega), hp, if_neg (by omega), if_pos rfl]
    have h1 := h.rest k hk hk0 (by omega)
    rw [hpk] at h1
    exact h1
/-- behind the exchange of the first and the last -/
theorem down_start {l : List α} {n : Nat} (hn : l.length = n + 1) (h : Ok lt (at' l) (n + 1)) : Down lt (at' (swp l 0 n)) n 0 := by
  have ha := fun k => at_swp (l := l) (i := 0) (j := n) (by omega) (by omega) k
  refine ⟨fun k hk h0 hne => ?_, fun k _ _ _ h0 => absurd h0 (by omega)⟩
  have hp := par_lt h0
  rw [ha, ha, if_neg (by omega), if_neg (by omega), if_neg (by omega), if_neg hne]
  exact h k (by omega) h0
theorem ok_take {l : List α} {n m : Nat} (h : Ok lt (at' l) n) (hm : n ≤ m) : Ok lt (at' (l.take m)) n := by
  intro k hk h0
  have := par_lt h0
  rw [at_take (by omega), at_take (by omega)]
  exact h k hk h0
end
end Heap
namespace Heap
section
variable {α : Type} {lt : α → α → Prop}
theorem up_end {f : Nat → α} {n j : Nat} (h : Up lt f n j) (he : j = 0 ∨ ¬ lt (f j) (f (par j))) : Ok lt f n := by
  intro k hk h0
  by_cases e : k = j
  · subst e
    rcases he with he | he
    · omega
    · exact he
  · exact h.rest k hk h0 e
theorem down_end {f : Nat → α} {n i : Nat} (h : Down lt f n i) (he : ∀ k, k < n → 0 < k → par k = i → ¬ lt (f k) (f i)) : Ok lt f n := by
  intro k hk h0
  by_cases e : par k = i
  · rw [e]; exact he k hk h0 e
  · exact h.rest k hk h0 e
/-- the first is no farther than any -/
theorem first_least (hw : Weak lt) (hi : ∀ a, ¬ lt a a) {f : Nat → α} {n : Nat} (h : Ok lt f n) : ∀ k, k < n → ¬ lt (f k) (f 0) := by
  intro k
  induction k using Nat.strongRecOn with
  | ind k ih =>
    intro hk
    by_cases h0 : k = 0
    · subst h0; exact hi _
    · have hp := par_lt (show 0 < k by omega)
      exact hw.trans _ _ _ (ih (par k) hp (by omega)) (h k hk (by omega))
end
end Heap
end Go.Proofs.YtenaelkbgkpllaaGreatDoor
/- The entries of the heap: how their methods are reached; how two compare. -/
namespace Go.Proofs.YtenaelkbgkpllaaGreatDoor
open Go.RowKit

theorem meth_parts {t : TypeId} {name : String} {f : FuncId} {b : Bool} (h : (Tryz.prog.info? t).bind (fun i => (i.methods.find? (·.name == name)).map fun m => (m.path.toList.isEmpty, m.func)) = some (true, some (f, b))) :
    ∃ i m, Tryz.prog.info? t = some i ∧ i.methods.find? (·.name == name) = some m ∧ m.path = #[] ∧ m.func = some (f, b) := by
  cases hi : Tryz.prog.info? t with
  | none => rw [hi] at h; cases h
  | some i =>
    rw [hi] at h
    simp only [Option.bind_some] at h
    cases hm : i.methods.find? (·.name == name) with
    | none => rw [hm] at h; cases h
    | some m =>
      rw [hm] at h
      simp only [Option.map_some, Option.some.injEq, Prod.mk.injEq] at h
      refine ⟨i, m, rfl, hm, ?_, h.2⟩
      have h1 := h.1
      cases hp : m.path with
      | mk l => rw [hp] at h1; cases l with | nil => rfl | cons _ _ => cases h1
theorem m_value {name : String} {f : FuncId} (hm : (Tryz.prog.info? 163).bind (fun i => (i.methods.find? (·.name == name)).map fun m => (m.path.toList.isEmpty, m.func)) = some (true, some (f, false))) (h : Nat) (v : Value) (w : World) (hc : w.cell? ⟨h, 0, none⟩ = some v) :
    (method 376 163 (.pointer (some ⟨h, 0, none⟩)) name).run Tryz.prog w = .ok (f, v) w := by
  obtain ⟨i, m, hi, hf, hp, hfn⟩ := meth_parts hm
  have a1 := Tryz.isAgg168
  have u1 := Tryz.underlying163
  rw [show (376 : Nat) = 375 + 1 from rfl]
  unfold method
  have e1 : (follow [] 163 (Place.val (Value.pointer (some ⟨h, 0, none⟩)))).run Tryz.prog w = .ok (163, Place.val (Value.pointer (some ⟨h, 0, none⟩))) w := rfl
  have e2 : ∀ nm : String, (receiverAt 163 (Place.val (Value.pointer (some ⟨h, 0, none⟩))) false (some nm)).run Tryz.prog w = .ok v w := by
    intro nm
    have e3 : Builtin.ssaWrapNilChk_ #[163] 163 #[Value.pointer (some ⟨h, 0, none⟩), strVal "", strVal nm] = pure (Value.pointer (some ⟨h, 0, none⟩)) := rfl
    unfold receiverAt
    simp only [Sem.run_bind, run_underlying u1 w, Result.andThen_ok, Place.get]
    go_simp
  simp only [typeInfo, Sem.run_bind]
  go_simp
theorem m_len (h : Nat) (v : Value) (w : World) (hc : w.cell? ⟨h, 0, none⟩ = some v) : (method 376 163 (.pointer (some ⟨h, 0, none⟩)) "Len").run Tryz.prog w = .ok (114, v) w := m_value (by kernel_rfl) h v w hc
theorem m_less (h : Nat) (v : Value) (w : World) (hc : w.cell? ⟨h, 0, none⟩ = some v) : (method 376 163 (.pointer (some ⟨h, 0, none⟩)) "Less").run Tryz.prog w = .ok (212, v) w := m_value (by kernel_rfl) h v w hc
theorem m_swap (h : Nat) (v : Value) (w : World) (hc : w.cell? ⟨h, 0, none⟩ = some v) : (method 376 163 (.pointer (some ⟨h, 0, none⟩)) "Swap").run Tryz.prog w = .ok (215, v) w := m_value (by kernel_rfl) h v w hc
theorem m_push (h : Nat) (w : World) : (method 376 163 (.pointer (some ⟨h, 0, none⟩)) "Push").run Tryz.prog w = .ok (214, .pointer (some ⟨h, 0, none⟩)) w := by kernel_rfl
theorem m_pop (h : Nat) (w : World) : (method 376 163 (.pointer (some ⟨h, 0, none⟩)) "Pop").run Tryz.prog w = .ok (213, .pointer (some ⟨h, 0, none⟩)) w := by kernel_rfl
/-- an entry: how far, a node's place or none, a point -/
structure En where
  d : Int
  nd : Option Addr
  p : Ward.Pt
instance : Inhabited En := ⟨⟨0, none, ⟨0, 0, 0⟩⟩⟩
/-- its cells -/
def E5 (e : En) : List Value := [I e.d, .pointer e.nd, I e.p.id, I e.p.x, I e.p.y]
abbrev Ev (e : En) : Value := .agg #[I e.d, .pointer e.nd, I e.p.id, I e.p.x, I e.p.y]
/-- which of two comes first -/
def enLt (a b : En) : Prop := a.d < b.d ∨ (a.d = b.d ∧ a.p.id < b.p.id)
instance (a b : En) : Decidable (enLt a b) := by unfold enLt; infer_instance
theorem enWeak : Heap.Weak enLt := ⟨fun a b h => by unfold enLt at *; omega, fun a b c h1 h2 => by unfold enLt at *; omega⟩
theorem enIrr (a : En) : ¬ enLt a a := by unfold enLt; omega
def orTwo (a b : Int) : Int := if a ≠ 0 then a else b
set_option maxHeartbeats 400000 in
theorem orTwo_any (g : Nat) (a b : Int) (w : World) (h0 : w.cell? ⟨g, 0, none⟩ = some (I a)) (h1 : w.cell? ⟨g, 1, none⟩ = some (I b)) :
    Calls Tryz.prog 66 #[.slice (some ⟨g, 0, none⟩) 2 2] w fun e w' => e = .returned (I (orTwo a b)) ∧ w' = w := by
  go_enter Tryz.func66, Tryz.ntmps66
  go_wp2
  go_loopw [8] (fun v wq => wq = w ∧ ∃ i : Nat, v = I i ∧ i ≤ 2 ∧ (1 ≤ i → a = 0) ∧ (2 ≤ i → b = 0)) (fun v _ => 2 - (intOf v).toNat)
  case atStart => exact ⟨rfl, 0, rfl, by omega, by omega, by omega⟩
  case round =>
    obtain ⟨rfl, i, rfl, hi, ha, hb⟩ := hrel
    match i, hi, ha, hb with
    | 0, _, _, _ =>
      by_cases ha : a = 0
      · subst ha
        go_wp2
        go_roundw
        case rel => exact ⟨trivial, 1, by go_num, by omega, by simp, by omega⟩
        case measure => simp [intOf]
      · go_wp2
        go_ret
        exact ⟨by simp [orTwo, ha], rfl⟩
    | 1, _, ha, _ =>
      have ha := ha (by omega)
      by_cases hb : b = 0
      · subst hb
        go_wp2
        go_roundw
        case rel => exact ⟨trivial, 2, by go_num, by omega, by simp [ha], by simp⟩
        case measure => simp [intOf]
      · go_wp2
        go_ret
        exact ⟨by simp [orTwo, ha], rfl⟩
    | 2, _, ha, hb =>
      have ha := ha (by omega)
      have hb := hb (by omega)
      go_wp2
      go_ret
      exact ⟨by simp [orTwo, ha, hb], rfl⟩
set_option maxHeartbeats 400000 in
theorem isNaN64_any (n : Int) (w : World) :
    Calls Tryz.prog 218 #[I n] w fun e w' => e = .returned (.bool false) ∧ w' = w := by
  go_enter Tryz.func218, Tryz.ntmps218
  go_wp2
  go_ret
  exact ⟨rfl, rfl⟩
set_option maxHeartbeats 400000 in
theorem cmp64_any (a b : Int) (w : World) :
    Calls Tryz.prog 217 #[I a, I b] w fun e w' => e = .returned (I (cmpI a b)) ∧ w' = w := by
  rcases Int.lt_trichotomy a b with h | h | h
  · have e : cmpI a b = -1 := by simp [cmpI, h]
    rw [e]
    go_enter Tryz.func217, Tryz.ntmps217
    go_wp2_with (go_at_call 218; refine (isNaN64_any _ _).mono ?_; rintro _ _ ⟨rfl, rfl⟩)
    go_ret
    exact ⟨rfl, rfl⟩
  · have e : cmpI a b = 0 := by subst h; simp [cmpI]
    rw [e]
    subst h
    go_enter Tryz.func217, Tryz.ntmps217
    go_wp2_with (go_at_call 218; refine (isNaN64_any _ _).mono ?_; rintro _ _ ⟨rfl, rfl⟩)
    go_ret
    exact ⟨rfl, rfl⟩
  · have e : cmpI a b = 1 := by simp [cmpI, h, show ¬ a < b by omega]
    have h' : ¬ a < b := by omega
    rw [e]
    go_enter Tryz.func217, Tryz.ntmps217
    go_wp2_with (go_at_call 218; refine (isNaN64_any _ _).mono ?_; rintro _ _ ⟨rfl, rfl⟩)
    go_ret
    exact ⟨rfl, rfl⟩
/-- what compare says of two entries -/
def cmpE (a b : En) : Int := orTwo (cmpI a.d b.d) (cmpI a.p.id b.p.id)
theorem cmpE_lt (a b : En) : cmpE a b < 0 ↔ enLt a b := by
  unfold cmpE orTwo cmpI enLt
  (repeat' split) <;> omega
/-- the cells of two entries that compare reads -/
def TwoE (g k : Nat) (a b : En) (W : World) : Prop := (W.cell? ⟨g, 0, none⟩ = some (I a.d) ∧ W.cell? ⟨g, 2, none⟩ = some (I a.p.id)) ∧ W.cell? ⟨k, 0, none⟩ = some (I b.d) ∧ W.cell? ⟨k, 2, none⟩ = some (I b.p.id)
theorem TwoE.below {g k B : Nat} {a b : En} {W W' : World} (h : TwoE g k a b W) (hb : Below B W W') (hg : g < B) (hk : k < B) : TwoE g k a b W' :=
  ⟨⟨(hb.cell (p := ⟨g, 0, none⟩) hg).trans h.1.1, (hb.cell (p := ⟨g, 2, none⟩) hg).trans h.1.2⟩, (hb.cell (p := ⟨k, 0, none⟩) hk).trans h.2.1, (hb.cell (p := ⟨k, 2, none⟩) hk).trans h.2.2⟩
theorem rowE2 {w : World} {g t : Nat} {a b : Value} (h : w.heap[g]? = some (.cells #[a, b] t (0, 0))) : w.cell? ⟨g, 0, none⟩ = some a ∧ w.cell? ⟨g, 1, none⟩ = some b := by
  refine ⟨?_, ?_⟩ <;> rw [cell_of_row _ _ _ _ _ _ h] <;> rfl
set_option maxRecDepth 100000 in
set_option maxHeartbeats 2000000 in
theorem compareE_any (a b : En) (w : World) :
    Calls Tryz.prog 216 #[Ev a, Ev b] w fun e w' => e = .returned (I (cmpE a b)) ∧ Below w.heap.size w w' := by
  obtain ⟨ad, an, ⟨ai, ax, ay⟩⟩ := a
  obtain ⟨bd, bn, ⟨bi, bx, bY⟩⟩ := b
  have HE := hide (show cmpE ⟨ad, an, ⟨ai, ax, ay⟩⟩ ⟨bd, bn, ⟨bi, bx, bY⟩⟩ = orTwo (cmpI ad bd) (cmpI ai bi) from rfl)
  go_enter Tryz.func216, Tryz.ntmps216
  go_wp2_with fail
  have hz1 := heap_alloc2_old w
  have hz2 := heap_alloc2_new w
  have hbb := fun o o' => ((Below.refl w.heap.size w).alloc (Nat.le_refl _) o).alloc (by simp) o'
  generalize hW : World.alloc _ _ = w0
  have r1 : w0.heap[w.heap.size]? = some (.cells #[I ad, .pointer an, I ai, I ax, I ay] 166 (0, 0)) := by rw [← hW]; exact hz1 _ _
  have r2 : w0.heap[w.heap.size + 1]? = some (.cells #[I bd, .pointer bn, I bi, I bx, I bY] 166 (0, 0)) := by rw [← hW]; exact hz2 _ _
  have hb0 : Below w.heap.size w w0 := by rw [← hW]; exact hbb _ _
  have hz0 : w0.heap.size = w.heap.size + 2 := by rw [← hW]; simp
  clear hz1 hz2 hbb hW
  have hS : TwoE w.heap.size (w.heap.size + 1) ⟨ad, an, ⟨ai, ax, ay⟩⟩ ⟨bd, bn, ⟨bi, bx, bY⟩⟩ w0 := by
    refine ⟨⟨?_, ?_⟩, ?_, ?_⟩
    · rw [cell_of_row _ _ _ _ _ _ r1]; rfl
    · rw [cell_of_row _ _ _ _ _ _ r1]; rfl
    · rw [cell_of_row _ _ _ _ _ _ r2]; rfl
    · rw [cell_of_row _ _ _ _ _ _ r2]; rfl
  have HZ := hide hz0
  have HB := hide hb0
  have HN := hide (show ∀ o, ((w0.alloc o).drew).heap[w0.heap.size]? = some o from fun o => heap_alloc_new w0 o)
  clear r1 r2 hz0 hb0
  go_region_held3 (fun W => (W.cell? ⟨w.heap.size, 0, none⟩ = some (I ad) ∧ W.cell? ⟨w.heap.size, 2, none⟩ = some (I ai)) ∧ W.cell? ⟨w.heap.size + 1, 0, none⟩ = some (I bd) ∧ W.cell? ⟨w.heap.size + 1, 2, none⟩ = some (I bi)) (first | assumption | exact hS | exact TwoE.below hS (((Below.refl _ _).alloc (Nat.le_refl _) _).drew) (by have := HZ.out; omega) (by have := HZ.out; omega)) ((first | (go_at_call 67; refine (cmpInt_any _ _ _).mono ?_; rintro _ _ ⟨rfl, rfl⟩) | (go_at_call 217; refine (cmp64_any _ _ _).mono ?_; rintro _ _ ⟨rfl, rfl⟩) | (go_at_call 66; refine (orTwo_any _ (cmpI ad bd) (cmpI ai bi) _ (rowE2 (HN.out _)).1 (rowE2 (HN.out _)).2).mono ?_; rintro _ _ ⟨rfl, rfl⟩)))
  go_wp2
  go_ret
  exact ⟨by rw [HE.out]; rfl, (HB.out.alloc (by have := HZ.out; omega) _).drew⟩
end Go.Proofs.YtenaelkbgkpllaaGreatDoor
/- The entries of the heap in a row of their own. -/
namespace Go.Proofs.YtenaelkbgkpllaaGreatDoor
open Go.RowKit

/-- entries in a row of their own -/
def OwnE (w : World) (B : Nat) (v : Value) (l : List En) : Prop := w.ownsRow B 166 5 v l.length (l.flatMap E5)
theorem E5_len (l : List En) : (l.flatMap E5).length = l.length * 5 := by
  induction l with
  | nil => rfl
  | cons e l ih => rw [List.flatMap_cons, List.length_append, ih, List.length_cons]; show 5 + _ = _; omega
theorem E5_one {l : List En} : ∀ v ∈ l.flatMap E5, v.oneCell' = true := fun v hv => by
  obtain ⟨e, _, hv⟩ := List.mem_flatMap.1 hv
  simp only [E5, List.mem_cons, List.not_mem_nil, or_false] at hv
  rcases hv with rfl | rfl | rfl | rfl | rfl <;> rfl
theorem OwnE.below {w w' : World} {B : Nat} {v : Value} {l : List En} (h : OwnE w B v l) (hb : Below w.heap.size w w') : OwnE w' B v l := by
  refine ⟨h.1, ?_⟩
  rcases h.2 with h0 | ⟨g, cap, cur, rfl, hB, hg, r⟩
  · exact .inl h0
  · exact .inr ⟨g, cap, cur, rfl, hB, (hb.block g (Array.getElem?_eq_some_iff.1 hg).1).trans hg, r⟩
theorem OwnE.keeps {S : Nat → Prop} {w w' : World} {B : Nat} {v : Value} {l : List En} (h : OwnE w B v l) (hk : Keeps S w w') (hn : ∀ g, v.ownBlock = some g → ¬ S g) : OwnE w' B v l := by
  refine ⟨h.1, ?_⟩
  rcases h.2 with h0 | ⟨g, cap, cur, rfl, hB, hg, r⟩
  · exact .inl h0
  · exact .inr ⟨g, cap, cur, rfl, hB, (hk.block g (Array.getElem?_eq_some_iff.1 hg).1 (hn g rfl)).trans hg, r⟩
theorem OwnE.slice {w : World} {B : Nat} {v : Value} {l : List En} (h : OwnE w B v l) : ∃ a c, v = .slice a l.length c := by
  rcases h.2 with ⟨rfl, h0⟩ | ⟨g, cap, cur, rfl, _⟩
  · exact ⟨none, 0, by rw [h0]⟩
  · exact ⟨_, cap, rfl⟩
theorem OwnE.lt {w : World} {B g : Nat} {v : Value} {l : List En} (h : OwnE w B v l) (hg : v.ownBlock = some g) : B ≤ g ∧ g < w.heap.size := World.ownsRow.lt h g hg
/-- an entry as it lies -/
def EnAt (w : World) (g o : Nat) (e : En) : Prop := w.cell? ⟨g, o, none⟩ = some (I e.d) ∧ w.cell? ⟨g, o + 1, none⟩ = some (.pointer e.nd) ∧ w.cell? ⟨g, o + 2, none⟩ = some (I e.p.id) ∧ w.cell? ⟨g, o + 3, none⟩ = some (I e.p.x) ∧ w.cell? ⟨g, o + 4, none⟩ = some (I e.p.y)
theorem E5_at (l : List En) (i : Nat) (h : i < l.length) : (l.flatMap E5)[i * 5]? = some (I l[i].d) ∧ (l.flatMap E5)[i * 5 + 1]? = some (.pointer l[i].nd) ∧ (l.flatMap E5)[i * 5 + 2]? = some (I l[i].p.id) ∧ (l.flatMap E5)[i * 5 + 3]? = some (I l[i].p.x) ∧ (l.flatMap E5)[i * 5 + 4]? = some (I l[i].p.y) := by
  have key : ∀ j, j < 5 → (l.flatMap E5)[i * 5 + j]? = (E5 l[i])[j]? := fun j hj => by
    rw [List.flatMap_def, flat_get (c := 5) _ i j (fun U hU => by
      obtain ⟨e, _, rfl⟩ := List.mem_map.1 hU
      rfl) hj, List.getElem?_map, List.getElem?_eq_getElem h]
    rfl
  exact ⟨key 0 (by decide), key 1 (by decide), key 2 (by decide), key 3 (by decide), key 4 (by decide)⟩
theorem OwnE.at {w : World} {B g c : Nat} {l : List En} (h : OwnE w B (.slice (some ⟨g, 0, none⟩) l.length c) l) (i : Nat) (hi : i < l.length) : EnAt w g (i * 5) l[i] := by
  obtain ⟨h0, h1, h2, h3, h4⟩ := E5_at l i hi
  have hc := fun j u hj => World.ownsRow.cells h (g := g) rfl j u hj
  have hc' : ∀ j u, (l.flatMap E5)[j]? = some u → w.cell? ⟨g, j, none⟩ = some u := fun j u hj => by
    have := hc j u hj
    rw [Addr.add_lit, Nat.zero_add] at this
    exact this
  exact ⟨hc' _ _ h0, hc' _ _ h1, hc' _ _ h2, hc' _ _ h3, hc' _ _ h4⟩
theorem EnAt.below {w w' : World} {g o B : Nat} {e : En} (h : EnAt w g o e) (hb : Below B w w') (hg : g < B) : EnAt w' g o e :=
  ⟨(hb.cell (p := ⟨g, o, none⟩) hg).trans h.1, (hb.cell (p := ⟨g, o + 1, none⟩) hg).trans h.2.1, (hb.cell (p := ⟨g, o + 2, none⟩) hg).trans h.2.2.1, (hb.cell (p := ⟨g, o + 3, none⟩) hg).trans h.2.2.2.1, (hb.cell (p := ⟨g, o + 4, none⟩) hg).trans h.2.2.2.2⟩
theorem OwnE.some {w : World} {B : Nat} {v : Value} {l : List En} (h : OwnE w B v l) (hl : 0 < l.length) : ∃ g c, v = .slice (some ⟨g, 0, none⟩) l.length c := by
  rcases h.2 with ⟨rfl, h0⟩ | ⟨g, cap, cur, rfl, _⟩
  · omega
  · exact ⟨g, cap, rfl⟩
set_option maxRecDepth 100000 in
set_option maxHeartbeats 2000000 in
theorem less_any (v : Value) (l : List En) (i j : Nat) (w : World) (B : Nat) (ho : OwnE w B v l) (hi : i < l.length) (hj : j < l.length) (hl : l.length ≤ 100000) :
    Calls Tryz.prog 212 #[v, I i, I j] w fun e w' => e = .returned (.bool (decide (enLt l[i] l[j]))) ∧ Below w.heap.size w w' := by
  obtain ⟨g, c, rfl⟩ := ho.some (by omega)
  have hgl := (ho.lt rfl).2
  have HI := hide (ho.at i hi)
  have HJ := hide (ho.at j hj)
  have HD := hide (show decide (enLt l[i] l[j]) = decide (cmpE l[i] l[j] < 0) by rw [decide_eq_decide]; exact (cmpE_lt _ _).symm)
  have HC := hide (fun W => compareE_any l[i] l[j] W)
  generalize l[i] = a at *
  generalize l[j] = b at *
  clear ho
  rw [HD.out]
  generalize cmpE a b = r at *
  obtain ⟨ad, an, ⟨ai, ax, ay⟩⟩ := a
  obtain ⟨bd, bn, ⟨bi, bx, bY⟩⟩ := b
  obtain ⟨a0, a1, a2, a3, a4⟩ := HI.out
  obtain ⟨b0, b1, b2, b3, b4⟩ := HJ.out
  simp only at a0 a1 a2 a3 a4 b0 b1 b2 b3 b4
  go_enter Tryz.func212, Tryz.ntmps212
  go_wp2_with fail
  go_region_with (first | (go_at_call 216; go_must (refine (HC.out w.drew).mono ?_; rintro _ w6 ⟨rfl, hb6⟩; have HB6 := hide hb6; clear hb6)))
  all_goals
    go_wp2
    go_ret
    exact ⟨rfl, (Below.refl w.heap.size w).drew.trans HB6.out⟩
end Go.Proofs.YtenaelkbgkpllaaGreatDoor
/- Two entries exchanged. -/
namespace Go.Proofs.YtenaelkbgkpllaaGreatDoor
open Go.RowKit

theorem over_takeM {R cs : List Value} {o m : Nat} (h : o + cs.length ≤ m) (hm : m ≤ R.length) : (over R o cs).take m = over (R.take m) o cs := by
  apply List.ext_getElem?
  intro k
  unfold over
  rw [List.getElem?_take]
  by_cases hk : k < m
  · rw [if_pos hk]
    by_cases h1 : k < o
    · rw [List.getElem?_append_left (by simp; omega), List.getElem?_append_left (by simp; omega), List.getElem?_append_left (by simp; omega), List.getElem?_append_left (by simp; omega), List.getElem?_take, if_pos h1, List.getElem?_take, if_pos h1, List.getElem?_take, if_pos hk]
    · by_cases h2 : k < o + cs.length
      · rw [List.getElem?_append_left (by simp; omega), List.getElem?_append_right (by simp; omega), List.getElem?_append_left (by simp; omega), List.getElem?_append_right (by simp; omega)]
        congr 1
        simp
        omega
      · rw [List.getElem?_append_right (by simp; omega), List.getElem?_append_right (by simp; omega), List.getElem?_drop, List.getElem?_drop, List.getElem?_take]
        simp only [List.length_append, List.length_take]
        rw [if_pos (by omega)]
        congr 1
        omega
  · rw [if_neg hk, List.getElem?_eq_none (by simp; omega)]
theorem set_cells (l : List En) (i : Nat) (e : En) (h : i < l.length) : (l.set i e).flatMap E5 = over (l.flatMap E5) (i * 5) (E5 e) := by
  have hl : l = l.take i ++ l[i] :: l.drop (i + 1) := by rw [← List.drop_eq_getElem_cons h, List.take_append_drop]
  have h1 : l.set i e = l.take i ++ e :: l.drop (i + 1) := List.set_eq_take_append_cons_drop ▸ by rw [if_pos h]
  have ht : ((l.take i).flatMap E5).length = i * 5 := by rw [E5_len, List.length_take]; congr 1; omega
  have hf : l.flatMap E5 = (l.take i).flatMap E5 ++ (E5 l[i] ++ (l.drop (i + 1)).flatMap E5) := by
    have := congrArg (List.flatMap E5) hl
    rw [List.flatMap_append, List.flatMap_cons] at this
    exact this
  rw [h1, List.flatMap_append, List.flatMap_cons, hf, ← ht]
  generalize (l.drop (i + 1)).flatMap E5 = R
  generalize (l.take i).flatMap E5 = Q
  generalize hE : E5 l[i] = X
  have hX : (E5 e).length = X.length := by rw [← hE]; rfl
  unfold over
  rw [List.take_left, List.append_assoc, hX, ← List.drop_drop, List.drop_left, List.drop_left]
theorem ownE_set {w : World} {B g c : Nat} {l : List En} (h : OwnE w B (.slice (some ⟨g, 0, none⟩) l.length c) l) (i : Nat) (hi : i < l.length) (e : En) :
    OwnE (w.setCells g (i * 5) (E5 e)) B (.slice (some ⟨g, 0, none⟩) l.length c) (l.set i e) ∧ w.grownBy (w.setCells g (i * 5) (E5 e)) (some g) := by
  rcases h.2 with ⟨e', _⟩ | ⟨g', cap, cur, e', hB, hg, hcap, hmax, hcs, htake⟩
  · cases e'
  · injection e' with e1 e2 e3
    injection e1 with e1
    injection e1 with e1
    subst e1 e3
    have hlen : (l.set i e).length = l.length := List.length_set
    have hcl : cur.toList.length = c * 5 := by
      have h1 : cur.toList.length = cur.size := Array.length_toList
      omega
    have hle : l.length * 5 ≤ cur.toList.length := by
      rw [hcl]; exact Nat.mul_le_mul_right _ hcap
    have hb := below_setCellsN (B := 0) (a := w) (Nat.zero_le g) (E5 e) (i * 5) w (Below.refl 0 w)
    have hi5 : i * 5 + (E5 e).length ≤ l.length * 5 := by
      show i * 5 + 5 ≤ _
      omega
    have hr := setCells_row (g := g) (ty := 166) (E5 e) (i * 5) cur.toList w (by rw [Array.toArray_toList]; exact hg) (by omega)
    refine ⟨⟨by rw [E5_len], .inr ⟨g, c, _, by rw [hlen], hB, hr, by rw [hlen]; exact hcap, hmax, ?_, ?_⟩⟩, ⟨hb.os, hb.tape, hb.output, hb.size, fun k hk hne => setCells_other (fun e => hne (by rw [e])) _ _ _⟩⟩
    · rw [List.size_toArray, over_len (by omega), hcl]
    · rw [List.toList_toArray, hlen, over_takeM hi5 hle, htake, set_cells l i e hi]
theorem OwnE.drew {w : World} {B : Nat} {v : Value} {l : List En} (h : OwnE w B v l) : OwnE w.drew B v l := h
theorem grown_drew {w w' : World} {r : Option Nat} (h : w.grownBy w' r) : w.grownBy w'.drew r := ⟨h.os, h.tape, h.output, h.size, h.block⟩
theorem grown_grown {a b c : World} {r : Option Nat} (h : a.grownBy b r) (k : b.grownBy c r) : a.grownBy c r := ⟨k.os.trans h.os, k.tape.trans h.tape, k.output.trans h.output, Nat.le_trans h.size k.size, fun j hj hne => (k.block j (Nat.lt_of_lt_of_le hj h.size) hne).trans (h.block j hj hne)⟩
theorem setCells5 (w : World) (g o : Nat) (a b c d e : Value) : w.setCells g o [a, b, c, d, e] = ((((w.setCell ⟨g, o, none⟩ a).setCell ⟨g, o + 1, none⟩ b).setCell ⟨g, o + 2, none⟩ c).setCell ⟨g, o + 3, none⟩ d).setCell ⟨g, o + 4, none⟩ e := rfl
set_option maxRecDepth 100000 in
set_option maxHeartbeats 4000000 in
theorem swap_any (v : Value) (l : List En) (i j : Nat) (w : World) (B : Nat) (ho : OwnE w B v l) (hi : i < l.length) (hj : j < l.length) (hl : l.length ≤ 100000) :
    Calls Tryz.prog 215 #[v, I i, I j] w fun e w' => e = .returned (.tuple #[]) ∧ OwnE w' B v (Heap.swp l i j) ∧ w.grownBy w' v.ownBlock := by
  obtain ⟨g, c, rfl⟩ := ho.some (by omega)
  have HO := hide ho
  have HI := hide (ho.at i hi)
  have HJ := hide (ho.at j hj)
  have HS := hide (show Heap.swp l i j = (l.set i l[j]).set j l[i] by unfold Heap.swp; rw [Heap.at_get hi, Heap.at_get hj])
  have HFZ := hide (show ∀ k, w.frozen? ⟨g, k, none⟩ = false from fun k => by
    rcases ho.2 with ⟨e', _⟩ | ⟨g', cap, cur, e', hB, hg, _⟩
    · cases e'
    · injection e' with e1
      injection e1 with e1
      injection e1 with e1
      subst e1
      exact frozen_of_row _ _ _ _ _ hg)
  have HR := hide (show OwnE (((w.setCells g (i * 5) (E5 l[j])).setCells g (j * 5) (E5 l[i])).drew) B (.slice (some ⟨g, 0, none⟩) l.length c) (Heap.swp l i j) ∧ w.grownBy (((w.setCells g (i * 5) (E5 l[j])).setCells g (j * 5) (E5 l[i])).drew) (some g) by
    have h1 := ownE_set (w := w) (e := l[j]) ho i hi
    have h2 := ownE_set (w := w.setCells g (i * 5) (E5 l[j])) (l := l.set i l[j]) (e := l[i]) (by rw [List.length_set]; exact h1.1) j (by rw [List.length_set]; exact hj)
    rw [List.length_set] at h2
    rw [HS.out]
    exact ⟨h2.1.drew, grown_drew (grown_grown h1.2 h2.2)⟩)
  clear ho
  generalize l[i] = a at *
  generalize l[j] = b at *
  obtain ⟨ad, an, ⟨ai, ax, ay⟩⟩ := a
  obtain ⟨bd, bn, ⟨bi, bx, bY⟩⟩ := b
  have hr2 := HR.out
  simp only [E5, setCells5] at hr2
  have HR2 := hide hr2
  clear hr2 HR
  obtain ⟨a0, a1, a2, a3, a4⟩ := HI.out
  obtain ⟨b0, b1, b2, b3, b4⟩ := HJ.out
  simp only at a0 a1 a2 a3 a4 b0 b1 b2 b3 b4
  have f0 := HFZ.out (i * 5)
  have f1 := HFZ.out (i * 5 + 1)
  have f2 := HFZ.out (i * 5 + 2)
  have f3 := HFZ.out (i * 5 + 3)
  have f4 := HFZ.out (i * 5 + 4)
  have g0 := HFZ.out (j * 5)
  have g1 := HFZ.out (j * 5 + 1)
  have g2 := HFZ.out (j * 5 + 2)
  have g3 := HFZ.out (j * 5 + 3)
  have g4 := HFZ.out (j * 5 + 4)
  obtain ⟨u00, h00⟩ := cell?_setCell_some (w := w) (p := ⟨g, i * 5, none⟩) (x := I bd) (q := ⟨g, j * 5, none⟩) b0
  obtain ⟨u10, h10⟩ := cell?_setCell_some (w := w) (p := ⟨g, i * 5, none⟩) (x := I bd) (q := ⟨g, j * 5 + 1, none⟩) b1
  obtain ⟨u11, h11⟩ := cell?_setCell_some (w := (w.setCell ⟨g, i * 5, none⟩ (I bd))) (p := ⟨g, i * 5 + 1, none⟩) (x := .pointer bn) (q := ⟨g, j * 5 + 1, none⟩) h10
  obtain ⟨u20, h20⟩ := cell?_setCell_some (w := w) (p := ⟨g, i * 5, none⟩) (x := I bd) (q := ⟨g, j * 5 + 2, none⟩) b2
  obtain ⟨u21, h21⟩ := cell?_setCell_some (w := (w.setCell ⟨g, i * 5, none⟩ (I bd))) (p := ⟨g, i * 5 + 1, none⟩) (x := .pointer bn) (q := ⟨g, j * 5 + 2, none⟩) h20
  obtain ⟨u22, h22⟩ := cell?_setCell_some (w := ((w.setCell ⟨g, i * 5, none⟩ (I bd)).setCell ⟨g, i * 5 + 1, none⟩ (.pointer bn))) (p := ⟨g, i * 5 + 2, none⟩) (x := I bi) (q := ⟨g, j * 5 + 2, none⟩) h21
  obtain ⟨u30, h30⟩ := cell?_setCell_some (w := w) (p := ⟨g, i * 5, none⟩) (x := I bd) (q := ⟨g, j * 5 + 3, none⟩) b3
  obtain ⟨u31, h31⟩ := cell?_setCell_some (w := (w.setCell ⟨g, i * 5, none⟩ (I bd))) (p := ⟨g, i * 5 + 1, none⟩) (x := .pointer bn) (q := ⟨g, j * 5 + 3, none⟩) h30
  obtain ⟨u32, h32⟩ := cell?_setCell_some (w := ((w.setCell ⟨g, i * 5, none⟩ (I bd)).setCell ⟨g, i * 5 + 1, none⟩ (.pointer bn))) (p := ⟨g, i * 5 + 2, none⟩) (x := I bi) (q := ⟨g, j * 5 + 3, none⟩) h31
  obtain ⟨u33, h33⟩ := cell?_setCell_some (w := (((w.setCell ⟨g, i * 5, none⟩ (I bd)).setCell ⟨g, i * 5 + 1, none⟩ (.pointer bn)).setCell ⟨g, i * 5 + 2, none⟩ (I bi))) (p := ⟨g, i * 5 + 3, none⟩) (x := I bx) (q := ⟨g, j * 5 + 3, none⟩) h32
  obtain ⟨u40, h40⟩ := cell?_setCell_some (w := w) (p := ⟨g, i * 5, none⟩) (x := I bd) (q := ⟨g, j * 5 + 4, none⟩) b4
  obtain ⟨u41, h41⟩ := cell?_setCell_some (w := (w.setCell ⟨g, i * 5, none⟩ (I bd))) (p := ⟨g, i * 5 + 1, none⟩) (x := .pointer bn) (q := ⟨g, j * 5 + 4, none⟩) h40
  obtain ⟨u42, h42⟩ := cell?_setCell_some (w := ((w.setCell ⟨g, i * 5, none⟩ (I bd)).setCell ⟨g, i * 5 + 1, none⟩ (.pointer bn))) (p := ⟨g, i * 5 + 2, none⟩) (x := I bi) (q := ⟨g, j * 5 + 4, none⟩) h41
  obtain ⟨u43, h43⟩ := cell?_setCell_some (w := (((w.setCell ⟨g, i * 5, none⟩ (I bd)).setCell ⟨g, i * 5 + 1, none⟩ (.pointer bn)).setCell ⟨g, i * 5 + 2, none⟩ (I bi))) (p := ⟨g, i * 5 + 3, none⟩) (x := I bx) (q := ⟨g, j * 5 + 4, none⟩) h42
  obtain ⟨u44, h44⟩ := cell?_setCell_some (w := ((((w.setCell ⟨g, i * 5, none⟩ (I bd)).setCell ⟨g, i * 5 + 1, none⟩ (.pointer bn)).setCell ⟨g, i * 5 + 2, none⟩ (I bi)).setCell ⟨g, i * 5 + 3, none⟩ (I bx))) (p := ⟨g, i * 5 + 4, none⟩) (x := I bY) (q := ⟨g, j * 5 + 4, none⟩) h43
  go_enter Tryz.func215, Tryz.ntmps215
  go_wp2_with fail
  go_region
  have hx := HR2.out
  clear HR2
  revert hx
  generalize World.drew _ = w9
  intro hx
  have HX := hide hx
  clear hx
  go_end0
  exact ⟨rfl, HX.out⟩
end Go.Proofs.YtenaelkbgkpllaaGreatDoor
/- An entry put in, one taken out: the methods. -/
namespace Go.Proofs.YtenaelkbgkpllaaGreatDoor
open Go.RowKit

theorem Tryz.infoEn : (Tryz.prog.info? 166).map (fun i => (i.zero, i.size, i.bytes)) = some (some (.agg #[I 0, .pointer none, I 0, I 0, I 0]), 5, 40) := by kernel_rfl
/-- an entry put behind others -/
theorem append_en {w : World} {B : Nat} {v : Value} {l : List En} (e : En) (hown : OwnE w B v l) (hB : B ≤ w.heap.size) (hn : l.length ≤ 100000) :
    ∃ v' w', (Builtin.append_ #[168, 168] 168 #[v, .slice (some ⟨w.heap.size, 0, none⟩) 1 1]).run Tryz.prog (w.alloc (.cells #[I e.d, .pointer e.nd, I e.p.id, I e.p.x, I e.p.y] 166)) = .ok v' w' ∧ OwnE w' B v' (l ++ [e]) ∧ w.grownBy w' v.ownBlock ∧ Fresh w v v' := by
  obtain ⟨i0, hi0, hz0, hz1, hz2⟩ := info_parts Tryz.infoEn
  have hown' : (w.alloc (.cells #[I e.d, .pointer e.nd, I e.p.id, I e.p.x, I e.p.y] 166)).ownsRow B 166 5 v l.length (l.flatMap E5) := World.ownsRow.alloc hown _
  obtain ⟨v', w', hr, ho, hg, hf⟩ := run_append_own2 (P := Tryz.prog) (w.alloc (.cells #[I e.d, .pointer e.nd, I e.p.id, I e.p.x, I e.p.y] 166)) B 168 168 166 i0 (.agg #[I 0, .pointer none, I 0, I 0, I 0]) 5 40 Tryz.underlying168 hi0 hz0 hz1 hz2 rfl (by decide) v l.length (l.flatMap E5) hown' ⟨w.heap.size, 0, none⟩ 1 1 (E5 e) rfl
    (fun j u hj => by
      rw [Addr.add_lit, Nat.zero_add, cell_of_row _ _ _ _ _ _ (heap_alloc_new w _)]
      rw [List.getElem?_toArray]
      exact hj)
    (fun u hu => E5_one (l := [e]) u (by simpa using hu)) (by unfold maxLen; omega) (by omega) (by simp; omega)
  refine ⟨v', w', hr, ?_, grown_lift ((Below.refl w.heap.size w).alloc (Nat.le_refl _) _) hg, fresh_lift (by simp) hf⟩
  unfold OwnE
  rw [List.length_append, List.flatMap_append]
  have e1 : [e].flatMap E5 = E5 e := by simp
  rw [e1]
  exact ho
theorem ta_en (x : Value) (w : World) : (Instr.typeAssert (.iface 166 x) 20 166 false).run Tryz.prog w = .ok x w := by kernel_rfl
/-- the heap's list, where it is kept -/
structure HeapAt (w : World) (h : Nat) (B : Nat) (v : Value) (l : List En) : Prop where
  row : w.heap[h]? = some (.cells #[v] 168 (0, 0))
  own : OwnE w B v l
  apart : v.ownBlock ≠ some h
theorem HeapAt.cell {w : World} {h B : Nat} {v : Value} {l : List En} (H : HeapAt w h B v l) : w.cell? ⟨h, 0, none⟩ = some v := by
  rw [cell_of_row _ _ _ _ _ _ H.row]; rfl
theorem HeapAt.lt {w : World} {h B : Nat} {v : Value} {l : List En} (H : HeapAt w h B v l) : h < w.heap.size := (Array.getElem?_eq_some_iff.1 H.row).1
theorem HeapAt.below {w w' : World} {h B : Nat} {v : Value} {l : List En} (H : HeapAt w h B v l) (hb : Below w.heap.size w w') : HeapAt w' h B v l := ⟨(hb.block h H.lt).trans H.row, H.own.below hb, H.apart⟩
/-- what the heap's calls may change -/
def Heaps (h : Nat) (v : Value) (k : Nat) : Prop := k = h ∨ some k = v.ownBlock
theorem Keeps.grown {a b : World} {v : Value} {h : Nat} (hg : a.grownBy b v.ownBlock) : Keeps (Heaps h v) a b := ⟨hg.os, hg.tape, hg.output, hg.size, fun k hk hn => hg.block k hk (fun e => hn (.inr e))⟩
set_option maxRecDepth 100000 in
set_option maxHeartbeats 4000000 in
theorem push_any (h : Nat) (v : Value) (l : List En) (e : En) (w : World) (B : Nat) (H : HeapAt w h B v l) (hB : B ≤ w.heap.size) (hl : l.length ≤ 100000) :
    Calls Tryz.prog 214 #[.pointer (some ⟨h, 0, none⟩), .iface 166 (Ev e)] w fun r w' => r = .returned (.tuple #[]) ∧ ∃ v', HeapAt w' h B v' (l ++ [e]) ∧ Keeps (Heaps h v) w w' ∧ Fresh w v v' := by
  obtain ⟨v', w', hr, ho, hg, hf⟩ := append_en (w := w.drew) e (show OwnE w.drew B v l from H.own) hB hl
  have hlt := H.lt
  have hc := H.cell
  have hrow : w'.heap[h]? = some (.cells #[v] 168 (0, 0)) := (hg.block h hlt (fun e => H.apart e.symm)).trans H.row
  have hc' : w'.cell? ⟨h, 0, none⟩ = some v := by rw [cell_of_row _ _ _ _ _ _ hrow]; rfl
  have hfz : w'.frozen? ⟨h, 0, none⟩ = false := frozen_of_row _ _ _ _ _ hrow
  obtain ⟨av, cv, ev⟩ := H.own.slice
  subst ev
  obtain ⟨a', c', ev'⟩ := ho.slice
  rw [List.length_append, List.length_singleton] at ev'
  have HAP : v'.ownBlock ≠ some h := fun e => by
    rcases hf with hf | ⟨g, hf, hgs⟩
    · rw [hf] at e; exact H.apart e
    · rw [hf] at e
      injection e with e
      have : w.drew.heap.size = w.heap.size := rfl
      omega
  have HEND := hide (show HeapAt (w'.setCell ⟨h, 0, none⟩ v') h B v' (l ++ [e]) ∧ Keeps (Heaps h (.slice av l.length cv)) w (w'.setCell ⟨h, 0, none⟩ v') ∧ Fresh w (.slice av l.length cv) v' by
    refine ⟨⟨?_, ?_, HAP⟩, ?_, hf⟩
    · have := heap_setCell_same w' h 0 #[.slice av l.length cv] 168 v' hrow
      exact this
    · refine ⟨ho.1, ?_⟩
      rcases ho.2 with h0 | ⟨g, cap, cur, e1, hB', hg', r⟩
      · exact .inl h0
      · refine .inr ⟨g, cap, cur, e1, hB', (Below.heap_setCell _ _ _ _ (fun e2 => HAP (by rw [e1, e2]; rfl))).trans hg', r⟩
    · refine ⟨hg.os, hg.tape, hg.output, ?_, fun k hk hn => ?_⟩
      · have : (w'.setCell ⟨h, 0, none⟩ v').heap.size = w'.heap.size := by simp
        rw [this]; exact hg.size
      · exact (Below.heap_setCell _ _ _ _ (fun e2 => hn (.inl e2))).trans (hg.block k hk (fun e => hn (.inr e))))
  obtain ⟨ed, en, ⟨ei, ex, ey⟩⟩ := e
  have hr' : (Builtin.append_ #[168, 168] 168 #[.slice av l.length cv, .slice (some ⟨w.heap.size, 0, none⟩) 1 1]).run Tryz.prog ((w.alloc (.cells #[I ed, .pointer en, I ei, I ex, I ey] 166)).drew) = .ok v' w' := hr
  clear hr ho hg hf hrow H HAP
  subst ev'
  have hta := ta_en (Ev ⟨ed, en, ⟨ei, ex, ey⟩⟩)
  go_enter Tryz.func214, Tryz.ntmps214
  go_wp2_with fail
  go_region_law (refine step_append_run rfl _ _ 168 168 rfl _ _ (by simp [Act.eval]) (by simp [Act.eval]) hr' ?_)
  all_goals
    go_end0
    exact ⟨rfl, _, HEND.out⟩
theorem heapAt_cut {w : World} {h B g c : Nat} {l : List En} {e : En} (H : HeapAt w h B (.slice (some ⟨g, 0, none⟩) (l.length + 1) c) (l ++ [e])) :
    HeapAt (w.setCell ⟨h, 0, none⟩ (.slice (some ⟨g, 0, none⟩) l.length c)) h B (.slice (some ⟨g, 0, none⟩) l.length c) l := by
  have hgh : g ≠ h := fun e => H.apart (by rw [e]; rfl)
  refine ⟨?_, ?_, fun e => hgh (by injection e)⟩
  · exact heap_setCell_same w h 0 #[.slice (some ⟨g, 0, none⟩) (l.length + 1) c] 168 _ H.row
  · refine ⟨E5_len l, ?_⟩
    rcases H.own.2 with ⟨e', _⟩ | ⟨g', cap, cur, e', hB, hg, hcap, hmax, hcs, htake⟩
    · cases e'
    · injection e' with e1 e2 e3
      injection e1 with e1
      injection e1 with e1
      subst e1 e3
      rw [List.length_append, List.length_singleton] at hcap htake
      refine .inr ⟨g, c, cur, rfl, hB, (Below.heap_setCell _ _ _ _ hgh).trans hg, by omega, hmax, hcs, ?_⟩
      have h1 := congrArg (List.take (l.length * 5)) htake
      rw [List.take_take, Nat.min_eq_left (by omega), List.flatMap_append, ← E5_len l, List.take_left] at h1
      rw [E5_len] at h1
      exact h1
set_option maxRecDepth 100000 in
set_option maxHeartbeats 4000000 in
theorem pop_any (h : Nat) (v : Value) (l : List En) (e : En) (w : World) (B : Nat) (H : HeapAt w h B v (l ++ [e])) (hl : l.length ≤ 100000) :
    Calls Tryz.prog 213 #[.pointer (some ⟨h, 0, none⟩)] w fun r w' => r = .returned (.iface 166 (Ev e)) ∧ ∃ v', HeapAt w' h B v' l ∧ Keeps (Heaps h v) w w' ∧ v'.ownBlock = v.ownBlock := by
  obtain ⟨g, c, ev⟩ := H.own.some (by simp)
  subst ev
  rw [List.length_append, List.length_singleton] at H
  have hlt := H.lt
  have hgl := (H.own.lt (g := g) rfl).2
  have hc := H.cell
  have hen : EnAt w g (l.length * 5) e := by
    have h1 := OwnE.at (w := w) (B := B) (g := g) (c := c) (l := l ++ [e]) (by rw [List.length_append, List.length_singleton]; exact H.own) l.length (by simp)
    rw [List.getElem_append_right (Nat.le_refl _)] at h1
    simpa using h1
  have hcap : l.length ≤ c := by
    rcases H.own.2 with ⟨e', _⟩ | ⟨g', cap, cur, e', hB, hg, hcap, hmax, hcs, htake⟩
    · cases e'
    · injection e' with e1 e2 e3
      subst e3
      rw [List.length_append, List.length_singleton] at hcap
      omega
  have hgh : g ≠ h := fun e => H.apart (by rw [e]; rfl)
  have HH := hide H
  clear H
  obtain ⟨ed, en, ⟨ei, ex, ey⟩⟩ := e
  obtain ⟨e0, e1, e2, e3, e4⟩ := hen
  simp only at e0 e1 e2 e3 e4
  have hb2 := fun o => (Below.refl w.heap.size w).alloc (Nat.le_refl _) o
  have hr2 := heap_alloc_new w
  have hs2 := fun o => show (w.alloc o).heap.size = w.heap.size + 1 by simp
  go_enter Tryz.func213, Tryz.ntmps213
  go_upto_region 3 with fail
  generalize hW : World.alloc w _ = w1
  have hb1 : Below w.heap.size w w1 := by rw [← hW]; exact hb2 _
  have hn1 : w1.heap[w.heap.size]? = some (.cells #[I ed, .pointer en, I ei, I ex, I ey] 166 (0, 0)) := by rw [← hW]; exact hr2 _
  have hs1 : w.heap.size + 1 ≤ w1.heap.size := by rw [← hW, hs2]; exact Nat.le_refl _
  clear hb2 hr2 hs2 hW
  have HH1 := hide (HH.out.below hb1)
  have hc1 := HH1.out.cell
  have hfz : w1.frozen? ⟨h, 0, none⟩ = false := frozen_of_row _ _ _ _ _ HH1.out.row
  have HN1 := hide hn1
  have HB1 := hide hb1
  clear hb1 hn1 hc e0 e1 e2 e3 e4
  go_upto_region 4 with fail
  have hh2 := heapAt_cut HH1.out
  have hn2 : (w1.setCell ⟨h, 0, none⟩ (.slice (some ⟨g, 0, none⟩) l.length c)).heap[w.heap.size]? = some (.cells #[I ed, .pointer en, I ei, I ex, I ey] 166 (0, 0)) := (Below.heap_setCell _ _ _ _ (show w.heap.size ≠ h by omega)).trans HN1.out
  have hk2 : Keeps (Heaps h (.slice (some ⟨g, 0, none⟩) (l.length + 1) c)) w (w1.setCell ⟨h, 0, none⟩ (.slice (some ⟨g, 0, none⟩) l.length c)) := by
    refine ⟨HB1.out.os, HB1.out.tape, HB1.out.output, ?_, fun k hk hn => (Below.heap_setCell _ _ _ _ (fun e2 => hn (.inl e2))).trans (HB1.out.block k hk)⟩
    have : (w1.setCell ⟨h, 0, none⟩ (.slice (some ⟨g, 0, none⟩) l.length c)).heap.size = w1.heap.size := by simp
    rw [this]; exact HB1.out.size
  generalize w1.setCell ⟨h, 0, none⟩ (.slice (some ⟨g, 0, none⟩) l.length c) = w2 at *
  have c0 : w2.cell? ⟨w.heap.size, 0, none⟩ = some (I ed) := by rw [cell_of_row _ _ _ _ _ _ hn2]; rfl
  have c1 : w2.cell? ⟨w.heap.size, 1, none⟩ = some (.pointer en) := by rw [cell_of_row _ _ _ _ _ _ hn2]; rfl
  have c2 : w2.cell? ⟨w.heap.size, 2, none⟩ = some (I ei) := by rw [cell_of_row _ _ _ _ _ _ hn2]; rfl
  have c3 : w2.cell? ⟨w.heap.size, 3, none⟩ = some (I ex) := by rw [cell_of_row _ _ _ _ _ _ hn2]; rfl
  have c4 : w2.cell? ⟨w.heap.size, 4, none⟩ = some (I ey) := by rw [cell_of_row _ _ _ _ _ _ hn2]; rfl
  have HH2 := hide hh2
  have HK2 := hide hk2
  clear hh2 hk2 hn2
  go_wp2
  go_ret
  exact ⟨rfl, _, HH2.out, HK2.out, rfl⟩
end Go.Proofs.YtenaelkbgkpllaaGreatDoor
