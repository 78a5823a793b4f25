/- Part 20 of what the claims on Bound, Small, Right and Sole rest on. -/
import Derived.Test.YtenaelkbgkpllaaGreatDoorKeep19
import Derived.Maps.OwnSet
/- Reading a proof: its numbers, its next bytes. -/
namespace Go.Proofs.YtenaelkbgkpllaaGreatDoor
open Go.RowKit

set_option maxRecDepth 100000 in
set_option maxHeartbeats 4000000 in
theorem numberOf_any (l : List UInt8) (k : Nat) (w : World) (hk : 4 * k + 4 ≤ l.length) (hl : l.length ≤ 1000) :
    Calls Tryz.prog 157 #[Sv l, I k] w fun e w' => e = .returned (I (Ward.numAt l k)) ∧ Below w.heap.size w w' := by
  go_enter Tryz.func157, Tryz.ntmps157
  go_wp2_with fail
  refine (at_anyI ⟨l.toArray⟩ (4 * k) (4 * k) w (by omega) (by simpa [ByteArray.size] using hk) (by simp [ByteArray.size]; unfold maxLen; omega)).mono ?_
  rintro _ w1 ⟨rfl, n, rfl⟩
  go_wp2_with fail
  go_ret
  have hw := Ward.word_lt l (4 * k)
  refine ⟨?_, below_drewN (Below.refl _ _) n⟩
  have e : wrap64 (wrap32 (Sha.word l (4 * k) : Nat)) = Ward.numAt l k := by
    unfold Ward.numAt Ward.signed wrap64 wrap32
    split <;> omega
  rw [e]
  rfl
theorem sv_size (l : List UInt8) : (⟨l.toArray⟩ : ByteArray).size = l.length := by simp [ByteArray.size]
theorem cut_to (l : List UInt8) (k : Nat) (h : k ≤ l.length) (W : World) : (Instr.slice 9 (Sv l) none (some (I k)) none).run Tryz.prog W = .ok (Sv (l.take k)) W := by
  rw [run_slice_string_to_if W 9 ⟨l.toArray⟩ .i64 _ Tryz.underlying9, if_pos (by rw [sv_size]; omega)]
  rw [ba_eq (s := (⟨l.toArray⟩ : ByteArray).extract 0 (k : Int).toNat) (l := l.take k) (by rw [cut_list]; simp)]
theorem cut_from (l : List UInt8) (k : Nat) (h : k ≤ l.length) (W : World) : (Instr.slice 9 (Sv l) (some (I k)) none none).run Tryz.prog W = .ok (Sv (l.drop k)) W := by
  rw [run_slice_string_from_if W 9 ⟨l.toArray⟩ .i64 _ Tryz.underlying9, if_pos (by rw [sv_size]; omega)]
  rw [ba_eq (s := (⟨l.toArray⟩ : ByteArray).extract (k : Int).toNat (⟨l.toArray⟩ : ByteArray).size) (l := l.drop k) (by rw [cut_list, sv_size]; exact List.take_of_length_le (by simp))]
set_option maxRecDepth 100000 in
set_option maxHeartbeats 4000000 in
theorem take_few (g k : Nat) (l : List UInt8) (m : Value) (w : World) (hr : w.heap[g]? = some (.cells #[Sv l, m] 137 (0, 0))) (hk : l.length < k) :
    Calls Tryz.prog 121 #[.pointer (some ⟨g, 0, none⟩), I k] w fun e w' => e = .returned (.tuple #[Sv [], .bool false]) ∧ w' = w := by
  have c0 : w.cell? ⟨g, 0, none⟩ = some (Sv l) := by rw [cell_of_row _ _ _ _ _ _ hr]; rfl
  clear hr
  go_enter Tryz.func121, Tryz.ntmps121
  go_wp2
  go_ret2
  exact ⟨rfl, rfl⟩
set_option maxRecDepth 100000 in
set_option maxHeartbeats 4000000 in
theorem take_many (g k : Nat) (l : List UInt8) (m : Value) (w : World) (hr : w.heap[g]? = some (.cells #[Sv l, m] 137 (0, 0))) (hk : k ≤ l.length) :
    Calls Tryz.prog 121 #[.pointer (some ⟨g, 0, none⟩), I k] w fun e w' => e = .returned (.tuple #[Sv (l.take k), .bool true]) ∧ w'.heap[g]? = some (.cells #[Sv (l.drop k), m] 137 (0, 0)) ∧ Keeps (fun j => j = g) w w' := by
  have c0 : w.cell? ⟨g, 0, none⟩ = some (Sv l) := by rw [cell_of_row _ _ _ _ _ _ hr]; rfl
  have hf : w.frozen? ⟨g, 0, none⟩ = false := frozen_of_row _ _ _ _ _ hr
  have HR := hide hr
  clear hr
  go_enter Tryz.func121, Tryz.ntmps121
  have s1 := cut_to l k hk
  have s2 := cut_from l k hk
  have HE := hide (show (w.setCell ⟨g, 0, none⟩ (Sv (l.drop k))).heap[g]? = some (.cells #[Sv (l.drop k), m] 137 (0, 0)) from heap_setCell_same w g 0 #[Sv l, m] 137 _ HR.out)
  go_upto_region 3 with fail
  go_region
  all_goals
    go_wp2
    go_ret2
    exact ⟨rfl, HE.out, rfl, rfl, rfl, by simp, fun j _ hn => Below.heap_setCell _ _ _ _ (fun e => hn e)⟩
end Go.Proofs.YtenaelkbgkpllaaGreatDoor
/- The ids that were read: a set of the program's own. -/
namespace Go.Proofs.YtenaelkbgkpllaaGreatDoor
open Go.RowKit

/-- the map of that block holds these ids -/
def SetIs (w : World) (b n : Nat) (ids : List Int) : Prop := ∃ D : DataW Unit, w.ownsMap Tryz.prog 3 unitElem b n D ∧ ∀ x, Maps.has D (.int .i64 x) = ids.contains x
theorem setKey : Maps.Keyed Tryz.prog 3 := Maps.int_keyed Tryz.underlying3
theorem setZero (w : World) : (zeroValue 222).run Tryz.prog w = .ok (.agg #[]) w := by kernel_rfl
theorem keyI {x : Int} (h : -9223372036854775808 ≤ x ∧ x < 9223372036854775808) : keyOf Tryz.prog 3 (I x) = some (.int .i64 x) := Maps.keyOf_int_mk Tryz.underlying3 (by
  simp [Lit.wf, IntKind.min, IntKind.max, IntKind.bits, IntKind.signed]
  omega)
theorem SetIs.block {w w' : World} {b n : Nat} {ids : List Int} (h : SetIs w b n ids) (hb : w'.heap[b]? = w.heap[b]?) : SetIs w' b n ids := by
  obtain ⟨D, ⟨es, clock, h1, h2⟩, hD⟩ := h
  exact ⟨D, ⟨es, clock, hb.trans h1, h2⟩, hD⟩
theorem SetIs.lt {w : World} {b n : Nat} {ids : List Int} (h : SetIs w b n ids) : b < w.heap.size := by
  obtain ⟨D, h, _⟩ := h
  exact h.lt
theorem SetIs.look {w : World} {b n : Nat} {ids : List Int} (h : SetIs w b n ids) {x : Int} (hx : -9223372036854775808 ≤ x ∧ x < 9223372036854775808) : (Instr.lookup 135 (.map (some b)) (I x) true).run Tryz.prog w = .ok (.tuple #[.agg #[], .bool (ids.contains x)]) w := by
  obtain ⟨D, h, hD⟩ := h
  obtain ⟨v, ps, hr, hv⟩ := h.look_ok setKey Tryz.underlying135 (setZero w) unitElem_mk (keyI hx)
  obtain ⟨rfl, _⟩ := unitElem_inv hv
  rw [hr, hD]
theorem SetIs.put {w : World} {b n : Nat} {ids : List Int} (h : SetIs w b n ids) (hn : n ≤ 1000000) {x : Int} (hx : -9223372036854775808 ≤ x ∧ x < 9223372036854775808) : ∃ w', (Instr.mapUpdate 135 (.map (some b)) (I x) (.agg #[])).run Tryz.prog w = .ok () w' ∧ SetIs w' b (n + 1) (x :: ids) ∧ w.grownBy w' (some b) := by
  obtain ⟨D, h, hD⟩ := h
  obtain ⟨w', hr, ho, hg⟩ := h.update setKey Tryz.underlying135 (by unfold maxLen; omega) (keyI hx) unitElem_mk
  refine ⟨w', hr, ⟨_, ho, fun y => ?_⟩, hg⟩
  by_cases e : y = x
  · subst e
    rw [Maps.has_put_same h.isMap (show WideAt.IsKeyLit (.int .i64 y) from trivial)]
    simp
  · rw [Maps.has_put_other (fun e2 => e (by injection e2)), hD]
    simp [e]
theorem look_small {x : Int} (hx : -2147483648 ≤ x ∧ x < 2147483648) : -9223372036854775808 ≤ x ∧ x < 9223372036854775808 := by omega
theorem look_drew {w : World} {b n : Nat} {ids : List Int} {x : Int} {r : Bool} (h : SetIs w b n ids) (hx : -2147483648 ≤ x ∧ x < 2147483648) (hr : ids.contains x = r) : (Instr.lookup 135 (.map (some b)) (I x) true).run Tryz.prog w.drew = .ok (.tuple #[.agg #[], .bool r]) w.drew := by
  rw [← hr]
  exact SetIs.look (w := w.drew) (h.block rfl) (look_small hx)
theorem look_alloc {w : World} {b n : Nat} {ids : List Int} {x : Int} {r : Bool} (h : SetIs w b n ids) (hx : -2147483648 ≤ x ∧ x < 2147483648) (hr : ids.contains x = r) (o : Obj) : (Instr.lookup 135 (.map (some b)) (I x) true).run Tryz.prog (w.alloc o).drew = .ok (.tuple #[.agg #[], .bool r]) (w.alloc o).drew := by
  have hb : (w.alloc o).heap[b]? = w.heap[b]? := Below.heap_alloc w o b h.lt
  exact look_drew (h.block hb) hx hr
end Go.Proofs.YtenaelkbgkpllaaGreatDoor
/- A point read. -/
namespace Go.Proofs.YtenaelkbgkpllaaGreatDoor
open Go.RowKit

/-- the reader, as it lies -/
structure RdAt (w : World) (g b n : Nat) (s : Ward.Sta) : Prop where
  row : w.heap[g]? = some (.cells #[Sv s.1, .map (some b)] 137 (0, 0))
  set : SetIs w b n s.2
theorem RdAt.ne {w : World} {g b n : Nat} {s : Ward.Sta} (h : RdAt w g b n s) : b ≠ g := fun e => by
  obtain ⟨D, ⟨es, clock, h1, h2⟩, hD⟩ := h.set
  rw [e, h.row] at h1
  injection h1 with h1
  cases h1
theorem RdAt.lt {w : World} {g b n : Nat} {s : Ward.Sta} (h : RdAt w g b n s) : g < w.heap.size := (Array.getElem?_eq_some_iff.1 h.row).1
theorem RdAt.below {w w' : World} {g b n : Nat} {s : Ward.Sta} (h : RdAt w g b n s) (hb : Below w.heap.size w w') : RdAt w' g b n s := ⟨(hb.block g h.lt).trans h.row, h.set.block (hb.block b h.set.lt)⟩
/-- what reading changes -/
def Rd2 (g b j : Nat) : Prop := j = g ∨ j = b
theorem numAt_take {l : List UInt8} {k n : Nat} (h : 4 * k + 4 ≤ n) (hn : n ≤ l.length) : Ward.numAt (l.take n) k = Ward.numAt l k := by
  have e := Ward.word_app (l := l.take n) (m := l.drop n) (i := 4 * k) (by rw [List.length_take]; omega)
  rw [List.take_append_drop] at e
  unfold Ward.numAt
  rw [e]
theorem numAt_range (l : List UInt8) (k : Nat) : -2147483648 ≤ Ward.numAt l k ∧ Ward.numAt l k < 2147483648 := by
  have h := Ward.word_lt l (4 * k)
  unfold Ward.numAt Ward.signed
  split <;> omega
theorem underPt : ∃ fs, Tryz.prog.underlying 36 = some (.struct fs) := by
  have h : (Tryz.prog.underlying 36).map (fun d => match d with | .struct _ => true | _ => false) = some true := by kernel_rfl
  cases e : Tryz.prog.underlying 36 with
  | none => rw [e] at h; cases h
  | some d =>
    rw [e] at h
    cases d <;> first | exact ⟨_, rfl⟩ | cases h
theorem sizePt : (Tryz.prog.info? 36).map (·.size) = some 3 := by kernel_rfl
theorem results_row_tmp {P : Program} {fn : Func} {p u : Tmp} {ty : TypeId} (h : fn.results = #[.cell p ty, .tmp u]) (tmps : Array Value) (w : World) (g : Nat) (t : TypeId) (cs : Array Value) (fr : Nat × Nat) (d : TypeDesc)
    (hp : tmps.getD p undef = .pointer (some ⟨g, 0, none⟩)) (hg : w.heap[g]? = some (.cells cs t fr))
    (hu : P.underlying ty = some d) (hd : (match d with | .struct _ | .array _ _ => true | _ => false) = true) (hi : (P.info? ty).map (·.size) = some cs.size) :
    (results fn tmps).run P w = .ok (.tuple #[.agg cs, tmps.getD u undef]) w := by
  have hp' : tmps[p]?.getD undef = .pointer (some ⟨g, 0, none⟩) := by simpa using hp
  simp [results, h, hp', asAddr, run_loadVar_row w g t ty cs fr d hg hu hd hi]
theorem store3 {w : World} {g ty : Nat} {a b c : Value} (x y z : Value) (h : w.heap[g]? = some (.cells #[a, b, c] ty (0, 0))) : (((w.setCell ⟨g, 0, none⟩ x).setCell ⟨g, 1, none⟩ y).setCell ⟨g, 2, none⟩ z).heap[g]? = some (.cells #[x, y, z] ty (0, 0)) := by
  have h1 := heap_setCell_same w g 0 _ ty x h
  have h2 := heap_setCell_same _ g 1 _ ty y h1
  exact heap_setCell_same _ g 2 _ ty z h2
theorem below_store3 {B : Nat} {w w' : World} {g : Nat} (h : Below B w w') (hg : B ≤ g) (x y z : Value) : Below B w (((w'.setCell ⟨g, 0, none⟩ x).setCell ⟨g, 1, none⟩ y).setCell ⟨g, 2, none⟩ z) :=
  ⟨h.os, h.tape, h.output, by simpa using h.size, fun j hj => by
    rw [Below.heap_setCell _ _ _ _ (by show j ≠ g; omega), Below.heap_setCell _ _ _ _ (by show j ≠ g; omega), Below.heap_setCell _ _ _ _ (by show j ≠ g; omega)]
    exact h.block j hj⟩
theorem Keeps.low {S : Nat → Prop} {w w' w'' : World} (h : Keeps S w w') (hb : Below w.heap.size w' w'') : Keeps S w w'' := ⟨hb.os.trans h.os, hb.tape.trans h.tape, hb.output.trans h.output, Nat.le_trans h.size hb.size, fun j hj hn => (hb.block j hj).trans (h.block j hj hn)⟩
/-- what reading a point leaves -/
def PointRead (w : World) (g b n : Nat) (s : Ward.Sta) (e : Ending) (w' : World) : Prop := Keeps (Rd2 g b) w w' ∧
  match Ward.rdPt s with
  | none => ∃ x y z : Int, e = .returned (.tuple #[.agg #[I x, I y, I z], .bool false])
  | some (p, s') => e = .returned (.tuple #[.agg #[I p.id, I p.x, I p.y], .bool true]) ∧ RdAt w' g b (n + 1) s'
set_option maxRecDepth 100000 in
set_option maxHeartbeats 4000000 in
theorem point_short (g b n : Nat) (s : Ward.Sta) (w : World) (H : RdAt w g b n s) (hs : s.1.length < 12) :
    Calls Tryz.prog 123 #[.pointer (some ⟨g, 0, none⟩)] w (PointRead w g b n s) := by
  have HE := hide (show Ward.rdPt s = none by unfold Ward.rdPt; rw [if_pos hs])
  have hb1' := fun o => (Below.refl w.heap.size w).alloc (Nat.le_refl _) o
  have HH := hide H
  clear H
  go_enter Tryz.func123, Tryz.ntmps123
  go_upto_region 1 with fail
  generalize hW : World.alloc w _ = w1
  have hb1 : Below w.heap.size w w1 := by rw [← hW]; exact hb1' _
  have hr1 : w1.heap[w.heap.size]? = some (.cells #[I 0, I 0, I 0] 36 (0, 0)) := by rw [← hW]; exact heap_alloc_new _ _
  clear hb1' hW
  have HT := hide (take_few g 12 s.1 _ w1 (HH.out.below hb1).row hs)
  have HB1 := hide hb1
  obtain ⟨e0, e1, e2⟩ := row3 hr1
  have f0 : w1.frozen? ⟨w.heap.size, 0, none⟩ = false := frozen_of_row _ _ _ _ _ hr1
  have f1 : w1.frozen? ⟨w.heap.size, 1, none⟩ = false := frozen_of_row _ _ _ _ _ hr1
  have f2 : w1.frozen? ⟨w.heap.size, 2, none⟩ = false := frozen_of_row _ _ _ _ _ hr1
  clear hb1
  go_wp2_with fail
  refine HT.out.mono ?_
  rintro _ w0 ⟨rfl, hw0⟩
  rw [hw0]
  clear hw0
  go_wp2_with fail
  obtain ⟨fs, hu⟩ := underPt
  refine bodyPost_ret (results_row_tmp (p := 2) (u := 3) (ty := 36) rfl _ _ w.heap.size 36 _ (0, 0) _ rfl (store3 _ _ _ hr1) hu rfl sizePt) rfl ?_
  unfold PointRead
  rw [HE.out]
  exact ⟨Keeps.of_below (below_store3 HB1.out (Nat.le_refl _) _ _ _), 0, 0, 0, rfl⟩
/-- what a point's text says -/
theorem rdPt_long (s : Ward.Sta) (hs : 12 ≤ s.1.length) : ∃ pi px py, pi = Ward.numAt s.1 0 ∧ px = Ward.numAt s.1 1 ∧ py = Ward.numAt s.1 2 ∧ Ward.rdPt s = if (Ward.idOk pi && !(s.2.contains pi) && Ward.coordOk px && Ward.coordOk py) = true then some (⟨pi, px, py⟩, (s.1.drop 12, pi :: s.2)) else none := by
  refine ⟨_, _, _, rfl, rfl, rfl, ?_⟩
  unfold Ward.rdPt
  rw [if_neg (by omega)]
end Go.Proofs.YtenaelkbgkpllaaGreatDoor
/- Is a node shown? -/
namespace Go.Proofs.YtenaelkbgkpllaaGreatDoor
open Go.RowKit

set_option maxRecDepth 100000 in
set_option maxHeartbeats 4000000 in
theorem isShown_any (n : Nat) (t : Ward.NT n) (V : List Value) (w : World) (S : Nat → Prop) (hN : NodeIs w S n t V) (hfew : Ward.Few n t) :
    Calls Tryz.prog 86 #[.agg V.toArray] w fun e w' => e = .returned (.bool (Ward.shownN n t)) ∧ Below w.heap.size w w' := by
  cases n with
  | zero => exact nomatch t
  | succ n =>
    obtain ⟨vp, vc, hV, -, ⟨ap, cp, rfl, -⟩, ⟨ac, cc, rfl, -⟩⟩ := hN
    have h1 : (Ward.Nd.pts t).length ≤ 4 := hfew.1
    have h2 : (Ward.Nd.kids t).length ≤ 4 := hfew.2.1
    have HE := hide (show Ward.shownN (n + 1) t = decide (0 < (Ward.Nd.pts t).length + (Ward.Nd.kids t).length) from rfl)
    rw [HE.out]
    have hv0 : V[0]? = some (.slice ap (Ward.Nd.pts t).length cp) := by rw [hV]; rfl
    have hv1 : V[1]? = some (.slice ac (Ward.Nd.kids t).length cc) := by rw [hV]; rfl
    generalize (Ward.Nd.pts t).length = lp at *
    generalize (Ward.Nd.kids t).length = lk at *
    have hb1' := fun o => (Below.refl w.heap.size w).alloc (Nat.le_refl _) o
    have hr1' := heap_alloc_new w
    clear hV hfew HE
    go_enter Tryz.func86, Tryz.ntmps86
    go_upto_region 1 with fail
    generalize hW : World.alloc w _ = w1
    have hb1 : Below w.heap.size w w1 := by rw [← hW]; exact hb1' _
    have hr1 : w1.heap[w.heap.size]? = some (.cells V.toArray 90 (0, 0)) := by rw [← hW]; exact hr1' _
    clear hb1' hr1' hW
    have c0 : w1.cell? ⟨w.heap.size, 0, none⟩ = some (.slice ap lp cp) := by rw [cell_of_row _ _ _ _ _ _ hr1, List.getElem?_toArray]; exact hv0
    have c1 : w1.cell? ⟨w.heap.size, 1, none⟩ = some (.slice ac lk cc) := by rw [cell_of_row _ _ _ _ _ _ hr1, List.getElem?_toArray]; exact hv1
    have HB1 := hide hb1
    clear hb1 hr1 hv0 hv1
    go_wp2
    go_ret
    refine ⟨?_, HB1.out⟩
    show Ending.returned (Value.bool _) = _
    congr 2
    first | rfl | (apply decide_eq_decide.2; omega)
end Go.Proofs.YtenaelkbgkpllaaGreatDoor
/- A node as what stands right below it makes it. -/
namespace Go.Proofs.YtenaelkbgkpllaaGreatDoor
open Go.RowKit

theorem leaf_made {w w' : World} {S : Nat → Prop} {vp : Value} {L : List Ward.Pt} (n : Nat) (h : ReadsS w S vp L) (hb : Below w.heap.size w w') (hS : ∀ g, S g → g < w.heap.size) :
    NodeIs w' S (n + 1) (⟨L, [], Ward.boxL (L.map Ward.boxOf), (L.length : Nat), Sha.sha (Ward.leafText L)⟩ : Ward.NT (n + 1)) (nodeV vp (.slice none 0 0) (Ward.box 0 L) L.length ((Sha.sha (Ward.leafText L)).map Y)) :=
  ⟨vp, .slice none 0 0, rfl, sha_len _, h.keep (below_same hb hS) (fun _ h => h), none, 0, rfl, fun e => absurd rfl e⟩
theorem node_made {w w' : World} {S : Nat → Prop} {vc : Value} (n : Nat) {K : List (Ward.NT n)} (h : RowsAt (NodeIs w S n) w S vc K) (hb : Below w.heap.size w w') (hS : ∀ g, S g → g < w.heap.size) :
    NodeIs w' S (n + 1) (⟨[], K, Ward.boxL (K.map (Ward.boxN n)), (K.map (Ward.numN n)).sum, Sha.sha (Ward.textK n K)⟩ : Ward.NT (n + 1)) (nodeV (.slice none 0 0) vc (Ward.boxL (K.map (Ward.boxN n))) ((K.map (Ward.numN n)).sum) ((Sha.sha (Ward.textK n K)).map Y)) :=
  ⟨.slice none 0 0, vc, rfl, sha_len _, ⟨none, 0, rfl, fun e => absurd rfl e⟩, h.keep (below_same hb hS) (fun _ h => h) (NodeIs.keep (below_same hb hS) (fun _ h => h) n)⟩
set_option maxRecDepth 100000 in
set_option maxHeartbeats 4000000 in
theorem made_any (n : Nat) (t : Ward.NT (n + 1)) (V : List Value) (w : World) (S : Nat → Prop) (hS : ∀ g, S g → g < w.heap.size) (hN : NodeIs w S (n + 1) t V) (hfew : Ward.Few (n + 1) t) (hnum : ∀ c ∈ Ward.Nd.kids t, 0 ≤ Ward.numN n c ∧ Ward.numN n c ≤ 1000000) (hK : KT w) :
    Calls Tryz.prog 83 #[.agg V.toArray] w fun e w' => ∃ V', e = .returned (.agg V'.toArray) ∧ NodeIs w' S (n + 1) (Ward.madeN (n + 1) t) V' ∧ Below w.heap.size w w' := by
  obtain ⟨vp, vc, hV, -, hp, hk⟩ := hN
  obtain ⟨ac, cc, evc, hkr⟩ := hk
  obtain ⟨ap, cp, evp, hpr⟩ := hp
  have hp4 : (Ward.Nd.pts t).length ≤ 4 := hfew.1
  have hk4 : (Ward.Nd.kids t).length ≤ 4 := hfew.2.1
  have HP := hide (show ReadsS w S vp (Ward.Nd.pts t) from ⟨ap, cp, evp, hpr⟩)
  have HKD := hide (show RowsAt (NodeIs w S n) w S vc (Ward.Nd.kids t) from ⟨ac, cc, evc, hkr⟩)
  have hv0 : V[0]? = some vp := by rw [hV]; rfl
  have hv1 : V[1]? = some vc := by rw [hV]; rfl
  have HLF := hide (fun (W : World) (hb : Below w.heap.size w W) => leafOf_any vp (Ward.Nd.pts t) W hp4 ((HP.out.keep (below_same hb hS) (fun _ h => h)).low (fun g hg => Nat.lt_of_lt_of_le (hS g hg) hb.size)) (hK.below hb))
  have HND := hide (fun (W : World) (hb : Below w.heap.size w W) (h0 : Ward.Nd.kids t ≠ []) => nodeOf_any vc n (Ward.Nd.kids t) W S (fun g hg => Nat.lt_of_lt_of_le (hS g hg) hb.size) h0 hk4 (HKD.out.keep (below_same hb hS) (fun _ h => h) (NodeIs.keep (below_same hb hS) (fun _ h => h) n)) hnum (hK.below hb))
  obtain ⟨fs, hu⟩ := underNode
  have HU := hide hu
  have HS := hide hS
  have hb1' := fun o o' => ((Below.refl w.heap.size w).alloc (Nat.le_refl _) o).alloc (by simp) o'
  have hr1' := heap_alloc2_old w
  have hr2' := heap_alloc2_new w
  have hs1' := fun o o' => show ((w.alloc o).alloc o').heap.size = w.heap.size + 2 by simp
  have HMD := hide (show Ward.madeN (n + 1) t = if (Ward.Nd.kids t).length = 0 then ⟨Ward.Nd.pts t, [], Ward.boxL ((Ward.Nd.pts t).map Ward.boxOf), ((Ward.Nd.pts t).length : Nat), Sha.sha (Ward.leafText (Ward.Nd.pts t))⟩ else ⟨[], Ward.Nd.kids t, Ward.boxL ((Ward.Nd.kids t).map (Ward.boxN n)), ((Ward.Nd.kids t).map (Ward.numN n)).sum, Sha.sha (Ward.textK n (Ward.Nd.kids t))⟩ from rfl)
  clear hV hfew hnum hK hu hS hkr hpr
  subst evp evc
  go_enter Tryz.func83, Tryz.ntmps83
  go_upto_region 1 with fail
  generalize hW : World.alloc (World.alloc w _) _ = w1
  have hb1 : Below w.heap.size w w1 := by rw [← hW]; exact hb1' _ _
  have hr1 : w1.heap[w.heap.size]? = some (.cells V.toArray 90 (0, 0)) := by rw [← hW]; exact hr1' _ _
  have hr2 : ∃ Z : Array Value, Z.size = 39 ∧ w1.heap[w.heap.size + 1]? = some (.cells Z 90 (0, 0)) := by rw [← hW]; exact ⟨_, rfl, hr2' _ _⟩
  have hs1 : w.heap.size + 2 ≤ w1.heap.size := by rw [← hW, hs1']; exact Nat.le_refl _
  clear hb1' hr1' hr2' hs1' hW
  obtain ⟨Z, hZ, hr2⟩ := hr2
  have c0 : w1.cell? ⟨w.heap.size, 0, none⟩ = some (.slice ap (Ward.Nd.pts t).length cp) := by rw [cell_of_row _ _ _ _ _ _ hr1, List.getElem?_toArray]; exact hv0
  have c1 : w1.cell? ⟨w.heap.size, 1, none⟩ = some (.slice ac (Ward.Nd.kids t).length cc) := by rw [cell_of_row _ _ _ _ _ _ hr1, List.getElem?_toArray]; exact hv1
  have HB1 := hide hb1
  have HZ := hide hZ
  have HR2 := hide hr2
  clear hb1 hr1 hr2 hZ hv0 hv1
  by_cases h0 : (Ward.Nd.kids t).length = 0
  · rw [if_pos h0] at HMD
    have HX := hide (HLF.out w1 HB1.out)
    have HROW := hide (show Row39 (nodeV (.slice ap (Ward.Nd.pts t).length cp) (.slice none 0 0) (Ward.box 0 (Ward.Nd.pts t)) (Ward.Nd.pts t).length ((Sha.sha (Ward.leafText (Ward.Nd.pts t))).map Y)) from nodeV_row (sha_len _))
    have HRES := hide (fun (W : World) (hb : Below w.heap.size w W) => leaf_made n HP.out hb HS.out)
    generalize nodeV (.slice ap (Ward.Nd.pts t).length cp) (.slice none 0 0) (Ward.box 0 (Ward.Nd.pts t)) (Ward.Nd.pts t).length ((Sha.sha (Ward.leafText (Ward.Nd.pts t))).map Y) = R at *
    go_wp2_with fail
    refine HX.out.mono ?_
    rintro _ w2 ⟨rfl, hb2⟩
    have HB2 := hide (HB1.out.trans (hb2.mono (by omega)))
    have HZ2 := hide ((hb2.block (w.heap.size + 1) (by omega)).trans HR2.out)
    clear hb2
    go_wp2_with (refine wpList_store_row rfl 90 (.tmp 2) (.tmp 9) rfl (w.heap.size + 1) R.toArray rfl rfl 90 _ HZ2.out HROW.out.info (by rw [HROW.out.size, HZ.out]) HROW.out.one ?_)
    refine bodyPost_ret (v := .agg R.toArray) (results_cell_row rfl _ _ (w.heap.size + 1) 90 R.toArray (0, 0) (.struct fs) rfl (setRow_heap _ _ _ _ _ _ HZ2.out) HU.out rfl HROW.out.info) rfl ⟨R, rfl, ?_, below_setRow HB2.out (by omega) _⟩
    rw [HMD.out]
    exact HRES.out _ (below_setRow HB2.out (by omega) _)
  · rw [if_neg h0] at HMD
    have HX := hide (HND.out w1 HB1.out (fun e => h0 (by rw [e]; rfl)))
    have HROW := hide (show Row39 (nodeV (.slice none 0 0) (.slice ac (Ward.Nd.kids t).length cc) (Ward.boxL ((Ward.Nd.kids t).map (Ward.boxN n))) (((Ward.Nd.kids t).map (Ward.numN n)).sum) ((Sha.sha (Ward.textK n (Ward.Nd.kids t))).map Y)) from nodeV_row (sha_len _))
    have HRES := hide (fun (W : World) (hb : Below w.heap.size w W) => node_made n HKD.out hb HS.out)
    generalize nodeV (.slice none 0 0) (.slice ac (Ward.Nd.kids t).length cc) (Ward.boxL ((Ward.Nd.kids t).map (Ward.boxN n))) (((Ward.Nd.kids t).map (Ward.numN n)).sum) ((Sha.sha (Ward.textK n (Ward.Nd.kids t))).map Y) = R at *
    go_wp2_with fail
    refine HX.out.mono ?_
    rintro _ w2 ⟨rfl, hb2⟩
    have HB2 := hide (HB1.out.trans (hb2.mono (by omega)))
    have HZ2 := hide ((hb2.block (w.heap.size + 1) (by omega)).trans HR2.out)
    clear hb2
    go_wp2_with (refine wpList_store_row rfl 90 (.tmp 2) (.tmp 12) rfl (w.heap.size + 1) R.toArray rfl rfl 90 _ HZ2.out HROW.out.info (by rw [HROW.out.size, HZ.out]) HROW.out.one ?_)
    refine bodyPost_ret (v := .agg R.toArray) (results_cell_row rfl _ _ (w.heap.size + 1) 90 R.toArray (0, 0) (.struct fs) rfl (setRow_heap _ _ _ _ _ _ HZ2.out) HU.out rfl HROW.out.info) rfl ⟨R, rfl, ?_, below_setRow HB2.out (by omega) _⟩
    rw [HMD.out]
    exact HRES.out _ (below_setRow HB2.out (by omega) _)
end Go.Proofs.YtenaelkbgkpllaaGreatDoor
/- The boxes of a child that is hidden. -/
namespace Go.Proofs.YtenaelkbgkpllaaGreatDoor
open Go.RowKit

set_option maxRecDepth 100000 in
set_option maxHeartbeats 4000000 in
theorem boxHold_hidden (n : Nat) (t : Ward.NT n) (V : List Value) (w : World) (S : Nat → Prop) (hS : ∀ g, S g → g < w.heap.size) (hN : NodeIs w S n t V) (hfew : Ward.Few n t) (hs : Ward.shownN n t = false) :
    Calls Tryz.prog 85 #[.agg V.toArray] w fun e w' => e = .returned (.bool (Ward.boxHolds n t)) ∧ Below w.heap.size w w' := by
  have HE := hide (show Ward.boxHolds n t = true by unfold Ward.boxHolds; rw [hs]; rfl)
  rw [HE.out]
  have HX := hide (fun (W : World) (hb : Below w.heap.size w W) => isShown_any n t V W S (NodeIs.keep (below_same hb hS) (fun _ h => h) n t V hN) hfew)
  rw [hs] at HX
  obtain ⟨fs, hu⟩ := underNode
  have HU := hide hu
  obtain ⟨a1, l1, c1, a2, l2, c2, hV, hd⟩ := hN.cells
  have HR := hide (show Row39 V by rw [hV]; exact nodeV_row hd)
  have hb1' := fun o => (Below.refl w.heap.size w).alloc (Nat.le_refl _) o
  have hr1' := heap_alloc_new w
  clear hN hfew hs hS hu hV hd HE
  go_enter Tryz.func85, Tryz.ntmps85
  go_upto_region 1 with fail
  generalize hW : World.alloc w _ = w1
  have hb1 : Below w.heap.size w w1 := by rw [← hW]; exact hb1' _
  have hr1 : w1.heap[w.heap.size]? = some (.cells V.toArray 90 (0, 0)) := by rw [← hW]; exact hr1' _
  clear hb1' hr1' hW
  have hs1 := hb1.size
  have HN1 := hide hr1
  have HB1 := hide hb1
  have HXX := hide (HX.out w1 hb1)
  clear hb1 hr1
  go_wp2_with (refine wpList_load_row rfl 90 (.tmp 1) rfl w.heap.size rfl 90 V.toArray (0, 0) (.struct fs) HN1.out HU.out rfl HR.out.info ?_)
  refine HXX.out.mono ?_
  rintro _ w2 ⟨rfl, hb2⟩
  have HB2 := hide (HB1.out.trans (hb2.mono hs1))
  clear hb2
  go_wp2_with fail
  go_ret
  exact ⟨rfl, HB2.out⟩
end Go.Proofs.YtenaelkbgkpllaaGreatDoor
/- Two boxes held against each other. -/
namespace Go.Proofs.YtenaelkbgkpllaaGreatDoor
open Go.RowKit

theorem eqBox (b c : Ward.Box) (W : World) : (Op.equalIn 10000 88 (.agg #[I b.a, I b.b, I b.c, I b.d]) (.agg #[I c.a, I c.b, I c.c, I c.d])).run Tryz.prog W = .ok (Ward.boxEq b c) W := by
  have u3 := Tryz.underlying3
  have a3 := Tryz.isAgg3
  have z3 := Tryz.sizeOf3
  have hS : Tryz.prog.underlying 88 = some (.struct (Tryz.prog.fieldsOf 88)) := by kernel_rfl
  have hp : Tryz.prog.stoodInHeld 88 = false := by kernel_rfl
  rw [show (10000 : Nat) = 9999 + 1 from rfl, run_equalIn_agg W 9999 88 _ _ hS hp]
  simp only [Program.fieldsOf, Tryz.underlying88]
  go_simp
  unfold Ward.boxEq
  by_cases h1 : b.a = c.a <;> by_cases h2 : b.b = c.b <;> by_cases h3 : b.c = c.c <;> by_cases h4 : b.d = c.d <;> simp [h1, h2, h3, h4]
end Go.Proofs.YtenaelkbgkpllaaGreatDoor
/- The boxes of a child that is shown. -/
namespace Go.Proofs.YtenaelkbgkpllaaGreatDoor
open Go.RowKit

/-- the box and the number, as they lie in a node's row -/
theorem box_cells {w : World} {g n : Nat} {t : Ward.NT n} {V : List Value} {W : World} {S : Nat → Prop} (hN : NodeIs W S n t V) (hr : w.heap[g]? = some (.cells V.toArray 90 (0, 0))) : w.cell? ⟨g, 2, none⟩ = some (I (Ward.boxN n t).a) ∧ w.cell? ⟨g, 3, none⟩ = some (I (Ward.boxN n t).b) ∧ w.cell? ⟨g, 4, none⟩ = some (I (Ward.boxN n t).c) ∧ w.cell? ⟨g, 5, none⟩ = some (I (Ward.boxN n t).d) ∧ w.cell? ⟨g, 6, none⟩ = some (I (Ward.numN n t)) := by
  obtain ⟨a1, l1, c1, a2, l2, c2, hV, hd⟩ := hN.cells
  subst hV
  refine ⟨?_, ?_, ?_, ?_, ?_⟩ <;> (rw [cell_of_row _ _ _ _ _ _ hr, List.getElem?_toArray]; rfl)
set_option maxRecDepth 100000 in
set_option maxHeartbeats 4000000 in
theorem boxHold_shown (n : Nat) (t : Ward.NT (n + 1)) (V : List Value) (w : World) (S : Nat → Prop) (hS : ∀ g, S g → g < w.heap.size) (hN : NodeIs w S (n + 1) t V) (hfew : Ward.Few (n + 1) t) (hnum : ∀ c ∈ Ward.Nd.kids t, 0 ≤ Ward.numN n c ∧ Ward.numN n c ≤ 1000000) (hK : KT w) (hs : Ward.shownN (n + 1) t = true) :
    Calls Tryz.prog 85 #[.agg V.toArray] w fun e w' => e = .returned (.bool (Ward.boxHolds (n + 1) t)) ∧ Below w.heap.size w w' := by
  have HE := hide (show Ward.boxHolds (n + 1) t = (Ward.boxEq (Ward.boxN (n + 1) t) (Ward.boxN (n + 1) (Ward.madeN (n + 1) t)) && decide (Ward.numN (n + 1) t = Ward.numN (n + 1) (Ward.madeN (n + 1) t))) by unfold Ward.boxHolds; rw [hs]; rfl)
  rw [HE.out]
  have HNK := hide (fun (W : World) (hb : Below w.heap.size w W) => NodeIs.keep (S' := S) (below_same hb hS) (fun _ h => h) (n + 1) t V hN)
  have HX := hide (fun (W : World) (hb : Below w.heap.size w W) => isShown_any (n + 1) t V W S (HNK.out W hb) hfew)
  rw [hs] at HX
  have HMD := hide (fun (W : World) (hb : Below w.heap.size w W) => made_any n t V W S (fun g hg => Nat.lt_of_lt_of_le (hS g hg) hb.size) (HNK.out W hb) hfew hnum (hK.below hb))
  generalize hmt : Ward.madeN (n + 1) t = mt at *
  obtain ⟨fs, hu⟩ := underNode
  have HU := hide hu
  obtain ⟨a1, l1, c1, a2, l2, c2, hV, hd⟩ := hN.cells
  have HR := hide (show Row39 V by rw [hV]; exact nodeV_row hd)
  have HN := hide hN
  have hb1' := fun o => (Below.refl w.heap.size w).alloc (Nat.le_refl _) o
  have hr1' := heap_alloc_new w
  clear hN hfew hs hS hu hV hd HE hmt hnum hK
  go_enter Tryz.func85, Tryz.ntmps85
  go_upto_region 1 with fail
  generalize hW : World.alloc w _ = w1
  have hb1 : Below w.heap.size w w1 := by rw [← hW]; exact hb1' _
  have hr1 : w1.heap[w.heap.size]? = some (.cells V.toArray 90 (0, 0)) := by rw [← hW]; exact hr1' _
  clear hb1' hr1' hW
  have hs1 : w.heap.size < w1.heap.size := (Array.getElem?_eq_some_iff.1 hr1).1
  have HN1 := hide hr1
  have HB1 := hide hb1
  have HXX := hide (HX.out w1 hb1)
  clear hb1 hr1
  go_wp2_with (refine wpList_load_row rfl 90 (.tmp 1) rfl w.heap.size rfl 90 V.toArray (0, 0) (.struct fs) HN1.out HU.out rfl HR.out.info ?_)
  refine HXX.out.mono ?_
  rintro _ w2 ⟨rfl, hb2⟩
  have hs2 := hb2.size
  have HB2 := hide (HB1.out.trans (hb2.mono (by omega)))
  have HN2 := hide ((hb2.block w.heap.size hs1).trans HN1.out)
  have HMX := hide (HMD.out w2 HB2.out)
  clear hb2
  go_wp2_with (refine wpList_load_row rfl 90 (.tmp 1) rfl w.heap.size rfl 90 V.toArray (0, 0) (.struct fs) HN2.out HU.out rfl HR.out.info ?_)
  refine HMX.out.mono ?_
  rintro _ w3 ⟨V', rfl, hn3, hb3⟩
  have hs3 := hb3.size
  have HB3 := hide (HB2.out.trans (hb3.mono (by omega)))
  have HN3 := hide ((hb3.block w.heap.size (by omega)).trans HN2.out)
  have HM3 := hide hn3
  have HR' := hide (show Row39 V' by
    obtain ⟨a1, l1, c1, a2, l2, c2, hV, hd⟩ := hn3.cells
    rw [hV]; exact nodeV_row hd)
  clear hb3 hn3
  have hb4' := fun o => (Below.refl w3.heap.size w3).alloc (Nat.le_refl _) o
  have hr4' := heap_alloc_new w3
  go_upto_region 4 with (refine wpList_store_row rfl 90 (.tmp 3) (.tmp 8) rfl w3.heap.size V'.toArray rfl rfl 90 _ (heap_alloc_new w3 _) HR'.out.info (by rw [HR'.out.size]; rfl) HR'.out.one ?_; rw [World.setRow_alloc_new])
  generalize hW : World.alloc w3 _ = w4
  have hb4 : Below w3.heap.size w3 w4 := by rw [← hW]; exact hb4' _
  have hr4 : w4.heap[w3.heap.size]? = some (.cells V'.toArray 90 (0, 0)) := by rw [← hW]; exact hr4' _
  clear hb4' hr4' hW
  have HB4 := hide (HB3.out.trans (hb4.mono (by omega)))
  obtain ⟨k2, k3, k4, k5, k6⟩ := box_cells HN.out ((hb4.block w.heap.size (by omega)).trans HN3.out)
  obtain ⟨m2, m3, m4, m5, m6⟩ := box_cells HM3.out hr4
  have heq := eqBox (Ward.boxN (n + 1) t) (Ward.boxN (n + 1) mt)
  obtain ⟨r, hr⟩ : ∃ r, Ward.boxEq (Ward.boxN (n + 1) t) (Ward.boxN (n + 1) mt) = r := ⟨_, rfl⟩
  rw [hr] at heq
  have HRR := hide hr
  clear hb4 hr4 hr
  cases r
  all_goals
    go_wp2
    go_ret
    refine ⟨?_, HB4.out⟩
    rw [HRR.out]
    first | rfl | simp
end Go.Proofs.YtenaelkbgkpllaaGreatDoor
/- The answer of a tree that a proof shows; what must be shown. -/
namespace Go.Proofs.YtenaelkbgkpllaaGreatDoor
open Go.RowKit

theorem near_bounds {q : Ward.Qr} (hk : q.kind = 1) (hq : Ward.mayBe q = true) : (-1000000 ≤ q.x ∧ q.x ≤ 1000000) ∧ (-1000000 ≤ q.y ∧ q.y ≤ 1000000) ∧ 1 ≤ q.k ∧ q.k ≤ 20 := by
  unfold Ward.mayBe at hq
  rw [if_neg (by omega), if_pos hk] at hq
  simp only [Ward.coordOk, Bool.and_eq_true, decide_eq_true_eq] at hq
  omega
theorem answer_tree {q : Ward.Qr} (hq : Ward.mayBe q = true) (t : Ward.NT 7) (V : List Value) (w : World) (hN : NodeIs w (fun g => g < w.heap.size) 7 t V) (hF : Ward.Fine 7 t) (hE : Ward.Encl 7 t) (hI : Ward.Ids (Ward.allN 7 t)) (hl : (Ward.allN 7 t).length ≤ 600) :
    Calls Tryz.prog 40 #[.agg V.toArray, Qv q] w fun e w' => ∃ v, e = .returned v ∧ Own w' w.heap.size v (Ward.ans q (Ward.allN 7 t)) ∧ Below w.heap.size w w' := by
  rcases kind_two hq with h | h
  · have hw : Ward.withinN (Ward.window q) 7 t = (Ward.allN 7 t).filter (Ward.inB (Ward.window q)) := Ward.within_all _ _ hE
    have ha : Ward.ans q (Ward.allN 7 t) = Ward.sortP ((Ward.allN 7 t).filter (Ward.inB (Ward.window q))) := by unfold Ward.ans; rw [if_neg (by omega)]
    have hc := answer_window q 7 t V w h (by omega) hF.few hN (by rw [hw]; exact Ward.ids_sub List.filter_sublist hI)
    rw [hw, ← ha] at hc
    exact hc
  · obtain ⟨hx, hy, h1, h2⟩ := near_bounds h hq
    have hsz : sizeN 7 t ≤ 80000 := by
      have h1 := size_few _ _ hF.few
      have h3 : 4 ^ 7 = 16384 := by decide
      omega
    exact answer_near q 7 t V w h hN hF.few hF.inn hE hF.ok hI hsz hx hy (by omega) (by omega)
theorem mustShow_any {q : Ward.Qr} (hq : Ward.mayBe q = true) {P : List Ward.Pt} (hP : ∀ p ∈ P, p.Ok) (w : World) (B : Nat) (v : Value) (b : Ward.Box) (hi : b.In) (hv : Own w B v (Ward.ans q P)) :
    Calls Tryz.prog 42 #[Qv q, v, Bx b] w fun e w' => e = .returned (.bool (Ward.must q (Ward.ans q P) b)) ∧ Below w.heap.size w w' := by
  rcases kind_two hq with hk | hk
  · rw [must_window hk]
    exact mustShow_window q v b w hk
  · obtain ⟨hx, hy, hk1, hk2⟩ := near_bounds hk hq
    have hans : Ward.ans q P = (Ward.sortN q.x q.y P).take q.k.toNat := by unfold Ward.ans; rw [if_pos hk]
    have hal : (Ward.ans q P).length ≤ 20 := by rw [hans, List.length_take]; omega
    obtain ⟨ad, c, ev, hrd⟩ := hv.readsS
    subst ev
    by_cases hl : ((Ward.ans q P).length : Int) < q.k
    · rw [must_few hk hl]
      exact mustShow_few q ad c _ b w hk hl
    · have hne : Ward.ans q P ≠ [] := fun e => by rw [e] at hl; simp at hl; omega
      have hpos : 0 < (Ward.ans q P).length := List.length_pos_iff.2 hne
      obtain ⟨g, o, rfl, -, hp⟩ := hrd hne
      have hlast : (Ward.ans q P).getLast? = some (Ward.ans q P)[(Ward.ans q P).length - 1] := by rw [List.getLast?_eq_getElem?, List.getElem?_eq_getElem (by omega)]
      have hmem : (Ward.ans q P)[(Ward.ans q P).length - 1] ∈ P := (Ward.sortN_perm q.x q.y P).mem_iff.1 (List.mem_of_mem_take (by rw [← hans]; exact List.getElem_mem _))
      rw [must_last hk hl hlast]
      exact mustShow_last q g o c _ _ b w hk hl hpos (by omega) (hp _ (by omega)) (hP _ hmem) hi hx hy
/-- the closure of BoxesHold -/
theorem boxHold_any (n : Nat) (t : Ward.NT n) (V : List Value) (w : World) (S : Nat → Prop) (hS : ∀ g, S g → g < w.heap.size) (hN : NodeIs w S n t V) (hfew : Ward.Few n t) (hnum : Ward.NumsN n t) (hK : KT w) :
    Calls Tryz.prog 85 #[.agg V.toArray] w fun e w' => e = .returned (.bool (Ward.boxHolds n t)) ∧ Below w.heap.size w w' := by
  cases n with
  | zero => exact nomatch t
  | succ n =>
    cases hs : Ward.shownN (n + 1) t
    · exact boxHold_hidden (n + 1) t V w S hS hN hfew hs
    · exact boxHold_shown n t V w S hS hN hfew (fun c hc => (hnum c hc).1) hK hs
end Go.Proofs.YtenaelkbgkpllaaGreatDoor
/- A test of every child. -/
namespace Go.Proofs.YtenaelkbgkpllaaGreatDoor
open Go.RowKit

/-- of a test of children: what it says -/
def Holdsa (w : World) (P : (n : Nat) → Ward.NT n → Bool) : Prop := ∀ (W : World) (n : Nat) (t : Ward.NT n) (V : List Value) (S : Nat → Prop), (∀ g, S g → g < W.heap.size) → NodeIs W S n t V → Ward.Few n t → Ward.NumsN n t → (Ward.boxN n t).In → Below w.heap.size w W → Calls Tryz.prog 85 #[.agg V.toArray] W fun e w' => e = .returned (.bool (P n t)) ∧ Below W.heap.size W w'
theorem Holdsa.below {w w' : World} {P : (n : Nat) → Ward.NT n → Bool} (h : Holdsa w P) (hb : Below w.heap.size w w') : Holdsa w' P := fun W n t V S hS hN h1 h2 h3 hW => h W n t V S hS hN h1 h2 h3 (hb.trans (hW.mono hb.size))
theorem wp_load_nodeG {d : Option Tmp} {x : Operand} {tt : TypeId} {ps : String} {af : Array Edge} {gd : Option (Nat × Bool)} {a : Act} {w : World} {K : Act → World → Prop} {Q : Exit → Act → World → Prop} (h : NodeRow w (a.eval x)) :
    Oper.wp Tryz.prog { dst := d, op := .load 90 x, type := tt, pos := ps, after := af, guard := gd } a w K Q = K (a.put d (loadVal w (a.eval x))) w := by
  have e : Oper.wp Tryz.prog { dst := d, op := .load 90 x, type := tt, pos := ps, after := af, guard := gd } a w K Q = Oper.wp Tryz.prog { dst := d, op := .load 90 x, type := tt, pos := ps, after := af, guard := none } a w K Q := rfl
  rw [e]
  exact wp_load_node h
theorem every_step (P : (n : Nat) → Ward.NT n → Bool) (n : Nat) (t : Ward.NT (n + 1)) : Ward.everyN P (n + 1) t = (Ward.Nd.kids t).all fun c => P n c && Ward.everyN P n c := rfl
theorem all_take {α : Type} (f : α → Bool) (K : List α) (i : Nat) (h : i < K.length) (ht : (K.take i).all f = true) : (f K[i] = true → (K.take (i + 1)).all f = true) ∧ (f K[i] = false → K.all f = false) := by
  refine ⟨fun hf => ?_, fun hf => ?_⟩
  · rw [List.take_succ_eq_append_getElem h, List.all_append, ht]
    simp [hf]
  · rw [List.all_eq_false]
    exact ⟨K[i], List.getElem_mem h, by rw [hf]; simp⟩
attribute [local go_sem ↓] Go.wp_at_zero Go.wp_at_succ wp_load_nodeG
set_option maxRecDepth 100000 in
set_option maxHeartbeats 4000000 in
theorem every_a (P : (n : Nat) → Ward.NT n → Bool) : ∀ (n : Nat) (t : Ward.NT n) (V : List Value) (w : World) (S : Nat → Prop) (_ : ∀ g, S g → g < w.heap.size) (_ : NodeIs w S n t V) (_ : Ward.Few n t) (_ : Ward.NumsN n t) (_ : Ward.InN n t) (_ : Holdsa w P),
    Calls Tryz.prog 84 #[.agg V.toArray, .func (.func 85) #[] #[]] w fun e w' => e = .returned (.bool (Ward.everyN P n t)) ∧ Below w.heap.size w w' := by
  intro n
  induction n with
  | zero => intro t; exact nomatch t
  | succ n ih =>
    intro t V w S hS hN hfew hnum hin hho
    have HEV := hide (every_step P n t)
    have IH := hide ih
    have HFEW := hide hfew
    have HNUM := hide hnum
    have HIN := hide hin
    have HHO := hide hho
    obtain ⟨a1, l1, c1, a2, l2, c2, hV, hd⟩ := hN.cells
    have HR := hide (show Row39 V by rw [hV]; exact nodeV_row hd)
    obtain ⟨vp, vc, hVe, -, hrp, ⟨ac, cc, rfl, hkids⟩⟩ := hN
    have HVE := hide hVe
    have HKD := hide hkids
    have HS := hide hS
    have hk4 : (Ward.Nd.kids t).length ≤ 4 := HFEW.out.2.1
    obtain ⟨fs, hu⟩ := underNode
    have HU := hide hu
    clear hu hV hd hVe hrp hkids hS ih hfew hnum hin hho
    have hb2 := fun o => (Below.refl w.heap.size w).alloc (Nat.le_refl _) o
    have hr2 := heap_alloc_new w
    go_enter Tryz.func84, Tryz.ntmps84
    go_upto_region 1 with fail
    generalize hW : World.alloc w _ = w1
    have hb1 : Below w.heap.size w w1 := by rw [← hW]; exact hb2 _
    have hn1 : w1.heap[w.heap.size]? = some (.cells V.toArray 90 (0, 0)) := by rw [← hW]; exact hr2 _
    clear hb2 hr2 hW
    have hs1 : w.heap.size < w1.heap.size := (Array.getElem?_eq_some_iff.1 hn1).1
    have HB1 := hide hb1
    have HN1 := hide (show w1.heap[w.heap.size]? = some (.cells (nodeV vp (.slice ac (Ward.Nd.kids t).length cc) (Ward.Nd.box t) (Ward.Nd.n t) ((Ward.Nd.dig t).map Y)).toArray 90 (0, 0)) by rw [hn1, HVE.out])
    obtain ⟨⟨k0, k1⟩, -, -⟩ := node_cells HN1.out
    clear hb1 hn1
    go_wp2_with fail
    go_loopg [10] (Ward.Nd.kids t).length (fun gk v10 wq => ∃ i : Nat, gk = (Ward.Nd.kids t).length - i ∧ v10 = I i ∧ i ≤ (Ward.Nd.kids t).length ∧ Below w.heap.size w wq ∧ ((Ward.Nd.kids t).take i).all (fun c => P n c && Ward.everyN P n c) = true)
    case atStart => exact ⟨0, by omega, rfl, by omega, HB1.out, rfl⟩
    case round =>
      obtain ⟨i, hgk, rfl, hi, hb, ha⟩ := hrel
      have HGK := hide hgk
      have HB := hide hb
      have HA := hide ha
      have hsz := hb.size
      clear hgk hb ha
      by_cases hlt : i < (Ward.Nd.kids t).length
      · obtain ⟨g, o, rfl, hgS, hrows⟩ := HKD.out (fun e => by rw [e] at hlt; simp at hlt)
        obtain ⟨U, hU, hc⟩ := hrows i hlt
        have hgl := HS.out g hgS
        have HC := hide (rangeAt_block hc (HB.out.block g hgl))
        have HU2 := hide (NodeIs.keep (S' := S) (below_same HB.out HS.out) (fun _ h => h) n _ U hU)
        obtain ⟨d1, m1, e1, d2, m2, e2, hV, hd⟩ := HU2.out.cells
        have HR2 := hide (show Row39 U by rw [hV]; exact nodeV_row hd)
        have HST := hide (all_take (fun c => P n c && Ward.everyN P n c) (Ward.Nd.kids t) i hlt HA.out)
        have HHX := hide (fun (W : World) (hb : Below wr.heap.size wr W) => HHO.out W n _ U S (fun j hj => by have := HS.out j hj; have := hb.size; omega) (NodeIs.keep (S' := S) (below_same hb (fun j hj => by have := HS.out j hj; omega)) (fun _ h => h) n _ U HU2.out) (HFEW.out.2.2 _ (List.getElem_mem hlt)) (HNUM.out _ (List.getElem_mem hlt)).2 (HIN.out _ (List.getElem_mem hlt)).1 (HB.out.trans (hb.mono hsz)))
        have HIX := hide (fun (W : World) (hb : Below wr.heap.size wr W) => IH.out _ U W S (fun j hj => by have := HS.out j hj; have := hb.size; omega) (NodeIs.keep (S' := S) (below_same hb (fun j hj => by have := HS.out j hj; omega)) (fun _ h => h) n _ U HU2.out) (HFEW.out.2.2 _ (List.getElem_mem hlt)) (HNUM.out _ (List.getElem_mem hlt)).2 (HIN.out _ (List.getElem_mem hlt)).2 (HHO.out.below (HB.out.trans (hb.mono hsz))))
        clear hc hU hrows hV hd
        generalize (Ward.Nd.kids t)[i] = c at *
        go_upto_region 4 with (first | (refine wpList_load_mid rfl 90 (.tmp 12) rfl g (o + i * 39) rfl U (.struct fs) HC.out HU.out rfl HR2.out.infl ?_) | (refine wpList_store_row rfl 90 (.tmp 6) (.tmp 13) rfl wr.heap.size U.toArray rfl rfl 90 _ (heap_alloc_new wr _) HR2.out.info (by rw [HR2.out.size]; rfl) HR2.out.one ?_; rw [World.setRow_alloc_new]))
        have hb5' := fun o => (Below.refl wr.heap.size wr).alloc (Nat.le_refl _) o
        have hr5' := heap_alloc_new wr
        generalize hW : World.alloc wr _ = w5
        have hb5 : Below wr.heap.size wr w5 := by rw [← hW]; exact hb5' _
        have hr5 : w5.heap[wr.heap.size]? = some (.cells U.toArray 90 (0, 0)) := by rw [← hW]; exact hr5' _
        clear hb5' hr5' hW
        have hs5 : wr.heap.size < w5.heap.size := (Array.getElem?_eq_some_iff.1 hr5).1
        have HB5 := hide hb5
        have HR5 := hide hr5
        clear hb5 hr5
        have HX := hide (HHX.out w5 HB5.out)
        generalize P n c = r at *
        go_wp2_with (refine wpList_load_row rfl 90 (.tmp 6) rfl wr.heap.size rfl 90 U.toArray (0, 0) (.struct fs) HR5.out HU.out rfl HR2.out.info ?_)
        refine HX.out.mono ?_
        rintro _ w6 ⟨rfl, hb6⟩
        have hs6 := hb6.size
        have HB6 := hide (HB5.out.trans (hb6.mono (by omega)))
        have HR6 := hide ((hb6.block wr.heap.size hs5).trans HR5.out)
        clear hb6
        cases r with
        | false =>
          go_wp2_with fail
          go_ret
          refine ⟨?_, HB.out.trans (HB6.out.mono (by omega))⟩
          rw [HEV.out, HST.out.2 rfl]; rfl
        | true =>
          have HY := hide (HIX.out w6 HB6.out)
          generalize Ward.everyN P n c = r2 at *
          have n6 : NodeRow w6 (.pointer (some ⟨wr.heap.size, 0, none⟩)) := nodeRow_of HR6.out HR2.out.size
          have l6 : loadVal w6 (.pointer (some ⟨wr.heap.size, 0, none⟩)) = .agg U.toArray := loadVal_row HR6.out
          go_wp2_with fail
          refine HY.out.mono ?_
          rintro _ w7 ⟨rfl, hb7⟩
          have HB7 := hide (HB6.out.trans (hb7.mono (by omega)))
          clear hb7 n6 l6
          cases r2 with
          | false =>
            go_wp2_with fail
            go_ret
            refine ⟨?_, HB.out.trans (HB7.out.mono (by omega))⟩
            rw [HEV.out, HST.out.2 rfl]; rfl
          | true =>
            go_wp2_with fail
            go_roundg ((Ward.Nd.kids t).length - (i + 1))
            case measure => have := HGK.out; omega
            case rel => exact ⟨i + 1, rfl, by go_num, hlt, HB.out.trans (HB7.out.mono (by omega)), HST.out.1 rfl⟩
      · have ei : i = (Ward.Nd.kids t).length := by omega
        subst ei
        rw [List.take_length] at HA
        go_wp2_with fail
        go_ret
        refine ⟨?_, HB.out⟩
        rw [HEV.out, HA.out]; rfl
end Go.Proofs.YtenaelkbgkpllaaGreatDoor
/- The digest of a child held against its text. -/
namespace Go.Proofs.YtenaelkbgkpllaaGreatDoor
open Go.RowKit

/-- a pointer to 32 cells -/
def ArrRow (w : World) (v : Value) : Prop := ∃ g o, v = .pointer (some ⟨g, o, none⟩) ∧ ∃ cs : List Value, w.rangeAt g o cs ∧ cs.length = 32
/-- what lies there -/
def arrVal (w : World) : Value → Value
  | .pointer (some ⟨g, o, none⟩) => .agg ((List.range 32).map fun j => (w.cell? ⟨g, o + j, none⟩).getD undef).toArray
  | _ => undef
theorem arrVal_row {w : World} {g o : Nat} {cs : List Value} (h : w.rangeAt g o cs) (hl : cs.length = 32) : arrVal w (.pointer (some ⟨g, o, none⟩)) = .agg cs.toArray := by
  show Value.agg ((List.range 32).map fun j => (w.cell? ⟨g, o + j, none⟩).getD undef).toArray = _
  congr 2
  apply List.ext_getElem
  · simp [hl]
  · intro j h1 h2
    rw [List.getElem_map, List.getElem_range, h j _ (List.getElem?_eq_getElem h2)]
    rfl
theorem Tryz.infoArr : (Tryz.prog.info? 39).map (·.size) = some 32 := by kernel_rfl
theorem wp_load_arr {d : Option Tmp} {x : Operand} {tt : TypeId} {ps : String} {af : Array Edge} {gd : Option (Nat × Bool)} {a : Act} {w : World} {K : Act → World → Prop} {Q : Exit → Act → World → Prop} (h : ArrRow w (a.eval x)) :
    Oper.wp Tryz.prog { dst := d, op := .load 39 x, type := tt, pos := ps, after := af, guard := gd } a w K Q = K (a.put d (arrVal w (a.eval x))) w := by
  obtain ⟨g, o, hv, cs, hc, hl⟩ := h
  have hr := run_loadVar_mid (P := Tryz.prog) w g o 39 cs _ hc Tryz.under22 rfl (by rw [hl]; exact Tryz.infoArr)
  rw [hv, arrVal_row hc hl]
  unfold Oper.wp execOp
  simp only [hv, Instr.loadAt, Instr.sureAddr, Sem.run_bind, Sem.run_pure, Result.andThen_ok, hr]
  rfl
/-- the digest, as it lies in a node's row -/
theorem dig_range {w : World} {g n : Nat} {t : Ward.NT n} {V : List Value} {W : World} {S : Nat → Prop} (hN : NodeIs W S n t V) (hr : w.heap[g]? = some (.cells V.toArray 90 (0, 0))) : w.rangeAt g 7 ((Ward.digN n t).map Y) ∧ (Ward.digN n t).length = 32 := by
  obtain ⟨a1, l1, c1, a2, l2, c2, hV, hd⟩ := hN.cells
  subst hV
  refine ⟨fun j v hv => ?_, hd⟩
  rw [cell_of_row _ _ _ _ _ _ hr, List.getElem?_toArray, Nat.add_comm 7 j]
  exact hv
theorem field_dig {vp vc : Value} {b : Ward.Box} {n : Int} {D : List UInt8} (hl : D.length = 32) (W : World) : (Instr.field 90 (.agg (nodeV vp vc b n (D.map Y)).toArray) 4).run Tryz.prog W = .ok (.agg (D.map Y).toArray) W := by
  have hu := Tryz.underlying90
  have ha := Tryz.isAgg39
  have hz := Tryz.sizeOf39
  unfold Instr.field
  simp [run_underlying hu, part, ha, hz, asAgg]
  show List.take 32 (D.map Y) = _
  rw [List.take_of_length_le (by rw [List.length_map, hl]; exact Nat.le_refl _)]
theorem field_node {w : World} {S : Nat → Prop} {n : Nat} {t : Ward.NT n} {V : List Value} (h : NodeIs w S n t V) (W : World) : (Instr.field 90 (.agg V.toArray) 4).run Tryz.prog W = .ok (.agg ((Ward.digN n t).map Y).toArray) W := by
  obtain ⟨a1, l1, c1, a2, l2, c2, hV, hd⟩ := h.cells
  rw [hV]
  exact field_dig hd W
attribute [local go_sem ↓] Go.wp_at_zero Go.wp_at_succ wp_load_nodeG wp_load_arr
set_option maxRecDepth 100000 in
set_option maxHeartbeats 4000000 in
theorem digHold_hidden (n : Nat) (t : Ward.NT n) (V : List Value) (w : World) (S : Nat → Prop) (hS : ∀ g, S g → g < w.heap.size) (hN : NodeIs w S n t V) (hfew : Ward.Few n t) (hs : Ward.shownN n t = false) :
    Calls Tryz.prog 87 #[.agg V.toArray] w fun e w' => e = .returned (.bool (Ward.digHolds n t)) ∧ Below w.heap.size w w' := by
  have HE := hide (show Ward.digHolds n t = true by unfold Ward.digHolds; rw [hs]; rfl)
  rw [HE.out]
  have HX := hide (fun (W : World) (hb : Below w.heap.size w W) => isShown_any n t V W S (NodeIs.keep (below_same hb hS) (fun _ h => h) n t V hN) hfew)
  rw [hs] at HX
  obtain ⟨a1, l1, c1, a2, l2, c2, hV, hd⟩ := hN.cells
  have HR := hide (show Row39 V by rw [hV]; exact nodeV_row hd)
  have hb1' := fun o => (Below.refl w.heap.size w).alloc (Nat.le_refl _) o
  have hr1' := heap_alloc_new w
  clear hN hfew hs hS hV hd HE
  go_enter Tryz.func87, Tryz.ntmps87
  go_upto_region 1 with fail
  generalize hW : World.alloc w _ = w1
  have hb1 : Below w.heap.size w w1 := by rw [← hW]; exact hb1' _
  have hr1 : w1.heap[w.heap.size]? = some (.cells V.toArray 90 (0, 0)) := by rw [← hW]; exact hr1' _
  clear hb1' hr1' hW
  have hs1 := hb1.size
  have HB1 := hide hb1
  have HXX := hide (HX.out w1.drew hb1.drew)
  have hnr1 : NodeRow w1.drew (.pointer (some ⟨w.heap.size, 0, none⟩)) := nodeRow_of (w := w1.drew) hr1 HR.out.size
  have hlv1 : loadVal w1.drew (.pointer (some ⟨w.heap.size, 0, none⟩)) = .agg V.toArray := loadVal_row (w := w1.drew) hr1
  clear hb1 hr1
  first | go_region_with (go_at_call 86; go_must (refine HXX.out.mono ?_; rintro _ w2 ⟨rfl, hb2⟩; have HB2 := hide (HB1.out.drew.trans (hb2.mono (by simp; omega))); clear hb2)) | fail
  all_goals
    go_wp2_with fail
    go_ret
    exact ⟨rfl, HB2.out⟩
set_option maxRecDepth 100000 in
set_option maxHeartbeats 4000000 in
theorem digHold_shown (n : Nat) (t : Ward.NT (n + 1)) (V : List Value) (w : World) (S : Nat → Prop) (hS : ∀ g, S g → g < w.heap.size) (hN : NodeIs w S (n + 1) t V) (hfew : Ward.Few (n + 1) t) (hnum : ∀ c ∈ Ward.Nd.kids t, 0 ≤ Ward.numN n c ∧ Ward.numN n c ≤ 1000000) (hK : KT w) (hs : Ward.shownN (n + 1) t = true) :
    Calls Tryz.prog 87 #[.agg V.toArray] w fun e w' => e = .returned (.bool (Ward.digHolds (n + 1) t)) ∧ Below w.heap.size w w' := by
  have HE := hide (show Ward.digHolds (n + 1) t = decide (Ward.digN (n + 1) t = Ward.digN (n + 1) (Ward.madeN (n + 1) t)) by unfold Ward.digHolds; rw [hs]; rfl)
  rw [HE.out]
  have HNK := hide (fun (W : World) (hb : Below w.heap.size w W) => NodeIs.keep (S' := S) (below_same hb hS) (fun _ h => h) (n + 1) t V hN)
  have HX := hide (fun (W : World) (hb : Below w.heap.size w W) => isShown_any (n + 1) t V W S (HNK.out W hb) hfew)
  rw [hs] at HX
  have HMD := hide (fun (W : World) (hb : Below w.heap.size w W) => made_any n t V W S (fun g hg => Nat.lt_of_lt_of_le (hS g hg) hb.size) (HNK.out W hb) hfew hnum (hK.below hb))
  have HML := hide (show (Ward.digN (n + 1) (Ward.madeN (n + 1) t)).length = 32 by rw [Ward.made_dig]; exact sha_len _)
  generalize hmt : Ward.madeN (n + 1) t = mt at *
  obtain ⟨a1, l1, c1, a2, l2, c2, hV, hd⟩ := hN.cells
  have HR := hide (show Row39 V by rw [hV]; exact nodeV_row hd)
  have HN := hide hN
  have HDG := hide (fun (W : World) (hr : W.heap[w.heap.size]? = some (.cells V.toArray 90 (0, 0))) => dig_range hN hr)
  obtain ⟨D, hD⟩ : ∃ D, Ward.digN (n + 1) t = D := ⟨_, rfl⟩
  rw [hD] at HDG ⊢
  clear hD
  have hb1' := fun o => (Below.refl w.heap.size w).alloc (Nat.le_refl _) o
  have hr1' := heap_alloc_new w
  clear hN hfew hs hS hV hd HE hmt hnum hK
  go_enter Tryz.func87, Tryz.ntmps87
  go_upto_region 1 with fail
  generalize hW : World.alloc w _ = w1
  have hb1 : Below w.heap.size w w1 := by rw [← hW]; exact hb1' _
  have hr1 : w1.heap[w.heap.size]? = some (.cells V.toArray 90 (0, 0)) := by rw [← hW]; exact hr1' _
  clear hb1' hr1' hW
  have hs1 : w.heap.size < w1.heap.size := (Array.getElem?_eq_some_iff.1 hr1).1
  have HB1 := hide hb1
  have HN1 := hide hr1
  have HXX := hide (HX.out w1.drew hb1.drew)
  have hnr1 : NodeRow w1.drew (.pointer (some ⟨w.heap.size, 0, none⟩)) := nodeRow_of (w := w1.drew) hr1 HR.out.size
  have hlv1 : loadVal w1.drew (.pointer (some ⟨w.heap.size, 0, none⟩)) = .agg V.toArray := loadVal_row (w := w1.drew) hr1
  clear hb1 hr1
  have HAR := hide (fun (W : World) (hr : W.heap[w.heap.size]? = some (.cells V.toArray 90 (0, 0))) => show ArrRow W (.pointer (some ⟨w.heap.size, 7, none⟩)) from ⟨_, _, rfl, _, (HDG.out W hr).1, by rw [List.length_map]; exact (HDG.out W hr).2⟩)
  have HAV := hide (fun (W : World) (hr : W.heap[w.heap.size]? = some (.cells V.toArray 90 (0, 0))) => arrVal_row (HDG.out W hr).1 (by rw [List.length_map]; exact (HDG.out W hr).2))
  have HDE := hide (show ∃ re, decide (D = Ward.digN (n + 1) mt) = re from ⟨_, rfl⟩)
  have HEQ := hide (fun (hD : D.length = 32) (W : World) => eqArr D (Ward.digN (n + 1) mt) hD HML.out W)
  first | go_region_with (first
    | (go_at_call 86; go_must (refine HXX.out.mono ?_; rintro _ w2 ⟨rfl, hb2⟩; have hs2 := hb2.size; have HB2 := hide (HB1.out.drew.trans (hb2.mono (by simp; omega))); have HN2 := hide ((hb2.block w.heap.size (by simp; omega)).trans (show w1.drew.heap[w.heap.size]? = _ from HN1.out)); have hnr2 := nodeRow_of HN2.out HR.out.size; have hlv2 := loadVal_row HN2.out; have har2 := HAR.out w2 HN2.out; have hav2 := HAV.out w2 HN2.out; have HMX := hide (HMD.out w2 HB2.out); clear hb2))
    | (go_at_call 83; go_must (refine HMX.out.mono ?_; rintro _ w3 ⟨V', rfl, hn3, hb3⟩; have HM3 := hide hn3; have HB3 := hide (HB2.out.trans (hb3.mono (by simp at hs2; omega))); have HN3 := hide ((hb3.block w.heap.size (by simp at hs2; omega)).trans HN2.out); have har3 := HAR.out w3 HN3.out; have hav3 := HAV.out w3 HN3.out; have hfl3 := field_node HM3.out; obtain ⟨re, hre⟩ := HDE.out; have heq3 := fun W => HEQ.out (HDG.out w2 HN2.out).2 W; rw [hre] at heq3; have HRE := hide hre; clear hb3 hn3 hre))) | fail
  all_goals
    go_wp2_with fail
    go_ret
    refine ⟨?_, HB3.out⟩
    rw [HRE.out]
    first | rfl | simp
/-- the closure of DigestsHold -/
theorem digHold_any (n : Nat) (t : Ward.NT n) (V : List Value) (w : World) (S : Nat → Prop) (hS : ∀ g, S g → g < w.heap.size) (hN : NodeIs w S n t V) (hfew : Ward.Few n t) (hnum : Ward.NumsN n t) (hK : KT w) :
    Calls Tryz.prog 87 #[.agg V.toArray] w fun e w' => e = .returned (.bool (Ward.digHolds n t)) ∧ Below w.heap.size w w' := by
  cases n with
  | zero => exact nomatch t
  | succ n =>
    cases hs : Ward.shownN (n + 1) t
    · exact digHold_hidden (n + 1) t V w S hS hN hfew hs
    · exact digHold_shown n t V w S hS hN hfew (fun c hc => (hnum c hc).1) hK hs
end Go.Proofs.YtenaelkbgkpllaaGreatDoor
