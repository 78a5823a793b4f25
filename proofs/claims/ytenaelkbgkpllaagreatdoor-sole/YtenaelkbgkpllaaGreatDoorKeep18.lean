/- Part 18 of what the claims on Bound, Small, Right and Sole rest on. -/
import Derived.Test.YtenaelkbgkpllaaGreatDoorKeep14
import Derived.Test.YtenaelkbgkpllaaGreatDoorKeep16
/- The entries of the heap: how their methods are reached; how two compare. -/
namespace Go.Proofs.YtenaelkbgkpllaaGreatDoor
open Go.RowKit

theorem meth_parts {t : TypeId} {name : String} {f : FuncId} {b : Bool} (h : (Tryz.prog.info? t).bind (fun i => (i.methods.find? (·.name == name)).map fun m => (m.path.toList.isEmpty, m.func)) = some (true, some (f, b))) :
    ∃ i m, Tryz.prog.info? t = some i ∧ i.methods.find? (·.name == name) = some m ∧ m.path = #[] ∧ m.func = some (f, b) := by
  cases hi : Tryz.prog.info? t with
  | none => rw [hi] at h; cases h
  | some i =>
    rw [hi] at h
    simp only [Option.bind_some] at h
    cases hm : i.methods.find? (·.name == name) with
    | none => rw [hm] at h; cases h
    | some m =>
      rw [hm] at h
      simp only [Option.map_some, Option.some.injEq, Prod.mk.injEq] at h
      refine ⟨i, m, rfl, hm, ?_, h.2⟩
      have h1 := h.1
      cases hp : m.path with
      | mk l => rw [hp] at h1; cases l with | nil => rfl | cons _ _ => cases h1
theorem m_value {name : String} {f : FuncId} (hm : (Tryz.prog.info? 163).bind (fun i => (i.methods.find? (·.name == name)).map fun m => (m.path.toList.isEmpty, m.func)) = some (true, some (f, false))) (h : Nat) (v : Value) (w : World) (hc : w.cell? ⟨h, 0, none⟩ = some v) :
    (method 376 163 (.pointer (some ⟨h, 0, none⟩)) name).run Tryz.prog w = .ok (f, v) w := by
  obtain ⟨i, m, hi, hf, hp, hfn⟩ := meth_parts hm
  have a1 := Tryz.isAgg168
  have u1 := Tryz.underlying163
  rw [show (376 : Nat) = 375 + 1 from rfl]
  unfold method
  have e1 : (follow [] 163 (Place.val (Value.pointer (some ⟨h, 0, none⟩)))).run Tryz.prog w = .ok (163, Place.val (Value.pointer (some ⟨h, 0, none⟩))) w := rfl
  have e2 : ∀ nm : String, (receiverAt 163 (Place.val (Value.pointer (some ⟨h, 0, none⟩))) false (some nm)).run Tryz.prog w = .ok v w := by
    intro nm
    have e3 : Builtin.ssaWrapNilChk_ #[163] 163 #[Value.pointer (some ⟨h, 0, none⟩), strVal "", strVal nm] = pure (Value.pointer (some ⟨h, 0, none⟩)) := rfl
    unfold receiverAt
    simp only [Sem.run_bind, run_underlying u1 w, Result.andThen_ok, Place.get]
    go_simp
  simp only [typeInfo, Sem.run_bind]
  go_simp
theorem m_len (h : Nat) (v : Value) (w : World) (hc : w.cell? ⟨h, 0, none⟩ = some v) : (method 376 163 (.pointer (some ⟨h, 0, none⟩)) "Len").run Tryz.prog w = .ok (114, v) w := m_value (by kernel_rfl) h v w hc
theorem m_less (h : Nat) (v : Value) (w : World) (hc : w.cell? ⟨h, 0, none⟩ = some v) : (method 376 163 (.pointer (some ⟨h, 0, none⟩)) "Less").run Tryz.prog w = .ok (212, v) w := m_value (by kernel_rfl) h v w hc
theorem m_swap (h : Nat) (v : Value) (w : World) (hc : w.cell? ⟨h, 0, none⟩ = some v) : (method 376 163 (.pointer (some ⟨h, 0, none⟩)) "Swap").run Tryz.prog w = .ok (215, v) w := m_value (by kernel_rfl) h v w hc
theorem m_push (h : Nat) (w : World) : (method 376 163 (.pointer (some ⟨h, 0, none⟩)) "Push").run Tryz.prog w = .ok (214, .pointer (some ⟨h, 0, none⟩)) w := by kernel_rfl
theorem m_pop (h : Nat) (w : World) : (method 376 163 (.pointer (some ⟨h, 0, none⟩)) "Pop").run Tryz.prog w = .ok (213, .pointer (some ⟨h, 0, none⟩)) w := by kernel_rfl
/-- an entry: how far, a node's place or none, a point -/
structure En where
  d : Int
  nd : Option Addr
  p : Ward.Pt
instance : Inhabited En := ⟨⟨0, none, ⟨0, 0, 0⟩⟩⟩
/-- its cells -/
def E5 (e : En) : List Value := [I e.d, .pointer e.nd, I e.p.id, I e.p.x, I e.p.y]
abbrev Ev (e : En) : Value := .agg #[I e.d, .pointer e.nd, I e.p.id, I e.p.x, I e.p.y]
/-- which of two comes first -/
def enLt (a b : En) : Prop := a.d < b.d ∨ (a.d = b.d ∧ a.p.id < b.p.id)
instance (a b : En) : Decidable (enLt a b) := by unfold enLt; infer_instance
theorem enWeak : Heap.Weak enLt := ⟨fun a b h => by unfold enLt at *; omega, fun a b c h1 h2 => by unfold enLt at *; omega⟩
theorem enIrr (a : En) : ¬ enLt a a := by unfold enLt; omega
def orTwo (a b : Int) : Int := if a ≠ 0 then a else b
set_option maxHeartbeats 400000 in
theorem orTwo_any (g : Nat) (a b : Int) (w : World) (h0 : w.cell? ⟨g, 0, none⟩ = some (I a)) (h1 : w.cell? ⟨g, 1, none⟩ = some (I b)) :
    Calls Tryz.prog 66 #[.slice (some ⟨g, 0, none⟩) 2 2] w fun e w' => e = .returned (I (orTwo a b)) ∧ w' = w := by
  go_enter Tryz.func66, Tryz.ntmps66
  go_wp2
  go_loopw [8] (fun v wq => wq = w ∧ ∃ i : Nat, v = I i ∧ i ≤ 2 ∧ (1 ≤ i → a = 0) ∧ (2 ≤ i → b = 0)) (fun v _ => 2 - (intOf v).toNat)
  case atStart => exact ⟨rfl, 0, rfl, by omega, by omega, by omega⟩
  case round =>
    obtain ⟨rfl, i, rfl, hi, ha, hb⟩ := hrel
    match i, hi, ha, hb with
    | 0, _, _, _ =>
      by_cases ha : a = 0
      · subst ha
        go_wp2
        go_roundw
        case rel => exact ⟨trivial, 1, by go_num, by omega, by simp, by omega⟩
        case measure => simp [intOf]
      · go_wp2
        go_ret
        exact ⟨by simp [orTwo, ha], rfl⟩
    | 1, _, ha, _ =>
      have ha := ha (by omega)
      by_cases hb : b = 0
      · subst hb
        go_wp2
        go_roundw
        case rel => exact ⟨trivial, 2, by go_num, by omega, by simp [ha], by simp⟩
        case measure => simp [intOf]
      · go_wp2
        go_ret
        exact ⟨by simp [orTwo, ha], rfl⟩
    | 2, _, ha, hb =>
      have ha := ha (by omega)
      have hb := hb (by omega)
      go_wp2
      go_ret
      exact ⟨by simp [orTwo, ha, hb], rfl⟩
set_option maxHeartbeats 400000 in
theorem isNaN64_any (n : Int) (w : World) :
    Calls Tryz.prog 218 #[I n] w fun e w' => e = .returned (.bool false) ∧ w' = w := by
  go_enter Tryz.func218, Tryz.ntmps218
  go_wp2
  go_ret
  exact ⟨rfl, rfl⟩
set_option maxHeartbeats 400000 in
theorem cmp64_any (a b : Int) (w : World) :
    Calls Tryz.prog 217 #[I a, I b] w fun e w' => e = .returned (I (cmpI a b)) ∧ w' = w := by
  rcases Int.lt_trichotomy a b with h | h | h
  · have e : cmpI a b = -1 := by simp [cmpI, h]
    rw [e]
    go_enter Tryz.func217, Tryz.ntmps217
    go_wp2_with (go_at_call 218; refine (isNaN64_any _ _).mono ?_; rintro _ _ ⟨rfl, rfl⟩)
    go_ret
    exact ⟨rfl, rfl⟩
  · have e : cmpI a b = 0 := by subst h; simp [cmpI]
    rw [e]
    subst h
    go_enter Tryz.func217, Tryz.ntmps217
    go_wp2_with (go_at_call 218; refine (isNaN64_any _ _).mono ?_; rintro _ _ ⟨rfl, rfl⟩)
    go_ret
    exact ⟨rfl, rfl⟩
  · have e : cmpI a b = 1 := by simp [cmpI, h, show ¬ a < b by omega]
    have h' : ¬ a < b := by omega
    rw [e]
    go_enter Tryz.func217, Tryz.ntmps217
    go_wp2_with (go_at_call 218; refine (isNaN64_any _ _).mono ?_; rintro _ _ ⟨rfl, rfl⟩)
    go_ret
    exact ⟨rfl, rfl⟩
/-- what compare says of two entries -/
def cmpE (a b : En) : Int := orTwo (cmpI a.d b.d) (cmpI a.p.id b.p.id)
theorem cmpE_lt (a b : En) : cmpE a b < 0 ↔ enLt a b := by
  unfold cmpE orTwo cmpI enLt
  (repeat' split) <;> omega
/-- the cells of two entries that compare reads -/
def TwoE (g k : Nat) (a b : En) (W : World) : Prop := (W.cell? ⟨g, 0, none⟩ = some (I a.d) ∧ W.cell? ⟨g, 2, none⟩ = some (I a.p.id)) ∧ W.cell? ⟨k, 0, none⟩ = some (I b.d) ∧ W.cell? ⟨k, 2, none⟩ = some (I b.p.id)
theorem TwoE.below {g k B : Nat} {a b : En} {W W' : World} (h : TwoE g k a b W) (hb : Below B W W') (hg : g < B) (hk : k < B) : TwoE g k a b W' :=
  ⟨⟨(hb.cell (p := ⟨g, 0, none⟩) hg).trans h.1.1, (hb.cell (p := ⟨g, 2, none⟩) hg).trans h.1.2⟩, (hb.cell (p := ⟨k, 0, none⟩) hk).trans h.2.1, (hb.cell (p := ⟨k, 2, none⟩) hk).trans h.2.2⟩
theorem rowE2 {w : World} {g t : Nat} {a b : Value} (h : w.heap[g]? = some (.cells #[a, b] t (0, 0))) : w.cell? ⟨g, 0, none⟩ = some a ∧ w.cell? ⟨g, 1, none⟩ = some b := by
  refine ⟨?_, ?_⟩ <;> rw [cell_of_row _ _ _ _ _ _ h] <;> rfl
set_option maxRecDepth 100000 in
set_option maxHeartbeats 2000000 in
theorem compareE_any (a b : En) (w : World) :
    Calls Tryz.prog 216 #[Ev a, Ev b] w fun e w' => e = .returned (I (cmpE a b)) ∧ Below w.heap.size w w' := by
  obtain ⟨ad, an, ⟨ai, ax, ay⟩⟩ := a
  obtain ⟨bd, bn, ⟨bi, bx, bY⟩⟩ := b
  have HE := hide (show cmpE ⟨ad, an, ⟨ai, ax, ay⟩⟩ ⟨bd, bn, ⟨bi, bx, bY⟩⟩ = orTwo (cmpI ad bd) (cmpI ai bi) from rfl)
  go_enter Tryz.func216, Tryz.ntmps216
  go_wp2_with fail
  have hz1 := heap_alloc2_old w
  have hz2 := heap_alloc2_new w
  have hbb := fun o o' => ((Below.refl w.heap.size w).alloc (Nat.le_refl _) o).alloc (by simp) o'
  generalize hW : World.alloc _ _ = w0
  have r1 : w0.heap[w.heap.size]? = some (.cells #[I ad, .pointer an, I ai, I ax, I ay] 166 (0, 0)) := by rw [← hW]; exact hz1 _ _
  have r2 : w0.heap[w.heap.size + 1]? = some (.cells #[I bd, .pointer bn, I bi, I bx, I bY] 166 (0, 0)) := by rw [← hW]; exact hz2 _ _
  have hb0 : Below w.heap.size w w0 := by rw [← hW]; exact hbb _ _
  have hz0 : w0.heap.size = w.heap.size + 2 := by rw [← hW]; simp
  clear hz1 hz2 hbb hW
  have hS : TwoE w.heap.size (w.heap.size + 1) ⟨ad, an, ⟨ai, ax, ay⟩⟩ ⟨bd, bn, ⟨bi, bx, bY⟩⟩ w0 := by
    refine ⟨⟨?_, ?_⟩, ?_, ?_⟩
    · rw [cell_of_row _ _ _ _ _ _ r1]; rfl
    · rw [cell_of_row _ _ _ _ _ _ r1]; rfl
    · rw [cell_of_row _ _ _ _ _ _ r2]; rfl
    · rw [cell_of_row _ _ _ _ _ _ r2]; rfl
  have HZ := hide hz0
  have HB := hide hb0
  have HN := hide (show ∀ o, ((w0.alloc o).drew).heap[w0.heap.size]? = some o from fun o => heap_alloc_new w0 o)
  clear r1 r2 hz0 hb0
  go_region_held3 (fun W => (W.cell? ⟨w.heap.size, 0, none⟩ = some (I ad) ∧ W.cell? ⟨w.heap.size, 2, none⟩ = some (I ai)) ∧ W.cell? ⟨w.heap.size + 1, 0, none⟩ = some (I bd) ∧ W.cell? ⟨w.heap.size + 1, 2, none⟩ = some (I bi)) (first | assumption | exact hS | exact TwoE.below hS (((Below.refl _ _).alloc (Nat.le_refl _) _).drew) (by have := HZ.out; omega) (by have := HZ.out; omega)) ((first | (go_at_call 67; refine (cmpInt_any _ _ _).mono ?_; rintro _ _ ⟨rfl, rfl⟩) | (go_at_call 217; refine (cmp64_any _ _ _).mono ?_; rintro _ _ ⟨rfl, rfl⟩) | (go_at_call 66; refine (orTwo_any _ (cmpI ad bd) (cmpI ai bi) _ (rowE2 (HN.out _)).1 (rowE2 (HN.out _)).2).mono ?_; rintro _ _ ⟨rfl, rfl⟩)))
  go_wp2
  go_ret
  exact ⟨by rw [HE.out]; rfl, (HB.out.alloc (by have := HZ.out; omega) _).drew⟩
end Go.Proofs.YtenaelkbgkpllaaGreatDoor
/- The entries of the heap in a row of their own. -/
namespace Go.Proofs.YtenaelkbgkpllaaGreatDoor
open Go.RowKit

/-- entries in a row of their own -/
def OwnE (w : World) (B : Nat) (v : Value) (l : List En) : Prop := w.ownsRow B 166 5 v l.length (l.flatMap E5)
theorem E5_len (l : List En) : (l.flatMap E5).length = l.length * 5 := by
  induction l with
  | nil => rfl
  | cons e l ih => rw [List.flatMap_cons, List.length_append, ih, List.length_cons]; show 5 + _ = _; omega
theorem E5_one {l : List En} : ∀ v ∈ l.flatMap E5, v.oneCell' = true := fun v hv => by
  obtain ⟨e, _, hv⟩ := List.mem_flatMap.1 hv
  simp only [E5, List.mem_cons, List.not_mem_nil, or_false] at hv
  rcases hv with rfl | rfl | rfl | rfl | rfl <;> rfl
theorem OwnE.below {w w' : World} {B : Nat} {v : Value} {l : List En} (h : OwnE w B v l) (hb : Below w.heap.size w w') : OwnE w' B v l := by
  refine ⟨h.1, ?_⟩
  rcases h.2 with h0 | ⟨g, cap, cur, rfl, hB, hg, r⟩
  · exact .inl h0
  · exact .inr ⟨g, cap, cur, rfl, hB, (hb.block g (Array.getElem?_eq_some_iff.1 hg).1).trans hg, r⟩
theorem OwnE.keeps {S : Nat → Prop} {w w' : World} {B : Nat} {v : Value} {l : List En} (h : OwnE w B v l) (hk : Keeps S w w') (hn : ∀ g, v.ownBlock = some g → ¬ S g) : OwnE w' B v l := by
  refine ⟨h.1, ?_⟩
  rcases h.2 with h0 | ⟨g, cap, cur, rfl, hB, hg, r⟩
  · exact .inl h0
  · exact .inr ⟨g, cap, cur, rfl, hB, (hk.block g (Array.getElem?_eq_some_iff.1 hg).1 (hn g rfl)).trans hg, r⟩
theorem OwnE.slice {w : World} {B : Nat} {v : Value} {l : List En} (h : OwnE w B v l) : ∃ a c, v = .slice a l.length c := by
  rcases h.2 with ⟨rfl, h0⟩ | ⟨g, cap, cur, rfl, _⟩
  · exact ⟨none, 0, by rw [h0]⟩
  · exact ⟨_, cap, rfl⟩
theorem OwnE.lt {w : World} {B g : Nat} {v : Value} {l : List En} (h : OwnE w B v l) (hg : v.ownBlock = some g) : B ≤ g ∧ g < w.heap.size := World.ownsRow.lt h g hg
/-- an entry as it lies -/
def EnAt (w : World) (g o : Nat) (e : En) : Prop := w.cell? ⟨g, o, none⟩ = some (I e.d) ∧ w.cell? ⟨g, o + 1, none⟩ = some (.pointer e.nd) ∧ w.cell? ⟨g, o + 2, none⟩ = some (I e.p.id) ∧ w.cell? ⟨g, o + 3, none⟩ = some (I e.p.x) ∧ w.cell? ⟨g, o + 4, none⟩ = some (I e.p.y)
theorem E5_at (l : List En) (i : Nat) (h : i < l.length) : (l.flatMap E5)[i * 5]? = some (I l[i].d) ∧ (l.flatMap E5)[i * 5 + 1]? = some (.pointer l[i].nd) ∧ (l.flatMap E5)[i * 5 + 2]? = some (I l[i].p.id) ∧ (l.flatMap E5)[i * 5 + 3]? = some (I l[i].p.x) ∧ (l.flatMap E5)[i * 5 + 4]? = some (I l[i].p.y) := by
  have key : ∀ j, j < 5 → (l.flatMap E5)[i * 5 + j]? = (E5 l[i])[j]? := fun j hj => by
    rw [List.flatMap_def, flat_get (c := 5) _ i j (fun U hU => by
      obtain ⟨e, _, rfl⟩ := List.mem_map.1 hU
      rfl) hj, List.getElem?_map, List.getElem?_eq_getElem h]
    rfl
  exact ⟨key 0 (by decide), key 1 (by decide), key 2 (by decide), key 3 (by decide), key 4 (by decide)⟩
theorem OwnE.at {w : World} {B g c : Nat} {l : List En} (h : OwnE w B (.slice (some ⟨g, 0, none⟩) l.length c) l) (i : Nat) (hi : i < l.length) : EnAt w g (i * 5) l[i] := by
  obtain ⟨h0, h1, h2, h3, h4⟩ := E5_at l i hi
  have hc := fun j u hj => World.ownsRow.cells h (g := g) rfl j u hj
  have hc' : ∀ j u, (l.flatMap E5)[j]? = some u → w.cell? ⟨g, j, none⟩ = some u := fun j u hj => by
    have := hc j u hj
    rw [Addr.add_lit, Nat.zero_add] at this
    exact this
  exact ⟨hc' _ _ h0, hc' _ _ h1, hc' _ _ h2, hc' _ _ h3, hc' _ _ h4⟩
theorem EnAt.below {w w' : World} {g o B : Nat} {e : En} (h : EnAt w g o e) (hb : Below B w w') (hg : g < B) : EnAt w' g o e :=
  ⟨(hb.cell (p := ⟨g, o, none⟩) hg).trans h.1, (hb.cell (p := ⟨g, o + 1, none⟩) hg).trans h.2.1, (hb.cell (p := ⟨g, o + 2, none⟩) hg).trans h.2.2.1, (hb.cell (p := ⟨g, o + 3, none⟩) hg).trans h.2.2.2.1, (hb.cell (p := ⟨g, o + 4, none⟩) hg).trans h.2.2.2.2⟩
theorem OwnE.some {w : World} {B : Nat} {v : Value} {l : List En} (h : OwnE w B v l) (hl : 0 < l.length) : ∃ g c, v = .slice (some ⟨g, 0, none⟩) l.length c := by
  rcases h.2 with ⟨rfl, h0⟩ | ⟨g, cap, cur, rfl, _⟩
  · omega
  · exact ⟨g, cap, rfl⟩
set_option maxRecDepth 100000 in
set_option maxHeartbeats 2000000 in
theorem less_any (v : Value) (l : List En) (i j : Nat) (w : World) (B : Nat) (ho : OwnE w B v l) (hi : i < l.length) (hj : j < l.length) (hl : l.length ≤ 100000) :
    Calls Tryz.prog 212 #[v, I i, I j] w fun e w' => e = .returned (.bool (decide (enLt l[i] l[j]))) ∧ Below w.heap.size w w' := by
  obtain ⟨g, c, rfl⟩ := ho.some (by omega)
  have hgl := (ho.lt rfl).2
  have HI := hide (ho.at i hi)
  have HJ := hide (ho.at j hj)
  have HD := hide (show decide (enLt l[i] l[j]) = decide (cmpE l[i] l[j] < 0) by rw [decide_eq_decide]; exact (cmpE_lt _ _).symm)
  have HC := hide (fun W => compareE_any l[i] l[j] W)
  generalize l[i] = a at *
  generalize l[j] = b at *
  clear ho
  rw [HD.out]
  generalize cmpE a b = r at *
  obtain ⟨ad, an, ⟨ai, ax, ay⟩⟩ := a
  obtain ⟨bd, bn, ⟨bi, bx, bY⟩⟩ := b
  obtain ⟨a0, a1, a2, a3, a4⟩ := HI.out
  obtain ⟨b0, b1, b2, b3, b4⟩ := HJ.out
  simp only at a0 a1 a2 a3 a4 b0 b1 b2 b3 b4
  go_enter Tryz.func212, Tryz.ntmps212
  go_wp2_with fail
  go_region_with (first | (go_at_call 216; go_must (refine (HC.out w.drew).mono ?_; rintro _ w6 ⟨rfl, hb6⟩; have HB6 := hide hb6; clear hb6)))
  all_goals
    go_wp2
    go_ret
    exact ⟨rfl, (Below.refl w.heap.size w).drew.trans HB6.out⟩
end Go.Proofs.YtenaelkbgkpllaaGreatDoor
/- Two entries exchanged. -/
namespace Go.Proofs.YtenaelkbgkpllaaGreatDoor
open Go.RowKit

theorem over_takeM {R cs : List Value} {o m : Nat} (h : o + cs.length ≤ m) (hm : m ≤ R.length) : (over R o cs).take m = over (R.take m) o cs := by
  apply List.ext_getElem?
  intro k
  unfold over
  rw [List.getElem?_take]
  by_cases hk : k < m
  · rw [if_pos hk]
    by_cases h1 : k < o
    · rw [List.getElem?_append_left (by simp; omega), List.getElem?_append_left (by simp; omega), List.getElem?_append_left (by simp; omega), List.getElem?_append_left (by simp; omega), List.getElem?_take, if_pos h1, List.getElem?_take, if_pos h1, List.getElem?_take, if_pos hk]
    · by_cases h2 : k < o + cs.length
      · rw [List.getElem?_append_left (by simp; omega), List.getElem?_append_right (by simp; omega), List.getElem?_append_left (by simp; omega), List.getElem?_append_right (by simp; omega)]
        congr 1
        simp
        omega
      · rw [List.getElem?_append_right (by simp; omega), List.getElem?_append_right (by simp; omega), List.getElem?_drop, List.getElem?_drop, List.getElem?_take]
        simp only [List.length_append, List.length_take]
        rw [if_pos (by omega)]
        congr 1
        omega
  · rw [if_neg hk, List.getElem?_eq_none (by simp; omega)]
theorem set_cells (l : List En) (i : Nat) (e : En) (h : i < l.length) : (l.set i e).flatMap E5 = over (l.flatMap E5) (i * 5) (E5 e) := by
  have hl : l = l.take i ++ l[i] :: l.drop (i + 1) := by rw [← List.drop_eq_getElem_cons h, List.take_append_drop]
  have h1 : l.set i e = l.take i ++ e :: l.drop (i + 1) := List.set_eq_take_append_cons_drop ▸ by rw [if_pos h]
  have ht : ((l.take i).flatMap E5).length = i * 5 := by rw [E5_len, List.length_take]; congr 1; omega
  have hf : l.flatMap E5 = (l.take i).flatMap E5 ++ (E5 l[i] ++ (l.drop (i + 1)).flatMap E5) := by
    have := congrArg (List.flatMap E5) hl
    rw [List.flatMap_append, List.flatMap_cons] at this
    exact this
  rw [h1, List.flatMap_append, List.flatMap_cons, hf, ← ht]
  generalize (l.drop (i + 1)).flatMap E5 = R
  generalize (l.take i).flatMap E5 = Q
  generalize hE : E5 l[i] = X
  have hX : (E5 e).length = X.length := by rw [← hE]; rfl
  unfold over
  rw [List.take_left, List.append_assoc, hX, ← List.drop_drop, List.drop_left, List.drop_left]
theorem ownE_set {w : World} {B g c : Nat} {l : List En} (h : OwnE w B (.slice (some ⟨g, 0, none⟩) l.length c) l) (i : Nat) (hi : i < l.length) (e : En) :
    OwnE (w.setCells g (i * 5) (E5 e)) B (.slice (some ⟨g, 0, none⟩) l.length c) (l.set i e) ∧ w.grownBy (w.setCells g (i * 5) (E5 e)) (some g) := by
  rcases h.2 with ⟨e', _⟩ | ⟨g', cap, cur, e', hB, hg, hcap, hmax, hcs, htake⟩
  · cases e'
  · injection e' with e1 e2 e3
    injection e1 with e1
    injection e1 with e1
    subst e1 e3
    have hlen : (l.set i e).length = l.length := List.length_set
    have hcl : cur.toList.length = c * 5 := by
      have h1 : cur.toList.length = cur.size := Array.length_toList
      omega
    have hle : l.length * 5 ≤ cur.toList.length := by
      rw [hcl]; exact Nat.mul_le_mul_right _ hcap
    have hb := below_setCellsN (B := 0) (a := w) (Nat.zero_le g) (E5 e) (i * 5) w (Below.refl 0 w)
    have hi5 : i * 5 + (E5 e).length ≤ l.length * 5 := by
      show i * 5 + 5 ≤ _
      omega
    have hr := setCells_row (g := g) (ty := 166) (E5 e) (i * 5) cur.toList w (by rw [Array.toArray_toList]; exact hg) (by omega)
    refine ⟨⟨by rw [E5_len], .inr ⟨g, c, _, by rw [hlen], hB, hr, by rw [hlen]; exact hcap, hmax, ?_, ?_⟩⟩, ⟨hb.os, hb.tape, hb.output, hb.size, fun k hk hne => setCells_other (fun e => hne (by rw [e])) _ _ _⟩⟩
    · rw [List.size_toArray, over_len (by omega), hcl]
    · rw [List.toList_toArray, hlen, over_takeM hi5 hle, htake, set_cells l i e hi]
theorem OwnE.drew {w : World} {B : Nat} {v : Value} {l : List En} (h : OwnE w B v l) : OwnE w.drew B v l := h
theorem grown_drew {w w' : World} {r : Option Nat} (h : w.grownBy w' r) : w.grownBy w'.drew r := ⟨h.os, h.tape, h.output, h.size, h.block⟩
theorem grown_grown {a b c : World} {r : Option Nat} (h : a.grownBy b r) (k : b.grownBy c r) : a.grownBy c r := ⟨k.os.trans h.os, k.tape.trans h.tape, k.output.trans h.output, Nat.le_trans h.size k.size, fun j hj hne => (k.block j (Nat.lt_of_lt_of_le hj h.size) hne).trans (h.block j hj hne)⟩
theorem setCells5 (w : World) (g o : Nat) (a b c d e : Value) : w.setCells g o [a, b, c, d, e] = ((((w.setCell ⟨g, o, none⟩ a).setCell ⟨g, o + 1, none⟩ b).setCell ⟨g, o + 2, none⟩ c).setCell ⟨g, o + 3, none⟩ d).setCell ⟨g, o + 4, none⟩ e := rfl
set_option maxRecDepth 100000 in
set_option maxHeartbeats 4000000 in
theorem swap_any (v : Value) (l : List En) (i j : Nat) (w : World) (B : Nat) (ho : OwnE w B v l) (hi : i < l.length) (hj : j < l.length) (hl : l.length ≤ 100000) :
    Calls Tryz.prog 215 #[v, I i, I j] w fun e w' => e = .returned (.tuple #[]) ∧ OwnE w' B v (Heap.swp l i j) ∧ w.grownBy w' v.ownBlock := by
  obtain ⟨g, c, rfl⟩ := ho.some (by omega)
  have HO := hide ho
  have HI := hide (ho.at i hi)
  have HJ := hide (ho.at j hj)
  have HS := hide (show Heap.swp l i j = (l.set i l[j]).set j l[i] by unfold Heap.swp; rw [Heap.at_get hi, Heap.at_get hj])
  have HFZ := hide (show ∀ k, w.frozen? ⟨g, k, none⟩ = false from fun k => by
    rcases ho.2 with ⟨e', _⟩ | ⟨g', cap, cur, e', hB, hg, _⟩
    · cases e'
    · injection e' with e1
      injection e1 with e1
      injection e1 with e1
      subst e1
      exact frozen_of_row _ _ _ _ _ hg)
  have HR := hide (show OwnE (((w.setCells g (i * 5) (E5 l[j])).setCells g (j * 5) (E5 l[i])).drew) B (.slice (some ⟨g, 0, none⟩) l.length c) (Heap.swp l i j) ∧ w.grownBy (((w.setCells g (i * 5) (E5 l[j])).setCells g (j * 5) (E5 l[i])).drew) (some g) by
    have h1 := ownE_set (w := w) (e := l[j]) ho i hi
    have h2 := ownE_set (w := w.setCells g (i * 5) (E5 l[j])) (l := l.set i l[j]) (e := l[i]) (by rw [List.length_set]; exact h1.1) j (by rw [List.length_set]; exact hj)
    rw [List.length_set] at h2
    rw [HS.out]
    exact ⟨h2.1.drew, grown_drew (grown_grown h1.2 h2.2)⟩)
  clear ho
  generalize l[i] = a at *
  generalize l[j] = b at *
  obtain ⟨ad, an, ⟨ai, ax, ay⟩⟩ := a
  obtain ⟨bd, bn, ⟨bi, bx, bY⟩⟩ := b
  have hr2 := HR.out
  simp only [E5, setCells5] at hr2
  have HR2 := hide hr2
  clear hr2 HR
  obtain ⟨a0, a1, a2, a3, a4⟩ := HI.out
  obtain ⟨b0, b1, b2, b3, b4⟩ := HJ.out
  simp only at a0 a1 a2 a3 a4 b0 b1 b2 b3 b4
  have f0 := HFZ.out (i * 5)
  have f1 := HFZ.out (i * 5 + 1)
  have f2 := HFZ.out (i * 5 + 2)
  have f3 := HFZ.out (i * 5 + 3)
  have f4 := HFZ.out (i * 5 + 4)
  have g0 := HFZ.out (j * 5)
  have g1 := HFZ.out (j * 5 + 1)
  have g2 := HFZ.out (j * 5 + 2)
  have g3 := HFZ.out (j * 5 + 3)
  have g4 := HFZ.out (j * 5 + 4)
  obtain ⟨u00, h00⟩ := cell?_setCell_some (w := w) (p := ⟨g, i * 5, none⟩) (x := I bd) (q := ⟨g, j * 5, none⟩) b0
  obtain ⟨u10, h10⟩ := cell?_setCell_some (w := w) (p := ⟨g, i * 5, none⟩) (x := I bd) (q := ⟨g, j * 5 + 1, none⟩) b1
  obtain ⟨u11, h11⟩ := cell?_setCell_some (w := (w.setCell ⟨g, i * 5, none⟩ (I bd))) (p := ⟨g, i * 5 + 1, none⟩) (x := .pointer bn) (q := ⟨g, j * 5 + 1, none⟩) h10
  obtain ⟨u20, h20⟩ := cell?_setCell_some (w := w) (p := ⟨g, i * 5, none⟩) (x := I bd) (q := ⟨g, j * 5 + 2, none⟩) b2
  obtain ⟨u21, h21⟩ := cell?_setCell_some (w := (w.setCell ⟨g, i * 5, none⟩ (I bd))) (p := ⟨g, i * 5 + 1, none⟩) (x := .pointer bn) (q := ⟨g, j * 5 + 2, none⟩) h20
  obtain ⟨u22, h22⟩ := cell?_setCell_some (w := ((w.setCell ⟨g, i * 5, none⟩ (I bd)).setCell ⟨g, i * 5 + 1, none⟩ (.pointer bn))) (p := ⟨g, i * 5 + 2, none⟩) (x := I bi) (q := ⟨g, j * 5 + 2, none⟩) h21
  obtain ⟨u30, h30⟩ := cell?_setCell_some (w := w) (p := ⟨g, i * 5, none⟩) (x := I bd) (q := ⟨g, j * 5 + 3, none⟩) b3
  obtain ⟨u31, h31⟩ := cell?_setCell_some (w := (w.setCell ⟨g, i * 5, none⟩ (I bd))) (p := ⟨g, i * 5 + 1, none⟩) (x := .pointer bn) (q := ⟨g, j * 5 + 3, none⟩) h30
  obtain ⟨u32, h32⟩ := cell?_setCell_some (w := ((w.setCell ⟨g, i * 5, none⟩ (I bd)).setCell ⟨g, i * 5 + 1, none⟩ (.pointer bn))) (p := ⟨g, i * 5 + 2, none⟩) (x := I bi) (q := ⟨g, j * 5 + 3, none⟩) h31
  obtain ⟨u33, h33⟩ := cell?_setCell_some (w := (((w.setCell ⟨g, i * 5, none⟩ (I bd)).setCell ⟨g, i * 5 + 1, none⟩ (.pointer bn)).setCell ⟨g, i * 5 + 2, none⟩ (I bi))) (p := ⟨g, i * 5 + 3, none⟩) (x := I bx) (q := ⟨g, j * 5 + 3, none⟩) h32
  obtain ⟨u40, h40⟩ := cell?_setCell_some (w := w) (p := ⟨g, i * 5, none⟩) (x := I bd) (q := ⟨g, j * 5 + 4, none⟩) b4
  obtain ⟨u41, h41⟩ := cell?_setCell_some (w := (w.setCell ⟨g, i * 5, none⟩ (I bd))) (p := ⟨g, i * 5 + 1, none⟩) (x := .pointer bn) (q := ⟨g, j * 5 + 4, none⟩) h40
  obtain ⟨u42, h42⟩ := cell?_setCell_some (w := ((w.setCell ⟨g, i * 5, none⟩ (I bd)).setCell ⟨g, i * 5 + 1, none⟩ (.pointer bn))) (p := ⟨g, i * 5 + 2, none⟩) (x := I bi) (q := ⟨g, j * 5 + 4, none⟩) h41
  obtain ⟨u43, h43⟩ := cell?_setCell_some (w := (((w.setCell ⟨g, i * 5, none⟩ (I bd)).setCell ⟨g, i * 5 + 1, none⟩ (.pointer bn)).setCell ⟨g, i * 5 + 2, none⟩ (I bi))) (p := ⟨g, i * 5 + 3, none⟩) (x := I bx) (q := ⟨g, j * 5 + 4, none⟩) h42
  obtain ⟨u44, h44⟩ := cell?_setCell_some (w := ((((w.setCell ⟨g, i * 5, none⟩ (I bd)).setCell ⟨g, i * 5 + 1, none⟩ (.pointer bn)).setCell ⟨g, i * 5 + 2, none⟩ (I bi)).setCell ⟨g, i * 5 + 3, none⟩ (I bx))) (p := ⟨g, i * 5 + 4, none⟩) (x := I bY) (q := ⟨g, j * 5 + 4, none⟩) h43
  go_enter Tryz.func215, Tryz.ntmps215
  go_wp2_with fail
  go_region
  have hx := HR2.out
  clear HR2
  revert hx
  generalize World.drew _ = w9
  intro hx
  have HX := hide hx
  clear hx
  go_end0
  exact ⟨rfl, HX.out⟩
end Go.Proofs.YtenaelkbgkpllaaGreatDoor
/- An entry put in, one taken out: the methods. -/
namespace Go.Proofs.YtenaelkbgkpllaaGreatDoor
open Go.RowKit

theorem Tryz.infoEn : (Tryz.prog.info? 166).map (fun i => (i.zero, i.size, i.bytes)) = some (some (.agg #[I 0, .pointer none, I 0, I 0, I 0]), 5, 40) := by kernel_rfl
/-- an entry put behind others -/
theorem append_en {w : World} {B : Nat} {v : Value} {l : List En} (e : En) (hown : OwnE w B v l) (hB : B ≤ w.heap.size) (hn : l.length ≤ 100000) :
    ∃ v' w', (Builtin.append_ #[168, 168] 168 #[v, .slice (some ⟨w.heap.size, 0, none⟩) 1 1]).run Tryz.prog (w.alloc (.cells #[I e.d, .pointer e.nd, I e.p.id, I e.p.x, I e.p.y] 166)) = .ok v' w' ∧ OwnE w' B v' (l ++ [e]) ∧ w.grownBy w' v.ownBlock ∧ Fresh w v v' := by
  obtain ⟨i0, hi0, hz0, hz1, hz2⟩ := info_parts Tryz.infoEn
  have hown' : (w.alloc (.cells #[I e.d, .pointer e.nd, I e.p.id, I e.p.x, I e.p.y] 166)).ownsRow B 166 5 v l.length (l.flatMap E5) := World.ownsRow.alloc hown _
  obtain ⟨v', w', hr, ho, hg, hf⟩ := run_append_own2 (P := Tryz.prog) (w.alloc (.cells #[I e.d, .pointer e.nd, I e.p.id, I e.p.x, I e.p.y] 166)) B 168 168 166 i0 (.agg #[I 0, .pointer none, I 0, I 0, I 0]) 5 40 Tryz.underlying168 hi0 hz0 hz1 hz2 rfl (by decide) v l.length (l.flatMap E5) hown' ⟨w.heap.size, 0, none⟩ 1 1 (E5 e) rfl
    (fun j u hj => by
      rw [Addr.add_lit, Nat.zero_add, cell_of_row _ _ _ _ _ _ (heap_alloc_new w _)]
      rw [List.getElem?_toArray]
      exact hj)
    (fun u hu => E5_one (l := [e]) u (by simpa using hu)) (by unfold maxLen; omega) (by omega) (by simp; omega)
  refine ⟨v', w', hr, ?_, grown_lift ((Below.refl w.heap.size w).alloc (Nat.le_refl _) _) hg, fresh_lift (by simp) hf⟩
  unfold OwnE
  rw [List.length_append, List.flatMap_append]
  have e1 : [e].flatMap E5 = E5 e := by simp
  rw [e1]
  exact ho
theorem ta_en (x : Value) (w : World) : (Instr.typeAssert (.iface 166 x) 20 166 false).run Tryz.prog w = .ok x w := by kernel_rfl
/-- the heap's list, where it is kept -/
structure HeapAt (w : World) (h : Nat) (B : Nat) (v : Value) (l : List En) : Prop where
  row : w.heap[h]? = some (.cells #[v] 168 (0, 0))
  own : OwnE w B v l
  apart : v.ownBlock ≠ some h
theorem HeapAt.cell {w : World} {h B : Nat} {v : Value} {l : List En} (H : HeapAt w h B v l) : w.cell? ⟨h, 0, none⟩ = some v := by
  rw [cell_of_row _ _ _ _ _ _ H.row]; rfl
theorem HeapAt.lt {w : World} {h B : Nat} {v : Value} {l : List En} (H : HeapAt w h B v l) : h < w.heap.size := (Array.getElem?_eq_some_iff.1 H.row).1
theorem HeapAt.below {w w' : World} {h B : Nat} {v : Value} {l : List En} (H : HeapAt w h B v l) (hb : Below w.heap.size w w') : HeapAt w' h B v l := ⟨(hb.block h H.lt).trans H.row, H.own.below hb, H.apart⟩
/-- what the heap's calls may change -/
def Heaps (h : Nat) (v : Value) (k : Nat) : Prop := k = h ∨ some k = v.ownBlock
theorem Keeps.grown {a b : World} {v : Value} {h : Nat} (hg : a.grownBy b v.ownBlock) : Keeps (Heaps h v) a b := ⟨hg.os, hg.tape, hg.output, hg.size, fun k hk hn => hg.block k hk (fun e => hn (.inr e))⟩
set_option maxRecDepth 100000 in
set_option maxHeartbeats 4000000 in
theorem push_any (h : Nat) (v : Value) (l : List En) (e : En) (w : World) (B : Nat) (H : HeapAt w h B v l) (hB : B ≤ w.heap.size) (hl : l.length ≤ 100000) :
    Calls Tryz.prog 214 #[.pointer (some ⟨h, 0, none⟩), .iface 166 (Ev e)] w fun r w' => r = .returned (.tuple #[]) ∧ ∃ v', HeapAt w' h B v' (l ++ [e]) ∧ Keeps (Heaps h v) w w' ∧ Fresh w v v' := by
  obtain ⟨v', w', hr, ho, hg, hf⟩ := append_en (w := w.drew) e (show OwnE w.drew B v l from H.own) hB hl
  have hlt := H.lt
  have hc := H.cell
  have hrow : w'.heap[h]? = some (.cells #[v] 168 (0, 0)) := (hg.block h hlt (fun e => H.apart e.symm)).trans H.row
  have hc' : w'.cell? ⟨h, 0, none⟩ = some v := by rw [cell_of_row _ _ _ _ _ _ hrow]; rfl
  have hfz : w'.frozen? ⟨h, 0, none⟩ = false := frozen_of_row _ _ _ _ _ hrow
  obtain ⟨av, cv, ev⟩ := H.own.slice
  subst ev
  obtain ⟨a', c', ev'⟩ := ho.slice
  rw [List.length_append, List.length_singleton] at ev'
  have HAP : v'.ownBlock ≠ some h := fun e => by
    rcases hf with hf | ⟨g, hf, hgs⟩
    · rw [hf] at e; exact H.apart e
    · rw [hf] at e
      injection e with e
      have : w.drew.heap.size = w.heap.size := rfl
      omega
  have HEND := hide (show HeapAt (w'.setCell ⟨h, 0, none⟩ v') h B v' (l ++ [e]) ∧ Keeps (Heaps h (.slice av l.length cv)) w (w'.setCell ⟨h, 0, none⟩ v') ∧ Fresh w (.slice av l.length cv) v' by
    refine ⟨⟨?_, ?_, HAP⟩, ?_, hf⟩
    · have := heap_setCell_same w' h 0 #[.slice av l.length cv] 168 v' hrow
      exact this
    · refine ⟨ho.1, ?_⟩
      rcases ho.2 with h0 | ⟨g, cap, cur, e1, hB', hg', r⟩
      · exact .inl h0
      · refine .inr ⟨g, cap, cur, e1, hB', (Below.heap_setCell _ _ _ _ (fun e2 => HAP (by rw [e1, e2]; rfl))).trans hg', r⟩
    · refine ⟨hg.os, hg.tape, hg.output, ?_, fun k hk hn => ?_⟩
      · have : (w'.setCell ⟨h, 0, none⟩ v').heap.size = w'.heap.size := by simp
        rw [this]; exact hg.size
      · exact (Below.heap_setCell _ _ _ _ (fun e2 => hn (.inl e2))).trans (hg.block k hk (fun e => hn (.inr e))))
  obtain ⟨ed, en, ⟨ei, ex, ey⟩⟩ := e
  have hr' : (Builtin.append_ #[168, 168] 168 #[.slice av l.length cv, .slice (some ⟨w.heap.size, 0, none⟩) 1 1]).run Tryz.prog ((w.alloc (.cells #[I ed, .pointer en, I ei, I ex, I ey] 166)).drew) = .ok v' w' := hr
  clear hr ho hg hf hrow H HAP
  subst ev'
  have hta := ta_en (Ev ⟨ed, en, ⟨ei, ex, ey⟩⟩)
  go_enter Tryz.func214, Tryz.ntmps214
  go_wp2_with fail
  go_region_law (refine step_append_run rfl _ _ 168 168 rfl _ _ (by simp [Act.eval]) (by simp [Act.eval]) hr' ?_)
  all_goals
    go_end0
    exact ⟨rfl, _, HEND.out⟩
theorem heapAt_cut {w : World} {h B g c : Nat} {l : List En} {e : En} (H : HeapAt w h B (.slice (some ⟨g, 0, none⟩) (l.length + 1) c) (l ++ [e])) :
    HeapAt (w.setCell ⟨h, 0, none⟩ (.slice (some ⟨g, 0, none⟩) l.length c)) h B (.slice (some ⟨g, 0, none⟩) l.length c) l := by
  have hgh : g ≠ h := fun e => H.apart (by rw [e]; rfl)
  refine ⟨?_, ?_, fun e => hgh (by injection e)⟩
  · exact heap_setCell_same w h 0 #[.slice (some ⟨g, 0, none⟩) (l.length + 1) c] 168 _ H.row
  · refine ⟨E5_len l, ?_⟩
    rcases H.own.2 with ⟨e', _⟩ | ⟨g', cap, cur, e', hB, hg, hcap, hmax, hcs, htake⟩
    · cases e'
    · injection e' with e1 e2 e3
      injection e1 with e1
      injection e1 with e1
      subst e1 e3
      rw [List.length_append, List.length_singleton] at hcap htake
      refine .inr ⟨g, c, cur, rfl, hB, (Below.heap_setCell _ _ _ _ hgh).trans hg, by omega, hmax, hcs, ?_⟩
      have h1 := congrArg (List.take (l.length * 5)) htake
      rw [List.take_take, Nat.min_eq_left (by omega), List.flatMap_append, ← E5_len l, List.take_left] at h1
      rw [E5_len] at h1
      exact h1
set_option maxRecDepth 100000 in
set_option maxHeartbeats 4000000 in
theorem pop_any (h : Nat) (v : Value) (l : List En) (e : En) (w : World) (B : Nat) (H : HeapAt w h B v (l ++ [e])) (hl : l.length ≤ 100000) :
    Calls Tryz.prog 213 #[.pointer (some ⟨h, 0, none⟩)] w fun r w' => r = .returned (.iface 166 (Ev e)) ∧ ∃ v', HeapAt w' h B v' l ∧ Keeps (Heaps h v) w w' ∧ v'.ownBlock = v.ownBlock := by
  obtain ⟨g, c, ev⟩ := H.own.some (by simp)
  subst ev
  rw [List.length_append, List.length_singleton] at H
  have hlt := H.lt
  have hgl := (H.own.lt (g := g) rfl).2
  have hc := H.cell
  have hen : EnAt w g (l.length * 5) e := by
    have h1 := OwnE.at (w := w) (B := B) (g := g) (c := c) (l := l ++ [e]) (by rw [List.length_append, List.length_singleton]; exact H.own) l.length (by simp)
    rw [List.getElem_append_right (Nat.le_refl _)] at h1
    simpa using h1
  have hcap : l.length ≤ c := by
    rcases H.own.2 with ⟨e', _⟩ | ⟨g', cap, cur, e', hB, hg, hcap, hmax, hcs, htake⟩
    · cases e'
    · injection e' with e1 e2 e3
      subst e3
      rw [List.length_append, List.length_singleton] at hcap
      omega
  have hgh : g ≠ h := fun e => H.apart (by rw [e]; rfl)
  have HH := hide H
  clear H
  obtain ⟨ed, en, ⟨ei, ex, ey⟩⟩ := e
  obtain ⟨e0, e1, e2, e3, e4⟩ := hen
  simp only at e0 e1 e2 e3 e4
  have hb2 := fun o => (Below.refl w.heap.size w).alloc (Nat.le_refl _) o
  have hr2 := heap_alloc_new w
  have hs2 := fun o => show (w.alloc o).heap.size = w.heap.size + 1 by simp
  go_enter Tryz.func213, Tryz.ntmps213
  go_upto_region 3 with fail
  generalize hW : World.alloc w _ = w1
  have hb1 : Below w.heap.size w w1 := by rw [← hW]; exact hb2 _
  have hn1 : w1.heap[w.heap.size]? = some (.cells #[I ed, .pointer en, I ei, I ex, I ey] 166 (0, 0)) := by rw [← hW]; exact hr2 _
  have hs1 : w.heap.size + 1 ≤ w1.heap.size := by rw [← hW, hs2]; exact Nat.le_refl _
  clear hb2 hr2 hs2 hW
  have HH1 := hide (HH.out.below hb1)
  have hc1 := HH1.out.cell
  have hfz : w1.frozen? ⟨h, 0, none⟩ = false := frozen_of_row _ _ _ _ _ HH1.out.row
  have HN1 := hide hn1
  have HB1 := hide hb1
  clear hb1 hn1 hc e0 e1 e2 e3 e4
  go_upto_region 4 with fail
  have hh2 := heapAt_cut HH1.out
  have hn2 : (w1.setCell ⟨h, 0, none⟩ (.slice (some ⟨g, 0, none⟩) l.length c)).heap[w.heap.size]? = some (.cells #[I ed, .pointer en, I ei, I ex, I ey] 166 (0, 0)) := (Below.heap_setCell _ _ _ _ (show w.heap.size ≠ h by omega)).trans HN1.out
  have hk2 : Keeps (Heaps h (.slice (some ⟨g, 0, none⟩) (l.length + 1) c)) w (w1.setCell ⟨h, 0, none⟩ (.slice (some ⟨g, 0, none⟩) l.length c)) := by
    refine ⟨HB1.out.os, HB1.out.tape, HB1.out.output, ?_, fun k hk hn => (Below.heap_setCell _ _ _ _ (fun e2 => hn (.inl e2))).trans (HB1.out.block k hk)⟩
    have : (w1.setCell ⟨h, 0, none⟩ (.slice (some ⟨g, 0, none⟩) l.length c)).heap.size = w1.heap.size := by simp
    rw [this]; exact HB1.out.size
  generalize w1.setCell ⟨h, 0, none⟩ (.slice (some ⟨g, 0, none⟩) l.length c) = w2 at *
  have c0 : w2.cell? ⟨w.heap.size, 0, none⟩ = some (I ed) := by rw [cell_of_row _ _ _ _ _ _ hn2]; rfl
  have c1 : w2.cell? ⟨w.heap.size, 1, none⟩ = some (.pointer en) := by rw [cell_of_row _ _ _ _ _ _ hn2]; rfl
  have c2 : w2.cell? ⟨w.heap.size, 2, none⟩ = some (I ei) := by rw [cell_of_row _ _ _ _ _ _ hn2]; rfl
  have c3 : w2.cell? ⟨w.heap.size, 3, none⟩ = some (I ex) := by rw [cell_of_row _ _ _ _ _ _ hn2]; rfl
  have c4 : w2.cell? ⟨w.heap.size, 4, none⟩ = some (I ey) := by rw [cell_of_row _ _ _ _ _ _ hn2]; rfl
  have HH2 := hide hh2
  have HK2 := hide hk2
  clear hh2 hk2 hn2
  go_wp2
  go_ret
  exact ⟨rfl, _, HH2.out, HK2.out, rfl⟩
end Go.Proofs.YtenaelkbgkpllaaGreatDoor
/- What goes up the heap. -/
namespace Go.Proofs.YtenaelkbgkpllaaGreatDoor
open Go.RowKit

abbrev Hv (h : Nat) : Value := .iface 163 (.pointer (some ⟨h, 0, none⟩))
/-- the heap's list put in another order -/
structure Turned (w w' : World) (h B : Nat) (v : Value) (l l' : List En) : Prop where
  at' : HeapAt w' h B v l'
  perm : l'.Perm l
  keeps : Keeps (Heaps h v) w w'
theorem Turned.refl {w : World} {h B : Nat} {v : Value} {l : List En} (H : HeapAt w h B v l) : Turned w w h B v l l := ⟨H, List.Perm.refl _, Keeps.refl _ _⟩
theorem Turned.below {w w' w'' : World} {h B : Nat} {v : Value} {l l' : List En} (H : Turned w w' h B v l l') (hb : Below w'.heap.size w' w'') : Turned w w'' h B v l l' := ⟨H.at'.below hb, H.perm, H.keeps.trans (Keeps.of_below (S := Heaps h v) hb) (fun _ _ h => h)⟩
theorem Turned.swap {w w' w'' : World} {h B : Nat} {v : Value} {l l' : List En} (H : Turned w w' h B v l l') {i j : Nat} (hi : i < l'.length) (hj : j < l'.length) (ho : OwnE w'' B v (Heap.swp l' i j)) (hg : w'.grownBy w'' v.ownBlock) : Turned w w'' h B v l (Heap.swp l' i j) :=
  ⟨⟨(hg.block h H.at'.lt (fun e => H.at'.apart e.symm)).trans H.at'.row, ho, H.at'.apart⟩, (Heap.swp_perm hi hj).trans H.perm, H.keeps.trans (Keeps.grown (h := h) hg) (fun _ _ h => h)⟩
theorem less_at (v : Value) (l : List En) (i j : Nat) (w : World) (B : Nat) (ho : OwnE w B v l) (hi : i < l.length) (hj : j < l.length) (hl : l.length ≤ 100000) :
    Calls Tryz.prog 212 #[v, I i, I j] w fun e w' => e = .returned (.bool (decide (enLt (Heap.at' l i) (Heap.at' l j)))) ∧ Below w.heap.size w w' := by
  rw [Heap.at_get hi, Heap.at_get hj]
  exact less_any v l i j w B ho hi hj hl
set_option maxRecDepth 100000 in
set_option maxHeartbeats 4000000 in
theorem up_any (h : Nat) (v : Value) (l : List En) (j : Nat) (w : World) (B : Nat) (H : HeapAt w h B v l) (hl : l.length ≤ 100000) (hu : Heap.Up enLt (Heap.at' l) l.length j) :
    Calls Tryz.prog 175 #[Hv h, I j] w fun r w' => r = .returned (.tuple #[]) ∧ ∃ l', Turned w w' h B v l l' ∧ Heap.Ok enLt (Heap.at' l') l'.length := by
  have HT := hide (Turned.refl H)
  have HU := hide hu
  have hj := hu.inn
  clear H hu
  go_enter Tryz.func175, Tryz.ntmps175
  go_wp2_with fail
  go_loopg [1] j (fun gk v1 wq => ∃ (k : Nat) (l' : List En), gk = k ∧ v1 = I k ∧ Turned w wq h B v l l' ∧ Heap.Up enLt (Heap.at' l') l'.length k)
  case atStart => exact ⟨j, l, rfl, rfl, HT.out, HU.out⟩
  case round =>
    clear HT HU hj
    obtain ⟨k, l', rfl, rfl, hT, hU⟩ := hrel
    have hlen : l'.length ≤ 100000 := by rw [hT.perm.length_eq]; exact hl
    have hk := hU.inn
    have hm := m_less h v wr hT.at'.cell
    have hm2 := m_swap h v wr hT.at'.cell
    have HT := hide hT
    have HU := hide hU
    clear hT hU
    by_cases h0 : gk = 0
    · subst h0
      go_wp2_with fail
      go_end0
      exact ⟨rfl, l', HT.out, Heap.up_end HU.out (.inl rfl)⟩
    · have hp := Heap.par_lt (show 0 < gk by omega)
      have HPE := hide (show ((gk : Int) - 1) / 2 = ((Heap.par gk : Nat) : Int) by
        unfold Heap.par
        omega)
      have HLE := hide (less_at v l' gk (Heap.par gk) wr B HT.out.at'.own hk (by omega) hlen)
      have hne : ¬ ((Heap.par gk : Nat) : Int) = (gk : Int) := by omega
      go_upto_region 1 with fail
      rw [HPE.out]
      generalize hpk : Heap.par gk = pk at *
      have HPK := hide hpk
      clear hpk
      generalize hcond : decide (enLt (Heap.at' l' gk) (Heap.at' l' pk)) = r at *
      have HCO := hide hcond
      clear hcond
      go_wp2_with fail
      refine HLE.out.mono ?_
      rintro _ w1 ⟨rfl, hb1⟩
      have HT1 := hide (HT.out.below hb1)
      have hm3 := m_swap h v w1 HT1.out.at'.cell
      clear hb1 hm hm2 HLE
      cases r with
      | false =>
        go_wp2_with fail
        go_end0
        refine ⟨rfl, l', HT1.out, Heap.up_end HU.out (.inr ?_)⟩
        rw [HPK.out]
        exact of_decide_eq_false HCO.out
      | true =>
        have HSW := hide (swap_any v l' pk gk w1 B HT1.out.at'.own (by omega) hk hlen)
        go_wp2_with fail
        refine HSW.out.mono ?_
        rintro _ w2 ⟨rfl, ho2, hg2⟩
        have HT2 := hide (HT1.out.swap (by omega) hk ho2 hg2)
        clear ho2 hg2 HSW hm3
        go_wp2_with fail
        go_roundg pk
        case measure => exact hp
        case rel =>
          refine ⟨pk, Heap.swp l' pk gk, rfl, by go_num, HT2.out, ?_⟩
          rw [Heap.swp_len]
          have hs := Heap.up_step enWeak (Nat.le_refl _) HU.out (by omega) (by rw [HPK.out]; exact of_decide_eq_true HCO.out)
          rw [HPK.out] at hs
          exact hs
end Go.Proofs.YtenaelkbgkpllaaGreatDoor
/- What goes down the heap. -/
namespace Go.Proofs.YtenaelkbgkpllaaGreatDoor
open Go.RowKit

set_option maxRecDepth 100000 in
set_option maxHeartbeats 4000000 in
theorem down_any (h : Nat) (v : Value) (l : List En) (n : Nat) (w : World) (B : Nat) (H : HeapAt w h B v l) (hl : l.length ≤ 100000) (hn : n < l.length) (hd : Heap.Down enLt (Heap.at' l) n 0) :
    Calls Tryz.prog 144 #[Hv h, I 0, I n] w fun r w' => ∃ b : Bool, r = .returned (.bool b) ∧ ∃ l', Turned w w' h B v l l' ∧ Heap.Ok enLt (Heap.at' l') n ∧ ∀ k, n ≤ k → Heap.at' l' k = Heap.at' l k := by
  have HT0 := hide (Turned.refl H)
  have HD0 := hide hd
  clear H hd
  go_enter Tryz.func144, Tryz.ntmps144
  go_wp2_with fail
  go_loopg [7] n (fun gk v7 wq => ∃ (i : Nat) (l' : List En), gk = n - i ∧ v7 = I i ∧ i ≤ n ∧ Turned w wq h B v l l' ∧ Heap.Down enLt (Heap.at' l') n i ∧ ∀ k, n ≤ k → Heap.at' l' k = Heap.at' l k)
  case atStart => exact ⟨0, l, rfl, rfl, by omega, HT0.out, HD0.out, fun _ _ => rfl⟩
  case round =>
    clear HT0 HD0
    obtain ⟨i, l', hgk, rfl, hi, hT, hD, hsame⟩ := hrel
    have hll : l'.length = l.length := hT.perm.length_eq
    have hlen : l'.length ≤ 100000 := by omega
    have hnl : n ≤ l'.length := by omega
    have hnl2 : n < l'.length := by omega
    clear hll
    have HGK := hide hgk
    have HT := hide hT
    have HD := hide hD
    have HSAME := hide hsame
    clear hgk hT hD hsame
    by_cases h1 : n ≤ 2 * i + 1
    · have HOK := hide (Heap.down_end HD.out fun k hk hk0 hp => by unfold Heap.par at hp; omega)
      have hge : (n : Int) ≤ 2 * (i : Int) + 1 := by omega
      go_wp2_with fail
      go_ret
      exact ⟨_, rfl, l', HT.out, HOK.out, HSAME.out⟩
    · have hlt1 : ¬ (n : Int) ≤ 2 * (i : Int) + 1 := by omega
      have hpos1 : ¬ 2 * (i : Int) + 1 < 0 := by omega
      obtain ⟨j1, hj1⟩ : ∃ j1, j1 = 2 * i + 1 := ⟨_, rfl⟩
      have HJ1 := hide (show (2 * (i : Int) + 1) = ((j1 : Nat) : Int) by omega)
      have HJ1N := hide hj1
      by_cases h2 : n ≤ 2 * i + 2
      · have hlt2 : ¬ 2 * (i : Int) + 1 + 1 < (n : Int) := by omega
        have HSM := hide (show ∀ k, k < n → 0 < k → Heap.par k = i → ¬ enLt (Heap.at' l' k) (Heap.at' l' j1) from fun k hk hk0 hp => by
          have e : k = j1 := by unfold Heap.par at hp; omega
          rw [e]; exact enIrr _)
        go_upto_region 8 with fail
        rw [HJ1.out]
        obtain ⟨W, hW⟩ : ∃ W, W = wr := ⟨_, rfl⟩
        subst hW
        have HT1 := hide HT.out
        have hj1' : 2 * i < j1 := by omega
        have hj1n : j1 < n := by omega
        clear hj1 hlt1 hpos1 hlt2
        have hj0 : 0 < j1 := by omega
        have hij : i < j1 := by omega
        have HPJ := hide (show Heap.par j1 = i by have := HJ1N.out; unfold Heap.par; omega)
        have HLE2 := hide (less_at v l' j1 i W B HT1.out.at'.own (by omega) (by omega) hlen)
        have hmL := m_less h v W HT1.out.at'.cell
        generalize hcond2 : decide (enLt (Heap.at' l' j1) (Heap.at' l' i)) = r2 at *
        have HC2 := hide hcond2
        clear hcond2
        go_wp2_with fail
        refine HLE2.out.mono ?_
        rintro _ w2 ⟨rfl, hb2⟩
        have HT2 := hide (HT1.out.below hb2)
        have hmS := m_swap h v w2 HT2.out.at'.cell
        clear hb2 hmL HLE2
        cases r2 with
        | false =>
          have HOK := hide (Heap.down_end HD.out fun k hk hk0 hp => enWeak.trans _ _ _ (of_decide_eq_false HC2.out) (HSM.out k hk hk0 hp))
          go_wp2_with fail
          go_ret
          exact ⟨_, rfl, l', HT2.out, HOK.out, HSAME.out⟩
        | true =>
          have HSW := hide (swap_any v l' i j1 w2 B HT2.out.at'.own (by omega) (by omega) hlen)
          have HDN := hide (Heap.down_step enWeak hnl HD.out (show j1 < n by omega) hj0 HPJ.out (of_decide_eq_true HC2.out) HSM.out)
          have HSA := hide (show ∀ k, n ≤ k → Heap.at' (Heap.swp l' i j1) k = Heap.at' l k from fun k hk => by
            rw [Heap.at_swp (by omega) (by omega), if_neg (by omega), if_neg (by omega)]
            exact HSAME.out k hk)
          go_wp2_with fail
          refine HSW.out.mono ?_
          rintro _ w3 ⟨rfl, ho3, hg3⟩
          have HT3 := hide (HT2.out.swap (by omega) (by omega) ho3 hg3)
          clear ho3 hg3 HSW hmS
          go_wp2_with fail
          go_roundg (n - j1)
          case measure => have := HGK.out; omega
          case rel => exact ⟨j1, Heap.swp l' i j1, rfl, by go_num, by omega, HT3.out, HDN.out, HSA.out⟩
      · have hlt2 : 2 * (i : Int) + 1 + 1 < (n : Int) := by omega
        obtain ⟨j2, hj2⟩ : ∃ j2, j2 = 2 * i + 2 := ⟨_, rfl⟩
        have HJ2 := hide (show (2 * (i : Int) + 1 + 1) = ((j2 : Nat) : Int) by omega)
        have HLE := hide (less_at v l' j2 j1 wr B HT.out.at'.own (by omega) (by omega) hlen)
        have hm := m_less h v wr HT.out.at'.cell
        generalize hcond : decide (enLt (Heap.at' l' j2) (Heap.at' l' j1)) = r at *
        have HCO := hide hcond
        clear hcond
        go_upto_region 6 with fail
        rw [HJ2.out, HJ1.out]
        have hlt3 : ((j2 : Nat) : Int) < (n : Int) := by omega
        have HJ2N := hide hj2
        clear hlt1 hpos1 hlt2 hj1 hj2
        go_wp2_with fail
        refine HLE.out.mono ?_
        rintro _ W ⟨rfl, hb1⟩
        have HT1 := hide (HT.out.below hb1)
        clear hb1 hm HLE
        have hj1' : 2 * i < j1 := by have := HJ1N.out; omega
        have hj2' : 2 * i < j2 := by have := HJ2N.out; omega
        have hj1n : j1 < n := by have := HJ1N.out; omega
        have hj2n : j2 < n := by have := HJ2N.out; omega
        cases r with
        | false =>
          have HSM := hide (show ∀ k, k < n → 0 < k → Heap.par k = i → ¬ enLt (Heap.at' l' k) (Heap.at' l' j1) from fun k hk hk0 hp => by
            have e : k = j1 ∨ k = j2 := by
              have := HJ1N.out
              have := HJ2N.out
              unfold Heap.par at hp; omega
            rcases e with e | e
            · rw [e]; exact enIrr _
            · rw [e]; exact of_decide_eq_false HCO.out)
          have hj0 : 0 < j1 := by omega
          have hij : i < j1 := by omega
          have HPJ := hide (show Heap.par j1 = i by have := HJ1N.out; unfold Heap.par; omega)
          have HLE2 := hide (less_at v l' j1 i W B HT1.out.at'.own (by omega) (by omega) hlen)
          have hmL := m_less h v W HT1.out.at'.cell
          generalize hcond2 : decide (enLt (Heap.at' l' j1) (Heap.at' l' i)) = r2 at *
          have HC2 := hide hcond2
          clear hcond2
          go_wp2_with fail
          refine HLE2.out.mono ?_
          rintro _ w2 ⟨rfl, hb2⟩
          have HT2 := hide (HT1.out.below hb2)
          have hmS := m_swap h v w2 HT2.out.at'.cell
          clear hb2 hmL HLE2
          cases r2 with
          | false =>
            have HOK := hide (Heap.down_end HD.out fun k hk hk0 hp => enWeak.trans _ _ _ (of_decide_eq_false HC2.out) (HSM.out k hk hk0 hp))
            go_wp2_with fail
            go_ret
            exact ⟨_, rfl, l', HT2.out, HOK.out, HSAME.out⟩
          | true =>
            have HSW := hide (swap_any v l' i j1 w2 B HT2.out.at'.own (by omega) (by omega) hlen)
            have HDN := hide (Heap.down_step enWeak hnl HD.out (show j1 < n by omega) hj0 HPJ.out (of_decide_eq_true HC2.out) HSM.out)
            have HSA := hide (show ∀ k, n ≤ k → Heap.at' (Heap.swp l' i j1) k = Heap.at' l k from fun k hk => by
              rw [Heap.at_swp (by omega) (by omega), if_neg (by omega), if_neg (by omega)]
              exact HSAME.out k hk)
            go_wp2_with fail
            refine HSW.out.mono ?_
            rintro _ w3 ⟨rfl, ho3, hg3⟩
            have HT3 := hide (HT2.out.swap (by omega) (by omega) ho3 hg3)
            clear ho3 hg3 HSW hmS
            go_wp2_with fail
            go_roundg (n - j1)
            case measure => have := HGK.out; omega
            case rel => exact ⟨j1, Heap.swp l' i j1, rfl, by go_num, by omega, HT3.out, HDN.out, HSA.out⟩
        | true =>
          have HSM := hide (show ∀ k, k < n → 0 < k → Heap.par k = i → ¬ enLt (Heap.at' l' k) (Heap.at' l' j2) from fun k hk hk0 hp => by
            have e : k = j1 ∨ k = j2 := by
              have := HJ1N.out
              have := HJ2N.out
              unfold Heap.par at hp; omega
            rcases e with e | e
            · rw [e]; exact enWeak.anti _ _ (of_decide_eq_true HCO.out)
            · rw [e]; exact enIrr _)
          have hj0 : 0 < j2 := by omega
          have hij : i < j2 := by omega
          have HPJ := hide (show Heap.par j2 = i by have := HJ2N.out; unfold Heap.par; omega)
          have HLE2 := hide (less_at v l' j2 i W B HT1.out.at'.own (by omega) (by omega) hlen)
          have hmL := m_less h v W HT1.out.at'.cell
          generalize hcond2 : decide (enLt (Heap.at' l' j2) (Heap.at' l' i)) = r2 at *
          have HC2 := hide hcond2
          clear hcond2
          go_wp2_with fail
          refine HLE2.out.mono ?_
          rintro _ w2 ⟨rfl, hb2⟩
          have HT2 := hide (HT1.out.below hb2)
          have hmS := m_swap h v w2 HT2.out.at'.cell
          clear hb2 hmL HLE2
          cases r2 with
          | false =>
            have HOK := hide (Heap.down_end HD.out fun k hk hk0 hp => enWeak.trans _ _ _ (of_decide_eq_false HC2.out) (HSM.out k hk hk0 hp))
            go_wp2_with fail
            go_ret
            exact ⟨_, rfl, l', HT2.out, HOK.out, HSAME.out⟩
          | true =>
            have HSW := hide (swap_any v l' i j2 w2 B HT2.out.at'.own (by omega) (by omega) hlen)
            have HDN := hide (Heap.down_step enWeak hnl HD.out (show j2 < n by omega) hj0 HPJ.out (of_decide_eq_true HC2.out) HSM.out)
            have HSA := hide (show ∀ k, n ≤ k → Heap.at' (Heap.swp l' i j2) k = Heap.at' l k from fun k hk => by
              rw [Heap.at_swp (by omega) (by omega), if_neg (by omega), if_neg (by omega)]
              exact HSAME.out k hk)
            go_wp2_with fail
            refine HSW.out.mono ?_
            rintro _ w3 ⟨rfl, ho3, hg3⟩
            have HT3 := hide (HT2.out.swap (by omega) (by omega) ho3 hg3)
            clear ho3 hg3 HSW hmS
            go_wp2_with fail
            go_roundg (n - j2)
            case measure => have := HGK.out; omega
            case rel => exact ⟨j2, Heap.swp l' i j2, rfl, by go_num, by omega, HT3.out, HDN.out, HSA.out⟩
end Go.Proofs.YtenaelkbgkpllaaGreatDoor
/- Push and Pop of the heap. -/
namespace Go.Proofs.YtenaelkbgkpllaaGreatDoor
open Go.RowKit

set_option maxHeartbeats 400000 in
theorem lenE_any (a : Option Addr) (n c : Nat) (w : World) :
    Calls Tryz.prog 114 #[.slice a n c] w fun e w' => e = .returned (I n) ∧ w' = w := by
  go_enter Tryz.func114, Tryz.ntmps114
  go_wp2
  go_ret
  exact ⟨rfl, rfl⟩
theorem heaps_fresh {w : World} {h : Nat} {v v' : Value} (hf : Fresh w v v') : ∀ j, j < w.heap.size → Heaps h v' j → Heaps h v j := fun j hj hh => by
  rcases hh with hh | hh
  · exact .inl hh
  · rcases hf with hf | ⟨g, hf, hg⟩
    · exact .inr (by rw [← hf]; exact hh)
    · rw [hf] at hh
      injection hh with hh
      omega
set_option maxRecDepth 100000 in
set_option maxHeartbeats 4000000 in
theorem heapPush_any (h : Nat) (v : Value) (l : List En) (e : En) (w : World) (B : Nat) (H : HeapAt w h B v l) (hB : B ≤ w.heap.size) (hl : l.length ≤ 90000) (hok : Heap.Ok enLt (Heap.at' l) l.length) :
    Calls Tryz.prog 145 #[Hv h, .iface 166 (Ev e)] w fun r w' => r = .returned (.tuple #[]) ∧ ∃ v' l', HeapAt w' h B v' l' ∧ l'.Perm (l ++ [e]) ∧ Heap.Ok enLt (Heap.at' l') l'.length ∧ Keeps (Heaps h v) w w' ∧ Fresh w v v' := by
  have HP := hide (push_any h v l e w B H hB (by omega))
  have HUP := hide (Heap.up_start (lt := enLt) (x := e) hok)
  have hm := m_push h w
  clear H hok
  go_enter Tryz.func145, Tryz.ntmps145
  go_wp2_with fail
  refine HP.out.mono ?_
  rintro _ w1 ⟨rfl, v1, hh1, hk1, hf1⟩
  have HH1 := hide hh1
  have HK1 := hide hk1
  have HF1 := hide hf1
  have hm1 := m_len h v1 w1 hh1.cell
  obtain ⟨a1, c1, e1⟩ := hh1.own.slice
  rw [List.length_append, List.length_singleton] at e1
  subst e1
  have HLN := hide (lenE_any a1 (l.length + 1) c1 w1)
  have HU := hide (up_any h (.slice a1 (l.length + 1) c1) (l ++ [e]) l.length w1 B HH1.out (by simp; omega) (by rw [List.length_append, List.length_singleton]; exact HUP.out))
  clear hh1 hk1 hf1 hm HP
  go_wp2_with fail
  refine HLN.out.mono ?_
  rintro _ _ ⟨rfl, rfl⟩
  go_wp2_with fail
  refine HU.out.mono ?_
  rintro _ w2 ⟨rfl, l2, hT, hok2⟩
  have HE := hide (show HeapAt w2 h B (.slice a1 (l.length + 1) c1) l2 ∧ l2.Perm (l ++ [e]) ∧ Heap.Ok enLt (Heap.at' l2) l2.length ∧ Keeps (Heaps h v) w w2 ∧ Fresh w v (.slice a1 (l.length + 1) c1) from ⟨hT.at', hT.perm, hok2, HK1.out.trans hT.keeps (heaps_fresh HF1.out), HF1.out⟩)
  clear hT hok2 HU hm1
  go_wp2_with fail
  go_end0
  exact ⟨rfl, _, l2, HE.out⟩
theorem take_last {l : List En} {n : Nat} (h : l.length = n + 1) : l = l.take n ++ [Heap.at' l n] := by
  rw [Heap.at_get (by omega)]
  have : l.drop n = [l[n]] := by
    rw [List.drop_eq_getElem_cons (by omega), List.drop_eq_nil_of_le (by omega)]
  rw [← this, List.take_append_drop]
set_option maxRecDepth 100000 in
set_option maxHeartbeats 4000000 in
theorem heapPop_any (h : Nat) (v : Value) (l : List En) (n : Nat) (w : World) (B : Nat) (H : HeapAt w h B v l) (hn : l.length = n + 1) (hl : n ≤ 90000) (hok : Heap.Ok enLt (Heap.at' l) l.length) :
    Calls Tryz.prog 115 #[Hv h] w fun r w' => ∃ e v' l', r = .returned (.iface 166 (Ev e)) ∧ l.Perm (e :: l') ∧ (∀ x ∈ l', ¬ enLt x e) ∧ HeapAt w' h B v' l' ∧ Heap.Ok enLt (Heap.at' l') l'.length ∧ Keeps (Heaps h v) w w' ∧ v'.ownBlock = v.ownBlock := by
  have hm := m_len h v w H.cell
  have hm2 := m_swap h v w H.cell
  have hm3 := fun W => m_pop h W
  obtain ⟨av, cv, ev⟩ := H.own.slice
  have HT0 := hide (Turned.refl H)
  have HSW := hide (swap_any v l 0 n w B H.own (by omega) (by omega) (by omega))
  rw [hn] at ev
  subst ev
  have HLN := hide (lenE_any av (n + 1) cv w)
  have HDS := hide (Heap.down_start (lt := enLt) hn (by rw [← hn]; exact hok))
  have HLEAST := hide (Heap.first_least enWeak enIrr hok)
  clear H hok
  go_enter Tryz.func115, Tryz.ntmps115
  go_wp2_with fail
  refine HLN.out.mono ?_
  rintro _ w0 ⟨rfl, hw0⟩
  rw [hw0]
  clear hw0
  go_wp2_with fail
  refine HSW.out.mono ?_
  rintro _ w1 ⟨rfl, ho1, hg1⟩
  have HT1 := hide (HT0.out.swap (show 0 < l.length by omega) (show n < l.length by omega) ho1 hg1)
  have HD := hide (down_any h (.slice av (n + 1) cv) (Heap.swp l 0 n) n w1 B HT1.out.at' (by rw [Heap.swp_len]; omega) (by rw [Heap.swp_len]; omega) HDS.out)
  clear ho1 hg1 HSW HLN hm hm2
  go_wp2_with fail
  refine HD.out.mono ?_
  rintro _ w2 ⟨b, rfl, l2, hT2, hok2, hsame⟩
  have hl2 : l2.length = n + 1 := by rw [hT2.perm.length_eq, Heap.swp_len]; exact hn
  have hlast : Heap.at' l2 n = Heap.at' l 0 := by
    rw [hsame n (Nat.le_refl _), Heap.at_swp (by omega) (by omega), if_pos rfl]
  have hl2e := take_last hl2
  rw [hlast] at hl2e
  have hperm : l2.Perm l := hT2.perm.trans (Heap.swp_perm (by omega) (by omega))
  have HPM := hide (show l.Perm (Heap.at' l 0 :: l2.take n) by
    have h1 := List.perm_append_singleton (Heap.at' l 0) (l2.take n)
    rw [← hl2e] at h1
    exact hperm.symm.trans h1)
  have HLE := hide (show ∀ x ∈ l2.take n, ¬ enLt x (Heap.at' l 0) from fun x hx => by
    have hxl : x ∈ l := HPM.out.mem_iff.2 (List.mem_cons_of_mem _ hx)
    obtain ⟨k, hk, rfl⟩ := List.getElem_of_mem hxl
    have h1 := HLEAST.out k hk
    rw [Heap.at_get hk] at h1
    exact h1)
  have HOK := hide (show Heap.Ok enLt (Heap.at' (l2.take n)) (l2.take n).length by
    have h1 : (l2.take n).length = n := by rw [List.length_take]; omega
    rw [h1]
    exact Heap.ok_take hok2 (Nat.le_refl _))
  have HPOP := hide (pop_any h (.slice av (n + 1) cv) (l2.take n) (Heap.at' l 0) w2 B (by rw [← hl2e]; exact hT2.at') (by rw [List.length_take]; omega))
  have HK := hide (HT1.out.keeps.trans hT2.keeps (fun _ _ h => h))
  have hm4 := hm3 w2
  clear hT2 hok2 hsame hl2 hlast hl2e hperm hm3 HD
  generalize l2.take n = l3 at *
  generalize Heap.at' l 0 = e0 at *
  go_wp2_with fail
  refine HPOP.out.mono ?_
  rintro _ w3 ⟨rfl, v3, hh3, hk3, hb3⟩
  have HE := hide (show l.Perm (e0 :: l3) ∧ (∀ x ∈ l3, ¬ enLt x e0) ∧ HeapAt w3 h B v3 l3 ∧ Heap.Ok enLt (Heap.at' l3) l3.length ∧ Keeps (Heaps h (.slice av (n + 1) cv)) w w3 ∧ v3.ownBlock = (Value.slice av (n + 1) cv).ownBlock from ⟨HPM.out, HLE.out, hh3, HOK.out, HK.out.trans hk3 (fun _ _ h => h), hb3⟩)
  clear hh3 hk3 hb3 HPOP hm4
  go_wp2_with fail
  go_ret
  exact ⟨e0, v3, l3, rfl, HE.out⟩
end Go.Proofs.YtenaelkbgkpllaaGreatDoor
