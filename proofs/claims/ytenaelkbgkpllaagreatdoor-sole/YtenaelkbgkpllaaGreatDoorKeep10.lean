/- Part 10 of what the claims on Bound, Small, Right and Sole rest on. -/
import Derived.Test.YtenaelkbgkpllaaGreatDoorKeep09
import Derived.Deep.LoopGhost
/- A map filled beside others. -/
namespace Go.Proofs.YtenaelkbgkpllaaGreatDoor
open Go.RowKit

theorem Own.zero {w : World} {B : Nat} {v : Value} {L : List Ward.Pt} (h : Own w B v L) : Own w 0 v L := by
  refine ⟨h.1, ?_⟩
  rcases h.2 with h0 | ⟨g, cap, cur, rfl, hb, r⟩
  · exact .inl h0
  · exact .inr ⟨g, cap, cur, rfl, Nat.zero_le _, r⟩
/-- a map and a list, made anew, all else as it was -/
structure Fill (w w' : World) (m : Nat) (v : Value) (L : List Ward.Pt) (vl : Value) (l : List Ward.Pt) : Prop where
  map : IsMap w' m v L
  good : Good L
  list : Own w' w.heap.size vl l
  newm : w.heap.size ≤ m
  newv : ∀ g, v.ownBlock = some g → w.heap.size ≤ g
  apart : ∀ g, vl.ownBlock = some g → ¬ Mine m v g
  keeps : Below w.heap.size w w'
section
variable {w w' w'' : World} {m : Nat} {v v' vl vl' : Value} {L L' l l' : List Ward.Pt}
theorem Fill.below (h : Fill w w' m v L vl l) (hb : Below w'.heap.size w' w'') : Fill w w'' m v L vl l :=
  ⟨h.map.below hb, h.good, h.list.below hb, h.newm, h.newv, h.apart, h.keeps.trans (hb.mono h.keeps.size)⟩
theorem keeps_new {S : Nat → Prop} (h : Below w.heap.size w w') (hk : Keeps S w' w'') (hS : ∀ j, S j → w.heap.size ≤ j) : Below w.heap.size w w'' :=
  ⟨hk.os.trans h.os, hk.tape.trans h.tape, hk.output.trans h.output, Nat.le_trans h.size hk.size, fun j hj => (hk.block j (Nat.lt_of_lt_of_le hj h.size) (fun e => by have := hS j e; omega)).trans (h.block j hj)⟩
theorem Fill.insert (h : Fill w w' m v L vl l) (hm : IsMap w'' m v' L') (hG : Good L') (hf : Fresh w' v v') (hk : Keeps (Mine m v) w' w'') : Fill w w'' m v' L' vl l := by
  have h2 := h.keeps.size
  refine ⟨hm, hG, h.list.keeps hk h.apart, h.newm, fun g hg => ?_, fun g hg e => ?_, keeps_new h.keeps hk (fun j e => ?_)⟩
  · rcases hf with hf | ⟨g', hf, hg'⟩
    · exact h.newv g (by rw [← hf]; exact hg)
    · rw [hg] at hf; injection hf with hf; omega
  · rcases e with rfl | e
    · exact h.apart g hg (.inl rfl)
    · rcases hf with hf | ⟨g', hf, hg'⟩
      · exact h.apart g hg (.inr (by rw [← hf]; exact e))
      · rw [← e] at hf
        injection hf with hf
        have := h.list.lt hg
        omega
  · rcases e with rfl | e
    · exact h.newm
    · exact h.newv j e.symm
theorem Fill.append (h : Fill w w' m v L vl l) (ho : Own w'' w.heap.size vl' l') (hg : w'.grownBy w'' vl.ownBlock) (hf : Fresh w' vl vl') : Fill w w'' m v L vl' l' := by
  have hk := Keeps.of_grown hg
  refine ⟨h.map.keeps hk (fun j hj e => h.apart j e.symm hj), h.good, ho, h.newm, h.newv, fun g hg' e => ?_, keeps_new h.keeps hk (fun j e => h.list.ge e.symm)⟩
  rcases hf with hf | ⟨g', hf, hg''⟩
  · exact h.apart g (by rw [← hf]; exact hg') e
  · rw [hg'] at hf
    injection hf with hf
    have hlt : g < w'.heap.size := by
      rcases e with rfl | e
      · exact h.map.lt
      · exact h.map.own.lt e.symm
    omega
end
/-- the query that has all shown, where it is laid -/
def WT (w : World) : Prop := w.cell? ⟨0, 0, none⟩ = some (I 0) ∧ w.cell? ⟨0, 1, none⟩ = some (I (-1000000)) ∧ w.cell? ⟨0, 2, none⟩ = some (I (-1000000)) ∧ w.cell? ⟨0, 3, none⟩ = some (I 1000000) ∧ w.cell? ⟨0, 4, none⟩ = some (I 1000000) ∧ w.cell? ⟨0, 5, none⟩ = some (I 0) ∧ w.cell? ⟨0, 6, none⟩ = some (I 0) ∧ w.cell? ⟨0, 7, none⟩ = some (I 0)
theorem WT.below {w w' : World} (h : WT w) (hb : Below w.heap.size w w') : WT w' := by
  obtain ⟨h0, h1, h2, h3, h4, h5, h6, h7⟩ := h
  have hl : 0 < w.heap.size := block_lt_of_cell h0
  exact ⟨(hb.cell (p := ⟨0, 0, none⟩) hl).trans h0, (hb.cell (p := ⟨0, 1, none⟩) hl).trans h1, (hb.cell (p := ⟨0, 2, none⟩) hl).trans h2, (hb.cell (p := ⟨0, 3, none⟩) hl).trans h3, (hb.cell (p := ⟨0, 4, none⟩) hl).trans h4, (hb.cell (p := ⟨0, 5, none⟩) hl).trans h5, (hb.cell (p := ⟨0, 6, none⟩) hl).trans h6, (hb.cell (p := ⟨0, 7, none⟩) hl).trans h7⟩
/-- two maps and lists of their points -/
structure Pair (w : World) (m : Nat) (v : Value) (L : List Ward.Pt) (vl : Value) (l : List Ward.Pt) : Prop where
  map : IsMap w m v L
  good : Good L
  list : Own w 0 vl l
  perm : L.Perm l
theorem Pair.below {w w' : World} {m : Nat} {v vl : Value} {L l : List Ward.Pt} (h : Pair w m v L vl l) (hb : Below w.heap.size w w') : Pair w' m v L vl l := ⟨h.map.below hb, h.good, h.list.below hb, h.perm⟩
theorem Held.pair {B : Nat} {w w' : World} {d k m : Nat} {code : List Int} {v vl : Value} {L l : List Ward.Pt} (h : Held B w w' d code k m v L vl l) (hp : L.Perm l) : Pair w' m v L vl l := ⟨h.map, h.good, h.list.zero, hp⟩
theorem Fill.pair {w w' : World} {m : Nat} {v vl : Value} {L l : List Ward.Pt} (h : Fill w w' m v L vl l) (hp : L.Perm l) : Pair w' m v L vl l := ⟨h.map, h.good, h.list.zero, hp⟩
/-- the dice as they are laid -/
theorem dice_new {w : World} {a : Option Addr} {c : Nat} {code : List Int} (hlen : code.length ≤ 140737488355328) (hfit : ∀ x ∈ code, -9223372036854775808 ≤ x ∧ x ≤ 9223372036854775807) (hcells : code ≠ [] → ∃ g o, a = some ⟨g, o, none⟩ ∧ ∀ i (h : i < code.length), w.cell? ⟨g, o + i, none⟩ = some (I code[i])) :
    Dice (w.alloc (.cells #[.slice a code.length c, I 0] 32)) (w.heap.size + 1) w.heap.size code 0 := by
  refine ⟨a, c, heap_alloc_new w _, Nat.zero_le _, Nat.lt_succ_self _, hlen, hfit, fun hne => ?_⟩
  obtain ⟨g, o, rfl, hc⟩ := hcells hne
  have hg : g < w.heap.size := block_lt_of_cell (hc 0 (by have : code.length ≠ 0 := fun e => hne (List.length_eq_zero_iff.1 e); omega))
  exact ⟨g, o, rfl, by omega, by omega, fun i hi => (World.cell?_alloc_lt w _ ⟨g, o + i, none⟩ hg).trans (hc i hi)⟩
end Go.Proofs.YtenaelkbgkpllaaGreatDoor
/- Commitments compared. -/
namespace Go.Proofs.YtenaelkbgkpllaaGreatDoor
open Go.RowKit

/-- a digest and a number as values -/
def rootV (l : List UInt8) (n : Int) : List Value := l.map Y ++ [I n]
theorem Tryz.infoCommit : (Tryz.prog.info? 41).map (·.size) = some 33 := by kernel_rfl
theorem rootV_len (l : List UInt8) (n : Int) (h : l.length = 32) : (rootV l n).length = 33 := by simp [rootV, h]
theorem rootV_one (l : List UInt8) (n : Int) : (rootV l n).toArray.all (·.oneCell') = true := by
  rw [List.all_toArray, List.all_eq_true]
  intro v hv
  rcases List.mem_append.1 hv with hv | hv
  · obtain ⟨b, _, rfl⟩ := List.mem_map.1 hv; rfl
  · rw [List.mem_singleton.1 hv]; rfl
theorem part_root (l : List UInt8) (n : Int) (h : l.length = 32) (W : World) : (part 39 (rootV l n).toArray 0).run Tryz.prog W = .ok (.agg (l.map Y).toArray) W := by
  have a := Tryz.isAgg39 W
  have e : List.take 32 (rootV l n) = List.map Y l := by
    rw [rootV, List.take_append_of_le_length (by simp [h]), List.take_of_length_le (by simp [h])]
  simp [part, Sem.run_bind, a, e]
theorem part_count (l : List UInt8) (n : Int) (h : l.length = 32) (W : World) : (part 3 (rootV l n).toArray 32).run Tryz.prog W = .ok (I n) W := by
  have e : (rootV l n).toArray[32]? = some (I n) := by
    rw [List.getElem?_toArray, rootV, List.getElem?_append_right (by simp [h])]
    simp [h]
  simp [part, Sem.run_bind, Tryz.isAgg3, e]
theorem eqCommit (l m : List UInt8) (a b : Int) (hl : l.length = 32) (hm : m.length = 32) (W : World) :
    (Op.equalIn 10000 41 (.agg (rootV l a).toArray) (.agg (rootV m b).toArray)).run Tryz.prog W = .ok (decide (l = m) && (a == b)) W := by
  have hS : Tryz.prog.underlying 41 = some (.struct (Tryz.prog.fieldsOf 41)) := by kernel_rfl
  have hp : Tryz.prog.stoodInHeld 41 = false := by kernel_rfl
  rw [show (10000 : Nat) = 9999 + 1 from rfl, run_equalIn_agg W 9999 41 _ _ hS hp]
  simp only [Program.fieldsOf, Tryz.underlying41]
  have e2 : (Op.equalIn 9999 3 (I a) (I b)).run Tryz.prog W = .ok (a == b) W := run_equalIn_int W 9998 3 .i64 .i64 a b Tryz.underlying3
  simp only [Op.eqFields, Sem.run_bind, Sem.run_ite, part_root l a hl, part_root m b hm, part_count l a hl, part_count m b hm, Result.andThen_ok, eqArrD 9997 l m hl hm W, e2]
  cases decide (l = m) <;> cases a == b <;> simp
/-- what a commitment is as values -/
def commitV (L : List Ward.Pt) : List Value := rootV (Sha.sha (Ward.rootText Sha.sha L)) L.length
/-- a commitment's values, kept shut -/
structure Com (C : List Value) : Prop where
  size : C.toArray.size = 33
  one : C.toArray.all (·.oneCell') = true
  info : (Tryz.prog.info? 41).map (·.size) = some C.toArray.size
theorem com_of (L : List Ward.Pt) : Com (commitV L) := by
  have h : (commitV L).toArray.size = 33 := by rw [List.size_toArray]; exact rootV_len _ _ rfl
  exact ⟨h, rootV_one _ _, by rw [h]; exact Tryz.infoCommit⟩
theorem eqCom (L L' : List Ward.Pt) (W : World) : (Op.equalIn 10000 41 (.agg (commitV L).toArray) (.agg (commitV L').toArray)).run Tryz.prog W = .ok (decide (Sha.sha (Ward.rootText Sha.sha L) = Sha.sha (Ward.rootText Sha.sha L')) && ((L.length : Int) == (L'.length : Int))) W := eqCommit _ _ _ _ rfl rfl W
theorem sha_len (l : List UInt8) : (Sha.sha l).length = 32 := rfl
theorem WT.cells {w : World} (h : WT w) : w.cell? ⟨0, 0, none⟩ = some (I 0) ∧ w.cell? ⟨0, 1, none⟩ = some (I (-1000000)) ∧ w.cell? ⟨0, 2, none⟩ = some (I (-1000000)) ∧ w.cell? ⟨0, 3, none⟩ = some (I 1000000) ∧ w.cell? ⟨0, 4, none⟩ = some (I 1000000) ∧ w.cell? ⟨0, 5, none⟩ = some (I 0) ∧ w.cell? ⟨0, 6, none⟩ = some (I 0) ∧ w.cell? ⟨0, 7, none⟩ = some (I 0) := h
/-- of two maps that are not alike, with one commitment, two texts of one digest are found -/
theorem found_of {L L' : List Ward.Pt} {r : Bool} (h : Good L) (h' : Good L') (hne : L ≠ L') (e : Sha.sha (Ward.rootText Sha.sha L) = Sha.sha (Ward.rootText Sha.sha L'))
    (hr : r = false → ∀ a ∈ Ward.alls _ (Ward.rootShow Sha.sha L), ∀ b ∈ Ward.alls _ (Ward.rootShow Sha.sha L'), a ≠ b → Sha.sha a ≠ Sha.sha b) : r = true := by
  cases r with
  | true => rfl
  | false =>
    obtain ⟨a, ha, b, hb, h1, h2⟩ := Ward.root_found sha_len h.ok h'.ok hne e
    exact absurd h2 (hr rfl a ha b hb h1)
/-- collide of two whole proofs -/
theorem collide_of (L L' : List Ward.Pt) (w : World) (h : Good L) (h' : Good L') (hK : KT w) :
    Calls Tryz.prog 18 #[Sv (Ward.fullText Sha.sha L), Sv (Ward.fullText Sha.sha L')] w fun e w' => ∃ r : Bool, e = .returned (.bool r) ∧ (r = false → ∀ a ∈ Ward.alls _ (Ward.rootShow Sha.sha L), ∀ b ∈ Ward.alls _ (Ward.rootShow Sha.sha L'), a ≠ b → Sha.sha a ≠ Sha.sha b) ∧ Below w.heap.size w w' := by
  have h1 := Nat.le_trans h.many (show 150 ≤ 256 by decide)
  have h2 := Nat.le_trans h'.many (show 150 ≤ 256 by decide)
  have d1 := Ward.tree_depth h1
  have d2 := Ward.tree_depth h2
  have l1 := Ward.fullText_len sha_len h.ok h1
  have l2 := Ward.fullText_len sha_len h'.ok h2
  exact collide_any ⟨(Ward.fullText Sha.sha L).toArray⟩ ⟨(Ward.fullText Sha.sha L').toArray⟩ _ _ (Ward.rootShow Sha.sha L) (Ward.rootShow Sha.sha L') w (Ward.root_wf sha_len h.ok) (Ward.root_wf sha_len h'.ok)
    (by show (Ward.fullText Sha.sha L).toArray.toList = _; rw [List.toList_toArray, Ward.root_shows]) (by show (Ward.fullText Sha.sha L').toArray.toList = _; rw [List.toList_toArray, Ward.root_shows]) (by omega) (by omega)
    (Nat.le_trans (Ward.root_few Sha.sha h.ok h1) (by decide)) (Nat.le_trans (Ward.root_few Sha.sha h'.ok h2) (by decide))
    (by show (Ward.fullText Sha.sha L).toArray.size ≤ _; rw [List.size_toArray]; omega) (by show (Ward.fullText Sha.sha L').toArray.size ≤ _; rw [List.size_toArray]; omega) hK
theorem fulls_eq {L L' : List Ward.Pt} {al : Bool} (h : Good L) (h' : Good L') (hal : al = true ↔ L = L') : (Ward.fullText Sha.sha L == Ward.fullText Sha.sha L') = al := by
  rw [Bool.eq_iff_iff, beq_iff_eq, hal]
  exact ⟨fun e => Ward.fullText_inj sha_len h.ok h'.ok e, fun e => by rw [e]⟩
theorem full_some (L : List Ward.Pt) : Ward.fullText Sha.sha L ≠ [] := Ward.full_ne _ _ _
end Go.Proofs.YtenaelkbgkpllaaGreatDoor
/- The law Bound: its walk. -/
namespace Go.Proofs.YtenaelkbgkpllaaGreatDoor
open Go.RowKit

theorem tdiv_fits (c : Int) (k : Nat) (h0 : -9223372036854775808 ≤ c) (h1 : c ≤ 9223372036854775807) (hk : 2 ≤ k) : -9223372036854775808 ≤ c.tdiv k ∧ c.tdiv k ≤ 9223372036854775807 := by
  have h : (c.tdiv k).natAbs ≤ c.natAbs / 2 := by
    rw [Int.natAbs_tdiv, Int.natAbs_natCast]
    exact Nat.div_le_div_left hk (by decide)
  omega
theorem ids_take {l : List Ward.Pt} (h : Ward.Ids l) (i : Nat) (hi : i < l.length) : ∀ q ∈ l.take i, q.id ≠ l[i].id := by
  intro q hq
  obtain ⟨j, hj, rfl⟩ := List.getElem_of_mem hq
  rw [List.getElem_take]
  simp only [List.length_take] at hj
  exact List.pairwise_iff_getElem.1 h j i (by omega) hi (by omega)
/-- what Insert says to a point whose id is new -/
theorem new_code {L : List Ward.Pt} {p : Ward.Pt} (hp : p.Ok) (hn : ∀ q ∈ L, q.id ≠ p.id) (hl : L.length < 150) : insCode L p = 0 := by
  obtain ⟨_, _, _, _, _, _⟩ := hp
  unfold insCode
  rw [if_neg (by omega), if_neg (by omega), if_neg (fun ⟨q, hq, e⟩ => hn q hq e), if_neg (by omega)]
theorem fill_code {L2 k l : List Ward.Pt} {i : Nat} {p q : Ward.Pt} (hp : q.Ok) (hpk : L2.Perm k) (hids : k.map Ward.Pt.id = (l.take i).map Ward.Pt.id) (hid : Ward.Ids l) (hlt : i < l.length) (hl : l.length ≤ 39) (hi : l[i] = p) (hq : q.id = p.id) : insCode L2 q = 0 := by
  have hlk : k.length = i := by
    have h := congrArg List.length hids
    simp at h
    omega
  refine new_code hp (fun r hr e => ?_) (by rw [hpk.length_eq]; omega)
  have hqk := (List.mem_map (f := Ward.Pt.id)).2 ⟨r, hpk.mem_iff.1 hr, rfl⟩
  rw [hids] at hqk
  obtain ⟨q', hq', e'⟩ := List.mem_map.1 hqk
  have h := ids_take hid i hlt q' hq'
  rw [hi] at h
  exact h (e'.trans (e.trans hq))
theorem fill_ids {k l : List Ward.Pt} {i : Nat} {p q : Ward.Pt} (hids : k.map Ward.Pt.id = (l.take i).map Ward.Pt.id) (hlt : i < l.length) (hi : l[i] = p) (hq : q.id = p.id) : (k ++ [q]).map Ward.Pt.id = (l.take (i + 1)).map Ward.Pt.id := by
  rw [List.take_succ_eq_append_getElem hlt, List.map_append, List.map_append, hids, hi]
  simp [hq]
theorem perm_snoc {L k : List Ward.Pt} (p : Ward.Pt) (h : L.Perm k) : (Ward.ins p L).Perm (k ++ [p]) := (Ward.ins_perm p L).trans ((h.cons p).trans (List.perm_append_singleton p k).symm)
theorem fill_len {k l : List Ward.Pt} {i : Nat} (hids : k.map Ward.Pt.id = (l.take i).map Ward.Pt.id) (hi : i ≤ l.length) : k.length = i := by
  have h := congrArg List.length hids
  simp at h
  omega
/-- two points are one -/
def ptEq (p q : Ward.Pt) : Bool := p.id == q.id && (p.x == q.x && p.y == q.y)
theorem ptEq_iff (p q : Ward.Pt) : ptEq p q = true ↔ p = q := by
  obtain ⟨a, b, c⟩ := p
  obtain ⟨a', b', c'⟩ := q
  simp [ptEq]
theorem eqPt (p q : Ward.Pt) (W : World) : (Op.equalIn 10000 36 (.agg #[I p.id, I p.x, I p.y]) (.agg #[I q.id, I q.x, I q.y])).run Tryz.prog W = .ok (ptEq p q) W := by
  have u3 := Tryz.underlying3
  have a3 := Tryz.isAgg3
  have z3 := Tryz.sizeOf3
  have hS : Tryz.prog.underlying 36 = some (.struct (Tryz.prog.fieldsOf 36)) := by kernel_rfl
  have hp : Tryz.prog.stoodInHeld 36 = false := by kernel_rfl
  rw [show (10000 : Nat) = 9999 + 1 from rfl, run_equalIn_agg W 9999 36 _ _ hS hp]
  simp only [Program.fieldsOf, Tryz.underlying36]
  go_simp
  unfold ptEq
  by_cases h1 : p.id = q.id <;> by_cases h2 : p.x = q.x <;> by_cases h3 : p.y = q.y <;> simp [h1, h2, h3]
theorem alike_all {L L' l k : List Ward.Pt} (hs : Ward.Sorted L) (hs' : Ward.Sorted L') (hl : L.Perm l) (hk : L'.Perm k) : (decide (l.length = k.length) && l.all fun p => k.any (ptEq p)) = true ↔ L = L' := by
  rw [← Ward.alike_iff hs hs' hl hk, Bool.and_eq_true, decide_eq_true_eq, List.all_eq_true]
  refine and_congr Iff.rfl (forall_congr' fun p => forall_congr' fun _ => ?_)
  rw [List.any_eq_true]
  constructor
  · rintro ⟨q, hq, e⟩
    rw [(ptEq_iff p q).1 e]; exact hq
  · exact fun h => ⟨p, h, (ptEq_iff p p).2 rfl⟩
/-- raw numbers in an argument -/
structure Arg (w : World) (a : Option Addr) (code : List Int) : Prop where
  len : code.length ≤ 140737488355328
  fits : ∀ x ∈ code, -9223372036854775808 ≤ x ∧ x ≤ 9223372036854775807
  lies : code ≠ [] → ∃ g o, a = some ⟨g, o, none⟩ ∧ ∀ i (h : i < code.length), w.cell? ⟨g, o + i, none⟩ = some (I code[i])
theorem Arg.keep {w w' : World} {B : Nat} {a : Option Addr} {code : List Int} (h : Arg w a code) (hb : Below B w w') (hB : w.heap.size ≤ B) : Arg w' a code :=
  ⟨h.len, h.fits, fun hne => by
    obtain ⟨g, o, e, hc⟩ := h.lies hne
    exact ⟨g, o, e, fun i hi => (hb.cell (p := ⟨g, o + i, none⟩) (Nat.lt_of_lt_of_le (block_lt_of_cell (hc i hi)) hB)).trans (hc i hi)⟩⟩
/-- the calls that the law stands on -/
structure Calls2 : Prop where
  commit : ∀ (m : Nat) (v : Value) (L : List Ward.Pt) (w : World), IsMap w m v L → Good L → KT w → Calls Tryz.prog 16 #[.pointer (some ⟨m, 0, none⟩)] w fun e w' => e = .returned (.agg (commitV L).toArray) ∧ Below w.heap.size w w'
  prove : ∀ (m : Nat) (v : Value) (L : List Ward.Pt) (w : World), IsMap w m v L → Good L → KT w → Calls Tryz.prog 17 #[.pointer (some ⟨m, 0, none⟩), .agg #[I 0, I (-1000000), I (-1000000), I 1000000, I 1000000, I 0, I 0, I 0]] w fun e w' => e = .returned (.tuple #[Sv (Ward.fullText Sha.sha L), I 0]) ∧ Below w.heap.size w w'

set_option maxRecDepth 100000 in
set_option maxHeartbeats 20000000 in
theorem bound_any (C : Calls2) (a1 a2 : Option Addr) (c1 c2 : Nat) (code other : List Int) (ch : Int) (w : World) (h1 : Arg w a1 code) (h2 : Arg w a2 other) (hc0 : -9223372036854775808 ≤ ch) (hc1 : ch ≤ 9223372036854775807) (hK : KT w) (hW : WT w) :
    Calls Tryz.prog 7 #[.slice a1 code.length c1, .slice a2 other.length c2, I ch] w fun e w' => e = .returned (.bool true) ∧ Below w.heap.size w w' := by
  have HC := hide C
  have H1 := hide h1
  have H2 := hide h2
  have HK := hide hK
  have HW := hide hW
  clear h1 h2 hK hW
  go_enter Tryz.func7, Tryz.ntmps7
  go_wp2_with fail
  have hd1 := dice_new (w := w) (c := c1) H1.out.len H1.out.fits H1.out.lies
  refine (began_any (w.heap.size + 1) w.heap.size code 0 _ (by simp) hd1 (HK.out.below ((Below.refl _ _).alloc (Nat.le_refl _) _))).mono ?_
  rintro e w1 ⟨k1, m, v, L, vl, l, rfl, hH1, hp1, hn1, hl1⟩
  have hb1 : Below w.heap.size w w1 := by
    have hk := hH1.keeps
    exact keeps_new ((Below.refl w.heap.size w).alloc (Nat.le_refl _) _) hk (fun j e => by omega)
  have HP1 := hide (hH1.pair hp1)
  have HB1 := hide hb1
  have HL1 := hide hH1.list
  clear hd1 hH1
  go_wp2_with fail
  have hd2 := dice_new (w := w1) (c := c2) H2.out.len H2.out.fits (H2.out.keep hb1 (Nat.le_refl _)).lies
  have hK1 := HK.out.below hb1
  refine (began_any (w1.heap.size + 1) w1.heap.size other 0 _ (by simp) hd2 (hK1.below ((Below.refl _ _).alloc (Nat.le_refl _) _))).mono ?_
  rintro e w2 ⟨k2, n, v', L', vl', l', rfl, hH2, hp2, hn2, hl2⟩
  have hb2 : Below w1.heap.size w1 w2 := keeps_new ((Below.refl w1.heap.size w1).alloc (Nat.le_refl _) _) hH2.keeps (fun j e => by omega)
  have HP12 := hide (HP1.out.below hb2)
  have HP2 := hide (hH2.pair hp2)
  have HB2 := hide (HB1.out.trans (hb2.mono HB1.out.size))
  obtain ⟨al, cl, rfl, -⟩ := HP12.out.list.reads
  obtain ⟨al', cl', rfl, -⟩ := HP2.out.list.reads
  clear hd2 hH2 hb2 hK1 hb1 HP1 HB1
  go_upto_region 5 with fail
  go_cut [52] (fun v52 wx => ∃ b : Bool, v52 = .bool b ∧ (b = true → 0 < l.length) ∧ wx = w2)
  case first =>
    by_cases hpk : pickN ch 3 = 0
    · by_cases hl0 : 0 < l.length
      · go_wp2_with (go_at_call 13; refine (pick_any2 ch 3 _ hc0 hc1 (by decide) (by decide)).mono ?_; rintro _ _ ⟨rfl, rfl⟩; rw [hpk])
        go_meet
        exact ⟨true, by simp, fun _ => hl0, rfl⟩
      · go_wp2_with (go_at_call 13; refine (pick_any2 ch 3 _ hc0 hc1 (by decide) (by decide)).mono ?_; rintro _ _ ⟨rfl, rfl⟩; rw [hpk])
        go_meet
        exact ⟨false, by simp, fun h => absurd h (by decide), rfl⟩
    · go_wp2_with (go_at_call 13; refine (pick_any2 ch 3 _ hc0 hc1 (by decide) (by decide)).mono ?_; rintro _ _ ⟨rfl, rfl⟩)
      go_meet
      exact ⟨false, by simp, fun h => absurd h (by decide), rfl⟩
  case rest =>
    obtain ⟨b, rfl, hb0, hwx⟩ := hcut
    obtain rfl := hwx.symm
    clear hwx
    go_upto_if 52 with fail
    go_cut [6, 9, 10, 11, 12, 13] (fun _ v9 v10 _ _ _ wx => ∃ (n : Nat) (v' : Value) (L' l' : List Ward.Pt), v9 = .pointer (some ⟨n, 0, none⟩) ∧ Pair wx m v L (.slice al l.length cl) l ∧ Pair wx n v' L' v10 l' ∧ l'.length ≤ 39 ∧ Below w.heap.size w wx)
    case first =>
      cases b with
      | false =>
        go_wp2_with fail
        go_meet
        exact ⟨n, v', L', l', rfl, HP12.out, HP2.out, hl2, HB2.out⟩
      | true =>
        have hl0 := hb0 rfl
        clear hb0
        go_wp2_with fail
        refine (new_any _).mono ?_
        rintro e w3 ⟨rfl, hm3, hz3, hb3⟩
        have HF0 := hide (show Fill w2 w3 w2.heap.size (.slice none 0 0) [] (.slice none 0 0) [] from ⟨hm3, good_nil, World.ownsRow_nil _ _ _ _, Nat.le_refl _, fun g hg => by simp [Value.ownBlock] at hg, fun g hg => by simp [Value.ownBlock] at hg, hb3⟩)
        have HRL := hide HP12.out.list.reads
        have HNL := hide hn1
        have HID := hide ((Ward.ids_perm HP12.out.perm).1 HP12.out.good.ids)
        clear hm3 hz3 hb3 hn1
        go_wp2_with fail
        go_loopg [10, 11] l.length (fun gk v10 v11 wq => ∃ (i : Nat) (k L2 : List Ward.Pt) (v2 : Value), gk = l.length - i ∧ v11 = I i ∧ i ≤ l.length ∧ k.map Ward.Pt.id = (l.take i).map Ward.Pt.id ∧ L2.Perm k ∧ Fill w2 wq w2.heap.size v2 L2 v10 k)
        case atStart => exact ⟨0, [], [], .slice none 0 0, by omega, rfl, by omega, rfl, List.Perm.refl _, HF0.out⟩
        case round =>
          clear HF0
          obtain ⟨i, k, L2, v2, hgk, rfl, hi, hids, hpk, hF⟩ := hrel
          have HGK := hide hgk
          clear hgk
          have HF := hide hF
          have HIDS := hide hids
          have HPK := hide hpk
          clear hF hids hpk
          by_cases hlt : i < l.length
          · obtain ⟨a', c', e', hrd⟩ := HRL.out
            obtain ⟨g, o, e2, hpts⟩ := hrd (fun e => by subst e; simp at hlt)
            injection e' with e3 e4 e5
            rw [e2] at e3
            subst e3
            have hFb := HF.out.keeps
            have hpt := (hpts i hlt).below hFb (hpts i hlt).lt
            have hnr := HNL.out l[i] (List.getElem_mem hlt)
            have HPI := hide (show l[i] = l[i] from rfl)
            generalize hpi : l[i] = p at *
            clear HPI e2 e4 e5 hpts hrd
            obtain ⟨pi, px, py⟩ := p
            obtain ⟨q1, q2, q3⟩ := hpt
            simp only at q1 q2 q3 hnr
            have hq3 : 0 < ((l.length : Int)) := by omega
            have hdv3 : -9223372036854775808 ≤ ch.tdiv 3 ∧ ch.tdiv 3 ≤ 9223372036854775807 := tdiv_fits ch 3 hc0 hc1 (by decide)
            have hdv7 : -9223372036854775808 ≤ ch.tdiv 7 ∧ ch.tdiv 7 ≤ 9223372036854775807 := tdiv_fits ch 7 hc0 hc1 (by decide)
            have hr7 := pickN_range (ch.tdiv 7) 3 (by decide)
            have HPi := hide hpi
            clear hpi
            go_upto_if 72 with (go_at_call 13; refine (pick_any2 (ch.tdiv 3) l.length _ hdv3.1 hdv3.2 hq3 (by omega)).mono ?_; rintro _ _ ⟨rfl, rfl⟩)
            go_cut [] (fun wx => ∃ x' : Int, -7 ≤ x' ∧ x' ≤ 7 ∧ wx.heap[wr.heap.size]? = some (.cells #[I pi, I x', I py] 36 (0, 0)) ∧ Below wr.heap.size wr wx)
            case first =>
              by_cases hsel : (i : Int) = pickN (ch.tdiv 3) l.length
              · have hsb : ((i : Int) == pickN (ch.tdiv 3) l.length) = true := by simpa using hsel
                clear hsel
                have hcell := row3 (heap_alloc_new wr (.cells #[I pi, I px, I py] 36))
                obtain ⟨x1, x2, x3⟩ := hcell
                have hfz : (wr.alloc (.cells #[I pi, I px, I py] 36)).frozen? ⟨wr.heap.size, 1, none⟩ = false := frozen_of_row _ _ _ _ _ (heap_alloc_new wr _)
                have hw7 : IntKind.i64.wrap (ch.tdiv 7) = ch.tdiv 7 := by rw [IntKind.wrap_i64]; omega
                have hw8 : IntKind.i64.wrap (px + pickN (ch.tdiv 7) 3) = px + pickN (ch.tdiv 7) 3 := by rw [IntKind.wrap_i64]; omega
                have hw9 : IntKind.i64.wrap (px + pickN (ch.tdiv 7) 3 - 1) = px + pickN (ch.tdiv 7) 3 - 1 := by rw [IntKind.wrap_i64]; omega
                go_wp2_with fail
                go_region_with (go_at_call 13; go_must (refine (pick_any2 (ch.tdiv 7) 3 _ hdv7.1 hdv7.2 (by decide) (by decide)).mono ?_; rintro _ _ ⟨rfl, rfl⟩))
                all_goals
                  go_wp2_with fail
                  go_meet
                  exact ⟨px + pickN (ch.tdiv 7) 3 - 1, by omega, by omega, heap_alloc_new wr _, ((Below.refl _ _).alloc (Nat.le_refl _) _).drew⟩
              · go_wp2_with fail
                go_meet
                exact ⟨px, by omega, by omega, heap_alloc_new wr _, (Below.refl _ _).alloc (Nat.le_refl _) _⟩
            case rest =>
              obtain ⟨x', hx1, hx2, hrow, hbc⟩ := hcut
              obtain ⟨y1, y2, y3⟩ := row3 hrow
              have HF1 := hide (HF.out.below hbc)
              have HLK := hide (fill_len HIDS.out hi)
              have hcode := fill_code (q := ⟨pi, x', py⟩) ⟨by show 1 ≤ pi; omega, by show pi ≤ 1000000; omega, by show -1000000 ≤ x'; omega, by show x' ≤ 1000000; omega, by show -1000000 ≤ py; omega, by show py ≤ 1000000; omega⟩ HPK.out HIDS.out HID.out hlt hl1 HPi.out rfl
              clear q1 q2 q3 hbc hFb
              go_wp2_with fail
              refine (mapInsert_any w2.heap.size v2 L2 ⟨pi, x', py⟩ _ HF1.out.map HF1.out.good).mono ?_
              rintro e w5 ⟨rfl, v5, hm5, hf5, hk5⟩
              rw [hcode]
              rw [insList, if_pos hcode] at hm5
              have hG5 : Good (Ward.ins ⟨pi, x', py⟩ L2) := by
                have h := HF1.out.good.insert ⟨pi, x', py⟩
                rw [insList, if_pos hcode] at h
                exact h
              have HF5 := hide (HF1.out.insert hm5 hG5 hf5 hk5)
              have hr5 : w5.heap[wr.heap.size]? = some (.cells #[I pi, I x', I py] 36 (0, 0)) := by
                refine (hk5.block wr.heap.size (Array.getElem?_eq_some_iff.1 hrow).1 (fun e => ?_)).trans hrow
                rcases e with e | e
                · have := HF.out.map.lt; omega
                · have := HF.out.map.own.lt e.symm; omega
              obtain ⟨z1, z2, z3⟩ := row3 hr5
              obtain ⟨a10, c10, e10, -⟩ := HF5.out.list.reads
              subst e10
              obtain ⟨i0, hi0, hz0, hz1, hz2⟩ := info_parts Tryz.infoPt
              have HB7 := hide (fun o => HF5.out.below ((Below.refl w5.heap.size w5).alloc (Nat.le_refl _) o))
              have hw5 : w2.heap.size ≤ w5.heap.size := HF5.out.keeps.size
              have HNW := hide (row_src (o := 0) (n := 3) (heap_alloc_new w5 (.cells (P3 ⟨pi, x', py⟩).toArray 36)))
              clear HF5 HF1 HF hm5 hG5 hf5 hk5 hr5 hrow hcode y1 y2 y3
              go_wp2_with (at_builtin; refine wpList_append_own2 _ rfl (.tmp 86) (.tmp 88) 27 rfl w2.heap.size 36 i0 (.agg #[I 0, I 0, I 0]) 3 24 Tryz.underlying27 hi0 hz0 hz1 hz2 rfl (by decide) _ k.length (k.flatMap P3) rfl (HB7.out _).list ⟨w5.heap.size, 0, none⟩ 1 1 (P3 ⟨pi, x', py⟩) rfl rfl HNW.out (fun u hu => cells_one (L := [⟨pi, x', py⟩]) u (by simpa using hu)) (by have := HLK.out; unfold maxLen; omega) (by have := HLK.out; omega) (by simp; omega) ?_)
              intro v10 w6 hown' hgrow hfr
              have ho6 : Own w6 w2.heap.size v10 (k ++ [⟨pi, x', py⟩]) := by
                unfold Own
                rw [List.length_append, List.flatMap_append]
                simpa using hown'
              have HB8 := hide ((HB7.out _).append ho6 hgrow hfr)
              clear hown' hgrow hfr ho6 z1 z2 z3
              go_wp2_with fail
              go_roundg (l.length - (i + 1))
              case measure => have := HGK.out; omega
              case rel => exact ⟨i + 1, k ++ [⟨pi, x', py⟩], Ward.ins ⟨pi, x', py⟩ L2, v5, rfl, by go_num, hlt, fill_ids HIDS.out hlt HPi.out rfl, perm_snoc _ HPK.out, HB8.out⟩
          · have ei : i = l.length := by omega
            go_wp2_with fail
            go_meet
            exact ⟨w2.heap.size, v2, L2, k, rfl, HP12.out.below HF.out.keeps, HF.out.pair HPK.out, by
              have h := congrArg List.length HIDS.out
              simp at h
              omega, HB2.out.trans (HF.out.keeps.mono HB2.out.size)⟩
    case rest =>
      clear HP2 HP12 HB2
      obtain ⟨n, v', L', k, rfl, hP1, hP2, hk39, hbw⟩ := hcut
      have HP1 := hide hP1
      have HP2 := hide hP2
      have HBW := hide hbw
      have HR1 := hide hP1.list.reads
      have HR2 := hide hP2.list.reads
      obtain ⟨ak, ck, rfl, -⟩ := hP2.list.reads
      clear hP1 hP2 hbw
      have hlk : ((l.length : Int) == (k.length : Int)) = decide (l.length = k.length) := by
        by_cases h : l.length = k.length
        · rw [decide_eq_true h]; simp [h]
        · rw [decide_eq_false h]; simp; omega
      go_wp2_with fail
      go_loopg [14, 15, 16, 17] l.length (fun gk v14 v15 _ _ wq => ∃ i nn : Nat, gk = l.length - i ∧ v15 = I i ∧ i ≤ l.length ∧ v14 = .bool (decide (l.length = k.length) && (l.take i).all fun p => k.any (ptEq p)) ∧ wq = wc.drewN nn)
      case atStart => exact ⟨0, 0, by omega, rfl, by omega, by simp, rfl⟩
      case round =>
        obtain ⟨i, nn, hgk, rfl, hi, rfl, rfl⟩ := hrel
        have HGK := hide hgk
        clear hgk hlk
        by_cases hlt : i < l.length
        · obtain ⟨a', c', e', hrd⟩ := HR1.out
          obtain ⟨g, o, e2, hpts⟩ := hrd (fun e => by subst e; simp at hlt)
          injection e' with e3 e4 e5
          rw [e2] at e3
          subst e3
          have hpi := hpts i hlt
          have HT := hide (show (decide (l.length = k.length) && (l.take (i + 1)).all fun p => k.any (ptEq p)) = ((decide (l.length = k.length) && (l.take i).all fun p => k.any (ptEq p)) && k.any (ptEq l[i])) by rw [List.take_succ_eq_append_getElem hlt, List.all_append, Bool.and_assoc]; simp)
          generalize l[i] = p at *
          generalize (decide (l.length = k.length) && (l.take i).all fun p => k.any (ptEq p)) = b1 at *
          clear hpts hrd e2 e4 e5
          have HPI := hide hpi
          clear hpi
          go_wp2_with fail
          go_loopg [16, 17] k.length (fun gk v16 v17 wq => ∃ j mm : Nat, gk = k.length - j ∧ v17 = I j ∧ j ≤ k.length ∧ v16 = .bool ((k.take j).any (ptEq p)) ∧ wq = wc.drewN mm)
          case atStart => exact ⟨0, nn, by omega, rfl, by omega, by simp, rfl⟩
          case round =>
            obtain ⟨j, mm, hgj, rfl, hj, rfl, rfl⟩ := hrel
            have HGJ := hide hgj
            clear hgj
            by_cases hltj : j < k.length
            · obtain ⟨a2, c2', e2, hrd2⟩ := HR2.out
              obtain ⟨g2, o2, e3, hpts2⟩ := hrd2 (fun e => by subst e; simp at hltj)
              injection e2 with e4 e5 e6
              rw [e3] at e4
              subst e4
              have hqj := hpts2 j hltj
              have HT2 := hide (show (k.take (j + 1)).any (ptEq p) = ((k.take j).any (ptEq p) || ptEq p k[j]) by rw [List.take_succ_eq_append_getElem hltj, List.any_append]; simp)
              generalize k[j] = q at *
              generalize (k.take j).any (ptEq p) = b2 at *
              clear hpts2 hrd2 e3 e5 e6
              obtain ⟨wx, hwx⟩ : ∃ wx, wx = wc.drewN mm := ⟨_, rfl⟩
              rw [← hwx]
              have hp0 : PtAt wx g (o + i * 3) p := by rw [hwx]; exact HPI.out
              have hq0 : PtAt wx g2 (o2 + j * 3) q := by rw [hwx]; exact hqj
              have HX := hide hwx
              clear hwx hqj
              have hE := eqPt p q
              obtain ⟨p1, p2, p3⟩ := hp0
              obtain ⟨q1, q2, q3⟩ := hq0
              generalize ptEq p q = b3 at *
              cases b2 with
              | true =>
                go_wp2_with fail
                go_quiet (fail)
                go_wp2_with fail
                go_roundg (k.length - (j + 1))
                case measure => have := HGJ.out; omega
                case rel => exact ⟨j + 1, mm + nq, rfl, by go_num, hltj, by rw [HT2.out]; rfl, by rw [HX.out]; simp⟩
              | false =>
                go_wp2_with fail
                go_quiet (fail)
                go_wp2_with fail
                go_roundg (k.length - (j + 1))
                case measure => have := HGJ.out; omega
                case rel => exact ⟨j + 1, mm + nq, rfl, by go_num, hltj, by rw [HT2.out]; rfl, by rw [HX.out]; simp⟩
            · have ej : j = k.length := by omega
              subst ej
              rw [List.take_length]
              generalize k.any (ptEq p) = b4 at *
              cases b1 with
              | true =>
                go_wp2_with fail
                go_roundg (l.length - (i + 1))
                case measure => have := HGK.out; omega
                case rel => exact ⟨i + 1, mm, rfl, by go_num, hlt, by rw [HT.out]; rfl, rfl⟩
              | false =>
                go_wp2_with fail
                go_roundg (l.length - (i + 1))
                case measure => have := HGK.out; omega
                case rel => exact ⟨i + 1, mm, rfl, by go_num, hlt, by rw [HT.out]; rfl, rfl⟩
        · have ei : i = l.length := by omega
          subst ei
          rw [List.take_length]
          have HAL := hide (alike_all HP1.out.good.sorted HP2.out.good.sorted HP1.out.perm HP2.out.perm)
          generalize (decide (l.length = k.length) && l.all fun p => k.any (ptEq p)) = al at *
          obtain ⟨w5, hw5⟩ : ∃ w5, w5 = wc.drewN nn := ⟨_, rfl⟩
          rw [← hw5]
          have hb5 : Below wc.heap.size wc w5 := by rw [hw5]; exact ⟨rfl, rfl, rfl, Nat.le_refl _, fun _ _ => rfl⟩
          have HM1 := hide (HP1.out.map.below hb5)
          have HM2 := hide (HP2.out.map.below hb5)
          have HB5 := hide (HBW.out.trans (hb5.mono HBW.out.size))
          clear hw5 hb5
          have HG1 := hide HP1.out.good
          have HG2 := hide HP2.out.good
          have HST := hide (fulls_eq HG1.out HG2.out HAL.out)
          have HEQ := hide (eqCom L L')
          have HCO := hide (fun w hK => collide_of L L' w HG1.out HG2.out hK)
          have hn1 := List.isEmpty_eq_false_iff.2 (full_some L)
          have hn2 := List.isEmpty_eq_false_iff.2 (full_some L')
          have HCA := hide (fun w hM hK => HC.out.commit m v L w hM HG1.out hK)
          have HCB := hide (fun w hM hK => HC.out.commit n v' L' w hM HG2.out hK)
          have HPA := hide (fun w hM hK => HC.out.prove m v L w hM HG1.out hK)
          have HPB := hide (fun w hM hK => HC.out.prove n v' L' w hM HG2.out hK)
          have cA := com_of L
          have cB := com_of L'
          have HFO := hide (fun (r : Bool) hne e hr => found_of (r := r) HG1.out HG2.out hne e hr)
          generalize commitV L = CA at *
          generalize commitV L' = CB at *
          generalize Ward.fullText Sha.sha L = FA at *
          generalize Ward.fullText Sha.sha L' = FB at *
          have HK5 := hide (HK.out.below HB5.out)
          have HW5 := hide (HW.out.below HB5.out)
          clear HP1 HP2 HR1 HR2 HBW HGK
          go_wp2_with fail
          refine (HCA.out w5 HM1.out HK5.out).mono ?_
          rintro e w6 ⟨rfl, hb6⟩
          have hA6 : Below w5.heap.size w5 (w6.alloc (.cells CA.toArray 41)) := hb6.alloc hb6.size _
          have r6 := heap_alloc_new w6 (.cells CA.toArray 41)
          have z6 : w6.heap.size < (w6.alloc (.cells CA.toArray 41)).heap.size := by simp
          go_wp2_with (refine wpList_store_row rfl 41 (.tmp 18) (.tmp 124) rfl w6.heap.size CA.toArray rfl rfl 41 _ (heap_alloc_new w6 _) cA.info (by rw [cA.size]; rfl) cA.one ?_; rw [World.setRow_alloc_new])
          generalize w6.alloc (.cells CA.toArray 41) = w7 at *
          refine (HCB.out w7 (HM2.out.below hA6) (HK5.out.below hA6)).mono ?_
          rintro e w8 ⟨rfl, hb8⟩
          have hA8 : Below w5.heap.size w5 (w8.alloc (.cells CB.toArray 41)) := (hA6.trans (hb8.mono hA6.size)).alloc (Nat.le_trans hA6.size hb8.size) _
          have r68 : (w8.alloc (.cells CB.toArray 41)).heap[w6.heap.size]? = some (.cells CA.toArray 41 (0, 0)) := (Below.heap_alloc _ _ _ (Nat.lt_of_lt_of_le z6 hb8.size)).trans ((hb8.block _ z6).trans r6)
          have r8 := heap_alloc_new w8 (.cells CB.toArray 41)
          have z8 : w6.heap.size < w8.heap.size := Nat.lt_of_lt_of_le z6 hb8.size
          have z9 : w8.heap.size < (w8.alloc (.cells CB.toArray 41)).heap.size := by simp
          obtain ⟨g0, g1, g2, g3, g4, g5, g6, g7⟩ := (HW5.out.below hA8).cells
          have HR6 := hide r68
          have HR8 := hide r8
          have HA8 := hide hA8
          have Z8 := hide z8
          have Z9 := hide z9
          clear hA6 r6 z6 hb6 hb8 r68 r8 hA8 z8 z9
          go_wp2_with (refine wpList_store_row rfl 41 (.tmp 19) (.tmp 126) rfl w8.heap.size CB.toArray rfl rfl 41 _ (heap_alloc_new w8 _) cB.info (by rw [cB.size]; rfl) cB.one ?_; rw [World.setRow_alloc_new])
          generalize w8.alloc (.cells CB.toArray 41) = w9 at *
          refine (HPA.out w9 (HM1.out.below HA8.out) (HK5.out.below HA8.out)).mono ?_
          rintro e w10 ⟨rfl, hb10⟩
          have hA10 := HA8.out.trans (hb10.mono HA8.out.size)
          have HR6 := hide ((hb10.block w6.heap.size (Nat.lt_trans Z8.out Z9.out)).trans HR6.out)
          have HR8 := hide ((hb10.block w8.heap.size Z9.out).trans HR8.out)
          have Z10 := hide (Nat.lt_of_lt_of_le Z9.out hb10.size)
          clear g0 g1 g2 g3 g4 g5 g6 g7
          obtain ⟨g0, g1, g2, g3, g4, g5, g6, g7⟩ := (HW5.out.below hA10).cells
          clear hb10
          go_wp2_with fail
          refine (HPB.out w10 (HM2.out.below hA10) (HK5.out.below hA10)).mono ?_
          rintro e w11 ⟨rfl, hb11⟩
          have hA11 := hA10.trans (hb11.mono hA10.size)
          have HR6 := hide ((hb11.block w6.heap.size (Nat.lt_trans Z8.out Z10.out)).trans HR6.out)
          have HR8 := hide ((hb11.block w8.heap.size Z10.out).trans HR8.out)
          have HA11 := hide hA11
          have HFIN := hide (HB5.out.trans (hA11.mono HB5.out.size))
          clear g0 g1 g2 g3 g4 g5 g6 g7 hb11 hA10 hA11 HA8 HPA HPB HCA HCB
          have hst := HST.out
          cases al with
          | true =>
            have hLL := HAL.out.1 rfl
            have hE : ∀ W, (Op.equalIn 10000 41 (.agg CA.toArray) (.agg CB.toArray)).run Tryz.prog W = .ok true W := fun W => by rw [HEQ.out W, hLL]; simp
            clear hLL
            go_wp2_with (first | (refine wpList_load_row rfl 41 (.tmp 18) rfl w6.heap.size rfl 41 CA.toArray (0, 0) _ HR6.out Tryz.underlying41 rfl cA.info ?_) | (refine wpList_load_row rfl 41 (.tmp 19) rfl w8.heap.size rfl 41 CB.toArray (0, 0) _ HR8.out Tryz.underlying41 rfl cB.info ?_))
            go_ret
            exact ⟨rfl, HFIN.out⟩
          | false =>
            have HNE := hide (show L ≠ L' from fun e => absurd (HAL.out.2 e) (by decide))
            by_cases hroot : Sha.sha (Ward.rootText Sha.sha L) = Sha.sha (Ward.rootText Sha.sha L') ∧ L.length = L'.length
            · have hE : ∀ W, (Op.equalIn 10000 41 (.agg CA.toArray) (.agg CB.toArray)).run Tryz.prog W = .ok true W := fun W => by rw [HEQ.out W, decide_eq_true hroot.1, hroot.2]; simp
              have HRT := hide hroot
              clear hroot
              go_wp2_with (first | (refine wpList_load_row rfl 41 (.tmp 18) rfl w6.heap.size rfl 41 CA.toArray (0, 0) _ HR6.out Tryz.underlying41 rfl cA.info ?_) | (refine wpList_load_row rfl 41 (.tmp 19) rfl w8.heap.size rfl 41 CB.toArray (0, 0) _ HR8.out Tryz.underlying41 rfl cB.info ?_))
              refine (HCO.out w11 (HK5.out.below HA11.out)).mono ?_
              rintro e w12 ⟨r, rfl, hr, hb12⟩
              have hrt := HFO.out r HNE.out HRT.out.1 hr
              subst hrt
              have HS6 := hide ((hb12.block w6.heap.size (Array.getElem?_eq_some_iff.1 HR6.out).1).trans HR6.out)
              have HS8 := hide ((hb12.block w8.heap.size (Array.getElem?_eq_some_iff.1 HR8.out).1).trans HR8.out)
              have HFI2 := hide (HFIN.out.trans (hb12.mono HFIN.out.size))
              clear hr hb12
              go_wp2_with (first | (refine wpList_load_row rfl 41 (.tmp 18) rfl w6.heap.size rfl 41 CA.toArray (0, 0) _ HS6.out Tryz.underlying41 rfl cA.info ?_) | (refine wpList_load_row rfl 41 (.tmp 19) rfl w8.heap.size rfl 41 CB.toArray (0, 0) _ HS8.out Tryz.underlying41 rfl cB.info ?_))
              go_ret
              exact ⟨rfl, HFI2.out⟩
            · have hE : ∀ W, (Op.equalIn 10000 41 (.agg CA.toArray) (.agg CB.toArray)).run Tryz.prog W = .ok false W := fun W => by
                rw [HEQ.out W]
                congr 1
                rw [Bool.and_eq_false_iff]
                by_cases h1 : Sha.sha (Ward.rootText Sha.sha L) = Sha.sha (Ward.rootText Sha.sha L')
                · refine .inr ?_
                  have h2 : ¬ L.length = L'.length := fun e => hroot ⟨h1, e⟩
                  simp
                  omega
                · exact .inl (decide_eq_false h1)
              clear hroot
              go_wp2_with (first | (refine wpList_load_row rfl 41 (.tmp 18) rfl w6.heap.size rfl 41 CA.toArray (0, 0) _ HR6.out Tryz.underlying41 rfl cA.info ?_) | (refine wpList_load_row rfl 41 (.tmp 19) rfl w8.heap.size rfl 41 CB.toArray (0, 0) _ HR8.out Tryz.underlying41 rfl cB.info ?_))
              go_ret
              exact ⟨rfl, HFIN.out⟩
end Go.Proofs.YtenaelkbgkpllaaGreatDoor
