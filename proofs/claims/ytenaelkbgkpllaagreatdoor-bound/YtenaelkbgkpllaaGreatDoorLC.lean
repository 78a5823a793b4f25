/- Commitments compared. -/
import Derived.Test.YtenaelkbgkpllaaGreatDoorLA
namespace Go.Proofs.YtenaelkbgkpllaaGreatDoor
open Go.RowKit

/-- a digest and a number as values -/
def rootV (l : List UInt8) (n : Int) : List Value := l.map Y ++ [I n]
theorem Tryz.infoCommit : (Tryz.prog.info? 41).map (·.size) = some 33 := by kernel_rfl
theorem rootV_len (l : List UInt8) (n : Int) (h : l.length = 32) : (rootV l n).length = 33 := by simp [rootV, h]
theorem rootV_one (l : List UInt8) (n : Int) : (rootV l n).toArray.all (·.oneCell') = true := by
  rw [List.all_toArray, List.all_eq_true]
  intro v hv
  rcases List.mem_append.1 hv with hv | hv
  · obtain ⟨b, _, rfl⟩ := List.mem_map.1 hv; rfl
  · rw [List.mem_singleton.1 hv]; rfl
theorem part_root (l : List UInt8) (n : Int) (h : l.length = 32) (W : World) : (part 39 (rootV l n).toArray 0).run Tryz.prog W = .ok (.agg (l.map Y).toArray) W := by
  have a := Tryz.isAgg39 W
  have e : List.take 32 (rootV l n) = List.map Y l := by
    rw [rootV, List.take_append_of_le_length (by simp [h]), List.take_of_length_le (by simp [h])]
  simp [part, Sem.run_bind, a, e]
theorem part_count (l : List UInt8) (n : Int) (h : l.length = 32) (W : World) : (part 3 (rootV l n).toArray 32).run Tryz.prog W = .ok (I n) W := by
  have e : (rootV l n).toArray[32]? = some (I n) := by
    rw [List.getElem?_toArray, rootV, List.getElem?_append_right (by simp [h])]
    simp [h]
  simp [part, Sem.run_bind, Tryz.isAgg3, e]
theorem eqCommit (l m : List UInt8) (a b : Int) (hl : l.length = 32) (hm : m.length = 32) (W : World) :
    (Op.equalIn 10000 41 (.agg (rootV l a).toArray) (.agg (rootV m b).toArray)).run Tryz.prog W = .ok (decide (l = m) && (a == b)) W := by
  have hS : Tryz.prog.underlying 41 = some (.struct (Tryz.prog.fieldsOf 41)) := by kernel_rfl
  have hp : Tryz.prog.stoodInHeld 41 = false := by kernel_rfl
  rw [show (10000 : Nat) = 9999 + 1 from rfl, run_equalIn_agg W 9999 41 _ _ hS hp]
  simp only [Program.fieldsOf, Tryz.underlying41]
  have e2 : (Op.equalIn 9999 3 (I a) (I b)).run Tryz.prog W = .ok (a == b) W := run_equalIn_int W 9998 3 .i64 .i64 a b Tryz.underlying3
  simp only [Op.eqFields, Sem.run_bind, Sem.run_ite, part_root l a hl, part_root m b hm, part_count l a hl, part_count m b hm, Result.andThen_ok, eqArrD 9997 l m hl hm W, e2]
  cases decide (l = m) <;> cases a == b <;> simp
/-- what a commitment is as values -/
def commitV (L : List Ward.Pt) : List Value := rootV (Sha.sha (Ward.rootText Sha.sha L)) L.length
/-- a commitment's values, kept shut -/
structure Com (C : List Value) : Prop where
  size : C.toArray.size = 33
  one : C.toArray.all (·.oneCell') = true
  info : (Tryz.prog.info? 41).map (·.size) = some C.toArray.size
theorem com_of (L : List Ward.Pt) : Com (commitV L) := by
  have h : (commitV L).toArray.size = 33 := by rw [List.size_toArray]; exact rootV_len _ _ rfl
  exact ⟨h, rootV_one _ _, by rw [h]; exact Tryz.infoCommit⟩
theorem eqCom (L L' : List Ward.Pt) (W : World) : (Op.equalIn 10000 41 (.agg (commitV L).toArray) (.agg (commitV L').toArray)).run Tryz.prog W = .ok (decide (Sha.sha (Ward.rootText Sha.sha L) = Sha.sha (Ward.rootText Sha.sha L')) && ((L.length : Int) == (L'.length : Int))) W := eqCommit _ _ _ _ rfl rfl W
theorem sha_len (l : List UInt8) : (Sha.sha l).length = 32 := rfl
theorem WT.cells {w : World} (h : WT w) : w.cell? ⟨0, 0, none⟩ = some (I 0) ∧ w.cell? ⟨0, 1, none⟩ = some (I (-1000000)) ∧ w.cell? ⟨0, 2, none⟩ = some (I (-1000000)) ∧ w.cell? ⟨0, 3, none⟩ = some (I 1000000) ∧ w.cell? ⟨0, 4, none⟩ = some (I 1000000) ∧ w.cell? ⟨0, 5, none⟩ = some (I 0) ∧ w.cell? ⟨0, 6, none⟩ = some (I 0) ∧ w.cell? ⟨0, 7, none⟩ = some (I 0) := h
/-- of two maps that are not alike, with one commitment, two texts of one digest are found -/
theorem found_of {L L' : List Ward.Pt} {r : Bool} (h : Good L) (h' : Good L') (hne : L ≠ L') (e : Sha.sha (Ward.rootText Sha.sha L) = Sha.sha (Ward.rootText Sha.sha L'))
    (hr : r = false → ∀ a ∈ Ward.alls _ (Ward.rootShow Sha.sha L), ∀ b ∈ Ward.alls _ (Ward.rootShow Sha.sha L'), a ≠ b → Sha.sha a ≠ Sha.sha b) : r = true := by
  cases r with
  | true => rfl
  | false =>
    obtain ⟨a, ha, b, hb, h1, h2⟩ := Ward.root_found sha_len h.ok h'.ok hne e
    exact absurd h2 (hr rfl a ha b hb h1)
/-- collide of two whole proofs -/
theorem collide_of (L L' : List Ward.Pt) (w : World) (h : Good L) (h' : Good L') (hK : KT w) :
    Calls Tryz.prog 18 #[Sv (Ward.fullText Sha.sha L), Sv (Ward.fullText Sha.sha L')] w fun e w' => ∃ r : Bool, e = .returned (.bool r) ∧ (r = false → ∀ a ∈ Ward.alls _ (Ward.rootShow Sha.sha L), ∀ b ∈ Ward.alls _ (Ward.rootShow Sha.sha L'), a ≠ b → Sha.sha a ≠ Sha.sha b) ∧ Below w.heap.size w w' := by
  have h1 := Nat.le_trans h.many (show 150 ≤ 256 by decide)
  have h2 := Nat.le_trans h'.many (show 150 ≤ 256 by decide)
  have d1 := Ward.tree_depth h1
  have d2 := Ward.tree_depth h2
  have l1 := Ward.fullText_len sha_len h.ok h1
  have l2 := Ward.fullText_len sha_len h'.ok h2
  exact collide_any ⟨(Ward.fullText Sha.sha L).toArray⟩ ⟨(Ward.fullText Sha.sha L').toArray⟩ _ _ (Ward.rootShow Sha.sha L) (Ward.rootShow Sha.sha L') w (Ward.root_wf sha_len h.ok) (Ward.root_wf sha_len h'.ok)
    (by show (Ward.fullText Sha.sha L).toArray.toList = _; rw [List.toList_toArray, Ward.root_shows]) (by show (Ward.fullText Sha.sha L').toArray.toList = _; rw [List.toList_toArray, Ward.root_shows]) (by omega) (by omega)
    (Nat.le_trans (Ward.root_few Sha.sha h.ok h1) (by decide)) (Nat.le_trans (Ward.root_few Sha.sha h'.ok h2) (by decide))
    (by show (Ward.fullText Sha.sha L).toArray.size ≤ _; rw [List.size_toArray]; omega) (by show (Ward.fullText Sha.sha L').toArray.size ≤ _; rw [List.size_toArray]; omega) hK
theorem fulls_eq {L L' : List Ward.Pt} {al : Bool} (h : Good L) (h' : Good L') (hal : al = true ↔ L = L') : (Ward.fullText Sha.sha L == Ward.fullText Sha.sha L') = al := by
  rw [Bool.eq_iff_iff, beq_iff_eq, hal]
  exact ⟨fun e => Ward.fullText_inj sha_len h.ok h'.ok e, fun e => by rw [e]⟩
theorem full_some (L : List Ward.Pt) : Ward.fullText Sha.sha L ≠ [] := Ward.full_ne _ _ _
end Go.Proofs.YtenaelkbgkpllaaGreatDoor
