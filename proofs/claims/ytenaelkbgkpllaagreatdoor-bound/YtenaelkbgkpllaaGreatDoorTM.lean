/- One level of nodes above another: the parts. -/
import Derived.Test.YtenaelkbgkpllaaGreatDoorTL
import Derived.Test.YtenaelkbgkpllaaGreatDoorLC
import Derived.Great.BuildSlice
import Derived.Deep.AppendLies
namespace Go.Proofs.YtenaelkbgkpllaaGreatDoor
open Go.RowKit

def zeroNode : Value := .agg (nodeV (.slice none 0 0) (.slice none 0 0) ⟨0, 0, 0, 0⟩ 0 zero32).toArray
theorem Tryz.infoNodeZ : (Tryz.prog.info? 90).map (fun i => (i.zero, i.size, i.bytes)) = some (some zeroNode, 39, 120) := by kernel_rfl
theorem fill_one {s : Nat} (hs : 0 < s) (M cells : Array Value) (hM : M.size = s) (hc : cells.size = s) : Instr.fill (fun i => some (i * s, s)) cells [(0, .agg M)] = some M := by
  obtain ⟨r, hr, hsz, hk⟩ := Great.fill_dense hs [.agg M] 0 cells (fun v hv => by rw [List.mem_singleton.1 hv]; exact hM) (by simp; omega)
  have e : r = M := by
    apply Array.ext_getElem?
    intro k
    rw [hk k]
    by_cases h : k < s
    · rw [if_pos (by simp; omega), Nat.div_eq_of_lt h, Nat.mod_eq_of_lt h]; rfl
    · rw [if_neg (by simp; omega), Array.getElem?_eq_none (by omega), Array.getElem?_eq_none (by omega)]
  subst e
  exact hr
theorem ownsRow_below {w w' : World} {B e size n : Nat} {v : Value} {xs : List Value} (h : w.ownsRow B e size v n xs) (hb : Below w.heap.size w w') : w'.ownsRow B e size v n xs := by
  refine ⟨h.1, ?_⟩
  rcases h.2 with h0 | ⟨g, cap, cur, rfl, hB, hg, r⟩
  · exact .inl h0
  · exact .inr ⟨g, cap, cur, rfl, hB, (hb.block g (Array.getElem?_eq_some_iff.1 hg).1).trans hg, r⟩
/-- a node put behind others -/
theorem append_node {w : World} {B : Nat} {v : Value} {n : Nat} {xs : List Value} (M : List Value) (hM : Row39 M) (hown : w.ownsRow B 90 39 v n xs) (hB : B ≤ w.heap.size) (hn : n ≤ 1000) :
    ∃ v' w', (Builtin.append_ #[86, 86] 86 #[v, .slice (some ⟨w.heap.size, 0, none⟩) 1 1]).run Tryz.prog (w.alloc (.cells M.toArray 90)) = .ok v' w' ∧ w'.ownsRow B 90 39 v' (n + 1) (xs ++ M) ∧ w.grownBy w' v.ownBlock ∧ Fresh w v v' := by
  obtain ⟨i0, hi0, hz0, hz1, hz2⟩ := info_parts Tryz.infoNodeZ
  obtain ⟨v', w', hr, ho, hg, hf⟩ := run_append_own2 (P := Tryz.prog) (w.alloc (.cells M.toArray 90)) B 86 86 90 i0 zeroNode 39 120 Tryz.underlying86 hi0 hz0 hz1 hz2 (nodeV_size (by rfl)) (by decide) v n xs (hown.alloc _) ⟨w.heap.size, 0, none⟩ 1 1 M (by rw [hM.len])
    (fun j u hj => by rw [Addr.add_lit, Nat.zero_add, cell_of_row _ _ _ _ _ _ (heap_alloc_new w _), List.getElem?_toArray]; exact hj)
    (fun u hu => Array.all_eq_true_iff_forall_mem.1 hM.one u (by simpa using hu)) (by unfold maxLen; omega) (by omega) (by simp; omega)
  refine ⟨v', w', hr, ho, ⟨hg.os, hg.tape, hg.output, Nat.le_trans (by simp) hg.size, fun j hj hne => (hg.block j (by simp; omega) hne).trans (Below.heap_alloc w _ j hj)⟩, ?_⟩
  rcases hf with hf | ⟨g, hf, hgs⟩
  · exact .inl hf
  · exact .inr ⟨g, hf, Nat.le_trans (by simp) hgs⟩
theorem flat_get {c : Nat} : ∀ (Us : List (List Value)) (j i : Nat), (∀ U ∈ Us, U.length = c) → i < c → Us.flatten[j * c + i]? = (Us[j]?).bind (fun U => U[i]?)
  | [], j, i, _, _ => by simp
  | U :: Us, 0, i, h, hi => by
    rw [List.flatten_cons, Nat.zero_mul, Nat.zero_add, List.getElem?_append_left (by rw [h U (by simp)]; exact hi)]
    rfl
  | U :: Us, j + 1, i, h, hi => by
    have hU := h U (by simp)
    have e : (j + 1) * c + i = c + (j * c + i) := by rw [Nat.succ_mul]; omega
    rw [List.flatten_cons, e, List.getElem?_append_right (by omega), hU, Nat.add_sub_cancel_left, flat_get Us j i (fun V hV => h V (by simp [hV])) hi]
    rfl
/-- a level of the tree: nodes in a row -/
def Level (w : World) (S : Nat → Prop) (v : Value) (n : Nat) (K : List (Ward.NT n)) : Prop := RowsAt (NodeIs w S n) w S v K ∧ ∃ a c, v = .slice a K.length c ∧ K.length ≤ c ∧ c ≤ maxLen
theorem level_of_own {w : World} {S : Nat → Prop} {B n m : Nat} {v : Value} {K : List (Ward.NT n)} {f : Nat → List Value} (ho : w.ownsRow B 90 39 v m ((List.range m).flatMap f)) (hK : K.length = m) (hm : 0 < m) (h39 : ∀ j, j < m → (f j).length = 39) (hn : ∀ j (h : j < K.length), NodeIs w S n K[j] (f j)) (hS : ∀ g, B ≤ g → g < w.heap.size → S g) : Level w S v n K := by
  have ho' := ho
  rcases ho.2 with ⟨_, h0⟩ | ⟨g, cap, cur, rfl, hB, hg, hcap, hmax, hcs, htake⟩
  · omega
  · subst hK
    refine ⟨⟨some ⟨g, 0, none⟩, cap, rfl, fun _ => ⟨g, 0, rfl, hS g hB (Array.getElem?_eq_some_iff.1 hg).1, fun j hj => ⟨f j, hn j hj, fun i u hu => ?_⟩⟩⟩, _, _, rfl, hcap, hmax⟩
    have hi : i < 39 := by rw [← h39 j hj]; exact (List.getElem?_eq_some_iff.1 hu).1
    have h := ho'.cells (g := g) rfl (j * 39 + i) u (by
      rw [List.flatMap_def, flat_get _ j i (fun U hU => by
        obtain ⟨k, hk, rfl⟩ := List.mem_map.1 hU
        exact h39 k (List.mem_range.1 hk)) hi]
      rw [List.getElem?_map, List.getElem?_range hj]
      exact hu)
    rw [Addr.add_lit] at h
    rw [Nat.zero_add] at h ⊢
    exact h
namespace Ward
/-- a node above these -/
def upN (n : Nat) (G : List (NT n)) : NT (n + 1) := ⟨[], G, boxL (G.map (boxN n)), (G.map (numN n)).sum, Sha.sha (textK n G)⟩
theorem sum_nat : ∀ (l : List Nat), (l.map (fun (x : Nat) => (x : Int))).sum = (l.sum : Nat)
  | [] => rfl
  | x :: l => by rw [List.map_cons, List.sum_cons, List.sum_cons, sum_nat l]; omega
theorem up_mk (n : Nat) (G : List (T n)) : upN (n + 1) (G.map (mk Sha.sha n)) = mk Sha.sha (n + 1) G := by
  have h1 : (G.map (mk Sha.sha n)).map (boxN (n + 1)) = G.map (box n) := by
    rw [List.map_map]; exact List.map_congr_left fun c _ => mk_box Sha.sha n c
  have h2 : ((G.map (mk Sha.sha n)).map (numN (n + 1))).sum = ((G.map (count n)).sum : Nat) := by
    rw [← sum_nat, List.map_map, List.map_map]
    congr 1
    exact List.map_congr_left fun c _ => mk_num Sha.sha n c
  unfold upN
  rw [h1, h2, mk_text]
  rfl
theorem fours_map {α β : Type} (f : α → β) (l : List α) : fours (l.map f) = (fours l).map (List.map f) := by
  simp [fours, List.map_drop, List.map_take]
end Ward
/-- the cells of a node above a group -/
def upV (g o n : Nat) (K : List (Ward.NT n)) (j : Nat) : List Value := nodeV (.slice none 0 0) (groupV 39 g o K.length j) (Ward.boxL (((K.drop (4 * j)).take 4).map (Ward.boxN n))) ((((K.drop (4 * j)).take 4).map (Ward.numN n)).sum) ((Sha.sha (Ward.textK n ((K.drop (4 * j)).take 4))).map Y)
theorem upV_row (g o n : Nat) (K : List (Ward.NT n)) (j : Nat) : Row39 (upV g o n K j) := nodeV_row (sha_len _)
theorem group_rows {w : World} {S : Nat → Prop} {g o n : Nat} {K : List (Ward.NT n)} {P : Ward.NT n → List Value → Prop} (hB : S g) (h : ∀ i (h : i < K.length), ∃ U, P K[i] U ∧ w.rangeAt g (o + i * 39) U) (j : Nat) :
    RowsAt P w S (groupV 39 g o K.length j) ((K.drop (4 * j)).take 4) := by
  have hl : ((K.drop (4 * j)).take 4).length = min 4 (K.length - 4 * j) := by simp
  refine ⟨some ⟨g, o + 4 * j * 39, none⟩, min 4 (K.length - 4 * j), by rw [hl]; rfl, fun _ => ⟨g, o + 4 * j * 39, rfl, hB, fun i hi => ?_⟩⟩
  rw [hl] at hi
  obtain ⟨U, hU, hr⟩ := h (4 * j + i) (by omega)
  refine ⟨U, ?_, ?_⟩
  · rw [List.getElem_take, List.getElem_drop]
    exact hU
  · rw [show o + 4 * j * 39 + i * 39 = o + (4 * j + i) * 39 by omega]
    exact hr
end Go.Proofs.YtenaelkbgkpllaaGreatDoor
