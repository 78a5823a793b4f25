/- Points sorted: the call. -/
import Derived.Test.YtenaelkbgkpllaaGreatDoorTS
import Derived.Shelf.SlSortCmp.NoneTotal
namespace Go.Proofs.YtenaelkbgkpllaaGreatDoor
open Go.RowKit

theorem heap_mapBlock {w : World} {g : Nat} {f : Array Value → Array Value} {c : Array Value} {e : TypeId} {fr : Nat × Nat} (h : w.heap[g]? = some (.cells c e fr)) : (Go.Sort.mapBlock w g f).heap[g]? = some (.cells (f c) e fr) := by
  show (w.heap.modify g (Go.Sort.onCells f))[g]? = _
  rw [Array.getElem?_modify, if_pos rfl, h]
  rfl
theorem heap_mapBlock_other {w : World} {g k : Nat} {f : Array Value → Array Value} (h : g ≠ k) : (Go.Sort.mapBlock w g f).heap[k]? = w.heap[k]? := by
  show (w.heap.modify g (Go.Sort.onCells f))[k]? = _
  rw [Array.getElem?_modify, if_neg h]
theorem putCells_size (F cur : Array Value) : (Go.Sort.putCells id 0 F cur).size = cur.size := by
  unfold Go.Sort.putCells
  exact Array.size_mapIdx
theorem putCells_take (F : List Value) (cur : Array Value) (h : F.length ≤ cur.size) : (Go.Sort.putCells id 0 F.toArray cur).toList.take F.length = F := by
  apply List.ext_getElem?
  intro k
  rw [List.getElem?_take]
  by_cases hk : k < F.length
  · rw [if_pos hk, Array.getElem?_toList]
    unfold Go.Sort.putCells
    rw [Array.getElem?_mapIdx, Array.getElem?_eq_getElem (by omega), Option.map_some, if_pos (by rw [List.size_toArray]; omega), List.getElem?_eq_getElem hk, Nat.sub_zero, getElem!_pos _ k (by simpa using hk), List.getElem_toArray]
    rfl
  · rw [if_neg hk, List.getElem?_eq_none (by omega)]
theorem perm_of_in {d d' : Array Ward.Pt} (h : Go.Sort.PermIn 0 d.size d d') : d'.toList.Perm d.toList := by
  obtain ⟨h1, -, h3⟩ := h
  have e1 : d'.extract 0 d.size = d' := by rw [← h1]; exact Array.extract_size
  have e2 : d.extract 0 d.size = d := Array.extract_size
  rw [e1, e2] at h3
  exact h3
theorem sorted_of_in {d : Array Ward.Pt} (h : Go.Sort.SortedIn (ltOf cmpP) 0 d.size d) (hi : Ward.Ids d.toList) : Ward.Sorted d.toList := by
  refine List.pairwise_iff_getElem.2 fun i j hi' hj hij => ?_
  have hj' : j < d.size := by simpa using hj
  have h1 := h i j (Nat.zero_le _) hij hj'
  rw [ltP, decide_eq_false_iff_not, getElem!_pos d j hj', getElem!_pos d i (by omega)] at h1
  have hne := List.pairwise_iff_getElem.1 hi i j hi' hj hij
  simp only [Array.getElem_toList] at hne ⊢
  exact Ward.lt_tot (Ne.symm hne) h1
theorem sort_own {w : World} {B g c n : Nat} {L : List Ward.Pt} {d' : Array Ward.Pt} {os : Array Obj} (h : Own w B (.slice (some ⟨g, 0, none⟩) L.length c) L) (hs : d'.size = L.length) :
    Own (sortWorldK P3 3 w g 0 n d' os) B (.slice (some ⟨g, 0, none⟩) L.length c) d'.toList ∧ w.grownBy (sortWorldK P3 3 w g 0 n d' os) (some g) := by
  have hlt : g < w.heap.size := h.lt rfl
  have hl : d'.toList.length = L.length := by simpa using hs
  rcases h.2 with ⟨e, _⟩ | ⟨g', cap, cur, e, hB, hg, hcap, hmax, hcs, htake⟩
  · cases e
  · injection e with e1 e2 e3
    injection e1 with e1
    injection e1 with e1
    subst e1 e3
    have hr : (sortWorldK P3 3 w g 0 n d' os).heap[g]? = some (.cells (Go.Sort.putCells id 0 (Go.Sort.flatK P3 3 d') cur) 36 (0, 0)) := by
      unfold sortWorldK
      rw [Go.Sort.heap_grow_old _ _ (by rw [Go.Sort.size_putRowK]; exact hlt)]
      exact heap_mapBlock (w := Go.Sort.ahead w n) hg
    have hf : Go.Sort.flatK P3 3 d' = (d'.toList.flatMap P3).toArray := by
      have := flatK_eq d'.toList
      rw [Array.toArray_toList] at this
      exact this
    refine ⟨⟨by rw [cells_len], .inr ⟨g, c, _, by rw [hl], hB, hr, by rw [hl]; exact hcap, hmax, by rw [putCells_size]; exact hcs, ?_⟩⟩, ⟨rfl, rfl, rfl, ?_, fun k hk hne => ?_⟩⟩
    · rw [hf]
      have h2 := putCells_take (d'.toList.flatMap P3) cur (by rw [cells_len, hl, hcs]; exact Nat.mul_le_mul_right _ hcap)
      rw [cells_len] at h2
      exact h2
    · unfold sortWorldK
      rw [Go.Sort.size_grow, Go.Sort.size_putRowK]
      exact Nat.le_add_right _ _
    · unfold sortWorldK
      rw [Go.Sort.heap_grow_old _ _ (by rw [Go.Sort.size_putRowK]; exact hk)]
      exact heap_mapBlock_other (w := Go.Sort.ahead w n) (fun e => hne (by rw [e]))
/-- the points of a row, put in order -/
theorem sort_any (v : Value) (l : List Ward.Pt) (w : World) (B : Nat) (hown : Own w B v l) (hl : l.length ≤ 100000) (hi : Ward.Ids l) :
    Calls Tryz.prog 77 #[v, .func (.func 35) #[] #[]] w fun e w' => e = .returned (.tuple #[]) ∧ Own w' B v (Ward.sortP l) ∧ w.grownBy w' v.ownBlock := by
  rcases hown.2 with ⟨rfl, h0⟩ | ⟨g, cap, cur, rfl, _⟩
  · have hn : l = [] := List.length_eq_zero_iff.1 h0
    subst hn
    refine (AnyF.slices_SortFunc_none Tryz.sortPt none 0 (.func (.func 35) #[] #[]) w).mono ?_
    rintro _ _ ⟨rfl, rfl⟩
    exact ⟨rfl, World.ownsRow_nil _ _ _ _, grown_of_below (Below.refl _ _)⟩
  · have eg : ∀ args w, (callFunc 35 args).run Tryz.prog w = .ok (.enter 35 args) w := enters_of Tryz.func35 (by kernel_rfl) rfl
    have hcon := AnyQ.slices_SortFunc Tryz.sortPt 3 Tryz.isAgg36 Tryz.sizeOf36 P3 (fun _ => rfl) (fun x v hv => cells_one (L := [x]) v (by simpa using hv)) cmpP swoP 35 #[] g 0 cap l.toArray w eg (fun _ _ _ _ x y => compare_grow x y _) (own_holds hown) (hown.lt rfl) (by rw [List.size_toArray]; omega)
    rw [List.size_toArray] at hcon
    refine Calls.mono hcon ?_
    rintro _ _ ⟨rfl, d', n, os, hp, hs, rfl⟩
    have hsz : d'.size = l.length := by have := hp.1; rw [List.size_toArray] at this; exact this
    have hp' : d'.toList.Perm l := by
      have := perm_of_in (d := l.toArray) (by rw [List.size_toArray]; exact hp)
      simpa using this
    have hids : Ward.Ids d'.toList := (Ward.ids_perm hp').2 hi
    have e : Ward.sortP l = d'.toList := Ward.sortP_eq (sorted_of_in (by rw [hsz]; exact hs) hids) hp' hi
    obtain ⟨h1, h2⟩ := sort_own (n := n) (os := os) hown hsz
    rw [e]
    exact ⟨rfl, h1, h2⟩
end Go.Proofs.YtenaelkbgkpllaaGreatDoor
