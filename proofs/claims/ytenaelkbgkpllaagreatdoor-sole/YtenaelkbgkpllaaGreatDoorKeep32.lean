/- Part 32 of what the claims on Bound, Small, Right and Sole rest on. -/
import Derived.Test.YtenaelkbgkpllaaGreatDoorKeep30
import Derived.Test.YtenaelkbgkpllaaGreatDoorKeep31
import Derived.Laws.BitsAllLaws
/- collide, of a text that is taken and is not the proof. -/
namespace Go.Proofs.YtenaelkbgkpllaaGreatDoor
open Go.RowKit

theorem shows_len : ∀ (n : Nat) (S : Ward.PT n), Ward.WF n S → (Ward.shows n S).length ≤ 300 * 5 ^ n
  | 0, S, _ => nomatch S
  | n + 1, .leaf b, h => by
    obtain ⟨k, hk, hb⟩ := h
    have h3 : 1 ≤ 5 ^ n := Nat.one_le_pow _ _ (by decide)
    show (1 :: UInt8.ofNat (b.length / 12) :: b).length ≤ _
    rw [List.length_cons, List.length_cons, hb, Nat.pow_succ]
    omega
  | n + 1, .node cs, h => by
    have key : ∀ (l : List (List UInt8 × (UInt8 ⊕ Ward.PT n))), Ward.Each (Ward.kidWF n) l → (l.flatMap (Ward.kidShow n)).length ≤ (53 + 300 * 5 ^ n) * l.length := by
      intro l
      induction l with
      | nil => intro _; simp
      | cons c l ih =>
        intro hl
        have h2 := ih (fun d hd => hl d (List.mem_cons_of_mem _ hd))
        have h1 := hl c List.mem_cons_self
        have h3 : (Ward.kidShow n c).length ≤ 53 + 300 * 5 ^ n := by
          obtain ⟨a, b⟩ := c
          obtain ⟨ha, hb⟩ := h1
          show (a ++ _).length ≤ _
          rw [List.length_append]
          cases b with
          | inl f => show a.length + [f].length ≤ _; simp only at ha; rw [ha, List.length_singleton]; omega
          | inr t =>
            have := shows_len n t hb
            show a.length + (1 :: Ward.shows n t).length ≤ _
            simp only at ha
            rw [ha, List.length_cons]
            omega
        rw [List.flatMap_cons, List.length_append, List.length_cons, Nat.mul_succ]
        omega
    have h1 := key cs h.2
    have h2 : (53 + 300 * 5 ^ n) * cs.length ≤ (53 + 300 * 5 ^ n) * 4 := Nat.mul_le_mul_left _ h.1
    have h3 : 1 ≤ 5 ^ n := Nat.one_le_pow _ _ (by decide)
    show (2 :: UInt8.ofNat cs.length :: cs.flatMap (Ward.kidShow n)).length ≤ _
    rw [List.length_cons, List.length_cons, Nat.pow_succ]
    omega
theorem collide_sole {q : Ward.Qr} {L : List Ward.Pt} (h : Good L) {s : List UInt8} {b : List Ward.Pt} (hv : Ward.verify (Sha.sha (Ward.rootText Sha.sha L)) (L.length : Nat) q s = (b, 0)) (hne : s ≠ Ward.proofText q L) (w : World) (hK : KT w) :
    Calls Tryz.prog 18 #[Sv s, Sv (Ward.proofText wholeQ L)] w fun e w' => e = .returned (.bool true) ∧ Below w.heap.size w w' := by
  obtain ⟨S, w1, w2, w3, w4⟩ := Ward.sole_found h.well hv hne
  have h1 := Nat.le_trans h.many (show 150 ≤ 256 by decide)
  have d1 := Ward.tree_depth h1
  have l1 := Ward.fullText_len sha_len h.ok h1
  have l2 := shows_len 6 S w1
  rw [w2] at l2
  have e6 : 300 * 5 ^ 6 = 4687500 := by decide
  rw [whole_full h]
  refine (collide_any ⟨s.toArray⟩ ⟨(Ward.fullText Sha.sha L).toArray⟩ _ _ S (Ward.rootShow Sha.sha L) w w1 (Ward.root_wf sha_len h.ok) w2.symm
    (by show (Ward.fullText Sha.sha L).toArray.toList = _; rw [List.toList_toArray, Ward.root_shows]) (by omega) (by omega) w3 (Nat.le_trans (Ward.root_few Sha.sha h.ok h1) (by decide))
    (by show s.toArray.size ≤ _; rw [List.size_toArray]; omega) (by show (Ward.fullText Sha.sha L).toArray.size ≤ _; rw [List.size_toArray]; omega) hK).mono ?_
  rintro e w' ⟨r, rfl, hr, hb⟩
  cases r with
  | true => exact ⟨rfl, hb⟩
  | false =>
    obtain ⟨a, ha, c, hc, n1, n2⟩ := w4
    exact absurd n2 (hr rfl a ha c hc n1)
end Go.Proofs.YtenaelkbgkpllaaGreatDoor
/- What the walk of Sole wants: the texts tried, read; a byte turned; a count that is one more. -/
namespace Go.Proofs.YtenaelkbgkpllaaGreatDoor
open Go.RowKit

theorem xor8 (a b : UInt8) : ∃ c : UInt8, bits .xor .u8 ((a.toNat : Nat) : Int) ((b.toNat : Nat) : Int) = ((c.toNat : Nat) : Int) := by
  refine ⟨a ^^^ b, ?_⟩
  rw [u8_xor_nat _ _ a.toNat_lt b.toNat_lt, UInt8.toNat_xor]
theorem OwnS.keeps {S : Nat → Prop} {w w' : World} {B : Nat} {v : Value} {ls : List (List UInt8)} (h : OwnS w B v ls) (hk : Keeps S w w') (hn : ∀ g, v.ownBlock = some g → ¬ S g) : OwnS w' B v ls := by
  refine ⟨h.1, ?_⟩
  rcases h.2 with h0 | ⟨g, cap, cur, rfl, hb, hg, r⟩
  · exact .inl h0
  · exact .inr ⟨g, cap, cur, rfl, hb, (hk.block g (Array.getElem?_eq_some_iff.1 hg).1 (hn g rfl)).trans hg, r⟩
theorem OwnS.ge {w : World} {B g : Nat} {v : Value} {ls : List (List UInt8)} (h : OwnS w B v ls) (hg : v.ownBlock = some g) : B ≤ g := (World.ownsRow.lt h g hg).1
theorem OwnS.text {w : World} {B : Nat} {v : Value} {ls : List (List UInt8)} (h : OwnS w B v ls) : ∃ a c, v = .slice a ls.length c ∧ ∀ i (hi : i < ls.length), ∃ g o, a = some ⟨g, o, none⟩ ∧ ∀ w', Below w.heap.size w w' → w'.cell? ⟨g, o + i, none⟩ = some (Sv ls[i]) := by
  rcases h.2 with ⟨rfl, h0⟩ | ⟨g, c, cur, rfl, _⟩
  · have e : ls = [] := by simpa using h0
    subst e
    exact ⟨none, 0, rfl, fun i hi => absurd hi (by simp)⟩
  · refine ⟨_, c, rfl, fun i hi => ⟨g, 0, rfl, fun w' hb => ?_⟩⟩
    have hc := World.ownsRow.cells (OwnS.below h hb) (g := g) rfl
    have a1 := hc i (Sv ls[i]) (by rw [List.getElem?_map, List.getElem?_eq_getElem hi]; rfl)
    rw [Addr.add_lit] at a1
    exact a1
theorem keeps_of_grown {w w' : World} {o : Option Nat} (h : w.grownBy w' o) : Keeps (fun j => o = some j) w w' := ⟨h.os, h.tape, h.output, h.size, fun j hj hn => h.block j hj (fun e => hn e.symm)⟩
theorem sole_code {L l : List Ward.Pt} {x y : Int} (hp : L.Perm l) (hn : Near l) (hl : l.length ≤ 39) (hx : 0 ≤ x ∧ x < 9) (hy : 0 ≤ y ∧ y < 9) : insCode L ⟨500, x - 4, y - 4⟩ = 0 := by
  have hll : L.length = l.length := hp.length_eq
  have hno : ¬ ∃ q ∈ L, q.id = (500 : Int) := by
    rintro ⟨q, hq, e⟩
    have := hn q (hp.mem_iff.1 hq)
    omega
  unfold insCode
  rw [if_neg (by simp only; omega), if_neg (by simp only; omega), if_neg hno, if_neg (by omega)]
theorem commit_more {L l : List Ward.Pt} (h : L.Perm l) : (commitV L).toArray.setIfInBounds 32 (I ((l.length : Int) + 1)) = (rootV (Sha.sha (Ward.rootText Sha.sha L)) ((L.length : Int) + 1)).toArray := by
  unfold commitV rootV
  rw [← h.length_eq, List.setIfInBounds_toArray]
  congr 1
theorem list_succ {α : Type} {n : Nat} {C : List α} (h : C.length = n + 1) : ∃ c D, C = c :: D ∧ D.length = n := by
  cases C with
  | nil => simp at h
  | cons c D => exact ⟨c, D, rfl, by simpa using h⟩
theorem list33 {C : List Value} (h : C.length = 33) : ∃ c0 c1 c2 c3 c4 c5 c6 c7 c8 c9 c10 c11 c12 c13 c14 c15 c16 c17 c18 c19 c20 c21 c22 c23 c24 c25 c26 c27 c28 c29 c30 c31 c32, C = [c0, c1, c2, c3, c4, c5, c6, c7, c8, c9, c10, c11, c12, c13, c14, c15, c16, c17, c18, c19, c20, c21, c22, c23, c24, c25, c26, c27, c28, c29, c30, c31, c32] := by
  obtain ⟨c0, D0, rfl, h0⟩ := list_succ h
  obtain ⟨c1, D1, rfl, h1⟩ := list_succ h0
  obtain ⟨c2, D2, rfl, h2⟩ := list_succ h1
  obtain ⟨c3, D3, rfl, h3⟩ := list_succ h2
  obtain ⟨c4, D4, rfl, h4⟩ := list_succ h3
  obtain ⟨c5, D5, rfl, h5⟩ := list_succ h4
  obtain ⟨c6, D6, rfl, h6⟩ := list_succ h5
  obtain ⟨c7, D7, rfl, h7⟩ := list_succ h6
  obtain ⟨c8, D8, rfl, h8⟩ := list_succ h7
  obtain ⟨c9, D9, rfl, h9⟩ := list_succ h8
  obtain ⟨c10, D10, rfl, h10⟩ := list_succ h9
  obtain ⟨c11, D11, rfl, h11⟩ := list_succ h10
  obtain ⟨c12, D12, rfl, h12⟩ := list_succ h11
  obtain ⟨c13, D13, rfl, h13⟩ := list_succ h12
  obtain ⟨c14, D14, rfl, h14⟩ := list_succ h13
  obtain ⟨c15, D15, rfl, h15⟩ := list_succ h14
  obtain ⟨c16, D16, rfl, h16⟩ := list_succ h15
  obtain ⟨c17, D17, rfl, h17⟩ := list_succ h16
  obtain ⟨c18, D18, rfl, h18⟩ := list_succ h17
  obtain ⟨c19, D19, rfl, h19⟩ := list_succ h18
  obtain ⟨c20, D20, rfl, h20⟩ := list_succ h19
  obtain ⟨c21, D21, rfl, h21⟩ := list_succ h20
  obtain ⟨c22, D22, rfl, h22⟩ := list_succ h21
  obtain ⟨c23, D23, rfl, h23⟩ := list_succ h22
  obtain ⟨c24, D24, rfl, h24⟩ := list_succ h23
  obtain ⟨c25, D25, rfl, h25⟩ := list_succ h24
  obtain ⟨c26, D26, rfl, h26⟩ := list_succ h25
  obtain ⟨c27, D27, rfl, h27⟩ := list_succ h26
  obtain ⟨c28, D28, rfl, h28⟩ := list_succ h27
  obtain ⟨c29, D29, rfl, h29⟩ := list_succ h28
  obtain ⟨c30, D30, rfl, h30⟩ := list_succ h29
  obtain ⟨c31, D31, rfl, h31⟩ := list_succ h30
  obtain ⟨c32, D32, rfl, h32⟩ := list_succ h31
  rw [List.length_eq_zero_iff] at h32
  subst h32
  exact ⟨c0, c1, c2, c3, c4, c5, c6, c7, c8, c9, c10, c11, c12, c13, c14, c15, c16, c17, c18, c19, c20, c21, c22, c23, c24, c25, c26, c27, c28, c29, c30, c31, c32, rfl⟩
theorem cells33 {w : World} {g t : Nat} {c0 c1 c2 c3 c4 c5 c6 c7 c8 c9 c10 c11 c12 c13 c14 c15 c16 c17 c18 c19 c20 c21 c22 c23 c24 c25 c26 c27 c28 c29 c30 c31 c32 : Value} (h : w.heap[g]? = some (.cells [c0, c1, c2, c3, c4, c5, c6, c7, c8, c9, c10, c11, c12, c13, c14, c15, c16, c17, c18, c19, c20, c21, c22, c23, c24, c25, c26, c27, c28, c29, c30, c31, c32].toArray t (0, 0))) : w.cell? ⟨g, 0, none⟩ = some c0 ∧ w.cell? ⟨g, 1, none⟩ = some c1 ∧ w.cell? ⟨g, 2, none⟩ = some c2 ∧ w.cell? ⟨g, 3, none⟩ = some c3 ∧ w.cell? ⟨g, 4, none⟩ = some c4 ∧ w.cell? ⟨g, 5, none⟩ = some c5 ∧ w.cell? ⟨g, 6, none⟩ = some c6 ∧ w.cell? ⟨g, 7, none⟩ = some c7 ∧ w.cell? ⟨g, 8, none⟩ = some c8 ∧ w.cell? ⟨g, 9, none⟩ = some c9 ∧ w.cell? ⟨g, 10, none⟩ = some c10 ∧ w.cell? ⟨g, 11, none⟩ = some c11 ∧ w.cell? ⟨g, 12, none⟩ = some c12 ∧ w.cell? ⟨g, 13, none⟩ = some c13 ∧ w.cell? ⟨g, 14, none⟩ = some c14 ∧ w.cell? ⟨g, 15, none⟩ = some c15 ∧ w.cell? ⟨g, 16, none⟩ = some c16 ∧ w.cell? ⟨g, 17, none⟩ = some c17 ∧ w.cell? ⟨g, 18, none⟩ = some c18 ∧ w.cell? ⟨g, 19, none⟩ = some c19 ∧ w.cell? ⟨g, 20, none⟩ = some c20 ∧ w.cell? ⟨g, 21, none⟩ = some c21 ∧ w.cell? ⟨g, 22, none⟩ = some c22 ∧ w.cell? ⟨g, 23, none⟩ = some c23 ∧ w.cell? ⟨g, 24, none⟩ = some c24 ∧ w.cell? ⟨g, 25, none⟩ = some c25 ∧ w.cell? ⟨g, 26, none⟩ = some c26 ∧ w.cell? ⟨g, 27, none⟩ = some c27 ∧ w.cell? ⟨g, 28, none⟩ = some c28 ∧ w.cell? ⟨g, 29, none⟩ = some c29 ∧ w.cell? ⟨g, 30, none⟩ = some c30 ∧ w.cell? ⟨g, 31, none⟩ = some c31 ∧ w.cell? ⟨g, 32, none⟩ = some c32 := by
  refine ⟨?_, ?_, ?_, ?_, ?_, ?_, ?_, ?_, ?_, ?_, ?_, ?_, ?_, ?_, ?_, ?_, ?_, ?_, ?_, ?_, ?_, ?_, ?_, ?_, ?_, ?_, ?_, ?_, ?_, ?_, ?_, ?_, ?_⟩ <;> rw [cell_of_row _ _ _ _ _ _ h] <;> rfl
/-- what is left of Sole's things once the map has changed -/
structure Left (w : World) (g0 g1 B1 B2 : Nat) (C : Array Value) (q : Ward.Qr) (va vl : Value) (A l : List Ward.Pt) (W : World) : Prop where
  base : Below w.heap.size w W
  com : W.heap[g0]? = some (.cells C 41 (0, 0))
  qry : W.heap[g1]? = some (.cells #[I q.kind, I q.a, I q.b, I q.c, I q.d, I q.x, I q.y, I q.k] 46 (0, 0))
  ans : Own W B1 va A
  list : Own W B2 vl l
section
variable {w W W' : World} {g0 g1 B1 B2 : Nat} {C : Array Value} {q : Ward.Qr} {va vl : Value} {A l : List Ward.Pt}
theorem Left.keeps {S : Nat → Prop} (h : Left w g0 g1 B1 B2 C q va vl A l W) (hk : Keeps S W W') (h1 : ∀ j, S j → w.heap.size ≤ j) (h2 : ¬ S g0) (h3 : ¬ S g1) (h4 : ∀ g, va.ownBlock = some g → ¬ S g) (h5 : ∀ g, vl.ownBlock = some g → ¬ S g) : Left w g0 g1 B1 B2 C q va vl A l W' :=
  ⟨keeps_new h.base hk h1, (hk.block g0 (Array.getElem?_eq_some_iff.1 h.com).1 h2).trans h.com, (hk.block g1 (Array.getElem?_eq_some_iff.1 h.qry).1 h3).trans h.qry, h.ans.keeps hk h4, h.list.keeps hk h5⟩
theorem Left.below (h : Left w g0 g1 B1 B2 C q va vl A l W) (hb : Below W.heap.size W W') : Left w g0 g1 B1 B2 C q va vl A l W' :=
  h.keeps (S := fun _ => False) (Keeps.of_below hb) (fun _ e => e.elim) (fun e => e) (fun e => e) (fun _ _ e => e) (fun _ _ e => e)
theorem Left.count {v : Value} {cs : Array Value} (h : Left w g0 g1 B1 B2 C q va vl A l W) (hc : C.setIfInBounds 32 v = cs) (h0 : w.heap.size ≤ g0) (h1 : g1 ≠ g0) (h4 : ∀ g, va.ownBlock = some g → g ≠ g0) (h5 : ∀ g, vl.ownBlock = some g → g ≠ g0) : Left w g0 g1 B1 B2 cs q va vl A l (W.setCell ⟨g0, 32, none⟩ v) := by
  have hk : Keeps (fun j => j = g0) W (W.setCell ⟨g0, 32, none⟩ v) := ⟨rfl, rfl, rfl, by simp, fun j _ hj => heap_setCell_other _ ⟨g0, 32, none⟩ j _ hj⟩
  exact ⟨keeps_new h.base hk (fun j e => by omega), by rw [heap_setCell_same _ _ _ _ _ _ h.com, hc], (hk.block g1 (Array.getElem?_eq_some_iff.1 h.qry).1 h1).trans h.qry, h.ans.keeps hk h4, h.list.keeps hk h5⟩
end
end Go.Proofs.YtenaelkbgkpllaaGreatDoor
