/- The document's Look with what it holds: points, children in a row. -/
import Derived.Test.YtenaelkbgkpllaaGreatDoorAll14
import Derived.Test.YtenaelkbgkpllaaGreatDoorAll12
import Derived.Test.YtenaelkbgkpllaaGreatDoorAll13
import Derived.Test.YtenaelkbgkpllaaGreatDoorAll8
namespace Go.Proofs.YtenaelkbgkpllaaGreatDoor
open Go.RowKit

/-- a child as it lies -/
def kidV (c : Ward.Chd) (x : Value) : List Value := [I c.box.a, I c.box.b, I c.box.c, I c.box.d, I c.n, Sv c.dig, .bool c.shown, I c.rbox.a, I c.rbox.b, I c.rbox.c, I c.rbox.d, I c.rn, Sv c.rtext, I 0, I 0, x]
theorem kidV_len (c : Ward.Chd) (x : Value) : (kidV c x).length = 16 := rfl
def zeroKid : Value := .agg (kidV ⟨⟨0, 0, 0, 0⟩, 0, [], false, ⟨0, 0, 0, 0⟩, 0, []⟩ (.slice none 0 0)).toArray
theorem Tryz.infoKidZ : (Tryz.prog.info? 196).map (fun i => (i.zero, i.size, i.bytes)) = some (some zeroKid, 16, 160) := by kernel_rfl
theorem kidV_one (c : Ward.Chd) (x : Value) (hx : x.oneCell' = true) : ∀ u ∈ kidV c x, u.oneCell' = true := by
  intro u hu
  simp only [kidV, List.mem_cons, List.not_mem_nil, or_false] at hu
  rcases hu with h | h | h | h | h | h | h | h | h | h | h | h | h | h | h | h <;> (rw [h]; first | rfl | exact hx)
/-- children in a row -/
def KidsRow (w : World) (B : Nat) (v : Value) (K : List Ward.Chd) : Prop := ∃ xs : List Value, xs.length = K.length ∧ (∀ x ∈ xs, x.oneCell' = true) ∧ w.ownsRow B 196 16 v K.length ((K.zip xs).flatMap fun p => kidV p.1 p.2)
theorem kidsRow_nil (w : World) (B : Nat) : KidsRow w B (.slice none 0 0) [] := ⟨[], rfl, by simp, World.ownsRow_nil _ _ _ _⟩
theorem KidsRow.keep {S : Nat → Prop} {w w' : World} {B : Nat} {v : Value} {K : List Ward.Chd} (h : KidsRow w B v K) (hk : Keeps S w w') (hn : ∀ g, v.ownBlock = some g → ¬ S g) : KidsRow w' B v K := by
  obtain ⟨xs, h1, h2, h3⟩ := h
  exact ⟨xs, h1, h2, ownsRow_keepsS h3 hk hn⟩
theorem KidsRow.below {w w' : World} {B : Nat} {v : Value} {K : List Ward.Chd} (h : KidsRow w B v K) (hb : Below w.heap.size w w') : KidsRow w' B v K := h.keep (S := fun _ => False) (Keeps.of_below hb) (fun _ _ h => h)
theorem KidsRow.lt {w : World} {B g : Nat} {v : Value} {K : List Ward.Chd} (h : KidsRow w B v K) (hg : v.ownBlock = some g) : B ≤ g ∧ g < w.heap.size := by
  obtain ⟨xs, _, _, h3⟩ := h
  exact World.ownsRow.lt h3 g hg
theorem KidsRow.slice {w : World} {B : Nat} {v : Value} {K : List Ward.Chd} (h : KidsRow w B v K) : ∃ a c, v = .slice a K.length c := by
  obtain ⟨xs, _, _, h3⟩ := h
  rcases h3.2 with ⟨e, h0⟩ | ⟨g, cap, cur, e, _⟩
  · exact ⟨none, 0, by rw [e, h0]⟩
  · exact ⟨_, _, e⟩
/-- a row is not the block of another kind -/
theorem ownsRow_other {w : World} {B e size n g : Nat} {v : Value} {xs : List Value} {c : Array Value} {ty : Nat} {fr : Nat × Nat} (h : w.ownsRow B e size v n xs) (hg : w.heap[g]? = some (Obj.cells c ty fr)) (ht : ty ≠ e) : v.ownBlock ≠ some g := fun e => by
  rcases h.2 with ⟨rfl, _⟩ | ⟨g', cap, cur, rfl, _, hg', _⟩
  · cases e
  · injection e with e
    have e' : g' = g := e
    subst e'
    rw [hg] at hg'
    injection hg' with hg'
    injection hg' with _ h2 _
    exact ht h2
theorem ownsRow_ty {w : World} {B e size n g : Nat} {v : Value} {xs : List Value} (h : w.ownsRow B e size v n xs) (hg : v.ownBlock = some g) : ∃ c fr, w.heap[g]? = some (Obj.cells c e fr) := by
  rcases h.2 with ⟨rfl, _⟩ | ⟨g', cap, cur, rfl, _, hg', _⟩
  · cases hg
  · injection hg with e
    have e' : g' = g := e
    subst e'
    exact ⟨_, _, hg'⟩
theorem keeps_drew {S : Nat → Prop} {w w' : World} (h : Keeps S w w') : Keeps S w w'.drew := ⟨h.os, h.tape, h.output, h.size, h.block⟩
theorem keeps_rowTo (w : World) (g : Nat) (M : Array Value) : Keeps (fun k => k = g) w (w.setRow g M) := ⟨rfl, rfl, rfl, by simp, fun j _ hj => setRow_other w g j M hj⟩
/-- a child put behind others -/
theorem append_kid {w : World} {B : Nat} {v : Value} {K : List Ward.Chd} (c : Ward.Chd) (x : Value) (hx : x.oneCell' = true) (h : KidsRow w B v K) (hB : B ≤ w.heap.size) (hn : K.length ≤ 30000) :
    ∃ v' w', (Builtin.append_ #[191, 191] 191 #[v, .slice (some ⟨w.heap.size, 0, none⟩) 1 1]).run Tryz.prog (w.alloc (.cells (kidV c x).toArray 196)) = .ok v' w' ∧ KidsRow w' B v' (K ++ [c]) ∧ w.grownBy w' v.ownBlock ∧ Fresh w v v' := by
  obtain ⟨xs, e1, e2, hown⟩ := h
  obtain ⟨i0, hi0, hz0, hz1, hz2⟩ := info_parts Tryz.infoKidZ
  obtain ⟨v', w', hr, ho, hg, hf⟩ := run_append_own2 (P := Tryz.prog) (w.alloc (.cells (kidV c x).toArray 196)) B 191 191 196 i0 zeroKid 16 160 Tryz.underlying191 hi0 hz0 hz1 hz2 rfl (by decide) v K.length _ (hown.alloc _) ⟨w.heap.size, 0, none⟩ 1 1 (kidV c x) rfl
    (fun j u hj => by rw [Addr.add_lit, Nat.zero_add, cell_of_row _ _ _ _ _ _ (heap_alloc_new w _), List.getElem?_toArray]; exact hj)
    (kidV_one c x hx) (by unfold maxLen; omega) (by omega) (by simp; omega)
  refine ⟨v', w', hr, ⟨xs ++ [x], by simp [e1], fun y hy => ?_, ?_⟩, ⟨hg.os, hg.tape, hg.output, Nat.le_trans (by simp) hg.size, fun j hj hne => (hg.block j (by simp; omega) hne).trans (Below.heap_alloc w _ j hj)⟩, ?_⟩
  · rcases List.mem_append.1 hy with hy | hy
    · exact e2 y hy
    · rw [List.mem_singleton.1 hy]; exact hx
  · rw [List.zip_append e1.symm, List.length_append, List.flatMap_append]
    simpa using ho
  rcases hf with hf | ⟨g, hf, hgs⟩
  · exact .inl hf
  · exact .inr ⟨g, hf, Nat.le_trans (by simp) hgs⟩
/-- what stands in the row at a place -/
theorem KidsRow.at {w : World} {B : Nat} {v : Value} {K : List Ward.Chd} (h : KidsRow w B v K) (j : Nat) (hj : j < K.length) : ∃ g c x, v = .slice (some ⟨g, 0, none⟩) K.length c ∧ B ≤ g ∧ g < w.heap.size ∧ K.length ≤ c ∧ x.oneCell' = true ∧ w.rangeAt g (j * 16) (kidV K[j] x) := by
  obtain ⟨xs, e1, h1, h2⟩ := h
  rcases h2.2 with ⟨_, h0⟩ | ⟨g, cap, cur, rfl, hB, hg, hcap, -, -, -⟩
  · omega
  have hz : j < (K.zip xs).length := by rw [List.length_zip, e1]; omega
  have hjx : j < xs.length := by omega
  refine ⟨g, cap, xs[j], rfl, hB, (Array.getElem?_eq_some_iff.1 hg).1, hcap, h1 _ (List.getElem_mem _), fun k u hu => ?_⟩
  have hk : k < 16 := (List.getElem?_eq_some_iff.1 hu).1
  have h := h2.cells (g := g) rfl (j * 16 + k) u (by
    rw [List.flatMap_def, flat_get (c := 16) _ j k (fun U hU => by
      obtain ⟨m, hm, rfl⟩ := List.mem_map.1 hU
      rfl) hk, List.getElem?_map, List.getElem?_eq_getElem hz, Option.map_some, Option.bind_some, List.getElem_zip]
    exact hu)
  rw [Addr.add_lit, Nat.zero_add] at h
  exact h
/-- a Look, with its points and children -/
structure LookAt (w : World) (B l : Nat) (s : List UInt8) (i : Nat) (bad : Bool) (vL vK : Value) (L : List Ward.Pt) (K : List Ward.Chd) : Prop where
  row : LookRow w l s i bad vL vK
  pts : Own w B vL L
  kids : KidsRow w B vK K
  base : B ≤ l
/-- what a Look may write -/
def LS (l : Nat) (vL vK : Value) (k : Nat) : Prop := k = l ∨ vL.ownBlock = some k ∨ vK.ownBlock = some k
structure LookTo (w : World) (l : Nat) (vL vK : Value) (w' : World) (vL' vK' : Value) : Prop where
  keeps : Keeps (LS l vL vK) w w'
  fl : FreshR w vL vL'
  fk : FreshR w vK vK'
theorem LookTo.refl (w : World) (l : Nat) (vL vK : Value) : LookTo w l vL vK w vL vK := ⟨Keeps.refl _ _, fun _ h => .inl h, fun _ h => .inl h⟩
theorem LookTo.trans {a b c : World} {l : Nat} {vL vK vL' vK' vL'' vK'' : Value} (h : LookTo a l vL vK b vL' vK') (k : LookTo b l vL' vK' c vL'' vK'') : LookTo a l vL vK c vL'' vK'' := by
  have hsz := h.keeps.size
  refine ⟨h.keeps.trans k.keeps (fun j hj e => ?_), fun j hj => ?_, fun j hj => ?_⟩
  · rcases e with e | e | e
    · exact .inl e
    · rcases h.fl j e with e | e
      · exact .inr (.inl e)
      · omega
    · rcases h.fk j e with e | e
      · exact .inr (.inr e)
      · omega
  · rcases k.fl j hj with e | e
    · exact h.fl j e
    · exact .inr (by omega)
  · rcases k.fk j hj with e | e
    · exact h.fk j e
    · exact .inr (by omega)
theorem LookTo.own {w w' : World} {l : Nat} (vL vK : Value) (h : Keeps (fun k => k = l) w w') : LookTo w l vL vK w' vL vK := ⟨h.mono (fun _ _ e => .inl e), fun _ h => .inl h, fun _ h => .inl h⟩
theorem LookTo.below {w w' : World} {l : Nat} (vL vK : Value) (h : Below w.heap.size w w') : LookTo w l vL vK w' vL vK := ⟨Keeps.of_below h, fun _ h => .inl h, fun _ h => .inl h⟩
section
variable {w w' : World} {B l : Nat} {s : List UInt8} {i : Nat} {bad : Bool} {vL vK : Value} {L : List Ward.Pt} {K : List Ward.Chd}
theorem LookAt.lt (h : LookAt w B l s i bad vL vK L K) : l < w.heap.size := h.row.lt
theorem LookAt.apartL (h : LookAt w B l s i bad vL vK L K) : vL.ownBlock ≠ some l := ownsRow_other h.pts h.row (by decide)
theorem LookAt.apartK (h : LookAt w B l s i bad vL vK L K) : vK.ownBlock ≠ some l := by
  obtain ⟨xs, _, _, h3⟩ := h.kids
  exact ownsRow_other h3 h.row (by decide)
theorem LookAt.apart (h : LookAt w B l s i bad vL vK L K) (g : Nat) (hg : vL.ownBlock = some g) : vK.ownBlock ≠ some g := by
  obtain ⟨c, fr, e⟩ := ownsRow_ty h.pts hg
  obtain ⟨xs, _, _, h3⟩ := h.kids
  exact ownsRow_other h3 e (by decide)
/-- what is new is none of its -/
theorem LookAt.new (h : LookAt w B l s i bad vL vK L K) {g : Nat} (hg : w.heap.size ≤ g) : ¬ LS l vL vK g := by
  have := h.lt
  rintro (e | e | e)
  · omega
  · have := h.pts.lt e; omega
  · have := (h.kids.lt e).2; omega
/-- its own block was written -/
theorem LookAt.to (h : LookAt w B l s i bad vL vK L K) (hk : Keeps (fun k => k = l) w w') {i' : Nat} {bad' : Bool} (hr : LookRow w' l s i' bad' vL vK) : LookAt w' B l s i' bad' vL vK L K :=
  ⟨hr, h.pts.keeps hk (fun g hg e => h.apartL (by rw [hg, e])), h.kids.keep hk (fun g hg e => h.apartK (by rw [hg, e])), h.base⟩
theorem LookAt.below (h : LookAt w B l s i bad vL vK L K) (hb : Below w.heap.size w w') : LookAt w' B l s i bad vL vK L K := ⟨(hb.block l h.lt).trans h.row, h.pts.below hb, h.kids.below hb, h.base⟩
/-- all that a Look does stays above its base -/
theorem LookTo.low {vL' vK' : Value} (h : LookAt w B l s i bad vL vK L K) (t : LookTo w l vL vK w' vL' vK') (hB : B ≤ w.heap.size) : Below B w w' := ⟨t.keeps.os, t.keeps.tape, t.keeps.output, t.keeps.size, fun j hj => t.keeps.block j (by omega) (fun e => by
  have := h.base
  rcases e with e | e | e
  · omega
  · have := h.pts.ge e; omega
  · have := (h.kids.lt e).1; omega)⟩
/-- a new list of points was laid in, grown out of the old -/
theorem LookAt.pointed (h : LookAt w B l s i bad vL vK L K) {vL' : Value} {L' : List Ward.Pt} (hg : w.grownBy w' vL.ownBlock) (ho : Own w' B vL' L') (hf : Fresh w vL vL') :
    LookAt (w'.setCell ⟨l, 3, none⟩ vL') B l s i bad vL' vK L' K ∧ LookTo w l vL vK (w'.setCell ⟨l, 3, none⟩ vL') vL' vK := by
  have hlt := h.lt
  have hrow : w'.heap[l]? = some (.cells #[Sv s, I i, .bool bad, vL, vK] 193 (0, 0)) := (hg.block l hlt (fun e => h.apartL e.symm)).trans h.row
  have k1 : Keeps (fun j => j = l) w' (w'.setCell ⟨l, 3, none⟩ vL') := ⟨rfl, rfl, rfl, by simp, fun j _ hj => heap_setCell_other w' ⟨l, 3, none⟩ j vL' hj⟩
  have k0 : Keeps (LS l vL vK) w w' := ⟨hg.os, hg.tape, hg.output, hg.size, fun k hk hn => hg.block k hk (fun e => hn (.inr (.inl e.symm)))⟩
  have hfr : FreshR w vL vL' := fun k hk => by
    rcases hf with e | ⟨g, e, hgs⟩
    · exact .inl (e ▸ hk)
    · rw [e] at hk; injection hk with hk; exact .inr (hk ▸ hgs)
  refine ⟨⟨?_, ho.keeps k1 (fun g hg' e => ?_), ?_, h.base⟩, k0.trans k1 (fun j _ e => .inl e), hfr, fun _ e => .inl e⟩
  · unfold LookRow
    rw [heap_setCell_same _ _ _ _ _ _ hrow]; rfl
  · subst e
    rcases hfr g hg' with e | e
    · exact h.apartL e
    · omega
  · exact (h.kids.keep (Keeps.of_grown hg) (fun g hg' e => h.apart g e.symm hg')).keep k1 (fun g hg' e => h.apartK (by rw [hg', e]))
/-- a new list of children was laid in -/
theorem LookAt.kidded (h : LookAt w B l s i bad vL vK L K) {vK' : Value} {K' : List Ward.Chd} (hg : w.grownBy w' vK.ownBlock) (ho : KidsRow w' B vK' K') (hf : Fresh w vK vK') :
    LookAt (w'.setCell ⟨l, 4, none⟩ vK') B l s i bad vL vK' L K' ∧ LookTo w l vL vK (w'.setCell ⟨l, 4, none⟩ vK') vL vK' := by
  have hlt := h.lt
  have hrow : w'.heap[l]? = some (.cells #[Sv s, I i, .bool bad, vL, vK] 193 (0, 0)) := (hg.block l hlt (fun e => h.apartK e.symm)).trans h.row
  have k1 : Keeps (fun j => j = l) w' (w'.setCell ⟨l, 4, none⟩ vK') := ⟨rfl, rfl, rfl, by simp, fun j _ hj => heap_setCell_other w' ⟨l, 4, none⟩ j vK' hj⟩
  have k0 : Keeps (LS l vL vK) w w' := ⟨hg.os, hg.tape, hg.output, hg.size, fun k hk hn => hg.block k hk (fun e => hn (.inr (.inr e.symm)))⟩
  have hfr : FreshR w vK vK' := fun k hk => by
    rcases hf with e | ⟨g, e, hgs⟩
    · exact .inl (e ▸ hk)
    · rw [e] at hk; injection hk with hk; exact .inr (hk ▸ hgs)
  refine ⟨⟨?_, ?_, ho.keep k1 (fun g hg' e => ?_), h.base⟩, k0.trans k1 (fun j _ e => .inl e), fun _ e => .inl e, hfr⟩
  · unfold LookRow
    rw [heap_setCell_same _ _ _ _ _ _ hrow]; rfl
  · exact (h.pts.keeps (Keeps.of_grown hg) (fun g hg' e => h.apart g hg' e.symm)).keeps k1 (fun g hg' e => h.apartL (by rw [hg', e]))
  · subst e
    rcases hfr g hg' with e | e
    · exact h.apartK e
    · omega
/-- its word of being bad was written -/
theorem LookAt.badTo (h : LookAt w B l s i bad vL vK L K) (b : Bool) : LookAt (w.setCell ⟨l, 2, none⟩ (.bool b)) B l s i b vL vK L K ∧ Keeps (fun k => k = l) w (w.setCell ⟨l, 2, none⟩ (.bool b)) := by
  have k1 : Keeps (fun j => j = l) w (w.setCell ⟨l, 2, none⟩ (.bool b)) := ⟨rfl, rfl, rfl, by simp, fun j _ hj => heap_setCell_other w ⟨l, 2, none⟩ j _ hj⟩
  refine ⟨h.to k1 ?_, k1⟩
  unfold LookRow
  rw [heap_setCell_same _ _ _ _ _ _ h.row]; rfl
/-- its place was written -/
theorem LookAt.placeTo (h : LookAt w B l s i bad vL vK L K) (j : Nat) : LookAt (w.setCell ⟨l, 1, none⟩ (I j)) B l s j bad vL vK L K ∧ Keeps (fun k => k = l) w (w.setCell ⟨l, 1, none⟩ (I j)) := by
  have k1 : Keeps (fun j => j = l) w (w.setCell ⟨l, 1, none⟩ (I j)) := ⟨rfl, rfl, rfl, by simp, fun k _ hj => heap_setCell_other w ⟨l, 1, none⟩ k _ hj⟩
  refine ⟨h.to k1 ?_, k1⟩
  unfold LookRow
  rw [heap_setCell_same _ _ _ _ _ _ h.row]; rfl
theorem LookAt.keep {S : Nat → Prop} (h : LookAt w B l s i bad vL vK L K) (hk : Keeps S w w') (hn : ∀ k, LS l vL vK k → ¬ S k) : LookAt w' B l s i bad vL vK L K :=
  ⟨(hk.block l h.lt (hn l (.inl rfl))).trans h.row, h.pts.keeps hk (fun g hg => hn g (.inr (.inl hg))), h.kids.keep hk (fun g hg => hn g (.inr (.inr hg))), h.base⟩
/-- something new was written -/
theorem LookTo.more {a b : World} {vL' vK' : Value} {S : Nat → Prop} (h : LookTo w l vL vK a vL' vK') (hk : Keeps S a b) (hn : ∀ k, k < w.heap.size → ¬ S k) : LookTo w l vL vK b vL' vK' := ⟨h.keeps.trans hk (fun j hj e => absurd e (hn j hj)), h.fl, h.fk⟩
theorem LookTo.step {a b : World} {vL' vK' : Value} (h : LookTo w l vL vK a vL' vK') (hk : Keeps (fun k => k = l) a b) : LookTo w l vL vK b vL' vK' := h.trans (LookTo.own vL' vK' hk)
end
/-- what comes out of a part: F: it is not of the form; G: it is -/
def PartOut (w : World) (B l : Nat) (s : List UInt8) (vL vK : Value) (nL nK : Nat) (F : Prop) (G : Nat → List Ward.Pt → List Ward.Chd → Ward.Box → Int → List UInt8 → Prop) (e : Ending) (w' : World) : Prop :=
  ∃ (b : Ward.Box) (n : Int) (x : List UInt8) (v vL' vK' : Value) (L' : List Ward.Pt) (K' : List Ward.Chd) (i' : Nat) (bad : Bool), e = .returned (.agg (partV b n x 0 0 v)) ∧ v.oneCell' = true ∧ x.length ≤ 250 ∧ LookAt w' B l s i' bad vL' vK' L' K' ∧ LookTo w l vL vK w' vL' vK' ∧ i' ≤ s.length ∧ L'.length ≤ nL ∧ K'.length ≤ nK ∧ ((bad = true ∧ F) ∨ (bad = false ∧ G i' L' K' b n x))
/-- what comes out of a child -/
def KidOut (w : World) (B l : Nat) (s : List UInt8) (vL vK : Value) (nL nK : Nat) (F : Prop) (G : Nat → List Ward.Pt → List Ward.Chd → Ward.Chd → Prop) (e : Ending) (w' : World) : Prop :=
  ∃ (c : Ward.Chd) (v vL' vK' : Value) (L' : List Ward.Pt) (K' : List Ward.Chd) (i' : Nat) (bad : Bool), e = .returned (.agg (kidV c v).toArray) ∧ v.oneCell' = true ∧ c.dig.length ≤ 32 ∧ (-2147483648 ≤ c.n ∧ c.n < 2147483648) ∧ LookAt w' B l s i' bad vL' vK' L' K' ∧ LookTo w l vL vK w' vL' vK' ∧ i' ≤ s.length ∧ L'.length ≤ nL ∧ K'.length ≤ nK ∧ ((bad = true ∧ F) ∨ (bad = false ∧ G i' L' K' c))
end Go.Proofs.YtenaelkbgkpllaaGreatDoor
/- The answer of the points that are shown is that of all. -/
namespace Go.Proofs.YtenaelkbgkpllaaGreatDoor
namespace Ward
theorem pt_ext {p q : Pt} (h1 : p.id = q.id) (h2 : p.x = q.x) (h3 : p.y = q.y) : p = q := by
  cases p
  cases q
  simp only at h1 h2 h3
  subst h1 h2 h3
  rfl
instance : DecidableEq Pt := fun p q => decidable_of_iff (p.id = q.id ∧ p.x = q.x ∧ p.y = q.y) ⟨fun h => pt_ext h.1 h.2.1 h.2.2, fun h => by subst h; exact ⟨rfl, rfl, rfl⟩⟩
theorem ids_eq {P : List Pt} (h : Ids P) {p q : Pt} (hp : p ∈ P) (hq : q ∈ P) (e : p.id = q.id) : p = q := by
  induction P with
  | nil => simp at hp
  | cons a P ih =>
    obtain ⟨h1, h2⟩ := List.pairwise_cons.1 h
    rcases List.mem_cons.1 hp with hpa | hp <;> rcases List.mem_cons.1 hq with hqa | hq
    · rw [hpa, hqa]
    · rw [hpa] at e; exact absurd e (h1 q hq)
    · rw [hqa] at e; exact absurd e.symm (h1 p hp)
    · exact ih h2 hp hq
theorem ids_nodup {P : List Pt} (h : Ids P) : P.Nodup := h.imp fun hne e => hne (by rw [e])
/-- the points that are among others -/
theorem filter_sub {V P : List Pt} (hV : V.Sublist P) (hP : P.Nodup) : P.filter (fun p => decide (p ∈ V)) = V := by
  induction hV with
  | slnil => rfl
  | cons a h ih =>
    rename_i l₁ l₂
    obtain ⟨h1, h2⟩ := List.nodup_cons.1 hP
    rw [List.filter_cons_of_neg (by simp only [decide_eq_true_eq]; exact fun e => h1 (h.subset e)), ih h2]
  | cons_cons a h ih =>
    rename_i l₁ l₂
    obtain ⟨h1, h2⟩ := List.nodup_cons.1 hP
    rw [List.filter_cons_of_pos (by simp)]
    congr 1
    rw [← ih h2]
    refine List.filter_congr fun p hp => ?_
    have hpa : p ≠ a := fun e => h1 (e ▸ hp)
    rw [ih h2]
    simp [hpa]
theorem perm_part {A P : List Pt} (hA : ∀ p ∈ A, p ∈ P) (hN : A.Nodup) (hP : P.Nodup) : (A ++ P.filter (fun p => decide (p ∉ A))).Perm P := by
  have h1 : (P.filter (fun p => decide (p ∈ A))).Perm A := by
    refine (List.perm_ext_iff_of_nodup (hP.sublist List.filter_sublist) hN).2 fun p => ?_
    rw [List.mem_filter, decide_eq_true_eq]
    exact ⟨fun h => h.2, fun h => ⟨hA p h, h⟩⟩
  have h2 := List.filter_append_perm (fun p => decide (p ∈ A)) P
  refine ((h1.symm.append (List.Perm.refl _)).trans ?_)
  refine List.Perm.trans ?_ h2
  refine List.Perm.append (List.Perm.refl _) ?_
  rw [show (fun p => decide (p ∉ A)) = (fun p : Pt => !decide (p ∈ A)) from funext fun p => by simp]
/-- those that are nearer than all others stand first -/
theorem sortN_part {x y : Int} {A P : List Pt} (hI : Ids P) (hs : A.Pairwise (nr x y)) (hA : ∀ p ∈ A, p ∈ P) (hf : ∀ p ∈ P, p ∉ A → ∀ a ∈ A, nr x y a p) : sortN x y P = A ++ sortN x y (P.filter (fun p => decide (p ∉ A))) := by
  have hN : A.Nodup := hs.imp fun h e => by subst e; exact nr_irrefl x y _ h
  refine sortN_eq ?_ (((sortN_perm x y _).append_left A).trans (perm_part hA hN (ids_nodup hI))) hI
  refine List.pairwise_append.2 ⟨hs, sortN_sorted (ids_sub List.filter_sublist hI), fun a ha p hp => ?_⟩
  have hp' := (sortN_perm x y _).mem_iff.1 hp
  rw [List.mem_filter, decide_eq_true_eq] at hp'
  exact hf p hp'.1 hp'.2 a ha
/-- what is not among the first lies behind them -/
theorem behind {x y : Int} {P : List Pt} (hI : Ids P) (k : Nat) {p : Pt} (hp : p ∈ P) (hn : p ∉ (sortN x y P).take k) : ∀ a ∈ (sortN x y P).take k, nr x y a p := by
  intro a ha
  have hs := sortN_sorted (x := x) (y := y) hI
  rw [← List.take_append_drop k (sortN x y P)] at hs
  have hp2 := (sortN_perm x y P).mem_iff.2 hp
  rw [← List.take_append_drop k (sortN x y P)] at hp2
  rcases List.mem_append.1 hp2 with h | h
  · exact absurd h hn
  · exact (List.pairwise_append.1 hs).2.2 a ha p h
theorem last_far {x y : Int} {a : List Pt} (hs : a.Pairwise (nr x y)) {l p : Pt} (hl : a.getLast? = some l) (hp : distP l x y < distP p x y) : ∀ b ∈ a, nr x y b p := by
  intro b hb
  obtain ⟨m, rfl⟩ : ∃ m, a = m ++ [l] := List.getLast?_eq_some_iff.1 hl
  rcases List.mem_append.1 hb with hb | hb
  · have h1 := (List.pairwise_append.1 hs).2.2 b hb l (by simp)
    unfold nr at h1 ⊢
    omega
  · rw [List.mem_singleton.1 hb]; exact .inl hp
theorem must_far {q : Qr} {a : List Pt} {b : Box} (hk : q.kind = 1) (h : must q a b = false) : q.k ≤ a.length ∧ ∀ l, a.getLast? = some l → distP l q.x q.y < dist b q.x q.y := by
  unfold must at h
  rw [if_neg (by omega)] at h
  split at h
  · cases h
  · rename_i hl
    refine ⟨by omega, fun l hll => ?_⟩
    rw [hll] at h
    simp only [decide_eq_false_iff_not] at h
    omega
/-- the answer of the points that are shown -/
theorem ans_part {q : Qr} {a V P : List Pt} (hq : mayBe q = true) (hV : V.Sublist P) (hI : Ids P) (hid : ∀ p ∈ P, p ∈ V ∨ ∃ b, must q a b = false ∧ b.has (boxOf p)) (ha : a = ans q P ∨ a = ans q V) : ans q V = ans q P := by
  have hIV := ids_sub hV hI
  by_cases hk : q.kind = 1
  · have hk1 : 1 ≤ q.k := by
      unfold mayBe at hq
      rw [if_neg (by omega), if_pos hk] at hq
      simp only [Bool.and_eq_true, decide_eq_true_eq] at hq
      exact hq.1.2
    have eP : ans q P = (sortN q.x q.y P).take q.k.toNat := by rw [ans, if_pos hk]
    have eV : ans q V = (sortN q.x q.y V).take q.k.toNat := by rw [ans, if_pos hk]
    by_cases hall : ∀ p ∈ P, p ∈ V
    · have : V = P := by
        rw [← filter_sub hV (ids_nodup hI)]
        exact List.filter_eq_self.2 fun p hp => by simpa using hall p hp
      rw [this]
    · obtain ⟨p0, hp0, hn0⟩ : ∃ p ∈ P, p ∉ V := by
        refine Classical.byContradiction fun h => hall fun p hp => Classical.byContradiction fun h' => h ⟨p, hp, h'⟩
      obtain ⟨b0, hb0, -⟩ := (hid p0 hp0).resolve_left hn0
      obtain ⟨hlen, -⟩ := must_far hk hb0
      have hne : a ≠ [] := fun e => by rw [e] at hlen; simp at hlen; omega
      obtain ⟨l, hl⟩ : ∃ l, a.getLast? = some l := ⟨a.getLast hne, List.getLast?_eq_some_getLast hne⟩
      have hsa : a.Pairwise (nr q.x q.y) := by
        rcases ha with ha | ha
        · rw [ha, eP]; exact (sortN_sorted hI).sublist (List.take_sublist _ _)
        · rw [ha, eV]; exact (sortN_sorted hIV).sublist (List.take_sublist _ _)
      have hfar : ∀ p ∈ P, p ∉ V → ∀ x ∈ a, nr q.x q.y x p := fun p hp hn => by
        obtain ⟨b, hb, hh⟩ := (hid p hp).resolve_left hn
        have h1 := (must_far hk hb).2 l hl
        have h2 := dist_mono hh q.x q.y
        exact last_far hsa hl (Int.lt_of_lt_of_le h1 h2)
      have hal : a.length = q.k.toNat := by
        have : a.length ≤ q.k.toNat := by
          rcases ha with ha | ha
          · rw [ha, eP]; exact List.length_take_le _ _
          · rw [ha, eV]; exact List.length_take_le _ _
        omega
      rcases ha with ha | ha
      · have hmem : ∀ p ∈ a, p ∈ V := fun p hp => by
          have hpP : p ∈ P := by
            rw [ha, eP] at hp
            exact (sortN_perm _ _ P).mem_iff.1 (List.mem_of_mem_take hp)
          refine Classical.byContradiction fun hn => ?_
          exact nr_irrefl _ _ p (hfar p hpP hn p hp)
        have h := sortN_part hIV hsa hmem fun p hp hn x hx => by
          rw [ha, eP] at hn hx
          exact behind hI _ (hV.subset hp) hn x hx
        rw [eV, h, ← hal, List.take_left, ha]
      · have hmem : ∀ p ∈ a, p ∈ P := fun p hp => by
          rw [ha, eV] at hp
          exact hV.subset ((sortN_perm _ _ V).mem_iff.1 (List.mem_of_mem_take hp))
        have h := sortN_part hI hsa hmem fun p hp hn x hx => by
          by_cases hpV : p ∈ V
          · rw [ha, eV] at hn hx
            exact behind hIV _ hpV hn x hx
          · exact hfar p hp hpV x hx
        rw [eP, h, ← hal, List.take_left, ha]
  · have hk0 : q.kind = 0 := by
      unfold mayBe at hq
      by_cases h0 : q.kind = 0
      · exact h0
      · rw [if_neg h0, if_neg hk] at hq; cases hq
    rw [ans, if_neg hk, ans, if_neg hk]
    congr 1
    rw [← filter_sub hV (ids_nodup hI), List.filter_filter]
    refine List.filter_congr fun p hp => ?_
    by_cases hin : inB (window q) p = true
    · rw [hin, Bool.true_and, decide_eq_true_eq]
      refine (hid p hp).resolve_right fun ⟨b, hb, hh⟩ => ?_
      unfold must at hb
      rw [if_pos hk0] at hb
      have := meets_mono hh hin
      rw [hb] at this
      cases this
    · have : inB (window q) p = false := by simpa using hin
      rw [this, Bool.false_and]
end Ward
end Go.Proofs.YtenaelkbgkpllaaGreatDoor
/- The proof of a map's tree is taken: what it shows, and that all holds of it. -/
namespace Go.Proofs.YtenaelkbgkpllaaGreatDoor
namespace Ward
/-- no node without children, no leaf without points -/
def Full : (n : Nat) → T n → Prop
  | 0, l => (l : List Pt) ≠ []
  | n + 1, cs => (cs : List (T n)) ≠ [] ∧ Each (Full n) (cs : List (T n))
theorem tree_full {L : List Pt} (h : L ≠ []) : Full (tree L).1 (tree L).2 :=
  (climb_all (P := Full) (fun _ ls hs g hg => ⟨(fours_small ls g hg).2, fun c hc => hs c (fours_mem hg c hc)⟩) (L.length + 2) 0 (leaves L) (leaves_ne L) (leaves_lt L) (fun t ht => by
    unfold leaves at ht
    rw [if_neg (fun e => h (List.length_eq_zero_iff.1 e))] at ht
    exact (fours_small L t ht).2)).1
/-- a child that is hidden -/
def hidN (d n : Nat) (c : T n) : NT (d + 1) := ⟨[], [], box n c, (count n c : Nat), Sha.sha (text Sha.sha n c)⟩
/-- a map's tree with the children that must be shown -/
def veil (m : Box → Bool) : (d n : Nat) → T n → NT (d + 1)
  | _, 0, l => ⟨l, [], box 0 l, (List.length (l : List Pt) : Nat), Sha.sha (text Sha.sha 0 l)⟩
  | 0, n + 1, cs => hidN 0 (n + 1) cs
  | d + 1, n + 1, cs => ⟨[], List.map (fun c => if m (box n c) then veil m d n c else hidN d n c) (cs : List (T n)), box (n + 1) cs, (count (n + 1) cs : Nat), Sha.sha (text Sha.sha (n + 1) cs)⟩
section
variable (m : Box → Bool)
def kidV (d n : Nat) (c : T n) : NT (d + 1) := if m (box n c) then veil m d n c else hidN d n c
theorem veil_succ (d n : Nat) (cs : List (T n)) : veil m (d + 1) (n + 1) cs = ⟨[], cs.map (kidV m d n), box (n + 1) cs, (count (n + 1) cs : Nat), Sha.sha (text Sha.sha (n + 1) cs)⟩ := rfl
theorem veil_leaf (d : Nat) (l : List Pt) : veil m d 0 l = ⟨l, [], box 0 l, (l.length : Nat), Sha.sha (text Sha.sha 0 l)⟩ := by cases d <;> rfl
theorem veil_box : ∀ (d n : Nat) (t : T n), Nd.box (veil m d n t) = box n t
  | d, 0, l => by rw [veil_leaf]
  | 0, n + 1, cs => rfl
  | d + 1, n + 1, cs => rfl
theorem veil_num : ∀ (d n : Nat) (t : T n), Nd.n (veil m d n t) = (count n t : Nat)
  | d, 0, l => by rw [veil_leaf]; rfl
  | 0, n + 1, cs => rfl
  | d + 1, n + 1, cs => rfl
theorem veil_dig : ∀ (d n : Nat) (t : T n), Nd.dig (veil m d n t) = Sha.sha (text Sha.sha n t)
  | d, 0, l => by rw [veil_leaf]
  | 0, n + 1, cs => rfl
  | d + 1, n + 1, cs => rfl
theorem kid_box (d n : Nat) (c : T n) : boxN (d + 1) (kidV m d n c) = box n c := by
  unfold kidV
  split
  · exact veil_box m d n c
  · rfl
theorem kid_num (d n : Nat) (c : T n) : numN (d + 1) (kidV m d n c) = (count n c : Nat) := by
  unfold kidV
  split
  · exact veil_num m d n c
  · rfl
theorem kid_dig (d n : Nat) (c : T n) : digN (d + 1) (kidV m d n c) = Sha.sha (text Sha.sha n c) := by
  unfold kidV
  split
  · exact veil_dig m d n c
  · rfl
theorem kid_said (d n : Nat) (c : T n) : saidN (d + 1) (kidV m d n c) = head Sha.sha n c := by
  rw [saidN, kid_box, kid_num, kid_dig, head, headText]
theorem sum_count (n : Nat) (cs : List (T n)) : (cs.map fun c => ((count n c : Nat) : Int)).sum = ((cs.map (count n)).sum : Nat) := by
  induction cs with
  | nil => rfl
  | cons c cs ih => rw [List.map_cons, List.sum_cons, ih, List.map_cons, List.sum_cons]; omega
/-- as what stands below it makes it -/
theorem veil_made : ∀ (d n : Nat) (t : T n), n ≤ d → Full n t ∨ n = 0 → madeN (d + 1) (veil m d n t) = veil m d n t
  | d, 0, l, _, _ => by
    rw [veil_leaf, made_leaf (by rfl)]
    rfl
  | 0, n + 1, cs, h, _ => absurd h (by omega)
  | d + 1, n + 1, cs, h, hf => by
    have hne : (cs : List (T n)) ≠ [] := (hf.resolve_right (by omega)).1
    rw [veil_succ, made_node (by
      show ¬ (cs.map (kidV m d n)).length = 0
      rw [List.length_map]; exact fun e => hne (List.length_eq_zero_iff.1 e))]
    have e1 : (cs.map (kidV m d n)).map (boxN (d + 1)) = cs.map (box n) := by
      rw [List.map_map]; exact List.map_congr_left fun c _ => kid_box m d n c
    have e2 : ((cs.map (kidV m d n)).map (numN (d + 1))).sum = (count (n + 1) cs : Nat) := by
      rw [List.map_map]
      rw [show List.map (numN (d + 1) ∘ kidV m d n) cs = cs.map fun c => ((count n c : Nat) : Int) from List.map_congr_left fun c _ => kid_num m d n c]
      exact sum_count n cs
    have e3 : textK (d + 1) (cs.map (kidV m d n)) = text Sha.sha (n + 1) cs := by
      rw [textK, List.length_map, List.flatMap_map, text_succ]
      congr 2
      exact flatMap_congr fun c _ => kid_said m d n c
    refine nd_ext rfl rfl ?_ e2 ?_
    · show boxL ((cs.map (kidV m d n)).map (boxN (d + 1))) = _
      rw [e1]; rfl
    · show Sha.sha (textK (d + 1) (cs.map (kidV m d n))) = _
      rw [e3]
theorem veil_shown : ∀ (d n : Nat) (t : T n), n ≤ d → Full n t → shownN (d + 1) (veil m d n t) = true
  | d, 0, l, _, h => by
    have : 0 < List.length (l : List Pt) := List.length_pos_iff.2 h
    rw [veil_leaf]
    simp only [shownN, decide_eq_true_eq]
    show 0 < List.length (l : List Pt) + _
    omega
  | 0, n + 1, cs, h, _ => absurd h (by omega)
  | d + 1, n + 1, cs, _, h => by
    have : 0 < List.length (cs : List (T n)) := List.length_pos_iff.2 h.1
    rw [veil_succ]
    simp only [shownN, decide_eq_true_eq, List.length_map, List.length_nil]
    omega
theorem hid_shown (d n : Nat) (c : T n) : shownN (d + 1) (hidN d n c) = false := by simp [shownN, hidN]
theorem kid_shown (d n : Nat) (c : T n) (hn : n ≤ d) (hf : Full n c) : shownN (d + 1) (kidV m d n c) = m (box n c) := by
  unfold kidV
  cases hm : m (box n c) with
  | true => rw [if_pos rfl]; exact veil_shown m d n c hn hf
  | false => rw [if_neg (by simp)]; exact hid_shown d n c
/-- its text is the proof -/
theorem veil_text : ∀ (d n : Nat) (t : T n), n ≤ d → Full n t ∨ n = 0 → textS (d + 1) (veil m d n t) = proof Sha.sha m n t
  | d, 0, l, _, _ => by
    rw [veil_leaf, textS_leaf _ _ (by rfl)]
    rfl
  | 0, n + 1, cs, h, _ => absurd h (by omega)
  | d + 1, n + 1, cs, h, hf => by
    obtain ⟨hne, hea⟩ := hf.resolve_right (by omega)
    have hl : 0 < List.length (cs : List (T n)) := List.length_pos_iff.2 hne
    rw [veil_succ, textS_kids _ _ (by show 0 < (cs.map (kidV m d n)).length; rw [List.length_map]; exact hl)]
    show 2 :: UInt8.ofNat (cs.map (kidV m d n)).length :: (cs.map (kidV m d n)).flatMap (kidText (d + 1)) = 2 :: UInt8.ofNat (List.length cs) :: List.flatMap (fun c => head Sha.sha n c ++ (if m (box n c) then 1 :: proof Sha.sha m n c else [0])) cs
    rw [List.length_map, List.flatMap_map]
    congr 2
    refine flatMap_congr fun c hc => ?_
    have hfc := hea c hc
    rw [kidText, kid_said, kid_shown m d n c (by omega) hfc]
    congr 1
    cases hm : m (box n c) with
    | true =>
      rw [if_pos rfl, if_pos rfl]
      have : kidV m d n c = veil m d n c := by rw [kidV, if_pos hm]
      rw [this, veil_text d n c (by omega) (.inl hfc)]
    | false => rw [if_neg (by simp), if_neg (by simp)]
theorem kid_made {d n : Nat} {c : T n} (hn : n ≤ d) (hf : Full n c) : shownN (d + 1) (kidV m d n c) = true → madeN (d + 1) (kidV m d n c) = kidV m d n c := by
  intro hs
  rw [kid_shown m d n c hn hf] at hs
  have : kidV m d n c = veil m d n c := by rw [kidV, if_pos hs]
  rw [this, veil_made m d n c hn (.inl hf)]
theorem every_hid (P : (n : Nat) → NT n → Bool) (d n : Nat) (c : T n) : everyN P (d + 1) (hidN d n c) = true := rfl
/-- what holds of every child that is shown or hidden as it must be -/
theorem every_veil (P : (n : Nat) → NT n → Bool) (hP : ∀ d n (c : T n), n ≤ d → Full n c → P (d + 1) (kidV m d n c) = true) : ∀ (d n : Nat) (t : T n), n ≤ d → Full n t ∨ n = 0 → everyN P (d + 1) (veil m d n t) = true
  | d, 0, l, _, _ => by rw [veil_leaf]; rfl
  | 0, n + 1, cs, h, _ => absurd h (by omega)
  | d + 1, n + 1, cs, h, hf => by
    obtain ⟨-, hea⟩ := hf.resolve_right (by omega)
    rw [veil_succ]
    show (cs.map (kidV m d n)).all (fun c => P (d + 1) c && everyN P (d + 1) c) = true
    rw [List.all_eq_true]
    intro c hc
    obtain ⟨t, ht, rfl⟩ := List.mem_map.1 hc
    have hft := hea t ht
    rw [Bool.and_eq_true]
    refine ⟨hP d n t (by omega) hft, ?_⟩
    unfold kidV
    split
    · exact every_veil P hP d n t (by omega) (.inl hft)
    · exact every_hid P d n t
theorem boxEq_refl (b : Box) : boxEq b b = true := by simp [boxEq]
theorem veil_boxes (d n : Nat) (t : T n) (h : n ≤ d) (hf : Full n t ∨ n = 0) : everyN boxHolds (d + 1) (veil m d n t) = true := by
  refine every_veil m _ (fun d n c hn hf => ?_) d n t h hf
  unfold boxHolds
  cases hs : shownN (d + 1) (kidV m d n c) with
  | false => rfl
  | true => rw [kid_made m hn hf hs, boxEq_refl]; simp
theorem veil_digs (d n : Nat) (t : T n) (h : n ≤ d) (hf : Full n t ∨ n = 0) : everyN digHolds (d + 1) (veil m d n t) = true := by
  refine every_veil m _ (fun d n c hn hf => ?_) d n t h hf
  unfold digHolds
  cases hs : shownN (d + 1) (kidV m d n c) with
  | false => rfl
  | true => rw [kid_made m hn hf hs]; simp
/-- the points that are shown are some of all, in their order -/
theorem veil_sub : ∀ (d n : Nat) (t : T n), (allN (d + 1) (veil m d n t)).Sublist (pts n t)
  | d, 0, l => by
    rw [veil_leaf]
    show ((l : List Pt) ++ []).Sublist l
    rw [List.append_nil]
    exact List.Sublist.refl _
  | 0, n + 1, cs => List.nil_sublist _
  | d + 1, n + 1, cs => by
    rw [veil_succ]
    show ([] ++ (cs.map (kidV m d n)).flatMap (allN (d + 1))).Sublist (List.flatMap (pts n) cs)
    rw [List.nil_append, List.flatMap_map]
    have key : ∀ (l : List (T n)), (l.flatMap fun c => allN (d + 1) (kidV m d n c)).Sublist (l.flatMap (pts n)) := by
      intro l
      induction l with
      | nil => exact List.Sublist.refl _
      | cons c l ih =>
        rw [List.flatMap_cons, List.flatMap_cons]
        refine List.Sublist.append ?_ ih
        unfold kidV
        split
        · exact veil_sub d n c
        · exact List.nil_sublist _
    exact key cs
/-- a point that is not shown lies in a box that need not be -/
theorem veil_hidden : ∀ (d n : Nat) (t : T n), n ≤ d → ∀ p ∈ pts n t, p ∈ allN (d + 1) (veil m d n t) ∨ ∃ b, m b = false ∧ b.has (boxOf p)
  | d, 0, l, _, p, hp => by
    refine .inl ?_
    rw [veil_leaf]
    exact List.mem_append_left _ hp
  | 0, n + 1, cs, h, _, _ => absurd h (by omega)
  | d + 1, n + 1, cs, h, p, hp => by
    obtain ⟨c, hc, hp⟩ := List.mem_flatMap.1 hp
    cases hm : m (box n c) with
    | false => exact .inr ⟨box n c, hm, box_has n c p hp⟩
    | true =>
      rcases veil_hidden d n c (by omega) p hp with h1 | h1
      · refine .inl ?_
        rw [veil_succ]
        refine List.mem_append_right _ (List.mem_flatMap.2 ⟨kidV m d n c, List.mem_map_of_mem hc, ?_⟩)
        rw [kidV, if_pos hm]
        exact h1
      · exact .inr h1
end
end Ward
end Go.Proofs.YtenaelkbgkpllaaGreatDoor
/- The proof of a map's tree is taken, and its answer is the map's. -/
namespace Go.Proofs.YtenaelkbgkpllaaGreatDoor
namespace Ward
theorem sha_32 (l : List UInt8) : (Sha.sha l).length = 32 := rfl
/-- its least are not above its greatest -/
def Box.up (b : Box) : Prop := b.a ≤ b.c ∧ b.b ≤ b.d
theorem join_up {p q : Box} (hp : p.up) : (join p q).up := by
  obtain ⟨_, _⟩ := hp
  constructor <;> simp only [join] <;> omega
theorem fold_up : ∀ {l : List Box} {b : Box}, b.up → (l.foldl join b).up
  | [], _, hb => hb
  | c :: l, _, hb => fold_up (l := l) (join_up (q := c) hb)
theorem boxL_up {l : List Box} (h : ∀ c ∈ l, c.up) : (boxL l).up := by
  refine fold_up ?_
  cases l with
  | nil => exact ⟨by simp, by simp⟩
  | cons c l => exact h c (by simp)
theorem box_up : ∀ (n : Nat) (t : T n), (box n t).up
  | 0, l => boxL_up fun c hc => by
    obtain ⟨p, _, rfl⟩ := List.mem_map.1 hc
    exact ⟨by simp [boxOf], by simp [boxOf]⟩
  | n + 1, cs => boxL_up fun c hc => by
    obtain ⟨t, _, rfl⟩ := List.mem_map.1 hc
    exact box_up n t
theorem may_of {b : Box} (h : b.In) (hu : b.up) : boxMay b = true := by
  obtain ⟨_, _, _, _, _, _, _, _⟩ := h
  obtain ⟨_, _⟩ := hu
  simp only [boxMay, Bool.and_eq_true, coordOk_iff, decide_eq_true_eq]
  refine ⟨⟨⟨⟨⟨?_, ?_⟩, ?_⟩, ?_⟩, ?_⟩, ?_⟩ <;> omega
theorem full_count : ∀ (n : Nat) (t : T n), Full n t → 1 ≤ count n t
  | 0, _, h => List.length_pos_iff.2 h
  | n + 1, cs, h => by
    rw [count_pts]
    obtain ⟨h1, h2⟩ := h
    match cs, h1, h2 with
    | c :: cs, _, h2 =>
      have h3 := full_count n c (h2 c (by simp))
      rw [count_pts] at h3
      show 1 ≤ (List.flatMap (pts n) (c :: cs)).length
      rw [List.flatMap_cons, List.length_append]
      omega
theorem kid_count {n : Nat} {cs : List (T n)} {c : T n} (h : c ∈ cs) : count n c ≤ count (n + 1) cs := by
  rw [count_pts, count_pts]
  have := List.sublist_flatten_of_mem (List.mem_map_of_mem (f := pts n) h)
  rw [← List.flatMap_def] at this
  exact this.length_le
theorem kid_form {m : Box → Bool} {d n : Nat} {c : T n} (hs : Small n c) (hf : Full n c) (hc : count n c ≤ 150) (hv : m (box n c) = true → FormN d false (veil m d n c)) : KidForm d (kidV m d n c) := by
  have e1 : Nd.box (kidV m d n c) = box n c := kid_box m d n c
  have e2 : Nd.n (kidV m d n c) = (count n c : Nat) := kid_num m d n c
  have e3 : Nd.dig (kidV m d n c) = Sha.sha (text Sha.sha n c) := kid_dig m d n c
  have h1 := full_count n c hf
  refine ⟨⟨by rw [e1]; exact may_of (box_in n c hs) (box_up n c), by rw [e2]; omega, by rw [e2]; omega, by rw [e3]; rfl⟩, ?_⟩
  unfold kidV
  split
  · rename_i hm
    exact .inr (hv hm)
  · exact .inl ⟨rfl, rfl⟩
theorem veil_form (m : Box → Bool) : ∀ (d n : Nat) (t : T n) (r : Bool), n < d → Small n t → (r = true ∧ n = 0) ∨ Full n t → count n t ≤ 150 → FormN d r (veil m d n t)
  | 0, n, t, _, h, _, _, _ => absurd h (by omega)
  | d + 1, 0, l, r, _, hs, hf, _ => by
    rw [veil_leaf]
    refine .inl ⟨rfl, hs.1, ?_, hs.2⟩
    rcases hf with hf | hf
    · exact .inl hf.1
    · exact .inr (List.length_pos_iff.2 hf)
  | d + 1, n + 1, cs, r, h, hs, hf, hc => by
    have hF : Full (n + 1) cs := by
      rcases hf with hf | hf
      · exact absurd hf.2 (by omega)
      · exact hf
    have hl : 0 < List.length (cs : List (T n)) := List.length_pos_iff.2 hF.1
    rw [veil_succ]
    refine .inr ⟨rfl, by show 0 < (cs.map (kidV m d n)).length; rw [List.length_map]; exact hl, by show (cs.map (kidV m d n)).length ≤ 4; rw [List.length_map]; exact hs.1, fun c hcm => ?_⟩
    obtain ⟨t, ht, rfl⟩ := List.mem_map.1 hcm
    have hct : count n t ≤ 150 := Nat.le_trans (kid_count ht) hc
    exact kid_form (hs.2 t ht) (hF.2 t ht) hct fun _ => veil_form m d n t false (by omega) (hs.2 t ht) (.inr (hF.2 t ht)) hct
/-- the proof of an answer -/
def proofText (q : Qr) (L : List Pt) : List UInt8 := proof Sha.sha (must q (ans q L)) (tree L).1 (tree L).2
theorem tree_nil : tree [] = ⟨0, ([] : List Pt)⟩ := rfl
theorem tree_some (L : List Pt) : Full (tree L).1 (tree L).2 ∨ (tree L).1 = 0 := by
  by_cases h : L = []
  · exact .inr (by rw [h]; rfl)
  · exact .inl (tree_full h)
theorem tree_some' (L : List Pt) : ((true = true ∧ (tree L).1 = 0) ∨ Full (tree L).1 (tree L).2) := by
  rcases tree_some L with h | h
  · exact .inr h
  · exact .inl ⟨rfl, h⟩
/-- the tree that a proof shows -/
def shownTree (q : Qr) (L : List Pt) : NT 7 := veil (must q (ans q L)) 6 (tree L).1 (tree L).2
/-- points of a map, in whatever order -/
structure Well (L : List Pt) : Prop where
  ok : ∀ p ∈ L, p.Ok
  ids : Ids L
  len : L.length ≤ 150
theorem Well.deep {L : List Pt} (h : Well L) : (tree L).1 ≤ 3 := tree_depth (by have := h.len; omega)
theorem shown_text {q : Qr} {L : List Pt} (h : Well L) : textS 7 (shownTree q L) = proofText q L :=
  veil_text _ 6 _ _ (by have := h.deep; omega) (tree_some L)
theorem shown_made {q : Qr} {L : List Pt} (h : Well L) : madeN 7 (shownTree q L) = shownTree q L := veil_made _ 6 _ _ (by have := h.deep; omega) (tree_some L)
theorem shown_sub {q : Qr} {L : List Pt} (h : Well L) : (allN 7 (shownTree q L)).Sublist L := by
  have hsub := veil_sub (must q (ans q L)) 6 (tree L).1 (tree L).2
  rw [(tree_small h.ok).2] at hsub
  exact hsub
theorem shown_parse {q : Qr} {L : List Pt} (h : Well L) : parse (proofText q L) = some (shownTree q L) := by
  have hd := h.deep
  have ht := tree_small h.ok
  have hf : FormN 6 true (shownTree q L) := veil_form _ 6 _ _ true (by omega) ht.1 (tree_some' L) (by rw [count_pts, ht.2]; exact h.len)
  have hn : (idsN 7 (shownTree q L)).Nodup := List.pairwise_map.2 (ids_sub (shown_sub h) h.ids)
  rw [← shown_text h]
  exact parse_full hf hn (shown_made h)
theorem shown_ans {q : Qr} {L : List Pt} (hq : mayBe q = true) (h : Well L) : ans q (allN 7 (shownTree q L)) = ans q L := by
  have ht := tree_small h.ok
  refine ans_part (a := ans q L) hq (shown_sub h) h.ids (fun p hp => ?_) (.inl rfl)
  exact veil_hidden (must q (ans q L)) 6 (tree L).1 (tree L).2 (by have := h.deep; omega) p (by rw [ht.2]; exact hp)
theorem shown_boxes {q : Qr} {L : List Pt} (h : Well L) : everyN boxHolds 7 (shownTree q L) = true := veil_boxes _ 6 _ _ (by have := h.deep; omega) (tree_some L)
theorem shown_digs {q : Qr} {L : List Pt} (h : Well L) : everyN digHolds 7 (shownTree q L) = true := veil_digs _ 6 _ _ (by have := h.deep; omega) (tree_some L)
theorem shown_lacks {q : Qr} {L : List Pt} (h : Well L) : everyN (lackN q (ans q L)) 7 (shownTree q L) = true := by
  refine every_veil _ _ (fun d n c hn hf => ?_) 6 _ _ (by have := h.deep; omega) (tree_some L)
  unfold lackN
  rw [kid_shown _ d n c hn hf, kid_box]
  cases must q (ans q L) (box n c) <;> rfl
theorem shown_wastes {q : Qr} {L : List Pt} (h : Well L) : everyN (wasteN q (ans q L)) 7 (shownTree q L) = true := by
  refine every_veil _ _ (fun d n c hn hf => ?_) 6 _ _ (by have := h.deep; omega) (tree_some L)
  unfold wasteN
  rw [kid_shown _ d n c hn hf, kid_box]
  cases must q (ans q L) (box n c) <;> rfl
theorem shown_root {q : Qr} {L : List Pt} : digN 7 (shownTree q L) = Sha.sha (rootText Sha.sha L) := veil_dig _ 6 _ _
theorem shown_num {q : Qr} {L : List Pt} (h : Well L) : numN 7 (shownTree q L) = (L.length : Nat) := by
  have e : numN 7 (shownTree q L) = (count (tree L).1 (tree L).2 : Nat) := veil_num _ 6 _ _
  rw [e, count_pts, (tree_small h.ok).2]
/-- what Prove gives is taken, and the answer is Answer's -/
theorem verify_proof {q : Qr} {L : List Pt} (hq : mayBe q = true) (h : Well L) : verify (Sha.sha (rootText Sha.sha L)) (L.length : Nat) q (proofText q L) = (ans q L, 0) := by
  unfold verify
  rw [hq, if_neg (by simp), shown_parse h]
  simp only
  rw [shown_ans hq h, shown_boxes h, shown_digs h, shown_lacks h, shown_wastes h, if_neg (by simp), if_neg (by rw [shown_root, shown_num h]; simp), if_neg (by simp), if_neg (by simp)]
/-- with another number of points it is refused -/
theorem verify_count {q : Qr} {L : List Pt} (hq : mayBe q = true) (h : Well L) {c : Int} (hc : c ≠ (L.length : Nat)) : verify (Sha.sha (rootText Sha.sha L)) c q (proofText q L) = ([], 9) := by
  unfold verify
  rw [hq, if_neg (by simp), shown_parse h]
  simp only
  rw [shown_boxes h, if_neg (by simp), if_pos (.inr (by rw [shown_num h]; exact fun e => hc e.2.symm))]
theorem verify_nil {r : List UInt8} {c : Int} {q : Qr} {s : List UInt8} (h : (verify r c q s).2 ≠ 0) : (verify r c q s).1 = [] := by
  unfold verify at h ⊢
  split
  · rfl
  · split
    · rfl
    · split
      · rfl
      · split
        · rfl
        · split
          · rfl
          · split
            · rfl
            · rename_i h0 _ _ hp h1 h2 h3 h4
              rw [if_neg h0, hp] at h
              simp only at h
              rw [if_neg h1, if_neg h2, if_neg h3, if_neg h4] at h
              exact absurd rfl h
end Ward
end Go.Proofs.YtenaelkbgkpllaaGreatDoor
/- What a proof that was gone through tells: Verify by it. -/
namespace Go.Proofs.YtenaelkbgkpllaaGreatDoor
namespace Ward
/-- a child's numbers are such as may be -/
structure KOk (c : Chd) : Prop where
  may : boxMay c.box = true
  dig : c.dig.length = 32
  text : c.rtext.length ≤ 250
theorem flat_len_le {α : Type} (f : α → List UInt8) (m : Nat) : ∀ K : List α, (∀ c ∈ K, (f c).length ≤ m) → (K.flatMap f).length ≤ m * K.length
  | [], _ => by simp
  | c :: K, h => by
    have h1 := h c List.mem_cons_self
    have h2 := flat_len_le f m K (fun c hc => h c (List.mem_cons_of_mem _ hc))
    rw [List.flatMap_cons, List.length_append, List.length_cons, Nat.mul_succ]
    omega
theorem textM_len {d : Nat} {r : Bool} {t : NT (d + 1)} (h : FormN d r t) : (textM (d + 1) t).length ≤ 250 := by
  cases d with
  | zero => exact h.elim
  | succ d =>
    rw [textM]
    rcases h with ⟨h1, h2, _, _⟩ | ⟨h1, h2, h3, h4⟩
    · rw [if_pos (by rw [h1]; rfl)]
      have := flat_len_le ptText 12 (Nd.pts t) (fun p _ => by rw [show (ptText p).length = 12 from rfl]; omega)
      show (1 :: UInt8.ofNat (Nd.pts t).length :: (Nd.pts t).flatMap ptText).length ≤ 250
      simp only [List.length_cons]
      omega
    · rw [if_neg (by omega)]
      have := flat_len_le (saidN (d + 1)) 52 (Nd.kids t) (fun c hc => by rw [said_len52 (h4 c hc).1.2.2.2]; omega)
      show (2 :: UInt8.ofNat (Nd.kids t).length :: (Nd.kids t).flatMap (saidN (d + 1))).length ≤ 250
      simp only [List.length_cons]
      omega
theorem form_kok : ∀ (d : Nat) (r : Bool) (t : NT (d + 1)), FormN d r t → ∀ c ∈ post (d + 1) t, KOk c
  | 0, _, _, h => h.elim
  | d + 1, r, t, h => by
    intro c hc
    rw [show post (d + 2) t = (Nd.kids t).flatMap (fun c => post (d + 1) c ++ [chd (d + 1) c]) from rfl] at hc
    rcases h with ⟨h1, _⟩ | ⟨h1, h2, h3, h4⟩
    · rw [h1] at hc
      simp at hc
    · obtain ⟨k, hk, hc⟩ := List.mem_flatMap.1 hc
      obtain ⟨⟨k1, k2, k3, k4⟩, k5⟩ := h4 k hk
      rcases List.mem_append.1 hc with hc | hc
      · rcases k5 with ⟨e1, e2⟩ | k5
        · rw [show post (d + 1) k = (Nd.kids k).flatMap (fun c => post d c ++ [chd d c]) from rfl, e2] at hc
          simp at hc
        · exact form_kok d false k k5 c hc
      · rw [List.mem_singleton.1 hc]
        refine ⟨k1, k4, ?_⟩
        show (if shownN (d + 1) k then textM (d + 1) k else []).length ≤ 250
        rcases k5 with ⟨e1, e2⟩ | k5
        · rw [shown_no e1 e2]
          exact Nat.zero_le _
        · rw [form_shown k5, if_pos rfl]
          exact textM_len k5
/-- where it is of the form -/
structure LookGood (s : List UInt8) (L : List Pt) (K : List Chd) (n : Int) (x : List UInt8) : Prop where
  ids : Ids L
  ok : ∀ p ∈ L, p.Ok
  kids : ∀ c ∈ K, KOk c
  text : x.length ≤ 250
  is : ∀ (root : List UInt8) (count : Int) (q : Qr), mayBe q = true → verify root count q s = verdict root count (must q (ans q L)) (ans q L) K x n
theorem look_good {s : List UInt8} {t : NT 7} {i : Nat} {L : List Pt} {K : List Chd} {b : Box} {n : Int} {x : List UInt8} (g : PartGood 6 true s 0 [] [] t i L K b n x) (hi : i = s.length) : LookGood s L K n x := by
  have hrd := g.rd
  have e0 : at' s 0 [] = (s, []) := by
    show (s.drop 0, _) = _
    rw [List.drop_zero]
    rfl
  have e1 : at' s i L = ([], (L.map Pt.id).reverse) := by
    show (s.drop i, _) = _
    rw [List.drop_eq_nil_of_le (by omega)]
  rw [e0, e1] at hrd
  have hp : parse s = some (madeN 7 t) := by
    unfold parse
    rw [hrd]
  obtain ⟨⟨hf, _, _⟩, _⟩ := rdNode_sound 6 true _ _ _ hrd
  have hfine := form_fine 6 true t hf
  obtain ⟨s1, _, s3, _⟩ := parse_sound hp
  have hm := made_same hf
  have hall : allN 7 (madeN 7 t) = allN 7 t := all_of hm.1 hm.2
  have hL : L = allN 7 t := by rw [g.pts]; rfl
  have hK : K = post 7 t := by rw [g.kids]; rfl
  refine ⟨?_, ?_, ?_, ?_, fun root count q hq => ?_⟩
  · rw [hL, ← hall]
    exact List.pairwise_map.1 s3
  · rw [hL]; exact hfine.ok
  · rw [hK]; exact form_kok 6 true t hf
  · rw [g.text]; exact textM_len hf
  · have hv := verdict_is root count q (madeN 7 t) t (post_of hm.2) (madeT_dig 7 t)
    rw [hall] at hv
    rw [hL, hK, g.text, g.num, show Nd.n (madeN (6 + 1) t) = numN 7 (madeN 7 t) from rfl, hv]
    unfold verify
    rw [if_neg (by rw [hq]; decide), hp]
    simp only
    rw [hall]
theorem look_bad {s : List UInt8} (h : rdNode 6 true (at' s 0 []) = none ∨ ∃ t i L, rdNode 6 true (at' s 0 []) = some (t, at' s i L) ∧ i < s.length) (root : List UInt8) (count : Int) (q : Qr) (hq : mayBe q = true) : verify root count q s = ([], 7) := by
  have e0 : at' s 0 [] = (s, []) := by
    show (s.drop 0, _) = _
    rw [List.drop_zero]
    rfl
  rw [e0] at h
  have hp : parse s = none := by
    unfold parse
    rcases h with h | ⟨t, i, L, h, hi⟩
    · rw [h]
    · rw [h]
      have : s.drop i ≠ [] := fun e => by
        have := congrArg List.length e
        rw [List.length_drop] at this
        simp at this
        omega
      unfold at'
      match hd : s.drop i, this with
      | a :: l, _ => rfl
  unfold verify
  rw [if_neg (by rw [hq]; decide), hp]
end Ward
end Go.Proofs.YtenaelkbgkpllaaGreatDoor
