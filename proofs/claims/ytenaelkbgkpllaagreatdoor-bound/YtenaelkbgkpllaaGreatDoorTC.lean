/- A leaf's text. -/
import Derived.Test.YtenaelkbgkpllaaGreatDoorTB
namespace Go.Proofs.YtenaelkbgkpllaaGreatDoor
open Go.RowKit

/-- points that are read, below block B -/
def ReadsB (w : World) (B : Nat) (v : Value) (L : List Ward.Pt) : Prop := ∃ (a : Option Addr) (c : Nat), v = .slice a L.length c ∧ (L ≠ [] → ∃ g o, a = some ⟨g, o, none⟩ ∧ g < B ∧ ∀ i (h : i < L.length), PtAt w g (o + i * 3) L[i])
theorem PtAt.block {w w' : World} {g o : Nat} {p : Ward.Pt} (h : PtAt w g o p) (hb : w'.heap[g]? = w.heap[g]?) : PtAt w' g o p :=
  ⟨(World.cell?_of_block (w := w) (a := ⟨g, o, none⟩) hb).trans h.1, (World.cell?_of_block (w := w) (a := ⟨g, o + 1, none⟩) hb).trans h.2.1, (World.cell?_of_block (w := w) (a := ⟨g, o + 2, none⟩) hb).trans h.2.2⟩
theorem ptText_nums (p : Ward.Pt) : Ward.ptText p = nums [p.id, p.x, p.y] := by
  simp [Ward.ptText, nums]
theorem leafText_two (L : List Ward.Pt) : Ward.leafText L = [1, UInt8.ofNat L.length] ++ L.flatMap Ward.ptText := rfl

set_option maxRecDepth 100000 in
set_option maxHeartbeats 2000000 in
theorem appendLeaf_any (v : Value) (l : List UInt8) (vp : Value) (L : List Ward.Pt) (w : World) (B : Nat) (hB : B ≤ w.heap.size) (hx : l.length ≤ 700000) (hL : L.length ≤ 4) (hp : ReadsB w B vp L) (hown : OwnB w B v l) :
    Calls Tryz.prog 119 #[v, vp] w fun e w' => Put w B v l (Ward.leafText L) e w' := by
  obtain ⟨ap, cp, rfl, hrd⟩ := hp
  have HRD := hide hrd
  have HO := hide hown
  clear hrd
  obtain ⟨v1, w1, h1, ho1, hg1, hf1⟩ := append_bytes (w := w.alloc (.cells #[.int .u8 1, .int .u8 L.length] 5)) [1, UInt8.ofNat L.length] ⟨w.heap.size, 0, none⟩ 2 (hown.below ((Below.refl w.heap.size w).alloc (Nat.le_refl _) _)) (by simp; omega) (by simp; omega) (fun j b hj => by
    have hkk : (UInt8.ofNat L.length).toNat = L.length := by rw [UInt8.toNat_ofNat']; omega
    rw [Addr.add_lit, Nat.zero_add, cell_of_row _ _ _ _ _ _ (heap_alloc_new w _)]
    match j, hj with
    | 0, hj => simp at hj; subst hj; rfl
    | 1, hj => simp at hj; subst hj; show some (Value.int .u8 (L.length : Int)) = some (Y (UInt8.ofNat L.length)); rw [Y, hkk])
  have hG : w.grownBy w1 v.ownBlock := ⟨hg1.os, hg1.tape, hg1.output, Nat.le_trans (by simp) hg1.size, fun j hj hne => (hg1.block j (by simp; omega) hne).trans (Below.heap_alloc w _ j hj)⟩
  have hF : Fresh w v v1 := by
    rcases hf1 with hf | ⟨g, hf, hgs⟩
    · exact .inl hf
    · exact .inr ⟨g, hf, Nat.le_trans (by simp) hgs⟩
  have HG1 := hide hG
  have HF1 := hide hF
  have HO1 := hide ho1
  obtain ⟨a, c, rfl⟩ := hown.slice
  have h1' : (Builtin.append_ #[59, 59] 59 #[.slice a l.length c, .slice (some ⟨w.heap.size, 0, none⟩) 2 2]).run Tryz.prog (w.alloc (.cells #[.int .u8 1, .int .u8 L.length] 5)) = .ok v1 w1 := h1
  clear h1 ho1 hg1 hf1 hG hF hown
  go_enter Tryz.func119, Tryz.ntmps119
  go_wp2_with (at_builtin; refine Lib.wpList_append_run _ rfl (.tmp 7) (.tmp 11) 59 59 rfl _ _ rfl rfl _ _ h1' ?_)
  go_loopg [0, 15] L.length (fun gk v0 v15 wq => ∃ i : Nat, gk = L.length - i ∧ v15 = I i ∧ i ≤ L.length ∧ OwnB wq B v0 (l ++ ([1, UInt8.ofNat L.length] ++ (L.take i).flatMap Ward.ptText)) ∧ w.grownBy wq (Value.slice a l.length c).ownBlock ∧ Fresh w (.slice a l.length c) v0)
  case atStart => exact ⟨0, by omega, rfl, by omega, by simpa using HO1.out, HG1.out, HF1.out⟩
  case round =>
    clear HO1 HG1 HF1 h1'
    obtain ⟨i, hgk, rfl, hi, ho, hgr, hf⟩ := hrel
    have HGK := hide hgk
    have HG := hide hgr
    have HF := hide hf
    have HOI := hide ho
    clear hgk hgr hf ho
    by_cases hlt : i < L.length
    · obtain ⟨g, o, rfl, hgB, hpts⟩ := HRD.out (fun e => by subst e; simp at hlt)
      have hnb : ∀ b, (Value.slice a l.length c).ownBlock = some b → B ≤ b := fun b e => (HO.out.lt e).1
      have hpi := (hpts i hlt).block (w' := wr) (HG.out.block g (hpts i hlt).lt (fun e => by have := hnb g e.symm; omega))
      have HT := hide (show (L.take (i + 1)).flatMap Ward.ptText = (L.take i).flatMap Ward.ptText ++ Ward.ptText L[i] from flat_step Ward.ptText L i hlt)
      have hlen : ((L.take i).flatMap Ward.ptText).length ≤ 100 := by rw [Ward.pts_len, List.length_take]; omega
      generalize L[i] = p at *
      generalize (L.take i).flatMap Ward.ptText = N at *
      clear hpts
      obtain ⟨p1, p2, p3⟩ := hpi
      have hT : l ++ ([1, UInt8.ofNat L.length] ++ N) = l ++ ([1, UInt8.ofNat L.length] ++ N) := rfl
      generalize hM : l ++ ([1, UInt8.ofNat L.length] ++ N) = M at *
      have HM := hide hM
      have hMl : M.length ≤ 700200 := by rw [← hM]; simp; omega
      clear hT hM
      go_wp2_with fail
      have hb2 := fun o o' => ((Below.refl wr.heap.size wr).alloc (Nat.le_refl _) o).alloc (by simp) o'
      have hr2 := heap_alloc2_new wr
      generalize hW : World.alloc (World.alloc wr _) _ = w2
      have hb : Below wr.heap.size wr w2 := by rw [← hW]; exact hb2 _ _
      have hrow : w2.heap[wr.heap.size + 1]? = some (.cells #[I p.id, I p.x, I p.y] 3 (0, 0)) := by rw [← hW]; exact hr2 _ _
      clear hb2 hr2 hW
      obtain ⟨y1, y2, y3⟩ := row3 hrow
      have hn := (appendNumbers_any u0 M [p.id, p.x, p.y] (wr.heap.size + 1) w2 B (Nat.le_trans hB (Nat.le_trans HG.out.size hb.size)) (by omega) (by simp) (HOI.out.old (by omega)) (fun j hj => by
        match j, hj with
        | 0, _ => exact y1
        | 1, _ => exact y2
        | 2, _ => exact y3) (by simp) (HOI.out.below hb))
      refine hn.mono ?_
      intro e w3 h3
      obtain ⟨v3, rfl, ho3, hg3, hf3⟩ := h3.lift hb
      have HO3 := hide ho3
      have HG3 := hide (grown_trans HG.out HF.out hg3)
      have HF3 := hide (fresh_trans HF.out HG.out.size hf3)
      clear ho3 hg3 hf3 hn h3 hrow hb y1 y2 y3
      go_wp2_with fail
      go_roundg (L.length - (i + 1))
      case measure => have := HGK.out; omega
      case rel => exact ⟨i + 1, rfl, by go_num, hlt, by
        have h := HO3.out
        rw [← HM.out, ← ptText_nums] at h
        rw [HT.out]
        simpa using h, HG3.out, HF3.out⟩
    · have ei : i = L.length := by omega
      subst ei
      rw [List.take_length] at HOI
      go_wp2
      go_ret
      exact ⟨_, rfl, HOI.out, HG.out, HF.out⟩
end Go.Proofs.YtenaelkbgkpllaaGreatDoor
