/- A leaf's text. -/
import Derived.Test.YtenaelkbgkpllaaGreatDoorVerified4
import Derived.Test.YtenaelkbgkpllaaGreatDoorVerified2
import Derived.Test.YtenaelkbgkpllaaGreatDoorVerified3
import Derived.Deep.MidRow
import Derived.Deep.RegionWith
import Derived.Deep.DeepCutAuto
import Derived.Test.YtenaelkbgkpllaaGreatDoorVerified1
namespace Go.Proofs.YtenaelkbgkpllaaGreatDoor
open Go.RowKit

/-- points that are read, below block B -/
def ReadsB (w : World) (B : Nat) (v : Value) (L : List Ward.Pt) : Prop := ∃ (a : Option Addr) (c : Nat), v = .slice a L.length c ∧ (L ≠ [] → ∃ g o, a = some ⟨g, o, none⟩ ∧ g < B ∧ ∀ i (h : i < L.length), PtAt w g (o + i * 3) L[i])
theorem PtAt.block {w w' : World} {g o : Nat} {p : Ward.Pt} (h : PtAt w g o p) (hb : w'.heap[g]? = w.heap[g]?) : PtAt w' g o p :=
  ⟨(World.cell?_of_block (w := w) (a := ⟨g, o, none⟩) hb).trans h.1, (World.cell?_of_block (w := w) (a := ⟨g, o + 1, none⟩) hb).trans h.2.1, (World.cell?_of_block (w := w) (a := ⟨g, o + 2, none⟩) hb).trans h.2.2⟩
theorem ptText_nums (p : Ward.Pt) : Ward.ptText p = nums [p.id, p.x, p.y] := by
  simp [Ward.ptText, nums]
theorem leafText_two (L : List Ward.Pt) : Ward.leafText L = [1, UInt8.ofNat L.length] ++ L.flatMap Ward.ptText := rfl

set_option maxRecDepth 100000 in
set_option maxHeartbeats 2000000 in
theorem appendLeaf_any (v : Value) (l : List UInt8) (vp : Value) (L : List Ward.Pt) (w : World) (B : Nat) (hB : B ≤ w.heap.size) (hx : l.length ≤ 700000) (hL : L.length ≤ 4) (hp : ReadsB w B vp L) (hown : OwnB w B v l) :
    Calls Tryz.prog 119 #[v, vp] w fun e w' => Put w B v l (Ward.leafText L) e w' := by
  obtain ⟨ap, cp, rfl, hrd⟩ := hp
  have HRD := hide hrd
  have HO := hide hown
  clear hrd
  obtain ⟨v1, w1, h1, ho1, hg1, hf1⟩ := append_bytes (w := w.alloc (.cells #[.int .u8 1, .int .u8 L.length] 5)) [1, UInt8.ofNat L.length] ⟨w.heap.size, 0, none⟩ 2 (hown.below ((Below.refl w.heap.size w).alloc (Nat.le_refl _) _)) (by simp; omega) (by simp; omega) (fun j b hj => by
    have hkk : (UInt8.ofNat L.length).toNat = L.length := by rw [UInt8.toNat_ofNat']; omega
    rw [Addr.add_lit, Nat.zero_add, cell_of_row _ _ _ _ _ _ (heap_alloc_new w _)]
    match j, hj with
    | 0, hj => simp at hj; subst hj; rfl
    | 1, hj => simp at hj; subst hj; show some (Value.int .u8 (L.length : Int)) = some (Y (UInt8.ofNat L.length)); rw [Y, hkk])
  have hG : w.grownBy w1 v.ownBlock := ⟨hg1.os, hg1.tape, hg1.output, Nat.le_trans (by simp) hg1.size, fun j hj hne => (hg1.block j (by simp; omega) hne).trans (Below.heap_alloc w _ j hj)⟩
  have hF : Fresh w v v1 := by
    rcases hf1 with hf | ⟨g, hf, hgs⟩
    · exact .inl hf
    · exact .inr ⟨g, hf, Nat.le_trans (by simp) hgs⟩
  have HG1 := hide hG
  have HF1 := hide hF
  have HO1 := hide ho1
  obtain ⟨a, c, rfl⟩ := hown.slice
  have h1' : (Builtin.append_ #[59, 59] 59 #[.slice a l.length c, .slice (some ⟨w.heap.size, 0, none⟩) 2 2]).run Tryz.prog (w.alloc (.cells #[.int .u8 1, .int .u8 L.length] 5)) = .ok v1 w1 := h1
  clear h1 ho1 hg1 hf1 hG hF hown
  go_enter Tryz.func119, Tryz.ntmps119
  go_wp2_with (at_builtin; refine Lib.wpList_append_run _ rfl (.tmp 7) (.tmp 11) 59 59 rfl _ _ rfl rfl _ _ h1' ?_)
  go_loopg [0, 15] L.length (fun gk v0 v15 wq => ∃ i : Nat, gk = L.length - i ∧ v15 = I i ∧ i ≤ L.length ∧ OwnB wq B v0 (l ++ ([1, UInt8.ofNat L.length] ++ (L.take i).flatMap Ward.ptText)) ∧ w.grownBy wq (Value.slice a l.length c).ownBlock ∧ Fresh w (.slice a l.length c) v0)
  case atStart => exact ⟨0, by omega, rfl, by omega, by simpa using HO1.out, HG1.out, HF1.out⟩
  case round =>
    clear HO1 HG1 HF1 h1'
    obtain ⟨i, hgk, rfl, hi, ho, hgr, hf⟩ := hrel
    have HGK := hide hgk
    have HG := hide hgr
    have HF := hide hf
    have HOI := hide ho
    clear hgk hgr hf ho
    by_cases hlt : i < L.length
    · obtain ⟨g, o, rfl, hgB, hpts⟩ := HRD.out (fun e => by subst e; simp at hlt)
      have hnb : ∀ b, (Value.slice a l.length c).ownBlock = some b → B ≤ b := fun b e => (HO.out.lt e).1
      have hpi := (hpts i hlt).block (w' := wr) (HG.out.block g (hpts i hlt).lt (fun e => by have := hnb g e.symm; omega))
      have HT := hide (show (L.take (i + 1)).flatMap Ward.ptText = (L.take i).flatMap Ward.ptText ++ Ward.ptText L[i] from flat_step Ward.ptText L i hlt)
      have hlen : ((L.take i).flatMap Ward.ptText).length ≤ 100 := by rw [Ward.pts_len, List.length_take]; omega
      generalize L[i] = p at *
      generalize (L.take i).flatMap Ward.ptText = N at *
      clear hpts
      obtain ⟨p1, p2, p3⟩ := hpi
      have hT : l ++ ([1, UInt8.ofNat L.length] ++ N) = l ++ ([1, UInt8.ofNat L.length] ++ N) := rfl
      generalize hM : l ++ ([1, UInt8.ofNat L.length] ++ N) = M at *
      have HM := hide hM
      have hMl : M.length ≤ 700200 := by rw [← hM]; simp; omega
      clear hT hM
      go_wp2_with fail
      have hb2 := fun o o' => ((Below.refl wr.heap.size wr).alloc (Nat.le_refl _) o).alloc (by simp) o'
      have hr2 := heap_alloc2_new wr
      generalize hW : World.alloc (World.alloc wr _) _ = w2
      have hb : Below wr.heap.size wr w2 := by rw [← hW]; exact hb2 _ _
      have hrow : w2.heap[wr.heap.size + 1]? = some (.cells #[I p.id, I p.x, I p.y] 3 (0, 0)) := by rw [← hW]; exact hr2 _ _
      clear hb2 hr2 hW
      obtain ⟨y1, y2, y3⟩ := row3 hrow
      have hn := (appendNumbers_any u0 M [p.id, p.x, p.y] (wr.heap.size + 1) w2 B (Nat.le_trans hB (Nat.le_trans HG.out.size hb.size)) (by omega) (by simp) (HOI.out.old (by omega)) (fun j hj => by
        match j, hj with
        | 0, _ => exact y1
        | 1, _ => exact y2
        | 2, _ => exact y3) (by simp) (HOI.out.below hb))
      refine hn.mono ?_
      intro e w3 h3
      obtain ⟨v3, rfl, ho3, hg3, hf3⟩ := h3.lift hb
      have HO3 := hide ho3
      have HG3 := hide (grown_trans HG.out HF.out hg3)
      have HF3 := hide (fresh_trans HF.out HG.out.size hf3)
      clear ho3 hg3 hf3 hn h3 hrow hb y1 y2 y3
      go_wp2_with fail
      go_roundg (L.length - (i + 1))
      case measure => have := HGK.out; omega
      case rel => exact ⟨i + 1, rfl, by go_num, hlt, by
        have h := HO3.out
        rw [← HM.out, ← ptText_nums] at h
        rw [HT.out]
        simpa using h, HG3.out, HF3.out⟩
    · have ei : i = L.length := by omega
      subst ei
      rw [List.take_length] at HOI
      go_wp2
      go_ret
      exact ⟨_, rfl, HOI.out, HG.out, HF.out⟩
end Go.Proofs.YtenaelkbgkpllaaGreatDoor
/- A leaf's text as a string. -/
namespace Go.Proofs.YtenaelkbgkpllaaGreatDoor
open Go.RowKit

theorem ownB_nil (w : World) (B : Nat) : OwnB w B (.slice none 0 0) [] := World.ownsRow_nil _ _ _ _
/-- bytes read as a string -/
theorem OwnB.conv {w : World} {B : Nat} {v : Value} {l : List UInt8} (h : OwnB w B v l) (hne : l ≠ []) : (convert 59 9 v).run Tryz.prog w = .ok (Sv l) w := by
  have hv : v ≠ .slice none 0 0 := fun e => by
    rcases h.2 with ⟨_, h0⟩ | ⟨g, cap, cur, e2, _⟩
    · exact hne (List.length_eq_zero_iff.1 h0)
    · rw [e2] at e; cases e
  obtain ⟨g, cap, rfl, _, _, hr⟩ := range_of_owns h hv
  exact conv_bytes g l.length cap l rfl w hr
set_option maxHeartbeats 400000 in
theorem leafText_any (vp : Value) (L : List Ward.Pt) (w : World) (hL : L.length ≤ 4) (hp : ReadsB w w.heap.size vp L) :
    Calls Tryz.prog 111 #[vp] w fun e w' => e = .returned (Sv (Ward.leafText L)) ∧ Below w.heap.size w w' := by
  have h1 := appendLeaf_any (.slice none 0 0) [] vp L w w.heap.size (Nat.le_refl _) (by simp) hL hp (ownB_nil _ _)
  obtain ⟨ap, cp, rfl, -⟩ := hp
  go_enter Tryz.func111, Tryz.ntmps111
  go_wp2_with fail
  refine h1.mono ?_
  rintro e w1 ⟨v1, rfl, ho1, hg1, -⟩
  rw [List.nil_append] at ho1
  have hc := ho1.conv (by simp [Ward.leafText])
  have HB := hide (show Below w.heap.size w w1 from ⟨hg1.os, hg1.tape, hg1.output, hg1.size, fun k hk => hg1.block k hk (by simp [Value.ownBlock])⟩)
  generalize hT : Ward.leafText L = T at *
  have HT := hide hT
  clear h1 ho1 hg1 hT
  go_wp2
  go_ret
  exact ⟨by rw [HT.out]; rfl, HB.out⟩
end Go.Proofs.YtenaelkbgkpllaaGreatDoor
/- Points cut into groups of four. -/
namespace Go.Proofs.YtenaelkbgkpllaaGreatDoor
open Go.RowKit

/-- the groups of a list that lies somewhere, elements of k cells each -/
def groupV (k g o n i : Nat) : Value := .slice (some ⟨g, o + 4 * i * k, none⟩) (min 4 (n - 4 * i)) (min 4 (n - 4 * i))
def groupsV (k g o n m : Nat) : List Value := (List.range m).map (groupV k g o n)
theorem groupsV_succ (k g o n m : Nat) : groupsV k g o n (m + 1) = groupsV k g o n m ++ [groupV k g o n m] := by
  simp [groupsV, List.range_succ]
theorem Tryz.infoPts : (Tryz.prog.info? 27).map (fun i => (i.zero, i.size, i.bytes)) = some (some (.slice none 0 0), 1, 24) := by kernel_rfl
theorem one_cell {w : World} {t : Nat} {x : Value} : ∀ j u, [x][j]? = some u → (w.alloc (.cells #[x] t)).cell? ((⟨w.heap.size, 0, none⟩ : Addr).add j) = some u := fun j u hj => by
  rw [Addr.add_lit, Nat.zero_add, cell_of_row _ _ _ _ _ _ (heap_alloc_new w _)]
  match j, hj with
  | 0, hj => simpa using hj

set_option maxRecDepth 100000 in
set_option maxHeartbeats 1000000 in
theorem foursPt_any (g o n c : Nat) (w : World) (hn : n ≤ 1000) (hc : n ≤ c) (hcm : c ≤ maxLen) :
    Calls Tryz.prog 71 #[.slice (some ⟨g, o, none⟩) n c] w fun e w' => ∃ v', e = .returned v' ∧ w'.ownsRow w.heap.size 27 1 v' ((n + 3) / 4) (groupsV 3 g o n ((n + 3) / 4)) ∧ Below w.heap.size w w' := by
  obtain ⟨i0, hi0, hz0, hz1, hz2⟩ := info_parts Tryz.infoPts
  unfold maxLen at hcm
  go_enter Tryz.func71, Tryz.ntmps71
  go_wp2_with fail
  go_loopg [3, 4] ((n + 3) / 4) (fun gk v3 v4 wq => ∃ i : Nat, gk = (n + 3) / 4 - i ∧ v4 = I (4 * (i : Int)) ∧ i ≤ (n + 3) / 4 ∧ wq.ownsRow w.heap.size 27 1 v3 i (groupsV 3 g o n i) ∧ Below w.heap.size w wq)
  case atStart => exact ⟨0, by omega, by go_num, by omega, World.ownsRow_nil _ _ _ _, Below.refl _ _⟩
  case round =>
    obtain ⟨i, hgk, rfl, hi, ho, hb⟩ := hrel
    have HGK := hide hgk
    have HO := hide ho
    have HB := hide hb
    have hs := hb.size
    clear hgk ho hb
    by_cases hlt : i < (n + 3) / 4
    · have h4 : 4 * (i : Int) < (n : Int) := by omega
      obtain ⟨m, hm⟩ : ∃ m, m = min 4 (n - 4 * i) := ⟨_, rfl⟩
      have hmin : min (4 * (i : Int) + 4) (n : Int) = 4 * (i : Int) + (m : Int) := by omega
      have hm1 : 0 < m ∧ m ≤ 4 ∧ 4 * i + m ≤ n := by omega
      have HV := hide (show groupV 3 g o n i = .slice (some ⟨g, o + 4 * i * 3, none⟩) m m by rw [groupV, ← hm])
      have HM := hide hm
      clear hm
      have hw4 : IntKind.i64.wrap (4 * (i : Int) + 4) = 4 * (i : Int) + 4 := by rw [IntKind.wrap_i64]; omega
      have ht1 : (4 * (i : Int)).toNat = 4 * i := by omega
      have ht2 : (4 * (i : Int) + (m : Int)).toNat = 4 * i + m := by omega
      have HO2 := hide (fun ob => HO.out.alloc ob)
      have HLT := hide (fun b (e : (u3 : Value).ownBlock = some b) => (HO.out.lt b e).1)
      have HNW := hide (one_cell (w := wr) (t := 27) (x := .slice (some ⟨g, o + 4 * i * 3, none⟩) m m))
      go_wp2_with (at_builtin; refine wpList_append_own2 _ rfl (.tmp 17) (.tmp 23) 118 rfl w.heap.size 27 i0 (.slice none 0 0) 1 24 Tryz.underlying118 hi0 hz0 hz1 hz2 rfl (by decide) _ i (groupsV 3 g o n i) rfl (HO2.out _) ⟨wr.heap.size, 0, none⟩ 1 1 [.slice (some ⟨g, o + 4 * i * 3, none⟩) m m] rfl rfl HNW.out (fun u hu => by rw [List.mem_singleton.1 hu]; rfl) (by unfold maxLen; omega) (by omega) (by simp; omega) ?_)
      intro v' w1 hown' hgrow _
      rw [← HV.out, ← groupsV_succ] at hown'
      have hb1 : Below w.heap.size w w1 := (HB.out.alloc hs _).grown hgrow (by simp; omega) (fun k hk => HLT.out k hk)
      have HO1 := hide hown'
      have HB1 := hide hb1
      clear hown' hgrow hb1 HO2 HNW HLT
      go_wp2_with fail
      go_roundg ((n + 3) / 4 - (i + 1))
      case measure => have := HGK.out; omega
      case rel => exact ⟨i + 1, rfl, by go_num, by omega, HO1.out, HB1.out⟩
    · have ei : i = (n + 3) / 4 := by omega
      have h4 : ¬ (4 * (i : Int) < (n : Int)) := by omega
      subst ei
      go_wp2
      go_ret
      exact ⟨_, rfl, HO.out, HB.out⟩
end Go.Proofs.YtenaelkbgkpllaaGreatDoor
/- Nodes cut into groups of four. -/
namespace Go.Proofs.YtenaelkbgkpllaaGreatDoor
open Go.RowKit

theorem Tryz.infoNodes : (Tryz.prog.info? 86).map (fun i => (i.zero, i.size, i.bytes)) = some (some (.slice none 0 0), 1, 24) := by kernel_rfl
set_option maxRecDepth 100000 in
set_option maxHeartbeats 1000000 in
theorem foursNode_any (g o n c : Nat) (w : World) (hn : n ≤ 1000) (hc : n ≤ c) (hcm : c ≤ maxLen) :
    Calls Tryz.prog 112 #[.slice (some ⟨g, o, none⟩) n c] w fun e w' => ∃ v', e = .returned v' ∧ w'.ownsRow w.heap.size 86 1 v' ((n + 3) / 4) (groupsV 39 g o n ((n + 3) / 4)) ∧ Below w.heap.size w w' := by
  obtain ⟨i0, hi0, hz0, hz1, hz2⟩ := info_parts Tryz.infoNodes
  unfold maxLen at hcm
  go_enter Tryz.func112, Tryz.ntmps112
  go_wp2_with fail
  go_loopg [3, 4] ((n + 3) / 4) (fun gk v3 v4 wq => ∃ i : Nat, gk = (n + 3) / 4 - i ∧ v4 = I (4 * (i : Int)) ∧ i ≤ (n + 3) / 4 ∧ wq.ownsRow w.heap.size 86 1 v3 i (groupsV 39 g o n i) ∧ Below w.heap.size w wq)
  case atStart => exact ⟨0, by omega, by go_num, by omega, World.ownsRow_nil _ _ _ _, Below.refl _ _⟩
  case round =>
    obtain ⟨i, hgk, rfl, hi, ho, hb⟩ := hrel
    have HGK := hide hgk
    have HO := hide ho
    have HB := hide hb
    have hs := hb.size
    clear hgk ho hb
    by_cases hlt : i < (n + 3) / 4
    · have h4 : 4 * (i : Int) < (n : Int) := by omega
      obtain ⟨m, hm⟩ : ∃ m, m = min 4 (n - 4 * i) := ⟨_, rfl⟩
      have hmin : min (4 * (i : Int) + 4) (n : Int) = 4 * (i : Int) + (m : Int) := by omega
      have hm1 : 0 < m ∧ m ≤ 4 ∧ 4 * i + m ≤ n := by omega
      have HV := hide (show groupV 39 g o n i = .slice (some ⟨g, o + 4 * i * 39, none⟩) m m by rw [groupV, ← hm])
      have HM := hide hm
      clear hm
      have hw4 : IntKind.i64.wrap (4 * (i : Int) + 4) = 4 * (i : Int) + 4 := by rw [IntKind.wrap_i64]; omega
      have ht1 : (4 * (i : Int)).toNat = 4 * i := by omega
      have ht2 : (4 * (i : Int) + (m : Int)).toNat = 4 * i + m := by omega
      have HO2 := hide (fun ob => HO.out.alloc ob)
      have HLT := hide (fun b (e : (u3 : Value).ownBlock = some b) => (HO.out.lt b e).1)
      have HNW := hide (one_cell (w := wr) (t := 86) (x := .slice (some ⟨g, o + 4 * i * 39, none⟩) m m))
      go_wp2_with (at_builtin; refine wpList_append_own2 _ rfl (.tmp 17) (.tmp 23) 160 rfl w.heap.size 86 i0 (.slice none 0 0) 1 24 Tryz.underlying160 hi0 hz0 hz1 hz2 rfl (by decide) _ i (groupsV 39 g o n i) rfl (HO2.out _) ⟨wr.heap.size, 0, none⟩ 1 1 [.slice (some ⟨g, o + 4 * i * 39, none⟩) m m] rfl rfl HNW.out (fun u hu => by rw [List.mem_singleton.1 hu]; rfl) (by unfold maxLen; omega) (by omega) (by simp; omega) ?_)
      intro v' w1 hown' hgrow _
      rw [← HV.out, ← groupsV_succ] at hown'
      have hb1 : Below w.heap.size w w1 := (HB.out.alloc hs _).grown hgrow (by simp; omega) (fun k hk => HLT.out k hk)
      have HO1 := hide hown'
      have HB1 := hide hb1
      clear hown' hgrow hb1 HO2 HNW HLT
      go_wp2_with fail
      go_roundg ((n + 3) / 4 - (i + 1))
      case measure => have := HGK.out; omega
      case rel => exact ⟨i + 1, rfl, by go_num, by omega, HO1.out, HB1.out⟩
    · have ei : i = (n + 3) / 4 := by omega
      have h4 : ¬ (4 * (i : Int) < (n : Int)) := by omega
      subst ei
      go_wp2
      go_ret
      exact ⟨_, rfl, HO.out, HB.out⟩
end Go.Proofs.YtenaelkbgkpllaaGreatDoor
/- Boxes. -/
namespace Go.Proofs.YtenaelkbgkpllaaGreatDoor
open Go.RowKit

/-- a box as a value -/
abbrev Bx (b : Ward.Box) : Value := .agg #[I b.a, I b.b, I b.c, I b.d]
theorem Tryz.infoBox : (Tryz.prog.info? 88).map (·.size) = some 4 := by kernel_rfl
theorem heap_alloc3_new (w : World) (a b c : Obj) : (((w.alloc a).alloc b).alloc c).heap[w.heap.size + 1 + 1]? = some c := by
  have e : ((w.alloc a).alloc b).heap.size = w.heap.size + 1 + 1 := by simp
  rw [← e]
  exact heap_alloc_new _ _
set_option maxHeartbeats 400000 in
theorem boxOf_any (p : Ward.Pt) (w : World) :
    Calls Tryz.prog 79 #[.agg #[I p.id, I p.x, I p.y]] w fun e w' => e = .returned (Bx (Ward.boxOf p)) ∧ Below w.heap.size w w' := by
  go_enter Tryz.func79, Tryz.ntmps79
  go_wp2
  refine bodyPost_ret (v := Bx (Ward.boxOf p)) ?_ rfl ⟨rfl, ((Below.refl w.heap.size w).alloc (Nat.le_refl _) _).alloc (by simp) _⟩
  exact results_cell_row rfl _ _ (w.heap.size + 1) 88 _ (0, 0) _ rfl (heap_alloc2_new w _ _) Tryz.underlying88 rfl Tryz.infoBox
set_option maxHeartbeats 1000000 in
theorem join_any2 (p q : Ward.Box) (w : World) :
    Calls Tryz.prog 110 #[Bx p, Bx q] w fun e w' => e = .returned (Bx (Ward.join p q)) ∧ Below w.heap.size w w' := by
  obtain ⟨pa, pb, pc, pd⟩ := p
  obtain ⟨qa, qb, qc, qd⟩ := q
  go_enter Tryz.func110, Tryz.ntmps110
  go_wp2
  refine bodyPost_ret (v := .agg #[I (min pa qa), I (min pb qb), I (max pc qc), I (max pd qd)]) ?_ rfl ⟨rfl, (((Below.refl w.heap.size w).alloc (Nat.le_refl _) _).alloc (by simp) _).alloc (by simp; omega) _⟩
  exact results_cell_row rfl _ _ (w.heap.size + 1 + 1) 88 #[I (min pa qa), I (min pb qb), I (max pc qc), I (max pd qd)] (0, 0) _ rfl (heap_alloc3_new w _ _ _) Tryz.underlying88 rfl Tryz.infoBox
end Go.Proofs.YtenaelkbgkpllaaGreatDoor
/- A leaf made of points. -/
namespace Go.Proofs.YtenaelkbgkpllaaGreatDoor
open Go.RowKit

/-- a node's cells -/
def nodeV (vp vc : Value) (b : Ward.Box) (n : Int) (t : List Value) : List Value := vp :: vc :: I b.a :: I b.b :: I b.c :: I b.d :: I n :: t
theorem Tryz.infoNode : (Tryz.prog.info? 90).map (·.size) = some 39 := by kernel_rfl
theorem node_cells {w : World} {g : Nat} {vp vc : Value} {b : Ward.Box} {n : Int} {t : List Value} {ty : Nat} (h : w.heap[g]? = some (.cells (nodeV vp vc b n t).toArray ty (0, 0))) :
    (w.cell? ⟨g, 0, none⟩ = some vp ∧ w.cell? ⟨g, 1, none⟩ = some vc) ∧ (w.cell? ⟨g, 2, none⟩ = some (I b.a) ∧ w.cell? ⟨g, 3, none⟩ = some (I b.b) ∧ w.cell? ⟨g, 4, none⟩ = some (I b.c) ∧ w.cell? ⟨g, 5, none⟩ = some (I b.d)) ∧ w.cell? ⟨g, 6, none⟩ = some (I n) := by
  refine ⟨⟨?_, ?_⟩, ⟨?_, ?_, ?_, ?_⟩, ?_⟩ <;> rw [cell_of_row _ _ _ _ _ _ h] <;> rfl
theorem node_box {w : World} {g : Nat} {vp vc : Value} {b : Ward.Box} {n : Int} {t : List Value} {ty : Nat} (c : Ward.Box) (h : w.heap[g]? = some (.cells (nodeV vp vc b n t).toArray ty (0, 0))) :
    ((((w.setCell ⟨g, 2, none⟩ (I c.a)).setCell ⟨g, 3, none⟩ (I c.b)).setCell ⟨g, 4, none⟩ (I c.c)).setCell ⟨g, 5, none⟩ (I c.d)).heap[g]? = some (.cells (nodeV vp vc c n t).toArray ty (0, 0)) := by
  have h1 := heap_setCell_same w g 2 _ ty (I c.a) h
  rw [List.setIfInBounds_toArray] at h1
  have h2 := heap_setCell_same _ g 3 _ ty (I c.b) h1
  rw [List.setIfInBounds_toArray] at h2
  have h3 := heap_setCell_same _ g 4 _ ty (I c.c) h2
  rw [List.setIfInBounds_toArray] at h3
  have h4 := heap_setCell_same _ g 5 _ ty (I c.d) h3
  rw [List.setIfInBounds_toArray] at h4
  exact h4
/-- several cells of a row set -/
theorem setCells_row {g ty : Nat} : ∀ (vs : List Value) (o : Nat) (cur : List Value) (w : World), w.heap[g]? = some (.cells cur.toArray ty (0, 0)) → o + vs.length ≤ cur.length → (w.setCells g o vs).heap[g]? = some (.cells (over cur o vs).toArray ty (0, 0))
  | [], o, cur, w, h, _ => by simpa [World.setCells, over] using h
  | v :: vs, o, cur, w, h, hl => by
    have h1 := heap_setCell_same w g o _ ty v h
    rw [List.setIfInBounds_toArray] at h1
    have ih := setCells_row vs (o + 1) (cur.set o v) (w.setCell ⟨g, o, none⟩ v) h1 (by simp at hl ⊢; omega)
    have e : over (cur.set o v) (o + 1) vs = over cur o (v :: vs) := by
      have := list_seg_step cur o v vs (by simp at hl; omega)
      simpa [over, Nat.add_assoc, Nat.add_comm, Nat.add_left_comm] using this
    rw [e] at ih
    exact ih
theorem node_digest {w : World} {g : Nat} {vp vc : Value} {b : Ward.Box} {n : Int} {t d : List Value} {ty : Nat} (ht : t.length = 32) (hd : d.length = 32) (h : w.heap[g]? = some (.cells (nodeV vp vc b n t).toArray ty (0, 0))) :
    (w.setCells g 7 d).heap[g]? = some (.cells (nodeV vp vc b n d).toArray ty (0, 0)) := by
  rw [setCells_row d 7 (nodeV vp vc b n t) w h (by simp [nodeV, ht, hd])]
  have : over (nodeV vp vc b n t) 7 d = nodeV vp vc b n d := by
    simp [over, nodeV, hd, ht, List.drop_eq_nil_of_le]
  rw [this]
end Go.Proofs.YtenaelkbgkpllaaGreatDoor
/- A leaf made of points: the call. -/
namespace Go.Proofs.YtenaelkbgkpllaaGreatDoor
open Go.RowKit

/-- the box of the first i of some boxes -/
def accBox (l : List Ward.Box) (i : Nat) : Ward.Box := (l.take i).foldl Ward.join (l.headD ⟨0, 0, 0, 0⟩)
theorem accBox_step (l : List Ward.Box) (i : Nat) (h : i < l.length) : accBox l (i + 1) = Ward.join (accBox l i) l[i] := by
  rw [accBox, List.take_succ_eq_append_getElem h, List.foldl_append]; rfl
theorem accBox_all (l : List Ward.Box) : accBox l l.length = Ward.boxL l := by rw [accBox, List.take_length]; rfl
def zero32 : List Value := List.replicate 32 (.int .u8 0)
theorem nodeV_one {vp vc : Value} {b : Ward.Box} {n : Int} {t : List Value} (h1 : vp.oneCell' = true) (h2 : vc.oneCell' = true) (ht : ∀ v ∈ t, v.oneCell' = true) : (nodeV vp vc b n t).toArray.all (·.oneCell') = true := by
  refine all_oneCell_toArray fun v hv => ?_
  simp only [nodeV, List.mem_cons] at hv
  rcases hv with rfl | rfl | rfl | rfl | rfl | rfl | rfl | hv
  · exact h1
  · exact h2
  · rfl
  · rfl
  · rfl
  · rfl
  · rfl
  · exact ht v hv
theorem zero32_one : ∀ v ∈ zero32, v.oneCell' = true := fun v hv => by
  rw [List.eq_of_mem_replicate hv]; rfl

theorem box_other {w : World} {g k : Nat} {c : Ward.Box} (h : k ≠ g) : ((((w.setCell ⟨g, 2, none⟩ (I c.a)).setCell ⟨g, 3, none⟩ (I c.b)).setCell ⟨g, 4, none⟩ (I c.c)).setCell ⟨g, 5, none⟩ (I c.d)).heap[k]? = w.heap[k]? := by
  rw [Below.heap_setCell _ _ _ _ h, Below.heap_setCell _ _ _ _ h, Below.heap_setCell _ _ _ _ h, Below.heap_setCell _ _ _ _ h]
/-- what the round of a box reads: the box in a node, a point -/
def Seven (w : World) (n p : Nat) (b : Ward.Box) (q : Ward.Pt) : Prop :=
  (w.cell? ⟨n, 2, none⟩ = some (I b.a) ∧ w.cell? ⟨n, 3, none⟩ = some (I b.b) ∧ w.cell? ⟨n, 4, none⟩ = some (I b.c) ∧ w.cell? ⟨n, 5, none⟩ = some (I b.d)) ∧
  (w.frozen? ⟨n, 2, none⟩ = false ∧ w.frozen? ⟨n, 3, none⟩ = false ∧ w.frozen? ⟨n, 4, none⟩ = false ∧ w.frozen? ⟨n, 5, none⟩ = false) ∧
  w.cell? ⟨p, 0, none⟩ = some (I q.id) ∧ w.cell? ⟨p, 1, none⟩ = some (I q.x) ∧ w.cell? ⟨p, 2, none⟩ = some (I q.y)
theorem Seven.below {w w' : World} {n p : Nat} {b : Ward.Box} {q : Ward.Pt} {B : Nat} (h : Seven w n p b q) (hb : Below B w w') (hn : n < B) (hp : p < B) : Seven w' n p b q :=
  ⟨⟨(hb.cell (p := ⟨n, 2, none⟩) hn).trans h.1.1, (hb.cell (p := ⟨n, 3, none⟩) hn).trans h.1.2.1, (hb.cell (p := ⟨n, 4, none⟩) hn).trans h.1.2.2.1, (hb.cell (p := ⟨n, 5, none⟩) hn).trans h.1.2.2.2⟩,
   ⟨(hb.frozen (p := ⟨n, 2, none⟩) hn).trans h.2.1.1, (hb.frozen (p := ⟨n, 3, none⟩) hn).trans h.2.1.2.1, (hb.frozen (p := ⟨n, 4, none⟩) hn).trans h.2.1.2.2.1, (hb.frozen (p := ⟨n, 5, none⟩) hn).trans h.2.1.2.2.2⟩,
   (hb.cell (p := ⟨p, 0, none⟩) hp).trans h.2.2.1, (hb.cell (p := ⟨p, 1, none⟩) hp).trans h.2.2.2.1, (hb.cell (p := ⟨p, 2, none⟩) hp).trans h.2.2.2.2⟩
theorem Seven.drew {w : World} {n p : Nat} {b : Ward.Box} {q : Ward.Pt} (h : Seven w n p b q) : Seven w.drew n p b q := by simpa [Seven] using h
theorem setCells_other {g k : Nat} (h : k ≠ g) : ∀ (vs : List Value) (o : Nat) (w : World), (w.setCells g o vs).heap[k]? = w.heap[k]?
  | [], _, _ => rfl
  | v :: vs, o, w => by rw [World.setCells, setCells_other h vs (o + 1) _, Below.heap_setCell _ _ _ _ h]
theorem below_setCellsN {B g : Nat} {a : World} (hg : B ≤ g) : ∀ (vs : List Value) (o : Nat) (w : World), Below B a w → Below B a (w.setCells g o vs)
  | [], _, _, h => h
  | v :: vs, o, w, h => by rw [World.setCells]; exact below_setCellsN hg vs (o + 1) _ (h.setCell hg v)
theorem there_row {w : World} {g : Nat} {C : Array Value} {t : TypeId} (h : w.heap[g]? = some (.cells C t (0, 0))) (o n : Nat) (hn : o + n ≤ C.size) : w.there g o n := fun j hj =>
  ⟨by rw [cell_of_row _ _ _ _ _ _ h, Array.getElem?_eq_getElem (by omega)]; rfl, frozen_of_row _ _ _ _ _ h⟩
theorem nodeV_size {vp vc : Value} {b : Ward.Box} {n : Int} {t : List Value} (ht : t.length = 32) : (nodeV vp vc b n t).toArray.size = 39 := by simp [nodeV, ht]
theorem nodeV_info {vp vc : Value} {b : Ward.Box} {n : Int} {t : List Value} (ht : t.length = 32) : (Tryz.prog.info? 90).map (·.size) = some (nodeV vp vc b n t).toArray.size := by rw [nodeV_size ht]; exact Tryz.infoNode
theorem underNode : ∃ fs, Tryz.prog.underlying 90 = some (.struct fs) := by
  have h : (Tryz.prog.underlying 90).map (fun d => match d with | .struct _ => true | _ => false) = some true := by kernel_rfl
  cases e : Tryz.prog.underlying 90 with
  | none => rw [e] at h; cases h
  | some d =>
    rw [e] at h
    cases d <;> first | exact ⟨_, rfl⟩ | cases h
theorem setRow_alloc2 (w : World) (o : Obj) (c c' : Array Value) (t : TypeId) : ((w.alloc o).alloc (.cells c t)).setRow (w.heap.size + 1) c' = (w.alloc o).alloc (.cells c' t) := by
  have h := World.setRow_alloc_new (w.alloc o) c c' t
  rwa [show (w.alloc o).heap.size = w.heap.size + 1 by simp] at h
set_option maxRecDepth 100000 in
set_option maxHeartbeats 2000000 in
theorem leafOf_any (vp : Value) (L : List Ward.Pt) (w : World) (hL : L.length ≤ 4) (hp : ReadsB w w.heap.size vp L) (hK : KT w) :
    Calls Tryz.prog 70 #[vp] w fun e w' => e = .returned (.agg (nodeV vp (.slice none 0 0) (Ward.box 0 L) L.length ((Sha.sha (Ward.leafText L)).map Y)).toArray) ∧ Below w.heap.size w w' := by
  have HP := hide hp
  have HK := hide hK
  obtain ⟨ap, cp, rfl, hrd⟩ := hp
  have HRD := hide hrd
  clear hrd hK
  go_enter Tryz.func70, Tryz.ntmps70
  go_upto_region 1 with fail
  go_upto_region 2 with (refine wpList_store_row rfl 90 (.tmp 3) (.tmp 9) rfl (w.heap.size + 1) (nodeV (.slice ap L.length cp) (.slice none 0 0) ⟨0, 0, 0, 0⟩ L.length zero32).toArray rfl rfl 90 _ (heap_alloc2_new w _ _) Tryz.infoNode rfl (nodeV_one rfl rfl zero32_one) ?_)
  rw [setRow_alloc2]
  have hb2 := fun o o' => ((Below.refl w.heap.size w).alloc (Nat.le_refl _) o).alloc (by simp) o'
  have hr2 := heap_alloc2_new w
  have hr1 := heap_alloc2_old w
  generalize hW : World.alloc (World.alloc w _) _ = w1
  have hb1 : Below w.heap.size w w1 := by rw [← hW]; exact hb2 _ _
  have hz1 : w1.heap[w.heap.size]? = some (.cells (nodeV (.slice none 0 0) (.slice none 0 0) ⟨0, 0, 0, 0⟩ 0 zero32).toArray 90 (0, 0)) := by rw [← hW]; exact hr1 _ _
  have hn1 : w1.heap[w.heap.size + 1]? = some (.cells (nodeV (.slice ap L.length cp) (.slice none 0 0) ⟨0, 0, 0, 0⟩ L.length zero32).toArray 90 (0, 0)) := by rw [← hW]; exact hr2 _ _
  clear hb2 hr2 hr1 hW
  generalize Value.agg _ = x9
  have HZ1 := hide hz1
  have HN1 := hide hn1
  have HB1 := hide hb1
  clear hz1 hn1 hb1
  have hlb : (L.length : Int) ≤ 4 := by omega
  go_upto_if 12 with fail
  go_cut [] (fun wx => wx.heap[w.heap.size]? = some (.cells (nodeV (.slice none 0 0) (.slice none 0 0) ⟨0, 0, 0, 0⟩ 0 zero32).toArray 90 (0, 0)) ∧ wx.heap[w.heap.size + 1]? = some (.cells (nodeV (.slice ap L.length cp) (.slice none 0 0) (accBox (L.map Ward.boxOf) 0) L.length zero32).toArray 90 (0, 0)) ∧ Below w.heap.size w wx)
  case first =>
    by_cases h0 : 0 < L.length
    · obtain ⟨g, o, rfl, hgB, hpts⟩ := HRD.out (fun e => by subst e; simp at h0)
      have hp0 := (hpts 0 h0).below HB1.out hgB
      have HE := hide (show accBox (L.map Ward.boxOf) 0 = Ward.boxOf L[0] by
        obtain ⟨q, L', rfl⟩ : ∃ q L', L = q :: L' := by cases L with | nil => simp at h0 | cons q L' => exact ⟨q, L', rfl⟩
        rfl)
      generalize L[0] = q at *
      rw [Nat.zero_mul, Nat.add_zero] at hp0
      obtain ⟨c1, c2, c3⟩ := hp0
      clear hpts
      have h0' : (0 : Int) < L.length := by omega
      have hnlt : w.heap.size + 1 < w1.heap.size := (Array.getElem?_eq_some_iff.1 HN1.out).1
      go_wp2_with fail
      refine (boxOf_any q _).mono ?_
      rintro _ w2 ⟨rfl, hb2⟩
      have hn2 := (hb2.block (w.heap.size + 1) hnlt).trans HN1.out
      have HZ2 := hide ((hb2.block w.heap.size (by omega)).trans HZ1.out)
      obtain ⟨-, ⟨n1, n2, n3, n4⟩, -⟩ := node_cells hn2
      have f1 : w2.frozen? ⟨w.heap.size + 1, 2, none⟩ = false := frozen_of_row _ _ _ _ _ hn2
      have f2 : w2.frozen? ⟨w.heap.size + 1, 3, none⟩ = false := frozen_of_row _ _ _ _ _ hn2
      have f3 : w2.frozen? ⟨w.heap.size + 1, 4, none⟩ = false := frozen_of_row _ _ _ _ _ hn2
      have f4 : w2.frozen? ⟨w.heap.size + 1, 5, none⟩ = false := frozen_of_row _ _ _ _ _ hn2
      have HN2 := hide hn2
      have HB2 := hide (HB1.out.trans (hb2.mono (by omega)))
      clear hn2 hb2 hnlt
      unfold Bx
      go_wp2_with fail
      go_meet
      refine ⟨?_, ?_, ?_⟩
      · exact (box_other (c := Ward.boxOf q) (by omega)).trans HZ2.out
      · rw [HE.out]
        exact node_box (Ward.boxOf q) HN2.out
      · exact (((HB2.out.setCell (by simp) _).setCell (by simp) _).setCell (by simp) _).setCell (by simp) _
    · obtain rfl : L = [] := List.eq_nil_of_length_eq_zero (by omega)
      go_wp2_with fail
      go_meet
      exact ⟨HZ1.out, HN1.out, HB1.out⟩
  case rest =>
    clear HZ1 HN1 HB1
    obtain ⟨hz1, hn1, hb1⟩ := hcut
    have HZ1 := hide hz1
    have HN1 := hide hn1
    have HB1 := hide hb1
    clear hz1 hn1 hb1
    go_wp2_with fail
    go_loopg [20] L.length (fun gk v20 wq => ∃ i : Nat, gk = L.length - i ∧ v20 = I i ∧ i ≤ L.length ∧ wq.heap[w.heap.size]? = some (.cells (nodeV (.slice none 0 0) (.slice none 0 0) ⟨0, 0, 0, 0⟩ 0 zero32).toArray 90 (0, 0)) ∧ wq.heap[w.heap.size + 1]? = some (.cells (nodeV (.slice ap L.length cp) (.slice none 0 0) (accBox (L.map Ward.boxOf) i) L.length zero32).toArray 90 (0, 0)) ∧ Below w.heap.size w wq)
    case atStart => exact ⟨0, by omega, rfl, by omega, HZ1.out, HN1.out, HB1.out⟩
    case round =>
      clear HZ1 HN1 HB1
      obtain ⟨i, hgk, rfl, hi, hz, hn, hb⟩ := hrel
      have HGK := hide hgk
      have HZ := hide hz
      have HN := hide hn
      have HB := hide hb
      clear hgk hz hn hb
      by_cases hlt : i < L.length
      · obtain ⟨g, o, rfl, hgB, hpts⟩ := HRD.out (fun e => by subst e; simp at hlt)
        have hpi := (hpts i hlt).below HB.out hgB
        have HE := hide (show accBox (L.map Ward.boxOf) (i + 1) = Ward.join (accBox (L.map Ward.boxOf) i) (Ward.boxOf L[i]) by
          rw [accBox_step _ _ (by simpa using hlt), List.getElem_map])
        generalize L[i] = q at *
        generalize accBox (L.map Ward.boxOf) i = b at *
        obtain ⟨p1, p2, p3⟩ := hpi
        clear hpts
        go_upto_region 7 with fail
        have hb5' := fun o => (Below.refl wr.heap.size wr).alloc (Nat.le_refl _) o
        have hr5' := heap_alloc_new wr
        have hs5' := fun o => show (wr.alloc o).heap.size = wr.heap.size + 1 by simp
        generalize hW : World.alloc wr _ = w5
        have hb5 : Below wr.heap.size wr w5 := by rw [← hW]; exact hb5' _
        have hr5 : w5.heap[wr.heap.size]? = some (.cells #[I q.id, I q.x, I q.y] 36 (0, 0)) := by rw [← hW]; exact hr5' _
        have hs5 : w5.heap.size = wr.heap.size + 1 := by rw [← hW]; exact hs5' _
        clear hb5' hr5' hs5' hW
        have hnlt : w.heap.size + 1 < wr.heap.size := (Array.getElem?_eq_some_iff.1 HN.out).1
        have hn5 := (hb5.block (w.heap.size + 1) hnlt).trans HN.out
        have HZ5 := hide ((hb5.block w.heap.size (by omega)).trans HZ.out)
        have HB5 := hide (HB.out.trans (hb5.mono (by omega)))
        have H7 := hide (show Seven w5 (w.heap.size + 1) wr.heap.size b q from ⟨(node_cells hn5).2.1, ⟨frozen_of_row _ _ _ _ _ hn5, frozen_of_row _ _ _ _ _ hn5, frozen_of_row _ _ _ _ _ hn5, frozen_of_row _ _ _ _ _ hn5⟩, row3 hr5⟩)
        have HN5 := hide hn5
        obtain ⟨⟨a1, a2, a3, a4⟩, ⟨e1, e2, e3, e4⟩, a5, a6, a7⟩ := H7.out
        clear hn5 hr5 hb5 p1 p2 p3
        go_region_with (first | (go_at_call 79; go_must (refine (boxOf_any q w5.drew).mono ?_; rintro _ w6 ⟨rfl, hb6⟩; have hs6 := hb6.size; have H76 := hide (H7.out.drew.below hb6 (by simp; omega) (by simp; omega)); obtain ⟨⟨k1, k2, k3, k4⟩, ⟨l1, l2, l3, l4⟩, k5, k6, k7⟩ := H76.out; have HB6 := hide hb6; clear hb6)) | (go_at_call 110; go_must (refine (join_any2 b (Ward.boxOf q) w6).mono ?_; rintro _ w7 ⟨rfl, hb7⟩; have hs7 := hb7.size; have H77 := hide (H76.out.below hb7 (by simp at hs6; omega) (by simp at hs6; omega)); obtain ⟨⟨m1, m2, m3, m4⟩, ⟨o1, o2, o3, o4⟩, m5, m6, m7⟩ := H77.out; have HB7 := hide hb7; clear hb7; unfold Bx)))
        all_goals
          go_wp2_with fail
          go_roundg (L.length - (i + 1))
          case measure => have := HGK.out; omega
          case rel =>
            have hd : w5.drew.heap.size = w5.heap.size := by simp
            rw [hd] at hs6
            have hn7 := (HB7.out.block (w.heap.size + 1) (by omega)).trans ((HB6.out.block (w.heap.size + 1) (by omega)).trans HN5.out)
            have hz7 := (HB7.out.block w.heap.size (by omega)).trans ((HB6.out.block w.heap.size (by omega)).trans HZ5.out)
            refine ⟨i + 1, rfl, by go_num, hlt, (box_other (c := Ward.join b (Ward.boxOf q)) (by omega)).trans hz7, ?_, ?_⟩
            · rw [HE.out]
              exact node_box (Ward.join b (Ward.boxOf q)) hn7
            · exact (((((HB5.out.drew.trans (HB6.out.mono (by omega))).trans (HB7.out.mono (by omega))).setCell (by simp) _).setCell (by simp) _).setCell (by simp) _).setCell (by simp) _
      · have ei : i = L.length := by omega
        subst ei
        have HE := hide (show accBox (L.map Ward.boxOf) L.length = Ward.box 0 L by
          have h := accBox_all (L.map Ward.boxOf)
          rw [List.length_map] at h
          exact h)
        rw [HE.out] at HN
        have hnlt : w.heap.size + 1 < wr.heap.size := (Array.getElem?_eq_some_iff.1 HN.out).1
        have HRR := hide (show ReadsB wr wr.heap.size (.slice ap L.length cp) L from ⟨ap, cp, rfl, fun hne => by
          obtain ⟨g, o, e, hg, hp⟩ := HRD.out hne
          exact ⟨g, o, e, by omega, fun j hj => (hp j hj).below HB.out hg⟩⟩)
        have HD := hide (dig_of (Ward.leafText L))
        have HTL := hide (show (⟨(Ward.leafText L).toArray⟩ : ByteArray).size ≤ 140737488355327 by
          show (Ward.leafText L).toArray.size ≤ _
          rw [List.size_toArray, leafText_two, List.length_append, Ward.pts_len]
          show 2 + _ ≤ _
          omega)
        generalize hBx : Ward.box 0 L = b at *
        have HBX := hide hBx
        clear HE HP hBx
        go_wp2_with fail
        refine (leafText_any _ L _ hL HRR.out).mono ?_
        rintro _ w2 ⟨rfl, hb2⟩
        have HB2 := hide hb2
        have hs2 := hb2.size
        clear hb2
        go_wp2_with fail
        refine (of_any _ _ HTL.out (HK.out.below (HB.out.trans (HB2.out.mono (by omega))))).mono ?_
        rintro _ w3 ⟨rfl, hb3⟩
        rw [show (⟨(Ward.leafText L).toArray⟩ : ByteArray).data.toList = Ward.leafText L from rfl]
        generalize hDe : (Sha.sha (Ward.leafText L)).map Y = D at *
        have HDE := hide hDe
        clear hDe
        have hs3 := hb3.size
        have hn3 := (hb3.block (w.heap.size + 1) (by omega)).trans ((HB2.out.block (w.heap.size + 1) (by omega)).trans HN.out)
        have HZ3 := hide ((hb3.block w.heap.size (by omega)).trans ((HB2.out.block w.heap.size (by omega)).trans HZ.out))
        have HB3 := hide ((HB.out.trans (HB2.out.mono (by omega))).trans (hb3.mono (by omega)))
        have HN3 := hide hn3
        clear hb3 hn3
        obtain ⟨fs, hu⟩ := underNode
        have HU := hide hu
        have HT := hide (there_row HN3.out 7 D.toArray.size (by rw [HD.out.size, nodeV_size (by rfl)]; decide))
        have HN4 := hide (show (w3.setCells (w.heap.size + 1) 7 D).heap[w.heap.size + 1]? = some (.cells (nodeV (.slice ap L.length cp) (.slice none 0 0) b L.length D).toArray 90 (0, 0)) from node_digest (by rfl) HD.out.len HN3.out)
        have HZ4 := hide ((setCells_other (show w.heap.size ≠ w.heap.size + 1 by omega) D 7 w3).trans HZ3.out)
        have HB4 := hide (below_setCellsN (show w.heap.size ≤ w.heap.size + 1 by omega) D 7 w3 HB3.out)
        have HO := hide (nodeV_one (vp := .slice ap L.length cp) (vc := .slice none 0 0) (b := b) (n := L.length) (t := D) rfl rfl (fun v hv => (Array.all_eq_true_iff_forall_mem.1 HD.out.one) v (by simpa using hv)))
        have HI := hide (nodeV_info (vp := .slice ap L.length cp) (vc := .slice none 0 0) (b := b) (n := L.length) HD.out.len)
        have HS := hide (show (nodeV (.slice none 0 0) (.slice none 0 0) ⟨0, 0, 0, 0⟩ 0 zero32).toArray.size = (nodeV (.slice ap L.length cp) (.slice none 0 0) b L.length D).toArray.size by rw [nodeV_size HD.out.len, nodeV_size (by rfl)])
        have HI22 := hide HD.out.info
        have HO22 := hide HD.out.one
        clear hu
        generalize hM : (nodeV (.slice ap L.length cp) (.slice none 0 0) b L.length D).toArray = M at *
        have HM := hide hM
        clear hM
        go_wp2_with (first | (refine wpList_store_mid rfl 39 (.tmp 34) (.tmp 33) rfl (w.heap.size + 1) 7 D.toArray rfl rfl HT.out HI22.out HO22.out ?_) | (refine wpList_load_row rfl 90 (.tmp 3) rfl (w.heap.size + 1) rfl 90 M (0, 0) (.struct fs) HN4.out HU.out rfl HI.out ?_) | (refine wpList_store_row rfl 90 (.tmp 2) (.tmp 35) rfl w.heap.size M rfl rfl 90 _ HZ4.out HI.out HS.out HO.out ?_))
        refine bodyPost_ret (v := .agg M) ?_ rfl ⟨by rw [← HM.out, ← HBX.out, ← HDE.out], below_setRow HB4.out (Nat.le_refl _) _⟩
        exact results_cell_row rfl _ _ w.heap.size 90 M (0, 0) (.struct fs) rfl (setRow_heap _ _ _ _ _ _ HZ4.out) HU.out rfl HI.out
end Go.Proofs.YtenaelkbgkpllaaGreatDoor
/- What a node says of a child. -/
namespace Go.Proofs.YtenaelkbgkpllaaGreatDoor
open Go.RowKit

/-- what a node says of a child: its box, its count, its digest -/
def childT (b : Ward.Box) (n : Int) (D : List UInt8) : List UInt8 := nums [b.a, b.b, b.c, b.d, n] ++ D

set_option maxRecDepth 100000 in
set_option maxHeartbeats 2000000 in
theorem appendChild_any (v : Value) (l : List UInt8) (vp vc : Value) (b : Ward.Box) (n : Int) (D : List UInt8) (w : World) (B : Nat) (hB : B ≤ w.heap.size) (hx : l.length ≤ 700000) (hD : D.length = 32) (hown : OwnB w B v l) :
    Calls Tryz.prog 120 #[v, .agg (nodeV vp vc b n (D.map Y)).toArray] w fun e w' => Put w B v l (childT b n D) e w' := by
  have HO := hide hown
  obtain ⟨a, c, rfl⟩ := hown.slice
  have HI := hide (nodeV_info (vp := vp) (vc := vc) (b := b) (n := n) (t := D.map Y) (by simpa using hD))
  generalize hM : (nodeV vp vc b n (D.map Y)).toArray = M at *
  have HM := hide hM
  clear hM hown
  go_enter Tryz.func120, Tryz.ntmps120
  go_upto_region 1 with fail
  have hb1' := (Below.refl w.heap.size w).alloc (Nat.le_refl _) (.cells M 90)
  have hr1' := heap_alloc_new w (.cells M 90)
  have hs1 : (w.alloc (.cells M 90)).heap.size = w.heap.size + 1 := by simp
  generalize w.alloc (.cells M 90) = w1 at *
  have hn1 : w1.heap[w.heap.size]? = some (.cells (nodeV vp vc b n (D.map Y)).toArray 90 (0, 0)) := by rw [HM.out]; exact hr1'
  obtain ⟨-, ⟨c1, c2, c3, c4⟩, c5⟩ := node_cells hn1
  have HN1 := hide hn1
  have HB1 := hide hb1'
  have HS1 := hide hs1
  clear hb1' hr1' hn1 hs1
  have hlt1 : w.heap.size < w1.heap.size := by have := HS1.out; omega
  have c6 : ∀ o, (w1.alloc o).cell? ⟨w.heap.size, 6, none⟩ = some (I n) := fun o => ((((Below.refl w1.heap.size w1).alloc (Nat.le_refl _) o)).cell (p := ⟨w.heap.size, 6, none⟩) hlt1).trans c5
  go_wp2_with fail
  have hb2 := fun o o' => ((Below.refl w1.heap.size w1).alloc (Nat.le_refl _) o).alloc (by simp) o'
  have hr2 := heap_alloc2_new w1
  have hs2' := fun o o' => show ((w1.alloc o).alloc o').heap.size = w1.heap.size + 2 by simp
  generalize hW : World.alloc (World.alloc w1 _) _ = w2
  have hb : Below w1.heap.size w1 w2 := by rw [← hW]; exact hb2 _ _
  have hrow : w2.heap[w1.heap.size + 1]? = some (.cells #[I b.a, I b.b, I b.c, I b.d, I n] 3 (0, 0)) := by rw [← hW]; exact hr2 _ _
  clear hb2 hr2 hs2' hW
  have HBB := hide (HB1.out.trans (hb.mono (by omega)))
  have hN2 := (hb.block w.heap.size (by omega)).trans HN1.out
  have hcs : ∀ i (h : i < [b.a, b.b, b.c, b.d, n].length), w2.cell? ⟨w1.heap.size + 1, i, none⟩ = some (I [b.a, b.b, b.c, b.d, n][i]) := fun i h => by
    rw [cell_of_row _ _ _ _ _ _ hrow]
    match i, h with
    | 0, _ => rfl
    | 1, _ => rfl
    | 2, _ => rfl
    | 3, _ => rfl
    | 4, _ => rfl
  have hn := appendNumbers_any (.slice a l.length c) l [b.a, b.b, b.c, b.d, n] (w1.heap.size + 1) w2 B (Nat.le_trans hB HBB.out.size) (by omega) (by simp) (HO.out.old (by have := HS1.out; omega)) hcs (by simp) (HO.out.below HBB.out)
  refine hn.mono ?_
  rintro e w3 ⟨v3, rfl, ho3, hg3, hf3⟩
  clear hn hcs hrow
  have HB2 := hide hb
  have HP3 := hide (Put.lift HBB.out ⟨v3, rfl, ho3, hg3, hf3⟩)
  have hn3 : w3.heap[w.heap.size]? = some (.cells (nodeV vp vc b n (D.map Y)).toArray 90 (0, 0)) := (hg3.block w.heap.size (by have := hb.size; omega) (fun e => HO.out.old (Nat.le_refl _) e.symm)).trans hN2
  obtain ⟨v4, w4, h4, ho4, hg4, hf4⟩ := append_bytes (w := w3) D ⟨w.heap.size, 7, none⟩ 32 ho3 (Nat.le_trans (Nat.le_trans hB HBB.out.size) hg3.size) (by simp [nums_len]; omega) (fun j x hj => by
    rw [Addr.add_mid, cell_of_row _ _ _ _ _ _ hn3]
    rw [show 7 + j = j + 7 by omega]
    simp [nodeV, hj])
  rw [hD] at h4
  obtain ⟨v3', e3, ho3', hg3', hf3'⟩ := HP3.out
  obtain rfl : v3 = v3' := by cases e3; rfl
  have HP4 := hide (show Put w B (.slice a l.length c) l (childT b n D) (.returned v4) w4 from ⟨v4, rfl, by rw [childT, ← List.append_assoc]; exact ho4, grown_trans hg3' hf3' hg4, fresh_trans hf3' hg3'.size hf4⟩)
  obtain ⟨a3, k3, rfl⟩ := ho3.slice
  generalize hl3 : (l ++ nums [b.a, b.b, b.c, b.d, n]).length = n3 at *
  clear hl3 ho3 hg3 hf3 ho3' hg3' hf3' e3 ho4 hg4 hf4 hn3 hN2 hb HP3
  go_wp2_with (at_builtin; refine Lib.wpList_append_run _ rfl (.tmp 21) (.tmp 23) 59 59 rfl _ _ rfl rfl _ _ h4 ?_)
  go_ret
  exact HP4.out
end Go.Proofs.YtenaelkbgkpllaaGreatDoor
/- How long the texts of a tree are, and how many. -/
namespace Go.Proofs.YtenaelkbgkpllaaGreatDoor
namespace Ward
theorem heads_le : ∀ (cs : List (List UInt8)), (∀ c ∈ cs, c.length = 52) → cs.flatten.length = 52 * cs.length
  | [], _ => rfl
  | c :: cs, h => by rw [List.flatten_cons, List.length_append, heads_le cs (fun d hd => h d (by simp [hd])), h c (by simp), List.length_cons]; omega
theorem alls_small : ∀ (n : Nat) (t : PT n), WF n t → ∀ a ∈ alls n t, a.length ≤ 300
  | 0, t, _ => nomatch t
  | n + 1, .leaf b, ⟨k, hk, hb⟩ => by
    intro a ha
    have e : a = 1 :: UInt8.ofNat (b.length / 12) :: b := by simpa [alls] using ha
    rw [e]; simp; omega
  | n + 1, .node cs, ⟨h4, he⟩ => by
    intro a ha
    have ha' : a ∈ cs.flatMap (fun c : List UInt8 × (UInt8 ⊕ PT n) => match c.2 with | .inl _ => [] | .inr t => alls n t) ++ [2 :: UInt8.ofNat cs.length :: cs.flatMap (fun c => c.1)] := ha
    rcases List.mem_append.1 ha' with ha | ha
    · obtain ⟨⟨h, x⟩, hc, ha⟩ := List.mem_flatMap.1 ha
      have hx := he (h, x) hc
      cases x with
      | inl f => simp at ha
      | inr t => exact alls_small n t hx.2 a ha
    · rw [List.mem_singleton.1 ha]
      have := heads_le (cs.map (fun c => c.1)) (fun d hd => by obtain ⟨c, hc, rfl⟩ := List.mem_map.1 hd; exact (he c hc).1)
      rw [← List.flatMap_def, List.length_map] at this
      simp only [List.length_cons]
      omega
theorem texts_few (dig : List UInt8 → List UInt8) : ∀ (n : Nat) (t : T n), Small n t → (texts dig n t).length ≤ 5 ^ n
  | 0, _, _ => by simp [texts]
  | n + 1, cs, h => by
    show (List.flatMap (texts dig n) cs ++ [_]).length ≤ _
    have key : ∀ (l : List (T n)), (∀ c ∈ l, Small n c) → (List.flatMap (texts dig n) l).length ≤ 5 ^ n * l.length := by
      intro l
      induction l with
      | nil => intro _; simp
      | cons c l ih =>
        intro hl
        rw [List.flatMap_cons, List.length_append, List.length_cons]
        have h1 := texts_few dig n c (hl c (by simp))
        have h2 := ih (fun d hd => hl d (by simp [hd]))
        rw [Nat.mul_succ]; omega
    have h1 := key cs h.2
    have h2 : 5 ^ n * List.length cs ≤ 5 ^ n * 4 := Nat.mul_le_mul_left _ h.1
    have h3 : 1 ≤ 5 ^ n := Nat.one_le_pow _ _ (by decide)
    rw [List.length_append, Nat.pow_succ]
    simp only [List.length_singleton]
    omega
end Ward
end Go.Proofs.YtenaelkbgkpllaaGreatDoor
/- The whole text of a tree tells its points; two trees of one digest show two texts of one. -/
namespace Go.Proofs.YtenaelkbgkpllaaGreatDoor
namespace Ward
theorem sorted_sub : ∀ {L L' : List Pt}, Sorted L → Sorted L' → (∀ p ∈ L, p ∈ L') → L.Sublist L'
  | [], L', _, _, _ => List.nil_sublist _
  | a :: L, [], _, _, h => absurd (h a (by simp)) (by simp)
  | a :: L, b :: L', hs, hs', h => by
    obtain ⟨h1, h2⟩ := List.pairwise_cons.1 hs
    obtain ⟨h3, h4⟩ := List.pairwise_cons.1 hs'
    by_cases e : a = b
    · subst e
      refine List.Sublist.cons_cons _ (sorted_sub h2 h4 fun p hp => ?_)
      rcases List.mem_cons.1 (h p (by simp [hp])) with e | hp'
      · subst e; exact absurd (h1 p hp) (lt_irrefl p)
      · exact hp'
    · refine List.Sublist.cons _ (sorted_sub hs h4 fun p hp => ?_)
      have ha : a ∈ L' := by
        rcases List.mem_cons.1 (h a (by simp)) with e' | h'
        · exact absurd e' e
        · exact h'
      have hb : lt b a := h3 a ha
      rcases List.mem_cons.1 (h p hp) with e' | hp'
      · subst e'
        rcases List.mem_cons.1 hp with e'' | hp''
        · exact absurd e''.symm e
        · exact absurd (lt_trans hb (h1 p hp'')) (lt_irrefl p)
      · exact hp'
/-- the lists have the same points, as the statement looks at it -/
theorem alike_iff {L L' l k : List Pt} (hs : Sorted L) (hs' : Sorted L') (hl : L.Perm l) (hk : L'.Perm k) : (l.length = k.length ∧ ∀ p ∈ l, p ∈ k) ↔ L = L' := by
  constructor
  · rintro ⟨h1, h2⟩
    refine (sorted_sub hs hs' fun p hp => hk.mem_iff.2 (h2 p (hl.mem_iff.1 hp))).eq_of_length ?_
    rw [hl.length_eq, hk.length_eq, h1]
  · rintro rfl
    exact ⟨hl.length_eq.symm.trans hk.length_eq, fun p hp => hk.mem_iff.1 (hl.mem_iff.2 hp)⟩
section
variable (dig : List UInt8 → List UInt8)
def rootText (L : List Pt) : List UInt8 := text dig (tree L).1 (tree L).2
def fullText (L : List Pt) : List UInt8 := full dig (tree L).1 (tree L).2
def rootShow (L : List Pt) : PT ((tree L).1 + 1) := emb dig (tree L).1 (tree L).2
end
section
variable {dig : List UInt8 → List UInt8} (hd : ∀ l, (dig l).length = 32)
include hd
theorem fullText_inj {L L' : List Pt} (h : ∀ p ∈ L, p.Ok) (h' : ∀ p ∈ L', p.Ok) (e : fullText dig L = fullText dig L') : L = L' := by
  have h1 := tree_small h
  have h2 := tree_small h'
  have := (full_inj hd _ _ (tree L).2 (tree L').2 [] [] h1.1 h2.1 (by simpa [fullText] using e)).1
  rw [h1.2, h2.2] at this
  exact this
theorem root_found {L L' : List Pt} (h : ∀ p ∈ L, p.Ok) (h' : ∀ p ∈ L', p.Ok) (hne : L ≠ L') (e : dig (rootText dig L) = dig (rootText dig L')) :
    ∃ a ∈ alls _ (rootShow dig L), ∃ b ∈ alls _ (rootShow dig L'), a ≠ b ∧ dig a = dig b := by
  unfold rootShow
  rw [emb_alls, emb_alls]
  exact found hd _ _ _ _ (tree_small h).1 (tree_small h').1 e (fun e' => hne (fullText_inj hd h h' e'))
theorem root_wf {L : List Pt} (h : ∀ p ∈ L, p.Ok) : WF _ (rootShow dig L) := emb_wf hd _ _ (tree_small h).1
end
theorem root_shows (dig : List UInt8 → List UInt8) (L : List Pt) : shows _ (rootShow dig L) = fullText dig L := emb_shows dig _ _
theorem root_few (dig : List UInt8 → List UInt8) {L : List Pt} (h : ∀ p ∈ L, p.Ok) (hl : L.length ≤ 256) : (alls _ (rootShow dig L)).length ≤ 125 := by
  unfold rootShow
  rw [emb_alls]
  refine Nat.le_trans (texts_few dig _ _ (tree_small h).1) ?_
  exact Nat.le_trans (Nat.pow_le_pow_right (by decide) (tree_depth hl)) (by decide)
theorem full_ne (dig : List UInt8 → List UInt8) (n : Nat) (t : T n) : full dig n t ≠ [] := by
  cases n with
  | zero => simp [full, proof, leafText]
  | succ n => rw [full_succ]; simp
section
variable {dig : List UInt8 → List UInt8} (hd : ∀ l, (dig l).length = 32)
include hd
theorem full_len : ∀ (n : Nat) (t : T n), Small n t → (full dig n t).length ≤ 300 * 5 ^ n
  | 0, l, h => by
    have : (full dig 0 l).length = 2 + 12 * List.length (l : List Pt) := by
      show (leafText l).length = _
      simp only [leafText, List.length_cons]
      rw [pts_len]; omega
    have := h.1
    simp only [Nat.pow_zero]
    omega
  | n + 1, cs, h => by
    rw [full_succ]
    have key : ∀ (l : List (T n)), (∀ c ∈ l, Small n c) → (List.flatMap (fun c => head dig n c ++ 1 :: full dig n c) l).length ≤ (53 + 300 * 5 ^ n) * l.length := by
      intro l
      induction l with
      | nil => intro _; simp
      | cons c l ih =>
        intro hl
        rw [List.flatMap_cons, List.length_append, List.length_append, List.length_cons, List.length_cons, head_len hd]
        have h1 := full_len n c (hl c (by simp))
        have h2 := ih (fun d hd => hl d (by simp [hd]))
        rw [Nat.mul_succ]; omega
    have h1 := key cs h.2
    have h2 : (53 + 300 * 5 ^ n) * List.length cs ≤ (53 + 300 * 5 ^ n) * 4 := Nat.mul_le_mul_left _ h.1
    have h3 : 1 ≤ 5 ^ n := Nat.one_le_pow _ _ (by decide)
    simp only [List.length_cons]
    rw [Nat.pow_succ]
    omega
theorem fullText_len {L : List Pt} (h : ∀ p ∈ L, p.Ok) (hl : L.length ≤ 256) : (fullText dig L).length ≤ 37500 := by
  refine Nat.le_trans (full_len hd _ _ (tree_small h).1) ?_
  exact Nat.le_trans (Nat.mul_le_mul_left _ (Nat.pow_le_pow_right (by decide) (tree_depth hl))) (by decide)
end
end Ward
end Go.Proofs.YtenaelkbgkpllaaGreatDoor
/- Nodes with what is said of them. -/
namespace Go.Proofs.YtenaelkbgkpllaaGreatDoor
namespace Ward
/-- a node: points, children, and what is said of it: box, number, digest -/
structure Nd (α : Type) where
  pts : List Pt
  kids : List α
  box : Box
  n : Int
  dig : List UInt8
/-- nodes that are at most so deep -/
@[reducible] def NT : Nat → Type
  | 0 => Empty
  | n + 1 => Nd (NT n)
def boxN : (n : Nat) → NT n → Box
  | 0, t => nomatch t
  | _ + 1, t => Nd.box t
def numN : (n : Nat) → NT n → Int
  | 0, t => nomatch t
  | _ + 1, t => Nd.n t
def digN : (n : Nat) → NT n → List UInt8
  | 0, t => nomatch t
  | _ + 1, t => Nd.dig t
/-- what a node says of a child -/
def saidN (n : Nat) (t : NT n) : List UInt8 := boxText (boxN n t) ++ fourI (numN n t) ++ digN n t
/-- the text of a node of these children -/
def textK (n : Nat) (K : List (NT n)) : List UInt8 := 2 :: UInt8.ofNat K.length :: K.flatMap (saidN n)
/-- a map's tree as nodes -/
def mk (dig : List UInt8 → List UInt8) : (n : Nat) → T n → NT (n + 1)
  | 0, l => ⟨l, [], box 0 l, (List.length (l : List Pt) : Nat), dig (text dig 0 l)⟩
  | n + 1, cs => ⟨[], List.map (mk dig n) (cs : List (T n)), box (n + 1) cs, (count (n + 1) cs : Nat), dig (text dig (n + 1) cs)⟩
theorem mk_box (dig : List UInt8 → List UInt8) : ∀ (n : Nat) (t : T n), boxN (n + 1) (mk dig n t) = box n t
  | 0, _ => rfl
  | _ + 1, _ => rfl
theorem mk_num (dig : List UInt8 → List UInt8) : ∀ (n : Nat) (t : T n), numN (n + 1) (mk dig n t) = (count n t : Nat)
  | 0, _ => rfl
  | _ + 1, _ => rfl
theorem mk_dig (dig : List UInt8 → List UInt8) : ∀ (n : Nat) (t : T n), digN (n + 1) (mk dig n t) = dig (text dig n t)
  | 0, _ => rfl
  | _ + 1, _ => rfl
theorem mk_said (dig : List UInt8 → List UInt8) (n : Nat) (t : T n) : saidN (n + 1) (mk dig n t) = head dig n t := by
  rw [saidN, mk_box, mk_num, mk_dig, head, headText]
theorem mk_text (dig : List UInt8 → List UInt8) (n : Nat) (cs : List (T n)) : textK (n + 1) (cs.map (mk dig n)) = text dig (n + 1) cs := by
  rw [text_succ, textK, List.length_map, List.flatMap_map]
  congr 2
  rw [List.flatMap_def, List.flatMap_def]
  congr 1
  exact List.map_congr_left fun c _ => mk_said dig n c
end Ward
end Go.Proofs.YtenaelkbgkpllaaGreatDoor
/- Proofs and windows over nodes; a map's tree has no empty node. -/
namespace Go.Proofs.YtenaelkbgkpllaaGreatDoor
namespace Ward
/-- no node without children -/
def NE : (n : Nat) → T n → Prop
  | 0, _ => True
  | n + 1, cs => (cs : List (T n)) ≠ [] ∧ Each (NE n) (cs : List (T n))
theorem tree_ne (l : List Pt) : NE (tree l).1 (tree l).2 :=
  (climb_all (P := NE) (fun _ ls hs g hg => ⟨(fours_small ls g hg).2, fun c hc => hs c (fours_mem hg c hc)⟩) (l.length + 2) 0 (leaves l) (leaves_ne l) (leaves_lt l) (fun _ _ => trivial)).1
/-- two boxes have a place in common -/
def meets (p q : Box) : Bool := decide (p.a ≤ q.c) && decide (q.a ≤ p.c) && decide (p.b ≤ q.d) && decide (q.b ≤ p.d)
/-- the proof of what is below a node -/
def proofN (must : Box → Bool) : (n : Nat) → NT n → List UInt8
  | 0, t => nomatch t
  | n + 1, t => if (Nd.kids t).length = 0 then leafText (Nd.pts t) else 2 :: UInt8.ofNat (Nd.kids t).length :: (Nd.kids t).flatMap fun c => saidN n c ++ (if must (boxN n c) then 1 :: proofN must n c else [0])
/-- the points below a node that lie in a box -/
def withinN (b : Box) : (n : Nat) → NT n → List Pt
  | 0, t => nomatch t
  | n + 1, t => (Nd.pts t).filter (fun p => meets b (boxOf p)) ++ (Nd.kids t).flatMap fun c => if meets b (boxN n c) then withinN b n c else []
theorem flatMap_congr {α β : Type} {f g : α → List β} : ∀ {l : List α}, (∀ x ∈ l, f x = g x) → l.flatMap f = l.flatMap g
  | [], _ => rfl
  | x :: l, h => by rw [List.flatMap_cons, List.flatMap_cons, h x (by simp), flatMap_congr fun y hy => h y (by simp [hy])]
theorem mk_proof (dig : List UInt8 → List UInt8) (must : Box → Bool) : ∀ (n : Nat) (t : T n), NE n t → proofN must (n + 1) (mk dig n t) = proof dig must n t
  | 0, _, _ => rfl
  | n + 1, cs, h => by
    have hne : (cs.map (mk dig n)).length ≠ 0 := by
      rw [List.length_map]
      exact fun e => h.1 (List.length_eq_zero_iff.1 e)
    show (if (cs.map (mk dig n)).length = 0 then _ else 2 :: UInt8.ofNat (cs.map (mk dig n)).length :: (cs.map (mk dig n)).flatMap fun c => saidN (n + 1) c ++ (if must (boxN (n + 1) c) then 1 :: proofN must (n + 1) c else [0])) = 2 :: UInt8.ofNat (List.length cs) :: List.flatMap (fun c => head dig n c ++ (if must (box n c) then 1 :: proof dig must n c else [0])) cs
    rw [if_neg hne, List.length_map, List.flatMap_map]
    congr 2
    refine flatMap_congr fun c hc => ?_
    rw [mk_said, mk_box, mk_proof dig must n c (h.2 c hc)]
/-- bounds on what is said of a node and those below it -/
def OkN : (n : Nat) → NT n → Prop
  | 0, t => nomatch t
  | n + 1, t => (Nd.box t).In ∧ 0 ≤ Nd.n t ∧ Nd.n t ≤ 1000000 ∧ (Nd.pts t).length ≤ 4 ∧ (Nd.kids t).length ≤ 4 ∧ Each Pt.Ok (Nd.pts t) ∧ Each (OkN n) (Nd.kids t)
end Ward
end Go.Proofs.YtenaelkbgkpllaaGreatDoor
/- Nodes as they lie: their points, their children, what is said of them. -/
namespace Go.Proofs.YtenaelkbgkpllaaGreatDoor
open Go.RowKit

theorem childT_said (b : Ward.Box) (n : Int) (D : List UInt8) : childT b n D = Ward.boxText b ++ Ward.fourI n ++ D := by
  simp [childT, nums, Ward.boxText]
/-- a list of rows of 39 cells, each as P says, in a block of S -/
def RowsAt {α : Type} (P : α → List Value → Prop) (w : World) (S : Nat → Prop) (v : Value) (K : List α) : Prop :=
  ∃ (a : Option Addr) (c : Nat), v = .slice a K.length c ∧ (K ≠ [] → ∃ g o, a = some ⟨g, o, none⟩ ∧ S g ∧ ∀ i (h : i < K.length), ∃ U, P K[i] U ∧ w.rangeAt g (o + i * 39) U)
/-- points that are read, in a block of S -/
def ReadsS (w : World) (S : Nat → Prop) (v : Value) (L : List Ward.Pt) : Prop := ∃ (a : Option Addr) (c : Nat), v = .slice a L.length c ∧ (L ≠ [] → ∃ g o, a = some ⟨g, o, none⟩ ∧ S g ∧ ∀ i (h : i < L.length), PtAt w g (o + i * 3) L[i])
/-- the cells are those of this node, all that it reaches in blocks of S -/
def NodeIs (w : World) (S : Nat → Prop) : (n : Nat) → Ward.NT n → List Value → Prop
  | 0, t, _ => nomatch t
  | n + 1, t, V => ∃ vp vc, V = nodeV vp vc (Ward.Nd.box t) (Ward.Nd.n t) ((Ward.Nd.dig t).map Y) ∧ (Ward.Nd.dig t).length = 32 ∧ ReadsS w S vp (Ward.Nd.pts t) ∧ RowsAt (NodeIs w S n) w S vc (Ward.Nd.kids t)
theorem rangeAt_block {w w' : World} {g o : Nat} {U : List Value} (h : w.rangeAt g o U) (hb : w'.heap[g]? = w.heap[g]?) : w'.rangeAt g o U := fun j v hv =>
  (World.cell?_of_block (w := w) (a := ⟨g, o + j, none⟩) hb).trans (h j v hv)
theorem rangeAt_below {w w' : World} {B g o : Nat} {U : List Value} (h : w.rangeAt g o U) (hb : Below B w w') (hg : g < B) : w'.rangeAt g o U := rangeAt_block h (hb.block g hg)
/-- blocks of S are as they were -/
def Same (S : Nat → Prop) (w w' : World) : Prop := ∀ g, S g → w'.heap[g]? = w.heap[g]?
theorem below_same {w w' : World} {B : Nat} {S : Nat → Prop} (h : Below B w w') (hS : ∀ g, S g → g < B) : Same S w w' := fun g hg => h.block g (hS g hg)
theorem ReadsS.keep {w w' : World} {S S' : Nat → Prop} {v : Value} {L : List Ward.Pt} (h : ReadsS w S v L) (hk : Same S w w') (hS : ∀ g, S g → S' g) : ReadsS w' S' v L := by
  obtain ⟨a, c, rfl, hr⟩ := h
  refine ⟨a, c, rfl, fun hne => ?_⟩
  obtain ⟨g, o, e, hg, hp⟩ := hr hne
  exact ⟨g, o, e, hS g hg, fun i hi => (hp i hi).block (hk g hg)⟩
theorem ReadsS.low {w : World} {S : Nat → Prop} {B : Nat} {v : Value} {L : List Ward.Pt} (h : ReadsS w S v L) (hS : ∀ g, S g → g < B) : ReadsB w B v L := by
  obtain ⟨a, c, rfl, hr⟩ := h
  refine ⟨a, c, rfl, fun hne => ?_⟩
  obtain ⟨g, o, e, hg, hp⟩ := hr hne
  exact ⟨g, o, e, hS g hg, hp⟩
theorem RowsAt.keep {α : Type} {P Q : α → List Value → Prop} {w w' : World} {S S' : Nat → Prop} {v : Value} {K : List α} (h : RowsAt P w S v K) (hk : Same S w w') (hS : ∀ g, S g → S' g) (hP : ∀ t U, P t U → Q t U) : RowsAt Q w' S' v K := by
  obtain ⟨a, c, rfl, hr⟩ := h
  refine ⟨a, c, rfl, fun hne => ?_⟩
  obtain ⟨g, o, e, hg, hp⟩ := hr hne
  exact ⟨g, o, e, hS g hg, fun i hi => by
    obtain ⟨U, hU, hc⟩ := hp i hi
    exact ⟨U, hP _ _ hU, rangeAt_block hc (hk g hg)⟩⟩
theorem NodeIs.keep {w w' : World} {S S' : Nat → Prop} (hk : Same S w w') (hS : ∀ g, S g → S' g) : ∀ (n : Nat) (t : Ward.NT n) (V : List Value), NodeIs w S n t V → NodeIs w' S' n t V
  | 0, t, _, _ => nomatch t
  | n + 1, t, V, h => by
    obtain ⟨vp, vc, rfl, hd, hp, hc⟩ := h
    exact ⟨vp, vc, rfl, hd, hp.keep hk hS, hc.keep hk hS (NodeIs.keep hk hS n)⟩
/-- the cells of a node, whatever it is -/
theorem NodeIs.cells {w : World} {S : Nat → Prop} {n : Nat} {t : Ward.NT n} {V : List Value} (h : NodeIs w S n t V) : ∃ a l c a' l' c', V = nodeV (.slice a l c) (.slice a' l' c') (Ward.boxN n t) (Ward.numN n t) ((Ward.digN n t).map Y) ∧ (Ward.digN n t).length = 32 := by
  cases n with
  | zero => exact nomatch t
  | succ n =>
    obtain ⟨vp, vc, rfl, hd, ⟨a, c, rfl, -⟩, ⟨a', c', rfl, -⟩⟩ := h
    exact ⟨a, _, c, a', _, c', rfl, hd⟩
end Go.Proofs.YtenaelkbgkpllaaGreatDoor
/- A node's text. -/
namespace Go.Proofs.YtenaelkbgkpllaaGreatDoor
open Go.RowKit

/-- what the laws for a row ask of a node's cells -/
structure Row39 (V : List Value) : Prop where
  len : V.length = 39
  one : V.toArray.all (·.oneCell') = true
  info : (Tryz.prog.info? 90).map (·.size) = some V.toArray.size
  infl : (Tryz.prog.info? 90).map (·.size) = some V.length
  size : V.toArray.size = 39
theorem nodeV_row {a : Option Addr} {l c : Nat} {a' : Option Addr} {l' c' : Nat} {b : Ward.Box} {n : Int} {D : List UInt8} (hD : D.length = 32) : Row39 (nodeV (.slice a l c) (.slice a' l' c') b n (D.map Y)) := by
  have h : (nodeV (.slice a l c) (.slice a' l' c') b n (D.map Y)).length = 39 := by simp [nodeV, hD]
  exact ⟨h, nodeV_one rfl rfl (fun v hv => by obtain ⟨x, _, rfl⟩ := List.mem_map.1 hv; rfl), by rw [List.size_toArray, h]; exact Tryz.infoNode, by rw [h]; exact Tryz.infoNode, by rw [List.size_toArray, h]⟩
theorem textK_two (n : Nat) (K : List (Ward.NT n)) : Ward.textK n K = [2, UInt8.ofNat K.length] ++ K.flatMap (Ward.saidN n) := rfl
theorem said_len {w : World} {S : Nat → Prop} {n : Nat} {t : Ward.NT n} {V : List Value} (h : NodeIs w S n t V) : (Ward.saidN n t).length = 52 := by
  obtain ⟨_, _, _, _, _, _, _, hd⟩ := h.cells
  simp [Ward.saidN, Ward.boxText_len, Ward.fourI_len, hd]
theorem flat_len {α β : Type} {f : α → List β} {c : Nat} : ∀ {l : List α}, (∀ x ∈ l, (f x).length = c) → (l.flatMap f).length = c * l.length
  | [], _ => by simp
  | x :: l, h => by
    rw [List.flatMap_cons, List.length_append, flat_len (l := l) fun y hy => h y (by simp [hy]), h x (by simp), List.length_cons, Nat.mul_succ]; omega
theorem take_said_len {w : World} {S : Nat → Prop} {n : Nat} {K : List (Ward.NT n)} (h : ∀ i (h : i < K.length), ∃ U, NodeIs w S n K[i] U) (i : Nat) : ((K.take i).flatMap (Ward.saidN n)).length ≤ 52 * K.length := by
  rw [flat_len (c := 52) fun t ht => by
    obtain ⟨j, hj, rfl⟩ := List.getElem_of_mem (List.mem_of_mem_take ht)
    obtain ⟨U, hU⟩ := h j hj
    exact said_len hU]
  exact Nat.mul_le_mul_left _ (by rw [List.length_take]; omega)
set_option maxRecDepth 100000 in
set_option maxHeartbeats 2000000 in
theorem nodeText_any (vc : Value) (n : Nat) (K : List (Ward.NT n)) (w : World) (S : Nat → Prop) (hS : ∀ g, S g → g < w.heap.size) (hK : K.length ≤ 4) (hk : RowsAt (NodeIs w S n) w S vc K) :
    Calls Tryz.prog 143 #[vc] w fun e w' => e = .returned (Sv (Ward.textK n K)) ∧ Below w.heap.size w w' := by
  obtain ⟨ap, cp, rfl, hrd⟩ := hk
  have HRD := hide hrd
  clear hrd
  have hB1 := (Below.refl w.heap.size w).alloc (Nat.le_refl _) (.cells #[.int .u8 2, .int .u8 K.length] 5)
  have hO1 : OwnB (w.alloc (.cells #[.int .u8 2, .int .u8 K.length] 5)) w.heap.size (.slice (some ⟨w.heap.size, 0, none⟩) 2 2) [2, UInt8.ofNat K.length] := by
    have hkk : (UInt8.ofNat K.length).toNat = K.length := by rw [UInt8.toNat_ofNat']; omega
    have h := World.ownsRow_lit (base := w.heap.size) (e := 5) (size := 1) w #[.int .u8 2, .int .u8 K.length] 2 (Nat.le_refl _) (by decide) rfl
    have e : [2, UInt8.ofNat K.length].map Y = [.int .u8 2, .int .u8 K.length] := by simp [Y, hkk]
    unfold OwnB
    rw [e]
    exact h
  have HB1 := hide hB1
  have HO1 := hide hO1
  clear hB1 hO1
  obtain ⟨fs, hu⟩ := underNode
  have HU := hide hu
  clear hu
  go_enter Tryz.func143, Tryz.ntmps143
  go_wp2_with fail
  go_loopg [3, 12] K.length (fun gk v3 v12 wq => ∃ i : Nat, gk = K.length - i ∧ v12 = I i ∧ i ≤ K.length ∧ OwnB wq w.heap.size v3 ([2, UInt8.ofNat K.length] ++ (K.take i).flatMap (Ward.saidN n)) ∧ Below w.heap.size w wq)
  case atStart => exact ⟨0, by omega, rfl, by omega, by simpa using HO1.out, HB1.out⟩
  case round =>
    clear HO1 HB1
    obtain ⟨i, hgk, rfl, hi, ho, hb⟩ := hrel
    have HGK := hide hgk
    have HO := hide ho
    have HB := hide hb
    clear hgk ho hb
    by_cases hlt : i < K.length
    · obtain ⟨g, o, rfl, hgS, hrows⟩ := HRD.out (fun e => by subst e; simp at hlt)
      have hgB := hS g hgS
      clear hgS
      obtain ⟨U, hU, hc⟩ := hrows i hlt
      have HT := hide (show (K.take (i + 1)).flatMap (Ward.saidN n) = (K.take i).flatMap (Ward.saidN n) ++ Ward.saidN n K[i] from flat_step (Ward.saidN n) K i hlt)
      have hlen : ((K.take i).flatMap (Ward.saidN n)).length ≤ 208 := Nat.le_trans (take_said_len (fun j hj => ⟨_, (hrows j hj).choose_spec.1⟩) i) (by omega)
      have HC := hide (rangeAt_below hc HB.out hgB)
      obtain ⟨a1, l1, c1, a2, l2, c2, hV, hd⟩ := hU.cells
      have HR := hide (show Row39 U by rw [hV]; exact nodeV_row hd)
      have hs : Ward.saidN n K[i] = childT (Ward.boxN n K[i]) (Ward.numN n K[i]) (Ward.digN n K[i]) := (childT_said _ _ _).symm
      have HA := hide (fun (v : Value) (l : List UInt8) (w2 : World) (hB : w.heap.size ≤ w2.heap.size) (hx : l.length ≤ 700000) (hown : OwnB w2 w.heap.size v l) => by
        have h := appendChild_any v l (.slice a1 l1 c1) (.slice a2 l2 c2) (Ward.boxN n K[i]) (Ward.numN n K[i]) (Ward.digN n K[i]) w2 w.heap.size hB hx hd hown
        rw [← hV, ← hs] at h
        exact h)
      clear hs hV hd hc hU hrows
      generalize Ward.saidN n K[i] = Sd at *
      generalize (K.take i).flatMap (Ward.saidN n) = N at *
      have hsz := HB.out.size
      go_wp2_with (first | (refine wpList_load_mid rfl 90 (.tmp 14) rfl g (o + i * 39) rfl U (.struct fs) HC.out HU.out rfl HR.out.infl ?_) | (refine wpList_store_row rfl 90 (.tmp 5) (.tmp 15) rfl wr.heap.size U.toArray rfl rfl 90 _ (heap_alloc_new wr _) HR.out.info (by rw [HR.out.size]; rfl) HR.out.one ?_; rw [World.setRow_alloc_new]) | (refine wpList_load_row rfl 90 (.tmp 5) rfl wr.heap.size rfl 90 U.toArray (0, 0) (.struct fs) (heap_alloc_new wr _) HU.out rfl HR.out.info ?_))
      have hb2 : Below wr.heap.size wr (wr.alloc (.cells U.toArray 90)) := (Below.refl wr.heap.size wr).alloc (Nat.le_refl _) _
      refine (HA.out _ _ _ (Nat.le_trans hsz hb2.size) (by simp; omega) (HO.out.below hb2)).mono ?_
      intro e w3 h3
      obtain ⟨v3, rfl, ho3, hg3, hf3⟩ := h3.lift hb2
      have HO3 := hide ho3
      have HB3 := hide (HB.out.grown hg3 hsz (fun k hk => (HO.out.lt hk).1))
      clear ho3 hg3 hf3 h3 hb2
      go_wp2_with fail
      go_roundg (K.length - (i + 1))
      case measure => have := HGK.out; omega
      case rel => exact ⟨i + 1, rfl, by go_num, hlt, by
        have h := HO3.out
        rw [HT.out, ← List.append_assoc]
        exact h, HB3.out⟩
    · have ei : i = K.length := by omega
      subst ei
      rw [List.take_length, ← textK_two] at HO
      have hc := HO.out.conv (by simp [Ward.textK])
      generalize hT : Ward.textK n K = T at *
      have HT := hide hT
      clear hT
      go_wp2
      go_ret
      exact ⟨by rw [HT.out]; rfl, HB.out⟩
end Go.Proofs.YtenaelkbgkpllaaGreatDoor
