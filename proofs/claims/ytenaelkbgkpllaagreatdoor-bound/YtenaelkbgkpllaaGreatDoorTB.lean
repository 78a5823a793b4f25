/- Numbers put behind a text. -/
import Derived.Test.YtenaelkbgkpllaaGreatDoorKD
import Derived.Deep.LoopGhost
namespace Go.Proofs.YtenaelkbgkpllaaGreatDoor
open Go.RowKit

/-- bytes in a row of their own -/
def OwnB (w : World) (B : Nat) (v : Value) (l : List UInt8) : Prop := w.ownsRow B 5 1 v l.length (l.map Y)
theorem OwnB.below {w w' : World} {B : Nat} {v : Value} {l : List UInt8} (h : OwnB w B v l) (hb : Below w.heap.size w w') : OwnB w' B v l := by
  refine ⟨h.1, ?_⟩
  rcases h.2 with h0 | ⟨g, cap, cur, rfl, hB, hg, r⟩
  · exact .inl h0
  · exact .inr ⟨g, cap, cur, rfl, hB, (hb.block g (Array.getElem?_eq_some_iff.1 hg).1).trans hg, r⟩
theorem OwnB.slice {w : World} {B : Nat} {v : Value} {l : List UInt8} (h : OwnB w B v l) : ∃ a c, v = .slice a l.length c := by
  rcases h.2 with ⟨rfl, h0⟩ | ⟨g, c, cur, rfl, _⟩
  · exact ⟨none, 0, by rw [h0]⟩
  · exact ⟨_, c, rfl⟩
theorem OwnB.lt {w : World} {B g : Nat} {v : Value} {l : List UInt8} (h : OwnB w B v l) (hg : v.ownBlock = some g) : B ≤ g ∧ g < w.heap.size := World.ownsRow.lt h g hg
/-- what putting bytes behind a text leaves -/
def Put (w : World) (B : Nat) (v : Value) (l more : List UInt8) (e : Ending) (w' : World) : Prop := ∃ v', e = .returned v' ∧ OwnB w' B v' (l ++ more) ∧ w.grownBy w' v.ownBlock ∧ Fresh w v v'
/-- bytes that lie somewhere, put behind a text -/
theorem append_bytes {w : World} {B : Nat} {v : Value} {l : List UInt8} (T : List UInt8) (a : Addr) (c : Nat) (hown : OwnB w B v l) (hB : B ≤ w.heap.size) (hl : l.length + T.length ≤ 1000000) (hT : ∀ j b, T[j]? = some b → w.cell? (a.add j) = some (Y b)) :
    ∃ v' w', (Builtin.append_ #[59, 59] 59 #[v, .slice (some a) T.length c]).run Tryz.prog w = .ok v' w' ∧ OwnB w' B v' (l ++ T) ∧ w.grownBy w' v.ownBlock ∧ Fresh w v v' := by
  obtain ⟨i0, hi0, hz0, hz1, hz2⟩ := info_parts Tryz.info5
  obtain ⟨v', w', hr, ho, hg, hf⟩ := run_append_own2 (P := Tryz.prog) w B 59 59 5 i0 (.int .u8 0) 1 1 Tryz.underlying59 hi0 hz0 hz1 hz2 rfl (by decide) v l.length (l.map Y) hown a T.length c (T.map Y) (by simp)
    (fun j u hj => by
      rw [List.getElem?_map] at hj
      cases hb : T[j]? with
      | none => rw [hb] at hj; cases hj
      | some b => rw [hb] at hj; rw [hT j b hb]; exact hj)
    (fun u hu => by obtain ⟨b, _, rfl⟩ := List.mem_map.1 hu; rfl) (by unfold maxLen; omega) (by omega) hB
  refine ⟨v', w', hr, ?_, hg, hf⟩
  unfold OwnB
  rw [List.length_append, List.map_append]
  exact ho

set_option maxHeartbeats 400000 in
theorem number_any (v : Value) (l : List UInt8) (n : Nat) (w : World) (B : Nat) (hn : n < 4294967296) (hB : B ≤ w.heap.size) (hx : l.length ≤ 900000) (hown : OwnB w B v l) :
    Calls Tryz.prog 140 #[v, .int .u32 n] w fun e w' => Put w B v l (Ward.four n) e w' := by
  have HV := hide (four_values n hn)
  have hr := fun o hT => append_bytes (w := w.alloc o) (Ward.four n) ⟨w.heap.size, 0, none⟩ 4 (hown.below ((Below.refl w.heap.size w).alloc (Nat.le_refl _) o)) (by simp; omega) (by show l.length + 4 ≤ _; omega) hT
  obtain ⟨v', w1, h1, ho, hg, hf⟩ := hr (.cells ((Sha.four n).map Y).toArray 5) (fun j b hj => by
    rw [Addr.add_lit, Nat.zero_add, cell_of_row _ _ _ _ _ _ (heap_alloc_new w _), List.getElem?_toArray, List.getElem?_map]
    have hj' : (Sha.four n)[j]? = some b := hj
    rw [hj']; rfl)
  rw [← HV.out] at h1
  have HP := hide (show Put w B v l (Ward.four n) (.returned v') w1 from ⟨v', rfl, ho, ⟨hg.os, hg.tape, hg.output, Nat.le_trans (by simp) hg.size, fun j hj hne => (hg.block j (by simp; omega) hne).trans (Below.heap_alloc w _ j hj)⟩, by
    rcases hf with hf | ⟨g, hf, hgs⟩
    · exact .inl hf
    · exact .inr ⟨g, hf, Nat.le_trans (by simp) hgs⟩⟩)
  obtain ⟨a, c, rfl⟩ := hown.slice
  clear hr ho hg hf hown
  have h1' : (Builtin.append_ #[59, 59] 59 #[.slice a l.length c, .slice (some ⟨w.heap.size, 0, none⟩) 4 4]).run Tryz.prog (w.alloc (.cells #[Value.int .u8 ((n : Int) / 16777216), Value.int .u8 ((n : Int) / 65536 % 256), Value.int .u8 ((n : Int) / 256 % 256), Value.int .u8 ((n : Int) % 256)] 5)) = .ok v' w1 := h1
  clear h1
  go_enter Tryz.func140, Tryz.ntmps140
  go_wp2_with (at_builtin; refine Lib.wpList_append_run _ rfl (.tmp 5) (.tmp 17) 59 59 rfl _ _ rfl rfl _ _ h1' ?_)
  go_ret
  exact HP.out
/-- numbers as bytes -/
def nums (l : List Int) : List UInt8 := l.flatMap Ward.fourI
theorem nums_len : ∀ (l : List Int), (nums l).length = 4 * l.length
  | [] => rfl
  | x :: l => by
    have h := nums_len l
    unfold nums at h ⊢
    rw [List.flatMap_cons, List.length_append, h, Ward.fourI_len, List.length_cons]; omega
set_option maxHeartbeats 1000000 in
theorem appendNumbers_any (v : Value) (l : List UInt8) (ns : List Int) (g : Nat) (w : World) (B : Nat) (hB : B ≤ w.heap.size) (hx : l.length ≤ 800000) (hn : ns.length ≤ 100) (hg : v.ownBlock ≠ some g) (hc : ∀ i (h : i < ns.length), w.cell? ⟨g, i, none⟩ = some (I ns[i])) (h0 : ns ≠ []) (hown : OwnB w B v l) :
    Calls Tryz.prog 156 #[v, .slice (some ⟨g, 0, none⟩) ns.length ns.length] w fun e w' => Put w B v l (nums ns) e w' := by
  have hgl : g < w.heap.size := block_lt_of_cell (hc 0 (by have : ns.length ≠ 0 := fun e => h0 (List.length_eq_zero_iff.1 e); omega))
  have HC := hide hc
  have HO := hide hown
  clear hc
  go_enter Tryz.func156, Tryz.ntmps156
  go_wp2_with fail
  go_loopg [0, 9] ns.length (fun gk v0 v9 wq => ∃ i : Nat, gk = ns.length - i ∧ v9 = I i ∧ i ≤ ns.length ∧ OwnB wq B v0 (l ++ nums (ns.take i)) ∧ w.grownBy wq v.ownBlock ∧ Fresh w v v0)
  case atStart => exact ⟨0, by omega, rfl, by omega, by simpa [nums] using HO.out, ⟨rfl, rfl, rfl, Nat.le_refl _, fun _ _ _ => rfl⟩, .inl rfl⟩
  case round =>
    obtain ⟨i, hgk, rfl, hi, ho, hgr, hf⟩ := hrel
    have HGK := hide hgk
    have HG := hide hgr
    have HF := hide hf
    have HOI := hide ho
    clear hgk hgr hf ho
    by_cases hlt : i < ns.length
    · have hci := (World.cell?_of_block (w := w) (HG.out.block g hgl (fun e => hg e.symm))).trans (HC.out i hlt)
      have HT := hide (show nums (ns.take (i + 1)) = nums (ns.take i) ++ Ward.fourI ns[i] from flat_step Ward.fourI ns i hlt)
      generalize ns[i] = x at *
      have hlen : (nums (ns.take i)).length ≤ 400 := by
        rw [nums_len, List.length_take]; omega
      generalize nums (ns.take i) = N at *
      go_wp2_with fail
      rw [show x % 4294967296 = (((x % 4294967296).toNat : Nat) : Int) by omega]
      refine (number_any _ (l ++ N) (x % 4294967296).toNat wr B (by omega) (Nat.le_trans hB HG.out.size) (by simp; omega) HOI.out).mono ?_
      rintro e w1 ⟨v1, rfl, ho1, hg1, hf1⟩
      have HO1 := hide ho1
      have HG1 := hide (grown_trans HG.out HF.out hg1)
      have HF1 := hide (fresh_trans HF.out HG.out.size hf1)
      clear ho1 hg1 hf1
      go_wp2_with fail
      go_roundg (ns.length - (i + 1))
      case measure => have := HGK.out; omega
      case rel => exact ⟨i + 1, rfl, by go_num, hlt, by rw [HT.out, ← List.append_assoc]; exact HO1.out, HG1.out, HF1.out⟩
    · have ei : i = ns.length := by omega
      subst ei
      rw [List.take_length] at HOI
      go_wp2
      go_ret
      exact ⟨_, rfl, HOI.out, HG.out, HF.out⟩
/-- what was laid ahead of it does not matter -/
theorem Put.lift {w w2 w' : World} {B : Nat} {v : Value} {l m : List UInt8} {e : Ending} (hb : Below w.heap.size w w2) (h : Put w2 B v l m e w') : Put w B v l m e w' := by
  obtain ⟨v', he, ho, hg, hf⟩ := h
  refine ⟨v', he, ho, ⟨hg.os.trans hb.os, hg.tape.trans hb.tape, hg.output.trans hb.output, Nat.le_trans hb.size hg.size, fun j hj hne => (hg.block j (Nat.lt_of_lt_of_le hj hb.size) hne).trans (hb.block j hj)⟩, ?_⟩
  rcases hf with hf | ⟨g, hf, hgs⟩
  · exact .inl hf
  · exact .inr ⟨g, hf, Nat.le_trans hb.size hgs⟩
theorem OwnB.old {w : World} {B g : Nat} {v : Value} {l : List UInt8} (h : OwnB w B v l) (hg : w.heap.size ≤ g) : v.ownBlock ≠ some g := fun e => by
  have := (h.lt e).2
  omega
end Go.Proofs.YtenaelkbgkpllaaGreatDoor
