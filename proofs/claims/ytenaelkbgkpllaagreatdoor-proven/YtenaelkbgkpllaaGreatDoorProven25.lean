/- The law's plays, whatever its steps are. -/
import Derived.Test.YtenaelkbgkpllaaGreatDoorProven24
import Derived.Test.YtenaelkbgkpllaaGreatDoorProven23
namespace Go.Proofs.YtenaelkbgkpllaaGreatDoor
open Go.RowKit

/-- a step answers as it should -/
def StepOk (w0 : World) (most : Int) : Prop := ∀ (w : World) (W0 n : Nat) (o : Opn), o.Fit → o.kind ≤ most → n ≤ 1000000000000 → InvE w0 w W0 n → Calls Tryz.prog 28 #[.pointer (some ⟨W0, 0, none⟩), .agg (opV o).toArray] w fun e w' => e = .returned (.bool true) ∧ InvE w0 w' W0 (n + 1)
/-- the law's world at first -/
theorem law_start {w0 w : World} {W0 : Nat} (hb : Below w0.heap.size w0 w) (hW : w0.heap.size ≤ W0) (hr : w.heap[W0]? = some (.cells (.slice none 0 0 :: .slice none 0 0 :: constV).toArray 72 (0, 0))) : Inv w0 (fun k => if k < w0.heap.size then 0 else 1) w W0 (.slice none 0 0) (.slice none 0 0) [] [] := by
  refine ⟨hb, fun k hk => if_pos hk, ⟨hr, World.ownsRow_nil _ _ _ _, World.ownsRow_nil _ _ _ _, fun e => (by cases e), fun e => (by cases e), fun g e => (by cases e)⟩, fun k hk => ?_, fun i hi => (by simp at hi), fun h hh => (by cases hh)⟩
  rcases hk with rfl | hk | hk
  · exact if_neg (by omega)
  · cases hk
  · cases hk
theorem InvE.looks {w0 w : World} {W0 n : Nat} (h : InvE w0 w W0 n) (hn : n ≤ 1000000000000) : Calls Tryz.prog 29 #[.pointer (some ⟨W0, 0, none⟩)] w fun e w' => e = .returned (.bool true) ∧ InvE w0 w' W0 n := by
  obtain ⟨ow, vp, vh, ps, hs, hI, h2⟩ := h
  refine (looks_law (fun k => ow k = 2) W0 vp vh ps hs w hI.law hI.hold (by have := h2.2.2.2; omega)).mono ?_
  rintro e w' ⟨rfl, hb⟩
  exact ⟨rfl, ⟨ow, vp, vh, ps, hs, hI.below hb, h2⟩⟩
theorem InvE.base {w0 w : World} {W0 n : Nat} (h : InvE w0 w W0 n) : Below w0.heap.size w0 w := by
  obtain ⟨ow, vp, vh, ps, hs, hI, h2⟩ := h
  exact hI.base
theorem opV_one (o : Opn) : (opV o).toArray.all (·.oneCell') = true := by
  rw [List.all_toArray, List.all_eq_true]
  intro v hv
  rcases List.mem_append.1 hv with hv | hv
  · simp at hv
    rcases hv with rfl | rfl | rfl | rfl | rfl | rfl | rfl | rfl | rfl | rfl | rfl | rfl | rfl | rfl | rfl <;> rfl
  · have := rootV_one o.root o.n
    rw [List.all_toArray, List.all_eq_true] at this
    exact this v hv
/-- the three calls that come first -/
def opA : Opn := ⟨2, 0, 0, ⟨1, 3, 4⟩, ⟨0, 0, 0, 0, 0, 0, 0, 0⟩, [], List.replicate 32 0, 0⟩
def opB : Opn := ⟨2, 0, 0, ⟨1, 0, 0⟩, ⟨0, 0, 0, 0, 0, 0, 0, 0⟩, [], List.replicate 32 0, 0⟩
def opC : Opn := ⟨4, 0, 0, ⟨0, 0, 0⟩, ⟨0, 0, 0, 0, 0, 0, 0, 0⟩, [], List.replicate 32 0, 0⟩
theorem fitA : opA.Fit := ⟨by unfold I64; decide, by unfold I64; decide, by unfold I64; decide, by decide, rfl⟩
theorem fitB : opB.Fit := ⟨by unfold I64; decide, by unfold I64; decide, by unfold I64; decide, by decide, rfl⟩
theorem fitC : opC.Fit := ⟨by unfold I64; decide, by unfold I64; decide, by unfold I64; decide, by decide, rfl⟩
theorem builtA : Tryz.prog.built 76 [(0, I 2), (3, .agg #[I 1, I 3, I 4])] = some (opV opA).toArray := by kernel_rfl
theorem builtB : Tryz.prog.built 76 [(0, I 2), (3, .agg #[I 1, I 0, I 0])] = some (opV opB).toArray := by kernel_rfl
theorem builtC : Tryz.prog.built 76 [(0, I 4)] = some (opV opC).toArray := by kernel_rfl
set_option maxRecDepth 100000 in
set_option maxHeartbeats 4000000 in
theorem plays_law (lo up most : Int) (a0 : Option Addr) (cap : Nat) (os : List Opn) (w : World) (hA : ArgO w a0 os) (hm : 4 ≤ most) (hS : StepOk w most) :
    Calls Tryz.prog 11 #[.slice a0 os.length cap, I lo, I up, I most] w fun e w' => e = .returned (.bool true) ∧ Below w.heap.size w w' := by
  have HA := hide hA
  have HS := hide hS
  have HWK := hide (show Calls Tryz.prog 26 #[] w fun e w' => e = .returned (.agg constV.toArray) ∧ Below w.heap.size w w' by
    have h := Ref.worked_any w
    rw [worked_const] at h
    exact h)
  have HBW := hide built_world
  clear hA hS
  go_enter Tryz.func11, Tryz.ntmps11
  go_wp2_with fail
  refine HWK.out.mono ?_
  rintro _ w1 ⟨rfl, hb1⟩
  generalize hCV : constV.toArray = CV at *
  go_upto_region 2 with (refine wpList_built rfl 72 #[(2, .tmp 17)] rfl _ _ rfl HBW.out ?_)
  have hbx := boxed1 w1 (Value.slice none 0 0 :: Value.slice none 0 0 :: constV).toArray 72
  generalize w1.alloc (.cells (Value.slice none 0 0 :: Value.slice none 0 0 :: constV).toArray 72) = w2 at hbx ⊢
  generalize hWV : (Value.slice none 0 0 :: Value.slice none 0 0 :: constV).toArray = WV at *
  obtain ⟨hb2, hr2⟩ := hbx
  rw [← hWV] at hr2
  have HI2 := hide (law_start (hb1.trans (hb2.mono hb1.size)) hb1.size hr2)
  have HBG := hide (begin_law w1.heap.size (.slice none 0 0) (.slice none 0 0) [] [] w2 HI2.out.law (by simp))
  clear hb1 hb2 hr2 hCV hWV HWK HBW
  generalize w1.heap.size = W0 at *
  go_wp2_with fail
  refine HBG.out.mono ?_
  rintro _ w3 ⟨rfl, vp', p, hB⟩
  have HI3 := hide (HI2.out.begun (n := 0) (fun p hp => by cases hp) (by simp) (by simp) hB)
  clear hB HI2 HBG
  have HST := hide (HS.out w3 W0 1 opA fitA (by show (2 : Int) ≤ most; omega) (by decide) HI3.out)
  have HBA := hide builtA
  have HBB := hide builtB
  have HBC := hide builtC
  generalize (opV opA).toArray = OA at *
  go_wp2_with (refine wpList_built rfl 76 #[(0, .const (.int .i64 2)), (3, .tmp 25)] rfl _ _ rfl HBA.out ?_)
  refine HST.out.mono ?_
  rintro _ w4 ⟨rfl, hI4⟩
  have HI4 := hide hI4
  have HST := hide (HS.out w4 W0 2 opB fitB (by show (2 : Int) ≤ most; omega) (by decide) HI4.out)
  clear hI4
  generalize (opV opB).toArray = OB at *
  go_wp2_with (refine wpList_built rfl 76 #[(0, .const (.int .i64 2)), (3, .tmp 29)] rfl _ _ rfl HBB.out ?_)
  refine HST.out.mono ?_
  rintro _ w5 ⟨rfl, hI5⟩
  have HI5 := hide hI5
  have HST := hide (HS.out w5 W0 3 opC fitC (by show (4 : Int) ≤ most; omega) (by decide) HI5.out)
  clear hI5
  generalize (opV opC).toArray = OC at *
  go_wp2_with (refine wpList_built rfl 76 #[(0, .const (.int .i64 4))] rfl _ _ rfl HBC.out ?_)
  refine HST.out.mono ?_
  rintro _ w6 ⟨rfl, hI6⟩
  have HI6 := hide hI6
  clear hI6 HST HI5 HI4 HI3
  go_wp2_with fail
  go_loopw [14] (fun v14 wq => ∃ i : Nat, i ≤ os.length ∧ v14 = I i ∧ InvE w wq W0 (4 + i))
    (fun v14 _ => os.length - (intOf v14).toNat)
  case atStart => exact ⟨0, by omega, rfl, HI6.out⟩
  case round =>
    obtain ⟨i, hi, rfl, hI⟩ := hrel
    have HI := hide hI
    have hsm := HA.out.small
    clear HI6 hI
    by_cases hlt : i < os.length
    · obtain ⟨g, o, ha, hra⟩ := HA.out.at_ (fun e => by rw [e] at hlt; simp at hlt)
      subst ha
      have hF := HA.out.fit _ (List.getElem_mem hlt)
      have hr0 := hra i hlt
      have HR := hide (show wr.rangeAt g (o + i * 48) (opV os[i]) from fun j v hv => (HI.out.base.cell (p := ⟨g, o + i * 48 + j, none⟩) (block_lt_of_cell (hr0 j v hv))).trans (hr0 j v hv))
      obtain ⟨oq, hoq⟩ : ∃ oq, os[i] = oq := ⟨_, rfl⟩
      rw [hoq] at hF HR
      have HF := hide hF
      have HSZ := hide (show (Tryz.prog.info? 76).map (·.size) = some (opV oq).toArray.size by rw [List.size_toArray, opV_len hF.root]; exact Tryz.sizeOp)
      have HS8 := hide (show (opV oq).toArray.size = 48 by rw [List.size_toArray]; exact opV_len hF.root)
      have HON := hide (opV_one oq)
      have HK := hide (show (opV oq).toArray[0]? = some (I oq.kind) from rfl)
      have hb7' := fun o => (Below.refl wr.heap.size wr).alloc (Nat.le_refl _) o
      have hr7' := heap_alloc_new wr
      clear hF hr0 hra hoq
      go_upto_region 14 with (first | (refine wpList_load_mid rfl 76 (.tmp 53) rfl g (o + i * 48) rfl (opV oq) _ HR.out Tryz.underlying76 rfl (by rw [← List.size_toArray]; exact HSZ.out) ?_) | (refine wpList_store_rowTo rfl 76 (.tmp 15) (.tmp 54) rfl rfl wr.heap.size (opV oq).toArray rfl rfl 76 _ (heap_alloc_new wr _) HSZ.out (by rw [HS8.out]; rfl) HON.out ?_; rw [World.setRow_alloc_new]))
      generalize hW : World.alloc wr _ = w7
      have hb7 : Below wr.heap.size wr w7 := by rw [← hW]; exact hb7' _
      have hr7 : w7.heap[wr.heap.size]? = some (.cells (opV oq).toArray 76 (0, 0)) := by rw [← hW]; exact hr7' _
      clear hW hb7' hr7'
      have hs7 : wr.heap.size < w7.heap.size := (Array.getElem?_eq_some_iff.1 hr7).1
      have k0 : w7.cell? ⟨wr.heap.size, 0, none⟩ = some (I oq.kind) := by rw [cell_of_row _ _ _ _ _ _ hr7]; exact HK.out
      have HI7 := hide (HI.out.below hb7)
      have HR7 := hide hr7
      have HST := hide (fun (hk : oq.kind ≤ most) => HS.out w7 W0 (4 + i) oq HF.out hk (by omega) HI7.out)
      clear hb7 hr7 HR HON HK HI
      generalize (opV oq).toArray = OV at *
      generalize oq.kind = kd at *
      by_cases hk : most < kd
      · go_wp2_with fail
        go_roundw
        case rel => exact ⟨i + 1, hlt, by go_num, HI7.out.mono (by omega)⟩
        case measure => simp [intOf]; omega
      · have hk' : kd ≤ most := by omega
        have HS8' := hide (HST.out hk')
        clear HST
        go_wp2_with (refine wpList_load_row rfl 76 (.tmp 15) rfl wr.heap.size rfl 76 OV (0, 0) _ HR7.out Tryz.underlying76 rfl HSZ.out ?_)
        refine HS8'.out.mono ?_
        rintro _ w8 ⟨rfl, hI8⟩
        have HLK := hide (hI8.looks (by omega))
        clear hI8 k0
        go_wp2_with fail
        refine HLK.out.mono ?_
        rintro _ w9 ⟨rfl, hI9⟩
        have HI9 := hide hI9
        clear hI9 HLK
        go_wp2_with fail
        go_roundw
        case rel => exact ⟨i + 1, hlt, by go_num, HI9.out⟩
        case measure => simp [intOf]; omega
    · have ei : i = os.length := by omega
      subst ei
      go_wp2_with fail
      go_ret
      exact ⟨rfl, HI.out.base⟩
end Go.Proofs.YtenaelkbgkpllaaGreatDoor
