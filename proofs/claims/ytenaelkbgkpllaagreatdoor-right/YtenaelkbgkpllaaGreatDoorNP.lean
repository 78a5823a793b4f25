/- The law Right holds: for every list of raw numbers the call returns true; its argument reads as before. -/
import Derived.Test.YtenaelkbgkpllaaGreatDoorKeep30
import Derived.Carry
import Derived.LaidMore
import Derived.Lib.LaidTab
import Derived.OpenShut
import Derived.ProofKit
import Derived.SevenTiedAt
import Derived.SizedLaws
import Derived.Stop.Joined
import Derived.Test.YtenaelkbgkpllaaGreatDoorCards
import Derived.Test.YtenaelkbgkpllaaGreatDoorTie
namespace Go.Proofs.YtenaelkbgkpllaaGreatDoor
open Go.ChangeShapes Go.WideShapes Go.ChangeAt Go.WideMaps Go.WideElems Go.RowKit

theorem own : ownKnob Tryz.prog.godebug = none := by kernel_rfl
theorem gK : Tryz.prog.globalNamed "ward/digest.roundNumbers" = some 1 := by kernel_rfl
theorem tK : (Tryz.prog.globals[1]?).map (·.type) = some 65 := by kernel_rfl
theorem Tryz.cellsU : Tryz.prog.cellsOf 63 = 1 := by kernel_rfl
theorem Tryz.cellsK : Tryz.prog.cellsOf 65 = 64 := by kernel_rfl
theorem kt_of_tab {W : World} (ht : Lib.TabIs Tryz.prog W "ward/digest.roundNumbers" .u32 (Sha.Ks.map fun n : Nat => (n : Int))) : KT W := by
  intro i hi
  rw [ht.cell gK i (by rw [List.length_map]; exact hi)]
  have e : (Sha.Ks.map fun n : Nat => (n : Int)).getD i 0 = ((Sha.Ks.getD i 0 : Nat) : Int) := by
    have hk : i < Sha.Ks.length := hi
    simp only [List.getD_eq_getElem?_getD, List.getElem?_map, List.getElem?_eq_getElem hk, Option.map_some, Option.getD_some]
  rw [e]
def laid1 : List (String × DataW Unit) := [("ward/digest.roundNumbers", Rows.laid_ward_digest_roundNumbers)]
theorem laid1_eq : laid1 = [("ward/digest.roundNumbers", Lib.tabData .u32 (Sha.Ks.map fun n : Nat => (n : Int)))] := by kernel_rfl
theorem kt_of_laid {W : World} (h : laidMetH Tryz.prog laid1 W) : KT W := by
  rw [MakeChecks.laidMetH_plain _ _ _ (by kernel_rfl), laid1_eq] at h
  exact kt_of_tab (Lib.tabIs_of_head gK tK Tryz.under37 Tryz.underlying63 Tryz.cellsU Tryz.cellsK h)
theorem Tryz.laidOut : laidOutB Tryz.prog = true := by kernel_rfl
theorem Tryz.cellsI : Tryz.prog.cellsOf 3 = 1 := by kernel_rfl
theorem Tryz.bytesI : Tryz.prog.bytesOf 3 = 8 := by kernel_rfl
/-- an argument of raw numbers, opened once, nil or not -/
theorem view {H : Type} {enc : TypeId × Value → H} {W : World} {fuel : Nat} {a0 : Option Addr} {len cap : Nat} {d : DataW H} {p : List MemPlace}
    (hf : DataW.trod enc Tryz.prog W 0 (fun _ => true) true fuel 25 (Value.slice a0 len cap).cells.toList = some (d, p)) (hsz : ∀ elems spare, d = .slice elems spare → (elems.length + spare.length) * 8 ≤ reachBytes) :
    ∃ Z : List Int, Z.length = len ∧ Arg W a0 Z := by
  rcases open_ints Tryz.underlying25 Tryz.underlying3 Tryz.cellsI hf with ⟨hcs, hx⟩ | ⟨a, len', cap', zs, hcs, _, hl, hm, hz, hx, hcell, hwz⟩
  · simp [Value.cells] at hcs
    obtain ⟨rfl, rfl, rfl⟩ := hcs
    exact ⟨[], rfl, ⟨by simp, fun x hx => by simp at hx, fun h => absurd rfl h⟩⟩
  · simp [Value.cells] at hcs
    obtain ⟨rfl, rfl, rfl⟩ := hcs
    simp only [Prod.mk.injEq] at hx
    obtain ⟨rfl, rfl⟩ := hx
    simp only [if_true] at hz
    have hs := hsz _ _ rfl
    have hr : reachBytes < 2 ^ 47 := reachBytes_lt
    simp only [lits, List.length_map, List.length_take, List.length_drop] at hs
    have hlz : (zs.take len).length = len := by rw [List.length_take]; omega
    refine ⟨zs.take len, hlz, ⟨by rw [hlz]; omega, fun x hx => bounds_i64 (hwz x (List.mem_of_mem_take hx)), fun hne => ?_⟩⟩
    have hp : 0 < zs.length := by
      have h0 : zs.take len ≠ [] := hne
      have h1 := List.length_pos_iff.2 h0
      rw [hlz] at h1
      omega
    obtain ⟨b, off, rfl, hc⟩ := ints_at hcell hp
    refine ⟨b, off, rfl, fun i hi => ?_⟩
    rw [hlz] at hi
    rw [hc i (by omega), List.getElem_take]
    simp [List.getD, List.getElem?_eq_getElem (show i < zs.length by omega)]
/-- The door's own heap meets the condition. -/
theorem door_met (os : Os) (args : Array Value) : laidMetH Tryz.prog laid1 ((World.doorLaid Tryz.prog 400 os).forCall (fun _ _ => 0) ⟨#[], args, []⟩).memory :=
  laidMetH_of_parts3 (fuel := 8) (laidMet_of_run' 8 (by kernel_rfl) (by kernel_rfl)) (by kernel_rfl) (by kernel_rfl)
set_option maxRecDepth 100000 in
theorem lifted (os : Os) (started : os.Started) (H : Type) (enc : TypeId × Value → H) :
    ReturnsInHanded {} Tryz.checked os 8 .any (fun w args => (Rows.rightSpec.pre enc Tryz.prog Tryz.f8 [] false w args ∧ laidMetH Tryz.prog laid1 w) ∧ sizedMet enc Tryz.prog Tryz.f8 (OpenSpec.ofChange Rows.rightSpec) false w args)
      (Rows.rightSpec.post enc Tryz.prog Tryz.f8 false true false false) := by
  refine returnsInHanded_of_change_and (C := Tryz.checked) (X := fun w _ => laidMetH Tryz.prog laid1 w) (fun _ _ _ hh h => h.of_heap hh) own started (by kernel_rfl) Tryz.func8
    (ChangeSpec.witness_shaped (enc := enc) (C := Tryz.checked) (os := os) (X := fun w _ => laidMetH Tryz.prog laid1 w) false (World.doorLaid Tryz.prog 400 os) #[.slice none 0 0] 8 rfl (World.shaped_of_RefB (by kernel_rfl) (by kernel_rfl)) (by kernel_rfl) (by kernel_rfl) (by kernel_rfl) (door_met os _)) ?_
  intro W base args ds gs before hval0 hW _ hsz0 hL _
  have hval : ∀ (j : Nat) t v, Tryz.f8.params[j]? = some t → args[j]? = some v → Value.okWide Tryz.prog W .any base t v := hval0
  have hsz : (DataW.weightsEach Tryz.prog (Tryz.f8.params.toList ++ Rows.rightSpec.plain.varTypes Tryz.prog) (ds ++ gs)).all (· ≤ reachBytes) = true := hsz0
  have hW' := hW
  obtain ⟨p, q, hA0, hV, rfl, hfz, hnd⟩ := hW
  have hA : DataW.TrodAll enc Tryz.prog W 0 (fun _ => true) true Tryz.f8.params.toList args.toList ds p := hA0
  rw [Tryz.params8] at hA hval hsz
  obtain ⟨v0, vs0, d0, ds0, p0, q0, hargs, rfl, rfl, h0, r0⟩ := trodAll_cons hA
  obtain ⟨rfl, rfl, rfl⟩ := trodAll_nil r0
  obtain rfl : args = #[v0] := by cases args; simp_all
  obtain ⟨rfl, rfl⟩ := trodVars_none hV
  obtain ⟨a0, la, ca, rfl⟩ := okWide_slice Tryz.underlying25 (hval 0 25 v0 rfl rfl)
  have h0k := h0
  obtain ⟨fa, hfa⟩ := h0
  clear hA0 hval0
  simp only [List.append_nil] at hW'
  have hlt : ∀ x ∈ p0, x.block < W.heap.size := fun x hx => by simpa using hW'.lt x (by simpa using hx)
  obtain ⟨Z0, hl0, hA0⟩ := view hfa (fun elems spare e => by
    have := sized_slice hsz (j := 0) (t := 25) (e := 3) rfl (by rw [e]; rfl) Tryz.underlying25
    rw [Tryz.bytesI] at this
    exact this)
  subst hl0
  refine (right_law a0 ca Z0 W hA0 (kt_of_laid hL)).mono fun e W' ⟨he, hg⟩ => ?_
  subst he
  refine ⟨_, rfl, _, _, _, [], p0 ++ [], [], by simpa using hW', ?_, ?_, ?_, hg.frame _, fun h => by cases h⟩
  · exact trodAll_cons_mk (shut_bool Tryz.underlying4 _) trodAll_mk0
  · exact trodAll_cons_mk (Below.trod Tryz.laidOut (by kernel_rfl) (of_decide_eq_true (by kernel_rfl)) h0k hg (fun x hx => hlt x (by simp [hx]))) trodAll_mk0
  · rfl

theorem right_row : Rows.RightSaid :=
  OpenClaim.holds_of_wide 8 Tryz.f8 rfl rfl rfl rfl rfl rfl rfl ⟨rfl, rfl, rfl, rfl, rfl⟩ rfl rfl rfl rfl rfl (by kernel_rfl) Tryz.func8 (by kernel_rfl)
    (of_decide_eq_true (by kernel_rfl)) (by unfold Func.isWrapper; first | (rw [if_pos (by decide +kernel)]; kernel_rfl) | (rw [if_neg (by decide +kernel)]; exact ⟨rfl, rfl⟩))
    (fun os started H enc _ => lifted os started H enc)

theorem right_holds : Rows.RightCardSaid :=
  Claim7.holds_tied_plain_at .later [] [.data] true Rows.rightCard.stood.harness Rows.rightCard.stood.looks
    right_row (fun _ h => by cases h) (by kernel_rfl) (fun _ h => by cases h) right_row_tie rfl ⟨rfl, rfl⟩ (by kernel_rfl) rfl
    (fun f fn hf hfn => by
      obtain rfl : f = 8 := Option.some.inj ((show Tryz.prog.funcNamed "ward/wardkeep.Right" = some 8 by kernel_rfl).symm.trans hf) |>.symm
      obtain rfl : fn = Tryz.f8 := (Option.some.inj (Tryz.func8.symm.trans hfn)).symm
      exact ⟨by kernel_rfl, fun j t ht => by
        rw [Tryz.params8] at ht
        have hm : t ∈ [25] := by simpa using Array.mem_of_getElem? ht
        have hall : ([25].all fun u => !Tryz.prog.wantsStandIn u) = true := by kernel_rfl
        exact (show Tryz.prog.wantsStandIn t = false by simpa using List.all_eq_true.1 hall t hm)⟩)
    (by kernel_rfl)
#print axioms right_holds
end Go.Proofs.YtenaelkbgkpllaaGreatDoor
