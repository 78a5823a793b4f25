/- The law Sole holds: for every two lists of raw numbers and every text the call returns true; its arguments read as before. -/
import Derived.Test.YtenaelkbgkpllaaGreatDoorKeep33
import Derived.Carry
import Derived.ChangeMaps5
import Derived.LaidMore
import Derived.Lib.LaidTab
import Derived.OpenShut
import Derived.ProofKit
import Derived.SevenTiedAt
import Derived.SizedLaws
import Derived.Stop.Joined
import Derived.Test.YtenaelkbgkpllaaGreatDoorCards
import Derived.Test.YtenaelkbgkpllaaGreatDoorTie
namespace Go.Proofs.YtenaelkbgkpllaaGreatDoor
open Go.ChangeShapes Go.WideShapes Go.ChangeAt Go.WideMaps Go.WideElems Go.RowKit
open Go.ChangeMaps (open_string shut_string)

theorem own : ownKnob Tryz.prog.godebug = none := by kernel_rfl
theorem Tryz.laidOut : laidOutB Tryz.prog = true := by kernel_rfl
theorem gK : Tryz.prog.globalNamed "ward/digest.roundNumbers" = some 1 := by kernel_rfl
theorem tK : (Tryz.prog.globals[1]?).map (·.type) = some 65 := by kernel_rfl
theorem gW : Tryz.prog.globalNamed "ward/wardkeep.whole" = some 0 := by kernel_rfl
theorem tW : (Tryz.prog.globals[0]?).map (·.type) = some 46 := by kernel_rfl
theorem Tryz.cellsU : Tryz.prog.cellsOf 63 = 1 := by kernel_rfl
theorem Tryz.cellsK : Tryz.prog.cellsOf 65 = 64 := by kernel_rfl
theorem Tryz.cellsI : Tryz.prog.cellsOf 3 = 1 := by kernel_rfl
theorem Tryz.bytesI : Tryz.prog.bytesOf 3 = 8 := by kernel_rfl
theorem kt_of_tab {W : World} (ht : Lib.TabIs Tryz.prog W "ward/digest.roundNumbers" .u32 (Sha.Ks.map fun n : Nat => (n : Int))) : KT W := by
  intro i hi
  rw [ht.cell gK i (by rw [List.length_map]; exact hi)]
  have e : (Sha.Ks.map fun n : Nat => (n : Int)).getD i 0 = ((Sha.Ks.getD i 0 : Nat) : Int) := by
    have hk : i < Sha.Ks.length := hi
    simp only [List.getD_eq_getElem?_getD, List.getElem?_map, List.getElem?_eq_getElem hk, Option.map_some, Option.getD_some]
  rw [e]
def laid2 : List (String × DataW Unit) := [("ward/digest.roundNumbers", Rows.laid_ward_digest_roundNumbers), ("ward/wardkeep.whole", Rows.laid_ward_wardkeep_whole)]
theorem laid2_eq : laid2 = [("ward/digest.roundNumbers", Lib.tabData .u32 (Sha.Ks.map fun n : Nat => (n : Int))), ("ward/wardkeep.whole", Rows.laid_ward_wardkeep_whole)] := by kernel_rfl
/-- eight numbers read as a struct -/
theorem eight_cells {W : World} {fuel : Nat} {cs : List Value} {p : List MemPlace} (h : DataW.trod (fun _ => ()) Tryz.prog W 0 (fun _ => true) false fuel 46 cs = some (Rows.laid_ward_wardkeep_whole, p)) :
    cs[0]? = some (I 0) ∧ cs[1]? = some (I (-1000000)) ∧ cs[2]? = some (I (-1000000)) ∧ cs[3]? = some (I 1000000) ∧ cs[4]? = some (I 1000000) ∧ cs[5]? = some (I 0) ∧ cs[6]? = some (I 0) ∧ cs[7]? = some (I 0) := by
  obtain ⟨xs, n, _, e, hl, hlen, hf⟩ := DataW.trod_struct Tryz.underlying46 h
  have key : ∀ (i : Nat) (y : DataW Unit × List MemPlace), DataW.trod (fun _ => ()) Tryz.prog W 0 (fun _ => true) false n 3 ((cs.drop i).take (Tryz.prog.cellsOf 3)) = some y → ∃ m : Int, cs[i]? = some (I m) ∧ y.1 = .lit (.int .i64 m) := by
    intro i y hy
    obtain ⟨m, hc, rfl, _⟩ := DataW.trod_int Tryz.underlying3 hy
    rw [Tryz.cellsI] at hc
    refine ⟨m, ?_, rfl⟩
    have h0 : ((cs.drop i).take 1)[0]? = some (I m) := by rw [hc]; rfl
    simpa using h0
  match xs, hlen with
  | [y0, y1, y2, y3, y4, y5, y6, y7], _ =>
    obtain ⟨m0, c0, d0⟩ := key 0 y0 (by simpa using hf 0 _ rfl)
    obtain ⟨m1, c1, d1⟩ := key 1 y1 (by simpa using hf 1 _ rfl)
    obtain ⟨m2, c2, d2⟩ := key 2 y2 (by simpa using hf 2 _ rfl)
    obtain ⟨m3, c3, d3⟩ := key 3 y3 (by simpa using hf 3 _ rfl)
    obtain ⟨m4, c4, d4⟩ := key 4 y4 (by simpa using hf 4 _ rfl)
    obtain ⟨m5, c5, d5⟩ := key 5 y5 (by simpa using hf 5 _ rfl)
    obtain ⟨m6, c6, d6⟩ := key 6 y6 (by simpa using hf 6 _ rfl)
    obtain ⟨m7, c7, d7⟩ := key 7 y7 (by simpa using hf 7 _ rfl)
    have e1 := congrArg Prod.fst e
    simp only [List.map_cons, List.map_nil, d0, d1, d2, d3, d4, d5, d6, d7, Rows.laid_ward_wardkeep_whole] at e1
    simp only [DataW.agg.injEq, List.cons.injEq, DataW.lit.injEq, Lit.int.injEq, true_and, and_true] at e1
    obtain ⟨rfl, rfl, rfl, rfl, rfl, rfl, rfl, rfl⟩ := e1
    exact ⟨c0, c1, c2, c3, c4, c5, c6, c7⟩
theorem both_of_laid {W : World} (h : laidMetH Tryz.prog laid2 W) : KT W ∧ WT W := by
  rw [MakeChecks.laidMetH_plain _ _ _ (by kernel_rfl), laid2_eq] at h
  refine ⟨kt_of_tab (Lib.tabIs_of_head gK tK Tryz.under37 Tryz.underlying63 Tryz.cellsU Tryz.cellsK h), ?_⟩
  obtain ⟨ps, ⟨_, _, _, _, _, _, _, _, _, _, ⟨g', t', cs, fuel, p, q, hg', ht', hvar, hd, _, _⟩, _⟩, _⟩ := h
  obtain rfl := Option.some.inj (gW.symm.trans hg')
  obtain rfl := Option.some.inj (tW.symm.trans ht')
  obtain ⟨c0, c1, c2, c3, c4, c5, c6, c7⟩ := eight_cells hd
  have hv := fun i => World.var?_cell gW hvar i
  simp only [Array.getElem?_toList] at c0 c1 c2 c3 c4 c5 c6 c7
  exact ⟨(hv 0).trans c0, (hv 1).trans c1, (hv 2).trans c2, (hv 3).trans c3, (hv 4).trans c4, (hv 5).trans c5, (hv 6).trans c6, (hv 7).trans c7⟩
/-- an argument of raw numbers, opened once, nil or not -/
theorem view {H : Type} {enc : TypeId × Value → H} {W : World} {fuel : Nat} {a0 : Option Addr} {len cap : Nat} {d : DataW H} {p : List MemPlace}
    (hf : DataW.trod enc Tryz.prog W 0 (fun _ => true) true fuel 25 (Value.slice a0 len cap).cells.toList = some (d, p)) (hsz : ∀ elems spare, d = .slice elems spare → (elems.length + spare.length) * 8 ≤ reachBytes) :
    ∃ Z : List Int, Z.length = len ∧ Arg W a0 Z := by
  rcases open_ints Tryz.underlying25 Tryz.underlying3 Tryz.cellsI hf with ⟨hcs, hx⟩ | ⟨a, len', cap', zs, hcs, _, hl, hm, hz, hx, hcell, hwz⟩
  · simp [Value.cells] at hcs
    obtain ⟨rfl, rfl, rfl⟩ := hcs
    exact ⟨[], rfl, ⟨by simp, fun x hx => by simp at hx, fun h => absurd rfl h⟩⟩
  · simp [Value.cells] at hcs
    obtain ⟨rfl, rfl, rfl⟩ := hcs
    simp only [Prod.mk.injEq] at hx
    obtain ⟨rfl, rfl⟩ := hx
    simp only [if_true] at hz
    have hs := hsz _ _ rfl
    have hr : reachBytes < 2 ^ 47 := reachBytes_lt
    simp only [lits, List.length_map, List.length_take, List.length_drop] at hs
    have hlz : (zs.take len).length = len := by rw [List.length_take]; omega
    refine ⟨zs.take len, hlz, ⟨by rw [hlz]; omega, fun x hx => bounds_i64 (hwz x (List.mem_of_mem_take hx)), fun hne => ?_⟩⟩
    have hp : 0 < zs.length := by
      have h0 : zs.take len ≠ [] := hne
      have h1 := List.length_pos_iff.2 h0
      rw [hlz] at h1
      omega
    obtain ⟨b, off, rfl, hc⟩ := ints_at hcell hp
    refine ⟨b, off, rfl, fun i hi => ?_⟩
    rw [hlz] at hi
    rw [hc i (by omega), List.getElem_take]
    simp [List.getD, List.getElem?_eq_getElem (show i < zs.length by omega)]
/-- The door's own heap meets the condition. -/
theorem door_met (os : Os) (args : Array Value) : laidMetH Tryz.prog laid2 ((World.doorLaid Tryz.prog 400 os).forCall (fun _ _ => 0) ⟨#[], args, []⟩).memory :=
  laidMetH_of_parts3 (fuel := 8) (laidMet_of_run' 8 (by kernel_rfl) (by kernel_rfl)) (by kernel_rfl) (by kernel_rfl)
set_option maxRecDepth 100000 in
theorem lifted (os : Os) (started : os.Started) (H : Type) (enc : TypeId × Value → H) :
    ReturnsInHanded {} Tryz.checked os 10 .any (fun w args => (Rows.soleSpec.pre enc Tryz.prog Tryz.f10 [] false w args ∧ laidMetH Tryz.prog laid2 w) ∧ sizedMet enc Tryz.prog Tryz.f10 (OpenSpec.ofChange Rows.soleSpec) false w args)
      (Rows.soleSpec.post enc Tryz.prog Tryz.f10 false true false false) := by
  refine returnsInHanded_of_change_and (C := Tryz.checked) (X := fun w _ => laidMetH Tryz.prog laid2 w) (fun _ _ _ hh h => h.of_heap hh) own started (by kernel_rfl) Tryz.func10
    (ChangeSpec.witness_shaped (enc := enc) (C := Tryz.checked) (os := os) (X := fun w _ => laidMetH Tryz.prog laid2 w) false (World.doorLaid Tryz.prog 400 os) #[.slice none 0 0, .slice none 0 0, .string ⟨#[]⟩] 8 rfl (World.shaped_of_RefB (by kernel_rfl) (by kernel_rfl)) (by kernel_rfl) (by kernel_rfl) (by kernel_rfl) (door_met os _)) ?_
  intro W base args ds gs before hval0 hW _ hsz0 hL _
  have hval : ∀ (j : Nat) t v, Tryz.f10.params[j]? = some t → args[j]? = some v → Value.okWide Tryz.prog W .any base t v := hval0
  have hsz : (DataW.weightsEach Tryz.prog (Tryz.f10.params.toList ++ Rows.soleSpec.plain.varTypes Tryz.prog) (ds ++ gs)).all (· ≤ reachBytes) = true := hsz0
  have hW' := hW
  obtain ⟨p, q, hA0, hV, rfl, hfz, hnd⟩ := hW
  have hA : DataW.TrodAll enc Tryz.prog W 0 (fun _ => true) true Tryz.f10.params.toList args.toList ds p := hA0
  rw [Tryz.params10] at hA hval hsz
  obtain ⟨v0, vs0, d0, ds0, p0, q0, hargs, rfl, rfl, h0, r0⟩ := trodAll_cons hA
  obtain ⟨v1, vs1, d1, ds1, p1, q1, rfl, rfl, rfl, h1, r1⟩ := trodAll_cons r0
  obtain ⟨v2, vs2, d2, ds2, p2, q2, rfl, rfl, rfl, h2, r2⟩ := trodAll_cons r1
  obtain ⟨rfl, rfl, rfl⟩ := trodAll_nil r2
  obtain rfl : args = #[v0, v1, v2] := by cases args; simp_all
  obtain ⟨rfl, rfl⟩ := trodVars_none hV
  obtain ⟨a0, la, ca, rfl⟩ := okWide_slice Tryz.underlying25 (hval 0 25 v0 rfl rfl)
  obtain ⟨b0, lb, cb, rfl⟩ := okWide_slice Tryz.underlying25 (hval 1 25 v1 rfl rfl)
  obtain ⟨ch, rfl, rfl, rfl, w2⟩ := open_string Tryz.underlying9 (hval 2 9 v2 rfl rfl) h2
  have hso := sized_string hsz (j := 2) (t := 9) (bytes := ch.data.toList) rfl rfl
  have hrb : reachBytes < 2 ^ 47 := reachBytes_lt
  have hot : ch.data.toList.length ≤ 140737488355328 := by omega
  have hch : (⟨ch.data.toList.toArray⟩ : ByteArray) = ch := by cases ch; simp
  have h0k := h0
  have h1k := h1
  obtain ⟨fa, hfa⟩ := h0
  obtain ⟨fb, hfb⟩ := h1
  clear hA0 hval0
  simp only [List.append_nil] at hW'
  have hlt : ∀ x ∈ p0 ++ p1, x.block < W.heap.size := fun x hx => by simpa using hW'.lt x (by simpa using hx)
  obtain ⟨Z0, hl0, hA0⟩ := view hfa (fun elems spare e => by
    have := sized_slice hsz (j := 0) (t := 25) (e := 3) rfl (by rw [e]; rfl) Tryz.underlying25
    rw [Tryz.bytesI] at this
    exact this)
  obtain ⟨Z1, hl1, hA1⟩ := view hfb (fun elems spare e => by
    have := sized_slice hsz (j := 1) (t := 25) (e := 3) rfl (by rw [e]; rfl) Tryz.underlying25
    rw [Tryz.bytesI] at this
    exact this)
  subst hl0 hl1
  obtain ⟨hK, hWT⟩ := both_of_laid hL
  have hcall := sole_law a0 b0 ca cb Z0 Z1 ch.data.toList W hA0 hA1 hot hK hWT
  rw [show Sv ch.data.toList = .string ch by unfold Sv; rw [hch]] at hcall
  refine hcall.mono fun e W' ⟨he, hg⟩ => ?_
  subst he
  refine ⟨_, rfl, _, _, _, [], p0 ++ (p1 ++ ([] ++ [])), [], hW', ?_, ?_, ?_, hg.frame _, fun h => by cases h⟩
  · exact trodAll_cons_mk (shut_bool Tryz.underlying4 _) trodAll_mk0
  · exact trodAll_cons_mk (Below.trod Tryz.laidOut (by kernel_rfl) (of_decide_eq_true (by kernel_rfl)) h0k hg (fun x hx => hlt x (by simp [hx]))) (trodAll_cons_mk (Below.trod Tryz.laidOut (by kernel_rfl) (of_decide_eq_true (by kernel_rfl)) h1k hg (fun x hx => hlt x (by simp [hx]))) (trodAll_cons_mk (shut_string Tryz.underlying9 w2) trodAll_mk0))
  · rfl

theorem sole_row : Rows.SoleSaid :=
  OpenClaim.holds_of_wide 10 Tryz.f10 rfl rfl rfl rfl rfl rfl rfl ⟨rfl, rfl, rfl, rfl, rfl⟩ rfl rfl rfl rfl rfl (by kernel_rfl) Tryz.func10 (by kernel_rfl)
    (of_decide_eq_true (by kernel_rfl)) (by unfold Func.isWrapper; first | (rw [if_pos (by decide +kernel)]; kernel_rfl) | (rw [if_neg (by decide +kernel)]; exact ⟨rfl, rfl⟩))
    (fun os started H enc _ => lifted os started H enc)

theorem sole_holds : Rows.SoleCardSaid :=
  Claim7.holds_tied_plain_at .later [] [.data, .data] true Rows.soleCard.stood.harness Rows.soleCard.stood.looks
    sole_row (fun _ h => by cases h) (by kernel_rfl) (fun _ h => by cases h) sole_row_tie rfl ⟨rfl, rfl⟩ (by kernel_rfl) rfl
    (fun f fn hf hfn => by
      obtain rfl : f = 10 := Option.some.inj ((show Tryz.prog.funcNamed "ward/wardkeep.Sole" = some 10 by kernel_rfl).symm.trans hf) |>.symm
      obtain rfl : fn = Tryz.f10 := (Option.some.inj (Tryz.func10.symm.trans hfn)).symm
      exact ⟨by kernel_rfl, fun j t ht => by
        rw [Tryz.params10] at ht
        have hm : t ∈ [25, 25, 9] := by simpa using Array.mem_of_getElem? ht
        have hall : ([25, 25, 9].all fun u => !Tryz.prog.wantsStandIn u) = true := by kernel_rfl
        exact (show Tryz.prog.wantsStandIn t = false by simpa using List.all_eq_true.1 hall t hm)⟩)
    (by kernel_rfl)
#print axioms sole_holds
end Go.Proofs.YtenaelkbgkpllaaGreatDoor
