/- Part 21 of what the claims on Bound, Small, Right and Sole rest on. -/
import Derived.Test.YtenaelkbgkpllaaGreatDoorKeep20
import Derived.Deep.CutRange
import Derived.Lib.BufferWrite
/- A point read: the walk (not finished: region 7). -/
namespace Go.Proofs.YtenaelkbgkpllaaGreatDoor
open Go.RowKit

theorem Keeps.drew {S : Nat → Prop} {w w' : World} (h : Keeps S w w') : Keeps S w w'.drew := ⟨h.os, h.tape, h.output, h.size, h.block⟩
set_option maxRecDepth 100000 in
set_option maxHeartbeats 8000000 in
theorem point_walk (g b n : Nat) (s : Ward.Sta) (pi px py : Int) (t12 : List UInt8) (w : World) (H : RdAt w g b n s) (hs : 12 ≤ s.1.length) (ht : s.1.take 12 = t12) (hn : n ≤ 100000) (hp0 : -2147483648 ≤ pi ∧ pi < 2147483648)
    (hN0 : ∀ W, Calls Tryz.prog 157 #[Sv t12, I (0 : Nat)] W fun e w' => e = .returned (I pi) ∧ Below W.heap.size W w')
    (hN1 : ∀ W, Calls Tryz.prog 157 #[Sv t12, I (1 : Nat)] W fun e w' => e = .returned (I px) ∧ Below W.heap.size W w')
    (hN2 : ∀ W, Calls Tryz.prog 157 #[Sv t12, I (2 : Nat)] W fun e w' => e = .returned (I py) ∧ Below W.heap.size W w')
    (hrd : Ward.rdPt s = if (Ward.idOk pi && !(s.2.contains pi) && Ward.coordOk px && Ward.coordOk py) = true then some (⟨pi, px, py⟩, (s.1.drop 12, pi :: s.2)) else none) :
    Calls Tryz.prog 123 #[.pointer (some ⟨g, 0, none⟩)] w (PointRead w g b n s) := by
  have hb1' := fun o => (Below.refl w.heap.size w).alloc (Nat.le_refl _) o
  have hglt := H.lt
  have hblt := H.set.lt
  have HNE := hide H.ne
  have HH := hide H
  have HN0 := hide hN0
  have HN1 := hide hN1
  have HN2 := hide hN2
  have HRD := hide hrd
  clear H hN0 hN1 hN2 hrd
  go_enter Tryz.func123, Tryz.ntmps123
  go_upto_region 1 with fail
  generalize hW : World.alloc w _ = w1
  have hb1 : Below w.heap.size w w1 := by rw [← hW]; exact hb1' _
  have hr1 : w1.heap[w.heap.size]? = some (.cells #[I 0, I 0, I 0] 36 (0, 0)) := by rw [← hW]; exact heap_alloc_new _ _
  clear hb1' hW
  have hs1 : w.heap.size < w1.heap.size := (Array.getElem?_eq_some_iff.1 hr1).1
  have HT := hide (take_many g 12 s.1 _ w1 (HH.out.below hb1).row hs)
  rw [ht] at HT
  have HB1 := hide hb1
  have HR1 := hide hr1
  clear hb1 hr1
  go_wp2_with fail
  refine HT.out.mono ?_
  rintro _ w2 ⟨rfl, hg2, hk2⟩
  have hs2 := hk2.size
  have HG2 := hide hg2
  have HK2 := hide hk2
  have HR2 := hide ((hk2.block w.heap.size (by omega) (by omega)).trans HR1.out)
  clear hg2 hk2 HT
  go_wp2_with fail
  refine (HN0.out w2).mono ?_
  rintro _ w3 ⟨rfl, hb3⟩
  have hs3 := hb3.size
  have HB3 := hide hb3
  clear hb3
  go_wp2_with fail
  refine (HN1.out w3).mono ?_
  rintro _ w4 ⟨rfl, hb4⟩
  have hs4 := hb4.size
  have HB4 := hide (HB3.out.trans (hb4.mono (by omega)))
  clear hb4
  go_wp2_with fail
  refine (HN2.out w4).mono ?_
  rintro _ w5 ⟨rfl, hb5⟩
  have hs5 := hb5.size
  have HB5 := hide (HB4.out.trans (hb5.mono (by omega)))
  clear hb5
  have HR5 := hide ((HB5.out.block w.heap.size (by omega)).trans HR2.out)
  obtain ⟨e0, e1, e2⟩ := row3 HR5.out
  have f0 : w5.frozen? ⟨w.heap.size, 0, none⟩ = false := frozen_of_row _ _ _ _ _ HR5.out
  have f1 : w5.frozen? ⟨w.heap.size, 1, none⟩ = false := frozen_of_row _ _ _ _ _ HR5.out
  have f2 : w5.frozen? ⟨w.heap.size, 2, none⟩ = false := frozen_of_row _ _ _ _ _ HR5.out
  have hr6' := fun x y z => store3 x y z HR5.out
  go_upto_region 5 with fail
  generalize hW : World.setCell (World.setCell (World.setCell w5 _ _) _ _) _ _ = w6
  have hr6 : w6.heap[w.heap.size]? = some (.cells #[I pi, I px, I py] 36 (0, 0)) := by rw [← hW]; exact hr6' _ _ _
  have hb6 : Below w.heap.size w2 w6 := by rw [← hW]; exact below_store3 (HB5.out.mono (by omega)) (Nat.le_refl _) _ _ _
  clear hr6' hW e0 e1 e2 f0 f1 f2
  have hs6 : w.heap.size < w6.heap.size := (Array.getElem?_eq_some_iff.1 hr6).1
  have HR6 := hide hr6
  have HG6 := hide ((hb6.block g hglt).trans HG2.out)
  have HS6 := hide (HH.out.set.block ((hb6.block b hblt).trans ((HK2.out.block b (by omega) HNE.out).trans (HB1.out.block b hblt))))
  have HK6 := hide (show Keeps (Rd2 g b) w w6 from (show Keeps (Rd2 g b) w w2 from ⟨HK2.out.os.trans HB1.out.os, HK2.out.tape.trans HB1.out.tape, HK2.out.output.trans HB1.out.output, by omega, fun j hj hn => (HK2.out.block j (by omega) (fun e => hn (Or.inl e))).trans (HB1.out.block j hj)⟩).low hb6)
  obtain ⟨e0, e1, e2⟩ := row3 hr6
  have eg : w6.cell? ⟨g, 1, none⟩ = some (.map (some b)) := by rw [cell_of_row _ _ _ _ _ _ HG6.out]; rfl
  have HRW := hide (show ∃ r, s.2.contains pi = r from ⟨_, rfl⟩)
  obtain ⟨r, hr⟩ := HRW.out
  have hl6 := look_drew HS6.out hp0 hr
  have hl7 := look_alloc HS6.out hp0 hr (.cells #[] 222)
  have hba := Below.heap_alloc w6 (.cells #[] 222)
  have eg7 : (w6.alloc (.cells #[] 222)).cell? ⟨g, 1, none⟩ = some (.map (some b)) := by rw [cell_of_row _ _ _ _ _ _ ((hba g (by omega)).trans HG6.out)]; rfl
  have e07 : (w6.alloc (.cells #[] 222)).cell? ⟨w.heap.size, 0, none⟩ = some (I pi) := by rw [cell_of_row _ _ _ _ _ _ ((hba w.heap.size hs6).trans HR6.out)]; rfl
  clear hba
  have HR := hide hr
  clear hr6 hb6 hr HRW
  have hS6 : w6.drew.cell? ⟨g, 1, none⟩ = some (.map (some b)) ∧ w6.drew.cell? ⟨w.heap.size, 0, none⟩ = some (I pi) ∧ (Instr.lookup 135 (.map (some b)) (I pi) true).run Tryz.prog w6.drew = .ok (.tuple #[.agg #[], .bool r]) w6.drew := ⟨eg, e0, hl6⟩
  have hS7 : (w6.alloc (.cells #[] 222)).drew.cell? ⟨g, 1, none⟩ = some (.map (some b)) ∧ (w6.alloc (.cells #[] 222)).drew.cell? ⟨w.heap.size, 0, none⟩ = some (I pi) ∧ (Instr.lookup 135 (.map (some b)) (I pi) true).run Tryz.prog (w6.alloc (.cells #[] 222)).drew = .ok (.tuple #[.agg #[], .bool r]) (w6.alloc (.cells #[] 222)).drew := ⟨eg7, e07, hl7⟩
  clear eg eg7 e07 hl6 hl7 e0 e1 e2
  have HP0 := hide hp0
  have HN := hide hn
  have HGL := hide hglt
  have HBL := hide hblt
  clear hp0 hn hs hglt hblt
  go_cut [5, 6] from 22 to 31 (fun v5 v6 wx => v6 = .bool r ∧ Below w6.heap.size w6 wx)
  case first =>
    go_region_held3 (fun W => W.cell? ⟨g, 1, none⟩ = some (.map (some b)) ∧ W.cell? ⟨w.heap.size, 0, none⟩ = some (I pi) ∧ (Instr.lookup 135 (.map (some b)) (I pi) true).run Tryz.prog W = .ok (.tuple #[.agg #[], .bool r]) W) (first | exact hS6 | exact hS7) ((fail))
    all_goals
      go_wp2_with fail
      go_meet
      exact ⟨rfl, ((Below.refl w6.heap.size w6).alloc (Nat.le_refl _) (.cells #[] 222)).drew⟩
  case rest =>
    clear hS6 hS7
    have hglt := HGL.out
    have hblt := HBL.out
    obtain ⟨rfl, hb7⟩ := hcut
    generalize wc = w7 at *
    have hs7 := hb7.size
    have HR7 := hide ((hb7.block w.heap.size hs6).trans HR6.out)
    have HG7 := hide ((hb7.block g (by omega)).trans HG6.out)
    have HS7 := hide (HS6.out.block (hb7.block b HS6.out.lt))
    have HK7 := hide (HK6.out.low (hb7.mono (by omega)))
    obtain ⟨w8, hput, hset8, hgr8⟩ := SetIs.put (w := w7.drew) (HS7.out.block rfl) (by have := HN.out; omega) (look_small HP0.out)
    have HS8 := hide hset8
    have hs8 : w7.heap.size ≤ w8.heap.size := hgr8.size
    have HR8 := hide ((hgr8.block w.heap.size (show w.heap.size < w7.heap.size by omega) (fun e => by injection e with e; omega)).trans (show w7.drew.heap[w.heap.size]? = _ from HR7.out))
    have HG8 := hide ((hgr8.block g (show g < w7.heap.size by omega) (fun e => by injection e with e; exact HNE.out e.symm)).trans (show w7.drew.heap[g]? = _ from HG7.out))
    have HK8 := hide (show Keeps (Rd2 g b) w w8 from ⟨hgr8.os.trans HK7.out.os, hgr8.tape.trans HK7.out.tape, hgr8.output.trans HK7.out.output, by omega, fun j hj hn => (hgr8.block j (show j < w7.heap.size by omega) (fun e => hn (Or.inr (by injection e)))).trans (HK7.out.block j hj hn)⟩)
    have hS8 : w7.drew.cell? ⟨g, 1, none⟩ = some (.map (some b)) ∧ w7.drew.cell? ⟨w.heap.size, 0, none⟩ = some (I pi) ∧ (Instr.mapUpdate 135 (.map (some b)) (I pi) (.agg #[])).run Tryz.prog w7.drew = .ok () w8 := ⟨by rw [cell_of_row _ _ _ _ _ _ (show w7.drew.heap[g]? = _ from HG7.out)]; rfl, (row3 (w := w7.drew) HR7.out).1, hput⟩
    clear hb7 hset8 hgr8 hput
    go_upto_region 6 with fail
    obtain ⟨eg, e0, hput⟩ := hS8
    go_region
    clear eg e0 hput
    obtain ⟨fs, hu⟩ := underPt
    have HU := hide hu
    have HB9 := hide (fun x y z => below_store3 (Below.refl w.heap.size w8) (Nat.le_refl w.heap.size) x y z)
    have HR9 := hide (fun x y z => store3 x y z HR8.out)
    obtain ⟨e0, e1, e2⟩ := row3 HR8.out
    have f0 : w8.frozen? ⟨w.heap.size, 0, none⟩ = false := frozen_of_row _ _ _ _ _ HR8.out
    have f1 : w8.frozen? ⟨w.heap.size, 1, none⟩ = false := frozen_of_row _ _ _ _ _ HR8.out
    have f2 : w8.frozen? ⟨w.heap.size, 2, none⟩ = false := frozen_of_row _ _ _ _ _ HR8.out
    obtain ⟨rI, hI⟩ : ∃ r, Ward.idOk pi = r := ⟨_, rfl⟩
    obtain ⟨rX, hX⟩ : ∃ r, Ward.coordOk px = r := ⟨_, rfl⟩
    obtain ⟨rY, hY⟩ : ∃ r, Ward.coordOk py = r := ⟨_, rfl⟩
    have HID := hide (fun W => show Calls Tryz.prog 31 #[I pi] W fun e w' => e = .returned (.bool rI) ∧ w' = W by rw [← hI]; exact isID_any pi W)
    have HCX := hide (fun W => show Calls Tryz.prog 32 #[I px] W fun e w' => e = .returned (.bool rX) ∧ w' = W by rw [← hX]; exact isCoord_any px W)
    have HCY := hide (fun W => show Calls Tryz.prog 32 #[I py] W fun e w' => e = .returned (.bool rY) ∧ w' = W by rw [← hY]; exact isCoord_any py W)
    rw [hI, hX, hY, HR.out] at HRD
    clear hI hX hY hu
    go_upto_region 7 with fail
    have hsame : ((((w8.setCell ⟨w.heap.size, 0, none⟩ (I pi)).setCell ⟨w.heap.size, 1, none⟩ (I px)).setCell ⟨w.heap.size, 2, none⟩ (I py))).heap[w.heap.size]? = some (.cells #[I pi, I px, I py] 36 (0, 0)) := HR9.out _ _ _
    have hS9 : (fun W => (W.cell? ⟨w.heap.size, 0, none⟩ = some (I pi) ∧ W.cell? ⟨w.heap.size, 1, none⟩ = some (I px) ∧ W.cell? ⟨w.heap.size, 2, none⟩ = some (I py)) ∧ W.frozen? ⟨w.heap.size, 0, none⟩ = false ∧ W.frozen? ⟨w.heap.size, 1, none⟩ = false ∧ W.frozen? ⟨w.heap.size, 2, none⟩ = false) w8.drew := ⟨⟨e0, e1, e2⟩, f0, f1, f2⟩
    have hS10 : (fun W => (W.cell? ⟨w.heap.size, 0, none⟩ = some (I pi) ∧ W.cell? ⟨w.heap.size, 1, none⟩ = some (I px) ∧ W.cell? ⟨w.heap.size, 2, none⟩ = some (I py)) ∧ W.frozen? ⟨w.heap.size, 0, none⟩ = false ∧ W.frozen? ⟨w.heap.size, 1, none⟩ = false ∧ W.frozen? ⟨w.heap.size, 2, none⟩ = false) (((w8.setCell ⟨w.heap.size, 0, none⟩ (I pi)).setCell ⟨w.heap.size, 1, none⟩ (I px)).setCell ⟨w.heap.size, 2, none⟩ (I py)).drew := ⟨row3 hsame, frozen_of_row _ _ _ _ _ hsame, frozen_of_row _ _ _ _ _ hsame, frozen_of_row _ _ _ _ _ hsame⟩
    clear hsame
    cases rI
    · rw [show (false && !r && rX && rY) = false by simp, if_neg (by decide)] at HRD
      first | go_region_with (go_at_call 31; go_must (refine (HID.out _).mono ?_; rintro _ _ ⟨rfl, rfl⟩)) | fail
      all_goals
        go_wp2_with fail
        refine bodyPost_ret (results_row_tmp (p := 2) (u := 3) (ty := 36) rfl _ _ w.heap.size 36 _ (0, 0) _ rfl (HR9.out _ _ _) HU.out rfl sizePt) rfl ?_
        unfold PointRead
        rw [HRD.out]
        exact ⟨(HK8.out.low (HB9.out _ _ _)).drew, pi, px, py, rfl⟩
    · cases r
      · cases rX
        · rw [show (true && !false && false && rY) = false by simp, if_neg (by decide)] at HRD
          first | go_region_with (first | (go_at_call 31; go_must (refine (HID.out _).mono ?_; rintro _ _ ⟨rfl, rfl⟩)) | (go_at_call_of 32 (I px); go_must (refine (HCX.out _).mono ?_; rintro _ _ ⟨rfl, rfl⟩))) | fail
          all_goals
            go_wp2_with fail
            refine bodyPost_ret (results_row_tmp (p := 2) (u := 3) (ty := 36) rfl _ _ w.heap.size 36 _ (0, 0) _ rfl (HR9.out _ _ _) HU.out rfl sizePt) rfl ?_
            unfold PointRead
            rw [HRD.out]
            exact ⟨(HK8.out.low (HB9.out _ _ _)).drew, pi, px, py, rfl⟩
        · first | go_region_held3 (fun W => (W.cell? ⟨w.heap.size, 0, none⟩ = some (I pi) ∧ W.cell? ⟨w.heap.size, 1, none⟩ = some (I px) ∧ W.cell? ⟨w.heap.size, 2, none⟩ = some (I py)) ∧ W.frozen? ⟨w.heap.size, 0, none⟩ = false ∧ W.frozen? ⟨w.heap.size, 1, none⟩ = false ∧ W.frozen? ⟨w.heap.size, 2, none⟩ = false) (first | exact hS9 | exact hS10) ((first | (go_at_call 31; go_must (refine (HID.out _).mono ?_; rintro _ _ ⟨rfl, rfl⟩)) | (go_at_call_of 32 (I px); go_must (refine (HCX.out _).mono ?_; rintro _ _ ⟨rfl, rfl⟩)) | (go_at_call_of 32 (I py); go_must (refine (HCY.out _).mono ?_; rintro _ _ ⟨rfl, rfl⟩)))) | fail
          all_goals
            go_wp2_with fail
            refine bodyPost_ret (results_row_tmp (p := 2) (u := 3) (ty := 36) rfl _ _ w.heap.size 36 _ (0, 0) _ rfl (HR9.out _ _ _) HU.out rfl sizePt) rfl ?_
            unfold PointRead
            cases rY
            · rw [HRD.out, if_neg (by decide)]
              exact ⟨(HK8.out.low (HB9.out _ _ _)).drew, pi, px, py, rfl⟩
            · rw [HRD.out, if_pos (by decide)]
              exact ⟨(HK8.out.low (HB9.out _ _ _)).drew, rfl, ⟨((HB9.out _ _ _).block g hglt).trans HG8.out, HS8.out.block ((HB9.out _ _ _).block b hblt)⟩⟩
      · rw [show (true && !true && rX && rY) = false by simp, if_neg (by decide)] at HRD
        first | go_region_with (go_at_call 31; go_must (refine (HID.out _).mono ?_; rintro _ _ ⟨rfl, rfl⟩)) | fail
        all_goals
          go_wp2_with fail
          refine bodyPost_ret (results_row_tmp (p := 2) (u := 3) (ty := 36) rfl _ _ w.heap.size 36 _ (0, 0) _ rfl (HR9.out _ _ _) HU.out rfl sizePt) rfl ?_
          unfold PointRead
          rw [HRD.out]
          exact ⟨(HK8.out.low (HB9.out _ _ _)).drew, pi, px, py, rfl⟩
/-- a point read -/
theorem point_any (g b n : Nat) (s : Ward.Sta) (w : World) (H : RdAt w g b n s) (hn : n ≤ 100000) :
    Calls Tryz.prog 123 #[.pointer (some ⟨g, 0, none⟩)] w (PointRead w g b n s) := by
  by_cases hs : s.1.length < 12
  · exact point_short g b n s w H hs
  · obtain ⟨pi, px, py, h0, h1, h2, hrd⟩ := rdPt_long s (by omega)
    have ht : (s.1.take 12).length = 12 := by rw [List.length_take]; omega
    have key : ∀ (k : Nat), k < 3 → ∀ W, Calls Tryz.prog 157 #[Sv (s.1.take 12), I k] W fun e w' => e = .returned (I (Ward.numAt s.1 k)) ∧ Below W.heap.size W w' := fun k hk W => by
      have h := numberOf_any (s.1.take 12) k W (by omega) (by omega)
      rw [numAt_take (by omega) (by omega)] at h
      exact h
    exact point_walk g b n s pi px py _ w H (by omega) rfl hn (by rw [h0]; exact numAt_range _ _) (by rw [h0]; exact key 0 (by omega)) (by rw [h1]; exact key 1 (by omega)) (by rw [h2]; exact key 2 (by omega)) hrd
end Go.Proofs.YtenaelkbgkpllaaGreatDoor
/- The points of a leaf, read. -/
namespace Go.Proofs.YtenaelkbgkpllaaGreatDoor
open Go.RowKit

/-- what reading the points of a leaf leaves -/
def PointsRead (w : World) (g b n k : Nat) (s : Ward.Sta) (e : Ending) (w' : World) : Prop := Keeps (Rd2 g b) w w' ∧
  match Ward.rdMany Ward.rdPt k s with
  | none => e = .returned (.tuple #[.slice none 0 0, .bool false])
  | some (l, s') => ∃ v, e = .returned (.tuple #[v, .bool true]) ∧ Own w' w.heap.size v l ∧ RdAt w' g b (n + k) s'
theorem RdAt.grown {w w' : World} {g b n : Nat} {s : Ward.Sta} {r : Option Nat} (h : RdAt w g b n s) (hg : w.grownBy w' r) (h1 : some g ≠ r) (h2 : some b ≠ r) : RdAt w' g b n s := ⟨(hg.block g h.lt h1).trans h.row, h.set.block (hg.block b h.set.lt h2)⟩
theorem Keeps.grownR {w w' w'' : World} {S : Nat → Prop} {r : Option Nat} (h : Keeps S w w') (hg : w'.grownBy w'' r) (hr : ∀ j, j < w.heap.size → some j ≠ r) : Keeps S w w'' := ⟨hg.os.trans h.os, hg.tape.trans h.tape, hg.output.trans h.output, Nat.le_trans h.size hg.size, fun j hj hn => (hg.block j (Nat.lt_of_lt_of_le hj h.size) (hr j hj)).trans (h.block j hj hn)⟩
set_option maxRecDepth 100000 in
set_option maxHeartbeats 4000000 in
theorem several_points (g b n k : Nat) (s : Ward.Sta) (w : World) (H : RdAt w g b n s) (hk : k ≤ 4) (hn : n ≤ 90000) :
    Calls Tryz.prog 122 #[I k, .func (.func 123) #[.pointer (some ⟨g, 0, none⟩)] #[]] w (PointsRead w g b n k s) := by
  have hglt := H.lt
  have hblt := H.set.lt
  have HH := hide H
  clear H
  go_enter Tryz.func122, Tryz.ntmps122
  go_wp2_with fail
  go_loopg [6, 10] k (fun gk v6 v10 wq => ∃ (i : Nat) (l : List Ward.Pt) (si : Ward.Sta), gk = k - i ∧ v10 = I i ∧ Ward.Half Ward.rdPt k s i l si ∧ Own wq w.heap.size v6 l ∧ RdAt wq g b (n + i) si ∧ Keeps (Rd2 g b) w wq)
  case atStart => exact ⟨0, [], s, rfl, rfl, Ward.half_start _ _ _, World.ownsRow_nil _ _ _ _, HH.out, Keeps.refl _ _⟩
  case round =>
    obtain ⟨i, l, si, hgk, rfl, hhf, ho, hrd, hkp⟩ := hrel
    have HGK := hide hgk
    have HHF := hide hhf
    have HO := hide ho
    have HRD := hide hrd
    have HKP := hide hkp
    have hik : i ≤ k := hhf.2.1
    have hsz := hkp.size
    have hl5 : l.length ≤ 5 := by rw [hhf.1]; omega
    have HOB := hide (fun j (hj : u6.ownBlock = some j) => And.intro (ho.ge hj) (ho.lt hj))
    have HPA := hide (point_any g b (n + i) si wr hrd (by omega))
    clear hgk hhf ho hrd hkp
    by_cases hlt : i < k
    · go_wp2_with fail
      refine HPA.out.mono ?_
      rintro e w2 ⟨hk2, hm2⟩
      have hs2 := hk2.size
      cases hr : Ward.rdPt si with
      | none =>
        rw [hr] at hm2
        obtain ⟨x, y, z, rfl⟩ := hm2
        have HE := hide (Ward.half_none HHF.out hlt hr)
        have HK2 := hide (show Keeps (Rd2 g b) w w2 from HKP.out.trans hk2 (fun _ _ h => h))
        have hb3' := fun o => HK2.out.low ((Below.refl w2.heap.size w2).alloc (Nat.le_refl _) o |>.mono HK2.out.size)
        clear hk2 hr
        go_wp2_with fail
        go_ret2
        refine ⟨hb3' _, ?_⟩
        rw [HE.out]; rfl
      | some ps =>
        obtain ⟨p, sj⟩ := ps
        rw [hr] at hm2
        obtain ⟨rfl, hrd2⟩ := hm2
        have HST := hide (Ward.half_step HHF.out hlt hr)
        have HRD2 := hide hrd2
        have HK2 := hide (show Keeps (Rd2 g b) w w2 from HKP.out.trans hk2 (fun _ _ h => h))
        have HO2 := hide (HO.out.keeps hk2 (fun j hj hn => by
          have := (HOB.out j hj).1
          rcases hn with rfl | rfl <;> omega))
        clear hk2 hr hrd2
        have hb3' := fun o => (Below.refl w2.heap.size w2).alloc (Nat.le_refl _) o
        have hr3' := heap_alloc_new w2
        go_upto_region 7 with fail
        generalize hW : World.alloc w2 _ = w3
        have hb3 : Below w2.heap.size w2 w3 := by rw [← hW]; exact hb3' _
        have hr3 : w3.heap[w2.heap.size]? = some (.cells #[I p.id, I p.x, I p.y] 36 (0, 0)) := by rw [← hW]; exact hr3' _
        clear hb3' hr3' hW
        have hs3 := hb3.size
        obtain ⟨e0, e1, e2⟩ := row3 hr3
        have HO3 := hide (HO2.out.below hb3)
        have HRD3 := hide (HRD2.out.below hb3)
        have HK3 := hide (HK2.out.low (hb3.mono (by omega)))
        obtain ⟨v4, w4, h4, ho4, hg4, hf4⟩ := append_pt p HO3.out (by omega) (by omega)
        have HO4 := hide ho4
        have HRD4 := hide (HRD3.out.grown hg4 (fun e => by have := (HOB.out _ e.symm).1; omega) (fun e => by have := (HOB.out _ e.symm).1; omega))
        have HK4 := hide (HK3.out.grownR hg4 (fun j hj e => by have := (HOB.out _ e.symm).1; omega))
        clear hb3 hr3 ho4 hg4 hf4
        go_wp2_with (at_builtin; refine Lib.wpList_append_run _ rfl (.tmp 19) (.tmp 21) 27 27 rfl _ _ rfl rfl _ _ h4 ?_)
        go_roundg (k - (i + 1))
        case measure => have := HGK.out; omega
        case rel =>
          refine ⟨i + 1, l ++ [p], sj, rfl, by go_num, HST.out, HO4.out, ?_, HK4.out⟩
          have h := HRD4.out
          rw [show n + i + 1 = n + (i + 1) by omega] at h
          exact h
    · have ei : i = k := by omega
      subst ei
      have HE := hide (Ward.half_end HHF.out)
      go_wp2_with fail
      go_ret2
      refine ⟨HKP.out, ?_⟩
      rw [HE.out]
      exact ⟨_, rfl, HO.out, HRD.out⟩
end Go.Proofs.YtenaelkbgkpllaaGreatDoor
/- The children of a node, read. -/
namespace Go.Proofs.YtenaelkbgkpllaaGreatDoor
open Go.RowKit

/-- where nodes that were read lie: from a block on, but not where their row lies -/
def SK (w : World) (B : Nat) (v : Value) (j : Nat) : Prop := B ≤ j ∧ j < w.heap.size ∧ some j ≠ v.ownBlock
/-- nodes in a row of one's own -/
def KidsAt (w : World) (B : Nat) (v : Value) (n : Nat) (K : List (Ward.NT n)) : Prop :=
  ∃ VS : List (List Value), VS.length = K.length ∧ w.ownsRow B 90 39 v K.length VS.flatten ∧ (∀ U ∈ VS, U.length = 39) ∧ ∀ j (h : j < K.length) (h' : j < VS.length), NodeIs w (SK w B v) n K[j] VS[j]
theorem kidsAt_nil (w : World) (B n : Nat) : KidsAt w B (.slice none 0 0) n [] := ⟨[], rfl, World.ownsRow_nil _ _ _ _, fun U h => by simp at h, fun j h => by simp at h⟩
theorem ownsRow_keeps {w w' : World} {S : Nat → Prop} {B e size n : Nat} {v : Value} {xs : List Value} (h : w.ownsRow B e size v n xs) (hk : Keeps S w w') (hS : ∀ j, B ≤ j → ¬ S j) : w'.ownsRow B e size v n xs := by
  refine ⟨h.1, ?_⟩
  rcases h.2 with h0 | ⟨g, cap, cur, rfl, hB, hg, r⟩
  · exact .inl h0
  · exact .inr ⟨g, cap, cur, rfl, hB, (hk.block g (Array.getElem?_eq_some_iff.1 hg).1 (hS g hB)).trans hg, r⟩
theorem KidsAt.keeps {w w' : World} {S : Nat → Prop} {B n : Nat} {v : Value} {K : List (Ward.NT n)} (h : KidsAt w B v n K) (hk : Keeps S w w') (hS : ∀ j, B ≤ j → ¬ S j) : KidsAt w' B v n K := by
  obtain ⟨VS, h1, h2, h3, h4⟩ := h
  exact ⟨VS, h1, ownsRow_keeps h2 hk hS, h3, fun j hj hj' => NodeIs.keep (fun g hg => hk.block g hg.2.1 (hS g hg.1)) (fun g hg => ⟨hg.1, Nat.lt_of_lt_of_le hg.2.1 hk.size, hg.2.2⟩) n _ _ (h4 j hj hj')⟩
theorem KidsAt.below {w w' : World} {B n : Nat} {v : Value} {K : List (Ward.NT n)} (h : KidsAt w B v n K) (hb : Below w.heap.size w w') : KidsAt w' B v n K := h.keeps (S := fun _ => False) (Keeps.of_below hb) (fun _ _ h => h)
theorem KidsAt.own {w : World} {B n : Nat} {v : Value} {K : List (Ward.NT n)} (h : KidsAt w B v n K) : ∀ j, v.ownBlock = some j → B ≤ j ∧ j < w.heap.size := by
  obtain ⟨VS, h1, h2, h3, h4⟩ := h
  exact fun j hj => h2.lt j hj
theorem KidsAt.slice {w : World} {B n : Nat} {v : Value} {K : List (Ward.NT n)} (h : KidsAt w B v n K) : ∃ a c, v = .slice a K.length c := by
  obtain ⟨VS, h1, h2, h3, h4⟩ := h
  rcases h2.2 with ⟨rfl, h0⟩ | ⟨g, cap, cur, rfl, _⟩
  · exact ⟨none, 0, by rw [h0]⟩
  · exact ⟨_, cap, rfl⟩
/-- a node put behind them -/
theorem KidsAt.push {w : World} {B n : Nat} {v : Value} {K : List (Ward.NT n)} (h : KidsAt w B v n K) (c : Ward.NT n) (M : List Value) (hc : NodeIs w (SK w B v) n c M) (hM : Row39 M) (hB : B ≤ w.heap.size) (hn : K.length ≤ 1000) :
    ∃ v' w', (Builtin.append_ #[86, 86] 86 #[v, .slice (some ⟨w.heap.size, 0, none⟩) 1 1]).run Tryz.prog (w.alloc (.cells M.toArray 90)) = .ok v' w' ∧ KidsAt w' B v' n (K ++ [c]) ∧ w.grownBy w' v.ownBlock := by
  obtain ⟨VS, h1, h2, h3, h4⟩ := h
  obtain ⟨v', w', hr, ho, hg, hf⟩ := append_node M hM h2 hB hn
  refine ⟨v', w', hr, ⟨VS ++ [M], by rw [List.length_append, List.length_append, h1]; rfl, by rw [List.length_append, List.flatten_append]; simpa using ho, fun U hU => ?_, fun j hj hj' => ?_⟩, hg⟩
  · rcases List.mem_append.1 hU with hU | hU
    · exact h3 U hU
    · rw [List.mem_singleton.1 hU]; exact hM.len
  · have hsame : Same (SK w B v) w w' := fun g hg' => hg.block g hg'.2.1 hg'.2.2
    have hsub : ∀ g, SK w B v g → SK w' B v' g := fun g hg' => ⟨hg'.1, Nat.lt_of_lt_of_le hg'.2.1 hg.size, fun e => by
      rcases hf with hf | ⟨k, hf, hk⟩
      · rw [hf] at e; exact hg'.2.2 e
      · rw [hf] at e
        injection e with e
        have := hg'.2.1
        omega⟩
    by_cases hlt : j < K.length
    · have := NodeIs.keep hsame hsub n _ _ (h4 j hlt (by omega))
      rw [List.getElem_append_left hlt, List.getElem_append_left (by omega)]
      exact this
    · have hje : j = K.length := by rw [List.length_append] at hj; simp at hj; omega
      have := NodeIs.keep hsame hsub n c M hc
      subst hje
      rw [List.getElem_append_right (Nat.le_refl _), List.getElem_append_right (by omega)]
      simp only [h1, Nat.sub_self, List.getElem_cons_zero]
      exact this
/-- they are read as a node's children are -/
theorem KidsAt.rows {w : World} {B n : Nat} {v : Value} {K : List (Ward.NT n)} (h : KidsAt w B v n K) : RowsAt (NodeIs w (fun g => B ≤ g ∧ g < w.heap.size) n) w (fun g => B ≤ g ∧ g < w.heap.size) v K := by
  obtain ⟨VS, h1, h2, h3, h4⟩ := h
  have h2' := h2
  rcases h2.2 with ⟨rfl, h0⟩ | ⟨g, cap, cur, rfl, hB, hg, hcap, hmax, hcs, htake⟩
  · exact ⟨none, 0, by rw [h0], fun e => absurd (List.length_eq_zero_iff.1 h0) e⟩
  · refine ⟨some ⟨g, 0, none⟩, cap, rfl, fun _ => ⟨g, 0, rfl, ⟨hB, (Array.getElem?_eq_some_iff.1 hg).1⟩, fun j hj => ⟨VS[j]'(by omega), NodeIs.keep (fun _ _ => rfl) (fun g hg => ⟨hg.1, hg.2.1⟩) n _ _ (h4 j hj (by omega)), fun i u hu => ?_⟩⟩⟩
    have hi : i < 39 := by rw [← h3 _ (List.getElem_mem (show j < VS.length by omega))]; exact (List.getElem?_eq_some_iff.1 hu).1
    have h := h2'.cells (g := g) rfl (j * 39 + i) u (by
      rw [flat_get _ j i h3 hi, List.getElem?_eq_getElem (show j < VS.length by omega)]
      exact hu)
    rw [Addr.add_lit] at h
    rw [Nat.zero_add] at h ⊢
    exact h
/-- the cells are those of some node -/
def Shape (V : List Value) : Prop := ∃ (a : Option Addr) (l c : Nat) (a' : Option Addr) (l' c' : Nat) (bx : Ward.Box) (n : Int) (D : List UInt8), D.length = 32 ∧ V = nodeV (.slice a l c) (.slice a' l' c') bx n (D.map Y)
theorem Shape.row {V : List Value} (h : Shape V) : Row39 V := by
  obtain ⟨a, l, c, a', l', c', bx, n, D, hD, rfl⟩ := h
  exact nodeV_row hD
theorem NodeIs.shape {w : World} {S : Nat → Prop} {n : Nat} {t : Ward.NT n} {V : List Value} (h : NodeIs w S n t V) : Shape V := by
  obtain ⟨a1, l1, c1, a2, l2, c2, hV, hd⟩ := h.cells
  exact ⟨a1, l1, c1, a2, l2, c2, _, _, _, hd, hV⟩
/-- what reading one leaves -/
def OneRead {d : Nat} (rd : Ward.Sta → Option (Ward.NT (d + 1) × Ward.Sta)) (m : Nat) (w : World) (g b n : Nat) (s : Ward.Sta) (e : Ending) (w' : World) : Prop := Keeps (Rd2 g b) w w' ∧
  match rd s with
  | none => ∃ V : List Value, Shape V ∧ e = .returned (.tuple #[.agg V.toArray, .bool false])
  | some (t, s') => ∃ (V : List Value) (n' : Nat), e = .returned (.tuple #[.agg V.toArray, .bool true]) ∧ NodeIs w' (fun j => w.heap.size ≤ j ∧ j < w'.heap.size) (d + 1) t V ∧ n' ≤ n + m ∧ RdAt w' g b n' s'
/-- what reading the children leaves -/
def KidsRead {d : Nat} (rd : Ward.Sta → Option (Ward.NT (d + 1) × Ward.Sta)) (m : Nat) (w : World) (g b n k : Nat) (s : Ward.Sta) (e : Ending) (w' : World) : Prop := Keeps (Rd2 g b) w w' ∧
  match Ward.rdMany rd k s with
  | none => e = .returned (.tuple #[.slice none 0 0, .bool false])
  | some (l, s') => ∃ (v : Value) (n' : Nat), e = .returned (.tuple #[v, .bool true]) ∧ KidsAt w' w.heap.size v (d + 1) l ∧ n' ≤ n + k * m ∧ RdAt w' g b n' s'
set_option maxRecDepth 100000 in
set_option maxHeartbeats 4000000 in
theorem several_nodes {d : Nat} (rd : Ward.Sta → Option (Ward.NT (d + 1) × Ward.Sta)) (m N kr kd g b n k : Nat) (s : Ward.Sta) (w : World) (H : RdAt w g b n s) (hk : k ≤ 4) (hn : n + 4 * m ≤ N)
    (HC : ∀ W n s, Keeps (Rd2 g b) w W → RdAt W g b n s → n + m ≤ N → Calls Tryz.prog 125 #[.pointer (some ⟨kr, 0, none⟩), .pointer (some ⟨kd, 0, none⟩)] W (OneRead rd m W g b n s)) :
    Calls Tryz.prog 124 #[I k, .func (.func 125) #[] #[.pointer (some ⟨kr, 0, none⟩), .pointer (some ⟨kd, 0, none⟩)]] w (KidsRead rd m w g b n k s) := by
  have hglt := H.lt
  have hblt := H.set.lt
  have HH := hide H
  have HCC := hide HC
  obtain ⟨fs, hu⟩ := underNode
  have HU := hide hu
  clear H HC hu
  go_enter Tryz.func124, Tryz.ntmps124
  go_wp2_with fail
  go_loopg [6, 10] k (fun gk v6 v10 wq => ∃ (i : Nat) (l : List (Ward.NT (d + 1))) (si : Ward.Sta) (ni : Nat), gk = k - i ∧ v10 = I i ∧ Ward.Half rd k s i l si ∧ KidsAt wq w.heap.size v6 (d + 1) l ∧ ni ≤ n + i * m ∧ RdAt wq g b ni si ∧ Keeps (Rd2 g b) w wq)
  case atStart => exact ⟨0, [], s, n, rfl, rfl, Ward.half_start _ _ _, kidsAt_nil _ _ _, by omega, HH.out, Keeps.refl _ _⟩
  case round =>
    obtain ⟨i, l, si, ni, hgk, rfl, hhf, ho, hni, hrd, hkp⟩ := hrel
    have HGK := hide hgk
    have HHF := hide hhf
    have HO := hide ho
    have HRD := hide hrd
    have HKP := hide hkp
    have hik : i ≤ k := hhf.2.1
    have hsz := hkp.size
    have hl5 : l.length ≤ 5 := by rw [hhf.1]; omega
    have HOB := hide ho.own
    have HNI := hide hni
    by_cases hlt : i < k
    · have HNB := hide (show ni + m ≤ N by
        have h1 : (i + 1) * m ≤ 4 * m := Nat.mul_le_mul_right _ (by omega)
        rw [Nat.succ_mul] at h1
        omega)
      have HPA := hide (HCC.out wr ni si hkp hrd HNB.out)
      clear hgk hhf ho hrd hkp hni
      go_wp2_with fail
      refine HPA.out.mono ?_
      rintro e w2 ⟨hk2, hm2⟩
      have hs2 := hk2.size
      cases hr : rd si with
      | none =>
        rw [hr] at hm2
        obtain ⟨V, hV, rfl⟩ := hm2
        have HV := hide hV.row
        have HE := hide (Ward.half_none HHF.out hlt hr)
        have HK2 := hide (show Keeps (Rd2 g b) w w2 from HKP.out.trans hk2 (fun _ _ h => h))
        have hb3' := fun o => HK2.out.low ((Below.refl w2.heap.size w2).alloc (Nat.le_refl _) o |>.mono HK2.out.size)
        clear hk2 hr hV
        go_wp2_with (refine wpList_store_row rfl 90 (.tmp 7) (.tmp 15) rfl w2.heap.size V.toArray rfl rfl 90 _ (heap_alloc_new w2 _) HV.out.info (by rw [HV.out.size]; rfl) HV.out.one ?_; rw [World.setRow_alloc_new])
        go_ret2
        refine ⟨hb3' _, ?_⟩
        rw [HE.out]; rfl
      | some ps =>
        obtain ⟨c, sj⟩ := ps
        rw [hr] at hm2
        obtain ⟨V, nj, rfl, hc2, hnj, hrd2⟩ := hm2
        obtain ⟨a1, l1, c1, a2, l2, c2, hVe, hd⟩ := hc2.cells
        have HV := hide (show Row39 V by rw [hVe]; exact nodeV_row hd)
        have HST := hide (Ward.half_step HHF.out hlt hr)
        have HRD2 := hide hrd2
        have HNJ := hide (show nj ≤ n + (i + 1) * m by rw [Nat.succ_mul]; have := HNI.out; omega)
        have HK2 := hide (show Keeps (Rd2 g b) w w2 from HKP.out.trans hk2 (fun _ _ h => h))
        have HO2 := hide (HO.out.keeps hk2 (fun j hj hn => by rcases hn with rfl | rfl <;> omega))
        have HC2 := hide (show NodeIs w2 (SK w2 w.heap.size u6) (d + 1) c V from NodeIs.keep (fun _ _ => rfl) (fun j hj => ⟨by omega, hj.2, fun e => by have := (HOB.out j e.symm).2; have := hj.1; omega⟩) (d + 1) c V hc2)
        clear hk2 hr hrd2 hVe hd hc2 hnj
        have hb3' := fun o => (Below.refl w2.heap.size w2).alloc (Nat.le_refl _) o
        have hr3' := heap_alloc_new w2
        go_upto_region 7 with (refine wpList_store_row rfl 90 (.tmp 7) (.tmp 15) rfl w2.heap.size V.toArray rfl rfl 90 _ (heap_alloc_new w2 _) HV.out.info (by rw [HV.out.size]; rfl) HV.out.one ?_; rw [World.setRow_alloc_new])
        generalize hW : World.alloc w2 _ = w3
        have hb3 : Below w2.heap.size w2 w3 := by rw [← hW]; exact hb3' _
        have hr3 : w3.heap[w2.heap.size]? = some (.cells V.toArray 90 (0, 0)) := by rw [← hW]; exact hr3' _
        clear hb3' hr3' hW
        have hs3 := hb3.size
        have HR3 := hide hr3
        have HO3 := hide (HO2.out.below hb3)
        have HRD3 := hide (HRD2.out.below hb3)
        have HK3 := hide (HK2.out.low (hb3.mono (by omega)))
        have HC3 := hide (show NodeIs w3 (SK w3 w.heap.size u6) (d + 1) c V from NodeIs.keep (fun j hj => hb3.block j hj.2.1) (fun j hj => ⟨hj.1, by have := hj.2.1; omega, hj.2.2⟩) (d + 1) c V HC2.out)
        obtain ⟨v4, w4, h4, ho4, hg4⟩ := HO3.out.push c V HC3.out HV.out (by omega) (by omega)
        have HO4 := hide ho4
        have HRD4 := hide (HRD3.out.grown hg4 (fun e => by have := (HOB.out _ e.symm).1; omega) (fun e => by have := (HOB.out _ e.symm).1; omega))
        have HK4 := hide (HK3.out.grownR hg4 (fun j hj e => by have := (HOB.out _ e.symm).1; omega))
        clear hb3 hr3 ho4 hg4
        obtain ⟨i0, hi0, hz0, hz1, hz2⟩ := info_parts Tryz.infoNodeZ
        have HZ1 := hide hz1
        have HF := hide (fun (cells : Array Value) (hc : cells.size = i0.size) => fill_one (s := i0.size) (by rw [HZ1.out]; decide) V.toArray cells (by rw [HZ1.out, HV.out.size]) hc)
        obtain ⟨a3, c3, e3⟩ := HO.out.slice
        subst e3
        clear hz1 hz2
        go_wp2_with (first | (refine wpList_load_row rfl 90 (.tmp 7) rfl w2.heap.size rfl 90 V.toArray (0, 0) (.struct fs) HR3.out HU.out rfl HV.out.info ?_) | (refine wpList_buildSlice rfl 86 90 1 #[(0, .tmp 20)] rfl V.toArray i0 zeroNode Tryz.underlying86 hi0 hz0 (by rw [HZ1.out]; decide) (by rw [HZ1.out]; decide) (by rw [Array.toList_map]; exact HF.out _ (by simp)) ?_) | (at_builtin; refine Lib.wpList_append_run _ rfl (.tmp 19) (.tmp 21) 86 86 rfl _ _ rfl rfl _ _ h4 ?_))
        go_roundg (k - (i + 1))
        case measure => have := HGK.out; omega
        case rel => exact ⟨i + 1, l ++ [c], sj, nj, rfl, by go_num, HST.out, HO4.out, HNJ.out, HRD4.out, HK4.out⟩
    · have ei : i = k := by omega
      subst ei
      have HE := hide (Ward.half_end HHF.out)
      clear hgk hhf ho hrd hkp hni
      go_wp2_with fail
      go_ret2
      refine ⟨HKP.out, ?_⟩
      rw [HE.out]
      exact ⟨_, ni, rfl, HO.out, HNI.out, HRD.out⟩
end Go.Proofs.YtenaelkbgkpllaaGreatDoor
/- The closure of node: a child, read. -/
namespace Go.Proofs.YtenaelkbgkpllaaGreatDoor
open Go.RowKit

theorem OneRead.shape {d : Nat} {rd : Ward.Sta → Option (Ward.NT (d + 1) × Ward.Sta)} {m : Nat} {w : World} {g b n : Nat} {s : Ward.Sta} {e : Ending} {w' : World} (h : OneRead rd m w g b n s e w') : ∃ (V : List Value) (ok : Bool), Shape V ∧ e = .returned (.tuple #[.agg V.toArray, .bool ok]) := by
  obtain ⟨-, h⟩ := h
  cases hr : rd s with
  | none =>
    rw [hr] at h
    obtain ⟨V, hV, e⟩ := h
    exact ⟨V, false, hV, e⟩
  | some ps =>
    obtain ⟨t, s'⟩ := ps
    rw [hr] at h
    obtain ⟨V, n', e, hN, -⟩ := h
    exact ⟨V, true, hN.shape, e⟩
/-- with a row of one's own around it -/
theorem OneRead.lift {d : Nat} {rd : Ward.Sta → Option (Ward.NT (d + 1) × Ward.Sta)} {m : Nat} {w w1 w2 w3 : World} {g b n : Nat} {s : Ward.Sta} {e : Ending} (h : OneRead rd m w1 g b n s e w2) (hg : g < w.heap.size) (hb : b < w.heap.size) (hb1 : Below w.heap.size w w1) (hs1 : w.heap.size < w1.heap.size) (hk : Keeps (fun j => j = w.heap.size) w2 w3) : OneRead rd m w g b n s e w3 := by
  obtain ⟨h0, h⟩ := h
  have hs2 := h0.size
  have hs3 := hk.size
  refine ⟨⟨hk.os.trans (h0.os.trans hb1.os), hk.tape.trans (h0.tape.trans hb1.tape), hk.output.trans (h0.output.trans hb1.output), by omega, fun j hj hn => (hk.block j (by omega) (by omega)).trans ((h0.block j (by omega) hn).trans (hb1.block j hj))⟩, ?_⟩
  cases hr : rd s with
  | none =>
    rw [hr] at h
    exact h
  | some ps =>
    obtain ⟨t, s'⟩ := ps
    rw [hr] at h
    obtain ⟨V, n', e, hN, hn', hR⟩ := h
    exact ⟨V, n', e, NodeIs.keep (fun j hj => hk.block j hj.2 (by have := hj.1; omega)) (fun j hj => ⟨by omega, by omega⟩) _ _ _ hN, hn', ⟨(hk.block g (by omega) (by omega)).trans hR.row, hR.set.block (hk.block b (by omega) (by omega))⟩⟩
theorem keeps_setRow (w : World) (g : Nat) (cs : Array Value) : Keeps (fun j => j = g) w (w.setRow g cs) := ⟨rfl, rfl, rfl, by simp, fun j _ hn => setRow_other w g j cs hn⟩
set_option maxRecDepth 100000 in
set_option maxHeartbeats 4000000 in
theorem node1_any {d : Nat} (rd : Ward.Sta → Option (Ward.NT (d + 1) × Ward.Sta)) (m kr kd g b n deep : Nat) (s : Ward.Sta) (w : World) (H : RdAt w g b n s) (t1 t2 : Nat) (hkr : w.heap[kr]? = some (.cells #[.pointer (some ⟨g, 0, none⟩)] t1 (0, 0))) (hkd : w.heap[kd]? = some (.cells #[I deep] t2 (0, 0)))
    (HC : ∀ W, RdAt W g b n s → Calls Tryz.prog 126 #[.pointer (some ⟨g, 0, none⟩), I deep] W (OneRead rd m W g b n s)) :
    Calls Tryz.prog 125 #[.pointer (some ⟨kr, 0, none⟩), .pointer (some ⟨kd, 0, none⟩)] w (OneRead rd m w g b n s) := by
  have hglt := H.lt
  have hblt := H.set.lt
  have HCC := hide HC
  have HH := hide H
  obtain ⟨fs, hu⟩ := underNode
  have HU := hide hu
  have hb1' := fun o => (Below.refl w.heap.size w).alloc (Nat.le_refl _) o
  have hr1' := heap_alloc_new w
  have hkr0 := (Array.getElem?_eq_some_iff.1 hkr).1
  have hkd0 := (Array.getElem?_eq_some_iff.1 hkd).1
  clear H HC hu
  go_enter Tryz.func125, Tryz.ntmps125
  go_upto_region 1 with fail
  generalize hW : World.alloc w _ = w1
  have hb1 : Below w.heap.size w w1 := by rw [← hW]; exact hb1' _
  have hr1 : ∃ Z : Array Value, Z.size = 39 ∧ w1.heap[w.heap.size]? = some (.cells Z 90 (0, 0)) := by rw [← hW]; exact ⟨_, rfl, hr1' _⟩
  clear hb1' hr1' hW
  obtain ⟨Z, hZ, hr1⟩ := hr1
  have hs1 : w.heap.size < w1.heap.size := (Array.getElem?_eq_some_iff.1 hr1).1
  have c0 : w1.cell? ⟨kr, 0, none⟩ = some (.pointer (some ⟨g, 0, none⟩)) := by rw [cell_of_row _ _ _ _ _ _ ((hb1.block kr hkr0).trans hkr)]; rfl
  have c1 : w1.cell? ⟨kd, 0, none⟩ = some (I deep) := by rw [cell_of_row _ _ _ _ _ _ ((hb1.block kd hkd0).trans hkd)]; rfl
  have HB1 := hide hb1
  have HZ := hide hZ
  have HR1 := hide hr1
  have HX := hide (HCC.out w1 (HH.out.below hb1))
  clear hb1 hr1 hZ hkr hkd hkr0 hkd0
  go_wp2_with fail
  refine HX.out.mono ?_
  rintro e w2 h2
  obtain ⟨V, ok, hV, rfl⟩ := h2.shape
  have HV := hide hV.row
  have HZ2 := hide ((h2.1.block w.heap.size hs1 (fun e => by rcases e with e | e <;> omega)).trans HR1.out)
  have HL := hide (fun w3 => OneRead.lift (w3 := w3) h2 hglt hblt HB1.out hs1)
  clear h2 hV
  go_wp2_with (refine wpList_store_row rfl 90 (.tmp 2) (.tmp 7) rfl w.heap.size V.toArray rfl rfl 90 _ HZ2.out HV.out.info (by rw [HV.out.size, HZ.out]) HV.out.one ?_)
  refine bodyPost_ret (results_row_tmp (p := 2) (u := 3) (ty := 90) rfl _ _ w.heap.size 90 V.toArray (0, 0) (.struct fs) rfl (setRow_heap _ _ _ _ _ _ HZ2.out) HU.out rfl HV.out.info) rfl ?_
  exact HL.out _ (keeps_setRow _ _ _)
end Go.Proofs.YtenaelkbgkpllaaGreatDoor
/- A child, read. -/
namespace Go.Proofs.YtenaelkbgkpllaaGreatDoor
open Go.RowKit

/-- a node of nothing, as it lies -/
def zeroV : List Value := nodeV (.slice none 0 0) (.slice none 0 0) ⟨0, 0, 0, 0⟩ 0 ((List.replicate 32 (0 : UInt8)).map Y)
theorem zeroV_shape : Shape zeroV := ⟨none, 0, 0, none, 0, 0, _, _, _, by simp, rfl⟩
theorem zeroV_row : Row39 zeroV := zeroV_shape.row
theorem zeroV_lit : zeroV.toArray = (nodeV (.slice none 0 0) (.slice none 0 0) ⟨0, 0, 0, 0⟩ 0 zero32).toArray := rfl
set_option maxRecDepth 100000 in
set_option maxHeartbeats 4000000 in
theorem child_short {d : Nat} (rdB : Ward.Sta → Option (Ward.NT (d + 1) × Ward.Sta)) (m g b n deep : Nat) (s : Ward.Sta) (w : World) (H : RdAt w g b n s) (hs : s.1.length < 53) :
    Calls Tryz.prog 126 #[.pointer (some ⟨g, 0, none⟩), I deep] w (OneRead (Ward.rdKid d rdB) m w g b n s) := by
  have HE := hide (show Ward.rdKid d rdB s = none by unfold Ward.rdKid; rw [if_pos hs])
  have hb1' := fun o => (Below.refl w.heap.size w).alloc (Nat.le_refl _) o
  have hr1' := heap_alloc_new w
  have HH := hide H
  obtain ⟨fs, hu⟩ := underNode
  have HU := hide hu
  clear H hu
  go_enter Tryz.func126, Tryz.ntmps126
  go_upto_region 1 with fail
  generalize hW : World.alloc w _ = w1
  have hb1 : Below w.heap.size w w1 := by rw [← hW]; exact hb1' _
  have hr1 : w1.heap[w.heap.size]? = some (.cells zeroV.toArray 90 (0, 0)) := by rw [← hW]; exact hr1' _
  clear hb1' hr1' hW
  have HT := hide (take_few g 53 s.1 _ w1 (HH.out.below hb1).row hs)
  have HB1 := hide hb1
  have HR1 := hide hr1
  clear hb1 hr1
  go_wp2_with fail
  refine HT.out.mono ?_
  rintro _ w0 ⟨rfl, hw0⟩
  rw [hw0]
  clear hw0
  go_wp2_with (refine wpList_store_row rfl 90 (.tmp 4) (.tmp 16) rfl w.heap.size zeroV.toArray rfl rfl 90 _ HR1.out zeroV_row.info rfl zeroV_row.one ?_)
  refine bodyPost_ret (results_row_tmp (p := 4) (u := 5) (ty := 90) rfl _ _ w.heap.size 90 zeroV.toArray (0, 0) (.struct fs) rfl (setRow_heap _ _ _ _ _ _ HR1.out) HU.out rfl zeroV_row.info) rfl ?_
  unfold OneRead
  rw [HE.out]
  exact ⟨Keeps.of_below (below_setRow HB1.out (Nat.le_refl _) _), zeroV, zeroV_shape, rfl⟩
end Go.Proofs.YtenaelkbgkpllaaGreatDoor
