/- Nodes cut into groups of four. -/
import Derived.Test.YtenaelkbgkpllaaGreatDoorTE
namespace Go.Proofs.YtenaelkbgkpllaaGreatDoor
open Go.RowKit

theorem Tryz.infoNodes : (Tryz.prog.info? 86).map (fun i => (i.zero, i.size, i.bytes)) = some (some (.slice none 0 0), 1, 24) := by kernel_rfl
set_option maxRecDepth 100000 in
set_option maxHeartbeats 1000000 in
theorem foursNode_any (g o n c : Nat) (w : World) (hn : n ≤ 1000) (hc : n ≤ c) (hcm : c ≤ maxLen) :
    Calls Tryz.prog 112 #[.slice (some ⟨g, o, none⟩) n c] w fun e w' => ∃ v', e = .returned v' ∧ w'.ownsRow w.heap.size 86 1 v' ((n + 3) / 4) (groupsV 39 g o n ((n + 3) / 4)) ∧ Below w.heap.size w w' := by
  obtain ⟨i0, hi0, hz0, hz1, hz2⟩ := info_parts Tryz.infoNodes
  unfold maxLen at hcm
  go_enter Tryz.func112, Tryz.ntmps112
  go_wp2_with fail
  go_loopg [3, 4] ((n + 3) / 4) (fun gk v3 v4 wq => ∃ i : Nat, gk = (n + 3) / 4 - i ∧ v4 = I (4 * (i : Int)) ∧ i ≤ (n + 3) / 4 ∧ wq.ownsRow w.heap.size 86 1 v3 i (groupsV 39 g o n i) ∧ Below w.heap.size w wq)
  case atStart => exact ⟨0, by omega, by go_num, by omega, World.ownsRow_nil _ _ _ _, Below.refl _ _⟩
  case round =>
    obtain ⟨i, hgk, rfl, hi, ho, hb⟩ := hrel
    have HGK := hide hgk
    have HO := hide ho
    have HB := hide hb
    have hs := hb.size
    clear hgk ho hb
    by_cases hlt : i < (n + 3) / 4
    · have h4 : 4 * (i : Int) < (n : Int) := by omega
      obtain ⟨m, hm⟩ : ∃ m, m = min 4 (n - 4 * i) := ⟨_, rfl⟩
      have hmin : min (4 * (i : Int) + 4) (n : Int) = 4 * (i : Int) + (m : Int) := by omega
      have hm1 : 0 < m ∧ m ≤ 4 ∧ 4 * i + m ≤ n := by omega
      have HV := hide (show groupV 39 g o n i = .slice (some ⟨g, o + 4 * i * 39, none⟩) m m by rw [groupV, ← hm])
      have HM := hide hm
      clear hm
      have hw4 : IntKind.i64.wrap (4 * (i : Int) + 4) = 4 * (i : Int) + 4 := by rw [IntKind.wrap_i64]; omega
      have ht1 : (4 * (i : Int)).toNat = 4 * i := by omega
      have ht2 : (4 * (i : Int) + (m : Int)).toNat = 4 * i + m := by omega
      have HO2 := hide (fun ob => HO.out.alloc ob)
      have HLT := hide (fun b (e : (u3 : Value).ownBlock = some b) => (HO.out.lt b e).1)
      have HNW := hide (one_cell (w := wr) (t := 86) (x := .slice (some ⟨g, o + 4 * i * 39, none⟩) m m))
      go_wp2_with (at_builtin; refine wpList_append_own2 _ rfl (.tmp 17) (.tmp 23) 160 rfl w.heap.size 86 i0 (.slice none 0 0) 1 24 Tryz.underlying160 hi0 hz0 hz1 hz2 rfl (by decide) _ i (groupsV 39 g o n i) rfl (HO2.out _) ⟨wr.heap.size, 0, none⟩ 1 1 [.slice (some ⟨g, o + 4 * i * 39, none⟩) m m] rfl rfl HNW.out (fun u hu => by rw [List.mem_singleton.1 hu]; rfl) (by unfold maxLen; omega) (by omega) (by simp; omega) ?_)
      intro v' w1 hown' hgrow _
      rw [← HV.out, ← groupsV_succ] at hown'
      have hb1 : Below w.heap.size w w1 := (HB.out.alloc hs _).grown hgrow (by simp; omega) (fun k hk => HLT.out k hk)
      have HO1 := hide hown'
      have HB1 := hide hb1
      clear hown' hgrow hb1 HO2 HNW HLT
      go_wp2_with fail
      go_roundg ((n + 3) / 4 - (i + 1))
      case measure => have := HGK.out; omega
      case rel => exact ⟨i + 1, rfl, by go_num, by omega, HO1.out, HB1.out⟩
    · have ei : i = (n + 3) / 4 := by omega
      have h4 : ¬ (4 * (i : Int) < (n : Int)) := by omega
      subst ei
      go_wp2
      go_ret
      exact ⟨_, rfl, HO.out, HB.out⟩
end Go.Proofs.YtenaelkbgkpllaaGreatDoor
