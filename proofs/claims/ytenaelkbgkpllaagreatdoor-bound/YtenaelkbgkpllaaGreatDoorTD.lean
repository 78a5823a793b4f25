/- A leaf's text as a string. -/
import Derived.Test.YtenaelkbgkpllaaGreatDoorTC
namespace Go.Proofs.YtenaelkbgkpllaaGreatDoor
open Go.RowKit

theorem ownB_nil (w : World) (B : Nat) : OwnB w B (.slice none 0 0) [] := World.ownsRow_nil _ _ _ _
/-- bytes read as a string -/
theorem OwnB.conv {w : World} {B : Nat} {v : Value} {l : List UInt8} (h : OwnB w B v l) (hne : l ≠ []) : (convert 59 9 v).run Tryz.prog w = .ok (Sv l) w := by
  have hv : v ≠ .slice none 0 0 := fun e => by
    rcases h.2 with ⟨_, h0⟩ | ⟨g, cap, cur, e2, _⟩
    · exact hne (List.length_eq_zero_iff.1 h0)
    · rw [e2] at e; cases e
  obtain ⟨g, cap, rfl, _, _, hr⟩ := range_of_owns h hv
  exact conv_bytes g l.length cap l rfl w hr
set_option maxHeartbeats 400000 in
theorem leafText_any (vp : Value) (L : List Ward.Pt) (w : World) (hL : L.length ≤ 4) (hp : ReadsB w w.heap.size vp L) :
    Calls Tryz.prog 111 #[vp] w fun e w' => e = .returned (Sv (Ward.leafText L)) ∧ Below w.heap.size w w' := by
  have h1 := appendLeaf_any (.slice none 0 0) [] vp L w w.heap.size (Nat.le_refl _) (by simp) hL hp (ownB_nil _ _)
  obtain ⟨ap, cp, rfl, -⟩ := hp
  go_enter Tryz.func111, Tryz.ntmps111
  go_wp2_with fail
  refine h1.mono ?_
  rintro e w1 ⟨v1, rfl, ho1, hg1, -⟩
  rw [List.nil_append] at ho1
  have hc := ho1.conv (by simp [Ward.leafText])
  have HB := hide (show Below w.heap.size w w1 from ⟨hg1.os, hg1.tape, hg1.output, hg1.size, fun k hk => hg1.block k hk (by simp [Value.ownBlock])⟩)
  generalize hT : Ward.leafText L = T at *
  have HT := hide hT
  clear h1 ho1 hg1 hT
  go_wp2
  go_ret
  exact ⟨by rw [HT.out]; rfl, HB.out⟩
end Go.Proofs.YtenaelkbgkpllaaGreatDoor
