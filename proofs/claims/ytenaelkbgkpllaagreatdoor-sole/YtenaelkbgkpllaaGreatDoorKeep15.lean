/- Part 15 of what the claims on Bound, Small, Right and Sole rest on. -/
import Derived.Test.YtenaelkbgkpllaaGreatDoorKeep14
/- Prove at a window. -/
namespace Go.Proofs.YtenaelkbgkpllaaGreatDoor
open Go.RowKit

/-- what is asked of windows holds -/
theorem asks_window {q : Ward.Qr} {L : List Ward.Pt} (hk : q.kind = 0) (hG : Good L) : Asks q L := by
  have hTS := Ward.tree_small hG.ok
  have hall : Ward.allN ((Ward.tree L).1 + 1) (Ward.mk Sha.sha (Ward.tree L).1 (Ward.tree L).2) = L := Ward.tree_all Sha.sha hG.ok
  have hw : Ward.withinN (Ward.window q) ((Ward.tree L).1 + 1) (Ward.mk Sha.sha (Ward.tree L).1 (Ward.tree L).2) = L.filter (Ward.inB (Ward.window q)) := by
    rw [Ward.within_all _ _ (Ward.tree_encl Sha.sha L), hall]
  have ha : Ward.ans q L = Ward.sortP (L.filter (Ward.inB (Ward.window q))) := by unfold Ward.ans; rw [if_neg (by omega)]
  refine ⟨fun w V hK hN => ?_, fun w B v b hi hv => ?_⟩
  · have h := answer_window q _ _ V w hk (by rw [hall]; have := hG.many; omega) (Ward.few_mk Sha.sha _ _ hTS.1) hN (by rw [hw]; exact Ward.ids_sub List.filter_sublist hG.ids)
    rw [hw, ← ha] at h
    exact h
  · rw [must_window hk]
    exact mustShow_window q v b w hk
theorem prove_window {q : Ward.Qr} (m : Nat) (v : Value) (L : List Ward.Pt) (w : World) (hk : q.kind = 0) (hq : Ward.mayBe q = true) (hm : IsMap w m v L) (hG : Good L) (hKT : KT w) :
    Calls Tryz.prog 17 #[.pointer (some ⟨m, 0, none⟩), Qv q] w fun e w' => e = .returned (.tuple #[Sv (Ward.proofText q L), I 0]) ∧ Below w.heap.size w w' :=
  prove_of m v L w (asks_window hk hG) hq hm hG hKT
/-- the query that has all shown -/
def wholeQ : Ward.Qr := ⟨0, -1000000, -1000000, 1000000, 1000000, 0, 0, 0⟩
theorem whole_may : Ward.mayBe wholeQ = true := by decide
theorem whole_full {L : List Ward.Pt} (hG : Good L) : Ward.proofText wholeQ L = Ward.fullText Sha.sha L := by
  refine Ward.proof_full (fun b hb => ?_) _ _ (Ward.tree_small hG.ok).1
  obtain ⟨h1, h2, h3, h4, h5, h6, h7, h8⟩ := hb
  rw [must_window rfl]
  simp only [Ward.meets, Ward.window, wholeQ, Bool.and_eq_true]
  exact ⟨⟨⟨decide_eq_true h5, decide_eq_true h2⟩, decide_eq_true h7⟩, decide_eq_true h4⟩
/-- the calls that Bound stands on -/
theorem calls2 : Calls2 := ⟨fun m v L w hm hG hK => commitment_any m v L w hm hG hK, fun m v L w hm hG hK => by
  have h := prove_window (q := wholeQ) m v L w rfl whole_may hm hG hK
  rw [whole_full hG] at h
  exact h⟩
end Go.Proofs.YtenaelkbgkpllaaGreatDoor
