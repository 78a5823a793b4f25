/- What is put behind a text. -/
import Derived.Test.YtenaelkbgkpllaaGreatDoorDG
import Derived.Test.YtenaelkbgkpllaaGreatDoorDRep
import Derived.Laws.BytesArg
namespace Go.Proofs.YtenaelkbgkpllaaGreatDoor
open Go.RowKit

theorem str_of_bytes (l : List UInt8) : strOfNums (l.map fun b => (b.toNat : Int)) = ⟨l.toArray⟩ := by
  apply ByteArray.ext
  apply Array.toList_inj.1
  rw [strOfNums_data, List.map_map]
  show l.map ((fun n : Int => UInt8.ofNat n.toNat) ∘ fun b : UInt8 => (b.toNat : Int)) = l
  have : ((fun n : Int => UInt8.ofNat n.toNat) ∘ fun b : UInt8 => (b.toNat : Int)) = id := by
    funext b; simp
  rw [this, List.map_id]
theorem conv_bytes (g n cap : Nat) (l : List UInt8) (hl : l.length = n) (W : World) (h : W.rangeAt g 0 (l.map Y)) :
    (convert 59 9 (.slice (some ⟨g, 0, none⟩) n cap)).run Tryz.prog W = .ok (.string ⟨l.toArray⟩) W := by
  rw [← str_of_bytes]
  refine run_convert_bytes_arg W 59 5 Tryz.underlying59 Tryz.underlying5 g 0 n cap (l.map fun b => (b.toNat : Int)) (by rw [List.length_map, hl]) (fun i hi => ?_) 9 Tryz.underlying9
  refine h i _ ?_
  rw [List.getElem?_map, List.getElem?_eq_getElem (by omega), List.getD_eq_getElem?_getD, List.getElem?_map, List.getElem?_eq_getElem (by omega)]
  rfl
theorem range_of_owns {w : World} {B n : Nat} {l : List UInt8} {v : Value} (h : w.ownsRow B 5 1 v n (l.map Y)) (hne : v ≠ .slice none 0 0) :
    ∃ g cap, v = .slice (some ⟨g, 0, none⟩) n cap ∧ B ≤ g ∧ g < w.heap.size ∧ w.rangeAt g 0 (l.map Y) := by
  obtain ⟨hlen, hv | ⟨gb, cap, cur, rfl, hgb, hheap, hcap, hmax, hcs, htake⟩⟩ := h
  · exact absurd hv.1 hne
  refine ⟨gb, cap, rfl, hgb, ?_, ?_⟩
  · rcases Nat.lt_or_ge gb w.heap.size with h' | h'
    · exact h'
    · rw [Array.getElem?_eq_none h'] at hheap; cases hheap
  · intro j u hu
    rw [cell_of_row _ _ _ _ _ _ hheap, Nat.zero_add, ← Array.getElem?_toList]
    rw [← htake] at hu
    have hj : j < n * 1 := by
      rcases Nat.lt_or_ge j (n * 1) with h' | h'
      · exact h'
      · rw [List.getElem?_eq_none (by rw [List.length_take]; omega)] at hu; cases hu
    rwa [List.getElem?_take_of_lt hj] at hu
theorem range_below {B : Nat} {w w' : World} {g : Nat} {L : List Value} (hb : Below B w w') (hg : g < B) (h : w.rangeAt g 0 L) : w'.rangeAt g 0 L :=
  fun j v hv => (hb.cell (p := ⟨g, 0 + j, none⟩) hg).trans (h j v hv)
theorem append_anyI (v : Value) (k : Nat) (xs : List Value) (x : Int) (n : Nat) (w : World) (B : Nat) (hx : x = n) (hn : n < 4294967296) (hB : B ≤ w.heap.size) (hk : k ≤ 1000) (hown : w.ownsRow B 5 1 v k xs) :
    Calls Tryz.prog 140 #[v, .int .u32 x] w fun e w' => ∃ v', e = .returned v' ∧ w'.ownsRow B 5 1 v' (k + 4) (xs ++ (Sha.four n).map Y) ∧ Below B w w' ∧ w.heap.size ≤ w'.heap.size ∧ v' ≠ .slice none 0 0 := by
  subst hx; exact append_any v k xs n w B hn hB hk hown
theorem repeat_anyI (x : Int) (c : Nat) (Z : List UInt8) (w : World) (hx : x = c) (hc : c < 64) (hZ : List.replicate c (0 : UInt8) = Z) :
    Calls Tryz.prog 141 #[.string ⟨#[0]⟩, .int .i64 x] w fun e w' => e = .returned (.string ⟨Z.toArray⟩) ∧ Below w.heap.size w w' := by
  subst hx
  subst hZ
  have := repeat_any ⟨#[0]⟩ c w (by omega) (by show 1 * c ≤ _; omega)
  have e : ∀ c, Lib.repeatL [(0 : UInt8)] c = List.replicate c 0 := by
    intro c; induction c with
    | zero => rfl
    | succ c ih => rw [Lib.repeatL, ih]; rfl
  rw [show (⟨#[0]⟩ : ByteArray).data.toList = [(0 : UInt8)] from rfl, e] at this
  exact this

set_option maxRecDepth 100000 in
set_option maxHeartbeats 400000 in
theorem padding_any (n : Nat) (w : World) (hn : n ≤ 140737488355328) :
    Calls Tryz.prog 107 #[.int .i64 n] w fun e w' => e = .returned (.string ⟨(Sha.padding n).toArray⟩) ∧ Below w.heap.size w w' := by
  go_enter Tryz.func107, Tryz.ntmps107
  go_wp2_with fail
  refine (append_anyI _ 0 [] _ (8 * n / 4294967296 % 4294967296) _ w.heap.size (by omega) (by omega) (Nat.le_refl _) (by omega) (World.ownsRow_nil _ _ _ _)).mono ?_
  rintro e w1 ⟨v1, rfl, hown1, hb1, hs1, -⟩
  have HO1 := hide hown1
  clear hown1
  go_wp2_with fail
  refine (append_anyI _ 4 _ _ (8 * n % 4294967296) _ w.heap.size (by omega) (by omega) hs1 (by omega) HO1.out).mono ?_
  rintro e w2 ⟨v2, rfl, hown2, hb2, hs2, hne⟩
  rw [List.nil_append, ← List.map_append] at hown2
  obtain ⟨g, cap, rfl, hg0, hg1, hrg⟩ := range_of_owns hown2 hne
  have hbw := hb1.trans hb2
  clear hown2 hne HO1
  have hconv := conv_bytes g 8 cap (Sha.four (8 * n / 4294967296 % 4294967296) ++ Sha.four (8 * n % 4294967296)) rfl
  have HP := hide (show Sha.padding n = (128 :: List.replicate ((119 - n % 64) % 64) 0) ++ (Sha.four (8 * n / 4294967296 % 4294967296) ++ Sha.four (8 * n % 4294967296)) from rfl)
  have hT8 : (Sha.four (8 * n / 4294967296 % 4294967296) ++ Sha.four (8 * n % 4294967296)).length = 8 := rfl
  generalize Sha.four (8 * n / 4294967296 % 4294967296) ++ Sha.four (8 * n % 4294967296) = T at *
  have hZl : (List.replicate ((119 - n % 64) % 64) (0 : UInt8)).length = (119 - n % 64) % 64 := List.length_replicate
  generalize hZe : List.replicate ((119 - n % 64) % 64) (0 : UInt8) = Z at *
  have HZe := hide hZe
  have ha1 : ∀ W, (Op.stringOp .add ⟨#[128]⟩ ⟨Z.toArray⟩).run Tryz.prog W = .ok (.string ⟨(128 :: Z).toArray⟩) W := fun W => run_string_add_lists W [128] Z (by simp) (by omega)
  have ha2 : ∀ W, (Op.stringOp .add ⟨(128 :: Z).toArray⟩ ⟨T.toArray⟩).run Tryz.prog W = .ok (.string ⟨(128 :: Z ++ T).toArray⟩) W := fun W => run_string_add_lists W (128 :: Z) T (by simp; omega) (by omega)
  generalize hAe : 128 :: Z = A at *
  generalize hBe : A ++ T = D at *
  clear hZe hZl hT8 hAe hBe
  go_wp2_with fail
  go_region_held3 (fun W => W.rangeAt g 0 (T.map Y)) (first | assumption | (simpa using hrg)) ((go_at_call 141; refine (repeat_anyI _ ((119 - n % 64) % 64) Z _ (by omega) (by omega) HZe.out).mono ?_; rintro e w3 ⟨rfl, hb3⟩; have hS3 := range_below hb3 (by simpa using hg1) (by simpa using hrg)))
  go_wp2
  go_ret
  exact ⟨congrArg (fun l : List UInt8 => Ending.returned (Value.string ⟨l.toArray⟩)) HP.out.symm, hbw.drew.trans (hb3.mono (show w.heap.size ≤ w2.heap.size by omega))⟩
end Go.Proofs.YtenaelkbgkpllaaGreatDoor
