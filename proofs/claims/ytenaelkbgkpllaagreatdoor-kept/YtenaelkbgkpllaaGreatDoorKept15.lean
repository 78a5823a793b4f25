/- What goes up the heap. -/
import Derived.Test.YtenaelkbgkpllaaGreatDoorKept14
import Derived.Test.YtenaelkbgkpllaaGreatDoorKept8
namespace Go.Proofs.YtenaelkbgkpllaaGreatDoor
open Go.RowKit

abbrev Hv (h : Nat) : Value := .iface 163 (.pointer (some ⟨h, 0, none⟩))
/-- the heap's list put in another order -/
structure Turned (w w' : World) (h B : Nat) (v : Value) (l l' : List En) : Prop where
  at' : HeapAt w' h B v l'
  perm : l'.Perm l
  keeps : Keeps (Heaps h v) w w'
theorem Turned.refl {w : World} {h B : Nat} {v : Value} {l : List En} (H : HeapAt w h B v l) : Turned w w h B v l l := ⟨H, List.Perm.refl _, Keeps.refl _ _⟩
theorem Turned.below {w w' w'' : World} {h B : Nat} {v : Value} {l l' : List En} (H : Turned w w' h B v l l') (hb : Below w'.heap.size w' w'') : Turned w w'' h B v l l' := ⟨H.at'.below hb, H.perm, H.keeps.trans (Keeps.of_below (S := Heaps h v) hb) (fun _ _ h => h)⟩
theorem Turned.swap {w w' w'' : World} {h B : Nat} {v : Value} {l l' : List En} (H : Turned w w' h B v l l') {i j : Nat} (hi : i < l'.length) (hj : j < l'.length) (ho : OwnE w'' B v (Heap.swp l' i j)) (hg : w'.grownBy w'' v.ownBlock) : Turned w w'' h B v l (Heap.swp l' i j) :=
  ⟨⟨(hg.block h H.at'.lt (fun e => H.at'.apart e.symm)).trans H.at'.row, ho, H.at'.apart⟩, (Heap.swp_perm hi hj).trans H.perm, H.keeps.trans (Keeps.grown (h := h) hg) (fun _ _ h => h)⟩
theorem less_at (v : Value) (l : List En) (i j : Nat) (w : World) (B : Nat) (ho : OwnE w B v l) (hi : i < l.length) (hj : j < l.length) (hl : l.length ≤ 100000) :
    Calls Tryz.prog 212 #[v, I i, I j] w fun e w' => e = .returned (.bool (decide (enLt (Heap.at' l i) (Heap.at' l j)))) ∧ Below w.heap.size w w' := by
  rw [Heap.at_get hi, Heap.at_get hj]
  exact less_any v l i j w B ho hi hj hl
set_option maxRecDepth 100000 in
set_option maxHeartbeats 4000000 in
theorem up_any (h : Nat) (v : Value) (l : List En) (j : Nat) (w : World) (B : Nat) (H : HeapAt w h B v l) (hl : l.length ≤ 100000) (hu : Heap.Up enLt (Heap.at' l) l.length j) :
    Calls Tryz.prog 175 #[Hv h, I j] w fun r w' => r = .returned (.tuple #[]) ∧ ∃ l', Turned w w' h B v l l' ∧ Heap.Ok enLt (Heap.at' l') l'.length := by
  have HT := hide (Turned.refl H)
  have HU := hide hu
  have hj := hu.inn
  clear H hu
  go_enter Tryz.func175, Tryz.ntmps175
  go_wp2_with fail
  go_loopg [1] j (fun gk v1 wq => ∃ (k : Nat) (l' : List En), gk = k ∧ v1 = I k ∧ Turned w wq h B v l l' ∧ Heap.Up enLt (Heap.at' l') l'.length k)
  case atStart => exact ⟨j, l, rfl, rfl, HT.out, HU.out⟩
  case round =>
    clear HT HU hj
    obtain ⟨k, l', rfl, rfl, hT, hU⟩ := hrel
    have hlen : l'.length ≤ 100000 := by rw [hT.perm.length_eq]; exact hl
    have hk := hU.inn
    have hm := m_less h v wr hT.at'.cell
    have hm2 := m_swap h v wr hT.at'.cell
    have HT := hide hT
    have HU := hide hU
    clear hT hU
    by_cases h0 : gk = 0
    · subst h0
      go_wp2_with fail
      go_end0
      exact ⟨rfl, l', HT.out, Heap.up_end HU.out (.inl rfl)⟩
    · have hp := Heap.par_lt (show 0 < gk by omega)
      have HPE := hide (show ((gk : Int) - 1) / 2 = ((Heap.par gk : Nat) : Int) by
        unfold Heap.par
        omega)
      have HLE := hide (less_at v l' gk (Heap.par gk) wr B HT.out.at'.own hk (by omega) hlen)
      have hne : ¬ ((Heap.par gk : Nat) : Int) = (gk : Int) := by omega
      go_upto_region 1 with fail
      rw [HPE.out]
      generalize hpk : Heap.par gk = pk at *
      have HPK := hide hpk
      clear hpk
      generalize hcond : decide (enLt (Heap.at' l' gk) (Heap.at' l' pk)) = r at *
      have HCO := hide hcond
      clear hcond
      go_wp2_with fail
      refine HLE.out.mono ?_
      rintro _ w1 ⟨rfl, hb1⟩
      have HT1 := hide (HT.out.below hb1)
      have hm3 := m_swap h v w1 HT1.out.at'.cell
      clear hb1 hm hm2 HLE
      cases r with
      | false =>
        go_wp2_with fail
        go_end0
        refine ⟨rfl, l', HT1.out, Heap.up_end HU.out (.inr ?_)⟩
        rw [HPK.out]
        exact of_decide_eq_false HCO.out
      | true =>
        have HSW := hide (swap_any v l' pk gk w1 B HT1.out.at'.own (by omega) hk hlen)
        go_wp2_with fail
        refine HSW.out.mono ?_
        rintro _ w2 ⟨rfl, ho2, hg2⟩
        have HT2 := hide (HT1.out.swap (by omega) hk ho2 hg2)
        clear ho2 hg2 HSW hm3
        go_wp2_with fail
        go_roundg pk
        case measure => exact hp
        case rel =>
          refine ⟨pk, Heap.swp l' pk gk, rfl, by go_num, HT2.out, ?_⟩
          rw [Heap.swp_len]
          have hs := Heap.up_step enWeak (Nat.le_refl _) HU.out (by omega) (by rw [HPK.out]; exact of_decide_eq_true HCO.out)
          rw [HPK.out] at hs
          exact hs
end Go.Proofs.YtenaelkbgkpllaaGreatDoor
/- What goes down the heap. -/
namespace Go.Proofs.YtenaelkbgkpllaaGreatDoor
open Go.RowKit

set_option maxRecDepth 100000 in
set_option maxHeartbeats 4000000 in
theorem down_any (h : Nat) (v : Value) (l : List En) (n : Nat) (w : World) (B : Nat) (H : HeapAt w h B v l) (hl : l.length ≤ 100000) (hn : n < l.length) (hd : Heap.Down enLt (Heap.at' l) n 0) :
    Calls Tryz.prog 144 #[Hv h, I 0, I n] w fun r w' => ∃ b : Bool, r = .returned (.bool b) ∧ ∃ l', Turned w w' h B v l l' ∧ Heap.Ok enLt (Heap.at' l') n ∧ ∀ k, n ≤ k → Heap.at' l' k = Heap.at' l k := by
  have HT0 := hide (Turned.refl H)
  have HD0 := hide hd
  clear H hd
  go_enter Tryz.func144, Tryz.ntmps144
  go_wp2_with fail
  go_loopg [7] n (fun gk v7 wq => ∃ (i : Nat) (l' : List En), gk = n - i ∧ v7 = I i ∧ i ≤ n ∧ Turned w wq h B v l l' ∧ Heap.Down enLt (Heap.at' l') n i ∧ ∀ k, n ≤ k → Heap.at' l' k = Heap.at' l k)
  case atStart => exact ⟨0, l, rfl, rfl, by omega, HT0.out, HD0.out, fun _ _ => rfl⟩
  case round =>
    clear HT0 HD0
    obtain ⟨i, l', hgk, rfl, hi, hT, hD, hsame⟩ := hrel
    have hll : l'.length = l.length := hT.perm.length_eq
    have hlen : l'.length ≤ 100000 := by omega
    have hnl : n ≤ l'.length := by omega
    have hnl2 : n < l'.length := by omega
    clear hll
    have HGK := hide hgk
    have HT := hide hT
    have HD := hide hD
    have HSAME := hide hsame
    clear hgk hT hD hsame
    by_cases h1 : n ≤ 2 * i + 1
    · have HOK := hide (Heap.down_end HD.out fun k hk hk0 hp => by unfold Heap.par at hp; omega)
      have hge : (n : Int) ≤ 2 * (i : Int) + 1 := by omega
      go_wp2_with fail
      go_ret
      exact ⟨_, rfl, l', HT.out, HOK.out, HSAME.out⟩
    · have hlt1 : ¬ (n : Int) ≤ 2 * (i : Int) + 1 := by omega
      have hpos1 : ¬ 2 * (i : Int) + 1 < 0 := by omega
      obtain ⟨j1, hj1⟩ : ∃ j1, j1 = 2 * i + 1 := ⟨_, rfl⟩
      have HJ1 := hide (show (2 * (i : Int) + 1) = ((j1 : Nat) : Int) by omega)
      have HJ1N := hide hj1
      by_cases h2 : n ≤ 2 * i + 2
      · have hlt2 : ¬ 2 * (i : Int) + 1 + 1 < (n : Int) := by omega
        have HSM := hide (show ∀ k, k < n → 0 < k → Heap.par k = i → ¬ enLt (Heap.at' l' k) (Heap.at' l' j1) from fun k hk hk0 hp => by
          have e : k = j1 := by unfold Heap.par at hp; omega
          rw [e]; exact enIrr _)
        go_upto_region 8 with fail
        rw [HJ1.out]
        obtain ⟨W, hW⟩ : ∃ W, W = wr := ⟨_, rfl⟩
        subst hW
        have HT1 := hide HT.out
        have hj1' : 2 * i < j1 := by omega
        have hj1n : j1 < n := by omega
        clear hj1 hlt1 hpos1 hlt2
        have hj0 : 0 < j1 := by omega
        have hij : i < j1 := by omega
        have HPJ := hide (show Heap.par j1 = i by have := HJ1N.out; unfold Heap.par; omega)
        have HLE2 := hide (less_at v l' j1 i W B HT1.out.at'.own (by omega) (by omega) hlen)
        have hmL := m_less h v W HT1.out.at'.cell
        generalize hcond2 : decide (enLt (Heap.at' l' j1) (Heap.at' l' i)) = r2 at *
        have HC2 := hide hcond2
        clear hcond2
        go_wp2_with fail
        refine HLE2.out.mono ?_
        rintro _ w2 ⟨rfl, hb2⟩
        have HT2 := hide (HT1.out.below hb2)
        have hmS := m_swap h v w2 HT2.out.at'.cell
        clear hb2 hmL HLE2
        cases r2 with
        | false =>
          have HOK := hide (Heap.down_end HD.out fun k hk hk0 hp => enWeak.trans _ _ _ (of_decide_eq_false HC2.out) (HSM.out k hk hk0 hp))
          go_wp2_with fail
          go_ret
          exact ⟨_, rfl, l', HT2.out, HOK.out, HSAME.out⟩
        | true =>
          have HSW := hide (swap_any v l' i j1 w2 B HT2.out.at'.own (by omega) (by omega) hlen)
          have HDN := hide (Heap.down_step enWeak hnl HD.out (show j1 < n by omega) hj0 HPJ.out (of_decide_eq_true HC2.out) HSM.out)
          have HSA := hide (show ∀ k, n ≤ k → Heap.at' (Heap.swp l' i j1) k = Heap.at' l k from fun k hk => by
            rw [Heap.at_swp (by omega) (by omega), if_neg (by omega), if_neg (by omega)]
            exact HSAME.out k hk)
          go_wp2_with fail
          refine HSW.out.mono ?_
          rintro _ w3 ⟨rfl, ho3, hg3⟩
          have HT3 := hide (HT2.out.swap (by omega) (by omega) ho3 hg3)
          clear ho3 hg3 HSW hmS
          go_wp2_with fail
          go_roundg (n - j1)
          case measure => have := HGK.out; omega
          case rel => exact ⟨j1, Heap.swp l' i j1, rfl, by go_num, by omega, HT3.out, HDN.out, HSA.out⟩
      · have hlt2 : 2 * (i : Int) + 1 + 1 < (n : Int) := by omega
        obtain ⟨j2, hj2⟩ : ∃ j2, j2 = 2 * i + 2 := ⟨_, rfl⟩
        have HJ2 := hide (show (2 * (i : Int) + 1 + 1) = ((j2 : Nat) : Int) by omega)
        have HLE := hide (less_at v l' j2 j1 wr B HT.out.at'.own (by omega) (by omega) hlen)
        have hm := m_less h v wr HT.out.at'.cell
        generalize hcond : decide (enLt (Heap.at' l' j2) (Heap.at' l' j1)) = r at *
        have HCO := hide hcond
        clear hcond
        go_upto_region 6 with fail
        rw [HJ2.out, HJ1.out]
        have hlt3 : ((j2 : Nat) : Int) < (n : Int) := by omega
        have HJ2N := hide hj2
        clear hlt1 hpos1 hlt2 hj1 hj2
        go_wp2_with fail
        refine HLE.out.mono ?_
        rintro _ W ⟨rfl, hb1⟩
        have HT1 := hide (HT.out.below hb1)
        clear hb1 hm HLE
        have hj1' : 2 * i < j1 := by have := HJ1N.out; omega
        have hj2' : 2 * i < j2 := by have := HJ2N.out; omega
        have hj1n : j1 < n := by have := HJ1N.out; omega
        have hj2n : j2 < n := by have := HJ2N.out; omega
        cases r with
        | false =>
          have HSM := hide (show ∀ k, k < n → 0 < k → Heap.par k = i → ¬ enLt (Heap.at' l' k) (Heap.at' l' j1) from fun k hk hk0 hp => by
            have e : k = j1 ∨ k = j2 := by
              have := HJ1N.out
              have := HJ2N.out
              unfold Heap.par at hp; omega
            rcases e with e | e
            · rw [e]; exact enIrr _
            · rw [e]; exact of_decide_eq_false HCO.out)
          have hj0 : 0 < j1 := by omega
          have hij : i < j1 := by omega
          have HPJ := hide (show Heap.par j1 = i by have := HJ1N.out; unfold Heap.par; omega)
          have HLE2 := hide (less_at v l' j1 i W B HT1.out.at'.own (by omega) (by omega) hlen)
          have hmL := m_less h v W HT1.out.at'.cell
          generalize hcond2 : decide (enLt (Heap.at' l' j1) (Heap.at' l' i)) = r2 at *
          have HC2 := hide hcond2
          clear hcond2
          go_wp2_with fail
          refine HLE2.out.mono ?_
          rintro _ w2 ⟨rfl, hb2⟩
          have HT2 := hide (HT1.out.below hb2)
          have hmS := m_swap h v w2 HT2.out.at'.cell
          clear hb2 hmL HLE2
          cases r2 with
          | false =>
            have HOK := hide (Heap.down_end HD.out fun k hk hk0 hp => enWeak.trans _ _ _ (of_decide_eq_false HC2.out) (HSM.out k hk hk0 hp))
            go_wp2_with fail
            go_ret
            exact ⟨_, rfl, l', HT2.out, HOK.out, HSAME.out⟩
          | true =>
            have HSW := hide (swap_any v l' i j1 w2 B HT2.out.at'.own (by omega) (by omega) hlen)
            have HDN := hide (Heap.down_step enWeak hnl HD.out (show j1 < n by omega) hj0 HPJ.out (of_decide_eq_true HC2.out) HSM.out)
            have HSA := hide (show ∀ k, n ≤ k → Heap.at' (Heap.swp l' i j1) k = Heap.at' l k from fun k hk => by
              rw [Heap.at_swp (by omega) (by omega), if_neg (by omega), if_neg (by omega)]
              exact HSAME.out k hk)
            go_wp2_with fail
            refine HSW.out.mono ?_
            rintro _ w3 ⟨rfl, ho3, hg3⟩
            have HT3 := hide (HT2.out.swap (by omega) (by omega) ho3 hg3)
            clear ho3 hg3 HSW hmS
            go_wp2_with fail
            go_roundg (n - j1)
            case measure => have := HGK.out; omega
            case rel => exact ⟨j1, Heap.swp l' i j1, rfl, by go_num, by omega, HT3.out, HDN.out, HSA.out⟩
        | true =>
          have HSM := hide (show ∀ k, k < n → 0 < k → Heap.par k = i → ¬ enLt (Heap.at' l' k) (Heap.at' l' j2) from fun k hk hk0 hp => by
            have e : k = j1 ∨ k = j2 := by
              have := HJ1N.out
              have := HJ2N.out
              unfold Heap.par at hp; omega
            rcases e with e | e
            · rw [e]; exact enWeak.anti _ _ (of_decide_eq_true HCO.out)
            · rw [e]; exact enIrr _)
          have hj0 : 0 < j2 := by omega
          have hij : i < j2 := by omega
          have HPJ := hide (show Heap.par j2 = i by have := HJ2N.out; unfold Heap.par; omega)
          have HLE2 := hide (less_at v l' j2 i W B HT1.out.at'.own (by omega) (by omega) hlen)
          have hmL := m_less h v W HT1.out.at'.cell
          generalize hcond2 : decide (enLt (Heap.at' l' j2) (Heap.at' l' i)) = r2 at *
          have HC2 := hide hcond2
          clear hcond2
          go_wp2_with fail
          refine HLE2.out.mono ?_
          rintro _ w2 ⟨rfl, hb2⟩
          have HT2 := hide (HT1.out.below hb2)
          have hmS := m_swap h v w2 HT2.out.at'.cell
          clear hb2 hmL HLE2
          cases r2 with
          | false =>
            have HOK := hide (Heap.down_end HD.out fun k hk hk0 hp => enWeak.trans _ _ _ (of_decide_eq_false HC2.out) (HSM.out k hk hk0 hp))
            go_wp2_with fail
            go_ret
            exact ⟨_, rfl, l', HT2.out, HOK.out, HSAME.out⟩
          | true =>
            have HSW := hide (swap_any v l' i j2 w2 B HT2.out.at'.own (by omega) (by omega) hlen)
            have HDN := hide (Heap.down_step enWeak hnl HD.out (show j2 < n by omega) hj0 HPJ.out (of_decide_eq_true HC2.out) HSM.out)
            have HSA := hide (show ∀ k, n ≤ k → Heap.at' (Heap.swp l' i j2) k = Heap.at' l k from fun k hk => by
              rw [Heap.at_swp (by omega) (by omega), if_neg (by omega), if_neg (by omega)]
              exact HSAME.out k hk)
            go_wp2_with fail
            refine HSW.out.mono ?_
            rintro _ w3 ⟨rfl, ho3, hg3⟩
            have HT3 := hide (HT2.out.swap (by omega) (by omega) ho3 hg3)
            clear ho3 hg3 HSW hmS
            go_wp2_with fail
            go_roundg (n - j2)
            case measure => have := HGK.out; omega
            case rel => exact ⟨j2, Heap.swp l' i j2, rfl, by go_num, by omega, HT3.out, HDN.out, HSA.out⟩
end Go.Proofs.YtenaelkbgkpllaaGreatDoor
/- Push and Pop of the heap. -/
namespace Go.Proofs.YtenaelkbgkpllaaGreatDoor
open Go.RowKit

set_option maxHeartbeats 400000 in
theorem lenE_any (a : Option Addr) (n c : Nat) (w : World) :
    Calls Tryz.prog 114 #[.slice a n c] w fun e w' => e = .returned (I n) ∧ w' = w := by
  go_enter Tryz.func114, Tryz.ntmps114
  go_wp2
  go_ret
  exact ⟨rfl, rfl⟩
theorem heaps_fresh {w : World} {h : Nat} {v v' : Value} (hf : Fresh w v v') : ∀ j, j < w.heap.size → Heaps h v' j → Heaps h v j := fun j hj hh => by
  rcases hh with hh | hh
  · exact .inl hh
  · rcases hf with hf | ⟨g, hf, hg⟩
    · exact .inr (by rw [← hf]; exact hh)
    · rw [hf] at hh
      injection hh with hh
      omega
set_option maxRecDepth 100000 in
set_option maxHeartbeats 4000000 in
theorem heapPush_any (h : Nat) (v : Value) (l : List En) (e : En) (w : World) (B : Nat) (H : HeapAt w h B v l) (hB : B ≤ w.heap.size) (hl : l.length ≤ 90000) (hok : Heap.Ok enLt (Heap.at' l) l.length) :
    Calls Tryz.prog 145 #[Hv h, .iface 166 (Ev e)] w fun r w' => r = .returned (.tuple #[]) ∧ ∃ v' l', HeapAt w' h B v' l' ∧ l'.Perm (l ++ [e]) ∧ Heap.Ok enLt (Heap.at' l') l'.length ∧ Keeps (Heaps h v) w w' ∧ Fresh w v v' := by
  have HP := hide (push_any h v l e w B H hB (by omega))
  have HUP := hide (Heap.up_start (lt := enLt) (x := e) hok)
  have hm := m_push h w
  clear H hok
  go_enter Tryz.func145, Tryz.ntmps145
  go_wp2_with fail
  refine HP.out.mono ?_
  rintro _ w1 ⟨rfl, v1, hh1, hk1, hf1⟩
  have HH1 := hide hh1
  have HK1 := hide hk1
  have HF1 := hide hf1
  have hm1 := m_len h v1 w1 hh1.cell
  obtain ⟨a1, c1, e1⟩ := hh1.own.slice
  rw [List.length_append, List.length_singleton] at e1
  subst e1
  have HLN := hide (lenE_any a1 (l.length + 1) c1 w1)
  have HU := hide (up_any h (.slice a1 (l.length + 1) c1) (l ++ [e]) l.length w1 B HH1.out (by simp; omega) (by rw [List.length_append, List.length_singleton]; exact HUP.out))
  clear hh1 hk1 hf1 hm HP
  go_wp2_with fail
  refine HLN.out.mono ?_
  rintro _ _ ⟨rfl, rfl⟩
  go_wp2_with fail
  refine HU.out.mono ?_
  rintro _ w2 ⟨rfl, l2, hT, hok2⟩
  have HE := hide (show HeapAt w2 h B (.slice a1 (l.length + 1) c1) l2 ∧ l2.Perm (l ++ [e]) ∧ Heap.Ok enLt (Heap.at' l2) l2.length ∧ Keeps (Heaps h v) w w2 ∧ Fresh w v (.slice a1 (l.length + 1) c1) from ⟨hT.at', hT.perm, hok2, HK1.out.trans hT.keeps (heaps_fresh HF1.out), HF1.out⟩)
  clear hT hok2 HU hm1
  go_wp2_with fail
  go_end0
  exact ⟨rfl, _, l2, HE.out⟩
theorem take_last {l : List En} {n : Nat} (h : l.length = n + 1) : l = l.take n ++ [Heap.at' l n] := by
  rw [Heap.at_get (by omega)]
  have : l.drop n = [l[n]] := by
    rw [List.drop_eq_getElem_cons (by omega), List.drop_eq_nil_of_le (by omega)]
  rw [← this, List.take_append_drop]
set_option maxRecDepth 100000 in
set_option maxHeartbeats 4000000 in
theorem heapPop_any (h : Nat) (v : Value) (l : List En) (n : Nat) (w : World) (B : Nat) (H : HeapAt w h B v l) (hn : l.length = n + 1) (hl : n ≤ 90000) (hok : Heap.Ok enLt (Heap.at' l) l.length) :
    Calls Tryz.prog 115 #[Hv h] w fun r w' => ∃ e v' l', r = .returned (.iface 166 (Ev e)) ∧ l.Perm (e :: l') ∧ (∀ x ∈ l', ¬ enLt x e) ∧ HeapAt w' h B v' l' ∧ Heap.Ok enLt (Heap.at' l') l'.length ∧ Keeps (Heaps h v) w w' ∧ v'.ownBlock = v.ownBlock := by
  have hm := m_len h v w H.cell
  have hm2 := m_swap h v w H.cell
  have hm3 := fun W => m_pop h W
  obtain ⟨av, cv, ev⟩ := H.own.slice
  have HT0 := hide (Turned.refl H)
  have HSW := hide (swap_any v l 0 n w B H.own (by omega) (by omega) (by omega))
  rw [hn] at ev
  subst ev
  have HLN := hide (lenE_any av (n + 1) cv w)
  have HDS := hide (Heap.down_start (lt := enLt) hn (by rw [← hn]; exact hok))
  have HLEAST := hide (Heap.first_least enWeak enIrr hok)
  clear H hok
  go_enter Tryz.func115, Tryz.ntmps115
  go_wp2_with fail
  refine HLN.out.mono ?_
  rintro _ w0 ⟨rfl, hw0⟩
  rw [hw0]
  clear hw0
  go_wp2_with fail
  refine HSW.out.mono ?_
  rintro _ w1 ⟨rfl, ho1, hg1⟩
  have HT1 := hide (HT0.out.swap (show 0 < l.length by omega) (show n < l.length by omega) ho1 hg1)
  have HD := hide (down_any h (.slice av (n + 1) cv) (Heap.swp l 0 n) n w1 B HT1.out.at' (by rw [Heap.swp_len]; omega) (by rw [Heap.swp_len]; omega) HDS.out)
  clear ho1 hg1 HSW HLN hm hm2
  go_wp2_with fail
  refine HD.out.mono ?_
  rintro _ w2 ⟨b, rfl, l2, hT2, hok2, hsame⟩
  have hl2 : l2.length = n + 1 := by rw [hT2.perm.length_eq, Heap.swp_len]; exact hn
  have hlast : Heap.at' l2 n = Heap.at' l 0 := by
    rw [hsame n (Nat.le_refl _), Heap.at_swp (by omega) (by omega), if_pos rfl]
  have hl2e := take_last hl2
  rw [hlast] at hl2e
  have hperm : l2.Perm l := hT2.perm.trans (Heap.swp_perm (by omega) (by omega))
  have HPM := hide (show l.Perm (Heap.at' l 0 :: l2.take n) by
    have h1 := List.perm_append_singleton (Heap.at' l 0) (l2.take n)
    rw [← hl2e] at h1
    exact hperm.symm.trans h1)
  have HLE := hide (show ∀ x ∈ l2.take n, ¬ enLt x (Heap.at' l 0) from fun x hx => by
    have hxl : x ∈ l := HPM.out.mem_iff.2 (List.mem_cons_of_mem _ hx)
    obtain ⟨k, hk, rfl⟩ := List.getElem_of_mem hxl
    have h1 := HLEAST.out k hk
    rw [Heap.at_get hk] at h1
    exact h1)
  have HOK := hide (show Heap.Ok enLt (Heap.at' (l2.take n)) (l2.take n).length by
    have h1 : (l2.take n).length = n := by rw [List.length_take]; omega
    rw [h1]
    exact Heap.ok_take hok2 (Nat.le_refl _))
  have HPOP := hide (pop_any h (.slice av (n + 1) cv) (l2.take n) (Heap.at' l 0) w2 B (by rw [← hl2e]; exact hT2.at') (by rw [List.length_take]; omega))
  have HK := hide (HT1.out.keeps.trans hT2.keeps (fun _ _ h => h))
  have hm4 := hm3 w2
  clear hT2 hok2 hsame hl2 hlast hl2e hperm hm3 HD
  generalize l2.take n = l3 at *
  generalize Heap.at' l 0 = e0 at *
  go_wp2_with fail
  refine HPOP.out.mono ?_
  rintro _ w3 ⟨rfl, v3, hh3, hk3, hb3⟩
  have HE := hide (show l.Perm (e0 :: l3) ∧ (∀ x ∈ l3, ¬ enLt x e0) ∧ HeapAt w3 h B v3 l3 ∧ Heap.Ok enLt (Heap.at' l3) l3.length ∧ Keeps (Heaps h (.slice av (n + 1) cv)) w w3 ∧ v3.ownBlock = (Value.slice av (n + 1) cv).ownBlock from ⟨HPM.out, HLE.out, hh3, HOK.out, HK.out.trans hk3 (fun _ _ h => h), hb3⟩)
  clear hh3 hk3 hb3 HPOP hm4
  go_wp2_with fail
  go_ret
  exact ⟨e0, v3, l3, rfl, HE.out⟩
end Go.Proofs.YtenaelkbgkpllaaGreatDoor
/- Which children must be shown to what is nearest. -/
namespace Go.Proofs.YtenaelkbgkpllaaGreatDoor
open Go.RowKit

theorem must_few {q : Ward.Qr} {a : List Ward.Pt} {b : Ward.Box} (h : q.kind = 1) (hl : (a.length : Int) < q.k) : Ward.must q a b = true := by
  unfold Ward.must; rw [if_neg (by omega), if_pos hl]
theorem must_last {q : Ward.Qr} {a : List Ward.Pt} {b : Ward.Box} {p : Ward.Pt} (h : q.kind = 1) (hl : ¬ (a.length : Int) < q.k) (hp : a.getLast? = some p) : Ward.must q a b = decide (Ward.dist b q.x q.y ≤ Ward.dist (Ward.boxOf p) q.x q.y) := by
  unfold Ward.must; rw [if_neg (by omega), if_neg hl, hp]; rfl
set_option maxRecDepth 100000 in
set_option maxHeartbeats 4000000 in
theorem mustShow_few (q : Ward.Qr) (ad : Option Addr) (c : Nat) (a : List Ward.Pt) (b : Ward.Box) (w : World) (hk : q.kind = 1) (hl : (a.length : Int) < q.k) :
    Calls Tryz.prog 42 #[Qv q, .slice ad a.length c, Bx b] w fun e w' => e = .returned (.bool true) ∧ Below w.heap.size w w' := by
  obtain ⟨qk, qa, qb, qc, qd, qx, qy, qn⟩ := q
  simp only at hk hl
  subst hk
  go_enter Tryz.func42, Tryz.ntmps42
  go_wp2
  go_ret
  exact ⟨rfl, ((Below.refl w.heap.size w).alloc (Nat.le_refl _) _).alloc (by simp) _⟩
/-- a query, a box and another as they lie -/
def QryTwo (w : World) (g k j : Nat) (q : Ward.Qr) (b c : Ward.Box) : Prop :=
  (w.cell? ⟨g, 5, none⟩ = some (I q.x) ∧ w.cell? ⟨g, 6, none⟩ = some (I q.y)) ∧ (w.cell? ⟨k, 0, none⟩ = some (I b.a) ∧ w.cell? ⟨k, 1, none⟩ = some (I b.b) ∧ w.cell? ⟨k, 2, none⟩ = some (I b.c) ∧ w.cell? ⟨k, 3, none⟩ = some (I b.d)) ∧ (w.cell? ⟨j, 0, none⟩ = some (I c.a) ∧ w.cell? ⟨j, 1, none⟩ = some (I c.b) ∧ w.cell? ⟨j, 2, none⟩ = some (I c.c) ∧ w.cell? ⟨j, 3, none⟩ = some (I c.d))
theorem QryTwo.below {w w' : World} {g k j B : Nat} {q : Ward.Qr} {b c : Ward.Box} (h : QryTwo w g k j q b c) (hb : Below B w w') (hg : g < B) (hk : k < B) (hj : j < B) : QryTwo w' g k j q b c :=
  ⟨⟨(hb.cell (p := ⟨g, 5, none⟩) hg).trans h.1.1, (hb.cell (p := ⟨g, 6, none⟩) hg).trans h.1.2⟩,
   ⟨(hb.cell (p := ⟨k, 0, none⟩) hk).trans h.2.1.1, (hb.cell (p := ⟨k, 1, none⟩) hk).trans h.2.1.2.1, (hb.cell (p := ⟨k, 2, none⟩) hk).trans h.2.1.2.2.1, (hb.cell (p := ⟨k, 3, none⟩) hk).trans h.2.1.2.2.2⟩,
   ⟨(hb.cell (p := ⟨j, 0, none⟩) hj).trans h.2.2.1, (hb.cell (p := ⟨j, 1, none⟩) hj).trans h.2.2.2.1, (hb.cell (p := ⟨j, 2, none⟩) hj).trans h.2.2.2.2.1, (hb.cell (p := ⟨j, 3, none⟩) hj).trans h.2.2.2.2.2⟩⟩
theorem QryTwo.drew {w : World} {g k j : Nat} {q : Ward.Qr} {b c : Ward.Box} (h : QryTwo w g k j q b c) : QryTwo w.drew g k j q b c := by simpa [QryTwo] using h
theorem boxOf_in {p : Ward.Pt} (h : p.Ok) : (Ward.boxOf p).In := ⟨h.x1, h.x2, h.y1, h.y2, h.x1, h.x2, h.y1, h.y2⟩
set_option maxRecDepth 100000 in
set_option maxHeartbeats 4000000 in
theorem mustShow_last (q : Ward.Qr) (g o c : Nat) (a : List Ward.Pt) (p : Ward.Pt) (b : Ward.Box) (w : World) (hk : q.kind = 1) (hl : ¬ (a.length : Int) < q.k) (hl0 : 0 < a.length) (hl2 : a.length ≤ 1000) (hp : PtAt w g (o + (a.length - 1) * 3) p) (hok : p.Ok) (hb : b.In) (hx : -1000000 ≤ q.x ∧ q.x ≤ 1000000) (hy : -1000000 ≤ q.y ∧ q.y ≤ 1000000) :
    Calls Tryz.prog 42 #[Qv q, .slice (some ⟨g, o, none⟩) a.length c, Bx b] w fun e w' => e = .returned (.bool (decide (Ward.dist b q.x q.y ≤ Ward.dist (Ward.boxOf p) q.x q.y))) ∧ Below w.heap.size w w' := by
  have hglt := hp.lt
  have HDB := hide (fun W => distance_any b q.x q.y W hb hx hy)
  have HDP := hide (fun W => distance_any (Ward.boxOf p) q.x q.y W (boxOf_in hok) hx hy)
  clear hok hb hx hy
  obtain ⟨qk, qa, qb, qc, qd, qx, qy, qn⟩ := q
  simp only at hk hl HDB HDP
  subst hk
  have hb2 := fun o o' => ((Below.refl w.heap.size w).alloc (Nat.le_refl _) o).alloc (by simp) o'
  have hr2 := heap_alloc2_new w
  have hr1 := heap_alloc2_old w
  have hs2 := fun o o' => show ((w.alloc o).alloc o').heap.size = w.heap.size + 2 by simp
  go_enter Tryz.func42, Tryz.ntmps42
  go_upto_region 3 with fail
  generalize hW : World.alloc (World.alloc w _) _ = w1
  have hb1 : Below w.heap.size w w1 := by rw [← hW]; exact hb2 _ _
  have hq1 : w1.heap[w.heap.size]? = some (.cells #[I 1, I qa, I qb, I qc, I qd, I qx, I qy, I qn] 46 (0, 0)) := by rw [← hW]; exact hr1 _ _
  have hx1 : w1.heap[w.heap.size + 1]? = some (.cells #[I b.a, I b.b, I b.c, I b.d] 88 (0, 0)) := by rw [← hW]; exact hr2 _ _
  have hs1 : w.heap.size + 2 ≤ w1.heap.size := by rw [← hW, hs2]; exact Nat.le_refl _
  clear hb2 hr1 hr2 hs2 hW
  have HB1 := hide hb1
  have HQ1 := hide hq1
  have HX1 := hide hx1
  obtain ⟨k0, k1, k2, k3, k4, k5, k6, k7⟩ := rowQ8 hq1
  have hp1 := hp.below hb1 hglt
  have e1 : ((a.length - 1 : Nat) : Int) = (a.length : Int) - 1 := by omega
  have HI := hide e1
  obtain ⟨p1, p2, p3⟩ := hp1
  have hl' : ¬ (a.length : Int) < qn := hl
  clear hb1 hq1 hx1 e1 hp
  have hix : ((a.length : Int) - 1).toNat = a.length - 1 := by omega
  go_wp2_with fail
  refine (boxOf_any p _).mono ?_
  rintro _ w2 ⟨rfl, hb2⟩
  have hs2 := hb2.size
  have HB2 := hide (HB1.out.trans (hb2.mono (by omega)))
  have HQ2 := hide ((hb2.block w.heap.size (by omega)).trans HQ1.out)
  have HX2 := hide ((hb2.block (w.heap.size + 1) (by omega)).trans HX1.out)
  clear hb2 k0 k1 k2 k3 k4 k5 k6 k7 p1 p2 p3
  have hr3' := heap_alloc_new w2
  have hb3' := fun o => (Below.refl w2.heap.size w2).alloc (Nat.le_refl _) o
  have hs3' := fun o => show (w2.alloc o).heap.size = w2.heap.size + 1 by simp
  go_upto_region 6 with fail
  generalize hW : World.alloc w2 _ = w3
  have hb3 : Below w2.heap.size w2 w3 := by rw [← hW]; exact hb3' _
  have hr3 : w3.heap[w2.heap.size]? = some (.cells #[I (Ward.boxOf p).a, I (Ward.boxOf p).b, I (Ward.boxOf p).c, I (Ward.boxOf p).d] 88 (0, 0)) := by rw [← hW]; exact hr3' _
  have hs3 : w2.heap.size + 1 ≤ w3.heap.size := by rw [← hW, hs3']; exact Nat.le_refl _
  clear hb3' hr3' hs3' hW
  have HB3 := hide (HB2.out.trans (hb3.mono (by omega)))
  obtain ⟨-, -, -, -, -, q5, q6, -⟩ := rowQ8 ((hb3.block w.heap.size (by omega)).trans HQ2.out)
  have hS : QryTwo w3 w.heap.size (w.heap.size + 1) w2.heap.size ⟨1, qa, qb, qc, qd, qx, qy, qn⟩ b (Ward.boxOf p) := ⟨⟨q5, q6⟩, row4 ((hb3.block (w.heap.size + 1) (by omega)).trans HX2.out), row4 hr3⟩
  have HS := hide hS
  clear hb3 hr3 q5 q6
  have HRW := hide (show decide (Ward.dist b qx qy ≤ Ward.dist (Ward.boxOf p) qx qy) = decide (Ward.dist b qx qy ≤ Ward.dist (Ward.boxOf p) qx qy) from rfl)
  generalize hbp : Ward.boxOf p = bp at *
  have HBP := hide hbp
  generalize hd1 : Ward.dist b qx qy = d1 at *
  have HD1 := hide hd1
  generalize hd2 : Ward.dist bp qx qy = d2 at *
  have HD2 := hide hd2
  clear hbp hd1 hd2 HRW
  obtain ⟨ba, bb, bc, bd⟩ := b
  obtain ⟨ca, cb, cc, cd⟩ := bp
  go_region_held3 (fun W => (W.cell? ⟨w.heap.size, 5, none⟩ = some (I qx) ∧ W.cell? ⟨w.heap.size, 6, none⟩ = some (I qy)) ∧ (W.cell? ⟨w.heap.size + 1, 0, none⟩ = some (I ba) ∧ W.cell? ⟨w.heap.size + 1, 1, none⟩ = some (I bb) ∧ W.cell? ⟨w.heap.size + 1, 2, none⟩ = some (I bc) ∧ W.cell? ⟨w.heap.size + 1, 3, none⟩ = some (I bd)) ∧ (W.cell? ⟨w2.heap.size, 0, none⟩ = some (I ca) ∧ W.cell? ⟨w2.heap.size, 1, none⟩ = some (I cb) ∧ W.cell? ⟨w2.heap.size, 2, none⟩ = some (I cc) ∧ W.cell? ⟨w2.heap.size, 3, none⟩ = some (I cd))) (first | assumption | exact hS | exact hS.drew) ((first | (go_at_call_of 80 (I ba); refine (HDB.out _).mono ?_; rintro _ w6 ⟨rfl, hb6⟩; first | (have hS6 := HS.out.drew.below hb6 (by simp; omega) (by simp; omega) (by simp; omega); have hs6 : w3.heap.size ≤ w6.heap.size := hb6.size) | (have hs6 := hb6.size; have hS6 := hS7.below hb6 (by omega) (by omega) (by omega))) | (go_at_call_of 80 (I ca); refine (HDP.out _).mono ?_; rintro _ w7 ⟨rfl, hb7⟩; first | (have hs7 := hb7.size; have hS7 := hS6.below hb7 (by omega) (by omega) (by omega)) | (have hS7 := HS.out.drew.below hb7 (by simp; omega) (by simp; omega) (by simp; omega); have hs7 : w3.heap.size ≤ w7.heap.size := hb7.size))))
  go_wp2
  go_ret
  refine ⟨by rw [HBP.out, HD1.out, HD2.out]; rfl, (HB3.out.drew.trans (hb6.mono ?_)).trans (hb7.mono ?_)⟩
  · show w.heap.size ≤ w3.heap.size
    omega
  · omega
end Go.Proofs.YtenaelkbgkpllaaGreatDoor
/- What stands right below a node, put onto the heap: the points. -/
namespace Go.Proofs.YtenaelkbgkpllaaGreatDoor
open Go.RowKit

/-- the entry of a point -/
def ptEn (x y : Int) (p : Ward.Pt) : En := ⟨Ward.distP p x y, none, p⟩
/-- the entry of a child -/
def kidEn (x y : Int) (g o : Nat) (n : Nat) (c : Ward.NT n) (i : Nat) : En := ⟨Ward.dist (Ward.boxN n c) x y, some ⟨g, o + i * 39, none⟩, ⟨0, 0, 0⟩⟩
/-- a heap with some more -/
structure Grew (w w' : World) (h B : Nat) (v v' : Value) (l l' : List En) : Prop where
  at' : HeapAt w' h B v' l'
  perm : l'.Perm l
  ok : Heap.Ok enLt (Heap.at' l') l'.length
  keeps : Keeps (Heaps h v) w w'
  fresh : Fresh w v v'
theorem Grew.below {w w' w'' : World} {h B : Nat} {v v' : Value} {l l' : List En} (H : Grew w w' h B v v' l l') (hb : Below w'.heap.size w' w'') : Grew w w'' h B v v' l l' := ⟨H.at'.below hb, H.perm, H.ok, H.keeps.trans (Keeps.of_below (S := Heaps h v) hb) (fun _ _ h => h), H.fresh⟩
theorem Grew.push {w w' w'' : World} {h B : Nat} {v v' v'' : Value} {l l' l'' : List En} {e : En} (H : Grew w w' h B v v' l l') (h1 : HeapAt w'' h B v'' l'') (h2 : l''.Perm (l' ++ [e])) (h3 : Heap.Ok enLt (Heap.at' l'') l''.length) (h4 : Keeps (Heaps h v') w' w'') (h5 : Fresh w' v' v'') : Grew w w'' h B v v'' (l ++ [e]) l'' :=
  ⟨h1, h2.trans (H.perm.append_right [e]), h3, H.keeps.trans h4 (fun j hj hh => heaps_fresh H.fresh j hj hh), fresh_trans H.fresh H.keeps.size h5⟩
/-- what the round of a point reads -/
def PtQry (w : World) (k g : Nat) (p : Ward.Pt) (x y : Int) : Prop := (w.cell? ⟨k, 0, none⟩ = some (I p.id) ∧ w.cell? ⟨k, 1, none⟩ = some (I p.x) ∧ w.cell? ⟨k, 2, none⟩ = some (I p.y)) ∧ w.cell? ⟨g, 5, none⟩ = some (I x) ∧ w.cell? ⟨g, 6, none⟩ = some (I y)
theorem PtQry.below {w w' : World} {k g B : Nat} {p : Ward.Pt} {x y : Int} (h : PtQry w k g p x y) (hb : Below B w w') (hk : k < B) (hg : g < B) : PtQry w' k g p x y :=
  ⟨⟨(hb.cell (p := ⟨k, 0, none⟩) hk).trans h.1.1, (hb.cell (p := ⟨k, 1, none⟩) hk).trans h.1.2.1, (hb.cell (p := ⟨k, 2, none⟩) hk).trans h.1.2.2⟩, (hb.cell (p := ⟨g, 5, none⟩) hg).trans h.2.1, (hb.cell (p := ⟨g, 6, none⟩) hg).trans h.2.2⟩
theorem PtQry.drew {w : World} {k g : Nat} {p : Ward.Pt} {x y : Int} (h : PtQry w k g p x y) : PtQry w.drew k g p x y := by simpa [PtQry] using h
theorem Keeps.cell {S : Nat → Prop} {w w' : World} (hk : Keeps S w w') {g o : Nat} {v : Value} (hg : ¬ S g) (hc : w.cell? ⟨g, o, none⟩ = some v) : w'.cell? ⟨g, o, none⟩ = some v :=
  (World.cell?_of_block (w := w) (a := ⟨g, o, none⟩) (hk.block g (block_lt_of_cell hc) hg)).trans hc
theorem PtQry.keeps {S : Nat → Prop} {w w' : World} {k g : Nat} {p : Ward.Pt} {x y : Int} (h : PtQry w k g p x y) (hk : Keeps S w w') (h1 : ¬ S k) (h2 : ¬ S g) : PtQry w' k g p x y :=
  ⟨⟨hk.cell h1 h.1.1, hk.cell h1 h.1.2.1, hk.cell h1 h.1.2.2⟩, hk.cell h2 h.2.1, hk.cell h2 h.2.2⟩
/-- what the round of a child reads -/
def KdQry (w : World) (k o g : Nat) (b : Ward.Box) (x y : Int) : Prop := (w.cell? ⟨k, o + 2, none⟩ = some (I b.a) ∧ w.cell? ⟨k, o + 3, none⟩ = some (I b.b) ∧ w.cell? ⟨k, o + 4, none⟩ = some (I b.c) ∧ w.cell? ⟨k, o + 5, none⟩ = some (I b.d)) ∧ w.cell? ⟨g, 5, none⟩ = some (I x) ∧ w.cell? ⟨g, 6, none⟩ = some (I y)
theorem KdQry.below {w w' : World} {k o g B : Nat} {b : Ward.Box} {x y : Int} (h : KdQry w k o g b x y) (hb : Below B w w') (hk : k < B) (hg : g < B) : KdQry w' k o g b x y :=
  ⟨⟨(hb.cell (p := ⟨k, o + 2, none⟩) hk).trans h.1.1, (hb.cell (p := ⟨k, o + 3, none⟩) hk).trans h.1.2.1, (hb.cell (p := ⟨k, o + 4, none⟩) hk).trans h.1.2.2.1, (hb.cell (p := ⟨k, o + 5, none⟩) hk).trans h.1.2.2.2⟩, (hb.cell (p := ⟨g, 5, none⟩) hg).trans h.2.1, (hb.cell (p := ⟨g, 6, none⟩) hg).trans h.2.2⟩
theorem KdQry.drew {w : World} {k o g : Nat} {b : Ward.Box} {x y : Int} (h : KdQry w k o g b x y) : KdQry w.drew k o g b x y := by simpa [KdQry] using h
theorem KdQry.keeps {S : Nat → Prop} {w w' : World} {k o g : Nat} {b : Ward.Box} {x y : Int} (h : KdQry w k o g b x y) (hk : Keeps S w w') (h1 : ¬ S k) (h2 : ¬ S g) : KdQry w' k o g b x y :=
  ⟨⟨hk.cell h1 h.1.1, hk.cell h1 h.1.2.1, hk.cell h1 h.1.2.2.1, hk.cell h1 h.1.2.2.2⟩, hk.cell h2 h.2.1, hk.cell h2 h.2.2⟩
theorem ownE_other {w : World} {B g : Nat} {v : Value} {l : List En} {c : Array Value} {ty : Nat} {fr : Nat × Nat} (h : OwnE w B v l) (hg : w.heap[g]? = some (Obj.cells c ty fr)) (ht : ty ≠ 166) : v.ownBlock ≠ some g := fun e => by
  rcases h.2 with ⟨rfl, _⟩ | ⟨g', cap, cur, rfl, _, hg', _⟩
  · cases e
  · injection e with e
    have e' : g' = g := e
    subst e'
    rw [hg] at hg'
    injection hg' with hg'
    injection hg' with _ h2 _
    exact ht h2
theorem built_en (d : Int) (p : Ward.Pt) : Tryz.prog.built 166 [(0, I d), (2, .agg #[I p.id, I p.x, I p.y])] = some #[I d, .pointer none, I p.id, I p.x, I p.y] := by kernel_rfl
/-- the entries of children -/
def kidsEn (x y : Int) (g o n : Nat) (K : List (Ward.NT n)) : List En := K.mapIdx (fun i c => kidEn x y g o n c i)
theorem kidsEn_step (x y : Int) (g o n : Nat) (K : List (Ward.NT n)) (i : Nat) (h : i < K.length) : kidsEn x y g o n (K.take (i + 1)) = kidsEn x y g o n (K.take i) ++ [kidEn x y g o n K[i] i] := by
  unfold kidsEn
  rw [List.take_succ_eq_append_getElem h, List.mapIdx_concat, List.length_take, Nat.min_eq_left (by omega)]
theorem range_cell {w : World} {g o : Nat} {U : List Value} (h : w.rangeAt g o U) {j : Nat} {v : Value} (hj : U[j]? = some v) : w.cell? ⟨g, o + j, none⟩ = some v := h j v hj
theorem Keeps.same {S : Nat → Prop} {w w' : World} {h B : Nat} {v : Value} {l : List En} (hk : Keeps (Heaps h v) w w') (hS : ∀ g, S g → g < B) (hhB : B ≤ h) (hB : B ≤ w.heap.size) (ho : OwnE w B v l) : Same S w w' := fun g hg => hk.block g (Nat.lt_of_lt_of_le (hS g hg) hB) (fun e => by
  have := hS g hg
  rcases e with e | e
  · omega
  · have := (ho.lt e.symm).1; omega)
set_option maxRecDepth 100000 in
set_option maxHeartbeats 4000000 in
theorem open_any (h : Nat) (v : Value) (l : List En) (g o n : Nat) (t : Ward.NT (n + 1)) (U : List Value) (q : Ward.Qr) (w : World) (B : Nat) (S : Nat → Prop) (hS : ∀ g, S g → g < B) (hhB : B ≤ h) (hB : B ≤ w.heap.size) (H : HeapAt w h B v l) (hok : Heap.Ok enLt (Heap.at' l) l.length)
    (hN : NodeIs w S (n + 1) t U) (hg : S g) (hU : w.rangeAt g o U) (hfew : Ward.Few (n + 1) t) (hin : Ward.InN (n + 1) t) (hpt : ∀ p ∈ Ward.Nd.pts t, p.Ok) (hl : l.length ≤ 80000) (hx : -1000000 ≤ q.x ∧ q.x ≤ 1000000) (hy : -1000000 ≤ q.y ∧ q.y ≤ 1000000) :
    Calls Tryz.prog 116 #[.pointer (some ⟨h, 0, none⟩), .pointer (some ⟨g, o, none⟩), Qv q] w fun r w' => r = .returned (.tuple #[]) ∧ ∃ v' l' gc oc, Grew w w' h B v v' (l ++ ((Ward.Nd.pts t).map (ptEn q.x q.y) ++ kidsEn q.x q.y gc oc n (Ward.Nd.kids t))) l' ∧ (Ward.Nd.kids t ≠ [] → S gc) ∧ ∀ i (h : i < (Ward.Nd.kids t).length), ∃ V, NodeIs w S n (Ward.Nd.kids t)[i] V ∧ w.rangeAt gc (oc + i * 39) V := by
  obtain ⟨vp, vc, hVe, -, ⟨ap, cp, rfl, hpts⟩, ⟨ac, cc, rfl, hkids⟩⟩ := hN
  have hp4 : (Ward.Nd.pts t).length ≤ 4 := hfew.1
  have hk4 : (Ward.Nd.kids t).length ≤ 4 := hfew.2.1
  have HU0 := hide (range_cell hU (j := 0) (v := .slice ap (Ward.Nd.pts t).length cp) (by rw [hVe]; rfl))
  have HU1 := hide (range_cell hU (j := 1) (v := .slice ac (Ward.Nd.kids t).length cc) (by rw [hVe]; rfl))
  have hgB := hS g hg
  have HS := hide hS
  have HPT := hide hpts
  have HKD := hide hkids
  have HPO := hide hpt
  have HIN := hide hin
  have HX := hide hx
  have HY := hide hy
  have HGS := hide hg
  have HH := hide H
  have HG0 := hide (show Grew w w h B v v l l from ⟨H, List.Perm.refl _, hok, Keeps.refl _ _, .inl rfl⟩)
  clear hVe hpts hkids hpt hin hU hS H hok hfew hx hy hg
  have hb2 := fun o => (Below.refl w.heap.size w).alloc (Nat.le_refl _) o
  have hr2 := heap_alloc_new w
  have hs2 := fun o => show (w.alloc o).heap.size = w.heap.size + 1 by simp
  obtain ⟨qk, qa, qb, qc, qd, qx, qy, qn⟩ := q
  simp only at HX HY ⊢
  go_enter Tryz.func116, Tryz.ntmps116
  go_upto_region 1 with fail
  generalize hW : World.alloc w _ = w1
  have hb1 : Below w.heap.size w w1 := by rw [← hW]; exact hb2 _
  have hr1 : w1.heap[w.heap.size]? = some (.cells #[I qk, I qa, I qb, I qc, I qd, I qx, I qy, I qn] 46 (0, 0)) := by rw [← hW]; exact hr2 _
  have hs1 : w.heap.size + 1 ≤ w1.heap.size := by rw [← hW, hs2]; exact Nat.le_refl _
  clear hb2 hr2 hs2 hW
  have HB1 := hide hb1
  have HR1 := hide hr1
  have HG1 := hide (HG0.out.below hb1)
  have c0 := (hb1.cell (p := ⟨g, o + 0, none⟩) (show g < w.heap.size by omega)).trans HU0.out
  simp only [Nat.add_zero] at c0
  clear hb1 hr1 HG0
  go_wp2_with fail
  go_loopg [15] (Ward.Nd.pts t).length (fun gk v15 wq => ∃ (i : Nat) (v' : Value) (l' : List En), gk = (Ward.Nd.pts t).length - i ∧ v15 = I i ∧ i ≤ (Ward.Nd.pts t).length ∧ Grew w wq h B v v' (l ++ ((Ward.Nd.pts t).take i).map (ptEn qx qy)) l' ∧ wq.heap[w.heap.size]? = some (.cells #[I qk, I qa, I qb, I qc, I qd, I qx, I qy, I qn] 46 (0, 0)))
  case atStart => exact ⟨0, v, l, rfl, rfl, by omega, by simpa using HG1.out, HR1.out⟩
  case round =>
    clear HG1 HR1 c0
    obtain ⟨i, v', l', hgk, rfl, hi, hG, hR⟩ := hrel
    have HGK := hide hgk
    have HG := hide hG
    have HR := hide hR
    have hwr := hG.keeps.size
    have hlw : w.heap.size < wr.heap.size := (Array.getElem?_eq_some_iff.1 hR).1
    have HSM := hide (Keeps.same hG.keeps HS.out hhB hB HH.out.own)
    have hl' : l'.length = l.length + i := by
      rw [hG.perm.length_eq, List.length_append, List.length_map, List.length_take]; omega
    clear hgk hG hR
    by_cases hlt : i < (Ward.Nd.pts t).length
    · obtain ⟨gp, op, rfl, hgpS, hpp⟩ := HPT.out (fun e => by rw [e] at hlt; simp at hlt)
      have hpi := (hpp i hlt).block (w' := wr) (HSM.out gp hgpS)
      have hpok := HPO.out _ (List.getElem_mem hlt)
      have HT := hide (show l ++ ((Ward.Nd.pts t).take (i + 1)).map (ptEn qx qy) = (l ++ ((Ward.Nd.pts t).take i).map (ptEn qx qy)) ++ [ptEn qx qy (Ward.Nd.pts t)[i]] by rw [List.take_succ_eq_append_getElem hlt, List.map_append, List.append_assoc]; rfl)
      clear hpp
      generalize (Ward.Nd.pts t)[i] = p at *
      generalize l ++ ((Ward.Nd.pts t).take i).map (ptEn qx qy) = M at *
      have hll : l'.length ≤ 80004 := by omega
      clear hl'
      obtain ⟨p1, p2, p3⟩ := hpi
      go_upto_region 4 with fail
      have hb5' := fun o => (Below.refl wr.heap.size wr).alloc (Nat.le_refl _) o
      have hr5' := heap_alloc_new wr
      have hs5' := fun o => show (wr.alloc o).heap.size = wr.heap.size + 1 by simp
      generalize hW : World.alloc wr _ = w5
      have hb5 : Below wr.heap.size wr w5 := by rw [← hW]; exact hb5' _
      have hr5 : w5.heap[wr.heap.size]? = some (.cells #[I p.id, I p.x, I p.y] 36 (0, 0)) := by rw [← hW]; exact hr5' _
      have hs5 : wr.heap.size + 1 ≤ w5.heap.size := by rw [← hW, hs5']; exact Nat.le_refl _
      clear hb5' hr5' hs5' hW
      have HG5 := hide (HG.out.below hb5)
      obtain ⟨-, -, -, -, -, q5, q6, -⟩ := rowQ8 ((hb5.block w.heap.size (by omega)).trans HR.out)
      have hS5 : PtQry w5 wr.heap.size w.heap.size p qx qy := ⟨row3 hr5, q5, q6⟩
      have HS5 := hide hS5
      have HR5 := hide ((hb5.block w.heap.size (by omega)).trans HR.out)
      have HDI := hide (fun W => distance_any (Ward.boxOf p) qx qy W (boxOf_in hpok) HX.out HY.out)
      have HPE := hide (show ptEn qx qy p = ⟨Ward.dist (Ward.boxOf p) qx qy, none, p⟩ from rfl)
      have HPU := hide (fun (W : World) (hb : Below w5.heap.size w5 W) => heapPush_any h v' l' (ptEn qx qy p) W B (HG5.out.at'.below hb) (by have := hb.size; omega) (by omega) HG5.out.ok)
      have HNA := hide (show ¬ Heaps h v' wr.heap.size ∧ ¬ Heaps h v' w.heap.size from ⟨fun e => by
        have hhw := HH.out.lt
        rcases e with e | e
        · omega
        · have := (HG.out.at'.own.lt e.symm).2; omega, fun e => by
        have hhw := HH.out.lt
        rcases e with e | e
        · omega
        · exact ownE_other HG.out.at'.own HR.out (by decide) e.symm⟩)
      clear hb5 hr5 q5 q6 p1 p2 p3
      rw [HPE.out] at HPU
      generalize Ward.dist (Ward.boxOf p) qx qy = dd at *
      have HBO := hide (fun W => boxOf_any p W)
      generalize Ward.boxOf p = bp at *
      obtain ⟨pi, px, py⟩ := p
      simp only at *
      go_region_held3 (fun W => (W.cell? ⟨wr.heap.size, 0, none⟩ = some (I pi) ∧ W.cell? ⟨wr.heap.size, 1, none⟩ = some (I px) ∧ W.cell? ⟨wr.heap.size, 2, none⟩ = some (I py)) ∧ W.cell? ⟨w.heap.size, 5, none⟩ = some (I qx) ∧ W.cell? ⟨w.heap.size, 6, none⟩ = some (I qy)) (first | assumption | exact hS5 | exact HS5.out.drew) ((first | (go_at_call 79; refine (HBO.out _).mono ?_; rintro _ w6 ⟨rfl, hb6⟩; have hs6 : w5.heap.size ≤ w6.heap.size := hb6.size; have hS6 := HS5.out.drew.below hb6 (by simp; omega) (by simp; omega)) | (go_at_call 80; refine (HDI.out _).mono ?_; rintro _ w7 ⟨rfl, hb7⟩; have hs7 := hb7.size; have hS7 := hS6.below hb7 (by omega) (by omega)) | (go_at_call 145; refine (HPU.out _ ((((Below.refl w5.heap.size w5).drew).trans hb6).trans (hb7.mono hs6))).mono ?_; rintro _ w8 ⟨rfl, v8, l8, hh8, hp8, ho8, hk8, hf8⟩; have hS8 := hS7.keeps hk8 HNA.out.1 HNA.out.2)))
      have HB7 := hide (show Below w5.heap.size w5 w7 from (((Below.refl w5.heap.size w5).drew).trans hb6).trans (hb7.mono hs6))
      have HR8 := hide ((hk8.block w.heap.size (by omega) HNA.out.2).trans ((HB7.out.block w.heap.size (by omega)).trans HR5.out))
      have HG8 := hide ((HG5.out.below HB7.out).push hh8 hp8 ho8 hk8 hf8)
      clear hb6 hb7 hh8 hp8 ho8 hk8 hf8 hS5 hS6 hS7 hS8 hs6 hs7
      go_wp2_with fail
      go_roundg ((Ward.Nd.pts t).length - (i + 1))
      case measure => have := HGK.out; omega
      case rel =>
        refine ⟨i + 1, v8, l8, rfl, by go_num, hlt, ?_, HR8.out⟩
        rw [HT.out, HPE.out]
        exact HG8.out
    · have ei : i = (Ward.Nd.pts t).length := by omega
      subst ei
      rw [List.take_length] at HG
      obtain ⟨wx, hwx⟩ : ∃ wx, wx = wr := ⟨_, rfl⟩
      subst hwx
      obtain ⟨vx, hvx⟩ : ∃ vx, vx = v' := ⟨_, rfl⟩
      subst hvx
      obtain ⟨lx, hlx⟩ : ∃ lx, lx = l' := ⟨_, rfl⟩
      subst hlx
      have HU1x := hide ((World.cell?_of_block (w := w) (a := ⟨g, o + 1, none⟩) (HSM.out g HGS.out)).trans HU1.out)
      generalize hME : l ++ (Ward.Nd.pts t).map (ptEn qx qy) = M at *
      have HME := hide hME
      have hlx' : lx.length ≤ 80004 := by omega
      clear hME hl' hi hlt HGK HPT
      have cx := HU1x.out
      have HKD2 := hide (show ∃ gc oc, (Ward.Nd.kids t ≠ [] → ac = some ⟨gc, oc, none⟩ ∧ S gc) ∧ ∀ i (h : i < (Ward.Nd.kids t).length), ∃ V, NodeIs w S n (Ward.Nd.kids t)[i] V ∧ w.rangeAt gc (oc + i * 39) V by
        by_cases hk0 : Ward.Nd.kids t = []
        · exact ⟨0, 0, fun e => absurd hk0 e, fun i h => by rw [hk0] at h; simp at h⟩
        · obtain ⟨gc, oc, e, hgcS, hrows⟩ := HKD.out hk0
          exact ⟨gc, oc, fun _ => ⟨e, hgcS⟩, hrows⟩)
      obtain ⟨gc, oc, hac, hrows⟩ := HKD2.out
      have HAC := hide hac
      have HRW := hide hrows
      clear hac hrows HKD HKD2
      go_wp2_with fail
      go_loopg [38] (Ward.Nd.kids t).length (fun gk v38 wq => ∃ (i : Nat) (v' : Value) (l' : List En), gk = (Ward.Nd.kids t).length - i ∧ v38 = I i ∧ i ≤ (Ward.Nd.kids t).length ∧ Grew w wq h B v v' (M ++ kidsEn qx qy gc oc n ((Ward.Nd.kids t).take i)) l' ∧ wq.heap[w.heap.size]? = some (.cells #[I qk, I qa, I qb, I qc, I qd, I qx, I qy, I qn] 46 (0, 0)))
      case atStart => exact ⟨0, vx, lx, rfl, rfl, by omega, by rw [List.take_zero]; show Grew w wx h B v vx (M ++ []) lx; rw [List.append_nil]; exact HG.out, HR.out⟩
      case round =>
        clear HG HR HSM HU1x cx hwr hlw hlx'
        obtain ⟨i, v', l', hgk, rfl, hi, hG, hR⟩ := hrel
        have HGK := hide hgk
        have HG := hide hG
        have HR := hide hR
        have hwr := hG.keeps.size
        have hlw : w.heap.size < wr.heap.size := (Array.getElem?_eq_some_iff.1 hR).1
        have HSM := hide (Keeps.same hG.keeps HS.out hhB hB HH.out.own)
        have hl' : l'.length ≤ 80008 := by
          rw [hG.perm.length_eq, List.length_append, ← HME.out, List.length_append, List.length_map]
          unfold kidsEn
          rw [List.length_mapIdx, List.length_take]; omega
        have cx := (World.cell?_of_block (w := w) (a := ⟨g, o + 1, none⟩) (HSM.out g HGS.out)).trans HU1.out
        clear hgk hG hR
        by_cases hlt : i < (Ward.Nd.kids t).length
        · obtain ⟨rfl, hgcS⟩ := HAC.out (fun e => by rw [e] at hlt; simp at hlt)
          obtain ⟨V, hV, hc⟩ := HRW.out i hlt
          have hcr := rangeAt_block hc (HSM.out gc hgcS)
          obtain ⟨d1, m1, e1, d2, m2, e2, hVV, hd⟩ := hV.cells
          have b0 := range_cell hcr (j := 2) (v := I (Ward.boxN n (Ward.Nd.kids t)[i]).a) (by rw [hVV]; rfl)
          have b1 := range_cell hcr (j := 3) (v := I (Ward.boxN n (Ward.Nd.kids t)[i]).b) (by rw [hVV]; rfl)
          have b2 := range_cell hcr (j := 4) (v := I (Ward.boxN n (Ward.Nd.kids t)[i]).c) (by rw [hVV]; rfl)
          have b3 := range_cell hcr (j := 5) (v := I (Ward.boxN n (Ward.Nd.kids t)[i]).d) (by rw [hVV]; rfl)
          have hbi := (HIN.out _ (List.getElem_mem hlt)).1
          have HT := hide (show M ++ kidsEn qx qy gc oc n ((Ward.Nd.kids t).take (i + 1)) = (M ++ kidsEn qx qy gc oc n ((Ward.Nd.kids t).take i)) ++ [kidEn qx qy gc oc n (Ward.Nd.kids t)[i] i] by rw [kidsEn_step _ _ _ _ _ _ _ hlt, List.append_assoc])
          have HKE := hide (show kidEn qx qy gc oc n (Ward.Nd.kids t)[i] i = ⟨Ward.dist (Ward.boxN n (Ward.Nd.kids t)[i]) qx qy, some ⟨gc, oc + i * 39, none⟩, ⟨0, 0, 0⟩⟩ from rfl)
          have hgcl : gc < w.heap.size := by have := HS.out gc hgcS; omega
          clear hVV hd hcr hV hc
          generalize kidEn qx qy gc oc n (Ward.Nd.kids t)[i] i = ke at *
          generalize Ward.boxN n (Ward.Nd.kids t)[i] = bk at *
          generalize M ++ kidsEn qx qy gc oc n ((Ward.Nd.kids t).take i) = N at *
          have HDI := hide (fun W => distance_any bk qx qy W hbi HX.out HY.out)
          have HPU := hide (fun (W : World) (hb : Below wr.heap.size wr W) => heapPush_any h v' l' ke W B (HG.out.at'.below hb) (by have := hb.size; omega) (by omega) HG.out.ok)
          rw [HKE.out] at HPU
          generalize Ward.dist bk qx qy = dd at *
          go_upto_region 10 with fail
          obtain ⟨-, -, -, -, -, q5, q6, -⟩ := rowQ8 HR.out
          have hS5 : KdQry wr gc (oc + i * 39) w.heap.size bk qx qy := ⟨⟨b0, b1, b2, b3⟩, q5, q6⟩
          have HS5 := hide hS5
          have HNA := hide (show ¬ Heaps h v' gc ∧ ¬ Heaps h v' w.heap.size from ⟨fun e => by
            have hhw := HS.out gc hgcS
            rcases e with e | e
            · omega
            · have := (HG.out.at'.own.lt e.symm).1; omega, fun e => by
            have hhw := HH.out.lt
            rcases e with e | e
            · omega
            · exact ownE_other HG.out.at'.own HR.out (by decide) e.symm⟩)
          clear q5 q6 b0 b1 b2 b3
          obtain ⟨ba, bb, bc, bd⟩ := bk
          simp only at *
          go_region_held3 (fun W => (W.cell? ⟨gc, oc + i * 39 + 2, none⟩ = some (I ba) ∧ W.cell? ⟨gc, oc + i * 39 + 3, none⟩ = some (I bb) ∧ W.cell? ⟨gc, oc + i * 39 + 4, none⟩ = some (I bc) ∧ W.cell? ⟨gc, oc + i * 39 + 5, none⟩ = some (I bd)) ∧ W.cell? ⟨w.heap.size, 5, none⟩ = some (I qx) ∧ W.cell? ⟨w.heap.size, 6, none⟩ = some (I qy)) (first | assumption | exact hS5 | exact HS5.out.drew) ((first | (go_at_call 80; refine (HDI.out _).mono ?_; rintro _ w7 ⟨rfl, hb7⟩; have hs7 : wr.heap.size ≤ w7.heap.size := hb7.size; have hS7 := HS5.out.drew.below hb7 (by simp; omega) (by simp; omega)) | (go_at_call 145; refine (HPU.out _ (((Below.refl wr.heap.size wr).drew).trans hb7)).mono ?_; rintro _ w8 ⟨rfl, v8, l8, hh8, hp8, ho8, hk8, hf8⟩; have hS8 := hS7.keeps hk8 HNA.out.1 HNA.out.2)))
          have HB7 := hide (show Below wr.heap.size wr w7 from ((Below.refl wr.heap.size wr).drew).trans hb7)
          have HR8 := hide ((hk8.block w.heap.size (by omega) HNA.out.2).trans ((HB7.out.block w.heap.size (by omega)).trans HR.out))
          have HG8 := hide ((HG.out.below HB7.out).push hh8 hp8 ho8 hk8 hf8)
          clear hb7 hh8 hp8 ho8 hk8 hf8 hS5 hS7 hS8 hs7
          go_wp2_with fail
          go_roundg ((Ward.Nd.kids t).length - (i + 1))
          case measure => have := HGK.out; omega
          case rel =>
            refine ⟨i + 1, v8, l8, rfl, by go_num, hlt, ?_, HR8.out⟩
            rw [HT.out, HKE.out]
            exact HG8.out
        · have ei : i = (Ward.Nd.kids t).length := by omega
          subst ei
          rw [List.take_length, ← HME.out, List.append_assoc] at HG
          go_wp2_with fail
          go_end0
          exact ⟨rfl, v', l', gc, oc, HG.out, fun e => (HAC.out e).2, HRW.out⟩
end Go.Proofs.YtenaelkbgkpllaaGreatDoor
/- The answer of the points that are shown is that of all. -/
namespace Go.Proofs.YtenaelkbgkpllaaGreatDoor
namespace Ward
theorem pt_ext {p q : Pt} (h1 : p.id = q.id) (h2 : p.x = q.x) (h3 : p.y = q.y) : p = q := by
  cases p
  cases q
  simp only at h1 h2 h3
  subst h1 h2 h3
  rfl
instance : DecidableEq Pt := fun p q => decidable_of_iff (p.id = q.id ∧ p.x = q.x ∧ p.y = q.y) ⟨fun h => pt_ext h.1 h.2.1 h.2.2, fun h => by subst h; exact ⟨rfl, rfl, rfl⟩⟩
theorem ids_eq {P : List Pt} (h : Ids P) {p q : Pt} (hp : p ∈ P) (hq : q ∈ P) (e : p.id = q.id) : p = q := by
  induction P with
  | nil => simp at hp
  | cons a P ih =>
    obtain ⟨h1, h2⟩ := List.pairwise_cons.1 h
    rcases List.mem_cons.1 hp with hpa | hp <;> rcases List.mem_cons.1 hq with hqa | hq
    · rw [hpa, hqa]
    · rw [hpa] at e; exact absurd e (h1 q hq)
    · rw [hqa] at e; exact absurd e.symm (h1 p hp)
    · exact ih h2 hp hq
theorem ids_nodup {P : List Pt} (h : Ids P) : P.Nodup := h.imp fun hne e => hne (by rw [e])
/-- the points that are among others -/
theorem filter_sub {V P : List Pt} (hV : V.Sublist P) (hP : P.Nodup) : P.filter (fun p => decide (p ∈ V)) = V := by
  induction hV with
  | slnil => rfl
  | cons a h ih =>
    rename_i l₁ l₂
    obtain ⟨h1, h2⟩ := List.nodup_cons.1 hP
    rw [List.filter_cons_of_neg (by simp only [decide_eq_true_eq]; exact fun e => h1 (h.subset e)), ih h2]
  | cons_cons a h ih =>
    rename_i l₁ l₂
    obtain ⟨h1, h2⟩ := List.nodup_cons.1 hP
    rw [List.filter_cons_of_pos (by simp)]
    congr 1
    rw [← ih h2]
    refine List.filter_congr fun p hp => ?_
    have hpa : p ≠ a := fun e => h1 (e ▸ hp)
    rw [ih h2]
    simp [hpa]
theorem perm_part {A P : List Pt} (hA : ∀ p ∈ A, p ∈ P) (hN : A.Nodup) (hP : P.Nodup) : (A ++ P.filter (fun p => decide (p ∉ A))).Perm P := by
  have h1 : (P.filter (fun p => decide (p ∈ A))).Perm A := by
    refine (List.perm_ext_iff_of_nodup (hP.sublist List.filter_sublist) hN).2 fun p => ?_
    rw [List.mem_filter, decide_eq_true_eq]
    exact ⟨fun h => h.2, fun h => ⟨hA p h, h⟩⟩
  have h2 := List.filter_append_perm (fun p => decide (p ∈ A)) P
  refine ((h1.symm.append (List.Perm.refl _)).trans ?_)
  refine List.Perm.trans ?_ h2
  refine List.Perm.append (List.Perm.refl _) ?_
  rw [show (fun p => decide (p ∉ A)) = (fun p : Pt => !decide (p ∈ A)) from funext fun p => by simp]
/-- those that are nearer than all others stand first -/
theorem sortN_part {x y : Int} {A P : List Pt} (hI : Ids P) (hs : A.Pairwise (nr x y)) (hA : ∀ p ∈ A, p ∈ P) (hf : ∀ p ∈ P, p ∉ A → ∀ a ∈ A, nr x y a p) : sortN x y P = A ++ sortN x y (P.filter (fun p => decide (p ∉ A))) := by
  have hN : A.Nodup := hs.imp fun h e => by subst e; exact nr_irrefl x y _ h
  refine sortN_eq ?_ (((sortN_perm x y _).append_left A).trans (perm_part hA hN (ids_nodup hI))) hI
  refine List.pairwise_append.2 ⟨hs, sortN_sorted (ids_sub List.filter_sublist hI), fun a ha p hp => ?_⟩
  have hp' := (sortN_perm x y _).mem_iff.1 hp
  rw [List.mem_filter, decide_eq_true_eq] at hp'
  exact hf p hp'.1 hp'.2 a ha
/-- what is not among the first lies behind them -/
theorem behind {x y : Int} {P : List Pt} (hI : Ids P) (k : Nat) {p : Pt} (hp : p ∈ P) (hn : p ∉ (sortN x y P).take k) : ∀ a ∈ (sortN x y P).take k, nr x y a p := by
  intro a ha
  have hs := sortN_sorted (x := x) (y := y) hI
  rw [← List.take_append_drop k (sortN x y P)] at hs
  have hp2 := (sortN_perm x y P).mem_iff.2 hp
  rw [← List.take_append_drop k (sortN x y P)] at hp2
  rcases List.mem_append.1 hp2 with h | h
  · exact absurd h hn
  · exact (List.pairwise_append.1 hs).2.2 a ha p h
theorem last_far {x y : Int} {a : List Pt} (hs : a.Pairwise (nr x y)) {l p : Pt} (hl : a.getLast? = some l) (hp : distP l x y < distP p x y) : ∀ b ∈ a, nr x y b p := by
  intro b hb
  obtain ⟨m, rfl⟩ : ∃ m, a = m ++ [l] := List.getLast?_eq_some_iff.1 hl
  rcases List.mem_append.1 hb with hb | hb
  · have h1 := (List.pairwise_append.1 hs).2.2 b hb l (by simp)
    unfold nr at h1 ⊢
    omega
  · rw [List.mem_singleton.1 hb]; exact .inl hp
theorem must_far {q : Qr} {a : List Pt} {b : Box} (hk : q.kind = 1) (h : must q a b = false) : q.k ≤ a.length ∧ ∀ l, a.getLast? = some l → distP l q.x q.y < dist b q.x q.y := by
  unfold must at h
  rw [if_neg (by omega)] at h
  split at h
  · cases h
  · rename_i hl
    refine ⟨by omega, fun l hll => ?_⟩
    rw [hll] at h
    simp only [decide_eq_false_iff_not] at h
    omega
/-- the answer of the points that are shown -/
theorem ans_part {q : Qr} {a V P : List Pt} (hq : mayBe q = true) (hV : V.Sublist P) (hI : Ids P) (hid : ∀ p ∈ P, p ∈ V ∨ ∃ b, must q a b = false ∧ b.has (boxOf p)) (ha : a = ans q P ∨ a = ans q V) : ans q V = ans q P := by
  have hIV := ids_sub hV hI
  by_cases hk : q.kind = 1
  · have hk1 : 1 ≤ q.k := by
      unfold mayBe at hq
      rw [if_neg (by omega), if_pos hk] at hq
      simp only [Bool.and_eq_true, decide_eq_true_eq] at hq
      exact hq.1.2
    have eP : ans q P = (sortN q.x q.y P).take q.k.toNat := by rw [ans, if_pos hk]
    have eV : ans q V = (sortN q.x q.y V).take q.k.toNat := by rw [ans, if_pos hk]
    by_cases hall : ∀ p ∈ P, p ∈ V
    · have : V = P := by
        rw [← filter_sub hV (ids_nodup hI)]
        exact List.filter_eq_self.2 fun p hp => by simpa using hall p hp
      rw [this]
    · obtain ⟨p0, hp0, hn0⟩ : ∃ p ∈ P, p ∉ V := by
        refine Classical.byContradiction fun h => hall fun p hp => Classical.byContradiction fun h' => h ⟨p, hp, h'⟩
      obtain ⟨b0, hb0, -⟩ := (hid p0 hp0).resolve_left hn0
      obtain ⟨hlen, -⟩ := must_far hk hb0
      have hne : a ≠ [] := fun e => by rw [e] at hlen; simp at hlen; omega
      obtain ⟨l, hl⟩ : ∃ l, a.getLast? = some l := ⟨a.getLast hne, List.getLast?_eq_some_getLast hne⟩
      have hsa : a.Pairwise (nr q.x q.y) := by
        rcases ha with ha | ha
        · rw [ha, eP]; exact (sortN_sorted hI).sublist (List.take_sublist _ _)
        · rw [ha, eV]; exact (sortN_sorted hIV).sublist (List.take_sublist _ _)
      have hfar : ∀ p ∈ P, p ∉ V → ∀ x ∈ a, nr q.x q.y x p := fun p hp hn => by
        obtain ⟨b, hb, hh⟩ := (hid p hp).resolve_left hn
        have h1 := (must_far hk hb).2 l hl
        have h2 := dist_mono hh q.x q.y
        exact last_far hsa hl (Int.lt_of_lt_of_le h1 h2)
      have hal : a.length = q.k.toNat := by
        have : a.length ≤ q.k.toNat := by
          rcases ha with ha | ha
          · rw [ha, eP]; exact List.length_take_le _ _
          · rw [ha, eV]; exact List.length_take_le _ _
        omega
      rcases ha with ha | ha
      · have hmem : ∀ p ∈ a, p ∈ V := fun p hp => by
          have hpP : p ∈ P := by
            rw [ha, eP] at hp
            exact (sortN_perm _ _ P).mem_iff.1 (List.mem_of_mem_take hp)
          refine Classical.byContradiction fun hn => ?_
          exact nr_irrefl _ _ p (hfar p hpP hn p hp)
        have h := sortN_part hIV hsa hmem fun p hp hn x hx => by
          rw [ha, eP] at hn hx
          exact behind hI _ (hV.subset hp) hn x hx
        rw [eV, h, ← hal, List.take_left, ha]
      · have hmem : ∀ p ∈ a, p ∈ P := fun p hp => by
          rw [ha, eV] at hp
          exact hV.subset ((sortN_perm _ _ V).mem_iff.1 (List.mem_of_mem_take hp))
        have h := sortN_part hI hsa hmem fun p hp hn x hx => by
          by_cases hpV : p ∈ V
          · rw [ha, eV] at hn hx
            exact behind hIV _ hpV hn x hx
          · exact hfar p hp hpV x hx
        rw [eP, h, ← hal, List.take_left, ha]
  · have hk0 : q.kind = 0 := by
      unfold mayBe at hq
      by_cases h0 : q.kind = 0
      · exact h0
      · rw [if_neg h0, if_neg hk] at hq; cases hq
    rw [ans, if_neg hk, ans, if_neg hk]
    congr 1
    rw [← filter_sub hV (ids_nodup hI), List.filter_filter]
    refine List.filter_congr fun p hp => ?_
    by_cases hin : inB (window q) p = true
    · rw [hin, Bool.true_and, decide_eq_true_eq]
      refine (hid p hp).resolve_right fun ⟨b, hb, hh⟩ => ?_
      unfold must at hb
      rw [if_pos hk0] at hb
      have := meets_mono hh hin
      rw [hb] at this
      cases this
    · have : inB (window q) p = false := by simpa using hin
      rw [this, Bool.false_and]
end Ward
end Go.Proofs.YtenaelkbgkpllaaGreatDoor
/- What waits in the heap: points, and nodes whose points are still to come. -/
namespace Go.Proofs.YtenaelkbgkpllaaGreatDoor
open Go.RowKit

/-- how many entries a node makes -/
def sizeN : (n : Nat) → Ward.NT n → Nat
  | 0, t => nomatch t
  | n + 1, t => 1 + ((Ward.Nd.pts t).length + ((Ward.Nd.kids t).map (sizeN n)).sum)
/-- what waits -/
inductive Gh where
  | pt (p : Ward.Pt)
  | nd (g o n : Nat) (t : Ward.NT n) (d : Int)
def Gh.en (x y : Int) : Gh → En
  | .pt p => ptEn x y p
  | .nd g o _ _ d => ⟨d, Option.some ⟨g, o, none⟩, ⟨0, 0, 0⟩⟩
def Gh.pts : Gh → List Ward.Pt
  | .pt p => [p]
  | .nd _ _ n t _ => Ward.allN n t
def Gh.size : Gh → Nat
  | .pt _ => 1
  | .nd _ _ n t _ => sizeN n t
def Gh.Ok (w : World) (S : Nat → Prop) (x y : Int) : Gh → Prop
  | .pt p => p.Ok
  | .nd g o n t d => S g ∧ (∃ V, NodeIs w S n t V ∧ w.rangeAt g o V) ∧ Ward.Few n t ∧ Ward.InN n t ∧ Ward.Encl n t ∧ (∀ p ∈ Ward.allN n t, p.Ok) ∧ ∀ p ∈ Ward.allN n t, d ≤ Ward.distP p x y
def sizeL (L : List Gh) : Nat := (L.map Gh.size).sum
def ptsL (L : List Gh) : List Ward.Pt := L.flatMap Gh.pts
theorem Gh.size_pos : ∀ G : Gh, 1 ≤ G.size
  | .pt _ => Nat.le_refl _
  | .nd _ _ 0 t _ => nomatch t
  | .nd _ _ (n + 1) t _ => by show 1 ≤ sizeN (n + 1) t; unfold sizeN; omega
theorem sizeL_cons (G : Gh) (L : List Gh) : sizeL (G :: L) = G.size + sizeL L := by unfold sizeL; simp
theorem sizeL_append (L M : List Gh) : sizeL (L ++ M) = sizeL L + sizeL M := by unfold sizeL; simp
theorem length_le_size : ∀ L : List Gh, L.length ≤ sizeL L
  | [] => Nat.zero_le _
  | G :: L => by
    have h1 := length_le_size L
    have h2 := G.size_pos
    rw [sizeL_cons, List.length_cons]; omega
theorem sizeL_perm {L M : List Gh} (h : L.Perm M) : sizeL L = sizeL M := (h.map Gh.size).sum_nat
theorem ptsL_perm {L M : List Gh} (h : L.Perm M) : (ptsL L).Perm (ptsL M) := h.flatMap_right Gh.pts
/-- the children -/
def kidsG (x y : Int) (g o n : Nat) (K : List (Ward.NT n)) : List Gh := K.mapIdx (fun i c => Gh.nd g (o + i * 39) n c (Ward.dist (Ward.boxN n c) x y))
theorem kidsG_en (x y : Int) (g o n : Nat) (K : List (Ward.NT n)) : (kidsG x y g o n K).map (Gh.en x y) = kidsEn x y g o n K := by
  refine List.ext_getElem (by simp [kidsG, kidsEn]) fun i h1 h2 => ?_
  simp [kidsG, kidsEn, Gh.en, kidEn]
theorem kidsG_pts (x y : Int) (g o n : Nat) (K : List (Ward.NT n)) : ptsL (kidsG x y g o n K) = K.flatMap (Ward.allN n) := by
  unfold ptsL
  rw [List.flatMap_def, List.flatMap_def]
  congr 1
  refine List.ext_getElem (by simp [kidsG]) fun i h1 h2 => ?_
  simp [kidsG, Gh.pts]
theorem kidsG_size (x y : Int) (g o n : Nat) (K : List (Ward.NT n)) : sizeL (kidsG x y g o n K) = (K.map (sizeN n)).sum := by
  unfold sizeL
  congr 1
  refine List.ext_getElem (by simp [kidsG]) fun i h1 h2 => ?_
  simp [kidsG, Gh.size]
theorem ptsG_pts (P : List Ward.Pt) : ptsL (P.map Gh.pt) = P := by
  unfold ptsL
  induction P with
  | nil => rfl
  | cons p P ih => rw [List.map_cons, List.flatMap_cons, ih]; rfl
theorem ptsG_size (P : List Ward.Pt) : sizeL (P.map Gh.pt) = P.length := by
  induction P with
  | nil => rfl
  | cons p P ih => rw [List.map_cons, sizeL_cons, ih, List.length_cons]; show 1 + _ = _; omega
theorem ptsG_en (x y : Int) (P : List Ward.Pt) : (P.map Gh.pt).map (Gh.en x y) = P.map (ptEn x y) := by rw [List.map_map]; rfl
/-- what is taken off was waiting -/
theorem ghost_pop {x y : Int} {L : List Gh} {l l' : List En} {e : En} (hL : l.Perm (L.map (Gh.en x y))) (hp : l.Perm (e :: l')) : ∃ G L', L.Perm (G :: L') ∧ Gh.en x y G = e ∧ l'.Perm (L'.map (Gh.en x y)) := by
  have he : e ∈ L.map (Gh.en x y) := hL.mem_iff.1 (hp.mem_iff.2 List.mem_cons_self)
  obtain ⟨G, hG, rfl⟩ := List.mem_map.1 he
  obtain ⟨s, t, rfl⟩ := List.append_of_mem hG
  refine ⟨G, s ++ t, List.perm_middle, rfl, ?_⟩
  have h1 := (hp.symm.trans hL).trans ((List.perm_middle (a := G) (l₁ := s) (l₂ := t)).map (Gh.en x y))
  exact List.Perm.cons_inv h1
/-- a point that comes off is the next -/
theorem pop_pt {w : World} {S : Nat → Prop} {x y : Int} {L L' : List Gh} {p : Ward.Pt} {l' : List En} (hL : L.Perm (.pt p :: L')) (hI : Ward.Ids (ptsL L)) (hok : ∀ G ∈ L, G.Ok w S x y) (hle : ∀ e ∈ l', ¬ enLt e (ptEn x y p)) (hl : l'.Perm (L'.map (Gh.en x y))) : Ward.sortN x y (ptsL L) = p :: Ward.sortN x y (ptsL L') ∧ Ward.Ids (ptsL L') := by
  have hP : (ptsL L).Perm (p :: ptsL L') := ptsL_perm hL
  have hI' : Ward.Ids (p :: ptsL L') := (Ward.ids_perm hP).1 hI
  have hpo : p.Ok := hok _ (hL.mem_iff.2 List.mem_cons_self)
  obtain ⟨h1, h2⟩ := List.pairwise_cons.1 hI'
  refine ⟨Ward.sortN_head hP hI fun q hq => ?_, h2⟩
  have hne := h1 q hq
  obtain ⟨G, hG, hqG⟩ := List.mem_flatMap.1 hq
  have hG' := hok G (hL.mem_iff.2 (List.mem_cons_of_mem _ hG))
  have hlt := hle _ (hl.mem_iff.2 (List.mem_map.2 ⟨G, hG, rfl⟩))
  have hid := hpo.id1
  cases G with
  | pt r =>
    have e : q = r := by simpa [Gh.pts] using hqG
    subst e
    unfold enLt Gh.en ptEn at hlt
    simp only at hlt
    unfold Ward.nr
    omega
  | nd g o n t d =>
    have hd := hG'.2.2.2.2.2.2 q hqG
    unfold enLt Gh.en ptEn at hlt
    simp only at hlt
    unfold Ward.nr
    omega
/-- what stands below a node in its place -/
theorem pop_nd {x y : Int} {L L' : List Gh} {g o n gc oc : Nat} {t : Ward.NT (n + 1)} {d : Int} (hL : L.Perm (.nd g o (n + 1) t d :: L')) : (ptsL (L' ++ ((Ward.Nd.pts t).map Gh.pt ++ kidsG x y gc oc n (Ward.Nd.kids t)))).Perm (ptsL L) ∧ sizeL (L' ++ ((Ward.Nd.pts t).map Gh.pt ++ kidsG x y gc oc n (Ward.Nd.kids t))) + 1 = sizeL L := by
  constructor
  · have h1 : ptsL (L' ++ ((Ward.Nd.pts t).map Gh.pt ++ kidsG x y gc oc n (Ward.Nd.kids t))) = ptsL L' ++ Ward.allN (n + 1) t := by
      have h2 := ptsG_pts (Ward.Nd.pts t)
      have h3 := kidsG_pts x y gc oc n (Ward.Nd.kids t)
      unfold ptsL at *
      rw [List.flatMap_append, List.flatMap_append, h2, h3]
      rfl
    rw [h1]
    exact List.perm_append_comm.trans (ptsL_perm hL).symm
  · rw [sizeL_perm hL, sizeL_cons, sizeL_append, sizeL_append, ptsG_size, kidsG_size]
    show _ = sizeN (n + 1) t + _
    unfold sizeN
    omega
/-- what is said of it holds -/
theorem ok_nd {w w' : World} {S : Nat → Prop} {x y : Int} {gc oc g o n : Nat} {t : Ward.NT (n + 1)} {d : Int} (hG : Gh.Ok w S x y (.nd g o (n + 1) t d)) (hs : Same S w w') (hgc : Ward.Nd.kids t ≠ [] → S gc) (hr : ∀ i (h : i < (Ward.Nd.kids t).length), ∃ V, NodeIs w' S n (Ward.Nd.kids t)[i] V ∧ w'.rangeAt gc (oc + i * 39) V) :
    ∀ G ∈ (Ward.Nd.pts t).map Gh.pt ++ kidsG x y gc oc n (Ward.Nd.kids t), G.Ok w S x y := fun G hm => by
  obtain ⟨-, -, hfew, hin, hen, hpo, -⟩ := hG
  rcases List.mem_append.1 hm with hm | hm
  · obtain ⟨p, hp, rfl⟩ := List.mem_map.1 hm
    exact hpo p (List.mem_append_left _ hp)
  · unfold kidsG at hm
    obtain ⟨i, hi, rfl⟩ := List.mem_mapIdx.1 hm
    have hc : (Ward.Nd.kids t)[i] ∈ Ward.Nd.kids t := List.getElem_mem hi
    have hS := hgc (fun e => by rw [e] at hi; simp at hi)
    obtain ⟨V, hV, hc2⟩ := hr i hi
    have hsub : ∀ p ∈ Ward.allN n (Ward.Nd.kids t)[i], p ∈ Ward.allN (n + 1) t := fun p hp => List.mem_append_right _ (List.mem_flatMap.2 ⟨_, hc, hp⟩)
    exact ⟨hS, ⟨V, NodeIs.keep (fun g hg => (hs g hg).symm) (fun _ h => h) n _ V hV, rangeAt_block hc2 (hs gc hS).symm⟩, hfew.2.2 _ hc, (hin _ hc).2, (hen.2 _ hc).2, fun p hp => hpo p (hsub p hp), fun p hp => Ward.dist_mono ((hen.2 _ hc).1 p hp) x y⟩
/-- the answer lies apart from the heap -/
theorem own_apart {w : World} {h B B' : Nat} {v va : Value} {l : List En} {a : List Ward.Pt} (H : HeapAt w h B v l) (ho : Own w B' va a) : ∀ g, va.ownBlock = some g → ¬ Heaps h v g := fun g hg e => by
  rcases ho.2 with ⟨rfl, _⟩ | ⟨g', cap, cur, rfl, _, hg', _⟩
  · cases hg
  · injection hg with hg
    have eg : g' = g := hg
    subst eg
    rcases e with e | e
    · rw [e, H.row] at hg'
      injection hg' with hg'
      injection hg' with _ h2 _
      exact absurd h2 (by decide)
    · exact ownE_other H.own hg' (by decide) e.symm
theorem HeapAt.grown {w w' : World} {h B B' : Nat} {v va : Value} {l : List En} {a : List Ward.Pt} (H : HeapAt w h B v l) (ho : Own w B' va a) (hg : w.grownBy w' va.ownBlock) : HeapAt w' h B v l :=
  ⟨(hg.block h H.lt (fun e => own_apart H ho h e.symm (.inl rfl))).trans H.row, H.own.keeps (S := fun k => Option.some k = va.ownBlock) ⟨hg.os, hg.tape, hg.output, hg.size, fun k hk hn => hg.block k hk hn⟩ (fun g hgv e => own_apart H ho g e.symm (.inr hgv.symm)), H.apart⟩
theorem keeps_low {w w' : World} {h B : Nat} {v : Value} {l : List En} (hk : Keeps (Heaps h v) w w') (H : HeapAt w h B v l) (hh : B ≤ h) (hB : B ≤ w.heap.size) : Below B w w' := ⟨hk.os, hk.tape, hk.output, hk.size, fun j hj => hk.block j (Nat.lt_of_lt_of_le hj hB) (fun e => by
  rcases e with e | e
  · omega
  · have := (H.own.lt e.symm).1; omega)⟩
theorem grown_low {w w' : World} {B : Nat} {va : Value} {a : List Ward.Pt} (hg : w.grownBy w' va.ownBlock) (ho : Own w B va a) (hB : B ≤ w.heap.size) : Below B w w' := ⟨hg.os, hg.tape, hg.output, hg.size, fun j hj => hg.block j (Nat.lt_of_lt_of_le hj hB) (fun e => by have := ho.ge e.symm; omega)⟩
/-- how it stands before a round -/
structure NearInv (w1 wq : World) (S : Nat → Prop) (h B : Nat) (x y : Int) (P : List Ward.Pt) (k : Int) (va v : Value) (L : List Gh) (a : List Ward.Pt) (l : List En) : Prop where
  heap : HeapAt wq h B v l
  perm : l.Perm (L.map (Gh.en x y))
  ok : Heap.Ok enLt (Heap.at' l) l.length
  own : Own wq B va a
  sort : Ward.sortN x y P = a ++ Ward.sortN x y (ptsL L)
  ids : Ward.Ids (ptsL L)
  gh : ∀ G ∈ L, G.Ok w1 S x y
  low : Below B w1 wq
  few : (a.length : Int) ≤ k
  size : sizeL L ≤ 80000
theorem NearInv.len {w1 wq : World} {S : Nat → Prop} {h B : Nat} {x y : Int} {P : List Ward.Pt} {k : Int} {va v : Value} {L : List Gh} {a : List Ward.Pt} {l : List En} (H : NearInv w1 wq S h B x y P k va v L a l) : l.length = L.length ∧ l.length ≤ 80000 := by
  have h1 := H.perm.length_eq
  rw [List.length_map] at h1
  have h2 := length_le_size L
  have h3 := H.size
  omega
theorem NearInv.done {w1 wq : World} {S : Nat → Prop} {h B : Nat} {x y : Int} {P : List Ward.Pt} {k : Int} {va v : Value} {L : List Gh} {a : List Ward.Pt} {l : List En} (H : NearInv w1 wq S h B x y P k va v L a l) (hd : l.length = 0 ∨ k ≤ a.length) : (Ward.sortN x y P).take k.toNat = a := by
  have h1 := H.few
  have h2 := H.len.1
  rw [H.sort]
  rcases hd with hd | hd
  · have e : L = [] := List.length_eq_zero_iff.1 (by omega)
    subst e
    rw [show ptsL [] = [] from rfl, show Ward.sortN x y [] = [] from rfl, List.append_nil]
    exact List.take_of_length_le (by omega)
  · rw [List.take_left' (by omega)]
/-- a round that took a point -/
theorem NearInv.point {w1 wq w2 w3 w4 : World} {S : Nat → Prop} {h B : Nat} {x y : Int} {P : List Ward.Pt} {k : Int} {va v v2 va4 : Value} {L L' : List Gh} {a : List Ward.Pt} {l l2 : List En} {p : Ward.Pt} (H : NearInv w1 wq S h B x y P k va v L a l) (hh : B ≤ h) (hB : B ≤ wq.heap.size) (hL : L.Perm (.pt p :: L')) (hl : l2.Perm (L'.map (Gh.en x y))) (hle : ∀ e ∈ l2, ¬ enLt e (ptEn x y p)) (hH : HeapAt w2 h B v2 l2) (hok : Heap.Ok enLt (Heap.at' l2) l2.length) (hk : Keeps (Heaps h v) wq w2) (hb : Below w2.heap.size w2 w3) (ho : Own w4 B va4 (a ++ [p])) (hg : w3.grownBy w4 va.ownBlock) (ha : (a.length : Int) < k) : NearInv w1 w4 S h B x y P k va4 v2 L' (a ++ [p]) l2 ∧ sizeL L' < sizeL L := by
  obtain ⟨h1, h2⟩ := pop_pt hL H.ids H.gh hle hl
  have hs := sizeL_perm hL
  rw [sizeL_cons] at hs
  have hs' : sizeL L = 1 + sizeL L' := hs
  have ho2 := H.own.keeps hk (own_apart H.heap H.own)
  have hsz := hk.size
  have ho3 := ho2.below hb
  refine ⟨⟨(hH.below hb).grown ho3 hg, hl, hok, ho, ?_, h2, fun G hG => H.gh G (hL.mem_iff.2 (List.mem_cons_of_mem _ hG)), ((H.low.trans (keeps_low hk H.heap hh hB)).trans (hb.mono (by omega))).trans (grown_low hg ho3 (by have := hb.size; omega)), ?_, ?_⟩, by omega⟩
  · rw [H.sort, h1]; simp
  · rw [List.length_append, List.length_singleton]; omega
  · have := H.size; omega
/-- a round that opened a node -/
theorem NearInv.node {w1 wq w2 w3 w4 : World} {S : Nat → Prop} {h B : Nat} {x y : Int} {P : List Ward.Pt} {k : Int} {va v v2 v4 : Value} {L L' : List Gh} {a : List Ward.Pt} {l l2 l4 : List En} {g o n gc oc : Nat} {t : Ward.NT (n + 1)} {d : Int} (H : NearInv w1 wq S h B x y P k va v L a l) (hS : ∀ g, S g → g < B) (hh : B ≤ h) (hB : B ≤ wq.heap.size) (hL : L.Perm (.nd g o (n + 1) t d :: L')) (hl : l2.Perm (L'.map (Gh.en x y))) (hH : HeapAt w2 h B v2 l2) (hk : Keeps (Heaps h v) wq w2) (hb : Below w2.heap.size w2 w3) (hgr : Grew w3 w4 h B v2 v4 (l2 ++ ((Ward.Nd.pts t).map (ptEn x y) ++ kidsEn x y gc oc n (Ward.Nd.kids t))) l4) (hgc : Ward.Nd.kids t ≠ [] → S gc) (hr : ∀ i (h : i < (Ward.Nd.kids t).length), ∃ V, NodeIs w3 S n (Ward.Nd.kids t)[i] V ∧ w3.rangeAt gc (oc + i * 39) V) :
    ∃ L4, NearInv w1 w4 S h B x y P k va v4 L4 a l4 ∧ sizeL L4 < sizeL L := by
  have hG := H.gh _ (hL.mem_iff.2 List.mem_cons_self)
  obtain ⟨hp, hs⟩ := pop_nd (x := x) (y := y) (gc := gc) (oc := oc) hL
  have hsz := hk.size
  have hsz3 := hb.size
  have hH3 := hH.below hb
  have ho2 := H.own.keeps hk (own_apart H.heap H.own)
  have ho3 := ho2.below hb
  have hlow3 := (H.low.trans (keeps_low hk H.heap hh hB)).trans (hb.mono (show B ≤ w2.heap.size by omega))
  have hI := (Ward.ids_perm hp).2 H.ids
  refine ⟨_, ⟨hgr.at', ?_, hgr.ok, ho3.keeps hgr.keeps (own_apart hH3 ho3), ?_, hI, fun G hm => ?_, hlow3.trans (keeps_low hgr.keeps hH3 hh (by omega)), H.few, ?_⟩, ?_⟩
  · refine hgr.perm.trans ?_
    rw [List.map_append, List.map_append, ptsG_en, kidsG_en]
    exact hl.append_right _
  · rw [H.sort, Ward.sortN_congr hp H.ids]
  · rcases List.mem_append.1 hm with hm | hm
    · exact H.gh G (hL.mem_iff.2 (List.mem_cons_of_mem _ hm))
    · exact ok_nd hG (below_same hlow3 hS) hgc hr G hm
  · have := H.size; omega
  · omega
end Go.Proofs.YtenaelkbgkpllaaGreatDoor
