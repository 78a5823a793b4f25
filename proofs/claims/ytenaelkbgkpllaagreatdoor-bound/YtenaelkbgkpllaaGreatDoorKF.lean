/- Two texts of one digest, looked for: the call. -/
import Derived.Test.YtenaelkbgkpllaaGreatDoorKE
namespace Go.Proofs.YtenaelkbgkpllaaGreatDoor
open Go.RowKit

/-- a list of texts, read -/
def Texts (w : World) (v : Value) (ls : List (List UInt8)) : Prop := ∃ (a : Option Addr) (c : Nat), v = .slice a ls.length c ∧ (ls ≠ [] → ∃ g, a = some ⟨g, 0, none⟩ ∧ ∀ i (h : i < ls.length), w.cell? ⟨g, i, none⟩ = some (Sv ls[i]))
theorem OwnS.texts {w : World} {B : Nat} {v : Value} {ls : List (List UInt8)} (h : OwnS w B v ls) : Texts w v ls := by
  rcases h.2 with ⟨rfl, h0⟩ | ⟨g, c, cur, rfl, _⟩
  · have e : ls = [] := by simpa using h0
    subst e
    exact ⟨none, 0, rfl, fun k => absurd rfl k⟩
  · refine ⟨_, c, rfl, fun _ => ⟨g, rfl, fun i hi => ?_⟩⟩
    have hc := h.cells (g := g) rfl i (Sv ls[i]) (by rw [List.getElem?_map, List.getElem?_eq_getElem hi]; rfl)
    rw [Addr.add_lit, Nat.zero_add] at hc
    exact hc
theorem Texts.below {w w' : World} {v : Value} {ls : List (List UInt8)} (h : Texts w v ls) (hb : Below w.heap.size w w') : Texts w' v ls := by
  obtain ⟨a, c, rfl, hc⟩ := h
  refine ⟨a, c, rfl, fun hne => ?_⟩
  obtain ⟨g, rfl, hp⟩ := hc hne
  exact ⟨g, rfl, fun i hi => (hb.cell (p := ⟨g, i, none⟩) (block_lt_of_cell (hp i hi))).trans (hp i hi)⟩
theorem dig_text (a : List UInt8) (L : List Value) (w : World) (h : a.length ≤ 300) (hK : KT w) (hL : (Sha.sha a).map Y = L) :
    Calls Tryz.prog 30 #[Sv a] w fun e w' => e = .returned (.agg L.toArray) ∧ Below w.heap.size w w' :=
  digest_any ⟨a.toArray⟩ L w (by show a.toArray.size ≤ _; rw [List.size_toArray]; omega) hK (by show (Sha.sha a.toArray.toList).map Y = L; rw [List.toList_toArray]; exact hL)
theorem below_drewN {B : Nat} {w w' : World} (h : Below B w w') (n : Nat) : Below B w (w'.drewN n) := ⟨h.os, h.tape, h.output, h.size, h.block⟩
/-- none of the first so many has the digest of another -/
def Clear (A Bs : List (List UInt8)) (n : Nat) : Prop := ∀ i (h : i < A.length), i < n → ∀ b ∈ Bs, A[i] ≠ b → Sha.sha A[i] ≠ Sha.sha b

set_option maxRecDepth 100000 in
set_option maxHeartbeats 2000000 in
theorem collide_any (s t : ByteArray) (n m : Nat) (S1 : Ward.PT n) (S2 : Ward.PT m) (w : World) (h1 : Ward.WF n S1) (h2 : Ward.WF m S2) (hs : s.data.toList = Ward.shows n S1) (ht : t.data.toList = Ward.shows m S2) (hn : n ≤ 6) (hm : m ≤ 6) (hA : (Ward.alls n S1).length ≤ 50000) (hB : (Ward.alls m S2).length ≤ 50000) (hsz : s.size ≤ 140737488355328) (htz : t.size ≤ 140737488355328) (hK : KT w) :
    Calls Tryz.prog 18 #[.string s, .string t] w fun e w' => ∃ r : Bool, e = .returned (.bool r) ∧ (r = false → ∀ a ∈ Ward.alls n S1, ∀ b ∈ Ward.alls m S2, a ≠ b → Sha.sha a ≠ Sha.sha b) ∧ Below w.heap.size w w' := by
  have hl1 : (Ward.shows n S1).length = s.size := by rw [← hs]; simp
  have hl2 : (Ward.shows m S2).length = t.size := by rw [← ht]; simp
  have H1 := hide (texts_any s w.heap.size hsz n S1 0 1 (.slice none 0 0) [] w h1 ⟨[], by simp [hs]⟩ (by omega) (World.ownsRow_nil _ _ _ _) (Nat.le_refl _) (by simp; omega))
  have sa := Ward.alls_small n S1 h1
  have sb := Ward.alls_small m S2 h2
  rw [hl1] at H1
  generalize Ward.alls n S1 = LA at *
  generalize Ward.own n S1 = OA at *
  have H2 := hide (fun w1 (hw : w.heap.size ≤ w1.heap.size) => texts_any t w.heap.size htz m S2 0 1 (.slice none 0 0) [] w1 h2 ⟨[], by simp [ht]⟩ (by omega) (World.ownsRow_nil _ _ _ _) hw (by simp; omega))
  rw [hl2] at H2
  generalize Ward.alls m S2 = LB at *
  generalize Ward.own m S2 = OB at *
  have HK := hide hK
  have HSA := hide sa
  have HSB := hide sb
  clear hK sa sb hs ht hl1 hl2 h1 h2
  go_enter Tryz.func18, Tryz.ntmps18
  go_wp2_with fail
  refine (H1.out).mono ?_
  rintro e w1 ⟨va, rfl, ho1, hg1, -⟩
  rw [List.nil_append] at ho1
  have hb1 : Below w.heap.size w w1 := ⟨hg1.os, hg1.tape, hg1.output, hg1.size, fun k hk => hg1.block k hk (by simp [Value.ownBlock])⟩
  go_wp2_with fail
  refine (H2.out w1 hb1.size).mono ?_
  rintro e w2 ⟨vb, rfl, ho2, hg2, -⟩
  rw [List.nil_append] at ho2
  have hb2 : Below w1.heap.size w1 w2 := ⟨hg2.os, hg2.tape, hg2.output, hg2.size, fun k hk => hg2.block k hk (by simp [Value.ownBlock])⟩
  have HTA := hide (ho1.below hb2).texts
  have HTB := hide ho2.texts
  have HBW := hide (hb1.trans (hb2.mono hb1.size))
  obtain ⟨aa, ca, rfl, -⟩ := HTA.out
  obtain ⟨ab, cb, rfl, -⟩ := HTB.out
  clear ho1 hg1 ho2 hg2 hb1 hb2 H1 H2
  go_wp2_with fail
  go_loopw [11] (fun vn wq => ∃ k : Nat, vn = I k ∧ k ≤ LA.length ∧ Clear LA LB k ∧ Below w2.heap.size w2 wq) (fun vn _ => LA.length - (intOf vn).toNat)
  case atStart => exact ⟨0, rfl, by omega, fun _ _ h => absurd h (by omega), Below.refl _ _⟩
  case round =>
    obtain ⟨k, rfl, hk, hcl, hbq⟩ := hrel
    have HCL := hide hcl
    have HBQ := hide hbq
    clear hcl hbq
    by_cases hlt : k < LA.length
    · go_wp2_with fail
      go_loopw [12] (fun vm wq => ∃ j : Nat, vm = I j ∧ j ≤ LB.length ∧ (∀ i (h : i < LB.length), i < j → LA[k] ≠ LB[i] → Sha.sha LA[k] ≠ Sha.sha LB[i]) ∧ Below w2.heap.size w2 wq) (fun vm _ => LB.length - (intOf vm).toNat)
      case atStart => exact ⟨0, rfl, by omega, fun _ _ h => absurd h (by omega), HBQ.out⟩
      case round =>
        clear HBQ
        obtain ⟨j, rfl, hj, hcj, hbr⟩ := hrel
        have HCJ := hide hcj
        have HBR := hide hbr
        clear hcj hbr
        by_cases hltj : j < LB.length
        · have hta := HTA.out.below HBR.out
          have htb := HTB.out.below HBR.out
          obtain ⟨a', c', e', hga⟩ := hta
          obtain ⟨ga, e2, hca⟩ := hga (fun e => by subst e; simp at hlt)
          obtain ⟨a2', c2', e3, hgb⟩ := htb
          obtain ⟨gb, e4, hcb⟩ := hgb (fun e => by subst e; simp at hltj)
          injection e' with e5 e6 e7
          injection e3 with e8 e9 e10
          rw [e2] at e5
          rw [e4] at e8
          subst e5 e8
          have ka := hca k hlt
          have kb := hcb j hltj
          have la := HSA.out _ (List.getElem_mem hlt)
          have lb := HSB.out _ (List.getElem_mem hltj)
          generalize hAk : LA[k] = TA at *
          generalize hBj : LB[j] = TB at *
          have HAk := hide hAk
          have HBj := hide hBj
          clear hca hcb hga hgb e2 e4 e6 e7 e9 e10 hAk hBj
          by_cases hab : TA = TB
          · subst hab
            go_wp2_with fail
            go_quiet (fail)
            go_wp2_with fail
            refine ⟨⟨j + 1, by go_num, by omega, fun i hi hij hne => ?_, below_drewN HBR.out _⟩, by simp [intOf]; omega⟩
            rcases Nat.lt_or_ge i j with h | h
            · exact HCJ.out i hi h hne
            · have e : i = j := by omega
              subst e
              exact absurd HBj.out.symm hne
          · have hne : (TA == TB) = false := by simpa using hab
            obtain ⟨DA, hDA⟩ : ∃ L, (Sha.sha TA).map Y = L := ⟨_, rfl⟩
            obtain ⟨DB, hDB⟩ : ∃ L, (Sha.sha TB).map Y = L := ⟨_, rfl⟩
            have dA : Dig DA := hDA ▸ dig_of _
            have dB : Dig DB := hDB ▸ dig_of _
            have hEq := eqArr (Sha.sha TA) (Sha.sha TB) rfl rfl
            rw [hDA, hDB] at hEq
            have HEq := hide hEq
            have HDA := hide hDA
            have HDB := hide hDB
            clear hDA hDB hEq
            go_wp2_with fail
            go_quiet (fail)
            generalize hW : World.drewN _ _ = w3
            have hb3 : Below w2.heap.size w2 w3 := by rw [← hW]; exact below_drewN HBR.out _
            have ka3 : w3.cell? ⟨ga, k, none⟩ = some (Sv TA) := by rw [← hW]; exact ka
            have kb3 : w3.cell? ⟨gb, j, none⟩ = some (Sv TB) := by rw [← hW]; exact kb
            have hK3 : KT w3 := HK.out.below (HBW.out.trans (hb3.mono HBW.out.size))
            have HB3 := hide hb3
            have HK3 := hide hK3
            clear hW ka kb hb3 hK3
            go_wp2_with fail
            refine (dig_text TA DA w3 la HK3.out HDA.out).mono ?_
            rintro e w4 ⟨rfl, hb4⟩
            have HK4 := hide (HK3.out.below hb4)
            have kb4 := fun o => (World.cell?_alloc_lt w4 o ⟨gb, j, none⟩ (Nat.lt_of_lt_of_le (block_lt_of_cell kb3) hb4.size)).trans ((hb4.cell (p := ⟨gb, j, none⟩) (block_lt_of_cell kb3)).trans kb3)
            go_wp2_with (refine wpList_store_row rfl 39 (.tmp 13) (.tmp 64) rfl w4.heap.size DA.toArray rfl rfl 39 _ (heap_alloc_new w4 _) dA.info (by rw [dA.size]; rfl) dA.one ?_; rw [World.setRow_alloc_new])
            refine (dig_text TB DB _ lb (HK4.out.below ((Below.refl _ _).alloc (Nat.le_refl _) _)) HDB.out).mono ?_
            rintro e w5 ⟨rfl, hb5⟩
            have z4 : w4.heap.size < w5.heap.size := by have := hb5.size; simp at this; omega
            have rA : ∀ o, (w5.alloc o).heap[w4.heap.size]? = some (.cells DA.toArray 39 (0, 0)) := fun o => (Below.heap_alloc _ _ _ z4).trans ((hb5.block w4.heap.size (by simp)).trans (heap_alloc_new w4 _))
            have HRA := hide rA
            have HB5 := hide (fun o => ((HB3.out.trans (hb4.mono HB3.out.size)).alloc (Nat.le_trans HB3.out.size hb4.size) _).trans (hb5.mono (by simp; exact Nat.le_succ_of_le (Nat.le_trans HB3.out.size hb4.size))) |>.alloc (by
              have h1 := HB3.out.size
              have h2 := hb4.size
              omega) o)
            clear rA hb4 hb5 ka3 kb3 kb4
            by_cases hsh : Sha.sha TA = Sha.sha TB
            · have hE : ∀ W, (Op.equalIn 10000 39 (.agg DA.toArray) (.agg DB.toArray)).run Tryz.prog W = .ok true W := fun W => by rw [HEq.out W, decide_eq_true hsh]
              go_wp2_with (first | (refine wpList_store_row rfl 39 (.tmp 14) (.tmp 69) rfl w5.heap.size DB.toArray rfl rfl 39 _ (heap_alloc_new w5 _) dB.info (by rw [dB.size]; rfl) dB.one ?_; rw [World.setRow_alloc_new]) | (refine wpList_load_row rfl 39 (.tmp 13) rfl w4.heap.size rfl 39 DA.toArray (0, 0) _ (HRA.out _) Tryz.underlying39 rfl dA.info ?_) | (refine wpList_load_row rfl 39 (.tmp 14) rfl w5.heap.size rfl 39 DB.toArray (0, 0) _ (heap_alloc_new w5 _) Tryz.underlying39 rfl dB.info ?_))
              go_ret
              exact ⟨true, rfl, fun h => absurd h (by decide), HBW.out.trans ((HB5.out _).mono HBW.out.size)⟩
            · have hE : ∀ W, (Op.equalIn 10000 39 (.agg DA.toArray) (.agg DB.toArray)).run Tryz.prog W = .ok false W := fun W => by rw [HEq.out W, decide_eq_false hsh]
              go_wp2_with (first | (refine wpList_store_row rfl 39 (.tmp 14) (.tmp 69) rfl w5.heap.size DB.toArray rfl rfl 39 _ (heap_alloc_new w5 _) dB.info (by rw [dB.size]; rfl) dB.one ?_; rw [World.setRow_alloc_new]) | (refine wpList_load_row rfl 39 (.tmp 13) rfl w4.heap.size rfl 39 DA.toArray (0, 0) _ (HRA.out _) Tryz.underlying39 rfl dA.info ?_) | (refine wpList_load_row rfl 39 (.tmp 14) rfl w5.heap.size rfl 39 DB.toArray (0, 0) _ (heap_alloc_new w5 _) Tryz.underlying39 rfl dB.info ?_))
              refine ⟨⟨j + 1, by go_num, by omega, fun i hi hij hne => ?_, HB5.out _⟩, by simp [intOf]; omega⟩
              rcases Nat.lt_or_ge i j with h | h
              · exact HCJ.out i hi h hne
              · have e : i = j := by omega
                subst e
                rw [HBj.out]
                exact hsh
        · have ej : j = LB.length := by omega
          subst ej
          go_wp2_with fail
          refine ⟨⟨k + 1, by go_num, by omega, fun i hi hik b hb hne => ?_, HBR.out⟩, by simp [intOf]; omega⟩
          rcases Nat.lt_or_ge i k with h | h
          · exact HCL.out i hi h b hb hne
          · have e : i = k := by omega
            subst e
            obtain ⟨q, hq, rfl⟩ := List.getElem_of_mem hb
            exact HCJ.out q hq hq hne
    · have ek : k = LA.length := by omega
      subst ek
      go_wp2
      go_ret
      refine ⟨false, rfl, fun _ a ha b hb hne => ?_, HBW.out.trans (HBQ.out.mono HBW.out.size)⟩
      obtain ⟨q, hq, rfl⟩ := List.getElem_of_mem ha
      exact HCL.out q hq hq b hb hne
end Go.Proofs.YtenaelkbgkpllaaGreatDoor
