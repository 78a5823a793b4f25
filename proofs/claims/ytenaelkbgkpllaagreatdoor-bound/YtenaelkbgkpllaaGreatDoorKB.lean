/- A map begun with points out of raw numbers. -/
import Derived.Test.YtenaelkbgkpllaaGreatDoorKA
import Derived.Test.YtenaelkbgkpllaaGreatDoorDDig
namespace Go.Proofs.YtenaelkbgkpllaaGreatDoor
open Go.RowKit

/-- a map and a list, made anew beside the dice -/
structure Held (B : Nat) (w w' : World) (d : Nat) (code : List Int) (k m : Nat) (v : Value) (L : List Ward.Pt) (vl : Value) (l : List Ward.Pt) : Prop where
  map : IsMap w' m v L
  good : Good L
  list : Own w' w.heap.size vl l
  dice : Dice w' B d code k
  newm : w.heap.size ≤ m
  newv : ∀ g, v.ownBlock = some g → w.heap.size ≤ g
  apart : ∀ g, vl.ownBlock = some g → ¬ Mine m v g
  keeps : Keeps (fun j => j = d) w w'
theorem Dice.below {w w' : World} {B d k : Nat} {code : List Int} (h : Dice w B d code k) (hb : Below w.heap.size w w') : Dice w' B d code k := h.keeps (S := fun _ => False) (Keeps.of_below hb) (fun _ _ h => h)
theorem Own.below {w w' : World} {B : Nat} {v : Value} {L : List Ward.Pt} (h : Own w B v L) (hb : Below w.heap.size w w') : Own w' B v L := h.keeps (S := fun _ => False) (Keeps.of_below hb) (fun _ _ h => h)
theorem Own.ge {w : World} {B g : Nat} {v : Value} {L : List Ward.Pt} (h : Own w B v L) (hg : v.ownBlock = some g) : B ≤ g := (World.ownsRow.lt h g hg).1
section
variable {B : Nat} {w w' w'' : World} {d k k' m : Nat} {code : List Int} {v v' vl vl' : Value} {L L' l l' : List Ward.Pt}
theorem Held.below (h : Held B w w' d code k m v L vl l) (hb : Below w'.heap.size w' w'') : Held B w w'' d code k m v L vl l :=
  ⟨h.map.below hb, h.good, h.list.below hb, h.dice.below hb, h.newm, h.newv, h.apart, h.keeps.trans (Keeps.of_below (S := fun _ => False) hb) (fun _ _ h => h.elim)⟩
theorem Held.next (h : Held B w w' d code k m v L vl l) (hd : d < w.heap.size) (hD : Dice w'' B d code k') (hk : Keeps (fun j => j = d) w' w'') : Held B w w'' d code k' m v L vl l := by
  have h1 := h.newm
  refine ⟨h.map.keeps hk (fun j hj e => ?_), h.good, h.list.keeps hk (fun g hg e => ?_), hD, h.newm, h.newv, h.apart, h.keeps.trans hk (fun _ _ h => h)⟩
  · rcases hj with rfl | hj
    · omega
    · have := h.newv j hj.symm; omega
  · have := h.list.ge hg; omega
theorem Held.insert (h : Held B w w' d code k m v L vl l) (hB : B ≤ w.heap.size) (hm : IsMap w'' m v' L') (hG : Good L') (hf : Fresh w' v v') (hk : Keeps (Mine m v) w' w'') : Held B w w'' d code k m v' L' vl l := by
  have h1 := h.newm
  have h2 := h.keeps.size
  refine ⟨hm, hG, h.list.keeps hk h.apart, h.dice.keeps hk (fun j hj e => ?_), h.newm, fun g hg => ?_, fun g hg e => ?_, h.keeps.trans hk (fun j hj e => ?_)⟩
  · rcases e with rfl | e
    · omega
    · have := h.newv j e.symm; omega
  · rcases hf with hf | ⟨g', hf, hg'⟩
    · exact h.newv g (by rw [← hf]; exact hg)
    · rw [hg] at hf; injection hf with hf; omega
  · rcases e with rfl | e
    · exact h.apart g hg (.inl rfl)
    · rcases hf with hf | ⟨g', hf, hg'⟩
      · exact h.apart g hg (.inr (by rw [← hf]; exact e))
      · rw [← e] at hf
        injection hf with hf
        have := h.list.lt hg
        omega
  · rcases e with rfl | e
    · omega
    · have := h.newv j e.symm; omega
theorem Held.append (h : Held B w w' d code k m v L vl l) (hB : B ≤ w.heap.size) (ho : Own w'' w.heap.size vl' l') (hg : w'.grownBy w'' vl.ownBlock) (hf : Fresh w' vl vl') : Held B w w'' d code k m v L vl' l' := by
  have hk := Keeps.of_grown hg
  refine ⟨h.map.keeps hk (fun j hj e => h.apart j e.symm hj), h.good, ho, h.dice.keeps hk (fun j hj e => ?_), h.newm, h.newv, fun g hg' e => ?_, h.keeps.trans hk (fun j hj e => ?_)⟩
  · have := h.list.ge e.symm; omega
  · rcases hf with hf | ⟨g', hf, hg''⟩
    · exact h.apart g (by rw [← hf]; exact hg') e
    · rw [hg'] at hf
      injection hf with hf
      have hlt : g < w'.heap.size := by
        rcases e with rfl | e
        · exact h.map.lt
        · exact h.map.own.lt e.symm
      omega
  · have := h.list.ge e.symm; omega
end
theorem KT.keeps {S : Nat → Prop} {w w' : World} (h : KT w) (hk : Keeps S w w') (hn : ¬ S 1) : KT w' := fun i hi => (World.cell?_of_block (w := w) (hk.block _ h.lt hn)).trans (h i hi)
/-- points out of small numbers -/
def Near (l : List Ward.Pt) : Prop := ∀ p ∈ l, (1 ≤ p.id ∧ p.id ≤ 60) ∧ (-6 ≤ p.x ∧ p.x ≤ 6) ∧ (-6 ≤ p.y ∧ p.y ≤ 6)
/-- what Insert says to a point out of small numbers -/
theorem near_code {L l : List Ward.Pt} {p : Ward.Pt} (hp : (1 ≤ p.id ∧ p.id ≤ 60) ∧ (-6 ≤ p.x ∧ p.x ≤ 6) ∧ (-6 ≤ p.y ∧ p.y ≤ 6)) (hperm : L.Perm l) (hl : l.length < 150) : insCode L p = if ∃ q ∈ l, q.id = p.id then 3 else 0 := by
  have hll : L.length = l.length := hperm.length_eq
  unfold insCode
  rw [if_neg (by omega), if_neg (by omega)]
  by_cases h : ∃ q ∈ l, q.id = p.id
  · obtain ⟨q, hq, e⟩ := h
    rw [if_pos ⟨q, hperm.mem_iff.2 hq, e⟩, if_pos ⟨q, hq, e⟩]
  · rw [if_neg (fun ⟨q, hq, e⟩ => h ⟨q, hperm.mem_iff.1 hq, e⟩), if_neg (by omega), if_neg h]
theorem Keeps.alloc {S : Nat → Prop} {a b : World} (h : Keeps S a b) (o : Obj) : Keeps S a (b.alloc o) :=
  h.trans (S' := fun _ => False) (Keeps.of_below ((Below.refl b.heap.size b).alloc (Nat.le_refl _) o)) (fun _ _ h => h.elim)

set_option maxRecDepth 100000 in
set_option maxHeartbeats 2000000 in
theorem began_any (B d : Nat) (code : List Int) (k : Nat) (w : World) (hBw : B ≤ w.heap.size) (hd : Dice w B d code k) (hK : KT w) :
    Calls Tryz.prog 12 #[.pointer (some ⟨d, 0, none⟩)] w fun e w' => ∃ k' m v L vl l, e = .returned (.tuple #[.pointer (some ⟨m, 0, none⟩), vl]) ∧ Held B w w' d code k' m v L vl l ∧ L.Perm l ∧ Near l ∧ l.length ≤ 39 := by
  have HD := hide hd
  have HK := hide hK
  clear hd hK
  obtain ⟨LB, hLB⟩ : ∃ L, (Sha.sha [97, 98, 99]).map Y = L := ⟨_, rfl⟩
  have dB : Dig LB := hLB ▸ dig_of _
  have HB := hide hLB
  clear hLB
  go_enter Tryz.func12, Tryz.ntmps12
  go_wp2_with fail
  refine (new_any _).mono ?_
  rintro e w1 ⟨rfl, hm1, hz1, hb1⟩
  go_wp2_with fail
  refine (insert_id w.heap.size _ [] ⟨0, 0, 0⟩ w1 hm1 (by simp)).mono ?_
  rintro e w2 ⟨rfl, v2, hm2, hf2, hk2⟩
  have hK2 : KT w2 := (HK.out.below hb1).keeps hk2 (fun h => h.elim (fun e => absurd HK.out.lt (by omega)) (fun e => by simp [Value.ownBlock] at e))
  go_wp2_with fail
  refine (dig_abc LB _ hK2 HB.out).mono ?_
  rintro e w3 ⟨rfl, hb3⟩
  obtain ⟨b0, b1, b31⟩ := Abc.at_abc
  have v0 : (w3.alloc (.cells LB.toArray 39)).cell? ⟨w3.heap.size, 0, none⟩ = some (.int .u8 186) := by
    rw [cell_of_row _ _ _ _ _ _ (heap_alloc_new w3 _), ← HB.out]; exact val_at b0
  have v1 : (w3.alloc (.cells LB.toArray 39)).cell? ⟨w3.heap.size, 1, none⟩ = some (.int .u8 120) := by
    rw [cell_of_row _ _ _ _ _ _ (heap_alloc_new w3 _), ← HB.out]; exact val_at b1
  have v31 : (w3.alloc (.cells LB.toArray 39)).cell? ⟨w3.heap.size, 31, none⟩ = some (.int .u8 173) := by
    rw [cell_of_row _ _ _ _ _ _ (heap_alloc_new w3 _), ← HB.out]; exact val_at b31
  have hdl := HD.out.lt
  have hbn : ∀ o, Held B w (w3.alloc o) d code k w.heap.size v2 [] (.slice none 0 0) [] := fun o => by
    have hb3' := hb3.alloc hb3.size o
    have k0 : Keeps (fun j => j = d) w w1 := Keeps.of_below hb1
    have k2 : Keeps (fun j => j = d) w w2 := k0.trans hk2 (fun j hj h => by rcases h with rfl | h; (· omega); (· simp [Value.ownBlock] at h))
    have hD2 : Dice w2 B d code k := (HD.out.below hb1).keeps hk2 (fun j hj h => by rcases h with e | h; (· omega); (· simp [Value.ownBlock] at h))
    exact ⟨hm2.below hb3', good_nil, World.ownsRow_nil _ _ _ _, hD2.below hb3', Nat.le_refl _, fun g hg => by
      rcases hf2 with h | ⟨g', h, hg'⟩
      · rw [hg] at h; simp [Value.ownBlock] at h
      · rw [hg] at h; injection h with h; omega, fun g hg => by simp [Value.ownBlock] at hg, k2.trans (S' := fun _ => False) (Keeps.of_below hb3') (fun _ _ h => h.elim)⟩
  have HBN := hide hbn
  clear hbn b0 b1 b31
  go_wp2_with (refine wpList_store_row rfl 39 (.tmp 6) (.tmp 19) rfl w3.heap.size LB.toArray rfl rfl 39 _ (heap_alloc_new w3 _) dB.info (by rw [dB.size]; rfl) dB.one ?_; rw [World.setRow_alloc_new])
  refine (next_any B d code k 40 _ (HBN.out _).dice (by decide) (by decide)).mono ?_
  rintro e w4 ⟨r, k4, rfl, hr0, hr1, hD4, hk4⟩
  have hB4 := (HBN.out _).next hdl hD4 hk4
  have HB4 := hide hB4
  obtain ⟨r4, rfl⟩ : ∃ r4 : Nat, r = (r4 : Int) := ⟨r.toNat, by omega⟩
  clear hB4 hD4 hk4 HBN v0 v1 v31 hb3 hK2 hk2 hf2 hm2 hb1 hz1 hm1
  go_wp2_with fail
  go_loopw [7, 8] (fun vl vn wq => ∃ (n : Nat) (l L : List Ward.Pt) (v : Value) (k' : Nat), vn = I n ∧ n + l.length ≤ 39 ∧ Held B w wq d code k' w.heap.size v L vl l ∧ L.Perm l ∧ Near l) (fun _ vn _ => (intOf vn).toNat)
  case atStart => exact ⟨r4, [], [], v2, k4, rfl, by simp; omega, HB4.out, List.Perm.refl _, fun p hp => by simp at hp⟩
  case round =>
    clear HB4
    obtain ⟨n, l, L, v, k', rfl, hnl, hB, hperm, hnear⟩ := hrel
    have HBG := hide hB
    have HP := hide hperm
    have HN := hide hnear
    clear hB hperm hnear
    by_cases hn : 0 < n
    · go_wp2_with fail
      refine (next_any B d code k' 60 _ HBG.out.dice (by decide) (by decide)).mono ?_
      rintro e wa ⟨ra, ka, rfl, ha0, ha1, hDa, hka⟩
      have HBA := hide (HBG.out.next hdl hDa hka)
      clear hDa hka
      go_wp2_with fail
      refine (next_any B d code ka 13 _ HBA.out.dice (by decide) (by decide)).mono ?_
      rintro e wb ⟨rb, kb, rfl, hb0, hb1, hDb, hkb⟩
      have HBB := hide (HBA.out.next hdl hDb hkb)
      clear hDb hkb
      go_wp2_with fail
      refine (next_any B d code kb 13 _ HBB.out.dice (by decide) (by decide)).mono ?_
      rintro e wc ⟨rc, kc, rfl, hc0, hc1, hDc, hkc⟩
      have HBC := hide (HBB.out.next hdl hDc hkc)
      clear hDc hkc HBA HBB HBG
      go_wp2_with fail
      obtain ⟨p, hp⟩ : ∃ p : Ward.Pt, p = ⟨1 + ra, rb - 6, rc - 6⟩ := ⟨_, rfl⟩
      have hpn : (1 ≤ p.id ∧ p.id ≤ 60) ∧ (-6 ≤ p.x ∧ p.x ≤ 6) ∧ (-6 ≤ p.y ∧ p.y ≤ 6) := by rw [hp]; simp only; omega
      have e1 : 1 + ra = p.id := by rw [hp]
      have e2 : rb - 6 = p.x := by rw [hp]
      have e3 : rc - 6 = p.y := by rw [hp]
      rw [e1, e2, e3]
      clear e1 e2 e3 hp ha0 ha1 hb0 hb1 hc0 hc1
      have HC := hide (near_code hpn HP.out (by omega))
      have hBA := fun o => HBC.out.below ((Below.refl wc.heap.size wc).alloc (Nat.le_refl _) o)
      refine (mapInsert_any w.heap.size v L p _ (hBA _).map HBC.out.good).mono ?_
      rintro e w5 ⟨rfl, v5, hm5, hf5, hk5⟩
      have hpt : PtAt w5 wc.heap.size 0 p := by
        have hlt := (hBA (.cells (P3 p).toArray 36)).map.own
        have hr := (hk5.block wc.heap.size (by simp) (fun h => by
          rcases h with h | h
          · have := HBC.out.map.lt; omega
          · have := HBC.out.map.own.lt h.symm; omega)).trans (heap_alloc_new wc _)
        exact row3 hr
      have HB5 := hide ((hBA _).insert hBw hm5 (HBC.out.good.insert p) hf5 hk5)
      obtain ⟨al, cl, rfl, hrd⟩ := HB5.out.list.reads
      have HRD := hide hrd
      have HPT := hide hpt
      clear hrd hBA hm5 hf5 hk5 hpt
      go_wp2_with fail
      go_loopw [11, 12] (fun vt vi wq => ∃ (i nn : Nat), vi = I i ∧ i ≤ l.length ∧ vt = .bool ((l.take i).any fun q => q.id == p.id) ∧ wq = w5.drewN nn) (fun _ vi _ => l.length - (intOf vi).toNat)
      case atStart => exact ⟨0, 0, rfl, by omega, rfl, rfl⟩
      case round =>
        obtain ⟨i, nn, rfl, hi, rfl, rfl⟩ := hrel
        by_cases hlt : i < l.length
        · obtain ⟨g, o, rfl, hp5⟩ := HRD.out (fun e => by subst e; simp at hlt)
          have hq := (hp5 i hlt).1
          have HT := hide (show (l.take (i + 1)).any (fun q => q.id == p.id) = ((l.take i).any (fun q => q.id == p.id) || (l[i].id == p.id)) by rw [List.take_succ_eq_append_getElem hlt, List.any_append]; simp)
          obtain ⟨wx, hwx⟩ : ∃ wx, wx = w5.drewN nn := ⟨_, rfl⟩
          rw [← hwx]
          have hq2 : wx.cell? ⟨g, o + i * 3, none⟩ = some (I l[i].id) := by rw [hwx]; exact hq
          have hq3 : wx.cell? ⟨wc.heap.size, 0, none⟩ = some (I p.id) := by rw [hwx]; exact HPT.out.1
          have HX := hide hwx
          generalize l[i].id = qi at *
          clear hp5 hq hwx
          by_cases ht : (l.take i).any (fun q => q.id == p.id) = true
          · rw [ht] at HT ⊢
            go_wp2_with fail
            go_quiet (fail)
            go_wp2_with fail
            exact ⟨⟨i + 1, nn + nq, by go_num, by omega, by rw [HT.out]; rfl, by rw [HX.out]; simp⟩, by simp [intOf]; omega⟩
          · have ht : (l.take i).any (fun q => q.id == p.id) = false := by simpa using ht
            rw [ht] at HT ⊢
            go_wp2_with fail
            go_quiet (fail)
            go_wp2_with fail
            exact ⟨⟨i + 1, nn + nq, by go_num, by omega, by rw [HT.out]; rfl, by rw [HX.out]; simp⟩, by simp [intOf]; omega⟩
        · have ei : i = l.length := by omega
          subst ei
          rw [List.take_length]
          obtain ⟨wx, hwx⟩ : ∃ wx, wx = w5.drewN nn := ⟨_, rfl⟩
          rw [← hwx]
          have HX := hide hwx
          have hq3 : PtAt wx wc.heap.size 0 p := by rw [hwx]; exact HPT.out
          clear hwx
          by_cases hT : ∃ q ∈ l, q.id = p.id
          · have hc3 : insCode L p = 3 := by rw [HC.out, if_pos hT]
            have ht : l.any (fun q => q.id == p.id) = true := by
              obtain ⟨q, hq, e⟩ := hT
              exact List.any_eq_true.2 ⟨q, hq, by simp [e]⟩
            rw [ht, hc3]
            have HB6 := hide (show Held B w wx d code kc w.heap.size v5 L (.slice al l.length cl) l by
              have h := HB5.out
              rw [insList, if_neg (by rw [hc3]; decide)] at h
              rw [HX.out]
              exact h.below ⟨rfl, rfl, rfl, Nat.le_refl _, fun _ _ => rfl⟩)
            go_wp2_with fail
            exact ⟨⟨n - 1, l, L, v5, kc, by go_num, by omega, HB6.out, HP.out, HN.out⟩, by simp [intOf]; omega⟩
          · have hc3 : insCode L p = 0 := by rw [HC.out, if_neg hT]
            have ht : l.any (fun q => q.id == p.id) = false := by
              rw [List.any_eq_false]
              intro q hq e
              exact hT ⟨q, hq, by simpa using e⟩
            rw [ht, hc3]
            obtain ⟨q1, q2, q3⟩ := hq3
            obtain ⟨i0, hi0, hz0, hz1, hz2⟩ := info_parts Tryz.infoPt
            have HB6 := hide (show Held B w wx d code kc w.heap.size v5 (Ward.ins p L) (.slice al l.length cl) l by
              have h := HB5.out
              rw [insList, if_pos hc3] at h
              rw [HX.out]
              exact h.below ⟨rfl, rfl, rfl, Nat.le_refl _, fun _ _ => rfl⟩)
            have HB7 := hide (fun o => HB6.out.below ((Below.refl wx.heap.size wx).alloc (Nat.le_refl _) o))
            have hwx : w.heap.size ≤ wx.heap.size := HB6.out.keeps.size
            have HNW := hide (row_src (o := 0) (n := 3) (heap_alloc_new wx (.cells (P3 p).toArray 36)))
            clear HB5 HX
            go_wp2_with (at_builtin; refine wpList_append_own2 _ rfl (.tmp 87) (.tmp 89) 27 rfl w.heap.size 36 i0 (.agg #[I 0, I 0, I 0]) 3 24 Tryz.underlying27 hi0 hz0 hz1 hz2 rfl (by decide) _ l.length (l.flatMap P3) rfl (HB7.out _).list ⟨wx.heap.size, 0, none⟩ 1 1 (P3 p) rfl rfl HNW.out (fun u hu => cells_one (L := [p]) u (by simpa using hu)) (by unfold maxLen; omega) (by omega) (by simp; omega) ?_)
            intro v' w6 hown' hgrow hfr
            have ho6 : Own w6 w.heap.size v' (l ++ [p]) := by
              unfold Own
              rw [List.length_append, List.flatMap_append]
              simpa using hown'
            have HB8 := hide ((HB7.out _).append hBw ho6 hgrow hfr)
            clear hown' hgrow hfr ho6
            go_wp2_with fail
            refine ⟨⟨n - 1, l ++ [p], Ward.ins p L, v5, kc, by go_num, by simp; omega, HB8.out, ?_, ?_⟩, by simp [intOf]; omega⟩
            · exact (Ward.ins_perm p L).trans ((HP.out.cons p).trans (List.perm_append_singleton p l).symm)
            · intro q hq
              rcases List.mem_append.1 hq with hq | hq
              · exact HN.out q hq
              · rw [List.mem_singleton.1 hq]; exact hpn
    · have e0 : n = 0 := by omega
      subst e0
      go_wp2
      go_ret2
      exact ⟨k', w.heap.size, v, L, _, l, rfl, HBG.out, HP.out, HN.out, by omega⟩
end Go.Proofs.YtenaelkbgkpllaaGreatDoor
