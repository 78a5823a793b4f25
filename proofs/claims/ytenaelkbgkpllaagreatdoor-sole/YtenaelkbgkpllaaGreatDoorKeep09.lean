/- Part 9 of what the claims on Bound, Small, Right and Sole rest on. -/
import Derived.Test.YtenaelkbgkpllaaGreatDoorKeep06
import Derived.Test.YtenaelkbgkpllaaGreatDoorKeep08
/- The statements' own parts: raw numbers, taken one by one. -/
namespace Go.Proofs.YtenaelkbgkpllaaGreatDoor
open Go.RowKit

/-- which of n things a raw number speaks of -/
def pickN (c n : Int) : Int := (if c < 0 then -(c + 1) else c) % n
theorem pickN_range (c n : Int) (h : 0 < n) : 0 ≤ pickN c n ∧ pickN c n < n := ⟨Int.emod_nonneg _ (by omega), Int.emod_lt_of_pos _ h⟩
set_option maxHeartbeats 400000 in
theorem pick_any2 (c n : Int) (w : World) (h0 : -9223372036854775808 ≤ c) (h1 : c ≤ 9223372036854775807) (hn : 0 < n) (hn1 : n ≤ 9223372036854775807) :
    Calls Tryz.prog 13 #[I c, I n] w fun e w' => e = .returned (I (pickN c n)) ∧ w' = w := by
  have hnz : ¬ n = 0 := by omega
  have hr := pickN_range c n hn
  by_cases hc : c < 0
  · have e := hide (show pickN c n = -((c + 1).tmod n) by rw [pickN, if_pos hc, ← Int.neg_tmod, Int.tmod_eq_emod_of_nonneg (by omega)])
    rw [e.out] at hr
    go_enter Tryz.func13, Tryz.ntmps13
    go_wp2
    go_ret
    exact ⟨by rw [e.out]; rfl, rfl⟩
  · have e := hide (show pickN c n = c % n by rw [pickN, if_neg hc])
    rw [e.out] at hr
    go_enter Tryz.func13, Tryz.ntmps13
    go_wp2
    go_ret
    exact ⟨by rw [e.out]; rfl, rfl⟩
/-- raw numbers in a slice; all of it lies below block B -/
structure Raw (w : World) (B d : Nat) (a : Option Addr) (code : List Int) : Prop where
  low : d < B
  len : code.length ≤ 140737488355328
  fits : ∀ x ∈ code, -9223372036854775808 ≤ x ∧ x ≤ 9223372036854775807
  lies : code ≠ [] → ∃ g o, a = some ⟨g, o, none⟩ ∧ g < B ∧ g ≠ d ∧ ∀ i (h : i < code.length), w.cell? ⟨g, o + i, none⟩ = some (I code[i])
/-- the dice: raw numbers, and how many are used up -/
def Dice (w : World) (B d : Nat) (code : List Int) (k : Nat) : Prop := ∃ a c, w.heap[d]? = some (.cells #[.slice a code.length c, I k] 32 (0, 0)) ∧ k ≤ code.length ∧ Raw w B d a code
theorem Dice.lt {w : World} {B d k : Nat} {code : List Int} (h : Dice w B d code k) : d < w.heap.size := by
  obtain ⟨a, c, h, -⟩ := h
  exact (Array.getElem?_eq_some_iff.1 h).1
theorem Dice.low {w : World} {B d k : Nat} {code : List Int} (h : Dice w B d code k) : d < B := by
  obtain ⟨a, c, _, _, h⟩ := h
  exact h.low
theorem row2 {w : World} {g t : Nat} {a b : Value} (h : w.heap[g]? = some (.cells #[a, b] t (0, 0))) : w.cell? ⟨g, 0, none⟩ = some a ∧ w.cell? ⟨g, 1, none⟩ = some b := by
  refine ⟨?_, ?_⟩ <;> rw [cell_of_row _ _ _ _ _ _ h] <;> rfl
theorem Dice.keeps {S : Nat → Prop} {w w' : World} {B d k : Nat} {code : List Int} (h : Dice w B d code k) (hk : Keeps S w w') (hn : ∀ j, j < B → ¬ S j) : Dice w' B d code k := by
  have hl := h.lt
  have hw := h.low
  obtain ⟨a, c, h1, h2, h3⟩ := h
  refine ⟨a, c, (hk.block d hl (hn d hw)).trans h1, h2, h3.low, h3.len, h3.fits, fun hne => ?_⟩
  obtain ⟨g, o, rfl, hgB, hg, hc⟩ := h3.lies hne
  exact ⟨g, o, rfl, hgB, hg, fun i hi => (World.cell?_of_block (w := w) (hk.block g (block_lt_of_cell (hc i hi)) (hn g hgB))).trans (hc i hi)⟩
theorem Dice.step {w : World} {B d k n : Nat} {code : List Int} (h : Dice w B d code k) (hk : k < code.length) : Dice ((w.drewN n).setCell ⟨d, 1, none⟩ (I ((k : Int) + 1))) B d code (k + 1) := by
  obtain ⟨a, c, h1, h2, h3⟩ := h
  refine ⟨a, c, ?_, hk, h3.low, h3.len, h3.fits, fun hne => ?_⟩
  · rw [heap_setCell_same _ d 1 _ _ _ (show (w.drewN n).heap[d]? = _ from h1)]
    rfl
  · obtain ⟨g, o, e, hgB, hgd, hc⟩ := h3.lies hne
    refine ⟨g, o, e, hgB, hgd, fun i hi => ?_⟩
    rw [World.cell?_setCell_other _ _ _ _ (fun e => by injection e with e1 _ _; exact hgd e1.symm)]
    exact hc i hi

set_option maxHeartbeats 1000000 in
theorem next_any (B d : Nat) (code : List Int) (k : Nat) (n : Int) (w : World) (hd : Dice w B d code k) (hn : 0 < n) (hn1 : n ≤ 1000) :
    Calls Tryz.prog 25 #[.pointer (some ⟨d, 0, none⟩), I n] w fun e w' => ∃ r k', e = .returned (I r) ∧ 0 ≤ r ∧ r < n ∧ Dice w' B d code k' ∧ Keeps (fun j => j = d) w w' := by
  have HD := hide hd
  obtain ⟨a, c, hrow, hk, hraw⟩ := hd
  have hlen := hraw.len
  obtain ⟨c0, c1⟩ := row2 hrow
  have hf := fun j => frozen_of_row _ _ j _ _ hrow
  have HR := hide hraw
  have HW := hide hrow
  clear hraw hrow
  by_cases hlt : k < code.length
  · obtain ⟨g, o, rfl, hgB, hgd, hcells⟩ := HR.out.lies (fun e => by subst e; simp at hlt)
    have hx := hcells k hlt
    have hfit := HR.out.fits _ (List.getElem_mem hlt)
    generalize code[k] = x at *
    have hr := pickN_range x n hn
    clear hcells
    go_enter Tryz.func25, Tryz.ntmps25
    go_wp2_with fail
    go_quiet (fail)
    go_wp2_with fail
    generalize hW : World.drewN _ _ = w1
    have e0 : w1.cell? ⟨d, 0, none⟩ = some (.slice (some ⟨g, o, none⟩) code.length c) := by rw [← hW]; exact c0
    have e1 : w1.cell? ⟨d, 1, none⟩ = some (I k) := by rw [← hW]; exact c1
    have ex : w1.cell? ⟨g, o + k, none⟩ = some (I x) := by rw [← hW]; exact hx
    have ef : ∀ j, w1.frozen? ⟨d, j, none⟩ = false := fun j => by rw [← hW]; exact hf j
    have hb1 : Below w.heap.size w w1 := by rw [← hW]; exact ⟨rfl, rfl, rfl, Nat.le_refl _, fun _ _ => rfl⟩
    have HD1 := hide (HD.out.keeps (S := fun _ => False) (Keeps.of_below hb1) (fun _ _ h => h))
    have HB1 := hide hb1
    clear hW c0 c1 hx hf hb1 HW HR HD
    go_quiet ((go_at_call 13; exact Calls.quiet_of_same (pick_any2 x n _ hfit.1 hfit.2 hn (by omega))))
    go_wp2
    go_ret
    exact ⟨pickN x n, k + 1, rfl, hr.1, hr.2, HD1.out.step hlt, (Keeps.of_below HB1.out).trans (S' := fun j => j = d) ⟨rfl, rfl, rfl, by simp, fun j _ hj => heap_setCell_other _ ⟨d, 1, none⟩ j _ hj⟩ (fun _ _ h => h)⟩
  · go_enter Tryz.func25, Tryz.ntmps25
    go_wp2_with fail
    go_quiet (fail)
    go_wp2
    go_ret
    exact ⟨0, k, rfl, by omega, hn, ⟨a, c, HW.out, hk, HR.out.low, HR.out.len, HR.out.fits, HR.out.lies⟩, ⟨rfl, rfl, rfl, Nat.le_refl _, fun j _ _ => rfl⟩⟩
end Go.Proofs.YtenaelkbgkpllaaGreatDoor
/- A map begun with points out of raw numbers. -/
namespace Go.Proofs.YtenaelkbgkpllaaGreatDoor
open Go.RowKit

/-- a map and a list, made anew beside the dice -/
structure Held (B : Nat) (w w' : World) (d : Nat) (code : List Int) (k m : Nat) (v : Value) (L : List Ward.Pt) (vl : Value) (l : List Ward.Pt) : Prop where
  map : IsMap w' m v L
  good : Good L
  list : Own w' w.heap.size vl l
  dice : Dice w' B d code k
  newm : w.heap.size ≤ m
  newv : ∀ g, v.ownBlock = some g → w.heap.size ≤ g
  apart : ∀ g, vl.ownBlock = some g → ¬ Mine m v g
  keeps : Keeps (fun j => j = d) w w'
theorem Dice.below {w w' : World} {B d k : Nat} {code : List Int} (h : Dice w B d code k) (hb : Below w.heap.size w w') : Dice w' B d code k := h.keeps (S := fun _ => False) (Keeps.of_below hb) (fun _ _ h => h)
theorem Own.below {w w' : World} {B : Nat} {v : Value} {L : List Ward.Pt} (h : Own w B v L) (hb : Below w.heap.size w w') : Own w' B v L := h.keeps (S := fun _ => False) (Keeps.of_below hb) (fun _ _ h => h)
theorem Own.ge {w : World} {B g : Nat} {v : Value} {L : List Ward.Pt} (h : Own w B v L) (hg : v.ownBlock = some g) : B ≤ g := (World.ownsRow.lt h g hg).1
section
variable {B : Nat} {w w' w'' : World} {d k k' m : Nat} {code : List Int} {v v' vl vl' : Value} {L L' l l' : List Ward.Pt}
theorem Held.below (h : Held B w w' d code k m v L vl l) (hb : Below w'.heap.size w' w'') : Held B w w'' d code k m v L vl l :=
  ⟨h.map.below hb, h.good, h.list.below hb, h.dice.below hb, h.newm, h.newv, h.apart, h.keeps.trans (Keeps.of_below (S := fun _ => False) hb) (fun _ _ h => h.elim)⟩
theorem Held.next (h : Held B w w' d code k m v L vl l) (hd : d < w.heap.size) (hD : Dice w'' B d code k') (hk : Keeps (fun j => j = d) w' w'') : Held B w w'' d code k' m v L vl l := by
  have h1 := h.newm
  refine ⟨h.map.keeps hk (fun j hj e => ?_), h.good, h.list.keeps hk (fun g hg e => ?_), hD, h.newm, h.newv, h.apart, h.keeps.trans hk (fun _ _ h => h)⟩
  · rcases hj with rfl | hj
    · omega
    · have := h.newv j hj.symm; omega
  · have := h.list.ge hg; omega
theorem Held.insert (h : Held B w w' d code k m v L vl l) (hB : B ≤ w.heap.size) (hm : IsMap w'' m v' L') (hG : Good L') (hf : Fresh w' v v') (hk : Keeps (Mine m v) w' w'') : Held B w w'' d code k m v' L' vl l := by
  have h1 := h.newm
  have h2 := h.keeps.size
  refine ⟨hm, hG, h.list.keeps hk h.apart, h.dice.keeps hk (fun j hj e => ?_), h.newm, fun g hg => ?_, fun g hg e => ?_, h.keeps.trans hk (fun j hj e => ?_)⟩
  · rcases e with rfl | e
    · omega
    · have := h.newv j e.symm; omega
  · rcases hf with hf | ⟨g', hf, hg'⟩
    · exact h.newv g (by rw [← hf]; exact hg)
    · rw [hg] at hf; injection hf with hf; omega
  · rcases e with rfl | e
    · exact h.apart g hg (.inl rfl)
    · rcases hf with hf | ⟨g', hf, hg'⟩
      · exact h.apart g hg (.inr (by rw [← hf]; exact e))
      · rw [← e] at hf
        injection hf with hf
        have := h.list.lt hg
        omega
  · rcases e with rfl | e
    · omega
    · have := h.newv j e.symm; omega
theorem Held.append (h : Held B w w' d code k m v L vl l) (hB : B ≤ w.heap.size) (ho : Own w'' w.heap.size vl' l') (hg : w'.grownBy w'' vl.ownBlock) (hf : Fresh w' vl vl') : Held B w w'' d code k m v L vl' l' := by
  have hk := Keeps.of_grown hg
  refine ⟨h.map.keeps hk (fun j hj e => h.apart j e.symm hj), h.good, ho, h.dice.keeps hk (fun j hj e => ?_), h.newm, h.newv, fun g hg' e => ?_, h.keeps.trans hk (fun j hj e => ?_)⟩
  · have := h.list.ge e.symm; omega
  · rcases hf with hf | ⟨g', hf, hg''⟩
    · exact h.apart g (by rw [← hf]; exact hg') e
    · rw [hg'] at hf
      injection hf with hf
      have hlt : g < w'.heap.size := by
        rcases e with rfl | e
        · exact h.map.lt
        · exact h.map.own.lt e.symm
      omega
  · have := h.list.ge e.symm; omega
end
theorem KT.keeps {S : Nat → Prop} {w w' : World} (h : KT w) (hk : Keeps S w w') (hn : ¬ S 1) : KT w' := fun i hi => (World.cell?_of_block (w := w) (hk.block _ h.lt hn)).trans (h i hi)
/-- points out of small numbers -/
def Near (l : List Ward.Pt) : Prop := ∀ p ∈ l, (1 ≤ p.id ∧ p.id ≤ 60) ∧ (-6 ≤ p.x ∧ p.x ≤ 6) ∧ (-6 ≤ p.y ∧ p.y ≤ 6)
/-- what Insert says to a point out of small numbers -/
theorem near_code {L l : List Ward.Pt} {p : Ward.Pt} (hp : (1 ≤ p.id ∧ p.id ≤ 60) ∧ (-6 ≤ p.x ∧ p.x ≤ 6) ∧ (-6 ≤ p.y ∧ p.y ≤ 6)) (hperm : L.Perm l) (hl : l.length < 150) : insCode L p = if ∃ q ∈ l, q.id = p.id then 3 else 0 := by
  have hll : L.length = l.length := hperm.length_eq
  unfold insCode
  rw [if_neg (by omega), if_neg (by omega)]
  by_cases h : ∃ q ∈ l, q.id = p.id
  · obtain ⟨q, hq, e⟩ := h
    rw [if_pos ⟨q, hperm.mem_iff.2 hq, e⟩, if_pos ⟨q, hq, e⟩]
  · rw [if_neg (fun ⟨q, hq, e⟩ => h ⟨q, hperm.mem_iff.1 hq, e⟩), if_neg (by omega), if_neg h]
theorem Keeps.alloc {S : Nat → Prop} {a b : World} (h : Keeps S a b) (o : Obj) : Keeps S a (b.alloc o) :=
  h.trans (S' := fun _ => False) (Keeps.of_below ((Below.refl b.heap.size b).alloc (Nat.le_refl _) o)) (fun _ _ h => h.elim)

set_option maxRecDepth 100000 in
set_option maxHeartbeats 2000000 in
theorem began_any (B d : Nat) (code : List Int) (k : Nat) (w : World) (hBw : B ≤ w.heap.size) (hd : Dice w B d code k) (hK : KT w) :
    Calls Tryz.prog 12 #[.pointer (some ⟨d, 0, none⟩)] w fun e w' => ∃ k' m v L vl l, e = .returned (.tuple #[.pointer (some ⟨m, 0, none⟩), vl]) ∧ Held B w w' d code k' m v L vl l ∧ L.Perm l ∧ Near l ∧ l.length ≤ 39 := by
  have HD := hide hd
  have HK := hide hK
  clear hd hK
  obtain ⟨LB, hLB⟩ : ∃ L, (Sha.sha [97, 98, 99]).map Y = L := ⟨_, rfl⟩
  have dB : Dig LB := hLB ▸ dig_of _
  have HB := hide hLB
  clear hLB
  go_enter Tryz.func12, Tryz.ntmps12
  go_wp2_with fail
  refine (new_any _).mono ?_
  rintro e w1 ⟨rfl, hm1, hz1, hb1⟩
  go_wp2_with fail
  refine (insert_id w.heap.size _ [] ⟨0, 0, 0⟩ w1 hm1 (by simp)).mono ?_
  rintro e w2 ⟨rfl, v2, hm2, hf2, hk2⟩
  have hK2 : KT w2 := (HK.out.below hb1).keeps hk2 (fun h => h.elim (fun e => absurd HK.out.lt (by omega)) (fun e => by simp [Value.ownBlock] at e))
  go_wp2_with fail
  refine (dig_abc LB _ hK2 HB.out).mono ?_
  rintro e w3 ⟨rfl, hb3⟩
  obtain ⟨b0, b1, b31⟩ := Abc.at_abc
  have v0 : (w3.alloc (.cells LB.toArray 39)).cell? ⟨w3.heap.size, 0, none⟩ = some (.int .u8 186) := by
    rw [cell_of_row _ _ _ _ _ _ (heap_alloc_new w3 _), ← HB.out]; exact val_at b0
  have v1 : (w3.alloc (.cells LB.toArray 39)).cell? ⟨w3.heap.size, 1, none⟩ = some (.int .u8 120) := by
    rw [cell_of_row _ _ _ _ _ _ (heap_alloc_new w3 _), ← HB.out]; exact val_at b1
  have v31 : (w3.alloc (.cells LB.toArray 39)).cell? ⟨w3.heap.size, 31, none⟩ = some (.int .u8 173) := by
    rw [cell_of_row _ _ _ _ _ _ (heap_alloc_new w3 _), ← HB.out]; exact val_at b31
  have hdl := HD.out.lt
  have hbn : ∀ o, Held B w (w3.alloc o) d code k w.heap.size v2 [] (.slice none 0 0) [] := fun o => by
    have hb3' := hb3.alloc hb3.size o
    have k0 : Keeps (fun j => j = d) w w1 := Keeps.of_below hb1
    have k2 : Keeps (fun j => j = d) w w2 := k0.trans hk2 (fun j hj h => by rcases h with rfl | h; (· omega); (· simp [Value.ownBlock] at h))
    have hD2 : Dice w2 B d code k := (HD.out.below hb1).keeps hk2 (fun j hj h => by rcases h with e | h; (· omega); (· simp [Value.ownBlock] at h))
    exact ⟨hm2.below hb3', good_nil, World.ownsRow_nil _ _ _ _, hD2.below hb3', Nat.le_refl _, fun g hg => by
      rcases hf2 with h | ⟨g', h, hg'⟩
      · rw [hg] at h; simp [Value.ownBlock] at h
      · rw [hg] at h; injection h with h; omega, fun g hg => by simp [Value.ownBlock] at hg, k2.trans (S' := fun _ => False) (Keeps.of_below hb3') (fun _ _ h => h.elim)⟩
  have HBN := hide hbn
  clear hbn b0 b1 b31
  go_wp2_with (refine wpList_store_row rfl 39 (.tmp 6) (.tmp 19) rfl w3.heap.size LB.toArray rfl rfl 39 _ (heap_alloc_new w3 _) dB.info (by rw [dB.size]; rfl) dB.one ?_; rw [World.setRow_alloc_new])
  refine (next_any B d code k 40 _ (HBN.out _).dice (by decide) (by decide)).mono ?_
  rintro e w4 ⟨r, k4, rfl, hr0, hr1, hD4, hk4⟩
  have hB4 := (HBN.out _).next hdl hD4 hk4
  have HB4 := hide hB4
  obtain ⟨r4, rfl⟩ : ∃ r4 : Nat, r = (r4 : Int) := ⟨r.toNat, by omega⟩
  clear hB4 hD4 hk4 HBN v0 v1 v31 hb3 hK2 hk2 hf2 hm2 hb1 hz1 hm1
  go_wp2_with fail
  go_loopw [7, 8] (fun vl vn wq => ∃ (n : Nat) (l L : List Ward.Pt) (v : Value) (k' : Nat), vn = I n ∧ n + l.length ≤ 39 ∧ Held B w wq d code k' w.heap.size v L vl l ∧ L.Perm l ∧ Near l) (fun _ vn _ => (intOf vn).toNat)
  case atStart => exact ⟨r4, [], [], v2, k4, rfl, by simp; omega, HB4.out, List.Perm.refl _, fun p hp => by simp at hp⟩
  case round =>
    clear HB4
    obtain ⟨n, l, L, v, k', rfl, hnl, hB, hperm, hnear⟩ := hrel
    have HBG := hide hB
    have HP := hide hperm
    have HN := hide hnear
    clear hB hperm hnear
    by_cases hn : 0 < n
    · go_wp2_with fail
      refine (next_any B d code k' 60 _ HBG.out.dice (by decide) (by decide)).mono ?_
      rintro e wa ⟨ra, ka, rfl, ha0, ha1, hDa, hka⟩
      have HBA := hide (HBG.out.next hdl hDa hka)
      clear hDa hka
      go_wp2_with fail
      refine (next_any B d code ka 13 _ HBA.out.dice (by decide) (by decide)).mono ?_
      rintro e wb ⟨rb, kb, rfl, hb0, hb1, hDb, hkb⟩
      have HBB := hide (HBA.out.next hdl hDb hkb)
      clear hDb hkb
      go_wp2_with fail
      refine (next_any B d code kb 13 _ HBB.out.dice (by decide) (by decide)).mono ?_
      rintro e wc ⟨rc, kc, rfl, hc0, hc1, hDc, hkc⟩
      have HBC := hide (HBB.out.next hdl hDc hkc)
      clear hDc hkc HBA HBB HBG
      go_wp2_with fail
      obtain ⟨p, hp⟩ : ∃ p : Ward.Pt, p = ⟨1 + ra, rb - 6, rc - 6⟩ := ⟨_, rfl⟩
      have hpn : (1 ≤ p.id ∧ p.id ≤ 60) ∧ (-6 ≤ p.x ∧ p.x ≤ 6) ∧ (-6 ≤ p.y ∧ p.y ≤ 6) := by rw [hp]; simp only; omega
      have e1 : 1 + ra = p.id := by rw [hp]
      have e2 : rb - 6 = p.x := by rw [hp]
      have e3 : rc - 6 = p.y := by rw [hp]
      rw [e1, e2, e3]
      clear e1 e2 e3 hp ha0 ha1 hb0 hb1 hc0 hc1
      have HC := hide (near_code hpn HP.out (by omega))
      have hBA := fun o => HBC.out.below ((Below.refl wc.heap.size wc).alloc (Nat.le_refl _) o)
      refine (mapInsert_any w.heap.size v L p _ (hBA _).map HBC.out.good).mono ?_
      rintro e w5 ⟨rfl, v5, hm5, hf5, hk5⟩
      have hpt : PtAt w5 wc.heap.size 0 p := by
        have hlt := (hBA (.cells (P3 p).toArray 36)).map.own
        have hr := (hk5.block wc.heap.size (by simp) (fun h => by
          rcases h with h | h
          · have := HBC.out.map.lt; omega
          · have := HBC.out.map.own.lt h.symm; omega)).trans (heap_alloc_new wc _)
        exact row3 hr
      have HB5 := hide ((hBA _).insert hBw hm5 (HBC.out.good.insert p) hf5 hk5)
      obtain ⟨al, cl, rfl, hrd⟩ := HB5.out.list.reads
      have HRD := hide hrd
      have HPT := hide hpt
      clear hrd hBA hm5 hf5 hk5 hpt
      go_wp2_with fail
      go_loopw [11, 12] (fun vt vi wq => ∃ (i nn : Nat), vi = I i ∧ i ≤ l.length ∧ vt = .bool ((l.take i).any fun q => q.id == p.id) ∧ wq = w5.drewN nn) (fun _ vi _ => l.length - (intOf vi).toNat)
      case atStart => exact ⟨0, 0, rfl, by omega, rfl, rfl⟩
      case round =>
        obtain ⟨i, nn, rfl, hi, rfl, rfl⟩ := hrel
        by_cases hlt : i < l.length
        · obtain ⟨g, o, rfl, hp5⟩ := HRD.out (fun e => by subst e; simp at hlt)
          have hq := (hp5 i hlt).1
          have HT := hide (show (l.take (i + 1)).any (fun q => q.id == p.id) = ((l.take i).any (fun q => q.id == p.id) || (l[i].id == p.id)) by rw [List.take_succ_eq_append_getElem hlt, List.any_append]; simp)
          obtain ⟨wx, hwx⟩ : ∃ wx, wx = w5.drewN nn := ⟨_, rfl⟩
          rw [← hwx]
          have hq2 : wx.cell? ⟨g, o + i * 3, none⟩ = some (I l[i].id) := by rw [hwx]; exact hq
          have hq3 : wx.cell? ⟨wc.heap.size, 0, none⟩ = some (I p.id) := by rw [hwx]; exact HPT.out.1
          have HX := hide hwx
          generalize l[i].id = qi at *
          clear hp5 hq hwx
          by_cases ht : (l.take i).any (fun q => q.id == p.id) = true
          · rw [ht] at HT ⊢
            go_wp2_with fail
            go_quiet (fail)
            go_wp2_with fail
            exact ⟨⟨i + 1, nn + nq, by go_num, by omega, by rw [HT.out]; rfl, by rw [HX.out]; simp⟩, by simp [intOf]; omega⟩
          · have ht : (l.take i).any (fun q => q.id == p.id) = false := by simpa using ht
            rw [ht] at HT ⊢
            go_wp2_with fail
            go_quiet (fail)
            go_wp2_with fail
            exact ⟨⟨i + 1, nn + nq, by go_num, by omega, by rw [HT.out]; rfl, by rw [HX.out]; simp⟩, by simp [intOf]; omega⟩
        · have ei : i = l.length := by omega
          subst ei
          rw [List.take_length]
          obtain ⟨wx, hwx⟩ : ∃ wx, wx = w5.drewN nn := ⟨_, rfl⟩
          rw [← hwx]
          have HX := hide hwx
          have hq3 : PtAt wx wc.heap.size 0 p := by rw [hwx]; exact HPT.out
          clear hwx
          by_cases hT : ∃ q ∈ l, q.id = p.id
          · have hc3 : insCode L p = 3 := by rw [HC.out, if_pos hT]
            have ht : l.any (fun q => q.id == p.id) = true := by
              obtain ⟨q, hq, e⟩ := hT
              exact List.any_eq_true.2 ⟨q, hq, by simp [e]⟩
            rw [ht, hc3]
            have HB6 := hide (show Held B w wx d code kc w.heap.size v5 L (.slice al l.length cl) l by
              have h := HB5.out
              rw [insList, if_neg (by rw [hc3]; decide)] at h
              rw [HX.out]
              exact h.below ⟨rfl, rfl, rfl, Nat.le_refl _, fun _ _ => rfl⟩)
            go_wp2_with fail
            exact ⟨⟨n - 1, l, L, v5, kc, by go_num, by omega, HB6.out, HP.out, HN.out⟩, by simp [intOf]; omega⟩
          · have hc3 : insCode L p = 0 := by rw [HC.out, if_neg hT]
            have ht : l.any (fun q => q.id == p.id) = false := by
              rw [List.any_eq_false]
              intro q hq e
              exact hT ⟨q, hq, by simpa using e⟩
            rw [ht, hc3]
            obtain ⟨q1, q2, q3⟩ := hq3
            obtain ⟨i0, hi0, hz0, hz1, hz2⟩ := info_parts Tryz.infoPt
            have HB6 := hide (show Held B w wx d code kc w.heap.size v5 (Ward.ins p L) (.slice al l.length cl) l by
              have h := HB5.out
              rw [insList, if_pos hc3] at h
              rw [HX.out]
              exact h.below ⟨rfl, rfl, rfl, Nat.le_refl _, fun _ _ => rfl⟩)
            have HB7 := hide (fun o => HB6.out.below ((Below.refl wx.heap.size wx).alloc (Nat.le_refl _) o))
            have hwx : w.heap.size ≤ wx.heap.size := HB6.out.keeps.size
            have HNW := hide (row_src (o := 0) (n := 3) (heap_alloc_new wx (.cells (P3 p).toArray 36)))
            clear HB5 HX
            go_wp2_with (at_builtin; refine wpList_append_own2 _ rfl (.tmp 87) (.tmp 89) 27 rfl w.heap.size 36 i0 (.agg #[I 0, I 0, I 0]) 3 24 Tryz.underlying27 hi0 hz0 hz1 hz2 rfl (by decide) _ l.length (l.flatMap P3) rfl (HB7.out _).list ⟨wx.heap.size, 0, none⟩ 1 1 (P3 p) rfl rfl HNW.out (fun u hu => cells_one (L := [p]) u (by simpa using hu)) (by unfold maxLen; omega) (by omega) (by simp; omega) ?_)
            intro v' w6 hown' hgrow hfr
            have ho6 : Own w6 w.heap.size v' (l ++ [p]) := by
              unfold Own
              rw [List.length_append, List.flatMap_append]
              simpa using hown'
            have HB8 := hide ((HB7.out _).append hBw ho6 hgrow hfr)
            clear hown' hgrow hfr ho6
            go_wp2_with fail
            refine ⟨⟨n - 1, l ++ [p], Ward.ins p L, v5, kc, by go_num, by simp; omega, HB8.out, ?_, ?_⟩, by simp [intOf]; omega⟩
            · exact (Ward.ins_perm p L).trans ((HP.out.cons p).trans (List.perm_append_singleton p l).symm)
            · intro q hq
              rcases List.mem_append.1 hq with hq | hq
              · exact HN.out q hq
              · rw [List.mem_singleton.1 hq]; exact hpn
    · have e0 : n = 0 := by omega
      subst e0
      go_wp2
      go_ret2
      exact ⟨k', w.heap.size, v, L, _, l, rfl, HBG.out, HP.out, HN.out, by omega⟩
end Go.Proofs.YtenaelkbgkpllaaGreatDoor
/- The texts that a proof shows. -/
namespace Go.Proofs.YtenaelkbgkpllaaGreatDoor
open Go.RowKit

/-- a text as a value -/
abbrev Sv (l : List UInt8) : Value := .string ⟨l.toArray⟩
/-- a list of texts in a row of its own -/
def OwnS (w : World) (B : Nat) (v : Value) (ls : List (List UInt8)) : Prop := w.ownsRow B 9 1 v ls.length (ls.map Sv)
theorem Tryz.infoStr : (Tryz.prog.info? 9).map (fun i => (i.zero, i.size, i.bytes)) = some (some (.string ⟨#[]⟩), 1, 16) := by kernel_rfl
theorem ba_eq {s : ByteArray} {l : List UInt8} (h : s.data.toList = l) : s = ⟨l.toArray⟩ := by
  subst h; rfl
theorem idx_at (s : ByteArray) (i : Int) (k : Nat) (b : UInt8) (h : s.data.toList[k]? = some b) (hi : i = k) (W : World) : (Instr.index 9 (.string s) (.int .i64 i)).run Tryz.prog W = .ok (.int .u8 b.toNat) W := by
  have hk : k < s.size := by
    obtain ⟨h', _⟩ := List.getElem?_eq_some_iff.1 h
    simpa using h'
  rw [idx_str s i k hi hk, Sha.byteAt, List.getD_eq_getElem?_getD, h]
  rfl
theorem cut_at (s : ByteArray) (i j : Int) (a n : Nat) (l : List UInt8) (h : (s.data.toList.drop a).take n = l) (hn : a + n ≤ s.size) (hi : i = a) (hj : j = a + n) (W : World) : (Instr.slice 9 (.string s) (some (.int .i64 i)) (some (.int .i64 j)) none).run Tryz.prog W = .ok (Sv l) W := by
  subst hi hj
  rw [run_slice_string W 9 s .i64 .i64 a (a + n) Tryz.underlying9 (by omega) (by omega) (by omega), show ((a : Int)).toNat = a by omega, show ((a : Int) + (n : Int)).toNat = a + n by omega]
  have e := ba_eq (s := s.extract a (a + n)) (l := l) (by rw [cut_list, Nat.add_sub_cancel_left]; exact h)
  rw [e]
/-- a text has this at a place -/
def At (s : ByteArray) (i : Nat) (l : List UInt8) : Prop := ∃ r, s.data.toList.drop i = l ++ r
theorem At.size {s : ByteArray} {i : Nat} {l : List UInt8} (h : At s i l) (hne : l ≠ []) : i + l.length ≤ s.size := by
  obtain ⟨r, h⟩ := h
  have h1 := congrArg List.length h
  have h2 : l.length ≠ 0 := fun e => hne (List.length_eq_zero_iff.1 e)
  simp at h1
  omega
theorem At.head {s : ByteArray} {i : Nat} {l m : List UInt8} (h : At s i (l ++ m)) : At s i l := by
  obtain ⟨r, h⟩ := h
  exact ⟨m ++ r, by rw [h, List.append_assoc]⟩
theorem At.tail {s : ByteArray} {i : Nat} {l m : List UInt8} (h : At s i (l ++ m)) : At s (i + l.length) m := by
  obtain ⟨r, h⟩ := h
  refine ⟨r, ?_⟩
  rw [← List.drop_drop, h, List.append_assoc, List.drop_left]
theorem At.take {s : ByteArray} {i : Nat} {l : List UInt8} (h : At s i l) : (s.data.toList.drop i).take l.length = l := by
  obtain ⟨r, h⟩ := h
  rw [h, List.take_left]
theorem At.get {s : ByteArray} {i : Nat} {l : List UInt8} (h : At s i l) (j : Nat) (b : UInt8) (hj : l[j]? = some b) : s.data.toList[i + j]? = some b := by
  obtain ⟨r, h⟩ := h
  rw [← List.getElem?_drop, h, List.getElem?_append_left (List.getElem?_eq_some_iff.1 hj).1, hj]
theorem grown_trans {a b c : World} {v v' : Value} (h : a.grownBy b v.ownBlock) (hf : Fresh a v v') (k : b.grownBy c v'.ownBlock) : a.grownBy c v.ownBlock := by
  refine ⟨k.os.trans h.os, k.tape.trans h.tape, k.output.trans h.output, Nat.le_trans h.size k.size, fun j hj hn => (k.block j (Nat.lt_of_lt_of_le hj h.size) (fun e => ?_)).trans (h.block j hj hn)⟩
  rcases hf with hf | ⟨g, hf, hg⟩
  · exact hn (by rw [e, hf])
  · rw [hf] at e; injection e with e; omega
theorem fresh_trans {a b : World} {v v' v'' : Value} (h : Fresh a v v') (hs : a.heap.size ≤ b.heap.size) (k : Fresh b v' v'') : Fresh a v v'' := by
  rcases k with k | ⟨g, k, hg⟩
  · rcases h with h | ⟨g, h, hg⟩
    · exact .inl (k.trans h)
    · exact .inr ⟨g, k.trans h, hg⟩
  · exact .inr ⟨g, k, Nat.le_trans hs hg⟩
/-- what texts leaves behind -/
def Told (w : World) (B : Nat) (v : Value) (ls more : List (List UInt8)) (own : List UInt8) (i : Nat) (e : Ending) (w' : World) : Prop :=
  ∃ v', e = .returned (.tuple #[v', Sv own, I i]) ∧ OwnS w' B v' (ls ++ more) ∧ w.grownBy w' v.ownBlock ∧ Fresh w v v'
theorem OwnS.slice {w : World} {B : Nat} {v : Value} {ls : List (List UInt8)} (h : OwnS w B v ls) : ∃ a c, v = .slice a ls.length c := by
  rcases h.2 with ⟨rfl, h0⟩ | ⟨g, c, cur, rfl, _⟩
  · exact ⟨none, 0, by rw [h0]⟩
  · exact ⟨_, c, rfl⟩
theorem OwnS.below {w w' : World} {B : Nat} {v : Value} {ls : List (List UInt8)} (h : OwnS w B v ls) (hb : Below w.heap.size w w') : OwnS w' B v ls := by
  refine ⟨h.1, ?_⟩
  rcases h.2 with h0 | ⟨g, cap, cur, rfl, hB, hg, r⟩
  · exact .inl h0
  · exact .inr ⟨g, cap, cur, rfl, hB, (hb.block g (Array.getElem?_eq_some_iff.1 hg).1).trans hg, r⟩

/-- an append as a step of a region that draws, its run being known -/
theorem step_append_run {P : Program} {ops : Array Oper} {o : Oper} {a : Act} {w : World} {K : Act → World → Prop} {Q : Exit → Act → World → Prop} {E : Prop}
    (hg : o.guard = none) (d x : Operand) (dT sT : TypeId) (hop : o.op = Op.call { callee := Callee.builtin Builtin.append, args := #[d, x], argTypes := #[dT, sT] })
    (v u : Value) (hd : a.eval d = v) (hx : a.eval x = u) {v' : Value} {w' : World} (hr : (Builtin.append_ #[dT, sT] o.type #[v, u]).run P w = .ok v' w') (hK : K (a.put o.dst v') w') :
    if Region.wanted o (yielded ops a.tmps) = true then Oper.wp P o a w K Q else E := by
  have hw : Region.wanted o (yielded ops a.tmps) = true := by simp [Region.wanted, hg]
  rw [if_pos hw]
  exact Lib.wp_append_run w d x dT sT hop v u hd hx v' w' hr hK
theorem sv_one (l : List UInt8) : (Sv l).oneCell' = true := rfl
/-- one text more -/
theorem append_text {w : World} {B : Nat} {v : Value} {ls : List (List UInt8)} (T : List UInt8) (hown : OwnS w B v ls) (hB : B ≤ w.heap.size) (hls : ls.length ≤ 1000000) :
    ∃ v' w', (Builtin.append_ #[58, 58] 58 #[v, .slice (some ⟨w.heap.size, 0, none⟩) 1 1]).run Tryz.prog (w.alloc (.cells #[Sv T] 9)) = .ok v' w' ∧ OwnS w' B v' (ls ++ [T]) ∧ w.grownBy w' v.ownBlock ∧ Fresh w v v' := by
  obtain ⟨i0, hi0, hz0, hz1, hz2⟩ := info_parts Tryz.infoStr
  have hb0 := (Below.refl w.heap.size w).alloc (Nat.le_refl _) (.cells #[Sv T] 9)
  obtain ⟨v', w', hr, ho, hg, hf⟩ := run_append_own2 (P := Tryz.prog) (w.alloc (.cells #[Sv T] 9)) B 58 58 9 i0 (.string ⟨#[]⟩) 1 16 Tryz.underlying58 hi0 hz0 hz1 hz2 rfl (by decide) v ls.length (ls.map Sv) (hown.below hb0) ⟨w.heap.size, 0, none⟩ 1 1 [Sv T] rfl
    (fun j u hj => by
      rw [Addr.add_lit]
      rw [cell_of_row _ _ _ _ _ _ (heap_alloc_new w _)]
      match j, hj with
      | 0, hj => simpa using hj)
    (fun u hu => by rw [List.mem_singleton.1 hu]; rfl) (by unfold maxLen; omega) (by omega) (by simp; omega)
  refine ⟨v', w', hr, ?_, ⟨hg.os, hg.tape, hg.output, Nat.le_trans (by simp) hg.size, fun j hj hn => (hg.block j (by simp; omega) hn).trans (Below.heap_alloc w _ j hj)⟩, ?_⟩
  · unfold OwnS
    rw [List.length_append, List.map_append]
    exact ho
  · rcases hf with hf | ⟨g, hf, hgs⟩
    · exact .inl hf
    · exact .inr ⟨g, hf, Nat.le_trans (by simp) hgs⟩

set_option maxRecDepth 100000 in
set_option maxHeartbeats 2000000 in
theorem texts_leaf (s : ByteArray) (i deep B k : Nat) (b : List UInt8) (v : Value) (ls : List (List UInt8)) (w : World) (hk : k ≤ 4) (hb : b.length = 12 * k) (hat : At s i (1 :: UInt8.ofNat k :: b)) (hdeep : deep ≤ 6) (hown : OwnS w B v ls) (hB : B ≤ w.heap.size) (hls : ls.length ≤ 100000) (hs : s.size ≤ 140737488355328) :
    Calls Tryz.prog 44 #[.string s, I i, I deep, v] w fun e w' => Told w B v ls [1 :: UInt8.ofNat k :: b] (1 :: UInt8.ofNat k :: b) (i + (2 + 12 * k)) e w' := by
  obtain ⟨i0, hi0, hz0, hz1, hz2⟩ := info_parts Tryz.infoStr
  have hsz := hat.size (by simp)
  have hlen : (1 :: UInt8.ofNat k :: b).length = 2 + 12 * k := by simp [hb]; omega
  rw [hlen] at hsz
  have b0 := idx_at s i i 1 (by simpa using hat.get 0 1 rfl) rfl
  have b1 := idx_at s ((i : Int) + 1) (i + 1) (UInt8.ofNat k) (hat.get 1 _ rfl) (by omega)
  have hkk : (UInt8.ofNat k).toNat = k := by rw [UInt8.toNat_ofNat']; omega
  rw [hkk] at b1
  have hcut := cut_at s i ((i : Int) + 2 + 12 * (k : Int)) i (2 + 12 * k) (1 :: UInt8.ofNat k :: b) (by rw [← hlen]; exact hat.take) hsz rfl (by omega)
  generalize (1 :: UInt8.ofNat k :: b) = T at *
  obtain ⟨v', w6, hr, ho, hg, hf⟩ := append_text (w := w.drew) T hown hB (by omega)
  obtain ⟨a, c, rfl⟩ := hown.slice
  have HR := hide (show Told w B (.slice a ls.length c) ls [T] T (i + (2 + 12 * k)) (.returned (.tuple #[v', Sv T, I ((i + (2 + 12 * k) : Nat) : Int)])) w6 from ⟨v', rfl, ho, ⟨hg.os, hg.tape, hg.output, hg.size, hg.block⟩, hf⟩)
  have hr' : (Builtin.append_ #[58, 58] 58 #[.slice a ls.length c, .slice (some ⟨w.heap.size, 0, none⟩) 1 1]).run Tryz.prog (w.alloc (.cells #[.string ⟨T.toArray⟩] 9)).drew = .ok v' w6 := hr
  have hcast := hide (show (i : Int) + 2 + 12 * (k : Int) = ((i + (2 + 12 * k) : Nat) : Int) by omega)
  clear hat hown ho hg hf hr
  go_enter Tryz.func44, Tryz.ntmps44
  go_wp2_with fail
  go_region_law (refine step_append_run rfl _ _ 58 58 rfl _ _ (by simp [Act.eval]) (by simp [Act.eval]) hr' ?_)
  all_goals
    go_wp2
    go_ret3
    have h := HR.out
    rw [← hcast.out] at h
    exact h
end Go.Proofs.YtenaelkbgkpllaaGreatDoor
/- The texts that a proof shows: a node's. -/
namespace Go.Proofs.YtenaelkbgkpllaaGreatDoor
open Go.RowKit

/-- a child's part of a text -/
abbrev Kid (n : Nat) : Type := List UInt8 × (UInt8 ⊕ Ward.PT n)
def kidShows {n : Nat} (c : Kid n) : List UInt8 := c.1 ++ match c.2 with | .inl f => [f] | .inr t => 1 :: Ward.shows n t
def kidAlls {n : Nat} (c : Kid n) : List (List UInt8) := match c.2 with | .inl _ => [] | .inr t => Ward.alls n t
theorem shows_node (n : Nat) (cs : List (Kid n)) : Ward.shows (n + 1) (.node cs) = 2 :: UInt8.ofNat cs.length :: cs.flatMap kidShows := rfl
theorem alls_node (n : Nat) (cs : List (Kid n)) : Ward.alls (n + 1) (.node cs) = cs.flatMap kidAlls ++ [2 :: UInt8.ofNat cs.length :: cs.flatMap (fun c => c.1)] := rfl
theorem own_node (n : Nat) (cs : List (Kid n)) : Ward.own (n + 1) (.node cs) = 2 :: UInt8.ofNat cs.length :: cs.flatMap (fun c => c.1) := rfl
theorem flat_step {α β : Type} (f : α → List β) (cs : List α) (k : Nat) (h : k < cs.length) : (cs.take (k + 1)).flatMap f = (cs.take k).flatMap f ++ f cs[k] := by
  rw [List.take_succ_eq_append_getElem h, List.flatMap_append, List.flatMap_cons, List.flatMap_nil, List.append_nil]
theorem flat_split {α β : Type} (f : α → List β) (cs : List α) (k : Nat) (h : k < cs.length) : cs.flatMap f = (cs.take k).flatMap f ++ (f cs[k] ++ (cs.drop (k + 1)).flatMap f) := by
  rw [← List.append_assoc, ← flat_step f cs k h, ← List.flatMap_append, List.take_append_drop]
theorem sv_add (a b : List UInt8) (h : a.length + b.length ≤ 9223372036854775807) (W : World) : (Op.stringOp .add ⟨a.toArray⟩ ⟨b.toArray⟩).run Tryz.prog W = .ok (Sv (a ++ b)) W := by
  rw [run_string_add_sum W _ _ (by simpa [ByteArray.size] using h), ByteArray.mk_append_mk]
theorem take_len {α β : Type} (f : α → List β) (cs : List α) (k : Nat) : ((cs.take k).flatMap f).length ≤ (cs.flatMap f).length := by
  have h := congrArg (fun l => (l.flatMap f).length) (List.take_append_drop k cs)
  simp only [List.flatMap_append, List.length_append] at h
  omega
theorem heads_len {n : Nat} (cs : List (Kid n)) (h : ∀ c ∈ cs, c.1.length = 52) : ∀ k, k ≤ cs.length → ((cs.take k).flatMap (fun c => c.1)).length = 52 * k
  | 0, _ => rfl
  | k + 1, hk => by rw [flat_step _ _ _ (by omega), List.length_append, heads_len cs h k (by omega), h _ (List.getElem_mem _)]; omega
theorem Told.mono {w : World} {B i j : Nat} {v : Value} {ls m m' : List (List UInt8)} {o o' : List UInt8} {e : Ending} {w' : World} (h : Told w B v ls m o i e w') (hm : m = m') (ho : o = o') (hi : i = j) : Told w B v ls m' o' j e w' := by
  subst hm ho hi; exact h

set_option maxRecDepth 100000 in
set_option maxHeartbeats 2000000 in
theorem texts_node (n : Nat) (cs : List (Kid n)) (s : ByteArray) (i deep B : Nat) (v : Value) (ls : List (List UInt8)) (w : World)
    (ih : ∀ (t : Ward.PT n) (i deep : Nat) (v : Value) (ls : List (List UInt8)) (w : World), Ward.WF n t → At s i (Ward.shows n t) → deep + n ≤ 7 → OwnS w B v ls → B ≤ w.heap.size → ls.length + (Ward.alls n t).length ≤ 100000 → Calls Tryz.prog 44 #[.string s, I i, I deep, v] w fun e w' => Told w B v ls (Ward.alls n t) (Ward.own n t) (i + (Ward.shows n t).length) e w')
    (hwf : Ward.WF (n + 1) (.node cs)) (hat : At s i (Ward.shows (n + 1) (.node cs))) (hdeep : deep + (n + 1) ≤ 7) (hown : OwnS w B v ls) (hB : B ≤ w.heap.size) (hls : ls.length + (Ward.alls (n + 1) (.node cs)).length ≤ 100000) (hs : s.size ≤ 140737488355328) :
    Calls Tryz.prog 44 #[.string s, I i, I deep, v] w fun e w' => Told w B v ls (Ward.alls (n + 1) (.node cs)) (Ward.own (n + 1) (.node cs)) (i + (Ward.shows (n + 1) (.node cs)).length) e w' := by
  obtain ⟨hk4, hkids⟩ := hwf
  have hsz := hat.size (by rw [shows_node]; simp)
  rw [shows_node] at hat hsz ⊢
  rw [alls_node] at hls ⊢
  rw [own_node]
  simp only [List.length_cons] at hsz ⊢
  have b0 := idx_at s i i 2 (by simpa using hat.get 0 2 rfl) rfl
  have b1 := idx_at s ((i : Int) + 1) (i + 1) (UInt8.ofNat cs.length) (hat.get 1 _ rfl) (by omega)
  have hkk : (UInt8.ofNat cs.length).toNat = cs.length := by rw [UInt8.toNat_ofNat']; omega
  rw [hkk] at b1
  have hc2 := cut_at s i ((i : Int) + 2) i 2 [2, UInt8.ofNat cs.length] (At.take (l := [2, UInt8.ofNat cs.length]) (At.head (m := cs.flatMap kidShows) hat)) (by omega) rfl (by omega)
  have HAT := hide (show At s (i + 2) (cs.flatMap kidShows) from At.tail (l := [2, UInt8.ofNat cs.length]) hat)
  have HSZ := hide (show i + 2 + (cs.flatMap kidShows).length ≤ s.size by omega)
  obtain ⟨a, c, rfl⟩ := hown.slice
  have HO := hide hown
  have HIH := hide ih
  have HKD := hide hkids
  have HLS := hide hls
  clear hat hown ih hkids hls hkk
  go_enter Tryz.func44, Tryz.ntmps44
  go_wp2_with fail
  go_loopw [1, 3, 13, 14] (fun vi vl vo vk wq => ∃ k q : Nat, k ≤ cs.length ∧ vk = I k ∧ vi = I q ∧ q = i + 2 + ((cs.take k).flatMap kidShows).length ∧ vo = Sv (2 :: UInt8.ofNat cs.length :: (cs.take k).flatMap (fun c => c.1)) ∧ OwnS wq B vl (ls ++ (cs.take k).flatMap kidAlls) ∧ w.grownBy wq (Value.slice a ls.length c).ownBlock ∧ Fresh w (.slice a ls.length c) vl)
    (fun _ _ _ vk _ => cs.length - (intOf vk).toNat)
  case atStart => exact ⟨0, i + 2, by omega, rfl, by go_num, by simp, by simp, by simpa using HO.out, ⟨rfl, rfl, rfl, Nat.le_refl _, fun _ _ _ => rfl⟩, .inl rfl⟩
  case round =>
    obtain ⟨k, q, hk, rfl, rfl, hq, rfl, ho, hg, hf⟩ := hrel
    obtain ⟨lq, hlq⟩ : ∃ lq, ls ++ (cs.take k).flatMap kidAlls = lq := ⟨_, rfl⟩
    rw [hlq] at ho
    have HLQ := hide hlq
    clear hlq
    have HOQ := hide ho
    have HG := hide hg
    have HF := hide hf
    have HQ := hide hq
    obtain ⟨aq, cq, rfl⟩ := ho.slice
    have hqs : q ≤ 140737488355328 := by
      have h1 := take_len kidShows cs k
      have h2 := HSZ.out
      omega
    clear ho hg hf hq
    by_cases hlt : k < cs.length
    · have hA : At s q (kidShows cs[k]) := by
        have h := HAT.out
        rw [flat_split kidShows cs k hlt] at h
        rw [HQ.out]
        exact h.tail.head
      have hkid := HKD.out cs[k] (List.getElem_mem hlt)
      have e1 := hide (flat_step (fun c : Kid n => c.1) cs k hlt)
      have e2 := hide (flat_step kidShows cs k hlt)
      have e3 := hide (flat_step kidAlls cs k hlt)
      have HLL := hide (show ls.length + ((cs.take k).flatMap kidAlls).length + (kidAlls cs[k]).length ≤ 100000 by
        have h := HLS.out
        rw [flat_split kidAlls cs k hlt] at h
        simp only [List.length_append] at h
        omega)
      obtain ⟨⟨h, x⟩, hc⟩ : ∃ c : Kid n, c = cs[k] := ⟨_, rfl⟩
      rw [← hc] at hA hkid e1 e2 e3 HLL
      obtain ⟨h52, hx⟩ := hkid
      simp only at h52 hx
      have hcut := cut_at s q ((q : Int) + 52) q 52 h (by rw [← h52]; exact (At.head (l := h) hA).take) (by have := (At.head (l := h) hA).size (by intro e; rw [e] at h52; simp at h52); omega) rfl (by omega)
      have hadd := sv_add (2 :: UInt8.ofNat cs.length :: (cs.take k).flatMap (fun c => c.1)) h (by
        have := heads_len cs (fun c hc => (HKD.out c hc).1) k hk
        simp only [List.length_cons]
        omega)
      have HD2 := hide (show 2 :: UInt8.ofNat cs.length :: (cs.take k).flatMap (fun c => c.1) ++ h = 2 :: UInt8.ofNat cs.length :: (cs.take (k + 1)).flatMap (fun c => c.1) by rw [e1.out]; rfl)
      rw [HD2.out] at hadd
      generalize 2 :: UInt8.ofNat cs.length :: (cs.take k).flatMap (fun c => c.1) = O1 at *
      generalize hO2 : 2 :: UInt8.ofNat cs.length :: (cs.take (k + 1)).flatMap (fun c => c.1) = O2 at *
      have HO2 := hide hO2
      clear hc hO2 HD2
      cases x with
      | inl f =>
        have hf1 : ¬ ((f.toNat : Int) = 1) := fun e => hx (by
          have : f.toNat = 1 := by omega
          exact UInt8.toNat_inj.1 this)
        have hsz2 := At.size hA (by simp [kidShows])
        have hl53 : (kidShows ((h, .inl f) : Kid n)).length = 53 := by simp [kidShows, h52]
        rw [hl53] at hsz2
        have hflag := idx_at s ((q : Int) + 52) (q + 52) f (hA.get 52 f (by simp [kidShows, h52])) (by omega)
        clear hA
        go_wp2_with fail
        refine ⟨⟨k + 1, q + 53, hlt, by go_num, by go_num, by rw [e2.out, List.length_append, hl53, HQ.out]; omega, by rw [HO2.out], ?_, HG.out, HF.out⟩, by simp [intOf]; omega⟩
        rw [e3.out, ← List.append_assoc, HLQ.out]
        have h := HOQ.out
        simpa [kidAlls] using h
      | inr t =>
        have hl53 : (kidShows ((h, .inr t) : Kid n)).length = 53 + (Ward.shows n t).length := by simp [kidShows, h52]; omega
        have hsz2 := At.size hA (by simp [kidShows])
        rw [hl53] at hsz2
        have hflag := idx_at s ((q : Int) + 52) (q + 52) 1 (hA.get 52 1 (by simp [kidShows, h52])) (by omega)
        have hA2 : At s (q + 53) (Ward.shows n t) := by
          have h' := At.tail (l := h ++ [1]) (m := Ward.shows n t) (by simpa [kidShows] using hA)
          have hl : (h ++ [1]).length = 53 := by simp [h52]
          rw [hl] at h'
          exact h'
        have HA2 := hide hA2
        clear hA hA2
        go_wp2_with fail
        rw [show ((q : Int) + 53) = ((q + 53 : Nat) : Int) by omega, show ((deep : Int) + 1) = ((deep + 1 : Nat) : Int) by omega]
        refine (HIH.out t (q + 53) (deep + 1) _ lq wr hx HA2.out (by omega) HOQ.out (Nat.le_trans hB HG.out.size) (by
          have h1 := HLL.out
          have h2 : (kidAlls ((h, .inr t) : Kid n)) = Ward.alls n t := rfl
          rw [h2] at h1
          rw [← HLQ.out, List.length_append]
          omega)).mono ?_
        rintro e w1 ⟨v1, rfl, ho1, hg1, hf1⟩
        have HO1 := hide ho1
        have HG1 := hide (grown_trans HG.out HF.out hg1)
        have HF1 := hide (fresh_trans HF.out HG.out.size hf1)
        clear ho1 hg1 hf1
        generalize hP : q + 53 + (Ward.shows n t).length = P at *
        have HP := hide hP
        clear hP
        go_wp2_with fail
        refine ⟨⟨k + 1, P, hlt, by go_num, rfl, by rw [e2.out, List.length_append, hl53, ← HP.out, HQ.out]; omega, by rw [HO2.out], ?_, HG1.out, HF1.out⟩, by simp [intOf]; omega⟩
        rw [e3.out, ← List.append_assoc, HLQ.out]
        exact HO1.out
    · have ek : k = cs.length := by omega
      subst ek
      rw [List.take_length] at HLQ HQ ⊢
      obtain ⟨O, hO⟩ : ∃ O, 2 :: UInt8.ofNat cs.length :: cs.flatMap (fun c => c.1) = O := ⟨_, rfl⟩
      rw [hO]
      obtain ⟨v', w6, hr, ho6, hg6, hf6⟩ := append_text (w := wr) O HOQ.out (Nat.le_trans hB HG.out.size) (by
        have h1 := HLS.out
        rw [← HLQ.out]
        simp only [List.length_append] at h1 ⊢
        omega)
      have hr' : (Builtin.append_ #[58, 58] 58 #[.slice aq lq.length cq, .slice (some ⟨wr.heap.size, 0, none⟩) 1 1]).run Tryz.prog (wr.alloc (.cells #[.string ⟨O.toArray⟩] 9)) = .ok v' w6 := hr
      have hqe : q = i + ((cs.flatMap kidShows).length + 1 + 1) := by have := HQ.out; omega
      have HR := hide (show Told w B (.slice a ls.length c) ls (cs.flatMap kidAlls ++ [O]) O (i + ((cs.flatMap kidShows).length + 1 + 1)) (.returned (.tuple #[v', Sv O, I q])) w6 from ⟨v', by rw [← hqe], by rw [← List.append_assoc, HLQ.out]; exact ho6, grown_trans HG.out HF.out hg6, fresh_trans HF.out HG.out.size hf6⟩)
      have HO' := hide hO
      clear ho6 hg6 hf6 hr hO hqe
      go_wp2_with (at_builtin; refine Lib.wpList_append_run _ rfl (.tmp 110) (.tmp 112) 58 58 rfl _ _ rfl rfl _ _ hr' ?_)
      go_ret3
      rw [HO'.out]
      exact HR.out
theorem texts_any (s : ByteArray) (B : Nat) (hs : s.size ≤ 140737488355328) : ∀ (n : Nat) (t : Ward.PT n) (i deep : Nat) (v : Value) (ls : List (List UInt8)) (w : World), Ward.WF n t → At s i (Ward.shows n t) → deep + n ≤ 7 → OwnS w B v ls → B ≤ w.heap.size → ls.length + (Ward.alls n t).length ≤ 100000 →
    Calls Tryz.prog 44 #[.string s, I i, I deep, v] w fun e w' => Told w B v ls (Ward.alls n t) (Ward.own n t) (i + (Ward.shows n t).length) e w'
  | 0, t, _, _, _, _, _, _, _, _, _, _, _ => nomatch t
  | n + 1, .leaf b, i, deep, v, ls, w, ⟨k, hk, hb⟩, hat, hd, hown, hB, hls => by
    have e : b.length / 12 = k := by omega
    have e1 : Ward.alls (n + 1) (.leaf b) = [1 :: UInt8.ofNat k :: b] := by rw [← e]; rfl
    have e2 : Ward.own (n + 1) (.leaf b) = 1 :: UInt8.ofNat k :: b := by rw [← e]; rfl
    have e3 : Ward.shows (n + 1) (.leaf b) = 1 :: UInt8.ofNat k :: b := by rw [← e]; rfl
    rw [e1, e2, e3]
    rw [e3] at hat
    have h := texts_leaf s i deep B k b v ls w hk hb hat (by omega) hown hB (by omega) hs
    exact h.mono fun _ _ h => h.mono rfl rfl (by simp [hb]; omega)
  | n + 1, .node cs, i, deep, v, ls, w, hwf, hat, hd, hown, hB, hls =>
    texts_node n cs s i deep B v ls w (fun t i deep v ls w => texts_any s B hs n t i deep v ls w) hwf hat hd hown hB hls hs
end Go.Proofs.YtenaelkbgkpllaaGreatDoor
/- Two texts of one digest, looked for. -/
namespace Go.Proofs.YtenaelkbgkpllaaGreatDoor
open Go.RowKit

theorem byte_at (l : List UInt8) (j : Nat) (h : j < l.length) : (l.map Y).toArray[j]? = some (.int .u8 (l.getD j 0).toNat) := by
  rw [List.getElem?_toArray, List.getElem?_map, List.getElem?_eq_getElem h, List.getD_eq_getElem?_getD, List.getElem?_eq_getElem h]
  rfl
theorem eqItems_two (d : Nat) (l m : List UInt8) (hl : l.length = 32) (hm : m.length = 32) (w : World) : ∀ is : List Nat, (∀ j ∈ is, j < 32) → (Op.eqItems (d + 1) 5 1 (l.map Y).toArray (m.map Y).toArray is).run Tryz.prog w = .ok (is.all fun j => l.getD j 0 == m.getD j 0) w
  | [], _ => by simp [Op.eqItems]
  | j :: is, h => by
    have hj := h j (by simp)
    have ih := eqItems_two d l m hl hm w is (fun k hk => h k (by simp [hk]))
    have e : ∀ a b : Nat, (Op.equalIn (d + 1) 5 (.int .u8 a) (.int .u8 b)).run Tryz.prog w = .ok ((a : Int) == (b : Int)) w := fun a b => run_equalIn_int w d 5 .u8 .u8 a b Tryz.underlying5
    have hp : ∀ (A : Array Value) (v : Value), A[j]? = some v → (part 5 A j).run Tryz.prog w = .ok v w := fun A v h => by simp [part, Sem.run_bind, h]
    have hb : (((l.getD j 0).toNat : Int) == ((m.getD j 0).toNat : Int)) = (l.getD j 0 == m.getD j 0) := by
      rw [Bool.eq_iff_iff, beq_iff_eq, beq_iff_eq, ← UInt8.toNat_inj]
      omega
    simp only [Op.eqItems, Sem.run_bind, Nat.mul_one, hp _ _ (byte_at l j (by omega)), hp _ _ (byte_at m j (by omega)), Result.andThen_ok, e, hb, List.all_cons]
    cases l.getD j 0 == m.getD j 0
    · simp
    · simp [ih]
theorem all_eq {l m : List UInt8} (hl : l.length = 32) (hm : m.length = 32) : ((List.range 32).all fun j => l.getD j 0 == m.getD j 0) = decide (l = m) := by
  rw [Bool.eq_iff_iff, List.all_eq_true, decide_eq_true_eq]
  refine ⟨fun h => ?_, fun h => by subst h; simp⟩
  refine List.ext_getElem (by omega) fun i h1 h2 => ?_
  have := h i (List.mem_range.2 (by omega))
  rw [beq_iff_eq, List.getD_eq_getElem?_getD, List.getD_eq_getElem?_getD, List.getElem?_eq_getElem h1, List.getElem?_eq_getElem h2] at this
  exact this
theorem eqArrD (d : Nat) (l m : List UInt8) (hl : l.length = 32) (hm : m.length = 32) (w : World) :
    (Op.equalIn (d + 2) 39 (.agg (l.map Y).toArray) (.agg (m.map Y).toArray)).run Tryz.prog w = .ok (decide (l = m)) w := by
  obtain ⟨i0, hi, -⟩ := info_parts Tryz.info5
  rw [run_equalIn_array w (d + 1) _ _ Tryz.under22 hi, Tryz.cells5, ← all_eq hl hm]
  exact eqItems_two d l m hl hm w _ (fun j hj => List.mem_range.1 hj)
theorem eqArr (l m : List UInt8) (hl : l.length = 32) (hm : m.length = 32) (w : World) :
    (Op.equalIn 10000 39 (.agg (l.map Y).toArray) (.agg (m.map Y).toArray)).run Tryz.prog w = .ok (decide (l = m)) w := eqArrD 9998 l m hl hm w
theorem binArr (l m : List UInt8) (hl : l.length = 32) (hm : m.length = 32) (w : World) :
    (binOp .eql 39 (.agg (l.map Y).toArray) (.agg (m.map Y).toArray)).run Tryz.prog w = .ok (.bool (decide (l = m))) w := by
  rw [run_eql_struct, eqArr l m hl hm w]; rfl
end Go.Proofs.YtenaelkbgkpllaaGreatDoor
/- Two texts of one digest, looked for: the call. -/
namespace Go.Proofs.YtenaelkbgkpllaaGreatDoor
open Go.RowKit

/-- a list of texts, read -/
def Texts (w : World) (v : Value) (ls : List (List UInt8)) : Prop := ∃ (a : Option Addr) (c : Nat), v = .slice a ls.length c ∧ (ls ≠ [] → ∃ g, a = some ⟨g, 0, none⟩ ∧ ∀ i (h : i < ls.length), w.cell? ⟨g, i, none⟩ = some (Sv ls[i]))
theorem OwnS.texts {w : World} {B : Nat} {v : Value} {ls : List (List UInt8)} (h : OwnS w B v ls) : Texts w v ls := by
  rcases h.2 with ⟨rfl, h0⟩ | ⟨g, c, cur, rfl, _⟩
  · have e : ls = [] := by simpa using h0
    subst e
    exact ⟨none, 0, rfl, fun k => absurd rfl k⟩
  · refine ⟨_, c, rfl, fun _ => ⟨g, rfl, fun i hi => ?_⟩⟩
    have hc := h.cells (g := g) rfl i (Sv ls[i]) (by rw [List.getElem?_map, List.getElem?_eq_getElem hi]; rfl)
    rw [Addr.add_lit, Nat.zero_add] at hc
    exact hc
theorem Texts.below {w w' : World} {v : Value} {ls : List (List UInt8)} (h : Texts w v ls) (hb : Below w.heap.size w w') : Texts w' v ls := by
  obtain ⟨a, c, rfl, hc⟩ := h
  refine ⟨a, c, rfl, fun hne => ?_⟩
  obtain ⟨g, rfl, hp⟩ := hc hne
  exact ⟨g, rfl, fun i hi => (hb.cell (p := ⟨g, i, none⟩) (block_lt_of_cell (hp i hi))).trans (hp i hi)⟩
theorem dig_text (a : List UInt8) (L : List Value) (w : World) (h : a.length ≤ 300) (hK : KT w) (hL : (Sha.sha a).map Y = L) :
    Calls Tryz.prog 30 #[Sv a] w fun e w' => e = .returned (.agg L.toArray) ∧ Below w.heap.size w w' :=
  digest_any ⟨a.toArray⟩ L w (by show a.toArray.size ≤ _; rw [List.size_toArray]; omega) hK (by show (Sha.sha a.toArray.toList).map Y = L; rw [List.toList_toArray]; exact hL)
theorem below_drewN {B : Nat} {w w' : World} (h : Below B w w') (n : Nat) : Below B w (w'.drewN n) := ⟨h.os, h.tape, h.output, h.size, h.block⟩
/-- none of the first so many has the digest of another -/
def Clear (A Bs : List (List UInt8)) (n : Nat) : Prop := ∀ i (h : i < A.length), i < n → ∀ b ∈ Bs, A[i] ≠ b → Sha.sha A[i] ≠ Sha.sha b

set_option maxRecDepth 100000 in
set_option maxHeartbeats 2000000 in
theorem collide_any (s t : ByteArray) (n m : Nat) (S1 : Ward.PT n) (S2 : Ward.PT m) (w : World) (h1 : Ward.WF n S1) (h2 : Ward.WF m S2) (hs : s.data.toList = Ward.shows n S1) (ht : t.data.toList = Ward.shows m S2) (hn : n ≤ 6) (hm : m ≤ 6) (hA : (Ward.alls n S1).length ≤ 50000) (hB : (Ward.alls m S2).length ≤ 50000) (hsz : s.size ≤ 140737488355328) (htz : t.size ≤ 140737488355328) (hK : KT w) :
    Calls Tryz.prog 18 #[.string s, .string t] w fun e w' => ∃ r : Bool, e = .returned (.bool r) ∧ (r = false → ∀ a ∈ Ward.alls n S1, ∀ b ∈ Ward.alls m S2, a ≠ b → Sha.sha a ≠ Sha.sha b) ∧ Below w.heap.size w w' := by
  have hl1 : (Ward.shows n S1).length = s.size := by rw [← hs]; simp
  have hl2 : (Ward.shows m S2).length = t.size := by rw [← ht]; simp
  have H1 := hide (texts_any s w.heap.size hsz n S1 0 1 (.slice none 0 0) [] w h1 ⟨[], by simp [hs]⟩ (by omega) (World.ownsRow_nil _ _ _ _) (Nat.le_refl _) (by simp; omega))
  have sa := Ward.alls_small n S1 h1
  have sb := Ward.alls_small m S2 h2
  rw [hl1] at H1
  generalize Ward.alls n S1 = LA at *
  generalize Ward.own n S1 = OA at *
  have H2 := hide (fun w1 (hw : w.heap.size ≤ w1.heap.size) => texts_any t w.heap.size htz m S2 0 1 (.slice none 0 0) [] w1 h2 ⟨[], by simp [ht]⟩ (by omega) (World.ownsRow_nil _ _ _ _) hw (by simp; omega))
  rw [hl2] at H2
  generalize Ward.alls m S2 = LB at *
  generalize Ward.own m S2 = OB at *
  have HK := hide hK
  have HSA := hide sa
  have HSB := hide sb
  clear hK sa sb hs ht hl1 hl2 h1 h2
  go_enter Tryz.func18, Tryz.ntmps18
  go_wp2_with fail
  refine (H1.out).mono ?_
  rintro e w1 ⟨va, rfl, ho1, hg1, -⟩
  rw [List.nil_append] at ho1
  have hb1 : Below w.heap.size w w1 := ⟨hg1.os, hg1.tape, hg1.output, hg1.size, fun k hk => hg1.block k hk (by simp [Value.ownBlock])⟩
  go_wp2_with fail
  refine (H2.out w1 hb1.size).mono ?_
  rintro e w2 ⟨vb, rfl, ho2, hg2, -⟩
  rw [List.nil_append] at ho2
  have hb2 : Below w1.heap.size w1 w2 := ⟨hg2.os, hg2.tape, hg2.output, hg2.size, fun k hk => hg2.block k hk (by simp [Value.ownBlock])⟩
  have HTA := hide (ho1.below hb2).texts
  have HTB := hide ho2.texts
  have HBW := hide (hb1.trans (hb2.mono hb1.size))
  obtain ⟨aa, ca, rfl, -⟩ := HTA.out
  obtain ⟨ab, cb, rfl, -⟩ := HTB.out
  clear ho1 hg1 ho2 hg2 hb1 hb2 H1 H2
  go_wp2_with fail
  go_loopw [11] (fun vn wq => ∃ k : Nat, vn = I k ∧ k ≤ LA.length ∧ Clear LA LB k ∧ Below w2.heap.size w2 wq) (fun vn _ => LA.length - (intOf vn).toNat)
  case atStart => exact ⟨0, rfl, by omega, fun _ _ h => absurd h (by omega), Below.refl _ _⟩
  case round =>
    obtain ⟨k, rfl, hk, hcl, hbq⟩ := hrel
    have HCL := hide hcl
    have HBQ := hide hbq
    clear hcl hbq
    by_cases hlt : k < LA.length
    · go_wp2_with fail
      go_loopw [12] (fun vm wq => ∃ j : Nat, vm = I j ∧ j ≤ LB.length ∧ (∀ i (h : i < LB.length), i < j → LA[k] ≠ LB[i] → Sha.sha LA[k] ≠ Sha.sha LB[i]) ∧ Below w2.heap.size w2 wq) (fun vm _ => LB.length - (intOf vm).toNat)
      case atStart => exact ⟨0, rfl, by omega, fun _ _ h => absurd h (by omega), HBQ.out⟩
      case round =>
        clear HBQ
        obtain ⟨j, rfl, hj, hcj, hbr⟩ := hrel
        have HCJ := hide hcj
        have HBR := hide hbr
        clear hcj hbr
        by_cases hltj : j < LB.length
        · have hta := HTA.out.below HBR.out
          have htb := HTB.out.below HBR.out
          obtain ⟨a', c', e', hga⟩ := hta
          obtain ⟨ga, e2, hca⟩ := hga (fun e => by subst e; simp at hlt)
          obtain ⟨a2', c2', e3, hgb⟩ := htb
          obtain ⟨gb, e4, hcb⟩ := hgb (fun e => by subst e; simp at hltj)
          injection e' with e5 e6 e7
          injection e3 with e8 e9 e10
          rw [e2] at e5
          rw [e4] at e8
          subst e5 e8
          have ka := hca k hlt
          have kb := hcb j hltj
          have la := HSA.out _ (List.getElem_mem hlt)
          have lb := HSB.out _ (List.getElem_mem hltj)
          generalize hAk : LA[k] = TA at *
          generalize hBj : LB[j] = TB at *
          have HAk := hide hAk
          have HBj := hide hBj
          clear hca hcb hga hgb e2 e4 e6 e7 e9 e10 hAk hBj
          by_cases hab : TA = TB
          · subst hab
            go_wp2_with fail
            go_quiet (fail)
            go_wp2_with fail
            refine ⟨⟨j + 1, by go_num, by omega, fun i hi hij hne => ?_, below_drewN HBR.out _⟩, by simp [intOf]; omega⟩
            rcases Nat.lt_or_ge i j with h | h
            · exact HCJ.out i hi h hne
            · have e : i = j := by omega
              subst e
              exact absurd HBj.out.symm hne
          · have hne : (TA == TB) = false := by simpa using hab
            obtain ⟨DA, hDA⟩ : ∃ L, (Sha.sha TA).map Y = L := ⟨_, rfl⟩
            obtain ⟨DB, hDB⟩ : ∃ L, (Sha.sha TB).map Y = L := ⟨_, rfl⟩
            have dA : Dig DA := hDA ▸ dig_of _
            have dB : Dig DB := hDB ▸ dig_of _
            have hEq := eqArr (Sha.sha TA) (Sha.sha TB) rfl rfl
            rw [hDA, hDB] at hEq
            have HEq := hide hEq
            have HDA := hide hDA
            have HDB := hide hDB
            clear hDA hDB hEq
            go_wp2_with fail
            go_quiet (fail)
            generalize hW : World.drewN _ _ = w3
            have hb3 : Below w2.heap.size w2 w3 := by rw [← hW]; exact below_drewN HBR.out _
            have ka3 : w3.cell? ⟨ga, k, none⟩ = some (Sv TA) := by rw [← hW]; exact ka
            have kb3 : w3.cell? ⟨gb, j, none⟩ = some (Sv TB) := by rw [← hW]; exact kb
            have hK3 : KT w3 := HK.out.below (HBW.out.trans (hb3.mono HBW.out.size))
            have HB3 := hide hb3
            have HK3 := hide hK3
            clear hW ka kb hb3 hK3
            go_wp2_with fail
            refine (dig_text TA DA w3 la HK3.out HDA.out).mono ?_
            rintro e w4 ⟨rfl, hb4⟩
            have HK4 := hide (HK3.out.below hb4)
            have kb4 := fun o => (World.cell?_alloc_lt w4 o ⟨gb, j, none⟩ (Nat.lt_of_lt_of_le (block_lt_of_cell kb3) hb4.size)).trans ((hb4.cell (p := ⟨gb, j, none⟩) (block_lt_of_cell kb3)).trans kb3)
            go_wp2_with (refine wpList_store_row rfl 39 (.tmp 13) (.tmp 64) rfl w4.heap.size DA.toArray rfl rfl 39 _ (heap_alloc_new w4 _) dA.info (by rw [dA.size]; rfl) dA.one ?_; rw [World.setRow_alloc_new])
            refine (dig_text TB DB _ lb (HK4.out.below ((Below.refl _ _).alloc (Nat.le_refl _) _)) HDB.out).mono ?_
            rintro e w5 ⟨rfl, hb5⟩
            have z4 : w4.heap.size < w5.heap.size := by have := hb5.size; simp at this; omega
            have rA : ∀ o, (w5.alloc o).heap[w4.heap.size]? = some (.cells DA.toArray 39 (0, 0)) := fun o => (Below.heap_alloc _ _ _ z4).trans ((hb5.block w4.heap.size (by simp)).trans (heap_alloc_new w4 _))
            have HRA := hide rA
            have HB5 := hide (fun o => ((HB3.out.trans (hb4.mono HB3.out.size)).alloc (Nat.le_trans HB3.out.size hb4.size) _).trans (hb5.mono (by simp; exact Nat.le_succ_of_le (Nat.le_trans HB3.out.size hb4.size))) |>.alloc (by
              have h1 := HB3.out.size
              have h2 := hb4.size
              omega) o)
            clear rA hb4 hb5 ka3 kb3 kb4
            by_cases hsh : Sha.sha TA = Sha.sha TB
            · have hE : ∀ W, (Op.equalIn 10000 39 (.agg DA.toArray) (.agg DB.toArray)).run Tryz.prog W = .ok true W := fun W => by rw [HEq.out W, decide_eq_true hsh]
              go_wp2_with (first | (refine wpList_store_row rfl 39 (.tmp 14) (.tmp 69) rfl w5.heap.size DB.toArray rfl rfl 39 _ (heap_alloc_new w5 _) dB.info (by rw [dB.size]; rfl) dB.one ?_; rw [World.setRow_alloc_new]) | (refine wpList_load_row rfl 39 (.tmp 13) rfl w4.heap.size rfl 39 DA.toArray (0, 0) _ (HRA.out _) Tryz.underlying39 rfl dA.info ?_) | (refine wpList_load_row rfl 39 (.tmp 14) rfl w5.heap.size rfl 39 DB.toArray (0, 0) _ (heap_alloc_new w5 _) Tryz.underlying39 rfl dB.info ?_))
              go_ret
              exact ⟨true, rfl, fun h => absurd h (by decide), HBW.out.trans ((HB5.out _).mono HBW.out.size)⟩
            · have hE : ∀ W, (Op.equalIn 10000 39 (.agg DA.toArray) (.agg DB.toArray)).run Tryz.prog W = .ok false W := fun W => by rw [HEq.out W, decide_eq_false hsh]
              go_wp2_with (first | (refine wpList_store_row rfl 39 (.tmp 14) (.tmp 69) rfl w5.heap.size DB.toArray rfl rfl 39 _ (heap_alloc_new w5 _) dB.info (by rw [dB.size]; rfl) dB.one ?_; rw [World.setRow_alloc_new]) | (refine wpList_load_row rfl 39 (.tmp 13) rfl w4.heap.size rfl 39 DA.toArray (0, 0) _ (HRA.out _) Tryz.underlying39 rfl dA.info ?_) | (refine wpList_load_row rfl 39 (.tmp 14) rfl w5.heap.size rfl 39 DB.toArray (0, 0) _ (heap_alloc_new w5 _) Tryz.underlying39 rfl dB.info ?_))
              refine ⟨⟨j + 1, by go_num, by omega, fun i hi hij hne => ?_, HB5.out _⟩, by simp [intOf]; omega⟩
              rcases Nat.lt_or_ge i j with h | h
              · exact HCJ.out i hi h hne
              · have e : i = j := by omega
                subst e
                rw [HBj.out]
                exact hsh
        · have ej : j = LB.length := by omega
          subst ej
          go_wp2_with fail
          refine ⟨⟨k + 1, by go_num, by omega, fun i hi hik b hb hne => ?_, HBR.out⟩, by simp [intOf]; omega⟩
          rcases Nat.lt_or_ge i k with h | h
          · exact HCL.out i hi h b hb hne
          · have e : i = k := by omega
            subst e
            obtain ⟨q, hq, rfl⟩ := List.getElem_of_mem hb
            exact HCJ.out q hq hq hne
    · have ek : k = LA.length := by omega
      subst ek
      go_wp2
      go_ret
      refine ⟨false, rfl, fun _ a ha b hb hne => ?_, HBW.out.trans (HBQ.out.mono HBW.out.size)⟩
      obtain ⟨q, hq, rfl⟩ := List.getElem_of_mem ha
      exact HCL.out q hq hq b hb hne
end Go.Proofs.YtenaelkbgkpllaaGreatDoor
