/- The texts that a proof shows: a node's. -/
import Derived.Test.YtenaelkbgkpllaaGreatDoorKC
namespace Go.Proofs.YtenaelkbgkpllaaGreatDoor
open Go.RowKit

/-- a child's part of a text -/
abbrev Kid (n : Nat) : Type := List UInt8 × (UInt8 ⊕ Ward.PT n)
def kidShows {n : Nat} (c : Kid n) : List UInt8 := c.1 ++ match c.2 with | .inl f => [f] | .inr t => 1 :: Ward.shows n t
def kidAlls {n : Nat} (c : Kid n) : List (List UInt8) := match c.2 with | .inl _ => [] | .inr t => Ward.alls n t
theorem shows_node (n : Nat) (cs : List (Kid n)) : Ward.shows (n + 1) (.node cs) = 2 :: UInt8.ofNat cs.length :: cs.flatMap kidShows := rfl
theorem alls_node (n : Nat) (cs : List (Kid n)) : Ward.alls (n + 1) (.node cs) = cs.flatMap kidAlls ++ [2 :: UInt8.ofNat cs.length :: cs.flatMap (fun c => c.1)] := rfl
theorem own_node (n : Nat) (cs : List (Kid n)) : Ward.own (n + 1) (.node cs) = 2 :: UInt8.ofNat cs.length :: cs.flatMap (fun c => c.1) := rfl
theorem flat_step {α β : Type} (f : α → List β) (cs : List α) (k : Nat) (h : k < cs.length) : (cs.take (k + 1)).flatMap f = (cs.take k).flatMap f ++ f cs[k] := by
  rw [List.take_succ_eq_append_getElem h, List.flatMap_append, List.flatMap_cons, List.flatMap_nil, List.append_nil]
theorem flat_split {α β : Type} (f : α → List β) (cs : List α) (k : Nat) (h : k < cs.length) : cs.flatMap f = (cs.take k).flatMap f ++ (f cs[k] ++ (cs.drop (k + 1)).flatMap f) := by
  rw [← List.append_assoc, ← flat_step f cs k h, ← List.flatMap_append, List.take_append_drop]
theorem sv_add (a b : List UInt8) (h : a.length + b.length ≤ 9223372036854775807) (W : World) : (Op.stringOp .add ⟨a.toArray⟩ ⟨b.toArray⟩).run Tryz.prog W = .ok (Sv (a ++ b)) W := by
  rw [run_string_add_sum W _ _ (by simpa [ByteArray.size] using h), ByteArray.mk_append_mk]
theorem take_len {α β : Type} (f : α → List β) (cs : List α) (k : Nat) : ((cs.take k).flatMap f).length ≤ (cs.flatMap f).length := by
  have h := congrArg (fun l => (l.flatMap f).length) (List.take_append_drop k cs)
  simp only [List.flatMap_append, List.length_append] at h
  omega
theorem heads_len {n : Nat} (cs : List (Kid n)) (h : ∀ c ∈ cs, c.1.length = 52) : ∀ k, k ≤ cs.length → ((cs.take k).flatMap (fun c => c.1)).length = 52 * k
  | 0, _ => rfl
  | k + 1, hk => by rw [flat_step _ _ _ (by omega), List.length_append, heads_len cs h k (by omega), h _ (List.getElem_mem _)]; omega
theorem Told.mono {w : World} {B i j : Nat} {v : Value} {ls m m' : List (List UInt8)} {o o' : List UInt8} {e : Ending} {w' : World} (h : Told w B v ls m o i e w') (hm : m = m') (ho : o = o') (hi : i = j) : Told w B v ls m' o' j e w' := by
  subst hm ho hi; exact h

set_option maxRecDepth 100000 in
set_option maxHeartbeats 2000000 in
theorem texts_node (n : Nat) (cs : List (Kid n)) (s : ByteArray) (i deep B : Nat) (v : Value) (ls : List (List UInt8)) (w : World)
    (ih : ∀ (t : Ward.PT n) (i deep : Nat) (v : Value) (ls : List (List UInt8)) (w : World), Ward.WF n t → At s i (Ward.shows n t) → deep + n ≤ 7 → OwnS w B v ls → B ≤ w.heap.size → ls.length + (Ward.alls n t).length ≤ 100000 → Calls Tryz.prog 44 #[.string s, I i, I deep, v] w fun e w' => Told w B v ls (Ward.alls n t) (Ward.own n t) (i + (Ward.shows n t).length) e w')
    (hwf : Ward.WF (n + 1) (.node cs)) (hat : At s i (Ward.shows (n + 1) (.node cs))) (hdeep : deep + (n + 1) ≤ 7) (hown : OwnS w B v ls) (hB : B ≤ w.heap.size) (hls : ls.length + (Ward.alls (n + 1) (.node cs)).length ≤ 100000) (hs : s.size ≤ 140737488355328) :
    Calls Tryz.prog 44 #[.string s, I i, I deep, v] w fun e w' => Told w B v ls (Ward.alls (n + 1) (.node cs)) (Ward.own (n + 1) (.node cs)) (i + (Ward.shows (n + 1) (.node cs)).length) e w' := by
  obtain ⟨hk4, hkids⟩ := hwf
  have hsz := hat.size (by rw [shows_node]; simp)
  rw [shows_node] at hat hsz ⊢
  rw [alls_node] at hls ⊢
  rw [own_node]
  simp only [List.length_cons] at hsz ⊢
  have b0 := idx_at s i i 2 (by simpa using hat.get 0 2 rfl) rfl
  have b1 := idx_at s ((i : Int) + 1) (i + 1) (UInt8.ofNat cs.length) (hat.get 1 _ rfl) (by omega)
  have hkk : (UInt8.ofNat cs.length).toNat = cs.length := by rw [UInt8.toNat_ofNat']; omega
  rw [hkk] at b1
  have hc2 := cut_at s i ((i : Int) + 2) i 2 [2, UInt8.ofNat cs.length] (At.take (l := [2, UInt8.ofNat cs.length]) (At.head (m := cs.flatMap kidShows) hat)) (by omega) rfl (by omega)
  have HAT := hide (show At s (i + 2) (cs.flatMap kidShows) from At.tail (l := [2, UInt8.ofNat cs.length]) hat)
  have HSZ := hide (show i + 2 + (cs.flatMap kidShows).length ≤ s.size by omega)
  obtain ⟨a, c, rfl⟩ := hown.slice
  have HO := hide hown
  have HIH := hide ih
  have HKD := hide hkids
  have HLS := hide hls
  clear hat hown ih hkids hls hkk
  go_enter Tryz.func44, Tryz.ntmps44
  go_wp2_with fail
  go_loopw [1, 3, 13, 14] (fun vi vl vo vk wq => ∃ k q : Nat, k ≤ cs.length ∧ vk = I k ∧ vi = I q ∧ q = i + 2 + ((cs.take k).flatMap kidShows).length ∧ vo = Sv (2 :: UInt8.ofNat cs.length :: (cs.take k).flatMap (fun c => c.1)) ∧ OwnS wq B vl (ls ++ (cs.take k).flatMap kidAlls) ∧ w.grownBy wq (Value.slice a ls.length c).ownBlock ∧ Fresh w (.slice a ls.length c) vl)
    (fun _ _ _ vk _ => cs.length - (intOf vk).toNat)
  case atStart => exact ⟨0, i + 2, by omega, rfl, by go_num, by simp, by simp, by simpa using HO.out, ⟨rfl, rfl, rfl, Nat.le_refl _, fun _ _ _ => rfl⟩, .inl rfl⟩
  case round =>
    obtain ⟨k, q, hk, rfl, rfl, hq, rfl, ho, hg, hf⟩ := hrel
    obtain ⟨lq, hlq⟩ : ∃ lq, ls ++ (cs.take k).flatMap kidAlls = lq := ⟨_, rfl⟩
    rw [hlq] at ho
    have HLQ := hide hlq
    clear hlq
    have HOQ := hide ho
    have HG := hide hg
    have HF := hide hf
    have HQ := hide hq
    obtain ⟨aq, cq, rfl⟩ := ho.slice
    have hqs : q ≤ 140737488355328 := by
      have h1 := take_len kidShows cs k
      have h2 := HSZ.out
      omega
    clear ho hg hf hq
    by_cases hlt : k < cs.length
    · have hA : At s q (kidShows cs[k]) := by
        have h := HAT.out
        rw [flat_split kidShows cs k hlt] at h
        rw [HQ.out]
        exact h.tail.head
      have hkid := HKD.out cs[k] (List.getElem_mem hlt)
      have e1 := hide (flat_step (fun c : Kid n => c.1) cs k hlt)
      have e2 := hide (flat_step kidShows cs k hlt)
      have e3 := hide (flat_step kidAlls cs k hlt)
      have HLL := hide (show ls.length + ((cs.take k).flatMap kidAlls).length + (kidAlls cs[k]).length ≤ 100000 by
        have h := HLS.out
        rw [flat_split kidAlls cs k hlt] at h
        simp only [List.length_append] at h
        omega)
      obtain ⟨⟨h, x⟩, hc⟩ : ∃ c : Kid n, c = cs[k] := ⟨_, rfl⟩
      rw [← hc] at hA hkid e1 e2 e3 HLL
      obtain ⟨h52, hx⟩ := hkid
      simp only at h52 hx
      have hcut := cut_at s q ((q : Int) + 52) q 52 h (by rw [← h52]; exact (At.head (l := h) hA).take) (by have := (At.head (l := h) hA).size (by intro e; rw [e] at h52; simp at h52); omega) rfl (by omega)
      have hadd := sv_add (2 :: UInt8.ofNat cs.length :: (cs.take k).flatMap (fun c => c.1)) h (by
        have := heads_len cs (fun c hc => (HKD.out c hc).1) k hk
        simp only [List.length_cons]
        omega)
      have HD2 := hide (show 2 :: UInt8.ofNat cs.length :: (cs.take k).flatMap (fun c => c.1) ++ h = 2 :: UInt8.ofNat cs.length :: (cs.take (k + 1)).flatMap (fun c => c.1) by rw [e1.out]; rfl)
      rw [HD2.out] at hadd
      generalize 2 :: UInt8.ofNat cs.length :: (cs.take k).flatMap (fun c => c.1) = O1 at *
      generalize hO2 : 2 :: UInt8.ofNat cs.length :: (cs.take (k + 1)).flatMap (fun c => c.1) = O2 at *
      have HO2 := hide hO2
      clear hc hO2 HD2
      cases x with
      | inl f =>
        have hf1 : ¬ ((f.toNat : Int) = 1) := fun e => hx (by
          have : f.toNat = 1 := by omega
          exact UInt8.toNat_inj.1 this)
        have hsz2 := At.size hA (by simp [kidShows])
        have hl53 : (kidShows ((h, .inl f) : Kid n)).length = 53 := by simp [kidShows, h52]
        rw [hl53] at hsz2
        have hflag := idx_at s ((q : Int) + 52) (q + 52) f (hA.get 52 f (by simp [kidShows, h52])) (by omega)
        clear hA
        go_wp2_with fail
        refine ⟨⟨k + 1, q + 53, hlt, by go_num, by go_num, by rw [e2.out, List.length_append, hl53, HQ.out]; omega, by rw [HO2.out], ?_, HG.out, HF.out⟩, by simp [intOf]; omega⟩
        rw [e3.out, ← List.append_assoc, HLQ.out]
        have h := HOQ.out
        simpa [kidAlls] using h
      | inr t =>
        have hl53 : (kidShows ((h, .inr t) : Kid n)).length = 53 + (Ward.shows n t).length := by simp [kidShows, h52]; omega
        have hsz2 := At.size hA (by simp [kidShows])
        rw [hl53] at hsz2
        have hflag := idx_at s ((q : Int) + 52) (q + 52) 1 (hA.get 52 1 (by simp [kidShows, h52])) (by omega)
        have hA2 : At s (q + 53) (Ward.shows n t) := by
          have h' := At.tail (l := h ++ [1]) (m := Ward.shows n t) (by simpa [kidShows] using hA)
          have hl : (h ++ [1]).length = 53 := by simp [h52]
          rw [hl] at h'
          exact h'
        have HA2 := hide hA2
        clear hA hA2
        go_wp2_with fail
        rw [show ((q : Int) + 53) = ((q + 53 : Nat) : Int) by omega, show ((deep : Int) + 1) = ((deep + 1 : Nat) : Int) by omega]
        refine (HIH.out t (q + 53) (deep + 1) _ lq wr hx HA2.out (by omega) HOQ.out (Nat.le_trans hB HG.out.size) (by
          have h1 := HLL.out
          have h2 : (kidAlls ((h, .inr t) : Kid n)) = Ward.alls n t := rfl
          rw [h2] at h1
          rw [← HLQ.out, List.length_append]
          omega)).mono ?_
        rintro e w1 ⟨v1, rfl, ho1, hg1, hf1⟩
        have HO1 := hide ho1
        have HG1 := hide (grown_trans HG.out HF.out hg1)
        have HF1 := hide (fresh_trans HF.out HG.out.size hf1)
        clear ho1 hg1 hf1
        generalize hP : q + 53 + (Ward.shows n t).length = P at *
        have HP := hide hP
        clear hP
        go_wp2_with fail
        refine ⟨⟨k + 1, P, hlt, by go_num, rfl, by rw [e2.out, List.length_append, hl53, ← HP.out, HQ.out]; omega, by rw [HO2.out], ?_, HG1.out, HF1.out⟩, by simp [intOf]; omega⟩
        rw [e3.out, ← List.append_assoc, HLQ.out]
        exact HO1.out
    · have ek : k = cs.length := by omega
      subst ek
      rw [List.take_length] at HLQ HQ ⊢
      obtain ⟨O, hO⟩ : ∃ O, 2 :: UInt8.ofNat cs.length :: cs.flatMap (fun c => c.1) = O := ⟨_, rfl⟩
      rw [hO]
      obtain ⟨v', w6, hr, ho6, hg6, hf6⟩ := append_text (w := wr) O HOQ.out (Nat.le_trans hB HG.out.size) (by
        have h1 := HLS.out
        rw [← HLQ.out]
        simp only [List.length_append] at h1 ⊢
        omega)
      have hr' : (Builtin.append_ #[58, 58] 58 #[.slice aq lq.length cq, .slice (some ⟨wr.heap.size, 0, none⟩) 1 1]).run Tryz.prog (wr.alloc (.cells #[.string ⟨O.toArray⟩] 9)) = .ok v' w6 := hr
      have hqe : q = i + ((cs.flatMap kidShows).length + 1 + 1) := by have := HQ.out; omega
      have HR := hide (show Told w B (.slice a ls.length c) ls (cs.flatMap kidAlls ++ [O]) O (i + ((cs.flatMap kidShows).length + 1 + 1)) (.returned (.tuple #[v', Sv O, I q])) w6 from ⟨v', by rw [← hqe], by rw [← List.append_assoc, HLQ.out]; exact ho6, grown_trans HG.out HF.out hg6, fresh_trans HF.out HG.out.size hf6⟩)
      have HO' := hide hO
      clear ho6 hg6 hf6 hr hO hqe
      go_wp2_with (at_builtin; refine Lib.wpList_append_run _ rfl (.tmp 110) (.tmp 112) 58 58 rfl _ _ rfl rfl _ _ hr' ?_)
      go_ret3
      rw [HO'.out]
      exact HR.out
theorem texts_any (s : ByteArray) (B : Nat) (hs : s.size ≤ 140737488355328) : ∀ (n : Nat) (t : Ward.PT n) (i deep : Nat) (v : Value) (ls : List (List UInt8)) (w : World), Ward.WF n t → At s i (Ward.shows n t) → deep + n ≤ 7 → OwnS w B v ls → B ≤ w.heap.size → ls.length + (Ward.alls n t).length ≤ 100000 →
    Calls Tryz.prog 44 #[.string s, I i, I deep, v] w fun e w' => Told w B v ls (Ward.alls n t) (Ward.own n t) (i + (Ward.shows n t).length) e w'
  | 0, t, _, _, _, _, _, _, _, _, _, _, _ => nomatch t
  | n + 1, .leaf b, i, deep, v, ls, w, ⟨k, hk, hb⟩, hat, hd, hown, hB, hls => by
    have e : b.length / 12 = k := by omega
    have e1 : Ward.alls (n + 1) (.leaf b) = [1 :: UInt8.ofNat k :: b] := by rw [← e]; rfl
    have e2 : Ward.own (n + 1) (.leaf b) = 1 :: UInt8.ofNat k :: b := by rw [← e]; rfl
    have e3 : Ward.shows (n + 1) (.leaf b) = 1 :: UInt8.ofNat k :: b := by rw [← e]; rfl
    rw [e1, e2, e3]
    rw [e3] at hat
    have h := texts_leaf s i deep B k b v ls w hk hb hat (by omega) hown hB (by omega) hs
    exact h.mono fun _ _ h => h.mono rfl rfl (by simp [hb]; omega)
  | n + 1, .node cs, i, deep, v, ls, w, hwf, hat, hd, hown, hB, hls =>
    texts_node n cs s i deep B v ls w (fun t i deep v ls w => texts_any s B hs n t i deep v ls w) hwf hat hd hown hB hls hs
end Go.Proofs.YtenaelkbgkpllaaGreatDoor
