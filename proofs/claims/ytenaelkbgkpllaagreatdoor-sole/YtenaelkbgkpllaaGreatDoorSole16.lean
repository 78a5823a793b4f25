/- What a text that is taken apart shows, no deeper than it is. -/
import Derived.Test.YtenaelkbgkpllaaGreatDoorSole15
import Derived.Test.YtenaelkbgkpllaaGreatDoorSole11
import Derived.Laws.BitsAllLaws
namespace Go.Proofs.YtenaelkbgkpllaaGreatDoor
namespace Ward
def kidShow (d : Nat) (c : List UInt8 × (UInt8 ⊕ PT d)) : List UInt8 := c.1 ++ match c.2 with | .inl f => [f] | .inr t => 1 :: shows d t
def kidAlls (d : Nat) (c : List UInt8 × (UInt8 ⊕ PT d)) : List (List UInt8) := match c.2 with | .inl _ => [] | .inr t => alls d t
def kidWF (d : Nat) (c : List UInt8 × (UInt8 ⊕ PT d)) : Prop := c.1.length = 52 ∧ match c.2 with | .inl f => f ≠ 1 | .inr t => WF d t
/-- it is shown by a tree that is not deeper -/
def Low (d : Nat) (t : NT (d + 1)) : Prop := ∃ S : PT d, WF d S ∧ shows d S = textS (d + 1) t ∧ alls d S = ownsN (d + 1) t
theorem low_kids (d : Nat) (IH : ∀ c : NT (d + 1), FormN d false c → Low d c) : ∀ K : List (NT (d + 1)), (∀ c ∈ K, KidForm d c) → ∃ cs : List (List UInt8 × (UInt8 ⊕ PT d)), cs.length = K.length ∧ Each (kidWF d) cs ∧ cs.flatMap (kidShow d) = K.flatMap (kidText (d + 1)) ∧ cs.flatMap (fun c => c.1) = K.flatMap (saidN (d + 1)) ∧ cs.flatMap (kidAlls d) = K.flatMap (fun c => if shownN (d + 1) c = true then ownsN (d + 1) c else [])
  | [], _ => ⟨[], rfl, fun c hc => by simp at hc, rfl, rfl, rfl⟩
  | c :: K, h => by
    obtain ⟨cs, h1, h2, h3, h4, h5⟩ := low_kids d IH K (fun c hc => h c (List.mem_cons_of_mem _ hc))
    obtain ⟨⟨_, _, _, hd⟩, hs⟩ := h c List.mem_cons_self
    rcases hs with ⟨k1, k2⟩ | k
    · refine ⟨(saidN (d + 1) c, .inl 0) :: cs, by rw [List.length_cons, List.length_cons, h1], fun x hx => ?_, ?_, ?_, ?_⟩
      · rcases List.mem_cons.1 hx with rfl | hx
        · exact ⟨said_len52 hd, show (0 : UInt8) ≠ 1 by decide⟩
        · exact h2 x hx
      · rw [List.flatMap_cons, List.flatMap_cons, h3]
        congr 1
        show saidN (d + 1) c ++ [0] = saidN (d + 1) c ++ (if shownN (d + 1) c = true then 1 :: textS (d + 1) c else [0])
        rw [shown_no k1 k2]
        rfl
      · rw [List.flatMap_cons, List.flatMap_cons, h4]
      · rw [List.flatMap_cons, List.flatMap_cons, h5]
        congr 1
        rw [shown_no k1 k2]
        rfl
    · obtain ⟨S, w1, w2, w3⟩ := IH c k
      refine ⟨(saidN (d + 1) c, .inr S) :: cs, by rw [List.length_cons, List.length_cons, h1], fun x hx => ?_, ?_, ?_, ?_⟩
      · rcases List.mem_cons.1 hx with rfl | hx
        · exact ⟨said_len52 hd, w1⟩
        · exact h2 x hx
      · rw [List.flatMap_cons, List.flatMap_cons, h3]
        congr 1
        show saidN (d + 1) c ++ 1 :: shows d S = saidN (d + 1) c ++ (if shownN (d + 1) c = true then 1 :: textS (d + 1) c else [0])
        rw [form_shown k, if_pos rfl, w2]
      · rw [List.flatMap_cons, List.flatMap_cons, h4]
      · rw [List.flatMap_cons, List.flatMap_cons, h5]
        congr 1
        rw [form_shown k, if_pos rfl]
        exact w3
theorem low_form : ∀ (d : Nat) (r : Bool) (t : NT (d + 1)), FormN d r t → Low d t
  | 0, _, _, h => h.elim
  | d + 1, r, t, h => by
    rcases h with ⟨hk, h4, _, _⟩ | ⟨_, h0, h4, hkids⟩
    · have e0 : (Nd.kids t).length = 0 := by rw [hk]; rfl
      refine ⟨(.leaf ((Nd.pts t).flatMap ptText) : Sh (PT d)), ⟨(Nd.pts t).length, h4, pts_len _⟩, ?_, ?_⟩
      · rw [textS_leaf _ _ e0]
        exact emb_leaf _
      · show [_] = (Nd.kids t).flatMap _ ++ [ownN (d + 1 + 1) t]
        rw [hk, own_leaf e0, List.flatMap_nil, List.nil_append, emb_leaf]
    · obtain ⟨cs, h1, h2, h3, h5, h6⟩ := low_kids d (fun c hc => low_form d false c hc) (Nd.kids t) hkids
      refine ⟨(.node cs : Sh (PT d)), ⟨by rw [h1]; exact h4, h2⟩, ?_, ?_⟩
      · rw [textS_kids _ _ h0, ← h1, ← h3]
        rfl
      · show cs.flatMap (kidAlls d) ++ [2 :: UInt8.ofNat cs.length :: cs.flatMap (fun c => c.1)] = (Nd.kids t).flatMap (fun c => if shownN (d + 1) c = true then ownsN (d + 1) c else []) ++ [ownN (d + 1 + 1) t]
        rw [h6, own_node (by omega), h1, h5]
        rfl
/-- a text that is taken and is not the proof shows two texts of one digest -/
theorem sole_found {q : Qr} {L : List Pt} (h : Well L) {s : List UInt8} {b : List Pt} (hv : verify (Sha.sha (rootText Sha.sha L)) (L.length : Nat) q s = (b, 0)) (hne : s ≠ proofText q L) : ∃ S : PT 6, WF 6 S ∧ shows 6 S = s ∧ (alls 6 S).length ≤ 50000 ∧ Clash (alls 6 S) (alls _ (rootShow Sha.sha L)) := by
  rcases verify_sole h hv with e | ⟨t, hp, hc⟩
  · exact absurd e hne
  · obtain ⟨h1, h2, _, _⟩ := parse_sound hp
    obtain ⟨S, w1, w2, w3⟩ := low_form 6 true t h1
    refine ⟨S, w1, w2.trans h2, ?_, ?_⟩
    · rw [w3]
      exact Nat.le_trans (owns_few 6 true t h1) (by decide)
    · rw [w3, show alls _ (rootShow Sha.sha L) = texts Sha.sha (tree L).1 (tree L).2 from emb_alls Sha.sha _ _]
      exact hc
end Ward
end Go.Proofs.YtenaelkbgkpllaaGreatDoor
/- collide, of a text that is taken and is not the proof. -/
namespace Go.Proofs.YtenaelkbgkpllaaGreatDoor
open Go.RowKit

theorem shows_len : ∀ (n : Nat) (S : Ward.PT n), Ward.WF n S → (Ward.shows n S).length ≤ 300 * 5 ^ n
  | 0, S, _ => nomatch S
  | n + 1, .leaf b, h => by
    obtain ⟨k, hk, hb⟩ := h
    have h3 : 1 ≤ 5 ^ n := Nat.one_le_pow _ _ (by decide)
    show (1 :: UInt8.ofNat (b.length / 12) :: b).length ≤ _
    rw [List.length_cons, List.length_cons, hb, Nat.pow_succ]
    omega
  | n + 1, .node cs, h => by
    have key : ∀ (l : List (List UInt8 × (UInt8 ⊕ Ward.PT n))), Ward.Each (Ward.kidWF n) l → (l.flatMap (Ward.kidShow n)).length ≤ (53 + 300 * 5 ^ n) * l.length := by
      intro l
      induction l with
      | nil => intro _; simp
      | cons c l ih =>
        intro hl
        have h2 := ih (fun d hd => hl d (List.mem_cons_of_mem _ hd))
        have h1 := hl c List.mem_cons_self
        have h3 : (Ward.kidShow n c).length ≤ 53 + 300 * 5 ^ n := by
          obtain ⟨a, b⟩ := c
          obtain ⟨ha, hb⟩ := h1
          show (a ++ _).length ≤ _
          rw [List.length_append]
          cases b with
          | inl f => show a.length + [f].length ≤ _; simp only at ha; rw [ha, List.length_singleton]; omega
          | inr t =>
            have := shows_len n t hb
            show a.length + (1 :: Ward.shows n t).length ≤ _
            simp only at ha
            rw [ha, List.length_cons]
            omega
        rw [List.flatMap_cons, List.length_append, List.length_cons, Nat.mul_succ]
        omega
    have h1 := key cs h.2
    have h2 : (53 + 300 * 5 ^ n) * cs.length ≤ (53 + 300 * 5 ^ n) * 4 := Nat.mul_le_mul_left _ h.1
    have h3 : 1 ≤ 5 ^ n := Nat.one_le_pow _ _ (by decide)
    show (2 :: UInt8.ofNat cs.length :: cs.flatMap (Ward.kidShow n)).length ≤ _
    rw [List.length_cons, List.length_cons, Nat.pow_succ]
    omega
theorem collide_sole {q : Ward.Qr} {L : List Ward.Pt} (h : Good L) {s : List UInt8} {b : List Ward.Pt} (hv : Ward.verify (Sha.sha (Ward.rootText Sha.sha L)) (L.length : Nat) q s = (b, 0)) (hne : s ≠ Ward.proofText q L) (w : World) (hK : KT w) :
    Calls Tryz.prog 18 #[Sv s, Sv (Ward.proofText wholeQ L)] w fun e w' => e = .returned (.bool true) ∧ Below w.heap.size w w' := by
  obtain ⟨S, w1, w2, w3, w4⟩ := Ward.sole_found h.well hv hne
  have h1 := Nat.le_trans h.many (show 150 ≤ 256 by decide)
  have d1 := Ward.tree_depth h1
  have l1 := Ward.fullText_len sha_len h.ok h1
  have l2 := shows_len 6 S w1
  rw [w2] at l2
  have e6 : 300 * 5 ^ 6 = 4687500 := by decide
  rw [whole_full h]
  refine (collide_any ⟨s.toArray⟩ ⟨(Ward.fullText Sha.sha L).toArray⟩ _ _ S (Ward.rootShow Sha.sha L) w w1 (Ward.root_wf sha_len h.ok) w2.symm
    (by show (Ward.fullText Sha.sha L).toArray.toList = _; rw [List.toList_toArray, Ward.root_shows]) (by omega) (by omega) w3 (Nat.le_trans (Ward.root_few Sha.sha h.ok h1) (by decide))
    (by show s.toArray.size ≤ _; rw [List.size_toArray]; omega) (by show (Ward.fullText Sha.sha L).toArray.size ≤ _; rw [List.size_toArray]; omega) hK).mono ?_
  rintro e w' ⟨r, rfl, hr, hb⟩
  cases r with
  | true => exact ⟨rfl, hb⟩
  | false =>
    obtain ⟨a, ha, c, hc, n1, n2⟩ := w4
    exact absurd n2 (hr rfl a ha c hc n1)
end Go.Proofs.YtenaelkbgkpllaaGreatDoor
/- The law Right: the walk. -/
namespace Go.Proofs.YtenaelkbgkpllaaGreatDoor
open Go.RowKit

theorem commit_count {L l : List Ward.Pt} (h : L.Perm l) : (commitV L).toArray[32]? = some (I l.length) := by
  rw [List.getElem?_toArray]
  unfold commitV rootV
  rw [List.getElem?_append_right (by rw [List.length_map]; exact Nat.le_refl 32), List.length_map, h.length_eq]
  rfl
theorem held_kt {B : Nat} {w w0 W : World} {d : Nat} {code : List Int} {k m : Nat} {v : Value} {L : List Ward.Pt} {vl : Value} {l : List Ward.Pt} (hK : KT w) (hb : Below w.heap.size w w0) (hd : w.heap.size ≤ d) (h : Held B w0 W d code k m v L vl l) : Below w.heap.size w W ∧ KT W := by
  have h2 := keeps_new hb h.keeps (fun j e => by omega)
  exact ⟨h2, hK.below h2⟩
theorem near_ok {l : List Ward.Pt} (h : Near l) : ∀ p ∈ l, p.Ok := fun p hp => by
  have := h p hp
  constructor <;> omega
attribute [local go_sem ↓] Go.wp_at_zero Go.wp_at_succ wp_load_com
set_option maxRecDepth 100000 in
set_option maxHeartbeats 20000000 in
theorem right_law (a1 : Option Addr) (c1 : Nat) (code : List Int) (w : World) (h1 : Arg w a1 code) (hK : KT w) :
    Calls Tryz.prog 8 #[.slice a1 code.length c1] w fun e w' => e = .returned (.bool true) ∧ Below w.heap.size w w' := by
  have H1 := hide h1
  have HK := hide hK
  obtain ⟨fsc, huc⟩ := underCom
  have HUC := hide huc
  clear h1 hK huc
  go_enter Tryz.func8, Tryz.ntmps8
  go_wp2_with fail
  have hd1 := dice_new (w := w) (c := c1) H1.out.len H1.out.fits H1.out.lies
  refine (began_any (w.heap.size + 1) w.heap.size code 0 _ (by simp) hd1 (HK.out.below ((Below.refl _ _).alloc (Nat.le_refl _) _))).mono ?_
  rintro e w1 ⟨k1, m, v, L, vl, l, rfl, hH1, hp1, hn1, hl1⟩
  have hb0 := (Below.refl w.heap.size w).alloc (Nat.le_refl _) (.cells #[.slice a1 code.length c1, I 0] 32)
  have hs0 : w.heap.size < (w.alloc (.cells #[.slice a1 code.length c1, I 0] 32)).heap.size := by simp
  generalize World.alloc w (.cells #[.slice a1 code.length c1, I 0] 32) = w0 at *
  have HH1 := hide hH1
  have HB0 := hide hb0
  have HPM := hide hp1
  have HNR := hide hn1
  have HGL := hide hH1.good
  have HIL := hide ((Ward.ids_perm hp1).1 hH1.good.ids)
  have HKH := hide (fun W k => held_kt (k := k) (W := W) (B := w.heap.size + 1) (code := code) (m := m) (v := v) (L := L) (vl := vl) (l := l) HK.out hb0 (Nat.le_refl w.heap.size))
  have HCN := hide (commit_count hp1)
  have HCM := hide (com_of L)
  have HEQ := hide (eqCom L L)
  have HCO := hide (fun (n : Nat) (v : Value) (W : World) (hm : IsMap W n v L) (hk : KT W) => commitment_any n v L W hm HGL.out hk)
  have HVA := hide (fun (q : Ward.Qr) (s : List UInt8) (W : World) (hk : KT W) => show Calls Tryz.prog 22 #[.agg (commitV L).toArray, Qv q, Sv s] W (Verified W (Sha.sha (Ward.rootText Sha.sha L)) (L.length : Nat) q s) from verify_any _ _ q s W (sha_len _) hk)
  obtain ⟨al, cl, el, -⟩ := hH1.list.reads
  subst el
  have hls : l.length ≤ 39 := hl1
  have hkt1 := (HKH.out w1 k1 hH1).2
  have HKT1 := hide hkt1
  have hm1 := hH1.map
  clear hd1 hH1 hp1 hn1 hl1 hb0
  generalize commitV L = C at *
  go_wp2_with fail
  refine (HCO.out m v w1 hm1 HKT1.out).mono ?_
  rintro _ w2 ⟨rfl, hb2⟩
  have HH2 := hide (HH1.out.below hb2)
  have hs2 := hb2.size
  clear hb2 hm1 hkt1
  have hb3' := fun o => (Below.refl w2.heap.size w2).alloc (Nat.le_refl _) o
  have hr3' := heap_alloc_new w2
  go_upto_region 6 with (refine wpList_store_row rfl 41 (.tmp 6) (.tmp 36) rfl w2.heap.size C.toArray rfl rfl 41 _ (heap_alloc_new w2 _) HCM.out.info (by rw [HCM.out.size]; rfl) HCM.out.one ?_; rw [World.setRow_alloc_new])
  generalize hW : World.alloc w2 _ = w3
  have hb3 : Below w2.heap.size w2 w3 := by rw [← hW]; exact hb3' _
  have hr3 : w3.heap[w2.heap.size]? = some (.cells C.toArray 41 (0, 0)) := by rw [← hW]; exact hr3' _
  clear hb3' hr3' hW
  have hs3 : w2.heap.size < w3.heap.size := (Array.getElem?_eq_some_iff.1 hr3).1
  have HH3 := hide (HH2.out.below hb3)
  have HR3 := hide hr3
  clear hb3 hr3
  go_wp2_with fail
  refine (new_any w3).mono ?_
  rintro _ w4 ⟨rfl, hm4, hz4, hb4⟩
  have hs4 : w3.heap.size < w4.heap.size := by omega
  have hw0 : w0.heap.size ≤ w3.heap.size := HH3.out.keeps.size
  have HT4 := hide (show Twin (w.heap.size + 1) w0 w3.heap.size w.heap.size code k1 m v L (.slice al l.length cl) l w3.heap.size (.slice none 0 0) [] w4 from ⟨HH3.out.below hb4, hm4, Nat.le_refl _, fun g hg => by simp [Value.ownBlock] at hg, HH3.out.map.lt, fun g hg => HH3.out.map.own.lt hg, fun g hg => HH3.out.list.lt hg, HH3.out.dice.lt, by omega, hw0⟩)
  have HR4 := hide ((hb4.block w2.heap.size hs3).trans HR3.out)
  have c32 : w4.cell? ⟨w2.heap.size, 32, none⟩ = some (I l.length) := by rw [cell_of_row _ _ _ _ _ _ HR4.out]; exact HCN.out
  have HIN := hide (mapInsert_any w3.heap.size (.slice none 0 0) [] p999 w4 hm4 good_nil)
  rw [first_code, first_list] at HIN
  clear hm4 hz4 hb4
  go_wp2_with fail
  refine HIN.out.mono ?_
  rintro _ w5 ⟨rfl, v5, hm5, hf5, hk5⟩
  have hs5 := hk5.size
  have HT5 := hide (HT4.out.step (by omega) hm5 hf5 hk5)
  have HR5 := hide ((hk5.block w2.heap.size (by omega) (fun e => by
    rcases e with e | e
    · omega
    · simp [Value.ownBlock] at e)).trans HR4.out)
  have HG5 := hide (show Good [p999] by have := good_nil.insert p999; rw [first_list] at this; exact this)
  clear hm5 hf5 hk5 HIN c32
  go_wp2_with fail
  go_loopg [9, 10] l.length (fun gk v9 _ wq => ∃ (j : Nat) (v2 : Value) (N : List Ward.Pt), gk = j ∧ v9 = I ((j : Int) - 1) ∧ j ≤ l.length ∧ N.Perm (p999 :: l.drop j) ∧ Good N ∧ Twin (w.heap.size + 1) w0 w3.heap.size w.heap.size code k1 m v L (.slice al l.length cl) l w3.heap.size v2 N wq ∧ w3.heap.size ≤ wq.heap.size ∧ wq.heap[w2.heap.size]? = some (.cells C.toArray 41 (0, 0)))
  case atStart => exact ⟨l.length, v5, [p999], rfl, rfl, Nat.le_refl _, by rw [List.drop_length], HG5.out, HT5.out, by omega, HR5.out⟩
  case round =>
    clear HT4 HT5 HR4 HR5 HG5 HH1 HH2 HH3
    obtain ⟨j, v2, N, rfl, rfl, hj, hpm, hgd, htw, hsz, hrow⟩ := hrel
    have HPN := hide hpm
    have HGN := hide hgd
    have HTW := hide htw
    have HRW := hide hrow
    clear hpm hgd htw hrow
    cases gk with
    | succ j =>
      have ej : (((j + 1 : Nat) : Int) - 1) = (j : Int) := by omega
      rw [ej]
      have hjl : j < l.length := by omega
      obtain ⟨g, o, eg, hpt⟩ := HTW.out.held.list.reads.point.2 j hjl
      subst eg
      have hp0 := hpt wr (Below.refl _ _)
      have hc := back_code hjl HPN.out HNR.out HIL.out hls
      have HPN2 := hide (back_perm hjl HPN.out hc)
      have HGN2 := hide (HGN.out.insert l[j])
      have HIN := hide (mapInsert_any w3.heap.size v2 N l[j] wr HTW.out.map2 HGN.out)
      rw [hc] at HIN
      generalize insList N l[j] = N2 at *
      generalize l[j] = p at *
      obtain ⟨p1, p2, p3⟩ := hp0
      clear hpt hc ej
      go_wp2_with fail
      refine HIN.out.mono ?_
      rintro _ w6 ⟨rfl, v6, hm6, hf6, hk6⟩
      have hs6 := hk6.size
      have HT6 := hide (HTW.out.step hsz hm6 hf6 hk6)
      have HR6 := hide ((hk6.block w2.heap.size (by omega) (fun e => by
        rcases e with e | e
        · omega
        · have := HTW.out.hv _ e.symm; omega)).trans HRW.out)
      clear hm6 hf6 hk6 HIN p1 p2 p3
      go_wp2_with fail
      go_roundg j
      case measure => omega
      case rel => exact ⟨j, v6, N2, rfl, rfl, by omega, HPN2.out, HGN2.out, HT6.out, by omega, HR6.out⟩
    | zero =>
      have e0 : (((0 : Nat) : Int) - 1) = -1 := by decide
      rw [e0]
      clear e0
      rw [List.drop_zero] at HPN
      have HDL := hide (mapDelete_any w3.heap.size v2 N 999 wr HTW.out.map2 (by have := HGN.out.many; omega) ⟨p999, HPN.out.mem_iff.2 List.mem_cons_self, rfl⟩)
      go_wp2_with fail
      refine HDL.out.mono ?_
      rintro _ w6 ⟨rfl, v6, i, hi, hii, hm6, hf6, hk6⟩
      have hNL : N.eraseIdx i = L := erase_same HGN.out HPN.out HPM.out HGL.out.sorted hi hii
      rw [hNL] at hm6
      have hs6 := hk6.size
      have HT6 := hide (HTW.out.step hsz hm6 hf6 hk6)
      have HR6 := hide ((hk6.block w2.heap.size (by omega) (fun e => by
        rcases e with e | e
        · omega
        · have := HTW.out.hv _ e.symm; omega)).trans HRW.out)
      clear hm6 hf6 hk6 hNL hi hii HDL HTW HRW HPN HGN
      have hk6 := (HKH.out w6 k1 HT6.out.held).2
      have HK6 := hide hk6
      clear hk6
      go_wp2_with fail
      refine (HCO.out w3.heap.size v6 w6 HT6.out.map2 HK6.out).mono ?_
      rintro _ w7 ⟨rfl, hb7⟩
      have hs7 := hb7.size
      have HT7 := hide (HT6.out.below hb7)
      have HR7 := hide ((hb7.block w2.heap.size (by omega)).trans HR6.out)
      clear hb7
      have hb8' := fun o => (Below.refl w7.heap.size w7).alloc (Nat.le_refl _) o
      have hr8' := heap_alloc_new w7
      go_upto_region 18 with (refine wpList_store_row rfl 41 (.tmp 12) (.tmp 68) rfl w7.heap.size C.toArray rfl rfl 41 _ (heap_alloc_new w7 _) HCM.out.info (by rw [HCM.out.size]; rfl) HCM.out.one ?_; rw [World.setRow_alloc_new])
      generalize hW : World.alloc w7 _ = w8
      have hb8 : Below w7.heap.size w7 w8 := by rw [← hW]; exact hb8' _
      have hr8 : w8.heap[w7.heap.size]? = some (.cells C.toArray 41 (0, 0)) := by rw [← hW]; exact hr8' _
      clear hb8' hr8' hW
      have hs8 : w7.heap.size < w8.heap.size := (Array.getElem?_eq_some_iff.1 hr8).1
      have HT8 := hide (HT7.out.below hb8)
      have HR8 := hide ((hb8.block w2.heap.size (by omega)).trans HR7.out)
      have HD8 := hide hr8
      have hcr1 := comRow_of HR8.out HCM.out.size
      have hcv1 := loadVal_row HR8.out
      have hcr2 := comRow_of HD8.out HCM.out.size
      have hcv2 := loadVal_row HD8.out
      have heq : ∀ W, (Op.equalIn 10000 41 (.agg C.toArray) (.agg C.toArray)).run Tryz.prog W = .ok true W := fun W => by rw [HEQ.out W]; simp
      clear hb8 hr8 HT6 HR6 HK6 HT7 HR7
      go_wp2_with fail
      clear hcr1 hcv1 hcr2 hcv2 heq
      have hkd : w3.heap.size < w7.heap.size + 1 := by omega
      go_loopg [13, 14, 15, 16, 17, 18, 19, 20, 21, 22, 23, 24] 4 (fun gk v13 _ _ _ _ _ _ _ _ _ _ _ wq => ∃ (i k : Nat), gk = 4 - i ∧ v13 = I i ∧ i ≤ 4 ∧ Twin (w.heap.size + 1) w0 w3.heap.size w.heap.size code k m v L (.slice al l.length cl) l w3.heap.size v6 L wq ∧ w8.heap.size ≤ wq.heap.size ∧ wq.heap[w7.heap.size]? = some (.cells C.toArray 41 (0, 0)))
      case atStart => exact ⟨0, k1, rfl, rfl, by omega, HT8.out, Nat.le_refl _, HD8.out⟩
      case round =>
        clear HT8 HR8 HD8
        obtain ⟨i, k, hgk, rfl, hi, htw, hsz2, hrow⟩ := hrel
        have HGK := hide hgk
        have HTW := hide htw
        have HRW := hide hrow
        clear hgk htw hrow
        by_cases hlt : i < 4
        · have HQU := hide (query_any (w.heap.size + 1) w.heap.size code k wr HTW.out.held.dice (by omega))
          go_wp2_with fail
          refine HQU.out.mono ?_
          rintro _ w9 ⟨q, k', rfl, hsq, hd9, hk9⟩
          have hs9 := hk9.size
          have HT9 := hide (HTW.out.next hs0 hd9 hk9)
          have HR9 := hide ((hk9.block w7.heap.size (by omega) (fun e => by omega)).trans HRW.out)
          have HSQ := hide hsq
          clear hd9 hk9 hsq HQU
          have hb10' := fun o => (Below.refl w9.heap.size w9).alloc (Nat.le_refl _) o
          have hr10' := heap_alloc_new w9
          go_upto_region 24 with (refine wpList_store_row rfl 46 (.tmp 14) (.tmp 85) rfl w9.heap.size #[I q.kind, I q.a, I q.b, I q.c, I q.d, I q.x, I q.y, I q.k] rfl rfl 46 _ (heap_alloc_new w9 _) sizeQ rfl (one8 _ _ _ _ _ _ _ _) ?_; rw [World.setRow_alloc_new])
          generalize hW : World.alloc w9 _ = w10
          have hb10 : Below w9.heap.size w9 w10 := by rw [← hW]; exact hb10' _
          have hr10 : w10.heap[w9.heap.size]? = some (.cells #[I q.kind, I q.a, I q.b, I q.c, I q.d, I q.x, I q.y, I q.k] 46 (0, 0)) := by rw [← hW]; exact hr10' _
          clear hb10' hr10' hW
          have hs10 : w9.heap.size < w10.heap.size := (Array.getElem?_eq_some_iff.1 hr10).1
          have HT10 := hide (HT9.out.below hb10)
          have HR10 := hide ((hb10.block w7.heap.size (by omega)).trans HR9.out)
          have HQ10 := hide hr10
          obtain ⟨q0, q1, q2, q3, q4, q5, q6, q7⟩ := rowQ8 hr10
          clear hb10 hr10 HT9 HR9
          have HA10 := hide (map_answer m v L w10 HSQ.out.1 HT10.out.held.map HGL.out (HKH.out w10 k' HT10.out.held).2)
          have HRI := hide (Ward.right_ans HSQ.out.1 HPM.out HGL.out.ids)
          have HVF := hide (Ward.verify_proof HSQ.out.1 HGL.out.well)
          have HAL := hide (show (Ward.ans q L).length ≤ 1000 by
            have h1 : L.length ≤ 150 := HGL.out.many
            unfold Ward.ans
            split
            · rw [List.length_take, (Ward.sortN_perm _ _ _).length_eq]; omega
            · rw [(Ward.sortP_perm _).length_eq]; exact Nat.le_trans (List.length_filter_le _ _) (by omega))
          have HPR := hide (fun (n : Nat) (v : Value) (W : World) (hm : IsMap W n v L) (hk : KT W) => prove_any n v L W HSQ.out.1 hm HGL.out hk)
          have HVX := hide (fun W hk => HVA.out q (Ward.proofText q L) W hk)
          generalize Ward.proofText q L = S at *
          generalize Ward.ans q L = A at *
          go_wp2_with fail
          refine HA10.out.mono ?_
          rintro _ w11 ⟨va, rfl, ho11, hb11⟩
          have hs11 := hb11.size
          have HT11 := hide (HT10.out.below hb11)
          have HR11 := hide ((hb11.block w7.heap.size (by omega)).trans HR10.out)
          have HQ11 := hide ((hb11.block w9.heap.size (by omega)).trans HQ10.out)
          have HO11 := hide ho11
          obtain ⟨q0, q1, q2, q3, q4, q5, q6, q7⟩ := rowQ8 HQ11.out
          clear hb11 ho11 HT10 HR10 HQ10 HA10
          go_wp2_with fail
          refine (HPR.out m v w11 HT11.out.held.map (HKH.out w11 k' HT11.out.held).2).mono ?_
          rintro _ w12 ⟨rfl, hb12⟩
          have hs12 := hb12.size
          have HT12 := hide (HT11.out.below hb12)
          have HR12 := hide ((hb12.block w7.heap.size (by omega)).trans HR11.out)
          have HQ12 := hide ((hb12.block w9.heap.size (by omega)).trans HQ11.out)
          have HO12 := hide (HO11.out.below hb12)
          obtain ⟨q0, q1, q2, q3, q4, q5, q6, q7⟩ := rowQ8 HQ12.out
          clear hb12 HT11 HR11 HQ11 HO11
          go_wp2_with fail
          refine (HPR.out w3.heap.size v6 w12 HT12.out.map2 (HKH.out w12 k' HT12.out.held).2).mono ?_
          rintro _ w13 ⟨rfl, hb13⟩
          have hs13 := hb13.size
          have HT13 := hide (HT12.out.below hb13)
          have HR13 := hide ((hb13.block w7.heap.size (by omega)).trans HR12.out)
          have HQ13 := hide ((hb13.block w9.heap.size (by omega)).trans HQ12.out)
          have HO13 := hide (HO12.out.below hb13)
          obtain ⟨q0, q1, q2, q3, q4, q5, q6, q7⟩ := rowQ8 HQ13.out
          clear hb13 HT12 HR12 HQ12 HO12
          have HV13 := hide (HVX.out w13 (HKH.out w13 k' HT13.out.held).2)
          have hcr := comRow_of HR13.out HCM.out.size
          have hcv := loadVal_row HR13.out
          go_wp2_with fail
          refine HV13.out.mono ?_
          rintro e w14 ⟨vb, he, ho14, hb14⟩
          rw [HVF.out] at he ho14
          subst he
          have hs14 := hb14.size
          have HT14 := hide (HT13.out.below hb14)
          have HR14 := hide ((hb14.block w7.heap.size (by omega)).trans HR13.out)
          have HQ14 := hide ((hb14.block w9.heap.size (by omega)).trans HQ13.out)
          have HO14 := hide (HO13.out.below hb14)
          have HP14 := hide ho14
          obtain ⟨q0, q1, q2, q3, q4, q5, q6, q7⟩ := rowQ8 HQ14.out
          clear hb14 ho14 HT13 HR13 HQ13 HO13 hcr hcv HV13
          have HRT := hide (right_any va (.slice al l.length cl) A l w14 HO14.out.reads HT14.out.held.list.reads HRI.out HSQ.out (near_ok HNR.out) HAL.out (by omega))
          go_wp2_with fail
          refine HRT.out.mono ?_
          rintro _ w15 ⟨rfl, hb15⟩
          have hs15 := hb15.size
          have HT15 := hide (HT14.out.below hb15)
          have HR15 := hide ((hb15.block w7.heap.size (by omega)).trans HR14.out)
          have HO15 := hide (HO14.out.below hb15)
          have HP15 := hide (HP14.out.below hb15)
          clear hb15 HT14 HR14 HQ14 HO14 HP14 HRT q0 q1 q2 q3 q4 q5 q6 q7
          have HSM := hide (same_any va vb A A w15 HO15.out.reads HP15.out.reads HAL.out)
          go_wp2_with fail
          refine HSM.out.mono ?_
          rintro e w16 ⟨⟨r, rfl, hr⟩, hb16⟩
          have hr1 : r = true := hr.2 (by trivial)
          subst hr1
          have hs16 := hb16.size
          have HT16 := hide (HT15.out.below hb16)
          have HR16 := hide ((hb16.block w7.heap.size (by omega)).trans HR15.out)
          clear hb16 hr HSM HT15 HR15 HO15 HP15
          go_wp2_with fail
          go_roundg (4 - (i + 1))
          case measure => have := HGK.out; omega
          case rel => exact ⟨i + 1, k', rfl, by go_num, by omega, HT16.out, by omega, HR16.out⟩
        · have ei : i = 4 := by omega
          subst ei
          go_wp2_with fail
          go_ret
          exact ⟨rfl, (HKH.out wr k HTW.out.held).1⟩
end Go.Proofs.YtenaelkbgkpllaaGreatDoor
/- What the walk of Sole wants: the texts tried, read; a byte turned; a count that is one more. -/
namespace Go.Proofs.YtenaelkbgkpllaaGreatDoor
open Go.RowKit

theorem xor8 (a b : UInt8) : ∃ c : UInt8, bits .xor .u8 ((a.toNat : Nat) : Int) ((b.toNat : Nat) : Int) = ((c.toNat : Nat) : Int) := by
  refine ⟨a ^^^ b, ?_⟩
  rw [u8_xor_nat _ _ a.toNat_lt b.toNat_lt, UInt8.toNat_xor]
theorem OwnS.keeps {S : Nat → Prop} {w w' : World} {B : Nat} {v : Value} {ls : List (List UInt8)} (h : OwnS w B v ls) (hk : Keeps S w w') (hn : ∀ g, v.ownBlock = some g → ¬ S g) : OwnS w' B v ls := by
  refine ⟨h.1, ?_⟩
  rcases h.2 with h0 | ⟨g, cap, cur, rfl, hb, hg, r⟩
  · exact .inl h0
  · exact .inr ⟨g, cap, cur, rfl, hb, (hk.block g (Array.getElem?_eq_some_iff.1 hg).1 (hn g rfl)).trans hg, r⟩
theorem OwnS.ge {w : World} {B g : Nat} {v : Value} {ls : List (List UInt8)} (h : OwnS w B v ls) (hg : v.ownBlock = some g) : B ≤ g := (World.ownsRow.lt h g hg).1
theorem OwnS.text {w : World} {B : Nat} {v : Value} {ls : List (List UInt8)} (h : OwnS w B v ls) : ∃ a c, v = .slice a ls.length c ∧ ∀ i (hi : i < ls.length), ∃ g o, a = some ⟨g, o, none⟩ ∧ ∀ w', Below w.heap.size w w' → w'.cell? ⟨g, o + i, none⟩ = some (Sv ls[i]) := by
  rcases h.2 with ⟨rfl, h0⟩ | ⟨g, c, cur, rfl, _⟩
  · have e : ls = [] := by simpa using h0
    subst e
    exact ⟨none, 0, rfl, fun i hi => absurd hi (by simp)⟩
  · refine ⟨_, c, rfl, fun i hi => ⟨g, 0, rfl, fun w' hb => ?_⟩⟩
    have hc := World.ownsRow.cells (OwnS.below h hb) (g := g) rfl
    have a1 := hc i (Sv ls[i]) (by rw [List.getElem?_map, List.getElem?_eq_getElem hi]; rfl)
    rw [Addr.add_lit] at a1
    exact a1
theorem keeps_of_grown {w w' : World} {o : Option Nat} (h : w.grownBy w' o) : Keeps (fun j => o = some j) w w' := ⟨h.os, h.tape, h.output, h.size, fun j hj hn => h.block j hj (fun e => hn e.symm)⟩
theorem sole_code {L l : List Ward.Pt} {x y : Int} (hp : L.Perm l) (hn : Near l) (hl : l.length ≤ 39) (hx : 0 ≤ x ∧ x < 9) (hy : 0 ≤ y ∧ y < 9) : insCode L ⟨500, x - 4, y - 4⟩ = 0 := by
  have hll : L.length = l.length := hp.length_eq
  have hno : ¬ ∃ q ∈ L, q.id = (500 : Int) := by
    rintro ⟨q, hq, e⟩
    have := hn q (hp.mem_iff.1 hq)
    omega
  unfold insCode
  rw [if_neg (by simp only; omega), if_neg (by simp only; omega), if_neg hno, if_neg (by omega)]
theorem commit_more {L l : List Ward.Pt} (h : L.Perm l) : (commitV L).toArray.setIfInBounds 32 (I ((l.length : Int) + 1)) = (rootV (Sha.sha (Ward.rootText Sha.sha L)) ((L.length : Int) + 1)).toArray := by
  unfold commitV rootV
  rw [← h.length_eq, List.setIfInBounds_toArray]
  congr 1
theorem list_succ {α : Type} {n : Nat} {C : List α} (h : C.length = n + 1) : ∃ c D, C = c :: D ∧ D.length = n := by
  cases C with
  | nil => simp at h
  | cons c D => exact ⟨c, D, rfl, by simpa using h⟩
theorem list33 {C : List Value} (h : C.length = 33) : ∃ c0 c1 c2 c3 c4 c5 c6 c7 c8 c9 c10 c11 c12 c13 c14 c15 c16 c17 c18 c19 c20 c21 c22 c23 c24 c25 c26 c27 c28 c29 c30 c31 c32, C = [c0, c1, c2, c3, c4, c5, c6, c7, c8, c9, c10, c11, c12, c13, c14, c15, c16, c17, c18, c19, c20, c21, c22, c23, c24, c25, c26, c27, c28, c29, c30, c31, c32] := by
  obtain ⟨c0, D0, rfl, h0⟩ := list_succ h
  obtain ⟨c1, D1, rfl, h1⟩ := list_succ h0
  obtain ⟨c2, D2, rfl, h2⟩ := list_succ h1
  obtain ⟨c3, D3, rfl, h3⟩ := list_succ h2
  obtain ⟨c4, D4, rfl, h4⟩ := list_succ h3
  obtain ⟨c5, D5, rfl, h5⟩ := list_succ h4
  obtain ⟨c6, D6, rfl, h6⟩ := list_succ h5
  obtain ⟨c7, D7, rfl, h7⟩ := list_succ h6
  obtain ⟨c8, D8, rfl, h8⟩ := list_succ h7
  obtain ⟨c9, D9, rfl, h9⟩ := list_succ h8
  obtain ⟨c10, D10, rfl, h10⟩ := list_succ h9
  obtain ⟨c11, D11, rfl, h11⟩ := list_succ h10
  obtain ⟨c12, D12, rfl, h12⟩ := list_succ h11
  obtain ⟨c13, D13, rfl, h13⟩ := list_succ h12
  obtain ⟨c14, D14, rfl, h14⟩ := list_succ h13
  obtain ⟨c15, D15, rfl, h15⟩ := list_succ h14
  obtain ⟨c16, D16, rfl, h16⟩ := list_succ h15
  obtain ⟨c17, D17, rfl, h17⟩ := list_succ h16
  obtain ⟨c18, D18, rfl, h18⟩ := list_succ h17
  obtain ⟨c19, D19, rfl, h19⟩ := list_succ h18
  obtain ⟨c20, D20, rfl, h20⟩ := list_succ h19
  obtain ⟨c21, D21, rfl, h21⟩ := list_succ h20
  obtain ⟨c22, D22, rfl, h22⟩ := list_succ h21
  obtain ⟨c23, D23, rfl, h23⟩ := list_succ h22
  obtain ⟨c24, D24, rfl, h24⟩ := list_succ h23
  obtain ⟨c25, D25, rfl, h25⟩ := list_succ h24
  obtain ⟨c26, D26, rfl, h26⟩ := list_succ h25
  obtain ⟨c27, D27, rfl, h27⟩ := list_succ h26
  obtain ⟨c28, D28, rfl, h28⟩ := list_succ h27
  obtain ⟨c29, D29, rfl, h29⟩ := list_succ h28
  obtain ⟨c30, D30, rfl, h30⟩ := list_succ h29
  obtain ⟨c31, D31, rfl, h31⟩ := list_succ h30
  obtain ⟨c32, D32, rfl, h32⟩ := list_succ h31
  rw [List.length_eq_zero_iff] at h32
  subst h32
  exact ⟨c0, c1, c2, c3, c4, c5, c6, c7, c8, c9, c10, c11, c12, c13, c14, c15, c16, c17, c18, c19, c20, c21, c22, c23, c24, c25, c26, c27, c28, c29, c30, c31, c32, rfl⟩
theorem cells33 {w : World} {g t : Nat} {c0 c1 c2 c3 c4 c5 c6 c7 c8 c9 c10 c11 c12 c13 c14 c15 c16 c17 c18 c19 c20 c21 c22 c23 c24 c25 c26 c27 c28 c29 c30 c31 c32 : Value} (h : w.heap[g]? = some (.cells [c0, c1, c2, c3, c4, c5, c6, c7, c8, c9, c10, c11, c12, c13, c14, c15, c16, c17, c18, c19, c20, c21, c22, c23, c24, c25, c26, c27, c28, c29, c30, c31, c32].toArray t (0, 0))) : w.cell? ⟨g, 0, none⟩ = some c0 ∧ w.cell? ⟨g, 1, none⟩ = some c1 ∧ w.cell? ⟨g, 2, none⟩ = some c2 ∧ w.cell? ⟨g, 3, none⟩ = some c3 ∧ w.cell? ⟨g, 4, none⟩ = some c4 ∧ w.cell? ⟨g, 5, none⟩ = some c5 ∧ w.cell? ⟨g, 6, none⟩ = some c6 ∧ w.cell? ⟨g, 7, none⟩ = some c7 ∧ w.cell? ⟨g, 8, none⟩ = some c8 ∧ w.cell? ⟨g, 9, none⟩ = some c9 ∧ w.cell? ⟨g, 10, none⟩ = some c10 ∧ w.cell? ⟨g, 11, none⟩ = some c11 ∧ w.cell? ⟨g, 12, none⟩ = some c12 ∧ w.cell? ⟨g, 13, none⟩ = some c13 ∧ w.cell? ⟨g, 14, none⟩ = some c14 ∧ w.cell? ⟨g, 15, none⟩ = some c15 ∧ w.cell? ⟨g, 16, none⟩ = some c16 ∧ w.cell? ⟨g, 17, none⟩ = some c17 ∧ w.cell? ⟨g, 18, none⟩ = some c18 ∧ w.cell? ⟨g, 19, none⟩ = some c19 ∧ w.cell? ⟨g, 20, none⟩ = some c20 ∧ w.cell? ⟨g, 21, none⟩ = some c21 ∧ w.cell? ⟨g, 22, none⟩ = some c22 ∧ w.cell? ⟨g, 23, none⟩ = some c23 ∧ w.cell? ⟨g, 24, none⟩ = some c24 ∧ w.cell? ⟨g, 25, none⟩ = some c25 ∧ w.cell? ⟨g, 26, none⟩ = some c26 ∧ w.cell? ⟨g, 27, none⟩ = some c27 ∧ w.cell? ⟨g, 28, none⟩ = some c28 ∧ w.cell? ⟨g, 29, none⟩ = some c29 ∧ w.cell? ⟨g, 30, none⟩ = some c30 ∧ w.cell? ⟨g, 31, none⟩ = some c31 ∧ w.cell? ⟨g, 32, none⟩ = some c32 := by
  refine ⟨?_, ?_, ?_, ?_, ?_, ?_, ?_, ?_, ?_, ?_, ?_, ?_, ?_, ?_, ?_, ?_, ?_, ?_, ?_, ?_, ?_, ?_, ?_, ?_, ?_, ?_, ?_, ?_, ?_, ?_, ?_, ?_, ?_⟩ <;> rw [cell_of_row _ _ _ _ _ _ h] <;> rfl
/-- what is left of Sole's things once the map has changed -/
structure Left (w : World) (g0 g1 B1 B2 : Nat) (C : Array Value) (q : Ward.Qr) (va vl : Value) (A l : List Ward.Pt) (W : World) : Prop where
  base : Below w.heap.size w W
  com : W.heap[g0]? = some (.cells C 41 (0, 0))
  qry : W.heap[g1]? = some (.cells #[I q.kind, I q.a, I q.b, I q.c, I q.d, I q.x, I q.y, I q.k] 46 (0, 0))
  ans : Own W B1 va A
  list : Own W B2 vl l
section
variable {w W W' : World} {g0 g1 B1 B2 : Nat} {C : Array Value} {q : Ward.Qr} {va vl : Value} {A l : List Ward.Pt}
theorem Left.keeps {S : Nat → Prop} (h : Left w g0 g1 B1 B2 C q va vl A l W) (hk : Keeps S W W') (h1 : ∀ j, S j → w.heap.size ≤ j) (h2 : ¬ S g0) (h3 : ¬ S g1) (h4 : ∀ g, va.ownBlock = some g → ¬ S g) (h5 : ∀ g, vl.ownBlock = some g → ¬ S g) : Left w g0 g1 B1 B2 C q va vl A l W' :=
  ⟨keeps_new h.base hk h1, (hk.block g0 (Array.getElem?_eq_some_iff.1 h.com).1 h2).trans h.com, (hk.block g1 (Array.getElem?_eq_some_iff.1 h.qry).1 h3).trans h.qry, h.ans.keeps hk h4, h.list.keeps hk h5⟩
theorem Left.below (h : Left w g0 g1 B1 B2 C q va vl A l W) (hb : Below W.heap.size W W') : Left w g0 g1 B1 B2 C q va vl A l W' :=
  h.keeps (S := fun _ => False) (Keeps.of_below hb) (fun _ e => e.elim) (fun e => e) (fun e => e) (fun _ _ e => e) (fun _ _ e => e)
theorem Left.count {v : Value} {cs : Array Value} (h : Left w g0 g1 B1 B2 C q va vl A l W) (hc : C.setIfInBounds 32 v = cs) (h0 : w.heap.size ≤ g0) (h1 : g1 ≠ g0) (h4 : ∀ g, va.ownBlock = some g → g ≠ g0) (h5 : ∀ g, vl.ownBlock = some g → g ≠ g0) : Left w g0 g1 B1 B2 cs q va vl A l (W.setCell ⟨g0, 32, none⟩ v) := by
  have hk : Keeps (fun j => j = g0) W (W.setCell ⟨g0, 32, none⟩ v) := ⟨rfl, rfl, rfl, by simp, fun j _ hj => heap_setCell_other _ ⟨g0, 32, none⟩ j _ hj⟩
  exact ⟨keeps_new h.base hk (fun j e => by omega), by rw [heap_setCell_same _ _ _ _ _ _ h.com, hc], (hk.block g1 (Array.getElem?_eq_some_iff.1 h.qry).1 h1).trans h.qry, h.ans.keeps hk h4, h.list.keeps hk h5⟩
end
end Go.Proofs.YtenaelkbgkpllaaGreatDoor
