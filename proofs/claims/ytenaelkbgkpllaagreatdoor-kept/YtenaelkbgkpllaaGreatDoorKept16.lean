/- The nearest, taken off the heap. -/
import Derived.Test.YtenaelkbgkpllaaGreatDoorKept15
import Derived.Test.YtenaelkbgkpllaaGreatDoorKept10
import Derived.Shelf.SlSortCmp.WholeK
import Derived.Test.YtenaelkbgkpllaaGreatDoorRows
import Derived.Shelf.SlSortCmp.NoneTotal
import Derived.Test.YtenaelkbgkpllaaGreatDoorKept14
import Derived.Test.YtenaelkbgkpllaaGreatDoorKept13
import Derived.Test.YtenaelkbgkpllaaGreatDoorKept8
namespace Go.Proofs.YtenaelkbgkpllaaGreatDoor
open Go.RowKit

theorem own_mono {w : World} {B B' : Nat} {v : Value} {l : List Ward.Pt} (h : Own w B v l) (hb : B' ≤ B) : Own w B' v l := by
  refine ⟨h.1, ?_⟩
  rcases h.2 with h0 | ⟨g, cap, cur, e, hB, r⟩
  · exact .inl h0
  · exact .inr ⟨g, cap, cur, e, Nat.le_trans hb hB, r⟩
theorem rowE5 {w : World} {g t : Nat} {a b c d e : Value} (hr : w.heap[g]? = some (.cells #[a, b, c, d, e] t (0, 0))) : w.cell? ⟨g, 1, none⟩ = some b ∧ w.cell? ⟨g, 2, none⟩ = some c ∧ w.cell? ⟨g, 3, none⟩ = some d ∧ w.cell? ⟨g, 4, none⟩ = some e := by
  refine ⟨?_, ?_, ?_, ?_⟩ <;> (rw [cell_of_row _ _ _ _ _ _ hr]; rfl)
theorem alloc4 (w : World) (a b c d : Obj) : Below w.heap.size w ((((w.alloc a).alloc b).alloc c).alloc d) ∧ (((((w.alloc a).alloc b).alloc c).alloc d).heap.size = w.heap.size + 4) ∧ ((((w.alloc a).alloc b).alloc c).alloc d).heap[w.heap.size]? = some a ∧ ((((w.alloc a).alloc b).alloc c).alloc d).heap[w.heap.size + 1]? = some b ∧ ((((w.alloc a).alloc b).alloc c).alloc d).heap[w.heap.size + 2]? = some c ∧ ((((w.alloc a).alloc b).alloc c).alloc d).heap[w.heap.size + 3]? = some d := by
  have s1 : (w.alloc a).heap.size = w.heap.size + 1 := by simp
  have s2 : ((w.alloc a).alloc b).heap.size = w.heap.size + 2 := by simp
  have s3 : (((w.alloc a).alloc b).alloc c).heap.size = w.heap.size + 3 := by simp
  refine ⟨((((Below.refl w.heap.size w).alloc (Nat.le_refl _) a).alloc (by simp) b).alloc (by simp; omega) c).alloc (by simp; omega) d, by simp, ?_, ?_, ?_, ?_⟩
  · rw [Below.heap_alloc _ _ _ (by omega), Below.heap_alloc _ _ _ (by omega), Below.heap_alloc _ _ _ (by omega)]; exact heap_alloc_new w a
  · rw [Below.heap_alloc _ _ _ (by omega), Below.heap_alloc _ _ _ (by omega), ← s1]; exact heap_alloc_new _ b
  · rw [Below.heap_alloc _ _ _ (by omega), ← s2]; exact heap_alloc_new _ c
  · rw [← s3]; exact heap_alloc_new _ d
/-- how it begins -/
theorem near_start {w w1 : World} {x y : Int} {n : Nat} {t : Ward.NT n} {V : List Value} {k : Int} (hN : NodeIs w (fun g => g < w.heap.size) n t V) (hfew : Ward.Few n t) (hin : Ward.InN n t) (hen : Ward.Encl n t) (hpo : ∀ p ∈ Ward.allN n t, p.Ok) (hids : Ward.Ids (Ward.allN n t)) (hsz : sizeN n t ≤ 80000) (hk : 0 ≤ k) (hb : Below w.heap.size w w1)
    (h0 : w1.heap[w.heap.size]? = some (.cells V.toArray 90 (0, 0))) (h2 : w1.heap[w.heap.size + 2]? = some (.cells #[I 0, .pointer (some ⟨w.heap.size, 0, none⟩), I 0, I 0, I 0] 166 (0, 0))) (h3 : w1.heap[w.heap.size + 3]? = some (.cells #[.slice (some ⟨w.heap.size + 2, 0, none⟩) 1 1] 168 (0, 0))) :
    NearInv w1 w1 (fun g => g < w.heap.size + 2) (w.heap.size + 3) (w.heap.size + 2) x y (Ward.allN n t) k (.slice none 0 0) (.slice (some ⟨w.heap.size + 2, 0, none⟩) 1 1) [Gh.nd w.heap.size 0 n t 0] [] [⟨0, some ⟨w.heap.size, 0, none⟩, ⟨0, 0, 0⟩⟩] := by
  refine ⟨⟨h3, ⟨rfl, .inr ⟨w.heap.size + 2, 1, _, rfl, Nat.le_refl _, h2, Nat.le_refl _, by unfold maxLen; omega, rfl, rfl⟩⟩, fun e => ?_⟩, List.Perm.refl _, fun k hk h0 => ?_, World.ownsRow_nil _ _ _ _, ?_, ?_, fun G hG => ?_, Below.refl _ _, hk, ?_⟩
  · injection e with e
    have e' : w.heap.size + 2 = w.heap.size + 3 := e
    omega
  · simp only [List.length_singleton] at hk; omega
  · show _ = [] ++ Ward.sortN x y (Ward.allN n t ++ [])
    rw [List.append_nil, List.nil_append]
  · show Ward.Ids (Ward.allN n t ++ [])
    rw [List.append_nil]; exact hids
  · rw [List.mem_singleton] at hG
    subst hG
    refine ⟨by show w.heap.size < w.heap.size + 2; omega, ⟨V, NodeIs.keep (below_same hb (fun _ h => h)) (fun g h => by show g < w.heap.size + 2; have : g < w.heap.size := h; omega) n t V hN, fun j v hv => ?_⟩, hfew, hin, hen, hpo, fun p _ => Ward.dist_nonneg _ _ _⟩
    rw [cell_of_row _ _ _ _ _ _ h0, List.getElem?_toArray, Nat.zero_add]
    exact hv
  · rw [sizeL_cons]
    show sizeN n t + 0 ≤ 80000
    omega
set_option maxRecDepth 100000 in
set_option maxHeartbeats 4000000 in
theorem nearest_any (q : Ward.Qr) (n : Nat) (t : Ward.NT n) (V : List Value) (w : World) (hN : NodeIs w (fun g => g < w.heap.size) n t V) (hfew : Ward.Few n t) (hin : Ward.InN n t) (hen : Ward.Encl n t) (hpo : ∀ p ∈ Ward.allN n t, p.Ok) (hids : Ward.Ids (Ward.allN n t)) (hsz : sizeN n t ≤ 80000) (hx : -1000000 ≤ q.x ∧ q.x ≤ 1000000) (hy : -1000000 ≤ q.y ∧ q.y ≤ 1000000) (hk : 0 ≤ q.k) (hk2 : q.k ≤ 1000) :
    Calls Tryz.prog 75 #[.agg V.toArray, Qv q] w fun e w' => ∃ v, e = .returned v ∧ Own w' w.heap.size v ((Ward.sortN q.x q.y (Ward.allN n t)).take q.k.toNat) ∧ Below w.heap.size w w' := by
  have HST := hide (fun (w1 : World) => near_start (w := w) (w1 := w1) (x := q.x) (y := q.y) hN hfew hin hen hpo hids hsz hk)
  have HOP := hide (fun h v l g o n t U w B S hS hhB hB H hok hN hg hU hfew hin hpt hl => open_any h v l g o n t U q w B S hS hhB hB H hok hN hg hU hfew hin hpt hl hx hy)
  clear hN hx hy hfew hin hen hpo hids hsz
  obtain ⟨qk, qa, qb, qc, qd, qx, qy, qn⟩ := q
  simp only at HOP HST hk hk2 ⊢
  have h4 := alloc4 w
  go_enter Tryz.func75, Tryz.ntmps75
  go_upto_region 3 with fail
  generalize hW : World.alloc (World.alloc (World.alloc (World.alloc w _) _) _) _ = w1
  have hb1 : Below w.heap.size w w1 := by rw [← hW]; exact (h4 _ _ _ _).1
  have hs1 : w.heap.size + 4 ≤ w1.heap.size := by rw [← hW]; exact Nat.le_of_eq (h4 _ _ _ _).2.1.symm
  have r0 : w1.heap[w.heap.size]? = some (.cells V.toArray 90 (0, 0)) := by rw [← hW]; exact (h4 _ _ _ _).2.2.1
  have r1 : w1.heap[w.heap.size + 1]? = some (.cells #[I qk, I qa, I qb, I qc, I qd, I qx, I qy, I qn] 46 (0, 0)) := by rw [← hW]; exact (h4 _ _ _ _).2.2.2.1
  have r2 : w1.heap[w.heap.size + 2]? = some (.cells #[I 0, .pointer (some ⟨w.heap.size, 0, none⟩), I 0, I 0, I 0] 166 (0, 0)) := by rw [← hW]; exact (h4 _ _ _ _).2.2.2.2.1
  have r3 : w1.heap[w.heap.size + 3]? = some (.cells #[.slice (some ⟨w.heap.size + 2, 0, none⟩) 1 1] 168 (0, 0)) := by rw [← hW]; exact (h4 _ _ _ _).2.2.2.2.2
  rw [show w.heap.size + 1 + 1 + 1 = w.heap.size + 3 from rfl]
  clear h4 hW
  have HB1 := hide hb1
  have HR1 := hide r1
  have HI0 := hide (HST.out w1 hb1 r0 r2 r3)
  clear hb1 r0 r1 r2 r3 HST
  go_loopg [6] (sizeN n t) (fun gk v6 wq => ∃ (v : Value) (L : List Gh) (a : List Ward.Pt) (l : List En), gk = sizeL L ∧ NearInv w1 wq (fun g => g < w.heap.size + 2) (w.heap.size + 3) (w.heap.size + 2) qx qy (Ward.allN n t) qn v6 v L a l)
  case atStart => exact ⟨_, _, _, _, rfl, HI0.out⟩
  case round =>
    clear HI0
    obtain ⟨v, L, a, l, hgk, hI⟩ := hrel
    have HGK := hide hgk
    have HI := hide hI
    have hc := hI.heap.cell
    obtain ⟨av, cv, ev⟩ := hI.heap.own.slice
    rw [ev] at hc
    obtain ⟨aa, ca, ea⟩ := hI.own.slice
    have HRQ := hide ((hI.low.block (w.heap.size + 1) (by omega)).trans HR1.out)
    obtain ⟨-, -, -, -, -, -, -, k7⟩ := rowQ8 HRQ.out
    have hwr : w.heap.size + 4 ≤ wr.heap.size := Nat.le_trans hs1 hI.low.size
    have hlen := hI.len.2
    have halen : a.length ≤ 1000 := by have := hI.few; omega
    have HLN := hide (lenE_any av l.length cv wr)
    have HOWN := hide (show (Ward.sortN qx qy (Ward.allN n t)).take qn.toNat = a → Own wr w.heap.size (.slice aa a.length ca) ((Ward.sortN qx qy (Ward.allN n t)).take qn.toNat) ∧ Below w.heap.size w wr from fun e => ⟨by rw [e, ← ea]; exact own_mono hI.own (by omega), HB1.out.trans (hI.low.mono (by omega))⟩)
    clear hgk hI ev
    subst ea
    by_cases hl0 : l.length = 0
    · have HE := hide (HOWN.out (HI.out.done (.inl hl0)))
      rw [hl0] at HLN
      go_wp2_with fail
      refine HLN.out.mono ?_
      rintro _ w0 ⟨rfl, hw0⟩
      rw [hw0]
      clear hw0
      go_wp2_with fail
      go_ret
      exact ⟨_, rfl, HE.out⟩
    · by_cases ha : (a.length : Int) < qn
      · obtain ⟨m, hm⟩ : ∃ m, l.length = m + 1 := ⟨l.length - 1, by omega⟩
        have HPO := hide (heapPop_any _ v l m wr _ HI.out.heap hm (by omega) HI.out.ok)
        rw [hm] at HLN
        go_wp2_with fail
        refine HLN.out.mono ?_
        rintro _ w0 ⟨rfl, hw0⟩
        rw [hw0]
        clear hw0
        go_wp2_with fail
        refine HPO.out.mono ?_
        rintro _ w2 ⟨⟨ed, en, ⟨ei, ex, ey⟩⟩, v2, l2, rfl, hp2, hle2, hH2, hok2, hk2', hb2⟩
        have HP2 := hide hp2
        obtain ⟨G, L', hL, hen, hl2⟩ := ghost_pop HI.out.perm hp2
        have hl2l : l2.length ≤ 80000 := by have := hp2.length_eq; rw [List.length_cons] at this; omega
        have HL := hide hL
        have HL2 := hide hl2
        have HLE := hide hle2
        have HH2 := hide hH2
        have HOK2 := hide hok2
        have HK2 := hide hk2'
        have hs2 := hk2'.size
        clear hp2 hL hl2 hle2 hH2 hok2 hk2' hb2 HPO HLN HP2 hc
        have hta := ta_en (Ev ⟨ed, en, ⟨ei, ex, ey⟩⟩)
        have hb3' := fun o => (Below.refl w2.heap.size w2).alloc (Nat.le_refl _) o
        have hr3' := heap_alloc_new w2
        go_upto_region 5 with fail
        generalize hW : World.alloc w2 _ = w3
        have hb3 : Below w2.heap.size w2 w3 := by rw [← hW]; exact hb3' _
        have hr3 : w3.heap[w2.heap.size]? = some (.cells #[I ed, .pointer en, I ei, I ex, I ey] 166 (0, 0)) := by rw [← hW]; exact hr3' _
        clear hb3' hr3' hW hta
        have hs3 := hb3.size
        have HB3 := hide hb3
        have HRW3 := hide hr3
        have HO3 := hide ((HI.out.own.keeps HK2.out (own_apart HI.out.heap HI.out.own)).below hb3)
        have HLOW := hide ((HI.out.low.trans (keeps_low HK2.out HI.out.heap (by omega) (by omega))).trans (hb3.mono (by omega)))
        clear hb3 hr3
        cases G with
        | pt p =>
          injection hen with h1 h2 h3
          subst h1 h2 h3
          obtain ⟨e1, e2, e3, e4⟩ := rowE5 HRW3.out
          obtain ⟨v4, w4, h4, ho4, hg4, hf4⟩ := append_pt ⟨ei, ex, ey⟩ HO3.out (by omega) (by omega)
          have HI4 := hide (HI.out.point (by omega) (by omega) HL.out HL2.out HLE.out HH2.out HOK2.out HK2.out HB3.out ho4 hg4 ha)
          clear ho4 hg4 hf4 k7
          go_wp2_with (at_builtin; refine Lib.wpList_append_run _ rfl (.tmp 30) (.tmp 33) 27 27 rfl _ _ rfl rfl _ _ h4 ?_)
          go_roundg (sizeL L')
          case measure => have := HGK.out; have := HI4.out.2; omega
          case rel => exact ⟨v2, L', _, l2, rfl, HI4.out.1⟩
        | nd g o n' t' d =>
          cases n' with
          | zero => exact nomatch t'
          | succ n' =>
            injection hen with h1 h2 h3
            injection h3 with h31 h32 h33
            subst h1 h2 h31 h32 h33
            obtain ⟨e1, -, -, -⟩ := rowE5 HRW3.out
            obtain ⟨k0, k1, k2, k3, k4, k5, k6, k7'⟩ := rowQ8 ((HLOW.out.block (w.heap.size + 1) (by omega)).trans HR1.out)
            obtain ⟨hSg, ⟨U, hU, hUr⟩, hfew, hin, -, hpo, -⟩ := HI.out.gh _ (HL.out.mem_iff.2 List.mem_cons_self)
            have HOX := hide (HOP.out (w.heap.size + 3) v2 l2 g o n' t' U w3 (w.heap.size + 2) (fun g => g < w.heap.size + 2) (fun _ h => h) (by omega) (by omega) (HH2.out.below HB3.out) HOK2.out (NodeIs.keep (below_same HLOW.out (fun _ h => h)) (fun _ h => h) _ _ U hU) hSg (rangeAt_block hUr (HLOW.out.block g hSg)) hfew hin (fun p hp => hpo p (List.mem_append_left _ hp)) hl2l)
            clear hSg hU hUr hfew hin hpo k7
            go_wp2_with fail
            refine HOX.out.mono ?_
            rintro _ w4 ⟨rfl, v4, l4, gc, oc, hgr, hgc, hr⟩
            obtain ⟨L4, hI4, hs4⟩ := HI.out.node (fun _ h => h) (by omega) (by omega) HL.out HL2.out HH2.out HK2.out HB3.out hgr hgc hr
            have HI4 := hide hI4
            clear hI4 hgr hgc hr HOX e1 k0 k1 k2 k3 k4 k5 k6 k7'
            go_wp2_with fail
            go_roundg (sizeL L4)
            case measure => have := HGK.out; omega
            case rel => exact ⟨v4, L4, a, l4, rfl, HI4.out⟩
      · have HE := hide (HOWN.out (HI.out.done (.inr (by omega))))
        go_wp2_with fail
        refine HLN.out.mono ?_
        rintro _ w0 ⟨rfl, hw0⟩
        rw [hw0]
        clear hw0
        go_wp2_with fail
        go_ret
        exact ⟨_, rfl, HE.out⟩
end Go.Proofs.YtenaelkbgkpllaaGreatDoor
/- The text of a proof. -/
namespace Go.Proofs.YtenaelkbgkpllaaGreatDoor
open Go.RowKit

/-- what a proof has of a child -/
def kidP (m : Ward.Box → Bool) (n : Nat) (c : Ward.NT n) : List UInt8 := Ward.saidN n c ++ (if m (Ward.boxN n c) = true then 1 :: Ward.proofN m n c else [0])
theorem proofN_kids (m : Ward.Box → Bool) (n : Nat) (t : Ward.NT (n + 1)) (h : ¬ (Ward.Nd.kids t).length = 0) : Ward.proofN m (n + 1) t = [2, UInt8.ofNat (Ward.Nd.kids t).length] ++ (Ward.Nd.kids t).flatMap (kidP m n) := by
  show (if (Ward.Nd.kids t).length = 0 then _ else _) = _
  rw [if_neg h]
  rfl
theorem proofN_leaf (m : Ward.Box → Bool) (n : Nat) (t : Ward.NT (n + 1)) (h : (Ward.Nd.kids t).length = 0) : Ward.proofN m (n + 1) t = Ward.leafText (Ward.Nd.pts t) := by
  show (if (Ward.Nd.kids t).length = 0 then _ else _) = _
  rw [if_pos h]
theorem flat_part {α β : Type} (f : α → List β) : ∀ (K : List α) (i : Nat) (h : i < K.length), ((K.take i).flatMap f).length + (f K[i]).length ≤ (K.flatMap f).length
  | c :: K, 0, _ => by
    rw [List.flatMap_cons, List.length_append]
    show 0 + (f c).length ≤ _
    omega
  | c :: K, i + 1, h => by
    have ih := flat_part f K i (by simpa using h)
    rw [List.flatMap_cons, List.length_append, List.take_succ_cons, List.flatMap_cons, List.length_append, List.getElem_cons_succ]
    omega
/-- one byte put behind a text -/
theorem append_byte {w : World} {B : Nat} {v : Value} {l : List UInt8} (b : UInt8) (x : Int) (hx : ((b.toNat : Nat) : Int) = x) (hown : OwnB w B v l) (hB : B ≤ w.heap.size) (hl : l.length ≤ 900000) :
    ∃ v' w', (Builtin.append_ #[59, 59] 59 #[v, .slice (some ⟨w.heap.size, 0, none⟩) 1 1]).run Tryz.prog (w.alloc (.cells #[.int .u8 x] 5)) = .ok v' w' ∧ OwnB w' B v' (l ++ [b]) ∧ w.grownBy w' v.ownBlock ∧ Fresh w v v' := by
  subst hx
  obtain ⟨v1, w1, h1, ho1, hg1, hf1⟩ := append_bytes (w := w.alloc (.cells #[.int .u8 b.toNat] 5)) [b] ⟨w.heap.size, 0, none⟩ 1 (hown.below ((Below.refl w.heap.size w).alloc (Nat.le_refl _) _)) (by simp; omega) (by simp; omega) (fun j c hj => by
    rw [Addr.add_lit, Nat.zero_add, cell_of_row _ _ _ _ _ _ (heap_alloc_new w _)]
    match j, hj with
    | 0, hj => simp at hj; subst hj; rfl)
  exact ⟨v1, w1, h1, ho1, grown_lift ((Below.refl w.heap.size w).alloc (Nat.le_refl _) _) hg1, fresh_lift (by simp) hf1⟩
theorem append_two {w : World} {B : Nat} {v : Value} {l : List UInt8} (n : Nat) (hn : n ≤ 4) (hown : OwnB w B v l) (hB : B ≤ w.heap.size) (hl : l.length ≤ 900000) :
    ∃ v' w', (Builtin.append_ #[59, 59] 59 #[v, .slice (some ⟨w.heap.size, 0, none⟩) 2 2]).run Tryz.prog (w.alloc (.cells #[.int .u8 2, .int .u8 n] 5)) = .ok v' w' ∧ OwnB w' B v' (l ++ [2, UInt8.ofNat n]) ∧ w.grownBy w' v.ownBlock ∧ Fresh w v v' := by
  obtain ⟨v1, w1, h1, ho1, hg1, hf1⟩ := append_bytes (w := w.alloc (.cells #[.int .u8 2, .int .u8 n] 5)) [2, UInt8.ofNat n] ⟨w.heap.size, 0, none⟩ 2 (hown.below ((Below.refl w.heap.size w).alloc (Nat.le_refl _) _)) (by simp; omega) (by simp; omega) (fun j b hj => by
    have hkk : (UInt8.ofNat n).toNat = n := by rw [UInt8.toNat_ofNat']; omega
    rw [Addr.add_lit, Nat.zero_add, cell_of_row _ _ _ _ _ _ (heap_alloc_new w _)]
    match j, hj with
    | 0, hj => simp at hj; subst hj; rfl
    | 1, hj => simp at hj; subst hj; show some (Value.int .u8 (n : Int)) = some (Y (UInt8.ofNat n)); rw [Y, hkk])
  exact ⟨v1, w1, h1, ho1, grown_lift ((Below.refl w.heap.size w).alloc (Nat.le_refl _) _) hg1, fresh_lift (by simp) hf1⟩
/-- of the closure: which boxes must be shown -/
def MustIs (w : World) (B kq ka : Nat) (m : Ward.Box → Bool) : Prop := ∀ (W : World) (b : Ward.Box), b.In → Below B w W → Calls Tryz.prog 41 #[Bx b, .pointer (some ⟨kq, 0, none⟩), .pointer (some ⟨ka, 0, none⟩)] W fun e w' => e = .returned (.bool (m b)) ∧ Below W.heap.size W w'
theorem MustIs.below {w w' : World} {B kq ka : Nat} {m : Ward.Box → Bool} (h : MustIs w B kq ka m) (hb : Below B w w') : MustIs w' B kq ka m := fun W b hi hW => h W b hi (hb.trans hW)
theorem below_of_grown {w w' : World} {B : Nat} {v : Value} {l : List UInt8} (h : w.grownBy w' v.ownBlock) (ho : OwnB w B v l) (hB : B ≤ w.heap.size) : Below B w w' := ⟨h.os, h.tape, h.output, h.size, fun j hj => h.block j (by omega) (fun e => by have := (ho.lt e.symm).1; omega)⟩
set_option maxRecDepth 100000 in
set_option maxHeartbeats 4000000 in
theorem appendProof_any (m : Ward.Box → Bool) (kq ka : Nat) : ∀ (n : Nat) (t : Ward.NT n) (v : Value) (l : List UInt8) (V : List Value) (w : World) (B : Nat) (S : Nat → Prop) (_ : ∀ g, S g → g < B) (_ : B ≤ w.heap.size) (_ : l.length + (Ward.proofN m n t).length ≤ 600000) (_ : Ward.Few n t) (_ : Ward.InN n t) (_ : NodeIs w S n t V) (_ : OwnB w B v l) (_ : MustIs w B kq ka m),
    Calls Tryz.prog 81 #[v, .agg V.toArray, .func (.func 41) #[] #[.pointer (some ⟨kq, 0, none⟩), .pointer (some ⟨ka, 0, none⟩)]] w fun e w' => Put w B v l (Ward.proofN m n t) e w' := by
  intro n
  induction n with
  | zero => intro t; exact nomatch t
  | succ n ih =>
    intro t v l V w B S hS hB hlen hfew hin hN hown hmu
    have HIN := hide hin
    clear hin
    have IH := hide ih
    have HFEW := hide hfew
    have HMU := hide hmu
    clear ih hfew hmu
    obtain ⟨a1, l1, c1, a2, l2, c2, hV, hd⟩ := hN.cells
    have HR := hide (show Row39 V by rw [hV]; exact nodeV_row hd)
    obtain ⟨vp, vc, hVe, -, hrp, ⟨ac, cc, rfl, hkids⟩⟩ := hN
    have HVE := hide hVe
    have HRP := hide hrp
    have HKD := hide hkids
    have HO := hide hown
    have HS := hide hS
    have HLEN := hide hlen
    have HVB := hide (fun g (hg : v.ownBlock = some g) => OwnB.lt hown hg)
    have hk4 : (Ward.Nd.kids t).length ≤ 4 := HFEW.out.2.1
    have hp4 : (Ward.Nd.pts t).length ≤ 4 := HFEW.out.1
    obtain ⟨fs, hu⟩ := underNode
    have HU := hide hu
    obtain ⟨av, cv, rfl⟩ := hown.slice
    clear hu hV hd hVe hrp hkids hown hS hlen
    have hb2 := fun o => (Below.refl w.heap.size w).alloc (Nat.le_refl _) o
    have hr2 := heap_alloc_new w
    have hs2 := fun o => show (w.alloc o).heap.size = w.heap.size + 1 by simp
    go_enter Tryz.func81, Tryz.ntmps81
    go_upto_region 1 with fail
    generalize hW : World.alloc w _ = w1
    have hb1 : Below w.heap.size w w1 := by rw [← hW]; exact hb2 _
    have hn1 : w1.heap[w.heap.size]? = some (.cells V.toArray 90 (0, 0)) := by rw [← hW]; exact hr2 _
    have hs1 : w1.heap.size = w.heap.size + 1 := by rw [← hW]; exact hs2 _
    clear hb2 hr2 hs2 hW
    have HB1 := hide hb1
    have HS1 := hide hs1
    have HN1 := hide (show w1.heap[w.heap.size]? = some (.cells (nodeV vp (.slice ac (Ward.Nd.kids t).length cc) (Ward.Nd.box t) (Ward.Nd.n t) ((Ward.Nd.dig t).map Y)).toArray 90 (0, 0)) by rw [hn1, HVE.out])
    obtain ⟨⟨k0, k1⟩, -, -⟩ := node_cells HN1.out
    clear hb1 hn1 hs1
    by_cases h0 : (Ward.Nd.kids t).length = 0
    · have HPR := hide (proofN_leaf m n t h0)
      have HRB := hide (show ReadsB w1 B vp (Ward.Nd.pts t) from (HRP.out.keep (below_same HB1.out (fun g hg => by have := HS.out g hg; omega)) (fun _ h => h)).low HS.out)
      have HAL := hide (appendLeaf_any (.slice av l.length cv) l vp (Ward.Nd.pts t) w1 B (by have := HS1.out; omega) (by have := HLEN.out; omega) hp4 HRB.out (HO.out.below HB1.out))
      rw [h0] at k1
      go_wp2_with fail
      refine HAL.out.mono ?_
      rintro _ w2 ⟨v2, rfl, ho2, hg2, hf2⟩
      have HP := hide (show Put w B (.slice av l.length cv) l (Ward.proofN m (n + 1) t) (.returned v2) w2 from ⟨v2, rfl, by rw [HPR.out]; exact ho2, grown_lift HB1.out hg2, fresh_lift HB1.out.size hf2⟩)
      clear ho2 hg2 hf2
      go_wp2
      go_ret
      exact HP.out
    · have HPR := hide (proofN_kids m n t h0)
      have h0' : ¬ ((Ward.Nd.kids t).length : Int) = 0 := by omega
      obtain ⟨v2, w2, h2, ho2, hg2, hf2⟩ := append_two (w := w1) (Ward.Nd.kids t).length hk4 (HO.out.below HB1.out) (by have := HS1.out; omega) (by have := HLEN.out; omega)
      have HO2 := hide ho2
      have HG2 := hide hg2
      have HF2 := hide hf2
      have hn2 := (hg2.block w.heap.size (by have := HS1.out; omega) (fun e => by have := (HVB.out _ e.symm).2; omega)).trans HN1.out
      have HN2 := hide hn2
      obtain ⟨⟨k2, k3⟩, -, -⟩ := node_cells hn2
      clear ho2 hg2 hf2 hn2
      go_wp2_with (at_builtin; refine Lib.wpList_append_run _ rfl (.tmp 17) (.tmp 22) 59 59 rfl _ _ rfl rfl _ _ h2 ?_)
      go_loopg [0, 27] (Ward.Nd.kids t).length (fun gk v0 v27 wq => ∃ i : Nat, gk = (Ward.Nd.kids t).length - i ∧ v27 = I i ∧ i ≤ (Ward.Nd.kids t).length ∧ OwnB wq B v0 (l ++ ([2, UInt8.ofNat (Ward.Nd.kids t).length] ++ ((Ward.Nd.kids t).take i).flatMap (kidP m n))) ∧ w1.grownBy wq (Value.slice av l.length cv).ownBlock ∧ Fresh w1 (.slice av l.length cv) v0)
      case atStart => exact ⟨0, by omega, rfl, by omega, by simpa using HO2.out, HG2.out, HF2.out⟩
      case round =>
        clear h2 HO2 HG2 HF2
        obtain ⟨i, hgk, rfl, hi, ho, hgr, hf⟩ := hrel
        have HGK := hide hgk
        have HG := hide hgr
        have HF := hide hf
        have HOI := hide ho
        have hsz := hgr.size
        clear hgk hgr hf ho
        have HSM := hide (show Same S w wr from fun g hg => (HG.out.block g (by have := HS.out g hg; have := HS1.out; omega) (fun e => by have := (HVB.out _ e.symm).1; have := HS.out g hg; omega)).trans (HB1.out.block g (by have := HS.out g hg; omega)))
        have HMW := hide (show MustIs wr B kq ka m from HMU.out.below ((HB1.out.mono hB).trans (below_of_grown HG.out (HO.out.below HB1.out) (by have := HS1.out; omega))))
        by_cases hlt : i < (Ward.Nd.kids t).length
        · obtain ⟨g, o, rfl, hgS, hrows⟩ := HKD.out (fun e => by rw [e] at hlt; simp at hlt)
          obtain ⟨U, hU, hc⟩ := hrows i hlt
          have HU2 := hide (NodeIs.keep HSM.out (fun _ h => h) n _ U hU)
          have HC := hide (rangeAt_block hc (HSM.out g hgS))
          have HT := hide (flat_step (kidP m n) (Ward.Nd.kids t) i hlt)
          have hfp := flat_part (kidP m n) (Ward.Nd.kids t) i hlt
          have HL := hide (show (l ++ ([2, UInt8.ofNat (Ward.Nd.kids t).length] ++ ((Ward.Nd.kids t).take i).flatMap (kidP m n))).length + (kidP m n (Ward.Nd.kids t)[i]).length ≤ 600000 by
            have h1 := HLEN.out
            rw [HPR.out, List.length_append] at h1
            rw [List.length_append, List.length_append]
            omega)
          have HFC := hide (HFEW.out.2.2 _ (List.getElem_mem hlt))
          have HIC := hide (HIN.out _ (List.getElem_mem hlt))
          have HAS := hide (show l ++ ([2, UInt8.ofNat (Ward.Nd.kids t).length] ++ ((Ward.Nd.kids t).take (i + 1)).flatMap (kidP m n)) = (l ++ ([2, UInt8.ofNat (Ward.Nd.kids t).length] ++ ((Ward.Nd.kids t).take i).flatMap (kidP m n))) ++ kidP m n (Ward.Nd.kids t)[i] by rw [HT.out]; simp only [List.append_assoc])
          obtain ⟨d1, m1, e1, d2, m2, e2, hV, hd⟩ := HU2.out.cells
          have HR2 := hide (show Row39 U by rw [hV]; exact nodeV_row hd)
          have HVE2 := hide hV
          clear hc hU hrows hfp HT
          generalize (Ward.Nd.kids t)[i] = c at *
          generalize l ++ ([2, UInt8.ofNat (Ward.Nd.kids t).length] ++ ((Ward.Nd.kids t).take i).flatMap (kidP m n)) = M at *
          have hs : Ward.saidN n c = childT (Ward.boxN n c) (Ward.numN n c) (Ward.digN n c) := (childT_said _ _ _).symm
          have HKP := hide (show kidP m n c = Ward.saidN n c ++ (if m (Ward.boxN n c) = true then 1 :: Ward.proofN m n c else [0]) from rfl)
          have HSL := hide (said_len HU2.out)
          have hM : M.length ≤ 600000 := by have := HL.out; omega
          have HA := hide (fun (w2 : World) (hB : B ≤ w2.heap.size) (hown : OwnB w2 B u0 M) => by
            have h := appendChild_any u0 M (.slice d1 m1 e1) (.slice d2 m2 e2) (Ward.boxN n c) (Ward.numN n c) (Ward.digN n c) w2 B hB (by omega) hd hown
            rw [← hV, ← hs] at h
            exact h)
          clear hs hV hd
          go_upto_region 7 with (first | (refine wpList_load_mid rfl 90 (.tmp 29) rfl g (o + i * 39) rfl U (.struct fs) HC.out HU.out rfl HR2.out.infl ?_) | (refine wpList_store_row rfl 90 (.tmp 8) (.tmp 30) rfl wr.heap.size U.toArray rfl rfl 90 _ (heap_alloc_new wr _) HR2.out.info (by rw [HR2.out.size]; rfl) HR2.out.one ?_; rw [World.setRow_alloc_new]))
          have hb5' := fun o => (Below.refl wr.heap.size wr).alloc (Nat.le_refl _) o
          have hr5' := heap_alloc_new wr
          have hs5' := fun o => show (wr.alloc o).heap.size = wr.heap.size + 1 by simp
          generalize hW : World.alloc wr _ = w5
          have hb5 : Below wr.heap.size wr w5 := by rw [← hW]; exact hb5' _
          have hr5 : w5.heap[wr.heap.size]? = some (.cells U.toArray 90 (0, 0)) := by rw [← hW]; exact hr5' _
          have hs5 : w5.heap.size = wr.heap.size + 1 := by rw [← hW]; exact hs5' _
          clear hb5' hr5' hs5' hW
          have HB5 := hide hb5
          have HR5 := hide hr5
          have hs1 : w.heap.size + 1 ≤ w1.heap.size := by have := HS1.out; omega
          have hs5i : wr.heap.size + 1 ≤ w5.heap.size := by omega
          clear hb5 hr5 hs5
          go_wp2_with (refine wpList_load_row rfl 90 (.tmp 8) rfl wr.heap.size rfl 90 U.toArray (0, 0) (.struct fs) HR5.out HU.out rfl HR2.out.info ?_)
          refine (HA.out w5 (by omega) (HOI.out.below HB5.out)).mono ?_
          rintro _ w6 ⟨v6, rfl, ho6, hg6, hf6⟩
          have hs6 := hg6.size
          have hr6 := (hg6.block wr.heap.size (by omega) (fun e => by have := (HOI.out.lt e.symm).2; omega)).trans HR5.out
          have HO6 := hide ho6
          have HG6 := hide (grown_lift HB5.out hg6)
          have HF6 := hide (fresh_lift HB5.out.size hf6)
          have HF5 := hide hf6
          have HR6 := hide hr6
          rw [HVE2.out] at hr6
          obtain ⟨-, ⟨f1, f2, f3, f4⟩, -⟩ := node_cells hr6
          have HMB := hide (HMW.out w6 (Ward.boxN n c) HIC.out.1 (below_of_grown HG6.out HOI.out (by omega)))
          clear ho6 hg6 hf6 hr6
          generalize m (Ward.boxN n c) = r at *
          generalize Ward.boxN n c = bc at *
          go_wp2_with fail
          refine HMB.out.mono ?_
          rintro _ w7 ⟨rfl, hb7⟩
          have hs7 := hb7.size
          have HB7 := hide hb7
          have HO7 := hide (HO6.out.below hb7)
          have HR7 := hide ((hb7.block wr.heap.size (by omega)).trans HR6.out)
          have HG7 := hide (grown_trans HG6.out HF6.out (grown_of_below (r := v6.ownBlock) hb7))
          have hM2 : (M ++ Ward.saidN n c).length ≤ 700000 := by rw [List.length_append]; have := HSL.out; omega
          generalize hME : M ++ Ward.saidN n c = M2 at *
          have HME := hide hME
          clear hME
          obtain ⟨a6, c6, e6⟩ := HO6.out.slice
          subst e6
          clear hb7 f1 f2 f3 f4 HMB HR6
          cases r with
          | false =>
            obtain ⟨v8, w8, h8, ho8, hg8, hf8⟩ := append_byte 0 0 (by decide) HO7.out (by omega) (by omega)
            have HO8 := hide ho8
            have HG8 := hide hg8
            have HF8 := hide hf8
            clear ho8 hg8 hf8
            go_wp2_with (at_builtin; refine Lib.wpList_append_run _ rfl (.tmp 39) (.tmp 40) 59 59 rfl _ _ rfl rfl _ _ h8 ?_)
            go_roundg ((Ward.Nd.kids t).length - (i + 1))
            case measure => have := HGK.out; omega
            case rel =>
              refine ⟨i + 1, rfl, by go_num, hlt, ?_, grown_trans HG.out HF.out (grown_trans HG7.out HF6.out HG8.out), fresh_trans HF.out HG.out.size (fresh_trans HF6.out HG7.out.size HF8.out)⟩
              rw [HAS.out, HKP.out, if_neg (by simp), ← List.append_assoc, HME.out]
              exact HO8.out
          | true =>
            obtain ⟨v8, w8, h8, ho8, hg8, hf8⟩ := append_byte 1 1 (by decide) HO7.out (by omega) (by omega)
            have hs8 := hg8.size
            have hr8 := (hg8.block wr.heap.size (by omega) (fun e => by
              rcases HF5.out with h | ⟨g', h, hg'⟩
              · rw [h] at e
                have := (HOI.out.lt e.symm).2
                omega
              · rw [← e] at h
                injection h with h
                omega)).trans HR7.out
            have HR8 := hide hr8
            have HO8 := hide ho8
            have HG8 := hide (grown_trans HG7.out HF6.out hg8)
            have HF8 := hide (fresh_trans HF6.out HG7.out.size hf8)
            clear hr8 ho8 hg8 hf8
            have HBB := hide (below_of_grown HG8.out HOI.out (by omega))
            have HIH := hide (IH.out c v8 (M2 ++ [1]) U w8 B S HS.out (by omega) (by
              have h := HL.out
              rw [HKP.out, if_pos rfl, List.length_append, List.length_cons] at h
              rw [← HME.out, List.length_append, List.length_append, List.length_singleton]
              omega) HFC.out HIC.out.2 (NodeIs.keep (fun g hg => HBB.out.block g (HS.out g hg)) (fun _ h => h) n _ U HU2.out) HO8.out (HMW.out.below HBB.out))
            generalize hM3 : M2 ++ [1] = M3 at *
            have HM3 := hide hM3
            clear hM3
            obtain ⟨a8, c8, e8⟩ := HO8.out.slice
            subst e8
            go_wp2_with (first | (at_builtin; refine Lib.wpList_append_run _ rfl (.tmp 42) (.tmp 43) 59 59 rfl _ _ rfl rfl _ _ h8 ?_) | (refine wpList_load_row rfl 90 (.tmp 8) rfl wr.heap.size rfl 90 U.toArray (0, 0) (.struct fs) HR8.out HU.out rfl HR2.out.info ?_))
            refine HIH.out.mono ?_
            rintro _ w9 ⟨v9, rfl, ho9, hg9, hf9⟩
            have HO9 := hide ho9
            have HG9 := hide (grown_trans HG8.out HF8.out hg9)
            have HF9 := hide (fresh_trans HF8.out HG8.out.size hf9)
            clear ho9 hg9 hf9 h8
            go_wp2_with fail
            go_roundg ((Ward.Nd.kids t).length - (i + 1))
            case measure => have := HGK.out; omega
            case rel =>
              refine ⟨i + 1, rfl, by go_num, hlt, ?_, grown_trans HG.out HF.out HG9.out, fresh_trans HF.out HG.out.size HF9.out⟩
              rw [HAS.out, HKP.out, if_pos trivial]
              have h := HO9.out
              rw [← HM3.out, ← HME.out] at h
              simp only [List.append_assoc, List.cons_append, List.nil_append] at h ⊢
              exact h
        · have ei : i = (Ward.Nd.kids t).length := by omega
          subst ei
          rw [List.take_length] at HOI
          go_wp2
          go_ret
          refine ⟨_, rfl, ?_, grown_lift HB1.out HG.out, fresh_lift HB1.out.size HF.out⟩
          rw [HPR.out]
          exact HOI.out
end Go.Proofs.YtenaelkbgkpllaaGreatDoor
/- The library's contract of slices.SortFunc, laid at this program. -/
namespace Go.Proofs.YtenaelkbgkpllaaGreatDoor
open Go.Shelf
def Tryz.sortPt_ren : Go.Shelf.Ren := ⟨fun | 6 => 77 | 15 => 118 | 14 => 117 | 28 => 154 | 29 => 155 | 20 => 146 | 21 => 147 | 22 => 148 | 23 => 149 | 24 => 150 | 25 => 151 | 26 => 152 | 27 => 153 | 46 => 176 | 47 => 177 | 48 => 178 | 49 => 179 | 50 => 180 | 57 => 192 | n => n, fun | 22 => 27 | 24 => 36 | 25 => 83 | 3 => 3 | 39 => 123 | 0 => 0 | 53 => 63 | 55 => 142 | 4 => 4 | 46 => 212 | 45 => 211 | 50 => 81 | 5 => 5 | 9 => 9 | 66 => 243 | 70 => 247 | 76 => 255 | 77 => 256 | n => n, fun | n => n⟩
theorem Tryz.sortPt : Go.Proofs.SlLaysF0.n6 Tryz.prog Tryz.sortPt_ren := {
  mixed := by kernel_rfl
  f6 := ⟨Tryz.f77.name, by decide, Tryz.func77.trans (congrArg some (by kernel_rfl))⟩
  f14 := ⟨Tryz.f117.name, by decide, Tryz.func117.trans (congrArg some (by kernel_rfl))⟩
  f15 := Tryz.func118.trans (congrArg some (by kernel_rfl))
  f20 := ⟨Tryz.f146.name, by decide, Tryz.func146.trans (congrArg some (by kernel_rfl))⟩
  f21 := ⟨Tryz.f147.name, by decide, Tryz.func147.trans (congrArg some (by kernel_rfl))⟩
  f22 := ⟨Tryz.f148.name, by decide, Tryz.func148.trans (congrArg some (by kernel_rfl))⟩
  f23 := ⟨Tryz.f149.name, by decide, Tryz.func149.trans (congrArg some (by kernel_rfl))⟩
  f24 := ⟨Tryz.f150.name, by decide, Tryz.func150.trans (congrArg some (by kernel_rfl))⟩
  f25 := ⟨Tryz.f151.name, by decide, Tryz.func151.trans (congrArg some (by kernel_rfl))⟩
  f26 := ⟨Tryz.f152.name, by decide, Tryz.func152.trans (congrArg some (by kernel_rfl))⟩
  f27 := ⟨Tryz.f153.name, by decide, Tryz.func153.trans (congrArg some (by kernel_rfl))⟩
  f28 := Tryz.func154.trans (congrArg some (by kernel_rfl))
  f29 := Tryz.func155.trans (congrArg some (by kernel_rfl))
  f46 := ⟨Tryz.f176.name, by decide, Tryz.func176.trans (congrArg some (by kernel_rfl))⟩
  f47 := Tryz.func177.trans (congrArg some (by kernel_rfl))
  f48 := Tryz.func178.trans (congrArg some (by kernel_rfl))
  f49 := ⟨Tryz.f179.name, by decide, Tryz.func179.trans (congrArg some (by kernel_rfl))⟩
  f50 := ⟨Tryz.f180.name, by decide, Tryz.func180.trans (congrArg some (by kernel_rfl))⟩
  f57 := ⟨Tryz.f192.name, by decide, Tryz.func192.trans (congrArg some (by kernel_rfl))⟩
  t0 := Tryz.underlying0
  a0 := Tryz.isAgg0
  z0 := Tryz.sizeOf0
  v0 := Tryz.zeroValue0
  t3 := Tryz.underlying3
  a3 := Tryz.isAgg3
  z3 := Tryz.sizeOf3
  v3 := Tryz.zeroValue3
  t4 := Tryz.underlying4
  a4 := Tryz.isAgg4
  z4 := Tryz.sizeOf4
  v4 := Tryz.zeroValue4
  t5 := Tryz.underlying5
  a5 := Tryz.isAgg5
  z5 := Tryz.sizeOf5
  v5 := Tryz.zeroValue5
  t9 := Tryz.underlying9
  a9 := Tryz.isAgg9
  z9 := Tryz.sizeOf9
  v9 := Tryz.zeroValue9
  t22 := Tryz.underlying27
  a22 := Tryz.isAgg27
  z22 := Tryz.sizeOf27
  v22 := Tryz.zeroValue27
  t25 := Tryz.underlying83
  a25 := Tryz.isAgg83
  z25 := Tryz.sizeOf83
  v25 := Tryz.zeroValue83
  t39 := Tryz.underlying123
  a39 := Tryz.isAgg123
  z39 := Tryz.sizeOf123
  v39 := Tryz.zeroValue123
  t45 := Tryz.underlying211
  a45 := Tryz.isAgg211
  z45 := Tryz.sizeOf211
  v45 := Tryz.zeroValue211
  t46 := Tryz.underlying212
  a46 := Tryz.isAgg212
  z46 := Tryz.sizeOf212
  v46 := Tryz.zeroValue212
  t50 := Tryz.underlying81
  a50 := Tryz.isAgg81
  z50 := Tryz.sizeOf81
  v50 := Tryz.zeroValue81
  t53 := Tryz.underlying63
  a53 := Tryz.isAgg63
  z53 := Tryz.sizeOf63
  v53 := Tryz.zeroValue63
  t55 := Tryz.underlying142
  a55 := Tryz.isAgg142
  z55 := Tryz.sizeOf142
  v55 := Tryz.zeroValue142
  t66 := Tryz.underlying243
  a66 := Tryz.isAgg243
  z66 := Tryz.sizeOf243
  v66 := Tryz.zeroValue243
  t70 := Tryz.underlying247
  a70 := Tryz.isAgg247
  z70 := Tryz.sizeOf247
  v70 := Tryz.zeroValue247
  t76 := Tryz.underlying255
  a76 := Tryz.isAgg255
  z76 := Tryz.sizeOf255
  v76 := Tryz.zeroValue255
  t77 := Tryz.underlying256
  a77 := Tryz.isAgg256
  z77 := Tryz.sizeOf256
  v77 := Tryz.zeroValue256 }

end Go.Proofs.YtenaelkbgkpllaaGreatDoor
/- Points sorted. -/
namespace Go.Proofs.YtenaelkbgkpllaaGreatDoor
open Go.RowKit

instance : Inhabited Ward.Pt := ⟨⟨0, 0, 0⟩⟩
set_option maxHeartbeats 1000000 in
/-- how two points compare, with all that it lays -/
theorem compare_grow (p q : Ward.Pt) (w : World) :
    Calls Tryz.prog 35 #[.agg #[I p.id, I p.x, I p.y], .agg #[I q.id, I q.x, I q.y]] w fun e w' => e = .returned (I (cmpP p q)) ∧ ∃ n os, w' = Go.Sort.grow (w.drewN n) os := by
  obtain ⟨pi, px, py⟩ := p
  obtain ⟨qi, qx, qy⟩ := q
  have HE := hide (show cmpP ⟨pi, px, py⟩ ⟨qi, qx, qy⟩ = orI (cmpI px qx) (cmpI py qy) (cmpI pi qi) from rfl)
  go_enter Tryz.func35, Tryz.ntmps35
  go_wp2_with fail
  have hz1 := heap_alloc2_old w
  have hz2 := heap_alloc2_new w
  have hgr := fun o o' o'' => show (((w.alloc o).alloc o').alloc o'').drew = Go.Sort.grow (w.drewN 1) #[o, o', o''] by
    rw [Go.Sort.alloc_eq_grow, Go.Sort.alloc_eq_grow, Go.Sort.alloc_eq_grow, Go.Sort.grow_grow, Go.Sort.grow_grow]
    rfl
  generalize hW : World.alloc _ _ = w0
  have r1 : w0.heap[w.heap.size]? = some (.cells #[I pi, I px, I py] 36 (0, 0)) := by rw [← hW]; exact hz1 _ _
  have r2 : w0.heap[w.heap.size + 1]? = some (.cells #[I qi, I qx, I qy] 36 (0, 0)) := by rw [← hW]; exact hz2 _ _
  have hz0 : w0.heap.size = w.heap.size + 2 := by rw [← hW]; simp
  have HG := hide (show ∀ o, ∃ os, (w0.alloc o).drew = Go.Sort.grow (w.drewN 1) os from fun o => ⟨_, by rw [← hW]; exact hgr _ _ o⟩)
  clear hz1 hz2 hgr hW
  obtain ⟨c1, c2, c3⟩ := row3 r1
  obtain ⟨d1, d2, d3⟩ := row3 r2
  have hS : Two w.heap.size (w.heap.size + 1) ⟨pi, px, py⟩ ⟨qi, qx, qy⟩ w0 := ⟨⟨c1, c2, c3⟩, d1, d2, d3⟩
  have HZ := hide hz0
  have HN := hide (show ∀ o, ((w0.alloc o).drew).heap[w0.heap.size]? = some o from fun o => heap_alloc_new w0 o)
  clear r1 r2 c1 c2 c3 d1 d2 d3 hz0
  go_region_held3 (fun W => (W.cell? ⟨w.heap.size, 0, none⟩ = some (I pi) ∧ W.cell? ⟨w.heap.size, 1, none⟩ = some (I px) ∧ W.cell? ⟨w.heap.size, 2, none⟩ = some (I py)) ∧ W.cell? ⟨w.heap.size + 1, 0, none⟩ = some (I qi) ∧ W.cell? ⟨w.heap.size + 1, 1, none⟩ = some (I qx) ∧ W.cell? ⟨w.heap.size + 1, 2, none⟩ = some (I qy)) (first | assumption | exact hS | exact Two.below hS (((Below.refl _ _).alloc (Nat.le_refl _) _).drew) (by have := HZ.out; omega) (by have := HZ.out; omega)) (first | (go_at_call 67; refine (cmpInt_any _ _ _).mono ?_; rintro _ _ ⟨rfl, rfl⟩) | (go_at_call 66; refine (or_any _ (cmpI px qx) (cmpI py qy) (cmpI pi qi) _ (row3 (HN.out _)).1 (row3 (HN.out _)).2.1 (row3 (HN.out _)).2.2).mono ?_; rintro _ _ ⟨rfl, rfl⟩))
  go_wp2
  go_ret
  obtain ⟨os, hos⟩ := HG.out (.cells #[I (cmpI px qx), I (cmpI py qy), I (cmpI pi qi)] 3)
  exact ⟨by rw [HE.out]; rfl, 1, os, hos⟩
theorem ltP (p q : Ward.Pt) : ltOf cmpP p q = decide (Ward.lt p q) := by
  unfold ltOf
  rw [Bool.eq_iff_iff, decide_eq_true_eq, decide_eq_true_eq]
  exact cmpP_lt p q
theorem swoP : Go.Sort.SWO (ltOf cmpP) := by
  refine ⟨fun x => ?_, fun x y z h1 h2 => ?_, fun x y z h1 h2 => ?_⟩
  · rw [ltP]; exact decide_eq_false (Ward.lt_irrefl x)
  · rw [ltP, decide_eq_true_eq] at *
    exact Ward.lt_trans h1 h2
  · rw [ltP, decide_eq_false_iff_not] at *
    unfold Ward.lt at *
    omega
theorem flatK_get (L : List Ward.Pt) : ∀ t, t < L.length * 3 → (L.flatMap P3)[t]? = some ((P3 (L.toArray[t / 3]!))[t % 3]!) := by
  intro t ht
  have hi : t / 3 < L.length := by omega
  obtain ⟨h0, h1, h2⟩ := P3_at L (t / 3) hi
  have e : L.toArray[t / 3]! = L[t / 3] := by
    rw [getElem!_pos L.toArray (t / 3) (by simpa using hi)]
    exact List.getElem_toArray _
  rw [e]
  have hm : t = t / 3 * 3 + t % 3 := by omega
  have hlt : t % 3 < 3 := Nat.mod_lt _ (by decide)
  rcases (show t % 3 = 0 ∨ t % 3 = 1 ∨ t % 3 = 2 by omega) with h | h | h
  · rw [h]; rw [h, Nat.add_zero] at hm; exact (congrArg (fun k => (L.flatMap P3)[k]?) hm).trans h0
  · rw [h]; rw [h] at hm; exact (congrArg (fun k => (L.flatMap P3)[k]?) hm).trans h1
  · rw [h]; rw [h] at hm; exact (congrArg (fun k => (L.flatMap P3)[k]?) hm).trans h2
theorem flatK_eq (L : List Ward.Pt) : Go.Sort.flatK P3 3 L.toArray = (L.flatMap P3).toArray := by
  have hs : (Go.Sort.flatK P3 3 L.toArray).size = (L.flatMap P3).toArray.size := by rw [Go.Sort.size_flatK, List.size_toArray, List.size_toArray, cells_len]
  refine Array.ext hs fun t h1 h2 => ?_
  have ht : t < L.length * 3 := by rw [Go.Sort.size_flatK, List.size_toArray] at h1; exact h1
  have hg := Go.Sort.get_flatK P3 3 L.toArray t (by rw [List.size_toArray]; exact ht)
  rw [getElem!_pos _ t h1] at hg
  rw [hg, List.getElem_toArray]
  have h := flatK_get L t ht
  rw [List.getElem?_eq_getElem (by rw [cells_len]; exact ht)] at h
  injection h with h
  exact h.symm
theorem own_holds {w : World} {B g c : Nat} {L : List Ward.Pt} (h : Own w B (.slice (some ⟨g, 0, none⟩) L.length c) L) : Go.Sort.HoldsK P3 3 w g 0 L.toArray := by
  unfold Go.Sort.HoldsK
  rw [flatK_eq]
  rcases h.2 with ⟨e, _⟩ | ⟨g', cap, cur, e, hB, hg, hcap, hmax, hcs, htake⟩
  · cases e
  · injection e with e1 e2 e3
    injection e1 with e1
    injection e1 with e1
    subst e1
    intro j hj
    rw [List.size_toArray] at hj
    refine ⟨?_, frozen_of_row _ _ _ _ _ hg⟩
    rw [cell_of_row _ _ _ _ _ _ hg, Nat.zero_add]
    have hj' : j < L.length * 3 := by rw [cells_len] at hj; exact hj
    have ht : (cur.toList.take (L.length * 3))[j]? = (L.flatMap P3)[j]? := by rw [htake]
    rw [List.getElem?_take, if_pos hj'] at ht
    rw [← Array.getElem?_toList, ht, List.getElem?_eq_getElem hj, getElem!_pos _ j (by simpa using hj)]
    simp
end Go.Proofs.YtenaelkbgkpllaaGreatDoor
/- Points sorted: the call. -/
namespace Go.Proofs.YtenaelkbgkpllaaGreatDoor
open Go.RowKit

theorem heap_mapBlock {w : World} {g : Nat} {f : Array Value → Array Value} {c : Array Value} {e : TypeId} {fr : Nat × Nat} (h : w.heap[g]? = some (.cells c e fr)) : (Go.Sort.mapBlock w g f).heap[g]? = some (.cells (f c) e fr) := by
  show (w.heap.modify g (Go.Sort.onCells f))[g]? = _
  rw [Array.getElem?_modify, if_pos rfl, h]
  rfl
theorem heap_mapBlock_other {w : World} {g k : Nat} {f : Array Value → Array Value} (h : g ≠ k) : (Go.Sort.mapBlock w g f).heap[k]? = w.heap[k]? := by
  show (w.heap.modify g (Go.Sort.onCells f))[k]? = _
  rw [Array.getElem?_modify, if_neg h]
theorem putCells_size (F cur : Array Value) : (Go.Sort.putCells id 0 F cur).size = cur.size := by
  unfold Go.Sort.putCells
  exact Array.size_mapIdx
theorem putCells_take (F : List Value) (cur : Array Value) (h : F.length ≤ cur.size) : (Go.Sort.putCells id 0 F.toArray cur).toList.take F.length = F := by
  apply List.ext_getElem?
  intro k
  rw [List.getElem?_take]
  by_cases hk : k < F.length
  · rw [if_pos hk, Array.getElem?_toList]
    unfold Go.Sort.putCells
    rw [Array.getElem?_mapIdx, Array.getElem?_eq_getElem (by omega), Option.map_some, if_pos (by rw [List.size_toArray]; omega), List.getElem?_eq_getElem hk, Nat.sub_zero, getElem!_pos _ k (by simpa using hk), List.getElem_toArray]
    rfl
  · rw [if_neg hk, List.getElem?_eq_none (by omega)]
theorem perm_of_in {d d' : Array Ward.Pt} (h : Go.Sort.PermIn 0 d.size d d') : d'.toList.Perm d.toList := by
  obtain ⟨h1, -, h3⟩ := h
  have e1 : d'.extract 0 d.size = d' := by rw [← h1]; exact Array.extract_size
  have e2 : d.extract 0 d.size = d := Array.extract_size
  rw [e1, e2] at h3
  exact h3
theorem sorted_of_in {d : Array Ward.Pt} (h : Go.Sort.SortedIn (ltOf cmpP) 0 d.size d) (hi : Ward.Ids d.toList) : Ward.Sorted d.toList := by
  refine List.pairwise_iff_getElem.2 fun i j hi' hj hij => ?_
  have hj' : j < d.size := by simpa using hj
  have h1 := h i j (Nat.zero_le _) hij hj'
  rw [ltP, decide_eq_false_iff_not, getElem!_pos d j hj', getElem!_pos d i (by omega)] at h1
  have hne := List.pairwise_iff_getElem.1 hi i j hi' hj hij
  simp only [Array.getElem_toList] at hne ⊢
  exact Ward.lt_tot (Ne.symm hne) h1
theorem sort_own {w : World} {B g c n : Nat} {L : List Ward.Pt} {d' : Array Ward.Pt} {os : Array Obj} (h : Own w B (.slice (some ⟨g, 0, none⟩) L.length c) L) (hs : d'.size = L.length) :
    Own (sortWorldK P3 3 w g 0 n d' os) B (.slice (some ⟨g, 0, none⟩) L.length c) d'.toList ∧ w.grownBy (sortWorldK P3 3 w g 0 n d' os) (some g) := by
  have hlt : g < w.heap.size := h.lt rfl
  have hl : d'.toList.length = L.length := by simpa using hs
  rcases h.2 with ⟨e, _⟩ | ⟨g', cap, cur, e, hB, hg, hcap, hmax, hcs, htake⟩
  · cases e
  · injection e with e1 e2 e3
    injection e1 with e1
    injection e1 with e1
    subst e1 e3
    have hr : (sortWorldK P3 3 w g 0 n d' os).heap[g]? = some (.cells (Go.Sort.putCells id 0 (Go.Sort.flatK P3 3 d') cur) 36 (0, 0)) := by
      unfold sortWorldK
      rw [Go.Sort.heap_grow_old _ _ (by rw [Go.Sort.size_putRowK]; exact hlt)]
      exact heap_mapBlock (w := Go.Sort.ahead w n) hg
    have hf : Go.Sort.flatK P3 3 d' = (d'.toList.flatMap P3).toArray := by
      have := flatK_eq d'.toList
      rw [Array.toArray_toList] at this
      exact this
    refine ⟨⟨by rw [cells_len], .inr ⟨g, c, _, by rw [hl], hB, hr, by rw [hl]; exact hcap, hmax, by rw [putCells_size]; exact hcs, ?_⟩⟩, ⟨rfl, rfl, rfl, ?_, fun k hk hne => ?_⟩⟩
    · rw [hf]
      have h2 := putCells_take (d'.toList.flatMap P3) cur (by rw [cells_len, hl, hcs]; exact Nat.mul_le_mul_right _ hcap)
      rw [cells_len] at h2
      exact h2
    · unfold sortWorldK
      rw [Go.Sort.size_grow, Go.Sort.size_putRowK]
      exact Nat.le_add_right _ _
    · unfold sortWorldK
      rw [Go.Sort.heap_grow_old _ _ (by rw [Go.Sort.size_putRowK]; exact hk)]
      exact heap_mapBlock_other (w := Go.Sort.ahead w n) (fun e => hne (by rw [e]))
/-- the points of a row, put in order -/
theorem sort_any (v : Value) (l : List Ward.Pt) (w : World) (B : Nat) (hown : Own w B v l) (hl : l.length ≤ 100000) (hi : Ward.Ids l) :
    Calls Tryz.prog 77 #[v, .func (.func 35) #[] #[]] w fun e w' => e = .returned (.tuple #[]) ∧ Own w' B v (Ward.sortP l) ∧ w.grownBy w' v.ownBlock := by
  rcases hown.2 with ⟨rfl, h0⟩ | ⟨g, cap, cur, rfl, _⟩
  · have hn : l = [] := List.length_eq_zero_iff.1 h0
    subst hn
    refine (AnyF.slices_SortFunc_none Tryz.sortPt none 0 (.func (.func 35) #[] #[]) w).mono ?_
    rintro _ _ ⟨rfl, rfl⟩
    exact ⟨rfl, World.ownsRow_nil _ _ _ _, grown_of_below (Below.refl _ _)⟩
  · have eg : ∀ args w, (callFunc 35 args).run Tryz.prog w = .ok (.enter 35 args) w := enters_of Tryz.func35 (by kernel_rfl) rfl
    have hcon := AnyQ.slices_SortFunc Tryz.sortPt 3 Tryz.isAgg36 Tryz.sizeOf36 P3 (fun _ => rfl) (fun x v hv => cells_one (L := [x]) v (by simpa using hv)) cmpP swoP 35 #[] g 0 cap l.toArray w eg (fun _ _ _ _ x y => compare_grow x y _) (own_holds hown) (hown.lt rfl) (by rw [List.size_toArray]; omega)
    rw [List.size_toArray] at hcon
    refine Calls.mono hcon ?_
    rintro _ _ ⟨rfl, d', n, os, hp, hs, rfl⟩
    have hsz : d'.size = l.length := by have := hp.1; rw [List.size_toArray] at this; exact this
    have hp' : d'.toList.Perm l := by
      have := perm_of_in (d := l.toArray) (by rw [List.size_toArray]; exact hp)
      simpa using this
    have hids : Ward.Ids d'.toList := (Ward.ids_perm hp').2 hi
    have e : Ward.sortP l = d'.toList := Ward.sortP_eq (sorted_of_in (by rw [hsz]; exact hs) hids) hp' hi
    obtain ⟨h1, h2⟩ := sort_own (n := n) (os := os) hown hsz
    rw [e]
    exact ⟨rfl, h1, h2⟩
end Go.Proofs.YtenaelkbgkpllaaGreatDoor
/- The answer to a window. -/
namespace Go.Proofs.YtenaelkbgkpllaaGreatDoor
open Go.RowKit

attribute [local go_sem ↓] Go.wp_at_zero Go.wp_at_succ wp_load_node
set_option maxRecDepth 100000 in
set_option maxHeartbeats 4000000 in
theorem answer_window (q : Ward.Qr) (n : Nat) (t : Ward.NT n) (V : List Value) (w : World) (hk : q.kind = 0) (hlen : (Ward.allN n t).length ≤ 1000) (hfew : Ward.Few n t) (hN : NodeIs w (fun g => g < w.heap.size) n t V) (hids : Ward.Ids (Ward.withinN (Ward.window q) n t)) :
    Calls Tryz.prog 40 #[.agg V.toArray, Qv q] w fun e w' => ∃ v, e = .returned v ∧ Own w' w.heap.size v (Ward.sortP (Ward.withinN (Ward.window q) n t)) ∧ Below w.heap.size w w' := by
  have HWI := hide (fun W => windowOf_any q W)
  have HWL := hide (Ward.within_le (Ward.window q) n t)
  generalize Ward.window q = wq at *
  obtain ⟨fs, hu⟩ := underNode
  have HU := hide hu
  obtain ⟨a1, l1, c1, a2, l2, c2, hV, hd⟩ := hN.cells
  have HR := hide (show Row39 V by rw [hV]; exact nodeV_row hd)
  have HN := hide hN
  have HF := hide hfew
  have HI := hide hids
  clear hu hV hd hN hfew hids
  obtain ⟨qk, qa, qb, qc, qd, qx, qy, qn⟩ := q
  simp only at hk
  subst hk
  have hb2 := fun o o' => ((Below.refl w.heap.size w).alloc (Nat.le_refl _) o).alloc (by simp) o'
  have hr2 := heap_alloc2_new w
  have hr1 := heap_alloc2_old w
  have hs2 := fun o o' => show ((w.alloc o).alloc o').heap.size = w.heap.size + 2 by simp
  go_enter Tryz.func40, Tryz.ntmps40
  go_upto_region 3 with fail
  generalize hW : World.alloc (World.alloc w _) _ = w1
  have hb1 : Below w.heap.size w w1 := by rw [← hW]; exact hb2 _ _
  have hn1 : w1.heap[w.heap.size]? = some (.cells V.toArray 90 (0, 0)) := by rw [← hW]; exact hr1 _ _
  have hq1 : w1.heap[w.heap.size + 1]? = some (.cells #[I 0, I qa, I qb, I qc, I qd, I qx, I qy, I qn] 46 (0, 0)) := by rw [← hW]; exact hr2 _ _
  have hs1 : w.heap.size + 2 ≤ w1.heap.size := by rw [← hW, hs2]; exact Nat.le_refl _
  clear hb2 hr1 hr2 hs2 hW
  have HB1 := hide hb1
  have HN1 := hide hn1
  obtain ⟨k0, k1, k2, k3, k4, k5, k6, k7⟩ := rowQ8 hq1
  clear hb1 hn1 hq1
  have HAW := hide (fun (W : World) (hb : Below w.heap.size w W) => appendWithin_any n t (.slice none 0 0) [] V wq W w.heap.size (fun g => g < w.heap.size) (fun _ h => h) hb.size (by simpa using hlen) HF.out (NodeIs.keep (below_same hb (fun _ h => h)) (fun _ h => h) n t V HN.out) (World.ownsRow_nil _ _ _ _))
  have hnr1 : NodeRow w1.drew (.pointer (some ⟨w.heap.size, 0, none⟩)) := nodeRow_of (w := w1.drew) HN1.out HR.out.size
  have hlv1 : loadVal w1.drew (.pointer (some ⟨w.heap.size, 0, none⟩)) = .agg V.toArray := loadVal_row (w := w1.drew) HN1.out
  go_region_with (first | (go_at_call 73; go_must (refine (HWI.out w1.drew).mono ?_; rintro _ w6 ⟨rfl, hb6⟩; have hs6 := hb6.size; have HN6 := hide ((hb6.block w.heap.size (by simp; omega)).trans (show w1.drew.heap[w.heap.size]? = _ from HN1.out)); have hnr6 := nodeRow_of HN6.out HR.out.size; have hlv6 := loadVal_row HN6.out; have HB6 := hide hb6; have HBW := hide (show Below w.heap.size w w6 from HB1.out.drew.trans (hb6.mono (by simp; omega))); clear hb6)) | (go_at_call 76; go_must (refine (HAW.out w6 HBW.out).mono ?_; rintro _ w7 ⟨v7, rfl, ho7, hg7, hf7⟩; have HO7 := hide ho7; have HG7 := hide hg7; clear ho7 hg7 hf7)))
  all_goals
    rw [List.nil_append] at HO7
    have HSO := hide (sort_any v7 _ w7 w.heap.size HO7.out (by have := HWL.out; omega) HI.out)
    go_wp2_with fail
    refine HSO.out.mono ?_
    rintro _ w8 ⟨rfl, ho8, hg8⟩
    have HO8 := hide ho8
    have HB8 := hide (show Below w.heap.size w w8 from (HBW.out.trans ⟨HG7.out.os, HG7.out.tape, HG7.out.output, HG7.out.size, fun j hj => HG7.out.block j (Nat.lt_of_lt_of_le hj HBW.out.size) (by simp [Value.ownBlock])⟩).trans ⟨hg8.os, hg8.tape, hg8.output, hg8.size, fun j hj => hg8.block j (Nat.lt_of_lt_of_le hj (Nat.le_trans HBW.out.size HG7.out.size)) (fun e => by have := HO7.out.ge e.symm; omega)⟩)
    clear ho8 hg8 HSO
    go_wp2
    go_ret
    exact ⟨_, rfl, HO8.out, HB8.out⟩
end Go.Proofs.YtenaelkbgkpllaaGreatDoor
/- What a proof taken apart is, and that each text has one. -/
namespace Go.Proofs.YtenaelkbgkpllaaGreatDoor
namespace Ward
/-- the text of what is shown below a node -/
def textS : (n : Nat) → NT n → List UInt8
  | 0, t => nomatch t
  | n + 1, t => if (Nd.kids t).length = 0 then leafText (Nd.pts t) else 2 :: UInt8.ofNat (Nd.kids t).length :: (Nd.kids t).flatMap fun c => saidN n c ++ (if shownN n c = true then 1 :: textS n c else [0])
def kidText (n : Nat) (c : NT n) : List UInt8 := saidN n c ++ (if shownN n c = true then 1 :: textS n c else [0])
theorem textS_kids (n : Nat) (t : NT (n + 1)) (h : 0 < (Nd.kids t).length) : textS (n + 1) t = 2 :: UInt8.ofNat (Nd.kids t).length :: (Nd.kids t).flatMap (kidText n) := by
  rw [textS, if_neg (by omega)]; rfl
theorem textS_leaf (n : Nat) (t : NT (n + 1)) (h : (Nd.kids t).length = 0) : textS (n + 1) t = leafText (Nd.pts t) := by rw [textS, if_pos h]
/-- a tree that a proof may show, so deep; of a child: what is said of it -/
def FormN : (d : Nat) → Bool → NT (d + 1) → Prop
  | 0, _, _ => False
  | d + 1, root, t => (Nd.kids t = [] ∧ (Nd.pts t).length ≤ 4 ∧ (root = true ∨ 0 < (Nd.pts t).length) ∧ Each Pt.Ok (Nd.pts t)) ∨
      (Nd.pts t = [] ∧ 0 < (Nd.kids t).length ∧ (Nd.kids t).length ≤ 4 ∧ Each (fun c : NT (d + 1) => (boxMay (Nd.box c) = true ∧ 1 ≤ Nd.n c ∧ Nd.n c ≤ 150 ∧ (Nd.dig c).length = 32) ∧ ((Nd.pts c = [] ∧ Nd.kids c = []) ∨ FormN d false c)) (Nd.kids t))
def KidForm (d : Nat) (c : NT (d + 1)) : Prop := (boxMay (Nd.box c) = true ∧ 1 ≤ Nd.n c ∧ Nd.n c ≤ 150 ∧ (Nd.dig c).length = 32) ∧ ((Nd.pts c = [] ∧ Nd.kids c = []) ∨ FormN d false c)
def idsN (n : Nat) (t : NT n) : List Int := (allN n t).map Pt.id
/-- ids that were read behind others -/
def Reads2 (ids : List Int) (s s' : List Int) : Prop := s' = ids.reverse ++ s ∧ ids.Nodup ∧ ∀ i ∈ ids, i ∉ s
theorem reads_nil (s : List Int) : Reads2 [] s s := ⟨rfl, List.nodup_nil, fun _ h => by simp at h⟩
theorem reads_app {a b s s' s'' : List Int} (h : Reads2 a s s') (k : Reads2 b s' s'') : Reads2 (a ++ b) s s'' := by
  obtain ⟨rfl, h2, h3⟩ := h
  obtain ⟨rfl, k2, k3⟩ := k
  refine ⟨by simp, List.nodup_append.2 ⟨h2, k2, fun x hx y hy e => ?_⟩, fun i hi => ?_⟩
  · subst e; exact k3 x hy (by simp [hx])
  · rcases List.mem_append.1 hi with hi | hi
    · exact h3 i hi
    · exact fun hs => k3 i hi (by simp [hs])
theorem reads_of {a b s s'' : List Int} (h : Reads2 (a ++ b) s s'') : Reads2 a s (a.reverse ++ s) ∧ Reads2 b (a.reverse ++ s) s'' := by
  obtain ⟨rfl, h2, h3⟩ := h
  obtain ⟨n1, n2, n3⟩ := List.nodup_append.1 h2
  refine ⟨⟨rfl, n1, fun i hi => h3 i (by simp [hi])⟩, ⟨by simp, n2, fun i hi hs => ?_⟩⟩
  rcases List.mem_append.1 hs with hs | hs
  · exact n3 i (by simpa using hs) i hi rfl
  · exact h3 i (by simp [hi]) hs
theorem idOk_iff (n : Int) : idOk n = true ↔ 1 ≤ n ∧ n ≤ 1000000 := by simp [idOk]
theorem coordOk_iff (n : Int) : coordOk n = true ↔ -1000000 ≤ n ∧ n ≤ 1000000 := by simp [coordOk]
theorem ok_of {p : Pt} (h1 : idOk p.id = true) (h2 : coordOk p.x = true) (h3 : coordOk p.y = true) : p.Ok := by
  rw [idOk_iff] at h1
  rw [coordOk_iff] at h2 h3
  exact ⟨h1.1, h1.2, h2.1, h2.2, h3.1, h3.2⟩
theorem take_three {l : List UInt8} (h : 12 ≤ l.length) : l = (fourI (numAt l 0) ++ fourI (numAt l 1) ++ fourI (numAt l 2)) ++ l.drop 12 := by
  rw [fourI_at (by omega), fourI_at (by omega), fourI_at (by omega)]
  match l, h with
  | a :: b :: c :: d :: e :: f :: g :: h :: i :: j :: k :: m :: l, _ => rfl
theorem rdPt_sound {s s' : Sta} {p : Pt} (h : rdPt s = some (p, s')) : p.Ok ∧ s.1 = ptText p ++ s'.1 ∧ Reads2 [p.id] s.2 s'.2 := by
  unfold rdPt at h
  by_cases hl : s.1.length < 12
  · rw [if_pos hl] at h; cases h
  · rw [if_neg hl] at h
    simp only at h
    split at h
    · rename_i hc
      simp only [Bool.and_eq_true, Bool.not_eq_true', List.contains_eq_mem, decide_eq_false_iff_not] at hc
      obtain ⟨⟨⟨h1, h2⟩, h3⟩, h4⟩ := hc
      cases h
      exact ⟨ok_of h1 h3 h4, take_three (by omega), ⟨rfl, by simp, fun i hi => by rw [List.mem_singleton.1 hi]; exact h2⟩⟩
    · cases h
theorem rdPt_full {p : Pt} {rest : List UInt8} {ids ids' : List Int} (hp : p.Ok) (h : Reads2 [p.id] ids ids') : rdPt (ptText p ++ rest, ids) = some (p, (rest, ids')) := by
  obtain ⟨rfl, -, h3⟩ := h
  have hlen : ¬ (ptText p ++ rest).length < 12 := by rw [List.length_append, ptText_len]; omega
  have e0 : numAt (ptText p ++ rest) 0 = p.id := by
    show numAt ((fourI p.id ++ fourI p.x ++ fourI p.y) ++ rest) 0 = _
    rw [List.append_assoc, List.append_assoc, numAt_zero _ (by have := hp.id1; omega) hp.id2]
  have e1 : numAt (ptText p ++ rest) 1 = p.x := by
    show numAt ((fourI p.id ++ fourI p.x ++ fourI p.y) ++ rest) (0 + 1) = _
    rw [List.append_assoc, List.append_assoc, numAt_succ, numAt_zero _ hp.x1 hp.x2]
  have e2 : numAt (ptText p ++ rest) 2 = p.y := by
    show numAt ((fourI p.id ++ fourI p.x ++ fourI p.y) ++ rest) (0 + 1 + 1) = _
    rw [List.append_assoc, List.append_assoc, numAt_succ, numAt_succ, numAt_zero _ hp.y1 hp.y2]
  unfold rdPt
  simp only
  rw [if_neg hlen, e0, e1, e2, if_pos (by
    simp only [Bool.and_eq_true, Bool.not_eq_true', List.contains_eq_mem, decide_eq_false_iff_not]
    exact ⟨⟨⟨(idOk_iff _).2 ⟨hp.id1, hp.id2⟩, h3 p.id (by simp)⟩, (coordOk_iff _).2 ⟨hp.x1, hp.x2⟩⟩, (coordOk_iff _).2 ⟨hp.y1, hp.y2⟩⟩)]
  rfl
section
variable {α : Type} {rd : Sta → Option (α × Sta)} {P : α → Prop} {tx : α → List UInt8} {ids : α → List Int}
theorem rdMany_sound (hrd : ∀ s x s', rd s = some (x, s') → P x ∧ s.1 = tx x ++ s'.1 ∧ Reads2 (ids x) s.2 s'.2) : ∀ (k : Nat) (s : Sta) (l : List α) (s' : Sta), rdMany rd k s = some (l, s') → l.length = k ∧ Each P l ∧ s.1 = l.flatMap tx ++ s'.1 ∧ Reads2 (l.flatMap ids) s.2 s'.2
  | 0, s, l, s', h => by
    cases h
    exact ⟨rfl, fun _ h => by simp at h, rfl, reads_nil _⟩
  | k + 1, s, l, s', h => by
    unfold rdMany at h
    cases hx : rd s with
    | none => rw [hx] at h; cases h
    | some xs =>
      obtain ⟨x, s1⟩ := xs
      rw [hx] at h
      simp only at h
      cases hm : rdMany rd k s1 with
      | none => rw [hm] at h; cases h
      | some ls =>
        obtain ⟨m, s2⟩ := ls
        rw [hm] at h
        cases h
        obtain ⟨p1, p2, p3⟩ := hrd s x s1 hx
        obtain ⟨q1, q2, q3, q4⟩ := rdMany_sound hrd k s1 m s' hm
        refine ⟨by simp [q1], fun y hy => ?_, ?_, ?_⟩
        · rcases List.mem_cons.1 hy with rfl | hy
          · exact p1
          · exact q2 y hy
        · rw [p2, q3, List.flatMap_cons, List.append_assoc]
        · rw [List.flatMap_cons]; exact reads_app p3 q4
theorem rdMany_full (hrd : ∀ x rest i i', P x → Reads2 (ids x) i i' → rd (tx x ++ rest, i) = some (x, (rest, i'))) : ∀ (l : List α) (rest : List UInt8) (i i' : List Int), Each P l → Reads2 (l.flatMap ids) i i' → rdMany rd l.length (l.flatMap tx ++ rest, i) = some (l, (rest, i'))
  | [], rest, i, i', _, h => by
    obtain ⟨rfl, -, -⟩ := h
    rfl
  | x :: l, rest, i, i', hP, h => by
    rw [List.flatMap_cons] at h
    obtain ⟨h1, h2⟩ := reads_of h
    have e1 := hrd x (l.flatMap tx ++ rest) i _ (hP x (by simp)) h1
    have e2 := rdMany_full hrd l rest _ i' (fun y hy => hP y (by simp [hy])) h2
    rw [List.flatMap_cons, List.append_assoc, List.length_cons]
    unfold rdMany
    rw [e1]
    simp only
    rw [e2]
end
theorem head_text {l : List UInt8} (n : Nat) (h : 53 ≤ l.length) : saidN (n + 1) (headN n l) = l.take 52 ∧ (Nd.dig (headN n l)).length = 32 := by
  have e : saidN (n + 1) (headN n l) = ((fourI (numAt l 0) ++ fourI (numAt l 1) ++ fourI (numAt l 2) ++ fourI (numAt l 3)) ++ fourI (numAt l 4)) ++ (l.drop 20).take 32 := rfl
  refine ⟨?_, ?_⟩
  · rw [e, fourI_at (by omega), fourI_at (by omega), fourI_at (by omega), fourI_at (by omega), fourI_at (by omega)]
    rw [show 52 = 4 * 0 + 4 + 4 + 4 + 4 + 4 + 32 from rfl, List.take_add, List.take_add, List.take_add, List.take_add, List.take_add]
    rfl
  · show ((l.drop 20).take 32).length = 32
    rw [List.length_take, List.length_drop]; omega
theorem shown_no {n : Nat} {c : NT (n + 1)} (h1 : Nd.pts c = []) (h2 : Nd.kids c = []) : shownN (n + 1) c = false := by simp [shownN, h1, h2]
theorem form_shown {d : Nat} {c : NT (d + 1)} (h : FormN d false c) : shownN (d + 1) c = true := by
  cases d with
  | zero => exact absurd h (fun h => h)
  | succ d =>
    rcases h with ⟨_, _, h3, _⟩ | ⟨_, h2, _, _⟩
    · rcases h3 with h3 | h3
      · cases h3
      · simp only [shownN, decide_eq_true_eq]; omega
    · simp only [shownN, decide_eq_true_eq]; omega
end Ward
end Go.Proofs.YtenaelkbgkpllaaGreatDoor
/- A proof taken apart: sound and whole. -/
namespace Go.Proofs.YtenaelkbgkpllaaGreatDoor
namespace Ward
/-- nothing is said of it yet -/
def Bare (n : Nat) (t : NT (n + 1)) : Prop := Nd.box t = ⟨0, 0, 0, 0⟩ ∧ Nd.n t = 0 ∧ Nd.dig t = List.replicate 32 0
theorem nd_ext {α : Type} {a b : Nd α} (h1 : a.pts = b.pts) (h2 : a.kids = b.kids) (h3 : a.box = b.box) (h4 : a.n = b.n) (h5 : a.dig = b.dig) : a = b := by
  cases a
  cases b
  simp only at *
  subst h1 h2 h3 h4 h5
  rfl
theorem may_in {b : Box} (h : boxMay b = true) : b.In ∧ b.a ≤ b.c ∧ b.b ≤ b.d := by
  simp only [boxMay, Bool.and_eq_true, coordOk_iff, decide_eq_true_eq] at h
  obtain ⟨⟨⟨⟨⟨h1, h2⟩, h3⟩, h4⟩, h5⟩, h6⟩ := h
  exact ⟨⟨h1.1, h1.2, h2.1, h2.2, h3.1, h3.2, h4.1, h4.2⟩, h5, h6⟩
theorem said_of {n : Nat} {b c : NT (n + 1)} (h3 : Nd.box b = Nd.box c) (h4 : Nd.n b = Nd.n c) (h5 : Nd.dig b = Nd.dig c) : saidN (n + 1) b = saidN (n + 1) c := by
  show boxText (Nd.box b) ++ fourI (Nd.n b) ++ Nd.dig b = boxText (Nd.box c) ++ fourI (Nd.n c) ++ Nd.dig c
  rw [h3, h4, h5]
theorem text_of {n : Nat} {b c : NT (n + 1)} (h1 : Nd.pts b = Nd.pts c) (h2 : Nd.kids b = Nd.kids c) : textS (n + 1) b = textS (n + 1) c := by
  show (if (Nd.kids b).length = 0 then leafText (Nd.pts b) else _) = (if (Nd.kids c).length = 0 then leafText (Nd.pts c) else _)
  rw [h1, h2]
theorem all_of {n : Nat} {b c : NT (n + 1)} (h1 : Nd.pts b = Nd.pts c) (h2 : Nd.kids b = Nd.kids c) : allN (n + 1) b = allN (n + 1) c := by
  show Nd.pts b ++ (Nd.kids b).flatMap (allN n) = Nd.pts c ++ (Nd.kids c).flatMap (allN n)
  rw [h1, h2]
theorem form_of {d : Nat} {r : Bool} {b c : NT (d + 1)} (h1 : Nd.pts b = Nd.pts c) (h2 : Nd.kids b = Nd.kids c) (h : FormN d r b) : FormN d r c := by
  cases d with
  | zero => exact h
  | succ d =>
    unfold FormN at h ⊢
    rw [h1, h2] at h
    exact h
theorem shown_of {n : Nat} {b c : NT (n + 1)} (h1 : Nd.pts b = Nd.pts c) (h2 : Nd.kids b = Nd.kids c) : shownN (n + 1) b = shownN (n + 1) c := by
  show decide (0 < (Nd.pts b).length + (Nd.kids b).length) = decide (0 < (Nd.pts c).length + (Nd.kids c).length)
  rw [h1, h2]
theorem ids_all (n : Nat) (t : NT (n + 1)) (h : Nd.pts t = []) : idsN (n + 1) t = (Nd.kids t).flatMap (idsN n) := by
  show (Nd.pts t ++ (Nd.kids t).flatMap (allN n)).map Pt.id = _
  rw [h, List.nil_append, List.map_flatMap]
  rfl
theorem split53 {l : List UInt8} (h : 53 ≤ l.length) : l = l.take 52 ++ l.getD 52 0 :: l.drop 53 := by
  have h2 : l.drop 52 = l.getD 52 0 :: l.drop 53 := by
    rw [List.drop_eq_getElem_cons (by omega), List.getD_eq_getElem?_getD, List.getElem?_eq_getElem (by omega)]
    rfl
  rw [← h2, List.take_append_drop]
theorem rdKid_sound {d : Nat} {below : Sta → Option (NT (d + 1) × Sta)} (hb : ∀ s t s', below s = some (t, s') → FormN d false t ∧ s.1 = textS (d + 1) t ++ s'.1 ∧ Reads2 (idsN (d + 1) t) s.2 s'.2)
    (s : Sta) (c : NT (d + 1)) (s' : Sta) (h : rdKid d below s = some (c, s')) : KidForm d c ∧ s.1 = kidText (d + 1) c ++ s'.1 ∧ Reads2 (idsN (d + 1) c) s.2 s'.2 := by
  unfold rdKid at h
  by_cases hl : s.1.length < 53
  · rw [if_pos hl] at h; cases h
  · rw [if_neg hl] at h
    obtain ⟨ht, hd⟩ := head_text (l := s.1) d (by omega)
    have h53 := split53 (l := s.1) (by omega)
    simp only at h
    generalize hH : headN d s.1 = H at *
    have hp : Nd.pts H = [] := by rw [← hH]; rfl
    have hk : Nd.kids H = [] := by rw [← hH]; rfl
    split at h
    · rename_i hc
      simp only [Bool.and_eq_true, decide_eq_true_eq] at hc
      obtain ⟨⟨h1, h2⟩, h3⟩ := hc
      split at h
      · rename_i h0
        cases h
        refine ⟨⟨⟨h1, h2, h3, hd⟩, .inl ⟨hp, hk⟩⟩, ?_, ?_⟩
        · show s.1 = (saidN (d + 1) c ++ (if shownN (d + 1) c = true then _ else [0])) ++ s.1.drop 53
          rw [if_neg (by rw [shown_no hp hk]; simp), ht, List.append_assoc]
          rw [h0] at h53
          exact h53
        · have : idsN (d + 1) c = [] := by
            show (Nd.pts c ++ (Nd.kids c).flatMap (allN d)).map Pt.id = []
            rw [hp, hk]; rfl
          rw [this]
          exact reads_nil _
      · split at h
        · rename_i h1'
          cases hbe : below (s.1.drop 53, s.2) with
          | none => rw [hbe] at h; cases h
          | some bs =>
            obtain ⟨b, s1⟩ := bs
            rw [hbe] at h
            cases h
            obtain ⟨b1, b2, b3⟩ := hb _ _ _ hbe
            refine ⟨⟨⟨h1, h2, h3, hd⟩, .inr (form_of (b := b) rfl rfl b1)⟩, ?_, ?_⟩
            · have e1 : shownN (d + 1) { H with pts := Nd.pts b, kids := Nd.kids b } = true := by
                rw [shown_of (b := { H with pts := Nd.pts b, kids := Nd.kids b }) (c := b) rfl rfl]
                exact form_shown b1
              have e2 : textS (d + 1) { H with pts := Nd.pts b, kids := Nd.kids b } = textS (d + 1) b := text_of rfl rfl
              have e3 : saidN (d + 1) { H with pts := Nd.pts b, kids := Nd.kids b } = saidN (d + 1) H := said_of rfl rfl rfl
              rw [kidText, if_pos e1, e2, e3, ht, List.append_assoc, List.cons_append]
              rw [h1'] at h53
              rw [← b2]
              exact h53
            · have e : allN (d + 1) { H with pts := Nd.pts b, kids := Nd.kids b } = allN (d + 1) b := all_of rfl rfl
              rw [idsN, e]
              exact b3
        · cases h
    · cases h
theorem getD_zero {a : UInt8} {l : List UInt8} : (a :: l).getD 0 0 = a := rfl
theorem two_of {l : List UInt8} (h : ¬ l.length < 2) : l = l.getD 0 0 :: l.getD 1 0 :: l.drop 2 := by
  match l, h with
  | [], h => exact absurd (by decide) h
  | [_], h => exact absurd (by simp) h
  | a :: b :: l, _ => rfl
theorem ofNat_toNat8 (a : UInt8) : UInt8.ofNat a.toNat = a := by simp
theorem rdNode_sound : ∀ (d : Nat) (root : Bool) (s : Sta) (t : NT (d + 1)) (s' : Sta), rdNode d root s = some (t, s') → (FormN d root t ∧ s.1 = textS (d + 1) t ++ s'.1 ∧ Reads2 (idsN (d + 1) t) s.2 s'.2) ∧ Bare d t
  | 0, _, _, _, _, h => by cases h
  | d + 1, root, s, t, s', h => by
    unfold rdNode at h
    by_cases hl : s.1.length < 2
    · rw [if_pos hl] at h; cases h
    · rw [if_neg hl] at h
      simp only at h
      have h2 := two_of hl
      by_cases h4 : 4 < (s.1.getD 1 0).toNat
      · rw [if_pos h4] at h; cases h
      · rw [if_neg h4] at h
        by_cases hm1 : s.1.getD 0 0 = 1 ∧ (0 < (s.1.getD 1 0).toNat ∨ root = true)
        · rw [if_pos hm1] at h
          cases hr : rdMany rdPt (s.1.getD 1 0).toNat (s.1.drop 2, s.2) with
          | none => rw [hr] at h; cases h
          | some ls =>
            obtain ⟨l, s1⟩ := ls
            rw [hr] at h
            cases h
            obtain ⟨r1, r2, r3, r4⟩ := rdMany_sound (P := Pt.Ok) (tx := ptText) (ids := fun p => [p.id]) (fun s x s' h => rdPt_sound h) _ _ _ _ hr
            refine ⟨⟨.inl ⟨rfl, by show l.length ≤ 4; omega, by show root = true ∨ 0 < l.length; rw [r1]; exact hm1.2.symm, r2⟩, ?_, ?_⟩, rfl, rfl, rfl⟩
            · rw [textS_leaf _ _ (by rfl)]
              show s.1 = leafText l ++ s'.1
              unfold leafText
              rw [r1, ofNat_toNat8, List.cons_append, List.cons_append, ← r3]
              have e := hm1.1
              rw [← e]
              exact h2
            · have e : idsN (d + 1 + 1) { bareN (d + 1) with pts := l } = l.flatMap (fun p => [p.id]) := by
                show (l ++ ([] : List (NT (d + 1))).flatMap (allN (d + 1))).map Pt.id = _
                rw [List.flatMap_nil, List.append_nil]
                clear r1 r2 r3 r4 hr
                induction l with
                | nil => rfl
                | cons p l ih => rw [List.map_cons, List.flatMap_cons, ih]; rfl
              rw [e]
              exact r4
        · rw [if_neg hm1] at h
          by_cases hm2 : s.1.getD 0 0 = 2 ∧ 0 < (s.1.getD 1 0).toNat
          · rw [if_pos hm2] at h
            cases hr : rdMany (rdKid d (rdNode d false)) (s.1.getD 1 0).toNat (s.1.drop 2, s.2) with
            | none => rw [hr] at h; cases h
            | some ls =>
              obtain ⟨l, s1⟩ := ls
              rw [hr] at h
              cases h
              obtain ⟨r1, r2, r3, r4⟩ := rdMany_sound (P := KidForm d) (tx := kidText (d + 1)) (ids := idsN (d + 1)) (fun s x s' h => rdKid_sound (fun s t s' h => (rdNode_sound d false s t s' h).1) s x s' h) _ _ _ _ hr
              refine ⟨⟨.inr ⟨rfl, by show 0 < l.length; omega, by show l.length ≤ 4; omega, r2⟩, ?_, ?_⟩, rfl, rfl, rfl⟩
              · rw [textS_kids _ _ (by show 0 < l.length; omega)]
                show s.1 = (2 :: UInt8.ofNat l.length :: l.flatMap (kidText (d + 1))) ++ s'.1
                rw [r1, ofNat_toNat8, List.cons_append, List.cons_append, ← r3]
                have e := hm2.1
                rw [← e]
                exact h2
              · rw [ids_all _ _ (by rfl)]
                exact r4
          · rw [if_neg hm2] at h; cases h
end Ward
end Go.Proofs.YtenaelkbgkpllaaGreatDoor
/- Each tree of the right form is read off its text. -/
namespace Go.Proofs.YtenaelkbgkpllaaGreatDoor
namespace Ward
theorem headN_text {n : Nat} {c : NT (n + 1)} (hb : (Nd.box c).In) (h1 : 1 ≤ Nd.n c) (h2 : Nd.n c ≤ 150) (hd : (Nd.dig c).length = 32) (m : List UInt8) : headN n (saidN (n + 1) c ++ m) = { c with pts := [], kids := [] } := by
  obtain ⟨a1, a2, b1, b2, c1, c2, d1, d2⟩ := hb
  have e : saidN (n + 1) c ++ m = fourI (Nd.box c).a ++ (fourI (Nd.box c).b ++ (fourI (Nd.box c).c ++ (fourI (Nd.box c).d ++ (fourI (Nd.n c) ++ (Nd.dig c ++ m))))) := by
    show boxText (Nd.box c) ++ fourI (Nd.n c) ++ Nd.dig c ++ m = _
    simp only [boxText, List.append_assoc]
  have e0 : numAt (saidN (n + 1) c ++ m) 0 = (Nd.box c).a := by rw [e, numAt_zero _ a1 a2]
  have e1 : numAt (saidN (n + 1) c ++ m) 1 = (Nd.box c).b := by rw [e, show 1 = 0 + 1 from rfl, numAt_succ, numAt_zero _ b1 b2]
  have e2 : numAt (saidN (n + 1) c ++ m) 2 = (Nd.box c).c := by rw [e, show 2 = 0 + 1 + 1 from rfl, numAt_succ, numAt_succ, numAt_zero _ c1 c2]
  have e3 : numAt (saidN (n + 1) c ++ m) 3 = (Nd.box c).d := by rw [e, show 3 = 0 + 1 + 1 + 1 from rfl, numAt_succ, numAt_succ, numAt_succ, numAt_zero _ d1 d2]
  have e4 : numAt (saidN (n + 1) c ++ m) 4 = Nd.n c := by rw [e, show 4 = 0 + 1 + 1 + 1 + 1 from rfl, numAt_succ, numAt_succ, numAt_succ, numAt_succ, numAt_zero _ (by omega) (by omega)]
  have e5 : ((saidN (n + 1) c ++ m).drop 20).take 32 = Nd.dig c := by
    have hl : (boxText (Nd.box c) ++ fourI (Nd.n c)).length = 20 := by rw [List.length_append, boxText_len, fourI_len]
    have e6 : saidN (n + 1) c ++ m = (boxText (Nd.box c) ++ fourI (Nd.n c)) ++ (Nd.dig c ++ m) := by
      show boxText (Nd.box c) ++ fourI (Nd.n c) ++ Nd.dig c ++ m = _
      rw [List.append_assoc]
    rw [e6, ← hl, List.drop_left, ← hd, List.take_left]
  refine nd_ext rfl rfl ?_ e4 e5
  show (⟨numAt _ 0, numAt _ 1, numAt _ 2, numAt _ 3⟩ : Box) = Nd.box c
  rw [e0, e1, e2, e3]
theorem said_len52 {n : Nat} {c : NT (n + 1)} (hd : (Nd.dig c).length = 32) : (saidN (n + 1) c).length = 52 := by
  show (boxText (Nd.box c) ++ fourI (Nd.n c) ++ Nd.dig c).length = 52
  rw [List.length_append, List.length_append, boxText_len, fourI_len, hd]
theorem get52 {l : List UInt8} {a : UInt8} {m : List UInt8} (h : l.length = 52) : (l ++ a :: m).getD 52 0 = a ∧ (l ++ a :: m).drop 53 = m := by
  refine ⟨?_, ?_⟩
  · rw [List.getD_eq_getElem?_getD, List.getElem?_append_right (by omega), h]
    rfl
  · rw [show 53 = l.length + 1 by omega, ← List.drop_drop, List.drop_left]
    rfl
theorem rdKid_full {d : Nat} {below : Sta → Option (NT (d + 1) × Sta)} (hb : ∀ t rest i i', FormN d false t → Bare d t → Reads2 (idsN (d + 1) t) i i' → below (textS (d + 1) t ++ rest, i) = some (t, (rest, i')))
    (c : NT (d + 1)) (rest : List UInt8) (i i' : List Int) (hc : KidForm d c) (hi : Reads2 (idsN (d + 1) c) i i') : rdKid d below (kidText (d + 1) c ++ rest, i) = some (c, (rest, i')) := by
  obtain ⟨⟨h1, h2, h3, hd⟩, hs⟩ := hc
  have hbi := (may_in h1).1
  have hsl := said_len52 (c := c) hd
  have hcond : (boxMay (Nd.box c) && decide (1 ≤ Nd.n c) && decide (Nd.n c ≤ 150)) = true := by simp [h1, h2, h3]
  rcases hs with ⟨hp, hk⟩ | hf
  · have e : kidText (d + 1) c ++ rest = saidN (d + 1) c ++ 0 :: rest := by
      rw [kidText, if_neg (by rw [shown_no hp hk]; simp), List.append_assoc]; rfl
    obtain ⟨g1, g2⟩ := get52 (a := 0) (m := rest) hsl
    have hH := headN_text hbi h2 h3 hd (0 :: rest)
    have hcc : ({ c with pts := [], kids := [] } : NT (d + 1)) = c := nd_ext hp.symm hk.symm rfl rfl rfl
    rw [hcc] at hH
    unfold rdKid
    simp only
    rw [e, if_neg (by rw [List.length_append, hsl, List.length_cons]; omega), hH, if_pos hcond, if_pos g1, g2]
    obtain ⟨rfl, -, -⟩ := hi
    have : idsN (d + 1) c = [] := by
      show (Nd.pts c ++ (Nd.kids c).flatMap (allN d)).map Pt.id = []
      rw [hp, hk]; rfl
    rw [this]
    rfl
  · have e : kidText (d + 1) c ++ rest = saidN (d + 1) c ++ 1 :: (textS (d + 1) c ++ rest) := by
      rw [kidText, if_pos (form_shown hf), List.append_assoc]; rfl
    obtain ⟨g1, g2⟩ := get52 (a := 1) (m := textS (d + 1) c ++ rest) hsl
    have hH := headN_text hbi h2 h3 hd (1 :: (textS (d + 1) c ++ rest))
    obtain ⟨b, hbd⟩ : ∃ b : NT (d + 1), b = { bareN d with pts := Nd.pts c, kids := Nd.kids c } := ⟨_, rfl⟩
    have hb1 : Nd.pts b = Nd.pts c := by rw [hbd]
    have hb2 : Nd.kids b = Nd.kids c := by rw [hbd]
    have hb3 : Bare d b := by rw [hbd]; exact ⟨rfl, rfl, rfl⟩
    have hi2 : Reads2 (idsN (d + 1) b) i i' := by rw [idsN, all_of hb1 hb2]; exact hi
    have hbe := hb b rest i i' (form_of hb1.symm hb2.symm hf) hb3 hi2
    rw [text_of hb1 hb2] at hbe
    unfold rdKid
    simp only
    rw [e, if_neg (by rw [List.length_append, hsl, List.length_cons]; omega), hH, if_pos hcond, if_neg (by rw [g1]; decide), if_pos g1, g2, hbe]
    simp only
    rw [hb1, hb2]
theorem u8_small {k : Nat} (h : k ≤ 4) : (UInt8.ofNat k).toNat = k := by rw [UInt8.toNat_ofNat']; omega
theorem rdNode_full : ∀ (d : Nat) (root : Bool) (t : NT (d + 1)) (rest : List UInt8) (i i' : List Int), FormN d root t → Bare d t → Reads2 (idsN (d + 1) t) i i' → rdNode d root (textS (d + 1) t ++ rest, i) = some (t, (rest, i'))
  | 0, _, _, _, _, _, h, _, _ => absurd h (fun h => h)
  | d + 1, root, t, rest, i, i', h, hbare, hi => by
    rcases h with ⟨hk, h4, h0, hok⟩ | ⟨hp, h0, h4, hkids⟩
    · have hl : textS (d + 1 + 1) t = leafText (Nd.pts t) := textS_leaf _ _ (by rw [hk]; rfl)
      have e : textS (d + 1 + 1) t ++ rest = 1 :: UInt8.ofNat (Nd.pts t).length :: ((Nd.pts t).flatMap ptText ++ rest) := by rw [hl]; rfl
      have hids : idsN (d + 1 + 1) t = (Nd.pts t).flatMap (fun p => [p.id]) := by
        show (Nd.pts t ++ (Nd.kids t).flatMap (allN (d + 1))).map Pt.id = _
        rw [hk, List.flatMap_nil, List.append_nil]
        generalize Nd.pts t = l
        induction l with
        | nil => rfl
        | cons p l ih => rw [List.map_cons, List.flatMap_cons, ih]; rfl
      rw [hids] at hi
      have hm := rdMany_full (P := Pt.Ok) (tx := ptText) (ids := fun p => [p.id]) (rd := rdPt) (fun x rest i i' hx hr => rdPt_full hx hr) (Nd.pts t) rest i i' hok hi
      unfold rdNode
      simp only
      rw [e]
      have g0 : (1 :: UInt8.ofNat (Nd.pts t).length :: ((Nd.pts t).flatMap ptText ++ rest) : List UInt8).getD 0 0 = 1 := rfl
      have g1 : (1 :: UInt8.ofNat (Nd.pts t).length :: ((Nd.pts t).flatMap ptText ++ rest) : List UInt8).getD 1 0 = UInt8.ofNat (Nd.pts t).length := rfl
      have g2 : (1 :: UInt8.ofNat (Nd.pts t).length :: ((Nd.pts t).flatMap ptText ++ rest) : List UInt8).drop 2 = (Nd.pts t).flatMap ptText ++ rest := rfl
      rw [if_neg (by simp), g0, g1, g2, u8_small h4, if_neg (by omega), if_pos ⟨rfl, h0.symm⟩, hm]
      simp only
      congr 2
      exact nd_ext rfl hk.symm hbare.1.symm hbare.2.1.symm hbare.2.2.symm
    · have e : textS (d + 1 + 1) t ++ rest = 2 :: UInt8.ofNat (Nd.kids t).length :: ((Nd.kids t).flatMap (kidText (d + 1)) ++ rest) := by rw [textS_kids _ _ h0]; rfl
      rw [ids_all _ _ hp] at hi
      have hm := rdMany_full (P := KidForm d) (tx := kidText (d + 1)) (ids := idsN (d + 1)) (rd := rdKid d (rdNode d false)) (fun x rest i i' hx hr => rdKid_full (fun t rest i i' hf hb hr => rdNode_full d false t rest i i' hf hb hr) x rest i i' hx hr) (Nd.kids t) rest i i' hkids hi
      unfold rdNode
      simp only
      rw [e]
      have g0 : (2 :: UInt8.ofNat (Nd.kids t).length :: ((Nd.kids t).flatMap (kidText (d + 1)) ++ rest) : List UInt8).getD 0 0 = 2 := rfl
      have g1 : (2 :: UInt8.ofNat (Nd.kids t).length :: ((Nd.kids t).flatMap (kidText (d + 1)) ++ rest) : List UInt8).getD 1 0 = UInt8.ofNat (Nd.kids t).length := rfl
      have g2 : (2 :: UInt8.ofNat (Nd.kids t).length :: ((Nd.kids t).flatMap (kidText (d + 1)) ++ rest) : List UInt8).drop 2 = (Nd.kids t).flatMap (kidText (d + 1)) ++ rest := rfl
      rw [if_neg (by simp), g0, g1, g2, u8_small h4, if_neg (by omega), if_neg (fun h => absurd h.1 (by decide)), if_pos ⟨rfl, h0⟩, hm]
      simp only
      congr 2
      exact nd_ext hp.symm rfl hbare.1.symm hbare.2.1.symm hbare.2.2.symm
theorem made_leaf {n : Nat} {t : NT (n + 1)} (h : (Nd.kids t).length = 0) : madeN (n + 1) t = ⟨Nd.pts t, [], boxL ((Nd.pts t).map boxOf), ((Nd.pts t).length : Nat), Sha.sha (leafText (Nd.pts t))⟩ := by
  show (if (Nd.kids t).length = 0 then _ else _) = _
  rw [if_pos h]
theorem made_node {n : Nat} {t : NT (n + 1)} (h : ¬ (Nd.kids t).length = 0) : madeN (n + 1) t = ⟨[], Nd.kids t, boxL ((Nd.kids t).map (boxN n)), ((Nd.kids t).map (numN n)).sum, Sha.sha (textK n (Nd.kids t))⟩ := by
  show (if (Nd.kids t).length = 0 then _ else _) = _
  rw [if_neg h]
/-- the root as what stands below it makes it: the same below it -/
theorem made_same {d : Nat} {r : Bool} {t : NT (d + 1)} (h : FormN d r t) : Nd.pts (madeN (d + 1) t) = Nd.pts t ∧ Nd.kids (madeN (d + 1) t) = Nd.kids t := by
  cases d with
  | zero => exact absurd h (fun h => h)
  | succ d =>
    rcases h with ⟨hk, _⟩ | ⟨hp, h0, _⟩
    · rw [made_leaf (by rw [hk]; rfl)]
      exact ⟨rfl, hk.symm⟩
    · rw [made_node (by omega)]
      exact ⟨hp.symm, rfl⟩
theorem made_of {n : Nat} {b c : NT (n + 1)} (h1 : Nd.pts b = Nd.pts c) (h2 : Nd.kids b = Nd.kids c) : madeN (n + 1) b = madeN (n + 1) c := by
  by_cases h : (Nd.kids b).length = 0
  · rw [made_leaf h, made_leaf (by rw [← h2]; exact h), h1]
  · rw [made_node h, made_node (by rw [← h2]; exact h), h2]
theorem nodup_reads {l : List Int} (h : l.Nodup) : Reads2 l [] (l.reverse ++ []) := ⟨rfl, h, fun _ _ => by simp⟩
/-- what a text that is taken apart is -/
theorem parse_sound {s : List UInt8} {t : NT 7} (h : parse s = some t) : FormN 6 true t ∧ textS 7 t = s ∧ (idsN 7 t).Nodup ∧ madeN 7 t = t := by
  unfold parse at h
  split at h
  · rename_i t0 ids hr
    cases h
    obtain ⟨⟨h1, h2, h3⟩, -⟩ := rdNode_sound 6 true _ t0 _ hr
    obtain ⟨m1, m2⟩ := made_same h1
    refine ⟨form_of m1.symm m2.symm h1, ?_, ?_, made_of m1 m2⟩
    · rw [text_of m1 m2]
      have h2' : s = textS 7 t0 ++ [] := h2
      rw [h2', List.append_nil]
    · rw [idsN, all_of m1 m2]
      exact h3.2.1
  · cases h
theorem parse_full {t : NT 7} (hf : FormN 6 true t) (hn : (idsN 7 t).Nodup) (hm : madeN 7 t = t) : parse (textS 7 t) = some t := by
  obtain ⟨b, hbd⟩ : ∃ b : NT 7, b = { bareN 6 with pts := Nd.pts t, kids := Nd.kids t } := ⟨_, rfl⟩
  have hb1 : Nd.pts b = Nd.pts t := by rw [hbd]
  have hb2 : Nd.kids b = Nd.kids t := by rw [hbd]
  have hb3 : Bare 6 b := by rw [hbd]; exact ⟨rfl, rfl, rfl⟩
  have hr := rdNode_full 6 true b [] [] _ (form_of hb1.symm hb2.symm hf) hb3 (nodup_reads (by rw [idsN, all_of hb1 hb2]; exact hn))
  rw [List.append_nil, text_of hb1 hb2] at hr
  unfold parse
  rw [hr]
  simp only
  rw [made_of hb1 hb2, hm]
end Ward
end Go.Proofs.YtenaelkbgkpllaaGreatDoor
