/- The document's proof of a node of a level, its children's proofs given. -/
import Derived.Test.YtenaelkbgkpllaaGreatDoorProven23
namespace Go.Proofs.YtenaelkbgkpllaaGreatDoor
open Go.RowKit

theorem slice_two (x : List UInt8) (hb : 2 ≤ x.length) (W : World) : (Instr.slice 9 (Sv x) none (some (.int .i64 2)) none).run Tryz.prog W = .ok (Sv (x.take 2)) W := by
  have e : (⟨x.toArray⟩ : ByteArray).size = x.length := by show x.toArray.size = _; rw [List.size_toArray]
  have h1 : (Instr.slice 9 (.string ⟨x.toArray⟩) none (some (.int .i64 2)) none).run Tryz.prog W = .ok (.string ((⟨x.toArray⟩ : ByteArray).extract 0 (2 : Int).toNat)) W := run_slice_string_h W 9 ⟨x.toArray⟩ Tryz.underlying9 .i64 2 (by decide) (by rw [e]; omega)
  rw [show (2 : Int).toNat = 2 from rfl, ext_str, List.drop_zero] at h1
  exact h1
/-- what is read ahead of Must -/
def RdMk (W : World) (ga n : Nat) (vl : Value) (gp : Nat) (f : Int) (gn o : Nat) (b : Ward.Box) (k : Nat) (q : Ward.Qr) : Prop := W.cell? ⟨ga, n, none⟩ = some vl ∧ W.cell? ⟨gp, 6, none⟩ = some (I f) ∧ (W.cell? ⟨gn, o, none⟩ = some (I b.a) ∧ W.cell? ⟨gn, o + 1, none⟩ = some (I b.b) ∧ W.cell? ⟨gn, o + 2, none⟩ = some (I b.c) ∧ W.cell? ⟨gn, o + 3, none⟩ = some (I b.d)) ∧ W.cell? ⟨k, 0, none⟩ = some (I q.kind) ∧ W.cell? ⟨k, 1, none⟩ = some (I q.a) ∧ W.cell? ⟨k, 2, none⟩ = some (I q.b) ∧ W.cell? ⟨k, 3, none⟩ = some (I q.c) ∧ W.cell? ⟨k, 4, none⟩ = some (I q.d) ∧ W.cell? ⟨k, 5, none⟩ = some (I q.x) ∧ W.cell? ⟨k, 6, none⟩ = some (I q.y) ∧ W.cell? ⟨k, 7, none⟩ = some (I q.k)
theorem RdMk.below {W W' : World} {ga n gp gn o k B : Nat} {vl : Value} {f : Int} {b : Ward.Box} {q : Ward.Qr} (h : RdMk W ga n vl gp f gn o b k q) (hb : Below B W W') (h1 : ga < B) (h2 : gp < B) (h3 : gn < B) (h4 : k < B) : RdMk W' ga n vl gp f gn o b k q := by
  obtain ⟨a0, b0, ⟨c0, c1, c2, c3⟩, p0, p1, p2, p3, p4, p5, p6, p7⟩ := h
  have cg := fun i => hb.cell (p := ⟨gn, i, none⟩) h3
  have ck := fun i => hb.cell (p := ⟨k, i, none⟩) h4
  exact ⟨(hb.cell (p := ⟨ga, n, none⟩) h1).trans a0, (hb.cell (p := ⟨gp, 6, none⟩) h2).trans b0, ⟨(cg _).trans c0, (cg _).trans c1, (cg _).trans c2, (cg _).trans c3⟩, (ck _).trans p0, (ck _).trans p1, (ck _).trans p2, (ck _).trans p3, (ck _).trans p4, (ck _).trans p5, (ck _).trans p6, (ck _).trans p7⟩
theorem RdMk.drew {W : World} {ga n gp gn o k : Nat} {vl : Value} {f : Int} {b : Ward.Box} {q : Ward.Qr} (h : RdMk W ga n vl gp f gn o b k q) : RdMk W.drew ga n vl gp f gn o b k q := by simpa [RdMk] using h
theorem level_kid (K : List Ward.Pt) (n i k : Nat) (hi : i < (Ward.lev K (n + 1)).length) (hk : k < List.length ((Ward.lev K (n + 1))[i] : List (Ward.T n))) : 4 * i + k < (Ward.lev K n).length := by
  have := (Ward.lev_few K n i hi).2
  omega
set_option maxRecDepth 100000 in
set_option maxHeartbeats 4000000 in
theorem proof_node (q : Ward.Qr) (va : Value) (a : List Ward.Pt) (K : List Ward.Pt) (N n : Nat) (v v3 : Value) (B i : Nat) (hq : Ward.mayBe q = true) (hCa : ∀ p ∈ a, Co p.x ∧ Co p.y) (hla : a.length ≤ 1000) (hG : Good K) (hn : n + 1 ≤ N) (hN : N ≤ 10) (hi : i < (Ward.lev K (n + 1)).length) (w : World) (hA : AllAt w B v v3 K N) (hra : Reads w va a)
    (hIH : ∀ j, (hj : j < (Ward.lev K n).length) → ∀ W, Below w.heap.size w W → Calls Tryz.prog 102 #[v, I n, I j, Qv q, va] W fun e w' => e = .returned (Sv (Ward.proof Sha.sha (Ward.must q a) n (Ward.lev K n)[j])) ∧ Below W.heap.size W w') :
    Calls Tryz.prog 102 #[v, .int .i64 ((n : Int) + 1), I i, Qv q, va] w fun e w' => e = .returned (Sv (Ward.proof Sha.sha (Ward.must q a) (n + 1) (Ward.lev K (n + 1))[i])) ∧ Below w.heap.size w w' := by
  have hll := Ward.lev_len K (by have := hG.many; omega) (n + 1)
  have hll0 := Ward.lev_len K (by have := hG.many; omega) n
  obtain ⟨ga, ca, gl, cl, rfl, hca, hgal, hcell, hgll, hcl, hparts⟩ := hA.part (l := n + 1) hn
  obtain ⟨ga', ca', gn, cn, ev, -, -, hcelln, hgnl, hcn, hpartn⟩ := hA.part (l := n) (by omega)
  injection ev with ev1 ev2 ev3
  injection ev1 with ev1
  injection ev1 with ev1
  subst ev1 ev3
  clear ev2
  obtain ⟨x, hx, hrp⟩ := hparts i hi
  have hsm := Ward.lev_small hG.ok (n + 1) _ (List.getElem_mem hi)
  obtain ⟨cs, hcs⟩ : ∃ cs : List (Ward.T n), (Ward.lev K (n + 1))[i] = cs := ⟨_, rfl⟩
  have HLK := hide (show ∀ k, k < cs.length → 4 * i + k < (Ward.lev K n).length from fun k hk => level_kid K n i k hi (by rw [hcs]; exact hk))
  have HKD := hide (show ∀ k, (hk : k < cs.length) → cs[k] = (Ward.lev K n)[4 * i + k]'(HLK.out k hk) from fun k hk => by
    subst hcs
    exact Ward.lev_kid K n i k hi hk (HLK.out k hk))
  rw [hcs] at hsm hrp ⊢
  have HPN := hide (show ∀ k, (hk : k < cs.length) → ∃ x : Value, w.rangeAt gn ((4 * i + k) * 9) (partL n cs[k] (4 * i + k) x) from fun k hk => by
    obtain ⟨x, -, h⟩ := hpartn (4 * i + k) (HLK.out k hk)
    rw [← HKD.out k hk] at h
    exact ⟨x, h⟩)
  have HIH := hide (show ∀ k, (hk : k < cs.length) → ∀ W, Below w.heap.size w W → Calls Tryz.prog 102 #[.slice (some ⟨ga, 0, none⟩) (N + 1) ca, I n, .int .i64 (4 * (i : Int) + (k : Int)), Qv q, va] W fun e w' => e = .returned (Sv (Ward.proof Sha.sha (Ward.must q a) n cs[k])) ∧ Below W.heap.size W w' from fun k hk W hb => by
    have h := hIH (4 * i + k) (HLK.out k hk) W hb
    rw [← HKD.out k hk] at h
    have e : (((4 * i + k : Nat)) : Int) = 4 * (i : Int) + (k : Int) := by omega
    rw [← e]
    exact h)
  clear hIH hparts hpartn hcs hA
  have HMU := hide (fun k (hk : k < cs.length) W (hr : Reads W va a) => must_ref (Ward.box n cs[k]) q va a W hq (Ward.box_in n _ (hsm.2 _ (List.getElem_mem hk))) (Ward.box_up n _) hr hCa hla)
  have HSP := hide (fun k (hk : k < cs.length) => Ward.proof_len (dig := Sha.sha) (Ward.must q a) (fun _ => rfl) n cs[k] (hsm.2 _ (List.getElem_mem hk)))
  have h4 : cs.length ≤ 4 := hsm.1
  have HON := hide (show (partL (n + 1) (cs : Ward.T (n + 1)) i x).toArray.all (·.oneCell') = true from partV_one _ _ _ _ _ x hx)
  have HTX := hide (show (partL (n + 1) (cs : Ward.T (n + 1)) i x)[5]? = some (Sv (Ward.text Sha.sha (n + 1) (cs : Ward.T (n + 1)))) ∧ (partL (n + 1) (cs : Ward.T (n + 1)) i x)[6]? = some (I (4 * (i : Int))) ∧ (partL (n + 1) (cs : Ward.T (n + 1)) i x)[7]? = some (I (cs.length : Nat)) from ⟨rfl, rfl, rfl⟩)
  have HLN := hide (partL_len (n + 1) (cs : Ward.T (n + 1)) i x)
  have HTL := hide (Ward.text_len (dig := Sha.sha) (fun _ => rfl) n cs)
  have HTH := hide (fun k (hk : k < cs.length) => Ward.text_head (dig := Sha.sha) (fun _ => rfl) n cs k hk)
  have HT2 := hide (Ward.text_two (dig := Sha.sha) n cs)
  have HPS := hide (Ward.proof_succ Sha.sha (Ward.must q a) n cs)
  generalize Ward.text Sha.sha (n + 1) (cs : Ward.T (n + 1)) = tt at *
  generalize partL (n + 1) (cs : Ward.T (n + 1)) i x = PL at *
  have hres : (Ward.proof Sha.sha (Ward.must q a) (n + 1) (cs : Ward.T (n + 1))).length ≤ 20000000000 := by
    have h := Ward.proof_len (dig := Sha.sha) (Ward.must q a) (fun _ => rfl) (n + 1) (cs : Ward.T (n + 1)) hsm
    have h5 : 5 ^ (n + 1) ≤ 5 ^ 11 := Nat.pow_le_pow_right (by decide) (by omega)
    have h6 : (5 : Nat) ^ 11 = 48828125 := by decide
    omega
  generalize Ward.proof Sha.sha (Ward.must q a) (n + 1) (cs : Ward.T (n + 1)) = res at *
  have HTR := hide (show Below w.heap.size w (w.alloc (.cells #[I q.kind, I q.a, I q.b, I q.c, I q.d, I q.x, I q.y, I q.k] 46)) ∧ (w.alloc (.cells #[I q.kind, I q.a, I q.b, I q.c, I q.d, I q.x, I q.y, I q.k] 46)).heap[w.heap.size]? = some (.cells #[I q.kind, I q.a, I q.b, I q.c, I q.d, I q.x, I q.y, I q.k] 46 (0, 0)) from ⟨(Below.refl w.heap.size w).alloc (Nat.le_refl _) _, heap_alloc_new w _⟩)
  have hsl2 := slice_two tt (by rw [HTL.out]; omega)
  rw [HT2.out] at hsl2
  generalize Ward.must q a = mu at *
  obtain ⟨kd, qa, qb, qc, qd, qx, qy, qk⟩ := q
  obtain ⟨aa, cap, ea, -⟩ := id hra
  subst ea
  have HRA := hide hra
  have HRP := hide hrp
  clear HKD
  generalize (Ward.lev K (n + 1)).length = nl at *
  generalize hml : (Ward.lev K n).length = ml at *
  have HML := hide hml
  simp only at *
  clear hrp hq hCa hG hsm hra hml
  have hi1 : (i : Int) < (nl : Int) := by omega
  have hn1 : (0 : Int) ≤ (n : Int) + 1 := by omega
  have hn2 : (n : Int) + 1 < (N : Int) + 1 := by omega
  have hn3 : IntKind.i64.wrap ((n : Int) + 1) = (n : Int) + 1 := wrap_small _ (by omega) (by omega)
  have hn4 : ((n : Int) + 1).toNat = n + 1 := by omega
  have hn5 : ((n : Int) + 1 == 0) = false := by simp; omega
  go_enter Tryz.func102, Tryz.ntmps102
  go_upto_region 1 with fail
  have htr := HTR.out
  clear HTR
  generalize w.alloc (.cells #[I kd, I qa, I qb, I qc, I qd, I qx, I qy, I qk] 46) = w1 at htr ⊢
  obtain ⟨hb1, hr1⟩ := htr
  have hc1 : w1.cell? ⟨ga, n + 1, none⟩ = some (.slice (some ⟨gl, 0, none⟩) nl cl) := (hb1.cell (p := ⟨ga, n + 1, none⟩) hgal).trans hcell
  have HRP1 := hide (show w1.rangeAt gl (i * 9) PL from fun k u hu => (hb1.cell (p := ⟨gl, i * 9 + k, none⟩) hgll).trans (HRP.out k u hu))
  have HB1 := hide hb1
  have HQ1 := hide hr1
  have hs1 : w.heap.size < w1.heap.size := (Array.getElem?_eq_some_iff.1 hr1).1
  have HIP := hide (show (Tryz.prog.info? 150).map (·.size) = some PL.length by rw [HLN.out]; exact Tryz.infoPart)
  have HIA := hide (show (Tryz.prog.info? 150).map (·.size) = some PL.toArray.size by rw [List.size_toArray]; exact HIP.out)
  have HSA := hide (show PL.toArray.size = 9 by rw [List.size_toArray]; exact HLN.out)
  have hb2' := fun o => (Below.refl w1.heap.size w1).alloc (Nat.le_refl _) o
  have hr2' := heap_alloc_new w1
  clear hb1 hr1 HRP
  go_upto_region 2 with (first | (refine wpList_load_mid rfl 150 (.tmp 20) rfl gl (i * 9) rfl PL _ HRP1.out Tryz.underlying150 rfl HIP.out ?_) | (refine wpList_store_rowTo rfl 150 (.tmp 11) (.tmp 21) rfl rfl w1.heap.size PL.toArray rfl rfl 150 _ (heap_alloc_new w1 _) HIA.out (by rw [HSA.out]; rfl) HON.out ?_; rw [World.setRow_alloc_new]))
  generalize hW : World.alloc w1 _ = w2
  have hb2 : Below w1.heap.size w1 w2 := by rw [← hW]; exact hb2' _
  have hr2 : w2.heap[w1.heap.size]? = some (.cells PL.toArray 150 (0, 0)) := by rw [← hW]; exact hr2' _
  clear hW hb2' hr2' hc1 hcell
  have hs2 : w1.heap.size < w2.heap.size := (Array.getElem?_eq_some_iff.1 hr2).1
  have ht : w2.cell? ⟨w1.heap.size, 5, none⟩ = some (Sv tt) := by rw [cell_of_row _ _ _ _ _ _ hr2, List.getElem?_toArray]; exact HTX.out.1
  have HB2 := hide (HB1.out.trans (hb2.mono HB1.out.size))
  have HQ2 := hide ((hb2.block w.heap.size hs1).trans HQ1.out)
  have HR2 := hide hr2
  clear hb2 hr2 HQ1 HRP1
  generalize w1.heap.size = gp at *
  generalize hPF : [(2 : UInt8), UInt8.ofNat cs.length] = pf at *
  go_wp2_with fail
  have HPL := hide (show ∀ k, (pf ++ (cs.take k).flatMap (Ward.showK Sha.sha mu n)).length ≤ 20000000000 from fun k => by
    have h := HPS.out
    have h7 : ((cs.take k).flatMap (Ward.showK Sha.sha mu n)).length ≤ (cs.flatMap (Ward.showK Sha.sha mu n)).length := by
      have e : cs.flatMap (Ward.showK Sha.sha mu n) = (cs.take k).flatMap (Ward.showK Sha.sha mu n) ++ (cs.drop k).flatMap (Ward.showK Sha.sha mu n) := by rw [← List.flatMap_append, List.take_append_drop]
      rw [e, List.length_append]
      omega
    have h8 := congrArg List.length h
    rw [← hPF]
    simp only [List.length_cons, List.length_append, List.length_nil] at h8 ⊢
    omega)
  have HRES := hide (show res = pf ++ cs.flatMap (Ward.showK Sha.sha mu n) by rw [HPS.out, ← hPF]; rfl)
  clear hPF HPS hsl2 ht
  go_loopw [12, 13] (fun v12 v13 wq => ∃ k : Nat, k ≤ cs.length ∧ v13 = I k ∧ v12 = Sv (pf ++ (cs.take k).flatMap (Ward.showK Sha.sha mu n)) ∧ Below w2.heap.size w2 wq)
    (fun _ v13 _ => cs.length - (intOf v13).toNat)
  case atStart => exact ⟨0, by omega, rfl, by simp, Below.refl _ _⟩
  case round =>
    obtain ⟨k, hk, rfl, rfl, hb⟩ := hrel
    have HB := hide hb
    have hszr : w2.heap.size ≤ wr.heap.size := hb.size
    have hrp := (hb.block gp hs2).trans HR2.out
    have g5 : wr.cell? ⟨gp, 5, none⟩ = some (Sv tt) := by rw [cell_of_row _ _ _ _ _ _ hrp, List.getElem?_toArray]; exact HTX.out.1
    have g6 : wr.cell? ⟨gp, 6, none⟩ = some (I (4 * (i : Int))) := by rw [cell_of_row _ _ _ _ _ _ hrp, List.getElem?_toArray]; exact HTX.out.2.1
    have g7 : wr.cell? ⟨gp, 7, none⟩ = some (I (cs.length : Nat)) := by rw [cell_of_row _ _ _ _ _ _ hrp, List.getElem?_toArray]; exact HTX.out.2.2
    have hSTl := HPL.out k
    by_cases hlt : k < cs.length
    · have HNX := hide (Ward.take_flat (Ward.showK Sha.sha mu n) cs k hlt)
      have HSK := hide (show Ward.showK Sha.sha mu n cs[k] = Ward.head Sha.sha n cs[k] ++ (if mu (Ward.box n cs[k]) then 1 :: Ward.proof Sha.sha mu n cs[k] else [0]) from rfl)
      have hhl : (Ward.head Sha.sha n cs[k]).length = 52 := Ward.head_len (fun _ => rfl) n cs[k]
      have hth := HTH.out k hlt
      have hsl : ∀ W, (Instr.slice 9 (Sv tt) (some (.int .i64 (2 + 52 * (k : Int)))) (some (.int .i64 (2 + 52 * ((k : Int) + 1)))) none).run Tryz.prog W = .ok (Sv (Ward.head Sha.sha n cs[k])) W := fun W => by
        have h1 := slice_str tt (2 + 52 * k) (2 + 52 * (k + 1)) (by omega) (by rw [HTL.out]; omega) W
        rw [show 2 + 52 * (k + 1) - (2 + 52 * k) = 52 by omega, hth] at h1
        have e1 : ((2 + 52 * k : Nat) : Int) = 2 + 52 * (k : Int) := by omega
        have e2 : ((2 + 52 * (k + 1) : Nat) : Int) = 2 + 52 * ((k : Int) + 1) := by omega
        rw [e1, e2] at h1
        exact h1
      have HPLn := hide (HSP.out k hlt)
      have HMK := hide (HMU.out k hlt)
      have HIK := hide (HIH.out k hlt)
      obtain ⟨xk, hrk⟩ := HPN.out k hlt
      have HPC := hide (PtCells.of hrk)
      have hj := HLK.out k hlt
      generalize Ward.box n cs[k] = bx at *
      generalize Ward.proof Sha.sha mu n cs[k] = pk at *
      generalize Ward.head Sha.sha n cs[k] = hd at *
      generalize Ward.showK Sha.sha mu n cs[k] = sk at *
      obtain ⟨ST, hST⟩ : ∃ ST, pf ++ (cs.take k).flatMap (Ward.showK Sha.sha mu n) = ST := ⟨_, rfl⟩
      have HSN := hide (show pf ++ (cs.take (k + 1)).flatMap (Ward.showK Sha.sha mu n) = ST ++ sk by rw [HNX.out, ← List.append_assoc, hST])
      rw [hST] at hSTl ⊢
      have ha1 := add_str ST hd (by omega)
      have hk1 : (k : Int) < (cs.length : Int) := by omega
      clear hST hth hrk
      go_upto_region 9 with fail
      obtain ⟨ob, hob⟩ : ∃ ob, (4 * i + k) * 9 = ob := ⟨_, rfl⟩
      rw [hob] at HPC
      have hBw : Below w.heap.size w wr := HB2.out.trans (hb.mono (by have := HB2.out.size; omega))
      have hw0 : w.heap.size ≤ w2.heap.size := HB2.out.size
      have hpc := HPC.out.below hBw hgnl
      have hS : RdMk wr ga n (.slice (some ⟨gn, 0, none⟩) ml cn) gp (4 * (i : Int)) gn ob bx w.heap.size ⟨kd, qa, qb, qc, qd, qx, qy, qk⟩ := ⟨(hBw.cell (p := ⟨ga, n, none⟩) hgal).trans hcelln, g6, ⟨hpc.c0, hpc.c1, hpc.c2, hpc.c3⟩, rowQ8 ((hb.block w.heap.size (by omega)).trans HQ2.out)⟩
      have HRW := hide (fun W (hbW : Below wr.heap.size wr W) => HRA.out.below (hBw.trans (hbW.mono hBw.size)))
      have HBWr := hide hBw
      obtain ⟨ba, bb, bc, bd⟩ := bx
      have m0 : (0 : Int) ≤ (n : Int) := by omega
      have m1 : (n : Int) < (N : Int) + 1 := by omega
      have m2 : ((n : Int) + 1) - 1 = (n : Int) := by omega
      have m3 : IntKind.i64.wrap (n : Int) = (n : Int) := wrap_small _ (by omega) (by omega)
      have m4 : ((n : Int)).toNat = n := by omega
      have j0 : (0 : Int) ≤ 4 * (i : Int) + (k : Int) := by omega
      have j1 : 4 * (i : Int) + (k : Int) < (ml : Int) := by omega
      have j2 : IntKind.i64.wrap (4 * (i : Int) + (k : Int)) = 4 * (i : Int) + (k : Int) := wrap_small _ (by omega) (by omega)
      have j3 : (4 * (i : Int) + (k : Int)).toNat = 4 * i + k := by omega
      have l1 : ga < wr.heap.size := by omega
      have l2 : gp < wr.heap.size := by omega
      have l3 : gn < wr.heap.size := by omega
      have l4 : w.heap.size < wr.heap.size := by omega
      clear hpc hBw hb hrp g5 g6 g7 hsl ha1
      go_cut [14] from 47 to 61 (fun v14 wx => v14 = .bool (mu ⟨ba, bb, bc, bd⟩) ∧ Below wr.heap.size wr wx)
      case first =>
        obtain ⟨s0, s1, ⟨s2, s3, s4, s5⟩, t0, t1, t2, t3, t4, t5, t6, t7⟩ := id hS
        go_region_held3 (fun W => W.cell? ⟨ga, n, none⟩ = some (.slice (some ⟨gn, 0, none⟩) ml cn) ∧ W.cell? ⟨gp, 6, none⟩ = some (I (4 * (i : Int))) ∧ (W.cell? ⟨gn, ob, none⟩ = some (I ba) ∧ W.cell? ⟨gn, ob + 1, none⟩ = some (I bb) ∧ W.cell? ⟨gn, ob + 2, none⟩ = some (I bc) ∧ W.cell? ⟨gn, ob + 3, none⟩ = some (I bd)) ∧ W.cell? ⟨w.heap.size, 0, none⟩ = some (I kd) ∧ W.cell? ⟨w.heap.size, 1, none⟩ = some (I qa) ∧ W.cell? ⟨w.heap.size, 2, none⟩ = some (I qb) ∧ W.cell? ⟨w.heap.size, 3, none⟩ = some (I qc) ∧ W.cell? ⟨w.heap.size, 4, none⟩ = some (I qd) ∧ W.cell? ⟨w.heap.size, 5, none⟩ = some (I qx) ∧ W.cell? ⟨w.heap.size, 6, none⟩ = some (I qy) ∧ W.cell? ⟨w.heap.size, 7, none⟩ = some (I qk)) (first | assumption | exact hS | exact hS.drew | exact hS6) ((go_at_call 133; refine (HMK.out _ (HRW.out _ ((Below.refl _ _).drew))).mono ?_; rintro _ w6 ⟨rfl, hb6⟩; have hS6 := hS.drew.below hb6 (by simpa using l1) (by simpa using l2) (by simpa using l3) (by simpa using l4); have hB6 : Below wr.heap.size wr w6 := (show Below wr.heap.size wr wr.drew from (Below.refl _ _).drew).trans hb6))
        all_goals
          go_wp2_with fail
          go_meet
          exact ⟨rfl, hB6⟩
      case rest =>
        obtain ⟨rfl, hbc⟩ := hcut
        have hS5 := hS.below hbc l1 l2 l3 l4
        obtain ⟨-, s1, -, t0, t1, t2, t3, t4, t5, t6, t7⟩ := hS5
        have HB5 := hide (HB.out.trans (hbc.mono hszr))
        have HBW5 := hide (HBWr.out.trans (hbc.mono HBWr.out.size))
        have hpkl : pk.length ≤ 20000000000 := by
          have h := HPLn.out
          have h5 : 5 ^ n ≤ 5 ^ 10 := Nat.pow_le_pow_right (by decide) (by omega)
          have h6 : (5 : Nat) ^ 10 = 9765625 := by decide
          omega
        have ha2 : ∀ W, (Op.stringOp .add ⟨(ST ++ hd).toArray⟩ ⟨#[1]⟩).run Tryz.prog W = .ok (.string ⟨(ST ++ (hd ++ [1])).toArray⟩) W := by rw [← List.append_assoc]; exact add_str (ST ++ hd) [1] (by simp; omega)
        have ha0 : ∀ W, (Op.stringOp .add ⟨(ST ++ hd).toArray⟩ ⟨#[0]⟩).run Tryz.prog W = .ok (.string ⟨(ST ++ (hd ++ [0])).toArray⟩) W := by rw [← List.append_assoc]; exact add_str (ST ++ hd) [0] (by simp; omega)
        have ha3 : ∀ W, (Op.stringOp .add ⟨(ST ++ (hd ++ [1])).toArray⟩ ⟨pk.toArray⟩).run Tryz.prog W = .ok (.string ⟨(ST ++ (hd ++ 1 :: pk)).toArray⟩) W := by
          have h := add_str (ST ++ (hd ++ [1])) pk (by simp; omega)
          rw [show ST ++ (hd ++ [1]) ++ pk = ST ++ (hd ++ 1 :: pk) by simp] at h
          exact h
        generalize wc = w5 at *
        clear hbc hS HMK HRW HPC
        generalize mu ⟨ba, bb, bc, bd⟩ = mb at *
        cases mb with
        | true =>
          have HV := hide (show Sv (ST ++ (hd ++ 1 :: pk)) = Sv (pf ++ (cs.take (k + 1)).flatMap (Ward.showK Sha.sha mu n)) by rw [HSN.out, HSK.out]; simp)
          have HIW := hide (HIK.out w5 HBW5.out)
          go_wp2_with fail
          refine HIW.out.mono ?_
          rintro _ w7 ⟨rfl, hb7⟩
          have HB7 := hide (HB5.out.trans (hb7.mono HB5.out.size))
          clear hb7 s1 t0 t1 t2 t3 t4 t5 t6 t7
          go_wp2_with fail
          go_roundw
          case rel => exact ⟨k + 1, hlt, by go_num, HV.out, HB7.out⟩
          case measure => simp [intOf]; omega
        | false =>
          have HV := hide (show Sv (ST ++ (hd ++ [0])) = Sv (pf ++ (cs.take (k + 1)).flatMap (Ward.showK Sha.sha mu n)) by rw [HSN.out, HSK.out]; simp)
          go_wp2_with fail
          go_roundw
          case rel => exact ⟨k + 1, hlt, by go_num, HV.out, HB5.out⟩
          case measure => simp [intOf]; omega
    · have ek : k = cs.length := by omega
      subst ek
      have HFB := hide (HB2.out.trans (hb.mono (by have := HB2.out.size; omega)))
      rw [List.take_length, ← HRES.out]
      clear hb hrp
      go_wp2_with fail
      go_ret
      exact ⟨rfl, HFB.out⟩
end Go.Proofs.YtenaelkbgkpllaaGreatDoor
/- The document's proof, of any part; its Prove. -/
namespace Go.Proofs.YtenaelkbgkpllaaGreatDoor
open Go.RowKit

theorem proof_ref (q : Ward.Qr) (va : Value) (a : List Ward.Pt) (K : List Ward.Pt) (N : Nat) (v v3 : Value) (B : Nat) (hq : Ward.mayBe q = true) (hCa : ∀ p ∈ a, Co p.x ∧ Co p.y) (hla : a.length ≤ 1000) (hG : Good K) (hN : N ≤ 10) :
    ∀ n, n ≤ N → ∀ i, (hi : i < (Ward.lev K n).length) → ∀ w, AllAt w B v v3 K N → Reads w va a → Calls Tryz.prog 102 #[v, I n, I i, Qv q, va] w fun e w' => e = .returned (Sv (Ward.proof Sha.sha (Ward.must q a) n (Ward.lev K n)[i])) ∧ Below w.heap.size w w' := by
  intro n
  induction n with
  | zero => exact fun _ i hi w hA _ => proof_leaf q va a K N v v3 B i hi w hA
  | succ n ih =>
    intro hn i hi w hA hra
    have h := proof_node q va a K N n v v3 B i hq hCa hla hG hn hN hi w hA hra (fun j hj W hb => ih (by omega) j hj W (hA.below hb) (hra.below hb))
    have e : (((n + 1 : Nat)) : Int) = (n : Int) + 1 := by omega
    show Calls Tryz.prog 102 #[v, .int .i64 ((n + 1 : Nat) : Int), I i, Qv q, va] w _
    rw [e]
    exact h
theorem ans_co {q : Ward.Qr} {K : List Ward.Pt} (h : ∀ p ∈ K, Co p.x ∧ Co p.y) : ∀ p ∈ Ward.ans q K, Co p.x ∧ Co p.y := fun p hp => by
  refine h p ?_
  unfold Ward.ans at hp
  split at hp
  · exact (Ward.sortN_perm _ _ _).mem_iff.1 (List.mem_of_mem_take hp)
  · exact (List.mem_filter.1 ((Ward.sortP_perm _).mem_iff.1 hp)).1
theorem ans_short {q : Ward.Qr} {K : List Ward.Pt} : (Ward.ans q K).length ≤ K.length := by
  unfold Ward.ans
  split
  · rw [List.length_take, Ward.sortN_length]; omega
  · rw [(Ward.sortP_perm _).length_eq]; exact List.length_filter_le _ _
set_option maxRecDepth 100000 in
set_option maxHeartbeats 4000000 in
theorem prove_ref (r : Nat) (u : Value) (K : List Ward.Pt) (q : Ward.Qr) (w : World) (hm : RMap w r u K) (hG : Good K) :
    Calls Tryz.prog 61 #[.pointer (some ⟨r, 0, none⟩), Qv q] w fun e w' => e = .returned (.tuple #[Sv (if Ward.mayBe q = true then Ward.proofText q K else []), I (if Ward.mayBe q = true then 0 else 6)]) ∧ Below w.heap.size w w' := by
  have HM := hide hm
  have hrl := hm.lt
  have hlk := hG.many
  have HMY := hide (may_ref q)
  have HAW := hide (fun (h : Ward.mayBe q = true) W (hr : Reads W u K) => answered_ref q u K W h hr hG.ids (good_co hG) (by omega))
  have HPF := hide (fun (h : Ward.mayBe q = true) va N v v3 B (hN : N ≤ 10) W (hi : 0 < (Ward.lev K N).length) (hA : AllAt W B v v3 K N) (hr : Reads W va (Ward.ans q K)) => proof_ref q va (Ward.ans q K) K N v v3 B h (ans_co (good_co hG)) (by have := ans_short (q := q) (K := K); omega) hG hN N (Nat.le_refl _) 0 hi W hA hr)
  have HLV := hide (fun W (hM : RMap W r u K) => levels_ref r u K W hM hG)
  have HDP := hide (show (Ward.tree K).1 ≤ 3 from Ward.tree_depth (by omega))
  have HTR := hide (show Below w.heap.size w (w.alloc (.cells #[I q.kind, I q.a, I q.b, I q.c, I q.d, I q.x, I q.y, I q.k] 46)) ∧ (w.alloc (.cells #[I q.kind, I q.a, I q.b, I q.c, I q.d, I q.x, I q.y, I q.k] 46)).heap[w.heap.size]? = some (.cells #[I q.kind, I q.a, I q.b, I q.c, I q.d, I q.x, I q.y, I q.k] 46 (0, 0)) from ⟨(Below.refl w.heap.size w).alloc (Nat.le_refl _) _, heap_alloc_new w _⟩)
  have HPT := hide (fun n t (ht : Ward.lev K n = [t]) (htr : Ward.tree K = ⟨n, t⟩) (hi : 0 < (Ward.lev K n).length) => show Ward.proof Sha.sha (Ward.must q (Ward.ans q K)) n (Ward.lev K n)[0] = Ward.proofText q K from by
    unfold Ward.proofText
    rw [htr]
    have e0 : (Ward.lev K n)[0] = t := by simp only [ht, List.getElem_cons_zero]
    rw [e0])
  generalize hPTe : Ward.proofText q K = ptx at *
  generalize hAE : Ward.ans q K = res at *
  generalize hMe : Ward.mayBe q = may at *
  obtain ⟨kd, qa, qb, qc, qd, qx, qy, qk⟩ := q
  simp only at *
  clear hm hG hPTe hAE hMe
  go_enter Tryz.func61, Tryz.ntmps61
  go_upto_region 1 with fail
  have htr := HTR.out
  clear HTR
  generalize w.alloc (.cells #[I kd, I qa, I qb, I qc, I qd, I qx, I qy, I qk] 46) = w1 at htr ⊢
  obtain ⟨hb1, hr1⟩ := htr
  have HB1 := hide hb1
  have hs1 : w.heap.size < w1.heap.size := (Array.getElem?_eq_some_iff.1 hr1).1
  obtain ⟨y0, y1, y2, y3, y4, y5, y6, y7⟩ := rowQ8 hr1
  have HR1 := hide hr1
  clear hb1 hr1
  go_wp2_with fail
  refine (HMY.out _).mono ?_
  rintro _ w2 ⟨rfl, hb2⟩
  have HB2 := hide (HB1.out.trans (hb2.mono HB1.out.size))
  have hs2 := hb2.size
  have HR2 := hide ((hb2.block w.heap.size hs1).trans HR1.out)
  clear hb2 y0 y1 y2 y3 y4 y5 y6 y7 HMY HR1
  cases may with
  | false =>
    have HFB := hide HB2.out
    go_wp2_with fail
    go_ret2
    exact ⟨rfl, HFB.out⟩
  | true =>
    have HLW := hide (HLV.out w2 (HM.out.below HB2.out))
    go_wp2_with fail
    refine HLW.out.mono ?_
    rintro _ w3 ⟨va, v3, n, rfl, hall, ⟨t, ht, htr⟩, hb3⟩
    have hn3 : n ≤ 3 := by have h := HDP.out; rw [htr] at h; exact h
    have hi0 : 0 < (Ward.lev K n).length := by rw [ht]; exact Nat.zero_lt_one
    have HPX := hide (HPT.out n t ht htr hi0)
    obtain ⟨ga, ca, gl, cl, rfl, hca, -, -, -, -, -⟩ := hall.part (l := n) (Nat.le_refl _)
    have HAL := hide hall
    have HB3 := hide (HB2.out.trans (hb3.mono (by omega)))
    have hs3 := hb3.size
    have hM3 := HM.out.below HB3.out
    have hcr := hM3.cell
    have HRD := hide hM3.own.reads
    obtain ⟨au, cu, eu⟩ := hM3.own.slice
    subst eu
    obtain ⟨y0, y1, y2, y3, y4, y5, y6, y7⟩ := rowQ8 ((hb3.block w.heap.size (by omega)).trans HR2.out)
    have hrl3 : r < w3.heap.size := by omega
    have hwl3 : w.heap.size < w3.heap.size := by omega
    have hS : RdMQ w3 r w.heap.size (.slice au K.length cu) ⟨kd, qa, qb, qc, qd, qx, qy, qk⟩ := ⟨hcr, y0, y1, y2, y3, y4, y5, y6, y7⟩
    have HAN := hide (fun W (hb : Below w3.heap.size w3 W) => HAW.out trivial W (HRD.out.below hb))
    have HPN := hide (fun vv W (hb : Below w3.heap.size w3 W) (hr : Reads W vv res) => HPF.out trivial vv n _ v3 _ (by omega) W hi0 (HAL.out.below hb) hr)
    simp only [HPX.out] at HPN
    have m0 : (0 : Int) ≤ (n : Int) := by omega
    have m2 : ((n : Int) + 1) - 1 = (n : Int) := by omega
    have m3 : IntKind.i64.wrap (n : Int) = (n : Int) := wrap_small _ (by omega) (by omega)
    clear hall ht htr hb3 hM3 HAW HPF HLV HLW HPT HDP HPX hi0 HM
    go_upto_region 5 with fail
    go_cut [8] from 15 to 26 (fun v8 wx => v8 = Sv ptx ∧ Below w3.heap.size w3 wx)
    case first =>
      obtain ⟨s0, t0, t1, t2, t3, t4, t5, t6, t7⟩ := id hS
      go_region_held3 (fun W => W.cell? ⟨r, 0, none⟩ = some (.slice au K.length cu) ∧ W.cell? ⟨w.heap.size, 0, none⟩ = some (I kd) ∧ W.cell? ⟨w.heap.size, 1, none⟩ = some (I qa) ∧ W.cell? ⟨w.heap.size, 2, none⟩ = some (I qb) ∧ W.cell? ⟨w.heap.size, 3, none⟩ = some (I qc) ∧ W.cell? ⟨w.heap.size, 4, none⟩ = some (I qd) ∧ W.cell? ⟨w.heap.size, 5, none⟩ = some (I qx) ∧ W.cell? ⟨w.heap.size, 6, none⟩ = some (I qy) ∧ W.cell? ⟨w.heap.size, 7, none⟩ = some (I qk)) (first | assumption | exact hS | exact hS.drew | exact hS6 | exact hS7) ((first | (go_at_call 103; refine (HAN.out _ ((Below.refl _ _).drew)).mono ?_; rintro _ w6 ⟨v6, rfl, ho6, hb6⟩; have hS6 := hS.drew.below hb6 (by simpa using hrl3) (by simpa using hwl3); have hB6 : Below w3.heap.size w3 w6 := (show Below w3.heap.size w3 w3.drew from (Below.refl _ _).drew).trans hb6) | (go_at_call 102; refine (HPN.out _ _ hB6 ho6.reads).mono ?_; rintro _ w7 ⟨rfl, hb7⟩; have hS7 := hS6.below hb7 (Nat.lt_of_lt_of_le hrl3 hB6.size) (Nat.lt_of_lt_of_le hwl3 hB6.size); have hB7 : Below w3.heap.size w3 w7 := hB6.trans (hb7.mono hB6.size))))
      all_goals
        go_wp2_with fail
        go_meet
        exact ⟨rfl, hB7⟩
    case rest =>
      obtain ⟨rfl, hbc⟩ := hcut
      have HFB := hide (HB3.out.trans (hbc.mono HB3.out.size))
      clear hbc hS y0 y1 y2 y3 y4 y5 y6 y7 hcr
      go_wp2_with fail
      go_ret2
      exact ⟨rfl, HFB.out⟩
end Go.Proofs.YtenaelkbgkpllaaGreatDoor
/- The law's asks at Points. -/
namespace Go.Proofs.YtenaelkbgkpllaaGreatDoor
open Go.RowKit

set_option maxRecDepth 100000 in
set_option maxHeartbeats 4000000 in
theorem asks_points {w0 w : World} {ow : Nat → Nat} {W0 n : Nat} {vp vh : Value} {ps : List Pr} {hs : List Nat} {i : Nat} (h : Stands w0 w ow W0 n vp vh ps hs i) (m r : Nat) (v u : Value) (L : List Ward.Pt) (hm : ps[i]? = some ⟨m, v, r, u, L, L⟩) (o : Opn) (hk : o.kind = 4) :
    Calls Tryz.prog 58 #[.pointer (some ⟨W0, 0, none⟩), .agg #[.pointer (some ⟨m, 0, none⟩), .pointer (some ⟨r, 0, none⟩)], .agg (opV o).toArray] w fun e w' => e = .returned (.bool true) ∧ InvE w0 w' W0 (n + 1) := by
  have HH := hide h
  have HOV := hide (show (opV o).toArray[0]? = some (I 4) by rw [← hk]; rfl)
  have HPA := hide (fun w' (hb : Below w.heap.size w w') => (h.below hb).pair hm)
  generalize (opV o).toArray = OV at *
  have HBX := hide (boxed w #[.pointer (some ⟨m, 0, none⟩), .pointer (some ⟨r, 0, none⟩)] OV 113 76)
  clear h hm hk
  go_enter Tryz.func58, Tryz.ntmps58
  go_upto_region 1 with fail
  have hbx := HBX.out
  clear HBX
  generalize (w.alloc (.cells #[.pointer (some ⟨m, 0, none⟩), .pointer (some ⟨r, 0, none⟩)] 113)).alloc (.cells OV 76) = w1 at hbx ⊢
  obtain ⟨hb1, hx, ho⟩ := hbx
  have k0 : w1.cell? ⟨w.heap.size + 1, 0, none⟩ = some (I 4) := by rw [cell_of_row _ _ _ _ _ _ ho]; exact HOV.out
  have x0 : w1.cell? ⟨w.heap.size, 0, none⟩ = some (.pointer (some ⟨m, 0, none⟩)) := by rw [cell_of_row _ _ _ _ _ _ hx]; rfl
  have hs1 : w.heap.size + 1 < w1.heap.size := (Array.getElem?_eq_some_iff.1 ho).1
  have HB1 := hide hb1
  have HX := hide hx
  have hml := (HPA.out w1 hb1).2.2.many
  have HPT := hide (points_any m v L w1 (HPA.out w1 hb1).1 hml)
  clear hb1 hx ho HOV
  go_wp2_with fail
  refine HPT.out.mono ?_
  rintro _ w2 ⟨va, rfl, hown, hb2⟩
  have hb12 : Below w.heap.size w w2 := HB1.out.trans (hb2.mono HB1.out.size)
  obtain ⟨hM2, hR2, hG⟩ := HPA.out w2 hb12
  have x1 : w2.cell? ⟨w.heap.size, 1, none⟩ = some (.pointer (some ⟨r, 0, none⟩)) := by
    rw [cell_of_row _ _ _ _ _ _ ((hb2.block w.heap.size (by omega)).trans HX.out)]; rfl
  have xr := hR2.cell
  have HSM := hide (same_law va u L L w2 hown.reads hR2.own.reads (by omega))
  obtain ⟨aa, ca, ea⟩ := hown.slice
  obtain ⟨au, cu, eu⟩ := hR2.own.slice
  subst ea eu
  have hs2 := hb2.size
  have HB2 := hide hb2
  have HOW := hide hown
  clear hb2 hb12 hown hM2 hR2 hG HPT x0 k0 HX
  go_wp2_with fail
  refine HSM.out.mono ?_
  rintro _ w3 ⟨⟨b, rfl, hb⟩, hb3⟩
  have hbt : b = true := by simpa using hb
  subst hbt
  have hb13 : Below w1.heap.size w1 w3 := HB2.out.trans (hb3.mono hs2)
  have hOW3 : Own w3 w1.heap.size (.slice aa L.length ca) L := HOW.out.below hb3
  have hA1 := HH.out.below HB1.out
  have HKL := hide (keep_law W0 vp vh ps hs w3 w1.heap.size (.slice aa L.length ca) L (hA1.inv.below hb13).law hOW3 (by omega) (Nat.le_trans hA1.hn hA1.small) (hA1.inv.lists hOW3))
  have HF := hide (fun w' (vh' : Value) (x : Nat) (hl : Laid w3 w' W0 (.slice aa L.length ca) vp vh ps hs vh' x) => hA1.inv.kept hA1.ne hA1.eq hA1.pn hA1.hn hb13 hOW3 hl)
  clear hb hb3 hb13 hOW3 hA1 HSM HOW HB2 x1 xr
  go_wp2_with fail
  refine HKL.out.mono ?_
  rintro _ w4 ⟨rfl, vh', x, hl⟩
  have HE := hide (HF.out w4 vh' x hl)
  clear hl HF HKL
  go_wp2_with fail
  go_ret
  exact ⟨rfl, HE.out⟩
end Go.Proofs.YtenaelkbgkpllaaGreatDoor
/- The law's asks at Commitment. -/
namespace Go.Proofs.YtenaelkbgkpllaaGreatDoor
open Go.RowKit

set_option maxRecDepth 100000 in
set_option maxHeartbeats 4000000 in
theorem asks_commit {w0 w : World} {ow : Nat → Nat} {W0 n : Nat} {vp vh : Value} {ps : List Pr} {hs : List Nat} {i : Nat} (h : Stands w0 w ow W0 n vp vh ps hs i) (hKT : KT w0) (m r : Nat) (v u : Value) (L : List Ward.Pt) (hm : ps[i]? = some ⟨m, v, r, u, L, L⟩) (o : Opn) (hk : o.kind = 5) :
    Calls Tryz.prog 58 #[.pointer (some ⟨W0, 0, none⟩), .agg #[.pointer (some ⟨m, 0, none⟩), .pointer (some ⟨r, 0, none⟩)], .agg (opV o).toArray] w fun e w' => e = .returned (.bool true) ∧ InvE w0 w' W0 (n + 1) := by
  have HH := hide h
  have HOV := hide (show (opV o).toArray[0]? = some (I 5) by rw [← hk]; rfl)
  have HPA := hide (fun w' (hb : Below w.heap.size w w') => (h.below hb).pair hm)
  have HKT := hide (show KT w from hKT.le h.inv.base hKT.lt)
  generalize (opV o).toArray = OV at *
  have HBX := hide (boxed w #[.pointer (some ⟨m, 0, none⟩), .pointer (some ⟨r, 0, none⟩)] OV 113 76)
  clear h hm hk hKT
  have HEQ := hide (fun W => (eqCom L L W).trans (by simp : _ = Result.ok true W))
  have HCM := hide (com_of L)
  go_enter Tryz.func58, Tryz.ntmps58
  go_upto_region 1 with fail
  have hbx := HBX.out
  clear HBX
  generalize (w.alloc (.cells #[.pointer (some ⟨m, 0, none⟩), .pointer (some ⟨r, 0, none⟩)] 113)).alloc (.cells OV 76) = w1 at hbx ⊢
  obtain ⟨hb1, hx, ho⟩ := hbx
  have k0 : w1.cell? ⟨w.heap.size + 1, 0, none⟩ = some (I 5) := by rw [cell_of_row _ _ _ _ _ _ ho]; exact HOV.out
  have x0 : w1.cell? ⟨w.heap.size, 0, none⟩ = some (.pointer (some ⟨m, 0, none⟩)) := by rw [cell_of_row _ _ _ _ _ _ hx]; rfl
  have hs1 : w.heap.size + 1 < w1.heap.size := (Array.getElem?_eq_some_iff.1 ho).1
  have HB1 := hide hb1
  have HX := hide hx
  have HCP := hide (commitment_any m v L w1 (HPA.out w1 hb1).1 (HPA.out w1 hb1).2.2 (HKT.out.below hb1))
  have HCR := hide (fun W (hb : Below w.heap.size w W) => commitment_ref r u L W (HPA.out W hb).2.1 (HPA.out W hb).2.2)
  generalize commitV L = C at *
  clear hb1 hx ho HOV
  go_wp2_with fail
  refine HCP.out.mono ?_
  rintro _ w2 ⟨rfl, hb2⟩
  have hb12 : Below w.heap.size w w2 := HB1.out.trans (hb2.mono HB1.out.size)
  have hs2 := hb2.size
  have hb3' := fun o => (Below.refl w2.heap.size w2).alloc (Nat.le_refl _) o
  have hr3' := heap_alloc_new w2
  have HX2 := hide ((hb2.block w.heap.size (by omega)).trans HX.out)
  clear hb2 x0 k0 HX
  go_upto_region 9 with (refine wpList_store_row rfl 41 (.tmp 9) (.tmp 44) rfl w2.heap.size C.toArray rfl rfl 41 _ (heap_alloc_new w2 _) HCM.out.info (by rw [HCM.out.size]; rfl) HCM.out.one ?_; rw [World.setRow_alloc_new])
  generalize hW : World.alloc w2 _ = w3
  have hb3 : Below w2.heap.size w2 w3 := by rw [← hW]; exact hb3' _
  have hr3 : w3.heap[w2.heap.size]? = some (.cells C.toArray 41 (0, 0)) := by rw [← hW]; exact hr3' _
  clear hb3' hr3' hW
  have hs3 : w2.heap.size < w3.heap.size := (Array.getElem?_eq_some_iff.1 hr3).1
  have hb13 : Below w.heap.size w w3 := hb12.trans (hb3.mono hb12.size)
  have x1 : w3.cell? ⟨w.heap.size, 1, none⟩ = some (.pointer (some ⟨r, 0, none⟩)) := by
    rw [cell_of_row _ _ _ _ _ _ ((hb3.block w.heap.size (by omega)).trans HX2.out)]; rfl
  have HC3 := hide (HCR.out w3 hb13)
  have HB13 := hide hb13
  have HR3 := hide hr3
  clear hb3 hr3 hb13 hb12 HX2 HCR HCP
  go_wp2_with fail
  refine HC3.out.mono ?_
  rintro _ w4 ⟨rfl, hb4⟩
  have hs4 := hb4.size
  have HR4 := hide ((hb4.block w2.heap.size hs3).trans HR3.out)
  have hb14 : Below w.heap.size w w4 := HB13.out.trans (hb4.mono HB13.out.size)
  have HB14 := hide hb14
  have hb5' := fun o => (Below.refl w4.heap.size w4).alloc (Nat.le_refl _) o
  have hr5' := heap_alloc_new w4
  clear hb4 hb14 x1 HC3 HR3
  go_upto_region 10 with (refine wpList_store_row rfl 41 (.tmp 10) (.tmp 47) rfl w4.heap.size C.toArray rfl rfl 41 _ (heap_alloc_new w4 _) HCM.out.info (by rw [HCM.out.size]; rfl) HCM.out.one ?_; rw [World.setRow_alloc_new])
  generalize hW : World.alloc w4 _ = w5
  have hb5 : Below w4.heap.size w4 w5 := by rw [← hW]; exact hb5' _
  have hr5 : w5.heap[w4.heap.size]? = some (.cells C.toArray 41 (0, 0)) := by rw [← hW]; exact hr5' _
  clear hb5' hr5' hW
  have HR5 := hide hr5
  have HR4' := hide ((hb5.block w2.heap.size (by omega)).trans HR4.out)
  have HE := hide ((HH.out.below (HB14.out.trans (hb5.mono HB14.out.size))).invE)
  have hE := HEQ.out
  clear hb5 hr5
  go_wp2_with (first | (refine wpList_load_row rfl 41 (.tmp 9) rfl w2.heap.size rfl 41 C.toArray (0, 0) _ HR4'.out Tryz.underlying41 rfl HCM.out.info ?_) | (refine wpList_load_row rfl 41 (.tmp 10) rfl w4.heap.size rfl 41 C.toArray (0, 0) _ HR5.out Tryz.underlying41 rfl HCM.out.info ?_))
  go_ret
  exact ⟨rfl, HE.out⟩
end Go.Proofs.YtenaelkbgkpllaaGreatDoor
/- The law's asks at Digest. -/
namespace Go.Proofs.YtenaelkbgkpllaaGreatDoor
open Go.RowKit

set_option maxRecDepth 100000 in
set_option maxHeartbeats 4000000 in
theorem asks_digest {w0 w : World} {ow : Nat → Nat} {W0 n : Nat} {vp vh : Value} {ps : List Pr} {hs : List Nat} {i : Nat} (h : Stands w0 w ow W0 n vp vh ps hs i) (hKT : KT w0) (X : Array Value) (o : Opn) (hk : o.kind = 6) (hf : o.s.length ≤ 140737488351232) :
    Calls Tryz.prog 58 #[.pointer (some ⟨W0, 0, none⟩), .agg X, .agg (opV o).toArray] w fun e w' => e = .returned (.bool true) ∧ InvE w0 w' W0 (n + 1) := by
  have HH := hide h
  have HOV := hide (show (opV o).toArray[0]? = some (I 6) ∧ (opV o).toArray[14]? = some (Sv o.s) from ⟨by rw [← hk]; rfl, rfl⟩)
  have HKT := hide (show KT w from hKT.le h.inv.base hKT.lt)
  have hW0 := h.inv.law.lt
  generalize (opV o).toArray = OV at *
  generalize o.s = s at *
  have HBX := hide (boxed w X OV 113 76)
  clear h hk hKT
  have HEQ := hide (fun W => (eqArr (Sha.sha s) (Sha.sha s) rfl rfl W).trans (by simp : _ = Result.ok true W))
  obtain ⟨DV, hDV⟩ : ∃ DV, (Sha.sha s).map Y = DV := ⟨_, rfl⟩
  have HDL := hide (show DV.length = 32 by rw [← hDV, List.length_map]; rfl)
  have HDG := hide (fun W => digest_const s DV W hf hDV)
  have HDY := hide (show DV = (Sha.sha s).map Y from hDV.symm)
  have HDP := hide (fun W (hK : KT W) => digest_any ⟨s.toArray⟩ DV W (by show s.toArray.size ≤ _; rw [List.size_toArray]; omega) hK (by rw [show (⟨s.toArray⟩ : ByteArray).data.toList = s from rfl]; exact hDV))
  have HD1 := hide (show DV.toArray.all (·.oneCell') = true by
    rw [List.all_toArray, List.all_eq_true]
    intro v hv
    rw [HDY.out] at hv
    obtain ⟨x, _, rfl⟩ := List.mem_map.1 hv
    rfl)
  have HDI := hide (show (Tryz.prog.info? 39).map (·.size) = some DV.toArray.size by rw [List.size_toArray, HDL.out]; exact Tryz.info22)
  have HDS := hide (show DV.toArray.size = 32 by rw [List.size_toArray, HDL.out])
  rw [hDV] at HEQ
  clear hDV
  go_enter Tryz.func58, Tryz.ntmps58
  go_upto_region 1 with fail
  have hbx := HBX.out
  clear HBX
  generalize (w.alloc (.cells X 113)).alloc (.cells OV 76) = w1 at hbx ⊢
  obtain ⟨hb1, hx, ho⟩ := hbx
  have k0 : w1.cell? ⟨w.heap.size + 1, 0, none⟩ = some (I 6) := by rw [cell_of_row _ _ _ _ _ _ ho]; exact HOV.out.1
  have k14 : w1.cell? ⟨w.heap.size + 1, 14, none⟩ = some (Sv s) := by rw [cell_of_row _ _ _ _ _ _ ho]; exact HOV.out.2
  have hs1 : w.heap.size + 1 < w1.heap.size := (Array.getElem?_eq_some_iff.1 ho).1
  have HB1 := hide hb1
  have HO := hide ho
  have HK1 := hide (HKT.out.below hb1)
  clear hb1 hx ho
  go_wp2_with fail
  refine (HDP.out w1 HK1.out).mono ?_
  rintro _ w2 ⟨rfl, hb2⟩
  have hb12 : Below w.heap.size w w2 := HB1.out.trans (hb2.mono HB1.out.size)
  have hs2 := hb2.size
  have hb3' := fun o => (Below.refl w2.heap.size w2).alloc (Nat.le_refl _) o
  have hr3' := heap_alloc_new w2
  have HO2 := hide ((hb2.block (w.heap.size + 1) hs1).trans HO.out)
  clear hb2 k0 k14 HO
  go_upto_region 13 with (refine wpList_store_rowTo rfl 39 (.tmp 11) (.tmp 55) rfl rfl w2.heap.size DV.toArray rfl rfl 39 _ (heap_alloc_new w2 _) HDI.out (by rw [HDS.out]; rfl) HD1.out ?_; rw [World.setRow_alloc_new])
  generalize hW : World.alloc w2 _ = w3
  have hb3 : Below w2.heap.size w2 w3 := by rw [← hW]; exact hb3' _
  have hr3 : w3.heap[w2.heap.size]? = some (.cells DV.toArray 39 (0, 0)) := by rw [← hW]; exact hr3' _
  clear hb3' hr3' hW
  have hs3 : w2.heap.size < w3.heap.size := (Array.getElem?_eq_some_iff.1 hr3).1
  have hb13 : Below w.heap.size w w3 := hb12.trans (hb3.mono hb12.size)
  have hL3 := (HH.out.below hb13).inv.law
  have hRC : w3.rangeAt W0 2 constV := fun k v hv => by
    rw [cell_of_row _ _ _ _ _ _ hL3.row, List.getElem?_toArray, Nat.add_comm 2 k]
    exact hv
  have hc14 : w3.cell? ⟨w.heap.size + 1, 14, none⟩ = some (Sv s) := by rw [cell_of_row _ _ _ _ _ _ ((hb3.block (w.heap.size + 1) (by omega)).trans HO2.out)]; exact HOV.out.2
  have HB13 := hide hb13
  have HR3 := hide hr3
  have hW3 : W0 < w3.heap.size := by omega
  have hw3 : w.heap.size + 1 < w3.heap.size := by omega
  clear hb3 hr3 hb13 hb12 HO2 hL3 HDP
  go_cut [12] from 56 to 62 (fun v12 wx => ∃ gd, v12 = .pointer (some ⟨gd, 0, none⟩) ∧ w3.heap.size ≤ gd ∧ gd < wx.heap.size ∧ wx.rangeAt gd 0 DV ∧ Below w3.heap.size w3 wx)
  case first =>
    have hS : w3.drew.rangeAt W0 2 constV ∧ w3.drew.cell? ⟨w.heap.size + 1, 14, none⟩ = some (Sv s) := ⟨fun k v hv => hRC k v hv, by simpa using hc14⟩
    have hIC : (Tryz.prog.info? 67).map (·.size) = some constV.length := by rw [constV_len]; exact Tryz.infoConst
    have HCA := hide (fun (W W' : World) (hb : Below W.heap.size W W') (hw : w3.heap.size ≤ W.heap.size) (h : W.rangeAt W0 2 constV ∧ W.cell? ⟨w.heap.size + 1, 14, none⟩ = some (Sv s)) => show W'.rangeAt W0 2 constV ∧ W'.cell? ⟨w.heap.size + 1, 14, none⟩ = some (Sv s) from ⟨fun k v hv => (hb.cell (p := ⟨W0, 2 + k, none⟩) (by show W0 < _; omega)).trans (h.1 k v hv), (hb.cell (p := ⟨w.heap.size + 1, 14, none⟩) (by show w.heap.size + 1 < _; omega)).trans h.2⟩)
    refine wp_region_L 8 (fun W => W.rangeAt W0 2 constV ∧ W.cell? ⟨w.heap.size + 1, 14, none⟩ = some (Sv s)) (by kernel_rfl) hS (fun hH => ?_)
    clear hS hRC
    refine wpAnyL_take (i := 0) (v := ?_) rfl (by kernel_rfl) (by kernel_rfl) (by kernel_rfl) (by kernel_rfl) (by kernel_rfl) (fun _ _ _ h => h) (Or.inl ⟨by rfl, ?_⟩) hH ?_
    rotate_left
    · intro W hSW
      obtain ⟨zc, zs⟩ := hSW
      go_simp
      try with_reducible rfl
    try go_simp
    refine wpAnyL_take (i := 1) (v := ?_) rfl (by kernel_rfl) (by kernel_rfl) (by kernel_rfl) (by kernel_rfl) (by kernel_rfl) (fun _ _ _ h => h) (Or.inl ⟨by rfl, ?_⟩) hH ?_
    rotate_left
    · intro W hSW
      obtain ⟨zc, zs⟩ := hSW
      go_simp
      try with_reducible rfl
    try go_simp
    refine wpAnyL_take (i := 2) (v := ?_) rfl (by kernel_rfl) (by kernel_rfl) (by kernel_rfl) (by kernel_rfl) (by kernel_rfl) (fun _ _ _ h => h) (Or.inl ⟨by rfl, ?_⟩) hH ?_
    rotate_left
    · intro W hSW
      obtain ⟨zc, zs⟩ := hSW
      go_simp
      try with_reducible rfl
    try go_simp
    refine wpAnyL_take (i := 3) (v := .agg constV.toArray) rfl (by kernel_rfl) (by kernel_rfl) (by kernel_rfl) (by kernel_rfl) (by kernel_rfl) (fun _ _ _ h => h) (yieldsIf_load_mid (by rfl) _ _ rfl W0 2 rfl constV _ (fun W hW => hW.1) Tryz.underlying67 rfl hIC) hH ?_
    generalize constV.toArray = CA at *
    try go_simp
    refine wpAnyL_take (i := 4) (v := ?_) rfl (by kernel_rfl) (by kernel_rfl) (by kernel_rfl) (by kernel_rfl) (by kernel_rfl) (fun _ _ _ h => h) (Or.inl ⟨by rfl, ?_⟩) hH ?_
    rotate_left
    · intro W hSW
      obtain ⟨zc, zs⟩ := hSW
      go_simp
      try with_reducible rfl
    try go_simp
    refine wpAnyL_take (i := 5) (v := ?_) rfl (by kernel_rfl) (by kernel_rfl) (by kernel_rfl) (by kernel_rfl) (by kernel_rfl) (fun _ _ _ h => h) (Or.inl ⟨by rfl, ?_⟩) hH ?_
    rotate_left
    · intro W hSW
      obtain ⟨zc, zs⟩ := hSW
      go_simp
      try with_reducible rfl
    try go_simp
    have hD32 : DV.toArray.size = 32 := by rw [List.size_toArray, HDL.out]
    have hD1 : DV.toArray.all (·.oneCell') = true := by
      rw [List.all_toArray, List.all_eq_true]
      intro v hv
      rw [HDY.out] at hv
      obtain ⟨x, _, rfl⟩ := List.mem_map.1 hv
      rfl
    refine wpAnyL_two (i := 6) (j := 7) (by kernel_rfl) rfl rfl (fun K hK => ?_) (fun K hK => ?_)
    · go_simp
      refine (HDG.out _).mono ?_
      rintro _ w7 ⟨rfl, hb7⟩
      have hb67 : Below w3.heap.size w3 w7 := (show Below w3.heap.size w3 w3.drew from (Below.refl _ _).drew).trans hb7
      have hs7 : w3.heap.size ≤ w7.heap.size := hb67.size
      have hH7 := HCA.out _ _ hb7 (Nat.le_refl _) hH
      refine hK.out _ _ (fun _ => hH7) ?_
      clear hK K
      try go_simp
      refine wpAnyL_one (i := 7) (by kernel_rfl) rfl (fun K hK => ?_)
      go_simp
      have hn8 := heap_alloc_new w7
      have hb8 := fun o => (Below.refl w7.heap.size w7).alloc (Nat.le_refl _) o
      generalize hW : World.alloc w7 _ = w8
      obtain ⟨zz, hz32, hz8⟩ : ∃ zz : Array Value, zz.size = 32 ∧ w8.heap[w7.heap.size]? = some (.cells zz 39 (0, 0)) := by rw [← hW]; exact ⟨_, rfl, hn8 _⟩
      have hb78 : Below w7.heap.size w7 w8 := by rw [← hW]; exact hb8 _
      clear hW hn8 hb8
      refine hK.out _ _ (fun _ => HCA.out _ _ hb78 hs7 hH7) ?_
      clear hK K
      try go_simp
      refine wpAnyL_one (i := 8) (by kernel_rfl) rfl (fun K hK => ?_)
      rw [if_pos (by rfl)]
      refine wp_store_mid _ _ _ rfl w7.heap.size 0 DV.toArray rfl rfl (by rw [hD32]; exact there_of_row hz8 hz32) (by rw [hD32]; exact Tryz.info22) hD1 ?_
      refine hK.out _ _ (fun h => absurd rfl h) ?_
      clear hK K
      refine wpAnyL_done (by kernel_rfl) ?_ _
      have hs8 : w7.heap.size < w8.heap.size := (Array.getElem?_eq_some_iff.1 hz8).1
      have hbF : Below w3.heap.size w3 (w8.setCells w7.heap.size 0 DV.toArray.toList) := below_setCellsN hs7 _ _ _ (hb67.trans (hb78.mono hs7))
      have hsF : w7.heap.size < (w8.setCells w7.heap.size 0 DV.toArray.toList).heap.size := Nat.lt_of_lt_of_le hs8 (below_setCellsN (Nat.le_refl _) _ _ _ (Below.refl w7.heap.size w8)).size
      have hrF : (w8.setCells w7.heap.size 0 DV.toArray.toList).rangeAt w7.heap.size 0 DV := World.rangeAt_setCells_same _ _ _ _ (by rw [HDL.out]; exact there_of_row hz8 hz32)
      go_wp2_with fail
      go_meet
      exact ⟨w7.heap.size, rfl, hs7, hsF, hrF, hbF⟩
    · go_simp
      have hn8 := heap_alloc_new w3
      have hb8 := fun o => ((Below.refl w3.heap.size w3).alloc (Nat.le_refl _) o).drew
      have hH6 : w3.rangeAt W0 2 constV ∧ w3.cell? ⟨w.heap.size + 1, 14, none⟩ = some (Sv s) := ⟨fun k v hv => by simpa using hH.1 k v hv, by simpa using hH.2⟩
      generalize hW : World.drew (World.alloc w3 _) = w7
      obtain ⟨zz, hz32, hz7⟩ : ∃ zz : Array Value, zz.size = 32 ∧ w7.heap[w3.heap.size]? = some (.cells zz 39 (0, 0)) := by rw [← hW]; exact ⟨_, rfl, hn8 _⟩
      have hb67 : Below w3.heap.size w3 w7 := by rw [← hW]; exact hb8 _
      clear hW hn8 hb8
      have hs7 : w3.heap.size < w7.heap.size := (Array.getElem?_eq_some_iff.1 hz7).1
      have hH7 := HCA.out _ _ hb67 (Nat.le_refl _) hH6
      refine hK.out _ _ (fun _ => hH7) ?_
      clear hK K
      try go_simp
      refine wpAnyL_one (i := 6) (by kernel_rfl) rfl (fun K hK => ?_)
      go_simp
      refine (HDG.out _).mono ?_
      rintro _ w8 ⟨rfl, hb8⟩
      have hz8 := (hb8.block w3.heap.size hs7).trans hz7
      refine hK.out _ _ (fun _ => HCA.out _ _ hb8 (Nat.le_of_lt hs7) hH7) ?_
      clear hK K
      try go_simp
      refine wpAnyL_one (i := 8) (by kernel_rfl) rfl (fun K hK => ?_)
      rw [if_pos (by rfl)]
      refine wp_store_mid _ _ _ rfl w3.heap.size 0 DV.toArray rfl rfl (by rw [hD32]; exact there_of_row hz8 hz32) (by rw [hD32]; exact Tryz.info22) hD1 ?_
      refine hK.out _ _ (fun h => absurd rfl h) ?_
      clear hK K
      refine wpAnyL_done (by kernel_rfl) ?_ _
      have hs8 : w3.heap.size < w8.heap.size := (Array.getElem?_eq_some_iff.1 hz8).1
      have hbF : Below w3.heap.size w3 (w8.setCells w3.heap.size 0 DV.toArray.toList) := below_setCellsN (Nat.le_refl _) _ _ _ (hb67.trans (hb8.mono (Nat.le_of_lt hs7)))
      have hsF : w3.heap.size < (w8.setCells w3.heap.size 0 DV.toArray.toList).heap.size := Nat.lt_of_lt_of_le hs8 (below_setCellsN (Nat.le_refl _) _ _ _ (Below.refl w3.heap.size w8)).size
      have hrF : (w8.setCells w3.heap.size 0 DV.toArray.toList).rangeAt w3.heap.size 0 DV := World.rangeAt_setCells_same _ _ _ _ (by rw [HDL.out]; exact there_of_row hz8 hz32)
      go_wp2_with fail
      go_meet
      exact ⟨w3.heap.size, rfl, (Nat.le_refl _), hsF, hrF, hbF⟩
  case rest =>
    obtain ⟨gd, rfl, hgd0, hgd, hrd, hb4⟩ := hcut
    have HR4 := hide ((hb4.block w2.heap.size hs3).trans HR3.out)
    have HE := hide ((HH.out.below (HB13.out.trans (hb4.mono HB13.out.size))).invE)
    have HRD := hide hrd
    have HID := hide (show (Tryz.prog.info? 39).map (·.size) = some DV.length by rw [HDL.out]; exact Tryz.info22)
    have hE := HEQ.out
    clear hb4 hrd hRC hc14
    generalize wc = w4 at *
    go_wp2_with (first | (refine wpList_load_row rfl 39 (.tmp 11) rfl w2.heap.size rfl 39 DV.toArray (0, 0) _ HR4.out Tryz.underlying39 rfl HDI.out ?_) | (refine wpList_load_mid rfl 39 (.tmp 12) rfl gd 0 rfl DV _ HRD.out Tryz.underlying39 rfl HID.out ?_))
    go_ret
    exact ⟨rfl, HE.out⟩
end Go.Proofs.YtenaelkbgkpllaaGreatDoor
/- The law's step, for the kinds up to Prove. -/
namespace Go.Proofs.YtenaelkbgkpllaaGreatDoor
open Go.RowKit

theorem boxed1 (w : World) (Z : Array Value) (b : TypeId) : Below w.heap.size w (w.alloc (.cells Z b)) ∧ (w.alloc (.cells Z b)).heap[w.heap.size]? = some (.cells Z b (0, 0)) := ⟨(Below.refl w.heap.size w).alloc (Nat.le_refl _) _, heap_alloc_new w _⟩
theorem Tryz.sizeOp : (Tryz.prog.info? 76).map (·.size) = some 48 := by kernel_rfl
/-- which map is meant -/
def pickI (M : Int) (N : Nat) : Nat := ((M.tmod N + N).tmod N).toNat
theorem pick_lt {M : Int} {N : Nat} (h : 0 < N) : 0 ≤ (M.tmod N + N).tmod N ∧ (M.tmod N + N).tmod N < N ∧ -(N : Int) < M.tmod N ∧ M.tmod N < N := by
  have hN : (0 : Int) < N := by omega
  have h2 : M.tmod N < N := Int.tmod_lt_of_pos _ hN
  have h1 : -(N : Int) < M.tmod N := by
    have h3 : (-M).tmod N < N := Int.tmod_lt_of_pos _ hN
    rw [Int.neg_tmod] at h3
    omega
  exact ⟨Int.tmod_nonneg _ (by omega), Int.tmod_lt_of_pos _ hN, h1, h2⟩
set_option maxRecDepth 100000 in
set_option maxHeartbeats 4000000 in
theorem step_law {w0 w : World} {ow : Nat → Nat} {W0 n : Nat} {vp vh : Value} {ps : List Pr} {hs : List Nat} (o : Opn) (hF : o.Fit) (hk : o.kind ≤ 8) (hk1 : o.kind ≠ 1) (h : Stands w0 w ow W0 n vp vh ps hs (pickI o.m ps.length))
    (m r : Nat) (v u : Value) (L : List Ward.Pt) (hm : ps[pickI o.m ps.length]? = some ⟨m, v, r, u, L, L⟩)
    (hA : 4 ≤ o.kind → ∀ w', Below w.heap.size w w' → Calls Tryz.prog 58 #[.pointer (some ⟨W0, 0, none⟩), .agg #[.pointer (some ⟨m, 0, none⟩), .pointer (some ⟨r, 0, none⟩)], .agg (opV o).toArray] w' fun e w'' => e = .returned (.bool true) ∧ InvE w0 w'' W0 (n + 1)) :
    Calls Tryz.prog 28 #[.pointer (some ⟨W0, 0, none⟩), .agg (opV o).toArray] w fun e w' => e = .returned (.bool true) ∧ InvE w0 w' W0 (n + 1) := by
  obtain ⟨g, c, evp, hnc, hcell⟩ := h.inv.law.pair_at h.ne
  have hN : 0 < ps.length := List.length_pos_iff.2 h.ne
  have hNs : ps.length ≤ 1000000000000 := Nat.le_trans h.pn h.small
  have hjl := h.lt
  obtain ⟨hp1, hp2, hp3, hp4⟩ := pick_lt (M := o.m) hN
  have hMb := hF.m
  obtain ⟨j, hj⟩ : ∃ j, pickI o.m ps.length = j := ⟨_, rfl⟩
  have hjt : ((o.m.tmod ps.length + ps.length).tmod ps.length).toNat = j := hj
  rw [hj] at h hm hjl
  have HH := hide h
  have HOV := hide (show (opV o).toArray[0]? = some (I o.kind) ∧ (opV o).toArray[1]? = some (I o.m) from ⟨rfl, rfl⟩)
  have HOP := hide (show (opV o).toArray[2]? = some (I o.a) ∧ (opV o).toArray[3]? = some (I o.p.id) ∧ (opV o).toArray[4]? = some (I o.p.x) ∧ (opV o).toArray[5]? = some (I o.p.y) ∧ (opV o).toArray.size = 48 from ⟨rfl, rfl, rfl, rfl, by rw [List.size_toArray]; exact opV_len hF.root⟩)
  have HCL := hide (fun w' hb => And.intro (hcell w' hb).1 ((hcell w' hb).2 j hjl))
  have HEM := hide (show ps[j] = ⟨m, v, r, u, L, L⟩ from (List.getElem?_eq_some_iff.1 hm).2)
  obtain ⟨OV, hOV⟩ : ∃ OV, (opV o).toArray = OV := ⟨_, rfl⟩
  rw [hOV] at HOV HOP hA ⊢
  have HA := hide hA
  clear hA
  have HBX := hide (boxed1 w OV 76)
  clear h hcell
  go_enter Tryz.func28, Tryz.ntmps28
  go_upto_region 1 with fail
  have hbx := HBX.out
  clear HBX
  generalize w.alloc (.cells OV 76) = w1 at hbx ⊢
  obtain ⟨hb1, hx⟩ := hbx
  have k0 : w1.cell? ⟨w.heap.size, 0, none⟩ = some (I o.kind) := by rw [cell_of_row _ _ _ _ _ _ hx]; exact HOV.out.1
  have k1 : w1.cell? ⟨w.heap.size, 1, none⟩ = some (I o.m) := by rw [cell_of_row _ _ _ _ _ _ hx]; exact HOV.out.2
  obtain ⟨q0, q1', q2'⟩ := HCL.out w1 hb1
  have q1 : w1.cell? ⟨g, j * 2, none⟩ = some (.pointer (some ⟨m, 0, none⟩)) := by rw [q1', HEM.out]
  have q2 : w1.cell? ⟨g, j * 2 + 1, none⟩ = some (.pointer (some ⟨r, 0, none⟩)) := by rw [q2', HEM.out]
  clear q1' q2'
  subst evp
  have hs1 : w.heap.size < w1.heap.size := (Array.getElem?_eq_some_iff.1 hx).1
  have HB1 := hide hb1
  have HX := hide hx
  clear hb1 hx HCL
  obtain ⟨kd, hk0⟩ : ∃ kd, o.kind = kd := ⟨_, rfl⟩
  rw [hk0] at hk hk1 k0 HOV
  generalize o.m = M at *
  have hkb : (kd == 1) = false := by simpa using hk1
  go_upto_region 4 with fail
  have hne : ¬ ps = [] := fun e => by rw [e] at hN; simp at hN
  have hwr : IntKind.i64.wrap (M.tmod ↑ps.length + ↑ps.length) = M.tmod ↑ps.length + ↑ps.length := by rw [IntKind.wrap_i64]; omega
  go_cut [6] from 24 to 37 (fun v6 wx => ∃ gx, v6 = .pointer (some ⟨gx, 0, none⟩) ∧ w1.heap.size ≤ gx ∧ wx.heap[gx]? = some (.cells #[.pointer (some ⟨m, 0, none⟩), .pointer (some ⟨r, 0, none⟩)] 113 (0, 0)) ∧ Below w1.heap.size w1 wx)
  case first =>
    have hS : w1.drew.cell? ⟨W0, 0, none⟩ = some (.slice (some ⟨g, 0, none⟩) ps.length c) ∧ w1.drew.cell? ⟨w.heap.size, 1, none⟩ = some (I M) ∧ w1.drew.cell? ⟨g, j * 2, none⟩ = some (.pointer (some ⟨m, 0, none⟩)) ∧ w1.drew.cell? ⟨g, j * 2 + 1, none⟩ = some (.pointer (some ⟨r, 0, none⟩)) := ⟨by simpa using q0, by simpa using k1, by simpa using q1, by simpa using q2⟩
    refine wp_region_L 15 (fun W => W.cell? ⟨W0, 0, none⟩ = some (.slice (some ⟨g, 0, none⟩) ps.length c) ∧ W.cell? ⟨w.heap.size, 1, none⟩ = some (I M) ∧ W.cell? ⟨g, j * 2, none⟩ = some (.pointer (some ⟨m, 0, none⟩)) ∧ W.cell? ⟨g, j * 2 + 1, none⟩ = some (.pointer (some ⟨r, 0, none⟩))) (by kernel_rfl) hS (fun hH => ?_)
    clear hS
    refine wpAnyL_take (i := 0) (v := ?_) rfl (by kernel_rfl) (by kernel_rfl) (by kernel_rfl) (by kernel_rfl) (by kernel_rfl) (fun _ _ _ h => h) (Or.inl ⟨by rfl, ?_⟩) hH ?_
    rotate_left
    · intro W hSW
      obtain ⟨zp, zm, z0, z1⟩ := hSW
      go_simp
      try with_reducible rfl
    try go_simp
    refine wpAnyL_take (i := 1) (v := ?_) rfl (by kernel_rfl) (by kernel_rfl) (by kernel_rfl) (by kernel_rfl) (by kernel_rfl) (fun _ _ _ h => h) (Or.inl ⟨by rfl, ?_⟩) hH ?_
    rotate_left
    · intro W hSW
      obtain ⟨zp, zm, z0, z1⟩ := hSW
      go_simp
      try with_reducible rfl
    try go_simp
    refine wpAnyL_take (i := 2) (v := ?_) rfl (by kernel_rfl) (by kernel_rfl) (by kernel_rfl) (by kernel_rfl) (by kernel_rfl) (fun _ _ _ h => h) (Or.inl ⟨by rfl, ?_⟩) hH ?_
    rotate_left
    · intro W hSW
      obtain ⟨zp, zm, z0, z1⟩ := hSW
      go_simp
      try with_reducible rfl
    try go_simp
    refine wpAnyL_take (i := 3) (v := ?_) rfl (by kernel_rfl) (by kernel_rfl) (by kernel_rfl) (by kernel_rfl) (by kernel_rfl) (fun _ _ _ h => h) (Or.inl ⟨by rfl, ?_⟩) hH ?_
    rotate_left
    · intro W hSW
      obtain ⟨zp, zm, z0, z1⟩ := hSW
      go_simp
      try with_reducible rfl
    try go_simp
    refine wpAnyL_take (i := 4) (v := ?_) rfl (by kernel_rfl) (by kernel_rfl) (by kernel_rfl) (by kernel_rfl) (by kernel_rfl) (fun _ _ _ h => h) (Or.inl ⟨by rfl, ?_⟩) hH ?_
    rotate_left
    · intro W hSW
      obtain ⟨zp, zm, z0, z1⟩ := hSW
      go_simp
      try with_reducible rfl
    try go_simp
    refine wpAnyL_take (i := 5) (v := ?_) rfl (by kernel_rfl) (by kernel_rfl) (by kernel_rfl) (by kernel_rfl) (by kernel_rfl) (fun _ _ _ h => h) (Or.inl ⟨by rfl, ?_⟩) hH ?_
    rotate_left
    · intro W hSW
      obtain ⟨zp, zm, z0, z1⟩ := hSW
      go_simp
      try with_reducible rfl
    try go_simp
    refine wpAnyL_take (i := 6) (v := ?_) rfl (by kernel_rfl) (by kernel_rfl) (by kernel_rfl) (by kernel_rfl) (by kernel_rfl) (fun _ _ _ h => h) (Or.inl ⟨by rfl, ?_⟩) hH ?_
    rotate_left
    · intro W hSW
      obtain ⟨zp, zm, z0, z1⟩ := hSW
      go_simp
      try with_reducible rfl
    try go_simp
    refine wpAnyL_take (i := 7) (v := ?_) rfl (by kernel_rfl) (by kernel_rfl) (by kernel_rfl) (by kernel_rfl) (by kernel_rfl) (fun _ _ _ h => h) (Or.inl ⟨by rfl, ?_⟩) hH ?_
    rotate_left
    · intro W hSW
      obtain ⟨zp, zm, z0, z1⟩ := hSW
      go_simp
      try with_reducible rfl
    try go_simp
    refine wpAnyL_take (i := 8) (v := ?_) rfl (by kernel_rfl) (by kernel_rfl) (by kernel_rfl) (by kernel_rfl) (by kernel_rfl) (fun _ _ _ h => h) (Or.inl ⟨by rfl, ?_⟩) hH ?_
    rotate_left
    · intro W hSW
      obtain ⟨zp, zm, z0, z1⟩ := hSW
      go_simp
      try with_reducible rfl
    try go_simp
    refine wpAnyL_take (i := 9) (v := ?_) rfl (by kernel_rfl) (by kernel_rfl) (by kernel_rfl) (by kernel_rfl) (by kernel_rfl) (fun _ _ _ h => h) (Or.inl ⟨by rfl, ?_⟩) hH ?_
    rotate_left
    · intro W hSW
      obtain ⟨zp, zm, z0, z1⟩ := hSW
      go_simp
      try with_reducible rfl
    try go_simp
    refine wpAnyL_take (i := 10) (v := ?_) rfl (by kernel_rfl) (by kernel_rfl) (by kernel_rfl) (by kernel_rfl) (by kernel_rfl) (fun _ _ _ h => h) (Or.inl ⟨by rfl, ?_⟩) hH ?_
    rotate_left
    · intro W hSW
      obtain ⟨zp, zm, z0, z1⟩ := hSW
      go_simp
      try with_reducible rfl
    try go_simp
    refine wpAnyL_take (i := 11) (v := ?_) rfl (by kernel_rfl) (by kernel_rfl) (by kernel_rfl) (by kernel_rfl) (by kernel_rfl) (fun _ _ _ h => h) (Or.inl ⟨by rfl, ?_⟩) hH ?_
    rotate_left
    · intro W hSW
      obtain ⟨zp, zm, z0, z1⟩ := hSW
      go_simp
      try with_reducible rfl
    try go_simp
    refine wpAnyL_take (i := 12) (v := ?_) rfl (by kernel_rfl) (by kernel_rfl) (by kernel_rfl) (by kernel_rfl) (by kernel_rfl) (fun _ _ _ h => h) (Or.inl ⟨by rfl, ?_⟩) hH ?_
    rotate_left
    · intro W hSW
      obtain ⟨zp, zm, z0, z1⟩ := hSW
      go_simp
      try with_reducible rfl
    try go_simp
    refine wpAnyL_take (i := 13) (v := ?_) rfl (by kernel_rfl) (by kernel_rfl) (by kernel_rfl) (by kernel_rfl) (by kernel_rfl) (fun _ _ _ h => h) (Or.inl ⟨by rfl, ?_⟩) hH ?_
    rotate_left
    · intro W hSW
      obtain ⟨zp, zm, z0, z1⟩ := hSW
      go_simp
      try with_reducible rfl
    try go_simp
    refine wpAnyL_one (i := 14) (by kernel_rfl) rfl (fun K hK => ?_)
    go_simp
    have hn2 := heap_alloc_new w1
    have hb2' := fun o => ((Below.refl w1.heap.size w1).alloc (Nat.le_refl _) o).drew
    refine hK.out _ _ (fun _ => ?_) ?_
    · obtain ⟨z1, z2, z3, z4⟩ := hH
      have hb3 := hb2' (.cells #[.pointer none, .pointer none] 113)
      exact ⟨(hb3.cell (p := ⟨W0, 0, none⟩) (block_lt_of_cell q0)).trans q0, (hb3.cell (p := ⟨w.heap.size, 1, none⟩) (block_lt_of_cell k1)).trans k1, (hb3.cell (p := ⟨g, j * 2, none⟩) (block_lt_of_cell q1)).trans q1, (hb3.cell (p := ⟨g, j * 2 + 1, none⟩) (block_lt_of_cell q2)).trans q2⟩
    clear hK K
    try go_simp
    refine wpAnyL_one (i := 15) (by kernel_rfl) rfl (fun K hK => ?_)
    go_simp
    refine hK.out _ _ (fun h => absurd rfl h) ?_
    clear hK K
    refine wpAnyL_done (by kernel_rfl) ?_ _
    go_wp2_with fail
    go_meet
    exact ⟨w1.heap.size, rfl, Nat.le_refl _, hn2 _, hb2' _⟩
  case rest =>
    obtain ⟨gx, rfl, hgx, hrx, hb2⟩ := hcut
    generalize wc = w2 at *
    have HBW := hide (HB1.out.trans (hb2.mono HB1.out.size))
    have HS2 := hide (HH.out.below HBW.out)
    have HML := hide (show ∀ k, Mine m v k → k < w.heap.size from fun k hk => (HH.out.pair hm).1.mine_lt hk)
    have hro := (hb2.block w.heap.size hs1).trans HX.out
    have HRO := hide hro
    have k2 : w2.cell? ⟨w.heap.size, 0, none⟩ = some (I kd) := by rw [cell_of_row _ _ _ _ _ _ hro]; exact HOV.out.1
    have x0 : w2.cell? ⟨gx, 0, none⟩ = some (.pointer (some ⟨m, 0, none⟩)) := by rw [cell_of_row _ _ _ _ _ _ hrx]; rfl
    have x1 : w2.cell? ⟨gx, 1, none⟩ = some (.pointer (some ⟨r, 0, none⟩)) := by rw [cell_of_row _ _ _ _ _ _ hrx]; rfl
    have HRX := hide hrx
    clear q0 q1 q2 k0 k1 hp1 hp2 hp3 hp4 hjt hwr hMb hb2 hro hrx HX hN hne
    by_cases e2 : kd = 2
    · subst e2
      obtain ⟨hM, hR, hG⟩ := HS2.out.pair hm
      have y3 : w2.cell? ⟨w.heap.size, 3, none⟩ = some (I o.p.id) := by rw [cell_of_row _ _ _ _ _ _ HRO.out]; exact HOP.out.2.1
      have y4 : w2.cell? ⟨w.heap.size, 4, none⟩ = some (I o.p.x) := by rw [cell_of_row _ _ _ _ _ _ HRO.out]; exact HOP.out.2.2.1
      have y5 : w2.cell? ⟨w.heap.size, 5, none⟩ = some (I o.p.y) := by rw [cell_of_row _ _ _ _ _ _ HRO.out]; exact HOP.out.2.2.2.1
      have HIN := hide (mapInsert_any m v L o.p w2 hM hG)
      have HIR := hide (fun w3 (hr : RMap w3 r u L) => insert_ref r u L o.p w3 hr hG)
      have HGI := hide (hG.insert o.p)
      generalize o.p = p at *
      obtain ⟨pi, px, py⟩ := p
      clear hM hR hG
      go_wp2_with fail
      refine HIN.out.mono ?_
      rintro _ w3 ⟨rfl, v', hm3, hf3, hk3⟩
      have hx3 : w3.heap[gx]? = w2.heap[gx]? := hk3.block gx ((Array.getElem?_eq_some_iff.1 HRX.out).1) (fun e => by have := HML.out gx e; omega)
      have ho3 : w3.heap[w.heap.size]? = w2.heap[w.heap.size]? := hk3.block w.heap.size ((Array.getElem?_eq_some_iff.1 HRO.out).1) (fun e => by have := HML.out _ e; omega)
      have x1' : w3.cell? ⟨gx, 1, none⟩ = some (.pointer (some ⟨r, 0, none⟩)) := by rw [World.cell?_of_block (a := ⟨gx, 1, none⟩) hx3]; exact x1
      have z3 : w3.cell? ⟨w.heap.size, 3, none⟩ = some (I pi) := by rw [World.cell?_of_block (a := ⟨w.heap.size, 3, none⟩) ho3]; exact y3
      have z4 : w3.cell? ⟨w.heap.size, 4, none⟩ = some (I px) := by rw [World.cell?_of_block (a := ⟨w.heap.size, 4, none⟩) ho3]; exact y4
      have z5 : w3.cell? ⟨w.heap.size, 5, none⟩ = some (I py) := by rw [World.cell?_of_block (a := ⟨w.heap.size, 5, none⟩) ho3]; exact y5
      have HI3 := hide (HIR.out w3 (HS2.out.half hm hk3))
      have H1 := hide (show ∃ v', IsMap w3 m v' (insList L ⟨pi, px, py⟩) ∧ Fresh w2 v v' ∧ Keeps (Mine m v) w2 w3 from ⟨v', hm3, hf3, hk3⟩)
      generalize insCode L ⟨pi, px, py⟩ = code at *
      clear hm3 hf3 hk3 hx3 ho3 y3 y4 y5 x0 x1 k2 HIN HIR
      go_wp2_with fail
      refine HI3.out.mono ?_
      rintro _ w4 ⟨rfl, hu⟩
      have HE := hide (HS2.out.two hm HGI.out H1.out hu)
      clear hu z3 z4 z5 x1'
      go_wp2_with fail
      go_ret
      exact ⟨rfl, HE.out⟩
    · by_cases e3 : kd = 3
      · subst e3
        obtain ⟨hM, hR, hG⟩ := HS2.out.pair hm
        have y2 : w2.cell? ⟨w.heap.size, 2, none⟩ = some (I o.a) := by rw [cell_of_row _ _ _ _ _ _ HRO.out]; exact HOP.out.1
        have hl150 := hG.many
        have HDE := hide (show Calls Tryz.prog 19 #[.pointer (some ⟨m, 0, none⟩), I o.a] w2 fun e w3 => ∃ c L', Good L' ∧ (∃ v', IsMap w3 m v' L' ∧ Fresh w2 v v' ∧ Keeps (Mine m v) w2 w3) ∧ e = .returned (I c) ∧ ∀ w3, RMap w3 r u L → Calls Tryz.prog 57 #[.pointer (some ⟨r, 0, none⟩), I o.a] w3 fun e w4 => InsertedR w3 r u L' c e w4 from by
          by_cases hid : ∃ q ∈ L, q.id = o.a
          · refine (mapDelete_any m v L o.a w2 hM (by omega) hid).mono ?_
            rintro e w3 ⟨rfl, v', i, hi, hii, hm3, hf3, hk3⟩
            refine ⟨0, L.eraseIdx i, good_erase hG i, ⟨v', hm3, hf3, hk3⟩, rfl, fun w3 hr3 => ?_⟩
            refine (rdelete_yes r u L o.a w3 hr3 (by omega) hid).mono ?_
            rintro e w4 ⟨i', hi', hii', h4⟩
            have : i = i' := Ward.ids_index hG.ids hi hi' (hii.trans hii'.symm)
            subst this
            exact h4
          · refine (mapDelete_no m v L o.a w2 hM (by omega) hid).mono ?_
            rintro e w3 ⟨rfl, h3⟩
            exact ⟨4, L, hG, h3, rfl, fun w3 hr3 => rdelete_no r u L o.a w3 hr3 (by omega) hid⟩)
        generalize o.a = aa at *
        clear hM hR hG
        go_wp2_with fail
        refine HDE.out.mono ?_
        rintro _ w3 ⟨code, L', hG', ⟨v', hm3, hf3, hk3⟩, rfl, hrd⟩
        have hx3 : w3.heap[gx]? = w2.heap[gx]? := hk3.block gx ((Array.getElem?_eq_some_iff.1 HRX.out).1) (fun e => by have := HML.out gx e; omega)
        have ho3 : w3.heap[w.heap.size]? = w2.heap[w.heap.size]? := hk3.block w.heap.size ((Array.getElem?_eq_some_iff.1 HRO.out).1) (fun e => by have := HML.out _ e; omega)
        have x1' : w3.cell? ⟨gx, 1, none⟩ = some (.pointer (some ⟨r, 0, none⟩)) := by rw [World.cell?_of_block (a := ⟨gx, 1, none⟩) hx3]; exact x1
        have z2 : w3.cell? ⟨w.heap.size, 2, none⟩ = some (I aa) := by rw [World.cell?_of_block (a := ⟨w.heap.size, 2, none⟩) ho3]; exact y2
        have HI3 := hide (hrd w3 (HS2.out.half hm hk3))
        have H1 := hide (show ∃ v', IsMap w3 m v' L' ∧ Fresh w2 v v' ∧ Keeps (Mine m v) w2 w3 from ⟨v', hm3, hf3, hk3⟩)
        have HGI := hide hG'
        clear hm3 hf3 hk3 hx3 ho3 y2 x0 x1 k2 HDE hrd hG'
        go_wp2_with fail
        refine HI3.out.mono ?_
        rintro _ w4 ⟨rfl, hu⟩
        have HE := hide (HS2.out.two hm HGI.out H1.out hu)
        clear hu z2 x1'
        go_wp2_with fail
        go_ret
        exact ⟨rfl, HE.out⟩
      · by_cases e4 : kd = 4
        · subst e4
          have HAK := hide (HA.out (by omega) w2 HBW.out)
          have HSZ := hide (show (Tryz.prog.info? 76).map (·.size) = some OV.size by rw [HOP.out.2.2.2.2]; exact Tryz.sizeOp)
          go_wp2_with (refine wpList_load_row rfl 76 (.tmp 3) rfl w.heap.size rfl 76 OV (0, 0) _ HRO.out Tryz.underlying76 rfl HSZ.out ?_)
          refine HAK.out.mono ?_
          rintro _ w3 ⟨rfl, hE⟩
          have HE := hide hE
          clear hE x0 x1 k2
          go_wp2_with fail
          go_ret
          exact ⟨rfl, HE.out⟩
        · by_cases e5 : kd = 5
          · subst e5
            have HAK := hide (HA.out (by omega) w2 HBW.out)
            have HSZ := hide (show (Tryz.prog.info? 76).map (·.size) = some OV.size by rw [HOP.out.2.2.2.2]; exact Tryz.sizeOp)
            go_wp2_with (refine wpList_load_row rfl 76 (.tmp 3) rfl w.heap.size rfl 76 OV (0, 0) _ HRO.out Tryz.underlying76 rfl HSZ.out ?_)
            refine HAK.out.mono ?_
            rintro _ w3 ⟨rfl, hE⟩
            have HE := hide hE
            clear hE x0 x1 k2
            go_wp2_with fail
            go_ret
            exact ⟨rfl, HE.out⟩
          · by_cases e6 : kd = 6
            · subst e6
              have HAK := hide (HA.out (by omega) w2 HBW.out)
              have HSZ := hide (show (Tryz.prog.info? 76).map (·.size) = some OV.size by rw [HOP.out.2.2.2.2]; exact Tryz.sizeOp)
              go_wp2_with (refine wpList_load_row rfl 76 (.tmp 3) rfl w.heap.size rfl 76 OV (0, 0) _ HRO.out Tryz.underlying76 rfl HSZ.out ?_)
              refine HAK.out.mono ?_
              rintro _ w3 ⟨rfl, hE⟩
              have HE := hide hE
              clear hE x0 x1 k2
              go_wp2_with fail
              go_ret
              exact ⟨rfl, HE.out⟩
            · by_cases e7 : kd = 7
              · subst e7
                have HAK := hide (HA.out (by omega) w2 HBW.out)
                have HSZ := hide (show (Tryz.prog.info? 76).map (·.size) = some OV.size by rw [HOP.out.2.2.2.2]; exact Tryz.sizeOp)
                go_wp2_with (refine wpList_load_row rfl 76 (.tmp 3) rfl w.heap.size rfl 76 OV (0, 0) _ HRO.out Tryz.underlying76 rfl HSZ.out ?_)
                refine HAK.out.mono ?_
                rintro _ w3 ⟨rfl, hE⟩
                have HE := hide hE
                clear hE x0 x1 k2
                go_wp2_with fail
                go_ret
                exact ⟨rfl, HE.out⟩
              · by_cases e8 : kd = 8
                · subst e8
                  have HAK := hide (HA.out (by omega) w2 HBW.out)
                  have HSZ := hide (show (Tryz.prog.info? 76).map (·.size) = some OV.size by rw [HOP.out.2.2.2.2]; exact Tryz.sizeOp)
                  go_wp2_with (refine wpList_load_row rfl 76 (.tmp 3) rfl w.heap.size rfl 76 OV (0, 0) _ HRO.out Tryz.underlying76 rfl HSZ.out ?_)
                  refine HAK.out.mono ?_
                  rintro _ w3 ⟨rfl, hE⟩
                  have HE := hide hE
                  clear hE x0 x1 k2
                  go_wp2_with fail
                  go_ret
                  exact ⟨rfl, HE.out⟩
                · have e9 : ¬ kd = 9 := by omega
                  have e10 : ¬ kd = 10 := by omega
                  have e11 : ¬ kd = 11 := by omega
                  have HE := hide HS2.out.invE
                  go_wp2_with fail
                  go_ret
                  exact ⟨rfl, HE.out⟩
end Go.Proofs.YtenaelkbgkpllaaGreatDoor
/- The law's step at New; every step of a kind up to Digest. -/
namespace Go.Proofs.YtenaelkbgkpllaaGreatDoor
open Go.RowKit

set_option maxRecDepth 100000 in
set_option maxHeartbeats 4000000 in
theorem step_new {w0 w : World} {W0 n : Nat} (o : Opn) (hk : o.kind = 1) (hI : InvE w0 w W0 n) (hn : n ≤ 1000000000000) :
    Calls Tryz.prog 28 #[.pointer (some ⟨W0, 0, none⟩), .agg (opV o).toArray] w fun e w' => e = .returned (.bool true) ∧ InvE w0 w' W0 (n + 1) := by
  obtain ⟨ow, vp, vh, ps, hs, hI, hne, hE, hpn, hhn⟩ := hI
  have HOV := hide (show (opV o).toArray[0]? = some (I 1) by rw [← hk]; rfl)
  generalize (opV o).toArray = OV at *
  have HI := hide hI
  have HE := hide hE
  have HBX := hide (boxed1 w OV 76)
  clear hI hE hk hne
  go_enter Tryz.func28, Tryz.ntmps28
  go_upto_region 1 with fail
  have hbx := HBX.out
  clear HBX
  generalize w.alloc (.cells OV 76) = w1 at hbx ⊢
  obtain ⟨hb1, hx⟩ := hbx
  have k0 : w1.cell? ⟨w.heap.size, 0, none⟩ = some (I 1) := by rw [cell_of_row _ _ _ _ _ _ hx]; exact HOV.out
  have HI1 := hide (HI.out.below hb1)
  have HBG := hide (begin_law W0 vp vh ps hs w1 HI1.out.law (by omega))
  clear hb1 hx HOV HI
  go_wp2_with fail
  refine HBG.out.mono ?_
  rintro _ w2 ⟨rfl, vp', p, hB⟩
  have HF := hide (HI1.out.begun HE.out hpn hhn hB)
  clear hB k0
  go_wp2_with fail
  go_ret
  exact ⟨rfl, HF.out⟩
/-- every step of a kind up to Digest -/
theorem step_kept {w0 w : World} {W0 n : Nat} (o : Opn) (hF : o.Fit) (hk : o.kind ≤ 6) (hKT : KT w0) (hI : InvE w0 w W0 n) (hn : n ≤ 1000000000000) :
    Calls Tryz.prog 28 #[.pointer (some ⟨W0, 0, none⟩), .agg (opV o).toArray] w fun e w' => e = .returned (.bool true) ∧ InvE w0 w' W0 (n + 1) := by
  by_cases h1 : o.kind = 1
  · exact step_new o h1 hI hn
  · obtain ⟨ow, vp, vh, ps, hs, hI, hne, hE, hpn, hhn⟩ := hI
    have hN : 0 < ps.length := List.length_pos_iff.2 hne
    obtain ⟨hp1, hp2, _, _⟩ := pick_lt (M := o.m) hN
    have hj : pickI o.m ps.length < ps.length := by unfold pickI; omega
    have hS : Stands w0 w ow W0 n vp vh ps hs (pickI o.m ps.length) := ⟨hI, hj, hE, hpn, hhn, hn⟩
    obtain ⟨⟨m, v, r, u, L, K⟩, hp⟩ : ∃ p, ps[pickI o.m ps.length] = p := ⟨_, rfl⟩
    have hLK : L = K := by
      have := hE _ (List.getElem_mem hj)
      rw [hp] at this
      exact this
    subst hLK
    have hm : ps[pickI o.m ps.length]? = some ⟨m, v, r, u, L, L⟩ := by rw [List.getElem?_eq_getElem hj, hp]
    refine step_law o hF (by omega) h1 hS m r v u L hm (fun h4 w' hb => ?_)
    rcases (show o.kind = 4 ∨ o.kind = 5 ∨ o.kind = 6 by omega) with h | h | h
    · exact asks_points (hS.below hb) m r v u L hm o h
    · exact asks_commit (hS.below hb) hKT m r v u L hm o h
    · exact asks_digest (hS.below hb) hKT _ o h hF.s
end Go.Proofs.YtenaelkbgkpllaaGreatDoor
/- The law's asks at Prove; every step of a kind up to it. -/
namespace Go.Proofs.YtenaelkbgkpllaaGreatDoor
open Go.RowKit

/-- Prove, whatever the query -/
theorem prove_all (q : Ward.Qr) (m : Nat) (v : Value) (L : List Ward.Pt) (w : World) (hm : IsMap w m v L) (hG : Good L) (hKT : KT w) :
    Calls Tryz.prog 17 #[.pointer (some ⟨m, 0, none⟩), Qv q] w fun e w' => e = .returned (.tuple #[Sv (if Ward.mayBe q = true then Ward.proofText q L else []), I (if Ward.mayBe q = true then 0 else 6)]) ∧ Below w.heap.size w w' := by
  by_cases h : Ward.mayBe q = true
  · rw [if_pos h, if_pos h]
    exact prove_any m v L w h hm hG hKT
  · rw [if_neg h, if_neg h]
    exact prove_no m w (by simpa using h)
set_option maxRecDepth 100000 in
set_option maxHeartbeats 4000000 in
theorem asks_prove {w0 w : World} {ow : Nat → Nat} {W0 n : Nat} {vp vh : Value} {ps : List Pr} {hs : List Nat} {i : Nat} (h : Stands w0 w ow W0 n vp vh ps hs i) (hKT : KT w0) (m r : Nat) (v u : Value) (L : List Ward.Pt) (hm : ps[i]? = some ⟨m, v, r, u, L, L⟩) (o : Opn) (hk : o.kind = 8) :
    Calls Tryz.prog 58 #[.pointer (some ⟨W0, 0, none⟩), .agg #[.pointer (some ⟨m, 0, none⟩), .pointer (some ⟨r, 0, none⟩)], .agg (opV o).toArray] w fun e w' => e = .returned (.bool true) ∧ InvE w0 w' W0 (n + 1) := by
  have HH := hide h
  have HOV := hide (show (opV o).toArray[0]? = some (I 8) ∧ (opV o).toArray[6]? = some (I o.q.kind) ∧ (opV o).toArray[7]? = some (I o.q.a) ∧ (opV o).toArray[8]? = some (I o.q.b) ∧ (opV o).toArray[9]? = some (I o.q.c) ∧ (opV o).toArray[10]? = some (I o.q.d) ∧ (opV o).toArray[11]? = some (I o.q.x) ∧ (opV o).toArray[12]? = some (I o.q.y) ∧ (opV o).toArray[13]? = some (I o.q.k) from ⟨by rw [← hk]; rfl, rfl, rfl, rfl, rfl, rfl, rfl, rfl, rfl⟩)
  have HPA := hide (fun w' (hb : Below w.heap.size w w') => (h.below hb).pair hm)
  have HKT := hide (show KT w from hKT.le h.inv.base hKT.lt)
  generalize (opV o).toArray = OV at *
  generalize o.q = q at *
  have HBX := hide (boxed w #[.pointer (some ⟨m, 0, none⟩), .pointer (some ⟨r, 0, none⟩)] OV 113 76)
  have HAP := hide (fun W (hb : Below w.heap.size w W) => prove_all q m v L W (HPA.out W hb).1 (HPA.out W hb).2.2 (HKT.out.below hb))
  have HAR := hide (fun W (hb : Below w.heap.size w W) => prove_ref r u L q W (HPA.out W hb).2.1 (HPA.out W hb).2.2)
  clear h hm hk hKT
  obtain ⟨kd, qa, qb, qc, qd, qx, qy, qk⟩ := q
  generalize (if Ward.mayBe ⟨kd, qa, qb, qc, qd, qx, qy, qk⟩ = true then Ward.proofText ⟨kd, qa, qb, qc, qd, qx, qy, qk⟩ L else []) = R at *
  generalize (if Ward.mayBe ⟨kd, qa, qb, qc, qd, qx, qy, qk⟩ = true then (0 : Int) else 6) = code at *
  simp only at *
  go_enter Tryz.func58, Tryz.ntmps58
  go_upto_region 1 with fail
  have hbx := HBX.out
  clear HBX
  generalize (w.alloc (.cells #[.pointer (some ⟨m, 0, none⟩), .pointer (some ⟨r, 0, none⟩)] 113)).alloc (.cells OV 76) = w1 at hbx ⊢
  obtain ⟨hb1, hx, ho⟩ := hbx
  have HC := hide (fun (W : World) (hro : W.heap[w.heap.size + 1]? = some (.cells OV 76 (0, 0))) => show W.cell? ⟨w.heap.size + 1, 0, none⟩ = some (I 8) ∧ W.cell? ⟨w.heap.size + 1, 6, none⟩ = some (I kd) ∧ W.cell? ⟨w.heap.size + 1, 7, none⟩ = some (I qa) ∧ W.cell? ⟨w.heap.size + 1, 8, none⟩ = some (I qb) ∧ W.cell? ⟨w.heap.size + 1, 9, none⟩ = some (I qc) ∧ W.cell? ⟨w.heap.size + 1, 10, none⟩ = some (I qd) ∧ W.cell? ⟨w.heap.size + 1, 11, none⟩ = some (I qx) ∧ W.cell? ⟨w.heap.size + 1, 12, none⟩ = some (I qy) ∧ W.cell? ⟨w.heap.size + 1, 13, none⟩ = some (I qk) from by
    have e := fun k => cell_of_row W (w.heap.size + 1) k OV 76 (0, 0) hro
    rw [e, e, e, e, e, e, e, e, e]
    exact HOV.out)
  obtain ⟨k0, k6, k7, k8, k9, k10, k11, k12, k13⟩ := HC.out w1 ho
  have x0 : w1.cell? ⟨w.heap.size, 0, none⟩ = some (.pointer (some ⟨m, 0, none⟩)) := by rw [cell_of_row _ _ _ _ _ _ hx]; rfl
  have hs1 : w.heap.size + 1 < w1.heap.size := (Array.getElem?_eq_some_iff.1 ho).1
  have HB1 := hide hb1
  have HX := hide hx
  have HO := hide ho
  have HAP1 := hide (HAP.out w1 hb1)
  clear hb1 hx ho HOV HAP
  go_wp2_with fail
  refine HAP1.out.mono ?_
  rintro _ w2 ⟨rfl, hb2⟩
  have hb12 : Below w.heap.size w w2 := HB1.out.trans (hb2.mono HB1.out.size)
  have x1 : w2.cell? ⟨w.heap.size, 1, none⟩ = some (.pointer (some ⟨r, 0, none⟩)) := by
    rw [cell_of_row _ _ _ _ _ _ ((hb2.block w.heap.size (by omega)).trans HX.out)]; rfl
  clear k0 k6 k7 k8 k9 k10 k11 k12 k13 x0
  obtain ⟨-, k6, k7, k8, k9, k10, k11, k12, k13⟩ := HC.out w2 ((hb2.block (w.heap.size + 1) hs1).trans HO.out)
  have HAR2 := hide (HAR.out w2 hb12)
  have HB12 := hide hb12
  clear hb2 hb12 HAP1 HAR HX HO HC
  go_wp2_with fail
  refine HAR2.out.mono ?_
  rintro _ w3 ⟨rfl, hb3⟩
  have HE := hide ((HH.out.below (HB12.out.trans (hb3.mono HB12.out.size))).invE)
  clear hb3 k6 k7 k8 k9 k10 k11 k12 k13 x1 HAR2
  go_wp2_with fail
  go_ret
  exact ⟨rfl, HE.out⟩
/-- every step of a kind up to Prove -/
theorem step_proven {w0 w : World} {W0 n : Nat} (o : Opn) (hF : o.Fit) (hk : o.kind ≤ 8) (hKT : KT w0) (hI : InvE w0 w W0 n) (hn : n ≤ 1000000000000) :
    Calls Tryz.prog 28 #[.pointer (some ⟨W0, 0, none⟩), .agg (opV o).toArray] w fun e w' => e = .returned (.bool true) ∧ InvE w0 w' W0 (n + 1) := by
  by_cases h1 : o.kind = 1
  · exact step_new o h1 hI hn
  · obtain ⟨ow, vp, vh, ps, hs, hI, hne, hE, hpn, hhn⟩ := hI
    have hN : 0 < ps.length := List.length_pos_iff.2 hne
    obtain ⟨hp1, hp2, _, _⟩ := pick_lt (M := o.m) hN
    have hj : pickI o.m ps.length < ps.length := by unfold pickI; omega
    have hS : Stands w0 w ow W0 n vp vh ps hs (pickI o.m ps.length) := ⟨hI, hj, hE, hpn, hhn, hn⟩
    obtain ⟨⟨m, v, r, u, L, K⟩, hp⟩ : ∃ p, ps[pickI o.m ps.length] = p := ⟨_, rfl⟩
    have hLK : L = K := by
      have := hE _ (List.getElem_mem hj)
      rw [hp] at this
      exact this
    subst hLK
    have hm : ps[pickI o.m ps.length]? = some ⟨m, v, r, u, L, L⟩ := by rw [List.getElem?_eq_getElem hj, hp]
    refine step_law o hF (by omega) h1 hS m r v u L hm (fun h4 w' hb => ?_)
    rcases (show o.kind = 4 ∨ o.kind = 5 ∨ o.kind = 6 ∨ o.kind = 7 ∨ o.kind = 8 by omega) with h | h | h | h | h
    · exact asks_points (hS.below hb) m r v u L hm o h
    · exact asks_commit (hS.below hb) hKT m r v u L hm o h
    · exact asks_digest (hS.below hb) hKT _ o h hF.s
    · exact asks_answer (hS.below hb) hKT m r v u L hm o h
    · exact asks_prove (hS.below hb) hKT m r v u L hm o h
end Go.Proofs.YtenaelkbgkpllaaGreatDoor
