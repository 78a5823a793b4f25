/- Part 26 of what the four laws rest on: laid by a program out of the texts of wip/T. -/
import Derived.Test.YtenaelkbgkpllaaGreatDoorLaw15
import Derived.Test.YtenaelkbgkpllaaGreatDoorLaw25
set_option maxRecDepth 100000
set_option maxHeartbeats 8000000
namespace Go.Proofs.YtenaelkbgkpllaaGreatDoor
open Go.RowKit
theorem size_few:∀(n:Nat) (t:Wd.NT n),Wd.Few n t->3*sizeN n t+5<=5*4 ^ n
 |0,t,_=>nomatch t
 |n+1,t,h=>by
  obtain⟨h1,h2,h3⟩:=h;have key:∀K:List (Wd.NT n),(∀c∈K,Wd.Few n c)->3*(K.map (sizeN n)).sum+5*K.length<=K.length*(5*4 ^ n):=by
   intro K;induction K with
   |nil=>intro _;simp
   |cons c K ih=>intro hK;have hc:=size_few n c (hK c List.mem_cons_self);have hi:=ih (fun d hd=>hK d (List.mem_cons_of_mem _ hd));rw[List.map_cons,List.sum_cons,List.length_cons,Nat.add_mul,Nat.one_mul];omega
  have hk:=key _ h3;have h4:(Wd.Nd.kids t).length*(5*4 ^ n)+5*4<=4*(5*4 ^ n)+5*(Wd.Nd.kids t).length:=by have hp:1<=4 ^ n:=Nat.one_le_pow _ _ (by decide);have hx:(4-(Wd.Nd.kids t).length)*5<=(4-(Wd.Nd.kids t).length)*(5*4 ^ n):=Nat.mul_le_mul_left _ (by omega);rw[Nat.sub_mul,Nat.sub_mul] at hx;have hy:(Wd.Nd.kids t).length*(5*4 ^ n)<=4*(5*4 ^ n):=Nat.mul_le_mul_right _ h2;omega
  show 3*sizeN (n+1) t+5<=_;unfold sizeN;rw[Nat.pow_succ];omega
theorem answer_near(q:Wd.Qr)(n:Nat)(t:Wd.NT n)(V:List Value)(w:World)(hk:q.kind=1)(hN:NodeIs w (fun g=>g<w.heap.size) n t V)(hfew:Wd.Few n t)(hin:Wd.InN n t)(hen:Wd.Encl n t)(hpo:∀p∈Wd.allN n t,p.Ok)(hids:Wd.Ids (Wd.allN n t))(hsz:sizeN n t<=80000)(hx: -1000000<=q.x/\q.x<=1000000)(hy: -1000000<=q.y/\q.y<=1000000)(hk1:0<=q.k)(hk2:q.k<=1000):
  Calls Tryz.prog 40 #[.agg V.toArray,Qv q] w fun e w'=>∃v,e=.returned v/\Own w' w.heap.size v (Wd.ans q (Wd.allN n t))/\Below w.heap.size w w':=by
 have HNE:=gH (fun(W:World) (hb:Below w.heap.size w W)=>nearest_any q n t V W (NodeIs.keep (S':=fun g=>g<W.heap.size) (gD hb (fun _ h=>h)) (fun g (h:g<w.heap.size)=>Nat.lt_of_lt_of_le h hb.size) n t V hN) hfew hin hen hpo hids hsz hx hy hk1 hk2);have HA:=gS (Wd.ans q (Wd.allN n t)=(Wd.sortN q.x q.y (Wd.allN n t)).take q.k.toNat) (by unfold Wd.ans;rw[if_pos hk]);obtain⟨fs,hu⟩:=underNode;have HU:=gH hu;obtain⟨a1,l1,c1,a2,l2,c2,hV,hd⟩:=hN.cells;have HR:=gS (Row39 V) (by rw[hV];exact gU hd);clear hu hV hd hN hfew hin hen hpo hids hsz hx hy hk1 hk2;obtain⟨qk,qa,qb,qc,qd,qx,qy,qn⟩:=q;simp only at hk;subst hk;rw[HA.out];simp only at HNE⊢;have hb2:=fun o o'=>(gB w o).alloc (by simp) o';have hr2:=heap_alloc2_new w;have hr1:=heap_alloc2_old w;have hs2:=fun o o'=>show((w.alloc o).alloc o').heap.size=w.heap.size+2 by simp
 go_enter Tryz.func40,Tryz.ntmps40
 go_upto_region 2 with fail
 generalize hW:World.alloc (World.alloc w _) _=w1;have hb1:Below w.heap.size w w1:=by rw[<-hW];exact hb2 _ _
 have hn1:w1.heap[w.heap.size]? =some (.cells V.toArray 90 (0,0)):=by rw[<-hW];exact hr1 _ _
 have hq1:w1.heap[w.heap.size+1]? =some (.cells #[I 1,I qa,I qb,I qc,I qd,I qx,I qy,I qn] 46 (0,0)):=by rw[<-hW];exact hr2 _ _
 have hs1:w.heap.size+2<=w1.heap.size:=by rw[<-hW,hs2];exact Nat.le_refl _
 clear hb2 hr1 hr2 hs2 hW;have HB1:=gH hb1;have HN1:=gH hn1;have HNX:=gH (HNE.out w1 hb1);obtain⟨k0,k1,k2,k3,k4,k5,k6,k7⟩:=rowQ8 hq1;clear hb1 hn1 hq1 HNE;go_wp2_with (refine wpList_load_row rfl 90 (.tmp 2) rfl w.heap.size rfl 90 V.toArray (0,0) (.struct fs) HN1.out HU.out rfl HR.out.info ?_)
 refine HNX.out.mono ?_;rintro _ w4⟨v4,rfl,ho4,hb4⟩;have HO4:=gH (own_mono (B':=w.heap.size) ho4 (by omega));have HB4:=gH (HB1.out.trans (hb4.mono (by omega)));clear ho4 hb4 k0 k1 k2 k3 k4 k5 k6 k7;go_wp2_with fail
 go_ret;exact⟨_,rfl,HO4.out,HB4.out⟩
theorem asks_near{q:Wd.Qr}{L:List Wd.Pt}(hk:q.kind=1)(hq:Wd.mayBe q=true)(hG:Good L):Asks q L:=by
 have hTS:=Wd.zO hG.ok;have hall:Wd.allN ((Wd.tree L).1+1) (Wd.mk Sha.sha (Wd.tree L).1 (Wd.tree L).2)=L:=Wd.tree_all Sha.sha hG.ok;have hfew:=Wd.few_mk Sha.sha _ _ hTS.1;have hdep:=Wd.GP (l:=L) (by have:=hG.many;omega);have hsz:sizeN ((Wd.tree L).1+1) (Wd.mk Sha.sha (Wd.tree L).1 (Wd.tree L).2)<=80000:=by
  have h1:=size_few _ _ hfew;have h2:4 ^ ((Wd.tree L).1+1)<=4 ^ 4:=Nat.pow_le_pow_right (by decide) (by omega);have h3:4 ^ 4=256:=by decide
  omega
 obtain⟨hx,hy,hk1,hk2⟩:(-1000000<=q.x/\q.x<=1000000)/\(-1000000<=q.y/\q.y<=1000000)/\1<=q.k/\q.k<=20:=by unfold Wd.mayBe at hq;rw[if_neg (by omega),if_pos hk] at hq;simp only[Wd.coordOk,Bool.and_eq_true,decide_eq_true_eq] at hq;omega
 have hans:Wd.ans q L=(Wd.sortN q.x q.y L).take q.k.toNat:=by unfold Wd.ans;rw[if_pos hk]
 have hal:(Wd.ans q L).length<=20:=by rw[hans,List.length_take];omega
 refine⟨fun w V hK hN=>?_,fun w B v b hi hv=>?_⟩
 ·have h:=answer_near q _ _ V w hk hN hfew (Wd.in_mk Sha.sha _ _ hTS.1) (Wd.tree_encl Sha.sha L) (by rw[hall];exact hG.ok) (by rw[hall];exact hG.ids) hsz hx hy (by omega) (by omega);rw[hall] at h;exact h
 ·obtain⟨ad,c,ev,hrd⟩:=hv.readsS;subst ev;by_cases hl:((Wd.ans q L).length:Int)<q.k
  ·rw[must_few hk hl];exact mustShow_few q ad c _ b w hk hl
  ·(have hne:Wd.ans q L≠[]:=fun e=>by rw[e] at hl;simp at hl;omega);have hpos:0< (Wd.ans q L).length:=List.length_pos_iff.2 hne;obtain⟨g,o,rfl, -,hp⟩:=hrd hne;(have hlast:(Wd.ans q L).getLast? =some (Wd.ans q L)[(Wd.ans q L).length-1]:=by rw[List.getLast?_eq_getElem?,List.getElem?_eq_getElem (by omega)]);have hmem:(Wd.ans q L)[(Wd.ans q L).length-1]∈L:=(Wd.oJ q.x q.y L).mem_iff.1 (List.mem_of_mem_take (by rw[<-hans];exact List.getElem_mem _));rw[must_last hk hl hlast];exact mustShow_last q g o c _ _ b w hk hl hpos (by omega) (hp _ (by omega)) (hG.ok _ hmem) hi hx hy
theorem kind_two{q:Wd.Qr}(hq:Wd.mayBe q=true):q.kind=0\/q.kind=1:=by
 unfold Wd.mayBe at hq;by_cases h0:q.kind=0
 ·exact .inl h0
 ·by_cases h1:q.kind=1
  ·exact .inr h1
  ·rw[if_neg h0,if_neg h1] at hq;cases hq
theorem asks_any{q:Wd.Qr}{L:List Wd.Pt}(hq:Wd.mayBe q=true)(hG:Good L):Asks q L:=by
 rcases kind_two hq with h|h
 ·exact asks_window h hG
 ·exact asks_near h hq hG
theorem prove_any{q:Wd.Qr}(m:Nat)(v:Value)(L:List Wd.Pt)(w:World)(hq:Wd.mayBe q=true)(hm:IsMap w m v L)(hG:Good L)(hKT:KT w):
  Calls Tryz.prog 17 #[.pointer (some ⟨m,0,none⟩),Qv q] w fun e w'=>e=.returned (.tuple #[Sv (Wd.proofText q L),I 0])/\Below w.heap.size w w':=
 prove_of m v L w (asks_any hq hG) hq hm hG hKT
def MapQry(W:World)(m g:Nat)(v:Value)(q:Wd.Qr):Prop:=W.cell? ⟨m,0,none⟩=some v/\W.cell? ⟨g,0,none⟩=some (I q.kind)/\W.cell? ⟨g,1,none⟩=some (I q.a)/\W.cell? ⟨g,2,none⟩=some (I q.b)/\W.cell? ⟨g,3,none⟩=some (I q.c)/\W.cell? ⟨g,4,none⟩=some (I q.d)/\W.cell? ⟨g,5,none⟩=some (I q.x)/\W.cell? ⟨g,6,none⟩=some (I q.y)/\W.cell? ⟨g,7,none⟩=some (I q.k)
theorem MapQry.below{w w':World}{m g B:Nat}{v:Value}{q:Wd.Qr}(h:MapQry w m g v q)(hb:Below B w w')(hm:m<B)(hg:g<B):MapQry w' m g v q:=by obtain⟨h0,k0,k1,k2,k3,k4,k5,k6,k7⟩:=h;have hc:=fun o=>hb.cell (p:=⟨g,o,none⟩) hg;exact⟨(hb.cell (p:=⟨m,0,none⟩) hm).trans h0,(hc 0).trans k0,(hc 1).trans k1,(hc 2).trans k2,(hc 3).trans k3,(hc 4).trans k4,(hc 5).trans k5,(hc 6).trans k6,(hc 7).trans k7⟩
theorem MapQry.drew{w:World}{m g:Nat}{v:Value}{q:Wd.Qr}(h:MapQry w m g v q):MapQry w.drew m g v q:=by simpa[MapQry] using h
theorem map_answer{q:Wd.Qr}(m:Nat)(v:Value)(L:List Wd.Pt)(w:World)(hq:Wd.mayBe q=true)(hm:IsMap w m v L)(hG:Good L)(hKT:KT w):
  Calls Tryz.prog 21 #[.pointer (some ⟨m,0,none⟩),Qv q] w fun e w'=>∃va,e=.returned (.tuple #[va,I 0])/\Own w' w.heap.size va (Wd.ans q L)/\Below w.heap.size w w':=by
 have hmlt:=hm.lt;have HM:=gH hm;have HMB:=gH (fun W=>GE q W);rw[hq] at HMB;have HBM:=gH (fun(W:World) (hb:Below w.heap.size w W)=>build_map m v L W (hm.below hb) hG (hKT.below hb));have HAN:=gH (fun(W:World) (V:List Value) (hb:Below w.heap.size w W) hN=>(asks_any hq hG).answer W V (hKT.below hb) hN);have hr0':=heap_alloc_new w;have hb0':=gB w;have hs0':=fun o=>show(w.alloc o).heap.size=w.heap.size+1 by simp
 obtain⟨av,cv,ev⟩:=hm.slice;subst ev;clear hm hKT hG;obtain⟨qk,qa,qb,qc,qd,qx,qy,qn⟩:=q;go_enter Tryz.func21,Tryz.ntmps21
 go_upto_region 1 with fail
 generalize hW:World.alloc w _=w0;have hb0:Below w.heap.size w w0:=by rw[<-hW];exact hb0' _
 have hr0:w0.heap[w.heap.size]? =some (.cells #[I qk,I qa,I qb,I qc,I qd,I qx,I qy,I qn] 46 (0,0)):=by rw[<-hW];exact hr0' _
 have hs0:w.heap.size+1<=w0.heap.size:=by rw[<-hW,hs0'];exact Nat.le_refl _
 clear hb0' hr0' hs0' hW;obtain⟨k0,k1,k2,k3,k4,k5,k6,k7⟩:=rowQ8 hr0;have HQ0:=gS (MapQry w0 m w.heap.size _ ⟨qk,qa,qb,qc,qd,qx,qy,qn⟩) (⟨(HM.out.below hb0).cell,rowQ8 hr0⟩);have HB0:=gH hb0;clear hr0 hb0;go_wp2_with fail
 refine(HMB.out w0).mono ?_;rintro _ w1⟨rfl,hb1⟩;have hs1:=hb1.size;have HB1:=gH (HB0.out.trans (hb1.mono (by omega)));have hQ1:=HQ0.out.below hb1 (by omega) (by omega);have HQ1:=gH hQ1;clear hb1 k0 k1 k2 k3 k4 k5 k6 k7;go_upto_region 3 with fail
 go_region_held3 (fun W=>W.cell? ⟨m,0,none⟩=some (.slice av L.length cv)/\W.cell? ⟨w.heap.size,0,none⟩=some (I qk)/\W.cell? ⟨w.heap.size,1,none⟩=some (I qa)/\W.cell? ⟨w.heap.size,2,none⟩=some (I qb)/\W.cell? ⟨w.heap.size,3,none⟩=some (I qc)/\W.cell? ⟨w.heap.size,4,none⟩=some (I qd)/\W.cell? ⟨w.heap.size,5,none⟩=some (I qx)/\W.cell? ⟨w.heap.size,6,none⟩=some (I qy)/\W.cell? ⟨w.heap.size,7,none⟩=some (I qn)) (first|assumption|exact HQ1.out|exact HQ1.out.drew) ((first| (go_at_call 38;refine(HBM.out _ HB1.out.drew).mono ?_;rintro _ w2⟨V,rfl,hn2,hb2⟩;have hs2:w1.heap.size<=w2.heap.size:=hb2.size;have hQ2:=HQ1.out.drew.below hb2 (by simp;omega) (by simp;omega);have HB2:=gS (Below w.heap.size w w2) (HB1.out.drew.trans (hb2.mono (by simp;omega))))| (go_at_call 40;refine(HAN.out _ V HB2.out hn2).mono ?_;rintro _ w3⟨va,rfl,ho3,hb3⟩;have hQ3:=hQ2.below hb3 (by omega) (by omega))))
 all_goals have HO3:=gH (own_mono (B':=w.heap.size) ho3 (by omega));have HB3:=gH (HB2.out.trans (hb3.mono (by omega)));clear ho3 hb3 hn2 hQ1 hQ2 hQ3;go_wp2;go_ret2;exact⟨_,rfl,HO3.out,HB3.out⟩
end Go.Proofs.YtenaelkbgkpllaaGreatDoor
