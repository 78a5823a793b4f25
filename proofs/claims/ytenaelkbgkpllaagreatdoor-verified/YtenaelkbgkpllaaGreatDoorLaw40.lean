/- Part 40 of what the four laws rest on: laid by a program out of the texts of wip/T. -/
import Derived.Test.YtenaelkbgkpllaaGreatDoorLaw36
import Derived.Test.YtenaelkbgkpllaaGreatDoorLaw39
set_option maxRecDepth 100000
set_option maxHeartbeats 8000000
namespace Go.Proofs.YtenaelkbgkpllaaGreatDoor
open Go.RowKit
theorem proof_ref(q:Wd.Qr)(va:Value)(a:List Wd.Pt)(K:List Wd.Pt)(N:Nat)(v v3:Value)(B:Nat)(hq:Wd.mayBe q=true)(hCa:∀p∈a,Co p.x/\Co p.y)(hla:a.length<=1000)(hG:Good K)(hN:N<=10):
  ∀n,n<=N->∀i,(hi:i< (Wd.lev K n).length)->∀w,AllAt w B v v3 K N->Reads w va a->Calls Tryz.prog 102 #[v,I n,I i,Qv q,va] w fun e w'=>e=.returned (Sv (Wd.proof Sha.sha (Wd.must q a) n (Wd.lev K n)[i]))/\Below w.heap.size w w':=by
 intro n;induction n with
 |zero=>exact fun _ i hi w hA _=>proof_leaf q va a K N v v3 B i hi w hA
 |succ n ih=>
  intro hn i hi w hA hra;have h:=proof_node q va a K N n v v3 B i hq hCa hla hG hn hN hi w hA hra (fun j hj W hb=>ih (by omega) j hj W (hA.below hb) (hra.below hb));have e:(((n+1:Nat)):Int)=(n:Int)+1:=by omega
  show Calls Tryz.prog 102 #[v,.int .i64 ((n+1:Nat):Int),I i,Qv q,va] w _;rw[e];exact h
theorem ans_co{q:Wd.Qr}{K:List Wd.Pt}(h:∀p∈K,Co p.x/\Co p.y):∀p∈Wd.ans q K,Co p.x/\Co p.y:=fun p hp=>by
 refine h p ?_;unfold Wd.ans at hp;split at hp
 ·exact(Wd.oJ _ _ _).mem_iff.1 (List.mem_of_mem_take hp)
 ·exact(List.mem_filter.1 ((Wd.oY _).mem_iff.1 hp)).1
theorem ans_short{q:Wd.Qr}{K:List Wd.Pt}:(Wd.ans q K).length<=K.length:=by
 unfold Wd.ans;split
 ·rw[List.length_take,Wd.zI];omega
 ·rw[(Wd.oY _).length_eq];exact List.length_filter_le _ _
theorem prove_ref(r:Nat)(u:Value)(K:List Wd.Pt)(q:Wd.Qr)(w:World)(hm:RMap w r u K)(hG:Good K):
  Calls Tryz.prog 61 #[.pointer (some ⟨r,0,none⟩),Qv q] w fun e w'=>e=.returned (.tuple #[Sv (if Wd.mayBe q=true then Wd.proofText q K else []),I (if Wd.mayBe q=true then 0 else 6)])/\Below w.heap.size w w':=by
 have HM:=gH hm;have hrl:=hm.lt;have hlk:=hG.many;have HMY:=gH (may_ref q);have HAW:=gH (fun(h:Wd.mayBe q=true) W (hr:Reads W u K)=>Gg q u K W h hr hG.ids (good_co hG) (by omega));have HPF:=gH (fun(h:Wd.mayBe q=true) va N v v3 B (hN:N<=10) W (hi:0< (Wd.lev K N).length) (hA:AllAt W B v v3 K N) (hr:Reads W va (Wd.ans q K))=>proof_ref q va (Wd.ans q K) K N v v3 B h (ans_co (good_co hG)) (by have:=ans_short (q:=q) (K:=K);omega) hG hN N gR 0 hi W hA hr);have HLV:=gH (fun W (hM:RMap W r u K)=>levels_ref r u K W hM hG);have HDP:=gS ((Wd.tree K).1<=3) (Wd.GP (by omega));have HTR:=gS (Below w.heap.size w (w.alloc (.cells #[I q.kind,I q.a,I q.b,I q.c,I q.d,I q.x,I q.y,I q.k] 46))/\(w.alloc (.cells #[I q.kind,I q.a,I q.b,I q.c,I q.d,I q.x,I q.y,I q.k] 46)).heap[w.heap.size]? =some (.cells #[I q.kind,I q.a,I q.b,I q.c,I q.d,I q.x,I q.y,I q.k] 46 (0,0))) (⟨gB w _,heap_alloc_new w _⟩);have HPT:=gH (fun n t (ht:Wd.lev K n=[t]) (htr:Wd.tree K=⟨n,t⟩) (hi:0< (Wd.lev K n).length)=>show Wd.proof Sha.sha (Wd.must q (Wd.ans q K)) n (Wd.lev K n)[0]=Wd.proofText q K from by
  unfold Wd.proofText;rw[htr];have e0:(Wd.lev K n)[0]=t:=by simp only[ht,List.getElem_cons_zero]
  rw[e0])
 generalize hPTe:Wd.proofText q K=ptx at*;generalize hAE:Wd.ans q K=res at*;generalize hMe:Wd.mayBe q=may at*;obtain⟨kd,qa,qb,qc,qd,qx,qy,qk⟩:=q;simp only at*;clear hm hG hPTe hAE hMe;go_enter Tryz.func61,Tryz.ntmps61
 go_upto_region 1 with fail
 have htr:=HTR.out;clear HTR;generalize w.alloc (.cells #[I kd,I qa,I qb,I qc,I qd,I qx,I qy,I qk] 46)=w1 at htr⊢;obtain⟨hb1,hr1⟩:=htr;have HB1:=gH hb1;have hs1:w.heap.size<w1.heap.size:=(gL hr1);obtain⟨y0,y1,y2,y3,y4,y5,y6,y7⟩:=rowQ8 hr1;have HR1:=gH hr1;clear hb1 hr1;go_wp2_with fail
 refine(HMY.out _).mono ?_;rintro _ w2⟨rfl,hb2⟩;have HB2:=gH (HB1.out.trans (hb2.mono HB1.out.size));have hs2:=hb2.size;have HR2:=gH ((hb2.block w.heap.size hs1).trans HR1.out);clear hb2 y0 y1 y2 y3 y4 y5 y6 y7 HMY HR1;cases may with
 |false=>
  have HFB:=gH HB2.out;go_wp2_with fail
  go_ret2;exact⟨rfl,HFB.out⟩
 |true=>
  have HLW:=gH (HLV.out w2 (HM.out.below HB2.out));go_wp2_with fail
  refine HLW.out.mono ?_;rintro _ w3⟨va,v3,n,rfl,hall,⟨t,ht,htr⟩,hb3⟩;have hn3:n<=3:=by have h:=HDP.out;rw[htr] at h;exact h
  have hi0:0< (Wd.lev K n).length:=by rw[ht];exact Nat.zero_lt_one
  have HPX:=gH (HPT.out n t ht htr hi0);obtain⟨ga,ca,gl,cl,rfl,hca, -, -, -, -, -⟩:=hall.part (l:=n) gR;have HAL:=gH hall;have HB3:=gH (HB2.out.trans (hb3.mono (by omega)));have hs3:=hb3.size;have hM3:=HM.out.below HB3.out;have hcr:=hM3.cell;have HRD:=gH hM3.own.reads;obtain⟨au,cu,eu⟩:=hM3.own.slice;subst eu;obtain⟨y0,y1,y2,y3,y4,y5,y6,y7⟩:=rowQ8 ((hb3.block w.heap.size (by omega)).trans HR2.out);have hrl3:r<w3.heap.size:=by omega
  have hwl3:w.heap.size<w3.heap.size:=by omega
  have hS:RdMQ w3 r w.heap.size (.slice au K.length cu) ⟨kd,qa,qb,qc,qd,qx,qy,qk⟩:=⟨hcr,y0,y1,y2,y3,y4,y5,y6,y7⟩;have HAN:=gH (fun W (hb:Below w3.heap.size w3 W)=>HAW.out trivial W (HRD.out.below hb));have HPN:=gH (fun vv W (hb:Below w3.heap.size w3 W) (hr:Reads W vv res)=>HPF.out trivial vv n _ v3 _ (by omega) W hi0 (HAL.out.below hb) hr);simp only[HPX.out] at HPN;have m0:(0:Int)<=(n:Int):=by omega
  have m2:((n:Int)+1)-1=(n:Int):=by omega
  have m3:IntKind.i64.wrap (n:Int)=(n:Int):=gj _ (by omega) (by omega);clear hall ht htr hb3 hM3 HAW HPF HLV HLW HPT HDP HPX hi0 HM;go_upto_region 5 with fail
  go_cut [8] from 15 to 26 (fun v8 wx=>v8=Sv ptx/\Below w3.heap.size w3 wx)
  case first=>obtain⟨s0,t0,t1,t2,t3,t4,t5,t6,t7⟩:=id hS;(go_region_held3 (fun W=>W.cell? ⟨r,0,none⟩=some (.slice au K.length cu)/\W.cell? ⟨w.heap.size,0,none⟩=some (I kd)/\W.cell? ⟨w.heap.size,1,none⟩=some (I qa)/\W.cell? ⟨w.heap.size,2,none⟩=some (I qb)/\W.cell? ⟨w.heap.size,3,none⟩=some (I qc)/\W.cell? ⟨w.heap.size,4,none⟩=some (I qd)/\W.cell? ⟨w.heap.size,5,none⟩=some (I qx)/\W.cell? ⟨w.heap.size,6,none⟩=some (I qy)/\W.cell? ⟨w.heap.size,7,none⟩=some (I qk)) (first|assumption|exact hS|exact hS.drew|exact hS6|exact hS7) ((first| (go_at_call 103;refine(HAN.out _ ((Below.refl _ _).drew)).mono ?_;rintro _ w6⟨v6,rfl,ho6,hb6⟩;have hS6:=hS.drew.below hb6 (by simpa using hrl3) (by simpa using hwl3);have hB6:Below w3.heap.size w3 w6:=(show Below w3.heap.size w3 w3.drew from(Below.refl _ _).drew).trans hb6)| (go_at_call 102;refine(HPN.out _ _ hB6 ho6.reads).mono ?_;rintro _ w7⟨rfl,hb7⟩;have hS7:=hS6.below hb7 (Nat.lt_of_lt_of_le hrl3 hB6.size) (Nat.lt_of_lt_of_le hwl3 hB6.size);have hB7:Below w3.heap.size w3 w7:=hB6.trans (hb7.mono hB6.size)))));all_goals (go_wp2_with fail);go_meet;exact⟨rfl,hB7⟩
  case rest=>obtain⟨rfl,hbc⟩:=hcut;have HFB:=gH (HB3.out.trans (hbc.mono HB3.out.size));clear hbc hS y0 y1 y2 y3 y4 y5 y6 y7 hcr;(go_wp2_with fail);go_ret2;exact⟨rfl,HFB.out⟩
theorem prove_all(q:Wd.Qr)(m:Nat)(v:Value)(L:List Wd.Pt)(w:World)(hm:IsMap w m v L)(hG:Good L)(hKT:KT w):
  Calls Tryz.prog 17 #[.pointer (some ⟨m,0,none⟩),Qv q] w fun e w'=>e=.returned (.tuple #[Sv (if Wd.mayBe q=true then Wd.proofText q L else []),I (if Wd.mayBe q=true then 0 else 6)])/\Below w.heap.size w w':=by
 by_cases h:Wd.mayBe q=true
 ·rw[if_pos h,if_pos h];exact prove_any m v L w h hm hG hKT
 ·rw[if_neg h,if_neg h];exact prove_no m w (by simpa using h)
theorem asks_prove{w0 w:World}{ow:Nat->Nat}{W0 n:Nat}{vp vh:Value}{ps:List Pr}{hs:List Nat}{i:Nat}(h:Stands w0 w ow W0 n vp vh ps hs i)(hKT:KT w0)(m r:Nat)(v u:Value)(L:List Wd.Pt)(hm:ps[i]? =some ⟨m,v,r,u,L,L⟩)(o:Opn)(hk:o.kind=8):
  Calls Tryz.prog 58 #[.pointer (some ⟨W0,0,none⟩),.agg #[.pointer (some ⟨m,0,none⟩),.pointer (some ⟨r,0,none⟩)],.agg (opV o).toArray] w fun e w'=>e=.returned (.bool true)/\InvE w0 w' W0 (n+1):=by
 have HH:=gH h;have HOV:=gS ((opV o).toArray[0]? =some (I 8)/\(opV o).toArray[6]? =some (I o.q.kind)/\(opV o).toArray[7]? =some (I o.q.a)/\(opV o).toArray[8]? =some (I o.q.b)/\(opV o).toArray[9]? =some (I o.q.c)/\(opV o).toArray[10]? =some (I o.q.d)/\(opV o).toArray[11]? =some (I o.q.x)/\(opV o).toArray[12]? =some (I o.q.y)/\(opV o).toArray[13]? =some (I o.q.k)) (⟨by rw[<-hk];rfl,rfl,rfl,rfl,rfl,rfl,rfl,rfl,rfl⟩);have HPA:=gH (fun w' (hb:Below w.heap.size w w')=>(h.below hb).pair hm);have HKT:=gS (KT w) (hKT.le h.inv.base hKT.lt);generalize (opV o).toArray=OV at*;generalize o.q=q at*;have HBX:=gH (boxed w #[.pointer (some ⟨m,0,none⟩),.pointer (some ⟨r,0,none⟩)] OV 113 76);have HAP:=gH (fun W (hb:Below w.heap.size w W)=>prove_all q m v L W (HPA.out W hb).1 (HPA.out W hb).2.2 (HKT.out.below hb));have HAR:=gH (fun W (hb:Below w.heap.size w W)=>prove_ref r u L q W (HPA.out W hb).2.1 (HPA.out W hb).2.2);clear h hm hk hKT;obtain⟨kd,qa,qb,qc,qd,qx,qy,qk⟩:=q;generalize (if Wd.mayBe ⟨kd,qa,qb,qc,qd,qx,qy,qk⟩=true then Wd.proofText ⟨kd,qa,qb,qc,qd,qx,qy,qk⟩ L else [])=R at*;generalize (if Wd.mayBe ⟨kd,qa,qb,qc,qd,qx,qy,qk⟩=true then (0:Int) else 6)=code at*;simp only at*;go_enter Tryz.func58,Tryz.ntmps58
 go_upto_region 1 with fail
 have hbx:=HBX.out;clear HBX;generalize (w.alloc (.cells #[.pointer (some ⟨m,0,none⟩),.pointer (some ⟨r,0,none⟩)] 113)).alloc (.cells OV 76)=w1 at hbx⊢;obtain⟨hb1,hx,ho⟩:=hbx;have HC:=gH (fun(W:World) (hro:W.heap[w.heap.size+1]? =some (.cells OV 76 (0,0)))=>show W.cell? ⟨w.heap.size+1,0,none⟩=some (I 8)/\W.cell? ⟨w.heap.size+1,6,none⟩=some (I kd)/\W.cell? ⟨w.heap.size+1,7,none⟩=some (I qa)/\W.cell? ⟨w.heap.size+1,8,none⟩=some (I qb)/\W.cell? ⟨w.heap.size+1,9,none⟩=some (I qc)/\W.cell? ⟨w.heap.size+1,10,none⟩=some (I qd)/\W.cell? ⟨w.heap.size+1,11,none⟩=some (I qx)/\W.cell? ⟨w.heap.size+1,12,none⟩=some (I qy)/\W.cell? ⟨w.heap.size+1,13,none⟩=some (I qk) from by have e:=fun k=>cell_of_row W (w.heap.size+1) k OV 76 (0,0) hro;rw[e,e,e,e,e,e,e,e,e];exact HOV.out);obtain⟨k0,k6,k7,k8,k9,k10,k11,k12,k13⟩:=HC.out w1 ho;have x0:w1.cell? ⟨w.heap.size,0,none⟩=some (.pointer (some ⟨m,0,none⟩)):=by rw[gC hx];rfl
 have hs1:w.heap.size+1<w1.heap.size:=(gL ho);have HB1:=gH hb1;have HX:=gH hx;have HO:=gH ho;have HAP1:=gH (HAP.out w1 hb1);clear hb1 hx ho HOV HAP;go_wp2_with fail
 refine HAP1.out.mono ?_;rintro _ w2⟨rfl,hb2⟩;have hb12:Below w.heap.size w w2:=HB1.out.trans (hb2.mono HB1.out.size);have x1:w2.cell? ⟨w.heap.size,1,none⟩=some (.pointer (some ⟨r,0,none⟩)):=by rw[gC ((hb2.block w.heap.size (by omega)).trans HX.out)];rfl
 clear k0 k6 k7 k8 k9 k10 k11 k12 k13 x0;obtain⟨-,k6,k7,k8,k9,k10,k11,k12,k13⟩:=HC.out w2 ((hb2.block (w.heap.size+1) hs1).trans HO.out);have HAR2:=gH (HAR.out w2 hb12);have HB12:=gH hb12;clear hb2 hb12 HAP1 HAR HX HO HC;go_wp2_with fail
 refine HAR2.out.mono ?_;rintro _ w3⟨rfl,hb3⟩;have HE:=gH ((HH.out.below (HB12.out.trans (hb3.mono HB12.out.size))).invE);clear hb3 k6 k7 k8 k9 k10 k11 k12 k13 x1 HAR2;go_wp2_with fail
 go_ret;exact⟨rfl,HE.out⟩
theorem step_proven{w0 w:World}{W0 n:Nat}(o:Opn)(hF:o.Fit)(hk:o.kind<=8)(hKT:KT w0)(hI:InvE w0 w W0 n)(hn:n<=1000000000000):
  Calls Tryz.prog 28 #[.pointer (some ⟨W0,0,none⟩),.agg (opV o).toArray] w fun e w'=>e=.returned (.bool true)/\InvE w0 w' W0 (n+1):=by
 by_cases h1:o.kind=1
 ·exact step_new o h1 hI hn
 ·obtain⟨ow,vp,vh,ps,hs,hI,hne,hE,hpn,hhn⟩:=hI;have hN:0<ps.length:=List.length_pos_iff.2 hne;obtain⟨hp1,hp2,_,_⟩:=pick_lt (M:=o.m) hN;have hj:pickI o.m ps.length<ps.length:=by unfold pickI;omega
  have hS:Stands w0 w ow W0 n vp vh ps hs (pickI o.m ps.length):=⟨hI,hj,hE,hpn,hhn,hn⟩;obtain⟨⟨m,v,r,u,L,K⟩,hp⟩:∃p,ps[pickI o.m ps.length]=p:=⟨_,rfl⟩;have hLK:L=K:=by have:=hE _ (List.getElem_mem hj);rw[hp] at this;exact this
  subst hLK;have hm:ps[pickI o.m ps.length]? =some ⟨m,v,r,u,L,L⟩:=by rw[List.getElem?_eq_getElem hj,hp]
  refine step_law o hF (by omega) h1 hS m r v u L hm (fun h4 w' hb=>?_);rcases (show o.kind=4\/o.kind=5\/o.kind=6\/o.kind=7\/o.kind=8 by omega) with h|h|h|h|h
  ·exact asks_points (hS.below hb) m r v u L hm o h
  ·exact asks_commit (hS.below hb) hKT m r v u L hm o h
  ·exact asks_digest (hS.below hb) hKT _ o h hF.s
  ·exact asks_answer (hS.below hb) hKT m r v u L hm o h
  ·exact asks_prove (hS.below hb) hKT m r v u L hm o h
end Go.Proofs.YtenaelkbgkpllaaGreatDoor
