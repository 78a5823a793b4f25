/- Part 46 of what the four laws rest on: laid by a program out of the texts of wip/T. -/
import Derived.Test.YtenaelkbgkpllaaGreatDoorLaw40
import Derived.Test.YtenaelkbgkpllaaGreatDoorLaw45
import Derived.Deep.CutBlock
set_option maxRecDepth 100000
set_option maxHeartbeats 8000000
namespace Go.Proofs.YtenaelkbgkpllaaGreatDoor
open Go.RowKit
section
open Go.RowKit
structure VBase(w:World)(RV:Array Value)(q:Wd.Qr)(wq:World):Prop where
 bl:Below w.heap.size w wq
 cs:wq.heap[w.heap.size]? =some (.cells constV.toArray 67 (0,0))
 rt:wq.heap[w.heap.size+1]? =some (.cells RV 41 (0,0))
 qy:wq.heap[w.heap.size+2]? =some (.cells #[I q.kind,I q.a,I q.b,I q.c,I q.d,I q.x,I q.y,I q.k] 46 (0,0))
theorem VBase.lt{w wq:World}{RV:Array Value}{q:Wd.Qr}(h:VBase w RV q wq):w.heap.size+2<wq.heap.size:=(gL h.qy)
theorem VBase.low{w wq w':World}{RV:Array Value}{q:Wd.Qr}{B:Nat}(h:VBase w RV q wq)(hb:Below B wq w')(hB:w.heap.size+2<B):VBase w RV q w':=⟨h.bl.trans (hb.mono (by omega)),(hb.block _ (by omega)).trans h.cs,(hb.block _ (by omega)).trans h.rt,(hb.block _ hB).trans h.qy⟩
theorem VBase.below{w wq w':World}{RV:Array Value}{q:Wd.Qr}(h:VBase w RV q wq)(hb:Below wq.heap.size wq w'):VBase w RV q w':=h.low hb h.lt
theorem heap_alloc3(w:World)(a b c:Obj):(((w.alloc a).alloc b).alloc c).heap[w.heap.size]? =some a/\(((w.alloc a).alloc b).alloc c).heap[w.heap.size+1]? =some b/\(((w.alloc a).alloc b).alloc c).heap[w.heap.size+2]? =some c:=by
 have h1:=heap_alloc2_old w a b;have h2:=heap_alloc2_new w a b;have hs:((w.alloc a).alloc b).heap.size=w.heap.size+2:=by simp
 refine⟨(Below.heap_alloc _ c _ (by omega)).trans h1,(Below.heap_alloc _ c _ (by omega)).trans h2,?_⟩;have h3:=heap_alloc_new ((w.alloc a).alloc b) c;rw[hs] at h3;exact h3
def RdLQ(W:World)(r k:Nat)(u:Value)(q:Wd.Qr):Prop:=W.cell? ⟨r,3,none⟩=some u/\W.cell? ⟨k,0,none⟩=some (I q.kind)/\W.cell? ⟨k,1,none⟩=some (I q.a)/\W.cell? ⟨k,2,none⟩=some (I q.b)/\W.cell? ⟨k,3,none⟩=some (I q.c)/\W.cell? ⟨k,4,none⟩=some (I q.d)/\W.cell? ⟨k,5,none⟩=some (I q.x)/\W.cell? ⟨k,6,none⟩=some (I q.y)/\W.cell? ⟨k,7,none⟩=some (I q.k)
theorem RdLQ.below{W W':World}{r k B:Nat}{u:Value}{q:Wd.Qr}(h:RdLQ W r k u q)(hb:Below B W W')(hg:r<B)(hk:k<B):RdLQ W' r k u q:=by obtain⟨a0,p0,p1,p2,p3,p4,p5,p6,p7⟩:=h;have ck:=fun i=>hb.cell (p:=⟨k,i,none⟩) hk;exact⟨(hb.cell (p:=⟨r,3,none⟩) hg).trans a0,(ck _).trans p0,(ck _).trans p1,(ck _).trans p2,(ck _).trans p3,(ck _).trans p4,(ck _).trans p5,(ck _).trans p6,(ck _).trans p7⟩
theorem RdLQ.drew{W:World}{r k:Nat}{u:Value}{q:Wd.Qr}(h:RdLQ W r k u q):RdLQ W.drew r k u q:=by simpa[RdLQ] using h
structure KidCells(W:World)(g:Nat)(c:Wd.Chd):Prop where
 b0:W.cell? ⟨g,0,none⟩=some (I c.box.a)
 b1:W.cell? ⟨g,1,none⟩=some (I c.box.b)
 b2:W.cell? ⟨g,2,none⟩=some (I c.box.c)
 b3:W.cell? ⟨g,3,none⟩=some (I c.box.d)
 n:W.cell? ⟨g,4,none⟩=some (I c.n)
 dig:W.cell? ⟨g,5,none⟩=some (Sv c.dig)
 sh:W.cell? ⟨g,6,none⟩=some (.bool c.shown)
 r0:W.cell? ⟨g,7,none⟩=some (I c.rbox.a)
 r1:W.cell? ⟨g,8,none⟩=some (I c.rbox.b)
 r2:W.cell? ⟨g,9,none⟩=some (I c.rbox.c)
 r3:W.cell? ⟨g,10,none⟩=some (I c.rbox.d)
 rn:W.cell? ⟨g,11,none⟩=some (I c.rn)
 rt:W.cell? ⟨g,12,none⟩=some (Sv c.rtext)
theorem kidCells{w:World}{g:Nat}{c:Wd.Chd}{v:Value}(h:w.heap[g]? =some (.cells (kidV c v).toArray 196 (0,0))):KidCells w g c:=⟨row_cell h rfl,row_cell h rfl,row_cell h rfl,row_cell h rfl,row_cell h rfl,row_cell h rfl,row_cell h rfl,row_cell h rfl,row_cell h rfl,row_cell h rfl,row_cell h rfl,row_cell h rfl,row_cell h rfl⟩
def DigAt(w:World)(v:Value)(cs:List Value):Prop:=∃g o,v=.pointer (some ⟨g,o,none⟩)/\w.rangeAt g o cs/\cs.length=32
def digVal(w:World)(v:Value):Value:=match v with
 | .pointer (some ⟨g,o,_⟩)=> .agg ((List.range 32).map fun k=>(w.cell? ⟨g,o+k,none⟩).getD (.bool false)).toArray
 |_=> .bool false
theorem digVal_at{w:World}{v:Value}{cs:List Value}(h:DigAt w v cs):digVal w v=.agg cs.toArray:=by
 obtain⟨g,o,rfl,hr,hl⟩:=h;have e:((List.range 32).map fun k=>(w.cell? ⟨g,o+k,none⟩).getD (.bool false))=cs:=by
  apply List.ext_getElem
  ·rw[List.length_map,List.length_range,hl]
  ·intro k h1 h2;rw[List.getElem_map,List.getElem_range,hr k _ (List.getElem?_eq_getElem h2)];rfl
 show Value.agg ((List.range 32).map fun k=>(w.cell? ⟨g,o+k,none⟩).getD (.bool false)).toArray=_;rw[e]
theorem wp_load_dig{d:Option Tmp}{x:Operand}{tt:TypeId}{ps:String}{af:Array Edge}{gd:Option (Nat×Bool)}{a:Act}{w:World}{K:Act->World->Prop}{Q:Exit->Act->World->Prop}(h:∃cs,DigAt w (a.eval x) cs):
  Oper.wp Tryz.prog {dst:=d,op:=.load 39 x,type:=tt,pos:=ps,after:=af,guard:=gd} a w K Q=K (a.put d (digVal w (a.eval x))) w:=by
 obtain⟨cs,hd⟩:=h;rw[digVal_at hd];obtain⟨g,o,hv,hr,hl⟩:=hd;have hr:=run_loadVar_mid (P:=Tryz.prog) w g o 39 cs _ hr Tryz.under22 rfl (by rw[hl];exact Tryz.info22);unfold Oper.wp execOp;simp only[hv,Instr.loadAt,Instr.sureAddr,Sem.run_bind,Sem.run_pure,Result.andThen_ok,hr];rfl
theorem ok_co{L:List Wd.Pt}(h:∀p∈L,p.Ok):∀p∈L,Co p.x/\Co p.y:=fun p hp=>⟨⟨(h p hp).x1,(h p hp).x2⟩,⟨(h p hp).y1,(h p hp).y2⟩⟩
attribute [local go_sem ↓] Go.wp_at_zero Go.wp_at_succ wp_load_dig
theorem rverify_any(root:List UInt8)(count:Int)(q:Wd.Qr)(s:List UInt8)(w:World)(hroot:root.length=32)(hs:s.length<=140737488355328):
  Calls Tryz.prog 99 #[.agg constV.toArray,.agg (rootV root count).toArray,Qv q,Sv s] w (Verified w root count q s):=by
 have HRL:=gH hroot;have HMY:=gH (may_ref q);have HB0:=gH (fun o o' o''=>((gB w o).alloc (by simp) o').alloc (by simp;omega) o'');have HA3:=gH (heap_alloc3 w);have HRV:=gS (∃RV:List Value,rootV root count=RV) (⟨_,rfl⟩);obtain⟨RV,hRV⟩:=HRV.out;obtain⟨CV,hCV⟩:∃CV:List Value,constV=CV:=⟨_,rfl⟩;have HCV:=gH hCV;have HRVE:=gH hRV;rw[hRV,hCV];clear hroot hRV hCV HRV;go_enter Tryz.func99,Tryz.ntmps99
 go_upto_region 1 with fail
 generalize hW:World.alloc (World.alloc (World.alloc w _) _) _=w1;have HV1:=gS (VBase w RV.toArray q w1) (by rw[<-hW];refine⟨HB0.out _ _ _,?_,(HA3.out _ _ _).2.1,(HA3.out _ _ _).2.2⟩;rw[HCV.out];exact(HA3.out _ _ _).1);clear hW HB0 HA3;obtain⟨k0,k1,k2,k3,k4,k5,k6,k7⟩:=rowQ8 HV1.out.qy;obtain⟨my,hmy⟩:∃r,Wd.mayBe q=r:=⟨_,rfl⟩;rw[hmy] at HMY;have HMB:=gH hmy;clear hmy;go_wp2_with fail
 refine(HMY.out w1).mono ?_;rintro _ w2⟨rfl,hb2⟩;have HV2:=gH (HV1.out.below hb2);clear hb2 k0 k1 k2 k3 k4 k5 k6 k7 HV1 HMY;cases my with
 |false=>
  have HF:=gS (Wd.verify root count q s=([],6)) (by unfold Wd.verify;rw[if_pos HMB.out]);go_wp2_with fail
  go_ret2;exact gf HF.out HV2.out.bl
 |true=>
  have HN3:=gH (heap_alloc_new w2);have HB3:=gH (gB w2);go_upto_region 5 with fail
  generalize hW:World.alloc w2 _=w3;have HV3:=gS (VBase w RV.toArray q w3) (by rw[<-hW];exact HV2.out.below (HB3.out _));have HL3:=gS (LookAt w3 w2.heap.size w2.heap.size s 0 false (.slice none 0 0) (.slice none 0 0) [] []) (⟨by rw[<-hW];exact HN3.out _,World.ownsRow_nil _ _ _ _,kidsRow_nil _ _,Nat.le_refl _⟩);have hs2:=HV2.out.lt;have hs3:w2.heap.size<w3.heap.size:=HL3.out.lt;obtain⟨gl,hgl⟩:∃gl,w2.heap.size=gl:=⟨_,rfl⟩;rw[hgl] at HL3 hs2 hs3⊢;clear hW HN3 HB3 HV2 hgl;have HPC:=gH (look_root 1 w3 gl gl s 0 _ _ [] [] rfl HL3.out (by omega) (by omega) hs (by decide) (by decide));go_wp2_with fail
  refine HPC.out.mono ?_;rintro _ w4⟨b,n,x,v,vL,vK,L,K,j,bad,rfl,hv,hx,hl4,ht4,hj,h1,h2,h3⟩;have HV4:=gH (HV3.out.low (LookTo.low HL3.out ht4 (by omega)) hs2);have HL4:=gH hl4;have HM9:=gS ((partV b n x 0 0 v).size=9) rfl;have HM1:=gH (oA b n x 0 0 v hv);have HN5:=gH (heap_alloc_new w4 (.cells (partV b n x 0 0 v) 150));have HB5:=gH (gB w4 (.cells (partV b n x 0 0 v) 150));obtain⟨M,hM⟩:∃M,partV b n x 0 0 v=M:=⟨_,rfl⟩;rw[hM] at HM9 HM1 HN5 HB5⊢;have HM:=gH hM;have HIS:=gH h3;have hlL:L.length<=29000:=Nat.le_trans h1 (by decide);have hlK:K.length<=29000:=Nat.le_trans h2 (by decide);have hsl4:=hl4.lt;clear hM hl4 ht4 h1 h2 h3 HPC HL3 HV3 hv;go_upto_region 6 with(refine wpList_store_row rfl 150 (.tmp 12) (.tmp 29) rfl w4.heap.size M rfl rfl 150 _ (heap_alloc_new w4 _) (by rw[HM9.out];exact Tryz.infoPart) (by rw[HM9.out];rfl) HM1.out ?_;rw[World.setRow_alloc_new])
  generalize w4.alloc (.cells M 150)=w5 at HN5 HB5⊢;have HV5:=gH (HV4.out.below HB5.out);have HL5:=gH (HL4.out.below HB5.out);have hs5:w4.heap.size<w5.heap.size:=(gL HN5.out);obtain⟨gr,hgr⟩:∃gr,w4.heap.size=gr:=⟨_,rfl⟩;rw[hgr] at HN5 hs5 hsl4⊢;clear HV4 HL4 HB5 HM9 HM1 hgr;have y1:w5.cell? ⟨gl,1,none⟩=some (I j):=row_cell HL5.out.row rfl;have y2:w5.cell? ⟨gl,2,none⟩=some (.bool bad):=row_cell HL5.out.row rfl;have hsz:(⟨s.toArray⟩:ByteArray).size=s.length:=by show s.toArray.size=_;rw[List.size_toArray]
  cases bad with
  |true=>
   have HF:=gH (Wd.look_bad (s:=s) (.inl (by
    rcases HIS.out with⟨_,h⟩| ⟨h,_⟩
    ·exact h
    ·cases h)) root count q HMB.out)
   (go_wp2_with fail);go_ret2;exact gf HF.out HV5.out.bl
  |false=>
   obtain⟨t,hpg⟩:∃t,Wd.PartGood 6 true s 0 [] [] t j L K b n x:=by
    rcases HIS.out with⟨h,_⟩| ⟨_,h⟩
    ·cases h
    ·exact h
   by_cases hjs:j=s.length
   ·have HLG:=gH (Wd.look_good hpg hjs);clear hpg HIS;subst hjs;obtain⟨aL,cL,eL⟩:=HL5.out.pts.slice;subst eL;have y3:w5.cell? ⟨gl,3,none⟩=some (.slice aL L.length cL):=row_cell HL5.out.row rfl;(go_upto_region 8 with fail);have hS:RdLQ w5 gl (w.heap.size+2) (.slice aL L.length cL) q:=⟨y3,rowQ8 HV5.out.qy⟩;have HAD:=gH (fun W (hb:Below w5.heap.size w5 W)=>Gg q (.slice aL L.length cL) L W HMB.out (HL5.out.pts.reads.below hb) HLG.out.ids (ok_co HLG.out.ok) (by omega));(have hlt5:gl<w5.heap.size:=by omega);have hqt5:w.heap.size+2<w5.heap.size:=HV5.out.lt;have HLA:=gH (ans_short (q:=q) (K:=L));have HCO:=gH (ans_co (q:=q) (ok_co HLG.out.ok));have HVR:=gH (HLG.out.is root count q HMB.out);obtain⟨A,hA⟩:∃A,Wd.ans q L=A:=⟨_,rfl⟩;rw[hA] at HAD HLA HCO HVR;clear hA y1 y2;go_cut [13] from 43 to 48 (fun v13 wx=>Own wx w5.heap.size v13 A/\Below w5.heap.size w5 wx)
    case first=>obtain⟨s0,t0,t1,t2,t3,t4,t5,t6,t7⟩:=id hS;(go_region_held3 (fun W=>W.cell? ⟨gl,3,none⟩=some (.slice aL L.length cL)/\W.cell? ⟨w.heap.size+2,0,none⟩=some (I q.kind)/\W.cell? ⟨w.heap.size+2,1,none⟩=some (I q.a)/\W.cell? ⟨w.heap.size+2,2,none⟩=some (I q.b)/\W.cell? ⟨w.heap.size+2,3,none⟩=some (I q.c)/\W.cell? ⟨w.heap.size+2,4,none⟩=some (I q.d)/\W.cell? ⟨w.heap.size+2,5,none⟩=some (I q.x)/\W.cell? ⟨w.heap.size+2,6,none⟩=some (I q.y)/\W.cell? ⟨w.heap.size+2,7,none⟩=some (I q.k)) (first|assumption|exact hS|exact hS.drew|exact hS6) ((go_at_call 103;refine(HAD.out _ ((Below.refl _ _).drew)).mono ?_;rintro _ w6⟨v6,rfl,ho6,hb6⟩;have hS6:=hS.drew.below hb6 (by simpa using hlt5) (by simpa using hqt5);have hB6:Below w5.heap.size w5 w6:=(show Below w5.heap.size w5 w5.drew from(Below.refl _ _).drew).trans hb6)));all_goals (go_wp2_with fail);go_meet;exact⟨ho6,hB6⟩
    case rest=>
     obtain⟨hoA,hb6⟩:=hcut;obtain⟨aA,cA,eA⟩:=hoA.slice;subst eA;have HV6:=gH (HV5.out.below hb6);have HL6:=gH (HL5.out.below hb6);have HN6:=gH ((hb6.block gr hs5).trans HN5.out);have HOA:=gH hoA;have hs6:=hb6.size;have hlA:A.length<=29000:=Nat.le_trans HLA.out hlL;obtain⟨aK,cK,eK⟩:=HL6.out.kids.slice;subst eK;have HKO:=gH HLG.out.kids;have HTL:=gH HLG.out.text;clear hoA hb6 hS y3 HAD HV5 HL5 HN5 HLG HLA hs5;generalize wc=w6 at*;have HMU:=gH (fun(c:Wd.Chd) (hc:c∈K) W (hb:Below w6.heap.size w6 W)=>must_ref c.box q (.slice aA A.length cA) A W HMB.out (Wd.may_in (HKO.out c hc).may).1 (Wd.may_in (HKO.out c hc).may).2 (HOA.out.reads.below hb) HCO.out (by omega));obtain⟨mm,hmm⟩:∃mm,Wd.must q A=mm:=⟨_,rfl⟩;rw[hmm] at HMU HVR;clear hmm;(go_upto_region 11 with fail);go_loopw [14,15] (fun v14 v15 wq=>∃i:Nat,i<=K.length/\v15=.int .i64 i/\v14=.int .i64 (Wd.worst mm (K.take i):Nat)/\Below w6.heap.size w6 wq) (fun _ v15 _=>K.length-(intOf v15).toNat)
     case atStart=>exact⟨0,by omega,rfl,rfl,Below.refl _ _⟩
     case round=>
      obtain⟨i,hi,rfl,rfl,hbr⟩:=hrel;have HBR:=gH hbr;have hsr:=hbr.size;have c4:wr.cell? ⟨gl,4,none⟩=some (.slice aK K.length cK):=row_cell ((hbr.block gl (by omega)).trans HL6.out.row) rfl;by_cases hiK:i<K.length
      ·(have hiI:(i:Int)< (K.length:Int):=by omega);obtain⟨g,ck,xk,ek, -,hgl2, -,hxk,hrg⟩:=HL6.out.kids.at i hiK;injection ek with ek1 ek2 ek3;subst ek1;have HWS:=gS (Wd.worst mm (K.take (i+1))=Wd.least (Wd.worst mm (K.take i)) (Wd.code mm K[i])) (by rw[List.take_succ_eq_append_getElem hiK,Wd.worst_snoc]);have HKK:=gH (HKO.out K[i] (List.getElem_mem hiK));have HMC:=gH (HMU.out K[i] (List.getElem_mem hiK));generalize K[i]=c at*;have hrg':wr.rangeAt g (i*16) (kidV c xk):=fun k v hv=>(hbr.cell (p:=⟨g,i*16+k,none⟩) hgl2).trans (hrg k v hv);obtain⟨U,hU⟩:∃U,kidV c xk=U:=⟨_,rfl⟩;rw[hU] at hrg';have HU:=gH hU;have HU16:=gS (U.length=16) (by rw[<-hU];rfl);have HUS:=gS (U.toArray.size=16) (by rw[<-hU];rfl);have HU1:=gS (U.toArray.all (·.oneCell')=true) (by rw[<-hU];exact Gu c xk hxk);clear hU hrg ek2 ek3 hbr;(go_upto_region 14 with(first| (refine wpList_load_mid rfl 196 (.tmp 63) rfl g (i*16) rfl U _ hrg' Tryz.underlying196 rfl (by rw[HU16.out];exact Tryz.infoKid) ?_)| (refine wpList_store_row rfl 196 (.tmp 16) (.tmp 64) rfl wr.heap.size U.toArray rfl rfl 196 _ (heap_alloc_new wr _) (by rw[HUS.out];exact Tryz.infoKid) (by rw[HUS.out];rfl) HU1.out ?_;rw[World.setRow_alloc_new])));have HK7:=gS ((wr.alloc (.cells U.toArray 196)).heap[wr.heap.size]? =some (.cells (kidV c xk).toArray 196 (0,0))) (by rw[HU.out];exact heap_alloc_new wr _);have HB7:=gH (HBR.out.trans ((gB wr (.cells U.toArray 196)).mono hsr));generalize wr.alloc (.cells U.toArray 196)=w7 at HK7 HB7⊢;obtain⟨gk,hgk⟩:∃gk,wr.heap.size=gk:=⟨_,rfl⟩;rw[hgk] at HK7 hsr⊢;have hk7:gk<w7.heap.size:=(gL HK7.out);clear hgk HU HU16 HUS HU1 c4 hrg';have HV7:=gH (HV6.out.below HB7.out);obtain⟨q0,q1,q2,q3,q4,q5,q6,q7⟩:=rowQ8 HV7.out.qy;have HM7:=gH (HMC.out w7 HB7.out);obtain⟨⟨ca,cb,cc,cdd⟩,cn,cd,csh,⟨ra,rb,rc,rd⟩,crn,crt⟩:=c;have HKC:=gS (∀W:World,W.heap[gk]? =some (.cells (kidV ⟨⟨ca,cb,cc,cdd⟩,cn,cd,csh,⟨ra,rb,rc,rd⟩,crn,crt⟩ xk).toArray 196 (0,0))->KidCells W gk ⟨⟨ca,cb,cc,cdd⟩,cn,cd,csh,⟨ra,rb,rc,rd⟩,crn,crt⟩) (fun W h=>kidCells h);generalize (kidV ⟨⟨ca,cb,cc,cdd⟩,cn,cd,csh,⟨ra,rb,rc,rd⟩,crn,crt⟩ xk).toArray=ks at*;obtain⟨b0,b1,b2,b3, -, -, -, -, -, -, -, -, -⟩:=HKC.out w7 HK7.out;have HMB2:=gS (mm ⟨ca,cb,cc,cdd⟩=mm ⟨ca,cb,cc,cdd⟩) rfl;(go_wp2_with fail);refine HM7.out.mono ?_;rintro _ w8⟨rfl,hb8⟩;have HK8:=gH ((hb8.block gk hk7).trans HK7.out);have HB8:=gH (HB7.out.trans (hb8.mono HB7.out.size));have HV8:=gH (HV7.out.below hb8);have hk8:gk<w8.heap.size:=Nat.lt_of_lt_of_le hk7 hb8.size;clear hb8 q0 q1 q2 q3 q4 q5 q6 q7 b0 b1 b2 b3 HM7 HK7 HB7 HV7 HMC;obtain⟨mc,hmc⟩:∃b,mm ⟨ca,cb,cc,cdd⟩=b:=⟨_,rfl⟩;have hrt:=(HKC.out w8 HK8.out).rt;simp only at hmc hrt⊢;rw[hmc];obtain⟨DV,hDV⟩:∃DV,(Sha.sha crt).map Y=DV:=⟨_,rfl⟩;have HDG:=gH (zV crt DV w8 (Nat.le_trans HKK.out.text (by decide)) hDV);rw[HCV.out] at HDG;have HDL:=gS (DV.toArray.size=32) (by rw[<-hDV];rfl);have HDY:=gH hDV;have HD1:=gS (DV.toArray.all (·.oneCell')=true) (by
        rw[List.all_toArray,List.all_eq_true];intro v hv;rw[<-hDV] at hv;obtain⟨x,_,rfl⟩:=List.mem_map.1 hv;rfl)
       (have HC8:=gH HV8.out.cs;rw[HCV.out] at HC8;have HCL:=gS (CV.toArray.size=72) (by rw[<-HCV.out,List.size_toArray];exact oE);clear hDV;(go_wp2_with (refine wpList_load_row rfl 67 (.tmp 4) rfl w.heap.size rfl 67 CV.toArray (0,0) _ HC8.out Tryz.underlying67 rfl (by rw[HCL.out];exact Tryz.infoConst) ?_));refine HDG.out.mono ?_;rintro _ w9⟨rfl,hb9⟩;have HK9:=gH ((hb9.block gk hk8).trans HK8.out);have HB9:=gH (HB8.out.trans (hb9.mono HB8.out.size));have hk9:gk<w9.heap.size:=Nat.lt_of_lt_of_le hk8 hb9.size;clear hb9 hrt HDG HC8 HK8 HB8 HV8;(go_upto_region 16 with(refine wpList_store_row rfl 39 (.tmp 18) (.tmp 74) rfl w9.heap.size DV.toArray rfl rfl 39 _ (heap_alloc_new w9 _) (by rw[HDL.out];exact Tryz.info22) (by rw[HDL.out];rfl) HD1.out ?_;rw[World.setRow_alloc_new]));have HD10:=gH (heap_alloc_new w9 (.cells DV.toArray 39));have HB10:=gH (gB w9 (.cells DV.toArray 39));generalize w9.alloc (.cells DV.toArray 39)=w10 at HD10 HB10⊢;obtain⟨gd,hgd⟩:∃gd,w9.heap.size=gd:=⟨_,rfl⟩;have HK10:=gH ((HB10.out.block gk hk9).trans HK9.out);have HBF:=gH (HB9.out.trans (HB10.out.mono HB9.out.size));rw[hgd] at HD10⊢;clear hgd HK9 HB9 HB10 HDL HD1;obtain⟨-, -, -, -,k4,k5,k6, -, -, -, -,k11, -⟩:=HKC.out w10 HK10.out;obtain⟨b0,b1,b2,b3, -, -, -,r0,r1,r2,r3, -, -⟩:=HKC.out w10 HK10.out;dsimp only at k4 k5 k6 k11 b0 b1 b2 b3 r0 r1 r2 r3;have hrd:w10.rangeAt gd 0 DV:=fun k v hv=>by rw[gC HD10.out,Nat.zero_add,List.getElem?_toArray];exact hv);rw[<-HDY.out] at hrd;have HCD:=gS (Wd.code mm ⟨⟨ca,cb,cc,cdd⟩,cn,cd,csh,⟨ra,rb,rc,rd⟩,crn,crt⟩=(if csh&& !(Wd.boxEq ⟨ra,rb,rc,rd⟩ ⟨ca,cb,cc,cdd⟩&&decide (crn=cn)) then 1 else if csh&& !decide (Sha.sha crt=cd) then 2 else if !csh&&mc then 3 else if csh&& !mc then 4 else 0)) (by unfold Wd.code;simp only;rw[hmc])
       obtain⟨dd,hdd⟩:∃dd,Sha.sha crt=dd:=⟨_,rfl⟩;rw[hdd] at HCD hrd;obtain⟨cod,hcod⟩:∃cod,Wd.code mm ⟨⟨ca,cb,cc,cdd⟩,cn,cd,csh,⟨ra,rb,rc,rd⟩,crn,crt⟩=cod:=⟨_,rfl⟩;rw[hcod] at HCD HWS;(have hdl:dd.length=32:=by rw[<-hdd];rfl);have hconv:∀n,(convert 59 9 (.slice (some ⟨gd,0,none⟩) 32 32)).run Tryz.prog (w10.drewN n)=.ok (Sv dd) (w10.drewN n):=fun n=>oL gd 32 32 dd hdl (w10.drewN n) hrd;clear hdd hcod hrd HDY hmc hdl;(go_upto_block 2 with fail);go_cut [19] from 75 to 117 (fun v19 wx=>v19=.int .i64 (cod:Nat)/\Below w10.heap.size w10 wx)
       case first=>
        cases csh with
        |false=>
         cases mc with
         |true=>have HE:=gS (cod=3) (by rw[HCD.out];rfl);(go_upto_region 19 with fail);(go_quiet (fail));(go_wp2_with fail);go_meet;exact⟨by rw[HE.out];rfl,below_drewN (Below.refl _ _) _⟩
         |false=>have HE:=gS (cod=0) (by rw[HCD.out];rfl);(go_upto_region 19 with fail);(go_quiet (fail));(go_wp2_with fail);go_meet;exact⟨by rw[HE.out];rfl,below_drewN (Below.refl _ _) _⟩
        |true=>
         by_cases e0:ra=ca
         ·subst e0;by_cases e1:rb=cb
          ·subst e1;by_cases e2:rc=cc
           ·subst e2;by_cases e3:rd=cdd
            ·subst e3;by_cases e4:crn=cn
             ·subst e4;by_cases hdg:dd=cd
              ·subst hdg;cases mc with
               |true=>have HE:=gS (cod=0) (by rw[HCD.out];simp[Wd.boxEq]);(go_upto_region 19 with fail);(go_quiet (fail));(go_wp2_with fail);go_meet;exact⟨by rw[HE.out];rfl,below_drewN (Below.refl _ _) _⟩
               |false=>have HE:=gS (cod=4) (by rw[HCD.out];simp[Wd.boxEq]);(go_upto_region 19 with fail);(go_quiet (fail));(go_wp2_with fail);go_meet;exact⟨by rw[HE.out];rfl,below_drewN (Below.refl _ _) _⟩
              ·have HE:=gS (cod=2) (by rw[HCD.out];simp[Wd.boxEq,hdg]);(have hdb:(dd==cd)=false:=by simpa using hdg);(go_upto_region 19 with fail);(go_quiet (fail));(go_wp2_with fail);go_meet;exact⟨by rw[HE.out];rfl,below_drewN (Below.refl _ _) _⟩
             ·have HE:=gS (cod=1) (by rw[HCD.out];simp[Wd.boxEq,e4]);(have n4:(crn==cn)=false:=by simpa using e4);(have m4:(crn !=cn)=true:=by simpa using e4);(go_wp2_with fail);go_meet;exact⟨by rw[HE.out];rfl,Below.refl _ _⟩
            ·have HE:=gS (cod=1) (by rw[HCD.out];simp[Wd.boxEq,e3]);(have n3:(rd==cdd)=false:=by simpa using e3);(have m3:(rd !=cdd)=true:=by simpa using e3);(go_wp2_with fail);go_meet;exact⟨by rw[HE.out];rfl,Below.refl _ _⟩
           ·have HE:=gS (cod=1) (by rw[HCD.out];simp[Wd.boxEq,e2]);(have n2:(rc==cc)=false:=by simpa using e2);(have m2:(rc !=cc)=true:=by simpa using e2);(go_wp2_with fail);go_meet;exact⟨by rw[HE.out];rfl,Below.refl _ _⟩
          ·have HE:=gS (cod=1) (by rw[HCD.out];simp[Wd.boxEq,e1]);(have n1:(rb==cb)=false:=by simpa using e1);(have m1:(rb !=cb)=true:=by simpa using e1);(go_wp2_with fail);go_meet;exact⟨by rw[HE.out];rfl,Below.refl _ _⟩
         ·have HE:=gS (cod=1) (by rw[HCD.out];simp[Wd.boxEq,e0]);(have n0:(ra==ca)=false:=by simpa using e0);(have m0:(ra !=ca)=true:=by simpa using e0);(go_wp2_with fail);go_meet;exact⟨by rw[HE.out];rfl,Below.refl _ _⟩
       case rest=>
        obtain⟨rfl,hbc⟩:=hcut;have HBE:=gH (HBF.out.trans (hbc.mono HBF.out.size));obtain⟨wo,hwo⟩:∃wo,Wd.worst mm (K.take i)=wo:=⟨_,rfl⟩;rw[hwo] at HWS⊢;clear hwo hbc k4 k5 k6 k11 b0 b1 b2 b3 r0 r1 r2 r3 hconv HCD HBF HK10 HD10;by_cases c1:0<cod
        ·(have c1':(0:Int)< (cod:Int):=by omega);by_cases c2:wo=0
         ·(have c2':(wo:Int)=0:=by omega);(have c2b:((wo:Int)==0)=true:=by simp;omega);have HE:=gS (Wd.worst mm (K.take (i+1))=cod) (by rw[HWS.out];unfold Wd.least;rw[if_pos ⟨c1,.inl c2⟩]);(go_wp2_with fail);go_roundw
          case rel=>exact⟨i+1,hiK,by go_num,by rw[HE.out],HBE.out⟩
          case measure=>simp[intOf];omega
         ·(have c2':¬(wo:Int)=0:=by omega);(have c2b:((wo:Int)==0)=false:=by simp;omega);by_cases c3:cod<wo
          ·(have c3':(cod:Int)< (wo:Int):=by omega);have HE:=gS (Wd.worst mm (K.take (i+1))=cod) (by rw[HWS.out];unfold Wd.least;rw[if_pos ⟨c1,.inr c3⟩]);(go_wp2_with fail);go_roundw
           case rel=>exact⟨i+1,hiK,by go_num,by rw[HE.out],HBE.out⟩
           case measure=>simp[intOf];omega
          ·(have c3':¬(cod:Int)< (wo:Int):=by omega);have HE:=gS (Wd.worst mm (K.take (i+1))=wo) (by rw[HWS.out];unfold Wd.least;rw[if_neg (by omega)]);(go_wp2_with fail);go_roundw
           case rel=>exact⟨i+1,hiK,by go_num,by rw[HE.out],HBE.out⟩
           case measure=>simp[intOf];omega
        ·(have c1':¬(0:Int)< (cod:Int):=by omega);have HE:=gS (Wd.worst mm (K.take (i+1))=wo) (by rw[HWS.out];unfold Wd.least;rw[if_neg (by omega)]);(go_wp2_with fail);go_roundw
         case rel=>exact⟨i+1,hiK,by go_num,by rw[HE.out],HBE.out⟩
         case measure=>simp[intOf];omega
      ·(have hiI:¬(i:Int)< (K.length:Int):=by omega);obtain⟨wst,hwst⟩:∃n,Wd.worst mm K=n:=⟨_,rfl⟩;(have hw4:wst<=4:=by rw[<-hwst];exact(Wd.worst_is mm K).le);rw[List.take_of_length_le (by omega),hwst];have HWK:=gH hwst;have HV7:=gH (HV6.out.below HBR.out);have hgr6:gr<w6.heap.size:=(gL HN6.out);have HR7:=gH ((hbr.block gr hgr6).trans HN6.out);have hrr:=HR7.out;rw[<-HM.out] at hrr;have x5:wr.cell? ⟨gr,5,none⟩=some (Sv x):=row_cell hrr rfl;obtain⟨DV,hDV⟩:∃DV,(Sha.sha x).map Y=DV:=⟨_,rfl⟩;have HDG:=gH (zV x DV wr (Nat.le_trans hx (by decide)) hDV);rw[HCV.out] at HDG;have HDL:=gS (DV.toArray.size=32) (by rw[<-hDV];rfl);have HDY:=gH hDV;have HD1:=gS (DV.toArray.all (·.oneCell')=true) (by
        rw[List.all_toArray,List.all_eq_true];intro v hv;rw[<-hDV] at hv;obtain⟨x,_,rfl⟩:=List.mem_map.1 hv;rfl)
       have HC7:=gH HV7.out.cs;rw[HCV.out] at HC7;have HCL:=gS (CV.toArray.size=72) (by rw[<-HCV.out,List.size_toArray];exact oE);(have hgrr:gr<wr.heap.size:=by omega);clear hDV hwst hrr hbr HMU;(go_wp2_with (refine wpList_load_row rfl 67 (.tmp 4) rfl w.heap.size rfl 67 CV.toArray (0,0) _ HC7.out Tryz.underlying67 rfl (by rw[HCL.out];exact Tryz.infoConst) ?_));refine HDG.out.mono ?_;rintro _ w8⟨rfl,hb8⟩;have HV8:=gH (HV7.out.below hb8);have HR8:=gH ((hb8.block gr hgrr).trans HR7.out);have HB8:=gH (HBR.out.trans (hb8.mono hsr));have hgr8:gr<w8.heap.size:=Nat.lt_of_lt_of_le hgrr hb8.size;clear hb8 x5 HDG HC7 HV7 HR7 c4;(go_upto_region 28 with(refine wpList_store_row rfl 39 (.tmp 20) (.tmp 133) rfl w8.heap.size DV.toArray rfl rfl 39 _ (heap_alloc_new w8 _) (by rw[HDL.out];exact Tryz.info22) (by rw[HDL.out];rfl) HD1.out ?_;rw[World.setRow_alloc_new]));have HD9:=gH (heap_alloc_new w8 (.cells DV.toArray 39));have HB9:=gH (gB w8 (.cells DV.toArray 39));generalize w8.alloc (.cells DV.toArray 39)=w9 at HD9 HB9⊢;have HV9:=gH (HV8.out.below HB9.out);have hr9:=(HB9.out.block gr hgr8).trans HR8.out;rw[<-HM.out] at hr9;have x4:w9.cell? ⟨gr,4,none⟩=some (I n):=row_cell hr9 rfl;have HOF:=gH (Gs ((HOA.out.below HB8.out).below HB9.out) (show w.heap.size<=w5.heap.size by omega));have HVB:=gH HV9.out.bl;have hrt:=HV9.out.rt;rw[<-HRVE.out] at hrt;have hcn:w9.cell? ⟨w.heap.size+1,32,none⟩=some (I count):=row_cell hrt (by rw[List.getElem?_toArray];unfold rootV;rw[List.getElem?_append_right (by rw[List.length_map,HRL.out];omega),List.length_map,HRL.out];rfl);have ha1:DigAt w9 (.pointer (some ⟨w8.heap.size,0,none⟩)) DV:=⟨_,_,rfl,fun k v hv=>by rw[gC HD9.out,Nat.zero_add,List.getElem?_toArray];exact hv,by rw[<-List.size_toArray];exact HDL.out⟩;have ha2:DigAt w9 (.pointer (some ⟨w.heap.size+1,0,none⟩)) (root.map Y):=⟨_,_,rfl,fun k v hv=>by rw[gC hrt,Nat.zero_add,List.getElem?_toArray];unfold rootV;rw[List.getElem?_append_left (List.getElem?_eq_some_iff.1 hv).1];exact hv,by rw[List.length_map];exact HRL.out⟩;have hd1:∃cs,DigAt w9 (.pointer (some ⟨w8.heap.size,0,none⟩)) cs:=⟨_,ha1⟩;have hd2:∃cs,DigAt w9 (.pointer (some ⟨w.heap.size+1,0,none⟩)) cs:=⟨_,ha2⟩;have hv1:=digVal_at ha1;have hv2:=digVal_at ha2;clear ha1 ha2;have heq:=eqArrD 9998 (Sha.sha x) root rfl HRL.out w9;rw[HDY.out] at heq;generalize (root.map Y).toArray=RA at*;generalize DV.toArray=DA at*;obtain⟨dx,hdx⟩:∃d,Sha.sha x=d:=⟨_,rfl⟩;rw[hdx] at heq;have HDX:=gH hdx;clear hr9 hrt hdx HR8 HB8 HV8 HB9 HD9 HV9;generalize w8.heap.size=gd at*;by_cases h1:wst=1
       ·subst h1;(go_wp2_with fail);go_ret2;exact gf (by rw[HVR.out];unfold Wd.verdict;rw[HWK.out];simp) HVB.out
       ·(have h1':¬(wst:Int)=1:=by omega);(have h1b:((wst:Int)!=1)=true:=by simp;omega);by_cases h2:dx=root
        ·rw[decide_eq_true h2] at heq;by_cases h3:n=count
         ·subst h3;have HVV:=gS (Wd.verify root n q s=(if wst=2 then ([],9) else if wst=3 then ([],10) else if wst=4 then ([],11) else (A,0))) (by
           rw[HVR.out];unfold Wd.verdict;rw[HWK.out,HDX.out];simp[h1,h2])
          rcases (show wst=0\/wst=2\/wst=3\/wst=4 by omega) with h|h|h|h
          ·subst h;(go_wp2_with fail);go_ret2;refine⟨_,by rw[HVV.out];rfl,?_,HVB.out⟩;rw[HVV.out];exact HOF.out
          ·subst h;(go_wp2_with fail);go_ret2;exact gf (by rw[HVV.out];rfl) HVB.out
          ·subst h;(go_wp2_with fail);go_ret2;exact gf (by rw[HVV.out];rfl) HVB.out
          ·subst h;(go_wp2_with fail);go_ret2;exact gf (by rw[HVV.out];rfl) HVB.out
         ·(have h3b:(n==count)=false:=by simpa using h3);(have h3c:(n !=count)=true:=by simpa using h3);(go_wp2_with fail);go_ret2;exact gf (by rw[HVR.out];unfold Wd.verdict;rw[HWK.out];simp[h1,h3]) HVB.out
        ·rw[decide_eq_false h2] at heq;(go_wp2_with fail);go_ret2;exact gf (by rw[HVR.out];unfold Wd.verdict;rw[HWK.out,HDX.out];simp[h1,h2]) HVB.out
   ·have HF:=gH (Wd.look_bad (s:=s) (.inr ⟨t,j,L,hpg.rd,by omega⟩) root count q HMB.out);(have hjI:¬(j:Int)=(s.length:Int):=by omega);(have hjb:((j:Int)!=(s.length:Int))=true:=by simp;omega);clear hpg;(go_wp2_with fail);go_ret2;exact gf HF.out HV5.out.bl
end
def TextOut(w:World)(m:Nat)(e:Ending)(w':World):Prop:=(∃t:List UInt8,e=.returned (Sv t)/\t.length<=m)/\Below w.heap.size w w'
theorem turned_nil(a:Int)(w:World):Calls Tryz.prog 62 #[Sv [],I a] w fun e w'=>TextOut w 0 e w':=by
 go_enter Tryz.func62,Tryz.ntmps62
 go_wp2_with fail
 go_ret;exact⟨⟨[],rfl,Nat.le_refl _⟩,Below.refl _ _⟩
theorem GA(x:List UInt8)(i:Nat)(hb:i<=x.length)(W:World):(Instr.slice 9 (Sv x) none (some (.int .i64 (i:Int))) none).run Tryz.prog W=.ok (Sv (x.take i)) W:=by
 have e:(⟨x.toArray⟩:ByteArray).size=x.length:=by show x.toArray.size=_;rw[List.size_toArray]
 have h1:(Instr.slice 9 (.string ⟨x.toArray⟩) none (some (.int .i64 (i:Int))) none).run Tryz.prog W=.ok (.string ((⟨x.toArray⟩:ByteArray).extract 0 (i:Int).toNat)) W:=run_slice_string_h W 9 ⟨x.toArray⟩ Tryz.underlying9 .i64 (i:Int) (by omega) (by rw[e];omega);rw[Int.toNat_natCast,ext_str,List.drop_zero,Nat.sub_zero] at h1;exact h1
theorem oH(x:List UInt8)(i:Nat)(hb:i<=x.length)(W:World):(Instr.slice 9 (Sv x) (some (.int .i64 (i:Int))) none none).run Tryz.prog W=.ok (Sv (x.drop i)) W:=by
 have e:(⟨x.toArray⟩:ByteArray).size=x.length:=by show x.toArray.size=_;rw[List.size_toArray]
 have h1:(Instr.slice 9 (.string ⟨x.toArray⟩) (some (.int .i64 (i:Int))) none none).run Tryz.prog W=.ok (.string ((⟨x.toArray⟩:ByteArray).extract (i:Int).toNat (⟨x.toArray⟩:ByteArray).size)) W:=run_slice_string_l W 9 ⟨x.toArray⟩ Tryz.underlying9 .i64 (i:Int) (by omega) (by rw[e];omega);rw[Int.toNat_natCast,e,ext_str,List.take_of_length_le (by rw[List.length_drop];exact Nat.le_refl _)] at h1;exact h1
theorem turned_pos(s:List UInt8)(a:Int)(w:World)(hs:s≠[])(hl:s.length<=1000000000000)(a1:0<=a)(a2:a<=9223372036854775807)(h8:a%8=0\/a%8=1\/a%8=3):Calls Tryz.prog 62 #[Sv s,I a] w fun e w'=>TextOut w (2*s.length+1) e w':=by
 have hz:(⟨s.toArray⟩:ByteArray).size=s.length:=by show s.toArray.size=_;rw[List.size_toArray]
 have hn:0<s.length:=List.length_pos_iff.2 hs;have hne:¬(s.length:Int)=0:=by omega
 have ha:¬a<0:=by omega
 have hnb:((s.length:Int)==0)=false:=by simpa using hne
 have hab:decide (a<0)=false:=by simpa using a1
 go_enter Tryz.func62,Tryz.ntmps62
 go_upto_region 8 with fail
 have hm0:=Int.emod_nonneg (a/8) hne;have hm1:=Int.emod_lt_of_pos (a/8) (show(0:Int)< (s.length:Int) by omega);obtain⟨i,hi⟩:∃i:Nat,a/8%(s.length:Int)=(i:Int):=⟨(a/8%(s.length:Int)).toNat,by omega⟩;rw[hi] at hm0 hm1⊢;have hil:i<s.length:=by omega
 generalize (wrap64 (1+(a/8/(s.length:Int)).tmod 255)%256)=vv;generalize (a/8/(s.length:Int))=qq;have hs1:=GA s i (by omega);have hs2:=oH s i (by omega);have hs3:∀W,(Instr.slice 9 (Sv s) (some (.int .i64 ((i:Int)+1))) none none).run Tryz.prog W=.ok (Sv (s.drop (i+1))) W:=fun W=>by
  have h:=oH s (i+1) (by omega) W;have e:((i+1:Nat):Int)=(i:Int)+1:=by omega
  rw[e] at h;exact h
 have l1:(s.take i).length<=s.length:=by rw[List.length_take];omega
 have l2:(s.drop i).length<=s.length:=by rw[List.length_drop];omega
 have l3:(s.drop (i+1)).length<=s.length:=by rw[List.length_drop];omega
 have hwi:IntKind.i64.wrap ((i:Int)+1)=(i:Int)+1:=by rw[IntKind.wrap_i64];omega
 rcases h8 with h8|h8|h8
 ·rw[h8];go_wp2_with fail
  go_ret;exact⟨⟨_,rfl,by omega⟩,Below.refl _ _⟩
 ·rw[h8];have ha1:=gm (s.take i) (s.drop (i+1)) (by omega);go_wp2_with fail
  go_quiet (fail)
  generalize hW:World.drewN w nq=w9;have HB:=gS (Below w.heap.size w w9) (by rw[<-hW];exact⟨rfl,rfl,rfl,Nat.le_refl _,fun _ _=>rfl⟩);clear hW;go_wp2_with fail
  go_ret;exact⟨⟨s.take i++s.drop (i+1),rfl,by rw[List.length_append];omega⟩,HB.out⟩
 ·rw[h8];have ha1:=gm s (s.drop i) (by omega);go_wp2_with fail
  go_ret;exact⟨⟨s++s.drop i,rfl,by rw[List.length_append];omega⟩,Below.refl _ _⟩
theorem turned_two(s:List UInt8)(a:Int)(w:World)(hs:s≠[])(hl:s.length<=1000000000000)(a1:0<=a)(a2:a<=9223372036854775807)(h8:a%8=2):Calls Tryz.prog 62 #[Sv s,I a] w fun e w'=>TextOut w (2*s.length+1) e w':=by
 have hz:(⟨s.toArray⟩:ByteArray).size=s.length:=by show s.toArray.size=_;rw[List.size_toArray]
 have hn:0<s.length:=List.length_pos_iff.2 hs;have hne:¬(s.length:Int)=0:=by omega
 have ha:¬a<0:=by omega
 have hnb:((s.length:Int)==0)=false:=by simpa using hne
 have hab:decide (a<0)=false:=by simpa using a1
 go_enter Tryz.func62,Tryz.ntmps62
 go_upto_region 8 with fail
 have hm0:=Int.emod_nonneg (a/8) hne;have hm1:=Int.emod_lt_of_pos (a/8) (show(0:Int)< (s.length:Int) by omega);obtain⟨i,hi⟩:∃i:Nat,a/8%(s.length:Int)=(i:Int):=⟨(a/8%(s.length:Int)).toNat,by omega⟩;rw[hi] at hm0 hm1⊢;have hil:i<s.length:=by omega
 have hv0:0<=wrap64 (1+(a/8/(s.length:Int)).tmod 255)%256:=Int.emod_nonneg _ (by decide);have hv1:wrap64 (1+(a/8/(s.length:Int)).tmod 255)%256<256:=Int.emod_lt_of_pos _ (by decide);generalize (wrap64 (1+(a/8/(s.length:Int)).tmod 255)%256)=vv at*;obtain⟨bv,hbv⟩:∃bv:UInt8,vv=(bv.toNat:Int):=⟨UInt8.ofNat vv.toNat,by simp;omega⟩;subst hbv;generalize (a/8/(s.length:Int))=qq;have hs1:=GA s i (by omega);have hs2:=oH s i (by omega);have hs3:∀W,(Instr.slice 9 (Sv s) (some (.int .i64 ((i:Int)+1))) none none).run Tryz.prog W=.ok (Sv (s.drop (i+1))) W:=fun W=>by
  have h:=oH s (i+1) (by omega) W;have e:((i+1:Nat):Int)=(i:Int)+1:=by omega
  rw[e] at h;exact h
 have l1:(s.take i).length<=s.length:=by rw[List.length_take];omega
 have l2:(s.drop i).length<=s.length:=by rw[List.length_drop];omega
 have l3:(s.drop (i+1)).length<=s.length:=by rw[List.length_drop];omega
 have hwi:IntKind.i64.wrap ((i:Int)+1)=(i:Int)+1:=by rw[IntKind.wrap_i64];omega
 rw[h8];have ha1:=gm (s.take i) [bv] (by simp;omega);have ha2:=gm (s.take i++[bv]) (s.drop i) (by simp;omega);have hcv:(convert 59 9 (.slice (some ⟨w.heap.size,0,none⟩) 1 1)).run Tryz.prog ((w.alloc (.cells #[.int .u8 (bv.toNat:Int)] 5)).drew)=.ok (Sv [bv]) ((w.alloc (.cells #[.int .u8 (bv.toNat:Int)] 5)).drew):=oL w.heap.size 1 1 [bv] rfl _ (fun j u hj=>by
  match j,hj with
  |0,hj=>simp at hj;subst hj;exact(cell_of_row ((w.alloc (.cells #[.int .u8 (bv.toNat:Int)] 5)).drew) w.heap.size 0 #[.int .u8 (bv.toNat:Int)] 5 (0,0) (heap_alloc_new w _)).trans rfl)
 go_upto_region 13 with fail
 refine gX 11 (fun _=>True) (by kernel_rfl) trivial (fun hH=>?_);refine tkJ 0 rfl (by kernel_rfl) gJ (by rfl) hH ⟨_,by rintro W -;go_simp;try with_reducible rfl,?_⟩;try go_simp
 refine tkJ 1 rfl (by kernel_rfl) gJ (by rfl) hH ⟨_,by rintro W -;go_simp;try with_reducible rfl,?_⟩;try go_simp
 refine tkJ 2 rfl (by kernel_rfl) gJ (by rfl) hH ⟨_,by rintro W -;go_simp;try with_reducible rfl,?_⟩;try go_simp
 refine tkJ 3 rfl (by kernel_rfl) gJ (by rfl) hH ⟨_,by rintro W -;go_simp;try with_reducible rfl,?_⟩;try go_simp
 refine tkJ 7 rfl (by kernel_rfl) gJ (by rfl) hH ⟨_,by rintro W -;go_simp;try with_reducible rfl,?_⟩;try go_simp
 refine tkJ 8 rfl (by kernel_rfl) gJ (by rfl) hH ⟨_,by rintro W -;go_simp;try with_reducible rfl,?_⟩;try go_simp
 refine tkJ 9 rfl (by kernel_rfl) gJ (by rfl) hH ⟨_,by rintro W -;go_simp;try with_reducible rfl,?_⟩;try go_simp
 refine gA (i:=4) (by kernel_rfl) rfl (fun K hK=>?_);go_simp;refine hK.out _ _ (fun _=>trivial) ?_;clear hK K;try go_simp
 refine gA (i:=5) (by kernel_rfl) rfl (fun K hK=>?_);go_simp;refine hK.out _ _ (fun _=>trivial) ?_;clear hK K;try go_simp
 refine gA (i:=6) (by kernel_rfl) rfl (fun K hK=>?_);go_simp;refine hK.out _ _ (fun _=>trivial) ?_;clear hK K;try go_simp
 refine gA (i:=10) (by kernel_rfl) rfl (fun K hK=>?_);go_simp;refine hK.out _ _ (fun _=>trivial) ?_;clear hK K;try go_simp
 refine gA (i:=11) (by kernel_rfl) rfl (fun K hK=>?_);go_simp;refine hK.out _ _ (fun h=>absurd rfl h) ?_;clear hK K;refine gO (by kernel_rfl) ?_ _;have hb9:=(gB w (.cells #[.int .u8 (bv.toNat:Int)] 5)).drew;generalize (w.alloc (.cells #[.int .u8 (bv.toNat:Int)] 5)).drew=w9 at*;have HB:=gH hb9;clear hb9 hcv;go_wp2_with fail
 go_ret;exact⟨⟨s.take i++[bv]++s.drop i,by simp,by simp;omega⟩,HB.out⟩
theorem turned_rest(s:List UInt8)(a:Int)(w:World)(hs:s≠[])(hl:s.length<=1000000000000)(a1:0<=a)(a2:a<=9223372036854775807)(h8:a%8≠0/\a%8≠1/\a%8≠2/\a%8≠3):Calls Tryz.prog 62 #[Sv s,I a] w fun e w'=>TextOut w (2*s.length+1) e w':=by
 have hz:(⟨s.toArray⟩:ByteArray).size=s.length:=by show s.toArray.size=_;rw[List.size_toArray]
 have hn:0<s.length:=List.length_pos_iff.2 hs;have hne:¬(s.length:Int)=0:=by omega
 have ha:¬a<0:=by omega
 have hnb:((s.length:Int)==0)=false:=by simpa using hne
 have hab:decide (a<0)=false:=by simpa using a1
 go_enter Tryz.func62,Tryz.ntmps62
 go_upto_region 8 with fail
 have hm0:=Int.emod_nonneg (a/8) hne;have hm1:=Int.emod_lt_of_pos (a/8) (show(0:Int)< (s.length:Int) by omega);obtain⟨i,hi⟩:∃i:Nat,a/8%(s.length:Int)=(i:Int):=⟨(a/8%(s.length:Int)).toNat,by omega⟩;rw[hi] at hm0 hm1⊢;have hil:i<s.length:=by omega
 have hv0:0<=wrap64 (1+(a/8/(s.length:Int)).tmod 255)%256:=Int.emod_nonneg _ (by decide);have hv1:wrap64 (1+(a/8/(s.length:Int)).tmod 255)%256<256:=Int.emod_lt_of_pos _ (by decide);generalize (wrap64 (1+(a/8/(s.length:Int)).tmod 255)%256)=vv at*;obtain⟨bv,hbv⟩:∃bv:UInt8,vv=(bv.toNat:Int):=⟨UInt8.ofNat vv.toNat,by simp;omega⟩;subst hbv;generalize (a/8/(s.length:Int))=qq;have hs1:=GA s i (by omega);have hs2:=oH s i (by omega);have hs3:∀W,(Instr.slice 9 (Sv s) (some (.int .i64 ((i:Int)+1))) none none).run Tryz.prog W=.ok (Sv (s.drop (i+1))) W:=fun W=>by
  have h:=oH s (i+1) (by omega) W;have e:((i+1:Nat):Int)=(i:Int)+1:=by omega
  rw[e] at h;exact h
 have l1:(s.take i).length<=s.length:=by rw[List.length_take];omega
 have l2:(s.drop i).length<=s.length:=by rw[List.length_drop];omega
 have l3:(s.drop (i+1)).length<=s.length:=by rw[List.length_drop];omega
 have hwi:IntKind.i64.wrap ((i:Int)+1)=(i:Int)+1:=by rw[IntKind.wrap_i64];omega
 obtain⟨e0,e1,e2,e3⟩:=h8;have hix:=oX ⟨s.toArray⟩ (i:Int) i rfl (by rw[hz];omega);generalize a%8=r8 at*;go_upto_region 16 with fail
 refine gX 16 (fun _=>True) (by kernel_rfl) trivial (fun hH=>?_);refine tkJ 0 rfl (by kernel_rfl) gJ (by rfl) hH ⟨_,by rintro W -;go_simp;try with_reducible rfl,?_⟩;try go_simp
 refine tkJ 1 rfl (by kernel_rfl) gJ (by rfl) hH ⟨_,by rintro W -;go_simp;try with_reducible rfl,?_⟩;try go_simp
 refine tkJ 2 rfl (by kernel_rfl) gJ (by rfl) hH ⟨_,by rintro W -;go_simp;try with_reducible rfl,?_⟩;try go_simp
 refine tkJ 3 rfl (by kernel_rfl) gJ (by rfl) hH ⟨_,by rintro W -;go_simp;try with_reducible rfl,?_⟩;try go_simp
 refine tkJ 4 rfl (by kernel_rfl) gJ (by rfl) hH ⟨_,by rintro W -;go_simp;try with_reducible rfl,?_⟩;try go_simp
 refine tkJ 5 rfl (by kernel_rfl) gJ (by rfl) hH ⟨_,by rintro W -;go_simp;try with_reducible rfl,?_⟩;try go_simp
 refine tkJ 6 rfl (by kernel_rfl) gJ (by rfl) hH ⟨_,by rintro W -;go_simp;try with_reducible rfl,?_⟩;try go_simp
 refine tkJ 7 rfl (by kernel_rfl) gJ (by rfl) hH ⟨_,by rintro W -;go_simp;try with_reducible rfl,?_⟩;try go_simp
 have hxb:=bounds_u8 (wf_bits .xor .u8 (Sha.byteAt s i:Int) (bv.toNat:Int));generalize bits .xor .u8 (Sha.byteAt s i:Int) (bv.toNat:Int)=xv at*;obtain⟨bx,hbx⟩:∃bx:UInt8,xv=(bx.toNat:Int):=⟨UInt8.ofNat xv.toNat,by simp;omega⟩;subst hbx;have ha1:=gm (s.take i) [bx] (by simp;omega);have ha2:=gm (s.take i++[bx]) (s.drop (i+1)) (by simp;omega);have hcv:(convert 59 9 (.slice (some ⟨w.heap.size,0,none⟩) 1 1)).run Tryz.prog ((w.alloc (.cells #[.int .u8 (bx.toNat:Int)] 5)).drew)=.ok (Sv [bx]) ((w.alloc (.cells #[.int .u8 (bx.toNat:Int)] 5)).drew):=oL w.heap.size 1 1 [bx] rfl _ (fun j u hj=>by
  match j,hj with
  |0,hj=>simp at hj;subst hj;exact(cell_of_row ((w.alloc (.cells #[.int .u8 (bx.toNat:Int)] 5)).drew) w.heap.size 0 #[.int .u8 (bx.toNat:Int)] 5 (0,0) (heap_alloc_new w _)).trans rfl)
 refine tkJ 11 rfl (by kernel_rfl) gJ (by rfl) hH ⟨_,by rintro W -;go_simp;try with_reducible rfl,?_⟩;try go_simp
 refine tkJ 12 rfl (by kernel_rfl) gJ (by rfl) hH ⟨_,by rintro W -;go_simp;try with_reducible rfl,?_⟩;try go_simp
 refine tkJ 13 rfl (by kernel_rfl) gJ (by rfl) hH ⟨_,by rintro W -;go_simp;try with_reducible rfl,?_⟩;try go_simp
 refine tkJ 14 rfl (by kernel_rfl) gJ (by rfl) hH ⟨_,by rintro W -;go_simp;try with_reducible rfl,?_⟩;try go_simp
 refine gA (i:=8) (by kernel_rfl) rfl (fun K hK=>?_);go_simp;refine hK.out _ _ (fun _=>trivial) ?_;clear hK K;try go_simp
 refine gA (i:=9) (by kernel_rfl) rfl (fun K hK=>?_);go_simp;refine hK.out _ _ (fun _=>trivial) ?_;clear hK K;try go_simp
 refine gA (i:=10) (by kernel_rfl) rfl (fun K hK=>?_);go_simp;refine hK.out _ _ (fun _=>trivial) ?_;clear hK K;try go_simp
 refine gA (i:=15) (by kernel_rfl) rfl (fun K hK=>?_);go_simp;refine hK.out _ _ (fun _=>trivial) ?_;clear hK K;try go_simp
 refine gA (i:=16) (by kernel_rfl) rfl (fun K hK=>?_);go_simp;refine hK.out _ _ (fun h=>absurd rfl h) ?_;clear hK K;refine gO (by kernel_rfl) ?_ _;have hb9:=(gB w (.cells #[.int .u8 (bx.toNat:Int)] 5)).drew;generalize (w.alloc (.cells #[.int .u8 (bx.toNat:Int)] 5)).drew=w9 at*;have HB:=gH hb9;clear hb9 hcv;go_wp2_with fail
 go_ret;exact⟨⟨s.take i++[bx]++s.drop (i+1),by simp,by simp;omega⟩,HB.out⟩
end Go.Proofs.YtenaelkbgkpllaaGreatDoor
