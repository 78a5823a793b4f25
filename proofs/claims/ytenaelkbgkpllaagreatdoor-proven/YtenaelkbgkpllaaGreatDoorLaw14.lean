/- Part 14 of what the four laws rest on: laid by a program out of the texts of wip/T. -/
import Derived.Test.YtenaelkbgkpllaaGreatDoorLaw03
import Derived.Test.YtenaelkbgkpllaaGreatDoorLaw13
import Derived.Shelf.SlSortCmp.NoneTotal
import Derived.Shelf.SlSortCmp.WholeK
set_option maxRecDepth 100000
set_option maxHeartbeats 8000000
namespace Go.Proofs.YtenaelkbgkpllaaGreatDoor
open Go.RowKit
theorem must_few{q:Wd.Qr}{a:List Wd.Pt}{b:Wd.Box}(h:q.kind=1)(hl:(a.length:Int)<q.k):Wd.must q a b=true:=by unfold Wd.must;rw[if_neg (by omega),if_pos hl]
theorem must_last{q:Wd.Qr}{a:List Wd.Pt}{b:Wd.Box}{p:Wd.Pt}(h:q.kind=1)(hl:¬(a.length:Int)<q.k)(hp:a.getLast? =some p):Wd.must q a b=decide (Wd.dist b q.x q.y<=Wd.dist (Wd.boxOf p) q.x q.y):=by unfold Wd.must;rw[if_neg (by omega),if_neg hl,hp];rfl
theorem mustShow_few(q:Wd.Qr)(ad:Option Addr)(c:Nat)(a:List Wd.Pt)(b:Wd.Box)(w:World)(hk:q.kind=1)(hl:(a.length:Int)<q.k):
  Calls Tryz.prog 42 #[Qv q,.slice ad a.length c,Bx b] w fun e w'=>e=.returned (.bool true)/\Below w.heap.size w w':=by
 obtain⟨qk,qa,qb,qc,qd,qx,qy,qn⟩:=q;simp only at hk hl;subst hk;go_enter Tryz.func42,Tryz.ntmps42
 go_wp2;go_ret;exact⟨rfl,(gB w _).alloc (by simp) _⟩
def QryTwo(w:World)(g k j:Nat)(q:Wd.Qr)(b c:Wd.Box):Prop:=(w.cell? ⟨g,5,none⟩=some (I q.x)/\w.cell? ⟨g,6,none⟩=some (I q.y))/\(w.cell? ⟨k,0,none⟩=some (I b.a)/\w.cell? ⟨k,1,none⟩=some (I b.b)/\w.cell? ⟨k,2,none⟩=some (I b.c)/\w.cell? ⟨k,3,none⟩=some (I b.d))/\(w.cell? ⟨j,0,none⟩=some (I c.a)/\w.cell? ⟨j,1,none⟩=some (I c.b)/\w.cell? ⟨j,2,none⟩=some (I c.c)/\w.cell? ⟨j,3,none⟩=some (I c.d))
theorem QryTwo.below{w w':World}{g k j B:Nat}{q:Wd.Qr}{b c:Wd.Box}(h:QryTwo w g k j q b c)(hb:Below B w w')(hg:g<B)(hk:k<B)(hj:j<B):QryTwo w' g k j q b c:=
 ⟨⟨(hb.cell (p:=⟨g,5,none⟩) hg).trans h.1.1,(hb.cell (p:=⟨g,6,none⟩) hg).trans h.1.2⟩,
  ⟨(hb.cell (p:=⟨k,0,none⟩) hk).trans h.2.1.1,(hb.cell (p:=⟨k,1,none⟩) hk).trans h.2.1.2.1,(hb.cell (p:=⟨k,2,none⟩) hk).trans h.2.1.2.2.1,(hb.cell (p:=⟨k,3,none⟩) hk).trans h.2.1.2.2.2⟩,
  ⟨(hb.cell (p:=⟨j,0,none⟩) hj).trans h.2.2.1,(hb.cell (p:=⟨j,1,none⟩) hj).trans h.2.2.2.1,(hb.cell (p:=⟨j,2,none⟩) hj).trans h.2.2.2.2.1,(hb.cell (p:=⟨j,3,none⟩) hj).trans h.2.2.2.2.2⟩⟩
theorem QryTwo.drew{w:World}{g k j:Nat}{q:Wd.Qr}{b c:Wd.Box}(h:QryTwo w g k j q b c):QryTwo w.drew g k j q b c:=by simpa[QryTwo] using h
theorem boxOf_in{p:Wd.Pt}(h:p.Ok):(Wd.boxOf p).In:=⟨h.x1,h.x2,h.y1,h.y2,h.x1,h.x2,h.y1,h.y2⟩
theorem mustShow_last(q:Wd.Qr)(g o c:Nat)(a:List Wd.Pt)(p:Wd.Pt)(b:Wd.Box)(w:World)(hk:q.kind=1)(hl:¬(a.length:Int)<q.k)(hl0:0<a.length)(hl2:a.length<=1000)(hp:PtAt w g (o+(a.length-1)*3) p)(hok:p.Ok)(hb:b.In)(hx: -1000000<=q.x/\q.x<=1000000)(hy: -1000000<=q.y/\q.y<=1000000):
  Calls Tryz.prog 42 #[Qv q,.slice (some ⟨g,o,none⟩) a.length c,Bx b] w fun e w'=>e=.returned (.bool (decide (Wd.dist b q.x q.y<=Wd.dist (Wd.boxOf p) q.x q.y)))/\Below w.heap.size w w':=by
 have hglt:=hp.lt;have HDB:=gH (fun W=>zU b q.x q.y W hb hx hy);have HDP:=gH (fun W=>zU (Wd.boxOf p) q.x q.y W (boxOf_in hok) hx hy);clear hok hb hx hy;obtain⟨qk,qa,qb,qc,qd,qx,qy,qn⟩:=q;simp only at hk hl HDB HDP;subst hk;have hb2:=fun o o'=>(gB w o).alloc (by simp) o';have hr2:=heap_alloc2_new w;have hr1:=heap_alloc2_old w;have hs2:=fun o o'=>show((w.alloc o).alloc o').heap.size=w.heap.size+2 by simp
 go_enter Tryz.func42,Tryz.ntmps42
 go_upto_region 3 with fail
 generalize hW:World.alloc (World.alloc w _) _=w1;have hb1:Below w.heap.size w w1:=by rw[<-hW];exact hb2 _ _
 have hq1:w1.heap[w.heap.size]? =some (.cells #[I 1,I qa,I qb,I qc,I qd,I qx,I qy,I qn] 46 (0,0)):=by rw[<-hW];exact hr1 _ _
 have hx1:w1.heap[w.heap.size+1]? =some (.cells #[I b.a,I b.b,I b.c,I b.d] 88 (0,0)):=by rw[<-hW];exact hr2 _ _
 have hs1:w.heap.size+2<=w1.heap.size:=by rw[<-hW,hs2];exact Nat.le_refl _
 clear hb2 hr1 hr2 hs2 hW;have HB1:=gH hb1;have HQ1:=gH hq1;have HX1:=gH hx1;obtain⟨k0,k1,k2,k3,k4,k5,k6,k7⟩:=rowQ8 hq1;have hp1:=hp.below hb1 hglt;have e1:((a.length-1:Nat):Int)=(a.length:Int)-1:=by omega
 have HI:=gH e1;obtain⟨p1,p2,p3⟩:=hp1;have hl':¬(a.length:Int)<qn:=hl;clear hb1 hq1 hx1 e1 hp;have hix:((a.length:Int)-1).toNat=a.length-1:=by omega
 go_wp2_with fail
 refine(GL p _).mono ?_;rintro _ w2⟨rfl,hb2⟩;have hs2:=hb2.size;have HB2:=gH (HB1.out.trans (hb2.mono (by omega)));have HQ2:=gH ((hb2.block w.heap.size (by omega)).trans HQ1.out);have HX2:=gH ((hb2.block (w.heap.size+1) (by omega)).trans HX1.out);clear hb2 k0 k1 k2 k3 k4 k5 k6 k7 p1 p2 p3;have hr3':=heap_alloc_new w2;have hb3':=gB w2;have hs3':=fun o=>show(w2.alloc o).heap.size=w2.heap.size+1 by simp
 go_upto_region 6 with fail
 generalize hW:World.alloc w2 _=w3;have hb3:Below w2.heap.size w2 w3:=by rw[<-hW];exact hb3' _
 have hr3:w3.heap[w2.heap.size]? =some (.cells #[I (Wd.boxOf p).a,I (Wd.boxOf p).b,I (Wd.boxOf p).c,I (Wd.boxOf p).d] 88 (0,0)):=by rw[<-hW];exact hr3' _
 have hs3:w2.heap.size+1<=w3.heap.size:=by rw[<-hW,hs3'];exact Nat.le_refl _
 clear hb3' hr3' hs3' hW;have HB3:=gH (HB2.out.trans (hb3.mono (by omega)));obtain⟨-, -, -, -, -,q5,q6, -⟩:=rowQ8 ((hb3.block w.heap.size (by omega)).trans HQ2.out);have hS:QryTwo w3 w.heap.size (w.heap.size+1) w2.heap.size ⟨1,qa,qb,qc,qd,qx,qy,qn⟩ b (Wd.boxOf p):=⟨⟨q5,q6⟩,row4 ((hb3.block (w.heap.size+1) (by omega)).trans HX2.out),row4 hr3⟩;have HS:=gH hS;clear hb3 hr3 q5 q6;have HRW:=gS (decide (Wd.dist b qx qy<=Wd.dist (Wd.boxOf p) qx qy)=decide (Wd.dist b qx qy<=Wd.dist (Wd.boxOf p) qx qy)) rfl;generalize hbp:Wd.boxOf p=bp at*;have HBP:=gH hbp;generalize hd1:Wd.dist b qx qy=d1 at*;have HD1:=gH hd1;generalize hd2:Wd.dist bp qx qy=d2 at*;have HD2:=gH hd2;clear hbp hd1 hd2 HRW;obtain⟨ba,bb,bc,bd⟩:=b;obtain⟨ca,cb,cc,cd⟩:=bp;go_region_held3 (fun W=>(W.cell? ⟨w.heap.size,5,none⟩=some (I qx)/\W.cell? ⟨w.heap.size,6,none⟩=some (I qy))/\(W.cell? ⟨w.heap.size+1,0,none⟩=some (I ba)/\W.cell? ⟨w.heap.size+1,1,none⟩=some (I bb)/\W.cell? ⟨w.heap.size+1,2,none⟩=some (I bc)/\W.cell? ⟨w.heap.size+1,3,none⟩=some (I bd))/\(W.cell? ⟨w2.heap.size,0,none⟩=some (I ca)/\W.cell? ⟨w2.heap.size,1,none⟩=some (I cb)/\W.cell? ⟨w2.heap.size,2,none⟩=some (I cc)/\W.cell? ⟨w2.heap.size,3,none⟩=some (I cd))) (first|assumption|exact hS|exact hS.drew) ((first| (go_at_call_of 80 (I ba);refine(HDB.out _).mono ?_;rintro _ w6⟨rfl,hb6⟩;first| (have hS6:=HS.out.drew.below hb6 (by simp;omega) (by simp;omega) (by simp;omega);have hs6:w3.heap.size<=w6.heap.size:=hb6.size)| (have hs6:=hb6.size;have hS6:=hS7.below hb6 (by omega) (by omega) (by omega)))| (go_at_call_of 80 (I ca);refine(HDP.out _).mono ?_;rintro _ w7⟨rfl,hb7⟩;first| (have hs7:=hb7.size;have hS7:=hS6.below hb7 (by omega) (by omega) (by omega))| (have hS7:=HS.out.drew.below hb7 (by simp;omega) (by simp;omega) (by simp;omega);have hs7:w3.heap.size<=w7.heap.size:=hb7.size))))
 go_wp2;go_ret;refine⟨by rw[HBP.out,HD1.out,HD2.out];rfl,(HB3.out.drew.trans (hb6.mono ?_)).trans (hb7.mono ?_)⟩
 ·show w.heap.size<=w3.heap.size;omega
 ·omega
def kidP(m:Wd.Box->Bool)(n:Nat)(c:Wd.NT n):List UInt8:=Wd.saidN n c++(if m (Wd.boxN n c)=true then 1::Wd.proofN m n c else [0])
theorem proofN_kids(m:Wd.Box->Bool)(n:Nat)(t:Wd.NT (n+1))(h:¬(Wd.Nd.kids t).length=0):Wd.proofN m (n+1) t=[2,UInt8.ofNat (Wd.Nd.kids t).length]++(Wd.Nd.kids t).flatMap (kidP m n):=by show(if (Wd.Nd.kids t).length=0 then _ else _)=_;rw[if_neg h];rfl
theorem proofN_leaf(m:Wd.Box->Bool)(n:Nat)(t:Wd.NT (n+1))(h:(Wd.Nd.kids t).length=0):Wd.proofN m (n+1) t=Wd.leafText (Wd.Nd.pts t):=by show(if (Wd.Nd.kids t).length=0 then _ else _)=_;rw[if_pos h]
theorem flat_part{α β:Type}(f:α->List β):∀(K:List α) (i:Nat) (h:i<K.length),((K.take i).flatMap f).length+(f K[i]).length<=(K.flatMap f).length
 |c::K,0,_=>by rw[List.flatMap_cons,List.length_append];show 0+(f c).length<=_;omega
 |c::K,i+1,h=>by have ih:=flat_part f K i (by simpa using h);rw[List.flatMap_cons,List.length_append,List.take_succ_cons,List.flatMap_cons,List.length_append,List.getElem_cons_succ];omega
theorem append_byte{w:World}{B:Nat}{v:Value}{l:List UInt8}(b:UInt8)(x:Int)(hx:((b.toNat:Nat):Int)=x)(hown:OwnB w B v l)(hB:B<=w.heap.size)(hl:l.length<=900000):
  ∃v' w',(Builtin.append_ #[59,59] 59 #[v,.slice (some ⟨w.heap.size,0,none⟩) 1 1]).run Tryz.prog (w.alloc (.cells #[.int .u8 x] 5))=.ok v' w'/\OwnB w' B v' (l++[b])/\w.grownBy w' v.ownBlock/\Fresh w v v':=by
 subst hx;obtain⟨v1,w1,h1,ho1,hg1,hf1⟩:=zN (w:=w.alloc (.cells #[.int .u8 b.toNat] 5)) [b] ⟨w.heap.size,0,none⟩ 1 (hown.below (gB w _)) (by simp;omega) (by simp;omega) (fun j c hj=>by
  rw[Addr.add_lit,Nat.zero_add,gC (heap_alloc_new w _)]
  match j,hj with
  |0,hj=>simp at hj;subst hj;rfl)
 exact⟨v1,w1,h1,ho1,oT (gB w _) hg1,oU (by simp) hf1⟩
theorem append_two{w:World}{B:Nat}{v:Value}{l:List UInt8}(n:Nat)(hn:n<=4)(hown:OwnB w B v l)(hB:B<=w.heap.size)(hl:l.length<=900000):
  ∃v' w',(Builtin.append_ #[59,59] 59 #[v,.slice (some ⟨w.heap.size,0,none⟩) 2 2]).run Tryz.prog (w.alloc (.cells #[.int .u8 2,.int .u8 n] 5))=.ok v' w'/\OwnB w' B v' (l++[2,UInt8.ofNat n])/\w.grownBy w' v.ownBlock/\Fresh w v v':=by
 obtain⟨v1,w1,h1,ho1,hg1,hf1⟩:=zN (w:=w.alloc (.cells #[.int .u8 2,.int .u8 n] 5)) [2,UInt8.ofNat n] ⟨w.heap.size,0,none⟩ 2 (hown.below (gB w _)) (by simp;omega) (by simp;omega) (fun j b hj=>by
  have hkk:(UInt8.ofNat n).toNat=n:=by rw[UInt8.toNat_ofNat'];omega
  rw[Addr.add_lit,Nat.zero_add,gC (heap_alloc_new w _)]
  match j,hj with
  |0,hj=>simp at hj;subst hj;rfl
  |1,hj=>simp at hj;subst hj;show some (Value.int .u8 (n:Int))=some (Y (UInt8.ofNat n));rw[Y,hkk])
 exact⟨v1,w1,h1,ho1,oT (gB w _) hg1,oU (by simp) hf1⟩
def MustIs(w:World)(B kq ka:Nat)(m:Wd.Box->Bool):Prop:=∀(W:World) (b:Wd.Box),b.In->Below B w W->Calls Tryz.prog 41 #[Bx b,.pointer (some ⟨kq,0,none⟩),.pointer (some ⟨ka,0,none⟩)] W fun e w'=>e=.returned (.bool (m b))/\Below W.heap.size W w'
theorem MustIs.below{w w':World}{B kq ka:Nat}{m:Wd.Box->Bool}(h:MustIs w B kq ka m)(hb:Below B w w'):MustIs w' B kq ka m:=fun W b hi hW=>h W b hi (hb.trans hW)
theorem zh{w w':World}{B:Nat}{v:Value}{l:List UInt8}(h:w.grownBy w' v.ownBlock)(ho:OwnB w B v l)(hB:B<=w.heap.size):Below B w w':=⟨h.os,h.tape,h.output,h.size,fun j hj=>h.block j (by omega) (fun e=>by have:=(ho.lt e.symm).1;omega)⟩
theorem appendProof_any(m:Wd.Box->Bool)(kq ka:Nat):∀(n:Nat) (t:Wd.NT n) (v:Value) (l:List UInt8) (V:List Value) (w:World) (B:Nat) (S:Nat->Prop) (_:∀g,S g->g<B) (_:B<=w.heap.size) (_:l.length+(Wd.proofN m n t).length<=600000) (_:Wd.Few n t) (_:Wd.InN n t) (_:NodeIs w S n t V) (_:OwnB w B v l) (_:MustIs w B kq ka m),
  Calls Tryz.prog 81 #[v,.agg V.toArray,.func (.func 41) #[] #[.pointer (some ⟨kq,0,none⟩),.pointer (some ⟨ka,0,none⟩)]] w fun e w'=>Put w B v l (Wd.proofN m n t) e w':=by
 intro n;induction n with
 |zero=>intro t;exact nomatch t
 |succ n ih=>
  intro t v l V w B S hS hB hlen hfew hin hN hown hmu;have HIN:=gH hin;clear hin;have IH:=gH ih;have HFEW:=gH hfew;have HMU:=gH hmu;clear ih hfew hmu;obtain⟨a1,l1,c1,a2,l2,c2,hV,hd⟩:=hN.cells;have HR:=gS (Row39 V) (by rw[hV];exact gU hd);obtain⟨vp,vc,hVe, -,hrp,⟨ac,cc,rfl,hkids⟩⟩:=hN;have HVE:=gH hVe;have HRP:=gH hrp;have HKD:=gH hkids;have HO:=gH hown;have HS:=gH hS;have HLEN:=gH hlen;have HVB:=gH (fun g (hg:v.ownBlock=some g)=>OwnB.lt hown hg);have hk4:(Wd.Nd.kids t).length<=4:=HFEW.out.2.1;have hp4:(Wd.Nd.pts t).length<=4:=HFEW.out.1;obtain⟨fs,hu⟩:=underNode;have HU:=gH hu;obtain⟨av,cv,rfl⟩:=hown.slice;clear hu hV hd hVe hrp hkids hown hS hlen;have hb2:=gB w;have hr2:=heap_alloc_new w;have hs2:=fun o=>show(w.alloc o).heap.size=w.heap.size+1 by simp
  go_enter Tryz.func81,Tryz.ntmps81
  go_upto_region 1 with fail
  generalize hW:World.alloc w _=w1;have hb1:Below w.heap.size w w1:=by rw[<-hW];exact hb2 _
  have hn1:w1.heap[w.heap.size]? =some (.cells V.toArray 90 (0,0)):=by rw[<-hW];exact hr2 _
  have hs1:w1.heap.size=w.heap.size+1:=by rw[<-hW];exact hs2 _
  clear hb2 hr2 hs2 hW;have HB1:=gH hb1;have HS1:=gH hs1;have HN1:=gS (w1.heap[w.heap.size]? =some (.cells (nodeV vp (.slice ac (Wd.Nd.kids t).length cc) (Wd.Nd.box t) (Wd.Nd.n t) ((Wd.Nd.dig t).map Y)).toArray 90 (0,0))) (by rw[hn1,HVE.out]);obtain⟨⟨k0,k1⟩, -, -⟩:=gT HN1.out;clear hb1 hn1 hs1;by_cases h0:(Wd.Nd.kids t).length=0
  ·have HPR:=gH (proofN_leaf m n t h0);have HRB:=gS (ReadsB w1 B vp (Wd.Nd.pts t)) ((HRP.out.keep (gD HB1.out (fun g hg=>by have:=HS.out g hg;omega)) (fun _ h=>h)).low HS.out);have HAL:=gH (appendLeaf_any (.slice av l.length cv) l vp (Wd.Nd.pts t) w1 B (by have:=HS1.out;omega) (by have:=HLEN.out;omega) hp4 HRB.out (HO.out.below HB1.out));rw[h0] at k1;(go_wp2_with fail);refine HAL.out.mono ?_;rintro _ w2⟨v2,rfl,ho2,hg2,hf2⟩;have HP:=gS (Put w B (.slice av l.length cv) l (Wd.proofN m (n+1) t) (.returned v2) w2) (⟨v2,rfl,by rw[HPR.out];exact ho2,oT HB1.out hg2,oU HB1.out.size hf2⟩);clear ho2 hg2 hf2;go_wp2;go_ret;exact HP.out
  ·have HPR:=gH (proofN_kids m n t h0);(have h0':¬((Wd.Nd.kids t).length:Int)=0:=by omega);obtain⟨v2,w2,h2,ho2,hg2,hf2⟩:=append_two (w:=w1) (Wd.Nd.kids t).length hk4 (HO.out.below HB1.out) (by have:=HS1.out;omega) (by have:=HLEN.out;omega);have HO2:=gH ho2;have HG2:=gH hg2;have HF2:=gH hf2;have hn2:=(hg2.block w.heap.size (by have:=HS1.out;omega) (fun e=>by have:=(HVB.out _ e.symm).2;omega)).trans HN1.out;have HN2:=gH hn2;obtain⟨⟨k2,k3⟩, -, -⟩:=gT hn2;clear ho2 hg2 hf2 hn2;(go_wp2_with (at_builtin;refine Lib.wpList_append_run _ rfl (.tmp 17) (.tmp 22) 59 59 rfl _ _ rfl rfl _ _ h2 ?_));go_loopg [0,27] (Wd.Nd.kids t).length (fun gk v0 v27 wq=>∃i:Nat,gk=(Wd.Nd.kids t).length-i/\v27=I i/\i<=(Wd.Nd.kids t).length/\OwnB wq B v0 (l++([2,UInt8.ofNat (Wd.Nd.kids t).length]++((Wd.Nd.kids t).take i).flatMap (kidP m n)))/\w1.grownBy wq (Value.slice av l.length cv).ownBlock/\Fresh w1 (.slice av l.length cv) v0)
   case atStart=>exact⟨0,by omega,rfl,by omega,by simpa using HO2.out,HG2.out,HF2.out⟩
   case round=>
    clear h2 HO2 HG2 HF2;obtain⟨i,hgk,rfl,hi,ho,hgr,hf⟩:=hrel;have HGK:=gH hgk;have HG:=gH hgr;have HF:=gH hf;have HOI:=gH ho;have hsz:=hgr.size;clear hgk hgr hf ho;have HSM:=gS (Same S w wr) (fun g hg=>(HG.out.block g (by have:=HS.out g hg;have:=HS1.out;omega) (fun e=>by have:=(HVB.out _ e.symm).1;have:=HS.out g hg;omega)).trans (HB1.out.block g (by have:=HS.out g hg;omega)));have HMW:=gS (MustIs wr B kq ka m) (HMU.out.below ((HB1.out.mono hB).trans (zh HG.out (HO.out.below HB1.out) (by have:=HS1.out;omega))));by_cases hlt:i< (Wd.Nd.kids t).length
    ·obtain⟨g,o,rfl,hgS,hrows⟩:=HKD.out (fun e=>by rw[e] at hlt;simp at hlt);obtain⟨U,hU,hc⟩:=hrows i hlt;have HU2:=gH (NodeIs.keep HSM.out (fun _ h=>h) n _ U hU);have HC:=gH (oB hc (HSM.out g hgS));have HT:=gH (GH (kidP m n) (Wd.Nd.kids t) i hlt);have hfp:=flat_part (kidP m n) (Wd.Nd.kids t) i hlt;have HL:=gS ((l++([2,UInt8.ofNat (Wd.Nd.kids t).length]++((Wd.Nd.kids t).take i).flatMap (kidP m n))).length+(kidP m n (Wd.Nd.kids t)[i]).length<=600000) (by
      have h1:=HLEN.out;rw[HPR.out,List.length_append] at h1;rw[List.length_append,List.length_append];omega)
     have HFC:=gH (HFEW.out.2.2 _ (List.getElem_mem hlt));have HIC:=gH (HIN.out _ (List.getElem_mem hlt));have HAS:=gS (l++([2,UInt8.ofNat (Wd.Nd.kids t).length]++((Wd.Nd.kids t).take (i+1)).flatMap (kidP m n))=(l++([2,UInt8.ofNat (Wd.Nd.kids t).length]++((Wd.Nd.kids t).take i).flatMap (kidP m n)))++kidP m n (Wd.Nd.kids t)[i]) (by rw[HT.out];simp only[List.append_assoc]);obtain⟨d1,m1,e1,d2,m2,e2,hV,hd⟩:=HU2.out.cells;have HR2:=gS (Row39 U) (by rw[hV];exact gU hd);have HVE2:=gH hV;clear hc hU hrows hfp HT;generalize (Wd.Nd.kids t)[i]=c at*;generalize l++([2,UInt8.ofNat (Wd.Nd.kids t).length]++((Wd.Nd.kids t).take i).flatMap (kidP m n))=M at*;have hs:Wd.saidN n c=childT (Wd.boxN n c) (Wd.numN n c) (Wd.digN n c):=(childT_said _ _ _).symm;have HKP:=gS (kidP m n c=Wd.saidN n c++(if m (Wd.boxN n c)=true then 1::Wd.proofN m n c else [0])) rfl;have HSL:=gH (said_len HU2.out);(have hM:M.length<=600000:=by have:=HL.out;omega);have HA:=gH (fun(w2:World) (hB:B<=w2.heap.size) (hown:OwnB w2 B u0 M)=>by have h:=Gm u0 M (.slice d1 m1 e1) (.slice d2 m2 e2) (Wd.boxN n c) (Wd.numN n c) (Wd.digN n c) w2 B hB (by omega) hd hown;rw[<-hV,<-hs] at h;exact h);clear hs hV hd;(go_upto_region 7 with(first| (refine wpList_load_mid rfl 90 (.tmp 29) rfl g (o+i*39) rfl U (.struct fs) HC.out HU.out rfl HR2.out.infl ?_)| (refine wpList_store_row rfl 90 (.tmp 8) (.tmp 30) rfl wr.heap.size U.toArray rfl rfl 90 _ (heap_alloc_new wr _) HR2.out.info (by rw[HR2.out.size];rfl) HR2.out.one ?_;rw[World.setRow_alloc_new])));have hb5':=gB wr;have hr5':=heap_alloc_new wr;(have hs5':=fun o=>show(wr.alloc o).heap.size=wr.heap.size+1 by simp);generalize hW:World.alloc wr _=w5;(have hb5:Below wr.heap.size wr w5:=by rw[<-hW];exact hb5' _);(have hr5:w5.heap[wr.heap.size]? =some (.cells U.toArray 90 (0,0)):=by rw[<-hW];exact hr5' _);(have hs5:w5.heap.size=wr.heap.size+1:=by rw[<-hW];exact hs5' _);clear hb5' hr5' hs5' hW;have HB5:=gH hb5;have HR5:=gH hr5;(have hs1:w.heap.size+1<=w1.heap.size:=by have:=HS1.out;omega);(have hs5i:wr.heap.size+1<=w5.heap.size:=by omega);clear hb5 hr5 hs5;(go_wp2_with (refine wpList_load_row rfl 90 (.tmp 8) rfl wr.heap.size rfl 90 U.toArray (0,0) (.struct fs) HR5.out HU.out rfl HR2.out.info ?_));refine(HA.out w5 (by omega) (HOI.out.below HB5.out)).mono ?_;rintro _ w6⟨v6,rfl,ho6,hg6,hf6⟩;have hs6:=hg6.size;have hr6:=(hg6.block wr.heap.size (by omega) (fun e=>by have:=(HOI.out.lt e.symm).2;omega)).trans HR5.out;have HO6:=gH ho6;have HG6:=gH (oT HB5.out hg6);have HF6:=gH (oU HB5.out.size hf6);have HF5:=gH hf6;have HR6:=gH hr6;rw[HVE2.out] at hr6;obtain⟨-,⟨f1,f2,f3,f4⟩, -⟩:=gT hr6;have HMB:=gH (HMW.out w6 (Wd.boxN n c) HIC.out.1 (zh HG6.out HOI.out (by omega)));clear ho6 hg6 hf6 hr6;generalize m (Wd.boxN n c)=r at*;generalize Wd.boxN n c=bc at*;(go_wp2_with fail);refine HMB.out.mono ?_;rintro _ w7⟨rfl,hb7⟩;have hs7:=hb7.size;have HB7:=gH hb7;have HO7:=gH (HO6.out.below hb7);have HR7:=gH ((hb7.block wr.heap.size (by omega)).trans HR6.out);have HG7:=gH (gz HG6.out HF6.out (oQ (r:=v6.ownBlock) hb7));(have hM2:(M++Wd.saidN n c).length<=700000:=by rw[List.length_append];have:=HSL.out;omega);generalize hME:M++Wd.saidN n c=M2 at*;have HME:=gH hME;clear hME;obtain⟨a6,c6,e6⟩:=HO6.out.slice;subst e6;clear hb7 f1 f2 f3 f4 HMB HR6;cases r with
     |false=>
      obtain⟨v8,w8,h8,ho8,hg8,hf8⟩:=append_byte 0 0 (by decide) HO7.out (by omega) (by omega);have HO8:=gH ho8;have HG8:=gH hg8;have HF8:=gH hf8;clear ho8 hg8 hf8;(go_wp2_with (at_builtin;refine Lib.wpList_append_run _ rfl (.tmp 39) (.tmp 40) 59 59 rfl _ _ rfl rfl _ _ h8 ?_));go_roundg ((Wd.Nd.kids t).length-(i+1))
      case measure=>have:=HGK.out;omega
      case rel=>refine⟨i+1,rfl,by go_num,hlt,?_,gz HG.out HF.out (gz HG7.out HF6.out HG8.out),oD HF.out HG.out.size (oD HF6.out HG7.out.size HF8.out)⟩;rw[HAS.out,HKP.out,if_neg (by simp),<-List.append_assoc,HME.out];exact HO8.out
     |true=>
      obtain⟨v8,w8,h8,ho8,hg8,hf8⟩:=append_byte 1 1 (by decide) HO7.out (by omega) (by omega);have hs8:=hg8.size;have hr8:=(hg8.block wr.heap.size (by omega) (fun e=>by
       rcases HF5.out with h| ⟨g',h,hg'⟩
       ·rw[h] at e;have:=(HOI.out.lt e.symm).2;omega
       ·rw[<-e] at h;injection h with h;omega)).trans HR7.out
      have HR8:=gH hr8;have HO8:=gH ho8;have HG8:=gH (gz HG7.out HF6.out hg8);have HF8:=gH (oD HF6.out HG7.out.size hf8);clear hr8 ho8 hg8 hf8;have HBB:=gH (zh HG8.out HOI.out (by omega));have HIH:=gH (IH.out c v8 (M2++[1]) U w8 B S HS.out (by omega) (by have h:=HL.out;rw[HKP.out,if_pos rfl,List.length_append,List.length_cons] at h;rw[<-HME.out,List.length_append,List.length_append,List.length_singleton];omega) HFC.out HIC.out.2 (NodeIs.keep (fun g hg=>HBB.out.block g (HS.out g hg)) (fun _ h=>h) n _ U HU2.out) HO8.out (HMW.out.below HBB.out));generalize hM3:M2++[1]=M3 at*;have HM3:=gH hM3;clear hM3;obtain⟨a8,c8,e8⟩:=HO8.out.slice;subst e8;(go_wp2_with (first| (at_builtin;refine Lib.wpList_append_run _ rfl (.tmp 42) (.tmp 43) 59 59 rfl _ _ rfl rfl _ _ h8 ?_)| (refine wpList_load_row rfl 90 (.tmp 8) rfl wr.heap.size rfl 90 U.toArray (0,0) (.struct fs) HR8.out HU.out rfl HR2.out.info ?_)));refine HIH.out.mono ?_;rintro _ w9⟨v9,rfl,ho9,hg9,hf9⟩;have HO9:=gH ho9;have HG9:=gH (gz HG8.out HF8.out hg9);have HF9:=gH (oD HF8.out HG8.out.size hf9);clear ho9 hg9 hf9 h8;(go_wp2_with fail);go_roundg ((Wd.Nd.kids t).length-(i+1))
      case measure=>have:=HGK.out;omega
      case rel=>refine⟨i+1,rfl,by go_num,hlt,?_,gz HG.out HF.out HG9.out,oD HF.out HG.out.size HF9.out⟩;rw[HAS.out,HKP.out,if_pos trivial];have h:=HO9.out;rw[<-HM3.out,<-HME.out] at h;simp only[List.append_assoc,List.cons_append,List.nil_append] at h⊢;exact h
    ·(have ei:i=(Wd.Nd.kids t).length:=by omega);subst ei;rw[List.take_length] at HOI;go_wp2;go_ret;refine⟨_,rfl,?_,oT HB1.out HG.out,oU HB1.out.size HF.out⟩;rw[HPR.out];exact HOI.out
section
open Go.Shelf
def Tryz.sortPt_ren:Go.Shelf.Ren:=⟨fun|6=>77|15=>118|14=>117|28=>154|29=>155|20=>146|21=>147|22=>148|23=>149|24=>150|25=>151|26=>152|27=>153|46=>176|47=>177|48=>178|49=>179|50=>180|57=>192|n=>n,fun|22=>27|24=>36|25=>83|3=>3|39=>123|0=>0|53=>63|55=>142|4=>4|46=>212|45=>211|50=>81|5=>5|9=>9|66=>243|70=>247|76=>255|77=>256|n=>n,fun|n=>n⟩
theorem Tryz.sortPt:Go.Proofs.SlLaysF0.n6 Tryz.prog Tryz.sortPt_ren:={
 mixed:=by kernel_rfl
 f6:=⟨Tryz.f77.name,by decide,Tryz.func77.trans (congrArg some (by kernel_rfl))⟩
 f14:=⟨Tryz.f117.name,by decide,Tryz.func117.trans (congrArg some (by kernel_rfl))⟩
 f15:=Tryz.func118.trans (congrArg some (by kernel_rfl))
 f20:=⟨Tryz.f146.name,by decide,Tryz.func146.trans (congrArg some (by kernel_rfl))⟩
 f21:=⟨Tryz.f147.name,by decide,Tryz.func147.trans (congrArg some (by kernel_rfl))⟩
 f22:=⟨Tryz.f148.name,by decide,Tryz.func148.trans (congrArg some (by kernel_rfl))⟩
 f23:=⟨Tryz.f149.name,by decide,Tryz.func149.trans (congrArg some (by kernel_rfl))⟩
 f24:=⟨Tryz.f150.name,by decide,Tryz.func150.trans (congrArg some (by kernel_rfl))⟩
 f25:=⟨Tryz.f151.name,by decide,Tryz.func151.trans (congrArg some (by kernel_rfl))⟩
 f26:=⟨Tryz.f152.name,by decide,Tryz.func152.trans (congrArg some (by kernel_rfl))⟩
 f27:=⟨Tryz.f153.name,by decide,Tryz.func153.trans (congrArg some (by kernel_rfl))⟩
 f28:=Tryz.func154.trans (congrArg some (by kernel_rfl))
 f29:=Tryz.func155.trans (congrArg some (by kernel_rfl))
 f46:=⟨Tryz.f176.name,by decide,Tryz.func176.trans (congrArg some (by kernel_rfl))⟩
 f47:=Tryz.func177.trans (congrArg some (by kernel_rfl))
 f48:=Tryz.func178.trans (congrArg some (by kernel_rfl))
 f49:=⟨Tryz.f179.name,by decide,Tryz.func179.trans (congrArg some (by kernel_rfl))⟩
 f50:=⟨Tryz.f180.name,by decide,Tryz.func180.trans (congrArg some (by kernel_rfl))⟩
 f57:=⟨Tryz.f192.name,by decide,Tryz.func192.trans (congrArg some (by kernel_rfl))⟩
 t0:=Tryz.underlying0
 a0:=Tryz.isAgg0
 z0:=Tryz.sizeOf0
 v0:=Tryz.zeroValue0
 t3:=Tryz.underlying3
 a3:=Tryz.isAgg3
 z3:=Tryz.sizeOf3
 v3:=Tryz.zeroValue3
 t4:=Tryz.underlying4
 a4:=Tryz.isAgg4
 z4:=Tryz.sizeOf4
 v4:=Tryz.zeroValue4
 t5:=Tryz.underlying5
 a5:=Tryz.isAgg5
 z5:=Tryz.sizeOf5
 v5:=Tryz.zeroValue5
 t9:=Tryz.underlying9
 a9:=Tryz.isAgg9
 z9:=Tryz.sizeOf9
 v9:=Tryz.zeroValue9
 t22:=Tryz.underlying27
 a22:=Tryz.isAgg27
 z22:=Tryz.sizeOf27
 v22:=Tryz.zeroValue27
 t25:=Tryz.underlying83
 a25:=Tryz.isAgg83
 z25:=Tryz.sizeOf83
 v25:=Tryz.zeroValue83
 t39:=Tryz.underlying123
 a39:=Tryz.isAgg123
 z39:=Tryz.sizeOf123
 v39:=Tryz.zeroValue123
 t45:=Tryz.underlying211
 a45:=Tryz.isAgg211
 z45:=Tryz.sizeOf211
 v45:=Tryz.zeroValue211
 t46:=Tryz.underlying212
 a46:=Tryz.isAgg212
 z46:=Tryz.sizeOf212
 v46:=Tryz.zeroValue212
 t50:=Tryz.underlying81
 a50:=Tryz.isAgg81
 z50:=Tryz.sizeOf81
 v50:=Tryz.zeroValue81
 t53:=Tryz.underlying63
 a53:=Tryz.isAgg63
 z53:=Tryz.sizeOf63
 v53:=Tryz.zeroValue63
 t55:=Tryz.underlying142
 a55:=Tryz.isAgg142
 z55:=Tryz.sizeOf142
 v55:=Tryz.zeroValue142
 t66:=Tryz.underlying243
 a66:=Tryz.isAgg243
 z66:=Tryz.sizeOf243
 v66:=Tryz.zeroValue243
 t70:=Tryz.underlying247
 a70:=Tryz.isAgg247
 z70:=Tryz.sizeOf247
 v70:=Tryz.zeroValue247
 t76:=Tryz.underlying255
 a76:=Tryz.isAgg255
 z76:=Tryz.sizeOf255
 v76:=Tryz.zeroValue255
 t77:=Tryz.underlying256
 a77:=Tryz.isAgg256
 z77:=Tryz.sizeOf256
 v77:=Tryz.zeroValue256}
end
instance :Inhabited Wd.Pt:=⟨⟨0,0,0⟩⟩
theorem compare_grow(p q:Wd.Pt)(w:World):
  Calls Tryz.prog 35 #[.agg #[I p.id,I p.x,I p.y],.agg #[I q.id,I q.x,I q.y]] w fun e w'=>e=.returned (I (cmpP p q))/\∃n os,w'=Go.Sort.grow (w.drewN n) os:=by
 obtain⟨pi,px,py⟩:=p;obtain⟨qi,qx,qy⟩:=q;have HE:=gS (cmpP ⟨pi,px,py⟩ ⟨qi,qx,qy⟩=orI (cmpI px qx) (cmpI py qy) (cmpI pi qi)) rfl;go_enter Tryz.func35,Tryz.ntmps35
 go_wp2_with fail
 have hz1:=heap_alloc2_old w;have hz2:=heap_alloc2_new w;have hgr:=fun o o' o''=>show(((w.alloc o).alloc o').alloc o'').drew=Go.Sort.grow (w.drewN 1) #[o,o',o''] by rw[Go.Sort.alloc_eq_grow,Go.Sort.alloc_eq_grow,Go.Sort.alloc_eq_grow,Go.Sort.grow_grow,Go.Sort.grow_grow];rfl
 generalize hW:World.alloc _ _=w0;have r1:w0.heap[w.heap.size]? =some (.cells #[I pi,I px,I py] 36 (0,0)):=by rw[<-hW];exact hz1 _ _
 have r2:w0.heap[w.heap.size+1]? =some (.cells #[I qi,I qx,I qy] 36 (0,0)):=by rw[<-hW];exact hz2 _ _
 have hz0:w0.heap.size=w.heap.size+2:=by rw[<-hW];simp
 have HG:=gS (∀o,∃os,(w0.alloc o).drew=Go.Sort.grow (w.drewN 1) os) (fun o=>⟨_,by rw[<-hW];exact hgr _ _ o⟩);clear hz1 hz2 hgr hW;obtain⟨c1,c2,c3⟩:=row3 r1;obtain⟨d1,d2,d3⟩:=row3 r2;have hS:Two w.heap.size (w.heap.size+1) ⟨pi,px,py⟩ ⟨qi,qx,qy⟩ w0:=⟨⟨c1,c2,c3⟩,d1,d2,d3⟩;have HZ:=gH hz0;have HN:=gS (∀o,((w0.alloc o).drew).heap[w0.heap.size]? =some o) (fun o=>heap_alloc_new w0 o);clear r1 r2 c1 c2 c3 d1 d2 d3 hz0;go_region_held3 (fun W=>(W.cell? ⟨w.heap.size,0,none⟩=some (I pi)/\W.cell? ⟨w.heap.size,1,none⟩=some (I px)/\W.cell? ⟨w.heap.size,2,none⟩=some (I py))/\W.cell? ⟨w.heap.size+1,0,none⟩=some (I qi)/\W.cell? ⟨w.heap.size+1,1,none⟩=some (I qx)/\W.cell? ⟨w.heap.size+1,2,none⟩=some (I qy)) (first|assumption|exact hS|exact Two.below hS (((Below.refl _ _).alloc gR _).drew) (by have:=HZ.out;omega) (by have:=HZ.out;omega)) (first| (go_at_call 67;refine(cmpInt_any _ _ _).mono ?_;rintro _ _⟨rfl,rfl⟩)| (go_at_call 66;refine(or_any _ (cmpI px qx) (cmpI py qy) (cmpI pi qi) _ (row3 (HN.out _)).1 (row3 (HN.out _)).2.1 (row3 (HN.out _)).2.2).mono ?_;rintro _ _⟨rfl,rfl⟩))
 go_wp2;go_ret;obtain⟨os,hos⟩:=HG.out (.cells #[I (cmpI px qx),I (cmpI py qy),I (cmpI pi qi)] 3);exact⟨by rw[HE.out];rfl,1,os,hos⟩
theorem ltP(p q:Wd.Pt):ltOf cmpP p q=decide (Wd.lt p q):=by unfold ltOf;rw[Bool.eq_iff_iff,decide_eq_true_eq,decide_eq_true_eq];exact cmpP_lt p q
theorem swoP:Go.Sort.SWO (ltOf cmpP):=by
 refine⟨fun x=>?_,fun x y z h1 h2=>?_,fun x y z h1 h2=>?_⟩
 ·rw[ltP];exact decide_eq_false (Wd.lt_irrefl x)
 ·rw[ltP,decide_eq_true_eq] at*;exact Wd.lt_trans h1 h2
 ·rw[ltP,decide_eq_false_iff_not] at*;unfold Wd.lt at*;omega
theorem flatK_get(L:List Wd.Pt):∀t,t<L.length*3->(L.flatMap P3)[t]? =some ((P3 (L.toArray[t/3]!))[t%3]!):=by
 intro t ht;have hi:t/3<L.length:=by omega
 obtain⟨h0,h1,h2⟩:=P3_at L (t/3) hi;have e:L.toArray[t/3]! =L[t/3]:=by rw[getElem!_pos L.toArray (t/3) (by simpa using hi)];exact List.getElem_toArray _
 rw[e];have hm:t=t/3*3+t%3:=by omega
 have hlt:t%3<3:=Nat.mod_lt _ (by decide);rcases (show t%3=0\/t%3=1\/t%3=2 by omega) with h|h|h
 ·rw[h];rw[h,Nat.add_zero] at hm;exact(congrArg (fun k=>(L.flatMap P3)[k]?) hm).trans h0
 ·rw[h];rw[h] at hm;exact(congrArg (fun k=>(L.flatMap P3)[k]?) hm).trans h1
 ·rw[h];rw[h] at hm;exact(congrArg (fun k=>(L.flatMap P3)[k]?) hm).trans h2
theorem flatK_eq(L:List Wd.Pt):Go.Sort.flatK P3 3 L.toArray=(L.flatMap P3).toArray:=by
 have hs:(Go.Sort.flatK P3 3 L.toArray).size=(L.flatMap P3).toArray.size:=by rw[Go.Sort.size_flatK,List.size_toArray,List.size_toArray,gQ]
 refine Array.ext hs fun t h1 h2=>?_;have ht:t<L.length*3:=by rw[Go.Sort.size_flatK,List.size_toArray] at h1;exact h1
 have hg:=Go.Sort.get_flatK P3 3 L.toArray t (by rw[List.size_toArray];exact ht);rw[getElem!_pos _ t h1] at hg;rw[hg,List.getElem_toArray];have h:=flatK_get L t ht;rw[List.getElem?_eq_getElem (by rw[gQ];exact ht)] at h;injection h with h;exact h.symm
theorem own_holds{w:World}{B g c:Nat}{L:List Wd.Pt}(h:Own w B (.slice (some ⟨g,0,none⟩) L.length c) L):Go.Sort.HoldsK P3 3 w g 0 L.toArray:=by
 unfold Go.Sort.HoldsK;rw[flatK_eq];rcases h.2 with⟨e,_⟩| ⟨g',cap,cur,e,hB,hg,hcap,hmax,hcs,htake⟩
 ·cases e
 ·injection e with e1 e2 e3;injection e1 with e1;injection e1 with e1;subst e1;intro j hj;rw[List.size_toArray] at hj;refine⟨?_,gF hg⟩;rw[gC hg,Nat.zero_add];have hj':j<L.length*3:=by rw[gQ] at hj;exact hj
  have ht:(cur.toList.take (L.length*3))[j]? =(L.flatMap P3)[j]? :=by rw[htake]
  rw[List.getElem?_take,if_pos hj'] at ht;rw[<-Array.getElem?_toList,ht,List.getElem?_eq_getElem hj,getElem!_pos _ j (by simpa using hj)];simp
theorem heap_mapBlock{w:World}{g:Nat}{f:Array Value->Array Value}{c:Array Value}{e:TypeId}{fr:Nat×Nat}(h:w.heap[g]? =some (.cells c e fr)):(Go.Sort.mapBlock w g f).heap[g]? =some (.cells (f c) e fr):=by show(w.heap.modify g (Go.Sort.onCells f))[g]? =_;rw[Array.getElem?_modify,if_pos rfl,h];rfl
theorem heap_mapBlock_other{w:World}{g k:Nat}{f:Array Value->Array Value}(h:g≠k):(Go.Sort.mapBlock w g f).heap[k]? =w.heap[k]? :=by show(w.heap.modify g (Go.Sort.onCells f))[k]? =_;rw[Array.getElem?_modify,if_neg h]
theorem putCells_size(F cur:Array Value):(Go.Sort.putCells id 0 F cur).size=cur.size:=by unfold Go.Sort.putCells;exact Array.size_mapIdx
theorem putCells_take(F:List Value)(cur:Array Value)(h:F.length<=cur.size):(Go.Sort.putCells id 0 F.toArray cur).toList.take F.length=F:=by
 apply List.ext_getElem?;intro k;rw[List.getElem?_take];by_cases hk:k<F.length
 ·rw[if_pos hk,Array.getElem?_toList];unfold Go.Sort.putCells;rw[Array.getElem?_mapIdx,Array.getElem?_eq_getElem (by omega),Option.map_some,if_pos (by rw[List.size_toArray];omega),List.getElem?_eq_getElem hk,Nat.sub_zero,getElem!_pos _ k (by simpa using hk),List.getElem_toArray];rfl
 ·rw[if_neg hk,List.getElem?_eq_none (by omega)]
theorem perm_of_in{d d':Array Wd.Pt}(h:Go.Sort.PermIn 0 d.size d d'):d'.toList.Perm d.toList:=by
 obtain⟨h1, -,h3⟩:=h;have e1:d'.extract 0 d.size=d':=by rw[<-h1];exact Array.extract_size
 have e2:d.extract 0 d.size=d:=Array.extract_size;rw[e1,e2] at h3;exact h3
theorem sorted_of_in{d:Array Wd.Pt}(h:Go.Sort.SortedIn (ltOf cmpP) 0 d.size d)(hi:Wd.Ids d.toList):Wd.Sorted d.toList:=by
 refine List.pairwise_iff_getElem.2 fun i j hi' hj hij=>?_;have hj':j<d.size:=by simpa using hj
 have h1:=h i j (Nat.zero_le _) hij hj';rw[ltP,decide_eq_false_iff_not,getElem!_pos d j hj',getElem!_pos d i (by omega)] at h1;have hne:=List.pairwise_iff_getElem.1 hi i j hi' hj hij;simp only[Array.getElem_toList] at hne⊢;exact Wd.lt_tot (Ne.symm hne) h1
theorem sort_own{w:World}{B g c n:Nat}{L:List Wd.Pt}{d':Array Wd.Pt}{os:Array Obj}(h:Own w B (.slice (some ⟨g,0,none⟩) L.length c) L)(hs:d'.size=L.length):
  Own (sortWorldK P3 3 w g 0 n d' os) B (.slice (some ⟨g,0,none⟩) L.length c) d'.toList/\w.grownBy (sortWorldK P3 3 w g 0 n d' os) (some g):=by
 have hlt:g<w.heap.size:=h.lt rfl;have hl:d'.toList.length=L.length:=by simpa using hs
 rcases h.2 with⟨e,_⟩| ⟨g',cap,cur,e,hB,hg,hcap,hmax,hcs,htake⟩
 ·cases e
 ·injection e with e1 e2 e3;injection e1 with e1;injection e1 with e1;subst e1 e3;have hr:(sortWorldK P3 3 w g 0 n d' os).heap[g]? =some (.cells (Go.Sort.putCells id 0 (Go.Sort.flatK P3 3 d') cur) 36 (0,0)):=by
   unfold sortWorldK;rw[Go.Sort.heap_grow_old _ _ (by rw[Go.Sort.size_putRowK];exact hlt)];exact heap_mapBlock (w:=Go.Sort.ahead w n) hg
  have hf:Go.Sort.flatK P3 3 d'=(d'.toList.flatMap P3).toArray:=by have:=flatK_eq d'.toList;rw[Array.toArray_toList] at this;exact this
  refine⟨⟨by rw[gQ],.inr ⟨g,c,_,by rw[hl],hB,hr,by rw[hl];exact hcap,hmax,by rw[putCells_size];exact hcs,?_⟩⟩,⟨rfl,rfl,rfl,?_,fun k hk hne=>?_⟩⟩
  ·rw[hf];have h2:=putCells_take (d'.toList.flatMap P3) cur (by rw[gQ,hl,hcs];exact Nat.mul_le_mul_right _ hcap);rw[gQ] at h2;exact h2
  ·unfold sortWorldK;rw[Go.Sort.size_grow,Go.Sort.size_putRowK];exact Nat.le_add_right _ _
  ·unfold sortWorldK;rw[Go.Sort.heap_grow_old _ _ (by rw[Go.Sort.size_putRowK];exact hk)];exact heap_mapBlock_other (w:=Go.Sort.ahead w n) (fun e=>hne (by rw[e]))
theorem sort_any(v:Value)(l:List Wd.Pt)(w:World)(B:Nat)(hown:Own w B v l)(hl:l.length<=100000)(hi:Wd.Ids l):
  Calls Tryz.prog 77 #[v,.func (.func 35) #[] #[]] w fun e w'=>e=.returned (.tuple #[])/\Own w' B v (Wd.sortP l)/\w.grownBy w' v.ownBlock:=by
 rcases hown.2 with⟨rfl,h0⟩| ⟨g,cap,cur,rfl,_⟩
 ·have hn:l=[]:=List.length_eq_zero_iff.1 h0;subst hn;refine(AnyF.slices_SortFunc_none Tryz.sortPt none 0 (.func (.func 35) #[] #[]) w).mono ?_;rintro _ _⟨rfl,rfl⟩;exact⟨rfl,World.ownsRow_nil _ _ _ _,oQ (Below.refl _ _)⟩
 ·have eg:∀args w,(callFunc 35 args).run Tryz.prog w=.ok (.enter 35 args) w:=enters_of Tryz.func35 (by kernel_rfl) rfl;have hcon:=AnyQ.slices_SortFunc Tryz.sortPt 3 Tryz.isAgg36 Tryz.sizeOf36 P3 (fun _=>rfl) (fun x v hv=>oM (L:=[x]) v (by simpa using hv)) cmpP swoP 35 #[] g 0 cap l.toArray w eg (fun _ _ _ _ x y=>compare_grow x y _) (own_holds hown) (hown.lt rfl) (by rw[List.size_toArray];omega);rw[List.size_toArray] at hcon;refine Calls.mono hcon ?_;rintro _ _⟨rfl,d',n,os,hp,hs,rfl⟩;have hsz:d'.size=l.length:=by have:=hp.1;rw[List.size_toArray] at this;exact this
  have hp':d'.toList.Perm l:=by have:=perm_of_in (d:=l.toArray) (by rw[List.size_toArray];exact hp);simpa using this
  have hids:Wd.Ids d'.toList:=(Wd.GF hp').2 hi;have e:Wd.sortP l=d'.toList:=Wd.sortP_eq (sorted_of_in (by rw[hsz];exact hs) hids) hp' hi;obtain⟨h1,h2⟩:=sort_own (n:=n) (os:=os) hown hsz;rw[e];exact⟨rfl,h1,h2⟩
section
open Go.RowKit
attribute [local go_sem ↓] Go.wp_at_zero Go.wp_at_succ GN
theorem answer_window(q:Wd.Qr)(n:Nat)(t:Wd.NT n)(V:List Value)(w:World)(hk:q.kind=0)(hlen:(Wd.allN n t).length<=1000)(hfew:Wd.Few n t)(hN:NodeIs w (fun g=>g<w.heap.size) n t V)(hids:Wd.Ids (Wd.withinN (Wd.window q) n t)):
  Calls Tryz.prog 40 #[.agg V.toArray,Qv q] w fun e w'=>∃v,e=.returned v/\Own w' w.heap.size v (Wd.sortP (Wd.withinN (Wd.window q) n t))/\Below w.heap.size w w':=by
 have HWI:=gH (fun W=>GO q W);have HWL:=gH (Wd.within_le (Wd.window q) n t);generalize Wd.window q=wq at*;obtain⟨fs,hu⟩:=underNode;have HU:=gH hu;obtain⟨a1,l1,c1,a2,l2,c2,hV,hd⟩:=hN.cells;have HR:=gS (Row39 V) (by rw[hV];exact gU hd);have HN:=gH hN;have HF:=gH hfew;have HI:=gH hids;clear hu hV hd hN hfew hids;obtain⟨qk,qa,qb,qc,qd,qx,qy,qn⟩:=q;simp only at hk;subst hk;have hb2:=fun o o'=>(gB w o).alloc (by simp) o';have hr2:=heap_alloc2_new w;have hr1:=heap_alloc2_old w;have hs2:=fun o o'=>show((w.alloc o).alloc o').heap.size=w.heap.size+2 by simp
 go_enter Tryz.func40,Tryz.ntmps40
 go_upto_region 3 with fail
 generalize hW:World.alloc (World.alloc w _) _=w1;have hb1:Below w.heap.size w w1:=by rw[<-hW];exact hb2 _ _
 have hn1:w1.heap[w.heap.size]? =some (.cells V.toArray 90 (0,0)):=by rw[<-hW];exact hr1 _ _
 have hq1:w1.heap[w.heap.size+1]? =some (.cells #[I 0,I qa,I qb,I qc,I qd,I qx,I qy,I qn] 46 (0,0)):=by rw[<-hW];exact hr2 _ _
 have hs1:w.heap.size+2<=w1.heap.size:=by rw[<-hW,hs2];exact Nat.le_refl _
 clear hb2 hr1 hr2 hs2 hW;have HB1:=gH hb1;have HN1:=gH hn1;obtain⟨k0,k1,k2,k3,k4,k5,k6,k7⟩:=rowQ8 hq1;clear hb1 hn1 hq1;have HAW:=gH (fun(W:World) (hb:Below w.heap.size w W)=>appendWithin_any n t (.slice none 0 0) [] V wq W w.heap.size (fun g=>g<w.heap.size) (fun _ h=>h) hb.size (by simpa using hlen) HF.out (NodeIs.keep (gD hb (fun _ h=>h)) (fun _ h=>h) n t V HN.out) (World.ownsRow_nil _ _ _ _));have hnr1:NodeRow w1.drew (.pointer (some ⟨w.heap.size,0,none⟩)):=oK (w:=w1.drew) HN1.out HR.out.size;have hlv1:loadVal w1.drew (.pointer (some ⟨w.heap.size,0,none⟩))=.agg V.toArray:=gt (w:=w1.drew) HN1.out;go_region_with (first| (go_at_call 73;go_must (refine(HWI.out w1.drew).mono ?_;rintro _ w6⟨rfl,hb6⟩;have hs6:=hb6.size;have HN6:=gH ((hb6.block w.heap.size (by simp;omega)).trans (show w1.drew.heap[w.heap.size]? =_ from HN1.out));have hnr6:=oK HN6.out HR.out.size;have hlv6:=gt HN6.out;have HB6:=gH hb6;have HBW:=gS (Below w.heap.size w w6) (HB1.out.drew.trans (hb6.mono (by simp;omega)));clear hb6))| (go_at_call 76;go_must (refine(HAW.out w6 HBW.out).mono ?_;rintro _ w7⟨v7,rfl,ho7,hg7,hf7⟩;have HO7:=gH ho7;have HG7:=gH hg7;clear ho7 hg7 hf7)))
 all_goals
  rw[List.nil_append] at HO7;have HSO:=gH (sort_any v7 _ w7 w.heap.size HO7.out (by have:=HWL.out;omega) HI.out);go_wp2_with fail
  refine HSO.out.mono ?_;rintro _ w8⟨rfl,ho8,hg8⟩;have HO8:=gH ho8;have HB8:=gS (Below w.heap.size w w8) ((HBW.out.trans ⟨HG7.out.os,HG7.out.tape,HG7.out.output,HG7.out.size,fun j hj=>HG7.out.block j (Nat.lt_of_lt_of_le hj HBW.out.size) (by simp[Value.ownBlock])⟩).trans ⟨hg8.os,hg8.tape,hg8.output,hg8.size,fun j hj=>hg8.block j (Nat.lt_of_lt_of_le hj (Nat.le_trans HBW.out.size HG7.out.size)) (fun e=>by have:=HO7.out.ge e.symm;omega)⟩);clear ho8 hg8 HSO;go_wp2;go_ret;exact⟨_,rfl,HO8.out,HB8.out⟩
end
section
open Go.RowKit
attribute [local go_sem ↓] Go.wp_at_zero Go.wp_at_succ GN
theorem proof_any(m:Wd.Box->Bool)(kq ka:Nat)(n:Nat)(t:Wd.NT n)(V:List Value)(w:World)(hlen:(Wd.proofN m n t).length<=600000)(hfew:Wd.Few n t)(hin:Wd.InN n t)(hN:NodeIs w (fun g=>g<w.heap.size) n t V)(hmu:MustIs w w.heap.size kq ka m)(hne:Wd.proofN m n t≠[]):
  Calls Tryz.prog 43 #[.agg V.toArray,.func (.func 41) #[] #[.pointer (some ⟨kq,0,none⟩),.pointer (some ⟨ka,0,none⟩)]] w fun e w'=>e=.returned (Sv (Wd.proofN m n t))/\Below w.heap.size w w':=by
 obtain⟨fs,hu⟩:=underNode;have HU:=gH hu;obtain⟨a1,l1,c1,a2,l2,c2,hV,hd⟩:=hN.cells;have HR:=gS (Row39 V) (by rw[hV];exact gU hd);have HAP:=gH (fun(W:World) (hb:Below w.heap.size w W)=>appendProof_any m kq ka n t (.slice none 0 0) [] V W w.heap.size (fun g=>g<w.heap.size) (fun _ h=>h) hb.size (by simpa using hlen) hfew hin (NodeIs.keep (gD hb (fun _ h=>h)) (fun _ h=>h) n t V hN) (ownB_nil _ _) (hmu.below hb));have HNE:=gH hne;clear hu hV hd hN hfew hin hmu hne;generalize Wd.proofN m n t=T at*;have hb2:=gB w;have hr2:=heap_alloc_new w;go_enter Tryz.func43,Tryz.ntmps43
 go_upto_region 1 with fail
 generalize hW:World.alloc w _=w1;have hb1:Below w.heap.size w w1:=by rw[<-hW];exact hb2 _
 have hn1:w1.heap[w.heap.size]? =some (.cells V.toArray 90 (0,0)):=by rw[<-hW];exact hr2 _
 clear hb2 hr2 hW;have HB1:=gH hb1;have HN1:=gH hn1;clear hb1 hn1;go_wp2_with (refine wpList_load_row rfl 90 (.tmp 2) rfl w.heap.size rfl 90 V.toArray (0,0) (.struct fs) HN1.out HU.out rfl HR.out.info ?_)
 refine(HAP.out w1 HB1.out).mono ?_;rintro _ w2⟨v2,rfl,ho2,hg2, -⟩;rw[List.nil_append] at ho2;have hc:=ho2.conv HNE.out;have HB2:=gS (Below w.heap.size w w2) (HB1.out.trans ⟨hg2.os,hg2.tape,hg2.output,hg2.size,fun k hk=>hg2.block k (Nat.lt_of_lt_of_le hk HB1.out.size) (by simp[Value.ownBlock])⟩);clear ho2 hg2;go_wp2;go_ret;exact⟨rfl,HB2.out⟩
structure Asks(q:Wd.Qr)(L:List Wd.Pt):Prop where
 answer:∀(w:World) (V:List Value),KT w->NodeIs w (fun g=>g<w.heap.size) ((Wd.tree L).1+1) (Wd.mk Sha.sha (Wd.tree L).1 (Wd.tree L).2) V->Calls Tryz.prog 40 #[.agg V.toArray,Qv q] w fun e w'=>∃v,e=.returned v/\Own w' w.heap.size v (Wd.ans q L)/\Below w.heap.size w w'
 must:∀(w:World) (B:Nat) (v:Value) (b:Wd.Box),b.In->Own w B v (Wd.ans q L)->Calls Tryz.prog 42 #[Qv q,v,Bx b] w fun e w'=>e=.returned (.bool (Wd.must q (Wd.ans q L) b))/\Below w.heap.size w w'
theorem must_closure{q:Wd.Qr}{L:List Wd.Pt}(hA:Asks q L)(w:World)(kq ka B:Nat)(v:Value)(hq:w.heap[kq]? =some (.cells #[I q.kind,I q.a,I q.b,I q.c,I q.d,I q.x,I q.y,I q.k] 46 (0,0)))(ha:w.heap[ka]? =some (.cells #[v] 27 (0,0)))(hv:Own w B v (Wd.ans q L)):MustIs w w.heap.size kq ka (Wd.must q (Wd.ans q L)):=by
 intro W b hi hW;have hq0:=(gL hq);have ha0:=(gL ha);have hb2:=gB W;have hr2:=heap_alloc_new W;have HM:=gH (fun(W':World) (hb:Below w.heap.size w W')=>hA.must W' B v b hi (hv.below hb));generalize Wd.must q (Wd.ans q L) b=r at*;obtain⟨av,cv,rfl⟩:=hv.slice;clear hv hA;generalize (Wd.ans q L).length=al at*;go_enter Tryz.func41,Tryz.ntmps41
 go_upto_region 1 with fail
 generalize hE:World.alloc W _=w1;have hb1:Below W.heap.size W w1:=by rw[<-hE];exact hb2 _
 have hx1:w1.heap[W.heap.size]? =some (.cells #[I b.a,I b.b,I b.c,I b.d] 88 (0,0)):=by rw[<-hE];exact hr2 _
 clear hb2 hr2 hE;have hbw:Below w.heap.size w w1:=hW.trans (hb1.mono hW.size);obtain⟨k0,k1,k2,k3,k4,k5,k6,k7⟩:=rowQ8 ((hbw.block kq hq0).trans hq);have j0:w1.cell? ⟨ka,0,none⟩=some (.slice av al cv):=by rw[gC ((hbw.block ka ha0).trans ha)];rfl
 obtain⟨c1,c2,c3,c4⟩:=row4 hx1;have HB1:=gH hb1;have HBW:=gH hbw;clear hb1 hx1 hbw hq ha hW;go_wp2_with fail
 refine(HM.out w1 HBW.out).mono ?_;rintro _ w2⟨rfl,hb2⟩;have HB2:=gH hb2;clear hb2;go_wp2;go_ret;exact⟨rfl,HB1.out.trans (HB2.out.mono HB1.out.size)⟩
theorem proofN_ne(m:Wd.Box->Bool)(n:Nat)(t:Wd.NT (n+1)):Wd.proofN m (n+1) t≠[]:=by
 by_cases h:(Wd.Nd.kids t).length=0
 ·rw[proofN_leaf m n t h];simp[Wd.leafText]
 ·rw[proofN_kids m n t h];simp
theorem proof_len{dig:List UInt8->List UInt8}(hd:∀l,(dig l).length=32)(m:Wd.Box->Bool):∀(n:Nat) (t:Wd.T n),Wd.Small n t->(Wd.proof dig m n t).length<=300*5 ^ n
 |0,l,h=>by
  have:(Wd.proof dig m 0 l).length=2+12*List.length (l:List Wd.Pt):=by show(Wd.leafText l).length=_;simp only[Wd.leafText,List.length_cons];rw[Wd.pts_len];omega
  have:=h.1;simp only[Nat.pow_zero];omega
 |n+1,cs,h=>by
  show(2::UInt8.ofNat (List.length cs)::List.flatMap (fun c=>Wd.head dig n c++(if m (Wd.box n c) then 1::Wd.proof dig m n c else [0])) cs).length<=_;have key:∀(l:List (Wd.T n)),(∀c∈l,Wd.Small n c)->(List.flatMap (fun c=>Wd.head dig n c++(if m (Wd.box n c) then 1::Wd.proof dig m n c else [0])) l).length<=(53+300*5 ^ n)*l.length:=by
   intro l;induction l with
   |nil=>intro _;simp
   |cons c l ih=>
    intro hl;rw[List.flatMap_cons,List.length_append,List.length_append,List.length_cons,Wd.zb hd];have h1:=proof_len hd m n c (hl c (by simp));have h2:=ih (fun d hd=>hl d (by simp[hd]));have h3:(if m (Wd.box n c) then 1::Wd.proof dig m n c else [0]).length<=1+300*5 ^ n:=by
     split
     ·rw[List.length_cons];omega
     ·simp
    rw[Nat.mul_succ];omega
  have h1:=key cs h.2;have h2:(53+300*5 ^ n)*List.length cs<=(53+300*5 ^ n)*4:=Nat.mul_le_mul_left _ h.1;have h3:1<=5 ^ n:=Nat.one_le_pow _ _ (by decide);simp only[List.length_cons];rw[Nat.pow_succ];omega
theorem Good.well{L:List Wd.Pt}(h:Good L):Wd.Well L:=⟨h.ok,h.ids,h.many⟩
theorem proofText_of(q:Wd.Qr)(L:List Wd.Pt):Wd.proofN (Wd.must q (Wd.ans q L)) ((Wd.tree L).1+1) (Wd.mk Sha.sha (Wd.tree L).1 (Wd.tree L).2)=Wd.proofText q L:=Wd.mk_proof Sha.sha _ _ _ (Wd.tree_ne L)
theorem zw(q:Wd.Qr){L:List Wd.Pt}(h:Wd.Well L):(Wd.proofText q L).length<=37500:=by refine Nat.le_trans (proof_len oz _ _ _ (Wd.zO h.ok).1) ?_;exact Nat.le_trans (Nat.mul_le_mul_left _ (Nat.pow_le_pow_right (by decide) h.deep)) (by decide)
end
end Go.Proofs.YtenaelkbgkpllaaGreatDoor
