/- Part 38 of what the four laws rest on: laid by a program out of the texts of wip/T. -/
import Derived.Test.YtenaelkbgkpllaaGreatDoorLaw20
import Derived.Test.YtenaelkbgkpllaaGreatDoorLaw32
import Derived.Test.YtenaelkbgkpllaaGreatDoorLaw37
import Derived.Laws.OwnMore
set_option maxRecDepth 100000
set_option maxHeartbeats 8000000
namespace Go.Proofs.YtenaelkbgkpllaaGreatDoor
open Go.RowKit
theorem may_eq(q:Wd.Qr):Wd.mayBe q=(if q.kind=0 then ((Wd.coordOk q.a&&Wd.coordOk q.b&&Wd.coordOk q.c&&Wd.coordOk q.d)&&decide (q.a<=q.c)&&decide (q.b<=q.d)) else if q.kind=1 then ((Wd.coordOk q.x&&Wd.coordOk q.y)&&decide (1<=q.k)&&decide (q.k<=20)) else false):=rfl
theorem may_ref(q:Wd.Qr)(w:World):
  Calls Tryz.prog 101 #[Qv q] w fun e w'=>e=.returned (.bool (Wd.mayBe q))/\Below w.heap.size w w':=by
 have HM:=gH (may_eq q);have HAR:=gH (gY q.a);have HBR:=gH (gY q.b);have HCR:=gH (gY q.c);have HDR:=gH (gY q.d);have HXR:=gH (gY q.x);have HYR:=gH (gY q.y);have HB0:=gH (gB w);generalize Wd.mayBe q=res at*;generalize Wd.coordOk q.a=ca at*;generalize Wd.coordOk q.b=cb at*;generalize Wd.coordOk q.c=cc at*;generalize Wd.coordOk q.d=cd at*;generalize Wd.coordOk q.x=cx at*;generalize Wd.coordOk q.y=cy at*;obtain⟨kd,qa,qb,qc,qd,qx,qy,qk⟩:=q;go_enter Tryz.func101,Tryz.ntmps101
 go_upto_region 1 with fail
 have hc0:=fun i=>cell_of_row (w.alloc (.cells #[I kd,I qa,I qb,I qc,I qd,I qx,I qy,I qk] 46)) w.heap.size i #[I kd,I qa,I qb,I qc,I qd,I qx,I qy,I qk] 46 (0,0) (heap_alloc_new w _);have hbl:=HB0.out (.cells #[I kd,I qa,I qb,I qc,I qd,I qx,I qy,I qk] 46);generalize w.alloc (.cells #[I kd,I qa,I qb,I qc,I qd,I qx,I qy,I qk] 46)=w1 at hc0 hbl⊢;have c0:w1.cell? ⟨w.heap.size,0,none⟩=some (I kd):=hc0 0;have c1:w1.cell? ⟨w.heap.size,1,none⟩=some (I qa):=hc0 1;have c2:w1.cell? ⟨w.heap.size,2,none⟩=some (I qb):=hc0 2;have c3:w1.cell? ⟨w.heap.size,3,none⟩=some (I qc):=hc0 3;have c4:w1.cell? ⟨w.heap.size,4,none⟩=some (I qd):=hc0 4;have c5:w1.cell? ⟨w.heap.size,5,none⟩=some (I qx):=hc0 5;have c6:w1.cell? ⟨w.heap.size,6,none⟩=some (I qy):=hc0 6;have c7:w1.cell? ⟨w.heap.size,7,none⟩=some (I qk):=hc0 7;have HBL:=gH hbl;clear hc0 hbl HB0;go_cut [3] from 5 to 22 (fun v3 wx=>v3=.bool (ca&&cb&&cc&&cd)/\wx=w1)
 case first=>
  cases ca with
  |false=>(go_wp2_with (first| (go_at_call_of 91 (I qa);refine(HAR.out _).mono ?_;rintro _ _⟨rfl,rfl⟩)| (go_at_call_of 91 (I qb);refine(HBR.out _).mono ?_;rintro _ _⟨rfl,rfl⟩)| (go_at_call_of 91 (I qc);refine(HCR.out _).mono ?_;rintro _ _⟨rfl,rfl⟩)| (go_at_call_of 91 (I qd);refine(HDR.out _).mono ?_;rintro _ _⟨rfl,rfl⟩)));go_meet;exact⟨rfl,rfl⟩
  |true=>
   cases cb with
   |false=>(go_wp2_with (first| (go_at_call_of 91 (I qa);refine(HAR.out _).mono ?_;rintro _ _⟨rfl,rfl⟩)| (go_at_call_of 91 (I qb);refine(HBR.out _).mono ?_;rintro _ _⟨rfl,rfl⟩)| (go_at_call_of 91 (I qc);refine(HCR.out _).mono ?_;rintro _ _⟨rfl,rfl⟩)| (go_at_call_of 91 (I qd);refine(HDR.out _).mono ?_;rintro _ _⟨rfl,rfl⟩)));go_meet;exact⟨rfl,rfl⟩
   |true=>
    cases cc with
    |false=>(go_wp2_with (first| (go_at_call_of 91 (I qa);refine(HAR.out _).mono ?_;rintro _ _⟨rfl,rfl⟩)| (go_at_call_of 91 (I qb);refine(HBR.out _).mono ?_;rintro _ _⟨rfl,rfl⟩)| (go_at_call_of 91 (I qc);refine(HCR.out _).mono ?_;rintro _ _⟨rfl,rfl⟩)| (go_at_call_of 91 (I qd);refine(HDR.out _).mono ?_;rintro _ _⟨rfl,rfl⟩)));go_meet;exact⟨rfl,rfl⟩
    |true=>
     cases cd with
     |false=>(go_wp2_with (first| (go_at_call_of 91 (I qa);refine(HAR.out _).mono ?_;rintro _ _⟨rfl,rfl⟩)| (go_at_call_of 91 (I qb);refine(HBR.out _).mono ?_;rintro _ _⟨rfl,rfl⟩)| (go_at_call_of 91 (I qc);refine(HCR.out _).mono ?_;rintro _ _⟨rfl,rfl⟩)| (go_at_call_of 91 (I qd);refine(HDR.out _).mono ?_;rintro _ _⟨rfl,rfl⟩)));go_meet;exact⟨rfl,rfl⟩
     |true=>(go_wp2_with (first| (go_at_call_of 91 (I qa);refine(HAR.out _).mono ?_;rintro _ _⟨rfl,rfl⟩)| (go_at_call_of 91 (I qb);refine(HBR.out _).mono ?_;rintro _ _⟨rfl,rfl⟩)| (go_at_call_of 91 (I qc);refine(HCR.out _).mono ?_;rintro _ _⟨rfl,rfl⟩)| (go_at_call_of 91 (I qd);refine(HDR.out _).mono ?_;rintro _ _⟨rfl,rfl⟩)));go_meet;exact⟨rfl,rfl⟩
 case rest=>
  obtain⟨rfl,rfl⟩:=hcut;generalize hA:(ca&&cb&&cc&&cd)=A at*;clear hA HAR HBR HCR HDR;go_upto_region 2 with fail
  go_cut [4] from 23 to 30 (fun v4 wx=>v4=.bool (cx&&cy)/\wx=wc)
  case first=>
   cases cx with
   |false=>(go_wp2_with (first| (go_at_call_of 91 (I qx);refine(HXR.out _).mono ?_;rintro _ _⟨rfl,rfl⟩)| (go_at_call_of 91 (I qy);refine(HYR.out _).mono ?_;rintro _ _⟨rfl,rfl⟩)));go_meet;exact⟨rfl,rfl⟩
   |true=>
    cases cy with
    |false=>(go_wp2_with (first| (go_at_call_of 91 (I qx);refine(HXR.out _).mono ?_;rintro _ _⟨rfl,rfl⟩)| (go_at_call_of 91 (I qy);refine(HYR.out _).mono ?_;rintro _ _⟨rfl,rfl⟩)));go_meet;exact⟨rfl,rfl⟩
    |true=>(go_wp2_with (first| (go_at_call_of 91 (I qx);refine(HXR.out _).mono ?_;rintro _ _⟨rfl,rfl⟩)| (go_at_call_of 91 (I qy);refine(HYR.out _).mono ?_;rintro _ _⟨rfl,rfl⟩)));go_meet;exact⟨rfl,rfl⟩
  case rest=>
   obtain⟨rfl,rfl⟩:=hcut;generalize hB:(cx&&cy)=B at*;clear hB HXR HYR;by_cases hk0:kd=0
   ·subst hk0;cases A with
    |false=>(have hres:res=false:=by have:=HM.out;simpa using this);subst hres;(go_wp2_with fail);go_ret;exact⟨rfl,HBL.out⟩
    |true=>
     by_cases h1:qa<=qc
     ·by_cases h2:qb<=qd
      ·(have hres:res=true:=by have:=HM.out;simpa[h1,h2] using this);subst hres;(go_wp2_with fail);go_ret;exact⟨rfl,HBL.out⟩
      ·(have hres:res=false:=by have:=HM.out;simpa[h2] using this);subst hres;(go_wp2_with fail);go_ret;exact⟨rfl,HBL.out⟩
     ·(have hres:res=false:=by have:=HM.out;simpa[h1] using this);subst hres;(go_wp2_with fail);go_ret;exact⟨rfl,HBL.out⟩
   ·by_cases hk1:kd=1
    ·subst hk1;cases B with
     |false=>(have hres:res=false:=by have:=HM.out;simpa using this);subst hres;(go_wp2_with fail);go_ret;exact⟨rfl,HBL.out⟩
     |true=>
      by_cases h1:1<=qk
      ·by_cases h2:qk<=20
       ·(have hres:res=true:=by have:=HM.out;simpa[h1,h2] using this);subst hres;(go_wp2_with fail);go_ret;exact⟨rfl,HBL.out⟩
       ·(have hres:res=false:=by have:=HM.out;simpa[h2] using this);subst hres;(go_wp2_with fail);go_ret;exact⟨rfl,HBL.out⟩
      ·(have hres:res=false:=by have:=HM.out;simpa[h1] using this);subst hres;(go_wp2_with fail);go_ret;exact⟨rfl,HBL.out⟩
    ·(have hres:res=false:=by have:=HM.out;simpa[hk0,hk1] using this);subst hres;(go_wp2_with fail);go_ret;exact⟨rfl,HBL.out⟩
abbrev Bxr(b:Wd.Box):Value:=.agg #[I b.a,I b.b,I b.c,I b.d]
def Co(n:Int):Prop:= -1000000<=n/\n<=1000000
theorem off_ref(n lo hi:Int)(w:World)(hn:Co n)(hl:Co lo)(hh:Co hi):
  Calls Tryz.prog 183 #[I n,I lo,I hi] w fun e w'=>e=.returned (I (Wd.offI n lo hi))/\w'=w:=by
 obtain⟨n1,n2⟩:=hn;obtain⟨l1,l2⟩:=hl;obtain⟨h1,h2⟩:=hh;go_enter Tryz.func183,Tryz.ntmps183
 by_cases c1:n<lo
 ·go_wp2;go_ret;exact⟨by rw[show Wd.offI n lo hi=lo-n by unfold Wd.offI;rw[if_pos (by omega)]];rfl,rfl⟩
 ·by_cases c2:hi<n
  ·go_wp2;go_ret;exact⟨by rw[show Wd.offI n lo hi=n-hi by unfold Wd.offI;rw[if_neg (by omega),if_pos (by omega)]];rfl,rfl⟩
  ·go_wp2;go_ret;exact⟨by rw[show Wd.offI n lo hi=0 by unfold Wd.offI;rw[if_neg (by omega),if_neg (by omega)]];rfl,rfl⟩
theorem off_le{n lo hi:Int}(hn:Co n)(hl:Co lo)(hh:Co hi):0<=Wd.offI n lo hi/\Wd.offI n lo hi<=2000000:=by
 unfold Co at*;unfold Wd.offI;split
 ·omega
 ·split<;>omega
theorem sq_small{a:Int}(h1: -2000000<=a)(h2:a<=2000000):0<=a*a/\a*a<=4000000000000:=by
 rcases Int.le_total 0 a with h|h
 ·exact sq_le h h2
 ·have:=sq_le (u:= -a) (by omega) (by omega)
  rwa [Int.neg_mul_neg] at this
theorem distance_ref(p:Wd.Pt)(q:Wd.Qr)(w:World)(hx:Co p.x)(hy:Co p.y)(hqx:Co q.x)(hqy:Co q.y):
  Calls Tryz.prog 138 #[.agg #[I p.id,I p.x,I p.y],Qv q] w fun e w'=>e=.returned (I (Wd.distP p q.x q.y))/\Below w.heap.size w w':=by
 have HD:=gH (Wd.distP_is p q.x q.y);obtain⟨pi,px,py⟩:=p;obtain⟨kd,qa,qb,qc,qd,qx,qy,qk⟩:=q;obtain⟨x1,x2⟩:=hx;obtain⟨y1,y2⟩:=hy;obtain⟨u1,u2⟩:=hqx;obtain⟨v1,v2⟩:=hqy;simp only at*;obtain⟨s0,s1⟩:=sq_small (a:=px-qx) (by omega) (by omega);obtain⟨t0,t1⟩:=sq_small (a:=py-qy) (by omega) (by omega);have e1:IntKind.i64.wrap ((px-qx)*(px-qx))=(px-qx)*(px-qx):=by rw[IntKind.wrap_i64];omega
 have e2:IntKind.i64.wrap ((py-qy)*(py-qy))=(py-qy)*(py-qy):=by rw[IntKind.wrap_i64];omega
 have e3:IntKind.i64.wrap ((px-qx)*(px-qx)+(py-qy)*(py-qy))=(px-qx)*(px-qx)+(py-qy)*(py-qy):=by rw[IntKind.wrap_i64];omega
 go_enter Tryz.func138,Tryz.ntmps138
 go_wp2;go_ret;exact⟨by rw[HD.out];rfl,(gB w _).alloc (by simp) _⟩
theorem two_rows(w:World)(X Z:Array Value)(a b:TypeId):Below w.heap.size w ((w.alloc (.cells X a)).alloc (.cells Z b))/\((w.alloc (.cells X a)).alloc (.cells Z b)).heap[w.heap.size]? =some (.cells X a (0,0))/\((w.alloc (.cells X a)).alloc (.cells Z b)).heap[w.heap.size+1]? =some (.cells Z b (0,0)):=by
 have h1:=gB w (.cells X a);have e1:(w.alloc (.cells X a)).heap.size=w.heap.size+1:=by simp
 refine⟨h1.alloc (by omega) _,?_,?_⟩
 ·rw[Below.heap_alloc _ _ _ (by omega)];exact heap_alloc_new w _
 ·have:=heap_alloc_new (w.alloc (.cells X a)) (.cells Z b);rw[e1] at this;exact this
theorem far_ref(b:Wd.Box)(q:Wd.Qr)(w:World)(hb:b.In)(hu:b.up)(hqx:Co q.x)(hqy:Co q.y):
  Calls Tryz.prog 163 #[Bxr b,Qv q] w fun e w'=>e=.returned (I (Wd.dist b q.x q.y))/\Below w.heap.size w w':=by
 obtain⟨a1,a2,b1,b2,c1,c2,d1,d2⟩:=hb;have HD:=gS (Wd.dist b q.x q.y=Wd.offI q.x b.a b.c*Wd.offI q.x b.a b.c+Wd.offI q.y b.b b.d*Wd.offI q.y b.b b.d) (by unfold Wd.dist;rw[Wd.off_gap hu.1,Wd.off_gap hu.2]);have HX:=gH (fun W=>off_ref q.x b.a b.c W hqx ⟨a1,a2⟩ ⟨c1,c2⟩);have HY:=gH (fun W=>off_ref q.y b.b b.d W hqy ⟨b1,b2⟩ ⟨d1,d2⟩);obtain⟨x0,x1⟩:=off_le hqx ⟨a1,a2⟩ (⟨c1,c2⟩:Co b.c);obtain⟨y0,y1⟩:=off_le hqy ⟨b1,b2⟩ (⟨d1,d2⟩:Co b.d);obtain⟨s0,s1⟩:=sq_le x0 x1;obtain⟨t0,t1⟩:=sq_le y0 y1;have HTR:=gH (two_rows w #[I b.a,I b.b,I b.c,I b.d] #[I q.kind,I q.a,I q.b,I q.c,I q.d,I q.x,I q.y,I q.k] 148 46);generalize Wd.offI q.x b.a b.c=ox at*;generalize Wd.offI q.y b.b b.d=oy at*;obtain⟨ba,bb,bc,bd⟩:=b;obtain⟨kd,qa,qb,qc,qd,qx,qy,qk⟩:=q;simp only at*;go_enter Tryz.func163,Tryz.ntmps163
 go_upto_region 1 with fail
 have htr:=HTR.out;clear HTR;generalize (w.alloc (.cells #[I ba,I bb,I bc,I bd] 148)).alloc (.cells #[I kd,I qa,I qb,I qc,I qd,I qx,I qy,I qk] 46)=w1 at htr⊢;obtain⟨hb1,hr1,hr2⟩:=htr;have z0:w1.cell? ⟨w.heap.size,0,none⟩=some (I ba):=by rw[gC hr1];rfl
 have z1:w1.cell? ⟨w.heap.size,1,none⟩=some (I bb):=by rw[gC hr1];rfl
 have z2:w1.cell? ⟨w.heap.size,2,none⟩=some (I bc):=by rw[gC hr1];rfl
 have z3:w1.cell? ⟨w.heap.size,3,none⟩=some (I bd):=by rw[gC hr1];rfl
 have z5:w1.cell? ⟨w.heap.size+1,5,none⟩=some (I qx):=by rw[gC hr2];rfl
 have z6:w1.cell? ⟨w.heap.size+1,6,none⟩=some (I qy):=by rw[gC hr2];rfl
 have HB1:=gH hb1;clear hb1 hr1 hr2;go_upto_region 3 with(first| (go_at_call_of 183 (I qx);refine(HX.out _).mono ?_;rintro _ _⟨rfl,rfl⟩)| (go_at_call_of 183 (I qy);refine(HY.out _).mono ?_;rintro _ _⟨rfl,rfl⟩))
 go_wp2;go_ret;exact⟨by rw[HD.out];rfl,HB1.out⟩
theorem setP_cells(l:List Wd.Pt)(i:Nat)(e:Wd.Pt)(h:i<l.length):(l.set i e).flatMap P3=over (l.flatMap P3) (i*3) (P3 e):=by
 have hl:l=l.take i++l[i]::l.drop (i+1):=by rw[<-List.drop_eq_getElem_cons h,List.take_append_drop]
 have h1:l.set i e=l.take i++e::l.drop (i+1):=List.set_eq_take_append_cons_drop▸by rw[if_pos h]
 have ht:((l.take i).flatMap P3).length=i*3:=by rw[gQ,List.length_take];congr 1;omega
 have hf:l.flatMap P3=(l.take i).flatMap P3++(P3 l[i]++(l.drop (i+1)).flatMap P3):=by have:=congrArg (List.flatMap P3) hl;rw[List.flatMap_append,List.flatMap_cons] at this;exact this
 rw[h1,List.flatMap_append,List.flatMap_cons,hf,<-ht];generalize (l.drop (i+1)).flatMap P3=R;generalize (l.take i).flatMap P3=Q;generalize hE:P3 l[i]=X;have hX:(P3 e).length=X.length:=by rw[<-hE];rfl
 unfold over;rw[List.take_left,List.append_assoc,hX,<-List.drop_drop,List.drop_left,List.drop_left]
theorem ownP_set{w:World}{B g n c:Nat}{l:List Wd.Pt}(h:Own w B (.slice (some ⟨g,0,none⟩) n c) l)(i:Nat)(hi:i<l.length)(e:Wd.Pt):
  Own (w.setCells g (i*3) (P3 e)) B (.slice (some ⟨g,0,none⟩) n c) (l.set i e)/\w.grownBy (w.setCells g (i*3) (P3 e)) (some g):=by
 rcases h.2 with⟨e',_⟩| ⟨g',cap,cur,e',hB,hg,hcap,hmax,hcs,htake⟩
 ·cases e'
 ·injection e' with e1 e2 e3;injection e1 with e1;injection e1 with e1;subst e1 e3 e2;have hlen:(l.set i e).length=l.length:=List.length_set;have hcl:cur.toList.length=c*3:=by
   have h1:cur.toList.length=cur.size:=Array.length_toList;omega
  have hle:l.length*3<=cur.toList.length:=by rw[hcl];exact Nat.mul_le_mul_right _ hcap
  have hb:=gN (B:=0) (a:=w) (Nat.zero_le g) (P3 e) (i*3) w (Below.refl 0 w);have hi5:i*3+(P3 e).length<=l.length*3:=by show i*3+3<=_;omega
  have hr:=zK (g:=g) (ty:=36) (P3 e) (i*3) cur.toList w (by rw[Array.toArray_toList];exact hg) (by omega);refine⟨⟨by rw[gQ],.inr ⟨g,c,_,by rw[hlen],hB,hr,by rw[hlen];exact hcap,hmax,?_,?_⟩⟩,⟨hb.os,hb.tape,hb.output,hb.size,fun k hk hne=>oO (fun e=>hne (by rw[e])) _ _ _⟩⟩
  ·rw[List.size_toArray,zM (by omega),hcl]
  ·rw[List.toList_toArray,hlen,over_takeM hi5 hle,htake,setP_cells l i e hi]
theorem Own.open'{w:World}{B:Nat}{v:Value}{l:List Wd.Pt}(h:Own w B v l)(hl:0<l.length):∃g c,v=.slice (some ⟨g,0,none⟩) l.length c/\B<=g/\g<w.heap.size/\l.length<=c/\(∀k,w.frozen? ⟨g,k,none⟩=false)/\∀i,(hi:i<l.length)->PtAt w g (i*3) l[i]:=by
 rcases h.2 with⟨_,h0⟩| ⟨g,c,cur,e,hB,hg,hc,_⟩
 ·omega
 ·refine⟨g,c,e,hB,(gL hg),hc,fun k=>gF hg,fun i hi=>?_⟩;obtain⟨a',c',e',hr⟩:=h.reads;obtain⟨g2,o2,ea,hp⟩:=hr (fun e=>by rw[e] at hl;simp at hl);rw[e] at e';injection e' with e1;rw[<-e1] at ea;injection ea with ea;injection ea with ea eo;have:=hp i hi;rw[<-ea,<-eo,Nat.zero_add] at this;exact this
theorem inB_is(q:Wd.Qr)(p:Wd.Pt):Wd.inB (Wd.window q) p=(decide (q.a<=p.x)&&decide (p.x<=q.c)&&decide (q.b<=p.y)&&decide (p.y<=q.d)):=rfl
theorem ans_window{q:Wd.Qr}(h:q.kind=0)(L:List Wd.Pt):Wd.ans q L=Wd.sortP (L.filter (Wd.inB (Wd.window q))):=by unfold Wd.ans;rw[if_neg (by rw[h];decide)]
theorem Gs{w:World}{B B':Nat}{v:Value}{L:List Wd.Pt}(h:Own w B v L)(hB:B'<=B):Own w B' v L:=by
 refine⟨h.1,?_⟩;rcases h.2 with h0| ⟨g,c,cur,e,hb,r⟩
 ·exact .inl h0
 ·exact .inr ⟨g,c,cur,e,Nat.le_trans hB hb,r⟩
theorem answered_window(q:Wd.Qr)(va:Value)(L:List Wd.Pt)(w:World)(hk:q.kind=0)(hr:Reads w va L)(hI:Wd.Ids L)(hl:L.length<=30000):
  Calls Tryz.prog 103 #[va,Qv q] w fun e w'=>∃v',e=.returned v'/\Own w' w.heap.size v' (Wd.ans q L)/\Below w.heap.size w w':=by
 obtain⟨aa,ca,ea, -⟩:=id hr;subst ea;have HRD:=gH hr.point.2;have HI:=gH hI;have HAN:=gH (ans_window hk L);have HIB:=gH (inB_is q);generalize Wd.window q=bx at*;generalize Wd.ans q L=res at*;have HTR:=gS (Below w.heap.size w (w.alloc (.cells #[I q.kind,I q.a,I q.b,I q.c,I q.d,I q.x,I q.y,I q.k] 46))/\(w.alloc (.cells #[I q.kind,I q.a,I q.b,I q.c,I q.d,I q.x,I q.y,I q.k] 46)).heap[w.heap.size]? =some (.cells #[I q.kind,I q.a,I q.b,I q.c,I q.d,I q.x,I q.y,I q.k] 46 (0,0))) (⟨gB w _,heap_alloc_new w _⟩);obtain⟨kd,qa,qb,qc,qd,qx,qy,qk⟩:=q;simp only at*;subst hk;clear hr hI;go_enter Tryz.func103,Tryz.ntmps103
 go_upto_region 2 with fail
 have htr:=HTR.out;clear HTR;generalize w.alloc (.cells #[I 0,I qa,I qb,I qc,I qd,I qx,I qy,I qk] 46)=w1 at htr⊢;obtain⟨hb1,hr1⟩:=htr;have HB1:=gH hb1;have hs1:w.heap.size<w1.heap.size:=(gL hr1);have HQ:=gH (fun wq (hb:Below w1.heap.size w1 wq)=>rowQ8 ((hb.block w.heap.size hs1).trans hr1));have z0:w1.cell? ⟨w.heap.size,0,none⟩=some (I 0):=by rw[gC hr1];rfl
 clear hb1 hr1;go_wp2_with fail
 go_loopw [5,6] (fun v5 v6 wq=>∃i:Nat,i<=L.length/\v6=I i/\Own wq w1.heap.size v5 (Wd.sortP ((L.take i).filter (Wd.inB bx)))/\Below w1.heap.size w1 wq) (fun _ v6 _=>L.length-(intOf v6).toNat)
 case atStart=>exact⟨0,by omega,rfl,World.ownsRow_nil _ _ _ _,Below.refl _ _⟩
 case round=>
  obtain⟨i,hi,rfl,hown,hb⟩:=hrel;have HO:=gH hown;have HB:=gH hb;obtain⟨av,cv,ev⟩:=hown.slice;subst ev;obtain⟨y0,y1,y2,y3,y4,y5,y6,y7⟩:=HQ.out wr hb;have hszr:w1.heap.size<=wr.heap.size:=hb.size;clear hown hb z0;by_cases hlt:i<L.length
  ·obtain⟨g,o,rfl,hp⟩:=HRD.out i hlt;have hp0:=hp wr (HB1.out.trans (HB.out.mono HB1.out.size));have HIN:=gH (HIB.out L[i]);have HWI:=gH (fun(k:Nat) (h1:Wd.inB bx L[i]=true) (h2:Wd.Parts L[i] (Wd.sortP ((L.take i).filter (Wd.inB bx))) k)=>Wd.within_in HI.out hlt h1 h2);have HWO:=gH (fun(h1:Wd.inB bx L[i]=false)=>Wd.within_out hlt h1);have HFR:=gH (Wd.within_fresh (b:=bx) HI.out hlt);have HSO:=gH (Wd.GT (Wd.within_ids (b:=bx) HI.out i));have hnl:=Wd.within_len (b:=bx) (L:=L) i;generalize Wd.inB bx L[i]=isIn at*;generalize L[i]=p at*;generalize Wd.sortP ((L.take i).filter (Wd.inB bx))=S at*;obtain⟨S',hS'⟩:∃S',Wd.sortP ((L.take (i+1)).filter (Wd.inB bx))=S':=⟨_,rfl⟩;rw[hS'] at HWO;simp only[hS'] at HWI;have HSE:=gH hS';clear hS';obtain⟨pi,px,py⟩:=p;obtain⟨p0,p1,p2⟩:=hp0;have hb2':=gB wr;have hr2':=heap_alloc_new wr;clear hp;(go_upto_region 7 with fail);generalize hW:World.alloc wr _=w2;(have hb2:Below wr.heap.size wr w2:=by rw[<-hW];exact hb2' _);(have hr2:w2.heap[wr.heap.size]? =some (.cells #[I pi,I px,I py] 36 (0,0)):=by rw[<-hW];exact hr2' _);clear hW hb2' hr2';have hs2:wr.heap.size<w2.heap.size:=(gL hr2);have hB2:Below w1.heap.size w1 w2:=HB.out.trans (hb2.mono hszr);have HB2:=gH hB2;have HO2:=gH (HO.out.below hb2);have HVL:=gH (fun g (hg:(Value.slice av S.length cv).ownBlock=some g)=>HO.out.lt hg);obtain⟨r0,r1,r2⟩:=row3 hr2;have HR2:=gH hr2;clear y0 y1 y2 y3 y4 y5 y6 y7 p0 p1 p2 hb2 hr2 HO;obtain⟨y0,y1,y2,y3,y4,y5,y6,y7⟩:=HQ.out w2 hB2;clear hB2;by_cases c1:qa<=px
   ·by_cases c2:px<=qc
    ·by_cases c3:qb<=py
     ·by_cases c4:py<=qd
      ·(have hii:isIn=true:=by rw[HIN.out];simp[c1,c2,c3,c4]);have HW1:=gH (fun k h2=>HWI.out k hii h2);obtain⟨v1,w3,hap1,ho1,hg1,hf1⟩:=oW ⟨pi,px,py⟩ HO2.out (by omega) (by omega);have hap1':(Builtin.append_ #[27,27] 27 #[.slice av S.length cv,.slice (some ⟨w2.heap.size,0,none⟩) 1 1]).run Tryz.prog (w2.alloc (.cells #[I pi,I px,I py] 36))=.ok v1 w3:=hap1;obtain⟨go,co,hv1,hgB,hgl,hgc, -, -⟩:=ho1.open' (by simp);subst hv1;have hb3:Below w1.heap.size w1 w3:=HB2.out.trans ⟨hg1.os,hg1.tape,hg1.output,hg1.size,fun j hj=>hg1.block j (by omega) (fun e=>by have:=HO2.out.ge e.symm;omega)⟩;have hr3:w3.heap[wr.heap.size]? =some (.cells #[I pi,I px,I py] 36 (0,0)):=(hg1.block _ hs2 (fun e=>by have:=HVL.out _ e.symm;omega)).trans HR2.out;have hgp:go≠wr.heap.size:=fun e=>by
        rcases hf1 with h| ⟨g',h,hge⟩
        ·have:=HVL.out go (h.symm.trans rfl);omega
        ·have e2:some go=some g':=h;injection e2 with e2;omega
       (have hln:(S++[(⟨pi,px,py⟩:Wd.Pt)]).length=S.length+1:=by simp);rw[hln] at hap1' ho1 hgc;have HO3:=gS (Own w3 w1.heap.size (.slice (some ⟨go,0,none⟩) (S.length+1) co) (Wd.slid S ⟨pi,px,py⟩ S.length)) (by rw[Wd.slid_end];exact ho1);have HB3:=gH hb3;have HR3:=gH hr3;clear hap1 ho1 hg1 hf1 hb3 hr3 hln;(go_upto_region 10 with(at_builtin;refine Lib.wpList_append_run _ rfl (.tmp 57) (.tmp 59) 27 27 rfl _ _ rfl rfl _ _ hap1' ?_));have HPT:=gH (fun k (hk:k<=S.length) (hh:∀j,(h:j<S.length)->k<=j->Wd.lt ⟨pi,px,py⟩ S[j]) (hlw:∀j,(h:j<S.length)->j+1=k->¬Wd.lt ⟨pi,px,py⟩ S[j])=>HW1.out k (Wd.slid_parts HSO.out HFR.out hk hh hlw));have hgpl:wr.heap.size<w3.heap.size:=(gL HR3.out);clear y0 y1 y2 y3 y4 y5 y6 y7 r0 r1 r2 HVL HO2 HB2 HR2 HW1 HWI HWO HIN HFR HSO HB hap1';generalize wr.heap.size=gp at*;go_loopw [8] (fun v8 wq=>∃k:Nat,k<=S.length/\v8=.int .i64 k/\Own wq w1.heap.size (.slice (some ⟨go,0,none⟩) (S.length+1) co) (Wd.slid S ⟨pi,px,py⟩ k)/\(∀j,(h:j<S.length)->k<=j->Wd.lt ⟨pi,px,py⟩ S[j])/\wq.heap[gp]? =some (.cells #[I pi,I px,I py] 36 (0,0))/\Below w1.heap.size w1 wq) (fun v8 _=>(intOf v8).toNat)
       case atStart=>exact⟨S.length,Nat.le_refl _,rfl,HO3.out,fun j h hj=>absurd h (by omega),HR3.out,HB3.out⟩
       case round=>
        obtain⟨k,hk,rfl,hown,hhi,hrow,hb⟩:=hrel;have HOK:=gH hown;have HHI:=gH hhi;have HRW:=gH hrow;have HBK:=gH hb;have hszk:w1.heap.size<=wr.heap.size:=hb.size;have y0:=(HQ.out wr hb).1;clear hown hhi hrow hb HO3 HB3 HR3;cases k with
        |zero=>
         have HE:=gH (HPT.out 0 (by omega) HHI.out (fun j h e=>by omega));(go_wp2_with fail);go_roundw
         case rel=>exact⟨i+1,hlt,by go_num,by rw[HSE.out,HE.out];exact HOK.out,HBK.out⟩
         case measure=>simp[intOf];omega
        |succ k=>
         (have hks:k<S.length:=by omega);(have hl1:k< (Wd.slid S ⟨pi,px,py⟩ (k+1)).length:=by rw[Wd.slid_len];omega);(have hl2:k+1< (Wd.slid S ⟨pi,px,py⟩ (k+1)).length:=by rw[Wd.slid_len];omega);obtain⟨go',co',ev, -,hgol, -,hfz,hpt⟩:=HOK.out.open' (by omega);injection ev with ev1 ev2 ev3;injection ev1 with ev1;injection ev1 with ev1;subst ev1;clear ev2 ev3;have hpk:=hpt k hl1;rw[Wd.slid_get (by omega)] at hpk;have HLO:=gH (fun(h:¬Wd.lt ⟨pi,px,py⟩ S[k])=>HPT.out (k+1) hk HHI.out (fun j hj e=>by(have ej:j=k:=by omega);subst ej;exact h))
         have HHK:=gH (fun(h:Wd.lt ⟨pi,px,py⟩ S[k])=>show ∀j,(h:j<S.length)->k<=j->Wd.lt ⟨pi,px,py⟩ S[j] from fun j hj hkj=>by
          by_cases e:j=k
          ·subst e;exact h
          ·exact HHI.out j hj (by omega))
         have HSET:=gH (Wd.slid_set (S:=S) (p:=⟨pi,px,py⟩) hk);obtain⟨sk,hsk⟩:∃sk,S[k]=sk:=⟨_,rfl⟩;rw[hsk] at hpk HLO HHK HSET;clear hsk hpt;have hS:RdPt wr w.heap.size go (k*3) gp (I 0) sk ⟨pi,px,py⟩:=⟨y0,hpk,row3 HRW.out⟩;have HBF:=gH (fun W=>before_ref ⟨pi,px,py⟩ sk W);obtain⟨si,sx,sy⟩:=sk;(have hwl:w.heap.size<wr.heap.size:=by omega);have hgp2:gp<wr.heap.size:=(gL HRW.out);(have hk0:(0:Int)<=(k:Int):=by omega);(have hk1:(k:Int)< (S.length:Int)+1:=by omega);(have hk2:(k:Int)+1< (S.length:Int)+1:=by omega);have hwk:IntKind.i64.wrap (k:Int)=(k:Int):=gj _ (by omega) (by omega);(have htk:((k:Int)).toNat=k:=by omega);(go_upto_region 11 with fail);go_cut [9] from 63 to 69 (fun v9 wx=>v9=.bool (decide (Wd.lt ⟨pi,px,py⟩ ⟨si,sx,sy⟩))/\Below wr.heap.size wr wx)
         case first=>obtain⟨s0,⟨s1,s2,s3⟩,s4,s5,s6⟩:=id hS;(go_region_held3 (fun W=>W.cell? ⟨w.heap.size,0,none⟩=some (I 0)/\(W.cell? ⟨go,k*3,none⟩=some (I si)/\W.cell? ⟨go,k*3+1,none⟩=some (I sx)/\W.cell? ⟨go,k*3+2,none⟩=some (I sy))/\W.cell? ⟨gp,0,none⟩=some (I pi)/\W.cell? ⟨gp,1,none⟩=some (I px)/\W.cell? ⟨gp,2,none⟩=some (I py)) (first|assumption|exact hS|exact hS.drew|exact hS6) ((go_at_call 93;refine(HBF.out _).mono ?_;rintro _ w6⟨rfl,hb6⟩;have hS6:=hS.drew.below hb6 (by simpa using hwl) (by simpa using hgol) (by simpa using hgp2);have hB6:Below wr.heap.size wr w6:=(show Below wr.heap.size wr wr.drew from(Below.refl _ _).drew).trans hb6)));all_goals (go_wp2_with fail);go_meet;exact⟨rfl,hB6⟩
         case rest=>
          obtain⟨rfl,hbc⟩:=hcut;generalize wc=w5 at*;have hOc:=HOK.out.below hbc;have HBc:=gH (HBK.out.trans (hbc.mono hszk));have HRc:=gH ((hbc.block gp hgp2).trans HRW.out);have hpc:=row3 HRc.out;have hqc:PtAt w5 go (k*3) ⟨si,sx,sy⟩:=PtAt.block hpk (hbc.block go hgol);by_cases hq:Wd.lt ⟨pi,px,py⟩ ⟨si,sx,sy⟩
          ·rw[decide_eq_true hq];obtain⟨g5,c5,ev, -, -, -,hfc,hptc⟩:=hOc.open' (by omega);injection ev with ev1 ev2 ev3;injection ev1 with ev1;injection ev1 with ev1;subst ev1;clear ev2 ev3;have hb1:=hptc (k+1) hl2;obtain⟨t1,tg1⟩:=ownP_set hOc (k+1) hl2 ⟨si,sx,sy⟩;obtain⟨t2,tg2⟩:=ownP_set t1 k (by rw[List.length_set];omega) ⟨pi,px,py⟩;rw[HSET.out] at t2;have HT2:=gH t2;have HG2:=gH (grown_grown tg1 tg2);have HK2:=gH (HHK.out hq);clear t1 t2 tg1 tg2 hptc hOc hbc hpk hS y0 HOK HHI HRW HBK HHK HLO HBF;generalize (Wd.slid S ⟨pi,px,py⟩ (k+1))[k+1]=old at*;obtain⟨m0,m1,m2⟩:=hb1;obtain⟨n0,n1,n2⟩:=hqc;obtain⟨o0,o1,o2⟩:=hpc;have f0:=hfc ((k+1)*3);have f1:=hfc ((k+1)*3+1);have f2:=hfc ((k+1)*3+2);have f3:=hfc (k*3);have f4:=hfc (k*3+1);have f5:=hfc (k*3+2);have hgp':gp≠go:=fun e=>hgp e.symm;clear hfc;(go_wp2_with fail);refine⟨⟨k,by omega,rfl,HT2.out,HK2.out,(HG2.out.block gp (gL HRc.out) (fun e=>hgp' (by injection e))).trans HRc.out,HBc.out.trans ⟨HG2.out.os,HG2.out.tape,HG2.out.output,HG2.out.size,fun j hj=>HG2.out.block j (Nat.lt_of_lt_of_le hj HBc.out.size) (fun e=>by injection e with e;omega)⟩⟩,?_⟩;simp[intOf]
          ·rw[decide_eq_false hq];have HE:=gH (HLO.out hq);have HOc:=gH hOc;clear hOc hbc hpk hS y0 HOK HHI HRW HBK HHK HLO HBF;(go_wp2_with fail);go_roundw
           case rel=>exact⟨i+1,hlt,by go_num,by rw[HSE.out,HE.out];exact HOc.out,HBc.out⟩
           case measure=>simp[intOf];omega
      ·(have hio:isIn=false:=by rw[HIN.out];simp[c4]);have HE:=gH (HWO.out hio);(go_wp2_with fail);go_roundw
       case rel=>exact⟨i+1,hlt,by go_num,by rw[HSE.out,HE.out];exact HO2.out,HB2.out⟩
       case measure=>simp[intOf];omega
     ·(have hio:isIn=false:=by rw[HIN.out];simp[c3]);have HE:=gH (HWO.out hio);(go_wp2_with fail);go_roundw
      case rel=>exact⟨i+1,hlt,by go_num,by rw[HSE.out,HE.out];exact HO2.out,HB2.out⟩
      case measure=>simp[intOf];omega
    ·(have hio:isIn=false:=by rw[HIN.out];simp[c2]);have HE:=gH (HWO.out hio);(go_wp2_with fail);go_roundw
     case rel=>exact⟨i+1,hlt,by go_num,by rw[HSE.out,HE.out];exact HO2.out,HB2.out⟩
     case measure=>simp[intOf];omega
   ·(have hio:isIn=false:=by rw[HIN.out];simp[c1]);have HE:=gH (HWO.out hio);(go_wp2_with fail);go_roundw
    case rel=>exact⟨i+1,hlt,by go_num,by rw[HSE.out,HE.out];exact HO2.out,HB2.out⟩
    case measure=>simp[intOf];omega
  ·(have ei:i=L.length:=by omega);subst ei;have HRES:=gS (∃v',Value.slice av (Wd.sortP ((L.take L.length).filter (Wd.inB bx))).length cv=v'/\Own wr w.heap.size v' res) (by
    have h:=HO.out;rw[List.take_length] at h⊢;rw[HAN.out];exact⟨_,rfl,Gs h (by omega)⟩)
   obtain⟨v',ev,hres⟩:=HRES.out;have HRS:=gH hres;have HFB:=gH (HB1.out.trans (HB.out.mono (Nat.le_of_lt hs1)));rw[ev];clear hres HO HRES;subst ev;generalize (Wd.sortP ((L.take L.length).filter (Wd.inB bx))).length=nn at*;(go_wp2_with fail);go_ret;exact⟨_,rfl,HRS.out,HFB.out⟩
def Flags(w:World)(gu n:Nat)(U:Nat->Bool):Prop:=w.heap[gu]? =some (.cells ((List.range n).map (fun j=>Value.bool (U j))).toArray 4 (0,0))
theorem Flags.cell{w:World}{gu n:Nat}{U:Nat->Bool}(h:Flags w gu n U){j:Nat}(hj:j<n):w.cell? ⟨gu,j,none⟩=some (.bool (U j)):=by rw[gC h,List.getElem?_toArray,List.getElem?_map,List.getElem?_range hj];rfl
theorem Flags.set{w:World}{gu n b:Nat}{U:Nat->Bool}(h:Flags w gu n U):Flags (w.setCell ⟨gu,b,none⟩ (.bool true)) gu n (fun j=>if j=b then true else U j):=by have:=heap_setCell_same w gu b _ 4 (.bool true) h;rw[List.setIfInBounds_toArray,Wd.flags_set] at this;unfold Flags;rw[this];congr 4;funext j;by_cases e:j=b<;>simp[e]
theorem flags_made{w:World}{B g n:Nat}(h:w.ownsRow B 4 1 (.slice (some ⟨g,0,none⟩) n n) n (madeCells (Value.bool false).cells (n*1)).toList):Flags w g n (fun _=>false):=by
 rcases h.2 with⟨e,_⟩| ⟨g',c,cur,e,_,hg,_,_,hs,ht⟩
 ·cases e
 ·injection e with e1 _ e3;injection e1 with e1;injection e1 with e1;subst e1 e3;have e2:(madeCells (Value.bool false).cells (n*1)).toList=List.replicate n (Value.bool false):=by
   rw[Nat.mul_one];exact toList_madeCells_one (Value.bool false) n
  have e4:cur.toList=List.replicate n (Value.bool false):=by rw[<-e2,<-ht,List.take_of_length_le (by rw[Array.length_toList,hs];exact Nat.le_refl _)]
  unfold Flags;rw[hg];have e5:cur=(List.replicate n (Value.bool false)).toArray:=by rw[<-e4]
  rw[e5];congr 3;apply List.ext_getElem?;intro k;by_cases hk:k<n
  ·simp[hk]
  ·simp[hk]
def RdPQ(W:World)(g o k:Nat)(p:Wd.Pt)(q:Wd.Qr):Prop:=(W.cell? ⟨g,o,none⟩=some (I p.id)/\W.cell? ⟨g,o+1,none⟩=some (I p.x)/\W.cell? ⟨g,o+2,none⟩=some (I p.y))/\W.cell? ⟨k,0,none⟩=some (I q.kind)/\W.cell? ⟨k,1,none⟩=some (I q.a)/\W.cell? ⟨k,2,none⟩=some (I q.b)/\W.cell? ⟨k,3,none⟩=some (I q.c)/\W.cell? ⟨k,4,none⟩=some (I q.d)/\W.cell? ⟨k,5,none⟩=some (I q.x)/\W.cell? ⟨k,6,none⟩=some (I q.y)/\W.cell? ⟨k,7,none⟩=some (I q.k)
theorem RdPQ.below{W W':World}{g o k B:Nat}{p:Wd.Pt}{q:Wd.Qr}(h:RdPQ W g o k p q)(hb:Below B W W')(hg:g<B)(hk:k<B):RdPQ W' g o k p q:=by obtain⟨⟨q0,q1,q2⟩,p0,p1,p2,p3,p4,p5,p6,p7⟩:=h;have cg:=fun i=>hb.cell (p:=⟨g,i,none⟩) hg;have ck:=fun i=>hb.cell (p:=⟨k,i,none⟩) hk;exact⟨⟨(cg _).trans q0,(cg _).trans q1,(cg _).trans q2⟩,(ck _).trans p0,(ck _).trans p1,(ck _).trans p2,(ck _).trans p3,(ck _).trans p4,(ck _).trans p5,(ck _).trans p6,(ck _).trans p7⟩
theorem RdPQ.drew{W:World}{g o k:Nat}{p:Wd.Pt}{q:Wd.Qr}(h:RdPQ W g o k p q):RdPQ W.drew g o k p q:=by simpa[RdPQ] using h
theorem Tryz.infoBoolZ:(Tryz.prog.info? 4).map (fun i=>(i.zero,i.size,i.bytes))=some (some (.bool false),1,1):=by kernel_rfl
theorem answered_near(q:Wd.Qr)(va:Value)(L:List Wd.Pt)(w:World)(hk:q.kind=1)(hk1:1<=q.k)(hk2:q.k<=20)(hqx:Co q.x)(hqy:Co q.y)(hr:Reads w va L)(hI:Wd.Ids L)(hC:∀p∈L,Co p.x/\Co p.y)(hl:L.length<=30000):
  Calls Tryz.prog 103 #[va,Qv q] w fun e w'=>∃v',e=.returned v'/\Own w' w.heap.size v' (Wd.ans q L)/\Below w.heap.size w w':=by
 obtain⟨i0,hi,hz0,hz1,hz2⟩:=info_parts Tryz.infoBoolZ;have hby:i0.bytes*L.length<=281474976710656:=by rw[hz2];omega
 obtain⟨aa,ca,ea, -⟩:=id hr;subst ea;have HRD:=gH hr.point.2;have HI:=gH hI;have HAN:=gS (Wd.ans q L=(Wd.sortN q.x q.y L).take q.k.toNat) (by unfold Wd.ans;rw[if_pos hk]);have HDS:=gH (fun(p:Wd.Pt) (hp:p∈L) W=>distance_ref p q W (hC p hp).1 (hC p hp).2 hqx hqy);have hsl:=Wd.zI q.x q.y L;generalize Wd.ans q L=res at*;have HTR:=gS (Below w.heap.size w (w.alloc (.cells #[I q.kind,I q.a,I q.b,I q.c,I q.d,I q.x,I q.y,I q.k] 46))/\(w.alloc (.cells #[I q.kind,I q.a,I q.b,I q.c,I q.d,I q.x,I q.y,I q.k] 46)).heap[w.heap.size]? =some (.cells #[I q.kind,I q.a,I q.b,I q.c,I q.d,I q.x,I q.y,I q.k] 46 (0,0))) (⟨gB w _,heap_alloc_new w _⟩);obtain⟨kd,qa,qb,qc,qd,qx,qy,qk⟩:=q;simp only at*;subst hk;clear hr hI hC;go_enter Tryz.func103,Tryz.ntmps103
 go_upto_region 2 with fail
 have htr:=HTR.out;clear HTR;generalize w.alloc (.cells #[I 1,I qa,I qb,I qc,I qd,I qx,I qy,I qk] 46)=w1 at htr⊢;obtain⟨hb1,hr1⟩:=htr;have HB1:=gH hb1;have hs1:w.heap.size<w1.heap.size:=(gL hr1);have HQ:=gH (fun wq (hb:Below w1.heap.size w1 wq)=>rowQ8 ((hb.block w.heap.size hs1).trans hr1));have z0:w1.cell? ⟨w.heap.size,0,none⟩=some (I 1):=by rw[gC hr1];rfl
 clear hb1 hr1;go_upto_region 18 with(at_make;refine wpList_make_full w1 rfl (.tmp 89) (.tmp 89) 201 rfl w1.heap.size 4 i0 (.bool false) 1 Tryz.underlying201 hi hz0 hz1 .i64 .i64 _ _ L.length rfl rfl rfl rfl hby (by unfold maxLen;omega) gR ?_;intro w2 hown hgrow)
 have HF2:=gH (flags_made hown);have HB2:=gS (Below w1.heap.size w1 w2) ((Below.refl w1.heap.size w1).grown hgrow gR (fun k hk=>by cases hk));have hs2:w1.heap.size<w2.heap.size:=(gL HF2.out);clear hown hgrow z0;generalize w1.heap.size=gu at*;obtain⟨B,hBe⟩:∃B,gu+1=B:=⟨_,rfl⟩;have hBw:B<=w2.heap.size:=by omega
 go_loopg [5] L.length (fun gk v5 wq=>∃(n:Nat) (U:Nat->Bool),gk=L.length-n/\n<=L.length/\(n:Int)<=qk/\Own wq B v5 ((Wd.sortN qx qy L).take n)/\Flags wq gu L.length U/\(∀j,(h:j<L.length)->(U j=true↔L[j]∈(Wd.sortN qx qy L).take n))/\Below gu w1 wq/\B<=wq.heap.size)
 case atStart=>exact⟨0,fun _=>false,by omega,by omega,by omega,World.ownsRow_nil _ _ _ _,HF2.out,fun j h=>by simp,HB2.out,hBw⟩
 case round=>
  obtain⟨n,U,hgk,hn,hnk,hown,hfl,hU,hb,hBr⟩:=hrel;have HGK:=gH hgk;have HO:=gH hown;have HFL:=gH hfl;have HU:=gH hU;have HB:=gH hb;have hgr:gu<wr.heap.size:=by omega
  obtain⟨av,cv,ev⟩:=hown.slice;have hlen:((Wd.sortN qx qy L).take n).length=n:=by rw[List.length_take];omega
  rw[hlen] at ev;subst ev;have y7:wr.cell? ⟨w.heap.size,7,none⟩=some (I qk):=(HQ.out wr hb).2.2.2.2.2.2.2;clear hgk hown hfl hU HF2 HB2 hs2 hBw hlen;by_cases h1:(n:Int)<qk
  ·by_cases h2:n<L.length
   ·(have h2':(n:Int)< (L.length:Int):=by omega);(go_upto_region 21 with fail);obtain⟨wo,hwo⟩:∃wo,wo=wr:=⟨_,rfl⟩;subst hwo;have HEN:=gH (fun best (h:Wd.Best L ((Wd.sortN qx qy L).take n) qx qy L.length best)=>Wd.best_end HI.out h2 h);obtain⟨T,hT⟩:∃T,(Wd.sortN qx qy L).take n=T:=⟨_,rfl⟩;rw[hT] at HO HU;simp only[hT] at HEN;have HTE:=gH hT;clear hb hT y7;go_loopw [11,12] (fun v11 v12 wq=>∃(i:Nat) (best:Int),i<=L.length/\v12=I i/\v11=.int .i64 best/\Wd.Best L T qx qy i best/\Below wo.heap.size wo wq) (fun _ v12 _=>L.length-(intOf v12).toNat)
    case atStart=>exact⟨0, -1,by omega,rfl,rfl,Wd.best_start _ _ _ _,Below.refl _ _⟩
    case round=>
     obtain⟨i,best,hile,rfl,rfl,hbest,hbi⟩:=hrel;have HBE:=gH hbest;have HBI:=gH hbi;have hszi:wo.heap.size<=wr.heap.size:=hbi.size;have hBw:Below w.heap.size w wr:=HB1.out.trans ((HB.out.trans (hbi.mono (by omega))).mono (by omega));have HBW:=gH hBw;have hfi:=HFL.out;have hflw:Flags wr gu L.length U:=(hbi.block gu hgr).trans hfi;clear hbest hfi;by_cases hlt:i<L.length
     ·obtain⟨g,o,rfl,hp⟩:=HRD.out i hlt;(have hlt':(i:Int)< (L.length:Int):=by omega);have hui:=hflw.cell hlt;have HUI:=gH (HU.out i hlt);by_cases hu:U i=true
      ·rw[hu] at hui;have HE:=gH (Wd.best_used HBE.out hlt (HUI.out.1 hu));clear hp hflw hbi hBw;(go_wp2_with fail);go_roundw
       case rel=>exact⟨i+1,best,hlt,by go_num,rfl,HE.out,HBI.out⟩
       case measure=>simp[intOf];omega
      ·(have hu':U i=false:=by simpa using hu);rw[hu'] at hui;have hnT:L[i]∉T:=fun h=>hu (HUI.out.2 h);by_cases hbn:best= -1
       ·subst hbn;have HE:=gH (Wd.best_first HBE.out hlt hnT);clear hp hflw hbi hBw;(go_wp2_with fail);go_roundw
        case rel=>exact⟨i+1,(i:Int),hlt,by go_num,rfl,HE.out,HBI.out⟩
        case measure=>simp[intOf];omega
       ·obtain⟨b,hbl,hbi2,rfl⟩:∃b:Nat,∃h:b<L.length,b<i/\best=(b:Int):=by
         rcases HBE.out with⟨e,_⟩| ⟨b,h1,h2,e,_⟩
         ·exact absurd e hbn
         ·exact⟨b,h1,h2,e⟩
        have hpi:=hp wr hBw;obtain⟨g',o',e',hpb⟩:=HRD.out b hbl;injection e' with e';injection e' with e1 e2;subst e1 e2;have hpb':=hpb wr hBw;have HNE:=gH (fun h=>Wd.best_near HBE.out hbl hlt hnT h);have HFA:=gH (fun h=>Wd.best_far HI.out HBE.out hbl hlt h);have HD1:=gH (HDS.out L[i] (List.getElem_mem hlt));have HD2:=gH (HDS.out L[b] (List.getElem_mem hbl));have HNR:=gS (Wd.nr qx qy L[i] L[b]↔(Wd.distP L[i] qx qy<Wd.distP L[b] qx qy\/(Wd.distP L[i] qx qy=Wd.distP L[b] qx qy/\L[i].id<L[b].id))) Iff.rfl;have hq8:=HQ.out wr (HB.out.trans (hbi.mono (by omega)));have hSp:RdPQ wr g (o+i*3) w.heap.size L[i] ⟨1,qa,qb,qc,qd,qx,qy,qk⟩:=⟨hpi,hq8⟩;have hSr:RdPQ wr g (o+b*3) w.heap.size L[b] ⟨1,qa,qb,qc,qd,qx,qy,qk⟩:=⟨hpb',hq8⟩;generalize Wd.distP L[i] qx qy=dp at*;generalize Wd.distP L[b] qx qy=dr at*;generalize Wd.nr qx qy L[i] L[b]=nrp at*;generalize L[i]=pp at*;generalize L[b]=rr at*;obtain⟨pi,px,py⟩:=pp;obtain⟨ri,rx,ry⟩:=rr;have hgwr:g<wr.heap.size:=block_lt_of_cell hpi.1;(have hwwr:w.heap.size<wr.heap.size:=by omega);(have hb0:(0:Int)<=(b:Int):=by omega);(have hb1:(b:Int)< (L.length:Int):=by omega);have hwb:IntKind.i64.wrap (b:Int)=(b:Int):=gj _ (by omega) (by omega);(have htb:((b:Int)).toNat=b:=by omega);(have hnb:¬(b:Int)<0:=by omega);(have hi0:(0:Int)<=(i:Int):=by omega);have hwi:IntKind.i64.wrap (i:Int)=(i:Int):=gj _ (by omega) (by omega);(have hti:((i:Int)).toNat=i:=by omega);clear hp hpb hpi hpb' hq8 hflw hbi hBw hbn;(go_upto_region 26 with fail);go_cut [14] from 117 to 122 (fun vd wx=>vd=I dp/\Below wr.heap.size wr wx)
        case first=>obtain⟨⟨s1,s2,s3⟩,t0,t1,t2,t3,t4,t5,t6,t7⟩:=id hSp;(go_region_held3 (fun W=>(W.cell? ⟨g,o+i*3,none⟩=some (I pi)/\W.cell? ⟨g,o+i*3+1,none⟩=some (I px)/\W.cell? ⟨g,o+i*3+2,none⟩=some (I py))/\W.cell? ⟨w.heap.size,0,none⟩=some (I 1)/\W.cell? ⟨w.heap.size,1,none⟩=some (I qa)/\W.cell? ⟨w.heap.size,2,none⟩=some (I qb)/\W.cell? ⟨w.heap.size,3,none⟩=some (I qc)/\W.cell? ⟨w.heap.size,4,none⟩=some (I qd)/\W.cell? ⟨w.heap.size,5,none⟩=some (I qx)/\W.cell? ⟨w.heap.size,6,none⟩=some (I qy)/\W.cell? ⟨w.heap.size,7,none⟩=some (I qk)) (first|assumption|exact hSp|exact hSp.drew|exact hS6) ((go_at_call 138;refine(HD1.out _).mono ?_;rintro _ w6⟨rfl,hb6⟩;have hS6:=hSp.drew.below hb6 (by simpa using hgwr) (by simpa using hwwr);have hB6:Below wr.heap.size wr w6:=(show Below wr.heap.size wr wr.drew from(Below.refl _ _).drew).trans hb6)));all_goals (go_wp2_with fail);go_meet;exact⟨rfl,hB6⟩
        case rest=>
         obtain⟨rfl,hbc⟩:=hcut;generalize wc=w5 at*;have hSr5:=hSr.below hbc hgwr hwwr;have hSp5:=hSp.below hbc hgwr hwwr;have hgw5:g<w5.heap.size:=Nat.lt_of_lt_of_le hgwr hbc.size;have hww5:w.heap.size<w5.heap.size:=Nat.lt_of_lt_of_le hwwr hbc.size;have HB5:=gH (HBI.out.trans (hbc.mono hszi));clear hbc hSr hSp HD1;(go_upto_region 27 with fail);go_cut [15] from 123 to 128 (fun vd wx=>vd=I dr/\Below w5.heap.size w5 wx)
         case first=>obtain⟨⟨s1,s2,s3⟩,t0,t1,t2,t3,t4,t5,t6,t7⟩:=id hSr5;(go_region_held3 (fun W=>(W.cell? ⟨g,o+b*3,none⟩=some (I ri)/\W.cell? ⟨g,o+b*3+1,none⟩=some (I rx)/\W.cell? ⟨g,o+b*3+2,none⟩=some (I ry))/\W.cell? ⟨w.heap.size,0,none⟩=some (I 1)/\W.cell? ⟨w.heap.size,1,none⟩=some (I qa)/\W.cell? ⟨w.heap.size,2,none⟩=some (I qb)/\W.cell? ⟨w.heap.size,3,none⟩=some (I qc)/\W.cell? ⟨w.heap.size,4,none⟩=some (I qd)/\W.cell? ⟨w.heap.size,5,none⟩=some (I qx)/\W.cell? ⟨w.heap.size,6,none⟩=some (I qy)/\W.cell? ⟨w.heap.size,7,none⟩=some (I qk)) (first|assumption|exact hSr5|exact hSr5.drew|exact hS6) ((go_at_call 138;refine(HD2.out _).mono ?_;rintro _ w6⟨rfl,hb6⟩;have hS6:=hSr5.drew.below hb6 (by simpa using hgw5) (by simpa using hww5);have hB6:Below w5.heap.size w5 w6:=(show Below w5.heap.size w5 w5.drew from(Below.refl _ _).drew).trans hb6)));all_goals (go_wp2_with fail);go_meet;exact⟨rfl,hB6⟩
         case rest=>
          obtain⟨rfl,hbd⟩:=hcut;generalize wc=w8 at*;obtain⟨⟨s1,s2,s3⟩, -⟩:=hSp5.below hbd hgw5 hww5;obtain⟨⟨s4,s5,s6⟩, -⟩:=hSr5.below hbd hgw5 hww5;have HB8:=gH (HB5.out.trans (hbd.mono HB5.out.size));clear hbd hSr5 hSp5 HD2;by_cases c1:dp<dr
          ·have HE:=gH (HNE.out (HNR.out.2 (.inl c1)));(go_wp2_with fail);(go_quiet (fail));have HBQ:=gS (Below wo.heap.size wo (w8.drewN nq)) (HB8.out.trans ⟨rfl,rfl,rfl,Nat.le_refl _,fun _ _=>rfl⟩);generalize World.drewN w8 nq=w9 at*;(go_wp2_with fail);go_roundw
           case rel=>exact⟨i+1,(i:Int),hlt,by go_num,rfl,HE.out,HBQ.out⟩
           case measure=>simp[intOf];omega
          ·by_cases c2:dp=dr
           ·by_cases c3:pi<ri
            ·subst c2;have HE:=gH (HNE.out (HNR.out.2 (.inr ⟨rfl,c3⟩)));(go_wp2_with fail);(go_quiet (fail));have HBQ:=gS (Below wo.heap.size wo (w8.drewN nq)) (HB8.out.trans ⟨rfl,rfl,rfl,Nat.le_refl _,fun _ _=>rfl⟩);generalize World.drewN w8 nq=w9 at*;(go_wp2_with fail);go_roundw
             case rel=>exact⟨i+1,(i:Int),hlt,by go_num,rfl,HE.out,HBQ.out⟩
             case measure=>simp[intOf];omega
            ·subst c2;have HE:=gH (HFA.out (fun h=>(HNR.out.1 h).elim (fun h=>absurd h c1) (fun h=>absurd h.2 c3)));(go_wp2_with fail);(go_quiet (fail));have HBQ:=gS (Below wo.heap.size wo (w8.drewN nq)) (HB8.out.trans ⟨rfl,rfl,rfl,Nat.le_refl _,fun _ _=>rfl⟩);generalize World.drewN w8 nq=w9 at*;(go_wp2_with fail);go_roundw
             case rel=>exact⟨i+1,(b:Int),hlt,by go_num,rfl,HE.out,HBQ.out⟩
             case measure=>simp[intOf];omega
           ·have HE:=gH (HFA.out (fun h=>(HNR.out.1 h).elim (fun h=>absurd h c1) (fun h=>absurd h.1 c2)));(go_wp2_with fail);(go_quiet (fail));have HBQ:=gS (Below wo.heap.size wo (w8.drewN nq)) (HB8.out.trans ⟨rfl,rfl,rfl,Nat.le_refl _,fun _ _=>rfl⟩);generalize World.drewN w8 nq=w9 at*;(go_wp2_with fail);go_roundw
            case rel=>exact⟨i+1,(b:Int),hlt,by go_num,rfl,HE.out,HBQ.out⟩
            case measure=>simp[intOf];omega
     ·(have ei:i=L.length:=by omega);subst ei;obtain⟨b,hb,rfl,hbT,hTn⟩:=HEN.out best HBE.out;obtain⟨g,o,rfl,hpb⟩:=HRD.out b hb;have HTS:=gH (Wd.taken_step (T:=T) HI.out HU.out hb);have hcu:=hflw.cell hb;have hfz:wr.frozen? ⟨gu,b,none⟩=false:=gF hflw;have HF6:=gH (hflw.set (b:=b));have hK6:Keeps (fun k=>k=gu) wr (wr.setCell ⟨gu,b,none⟩ (.bool true)):=⟨rfl,rfl,rfl,by simp,fun j hj hn=>Below.heap_setCell _ _ _ _ hn⟩;have hO6:Own (wr.setCell ⟨gu,b,none⟩ (.bool true)) B (.slice av n cv) T:=(HO.out.below hbi).keeps hK6 (fun g hg e=>by
       have h1:=HO.out.ge hg;have h3:g=gu:=e;omega)
      have hB6:Below gu w1 (wr.setCell ⟨gu,b,none⟩ (.bool true)):=(HB.out.trans (hbi.mono (by omega))).trans ⟨rfl,rfl,rfl,by simp,fun j hj=>Below.heap_setCell _ _ _ _ (show j≠gu from fun e=>by omega)⟩;(have hz6:(wr.setCell ⟨gu,b,none⟩ (.bool true)).heap.size=wr.heap.size:=by simp);have hp6:=hpb (wr.setCell ⟨gu,b,none⟩ (.bool true)) (HB1.out.trans (hB6.mono (by omega)));(have hb0:(0:Int)<=(b:Int):=by omega);(have hb1:(b:Int)< (L.length:Int):=by omega);have hwb:IntKind.i64.wrap (b:Int)=(b:Int):=gj _ (by omega) (by omega);(have htb:((b:Int)).toNat=b:=by omega);have hnn:n+1<=L.length:=h2;clear hflw hbi hBw hK6 hpb hbT;(go_upto_region 32 with fail);generalize wr.setCell ⟨gu,b,none⟩ (.bool true)=w6 at*;(have hTl:T.length=n:=by rw[<-HTE.out,List.length_take];omega);obtain⟨v1,w7,hap1,ho1,hg1,hf1⟩:=oW L[b] hO6 (by omega) (by omega);have HO7:=gS (Own w7 B v1 ((Wd.sortN qx qy L).take (n+1))) (by rw[hTn];exact ho1);have HU7:=gS (∀j,(h:j<L.length)->((if j=b then true else U j)=true↔L[j]∈(Wd.sortN qx qy L).take (n+1))) (by rw[hTn];exact HTS.out);(have hgb:∀j,j<B->some j≠(Value.slice av n cv).ownBlock:=fun j hj e=>by have:=hO6.ge e.symm;omega);have HF7:=gS (Flags w7 gu L.length (fun j=>if j=b then true else U j)) ((hg1.block gu (by omega) (hgb gu (by omega))).trans HF6.out);have HB7:=gS (Below gu w1 w7) (hB6.trans ⟨hg1.os,hg1.tape,hg1.output,hg1.size,fun j hj=>hg1.block j (by omega) (hgb j (by omega))⟩);have hB7:B<=w7.heap.size:=Nat.le_trans (by omega) hg1.size;generalize L[b]=pp at*;obtain⟨pi,px,py⟩:=pp;obtain⟨p0,p1,p2⟩:=hp6;have hap1':(Builtin.append_ #[27,27] 27 #[.slice av n cv,.slice (some ⟨w6.heap.size,0,none⟩) 1 1]).run Tryz.prog (w6.alloc (.cells #[I pi,I px,I py] 36))=.ok v1 w7:=hap1;clear hap1 ho1 hg1 hf1 hO6 hB6 hgb hTn HF6 HTS hz6 hTl;(go_wp2_with (at_builtin;refine Lib.wpList_append_run _ rfl (.tmp 155) (.tmp 160) 27 27 rfl _ _ rfl rfl _ _ hap1' ?_));go_roundg (L.length-(n+1))
      case measure=>have:=HGK.out;omega
      case rel=>exact⟨n+1,_,rfl,hnn,by omega,HO7.out,HF7.out,HU7.out,HB7.out,hB7⟩
   ·(have h2':¬(n:Int)< (L.length:Int):=by omega);have HRES:=gS (Own wr w.heap.size (.slice av n cv) res) (by
     have h:=HO.out;rw[HAN.out];rw[List.take_of_length_le (by omega)] at h⊢;exact Gs h (by omega))
    have HFB:=gS (Below w.heap.size w wr) (HB1.out.trans (hb.mono (by omega)));clear hb;(go_wp2_with fail);go_ret;exact⟨_,rfl,HRES.out,HFB.out⟩
  ·have HRES:=gS (Own wr w.heap.size (.slice av n cv) res) (by
    have h:=HO.out;(have e:qk.toNat=n:=by omega);rw[HAN.out,e];exact Gs h (by omega))
   have HFB:=gS (Below w.heap.size w wr) (HB1.out.trans (hb.mono (by omega)));clear hb;(go_wp2_with fail);go_ret;exact⟨_,rfl,HRES.out,HFB.out⟩
end Go.Proofs.YtenaelkbgkpllaaGreatDoor
