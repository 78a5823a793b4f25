/- Part 20 of what the four laws rest on: laid by a program out of the texts of wip/T. -/
import Derived.Test.YtenaelkbgkpllaaGreatDoorLaw19
import Derived.Deep.RegionHeld
import Derived.OrdersHeld
set_option maxRecDepth 100000
set_option maxHeartbeats 8000000
namespace Go.Proofs.YtenaelkbgkpllaaGreatDoor
open Go.RowKit
theorem RMap.cell{w:World}{r:Nat}{u:Value}{L:List Wd.Pt}(h:RMap w r u L):w.cell? ⟨r,0,none⟩=some u:=by rw[gC h.row];rfl
theorem RMap.below{w w':World}{r:Nat}{u:Value}{L:List Wd.Pt}(h:RMap w r u L)(hb:Below w.heap.size w w'):RMap w' r u L:=h.keeps (S:=fun _=>False) (Keeps.of_below hb) (fun _ _ h=>h)
theorem RMap.slice{w:World}{r:Nat}{u:Value}{L:List Wd.Pt}(h:RMap w r u L):∃a c,u=.slice a L.length c:=by obtain⟨a,c,rfl,_⟩:=h.own.reads;exact⟨a,c,rfl⟩
theorem Ge{w:World}{B:Nat}{v:Value}{l:List Wd.Pt}(T:List Wd.Pt)(g o c:Nat)(hown:Own w B v l)(hB:B<=w.heap.size)(hn:l.length+T.length<=100000)(hT:∀j,(h:j<T.length)->PtAt w g (o+j*3) T[j]):
  ∃v' w',(Builtin.append_ #[27,27] 27 #[v,.slice (some ⟨g,o,none⟩) T.length c]).run Tryz.prog w=.ok v' w'/\Own w' B v' (l++T)/\w.grownBy w' v.ownBlock/\Fresh w v v':=by
 obtain⟨i0,hi0,hz0,hz1,hz2⟩:=info_parts Tryz.infoPt
 obtain⟨v',w',hr,ho,hg,hf⟩:=oC (P:=Tryz.prog) w B 27 27 36 i0 (.agg #[I 0,I 0,I 0]) 3 24 Tryz.underlying27 hi0 hz0 hz1 hz2 rfl (by decide) v l.length (l.flatMap P3) hown ⟨g,o,none⟩ T.length c (T.flatMap P3) (by rw[gQ])
  (fun j u hj=>by
   have hjl:j<T.length*3:=by
    have:=(List.getElem?_eq_some_iff.1 hj).1
    rwa [gQ] at this
   (have hi:j/3<T.length:=by omega);obtain⟨h0,h1,h2⟩:=P3_at T (j/3) hi;obtain⟨k0,k1,k2⟩:=hT (j/3) hi;rw[Addr.add_lit];(have e3:j=j/3*3\/j=j/3*3+1\/j=j/3*3+2:=by omega);generalize j/3=i at*;rcases e3 with e3|e3|e3
   ·rw[e3] at hj⊢;rw[h0] at hj;rw[<-hj];exact k0
   ·rw[e3] at hj⊢;rw[h1] at hj;rw[<-hj];exact k1
   ·rw[e3] at hj⊢;rw[h2] at hj;rw[<-hj];exact k2)
  (fun u hu=>oM u hu) (by unfold maxLen;omega) (by omega) hB
 refine⟨v',w',hr,?_,hg,hf⟩;unfold Own;rw[List.length_append,List.flatMap_append];exact ho
theorem append_none{w:World}{g n cap:Nat}(hc:n<=cap):(Builtin.append_ #[27,27] 27 #[.slice (some ⟨g,0,none⟩) n cap,.slice none 0 0]).run Tryz.prog w=.ok (.slice (some ⟨g,0,none⟩) n cap) w:=by obtain⟨i0,hi0,hz0,hz1,hz2⟩:=info_parts Tryz.infoPt;simp[Builtin.append_,run_underlying Tryz.underlying27,sizeOf,typeInfo,hi0,Builtin.lenOf,hc,run_firstCells_none,storeCells]
theorem GB(r:Nat)(u:Value)(K:List Wd.Pt)(id:Int)(w:World)(hm:RMap w r u K)(hl:K.length<=1000):
  Calls Tryz.prog 92 #[.pointer (some ⟨r,0,none⟩),I id] w fun e w'=>(∃x,e=.returned (I x)/\Place id K x)/\w'=w:=by
 have hc:=hm.cell;obtain⟨a,c,rfl,hrd⟩:=hm.own.reads;have HRD:=gH hrd;clear hm hrd;go_enter Tryz.func92,Tryz.ntmps92
 go_wp2_with fail
 go_loopw [5] (fun iv wq=>∃i:Nat,i<=K.length/\iv=.int .i64 i/\(∀j,(h:j<K.length)->j<i->K[j].id≠id)/\wq=w) (fun iv _=>K.length-(intOf iv).toNat)
 case atStart=>exact⟨0,by omega,rfl,fun j _ h=>absurd h (by omega),rfl⟩
 case round=>
  obtain⟨i,hi,rfl,hno,rfl⟩:=hrel;have HNO:=gH hno;clear hno;by_cases hlt:i<K.length
  ·obtain⟨g,o,rfl,hp⟩:=HRD.out (fun e=>by subst e;simp at hlt);have hpi:=(hp i hlt).1;have HX:=gH (fun(h:K[i].id=id)=>show Place id K i from .inr ⟨i,hlt,rfl,h⟩);have HN:=gH (fun(h:K[i].id≠id) j (hj:j<K.length) (hji:j<i+1)=>show K[j].id≠id from by
    by_cases e:j=i
    ·subst e;exact h
    ·exact HNO.out j hj (by omega))
   generalize K[i].id=qi at*;clear hp;by_cases e:qi=id
   ·(go_wp2_with fail);go_ret;exact⟨⟨i,rfl,HX.out e⟩,rfl⟩
   ·(go_wp2_with fail);go_roundw
    case rel=>exact⟨i+1,hlt,by go_num,HN.out e,trivial⟩
    case measure=>simp[intOf];omega
  ·(go_wp2_with fail);go_ret;refine⟨⟨-1,rfl,.inl ⟨rfl,fun q hq e=>?_⟩⟩,rfl⟩;obtain⟨j,hj,rfl⟩:=List.getElem_of_mem hq;exact HNO.out j hj (by omega) e
def InsertedR(w:World)(r:Nat)(u:Value)(L:List Wd.Pt)(c:Int)(e:Ending)(w':World):Prop:=e=.returned (I c)/\∃u',RMap w' r u' L/\FreshR w u u'/\Keeps (Mine r u) w w'
theorem InsertedR.none{w w':World}{r:Nat}{u:Value}{L:List Wd.Pt}{c:Int}(h:RMap w r u L)(hb:Below w.heap.size w w'):InsertedR w r u L c (.returned (I c)) w':=⟨rfl,u,h.keeps (S:=fun _=>False) (Keeps.of_below hb) (fun _ _ h=>h),fun _ h=> .inl h,Keeps.of_below hb⟩
theorem own_low{w:World}{B:Nat}{v:Value}{L:List Wd.Pt}(h:Own w B v L):Own w 0 v L:=by
 refine⟨h.1,?_⟩;rcases h.2 with h0| ⟨g,cap,cur,e,_,r⟩
 ·exact .inl h0
 ·exact .inr ⟨g,cap,cur,e,Nat.zero_le _,r⟩
theorem za{w w2:World}{r:Nat}{u v2:Value}{K L:List Wd.Pt}(c:Int)(hM:RMap w r u K)(hb:Below w.heap.size w w2)(ho:Own w2 w.heap.size v2 L):InsertedR w r u L c (.returned (I c)) (w2.setCell ⟨r,0,none⟩ v2):=by
 have hr:=hM.lt;have hrow:=(hb.block r hr).trans hM.row;have k1:Keeps (fun j=>j=r) w2 (w2.setCell ⟨r,0,none⟩ v2):=⟨rfl,rfl,rfl,by simp,fun j _ hj=>heap_setCell_other w2 ⟨r,0,none⟩ j v2 hj⟩;have hap:∀g,v2.ownBlock=some g->w.heap.size<=g:=fun g hg=>ho.ge hg;refine⟨rfl,v2,⟨?_,?_,fun e=>by have:=hap r e;omega⟩,fun k hk=> .inr (hap k hk),(Keeps.of_below hb).trans k1 (fun j _ e=> .inl e)⟩
 ·rw[gZ hrow];rfl
 ·exact own_low (ho.keeps k1 (fun g hg e=>by have:=hap g hg;omega))
section
variable (r : Nat) (u : Value) (K : List Wd.Pt) (pi px py : Int) (w : World)
theorem rinsert_id(hm:RMap w r u K)(h1:¬(1<=pi/\pi<=1000000)):
  Calls Tryz.prog 56 #[.pointer (some ⟨r,0,none⟩),.agg #[I pi,I px,I py]] w fun e w'=>InsertedR w r u K 1 e w':=by
 have HM:=gH hm;clear hm;by_cases h2:pi<1
 ·go_enter Tryz.func56,Tryz.ntmps56
  go_wp2_with (first| (go_at_call_of 91 (I px);refine(gY px _).mono ?_;rintro _ _⟨rfl,rfl⟩)| (go_at_call_of 91 (I py);refine(gY py _).mono ?_;rintro _ _⟨rfl,rfl⟩))
  go_ret;exact InsertedR.none HM.out (gB w _)
 ·have h3:1000000<pi:=by omega
  go_enter Tryz.func56,Tryz.ntmps56
  go_wp2_with (first| (go_at_call_of 91 (I px);refine(gY px _).mono ?_;rintro _ _⟨rfl,rfl⟩)| (go_at_call_of 91 (I py);refine(gY py _).mono ?_;rintro _ _⟨rfl,rfl⟩))
  go_ret;exact InsertedR.none HM.out (gB w _)
theorem rinsert_xy(hm:RMap w r u K)(h1:1<=pi)(h1':pi<=1000000)(h2:Wd.coordOk px=false\/Wd.coordOk py=false):
  Calls Tryz.prog 56 #[.pointer (some ⟨r,0,none⟩),.agg #[I pi,I px,I py]] w fun e w'=>InsertedR w r u K 2 e w':=by
 have HM:=gH hm;clear hm;cases hx:Wd.coordOk px with
 |false=>
  go_enter Tryz.func56,Tryz.ntmps56
  go_wp2_with (first| (go_at_call_of 91 (I px);refine(gY px _).mono ?_;rintro _ _⟨rfl,rfl⟩)| (go_at_call_of 91 (I py);refine(gY py _).mono ?_;rintro _ _⟨rfl,rfl⟩))
  go_ret;exact InsertedR.none HM.out (gB w _)
 |true=>
  have hy:Wd.coordOk py=false:=by
   rcases h2 with h2|h2
   ·rw[hx] at h2;cases h2
   ·exact h2
  clear h2;go_enter Tryz.func56,Tryz.ntmps56
  go_wp2_with (first| (go_at_call_of 91 (I px);refine(gY px _).mono ?_;rintro _ _⟨rfl,rfl⟩)| (go_at_call_of 91 (I py);refine(gY py _).mono ?_;rintro _ _⟨rfl,rfl⟩))
  go_ret;exact InsertedR.none HM.out (gB w _)
theorem rinsert_taken(hm:RMap w r u K)(hl:K.length<=1000)(h1:1<=pi)(h1':pi<=1000000)(hx:Wd.coordOk px=true)(hy:Wd.coordOk py=true)(h4:∃q∈K,q.id=pi):
  Calls Tryz.prog 56 #[.pointer (some ⟨r,0,none⟩),.agg #[I pi,I px,I py]] w fun e w'=>InsertedR w r u K 3 e w':=by
 have HM:=gH hm;have HP:=gH (fun o=>GB r u K pi (w.alloc o) (hm.below (gB w _)) hl);clear hm;go_enter Tryz.func56,Tryz.ntmps56
 go_wp2_with (first| (go_at_call_of 91 (I px);refine(gY px _).mono ?_;rintro _ _⟨rfl,rfl⟩)| (go_at_call_of 91 (I py);refine(gY py _).mono ?_;rintro _ _⟨rfl,rfl⟩)| (go_at_call 92;refine(HP.out _).mono ?_;rintro _ _⟨⟨x,rfl,hpl⟩,rfl⟩;have hx0:=place_yes hpl h4))
 go_ret;exact InsertedR.none HM.out (gB w _)
theorem rinsert_limit(hm:RMap w r u K)(hl:K.length<=1000)(h1:1<=pi)(h1':pi<=1000000)(hx:Wd.coordOk px=true)(hy:Wd.coordOk py=true)(h4:¬∃q∈K,q.id=pi)(h5:150<=K.length):
  Calls Tryz.prog 56 #[.pointer (some ⟨r,0,none⟩),.agg #[I pi,I px,I py]] w fun e w'=>InsertedR w r u K 5 e w':=by
 have HM:=gH hm;have HP:=gH (fun o=>GB r u K pi (w.alloc o) (hm.below (gB w _)) hl);obtain⟨a,c,rfl⟩:=hm.slice;have hcm:=fun o=>(hm.below (gB w o)).cell;clear hm;go_enter Tryz.func56,Tryz.ntmps56
 go_wp2_with (first| (go_at_call_of 91 (I px);refine(gY px _).mono ?_;rintro _ _⟨rfl,rfl⟩)| (go_at_call_of 91 (I py);refine(gY py _).mono ?_;rintro _ _⟨rfl,rfl⟩)| (go_at_call 92;refine(HP.out _).mono ?_;rintro _ _⟨⟨x,rfl,hpl⟩,rfl⟩;have hx0:=GC hpl h4;subst hx0))
 go_ret;exact InsertedR.none HM.out (gB w _)
end
def RdPt(W:World)(r g o k:Nat)(u:Value)(q p:Wd.Pt):Prop:=W.cell? ⟨r,0,none⟩=some u/\(W.cell? ⟨g,o,none⟩=some (I q.id)/\W.cell? ⟨g,o+1,none⟩=some (I q.x)/\W.cell? ⟨g,o+2,none⟩=some (I q.y))/\W.cell? ⟨k,0,none⟩=some (I p.id)/\W.cell? ⟨k,1,none⟩=some (I p.x)/\W.cell? ⟨k,2,none⟩=some (I p.y)
theorem RdPt.below{W W':World}{r g o k B:Nat}{u:Value}{q p:Wd.Pt}(h:RdPt W r g o k u q p)(hb:Below B W W')(hr:r<B)(hg:g<B)(hk:k<B):RdPt W' r g o k u q p:=by obtain⟨h0,⟨q0,q1,q2⟩,p0,p1,p2⟩:=h;exact⟨(hb.cell (p:=⟨r,0,none⟩) hr).trans h0,⟨(hb.cell (p:=⟨g,_,none⟩) hg).trans q0,(hb.cell (p:=⟨g,_,none⟩) hg).trans q1,(hb.cell (p:=⟨g,_,none⟩) hg).trans q2⟩,(hb.cell (p:=⟨k,_,none⟩) hk).trans p0,(hb.cell (p:=⟨k,_,none⟩) hk).trans p1,(hb.cell (p:=⟨k,_,none⟩) hk).trans p2⟩
theorem RdPt.drew{W:World}{r g o k:Nat}{u:Value}{q p:Wd.Pt}(h:RdPt W r g o k u q p):RdPt W.drew r g o k u q p:=by simpa[RdPt] using h
theorem rinsert_in(r:Nat)(u:Value)(K:List Wd.Pt)(pi px py:Int)(w:World)(hm:RMap w r u K)(hl:K.length<=1000)(h1:1<=pi)(h1':pi<=1000000)(hx:Wd.coordOk px=true)(hy:Wd.coordOk py=true)(h4:¬∃q∈K,q.id=pi)(h5:K.length<150)(hS:Wd.Sorted K):
  Calls Tryz.prog 56 #[.pointer (some ⟨r,0,none⟩),.agg #[I pi,I px,I py]] w fun e w'=>InsertedR w r u (Wd.ins ⟨pi,px,py⟩ K) 0 e w':=by
 have HM:=gH hm;have HP:=gH (fun o=>GB r u K pi (w.alloc o) (hm.below (gB w _)) hl);have HRD:=gH hm.own.reads;have hrlt:=hm.lt;obtain⟨a,c,rfl⟩:=hm.slice;have hcm:=fun o=>(hm.below (gB w o)).cell;have hrow':=heap_alloc_new w;have hb':=gB w;have HSo:=gH hS;have hd1:decide (pi<1)=false:=decide_eq_false (by omega);have hd2:decide (1000000<pi)=false:=decide_eq_false (by omega);have hd3:decide ((150:Int)<=(K.length:Int))=false:=decide_eq_false (by omega);have HOWN:=gS ((Value.slice a K.length c=.slice none 0 0/\K.length=0)\/∃g cap,Value.slice a K.length c=.slice (some ⟨g,0,none⟩) K.length cap/\K.length<=cap) (by
  rcases hm.own.2 with h| ⟨g',cap',cur',e',_,_,hcc,_⟩
  ·exact .inl h
  ·exact .inr ⟨g',cap',e',hcc⟩)
 have HCAP:=gS (K=[]\/K.length<=c) (by
  rcases hm.own.2 with⟨_,h0⟩| ⟨g',cap',cur',e',_,_,hcc,_⟩
  ·exact .inl (List.length_eq_zero_iff.1 h0)
  ·injection e' with _ _ e';subst e';exact .inr hcc)
 clear hm hS;go_enter Tryz.func56,Tryz.ntmps56
 go_upto_region 13 with(first| (go_at_call_of 91 (I px);refine(gY px _).mono ?_;rintro _ _⟨rfl,rfl⟩)| (go_at_call_of 91 (I py);refine(gY py _).mono ?_;rintro _ _⟨rfl,rfl⟩)| (go_at_call 92;refine(HP.out _).mono ?_;rintro _ _⟨⟨x,rfl,hpl⟩,rfl⟩;have hx0:=GC hpl h4;subst hx0))
 generalize hW:World.alloc w _=w1;have HR1:=gS (w1.heap[w.heap.size]? =some (.cells #[I pi,I px,I py] 36 (0,0))) (by rw[<-hW];exact hrow' _);have HB1:=gS (Below w.heap.size w w1) (by rw[<-hW];exact hb' _);have hs1:w.heap.size+1<=w1.heap.size:=by rw[<-hW];simp
 clear hW hrow' hb' hcm HP hpl h1 h1' hx hy h4 hd1 hd2 hd3;go_loopw [7,8] (fun v7 v8 wq=>∃i:Nat,i<=K.length/\v8=.int .i64 i/\Own wq (w.heap.size+1) v7 (K.take i)/\(∀j,(h:j<K.length)->j<i->Wd.lt K[j] ⟨pi,px,py⟩)/\wq.heap[w.heap.size]? =some (.cells #[I pi,I px,I py] 36 (0,0))/\Below w.heap.size w wq/\w.heap.size+1<=wq.heap.size) (fun _ v8 _=>K.length-(intOf v8).toNat)
 case atStart=>exact⟨0,by omega,rfl,World.ownsRow_nil _ _ _ _,fun j _ h=>absurd h (by omega),HR1.out,HB1.out,hs1⟩
 case round=>
  clear HR1 HB1 hs1;obtain⟨i,hi,rfl,hown,hlow,hrow,hb,hsz⟩:=hrel;obtain⟨av,cv,rfl⟩:=hown.slice;have HO:=gH hown;have HLO:=gH hlow;have HRO:=gH hrow;have HB:=gH hb;have hcr:=(HM.out.below hb).cell;have hpt:=row3 hrow;have hlen:(K.take i).length=i:=by rw[List.length_take];omega
  rw[hlen];clear hown hlow hb hrow hlen;by_cases hlt:i<K.length
  ·obtain⟨a0,c0,e0,hp⟩:=HRD.out;obtain⟨g,o,rfl,hpp⟩:=hp (fun e=>by subst e;simp at hlt);injection e0 with e1 e2 e3;subst e1;clear e2 e3;have hq0:=(hpp i hlt).below HB.out (hpp i hlt).lt;have hg0:g<wr.heap.size:=hq0.lt;have hrr:r<wr.heap.size:=block_lt_of_cell hcr;have HX:=gH (fun(h:Wd.lt K[i] ⟨pi,px,py⟩) j (hj:j<K.length) (hji:j<i+1)=>show Wd.lt K[j] ⟨pi,px,py⟩ from by
    by_cases e:j=i
    ·subst e;exact h
    ·exact HLO.out j hj (by omega))
   have HTK:=gS (K.take (i+1)=K.take i++[K[i]]) (List.take_succ_eq_append_getElem hlt);have HHI:=gH (fun(h:¬Wd.lt K[i] ⟨pi,px,py⟩)=>show Wd.Parts ⟨pi,px,py⟩ K i from⟨hi,HLO.out,fun j hj hij=>by
    by_cases e:i=j
    ·subst e;exact h
    ·exact fun k=>h (Wd.lt_trans ((List.pairwise_iff_getElem.1 HSo.out) i j hlt hj (by omega)) k)⟩)
   obtain⟨q,hqe⟩:∃q,K[i]=q:=⟨_,rfl⟩;rw[hqe] at hq0 HX HTK HHI;clear hqe hpp hp;have hS:RdPt wr r g (o+i*3) w.heap.size (.slice (some ⟨g,o,none⟩) K.length c) q ⟨pi,px,py⟩:=⟨hcr,hq0,hpt⟩;(have hwr:w.heap.size<wr.heap.size:=by omega);have HBF:=gH (fun W=>before_ref q ⟨pi,px,py⟩ W);obtain⟨qi,qx,qy⟩:=q;(go_upto_region 14 with fail);go_cut [9] from 52 to 60 (fun v9 wx=>v9=.bool (decide (Wd.lt ⟨qi,qx,qy⟩ ⟨pi,px,py⟩))/\Below wr.heap.size wr wx)
   case first=>obtain⟨s0,⟨s1,s2,s3⟩,s4,s5,s6⟩:=id hS;(go_region_held3 (fun W=>W.cell? ⟨r,0,none⟩=some (.slice (some ⟨g,o,none⟩) K.length c)/\(W.cell? ⟨g,o+i*3,none⟩=some (I qi)/\W.cell? ⟨g,o+i*3+1,none⟩=some (I qx)/\W.cell? ⟨g,o+i*3+2,none⟩=some (I qy))/\W.cell? ⟨w.heap.size,0,none⟩=some (I pi)/\W.cell? ⟨w.heap.size,1,none⟩=some (I px)/\W.cell? ⟨w.heap.size,2,none⟩=some (I py)) (first|assumption|exact hS|exact hS.drew|exact hS6) ((go_at_call 93;refine(HBF.out _).mono ?_;rintro _ w6⟨rfl,hb6⟩;have hS6:=hS.drew.below hb6 (by simpa using hrr) (by simpa using hg0) (by simpa using hwr);have hB6:Below wr.heap.size wr w6:=(show Below wr.heap.size wr wr.drew from(Below.refl _ _).drew).trans hb6)));all_goals (go_wp2_with fail);go_meet;exact⟨rfl,hB6⟩
   case rest=>
    obtain⟨rfl,hbc⟩:=hcut;generalize wc=w5 at*;have HOc:=gH (HO.out.below hbc);have HBc:=gH (HB.out.trans (hbc.mono (show w.heap.size<=wr.heap.size by omega)));have HROc:=gH ((hbc.block w.heap.size (by omega)).trans HRO.out);have hszc:w.heap.size+1<=w5.heap.size:=Nat.le_trans hsz hbc.size;(have hlen:(K.take i).length=i:=by rw[List.length_take];omega);have hcrc:=(HM.out.below HBc.out).cell;have hqc:PtAt w5 g (o+i*3) ⟨qi,qx,qy⟩:=PtAt.block hq0 (hbc.block g hg0);clear hcr hpt hS HO HB HRO hbc hq0;by_cases hq:Wd.lt ⟨qi,qx,qy⟩ ⟨pi,px,py⟩
    ·rw[decide_eq_true hq];obtain⟨v1,w1,hap1,ho1,hg1,hf1⟩:=oW ⟨qi,qx,qy⟩ HOc.out hszc (by rw[List.length_take];omega);rw[hlen] at hap1;have hap1':(Builtin.append_ #[27,27] 27 #[.slice av i cv,.slice (some ⟨w5.heap.size,0,none⟩) 1 1]).run Tryz.prog (w5.alloc (.cells #[I qi,I qx,I qy] 36))=.ok v1 w1:=hap1;have hb1:Below (w.heap.size+1) w5 w1:=⟨hg1.os,hg1.tape,hg1.output,hg1.size,fun j hj=>hg1.block j (by omega) (fun e=>by have:=HOc.out.ge e.symm;omega)⟩;have HO1:=gS (Own w1 (w.heap.size+1) v1 (K.take (i+1))) (by rw[HTK.out];exact ho1);have HRO1:=gH ((hb1.block w.heap.size (by omega)).trans HROc.out);have HB1:=gS (Below w.heap.size w w1) (HBc.out.trans (hb1.mono (by omega)));have hs1:w.heap.size+1<=w1.heap.size:=Nat.le_trans hszc hb1.size;obtain⟨q0,q1,q2⟩:=hqc;have HS1:=gH hs1;clear hap1 ho1 hg1 hf1 hb1 hlen hs1;(go_wp2_with (at_builtin;refine Lib.wpList_append_run _ rfl (.tmp 63) (.tmp 71) 27 27 rfl _ _ rfl rfl _ _ hap1' ?_));go_roundw
     case rel=>exact⟨i+1,hlt,by go_num,HO1.out,HX.out hq,HRO1.out,HB1.out,HS1.out⟩
     case measure=>simp[intOf];omega
    ·rw[decide_eq_false hq];have HPA:=gH (HHI.out hq);have hcap:i<c:=by
      rcases HCAP.out with h|h
      ·subst h;simp at hlt
      ·omega
     obtain⟨v1,w1,hap1,ho1,hg1,hf1⟩:=oW ⟨pi,px,py⟩ HOc.out hszc (by rw[List.length_take];omega);rw[hlen] at hap1;have hap1':(Builtin.append_ #[27,27] 27 #[.slice av i cv,.slice (some ⟨w5.heap.size,0,none⟩) 1 1]).run Tryz.prog (w5.alloc (.cells #[I pi,I px,I py] 36))=.ok v1 w1:=hap1;have hb1:Below (w.heap.size+1) w5 w1:=⟨hg1.os,hg1.tape,hg1.output,hg1.size,fun j hj=>hg1.block j (by omega) (fun e=>by have:=HOc.out.ge e.symm;omega)⟩;have hbw1:Below w.heap.size w w1:=HBc.out.trans (hb1.mono (by omega));have hM1:=HM.out.below hbw1;have hcr1:=hM1.cell;obtain⟨p0,p1,p2⟩:=row3 HROc.out;have hs1:w.heap.size+1<=w1.heap.size:=Nat.le_trans hszc hb1.size;have hfz:w1.frozen? ⟨r,0,none⟩=false:=gF hM1.row;obtain⟨a0,c0,e0,hp⟩:=HRD.out;obtain⟨g9,o9,e9,hpp⟩:=hp (fun e=>by subst e;simp at hlt);injection e0 with e1 e2 e3;rw[e9] at e1;injection e1 with e1;injection e1 with e4 e5;subst e4 e5;clear e2 e3 e9;have hdl:(K.drop i).length=K.length-i:=List.length_drop;obtain⟨v2,w2,hap2,ho2,hg2,hf2⟩:=Ge (K.drop i) g (o+i*3) (c-i) ho1 hs1 (by rw[List.length_append,List.length_take,List.length_drop];simp;omega) (fun j hj=>by rw[List.length_drop] at hj;have h:=hpp (i+j) (by omega);rw[List.getElem_drop,show o+i*3+j*3=o+(i+j)*3 by omega];exact h.below hbw1 h.lt);rw[hdl] at hap2;obtain⟨a2,c2,ev2⟩:=ho2.slice;generalize (K.take i++[(⟨pi,px,py⟩:Wd.Pt)]++K.drop i).length=n2 at ev2;subst ev2;have hb2:Below (w.heap.size+1) w1 w2:=⟨hg2.os,hg2.tape,hg2.output,hg2.size,fun j hj=>hg2.block j (by omega) (fun e=>by have:=ho1.ge e.symm;omega)⟩;have hbw2:Below w.heap.size w w2:=hbw1.trans (hb2.mono (by omega));have HFIN:=gH (za (L:=Wd.ins ⟨pi,px,py⟩ K) 0 HM.out hbw2 (by
      (have e:K.take i++[⟨pi,px,py⟩]++K.drop i=Wd.ins ⟨pi,px,py⟩ K:=by rw[HPA.out.ins];simp);rw[<-e];refine⟨ho2.1,?_⟩;rcases ho2.2 with h0| ⟨g',cap',cur',e',hB',r'⟩
      ·exact .inl h0
      ·exact .inr ⟨g',cap',cur',e',by omega,r'⟩))
     have hcr2:=(HM.out.below hbw2).cell;have hfz2:w2.frozen? ⟨r,0,none⟩=false:=gF (HM.out.below hbw2).row;clear hap1 ho1 hg1 hf1 hb1 hlen ho2 hg2 hf2 hb2 hbw1 hbw2 hM1 hpp hp hqc;(go_wp2_with (first| (at_builtin;refine Lib.wpList_append_run _ rfl (.tmp 75) (.tmp 77) 27 27 rfl _ _ rfl rfl _ _ hap1' ?_)| (at_builtin;refine Lib.wpList_append_run _ rfl (.tmp 80) (.tmp 86) 27 27 rfl _ _ rfl rfl _ _ hap2 ?_)));go_ret;exact HFIN.out
  ·(have ei:i=K.length:=by omega);have HPA:=gS (Wd.Parts ⟨pi,px,py⟩ K i) (⟨hi,HLO.out,fun j hj hij=>absurd hj (by omega)⟩);have HKA:=gS (K.take i=K) (List.take_of_length_le (by omega));obtain⟨v1,w1,hap1,ho1,hg1,hf1⟩:=oW ⟨pi,px,py⟩ HO.out hsz (by rw[List.length_take];omega);(have hlen:(K.take i).length=i:=by rw[List.length_take];omega);rw[hlen] at hap1;have hap1':(Builtin.append_ #[27,27] 27 #[.slice av i cv,.slice (some ⟨wr.heap.size,0,none⟩) 1 1]).run Tryz.prog (wr.alloc (.cells #[I pi,I px,I py] 36))=.ok v1 w1:=hap1;have hb1:Below (w.heap.size+1) wr w1:=⟨hg1.os,hg1.tape,hg1.output,hg1.size,fun j hj=>hg1.block j (by omega) (fun e=>by have:=HO.out.ge e.symm;omega)⟩;have hbw1:Below w.heap.size w w1:=HB.out.trans (hb1.mono (by omega));have hM1:=HM.out.below hbw1;have hcr1:=hM1.cell;obtain⟨p0,p1,p2⟩:=row3 HRO.out;have hs1:w.heap.size+1<=w1.heap.size:=Nat.le_trans hsz hb1.size;have HFIN:=gH (fun(v2:Value) (w2:World) (hb2:Below (w.heap.size+1) w1 w2) (ho2:Own w2 (w.heap.size+1) v2 (K.take i++[⟨pi,px,py⟩]))=>za (L:=Wd.ins ⟨pi,px,py⟩ K) 0 HM.out (hbw1.trans (hb2.mono (by omega))) (by
    (have e:K.take i++[⟨pi,px,py⟩]=Wd.ins ⟨pi,px,py⟩ K:=by rw[HPA.out.ins,List.drop_eq_nil_of_le (by omega)]);rw[<-e];refine⟨ho2.1,?_⟩;rcases ho2.2 with h0| ⟨g',cap',cur',e',hB',r'⟩
    ·exact .inl h0
    ·exact .inr ⟨g',cap',cur',e',by omega,r'⟩))
   have hfz:w1.frozen? ⟨r,0,none⟩=false:=gF hM1.row;have HAP:=gH (fun(g o:Nat) (cc:Nat)=>Ge (w:=w1) [] g o cc ho1 hs1 (by rw[List.length_append,List.length_take];simp;omega) (fun j hj=>absurd hj (by simp)));have HO1:=gH ho1;obtain⟨g1,cap1,ev1,hc1, -⟩:∃g1 cap1,v1=.slice (some ⟨g1,0,none⟩) (i+1) cap1/\i+1<=cap1/\True:=by
    (have hl1:(K.take i++[(⟨pi,px,py⟩:Wd.Pt)]).length=i+1:=by rw[List.length_append,hlen];rfl);rcases ho1.2 with⟨_,h0⟩| ⟨g',cap',cur',e',_,_,hcc,_⟩
    ·rw[hl1] at h0;cases h0
    ·rw[hl1] at e' hcc;exact⟨g',cap',e',hcc,trivial⟩
   subst ev1;have hap0:=append_none (w:=w1) (g:=g1) hc1;clear ho1 hg1 hf1 hap1 hM1 hlen;subst ei;rcases HOWN.out with⟨e,h0⟩| ⟨g,cap,e,hcc⟩
   ·injection e with e1 e2 e3;subst e1 e3;have HF:=gH (HFIN.out _ w1 (Below.refl _ _) HO1.out);have eK:K=[]:=List.length_eq_zero_iff.1 h0;clear HFIN HAP hb1 hbw1 HOWN HCAP HRD e2 h0 HLO;subst eK;(go_wp2_with (first| (at_builtin;refine Lib.wpList_append_run _ rfl (.tmp 75) (.tmp 77) 27 27 rfl _ _ rfl rfl _ _ hap1' ?_)| (at_builtin;refine Lib.wpList_append_run _ rfl (.tmp 80) (.tmp 86) 27 27 rfl _ _ rfl rfl _ _ hap0 ?_)));go_ret;exact HF.out
   ·injection e with e1 e2 e3;subst e1 e3;clear e2;by_cases hc:c=K.length
    ·obtain⟨v2,w2,hap2,ho2,hg2,hf2⟩:=HAP.out g 0 0;rw[List.append_nil] at ho2;obtain⟨a2,c2,ev2⟩:=ho2.slice;generalize (K.take K.length++[(⟨pi,px,py⟩:Wd.Pt)]).length=n2 at ev2;subst ev2;have hb2:Below (w.heap.size+1) w1 w2:=⟨hg2.os,hg2.tape,hg2.output,hg2.size,fun j hj=>hg2.block j (by omega) (fun e=>by have:=HO1.out.ge e.symm;omega)⟩;have HF:=gH (HFIN.out _ w2 hb2 ho2);have hbw2:Below w.heap.size w w2:=hbw1.trans (hb2.mono (by omega));have hcr2:=(HM.out.below hbw2).cell;have hfz2:w2.frozen? ⟨r,0,none⟩=false:=gF (HM.out.below hbw2).row;have hap2':(Builtin.append_ #[27,27] 27 #[.slice (some ⟨g1,0,none⟩) (K.length+1) cap1,.slice (some ⟨g,0,none⟩) 0 0]).run Tryz.prog w1=.ok (.slice a2 n2 c2) w2:=hap2;clear HFIN HAP hb1 hbw1 HOWN HCAP HRD HLO ho2 hg2 hf2 hb2 hbw2 hap2 hap0;(go_wp2_with (first| (at_builtin;refine Lib.wpList_append_run _ rfl (.tmp 75) (.tmp 77) 27 27 rfl _ _ rfl rfl _ _ hap1' ?_)| (at_builtin;refine Lib.wpList_append_run _ rfl (.tmp 80) (.tmp 86) 27 27 rfl _ _ rfl rfl _ _ hap2' ?_)));go_ret;exact HF.out
    ·obtain⟨v2,w2,hap2,ho2,hg2,hf2⟩:=HAP.out g (K.length*3) (c-K.length);rw[List.append_nil] at ho2;obtain⟨a2,c2,ev2⟩:=ho2.slice;generalize (K.take K.length++[(⟨pi,px,py⟩:Wd.Pt)]).length=n2 at ev2;subst ev2;have hb2:Below (w.heap.size+1) w1 w2:=⟨hg2.os,hg2.tape,hg2.output,hg2.size,fun j hj=>hg2.block j (by omega) (fun e=>by have:=HO1.out.ge e.symm;omega)⟩;have HF:=gH (HFIN.out _ w2 hb2 ho2);have hbw2:Below w.heap.size w w2:=hbw1.trans (hb2.mono (by omega));have hcr2:=(HM.out.below hbw2).cell;have hfz2:w2.frozen? ⟨r,0,none⟩=false:=gF (HM.out.below hbw2).row;have hap2':(Builtin.append_ #[27,27] 27 #[.slice (some ⟨g1,0,none⟩) (K.length+1) cap1,.slice (some ⟨g,K.length*3,none⟩) 0 (c-K.length)]).run Tryz.prog w1=.ok (.slice a2 n2 c2) w2:=hap2;(have hcc2:K.length<c:=by omega);clear HFIN HAP hb1 hbw1 HOWN HCAP HRD HLO ho2 hg2 hf2 hb2 hbw2 hap2 hap0 hc;(go_wp2_with (first| (at_builtin;refine Lib.wpList_append_run _ rfl (.tmp 75) (.tmp 77) 27 27 rfl _ _ rfl rfl _ _ hap1' ?_)| (at_builtin;refine Lib.wpList_append_run _ rfl (.tmp 80) (.tmp 86) 27 27 rfl _ _ rfl rfl _ _ hap2' ?_)));go_ret;exact HF.out
theorem insert_ref(r:Nat)(u:Value)(K:List Wd.Pt)(p:Wd.Pt)(w:World)(hm:RMap w r u K)(hG:Good K):
  Calls Tryz.prog 56 #[.pointer (some ⟨r,0,none⟩),.agg #[I p.id,I p.x,I p.y]] w fun e w'=>InsertedR w r u (insList K p) (insCode K p) e w':=by
 have hl:=hG.many;obtain⟨pi,px,py⟩:=p;have key:∀c,c≠0->insCode K ⟨pi,px,py⟩=c->(Calls Tryz.prog 56 #[.pointer (some ⟨r,0,none⟩),.agg #[I pi,I px,I py]] w fun e w'=>InsertedR w r u K c e w')->Calls Tryz.prog 56 #[.pointer (some ⟨r,0,none⟩),.agg #[I pi,I px,I py]] w fun e w'=>InsertedR w r u (insList K ⟨pi,px,py⟩) (insCode K ⟨pi,px,py⟩) e w':=by intro c hc e h;unfold insList;rw[e,if_neg hc];exact h
 by_cases h1:1<=pi/\pi<=1000000
 ·by_cases h2: -1000000<=px/\px<=1000000
  ·by_cases h3: -1000000<=py/\py<=1000000
   ·by_cases h4:∃q∈K,q.id=pi
    ·refine key 3 (by decide) (by unfold insCode;rw[if_neg (fun h=>h h1),if_neg (fun h=>h.elim (fun h=>h h2) (fun h=>h h3)),if_pos h4]) ?_;exact rinsert_taken r u K pi px py w hm (by omega) h1.1 h1.2 (Wd.gV h2) (Wd.gV h3) h4
    ·by_cases h5:150<=K.length
     ·refine key 5 (by decide) (by unfold insCode;rw[if_neg (fun h=>h h1),if_neg (fun h=>h.elim (fun h=>h h2) (fun h=>h h3)),if_neg h4,if_pos h5]) ?_;exact rinsert_limit r u K pi px py w hm (by omega) h1.1 h1.2 (Wd.gV h2) (Wd.gV h3) h4 h5
     ·(have hc:insCode K ⟨pi,px,py⟩=0:=by unfold insCode;rw[if_neg (fun h=>h h1),if_neg (fun h=>h.elim (fun h=>h h2) (fun h=>h h3)),if_neg h4,if_neg h5]);unfold insList;rw[hc,if_pos rfl];exact rinsert_in r u K pi px py w hm (by omega) h1.1 h1.2 (Wd.gV h2) (Wd.gV h3) h4 (by omega) hG.sorted
   ·refine key 2 (by decide) (by unfold insCode;rw[if_neg (fun h=>h h1),if_pos (.inr h3)]) ?_;exact rinsert_xy r u K pi px py w hm h1.1 h1.2 (.inr (Wd.ou h3))
  ·refine key 2 (by decide) (by unfold insCode;rw[if_neg (fun h=>h h1),if_pos (.inl h2)]) ?_;exact rinsert_xy r u K pi px py w hm h1.1 h1.2 (.inl (Wd.ou h2))
 ·refine key 1 (by decide) (by unfold insCode;rw[if_pos h1]) ?_;exact rinsert_id r u K pi px py w hm h1
theorem rdelete_no(r:Nat)(u:Value)(K:List Wd.Pt)(id:Int)(w:World)(hm:RMap w r u K)(hl:K.length<=1000)(h4:¬∃q∈K,q.id=id):
  Calls Tryz.prog 57 #[.pointer (some ⟨r,0,none⟩),I id] w fun e w'=>InsertedR w r u K 4 e w':=by
 have HM:=gH hm;have HP:=gH (GB r u K id w hm hl);clear hm;go_enter Tryz.func57,Tryz.ntmps57
 go_wp2_with (go_at_call 92;refine HP.out.mono ?_;rintro _ _⟨⟨x,rfl,hpl⟩,rfl⟩;have hx0:=GC hpl h4;subst hx0)
 go_ret;exact InsertedR.none HM.out (Below.refl _ _)
theorem rdelete_yes(r:Nat)(u:Value)(K:List Wd.Pt)(id:Int)(w:World)(hm:RMap w r u K)(hl:K.length<=1000)(h4:∃q∈K,q.id=id):
  Calls Tryz.prog 57 #[.pointer (some ⟨r,0,none⟩),I id] w fun e w'=>∃i,∃h:i<K.length,K[i].id=id/\InsertedR w r u (K.eraseIdx i) 0 e w':=by
 have HM:=gH hm;have HP:=gH (GB r u K id w hm hl);have hcm:=hm.cell;have hrlt:=hm.lt;obtain⟨g,c,e,hcc⟩:∃g cap,u=.slice (some ⟨g,0,none⟩) K.length cap/\K.length<=cap:=by
  rcases hm.own.2 with⟨_,h0⟩| ⟨g',cap',cur',e',_,_,hcc,_⟩
  ·obtain⟨q,hq,_⟩:=h4;rw[List.length_eq_zero_iff.1 h0] at hq;cases hq
  ·exact⟨g',cap',e',hcc⟩
 subst e;have HPT:=gS (∀j,(h:j<K.length)->PtAt w g (j*3) K[j]) (fun j hj=>by
  obtain⟨a0,c0,e0,hp⟩:=hm.own.reads;obtain⟨g9,o9,e9,hpp⟩:=hp (fun e=>by subst e;simp at hj);injection e0 with e1;rw[e9] at e1;injection e1 with e1;injection e1 with e4 e5;subst e4 e5;have:=hpp j hj
  rwa [Nat.zero_add] at this)
 clear hm;go_enter Tryz.func57,Tryz.ntmps57
 go_wp2_with fail
 refine HP.out.mono ?_;rintro _ w'⟨⟨x,rfl,hpl⟩,hw'⟩;have hw2:=hw'.symm;subst hw2;clear hw';rcases hpl with⟨_,hno⟩| ⟨i,hi,rfl,hid⟩
 ·obtain⟨q,hq,e⟩:=h4;exact absurd e (hno q hq)
 obtain⟨v1,w1,hap1,ho1,hg1,hf1⟩:=Ge (w:=w) (B:=w.heap.size) (v:=.slice none 0 0) (l:=[]) (K.take i) g 0 c (World.ownsRow_nil _ _ _ _) gR (by rw[List.length_take];simp;omega) (fun j hj=>by rw[List.length_take] at hj;rw[List.getElem_take,Nat.zero_add];exact HPT.out j (by omega));rw[List.length_take,Nat.min_eq_left (by omega)] at hap1;have hb1:Below w.heap.size w w1:=⟨hg1.os,hg1.tape,hg1.output,hg1.size,fun j hj=>hg1.block j hj (by simp[Value.ownBlock])⟩;rw[List.nil_append] at ho1;have hcr1:=(HM.out.below hb1).cell;have hfz:w1.frozen? ⟨r,0,none⟩=false:=gF (HM.out.below hb1).row;have hs1:=hb1.size;have HAP:=gH (fun(o cc:Nat) (T:List Wd.Pt) (hT:T.length<=1000) (h:∀j,(h:j<T.length)->PtAt w1 g (o+j*3) T[j])=>Ge (w:=w1) T g o cc ho1 hs1 (by rw[List.length_take];omega) h);have HFIN:=gH (fun(v2:Value) (w2:World) (hg2:w1.grownBy w2 v1.ownBlock) (ho2:Own w2 w.heap.size v2 (K.take i++K.drop (i+1)))=>show InsertedR w r (.slice (some ⟨g,0,none⟩) K.length c) (K.eraseIdx i) 0 (.returned (I 0)) (w2.setCell ⟨r,0,none⟩ v2)/\RMap w2 r (.slice (some ⟨g,0,none⟩) K.length c) K from by have hb2:Below w.heap.size w1 w2:=⟨hg2.os,hg2.tape,hg2.output,hg2.size,fun j hj=>hg2.block j (by omega) (fun e=>by have:=ho1.ge e.symm;omega)⟩;rw[List.eraseIdx_eq_take_drop_succ];exact⟨za 0 HM.out (hb1.trans hb2) ho2,HM.out.below (hb1.trans hb2)⟩);have HI:=gH hid;obtain⟨a1,c1,ev1⟩:=ho1.slice;rw[List.length_take,Nat.min_eq_left (by omega)] at ev1;subst ev1;have HPT1:=gH (fun j (h:j<K.length)=>(HPT.out j h).below hb1 (HPT.out j h).lt);clear ho1 hg1 hf1 hid;by_cases hc:c=i+1
 ·obtain⟨v2,w2,hap2,ho2,hg2,hf2⟩:=HAP.out 0 0 [] (by simp) (fun j hj=>absurd hj (by simp));have HF:=gH (HFIN.out v2 w2 hg2 (by rw[List.drop_eq_nil_of_le (by omega)];exact ho2));have hap2':(Builtin.append_ #[27,27] 27 #[.slice a1 i c1,.slice (some ⟨g,0,none⟩) 0 0]).run Tryz.prog w1=.ok v2 w2:=hap2;have hkl:K.length=i+1:=by omega
  obtain⟨a2,c2,ev2⟩:=ho2.slice;generalize (K.take i++[]).length=n2 at ev2;subst ev2;have hcr2:=HF.out.2.cell;have hfz2:w2.frozen? ⟨r,0,none⟩=false:=gF HF.out.2.row;have HIX:=gS (∃i,∃h:i<K.length,K[i].id=id/\InsertedR w r (.slice (some ⟨g,0,none⟩) K.length c) (K.eraseIdx i) 0 (.returned (I 0)) (w2.setCell ⟨r,0,none⟩ (.slice a2 n2 c2))) (⟨i,hi,HI.out,HF.out.1⟩);clear HAP HFIN ho2 hg2 hf2 hap2 hb1 HF;subst hc;rw[hkl] at hcm hcr1 hcr2;go_wp2_with (first| (at_builtin;refine Lib.wpList_append_run _ rfl (.tmp 12) (.tmp 18) 27 27 rfl _ _ rfl rfl _ _ hap1 ?_)| (at_builtin;refine Lib.wpList_append_run _ rfl (.tmp 21) (.tmp 28) 27 27 rfl _ _ rfl rfl _ _ hap2' ?_))
  go_ret;exact HIX.out
 ·obtain⟨v2,w2,hap2,ho2,hg2,hf2⟩:=HAP.out ((i+1)*3) (c-(i+1)) (K.drop (i+1)) (by rw[List.length_drop];omega) (fun j hj=>by
   rw[List.length_drop] at hj;rw[List.getElem_drop,show(i+1)*3+j*3=(i+1+j)*3 by omega];exact HPT1.out (i+1+j) (by omega))
  have HF:=gH (HFIN.out v2 w2 hg2 ho2);rw[List.length_drop] at hap2;obtain⟨a2,c2,ev2⟩:=ho2.slice;generalize (K.take i++K.drop (i+1)).length=n2 at ev2;subst ev2;have hcr2:=HF.out.2.cell;have hfz2:w2.frozen? ⟨r,0,none⟩=false:=gF HF.out.2.row;have HIX:=gS (∃i,∃h:i<K.length,K[i].id=id/\InsertedR w r (.slice (some ⟨g,0,none⟩) K.length c) (K.eraseIdx i) 0 (.returned (I 0)) (w2.setCell ⟨r,0,none⟩ (.slice a2 n2 c2))) (⟨i,hi,HI.out,HF.out.1⟩);have hic:i+1<c:=by omega
  clear HAP HFIN ho2 hg2 hf2 hb1 HF hc;obtain⟨k,hk⟩:∃k:Nat,k=i+1:=⟨_,rfl⟩;go_wp2_with (first| (at_builtin;refine Lib.wpList_append_run _ rfl (.tmp 12) (.tmp 18) 27 27 rfl _ _ rfl rfl _ _ hap1 ?_)| (at_builtin;refine Lib.wpList_append_run _ rfl (.tmp 21) (.tmp 28) 27 27 rfl _ _ rfl rfl _ _ hap2 ?_))
  go_ret;exact HIX.out
theorem gm(x y:List UInt8)(h:x.length+y.length<=9223372036854775807)(W:World):(Op.stringOp .add ⟨x.toArray⟩ ⟨y.toArray⟩).run Tryz.prog W=.ok (.string ⟨(x++y).toArray⟩) W:=by rw[run_string_add_sum W _ _ (by simp[ByteArray.size];omega),ByteArray.mk_append_mk]
def Box4(W:World)(g o:Nat)(a b c d:Int):Prop:=W.cell? ⟨g,o,none⟩=some (I a)/\W.cell? ⟨g,o+1,none⟩=some (I b)/\W.cell? ⟨g,o+2,none⟩=some (I c)/\W.cell? ⟨g,o+3,none⟩=some (I d)
theorem Box4.below{W W':World}{g o B:Nat}{a b c d:Int}(h:Box4 W g o a b c d)(hb:Below B W W')(hg:g<B):Box4 W' g o a b c d:=by obtain⟨h0,h1,h2,h3⟩:=h;have hc:=fun o=>hb.cell (p:=⟨g,o,none⟩) hg;exact⟨(hc _).trans h0,(hc _).trans h1,(hc _).trans h2,(hc _).trans h3⟩
theorem Box4.drew{W:World}{g o:Nat}{a b c d:Int}(h:Box4 W g o a b c d):Box4 W.drew g o a b c d:=by simpa[Box4] using h
theorem text_ref(b:Wd.Box)(w:World):
  Calls Tryz.prog 136 #[Bx b] w fun e w'=>e=.returned (Sv (Wd.boxText b))/\Below w.heap.size w w':=by
 obtain⟨ba,bb,bc,bd⟩:=b;have HT:=gS (Wd.boxText ⟨ba,bb,bc,bd⟩=Wd.fourI ba++Wd.fourI bb++Wd.fourI bc++Wd.fourI bd) rfl;have HSA:=gH (fun W=>oR ba W);have HSB:=gH (fun W=>oR bb W);have HSC:=gH (fun W=>oR bc W);have HSD:=gH (fun W=>oR bd W);have l1:(Wd.fourI ba).length=4:=rfl;have l2:(Wd.fourI bb).length=4:=rfl;have l3:(Wd.fourI bc).length=4:=rfl;have l4:(Wd.fourI bd).length=4:=rfl;generalize Wd.fourI ba=fa at*;generalize Wd.fourI bb=fb at*;generalize Wd.fourI bc=fc at*;generalize Wd.fourI bd=fd at*;have ha1:=gm fa fb (by omega);have ha2:=gm (fa++fb) fc (by rw[List.length_append];omega);have ha3:=gm (fa++fb++fc) fd (by rw[List.length_append,List.length_append];omega);have hr':=heap_alloc_new w;have hb':=gB w;generalize fa++fb++fc++fd=t4 at*;generalize fa++fb++fc=t3 at*;generalize fa++fb=t2 at*;clear l1 l2 l3 l4;go_enter Tryz.func136,Tryz.ntmps136
 go_upto_region 1 with fail
 generalize hW:World.alloc w _=w1;have hrow:w1.heap[w.heap.size]? =some (.cells #[I ba,I bb,I bc,I bd] 148 (0,0)):=by rw[<-hW];exact hr' _
 have HB1:=gS (Below w.heap.size w w1) (by rw[<-hW];exact hb' _);have hs1:w.heap.size<w1.heap.size:=by rw[<-hW];simp
 have hS:Box4 w1 w.heap.size 0 ba bb bc bd:=⟨by rw[gC hrow];rfl,by rw[gC hrow];rfl,by rw[gC hrow];rfl,by rw[gC hrow];rfl⟩;clear hW hr' hb' hrow;go_region_held3 (fun W=>W.cell? ⟨w.heap.size,0,none⟩=some (I ba)/\W.cell? ⟨w.heap.size,1,none⟩=some (I bb)/\W.cell? ⟨w.heap.size,2,none⟩=some (I bc)/\W.cell? ⟨w.heap.size,3,none⟩=some (I bd)) (first|assumption|exact hS|exact hS.drew) ((first| (go_at_call_of 137 (I ba);refine(HSA.out _).mono ?_;rintro _ w2⟨rfl,hb2⟩;have hS2:=hS.drew.below hb2 (by simpa using hs1);have hs2:w1.heap.size<=w2.heap.size:=hb2.size;have hB2:Below w1.heap.size w1 w2:=(show Below w1.heap.size w1 w1.drew from(Below.refl _ _).drew).trans hb2)| (go_at_call_of 137 (I bb);refine(HSB.out _).mono ?_;rintro _ w3⟨rfl,hb3⟩;have hS3:=hS2.below hb3 (by omega);have hs3:w2.heap.size<=w3.heap.size:=hb3.size;have hB3:=hB2.trans (hb3.mono hs2))| (go_at_call_of 137 (I bc);refine(HSC.out _).mono ?_;rintro _ w4⟨rfl,hb4⟩;have hS4:=hS3.below hb4 (by omega);have hs4:w3.heap.size<=w4.heap.size:=hb4.size;have hB4:=hB3.trans (hb4.mono (show w1.heap.size<=w3.heap.size by omega)))| (go_at_call_of 137 (I bd);refine(HSD.out _).mono ?_;rintro _ w5⟨rfl,hb5⟩;have hS5:=hS4.below hb5 (by omega);have hB5:=hB4.trans (hb5.mono (show w1.heap.size<=w4.heap.size by omega)))))
 all_goals
  go_wp2_with fail
  go_ret;exact⟨by rw[HT.out];rfl,HB1.out.trans (hB5.mono (by omega))⟩
section
variable {P : Program} {md : Region.Mode} {ops : Array Oper} {Q : Exit → Act → World → Prop} {S : World → Prop} {n : Nat}
def wpAnyL(P:Program)(md:Region.Mode)(ops:Array Oper)(Q:Exit->Act->World->Prop)(S:World->Prop)(n:Nat):Nat->Array Bool->Act->World->Prop
 |0,listed,a,w=>Region.ready md ops listed=[]/\Q .normal a w
 |k+1,listed,a,w=>(Region.ready md ops listed=[]->Q .normal a w)/\∀i∈Region.ready md ops listed,wpOp P ops Q i (fun a' w'=>(i≠n->S w')/\wpAnyL P md ops Q S n k (listed.setIfInBounds i true) a' w') a w
theorem wpAny_of_L:∀(k:Nat) (listed:Array Bool) (a:Act) (w:World),wpAnyL P md ops Q S n k listed a w->wpAny P md ops Q k listed a w
 |0,_,_,_,h=>h
 |k+1,_,_,_,h=>⟨h.1,fun i hi=>wpOp_mono (fun a' w' h'=>wpAny_of_L k _ a' w' h'.2) (h.2 i hi)⟩
def Waits(md:Region.Mode)(ops:Array Oper)(n i:Nat):Bool:=match ops[n]? with
 |some o=>o.after.any fun e=>Region.binds md e&&e.on==i
 |none=>false
theorem not_ready{i:Nat}{listed:Array Bool}(hw:Waits md ops n i=true)(hi:listed.getD i false=false):n∉Region.ready md ops listed:=by intro hn;obtain⟨_,o,ho,hall⟩:=mem_ready.1 hn;unfold Waits at hw;rw[ho] at hw;simp only[Array.any_eq_true,Bool.and_eq_true,beq_iff_eq] at hw;obtain⟨j,hj,hb,he⟩:=hw;have:=hall _ (Array.getElem_mem hj) hb;rw[he,hi] at this;cases this
theorem unlisted{i:Nat}{listed:Array Bool}(h:i∈Region.ready md ops listed):listed.getD i false=false:=by
 have h0:=(mem_ready.1 h).1;by_cases hl:i<listed.size
 ·simp only[Array.getD,hl,dif_pos] at h0⊢;exact h0
 ·simp[Array.getD,hl]
theorem wpAnyL_first{i:Nat}{oi:Oper}{v:Value}(hi:ops[i]? =some oi)(hne:i≠n)(hwt:Waits md ops n i=true)(hsel:∀(j:Nat) (o:Oper) cs b,ops[j]? =some o->o.op≠ .select cs b)
  (hQ:∀c a w,Q (.panic c) (a.put oi.dst v) w->Q (.panic c) a w):
  ∀(k:Nat) (listed:Array Bool) (a:Act) (w:World),
   (∀j oj,ops[j]? =some oj->j≠i->listed.getD j true=false->(∀e∈oj.after,Region.binds md e=true->e.on≠i)->oi.apart ops oj=true)->
   i∈Region.ready md ops listed->YieldsIf P ops S oi v a->S w->
   wpAnyL P md ops Q S n k (listed.setIfInBounds i true) (a.put oi.dst v) w->wpAnyL P md ops Q S n (k+1) listed a w
 |0,listed,a,w,_,hr,hy,hS,H=>by
  refine⟨fun h=>(by rw[h] at hr;cases hr),fun j hj=>?_⟩;by_cases e:j=i
  ·subst e;exact hy.wpOp hi hS ⟨fun _=>hS,H⟩
  ·have h0:=ready_mono hj e;rw[H.1] at h0;cases h0
 |k+1,listed,a,w,hfree,hr,hy,hS,H=>by
  refine⟨fun h=>(by rw[h] at hr;cases hr),fun j hj=>?_⟩;by_cases e:j=i
  ·subst e;exact hy.wpOp hi hS ⟨fun _=>hS,H⟩
  ·have hjn:j≠n:=fun h=>by
    subst h;exact not_ready hwt (unlisted hr) hj
   (obtain⟨hun,oj,hoj,hall⟩:=mem_ready.1 hj;have hno:∀x∈oj.after,Region.binds md x=true->x.on≠i:=fun x hx hb hx'=>by have h1:=hall x hx hb;rw[hx',unlisted hr] at h1;cases h1);have h2:=wpOp_putIf (S:=S) hoj (hfree j oj hoj e hun hno) (fun cs b=>hsel i oi cs b hi) (fun cs b=>hsel j oj cs b hoj) hQ hy (H.2 j (ready_mono hj e));refine wpOp_mono (fun a' w' h3=>⟨fun _=>h3.2.1 hjn,wpAnyL_first hi hne hwt hsel hQ k _ a' w' ?_ (ready_mono hr (Ne.symm e)) h3.1 (h3.2.1 hjn) ?_⟩) h2
   ·intro m om hm hmi hmu hmn;refine hfree m om hm hmi ?_ hmn;by_cases hjm:j=m
    ·subst hjm;exact hun
    ·rw[getD_set_ne true hjm] at hmu;exact hmu
   ·rw[Array.setIfInBounds_comm _ _ e];exact h3.2.2
theorem wpAnyL_take{i:Nat}{oi:Oper}{v:Value}{k:Nat}{listed:Array Bool}{a:Act}{w:World}(hi:ops[i]? =some oi)(hw:Waits md ops n i=true)(hne:Nat.beq i n=false)
  (hs:Region.noSelect ops=true) (hf:Region.free md ops listed i=true) (hr:(Region.ready md ops listed).contains i=true)
  (hQ:∀c a w,Q (.panic c) (a.put oi.dst v) w->Q (.panic c) a w) (hy:YieldsIf P ops S oi v a) (hS:S w)
  (h:wpAnyL P md ops Q S n k (listed.setIfInBounds i true) (a.put oi.dst v) w):wpAnyL P md ops Q S n (k+1) listed a w:=
 wpAnyL_first hi (fun e=>by subst e;simp at hne) hw (Region.noSelect_spec hs) hQ k listed a w (Region.free_spec hi hf) (by simpa using hr) hy hS h
theorem gI{α β γ:Sort _}{Q:α->β->γ->Prop}:∀c a w,Q c a w->Q c a w:=fun _ _ _ h=>h
theorem tkA(i:Nat){oi:Oper}{v:Value}{k:Nat}{listed:Array Bool}{a:Act}{w:World}(hi:ops[i]? =some oi)(hb:(Waits md ops n i&& !Nat.beq i n&&Region.noSelect ops&&Region.free md ops listed i&&(Region.ready md ops listed).contains i)=true)(hQ:∀c a w,Q (.panic c) (a.put oi.dst v) w->Q (.panic c) a w)(hy:YieldsIf P ops S oi v a)(hS:S w)
  (h:wpAnyL P md ops Q S n k (listed.setIfInBounds i true) (a.put oi.dst v) w):wpAnyL P md ops Q S n (k+1) listed a w:=by
 simp only[Bool.and_eq_true,Bool.not_eq_true'] at hb;exact wpAnyL_take hi hb.1.1.1.1 hb.1.1.1.2 hb.1.1.2 hb.1.2 hb.2 hQ hy hS h
theorem tkI(i:Nat){oi:Oper}{v:Value}{k:Nat}{listed:Array Bool}{a:Act}{w:World}(hi:ops[i]? =some oi)(hb:(Waits md ops n i&& !Nat.beq i n&&Region.noSelect ops&&Region.free md ops listed i&&(Region.ready md ops listed).contains i)=true)(hQ:∀c a w,Q (.panic c) (a.put oi.dst v) w->Q (.panic c) a w)(hw:Region.wanted oi (yielded ops a.tmps)=true)(hy:∀w,S w->(execOp a.eval oi).run P w=.ok (.value v) w)(hS:S w)
  (h:wpAnyL P md ops Q S n k (listed.setIfInBounds i true) (a.put oi.dst v) w):wpAnyL P md ops Q S n (k+1) listed a w:=
 tkA i hi hb hQ (.inl ⟨hw,hy⟩) hS h
theorem gJ{α β γ δ:Sort _}{Q:α->β->γ->δ->Prop}:∀v c a w,Q v c a w->Q v c a w:=fun _ _ _ _ h=>h
theorem tkJ(i:Nat){oi:Oper}{k:Nat}{listed:Array Bool}{a:Act}{w:World}(hi:ops[i]? =some oi)(hb:(Waits md ops n i&& !Nat.beq i n&&Region.noSelect ops&&Region.free md ops listed i&&(Region.ready md ops listed).contains i)=true)(hQ:∀v c a w,Q (.panic c) (a.put oi.dst v) w->Q (.panic c) a w)(hw:Region.wanted oi (yielded ops a.tmps)=true)(hS:S w)
  (h:∃v,(∀w,S w->(execOp a.eval oi).run P w=.ok (.value v) w)/\wpAnyL P md ops Q S n k (listed.setIfInBounds i true) (a.put oi.dst v) w):wpAnyL P md ops Q S n (k+1) listed a w:=by
 obtain⟨v,h1,h2⟩:=h;exact tkI i hi hb (hQ v) hw h1 hS h2
theorem gA{i:Nat}{o:Oper}{k:Nat}{listed:Array Bool}{a:Act}{w:World}(hr:Region.ready md ops listed=[i])(ho:ops[i]? =some o)
  (h:∀K':Act->World->Prop,Shut (∀a' w',(i≠n->S w')->wpAnyL P md ops Q S n k (listed.setIfInBounds i true) a' w'->K' a' w')->if Region.wanted o (yielded ops a.tmps)=true then Oper.wp P o a w K' Q else K' (a.put o.dst undef) w):wpAnyL P md ops Q S n (k+1) listed a w:=by
 refine⟨fun h0=>absurd (hr.symm.trans h0) (by simp),fun j hj=>?_⟩;rw[hr,List.mem_singleton] at hj;subst hj;exact wpOp_step ho (fun K' hK=>h K' (fun a' w' hS hW=>hK a' w' ⟨hS,hW⟩))
theorem gO{listed:Array Bool}{a:Act}{w:World}(hr:Region.ready md ops listed=[])(h:Q .normal a w):∀k,wpAnyL P md ops Q S n k listed a w
 |0=>⟨hr,h⟩
 |_+1=>⟨fun _=>h,by rw[hr];simp⟩
theorem gX{id:Nat}{a:Act}{w:World}(n:Nat)(S:World->Prop)(hm:P.follows .mixedOrders=true)(hS:S w.drew)
  (h:S w.drew->wpAnyL P .any ops Q S n ops.size (Array.replicate ops.size false) a w.drew):(Code.region id ops true).wp P Q a w:=
 wp_region_any hm (wpAny_of_L _ _ _ _ (h hS))
end
end Go.Proofs.YtenaelkbgkpllaaGreatDoor
