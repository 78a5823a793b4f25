/- Part 12 of what the four laws rest on: laid by a program out of the texts of wip/T. -/
import Derived.Test.YtenaelkbgkpllaaGreatDoorLaw10
import Derived.Test.YtenaelkbgkpllaaGreatDoorLaw11
import Derived.Deep.AppendLies
import Derived.Great.BuildSlice
set_option maxRecDepth 100000
set_option maxHeartbeats 8000000
namespace Go.Proofs.YtenaelkbgkpllaaGreatDoor
open Go.RowKit
structure Row39(V:List Value):Prop where
 len:V.length=39
 one:V.toArray.all (·.oneCell')=true
 info:(Tryz.prog.info? 90).map (·.size)=some V.toArray.size
 infl:(Tryz.prog.info? 90).map (·.size)=some V.length
 size:V.toArray.size=39
theorem gU{a:Option Addr}{l c:Nat}{a':Option Addr}{l' c':Nat}{b:Wd.Box}{n:Int}{D:List UInt8}(hD:D.length=32):Row39 (nodeV (.slice a l c) (.slice a' l' c') b n (D.map Y)):=by
 have h:(nodeV (.slice a l c) (.slice a' l' c') b n (D.map Y)).length=39:=by simp[nodeV,hD]
 exact⟨h,GD rfl rfl (fun v hv=>by obtain⟨x,_,rfl⟩:=List.mem_map.1 hv;rfl),by rw[List.size_toArray,h];exact Tryz.infoNode,by rw[h];exact Tryz.infoNode,by rw[List.size_toArray,h]⟩
theorem textK_two(n:Nat)(K:List (Wd.NT n)):Wd.textK n K=[2,UInt8.ofNat K.length]++K.flatMap (Wd.saidN n):=rfl
theorem said_len{w:World}{S:Nat->Prop}{n:Nat}{t:Wd.NT n}{V:List Value}(h:NodeIs w S n t V):(Wd.saidN n t).length=52:=by obtain⟨_,_,_,_,_,_,_,hd⟩:=h.cells;simp[Wd.saidN,Wd.jD,Wd.fourI_len,hd]
theorem flat_len{α β:Type}{f:α->List β}{c:Nat}:∀{l:List α},(∀x∈l,(f x).length=c)->(l.flatMap f).length=c*l.length
 | [],_=>by simp
 |x::l,h=>by rw[List.flatMap_cons,List.length_append,flat_len (l:=l) fun y hy=>h y (by simp[hy]),h x (by simp),List.length_cons,Nat.mul_succ];omega
theorem take_said_len{w:World}{S:Nat->Prop}{n:Nat}{K:List (Wd.NT n)}(h:∀i (h:i<K.length),∃U,NodeIs w S n K[i] U)(i:Nat):((K.take i).flatMap (Wd.saidN n)).length<=52*K.length:=by rw[flat_len (c:=52) fun t ht=>by obtain⟨j,hj,rfl⟩:=List.getElem_of_mem (List.mem_of_mem_take ht);obtain⟨U,hU⟩:=h j hj;exact said_len hU];exact Nat.mul_le_mul_left _ (by rw[List.length_take];omega)
theorem nodeText_any(vc:Value)(n:Nat)(K:List (Wd.NT n))(w:World)(S:Nat->Prop)(hS:∀g,S g->g<w.heap.size)(hK:K.length<=4)(hk:RowsAt (NodeIs w S n) w S vc K):
  Calls Tryz.prog 143 #[vc] w fun e w'=>e=.returned (Sv (Wd.textK n K))/\Below w.heap.size w w':=by
 obtain⟨ap,cp,rfl,hrd⟩:=hk;have HRD:=gH hrd;clear hrd;have hB1:=gB w (.cells #[.int .u8 2,.int .u8 K.length] 5);have hO1:OwnB (w.alloc (.cells #[.int .u8 2,.int .u8 K.length] 5)) w.heap.size (.slice (some ⟨w.heap.size,0,none⟩) 2 2) [2,UInt8.ofNat K.length]:=by
  have hkk:(UInt8.ofNat K.length).toNat=K.length:=by rw[UInt8.toNat_ofNat'];omega
  have h:=World.ownsRow_lit (base:=w.heap.size) (e:=5) (size:=1) w #[.int .u8 2,.int .u8 K.length] 2 gR (by decide) rfl;have e:[2,UInt8.ofNat K.length].map Y=[.int .u8 2,.int .u8 K.length]:=by simp[Y,hkk]
  unfold OwnB;rw[e];exact h
 have HB1:=gH hB1;have HO1:=gH hO1;clear hB1 hO1;obtain⟨fs,hu⟩:=underNode;have HU:=gH hu;clear hu;go_enter Tryz.func143,Tryz.ntmps143
 go_wp2_with fail
 go_loopg [3,12] K.length (fun gk v3 v12 wq=>∃i:Nat,gk=K.length-i/\v12=I i/\i<=K.length/\OwnB wq w.heap.size v3 ([2,UInt8.ofNat K.length]++(K.take i).flatMap (Wd.saidN n))/\Below w.heap.size w wq)
 case atStart=>exact⟨0,by omega,rfl,by omega,by simpa using HO1.out,HB1.out⟩
 case round=>
  clear HO1 HB1;obtain⟨i,hgk,rfl,hi,ho,hb⟩:=hrel;have HGK:=gH hgk;have HO:=gH ho;have HB:=gH hb;clear hgk ho hb;by_cases hlt:i<K.length
  ·obtain⟨g,o,rfl,hgS,hrows⟩:=HRD.out (fun e=>by subst e;simp at hlt);have hgB:=hS g hgS;clear hgS;obtain⟨U,hU,hc⟩:=hrows i hlt;have HT:=gS ((K.take (i+1)).flatMap (Wd.saidN n)=(K.take i).flatMap (Wd.saidN n)++Wd.saidN n K[i]) (GH (Wd.saidN n) K i hlt);have hlen:((K.take i).flatMap (Wd.saidN n)).length<=208:=Nat.le_trans (take_said_len (fun j hj=>⟨_,(hrows j hj).choose_spec.1⟩) i) (by omega);have HC:=gH (oo hc HB.out hgB);obtain⟨a1,l1,c1,a2,l2,c2,hV,hd⟩:=hU.cells;have HR:=gS (Row39 U) (by rw[hV];exact gU hd);have hs:Wd.saidN n K[i]=childT (Wd.boxN n K[i]) (Wd.numN n K[i]) (Wd.digN n K[i]):=(childT_said _ _ _).symm;have HA:=gH (fun(v:Value) (l:List UInt8) (w2:World) (hB:w.heap.size<=w2.heap.size) (hx:l.length<=700000) (hown:OwnB w2 w.heap.size v l)=>by
    have h:=Gm v l (.slice a1 l1 c1) (.slice a2 l2 c2) (Wd.boxN n K[i]) (Wd.numN n K[i]) (Wd.digN n K[i]) w2 w.heap.size hB hx hd hown;rw[<-hV,<-hs] at h;exact h)
   clear hs hV hd hc hU hrows;generalize Wd.saidN n K[i]=Sd at*;generalize (K.take i).flatMap (Wd.saidN n)=N at*;have hsz:=HB.out.size;(go_wp2_with (first| (refine wpList_load_mid rfl 90 (.tmp 14) rfl g (o+i*39) rfl U (.struct fs) HC.out HU.out rfl HR.out.infl ?_)| (refine wpList_store_row rfl 90 (.tmp 5) (.tmp 15) rfl wr.heap.size U.toArray rfl rfl 90 _ (heap_alloc_new wr _) HR.out.info (by rw[HR.out.size];rfl) HR.out.one ?_;rw[World.setRow_alloc_new])| (refine wpList_load_row rfl 90 (.tmp 5) rfl wr.heap.size rfl 90 U.toArray (0,0) (.struct fs) (heap_alloc_new wr _) HU.out rfl HR.out.info ?_)));have hb2:Below wr.heap.size wr (wr.alloc (.cells U.toArray 90)):=gB wr _;refine(HA.out _ _ _ (Nat.le_trans hsz hb2.size) (by simp;omega) (HO.out.below hb2)).mono ?_;intro e w3 h3;obtain⟨v3,rfl,ho3,hg3,hf3⟩:=h3.lift hb2;have HO3:=gH ho3;have HB3:=gH (HB.out.grown hg3 hsz (fun k hk=>(HO.out.lt hk).1));clear ho3 hg3 hf3 h3 hb2;(go_wp2_with fail);go_roundg (K.length-(i+1))
   case measure=>have:=HGK.out;omega
   case rel=>exact⟨i+1,rfl,by go_num,hlt,by have h:=HO3.out;rw[HT.out,<-List.append_assoc];exact h,HB3.out⟩
  ·(have ei:i=K.length:=by omega);subst ei;rw[List.take_length,<-textK_two] at HO;have hc:=HO.out.conv (by simp[Wd.textK]);generalize hT:Wd.textK n K=T at*;have HT:=gH hT;clear hT;go_wp2;go_ret;exact⟨by rw[HT.out];rfl,HB.out⟩
theorem node_num{w:World}{g:Nat}{vp vc:Value}{b:Wd.Box}{n:Int}{t:List Value}{ty:Nat}(c:Int)(h:w.heap[g]? =some (.cells (nodeV vp vc b n t).toArray ty (0,0))):
  (w.setCell ⟨g,6,none⟩ (I c)).heap[g]? =some (.cells (nodeV vp vc b c t).toArray ty (0,0)):=by
 have h1:=heap_setCell_same w g 6 _ ty (I c) h;rw[List.setIfInBounds_toArray] at h1;exact h1
theorem range_box{w:World}{g o:Nat}{vp vc:Value}{b:Wd.Box}{n:Int}{t:List Value}(h:w.rangeAt g o (nodeV vp vc b n t)):w.rangeAt g (o+2) [I b.a,I b.b,I b.c,I b.d]:=fun j v hv=>by
 rw[Nat.add_assoc];refine h (2+j) v ?_
 match j,hv with
 |0,hv=>exact hv
 |1,hv=>exact hv
 |2,hv=>exact hv
 |3,hv=>exact hv
theorem sum_le{l:List Int}(h:∀x∈l,0<=x/\x<=1000000):0<=l.sum/\l.sum<=1000000*l.length:=by
 induction l with
 |nil=>simp
 |cons x l ih=>have h1:=h x (by simp);have h2:=ih fun y hy=>h y (by simp[hy]);rw[List.sum_cons,List.length_cons];omega
theorem sum_step(l:List Int)(i:Nat)(h:i<l.length):(l.take (i+1)).sum=(l.take i).sum+l[i]:=by rw[List.take_succ_eq_append_getElem h,List.sum_append];simp
theorem nodeOf_any(vc:Value)(n:Nat)(K:List (Wd.NT n))(w:World)(S:Nat->Prop)(hS:∀g,S g->g<w.heap.size)(h0:K≠[])(hK:K.length<=4)(hk:RowsAt (NodeIs w S n) w S vc K)(hnum:∀t∈K,0<=Wd.numN n t/\Wd.numN n t<=1000000)(hKT:KT w):
  Calls Tryz.prog 113 #[vc] w fun e w'=>e=.returned (.agg (nodeV (.slice none 0 0) vc (Wd.boxL (K.map (Wd.boxN n))) ((K.map (Wd.numN n)).sum) ((Sha.sha (Wd.textK n K)).map Y)).toArray)/\Below w.heap.size w w':=by
 have HP:=gH hk;have HK:=gH hKT;obtain⟨ap,cp,rfl,hrd⟩:=hk;obtain⟨g,o,rfl,hgS,hrows⟩:=hrd h0;have hgB:=hS g hgS;have HSS:=gH hS;clear hgS hS;have HRD:=gH hrows;have h1:0<K.length:=List.length_pos_iff.2 h0;have hrow0:=hrows 0 h1;rw[Nat.zero_mul,Nat.add_zero] at hrow0;obtain⟨U0,hU0,hc0⟩:=hrow0;have hq:=fun i=>sum_le (l:=(K.map (Wd.numN n)).take i) (fun x hx=>by obtain⟨t,ht,rfl⟩:=List.mem_map.1 (List.mem_of_mem_take hx);exact hnum t ht);have HQ:=gH hq;have HNUM:=gH hnum;have HE0:=gS (accBox (K.map (Wd.boxN n)) 0=Wd.boxN n K[0]) (by
  obtain⟨q,K',rfl⟩:∃q K',K=q::K':=by cases K with|nil=>exact absurd rfl h0|cons q K'=>exact⟨q,K',rfl⟩
  rfl)
 obtain⟨a1,l1,c1,a2,l2,c2,hV,hd⟩:=hU0.cells;subst hV;have HC0:=gH (range_box hc0);clear hU0 hc0 hd hrows hrd hKT hq hnum;generalize hb0:Wd.boxN n K[0]=b0 at*;have HB0:=gH hb0;clear hb0;obtain⟨fs,hu⟩:=underNode;have HU:=gH hu;clear hu;go_enter Tryz.func113,Tryz.ntmps113
 go_upto_region 1 with fail
 have HC1:=gH (fun ob=>oo HC0.out (gB w ob) hgB);go_upto_region 2 with(first| (refine wpList_load_mid rfl 88 (.tmp 9) rfl g (o+2) rfl [I b0.a,I b0.b,I b0.c,I b0.d] _ (HC1.out _) Tryz.underlying88 rfl Tryz.infoBox ?_)| (refine wpList_store_row rfl 90 (.tmp 3) (.tmp 11) rfl (w.heap.size+1) (nodeV (.slice none 0 0) (.slice (some ⟨g,o,none⟩) K.length cp) b0 0 zero32).toArray rfl rfl 90 _ (heap_alloc2_new w _ _) Tryz.infoNode rfl (GD rfl rfl zero32_one) ?_))
 rw[setRow_alloc2];have hb2:=fun o o'=>(gB w o).alloc (by simp) o';have hr2:=heap_alloc2_new w;have hr1:=heap_alloc2_old w;generalize hW:World.alloc (World.alloc w _) _=w1;have hb1:Below w.heap.size w w1:=by rw[<-hW];exact hb2 _ _
 have hz1:w1.heap[w.heap.size]? =some (.cells (nodeV (.slice none 0 0) (.slice none 0 0) ⟨0,0,0,0⟩ 0 zero32).toArray 90 (0,0)):=by rw[<-hW];exact hr1 _ _
 have hn1:w1.heap[w.heap.size+1]? =some (.cells (nodeV (.slice none 0 0) (.slice (some ⟨g,o,none⟩) K.length cp) b0 0 zero32).toArray 90 (0,0)):=by rw[<-hW];exact hr2 _ _
 clear hb2 hr2 hr1 hW HC1 HC0;generalize Value.agg _=x10;generalize Value.agg _=x11;have HZ1:=gH hz1;have HN1:=gH hn1;have HB1:=gH hb1;clear hz1 hn1 hb1;have hlb:(K.length:Int)<=4:=by omega
 go_wp2_with fail
 go_loopg [14] K.length (fun gk v14 wq=>∃i:Nat,gk=K.length-i/\v14=I i/\i<=K.length/\wq.heap[w.heap.size]? =some (.cells (nodeV (.slice none 0 0) (.slice none 0 0) ⟨0,0,0,0⟩ 0 zero32).toArray 90 (0,0))/\wq.heap[w.heap.size+1]? =some (.cells (nodeV (.slice none 0 0) (.slice (some ⟨g,o,none⟩) K.length cp) (accBox (K.map (Wd.boxN n)) i) (((K.map (Wd.numN n)).take i).sum) zero32).toArray 90 (0,0))/\Below w.heap.size w wq)
 case atStart=>exact⟨0,by omega,rfl,by omega,HZ1.out,by rw[HE0.out];exact HN1.out,HB1.out⟩
 case round=>
  clear HZ1 HN1 HB1 HE0;obtain⟨i,hgk,rfl,hi,hz,hn,hb⟩:=hrel;have HGK:=gH hgk;have HZ:=gH hz;have HN:=gH hn;have HB:=gH hb;clear hgk hz hn hb;by_cases hlt:i<K.length
  ·obtain⟨U,hU,hc⟩:=HRD.out i hlt;have HC:=gH (oo hc HB.out hgB);obtain⟨a3,l3,c3,a4,l4,c4,hV,hd⟩:=hU.cells;have HR:=gS (Row39 U) (by rw[hV];exact gU hd);have HE:=gS (accBox (K.map (Wd.boxN n)) (i+1)=Wd.join (accBox (K.map (Wd.boxN n)) i) (Wd.boxN n K[i])) (by
    rw[accBox_step _ _ (by simpa using hlt),List.getElem_map])
   (have HS:=gS (((K.map (Wd.numN n)).take (i+1)).sum=((K.map (Wd.numN n)).take i).sum+Wd.numN n K[i]) (by rw[sum_step _ _ (by simpa using hlt),List.getElem_map]);obtain⟨hs1,hs2'⟩:=HQ.out i;have hs2:((K.map (Wd.numN n)).take i).sum<=4000000:=by(have:(((K.map (Wd.numN n)).take i).length:Int)<=4:=by rw[List.length_take,List.length_map];omega);omega);obtain⟨hx1,hx2⟩:=HNUM.out K[i] (List.getElem_mem hlt);have HV:=gH hV;generalize Wd.numN n K[i]=x at*;generalize Wd.boxN n K[i]=bi at*;generalize (Wd.digN n K[i]).map Y=Di at*;generalize ((K.map (Wd.numN n)).take i).sum=s at*;generalize accBox (K.map (Wd.boxN n)) i=b at*;clear hV hd hc hU hs2';(go_upto_region 5 with(first| (refine wpList_load_mid rfl 90 (.tmp 16) rfl g (o+i*39) rfl U (.struct fs) HC.out HU.out rfl HR.out.infl ?_)| (refine wpList_store_row rfl 90 (.tmp 5) (.tmp 17) rfl wr.heap.size U.toArray rfl rfl 90 _ (heap_alloc_new wr _) HR.out.info (by rw[HR.out.size];rfl) HR.out.one ?_;rw[World.setRow_alloc_new])));have hb5':=gB wr (.cells U.toArray 90);have hr5':=heap_alloc_new wr (.cells U.toArray 90);(have hs5':(wr.alloc (.cells U.toArray 90)).heap.size=wr.heap.size+1:=by simp);generalize wr.alloc (.cells U.toArray 90)=w5 at*;rw[HV.out] at hr5';have hnlt:w.heap.size+1<wr.heap.size:=(gL HN.out);have hn5:=(hb5'.block (w.heap.size+1) hnlt).trans HN.out;have HZ5:=gH ((hb5'.block w.heap.size (by omega)).trans HZ.out);have HB5:=gH (HB.out.trans (hb5'.mono (by omega)));have HN5:=gH hn5;have HR5:=gH hr5';have HS5:=gH hs5';obtain⟨-,⟨a1,a2,a3,a4⟩, -⟩:=gT hn5;obtain⟨-,⟨e1,e2,e3,e4⟩, -⟩:=gT hr5';clear hn5 hr5' hb5' hs5';(go_wp2_with fail);refine(join_any2 b bi _).mono ?_;rintro _ w6⟨rfl,hb6⟩;have hs6:=hb6.size;have hs5:=HS5.out;have hn6:=(hb6.block (w.heap.size+1) (by omega)).trans HN5.out;have hr6:=(hb6.block wr.heap.size (by omega)).trans HR5.out;have HZ6:=gH ((hb6.block w.heap.size (by omega)).trans HZ5.out);have HB6:=gH (HB5.out.trans (hb6.mono (by omega)));obtain⟨-,⟨n1,n2,n3,n4⟩, -⟩:=gT hn6;have f1:w6.frozen? ⟨w.heap.size+1,2,none⟩=false:=gF hn6;have f2:w6.frozen? ⟨w.heap.size+1,3,none⟩=false:=gF hn6;have f3:w6.frozen? ⟨w.heap.size+1,4,none⟩=false:=gF hn6;have f4:w6.frozen? ⟨w.heap.size+1,5,none⟩=false:=gF hn6;have HN6:=gH hn6;have HR6:=gH hr6;have HL:=gH hnlt;clear hn6 hr6 hb6 hs6 hs5 hnlt;unfold Bx;(go_upto_region 6 with fail);have hn7':=node_box (Wd.join b bi) HN6.out;have hr7':=(box_other (w:=w6) (g:=w.heap.size+1) (k:=wr.heap.size) (c:=Wd.join b bi) (by have:=HL.out;omega)).trans HR6.out;have hz7':=(box_other (w:=w6) (g:=w.heap.size+1) (k:=w.heap.size) (c:=Wd.join b bi) (by omega)).trans HZ6.out;have hb7':Below w.heap.size w ((((w6.setCell ⟨w.heap.size+1,2,none⟩ (I (Wd.join b bi).a)).setCell ⟨w.heap.size+1,3,none⟩ (I (Wd.join b bi).b)).setCell ⟨w.heap.size+1,4,none⟩ (I (Wd.join b bi).c)).setCell ⟨w.heap.size+1,5,none⟩ (I (Wd.join b bi).d)):=(((HB6.out.setCell (by simp) _).setCell (by simp) _).setCell (by simp) _).setCell (by simp) _;generalize ((((w6.setCell ⟨w.heap.size+1,2,none⟩ (I (Wd.join b bi).a)).setCell ⟨w.heap.size+1,3,none⟩ (I (Wd.join b bi).b)).setCell ⟨w.heap.size+1,4,none⟩ (I (Wd.join b bi).c)).setCell ⟨w.heap.size+1,5,none⟩ (I (Wd.join b bi).d))=w7 at*;obtain⟨-, -,m1⟩:=gT hn7';obtain⟨-, -,m2⟩:=gT hr7';have f5:w7.frozen? ⟨w.heap.size+1,6,none⟩=false:=gF hn7';have HN7:=gH hn7';have HZ7:=gH hz7';have HB7:=gH hb7';clear hn7' hr7' hz7' hb7' a1 a2 a3 a4 e1 e2 e3 e4 n1 n2 n3 n4 f1 f2 f3 f4;(go_wp2_with fail);go_roundg (K.length-(i+1))
   case measure=>have:=HGK.out;omega
   case rel=>refine⟨i+1,rfl,by go_num,hlt,(Below.heap_setCell _ _ _ _ (show w.heap.size≠w.heap.size+1 by omega)).trans HZ7.out,?_,HB7.out.setCell (by simp) _⟩;rw[HE.out,HS.out];exact node_num (s+x) HN7.out
  ·(have ei:i=K.length:=by omega);subst ei;have HE:=gS (accBox (K.map (Wd.boxN n)) K.length=Wd.boxL (K.map (Wd.boxN n))) (by
    have h:=accBox_all (K.map (Wd.boxN n));rw[List.length_map] at h;exact h)
   have HS:=gS ((K.map (Wd.numN n)).take K.length=K.map (Wd.numN n)) (by rw[List.take_of_length_le (by simp)]);rw[HE.out,HS.out] at HN;have hnlt:w.heap.size+1<wr.heap.size:=(gL HN.out);have hsame:Same S w wr:=gD HB.out HSS.out;have HRR:=gS (RowsAt (NodeIs wr S n) wr S (.slice (some ⟨g,o,none⟩) K.length cp) K) (HP.out.keep hsame (fun _ h=>h) (NodeIs.keep hsame (fun _ h=>h) n));clear hsame;have HD:=gH (dig_of (Wd.textK n K));have HTL:=gS ((⟨(Wd.textK n K).toArray⟩:ByteArray).size<=140737488355327) (by show(Wd.textK n K).toArray.size<=_;have h:=take_said_len (K:=K) (fun j hj=>⟨_,(HRD.out j hj).choose_spec.1⟩) K.length;rw[List.take_length] at h;rw[List.size_toArray,textK_two,List.length_append];show 2+_<=_;omega);generalize hBx:Wd.boxL (K.map (Wd.boxN n))=b at*;generalize hSm:(K.map (Wd.numN n)).sum=s at*;have HBX:=gH hBx;have HSM:=gH hSm;clear HE HS HP hBx hSm HQ HNUM;(go_wp2_with fail);refine(nodeText_any _ n K _ S (fun g hg=>Nat.lt_of_lt_of_le (HSS.out g hg) HB.out.size) hK HRR.out).mono ?_;rintro _ w2⟨rfl,hb2⟩;have HB2:=gH hb2;have hs2:=hb2.size;clear hb2;(go_wp2_with fail);refine(of_any _ _ HTL.out (HK.out.below (HB.out.trans (HB2.out.mono (by omega))))).mono ?_;rintro _ w3⟨rfl,hb3⟩;rw[show(⟨(Wd.textK n K).toArray⟩:ByteArray).data.toList=Wd.textK n K from rfl];generalize hDe:(Sha.sha (Wd.textK n K)).map Y=D at*;have HDE:=gH hDe;clear hDe;have hs3:=hb3.size;have hn3:=(hb3.block (w.heap.size+1) (by omega)).trans ((HB2.out.block (w.heap.size+1) (by omega)).trans HN.out);have HZ3:=gH ((hb3.block w.heap.size (by omega)).trans ((HB2.out.block w.heap.size (by omega)).trans HZ.out));have HB3:=gH ((HB.out.trans (HB2.out.mono (by omega))).trans (hb3.mono (by omega)));have HN3:=gH hn3;clear hb3 hn3;have HT:=gH (there_row HN3.out 7 D.toArray.size (by rw[HD.out.size,oS (by rfl)];decide));have HN4:=gS ((w3.setCells (w.heap.size+1) 7 D).heap[w.heap.size+1]? =some (.cells (nodeV (.slice none 0 0) (.slice (some ⟨g,o,none⟩) K.length cp) b s D).toArray 90 (0,0))) (node_digest (by rfl) HD.out.len HN3.out);have HZ4:=gH ((oO (show w.heap.size≠w.heap.size+1 by omega) D 7 w3).trans HZ3.out);have HB4:=gH (gN (show w.heap.size<=w.heap.size+1 by omega) D 7 w3 HB3.out);have HO:=gH (GD (vp:=.slice none 0 0) (vc:=.slice (some ⟨g,o,none⟩) K.length cp) (b:=b) (n:=s) (t:=D) rfl rfl (fun v hv=>(Array.all_eq_true_iff_forall_mem.1 HD.out.one) v (by simpa using hv)));have HI:=gH (nodeV_info (vp:=.slice none 0 0) (vc:=.slice (some ⟨g,o,none⟩) K.length cp) (b:=b) (n:=s) HD.out.len);have HS:=gS ((nodeV (.slice none 0 0) (.slice none 0 0) ⟨0,0,0,0⟩ 0 zero32).toArray.size=(nodeV (.slice none 0 0) (.slice (some ⟨g,o,none⟩) K.length cp) b s D).toArray.size) (by rw[oS HD.out.len,oS (by rfl)]);have HI22:=gH HD.out.info;have HO22:=gH HD.out.one;generalize hM:(nodeV (.slice none 0 0) (.slice (some ⟨g,o,none⟩) K.length cp) b s D).toArray=M at*;have HM:=gH hM;clear hM;(go_wp2_with (first| (refine wpList_store_mid rfl 39 (.tmp 34) (.tmp 33) rfl (w.heap.size+1) 7 D.toArray rfl rfl HT.out HI22.out HO22.out ?_)| (refine wpList_load_row rfl 90 (.tmp 3) rfl (w.heap.size+1) rfl 90 M (0,0) (.struct fs) HN4.out HU.out rfl HI.out ?_)| (refine wpList_store_row rfl 90 (.tmp 2) (.tmp 35) rfl w.heap.size M rfl rfl 90 _ HZ4.out HI.out HS.out HO.out ?_)));refine bodyPost_ret (v:=.agg M) ?_ rfl ⟨by rw[<-HM.out,<-HBX.out,<-HSM.out,<-HDE.out],below_setRow HB4.out gR _⟩;exact results_cell_row rfl _ _ w.heap.size 90 M (0,0) (.struct fs) rfl (gW HZ4.out) HU.out rfl HI.out
def zeroNode:Value:=.agg (nodeV (.slice none 0 0) (.slice none 0 0) ⟨0,0,0,0⟩ 0 zero32).toArray
theorem Tryz.infoNodeZ:(Tryz.prog.info? 90).map (fun i=>(i.zero,i.size,i.bytes))=some (some zeroNode,39,120):=by kernel_rfl
theorem fill_one{s:Nat}(hs:0<s)(M cells:Array Value)(hM:M.size=s)(hc:cells.size=s):Instr.fill (fun i=>some (i*s,s)) cells [(0,.agg M)]=some M:=by
 obtain⟨r,hr,hsz,hk⟩:=Great.fill_dense hs [.agg M] 0 cells (fun v hv=>by rw[List.mem_singleton.1 hv];exact hM) (by simp;omega);have e:r=M:=by
  apply Array.ext_getElem?;intro k;rw[hk k];by_cases h:k<s
  ·rw[if_pos (by simp;omega),Nat.div_eq_of_lt h,Nat.mod_eq_of_lt h];rfl
  ·rw[if_neg (by simp;omega),Array.getElem?_eq_none (by omega),Array.getElem?_eq_none (by omega)]
 subst e;exact hr
theorem ownsRow_below{w w':World}{B e size n:Nat}{v:Value}{xs:List Value}(h:w.ownsRow B e size v n xs)(hb:Below w.heap.size w w'):w'.ownsRow B e size v n xs:=by
 refine⟨h.1,?_⟩;rcases h.2 with h0| ⟨g,cap,cur,rfl,hB,hg,r⟩
 ·exact .inl h0
 ·exact .inr ⟨g,cap,cur,rfl,hB,(hb.block g (gL hg)).trans hg,r⟩
theorem append_node{w:World}{B:Nat}{v:Value}{n:Nat}{xs:List Value}(M:List Value)(hM:Row39 M)(hown:w.ownsRow B 90 39 v n xs)(hB:B<=w.heap.size)(hn:n<=1000):
  ∃v' w',(Builtin.append_ #[86,86] 86 #[v,.slice (some ⟨w.heap.size,0,none⟩) 1 1]).run Tryz.prog (w.alloc (.cells M.toArray 90))=.ok v' w'/\w'.ownsRow B 90 39 v' (n+1) (xs++M)/\w.grownBy w' v.ownBlock/\Fresh w v v':=by
 obtain⟨i0,hi0,hz0,hz1,hz2⟩:=info_parts Tryz.infoNodeZ
 obtain⟨v',w',hr,ho,hg,hf⟩:=oC (P:=Tryz.prog) (w.alloc (.cells M.toArray 90)) B 86 86 90 i0 zeroNode 39 120 Tryz.underlying86 hi0 hz0 hz1 hz2 (oS (by rfl)) (by decide) v n xs (hown.alloc _) ⟨w.heap.size,0,none⟩ 1 1 M (by rw[hM.len])
  (fun j u hj=>by rw[Addr.add_lit,Nat.zero_add,gC (heap_alloc_new w _),List.getElem?_toArray];exact hj)
  (fun u hu=>Array.all_eq_true_iff_forall_mem.1 hM.one u (by simpa using hu)) (by unfold maxLen;omega) (by omega) (by simp;omega)
 refine⟨v',w',hr,ho,⟨hg.os,hg.tape,hg.output,Nat.le_trans (by simp) hg.size,fun j hj hne=>(hg.block j (by simp;omega) hne).trans (Below.heap_alloc w _ j hj)⟩,?_⟩;rcases hf with hf| ⟨g,hf,hgs⟩
 ·exact .inl hf
 ·exact .inr ⟨g,hf,Nat.le_trans (by simp) hgs⟩
theorem GI{c:Nat}:∀(Us:List (List Value)) (j i:Nat),(∀U∈Us,U.length=c)->i<c->Us.flatten[j*c+i]? =(Us[j]?).bind (fun U=>U[i]?)
 | [],j,i,_,_=>by simp
 |U::Us,0,i,h,hi=>by rw[List.flatten_cons,Nat.zero_mul,Nat.zero_add,List.getElem?_append_left (by rw[h U (by simp)];exact hi)];rfl
 |U::Us,j+1,i,h,hi=>by
  have hU:=h U (by simp);have e:(j+1)*c+i=c+(j*c+i):=by rw[Nat.succ_mul];omega
  rw[List.flatten_cons,e,List.getElem?_append_right (by omega),hU,Nat.add_sub_cancel_left,GI Us j i (fun V hV=>h V (by simp[hV])) hi];rfl
def Level(w:World)(S:Nat->Prop)(v:Value)(n:Nat)(K:List (Wd.NT n)):Prop:=RowsAt (NodeIs w S n) w S v K/\∃a c,v=.slice a K.length c/\K.length<=c/\c<=maxLen
theorem level_of_own{w:World}{S:Nat->Prop}{B n m:Nat}{v:Value}{K:List (Wd.NT n)}{f:Nat->List Value}(ho:w.ownsRow B 90 39 v m ((List.range m).flatMap f))(hK:K.length=m)(hm:0<m)(h39:∀j,j<m->(f j).length=39)(hn:∀j (h:j<K.length),NodeIs w S n K[j] (f j))(hS:∀g,B<=g->g<w.heap.size->S g):Level w S v n K:=by
 have ho':=ho;rcases ho.2 with⟨_,h0⟩| ⟨g,cap,cur,rfl,hB,hg,hcap,hmax,hcs,htake⟩
 ·omega
 ·subst hK;refine⟨⟨some ⟨g,0,none⟩,cap,rfl,fun _=>⟨g,0,rfl,hS g hB (gL hg),fun j hj=>⟨f j,hn j hj,fun i u hu=>?_⟩⟩⟩,_,_,rfl,hcap,hmax⟩;have hi:i<39:=by rw[<-h39 j hj];exact(List.getElem?_eq_some_iff.1 hu).1
  have h:=ho'.cells (g:=g) rfl (j*39+i) u (by rw[List.flatMap_def,GI _ j i (fun U hU=>by obtain⟨k,hk,rfl⟩:=List.mem_map.1 hU;exact h39 k (List.mem_range.1 hk)) hi];rw[List.getElem?_map,List.getElem?_range hj];exact hu);rw[Addr.add_lit] at h;rw[Nat.zero_add] at h⊢;exact h
namespace Wd
def upN(n:Nat)(G:List (NT n)):NT (n+1):=⟨[],G,boxL (G.map (boxN n)),(G.map (numN n)).sum,Sha.sha (textK n G)⟩
theorem sum_nat:∀(l:List Nat),(l.map (fun(x:Nat)=>(x:Int))).sum=(l.sum:Nat)
 | []=>rfl
 |x::l=>by rw[List.map_cons,List.sum_cons,List.sum_cons,sum_nat l];omega
theorem up_mk(n:Nat)(G:List (T n)):upN (n+1) (G.map (mk Sha.sha n))=mk Sha.sha (n+1) G:=by
 have h1:(G.map (mk Sha.sha n)).map (boxN (n+1))=G.map (box n):=by rw[List.map_map];exact List.map_congr_left fun c _=>mk_box Sha.sha n c
 have h2:((G.map (mk Sha.sha n)).map (numN (n+1))).sum=((G.map (count n)).sum:Nat):=by rw[<-sum_nat,List.map_map,List.map_map];congr 1;exact List.map_congr_left fun c _=>mk_num Sha.sha n c
 unfold upN;rw[h1,h2,mk_text];rfl
theorem fours_map{α β:Type}(f:α->β)(l:List α):fours (l.map f)=(fours l).map (List.map f):=by simp[fours,List.map_drop,List.map_take]
end Wd
def upV(g o n:Nat)(K:List (Wd.NT n))(j:Nat):List Value:=nodeV (.slice none 0 0) (groupV 39 g o K.length j) (Wd.boxL (((K.drop (4*j)).take 4).map (Wd.boxN n))) ((((K.drop (4*j)).take 4).map (Wd.numN n)).sum) ((Sha.sha (Wd.textK n ((K.drop (4*j)).take 4))).map Y)
theorem upV_row(g o n:Nat)(K:List (Wd.NT n))(j:Nat):Row39 (upV g o n K j):=gU (oz _)
theorem group_rows{w:World}{S:Nat->Prop}{g o n:Nat}{K:List (Wd.NT n)}{P:Wd.NT n->List Value->Prop}(hB:S g)(h:∀i (h:i<K.length),∃U,P K[i] U/\w.rangeAt g (o+i*39) U)(j:Nat):
  RowsAt P w S (groupV 39 g o K.length j) ((K.drop (4*j)).take 4):=by
 have hl:((K.drop (4*j)).take 4).length=min 4 (K.length-4*j):=by simp
 refine⟨some ⟨g,o+4*j*39,none⟩,min 4 (K.length-4*j),by rw[hl];rfl,fun _=>⟨g,o+4*j*39,rfl,hB,fun i hi=>?_⟩⟩;rw[hl] at hi;obtain⟨U,hU,hr⟩:=h (4*j+i) (by omega);refine⟨U,?_,?_⟩
 ·rw[List.getElem_take,List.getElem_drop];exact hU
 ·rw[show o+4*j*39+i*39=o+(4*j+i)*39 by omega];exact hr
theorem Gj(f:Nat->List Value)(i:Nat):(List.range (i+1)).flatMap f=(List.range i).flatMap f++f i:=by rw[List.range_succ,List.flatMap_append];simp
theorem up_is{w:World}{S:Nat->Prop}{g o n:Nat}{K:List (Wd.NT n)}(hB:S g)(h:∀i (h:i<K.length),∃U,NodeIs w S n K[i] U/\w.rangeAt g (o+i*39) U)(j:Nat)(hj:j< ((Wd.fours K).map (Wd.upN n)).length):
  NodeIs w S (n+1) ((Wd.fours K).map (Wd.upN n))[j] (upV g o n K j):=by
 rw[List.getElem_map,Wd.GG];exact⟨.slice none 0 0,groupV 39 g o K.length j,rfl,oz _,⟨none,0,rfl,fun e=>absurd rfl e⟩,group_rows hB h j⟩
theorem above_any(v:Value)(n:Nat)(K:List (Wd.NT n))(w:World)(S:Nat->Prop)(hS:∀g,S g->g<w.heap.size)(h0:K≠[])(hK:K.length<=1000)(hk:Level w S v n K)(hnum:∀t∈K,0<=Wd.numN n t/\Wd.numN n t<=1000000)(hKT:KT w):
  Calls Tryz.prog 72 #[v] w fun e w'=>∃v',e=.returned v'/\Level w' (fun g=>S g\/w.heap.size<=g/\g<w'.heap.size) v' (n+1) ((Wd.fours K).map (Wd.upN n))/\Below w.heap.size w w':=by
 obtain⟨⟨a,c,rfl,hrd⟩,⟨a',c',e',hc1,hc2⟩⟩:=hk;injection e' with e1 e2 e3;subst e1 e3;clear e2;obtain⟨g,o,rfl,hgS,hrows⟩:=hrd h0;have hgB:=hS g hgS;have HSS:=gH hS;have HGS:=gH hgS;clear hS hgS;have HRD:=gH hrows;have HNUM:=gH hnum;have HK:=gH hKT;have hp:0<K.length:=List.length_pos_iff.2 h0;obtain⟨i0,hi0,hz0,hz1,hz2⟩:=info_parts Tryz.infoNodeZ;have HZ1:=gH hz1;clear hrd hrows hnum hKT;go_enter Tryz.func72,Tryz.ntmps72
 go_wp2_with fail
 refine(foursNode_any g o K.length c w hK hc1 hc2).mono ?_;rintro _ w1⟨v7,rfl,ho7,hb1⟩;obtain⟨gg,cg,rfl,hgg,hggl⟩:=ho7.form (by omega);have HO7:=gH ho7;have HB1:=gH hb1;have hm4:(K.length+3)/4<=1000:=by omega
 have hm0:0< (K.length+3)/4:=by omega
 have HM:=gS ((K.length+3)/4<=1000/\0< (K.length+3)/4) (⟨hm4,hm0⟩);have HML:=gS (∀j,j< (K.length+3)/4->4*j<K.length) (fun j hj=>by omega);clear ho7 hb1 hm4 hm0;generalize hmm:(K.length+3)/4=m at*;have HMM:=gH hmm;clear hmm;go_wp2_with fail
 go_loopg [3,9] m (fun gk v3 v9 wq=>∃i:Nat,gk=m-i/\v9=I i/\i<=m/\wq.ownsRow w1.heap.size 90 39 v3 i ((List.range i).flatMap (upV g o n K))/\Below w1.heap.size w1 wq)
 case atStart=>exact⟨0,by omega,rfl,by omega,World.ownsRow_nil _ _ _ _,Below.refl _ _⟩
 case round=>
  obtain⟨i,hgk,rfl,hi,ho,hb⟩:=hrel;have HGK:=gH hgk;have HO:=gH ho;have HB:=gH hb;have hs:=hb.size;clear hgk ho hb;by_cases hlt:i<m
  ·have hm1:=HM.out.1;have hci:wr.cell? ⟨gg,i,none⟩=some (groupV 39 g o K.length i):=by
    refine(HB.out.cell (p:=⟨gg,i,none⟩) hggl).trans ?_;rw[HO7.out.cellAt i (by omega)];simp[groupsV,hlt]
   have h4:=HML.out i hlt;have HBW:=gH (HB1.out.trans (HB.out.mono HB1.out.size));have hG0:(K.drop (4*i)).take 4≠[]:=fun e=>by have:=congrArg List.length e;simp at this;omega
   (have hG4:((K.drop (4*i)).take 4).length<=4:=by simp;omega);have hGR:=group_rows (w:=wr) (S:=S) (o:=o) (K:=K) (P:=NodeIs wr S n) (g:=g) HGS.out (fun j hj=>by obtain⟨U,hU,hr⟩:=HRD.out j hj;exact⟨U,NodeIs.keep (gD HBW.out HSS.out) (fun _ h=>h) n _ _ hU,oo hr HBW.out hgB⟩) i
   have HN:=gH (nodeOf_any (groupV 39 g o K.length i) n ((K.drop (4*i)).take 4) wr S (fun g hg=>Nat.lt_of_lt_of_le (HSS.out g hg) HBW.out.size) hG0 hG4 hGR (fun t ht=>HNUM.out t (List.mem_of_mem_drop (List.mem_of_mem_take ht))) (HK.out.below HBW.out));have HN:=gS (Calls Tryz.prog 113 #[groupV 39 g o K.length i] wr fun e w'=>e=.returned (.agg (upV g o n K i).toArray)/\Below wr.heap.size wr w') HN.out;have HR:=gH (upV_row g o n K i);have HST:=gH (Gj (upV g o n K) i);generalize groupV 39 g o K.length i=gv at*;generalize upV g o n K i=M at*;clear hGR hG0 hG4 h4;(go_wp2_with fail);refine HN.out.mono ?_;rintro _ w2⟨rfl,hb2⟩;have hs2:=hb2.size;obtain⟨v3,w3,h3,ho3,hg3,hf3⟩:=append_node (w:=w2) M HR.out (ownsRow_below HO.out hb2) (by omega) (by have:=HM.out;omega);have HO3:=gS (w3.ownsRow w1.heap.size 90 39 v3 (i+1) ((List.range (i+1)).flatMap (upV g o n K))) (by rw[HST.out];exact ho3);have HB3:=gH ((HB.out.trans (hb2.mono hs)).grown hg3 (by omega) (fun k hk=>(HO.out.lt k hk).1));have HF:=gH (fun(cells:Array Value) (hc:cells.size=i0.size)=>fill_one (s:=i0.size) (by rw[HZ1.out];decide) M.toArray cells (by rw[HZ1.out,HR.out.size]) hc);obtain⟨a3,c3,e3⟩:∃a c,u3=.slice a i c:=by
    rcases HO.out.2 with⟨e,h⟩| ⟨g',c',_,e,_⟩
    ·exact⟨none,0,by rw[e,h]⟩
    ·exact⟨_,c',e⟩
   subst e3;clear ho3 hg3 hf3 hb2 HN;(go_wp2_with (first| (refine wpList_buildSlice rfl 86 90 1 #[(0,.tmp 15)] rfl M.toArray i0 zeroNode Tryz.underlying86 hi0 hz0 (by rw[HZ1.out];decide) (by rw[HZ1.out];decide) (by rw[Array.toList_map];exact HF.out _ (by simp)) ?_)| (at_builtin;refine Lib.wpList_append_run _ rfl (.tmp 13) (.tmp 16) 86 86 rfl _ _ rfl rfl _ _ h3 ?_)));go_roundg (m-(i+1))
   case measure=>have:=HGK.out;omega
   case rel=>exact⟨i+1,rfl,by go_num,by omega,HO3.out,HB3.out⟩
  ·(have ei:i=m:=by omega);subst ei;go_wp2;go_ret;have hBW:=HB1.out.trans (HB.out.mono HB1.out.size);refine⟨_,rfl,level_of_own HO.out (by rw[List.length_map,Wd.gP];exact HMM.out) HM.out.2 (fun j _=>(upV_row g o n K j).len) (fun j hj=>?_) (fun g h1 h2=> .inr ⟨Nat.le_trans HB1.out.size h1,h2⟩),hBW⟩;exact up_is (.inl HGS.out) (fun j hj=>by obtain⟨U,hU,hr⟩:=HRD.out j hj;exact⟨U,NodeIs.keep (gD hBW HSS.out) (fun _ h=> .inl h) n _ _ hU,oo hr hBW hgB⟩) j hj
def leafV(g o:Nat)(L:List Wd.Pt)(j:Nat):List Value:=nodeV (groupV 3 g o L.length j) (.slice none 0 0) (Wd.box 0 ((L.drop (4*j)).take 4)) (((L.drop (4*j)).take 4).length:Nat) ((Sha.sha (Wd.leafText ((L.drop (4*j)).take 4))).map Y)
theorem leafV_row(g o:Nat)(L:List Wd.Pt)(j:Nat):Row39 (leafV g o L j):=gU (oz _)
theorem group_pts{w:World}{S:Nat->Prop}{g o:Nat}{L:List Wd.Pt}(hB:S g)(h:∀i (h:i<L.length),PtAt w g (o+i*3) L[i])(j:Nat):
  ReadsS w S (groupV 3 g o L.length j) ((L.drop (4*j)).take 4):=by
 have hl:((L.drop (4*j)).take 4).length=min 4 (L.length-4*j):=by simp
 refine⟨some ⟨g,o+4*j*3,none⟩,min 4 (L.length-4*j),by rw[hl];rfl,fun _=>⟨g,o+4*j*3,rfl,hB,fun i hi=>?_⟩⟩;rw[hl] at hi;have hr:=h (4*j+i) (by omega);rw[List.getElem_take,List.getElem_drop,show o+4*j*3+i*3=o+(4*j+i)*3 by omega];exact hr
theorem leaf_is{w:World}{S:Nat->Prop}{g o:Nat}{L:List Wd.Pt}(hB:S g)(h:∀i (h:i<L.length),PtAt w g (o+i*3) L[i])(j:Nat)(hj:j< ((Wd.fours L).map (Wd.mk Sha.sha 0)).length):
  NodeIs w S 1 ((Wd.fours L).map (Wd.mk Sha.sha 0))[j] (leafV g o L j):=by
 rw[List.getElem_map,Wd.GG];exact⟨groupV 3 g o L.length j,.slice none 0 0,rfl,oz _,group_pts hB h j,⟨none,0,rfl,fun e=>absurd rfl e⟩⟩
theorem up_level(n:Nat)(ls:List (Wd.T n)):(Wd.fours (ls.map (Wd.mk Sha.sha n))).map (Wd.upN (n+1))=(Wd.fours ls).map (Wd.mk Sha.sha (n+1)):=by rw[Wd.fours_map,List.map_map];exact List.map_congr_left fun G _=>Wd.up_mk n G
theorem Level.mono{w:World}{S S':Nat->Prop}{v:Value}{n:Nat}{K:List (Wd.NT n)}(h:Level w S v n K)(hS:∀g,S g->S' g):Level w S' v n K:=⟨h.1.keep (fun _ _=>rfl) hS (NodeIs.keep (fun _ _=>rfl) hS n),h.2⟩
def Built(w:World)(L:List Wd.Pt)(e:Ending)(w':World):Prop:=∃V,e=.returned (.agg V.toArray)/\NodeIs w' (fun g=>g<w'.heap.size) ((Wd.tree L).1+1) (Wd.mk Sha.sha (Wd.tree L).1 (Wd.tree L).2) V/\Below w.heap.size w w'
theorem count_le{n:Nat}{ls:List (Wd.T n)}{L:List Wd.Pt}(h:Wd.ptsL n ls=L):∀t∈ls.map (Wd.mk Sha.sha n),0<=Wd.numN (n+1) t/\Wd.numN (n+1) t<=L.length:=by
 intro t ht;obtain⟨u,hu,rfl⟩:=List.mem_map.1 ht;rw[Wd.mk_num,Wd.count_pts];have h1:(Wd.pts n u).length<=L.length:=by rw[<-h];unfold Wd.ptsL;have:=List.sublist_flatten_of_mem (List.mem_map_of_mem (f:=Wd.pts n) hu);rw[<-List.flatMap_def] at this;exact this.length_le
 omega
theorem build_any(v:Value)(L:List Wd.Pt)(w:World)(hL:L.length<=150)(hcap:∃a c,v=.slice a L.length c/\L.length<=c/\c<=maxLen)(hp:ReadsS w (fun g=>g<w.heap.size) v L)(hKT:KT w):
  Calls Tryz.prog 38 #[v] w fun e w'=>Built w L e w':=by
 obtain⟨a,c,rfl,hc1,hc2⟩:=hcap;obtain⟨a',c',e',hrd⟩:=hp;injection e' with e1 e2 e3;subst e1 e3;clear e2;have HRD:=gH hrd;have HK:=gH hKT;clear hrd hKT;obtain⟨fs,hu⟩:=underNode;have HU:=gH hu;clear hu;obtain⟨i0,hi0,hz0,hz1,hz2⟩:=info_parts Tryz.infoNodeZ;have HZ1:=gH hz1;have HSZ:=gS ((nodeV (.slice none 0 0) (.slice none 0 0) ⟨0,0,0,0⟩ 0 zero32).toArray.size=39) (oS (by rfl));clear hz1;go_enter Tryz.func38,Tryz.ntmps38
 go_upto_region 1 with fail
 have hb0':=gB w;have hr0':=heap_alloc_new w;have hs0':=fun o=>show(w.alloc o).heap.size=w.heap.size+1 by simp
 generalize hW:World.alloc w _=w0;have hb0:Below w.heap.size w w0:=by rw[<-hW];exact hb0' _
 have hr0:w0.heap[w.heap.size]? =some (.cells (nodeV (.slice none 0 0) (.slice none 0 0) ⟨0,0,0,0⟩ 0 zero32).toArray 90 (0,0)):=by rw[<-hW];exact hr0' _
 have hs0:w0.heap.size=w.heap.size+1:=by rw[<-hW];exact hs0' _
 clear hb0' hr0' hs0' hW;have HB0:=gH hb0;have HR0:=gH hr0;have HS0:=gH hs0;clear hb0 hr0 hs0;by_cases hne:L=[]
 ·obtain⟨E,hE⟩:∃E:List Wd.Pt,E=[]:=⟨[],rfl⟩;have HT:=gS (Wd.tree L=⟨0,E⟩) (by rw[hE,hne];rfl);have HLF:=gH (fun W hK=>leafOf_any (.slice none 0 0) E W (by rw[hE];simp) ⟨none,0,by rw[hE];rfl,fun e=>absurd hE e⟩ hK);have HR:=gS (Row39 (nodeV (.slice none 0 0) (.slice none 0 0) (Wd.box 0 E) ((E.length:Nat):Int) ((Sha.sha (Wd.leafText E)).map Y))) (gU (oz _));have HN:=gS (∀W S,NodeIs W S 1 (Wd.mk Sha.sha 0 E) (nodeV (.slice none 0 0) (.slice none 0 0) (Wd.box 0 E) ((E.length:Nat):Int) ((Sha.sha (Wd.leafText E)).map Y))) (fun W S=>⟨.slice none 0 0,.slice none 0 0,rfl,oz _,⟨none,0,by rw[show Wd.Nd.pts (Wd.mk Sha.sha 0 E)=E from rfl,hE];rfl,fun e=>absurd hE e⟩,⟨none,0,rfl,fun e=>absurd rfl e⟩⟩);generalize nodeV (.slice none 0 0) (.slice none 0 0) (Wd.box 0 E) ((E.length:Nat):Int) ((Sha.sha (Wd.leafText E)).map Y)=M at*;have h0:L.length=0:=by rw[hne];rfl
  clear hne hE;rw[h0];go_wp2_with fail
  refine(HLF.out _ (HK.out.below HB0.out)).mono ?_;rintro _ w1⟨rfl,hb1⟩;have hr1:=(hb1.block w.heap.size (by have:=HS0.out;omega)).trans HR0.out;have HB1:=gH hb1;have HR1:=gH hr1;have HSE:=gS ((nodeV (.slice none 0 0) (.slice none 0 0) ⟨0,0,0,0⟩ 0 zero32).toArray.size=M.toArray.size) (by rw[HSZ.out,HR.out.size]);clear hb1 hr1;go_wp2_with (refine wpList_store_row rfl 90 (.tmp 2) (.tmp 9) rfl w.heap.size M.toArray rfl rfl 90 _ HR1.out HR.out.info HSE.out HR.out.one ?_)
  refine bodyPost_ret (v:=.agg M.toArray) ?_ rfl ⟨M,rfl,by rw[HT.out];exact HN.out _ _,below_setRow (HB0.out.trans (HB1.out.mono HB0.out.size)) gR _⟩;exact results_cell_row rfl _ _ w.heap.size 90 M.toArray (0,0) (.struct fs) rfl (gW HR1.out) HU.out rfl HR.out.info
 ·obtain⟨g,o,rfl,hgB,hpts⟩:=HRD.out hne;have HPT:=gH hpts;have hp0:0<L.length:=List.length_pos_iff.2 hne;have hp1:¬(L.length:Int)=0:=by omega
  clear hpts;go_wp2_with fail
  refine(foursPt_any g o L.length c w0 (by omega) hc1 hc2).mono ?_;rintro _ w1⟨v7,rfl,ho7,hb1⟩;obtain⟨gg,cg,rfl,hgg,hggl⟩:=ho7.form (by omega);have HO7:=gH ho7;have HB1:=gH hb1;have HM:=gS ((L.length+3)/4<=1000/\0< (L.length+3)/4) (by omega);have HML:=gS (∀j,j< (L.length+3)/4->4*j<L.length) (fun j hj=>by omega);clear ho7 hb1 hp1;generalize hmm:(L.length+3)/4=m at*;have HMM:=gH hmm;clear hmm;go_wp2_with fail
  go_loopg [3,13] m (fun gk v3 v13 wq=>∃i:Nat,gk=m-i/\v13=I i/\i<=m/\wq.ownsRow w1.heap.size 90 39 v3 i ((List.range i).flatMap (leafV g o L))/\Below w1.heap.size w1 wq)
  case atStart=>exact⟨0,by omega,rfl,by omega,World.ownsRow_nil _ _ _ _,Below.refl _ _⟩
  case round=>
   obtain⟨i,hgk,rfl,hi,ho,hb⟩:=hrel;have HGK:=gH hgk;have HO:=gH ho;have HB:=gH hb;have hs:=hb.size;clear hgk ho hb;have HBW:=gH (HB0.out.trans ((HB1.out.mono HB0.out.size).trans (HB.out.mono (Nat.le_trans HB0.out.size HB1.out.size))));by_cases hlt:i<m
   ·have hm1:=HM.out.1;have hci:wr.cell? ⟨gg,i,none⟩=some (groupV 3 g o L.length i):=by
     refine(HB.out.cell (p:=⟨gg,i,none⟩) hggl).trans ?_;rw[HO7.out.cellAt i (by omega)];simp[groupsV,hlt]
    (have hG4:((L.drop (4*i)).take 4).length<=4:=by simp;omega);have hGR:=group_pts (w:=wr) (S:=fun g=>g<wr.heap.size) (o:=o) (L:=L) (g:=g) (by have:=HBW.out.size;show g<wr.heap.size;omega) (fun j hj=>(HPT.out j hj).below HBW.out hgB) i;have HN:=gH (leafOf_any (groupV 3 g o L.length i) ((L.drop (4*i)).take 4) wr hG4 (hGR.low (fun _ h=>h)) (HK.out.below HBW.out));have HN:=gS (Calls Tryz.prog 70 #[groupV 3 g o L.length i] wr fun e w'=>e=.returned (.agg (leafV g o L i).toArray)/\Below wr.heap.size wr w') HN.out;have HR:=gH (leafV_row g o L i);have HST:=gH (Gj (leafV g o L) i);generalize groupV 3 g o L.length i=gv at*;generalize leafV g o L i=M at*;clear hGR hG4;(go_wp2_with fail);refine HN.out.mono ?_;rintro _ w2⟨rfl,hb2⟩;have hs2:=hb2.size;obtain⟨v3,w3,h3,ho3,hg3,hf3⟩:=append_node (w:=w2) M HR.out (ownsRow_below HO.out hb2) (by omega) (by have:=HM.out;omega);have HO3:=gS (w3.ownsRow w1.heap.size 90 39 v3 (i+1) ((List.range (i+1)).flatMap (leafV g o L))) (by rw[HST.out];exact ho3);have HB3:=gH ((HB.out.trans (hb2.mono hs)).grown hg3 (by omega) (fun k hk=>(HO.out.lt k hk).1));have HF:=gH (fun(cells:Array Value) (hc:cells.size=i0.size)=>fill_one (s:=i0.size) (by rw[HZ1.out];decide) M.toArray cells (by rw[HZ1.out,HR.out.size]) hc);obtain⟨a3,c3,e3⟩:∃a c,u3=.slice a i c:=by
     rcases HO.out.2 with⟨e,h⟩| ⟨g',c',_,e,_⟩
     ·exact⟨none,0,by rw[e,h]⟩
     ·exact⟨_,c',e⟩
    subst e3;clear ho3 hg3 hf3 hb2 HN;(go_wp2_with (first| (refine wpList_buildSlice rfl 86 90 1 #[(0,.tmp 19)] rfl M.toArray i0 zeroNode Tryz.underlying86 hi0 hz0 (by rw[HZ1.out];decide) (by rw[HZ1.out];decide) (by rw[Array.toList_map];exact HF.out _ (by simp)) ?_)| (at_builtin;refine Lib.wpList_append_run _ rfl (.tmp 17) (.tmp 20) 86 86 rfl _ _ rfl rfl _ _ h3 ?_)));go_roundg (m-(i+1))
    case measure=>have:=HGK.out;omega
    case rel=>exact⟨i+1,rfl,by go_num,by omega,HO3.out,HB3.out⟩
   ·(have ei:i=m:=by omega);subst ei;have hlev:Level wr (fun g=>g≠w.heap.size/\g<wr.heap.size) u3 1 ((Wd.fours L).map (Wd.mk Sha.sha 0)):=level_of_own HO.out (by rw[List.length_map,Wd.gP];exact HMM.out) HM.out.2 (fun j _=>(leafV_row g o L j).len) (fun j hj=>leaf_is (by have:=HBW.out.size;show g≠w.heap.size/\g<wr.heap.size;omega) (fun j hj=>(HPT.out j hj).below HBW.out hgB) j hj) (fun g h1 h2=>by have:=HB1.out.size;have:=HS0.out;omega);have HLV:=gH hlev;have HBA:=gS (Below w0.heap.size w0 wr) (HB1.out.trans (HB.out.mono HB1.out.size));clear hlev;(go_wp2_with fail);go_loopg [3] i (fun gk v3 wq=>∃(n:Nat) (ls:List (Wd.T n)) (k:Nat),gk=ls.length/\ls≠[]/\ls.length<k/\ls.length<=150/\Wd.climb k n ls=Wd.tree L/\Wd.ptsL n ls=L/\Level wq (fun g=>g≠w.heap.size/\g<wq.heap.size) v3 (n+1) (ls.map (Wd.mk Sha.sha n))/\Below w0.heap.size w0 wq)
    case atStart=>
     refine⟨0,Wd.fours L,L.length+2,by rw[Wd.gP];exact HMM.out.symm,fun e=>by have h:=congrArg List.length e;rw[Wd.gP,HMM.out] at h;have:=HM.out;simp at h;omega,by rw[Wd.gP];omega,by rw[Wd.gP];omega,?_,?_,HLV.out,HBA.out⟩
     ·rw[Wd.tree,Wd.leaves,if_neg (by omega)]
     ·have h:=Wd.leaves_pts L;rw[Wd.leaves,if_neg (by omega)] at h;exact h
    case round=>
     clear HLV HBA HB HO HO7 HBW HGK HM HML HMM HB1 HRD HPT;obtain⟨n,ls,k,hgk,hls,hk,h150,hcl,hpt,hlev,hb⟩:=hrel;have HGK:=gH hgk;have HLS:=gH hls;have HLK:=gH hk;have HCL:=gH hcl;have HPT:=gH hpt;have HLV:=gH hlev;have HB:=gH hb;obtain⟨-,a3,c3,e3,hc3,hc4⟩:=hlev;rw[List.length_map] at e3;subst e3;have hsz:=HB.out.size;have hs0:=HS0.out;have HSL:=gH hsz;have hrr:=(HB.out.block w.heap.size (by omega)).trans HR0.out;have HRR:=gH hrr;clear hgk hls hk hcl hpt hb hrr hs0 hsz;by_cases h1:ls.length=1
     ·obtain⟨t,rfl⟩:=List.length_eq_one_iff.1 h1;have hT:Wd.tree L=⟨n,t⟩:=by
       have h:=HCL.out;obtain⟨k',rfl⟩:∃k',k=k'+1:=⟨k-1,by have:=HLK.out;omega⟩;rw[Wd.GK] at h;exact h.symm
      obtain⟨a5,c5,e5,hrows⟩:=HLV.out.1;obtain⟨g5,o5,rfl,hS5,hr5⟩:=hrows (by simp);injection e5 with e6 e7 e8;subst e6 e8;clear e7;obtain⟨U,hU,hc⟩:=hr5 0 (by simp);rw[Nat.zero_mul,Nat.add_zero] at hc;have hU':NodeIs wr (fun g=>g≠w.heap.size/\g<wr.heap.size) (n+1) (Wd.mk Sha.sha n t) U:=hU;have HUU:=gH hU';have HC:=gH hc;obtain⟨b1,l1,d1,b2,l2,d2,hV,hd⟩:=hU'.cells;have HR:=gS (Row39 U) (by rw[hV];exact gU hd);have HSE:=gS ((nodeV (.slice none 0 0) (.slice none 0 0) ⟨0,0,0,0⟩ 0 zero32).toArray.size=U.toArray.size) (by rw[HSZ.out,HR.out.size]);have HT:=gH hT;clear hT hV hd hU hU' hc hr5 hrows h1;(go_wp2_with (first| (refine wpList_load_mid rfl 90 (.tmp 29) rfl g5 o5 rfl U (.struct fs) HC.out HU.out rfl HR.out.infl ?_)| (refine wpList_store_row rfl 90 (.tmp 2) (.tmp 30) rfl w.heap.size U.toArray rfl rfl 90 _ HRR.out HR.out.info HSE.out HR.out.one ?_)));have hbw:=HB0.out.trans (HB.out.mono HB0.out.size);refine bodyPost_ret (v:=.agg U.toArray) ?_ rfl ⟨U,rfl,?_,below_setRow hbw gR _⟩
      ·exact results_cell_row rfl _ _ w.heap.size 90 U.toArray (0,0) (.struct fs) rfl (gW HRR.out) HU.out rfl HR.out.info
      ·rw[HT.out];exact NodeIs.keep (fun g hg=>setRow_other _ _ _ _ hg.1) (fun g hg=>by have:=hg.2;show g<_;rw[setRow_size];exact this) (n+1) _ U HUU.out
     ·have h2:(1:Int)< (ls.length:Int):=by
       have h:ls.length≠0:=fun e=>HLS.out (List.length_eq_zero_iff.1 e);omega
      have HAB:=gH (above_any (.slice a3 ls.length c3) (n+1) (ls.map (Wd.mk Sha.sha n)) wr (fun g=>g≠w.heap.size/\g<wr.heap.size) (fun _ h=>h.2) (fun e=>HLS.out (List.map_eq_nil_iff.1 e)) (by rw[List.length_map];omega) HLV.out (fun t ht=>by obtain⟨h3,h4⟩:=count_le HPT.out t ht;exact⟨h3,by omega⟩) (HK.out.below (HB0.out.trans (HB.out.mono HB0.out.size))))
      (go_wp2_with fail);refine HAB.out.mono ?_;rintro _ w2⟨v2,rfl,hlev2,hb2⟩;rw[up_level] at hlev2;have HLV2:=gH hlev2;have HB2:=gH hb2;clear hlev2 hb2 HAB;(go_wp2_with fail);go_roundg (Wd.fours ls).length
      case measure=>have:=HGK.out;rw[Wd.gP];omega
      case rel=>
       have hfl:=Wd.gP ls;obtain⟨k',ek⟩:∃k',k=k'+1:=⟨k-1,by have:=HLK.out;omega⟩;refine⟨n+1,Wd.fours ls,k',rfl,fun e=>by rw[e] at hfl;simp at hfl;omega,by have:=HLK.out;omega,by omega,?_,?_,HLV2.out.mono (fun g hg=>?_),HB.out.trans (HB2.out.mono HB.out.size)⟩
       ·rw[<-HCL.out,ek,Wd.Gb _ _ _ h1]
       ·rw[Wd.ptsL_fours];exact HPT.out
       ·have h3:=HB2.out.size;have h4:=HSL.out;have h5:=HS0.out;rcases hg with hg|hg
        ·exact⟨hg.1,Nat.lt_of_lt_of_le hg.2 h3⟩
        ·exact⟨by omega,hg.2⟩
end Go.Proofs.YtenaelkbgkpllaaGreatDoor
