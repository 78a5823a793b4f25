/- Part 35 of what the four laws rest on: laid by a program out of the texts of wip/T. -/
import Derived.Test.YtenaelkbgkpllaaGreatDoorLaw32
import Derived.Test.YtenaelkbgkpllaaGreatDoorLaw34
import Derived.Deep.Slices
import Derived.OpenShut
import Derived.SizedLaws
set_option maxRecDepth 100000
set_option maxHeartbeats 8000000
namespace Go.Proofs.YtenaelkbgkpllaaGreatDoor
open Go.RowKit
theorem same_law(va vb:Value)(A B:List Wd.Pt)(w:World)(ha:Reads w va A)(hb:Reads w vb B)(hl:A.length<=1000):
  Calls Tryz.prog 95 #[va,vb] w fun e w'=>(∃r:Bool,e=.returned (.bool r)/\(r=true↔A=B))/\Below w.heap.size w w':=by
 obtain⟨aa,ca,ea, -⟩:=id ha;obtain⟨ab,cb,eb, -⟩:=id hb;subst ea eb;have HA:=gH ha.point.2;have HB:=gH hb.point.2;clear ha hb;go_enter Tryz.func95,Tryz.ntmps95
 by_cases hlen:A.length=B.length
 ·have hlen':(A.length:Int)=(B.length:Int):=by omega
  have HLN:=gH hlen;clear hlen;go_wp2_with fail
  clear hlen';go_loopg [5] A.length (fun gk v5 wq=>∃i:Nat,gk=A.length-i/\v5=I i/\i<=A.length/\A.take i=B.take i/\Below w.heap.size w wq)
  case atStart=>exact⟨0,by omega,rfl,by omega,rfl,Below.refl _ _⟩
  case round=>
   obtain⟨i,hgk,rfl,hi,ht,hbl⟩:=hrel;have HGK:=gH hgk;have HT:=gH ht;have HBL:=gH hbl;clear hgk ht hbl;by_cases hlt:i<A.length
   ·(have hlt2:i<B.length:=by rw[<-HLN.out];exact hlt);obtain⟨g,o,rfl,hp⟩:=HA.out i hlt;obtain⟨g2,o2,rfl,hq⟩:=HB.out i hlt2;have hp0:=hp wr HBL.out;have hq0:=hq wr HBL.out;have HST:=gH (take_step A B i hlt hlt2 HT.out);have HNE:=gS (A[i]≠B[i]->A≠B) (fun h e=>h (by subst e;rfl));have hE:=eqPt A[i] B[i];have HEQ:=gH (ptEq_iff A[i] B[i]);generalize A[i]=p at*;generalize B[i]=q at*;obtain⟨p1,p2,p3⟩:=hp0;obtain⟨q1,q2,q3⟩:=hq0;generalize ptEq p q=b3 at*;clear hp hq;(go_wp2_with fail);(go_quiet (fail));have HBQ:=gS (Below w.heap.size w (wr.drewN nq)) (HBL.out.trans ⟨rfl,rfl,rfl,Nat.le_refl _,fun _ _=>rfl⟩);generalize World.drewN wr nq=w9 at*;cases b3 with
    |true=>
     (go_wp2_with fail);go_roundg (A.length-(i+1))
     case measure=>have:=HGK.out;omega
     case rel=>exact⟨i+1,rfl,by go_num,hlt,HST.out (HEQ.out.1 (by trivial)),HBQ.out⟩
    |false=>(go_wp2_with fail);go_ret;exact⟨⟨false,rfl,⟨fun h=>(by cases h),fun h=>absurd h (HNE.out (fun e=>by have:=HEQ.out.2 e;simp at this))⟩⟩,HBQ.out⟩
   ·(have ei:i=A.length:=by omega);subst ei;(go_wp2_with fail);go_ret;refine⟨⟨true,rfl,⟨fun _=>?_,fun _=>rfl⟩⟩,HBL.out⟩;have h:=HT.out;rw[List.take_length,HLN.out,List.take_length] at h;exact h
 ·have hlen':¬(A.length:Int)=(B.length:Int):=by omega
  go_wp2_with fail
  go_ret;exact⟨⟨false,rfl,⟨fun h=>(by cases h),fun h=>absurd (by rw[h]) hlen⟩⟩,Below.refl _ _⟩
theorem HoldIs.view{T:Nat->Prop}{w:World}{h:Nat}(hh:HoldIs T w h):∃(a:Option Addr) (c:Nat) (m:Int) (sl:List Value),sl.length<=9/\∀w',Below w.heap.size w w'->w'.cell? ⟨h,0,none⟩=some (.slice a sl.length c)/\w'.cell? ⟨h,1,none⟩=some (I m)/\∀k,(hk:k<sl.length)->∃g,a=some ⟨g,0,none⟩/\w'.cell? ⟨g,k,none⟩=some sl[k]/\Marked T w' m sl[k]:=by
 obtain⟨hT,vp,m,sl,h1,h2,h3,h4,h5⟩:=hh;have hlt:h<w.heap.size:=(gL h1);have key:∀{a c},vp=.slice a sl.length c->(∀k,(hk:k<sl.length)->∃g,a=some ⟨g,0,none⟩)->∃(a:Option Addr) (c:Nat) (m:Int) (sl:List Value),sl.length<=9/\∀w',Below w.heap.size w w'->w'.cell? ⟨h,0,none⟩=some (.slice a sl.length c)/\w'.cell? ⟨h,1,none⟩=some (I m)/\∀k,(hk:k<sl.length)->∃g,a=some ⟨g,0,none⟩/\w'.cell? ⟨g,k,none⟩=some sl[k]/\Marked T w' m sl[k]:=by intro a c e hk;subst e;refine⟨a,c,m,sl,h4,fun w' hb=>?_⟩;have hrow:=(hb.block h hlt).trans h1;refine⟨by rw[gC hrow];rfl,by rw[gC hrow];rfl,fun k hkk=>?_⟩;obtain⟨g,rfl⟩:=hk k hkk;have h2':=gi (S:=fun _=>False) h2 (Keeps.of_below hb) (fun _ _ h=>h);have hc:=h2'.cells (g:=g) rfl k sl[k] (List.getElem?_eq_getElem hkk);rw[Addr.add_lit,Nat.zero_add] at hc;exact⟨g,rfl,hc,(h5 _ (List.getElem_mem hkk)).keeps (S:=fun _=>False) (Keeps.of_below hb) (fun k _ hT=>⟨fun h=>h,hT⟩)⟩
 rcases h2.2 with⟨rfl,h0⟩| ⟨g,c,cur,rfl,_⟩
 ·exact key (by rw[h0]) (fun k hk=>by omega)
 ·exact key rfl (fun k hk=>⟨g,rfl⟩)
theorem Marked.view{T:Nat->Prop}{w:World}{m:Int}{s:Value}(h:Marked T w m s):∃a n c,s=.slice a n c/\n<=100000/\∀w',Below w.heap.size w w'->∀i,i<n->∃g o,a=some ⟨g,o,none⟩/\w'.cell? ⟨g,o+i*3,none⟩=some (I m)/\w'.cell? ⟨g,o+i*3+1,none⟩=some (I 0)/\w'.cell? ⟨g,o+i*3+2,none⟩=some (I 0):=by obtain⟨a,n,c,e,hn,hr⟩:=h;refine⟨a,n,c,e,hn,fun w' hb i hi=>?_⟩;obtain⟨g,o,ea,_,hp⟩:=hr i hi;have hp':=hp.below hb hp.lt;exact⟨g,o,ea,hp'.1,hp'.2.1,hp'.2.2⟩
theorem eqMark(m:Int):∀W,(Op.equalIn 10000 36 (.agg #[I m,I 0,I 0]) (.agg #[I m,I 0,I 0])).run Tryz.prog W=.ok true W:=fun W=>by have h:=eqPt ⟨m,0,0⟩ ⟨m,0,0⟩ W;rw[(ptEq_iff ⟨m,0,0⟩ ⟨m,0,0⟩).2 rfl] at h;exact h
theorem looks_law(T:Nat->Prop)(W0:Nat)(vp vh:Value)(ps:List Pr)(hs:List Nat)(w:World)(hL:LawAt w W0 vp vh ps hs)(hH:∀h∈hs,HoldIs T w h)(hn:hs.length<=1000000000000000):
  Calls Tryz.prog 29 #[.pointer (some ⟨W0,0,none⟩)] w fun e w'=>e=.returned (.bool true)/\Below w.heap.size w w':=by
 have HL:=gS (∃(a:Option Addr) (c:Nat),∀w',Below w.heap.size w w'->w'.cell? ⟨W0,1,none⟩=some (.slice a hs.length c)/\∀i,(h:i<hs.length)->∃g,a=some ⟨g,0,none⟩/\w'.cell? ⟨g,i,none⟩=some (.pointer (some ⟨hs[i],0,none⟩))) (by
  have key:∀{a c},vh=.slice a hs.length c->(∀i,(h:i<hs.length)->∃g,a=some ⟨g,0,none⟩)->∃(a:Option Addr) (c:Nat),∀w',Below w.heap.size w w'->w'.cell? ⟨W0,1,none⟩=some (.slice a hs.length c)/\∀i,(h:i<hs.length)->∃g,a=some ⟨g,0,none⟩/\w'.cell? ⟨g,i,none⟩=some (.pointer (some ⟨hs[i],0,none⟩)):=by intro a c e hk;subst e;refine⟨a,c,fun w' hb=>?_⟩;have hL':=hL.keeps (S:=fun _=>False) (Keeps.of_below hb) (fun _ _ h=>h);refine⟨by rw[gC hL'.row];rfl,fun i hi=>?_⟩;obtain⟨g,rfl⟩:=hk i hi;have hc:=hL'.holds.cells (g:=g) rfl i (hdV hs[i]) (by rw[List.getElem?_map,List.getElem?_eq_getElem hi];rfl);rw[Addr.add_lit,Nat.zero_add] at hc;exact⟨g,rfl,hc⟩
  rcases hL.holds.2 with⟨e,h0⟩| ⟨g,c,cur,e,_⟩
  ·exact key (by rw[e,h0]) (fun i hi=>by omega)
  ·exact key e (fun i hi=>⟨g,rfl⟩))
 have HH:=gH (fun i (h:i<hs.length)=>(hH _ (List.getElem_mem h)).view);clear hL hH;obtain⟨ah,ch,HL⟩:=HL.out;have HL:=gH HL;go_enter Tryz.func29,Tryz.ntmps29
 go_wp2_with fail
 go_loopw [3] (fun v3 wq=>∃i:Nat,i<=hs.length/\v3=I i/\Below w.heap.size w wq) (fun v3 _=>hs.length-(intOf v3).toNat)
 case atStart=>exact⟨0,by omega,rfl,Below.refl _ _⟩
 case round=>
  obtain⟨i,hi,rfl,hb⟩:=hrel;have HB:=gH hb;obtain⟨hc1,hat⟩:=HL.out wr hb;by_cases hlt:i<hs.length
  ·obtain⟨gh,rfl,hcg⟩:=hat i hlt;obtain⟨a,c,m,sl,hsl,HV⟩:=HH.out i hlt;have HV:=gH HV;generalize hs[i]=x at*;clear hb hat;(go_wp2_with fail);go_loopw [5] (fun v5 wq=>∃k:Nat,k<=sl.length/\v5=I k/\Below w.heap.size w wq) (fun v5 _=>sl.length-(intOf v5).toNat)
   case atStart=>exact⟨0,by omega,rfl,HB.out⟩
   case round=>
    clear hc1 hcg;obtain⟨k,hk,rfl,hb⟩:=hrel;have HB2:=gH hb;obtain⟨hv0,hv1,hva⟩:=HV.out wr hb;by_cases hlt2:k<sl.length
    ·obtain⟨gs,rfl,hcs,hmk⟩:=hva k hlt2;obtain⟨a2,n2,c2,es,hn2,HMK⟩:=hmk.view;have HMK:=gH HMK;rw[es] at hcs;clear hb hva hmk es;obtain⟨w3,hw3⟩:∃w3,w3=wr:=⟨_,rfl⟩;subst hw3;have HC:=gH (fun wq (hb:Below w3.heap.size w3 wq)=>show wq.cell? ⟨x,0,none⟩=some (.slice (some ⟨gs,0,none⟩) sl.length c)/\wq.cell? ⟨x,1,none⟩=some (I m)/\wq.cell? ⟨gs,k,none⟩=some (.slice a2 n2 c2) from⟨(hb.cell (p:=⟨x,0,none⟩) (block_lt_of_cell hv0)).trans hv0,(hb.cell (p:=⟨x,1,none⟩) (block_lt_of_cell hv1)).trans hv1,(hb.cell (p:=⟨gs,k,none⟩) (block_lt_of_cell hcs)).trans hcs⟩);have HE:=gH (eqMark m);(go_wp2_with fail);go_loopw [6] (fun v6 wq=>∃j:Nat,j<=n2/\v6=I j/\Below w3.heap.size w3 wq) (fun v6 _=>n2-(intOf v6).toNat)
     case atStart=>exact⟨0,by omega,rfl,Below.refl _ _⟩
     case round=>
      clear hv0 hv1 hcs;obtain⟨j,hj,rfl,hb3⟩:=hrel;have HB3:=gH hb3;obtain⟨hv0,hv1,hcs⟩:=HC.out wr hb3;by_cases hlt3:j<n2
      ·obtain⟨g,o,rfl,z0,z1,z2⟩:=HMK.out wr hb3 j hlt3;have hE:=HE.out;clear hb3;(go_wp2_with fail);(go_quiet (fail));have HBQ:=gS (Below w3.heap.size w3 (wr.drewN nq)) (HB3.out.trans ⟨rfl,rfl,rfl,Nat.le_refl _,fun _ _=>rfl⟩);generalize World.drewN wr nq=w9 at*;(go_wp2_with fail);go_roundw
       case rel=>exact⟨j+1,hlt3,by go_num,HBQ.out⟩
       case measure=>simp[intOf];omega
      ·(have ej:j=n2:=by omega);subst ej;clear hb3;(go_wp2_with fail);go_roundw
       case rel=>exact⟨k+1,hlt2,by go_num,HB2.out.trans (HB3.out.mono HB2.out.size)⟩
       case measure=>simp[intOf];omega
    ·(have ek:k=sl.length:=by omega);subst ek;clear hb hva;(go_wp2_with fail);go_roundw
     case rel=>exact⟨i+1,hlt,by go_num,HB2.out⟩
     case measure=>simp[intOf];omega
  ·(have ei:i=hs.length:=by omega);subst ei;clear hb hat;(go_wp2_with fail);go_ret;exact⟨rfl,HB.out⟩
section
open Go.ChangeShapes Go.RowKit
structure Opn where
 kind:Int
 m:Int
 a:Int
 p:Wd.Pt
 q:Wd.Qr
 s:List UInt8
 root:List UInt8
 n:Int
def opV(o:Opn):List Value:=[I o.kind,I o.m,I o.a,I o.p.id,I o.p.x,I o.p.y,I o.q.kind,I o.q.a,I o.q.b,I o.q.c,I o.q.d,I o.q.x,I o.q.y,I o.q.k,Sv o.s]++rootV o.root o.n
def I64(n:Int):Prop:= -9223372036854775808<=n/\n<=9223372036854775807
structure Opn.Fit(o:Opn):Prop where
 kind:I64 o.kind
 m:I64 o.m
 a:I64 o.a
 s:o.s.length<=reachBytes
 root:o.root.length=32
theorem opV_len{o:Opn}(h:o.root.length=32):(opV o).length=48:=by unfold opV rootV;simp[h]
structure ArgO(W:World)(a0:Option Addr)(os:List Opn):Prop where
 small:os.length<=900000000000
 fit:∀o∈os,o.Fit
 at_:os≠[]->∃g o,a0=some ⟨g,o,none⟩/\∀i,(h:i<os.length)->W.rangeAt g (o+i*48) (opV os[i])
theorem take_one{cs:List Value}{i:Nat}{v:Value}(h:(cs.drop i).take 1=[v]):cs[i]? =some v:=by
 have h0:((cs.drop i).take 1)[0]? =some v:=by rw[h];rfl
 simpa using h0
theorem sub_at{cs:List Value}{o n i:Nat}(h:i<n):((cs.drop o).take n)[i]? =cs[o+i]? :=by rw[List.getElem?_take_of_lt h,List.getElem?_drop]
theorem list_of{α:Type}{Q:Nat->α->Prop}:∀n,(∀i,i<n->∃o,Q i o)->∃os:List α,os.length=n/\∀i,(h:i<os.length)->Q i os[i]
 |0,_=>⟨[],rfl,fun i h=>by simp at h⟩
 |n+1,h=>by
  obtain⟨os,hl,ho⟩:=list_of n (fun i hi=>h i (by omega));obtain⟨o,hq⟩:=h n (by omega);refine⟨os++[o],by simp[hl],fun i hi=>?_⟩;by_cases e:i<os.length
  ·rw[List.getElem_append_left e];exact ho i e
  ·(have ei:i=n:=by simp at hi;omega);subst ei;rw[List.getElem_append_right (by omega)];simpa[hl] using hq
theorem weights_all{H:Type}{P:Program}{e:TypeId}{d:DataW H}{n:Nat}(hn:n∈d.weights P e):∀{ds:List (DataW H)},d∈ds->n∈DataW.weightsAll P e ds
 |d0::ds,h=>by
  rw[DataW.weightsAll,List.mem_append];rcases List.mem_cons.1 h with rfl|h
  ·exact .inl hn
  ·exact .inr (weights_all hn h)
theorem Tryz.cellsOp:Tryz.prog.cellsOf 76=48:=by kernel_rfl
theorem Tryz.bytesOp:Tryz.prog.bytesOf 76=168:=by kernel_rfl
theorem Tryz.cellsOI:Tryz.prog.cellsOf 3=1:=by kernel_rfl
theorem Tryz.cellsOU:Tryz.prog.cellsOf 5=1:=by kernel_rfl
theorem Tryz.cellsOS:Tryz.prog.cellsOf 9=1:=by kernel_rfl
theorem Tryz.cellsOP:Tryz.prog.cellsOf 36=3:=by kernel_rfl
theorem Tryz.cellsOQ:Tryz.prog.cellsOf 46=8:=by kernel_rfl
theorem Tryz.cellsOC:Tryz.prog.cellsOf 41=33:=by kernel_rfl
theorem Tryz.cellsOA:Tryz.prog.cellsOf 39=32:=by kernel_rfl
def byteOf:Value->UInt8
 | .int _ n=>UInt8.ofNat n.toNat
 |_=>0
theorem byteOf_Y{n:Int}(h:(Lit.int .u8 n).wf=true):Y (byteOf (.int .u8 n))=.int .u8 n:=by
 obtain⟨h0,h1⟩:=bounds_u8 h;show Value.int .u8 ((UInt8.ofNat n.toNat).toNat:Int)=_;have e:(UInt8.ofNat n.toNat).toNat=n.toNat:=by simp;omega
 rw[e];congr 1;omega
section
variable {H : Type} {enc : TypeId × Value → H} {W : World}
theorem zA{n:Nat}{cs:List Value}{i:Nat}{y:DataW H×List MemPlace}(h:DataW.trod enc Tryz.prog W 0 (fun _=>true) true n 3 ((cs.drop i).take (Tryz.prog.cellsOf 3))=some y):∃m:Int,cs[i]? =some (I m)/\I64 m:=by obtain⟨m,hc,_,hw⟩:=DataW.trod_int Tryz.underlying3 h;rw[Tryz.cellsOI] at hc;exact⟨m,take_one hc,bounds_i64 hw⟩
theorem point_of{n:Nat}{cs:List Value}{i:Nat}{y:DataW H×List MemPlace}(h:DataW.trod enc Tryz.prog W 0 (fun _=>true) true n 36 ((cs.drop i).take (Tryz.prog.cellsOf 36))=some y):∃p:Wd.Pt,cs[i]? =some (I p.id)/\cs[i+1]? =some (I p.x)/\cs[i+2]? =some (I p.y):=by
 obtain⟨xs,k,_,e,hl,hlen,hf⟩:=DataW.trod_struct Tryz.underlying36 h;rw[Tryz.cellsOP] at hf
 match xs,hlen with
 | [y0,y1,y2],_=>obtain⟨m0,c0,_⟩:=zA (i:=0) (y:=y0) (by simpa using hf 0 _ rfl);obtain⟨m1,c1,_⟩:=zA (i:=1) (y:=y1) (by simpa using hf 1 _ rfl);obtain⟨m2,c2,_⟩:=zA (i:=2) (y:=y2) (by simpa using hf 2 _ rfl);rw[sub_at (by decide)] at c0 c1 c2;exact⟨⟨m0,m1,m2⟩,c0,c1,c2⟩
theorem query_of{n:Nat}{cs:List Value}{i:Nat}{y:DataW H×List MemPlace}(h:DataW.trod enc Tryz.prog W 0 (fun _=>true) true n 46 ((cs.drop i).take (Tryz.prog.cellsOf 46))=some y):∃q:Wd.Qr,cs[i]? =some (I q.kind)/\cs[i+1]? =some (I q.a)/\cs[i+2]? =some (I q.b)/\cs[i+3]? =some (I q.c)/\cs[i+4]? =some (I q.d)/\cs[i+5]? =some (I q.x)/\cs[i+6]? =some (I q.y)/\cs[i+7]? =some (I q.k):=by
 obtain⟨xs,k,_,e,hl,hlen,hf⟩:=DataW.trod_struct Tryz.underlying46 h;rw[Tryz.cellsOQ] at hf
 match xs,hlen with
 | [y0,y1,y2,y3,y4,y5,y6,y7],_=>obtain⟨m0,c0,_⟩:=zA (i:=0) (y:=y0) (by simpa using hf 0 _ rfl);obtain⟨m1,c1,_⟩:=zA (i:=1) (y:=y1) (by simpa using hf 1 _ rfl);obtain⟨m2,c2,_⟩:=zA (i:=2) (y:=y2) (by simpa using hf 2 _ rfl);obtain⟨m3,c3,_⟩:=zA (i:=3) (y:=y3) (by simpa using hf 3 _ rfl);obtain⟨m4,c4,_⟩:=zA (i:=4) (y:=y4) (by simpa using hf 4 _ rfl);obtain⟨m5,c5,_⟩:=zA (i:=5) (y:=y5) (by simpa using hf 5 _ rfl);obtain⟨m6,c6,_⟩:=zA (i:=6) (y:=y6) (by simpa using hf 6 _ rfl);obtain⟨m7,c7,_⟩:=zA (i:=7) (y:=y7) (by simpa using hf 7 _ rfl);rw[sub_at (by decide)] at c0 c1 c2 c3 c4 c5 c6 c7;exact⟨⟨m0,m1,m2,m3,m4,m5,m6,m7⟩,c0,c1,c2,c3,c4,c5,c6,c7⟩
theorem commit_of{n:Nat}{cs:List Value}{i:Nat}{y:DataW H×List MemPlace}(h:DataW.trod enc Tryz.prog W 0 (fun _=>true) true n 41 ((cs.drop i).take (Tryz.prog.cellsOf 41))=some y):∃(r:List UInt8) (c:Int),r.length=32/\(∀j,(hj:j<r.length)->cs[i+j]? =some (Y r[j]))/\cs[i+32]? =some (I c):=by
 obtain⟨xs,k,_,e,hl,hlen,hf⟩:=DataW.trod_struct Tryz.underlying41 h;rw[Tryz.cellsOC] at hf
 match xs,hlen with
 | [y0,y1],_=>
  have h0:=hf 0 _ rfl;obtain⟨m1,c1,_⟩:=zA (i:=32) (y:=y1) (by simpa using hf 1 _ rfl);rw[sub_at (by decide)] at c1;obtain⟨ys,k2,_,_,_,hyl,hy⟩:=DataW.trod_array Tryz.underlying39 h0;rw[Tryz.cellsOU] at hy;have each:∀j,j<32->∃b:UInt8,cs[i+j]? =some (Y b):=fun j hj=>by have h2:=hy j hj;rw[List.getElem?_eq_getElem (by omega)] at h2;obtain⟨m,hc,_,hw⟩:=DataW.trod_int Tryz.underlying5 h2;have c:=take_one hc;rw[Nat.mul_one] at c;(have e0:(((cs.drop i).take 33).drop 0).take 32=(cs.drop i).take 32:=by rw[List.drop_zero,List.take_take];rfl);have c':((((cs.drop i).take 33).drop 0).take (Tryz.prog.cellsOf 39))[j]? =some (.int .u8 m):=c;rw[Tryz.cellsOA] at c';rw[e0,sub_at hj] at c';exact⟨byteOf (.int .u8 m),by rw[byteOf_Y hw];exact c'⟩
  obtain⟨r,hr,hq⟩:=list_of 32 each;exact⟨r,m1,hr,fun j hj=>hq j hj,c1⟩
theorem op_of{n:Nat}{cs:List Value}{y:DataW H×List MemPlace}(h:DataW.trod enc Tryz.prog W 0 (fun _=>true) true n 76 cs=some y)(hsz:∀x∈y.1.weights Tryz.prog 76,x<=reachBytes):∃o:Opn,cs=opV o/\o.Fit:=by
 obtain⟨xs,k,_,e,hl,hlen,hf⟩:=DataW.trod_struct Tryz.underlying76 h;rw[Tryz.cellsOp] at hl
 match xs,hlen with
 | [y0,y1,y2,y3,y4,y5,y6],_=>
  obtain⟨m0,c0,b0⟩:=zA (i:=0) (y:=y0) (by simpa using hf 0 _ rfl);obtain⟨m1,c1,b1⟩:=zA (i:=1) (y:=y1) (by simpa using hf 1 _ rfl);obtain⟨m2,c2,b2⟩:=zA (i:=2) (y:=y2) (by simpa using hf 2 _ rfl);obtain⟨p,p0,p1,p2⟩:=point_of (i:=3) (y:=y3) (by simpa using hf 3 _ rfl);obtain⟨q,q0,q1,q2,q3,q4,q5,q6,q7⟩:=query_of (i:=6) (y:=y4) (by simpa using hf 4 _ rfl);obtain⟨s,hs,es,_⟩:=DataW.trod_string Tryz.underlying9 (show _=some y5 from hf 5 _ rfl);have hs':(cs.drop 14).take (Tryz.prog.cellsOf 9)=[.string s]:=hs;rw[Tryz.cellsOS] at hs';have c14:cs[14]? =some (.string s):=take_one hs';obtain⟨r,c,hr,r0,r1⟩:=commit_of (i:=15) (y:=y6) (by simpa using hf 6 _ rfl);have hS:s.data.toList.length<=reachBytes:=by refine hsz _ ?_;rw[e];show _∈DataW.weights Tryz.prog 76 (.agg [y0.1,y1.1,y2.1,y3.1,y4.1,y5.1,y6.1]);unfold DataW.weights;rw[Tryz.underlying76];refine DataW.weights_mem_each (j:=5) rfl rfl _ ?_;rw[es];simp[DataW.weights]
  refine⟨⟨m0,m1,m2,p,q,s.data.toList,r,c⟩,?_,⟨b0,b1,b2,hS,hr⟩⟩;have hSv:Sv s.data.toList=.string s:=by unfold Sv;cases s;simp
  refine List.ext_getElem? fun i=>?_;by_cases hi:i<15
  ·have key:∀v:Value,cs[i]? =some v->(opV ⟨m0,m1,m2,p,q,s.data.toList,r,c⟩)[i]? =some v->cs[i]? =(opV ⟨m0,m1,m2,p,q,s.data.toList,r,c⟩)[i]? :=fun v h1 h2=>h1.trans h2.symm;rcases (show i=0\/i=1\/i=2\/i=3\/i=4\/i=5\/i=6\/i=7\/i=8\/i=9\/i=10\/i=11\/i=12\/i=13\/i=14 by omega) with rfl|rfl|rfl|rfl|rfl|rfl|rfl|rfl|rfl|rfl|rfl|rfl|rfl|rfl|rfl
   ·exact key _ c0 rfl
   ·exact key _ c1 rfl
   ·exact key _ c2 rfl
   ·exact key _ p0 rfl
   ·exact key _ p1 rfl
   ·exact key _ p2 rfl
   ·exact key _ q0 rfl
   ·exact key _ q1 rfl
   ·exact key _ q2 rfl
   ·exact key _ q3 rfl
   ·exact key _ q4 rfl
   ·exact key _ q5 rfl
   ·exact key _ q6 rfl
   ·exact key _ q7 rfl
   ·exact key _ c14 (by rw[<-hSv];rfl)
  ·unfold opV;rw[List.getElem?_append_right (by show 15<=i;omega)];show cs[i]? =(rootV r c)[i-15]?;unfold rootV;by_cases h2:i<47
   ·rw[List.getElem?_append_left (by rw[List.length_map];omega),List.getElem?_map,List.getElem?_eq_getElem (l:=r) (by omega)];have:=r0 (i-15) (by omega);rw[show 15+(i-15)=i by omega] at this;exact this
   ·rw[List.getElem?_append_right (by rw[List.length_map];omega),List.length_map,hr];by_cases h3:i=47
    ·subst h3;exact r1
    ·rw[List.getElem?_eq_none (by omega),List.getElem?_eq_none (by simp;omega)]
theorem view_ops{fuel:Nat}{a0:Option Addr}{len cap:Nat}{d:DataW H}{p:List MemPlace}
  (hf:DataW.trod enc Tryz.prog W 0 (fun _=>true) true fuel 22 (Value.slice a0 len cap).cells.toList=some (d,p)) (hsz:∀x∈d.weights Tryz.prog 22,x<=reachBytes):
  ∃os:List Opn,os.length=len/\ArgO W a0 os:=by
 rcases Deep.open_slice Tryz.underlying22 hf with⟨hcs,hx⟩| ⟨a,len',cap',m,n,D,Pl,hcs,_,hl,hm,hmm,hx,hat⟩
 ·simp[Value.cells] at hcs;obtain⟨rfl,rfl,rfl⟩:=hcs;exact⟨[],rfl,⟨by simp,fun o ho=>by simp at ho,fun h=>absurd rfl h⟩⟩
 ·simp[Value.cells] at hcs;obtain⟨rfl,rfl,rfl⟩:=hcs;simp only[if_true] at hmm;subst hmm;simp only[Prod.mk.injEq] at hx;obtain⟨hd, -⟩:=hx;subst hd;rw[Tryz.cellsOp] at hat;have hW:∀i,i<len->∀x∈(D i).weights Tryz.prog 76,x<=reachBytes:=fun i hi x hx=>by
   refine hsz x ?_;unfold DataW.weights;rw[Tryz.underlying22];refine List.mem_cons_of_mem _ (List.mem_append.2 (.inl (weights_all hx (List.mem_map.2 ⟨i,List.mem_range.2 hi,rfl⟩))))
  have hlen:(len+(m-len))*168<=reachBytes:=by have:=hsz ((len+(m-len))*168) (by unfold DataW.weights;rw[Tryz.underlying22];simp[Tryz.bytesOp]);exact this
  have hr:reachBytes<2 ^ 47:=reachBytes_lt;obtain⟨os,ho,hq⟩:=list_of (Q:=fun i (o:Opn)=>W.cells? 0 (a.add (i*48)) 48=some (opV o)/\o.Fit) len (fun i hi=>by obtain⟨cs',h1,h2⟩:=hat i (by omega);obtain⟨o,rfl,hF⟩:=op_of h2 (hW i hi);exact⟨o,h1,hF⟩);refine⟨os,ho,⟨by omega,fun o hm=>?_,fun hne=>?_⟩⟩
  ·obtain⟨i,hi,rfl⟩:=List.getElem_of_mem hm;exact(hq i hi).2
  ·have h0:0<os.length:=List.length_pos_iff.2 hne;obtain⟨b,off,spot⟩:=a;have hspot:spot=none:=by
    have h1:=(World.cells?_some (hq 0 h0).1).2.2 0 (by decide);have h2:W.cell? (((⟨b,off,spot⟩:Addr).add (0*48)).add 0)=some (I os[0].kind):=h1;simpa[Addr.add] using World.cell?_spot h2
   (subst hspot;refine⟨b,off,rfl,fun i hi j v hv=>?_⟩;have hj:j<48:=by have:=(List.getElem?_eq_some_iff.1 hv).1;rw[opV_len (hq i hi).2.root] at this;exact this);have h1:=(World.cells?_some (hq i hi).1).2.2 j hj;rw[Addr.add_lit,Addr.add_lit,hv] at h1;exact h1
end
end
theorem Inv.begun{w0 w w':World}{ow:Nat->Nat}{W0 n:Nat}{vp vh vp':Value}{ps:List Pr}{hs:List Nat}{p:Pr}(h:Inv w0 ow w W0 vp vh ps hs)(hE:∀p∈ps,p.L=p.K)(hn:ps.length<=n)(hh:hs.length<=n)(hB:Begun w w' W0 vp vh ps hs vp' p):InvE w0 w' W0 (n+1):=by
 have h1:∀k,Mine p.m p.v k->k=p.m:=fun k hk=>by
  rcases hk with hk|hk
  ·exact hk
  ·rw[hB.mv] at hk;cases hk
 have h2:∀k,Mine p.r p.u k->k=p.r:=fun k hk=>by
  rcases hk with hk|hk
  ·exact hk
  ·rw[hB.rv] at hk;cases hk
 obtain⟨ow',hI⟩:=h.push hB.keep (fun _ _ e=>e) p hB.law hB.fresh (by rw[hB.em];exact hB.map) (by rw[hB.er];exact hB.ref) (by rw[hB.em];exact good_nil) (fun k hk=>by rw[h1 k hk];exact hB.m1) (fun k hk=>by rw[h2 k hk];exact hB.r1) (fun k hk hk2=>hB.ne ((h1 k hk).symm.trans (h2 k hk2))) (fun k hk=>⟨fun e=>hB.am (by rw[<-h1 k e];exact hk),fun e=>hB.ar (by rw[<-h2 k e];exact hk)⟩);refine⟨ow',_,_,_,_,hI,by simp,fun q hq=>?_,by simp;omega,by omega⟩;rcases List.mem_append.1 hq with hq|hq
 ·exact hE q hq
 ·rw[List.mem_singleton.1 hq,hB.em,hB.er]
theorem Inv.kept{w0 w w1 w':World}{ow:Nat->Nat}{W0 n x:Nat}{v vp vh vh':Value}{L:List Wd.Pt}{ps:List Pr}{hs:List Nat}(h:Inv w0 ow w W0 vp vh ps hs)(hne:ps≠[])(hE:∀p∈ps,p.L=p.K)(hn:ps.length<=n)(hh:hs.length<=n)(hb:Below w.heap.size w w1)(hv:Own w1 w.heap.size v L)(hl:Laid w1 w' W0 v vp vh ps hs vh' x):InvE w0 w' W0 (n+1):=by have hs0:=h.base.size;obtain⟨ow',hI⟩:=(h.clean hb).holdPush hl.keep (fun k=>v.ownBlock=some k) (fun k hk e=>by have:=hv.ge e;exact⟨if_neg (by omega),by omega⟩) (fun k _ e=>e) x hl.law hl.fresh hl.hold;exact⟨ow',_,_,_,_,hI,hne,hE,by omega,by simp;omega⟩
theorem Inv.lists{w0 w w1:World}{ow:Nat->Nat}{W0:Nat}{v vp vh:Value}{L:List Wd.Pt}{ps:List Pr}{hs:List Nat}(h:Inv w0 ow w W0 vp vh ps hs)(hv:Own w1 w.heap.size v L):∀g,v.ownBlock=some g->¬Lawn W0 vp vh g:=fun g hg hk=>by have h1:=hv.ge hg;have h2:=h.law.lawn_lt hk;omega
theorem boxed(w:World)(X Z:Array Value)(a b:TypeId):Below w.heap.size w ((w.alloc (.cells X a)).alloc (.cells Z b))/\((w.alloc (.cells X a)).alloc (.cells Z b)).heap[w.heap.size]? =some (.cells X a (0,0))/\((w.alloc (.cells X a)).alloc (.cells Z b)).heap[w.heap.size+1]? =some (.cells Z b (0,0)):=by
 have h1:=gB w (.cells X a);have e1:(w.alloc (.cells X a)).heap.size=w.heap.size+1:=by simp
 refine⟨h1.alloc (by omega) _,?_,?_⟩
 ·rw[Below.heap_alloc _ _ _ (by omega)];exact heap_alloc_new w _
 ·have:=heap_alloc_new (w.alloc (.cells X a)) (.cells Z b);rw[e1] at this;exact this
structure Stands(w0 w:World)(ow:Nat->Nat)(W0 n:Nat)(vp vh:Value)(ps:List Pr)(hs:List Nat)(i:Nat):Prop where
 inv:Inv w0 ow w W0 vp vh ps hs
 lt:i<ps.length
 eq:∀p∈ps,p.L=p.K
 pn:ps.length<=n
 hn:hs.length<=n
 small:n<=1000000000000
theorem Stands.ne{w0 w:World}{ow:Nat->Nat}{W0 n:Nat}{vp vh:Value}{ps:List Pr}{hs:List Nat}{i:Nat}(h:Stands w0 w ow W0 n vp vh ps hs i):ps≠[]:=fun e=>by have:=h.lt;rw[e] at this;simp at this
theorem Stands.below{w0 w w':World}{ow:Nat->Nat}{W0 n:Nat}{vp vh:Value}{ps:List Pr}{hs:List Nat}{i:Nat}(h:Stands w0 w ow W0 n vp vh ps hs i)(hb:Below w.heap.size w w'):Stands w0 w' ow W0 n vp vh ps hs i:=⟨h.inv.below hb,h.lt,h.eq,h.pn,h.hn,h.small⟩
theorem Stands.invE{w0 w:World}{ow:Nat->Nat}{W0 n:Nat}{vp vh:Value}{ps:List Pr}{hs:List Nat}{i:Nat}(h:Stands w0 w ow W0 n vp vh ps hs i):InvE w0 w W0 (n+1):=⟨ow,vp,vh,ps,hs,h.inv,h.ne,h.eq,Nat.le_succ_of_le h.pn,Nat.le_succ_of_le h.hn⟩
theorem Stands.pair{w0 w:World}{ow:Nat->Nat}{W0 n:Nat}{vp vh:Value}{ps:List Pr}{hs:List Nat}{i m r:Nat}{v u:Value}{L:List Wd.Pt}(h:Stands w0 w ow W0 n vp vh ps hs i)(hm:ps[i]? =some ⟨m,v,r,u,L,L⟩):IsMap w m v L/\RMap w r u L/\Good L:=by have e:ps[i]'h.lt=⟨m,v,r,u,L,L⟩:=(List.getElem?_eq_some_iff.1 hm).2;have hp:=h.inv.pair i h.lt;rw[e] at hp;exact⟨hp.map,hp.ref,hp.good⟩
theorem Stands.half{w0 w w1:World}{ow:Nat->Nat}{W0 n:Nat}{vp vh:Value}{ps:List Pr}{hs:List Nat}{i m r:Nat}{v u:Value}{L:List Wd.Pt}(h:Stands w0 w ow W0 n vp vh ps hs i)(hm:ps[i]? =some ⟨m,v,r,u,L,L⟩)(hk:Keeps (Mine m v) w w1):RMap w1 r u L:=by have e:ps[i]'h.lt=⟨m,v,r,u,L,L⟩:=(List.getElem?_eq_some_iff.1 hm).2;have:=h.inv.half i h.lt (w1:=w1) (by rw[e];exact hk);rw[e] at this;exact this
theorem Stands.two{w0 w w1 w2:World}{ow:Nat->Nat}{W0 n:Nat}{vp vh:Value}{ps:List Pr}{hs:List Nat}{i m r:Nat}{v u:Value}{L L':List Wd.Pt}(h:Stands w0 w ow W0 n vp vh ps hs i)(hm:ps[i]? =some ⟨m,v,r,u,L,L⟩)(hG:Good L')
  (h1:∃v',IsMap w1 m v' L'/\Fresh w v v'/\Keeps (Mine m v) w w1) (h2:∃u',RMap w2 r u' L'/\FreshR w1 u u'/\Keeps (Mine r u) w1 w2):InvE w0 w2 W0 (n+1):=by
 have e:ps[i]'h.lt=⟨m,v,r,u,L,L⟩:=(List.getElem?_eq_some_iff.1 hm).2;exact(h.inv.two h.eq h.pn h.hn i h.lt hG (by rw[e];exact h1) (by rw[e];exact h2)).mono (Nat.le_succ n)
theorem good_erase{L:List Wd.Pt}(h:Good L)(i:Nat):Good (L.eraseIdx i):=by have hs:=List.eraseIdx_sublist L i;refine⟨h.sorted.sublist hs,h.ids.sublist hs,fun p hp=>h.ok p (hs.subset hp),Nat.le_trans hs.length_le h.many⟩
theorem asks_points{w0 w:World}{ow:Nat->Nat}{W0 n:Nat}{vp vh:Value}{ps:List Pr}{hs:List Nat}{i:Nat}(h:Stands w0 w ow W0 n vp vh ps hs i)(m r:Nat)(v u:Value)(L:List Wd.Pt)(hm:ps[i]? =some ⟨m,v,r,u,L,L⟩)(o:Opn)(hk:o.kind=4):
  Calls Tryz.prog 58 #[.pointer (some ⟨W0,0,none⟩),.agg #[.pointer (some ⟨m,0,none⟩),.pointer (some ⟨r,0,none⟩)],.agg (opV o).toArray] w fun e w'=>e=.returned (.bool true)/\InvE w0 w' W0 (n+1):=by
 have HH:=gH h;have HOV:=gS ((opV o).toArray[0]? =some (I 4)) (by rw[<-hk];rfl);have HPA:=gH (fun w' (hb:Below w.heap.size w w')=>(h.below hb).pair hm);generalize (opV o).toArray=OV at*;have HBX:=gH (boxed w #[.pointer (some ⟨m,0,none⟩),.pointer (some ⟨r,0,none⟩)] OV 113 76);clear h hm hk;go_enter Tryz.func58,Tryz.ntmps58
 go_upto_region 1 with fail
 have hbx:=HBX.out;clear HBX;generalize (w.alloc (.cells #[.pointer (some ⟨m,0,none⟩),.pointer (some ⟨r,0,none⟩)] 113)).alloc (.cells OV 76)=w1 at hbx⊢;obtain⟨hb1,hx,ho⟩:=hbx;have k0:w1.cell? ⟨w.heap.size+1,0,none⟩=some (I 4):=by rw[gC ho];exact HOV.out
 have x0:w1.cell? ⟨w.heap.size,0,none⟩=some (.pointer (some ⟨m,0,none⟩)):=by rw[gC hx];rfl
 have hs1:w.heap.size+1<w1.heap.size:=(gL ho);have HB1:=gH hb1;have HX:=gH hx;have hml:=(HPA.out w1 hb1).2.2.many;have HPT:=gH (points_any m v L w1 (HPA.out w1 hb1).1 hml);clear hb1 hx ho HOV;go_wp2_with fail
 refine HPT.out.mono ?_;rintro _ w2⟨va,rfl,hown,hb2⟩;have hb12:Below w.heap.size w w2:=HB1.out.trans (hb2.mono HB1.out.size);obtain⟨hM2,hR2,hG⟩:=HPA.out w2 hb12;have x1:w2.cell? ⟨w.heap.size,1,none⟩=some (.pointer (some ⟨r,0,none⟩)):=by rw[gC ((hb2.block w.heap.size (by omega)).trans HX.out)];rfl
 have xr:=hR2.cell;have HSM:=gH (same_law va u L L w2 hown.reads hR2.own.reads (by omega));obtain⟨aa,ca,ea⟩:=hown.slice;obtain⟨au,cu,eu⟩:=hR2.own.slice;subst ea eu;have hs2:=hb2.size;have HB2:=gH hb2;have HOW:=gH hown;clear hb2 hb12 hown hM2 hR2 hG HPT x0 k0 HX;go_wp2_with fail
 refine HSM.out.mono ?_;rintro _ w3⟨⟨b,rfl,hb⟩,hb3⟩;have hbt:b=true:=by simpa using hb
 subst hbt;have hb13:Below w1.heap.size w1 w3:=HB2.out.trans (hb3.mono hs2);have hOW3:Own w3 w1.heap.size (.slice aa L.length ca) L:=HOW.out.below hb3;have hA1:=HH.out.below HB1.out;have HKL:=gH (keep_law W0 vp vh ps hs w3 w1.heap.size (.slice aa L.length ca) L (hA1.inv.below hb13).law hOW3 (by omega) (Nat.le_trans hA1.hn hA1.small) (hA1.inv.lists hOW3));have HF:=gH (fun w' (vh':Value) (x:Nat) (hl:Laid w3 w' W0 (.slice aa L.length ca) vp vh ps hs vh' x)=>hA1.inv.kept hA1.ne hA1.eq hA1.pn hA1.hn hb13 hOW3 hl);clear hb hb3 hb13 hOW3 hA1 HSM HOW HB2 x1 xr;go_wp2_with fail
 refine HKL.out.mono ?_;rintro _ w4⟨rfl,vh',x,hl⟩;have HE:=gH (HF.out w4 vh' x hl);clear hl HF HKL;go_wp2_with fail
 go_ret;exact⟨rfl,HE.out⟩
theorem asks_commit{w0 w:World}{ow:Nat->Nat}{W0 n:Nat}{vp vh:Value}{ps:List Pr}{hs:List Nat}{i:Nat}(h:Stands w0 w ow W0 n vp vh ps hs i)(hKT:KT w0)(m r:Nat)(v u:Value)(L:List Wd.Pt)(hm:ps[i]? =some ⟨m,v,r,u,L,L⟩)(o:Opn)(hk:o.kind=5):
  Calls Tryz.prog 58 #[.pointer (some ⟨W0,0,none⟩),.agg #[.pointer (some ⟨m,0,none⟩),.pointer (some ⟨r,0,none⟩)],.agg (opV o).toArray] w fun e w'=>e=.returned (.bool true)/\InvE w0 w' W0 (n+1):=by
 have HH:=gH h;have HOV:=gS ((opV o).toArray[0]? =some (I 5)) (by rw[<-hk];rfl);have HPA:=gH (fun w' (hb:Below w.heap.size w w')=>(h.below hb).pair hm);have HKT:=gS (KT w) (hKT.le h.inv.base hKT.lt);generalize (opV o).toArray=OV at*;have HBX:=gH (boxed w #[.pointer (some ⟨m,0,none⟩),.pointer (some ⟨r,0,none⟩)] OV 113 76);clear h hm hk hKT;have HEQ:=gH (fun W=>(eqCom L L W).trans (by simp:_=Result.ok true W));have HCM:=gH (com_of L);go_enter Tryz.func58,Tryz.ntmps58
 go_upto_region 1 with fail
 have hbx:=HBX.out;clear HBX;generalize (w.alloc (.cells #[.pointer (some ⟨m,0,none⟩),.pointer (some ⟨r,0,none⟩)] 113)).alloc (.cells OV 76)=w1 at hbx⊢;obtain⟨hb1,hx,ho⟩:=hbx;have k0:w1.cell? ⟨w.heap.size+1,0,none⟩=some (I 5):=by rw[gC ho];exact HOV.out
 have x0:w1.cell? ⟨w.heap.size,0,none⟩=some (.pointer (some ⟨m,0,none⟩)):=by rw[gC hx];rfl
 have hs1:w.heap.size+1<w1.heap.size:=(gL ho);have HB1:=gH hb1;have HX:=gH hx;have HCP:=gH (commitment_any m v L w1 (HPA.out w1 hb1).1 (HPA.out w1 hb1).2.2 (HKT.out.below hb1));have HCR:=gH (fun W (hb:Below w.heap.size w W)=>zg r u L W (HPA.out W hb).2.1 (HPA.out W hb).2.2);generalize commitV L=C at*;clear hb1 hx ho HOV;go_wp2_with fail
 refine HCP.out.mono ?_;rintro _ w2⟨rfl,hb2⟩;have hb12:Below w.heap.size w w2:=HB1.out.trans (hb2.mono HB1.out.size);have hs2:=hb2.size;have hb3':=gB w2;have hr3':=heap_alloc_new w2;have HX2:=gH ((hb2.block w.heap.size (by omega)).trans HX.out);clear hb2 x0 k0 HX;go_upto_region 9 with(refine wpList_store_row rfl 41 (.tmp 9) (.tmp 44) rfl w2.heap.size C.toArray rfl rfl 41 _ (heap_alloc_new w2 _) HCM.out.info (by rw[HCM.out.size];rfl) HCM.out.one ?_;rw[World.setRow_alloc_new])
 generalize hW:World.alloc w2 _=w3;have hb3:Below w2.heap.size w2 w3:=by rw[<-hW];exact hb3' _
 have hr3:w3.heap[w2.heap.size]? =some (.cells C.toArray 41 (0,0)):=by rw[<-hW];exact hr3' _
 clear hb3' hr3' hW;have hs3:w2.heap.size<w3.heap.size:=(gL hr3);have hb13:Below w.heap.size w w3:=hb12.trans (hb3.mono hb12.size);have x1:w3.cell? ⟨w.heap.size,1,none⟩=some (.pointer (some ⟨r,0,none⟩)):=by rw[gC ((hb3.block w.heap.size (by omega)).trans HX2.out)];rfl
 have HC3:=gH (HCR.out w3 hb13);have HB13:=gH hb13;have HR3:=gH hr3;clear hb3 hr3 hb13 hb12 HX2 HCR HCP;go_wp2_with fail
 refine HC3.out.mono ?_;rintro _ w4⟨rfl,hb4⟩;have hs4:=hb4.size;have HR4:=gH ((hb4.block w2.heap.size hs3).trans HR3.out);have hb14:Below w.heap.size w w4:=HB13.out.trans (hb4.mono HB13.out.size);have HB14:=gH hb14;have hb5':=gB w4;have hr5':=heap_alloc_new w4;clear hb4 hb14 x1 HC3 HR3;go_upto_region 10 with(refine wpList_store_row rfl 41 (.tmp 10) (.tmp 47) rfl w4.heap.size C.toArray rfl rfl 41 _ (heap_alloc_new w4 _) HCM.out.info (by rw[HCM.out.size];rfl) HCM.out.one ?_;rw[World.setRow_alloc_new])
 generalize hW:World.alloc w4 _=w5;have hb5:Below w4.heap.size w4 w5:=by rw[<-hW];exact hb5' _
 have hr5:w5.heap[w4.heap.size]? =some (.cells C.toArray 41 (0,0)):=by rw[<-hW];exact hr5' _
 clear hb5' hr5' hW;have HR5:=gH hr5;have HR4':=gH ((hb5.block w2.heap.size (by omega)).trans HR4.out);have HE:=gH ((HH.out.below (HB14.out.trans (hb5.mono HB14.out.size))).invE);have hE:=HEQ.out;clear hb5 hr5;go_wp2_with (first| (refine wpList_load_row rfl 41 (.tmp 9) rfl w2.heap.size rfl 41 C.toArray (0,0) _ HR4'.out Tryz.underlying41 rfl HCM.out.info ?_)| (refine wpList_load_row rfl 41 (.tmp 10) rfl w4.heap.size rfl 41 C.toArray (0,0) _ HR5.out Tryz.underlying41 rfl HCM.out.info ?_))
 go_ret;exact⟨rfl,HE.out⟩
theorem asks_digest{w0 w:World}{ow:Nat->Nat}{W0 n:Nat}{vp vh:Value}{ps:List Pr}{hs:List Nat}{i:Nat}(h:Stands w0 w ow W0 n vp vh ps hs i)(hKT:KT w0)(X:Array Value)(o:Opn)(hk:o.kind=6)(hf:o.s.length<=140737488351232):
  Calls Tryz.prog 58 #[.pointer (some ⟨W0,0,none⟩),.agg X,.agg (opV o).toArray] w fun e w'=>e=.returned (.bool true)/\InvE w0 w' W0 (n+1):=by
 have HH:=gH h;have HOV:=gS ((opV o).toArray[0]? =some (I 6)/\(opV o).toArray[14]? =some (Sv o.s)) (⟨by rw[<-hk];rfl,rfl⟩);have HKT:=gS (KT w) (hKT.le h.inv.base hKT.lt);have hW0:=h.inv.law.lt;generalize (opV o).toArray=OV at*;generalize o.s=s at*;have HBX:=gH (boxed w X OV 113 76);clear h hk hKT;have HEQ:=gH (fun W=>(eqArr (Sha.sha s) (Sha.sha s) rfl rfl W).trans (by simp:_=Result.ok true W));obtain⟨DV,hDV⟩:∃DV,(Sha.sha s).map Y=DV:=⟨_,rfl⟩;have HDL:=gS (DV.length=32) (by rw[<-hDV,List.length_map];rfl);have HDG:=gH (fun W=>zV s DV W hf hDV);have HDY:=gS (DV=(Sha.sha s).map Y) hDV.symm;have HDP:=gH (fun W (hK:KT W)=>digest_any ⟨s.toArray⟩ DV W (by show s.toArray.size<=_;rw[List.size_toArray];omega) hK (by rw[show(⟨s.toArray⟩:ByteArray).data.toList=s from rfl];exact hDV));have HD1:=gS (DV.toArray.all (·.oneCell')=true) (by rw[List.all_toArray,List.all_eq_true];intro v hv;rw[HDY.out] at hv;obtain⟨x,_,rfl⟩:=List.mem_map.1 hv;rfl);have HDI:=gS ((Tryz.prog.info? 39).map (·.size)=some DV.toArray.size) (by rw[List.size_toArray,HDL.out];exact Tryz.info22);have HDS:=gS (DV.toArray.size=32) (by rw[List.size_toArray,HDL.out]);rw[hDV] at HEQ;clear hDV;go_enter Tryz.func58,Tryz.ntmps58
 go_upto_region 1 with fail
 have hbx:=HBX.out;clear HBX;generalize (w.alloc (.cells X 113)).alloc (.cells OV 76)=w1 at hbx⊢;obtain⟨hb1,hx,ho⟩:=hbx;have k0:w1.cell? ⟨w.heap.size+1,0,none⟩=some (I 6):=by rw[gC ho];exact HOV.out.1
 have k14:w1.cell? ⟨w.heap.size+1,14,none⟩=some (Sv s):=by rw[gC ho];exact HOV.out.2
 have hs1:w.heap.size+1<w1.heap.size:=(gL ho);have HB1:=gH hb1;have HO:=gH ho;have HK1:=gH (HKT.out.below hb1);clear hb1 hx ho;go_wp2_with fail
 refine(HDP.out w1 HK1.out).mono ?_;rintro _ w2⟨rfl,hb2⟩;have hb12:Below w.heap.size w w2:=HB1.out.trans (hb2.mono HB1.out.size);have hs2:=hb2.size;have hb3':=gB w2;have hr3':=heap_alloc_new w2;have HO2:=gH ((hb2.block (w.heap.size+1) hs1).trans HO.out);clear hb2 k0 k14 HO;go_upto_region 13 with(refine wpList_store_rowTo rfl 39 (.tmp 11) (.tmp 55) rfl rfl w2.heap.size DV.toArray rfl rfl 39 _ (heap_alloc_new w2 _) HDI.out (by rw[HDS.out];rfl) HD1.out ?_;rw[World.setRow_alloc_new])
 generalize hW:World.alloc w2 _=w3;have hb3:Below w2.heap.size w2 w3:=by rw[<-hW];exact hb3' _
 have hr3:w3.heap[w2.heap.size]? =some (.cells DV.toArray 39 (0,0)):=by rw[<-hW];exact hr3' _
 clear hb3' hr3' hW;have hs3:w2.heap.size<w3.heap.size:=(gL hr3);have hb13:Below w.heap.size w w3:=hb12.trans (hb3.mono hb12.size);have hL3:=(HH.out.below hb13).inv.law;have hRC:w3.rangeAt W0 2 constV:=fun k v hv=>by rw[gC hL3.row,List.getElem?_toArray,Nat.add_comm 2 k];exact hv
 have hc14:w3.cell? ⟨w.heap.size+1,14,none⟩=some (Sv s):=by rw[gC ((hb3.block (w.heap.size+1) (by omega)).trans HO2.out)];exact HOV.out.2
 have HB13:=gH hb13;have HR3:=gH hr3;have hW3:W0<w3.heap.size:=by omega
 have hw3:w.heap.size+1<w3.heap.size:=by omega
 clear hb3 hr3 hb13 hb12 HO2 hL3 HDP;go_cut [12] from 56 to 62 (fun v12 wx=>∃gd,v12=.pointer (some ⟨gd,0,none⟩)/\w3.heap.size<=gd/\gd<wx.heap.size/\wx.rangeAt gd 0 DV/\Below w3.heap.size w3 wx)
 case first=>
  have hS:w3.drew.rangeAt W0 2 constV/\w3.drew.cell? ⟨w.heap.size+1,14,none⟩=some (Sv s):=⟨fun k v hv=>hRC k v hv,by simpa using hc14⟩;have hIC:(Tryz.prog.info? 67).map (·.size)=some constV.length:=by rw[oE];exact Tryz.infoConst
  have HCA:=gH (fun(W W':World) (hb:Below W.heap.size W W') (hw:w3.heap.size<=W.heap.size) (h:W.rangeAt W0 2 constV/\W.cell? ⟨w.heap.size+1,14,none⟩=some (Sv s))=>show W'.rangeAt W0 2 constV/\W'.cell? ⟨w.heap.size+1,14,none⟩=some (Sv s) from⟨fun k v hv=>(hb.cell (p:=⟨W0,2+k,none⟩) (by show W0<_;omega)).trans (h.1 k v hv),(hb.cell (p:=⟨w.heap.size+1,14,none⟩) (by show w.heap.size+1<_;omega)).trans h.2⟩);refine gX 8 (fun W=>W.rangeAt W0 2 constV/\W.cell? ⟨w.heap.size+1,14,none⟩=some (Sv s)) (by kernel_rfl) hS (fun hH=>?_);clear hS hRC;refine tkJ 0 rfl (by kernel_rfl) gJ (by rfl) hH ⟨_,by rintro W⟨zc,zs⟩;go_simp;try with_reducible rfl,?_⟩;try go_simp
  refine tkJ 1 rfl (by kernel_rfl) gJ (by rfl) hH ⟨_,by rintro W⟨zc,zs⟩;go_simp;try with_reducible rfl,?_⟩;try go_simp
  refine tkJ 2 rfl (by kernel_rfl) gJ (by rfl) hH ⟨_,by rintro W⟨zc,zs⟩;go_simp;try with_reducible rfl,?_⟩;try go_simp
  refine tkA 3 (v:=.agg constV.toArray) rfl (by kernel_rfl) gI (yieldsIf_load_mid (by rfl) _ _ rfl W0 2 rfl constV _ (fun W hW=>hW.1) Tryz.underlying67 rfl hIC) hH ?_;generalize constV.toArray=CA at*;try go_simp
  refine tkJ 4 rfl (by kernel_rfl) gJ (by rfl) hH ⟨_,by rintro W⟨zc,zs⟩;go_simp;try with_reducible rfl,?_⟩;try go_simp
  refine tkJ 5 rfl (by kernel_rfl) gJ (by rfl) hH ⟨_,by rintro W⟨zc,zs⟩;go_simp;try with_reducible rfl,?_⟩;try go_simp
  have hD32:DV.toArray.size=32:=by rw[List.size_toArray,HDL.out]
  have hD1:DV.toArray.all (·.oneCell')=true:=by rw[List.all_toArray,List.all_eq_true];intro v hv;rw[HDY.out] at hv;obtain⟨x,_,rfl⟩:=List.mem_map.1 hv;rfl
  refine wpAnyL_two (i:=6) (j:=7) (by kernel_rfl) rfl rfl (fun K hK=>?_) (fun K hK=>?_)
  ·go_simp;refine(HDG.out _).mono ?_;rintro _ w7⟨rfl,hb7⟩;have hb67:Below w3.heap.size w3 w7:=(show Below w3.heap.size w3 w3.drew from(Below.refl _ _).drew).trans hb7;have hs7:w3.heap.size<=w7.heap.size:=hb67.size;have hH7:=HCA.out _ _ hb7 gR hH;refine hK.out _ _ (fun _=>hH7) ?_;clear hK K;(try go_simp);refine gA (i:=7) (by kernel_rfl) rfl (fun K hK=>?_);go_simp;have hn8:=heap_alloc_new w7;have hb8:=gB w7;generalize hW:World.alloc w7 _=w8;(obtain⟨zz,hz32,hz8⟩:∃zz:Array Value,zz.size=32/\w8.heap[w7.heap.size]? =some (.cells zz 39 (0,0)):=by rw[<-hW];exact⟨_,rfl,hn8 _⟩);(have hb78:Below w7.heap.size w7 w8:=by rw[<-hW];exact hb8 _);clear hW hn8 hb8;refine hK.out _ _ (fun _=>HCA.out _ _ hb78 hs7 hH7) ?_;clear hK K;(try go_simp);refine gA (i:=8) (by kernel_rfl) rfl (fun K hK=>?_);rw[if_pos (by rfl)];refine wp_store_mid _ _ _ rfl w7.heap.size 0 DV.toArray rfl rfl (by rw[hD32];exact gw hz8 hz32) (by rw[hD32];exact Tryz.info22) hD1 ?_;refine hK.out _ _ (fun h=>absurd rfl h) ?_;clear hK K;refine gO (by kernel_rfl) ?_ _;have hs8:w7.heap.size<w8.heap.size:=(gL hz8);have hbF:Below w3.heap.size w3 (w8.setCells w7.heap.size 0 DV.toArray.toList):=gN hs7 _ _ _ (hb67.trans (hb78.mono hs7));have hsF:w7.heap.size< (w8.setCells w7.heap.size 0 DV.toArray.toList).heap.size:=Nat.lt_of_lt_of_le hs8 (gN gR _ _ _ (Below.refl w7.heap.size w8)).size;have hrF:(w8.setCells w7.heap.size 0 DV.toArray.toList).rangeAt w7.heap.size 0 DV:=World.rangeAt_setCells_same _ _ _ _ (by rw[HDL.out];exact gw hz8 hz32);(go_wp2_with fail);go_meet;exact⟨w7.heap.size,rfl,hs7,hsF,hrF,hbF⟩
  ·go_simp;have hn8:=heap_alloc_new w3;have hb8:=fun o=>(gB w3 o).drew;have hH6:w3.rangeAt W0 2 constV/\w3.cell? ⟨w.heap.size+1,14,none⟩=some (Sv s):=⟨fun k v hv=>by simpa using hH.1 k v hv,by simpa using hH.2⟩;generalize hW:World.drew (World.alloc w3 _)=w7;(obtain⟨zz,hz32,hz7⟩:∃zz:Array Value,zz.size=32/\w7.heap[w3.heap.size]? =some (.cells zz 39 (0,0)):=by rw[<-hW];exact⟨_,rfl,hn8 _⟩);(have hb67:Below w3.heap.size w3 w7:=by rw[<-hW];exact hb8 _);clear hW hn8 hb8;have hs7:w3.heap.size<w7.heap.size:=(gL hz7);have hH7:=HCA.out _ _ hb67 gR hH6;refine hK.out _ _ (fun _=>hH7) ?_;clear hK K;(try go_simp);refine gA (i:=6) (by kernel_rfl) rfl (fun K hK=>?_);go_simp;refine(HDG.out _).mono ?_;rintro _ w8⟨rfl,hb8⟩;have hz8:=(hb8.block w3.heap.size hs7).trans hz7;refine hK.out _ _ (fun _=>HCA.out _ _ hb8 (Nat.le_of_lt hs7) hH7) ?_;clear hK K;(try go_simp);refine gA (i:=8) (by kernel_rfl) rfl (fun K hK=>?_);rw[if_pos (by rfl)];refine wp_store_mid _ _ _ rfl w3.heap.size 0 DV.toArray rfl rfl (by rw[hD32];exact gw hz8 hz32) (by rw[hD32];exact Tryz.info22) hD1 ?_;refine hK.out _ _ (fun h=>absurd rfl h) ?_;clear hK K;refine gO (by kernel_rfl) ?_ _;have hs8:w3.heap.size<w8.heap.size:=(gL hz8);have hbF:Below w3.heap.size w3 (w8.setCells w3.heap.size 0 DV.toArray.toList):=gN gR _ _ _ (hb67.trans (hb8.mono (Nat.le_of_lt hs7)));have hsF:w3.heap.size< (w8.setCells w3.heap.size 0 DV.toArray.toList).heap.size:=Nat.lt_of_lt_of_le hs8 (gN gR _ _ _ (Below.refl w3.heap.size w8)).size;have hrF:(w8.setCells w3.heap.size 0 DV.toArray.toList).rangeAt w3.heap.size 0 DV:=World.rangeAt_setCells_same _ _ _ _ (by rw[HDL.out];exact gw hz8 hz32);(go_wp2_with fail);go_meet;exact⟨w3.heap.size,rfl,gR,hsF,hrF,hbF⟩
 case rest=>
  obtain⟨gd,rfl,hgd0,hgd,hrd,hb4⟩:=hcut;have HR4:=gH ((hb4.block w2.heap.size hs3).trans HR3.out);have HE:=gH ((HH.out.below (HB13.out.trans (hb4.mono HB13.out.size))).invE);have HRD:=gH hrd;have HID:=gS ((Tryz.prog.info? 39).map (·.size)=some DV.length) (by rw[HDL.out];exact Tryz.info22);have hE:=HEQ.out;clear hb4 hrd hRC hc14;generalize wc=w4 at*;go_wp2_with (first| (refine wpList_load_row rfl 39 (.tmp 11) rfl w2.heap.size rfl 39 DV.toArray (0,0) _ HR4.out Tryz.underlying39 rfl HDI.out ?_)| (refine wpList_load_mid rfl 39 (.tmp 12) rfl gd 0 rfl DV _ HRD.out Tryz.underlying39 rfl HID.out ?_))
  go_ret;exact⟨rfl,HE.out⟩
end Go.Proofs.YtenaelkbgkpllaaGreatDoor
