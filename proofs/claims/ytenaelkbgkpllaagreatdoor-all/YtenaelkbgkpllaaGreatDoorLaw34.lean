/- Part 34 of what the four laws rest on: laid by a program out of the texts of wip/T. -/
import Derived.Test.YtenaelkbgkpllaaGreatDoorLaw23
import Derived.Test.YtenaelkbgkpllaaGreatDoorLaw33
set_option maxRecDepth 100000
set_option maxHeartbeats 8000000
namespace Go.Proofs.YtenaelkbgkpllaaGreatDoor
open Go.RowKit
theorem fill_mid(place:Nat->Option (Nat×Nat))(i:Nat)(pre D:List Value)(z:Array Value)(hz:z.size=pre.length+D.length)(hp:∀k,k<pre.length->z[k]? =pre[k]?)(h0:place i=some (pre.length,D.length)):Instr.fill place z [(i,.agg D.toArray)]=some (pre++D).toArray:=by
 obtain⟨g1,g2⟩:=Great.foldl_set pre.length D 0 z;have e0:Value.cells (.agg D.toArray)=D.toArray:=rfl;have ef:(D.toArray.zipIdx.foldl (fun cs (y:Value×Nat)=>cs.setIfInBounds (pre.length+y.2) y.1) z)=((D.zipIdx 0).foldl (fun cs (y:Value×Nat)=>cs.setIfInBounds (pre.length+y.2) y.1) z):=by rw[<-Array.foldl_toList,Array.toList_zipIdx]
 unfold Instr.fill;simp only[h0,e0];rw[if_neg (by simp[hz]),ef];generalize (D.zipIdx 0).foldl (fun cs (y:Value×Nat)=>cs.setIfInBounds (pre.length+y.2) y.1) z=r at*;unfold Instr.fill;congr 1;apply Array.ext_getElem?;intro k;have eR:(pre++D).toArray[k]? =(pre++D)[k]? :=List.getElem?_toArray;rw[eR,g2 k];by_cases hk:k<pre.length
 ·rw[if_neg (by omega),List.getElem?_append_left hk,hp k hk]
 ·by_cases hl:k<pre.length+D.length
  ·rw[if_pos (by omega),List.getElem?_append_right (by omega)];simp
  ·rw[if_neg (by omega),Array.getElem?_eq_none (by omega),List.getElem?_eq_none (by simp;omega)]
theorem Tryz.infoRMapZ:(Tryz.prog.info? 111).bind (fun i=>i.zero.map (fun z=>(z.cells.size,z.cells[0]?)))=some (73,some (.slice none 0 0)):=by kernel_rfl
theorem Tryz.placesRMap:((Tryz.prog.fieldsOf 111).toList.mapM (fun f=>(Tryz.prog.info? f.type).map fun i=>(f.offset,i.size)))=some [(0,1),(1,72)]:=by kernel_rfl
theorem built_rmap:Tryz.prog.built 111 [(1,.agg constV.toArray)]=some (.slice none 0 0::constV).toArray:=by
 have hS:Tryz.prog.underlying 111=some (.struct (Tryz.prog.fieldsOf 111)):=by kernel_rfl
 have hz:=Tryz.infoRMapZ;have hp:=Tryz.placesRMap;unfold Program.built;cases hi:Tryz.prog.info? 111 with
 |none=>rw[hi] at hz;cases hz
 |some it=>
  rw[hi] at hz;cases hz0:it.zero with
  |none=>simp[hz0] at hz
  |some z=>simp only[hz0,Option.bind_some,Option.map_some,Option.some.injEq,Prod.mk.injEq] at hz;rw[hS];simp only[hz0,hp];exact fill_mid _ 1 [.slice none 0 0] constV z.cells (by rw[hz.1,oE];rfl) (fun k hk=>by(have:k=0:=by simpa using hk);subst this;exact hz.2) (by rw[oE];rfl)
theorem Tryz.infoSlZ:(Tryz.prog.info? 27).map (fun i=>(i.zero,i.size,i.bytes))=some (some (.slice none 0 0),1,24):=by kernel_rfl
theorem Tryz.infoHdZ:(Tryz.prog.info? 117).map (fun i=>(i.zero,i.size,i.bytes))=some (some (.pointer none),1,8):=by kernel_rfl
theorem Gf{w:World}{B:Nat}{v z:Value}{n size bytes:Nat}{xs:List Value}(t e:TypeId)(hu:Tryz.prog.underlying t=some (.slice e))(hI:(Tryz.prog.info? e).map (fun i=>(i.zero,i.size,i.bytes))=some (some z,size,bytes))(hzs:z.cells.size=size)(hs:0<size)(hb24:bytes<=24)(M:List Value)(h9:M.length=size)(h1:∀u∈M,u.oneCell'=true)(hown:w.ownsRow B e size v n xs)(hB:B<=w.heap.size)(hn:n<=1000000000000):
  ∃v' w',(Builtin.append_ #[t,t] t #[v,.slice (some ⟨w.heap.size,0,none⟩) 1 1]).run Tryz.prog (w.alloc (.cells M.toArray e))=.ok v' w'/\w'.ownsRow B e size v' (n+1) (xs++M)/\w.grownBy w' v.ownBlock/\Moved w w' v v':=by
 obtain⟨i0,hi0,hz0,hz1,hz2⟩:=info_parts hI
 obtain⟨v',w',hr,ho,hg,hf⟩:=run_append_own3 (P:=Tryz.prog) (w.alloc (.cells M.toArray e)) B t t e i0 z size bytes hu hi0 hz0 hz1 hz2 hzs hs v n xs (hown.alloc _) ⟨w.heap.size,0,none⟩ 1 1 M (by rw[h9,Nat.one_mul])
  (fun j u hj=>by rw[Addr.add_lit,Nat.zero_add,gC (heap_alloc_new w _),List.getElem?_toArray];exact hj)
  h1 (by unfold maxLen;omega) (by have:(n+1)*bytes<=(n+1)*24:=Nat.mul_le_mul_left _ hb24;omega) (by simp;omega)
 refine⟨v',w',hr,ho,⟨hg.os,hg.tape,hg.output,Nat.le_trans (by simp) hg.size,fun j hj hne=>(hg.block j (by simp;omega) hne).trans (Below.heap_alloc w _ j hj)⟩,?_⟩;rcases hf with hf| ⟨g,hf,hgs,hb⟩
 ·exact .inl hf
 ·simp at hgs;refine .inr ⟨g,hf,by omega,?_⟩;have h2:Below w.heap.size w (w.alloc (.cells M.toArray e)):=gB w _;exact h2.trans (hb.mono (by simp))
theorem LawAt.pushHold{w:World}{W0:Nat}{vp vh:Value}{ps:List Pr}{hs:List Nat}(h:LawAt w W0 vp vh ps hs)(x:Nat)(hn:hs.length<=1000000000000):
  ∃vh' w',(Builtin.append_ #[70,70] 70 #[vh,.slice (some ⟨w.heap.size,0,none⟩) 1 1]).run Tryz.prog (w.alloc (.cells #[.pointer (some ⟨x,0,none⟩)] 117))=.ok vh' w'/\w'.cell? ⟨W0,1,none⟩=some vh/\w'.frozen? ⟨W0,1,none⟩=false/\LawAt (w'.setCell ⟨W0,1,none⟩ vh') W0 vp vh' ps (hs++[x])/\Fresh w vh vh'/\Keeps (fun k=>k=W0\/some k=vh.ownBlock) w (w'.setCell ⟨W0,1,none⟩ vh')/\∃a n c,vh'=.slice a n c:=by
 obtain⟨vh',w',hr,ho,hg,hm⟩:=Gf (w:=w) (B:=0) 70 117 Tryz.underlying70 Tryz.infoHdZ rfl (by decide) (by decide) [hdV x] rfl (fun u hu=>by rw[List.mem_singleton.1 hu];rfl) h.holds (Nat.zero_le _) hn;have hrow:=(hg.block W0 h.lt (fun e=>h.apH e.symm)).trans h.row;have hf:=hm.fresh;have hK:Keeps (fun k=>k=W0\/some k=vh.ownBlock) w (w'.setCell ⟨W0,1,none⟩ vh'):=by refine((Keeps.of_grown hg).mono (S':=fun k=>k=W0\/some k=vh.ownBlock) (fun _ _ h=> .inr h)).trans (S':=fun k=>k=W0) ⟨rfl,rfl,rfl,by simp,fun j hj hn=>Below.heap_setCell _ _ _ _ hn⟩ (fun _ _ h=> .inl h)
 have hK2:Keeps (fun k=>k=W0) w' (w'.setCell ⟨W0,1,none⟩ vh'):=⟨rfl,rfl,rfl,by simp,fun j hj hn=>Below.heap_setCell _ _ _ _ hn⟩;have hpl:∀g,vp.ownBlock=some g->g<w.heap.size:=fun g hg=>(World.ownsRow.lt h.pairs g hg).2;refine⟨vh',w',hr,by rw[gC hrow];rfl,gF hrow,⟨?_,?_,?_,h.apP,hf.apart h.lt h.apH,fun g hg' e=>?_⟩,hf,hK,?_⟩
 ·have:=heap_setCell_same w' W0 1 (vp::vh::constV).toArray 72 vh' hrow;rw[List.setIfInBounds_toArray] at this;exact this
 ·refine gi h.pairs hK (fun g hg' e=>?_);rcases e with e|e
  ·subst e;exact h.apP hg'
  ·exact h.apart g hg' e.symm
 ·have:=gi ho hK2 (fun g hg' e=>by subst e;exact hf.apart h.lt h.apH hg');rw[List.length_append,List.map_append];exact this
 ·exact hf.apart (hpl g hg') (h.apart g hg') e
 ·rcases ho.2 with⟨e,_⟩| ⟨g,c,cur,e,_⟩
  ·exact⟨_,_,_,e⟩
  ·exact⟨_,_,_,e⟩
theorem Tryz.infoPrZ:(Tryz.prog.info? 113).map (fun i=>(i.zero,i.size,i.bytes))=some (some (.agg #[.pointer none,.pointer none]),2,16):=by kernel_rfl
theorem LawAt.pushPair{w:World}{W0:Nat}{vp vh:Value}{ps:List Pr}{hs:List Nat}(h:LawAt w W0 vp vh ps hs)(p:Pr)(hn:ps.length<=1000000000000):
  ∃vp' w',(Builtin.append_ #[69,69] 69 #[vp,.slice (some ⟨w.heap.size,0,none⟩) 1 1]).run Tryz.prog (w.alloc (.cells #[.pointer (some ⟨p.m,0,none⟩),.pointer (some ⟨p.r,0,none⟩)] 113))=.ok vp' w'/\w'.cell? ⟨W0,0,none⟩=some vp/\w'.frozen? ⟨W0,0,none⟩=false/\LawAt (w'.setCell ⟨W0,0,none⟩ vp') W0 vp' vh (ps++[p]) hs/\Fresh w vp vp'/\Keeps (fun k=>k=W0\/some k=vp.ownBlock) w (w'.setCell ⟨W0,0,none⟩ vp')/\(∃a n c,vp'=.slice a n c)/\Keeps (fun k=>some k=vp.ownBlock) w w':=by
 obtain⟨vp',w',hr,ho,hg,hm⟩:=Gf (w:=w) (B:=0) 69 113 Tryz.underlying69 Tryz.infoPrZ rfl (by decide) (by decide) (prV p) rfl (fun u hu=>by simp[prV] at hu;rcases hu with rfl|rfl<;>rfl) h.pairs (Nat.zero_le _) hn;have hrow:=(hg.block W0 h.lt (fun e=>h.apP e.symm)).trans h.row;have hf:=hm.fresh;have hK:Keeps (fun k=>k=W0\/some k=vp.ownBlock) w (w'.setCell ⟨W0,0,none⟩ vp'):=by refine((Keeps.of_grown hg).mono (S':=fun k=>k=W0\/some k=vp.ownBlock) (fun _ _ h=> .inr h)).trans (S':=fun k=>k=W0) ⟨rfl,rfl,rfl,by simp,fun j hj hn=>Below.heap_setCell _ _ _ _ hn⟩ (fun _ _ h=> .inl h)
 have hK2:Keeps (fun k=>k=W0) w' (w'.setCell ⟨W0,0,none⟩ vp'):=⟨rfl,rfl,rfl,by simp,fun j hj hn=>Below.heap_setCell _ _ _ _ hn⟩;have hhl:∀g,vh.ownBlock=some g->g<w.heap.size:=fun g hg=>(World.ownsRow.lt h.holds g hg).2;refine⟨vp',w',hr,by rw[gC hrow];rfl,gF hrow,⟨?_,?_,?_,hf.apart h.lt h.apP,h.apH,fun g hg' e=>?_⟩,hf,hK,?_,Keeps.of_grown hg⟩
 ·have:=heap_setCell_same w' W0 0 (vp::vh::constV).toArray 72 vp' hrow;rw[List.setIfInBounds_toArray] at this;exact this
 ·have:=gi ho hK2 (fun g hg' e=>by subst e;exact hf.apart h.lt h.apP hg');rw[List.length_append,List.flatMap_append,List.flatMap_singleton];exact this
 ·refine gi h.holds hK (fun g hg' e=>?_);rcases e with e|e
  ·subst e;exact h.apH hg'
  ·exact h.apart g e.symm hg'
 ·exact hf.apart (hhl g e) (fun e2=>h.apart g e2 e) hg'
 ·rcases ho.2 with⟨e,_⟩| ⟨g,c,cur,e,_⟩
  ·exact⟨_,_,_,e⟩
  ·exact⟨_,_,_,e⟩
def Writ(w:World)(g c i:Nat)(m:Int):Prop:=∃cur:List Value,w.heap[g]? =some (.cells cur.toArray 36 (0,0))/\cur.length=c*3/\cur.take (i*3)=(List.replicate i (markP m)).flatMap P3
theorem Writ.step{w:World}{g c i:Nat}{m:Int}(h:Writ w g c i m)(hi:i<c):Writ (w.setCells g (i*3) [I m,I 0,I 0]) g c (i+1) m:=by
 obtain⟨cur,h1,h2,h3⟩:=h;have hl:i*3+[I m,I 0,I 0].length<=cur.length:=by simp;omega
 refine⟨over cur (i*3) [I m,I 0,I 0],zK _ _ _ _ h1 hl,by rw[zM hl,h2],?_⟩;rw[show(i+1)*3=i*3+[I m,I 0,I 0].length by simp;omega,over_take (by omega),h3,List.replicate_succ',List.flatMap_append];rfl
theorem Writ.start{w:World}{B g n c:Nat}{L:List Wd.Pt}(h:Own w B (.slice (some ⟨g,0,none⟩) n c) L)(m:Int):Writ w g c 0 m/\n=L.length/\n<=c/\c<=maxLen/\B<=g:=by
 rcases h.2 with⟨e,_⟩| ⟨g',cap,cur,e,hB,hg,hc,hm,hs,_⟩
 ·cases e
 ·injection e with e1 e2 e3;injection e1 with e1;injection e1 with e1;subst e1 e2 e3;exact⟨⟨cur.toList,by simpa using hg,by simpa using hs,by simp⟩,rfl,hc,hm,hB⟩
theorem Writ.own{w:World}{B g n c:Nat}{m:Int}(h:Writ w g c n m)(hn:n<=c)(hc:c<=maxLen)(hB:B<=g):Own w B (.slice (some ⟨g,0,none⟩) n c) (List.replicate n (markP m)):=by obtain⟨cur,h1,h2,h3⟩:=h;refine⟨gQ _,.inr ⟨g,c,cur.toArray,by rw[List.length_replicate],hB,h1,by rw[List.length_replicate];exact hn,hc,by simpa using h2,by rw[List.length_replicate];simpa using h3⟩⟩
theorem own_pt{w:World}{B g:Nat}{v:Value}{L:List Wd.Pt}(h:Own w B v L)(hg:v.ownBlock=some g)(i:Nat)(hi:i<L.length):PtAt w g (i*3) L[i]:=by
 rcases h.2 with⟨e,h0⟩| ⟨g',cap,cur,e,_⟩
 ·omega
 ·subst e;simp only[Value.ownBlock,Option.some.injEq] at hg;subst hg;have hr:=h.reads;obtain⟨a,c,e,hr⟩:=hr;injection e with e1 e2 e3;obtain⟨g2,o2,ea,hp⟩:=hr (fun e=>by rw[e] at hi;simp at hi);rw[<-e1] at ea;injection ea with ea;injection ea with ea eo;have:=hp i hi;rw[<-ea,<-eo,Nat.zero_add] at this;exact this
def Aside(T:Nat->Prop)(w:World)(m:Int)(v:Value)(N:Nat)(s:Value):Prop:=∃a n c,s=.slice a n c/\n<=N/\∀i,i<n->∃g,a=some ⟨g,0,none⟩/\T g/\(v.ownBlock=some g\/PtAt w g (i*3) (markP m))
theorem rep_at{N i:Nat}{m:Int}(h:i< (List.replicate N (markP m)).length):(List.replicate N (markP m))[i]=markP m:=List.getElem_replicate h
theorem Aside.step{T T':Nat->Prop}{w w':World}{m:Int}{v v' s:Value}{N B:Nat}(h:Aside T w m v N s)(ho:Own w B v (List.replicate N (markP m)))(hg:w.grownBy w' v.ownBlock)(hm:Moved w w' v v')(hT:∀g,g<w.heap.size->T g->T' g):Aside T' w' m v' (N+1) s:=by
 obtain⟨a,n,c,e,hn,hr⟩:=h;refine⟨a,n,c,e,by omega,fun i hi=>?_⟩;obtain⟨g,ea,hTg,hp⟩:=hr i hi;have hp':PtAt w g (i*3) (markP m):=by
  rcases hp with hp|hp
  ·have:=own_pt ho hp i (by rw[List.length_replicate];omega);rw[rep_at] at this;exact this
  ·exact hp
 refine⟨g,ea,hT g hp'.lt hTg,?_⟩;rcases hm with hm| ⟨k,hk1,hk2,hb⟩
 ·by_cases hv:v.ownBlock=some g
  ·exact .inl (hm.trans hv)
  ·exact .inr (hp'.block (hg.block g hp'.lt (fun e=>hv e.symm)))
 ·exact .inr (hp'.block (hb.block g hp'.lt))
theorem Aside.keeps{S T T':Nat->Prop}{w w':World}{m:Int}{v s:Value}{N:Nat}(h:Aside T w m v N s)(hk:Keeps S w w')(hT:∀g,T g->¬S g)(hT':∀g,(v.ownBlock=some g\/g<w.heap.size)->T g->T' g):Aside T' w' m v N s:=by obtain⟨a,n,c,e,hn,hr⟩:=h;refine⟨a,n,c,e,hn,fun i hi=>?_⟩;obtain⟨g,ea,hTg,hp⟩:=hr i hi;refine⟨g,ea,hT' g (hp.imp_right (fun h=>h.lt)) hTg,hp.imp_right (fun h=>h.block (hk.block g h.lt (hT g hTg)))⟩
theorem Aside.marked{T:Nat->Prop}{w:World}{m:Int}{v s:Value}{N B:Nat}(h:Aside T w m v N s)(ho:Own w B v (List.replicate N (markP m)))(hN:N<=100000):Marked T w m s:=by
 obtain⟨a,n,c,e,hn,hr⟩:=h;refine⟨a,n,c,e,by omega,fun i hi=>?_⟩;obtain⟨g,ea,hTg,hp⟩:=hr i hi;refine⟨g,0,ea,hTg,?_⟩;rw[Nat.zero_add];rcases hp with hp|hp
 ·have:=own_pt ho hp i (by rw[List.length_replicate];omega);rw[rep_at] at this;exact this
 ·exact hp
structure KeepSt(w0 w:World)(H:Nat)(O:Option Nat)(m:Int)(v vp:Value)(N:Nat)(sl:List Value):Prop where
 row:w.heap[H]? =some (.cells #[vp,I m] 120 (0,0))
 own:Own w 0 v (List.replicate N (markP m))
 pts:w.ownsRow 0 27 1 vp sl.length sl
 old:∀s∈sl,Aside (fun g=>(H<g\/O=some g)/\vp.ownBlock≠some g) w m v N s
 vb:∀g,v.ownBlock=some g->(H<g\/O=some g)/\vp.ownBlock≠some g
 pb:∀g,vp.ownBlock=some g->H<g
 ob:O≠some H
 keep:Keeps (fun k=>O=some k) w0 w
 hs:H=w0.heap.size
theorem KeepSt.lt{w0 w:World}{H:Nat}{O:Option Nat}{m:Int}{v vp:Value}{N:Nat}{sl:List Value}(h:KeepSt w0 w H O m v vp N sl):H<w.heap.size:=(gL h.row)
theorem KeepSt.mark{w0 w w':World}{H:Nat}{O:Option Nat}{m:Int}{v v' vp:Value}{N:Nat}{sl:List Value}(h:KeepSt w0 w H O m v vp N sl)
  (ho:w'.ownsRow 0 36 3 v' (N+1) ((List.replicate N (markP m)).flatMap P3++[I m,I 0,I 0])) (hg:w.grownBy w' v.ownBlock) (hm:Moved w w' v v'):KeepSt w0 w' H O m v' vp (N+1) sl:=by
 have hH:∀k,k<w.heap.size->v.ownBlock≠some k->w'.heap[k]? =w.heap[k]? :=fun k hk hn=>hg.block k hk (fun e=>hn e.symm);have hvH:v.ownBlock≠some H:=fun e=>by
  rcases (h.vb H e).1 with h1|h1
  ·omega
  ·exact h.ob h1
 have hvb:∀g,v'.ownBlock=some g->(H<g\/O=some g)/\vp.ownBlock≠some g:=fun g hg'=>by
  rcases hm with e| ⟨k,e,hk,_⟩
  ·exact h.vb g (e.symm.trans hg')
  ·(have:k=g:=by rw[e] at hg';injection hg');subst this;exact⟨.inl (Nat.lt_of_lt_of_le h.lt hk),fun e2=>by have:=(World.ownsRow.lt h.pts k e2).2;omega⟩
 refine⟨(hH H h.lt hvH).trans h.row,?_,?_,fun s hs=>?_,hvb,h.pb,h.ob,?_,h.hs⟩
 ·show w'.ownsRow 0 36 3 v' (List.replicate (N+1) (markP m)).length ((List.replicate (N+1) (markP m)).flatMap P3);rw[List.length_replicate,List.replicate_succ',List.flatMap_append];exact ho
 ·refine gi (S:=fun k=>some k=v.ownBlock) h.pts (Keeps.of_grown hg) (fun g hg' e=>?_);exact(h.vb g e.symm).2 hg'
 ·exact(h.old s hs).step h.own hg hm (fun _ _ h=>h)
 ·refine h.keep.trans (Keeps.of_grown hg) (fun j hj e=>?_);rcases (h.vb j e.symm).1 with h1|h1
  ·have:=h.hs;omega
  ·exact h1
theorem KeepSt.list{w0 w w' w'':World}{H:Nat}{O:Option Nat}{m:Int}{v vp vp':Value}{N:Nat}{sl:List Value}(h:KeepSt w0 w H O m v vp N sl)
  (ho:w'.ownsRow 0 27 1 vp' (sl.length+1) (sl++[v])) (hg:w.grownBy w' vp.ownBlock) (hf:Fresh w vp vp') (hk:Keeps (fun k=>k=H) w' w'') (hr:w''.heap[H]? =some (.cells #[vp',I m] 120 (0,0))):KeepSt w0 w'' H O m v vp' N (sl++[v]):=by
 have hlt:=h.lt;have hpb:∀g,vp'.ownBlock=some g->H<g:=fun g hg'=>by
  rcases hf with e| ⟨k,e,hk⟩
  ·exact h.pb g (e.symm.trans hg')
  ·(have:k=g:=by rw[e] at hg';injection hg');omega
 have hne:∀g,g<w.heap.size->vp.ownBlock≠some g->vp'.ownBlock≠some g:=fun g hl hn e2=>by
  rcases hf with e| ⟨k,e,hk⟩
  ·exact hn (e.symm.trans e2)
  ·(have:k=g:=by rw[e] at e2;injection e2);omega
 have hK:Keeps (fun k=>some k=vp.ownBlock\/k=H) w w'':=((Keeps.of_grown hg).mono (fun _ _ h=> .inl h)).trans hk (fun _ _ h=> .inr h);have hTn:∀g,((H<g\/O=some g)/\vp.ownBlock≠some g)->¬(some g=vp.ownBlock\/g=H):=fun g hT e=>by
  rcases e with e|e
  ·exact hT.2 e.symm
  ·subst e;rcases hT.1 with h1|h1
   ·omega
   ·exact h.ob h1
 have hvl:∀g,v.ownBlock=some g->g<w.heap.size:=fun g hg'=>h.own.lt hg';refine⟨hr,?_,?_,fun s hs=>?_,fun g hg'=>?_,hpb,h.ob,?_,h.hs⟩
 ·exact h.own.keeps hK (fun g hg'=>hTn g (h.vb g hg'))
 ·have:=gi (S:=fun k=>k=H) ho hk (fun g hg' e=>by have:=hpb g hg';omega);rw[List.length_append];exact this
 ·rcases List.mem_append.1 hs with hs|hs
  ·exact(h.old s hs).keeps hK hTn (fun g hl hT=>⟨hT.1,hne g (hl.elim (hvl g) id) hT.2⟩)
  ·rw[List.mem_singleton.1 hs];obtain⟨a,c,e⟩:=h.own.slice;refine⟨a,N,c,by rw[e,List.length_replicate],Nat.le_refl _,fun i hi=>?_⟩;have e0:=e;rcases h.own.2 with⟨_,h0⟩| ⟨g,cap,cur,e',_⟩
   ·rw[List.length_replicate] at h0;omega
   ·(have hb:v.ownBlock=some g:=by rw[e'];rfl);rw[e'] at e0;injection e0 with e1;exact⟨g,e1.symm,⟨(h.vb g hb).1,hne g (hvl g hb) (h.vb g hb).2⟩,.inl hb⟩
 ·exact⟨(h.vb g hg').1,hne g (hvl g hg') (h.vb g hg').2⟩
 ·refine h.keep.trans hK (fun j hj e=>?_);have:=h.hs;rcases e with e|e
  ·have:=h.pb j e.symm;omega
  ·omega
theorem KeepSt.start{w w1:World}{m:Int}{v:Value}{N:Nat}(hr:w1.heap[w.heap.size]? =some (.cells #[.slice none 0 0,I m] 120 (0,0)))(ho:Own w1 0 v (List.replicate N (markP m)))(hvb:∀g,v.ownBlock=some g->g<w.heap.size)(hk:Keeps (fun k=>v.ownBlock=some k) w w1):KeepSt w w1 w.heap.size v.ownBlock m v (.slice none 0 0) N []:=⟨hr,ho,World.ownsRow_nil _ _ _ _,fun s hs=>(by cases hs),fun g hg=>⟨.inr hg,fun e=>(by cases e)⟩,fun g hg=>(by cases hg),fun e=>(by have:=hvb _ e;omega),hk,rfl⟩
theorem KeepSt.put{w0 w:World}{H:Nat}{O:Option Nat}{m:Int}{v vp:Value}{N:Nat}{sl:List Value}(h:KeepSt w0 w H O m v vp N sl)(hl:sl.length<=100):
  ∃vp' w',(Builtin.append_ #[118,118] 118 #[vp,.slice (some ⟨w.heap.size,0,none⟩) 1 1]).run Tryz.prog (w.alloc (.cells #[v] 27))=.ok vp' w'/\w'.cell? ⟨H,0,none⟩=some vp/\w'.frozen? ⟨H,0,none⟩=false/\KeepSt w0 (w'.setCell ⟨H,0,none⟩ vp') H O m v vp' N (sl++[v]):=by
 have hv1:v.oneCell'=true:=by obtain⟨a,c,e⟩:=h.own.slice;rw[e];rfl
 obtain⟨vp',w',hr,ho,hg,hm⟩:=Gf (w:=w) (B:=0) 118 27 Tryz.underlying118 Tryz.infoSlZ rfl (by decide) (by decide) [v] rfl (fun u hu=>by rw[List.mem_singleton.1 hu];exact hv1) h.pts (Nat.zero_le _) (by omega);have hpH:vp.ownBlock≠some H:=fun e=>by have:=h.pb H e;omega
 have hrow:=(hg.block H h.lt (fun e=>hpH e.symm)).trans h.row;refine⟨vp',w',hr,by rw[gC hrow];rfl,gF hrow,?_⟩;refine h.list ho hg hm.fresh ⟨rfl,rfl,rfl,by simp,fun j hj hn=>Below.heap_setCell _ _ _ _ hn⟩ ?_;exact heap_setCell_same w' H 0 #[vp,I m] 120 vp' hrow
theorem KeepSt.more{w0 w:World}{H:Nat}{O:Option Nat}{m:Int}{v vp:Value}{N:Nat}{sl:List Value}(h:KeepSt w0 w H O m v vp N sl)(hN:N<=100000):
  ∃v' w',(Builtin.append_ #[27,27] 27 #[v,.slice (some ⟨w.heap.size,0,none⟩) 1 1]).run Tryz.prog (w.alloc (.cells #[I m,I 0,I 0] 36))=.ok v' w'/\KeepSt w0 w' H O m v' vp (N+1) sl:=by
 have hown:w.ownsRow 0 36 3 v N ((List.replicate N (markP m)).flatMap P3):=by have:=h.own;unfold Own at this;rw[List.length_replicate] at this;exact this
 obtain⟨v',w',hr,ho,hg,hm⟩:=Gf (w:=w) (B:=0) 27 36 Tryz.underlying27 Tryz.infoPt rfl (by decide) (by decide) [I m,I 0,I 0] rfl (fun u hu=>by simp at hu;rcases hu with rfl|rfl<;>rfl) hown (Nat.zero_le _) (by omega);exact⟨v',w',hr,h.mark ho hg hm⟩
theorem KeepSt.shapeP{w0 w:World}{H:Nat}{O:Option Nat}{m:Int}{v vp:Value}{N:Nat}{sl:List Value}(h:KeepSt w0 w H O m v vp N sl):∃a c,vp=.slice a sl.length c:=by
 rcases h.pts.2 with⟨e,h0⟩| ⟨g,c,cur,e,_⟩
 ·exact⟨_,_,by rw[e,h0]⟩
 ·exact⟨_,_,e⟩
theorem KeepSt.shapeV{w0 w:World}{H:Nat}{O:Option Nat}{m:Int}{v vp:Value}{N:Nat}{sl:List Value}(h:KeepSt w0 w H O m v vp N sl):∃a c,v=.slice a N c:=by obtain⟨a,c,e⟩:=h.own.slice;rw[List.length_replicate] at e;exact⟨a,c,e⟩
theorem KeepSt.hold{w0 w:World}{H:Nat}{O:Option Nat}{m:Int}{v vp:Value}{N:Nat}{sl:List Value}(h:KeepSt w0 w H O m v vp N sl)(hN:N<=100000)(hl:sl.length<=9):HoldIs (fun k=>k<w.heap.size/\(w0.heap.size<=k\/O=some k)) w H:=by have hH:=h.hs;refine⟨⟨h.lt,.inl (by omega)⟩,vp,m,sl,h.row,h.pts,fun g hg=>⟨(World.ownsRow.lt h.pts g hg).2,.inl (by have:=h.pb g hg;omega)⟩,hl,fun s hs=>?_⟩;obtain⟨a,n,c,e,hn,hr⟩:=(h.old s hs).marked h.own hN;refine⟨a,n,c,e,hn,fun i hi=>?_⟩;obtain⟨g,o,ea,hT,hp⟩:=hr i hi;exact⟨g,o,ea,⟨hp.lt,hT.1.imp_left (fun h=>by omega)⟩,hp⟩
structure Begun(w w':World)(W0:Nat)(vp vh:Value)(ps:List Pr)(hs:List Nat)(vp':Value)(p:Pr):Prop where
 keep:Keeps (fun k=>k=W0\/some k=vp.ownBlock) w w'
 law:LawAt w' W0 vp' vh (ps++[p]) hs
 fresh:Fresh w vp vp'
 map:IsMap w' p.m p.v []
 ref:RMap w' p.r p.u []
 em:p.L=[]
 er:p.K=[]
 mv:p.v=.slice none 0 0
 rv:p.u=.slice none 0 0
 m1:w.heap.size<=p.m
 r1:w.heap.size<=p.r
 ne:p.m≠p.r
 am:vp'.ownBlock≠some p.m
 ar:vp'.ownBlock≠some p.r
theorem begin_law(W0:Nat)(vp vh:Value)(ps:List Pr)(hs:List Nat)(w:World)(hL:LawAt w W0 vp vh ps hs)(hn:ps.length<=1000000000000):
  Calls Tryz.prog 27 #[.pointer (some ⟨W0,0,none⟩)] w fun e w'=>e=.returned (.bool true)/\∃vp' p,Begun w w' W0 vp vh ps hs vp' p:=by
 have hlt:=hL.lt;have HL:=gH hL;have HNEW:=gH (new_any w);clear hL;go_enter Tryz.func27,Tryz.ntmps27
 go_wp2_with fail
 refine HNEW.out.mono ?_;rintro _ w1⟨rfl,hm1,hs1,hb1⟩;have HM1:=gH hm1;have hs1':w.heap.size<w1.heap.size:=by omega
 have HS1:=gH hs1;have HB1:=gH hb1;have HL1:=gH (HL.out.keeps (S:=fun _=>False) (Keeps.of_below hb1) (fun _ _ h=>h));have hc1:w1.cell? ⟨W0,0,none⟩=some vp:=by rw[gC HL1.out.row];rfl
 have hRC:w1.rangeAt W0 2 constV:=fun k v hv=>by rw[gC HL1.out.row,List.getElem?_toArray,Nat.add_comm 2 k];exact hv
 have hlt1:W0<w1.heap.size:=by omega
 clear hm1 hs1 hb1 HNEW;go_upto_region 4 with fail
 have hS:w1.drew.cell? ⟨W0,0,none⟩=some vp/\w1.drew.rangeAt W0 2 constV:=⟨by simpa using hc1,fun k v hv=>hRC k v hv⟩;have hIC:(Tryz.prog.info? 67).map (·.size)=some constV.length:=by rw[oE];exact Tryz.infoConst
 obtain⟨vs,ns,cs,hvp⟩:∃a n c,vp=.slice a n c:=by
  rcases HL.out.pairs.2 with⟨e,_⟩| ⟨g,c,cur,e,_⟩
  ·exact⟨_,_,_,e⟩
  ·exact⟨_,_,_,e⟩
 refine gX 17 (fun W=>W.cell? ⟨W0,0,none⟩=some vp/\W.rangeAt W0 2 constV) (by kernel_rfl) hS (fun hH=>?_);clear hS hRC hc1;have HBR:=gH built_rmap;subst hvp;refine tkJ 0 rfl (by kernel_rfl) gJ (by rfl) hH ⟨_,by rintro W⟨zv,zc⟩;go_simp;try with_reducible rfl,?_⟩;try go_simp
 refine tkJ 1 rfl (by kernel_rfl) gJ (by rfl) hH ⟨_,by rintro W⟨zv,zc⟩;go_simp;try with_reducible rfl,?_⟩;try go_simp
 refine tkJ 2 rfl (by kernel_rfl) gJ (by rfl) hH ⟨_,by rintro W⟨zv,zc⟩;go_simp;try with_reducible rfl,?_⟩;try go_simp
 refine tkJ 3 rfl (by kernel_rfl) gJ (by rfl) hH ⟨_,by rintro W⟨zv,zc⟩;go_simp;try with_reducible rfl,?_⟩;try go_simp
 refine tkJ 4 rfl (by kernel_rfl) gJ (by rfl) hH ⟨_,by rintro W⟨zv,zc⟩;go_simp;try with_reducible rfl,?_⟩;try go_simp
 refine tkJ 5 rfl (by kernel_rfl) gJ (by rfl) hH ⟨_,by rintro W⟨zv,zc⟩;go_simp;try with_reducible rfl,?_⟩;try go_simp
 refine tkJ 6 rfl (by kernel_rfl) gJ (by rfl) hH ⟨_,by rintro W⟨zv,zc⟩;go_simp;try with_reducible rfl,?_⟩;try go_simp
 refine tkJ 7 rfl (by kernel_rfl) gJ (by rfl) hH ⟨_,by rintro W⟨zv,zc⟩;go_simp;try with_reducible rfl,?_⟩;try go_simp
 refine tkJ 8 rfl (by kernel_rfl) gJ (by rfl) hH ⟨_,by rintro W⟨zv,zc⟩;go_simp;try with_reducible rfl,?_⟩;try go_simp
 refine tkA 9 (v:=.agg constV.toArray) rfl (by kernel_rfl) gI (yieldsIf_load_mid (by rfl) _ _ rfl W0 2 rfl constV _ (fun W hW=>hW.2) Tryz.underlying67 rfl hIC) hH ?_;try go_simp
 refine tkA 10 (v:=.agg (.slice none 0 0::constV).toArray) rfl (by kernel_rfl) gI (yields_built (by rfl) 111 _ rfl (.slice none 0 0::constV).toArray [(1,.agg constV.toArray)] rfl HBR.out) hH ?_;generalize hMV:(Value.slice none 0 0::constV).toArray=MV at*;have HMV:=gH hMV;clear hMV;have HCA:=gH (fun(W W':World) (hb:Below W.heap.size W W') (hw:W0<W.heap.size) (h:W.cell? ⟨W0,0,none⟩=some (.slice vs ns cs)/\W.rangeAt W0 2 constV)=>show W'.cell? ⟨W0,0,none⟩=some (.slice vs ns cs)/\W'.rangeAt W0 2 constV from⟨(hb.cell (p:=⟨W0,0,none⟩) hw).trans h.1,fun k v hv=>(hb.cell (p:=⟨W0,2+k,none⟩) hw).trans (h.2 k v hv)⟩);have hH0:w1.cell? ⟨W0,0,none⟩=some (.slice vs ns cs)/\w1.rangeAt W0 2 constV:=⟨by simpa using hH.1,fun k v hv=>hH.2 k v hv⟩;refine gA (i:=11) (by kernel_rfl) rfl (fun K hK=>?_);go_simp;have hn2:=heap_alloc_new w1;have hb2':=fun o=>(gB w1 o).drew;generalize hW:World.drew (World.alloc w1 _)=w2;have hb2:Below w1.heap.size w1 w2:=by rw[<-hW];exact hb2' _
 have hr2:w2.heap[w1.heap.size]? =some (.cells MV 111 (0,0)):=by rw[<-hW];exact hn2 _
 clear hW hn2 hb2';have hs2:w1.heap.size<w2.heap.size:=(gL hr2);have hH2:=HCA.out _ _ hb2 hlt1 hH0;refine hK.out _ _ (fun _=>hH2) ?_;clear hK K;try go_simp
 refine tkJ 12 rfl (by kernel_rfl) gJ (by rfl) hH2 ⟨_,by rintro W⟨zv,zc⟩;go_simp;try with_reducible rfl,?_⟩;try go_simp
 obtain⟨vp',w4,hr,hcl,hfz,hLF,hFr,hKF,⟨ah,nh,ch,eh⟩,hKG⟩:=(HL1.out.keeps (S:=fun _=>False) (Keeps.of_below hb2) (fun _ _ h=>h)).pushPair ⟨w.heap.size,.slice none 0 0,w1.heap.size,.slice none 0 0,[],[]⟩ hn;subst eh;have hr':(Builtin.append_ #[69,69] 69 #[.slice vs ns cs,.slice (some ⟨w2.heap.size,0,none⟩) 1 1]).run Tryz.prog (w2.alloc (.cells #[.pointer (some ⟨w.heap.size,0,none⟩),.pointer (some ⟨w1.heap.size,0,none⟩)] 113))=.ok (.slice ah nh ch) w4:=hr;have HR2:=gH hr2;have HB2:=gH hb2;have HLF:=gH hLF;have HFR:=gH hFr;have HKF:=gH hKF;have hH4:w4.cell? ⟨W0,0,none⟩=some (.slice vs ns cs)/\w4.rangeAt W0 2 constV:=by have hap:some W0≠(Value.slice vs ns cs).ownBlock:=fun e=>HL.out.apP e.symm;exact⟨hcl,fun k v hv=>(World.cell?_of_block (a:=⟨W0,2+k,none⟩) (hKG.block W0 (by omega) hap)).trans (hH2.2 k v hv)⟩
 clear hr hr2 hLF hFr hKF hKG;refine gA (i:=13) (by kernel_rfl) rfl (fun K hK=>?_);go_simp;refine hK.out _ _ (fun _=>HCA.out _ _ (gB w2 _) (by omega) hH2) ?_;clear hK K;try go_simp
 refine gA (i:=14) (by kernel_rfl) rfl (fun K hK=>?_);rw[if_pos (by rfl)];refine Lib.wp_append_run _ _ _ 69 69 rfl _ _ rfl rfl _ _ hr' ?_;refine hK.out _ _ (fun _=>hH4) ?_;clear hK K hr';try go_simp
 refine gA (i:=15) (by kernel_rfl) rfl (fun K hK=>?_);go_simp;refine hK.out _ _ (fun _=>hH4) ?_;clear hK K;try go_simp
 refine gA (i:=16) (by kernel_rfl) rfl (fun K hK=>?_);go_simp;refine hK.out _ _ (fun _=>hH4) ?_;clear hK K;try go_simp
 refine gA (i:=17) (by kernel_rfl) rfl (fun K hK=>?_);go_simp;refine hK.out _ _ (fun h=>absurd rfl h) ?_;clear hK K;refine gO (by kernel_rfl) ?_ _;go_wp2_with fail
 go_ret;have hsz:=HS1.out;have hne:w.heap.size≠w1.heap.size:=by omega
 have hvb:∀g,(Value.slice vs ns cs).ownBlock=some g->g<w.heap.size:=fun g hg=>(World.ownsRow.lt HL.out.pairs g hg).2;have hK12:Keeps (fun k=>k=W0\/some k=(Value.slice vs ns cs).ownBlock) w w2:=(Keeps.of_below HB1.out).trans (Keeps.of_below (S:=fun k=>k=W0\/some k=(Value.slice vs ns cs).ownBlock) HB2.out) (fun _ _ h=>h);have hno:∀k,w.heap.size<=k->¬(k=W0\/some k=(Value.slice vs ns cs).ownBlock):=fun k hk e=>by
  rcases e with e|e
  ·omega
  ·have:=hvb k e.symm;omega
 have hnm:∀k,w.heap.size<=k->k<w2.heap.size->(Value.slice ah nh ch).ownBlock≠some k:=fun k hk hk2 e=>by
  rcases HFR.out with h1| ⟨g,h1,h2⟩
  ·have:=hvb k (h1.symm.trans e);omega
  ·rw[h1] at e;injection e with e;omega
 refine⟨rfl,_,⟨w.heap.size,.slice none 0 0,w1.heap.size,.slice none 0 0,[],[]⟩,⟨hK12.trans HKF.out (fun _ _ h=>h),HLF.out,?_,?_,?_,rfl,rfl,rfl,rfl,Nat.le_refl _,(Nat.le_of_lt hs1'),hne,hnm _ gR (Nat.lt_trans hs1' hs2),hnm _ (Nat.le_of_lt hs1') hs2⟩⟩
 ·rcases HFR.out with h1| ⟨g,h1,h2⟩
  ·exact .inl h1
  ·exact .inr ⟨g,h1,by omega⟩
 ·refine(HM1.out.below HB2.out).keeps HKF.out (fun k hk=>?_);rcases hk with rfl|hk
  ·exact hno _ gR
  ·cases hk
 ·refine RMap.keeps (w:=w2) ⟨?_,World.ownsRow_nil _ _ _ _,fun e=>(by cases e)⟩ HKF.out (fun k hk=>?_)
  ·rw[HR2.out,HMV.out]
  ·rcases hk with rfl|hk
   ·exact hno _ (Nat.le_of_lt hs1')
   ·cases hk
theorem Tryz.infoWorldZ:(Tryz.prog.info? 72).bind (fun i=>i.zero.map (fun z=>(z.cells.size,z.cells[0]?,z.cells[1]?)))=some (74,some (.slice none 0 0),some (.slice none 0 0)):=by kernel_rfl
theorem Tryz.placesWorld:((Tryz.prog.fieldsOf 72).toList.mapM (fun f=>(Tryz.prog.info? f.type).map fun i=>(f.offset,i.size)))=some [(0,1),(1,1),(2,72)]:=by kernel_rfl
theorem built_world:Tryz.prog.built 72 [(2,.agg constV.toArray)]=some (.slice none 0 0:: .slice none 0 0::constV).toArray:=by
 have hS:Tryz.prog.underlying 72=some (.struct (Tryz.prog.fieldsOf 72)):=by kernel_rfl
 have hz:=Tryz.infoWorldZ;have hp:=Tryz.placesWorld;unfold Program.built;cases hi:Tryz.prog.info? 72 with
 |none=>rw[hi] at hz;cases hz
 |some it=>
  rw[hi] at hz;cases hz0:it.zero with
  |none=>simp[hz0] at hz
  |some z=>
   simp only[hz0,Option.bind_some,Option.map_some,Option.some.injEq,Prod.mk.injEq] at hz;rw[hS];simp only[hz0,hp];exact fill_mid _ 2 [.slice none 0 0,.slice none 0 0] constV z.cells (by rw[hz.1,oE];rfl) (fun k hk=>by
    (have:k<2:=by simpa using hk);rcases (show k=0\/k=1 by omega) with rfl|rfl
    ·exact hz.2.1
    ·exact hz.2.2) (by rw[oE];rfl)
theorem pr_flat:∀(ps:List Pr) (i:Nat) (h:i<ps.length),(ps.flatMap prV)[i*2]? =some (.pointer (some ⟨ps[i].m,0,none⟩))/\(ps.flatMap prV)[i*2+1]? =some (.pointer (some ⟨ps[i].r,0,none⟩))
 |p::ps,0,_=>⟨rfl,rfl⟩
 |p::ps,i+1,h=>by
  have ih:=pr_flat ps i (by simpa using h);have e1:(i+1)*2=i*2+1+1:=by omega
  rw[List.flatMap_cons,e1];exact ih
theorem LawAt.pair_at{w:World}{W0:Nat}{vp vh:Value}{ps:List Pr}{hs:List Nat}(h:LawAt w W0 vp vh ps hs)(hne:ps≠[]):∃g c,vp=.slice (some ⟨g,0,none⟩) ps.length c/\ps.length<=c/\∀w',Below w.heap.size w w'->w'.cell? ⟨W0,0,none⟩=some vp/\∀i,(hi:i<ps.length)->w'.cell? ⟨g,i*2,none⟩=some (.pointer (some ⟨ps[i].m,0,none⟩))/\w'.cell? ⟨g,i*2+1,none⟩=some (.pointer (some ⟨ps[i].r,0,none⟩)):=by
 rcases h.pairs.2 with⟨_,h0⟩| ⟨g,c,cur,e,_,_,hc,_⟩
 ·exact absurd (List.length_eq_zero_iff.1 h0) hne
 ·refine⟨g,c,e,hc,fun w' hb=>?_⟩;have h':=h.keeps (S:=fun _=>False) (Keeps.of_below hb) (fun _ _ h=>h);refine⟨by rw[gC h'.row];rfl,fun i hi=>?_⟩;obtain⟨e1,e2⟩:=pr_flat ps i hi;have c1:=h'.pairs.cells (g:=g) (by rw[e];rfl) _ _ e1;have c2:=h'.pairs.cells (g:=g) (by rw[e];rfl) _ _ e2;rw[Addr.add_lit,Nat.zero_add] at c1 c2;exact⟨c1,c2⟩
def InvE(w0 w:World)(W0 n:Nat):Prop:=∃ow vp vh ps hs,Inv w0 ow w W0 vp vh ps hs/\ps≠[]/\(∀p∈ps,p.L=p.K)/\ps.length<=n/\hs.length<=n
theorem InvE.below{w0 w w':World}{W0 n:Nat}(h:InvE w0 w W0 n)(hb:Below w.heap.size w w'):InvE w0 w' W0 n:=by obtain⟨ow,vp,vh,ps,hs,h1,h2⟩:=h;exact⟨ow,vp,vh,ps,hs,h1.below hb,h2⟩
theorem InvE.mono{w0 w:World}{W0 n m:Nat}(h:InvE w0 w W0 n)(hm:n<=m):InvE w0 w W0 m:=by obtain⟨ow,vp,vh,ps,hs,h1,h2,h3,h4,h5⟩:=h;exact⟨ow,vp,vh,ps,hs,h1,h2,h3,by omega,by omega⟩
theorem Inv.half{w0 w w1:World}{ow:Nat->Nat}{W0:Nat}{vp vh:Value}{ps:List Pr}{hs:List Nat}(h:Inv w0 ow w W0 vp vh ps hs)(i:Nat)(hi:i<ps.length)(hk:Keeps (Mine ps[i].m ps[i].v) w w1):RMap w1 ps[i].r ps[i].u ps[i].K:=by have hp:=h.pair i hi;exact hp.ref.keeps hk (fun k h1 h2=>by have:=hp.mt k h2;have:=hp.rt k h1;omega)
theorem Inv.two{w0 w w1 w2:World}{ow:Nat->Nat}{W0 n:Nat}{vp vh:Value}{ps:List Pr}{hs:List Nat}(h:Inv w0 ow w W0 vp vh ps hs)(hE:∀p∈ps,p.L=p.K)(hn:ps.length<=n)(hh:hs.length<=n)(i:Nat)(hi:i<ps.length){L':List Wd.Pt}(hG:Good L')
  (h1:∃v',IsMap w1 ps[i].m v' L'/\Fresh w ps[i].v v'/\Keeps (Mine ps[i].m ps[i].v) w w1) (h2:∃u',RMap w2 ps[i].r u' L'/\FreshR w1 ps[i].u u'/\Keeps (Mine ps[i].r ps[i].u) w1 w2):InvE w0 w2 W0 n:=by
 obtain⟨v',hm,hf,hk⟩:=h1;obtain⟨u',hm2,hf2,hk2⟩:=h2;have I1:=h.map i hi hk hm hf hG;have hi1:i< (ps.set i {ps[i] with v:=v',L:=L'}).length:=by rw[List.length_set];exact hi
 have e1:(ps.set i {ps[i] with v:=v',L:=L'})[i]={ps[i] with v:=v',L:=L'}:=List.getElem_set_self ..;have I2:=I1.ref i hi1 (u':=u') (K':=L') (by rw[e1];exact hk2) (by rw[e1];exact hm2) (by rw[e1];exact hf2);refine⟨_,vp,vh,_,hs,I2,?_,fun p hp=>?_,by rw[List.length_set,List.length_set];exact hn,hh⟩
 ·intro e;have:=congrArg List.length e;rw[List.length_set,List.length_set] at this;simp at this;rw[this] at hi;simp at hi
 ·obtain⟨j,hj,rfl⟩:=List.getElem_of_mem hp;by_cases e:i=j
  ·subst e;rw[List.getElem_set_self,e1]
  ·rw[List.getElem_set_ne e,List.getElem_set_ne e];exact hE _ (List.getElem_mem _)
structure Laid(w w':World)(W0:Nat)(v vp vh:Value)(ps:List Pr)(hs:List Nat)(vh':Value)(x:Nat):Prop where
 law:LawAt w' W0 vp vh' ps (hs++[x])
 fresh:Fresh w vh vh'
 keep:Keeps (fun k=>k=W0\/some k=vh.ownBlock\/v.ownBlock=some k) w w'
 hold:HoldIs (fun k=>(w.heap.size<=k\/v.ownBlock=some k)/\vh'.ownBlock≠some k) w' x
structure Filled(w wq:World)(va:Option Addr)(vn vc i:Nat)(m:Int):Prop where
 writ:∀g,va=some ⟨g,0,none⟩->Writ wq g vc i m
 keep:Keeps (fun k=>(Value.slice va vn vc).ownBlock=some k) w wq
theorem keeps_setCells(w:World)(g o:Nat)(vs:List Value):Keeps (fun k=>k=g) w (w.setCells g o vs):=by have hb:=gN (B:=0) (Nat.zero_le g) vs o w (Below.refl 0 w);exact⟨hb.os,hb.tape,hb.output,hb.size,fun j _ hn=>oO hn _ _ _⟩
theorem Filled.step{w wq:World}{g vn vc i:Nat}{m:Int}(h:Filled w wq (some ⟨g,0,none⟩) vn vc i m)(hi:i<vc):Filled w (wq.setCells g (i*3) [I m,I 0,I 0]) (some ⟨g,0,none⟩) vn vc (i+1) m:=⟨fun g' e=>by injection e with e;injection e with e;subst e;exact(h.writ g rfl).step hi,h.keep.trans (S':=fun k=>k=g) (keeps_setCells _ _ _ _) (fun j _ e=>by rw[e];rfl)⟩
theorem keep_law(W0:Nat)(vp vh:Value)(ps:List Pr)(hs:List Nat)(w:World)(B:Nat)(v:Value)(L:List Wd.Pt)(hL:LawAt w W0 vp vh ps hs)(hv:Own w B v L)(hl:L.length<=1000)(hn:hs.length<=1000000000000)
  (hap:∀g,v.ownBlock=some g->¬Lawn W0 vp vh g):
  Calls Tryz.prog 96 #[.pointer (some ⟨W0,0,none⟩),v] w fun e w'=>e=.returned (.tuple #[])/\∃vh' x,Laid w w' W0 v vp vh ps hs vh' x:=by
 have HL:=gH hL;have HAP:=gH hap;have HVL:=gH (fun g (hg:v.ownBlock=some g)=>hv.lt hg);have hlt:=hL.lt;have hc1:w.cell? ⟨W0,1,none⟩=some vh:=by rw[gC hL.row];rfl
 obtain⟨va,vn,vc,hve,hvn,HVV⟩:∃a n c,v=.slice a n c/\n<=1000/\((a=none/\n=0/\c=0)\/∃g,a=some ⟨g,0,none⟩/\n<=c/\c<=maxLen/\∀m,Writ w g c 0 m):=by
  rcases hv.2 with⟨e,h0⟩| ⟨g,c,cur,e,h1,h2,h3,h4,h5,h6⟩
  ·exact⟨_,_,_,e,by omega,.inl ⟨rfl,rfl,rfl⟩⟩
  ·exact⟨_,_,_,e,hl,.inr ⟨g,rfl,h3,h4,fun m=>(Writ.start (by rw[e] at hv;exact hv) m).1⟩⟩
 obtain⟨ha,hnn,hc,hhe,hnl⟩:∃a n c,vh=.slice a n c/\n=hs.length:=by
  rcases hL.holds.2 with⟨e,h0⟩| ⟨g,c,cur,e,_⟩
  ·exact⟨_,_,_,e,h0.symm⟩
  ·exact⟨_,_,_,e,rfl⟩
 have HVV:=gH HVV;subst hve hhe hnl;clear hL hv hap hl;have hbw:=gB w;have hrw:=heap_alloc_new w;go_enter Tryz.func96,Tryz.ntmps96
 go_wp2_with fail
 generalize (-1000-(hs.length:Int))=m;generalize hW:World.alloc w _=w1;have HB1:=gS (Below w.heap.size w w1) (by rw[<-hW];exact hbw _);have HR1:=gS (w1.heap[w.heap.size]? =some (.cells #[.slice none 0 0,I m] 120 (0,0))) (by rw[<-hW];exact hrw _);have hs1:w.heap.size<w1.heap.size:=(gL HR1.out);clear hW hbw hrw;go_loopw [5] (fun v5 wq=>∃i:Nat,i<=vn/\v5=I i/\Filled w1 wq va vn vc i m) (fun v5 _=>vn-(intOf v5).toNat)
 case atStart=>
  refine⟨0,by omega,rfl,⟨fun g e=>?_,Keeps.refl _ _⟩⟩;rcases HVV.out with⟨e0,_⟩| ⟨g',e',_,_,hw⟩
  ·rw[e0] at e;cases e
  ·rw[e'] at e;injection e with e;injection e with e;subst e;obtain⟨cur,h1,h2⟩:=hw m;have hg:g'<w.heap.size:=(gL h1);exact⟨cur,(HB1.out.block g' hg).trans h1,h2⟩
 case round=>
  obtain⟨i,hi,rfl,hF⟩:=hrel;have HF:=gH hF;have hrow:wr.heap[w.heap.size]? =some (.cells #[.slice none 0 0,I m] 120 (0,0)):=(hF.keep.block w.heap.size hs1 (fun e=>by have:=HVL.out _ e;omega)).trans HR1.out;have HROW:=gH hrow;have hm1:wr.cell? ⟨w.heap.size,1,none⟩=some (I m):=by rw[gC hrow];rfl
  have hm0:wr.cell? ⟨w.heap.size,0,none⟩=some (.slice none 0 0):=by rw[gC hrow];rfl
  clear hF hrow;by_cases hlt2:i<vn
  ·obtain⟨g,rfl,hnc,_⟩:∃g,va=some ⟨g,0,none⟩/\vn<=vc/\True:=by
    rcases HVV.out with⟨_,h0,_⟩| ⟨g',e',h1,_,_⟩
    ·omega
    ·exact⟨g',e',h1,trivial⟩
   have hST:=HF.out.step (by omega);obtain⟨cur,hcur,hcl,_⟩:=HF.out.writ g rfl;have hfz:∀k,wr.frozen? ⟨g,k,none⟩=false:=fun k=>gF hcur;have hce:∀k,k<vc*3->∃x,wr.cell? ⟨g,k,none⟩=some x:=fun k hk=>⟨cur[k]'(by omega),by rw[gC hcur,List.getElem?_toArray,List.getElem?_eq_getElem]⟩;obtain⟨x0,z0⟩:=hce (i*3) (by omega);obtain⟨x1,z1⟩:=hce (i*3+1) (by omega);obtain⟨x2,z2⟩:=hce (i*3+2) (by omega);have y0:=hfz (i*3);have y1:=hfz (i*3+1);have y2:=hfz (i*3+2);have HST:=gH hST;clear hcur hcl hfz hce hST;(go_wp2_with fail);exact⟨⟨i+1,hlt2,by go_num,HST.out⟩,by simp[intOf];omega⟩
  ·(have ei:i=vn:=by omega);subst ei;have hKS:KeepSt w wr w.heap.size (Value.slice va i vc).ownBlock m (.slice va i vc) (.slice none 0 0) i []:=by
    refine KeepSt.start HROW.out ?_ HVL.out ((Keeps.of_below (S:=fun k=>(Value.slice va i vc).ownBlock=some k) HB1.out).trans HF.out.keep (fun _ _ h=>h));rcases HVV.out with⟨rfl,rfl,rfl⟩| ⟨g,rfl,h1,h2,_⟩
    ·exact World.ownsRow_nil _ _ _ _
    ·exact(HF.out.writ g rfl).own h1 h2 (Nat.zero_le _)
   clear HF HROW HR1 HB1;obtain⟨vp1,w2,hr,hcl,hfz,hK1⟩:=hKS.put (by simp);obtain⟨pa,pc,ep⟩:=hK1.shapeP;subst ep;have HK1:=gH hK1;clear hK1 hKS hc1 hm1;generalize hO:(Value.slice va i vc).ownBlock=O at*;have HO:=gH hO;clear hO;(go_wp2_with (at_builtin;refine Lib.wpList_append_run _ rfl (.tmp 33) (.tmp 35) 118 118 rfl _ _ rfl rfl _ _ hr ?_));clear hr hcl hfz hm0;go_loopw [1,6] (fun v1 v6 wq=>∃(k:Nat) (vq:Value) (sl:List Value),k<=8/\v6=I k/\sl.length=k+1/\KeepSt w wq w.heap.size O m v1 vq (i+k) sl) (fun _ v6 _=>8-(intOf v6).toNat)
   case atStart=>exact⟨0,_,_,by omega,rfl,rfl,HK1.out⟩
   case round=>
    obtain⟨k,vq,sl,hk,rfl,hsl,hK⟩:=hrel;obtain⟨aq,cq,eq⟩:=hK.shapeP;obtain⟨av,cv,ev⟩:=hK.shapeV;subst eq ev;have HK:=gH hK;(have hmk:wr.cell? ⟨w.heap.size,1,none⟩=some (I m):=by rw[gC hK.row];rfl);by_cases hlt2:k<8
    ·obtain⟨v2,w3,hr,hK2⟩:=hK.more (by omega);obtain⟨av2,cv2,ev2⟩:=hK2.shapeV;subst ev2;obtain⟨vq2,w4,hr2,hcl2,hfz2,hK3⟩:=hK2.put (by omega);obtain⟨aq2,cq2,eq2⟩:=hK3.shapeP;subst eq2;(have hq3:w3.cell? ⟨w.heap.size,0,none⟩=some (.slice aq sl.length cq):=by rw[gC hK2.row];rfl);have HK3:=gH hK3;have HSL:=gH hsl;clear hK hK2 hK3 hsl HK HK1;(go_wp2_with (first| (at_builtin;refine Lib.wpList_append_run _ rfl (.tmp 43) (.tmp 49) 27 27 rfl _ _ rfl rfl _ _ hr ?_)| (at_builtin;refine Lib.wpList_append_run _ rfl (.tmp 55) (.tmp 57) 118 118 rfl _ _ rfl rfl _ _ hr2 ?_)));refine⟨⟨k+1,_,_,hlt2,by go_num,?_,(by have h:=HK3.out;simp only[List.length_append,List.length_singleton] at h;exact h)⟩,by simp[intOf];omega⟩;have:=HSL.out;rw[List.length_append];simp;omega
    ·(have ek:k=8:=by omega);subst ek;have hLk:=HL.out.keeps (S:=fun k=>O=some k) hK.keep (fun k hk e=>HAP.out k e hk);obtain⟨vh',w5,hr,hcl,hfz,hLF,hFr,hKF,ah,nh,ch,eh⟩:=hLk.pushHold w.heap.size hn;subst eh;(have hc1:wr.cell? ⟨W0,1,none⟩=some (.slice ha hs.length hc):=by rw[gC hLk.row];rfl);have hsz:w.heap.size<wr.heap.size:=hK.lt;have HEND:=gS (Laid w (w5.setCell ⟨W0,1,none⟩ (.slice ah nh ch)) W0 (.slice va i vc) vp (.slice ha hs.length hc) ps hs (.slice ah nh ch) w.heap.size) (by
      refine⟨hLF,?_,?_,?_⟩
      ·rcases hFr with h1| ⟨g,h1,h2⟩
       ·exact .inl h1
       ·exact .inr ⟨g,h1,by omega⟩
      ·refine(hK.keep.mono (S':=fun k=>k=W0\/some k=(Value.slice ha hs.length hc).ownBlock\/(Value.slice va i vc).ownBlock=some k) (fun j _ e=> .inr (.inr (HO.out.trans e)))).trans hKF (fun j _ e=>e.elim .inl (fun e=> .inr (.inl e)))
      ·have hH:=hK.hold (by omega) (by omega);refine hH.keeps hKF (fun k hk hT=>⟨fun e=>?_,⟨hT.2.imp_right (fun e=>HO.out.trans e),fun e=>?_⟩⟩)
       ·have hlw:Lawn W0 vp (.slice ha hs.length hc) k:=e.elim .inl (fun e=> .inr (.inr e));rcases hT.2 with h1|h1
        ·have:=HL.out.lawn_lt hlw;omega
        ·exact HAP.out k h1 hlw
       ·rcases hFr with h1| ⟨g,h1,h2⟩
        ·rw[h1] at e;have hlw:Lawn W0 vp (.slice ha hs.length hc) k:=.inr (.inr e.symm);rcases hT.2 with h3|h3
         ·have:=HL.out.lawn_lt hlw;omega
         ·exact HAP.out k h3 hlw
        ·rw[h1] at e;injection e with e;omega)
     clear hK HK HK1 hLk hLF hFr hKF;(go_wp2_with (at_builtin;refine Lib.wpList_append_run _ rfl (.tmp 65) (.tmp 67) 70 70 rfl _ _ rfl rfl _ _ hr ?_));go_end0;exact⟨rfl,_,_,HEND.out⟩
theorem copied_row{w w1:World}{n:Nat}{xs:List Value}{B:Nat}(h:w1.ownsRow B 36 3 (.slice (some ⟨w.heap.size,0,none⟩) n n) n xs):∃cur:Array Value,w1.heap[w.heap.size]? =some (.cells cur 36 (0,0))/\cur.size=n*3:=by
 rcases h.2 with⟨e,_⟩| ⟨g,c,cur,e,_,hg,_,_,hs,_⟩
 ·cases e
 ·injection e with e1 _ e3;injection e1 with e1;injection e1 with e1;subst e1 e3;exact⟨cur,hg,hs⟩
theorem points_any(m:Nat)(v:Value)(L:List Wd.Pt)(w:World)(hm:IsMap w m v L)(hl:L.length<=150):
  Calls Tryz.prog 94 #[.pointer (some ⟨m,0,none⟩)] w fun e w'=>∃v',e=.returned v'/\Own w' w.heap.size v' L/\Below w.heap.size w w':=by
 obtain⟨i0,hi,hz0,hz1,hz2⟩:=info_parts Tryz.infoPt;have HM:=gH hm;have hmlt:=hm.lt;have hc0:=hm.cell;obtain⟨a,c,rfl,hrd⟩:=hm.own.reads;have hby:i0.bytes*L.length<=281474976710656:=by rw[hz2];omega
 have HRD:=gH hrd;clear hm hrd;go_enter Tryz.func94,Tryz.ntmps94
 go_upto_region 2 with(at_make;refine wpList_make_full w rfl (.tmp 8) (.tmp 8) 27 rfl w.heap.size 36 i0 (.agg #[I 0,I 0,I 0]) 3 Tryz.underlying27 hi hz0 hz1 .i64 .i64 _ _ L.length rfl rfl rfl rfl hby (by unfold maxLen;omega) gR ?_;intro w1 hown hgrow)
 obtain⟨cur,hcur,hcs⟩:=copied_row hown;have hb1:Below w.heap.size w w1:=(Below.refl w.heap.size w).grown hgrow gR (fun k hk=>by cases hk);have hc1:=(HM.out.below hb1).cell;have HB1:=gH hb1;have HCUR:=gH hcur;clear hown hgrow hb1 hcur;by_cases hz:L=[]
 ·subst hz;have hcp:(Builtin.copy_ #[27,27] 3 #[.slice (some ⟨w.heap.size,0,none⟩) 0 0,.slice a 0 c]).run Tryz.prog w1=.ok (goInt 0) w1:=by
   (have hl0:∀(x:Addr),(loadCells x 0).run Tryz.prog w1=.ok #[] w1:=fun x=>by simpa using run_loadCells_list (P:=Tryz.prog) w1 x [] (by simp));cases a<;>simp[Builtin.copy_,run_underlying Tryz.underlying27,Builtin.lenOf,sizeOf,typeInfo,hi,Builtin.firstCells,storeCells,hl0]
  go_wp2_with (at_builtin;refine wpList_copy_runI _ rfl _ _ 27 27 rfl _ _ rfl rfl hcp ?_)
  go_ret;exact⟨_,rfl,⟨rfl,.inr ⟨w.heap.size,0,cur,rfl,Nat.le_refl _,HCUR.out,Nat.le_refl _,by unfold maxLen;omega,by simpa using hcs,by simp⟩⟩,HB1.out⟩
 ·obtain⟨g,o,rfl,hpt⟩:=HRD.out hz;have hg:g<w.heap.size:=(hpt 0 (List.length_pos_iff.2 hz)).lt;have hcp:=ol (P:=Tryz.prog) w1 27 27 3 36 3 w.heap.size 0 L.length L.length ⟨g,o,none⟩ L.length c L.length cur 36 (L.flatMap P3) Tryz.underlying27 Tryz.sizePt HCUR.out (by simp) (gQ L) (fun j v hj=>by
   have hO:=(HM.out.below HB1.out).own;rcases hO.2 with⟨e,_⟩| ⟨g',c',cur',e,_⟩
   ·cases e
   ·injection e with e1;injection e1 with e1;rw[e1];refine hO.cells (g:=g') ?_ j v hj;rw[e1];rfl) (by rw[gQ,hcs];omega) oM
  go_wp2_with (at_builtin;refine wpList_copy_runI _ rfl _ _ 27 27 rfl _ _ rfl rfl hcp ?_)
  go_ret;refine⟨_,rfl,⟨gQ L,.inr ⟨w.heap.size,L.length,_,rfl,Nat.le_refl _,gW HCUR.out,Nat.le_refl _,by unfold maxLen;omega,?_,?_⟩⟩,below_setRow HB1.out gR _⟩
  ·have:=zM (R:=cur.toList) (cs:=L.flatMap P3) (o:=0) (by rw[gQ];simp;omega);simp at this⊢;omega
  ·have e:over cur.toList 0 (L.flatMap P3)=L.flatMap P3:=by
    unfold over;rw[List.take_zero,List.nil_append,List.drop_eq_nil_of_le (by rw[gQ];simp;omega),List.append_nil]
   rw[e,List.toList_toArray,List.take_of_length_le (by rw[gQ];exact Nat.le_refl _)]
theorem mapDelete_no(m:Nat)(v:Value)(L:List Wd.Pt)(id:Int)(w:World)(hm:IsMap w m v L)(hn:L.length<=1000)(hid:¬∃q∈L,q.id=id):
  Calls Tryz.prog 19 #[.pointer (some ⟨m,0,none⟩),I id] w fun e w'=>Inserted w m v L 4 e w':=by
 have HFI:=gH (jA m v L id w hm.cell hm.own.reads hn);have HM:=gH hm;have hmlt:=hm.lt;clear hm;go_enter Tryz.func19,Tryz.ntmps19
 go_wp2_with fail
 refine HFI.out.mono ?_;rintro _ w1⟨r,rfl,hpl,hb1⟩;have hr:=GC hpl hid;subst hr;have HB1:=gH hb1;clear hb1 hpl;go_wp2_with fail
 go_ret;exact Inserted.none HM.out HB1.out
end Go.Proofs.YtenaelkbgkpllaaGreatDoor
