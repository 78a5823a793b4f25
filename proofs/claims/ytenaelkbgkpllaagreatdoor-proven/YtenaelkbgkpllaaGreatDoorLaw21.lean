/- Part 21 of what the four laws rest on: laid by a program out of the texts of wip/T. -/
import Derived.Test.YtenaelkbgkpllaaGreatDoorLaw20
set_option maxRecDepth 100000
set_option maxHeartbeats 8000000
namespace Go.Proofs.YtenaelkbgkpllaaGreatDoor
open Go.RowKit
def partV(b:Wd.Box)(n:Int)(t:List UInt8)(f k:Int)(v:Value):Array Value:= #[I b.a,I b.b,I b.c,I b.d,I n,Sv t,I f,I k,v]
theorem Tryz.infoPart:(Tryz.prog.info? 150).map (·.size)=some 9:=by kernel_rfl
theorem oA(b:Wd.Box)(n:Int)(t:List UInt8)(f k:Int)(v:Value)(hv:v.oneCell'=true):(partV b n t f k v).all (·.oneCell')=true:=all_oneCell_toArray (cs:=[I b.a,I b.b,I b.c,I b.d,I n,Sv t,I f,I k,v]) (fun x hx=>by simp only[List.mem_cons,List.not_mem_nil,or_false] at hx;rcases hx with rfl|rfl|rfl|rfl|rfl|rfl|rfl|rfl|rfl<;>first|rfl|exact hv)
theorem boxL_more{l:List Wd.Box}(h:l≠[])(b:Wd.Box):Wd.boxL (l++[b])=Wd.join (Wd.boxL l) b:=by
 cases l with
 |nil=>exact absurd rfl h
 |cons c l=>unfold Wd.boxL;rw[List.foldl_append];rfl
def boxTo(L:List Wd.Pt)(i:Nat):Wd.Box:=Wd.boxL ((L.take i).map Wd.boxOf)
theorem boxTo_one(L:List Wd.Pt)(h:0<L.length):boxTo L 1=Wd.join (Wd.boxOf L[0]) (Wd.boxOf L[0]):=by unfold boxTo;rw[List.take_succ_eq_append_getElem h];rfl
theorem boxTo_succ(L:List Wd.Pt)(i:Nat)(h:i<L.length)(h0:i≠0):boxTo L (i+1)=Wd.join (boxTo L i) (Wd.boxOf L[i]):=by unfold boxTo;rw[List.take_succ_eq_append_getElem h,List.map_append];exact boxL_more (fun e=>by have h2:=congrArg List.length e;rw[List.length_map,List.length_take,List.length_nil] at h2;omega) _
def leafTo(L:List Wd.Pt)(i:Nat):List UInt8:=1::UInt8.ofNat L.length::(L.take i).flatMap Wd.ptText
theorem leafTo_succ(L:List Wd.Pt)(i:Nat)(h:i<L.length):leafTo L (i+1)=leafTo L i++Wd.fourI L[i].id++Wd.fourI L[i].x++Wd.fourI L[i].y:=by unfold leafTo;rw[List.take_succ_eq_append_getElem h,List.flatMap_append];simp[Wd.ptText]
theorem leafTo_all(L:List Wd.Pt):leafTo L L.length=Wd.leafText L:=by unfold leafTo Wd.leafText;rw[List.take_length]
theorem leafTo_len(L:List Wd.Pt)(i:Nat)(h:L.length<=4):(leafTo L i).length<=50:=by
 unfold leafTo;rw[List.length_cons,List.length_cons];have:((L.take i).flatMap Wd.ptText).length=12*(L.take i).length:=by
  induction L.take i with
  |nil=>rfl
  |cons p l ih=>rw[List.flatMap_cons,List.length_append,ih,Wd.ptText_len,List.length_cons];omega
 rw[this,List.length_take];omega
theorem conv_two(g:Nat)(k:Nat)(hk:k<=4)(w:World):(convert 59 9 (.slice (some ⟨w.heap.size,0,none⟩) 2 2)).run Tryz.prog (w.alloc (.cells #[.int .u8 (g:Nat),.int .u8 (k:Int)] 5))=.ok (Sv [UInt8.ofNat g,UInt8.ofNat k]) (w.alloc (.cells #[.int .u8 (g:Nat),.int .u8 (k:Int)] 5))\/256<=g:=by
 by_cases hg:256<=g
 ·exact .inr hg
 refine .inl (oL w.heap.size 2 2 [UInt8.ofNat g,UInt8.ofNat k] rfl _ (fun j u hj=>?_));have e1:(UInt8.ofNat g).toNat=g:=by rw[UInt8.toNat_ofNat'];omega
 have e2:(UInt8.ofNat k).toNat=k:=by rw[UInt8.toNat_ofNat'];omega
 rw[Nat.zero_add,gC (heap_alloc_new w _)]
 match j,hj with
 |0,hj=>simp at hj;subst hj;show some (Value.int .u8 (g:Int))=some (Y (UInt8.ofNat g));rw[Y,e1]
 |1,hj=>simp at hj;subst hj;show some (Value.int .u8 (k:Int))=some (Y (UInt8.ofNat k));rw[Y,e2]
theorem conv_lead1(k:Nat)(hk:k<=4)(w:World):(convert 59 9 (.slice (some ⟨w.heap.size,0,none⟩) 2 2)).run Tryz.prog (w.alloc (.cells #[.int .u8 1,.int .u8 (k:Int)] 5))=.ok (Sv [1,UInt8.ofNat k]) (w.alloc (.cells #[.int .u8 1,.int .u8 (k:Int)] 5)):=(conv_two 1 k hk w).resolve_right (by decide)
theorem conv_lead2(k:Nat)(hk:k<=4)(w:World):(convert 59 9 (.slice (some ⟨w.heap.size,0,none⟩) 2 2)).run Tryz.prog (w.alloc (.cells #[.int .u8 2,.int .u8 (k:Int)] 5))=.ok (Sv [2,UInt8.ofNat k]) (w.alloc (.cells #[.int .u8 2,.int .u8 (k:Int)] 5)):=(conv_two 2 k hk w).resolve_right (by decide)
theorem part_set4{w:World}{g:Nat}{b:Wd.Box}{n:Int}{t:List UInt8}{f k:Int}{v:Value}{ty:Nat}(a b' c d:Int)(h:w.heap[g]? =some (.cells (partV b n t f k v) ty (0,0))):
  ((((w.setCell ⟨g,0,none⟩ (I a)).setCell ⟨g,1,none⟩ (I b')).setCell ⟨g,2,none⟩ (I c)).setCell ⟨g,3,none⟩ (I d)).heap[g]? =some (.cells (partV ⟨a,b',c,d⟩ n t f k v) ty (0,0)):=by
 rw[gZ (gZ (gZ (gZ h)))];rfl
theorem GU{w:World}{g j:Nat}(a b' c d:Int)(h:j≠g):((((w.setCell ⟨g,0,none⟩ (I a)).setCell ⟨g,1,none⟩ (I b')).setCell ⟨g,2,none⟩ (I c)).setCell ⟨g,3,none⟩ (I d)).heap[j]? =w.heap[j]? :=by rw[heap_setCell_other _ _ _ _ h,heap_setCell_other _ _ _ _ h,heap_setCell_other _ _ _ _ h,heap_setCell_other _ _ _ _ h]
theorem GV{w w':World}{B g:Nat}(a b' c d:Int)(h:Below B w w')(hg:B<=g):Below B w ((((w'.setCell ⟨g,0,none⟩ (I a)).setCell ⟨g,1,none⟩ (I b')).setCell ⟨g,2,none⟩ (I c)).setCell ⟨g,3,none⟩ (I d)):=(((h.setCell hg _).setCell hg _).setCell hg _).setCell hg _
structure Cells4(w:World)(g:Nat)(b:Wd.Box):Prop where
 c0:w.cell? ⟨g,0,none⟩=some (I b.a)
 c1:w.cell? ⟨g,1,none⟩=some (I b.b)
 c2:w.cell? ⟨g,2,none⟩=some (I b.c)
 c3:w.cell? ⟨g,3,none⟩=some (I b.d)
 fz:∀j,w.frozen? ⟨g,j,none⟩=false
theorem cells4{w:World}{g:Nat}{b:Wd.Box}{n:Int}{t:List UInt8}{f k:Int}{v:Value}{ty:Nat}(h:w.heap[g]? =some (.cells (partV b n t f k v) ty (0,0))):Cells4 w g b:=⟨by rw[gC h];rfl,by rw[gC h];rfl,by rw[gC h];rfl,by rw[gC h];rfl,fun j=>gF h⟩
structure LeafAt(w:World)(L:List Wd.Pt)(v:Value)(i:Nat)(wq:World):Prop where
 r0:∃z:Array Value,z.size=9/\wq.heap[w.heap.size]? =some (.cells z 150 (0,0))
 r1:wq.heap[w.heap.size+1]? =some (.cells (partV (boxTo L i) L.length (leafTo L i) 0 0 v) 150 (0,0))
 bl:Below w.heap.size w wq
theorem leaf_ref(v:Value)(L:List Wd.Pt)(w:World)(hv:Reads w v L)(hl:L.length<=4):
  Calls Tryz.prog 134 #[v] w fun e w'=>e=.returned (.agg (partV (Wd.boxL (L.map Wd.boxOf)) L.length (Wd.leafText L) 0 0 v))/\Below w.heap.size w w':=by
 obtain⟨a,c,rfl,hrd⟩:=hv;have HRD:=gH hrd;clear hrd;have HCV:=gH (conv_lead1 L.length hl);have hr':=fun(a b:Obj)=>heap_alloc2_old w a b;have hr1':=fun(a b:Obj)=>heap_alloc2_new w a b;have hb':=fun(a b:Obj)=>(gB w a).alloc (by simp) b;go_enter Tryz.func134,Tryz.ntmps134
 go_upto_region 2 with fail
 generalize hW:World.alloc (World.alloc w _) _=w1;have hr0:∃z:Array Value,z.size=9/\w1.heap[w.heap.size]? =some (.cells z 150 (0,0)):=by rw[<-hW];exact⟨_,rfl,hr' _ _⟩
 have hr1:w1.heap[w.heap.size+1]? =some (.cells #[I 0,I 0,I 0,I 0,I L.length,Sv [],I 0,I 0,.slice a L.length c] 150 (0,0)):=by rw[<-hW];exact hr1' _ _
 have hb1:Below w.heap.size w w1:=by rw[<-hW];exact hb' _ _
 have hs1:w.heap.size+1<w1.heap.size:=(gL hr1);clear hW hr' hr1' hb';have hcv:=HCV.out w1;have HR2:=gH (fun o j (hj:j<w1.heap.size)=>Below.heap_alloc w1 o j hj);have hc5:∀o,(w1.alloc o).cell? ⟨w.heap.size+1,5,none⟩=some (Sv []):=fun o=>by rw[World.cell?_alloc_lt _ _ _ hs1,gC hr1];rfl
 have hf5:∀o,(w1.alloc o).frozen? ⟨w.heap.size+1,5,none⟩=false:=fun o=>gF ((HR2.out o _ hs1).trans hr1);have HB2:=gH (fun o=>hb1.alloc (show w.heap.size<=w1.heap.size by omega) o);have HST:=gH (fun o=>show LeafAt w L (.slice a L.length c) 0 ((w1.setCell ⟨w.heap.size+1,5,none⟩ (Sv (leafTo L 0))).alloc o) from by
  obtain⟨z,hz,hzr⟩:=hr0;have hz1:(w1.setCell ⟨w.heap.size+1,5,none⟩ (Sv (leafTo L 0))).heap.size=w1.heap.size:=by simp
  refine⟨⟨z,hz,?_⟩,?_,(hb1.setCell (by show w.heap.size<=w.heap.size+1;omega) _).alloc (by omega) _⟩
  ·rw[Below.heap_alloc _ _ _ (by omega),heap_setCell_other _ _ _ _ (by show w.heap.size≠w.heap.size+1;omega)];exact hzr
  ·rw[Below.heap_alloc _ _ _ (by omega),gZ hr1];rfl)
 clear hr0 hr1 hb1 HCV HB2 HR2;go_upto_region 4 with fail
 generalize hW:World.alloc (World.setCell _ _ _) _=w2;have HL2:=gS (LeafAt w L (.slice a L.length c) 0 w2) (by rw[<-hW];exact HST.out _);clear hW HST hcv hc5 hf5 hs1;go_loopw [4] (fun iv wq=>∃i:Nat,i<=L.length/\iv=.int .i64 i/\LeafAt w L (.slice a L.length c) i wq) (fun iv _=>L.length-(intOf iv).toNat)
 case atStart=>exact⟨0,by omega,rfl,HL2.out⟩
 case round=>
  clear HL2;obtain⟨i,hi,rfl,hla⟩:=hrel;have HLA:=gH hla;by_cases hlt:i<L.length
  ·obtain⟨g,o,rfl,hp⟩:=HRD.out (fun e=>by subst e;simp at hlt);have hpi:=(hp i hlt).below hla.bl (hp i hlt).lt;have HTX:=gH (leafTo_succ L i hlt);have HBX:=gS ((i=0->boxTo L (i+1)=Wd.join (Wd.boxOf L[i]) (Wd.boxOf L[i]))/\(i≠0->boxTo L (i+1)=Wd.join (boxTo L i) (Wd.boxOf L[i]))) (⟨fun e=>by subst e;exact boxTo_one L hlt,fun e=>boxTo_succ L i hlt e⟩);have hln:=leafTo_len L i hl;generalize L[i]=q at*;obtain⟨pi,px,py⟩:=q;obtain⟨q0,q1,q2⟩:=hpi;have hsw:w.heap.size+1<wr.heap.size:=(gL hla.r1);have HN3:=gH (fun o=>heap_alloc_new wr o);have HO3:=gH (fun o j (hj:j<wr.heap.size)=>Below.heap_alloc wr o j hj);have HB3:=gH (fun o=>hla.bl.alloc (show w.heap.size<=wr.heap.size by omega) o);clear hla hp;dsimp only at q0 q1 q2 HTX HBX;(go_upto_region 7 with fail);generalize hW:World.alloc wr _=w3;obtain⟨gx,hgx⟩:∃gx,gx=wr.heap.size:=⟨_,rfl⟩;rw[<-hgx] at HN3 HO3 hsw;rw[<-hgx];(have hx3:w3.heap[gx]? =some (.cells #[I pi,I px,I py] 36 (0,0)):=by rw[<-hW];exact HN3.out _);(have h13:w3.heap[w.heap.size+1]? =some (.cells (partV (boxTo L i) L.length (leafTo L i) 0 0 (.slice (some ⟨g,o,none⟩) L.length c)) 150 (0,0)):=by rw[<-hW];exact(HO3.out _ _ hsw).trans HLA.out.r1);have H03:=gS (∃z:Array Value,z.size=9/\w3.heap[w.heap.size]? =some (.cells z 150 (0,0))) (by
    obtain⟨z,hz,hzr⟩:=HLA.out.r0;rw[<-hW];exact⟨z,hz,(HO3.out _ _ (by omega)).trans hzr⟩)
   have HB33:=gS (Below w.heap.size w w3) (by rw[<-hW];exact HB3.out _);have hs3:gx<w3.heap.size:=(gL hx3);clear hW HN3 HO3 HB3 HLA q0 q1 q2 hgx;have HSI:=gH (fun W=>oR pi W);have HSX:=gH (fun W=>oR px W);have HSY:=gH (fun W=>oR py W);have l1:(Wd.fourI pi).length=4:=rfl;have l2:(Wd.fourI px).length=4:=rfl;have l3:(Wd.fourI py).length=4:=rfl;generalize Wd.fourI pi=fi at*;generalize Wd.fourI px=fx at*;generalize Wd.fourI py=fy at*;obtain⟨T0,hT0⟩:∃T,leafTo L i=T:=⟨_,rfl⟩;rw[hT0] at h13 HTX hln;clear hT0;have ha1:=gm T0 fi (by omega);have ha2:=gm (T0++fi) fx (by rw[List.length_append];omega);have ha3:=gm (T0++fi++fx) fy (by rw[List.length_append,List.length_append];omega);generalize T0++fi++fx++fy=T3 at*;generalize T0++fi++fx=T2 at*;generalize T0++fi=T1 at*;clear l1 l2 l3 hln;have hS:(w3.cell? ⟨gx,0,none⟩=some (I pi)/\w3.cell? ⟨gx,1,none⟩=some (I px)/\w3.cell? ⟨gx,2,none⟩=some (I py)):=row3 hx3;(have t3:w3.cell? ⟨w.heap.size+1,5,none⟩=some (Sv T0):=by rw[gC h13];rfl);have HX3:=gH hx3;have H13:=gH h13;clear hx3 h13;go_cut [] from 27 to 41 (fun wx=>Below w.heap.size w wx/\(∃z:Array Value,z.size=9/\wx.heap[w.heap.size]? =some (.cells z 150 (0,0)))/\wx.heap[w.heap.size+1]? =some (.cells (partV (boxTo L i) L.length T3 0 0 (.slice (some ⟨g,o,none⟩) L.length c)) 150 (0,0))/\wx.heap[gx]? =some (.cells #[I pi,I px,I py] 36 (0,0)))
   case first=>
    (have hS':(w3.drew.cell? ⟨gx,0,none⟩=some (I pi)/\w3.drew.cell? ⟨gx,1,none⟩=some (I px)/\w3.drew.cell? ⟨gx,2,none⟩=some (I py)):=by simpa using hS);have HCL:=gH (fun(W W':World) (hb:Below W.heap.size W W') (hg:gx<W.heap.size) (h:W.cell? ⟨gx,0,none⟩=some (I pi)/\W.cell? ⟨gx,1,none⟩=some (I px)/\W.cell? ⟨gx,2,none⟩=some (I py))=>show W'.cell? ⟨gx,0,none⟩=some (I pi)/\W'.cell? ⟨gx,1,none⟩=some (I px)/\W'.cell? ⟨gx,2,none⟩=some (I py) from⟨(hb.cell (p:=⟨gx,0,none⟩) hg).trans h.1,(hb.cell (p:=⟨gx,1,none⟩) hg).trans h.2.1,(hb.cell (p:=⟨gx,2,none⟩) hg).trans h.2.2⟩);have HTL:=gH (fun(W W':World) (hb:Below W.heap.size W W') (hg:w.heap.size+1<W.heap.size) (h:W.cell? ⟨w.heap.size+1,5,none⟩=some (Sv T0))=>(hb.cell (p:=⟨w.heap.size+1,5,none⟩) hg).trans h);(have hs3':gx<w3.drew.heap.size:=by simpa using hs3);(have hs3'':w.heap.size+1<w3.drew.heap.size:=by simp;omega);(have t3':w3.drew.cell? ⟨w.heap.size+1,5,none⟩=some (Sv T0):=by simpa using t3);refine gX 15 (fun W=>(W.cell? ⟨gx,0,none⟩=some (I pi)/\W.cell? ⟨gx,1,none⟩=some (I px)/\W.cell? ⟨gx,2,none⟩=some (I py))/\W.cell? ⟨w.heap.size+1,5,none⟩=some (Sv T0)) (by kernel_rfl) ⟨hS',t3'⟩ (fun hH=>?_);refine tkJ 0 rfl (by kernel_rfl) gJ (by rfl) hH ⟨_,by rintro W⟨⟨x0,x1,x2⟩,xt⟩;go_simp;try with_reducible rfl,?_⟩;(try go_simp);refine tkJ 1 rfl (by kernel_rfl) gJ (by rfl) hH ⟨_,by rintro W⟨⟨x0,x1,x2⟩,xt⟩;go_simp;try with_reducible rfl,?_⟩;(try go_simp);refine tkJ 2 rfl (by kernel_rfl) gJ (by rfl) hH ⟨_,by rintro W⟨⟨x0,x1,x2⟩,xt⟩;go_simp;try with_reducible rfl,?_⟩;(try go_simp);refine tkJ 3 rfl (by kernel_rfl) gJ (by rfl) hH ⟨_,by rintro W⟨⟨x0,x1,x2⟩,xt⟩;go_simp;try with_reducible rfl,?_⟩;(try go_simp);refine tkJ 6 rfl (by kernel_rfl) gJ (by rfl) hH ⟨_,by rintro W⟨⟨x0,x1,x2⟩,xt⟩;go_simp;try with_reducible rfl,?_⟩;(try go_simp);refine tkJ 7 rfl (by kernel_rfl) gJ (by rfl) hH ⟨_,by rintro W⟨⟨x0,x1,x2⟩,xt⟩;go_simp;try with_reducible rfl,?_⟩;(try go_simp);refine tkJ 10 rfl (by kernel_rfl) gJ (by rfl) hH ⟨_,by rintro W⟨⟨x0,x1,x2⟩,xt⟩;go_simp;try with_reducible rfl,?_⟩;(try go_simp);refine tkJ 11 rfl (by kernel_rfl) gJ (by rfl) hH ⟨_,by rintro W⟨⟨x0,x1,x2⟩,xt⟩;go_simp;try with_reducible rfl,?_⟩;(try go_simp);refine gA (i:=4) (by kernel_rfl) rfl (fun K hK=>?_);go_simp;refine(HSI.out _).mono ?_;rintro _ w4⟨rfl,hb4⟩;have hS4:=HCL.out _ _ hb4 hs3' hS';have t4:=HTL.out _ _ hb4 hs3'' t3';have hs4:w3.heap.size<=w4.heap.size:=hb4.size;have hB4:Below w3.heap.size w3 w4:=(show Below w3.heap.size w3 w3.drew from(Below.refl _ _).drew).trans hb4;refine hK.out _ _ (fun _=>⟨hS4,t4⟩) ?_;clear hK K hb4;(try go_simp);refine tkJ 5 rfl (by kernel_rfl) gJ (by rfl) ⟨hS4,t4⟩ ⟨_,by rintro W⟨⟨x0,x1,x2⟩,xt⟩;go_simp;try with_reducible rfl,?_⟩;(try go_simp);refine gA (i:=8) (by kernel_rfl) rfl (fun K hK=>?_);go_simp;refine(HSX.out _).mono ?_;rintro _ w5⟨rfl,hb5⟩;have hS5:=HCL.out _ _ hb5 (by omega) hS4;have t5:=HTL.out _ _ hb5 (by omega) t4;have hs5:w4.heap.size<=w5.heap.size:=hb5.size;have hB5:=hB4.trans (hb5.mono hs4);refine hK.out _ _ (fun _=>⟨hS5,t5⟩) ?_;clear hK K hb5;(try go_simp);refine tkJ 9 rfl (by kernel_rfl) gJ (by rfl) ⟨hS5,t5⟩ ⟨_,by rintro W⟨⟨x0,x1,x2⟩,xt⟩;go_simp;try with_reducible rfl,?_⟩;(try go_simp);refine gA (i:=12) (by kernel_rfl) rfl (fun K hK=>?_);go_simp;refine(HSY.out _).mono ?_;rintro _ w6⟨rfl,hb6⟩;have hS6:=HCL.out _ _ hb6 (by omega) hS5;have t6:=HTL.out _ _ hb6 (by omega) t5;have hs6:w5.heap.size<=w6.heap.size:=hb6.size;have hB6:=hB5.trans (hb6.mono (show w3.heap.size<=w5.heap.size by omega));have r6:=(hB6.block (w.heap.size+1) (by omega)).trans H13.out;have f6:w6.frozen? ⟨w.heap.size+1,5,none⟩=false:=gF r6;have R6:=gH r6;refine hK.out _ _ (fun _=>⟨hS6,t6⟩) ?_;clear hK K hb6 r6;(try go_simp);refine tkJ 13 rfl (by kernel_rfl) gJ (by rfl) ⟨hS6,t6⟩ ⟨_,by rintro W⟨⟨x0,x1,x2⟩,xt⟩;go_simp;try with_reducible rfl,?_⟩;(try go_simp);refine tkJ 14 rfl (by kernel_rfl) gJ (by rfl) ⟨hS6,t6⟩ ⟨_,by rintro W⟨⟨x0,x1,x2⟩,xt⟩;go_simp;try with_reducible rfl,?_⟩;(try go_simp);refine gA (i:=15) (by kernel_rfl) rfl (fun K hK=>?_);go_simp;refine hK.out _ _ (fun h=>absurd rfl h) ?_;clear hK K;refine gO (by kernel_rfl) ?_ _;(go_wp2_with fail);go_meet;refine⟨?_,?_,?_,?_⟩
    ·exact(HB33.out.trans (hB6.mono (by omega))).setCell (by show w.heap.size<=w.heap.size+1;omega) _
    ·obtain⟨z,hz,hzr⟩:=H03.out;refine⟨z,hz,?_⟩;rw[heap_setCell_other _ _ _ _ (by show w.heap.size≠w.heap.size+1;omega)];exact(hB6.block w.heap.size (by omega)).trans hzr
    ·rw[gZ R6.out];rfl
    ·rw[heap_setCell_other _ _ _ _ (by show gx≠w.heap.size+1;omega)];exact(hB6.block gx hs3).trans HX3.out
   case rest=>
    obtain⟨hbc,h0c,h1c,hxc⟩:=hcut;obtain⟨x0,x1,x2⟩:=row3 hxc;have hsc:gx<wc.heap.size:=(gL hxc);have hT3:=HTX.out;rw[<-hT3] at h1c;clear hT3 HTX ha1 ha2 ha3 hS t3 HX3 H13 H03 HB33 hxc;have HBOX:=gS (Wd.boxOf ⟨pi,px,py⟩=⟨px,py,px,py⟩) rfl;obtain⟨gb,hgb⟩:∃gb,gb=wc.heap.size:=⟨_,rfl⟩;have HN8:=gH (fun o=>heap_alloc_new wc o);have HO8:=gH (fun o j (hj:j<wc.heap.size)=>Below.heap_alloc wc o j hj);have HB8:=gH (fun o=>hbc.alloc (show w.heap.size<=wc.heap.size by omega) o);have HB0:=gH h0c;have HB1:=gH h1c;clear h0c;by_cases hi0:i=0
    ·have HJ:=gH (HBX.out.1 hi0);rw[HBOX.out] at HJ;obtain⟨y0,y1,y2,y3,yf⟩:=cells4 h1c;(have hlt1:w.heap.size+1<wc.heap.size:=by omega);(have hy0:∀o,(wc.alloc o).cell? ⟨w.heap.size+1,0,none⟩=some (I (boxTo L i).a):=fun o=>by rw[World.cell?_alloc_lt _ _ _ hlt1];exact y0);(have hy1:∀o,(wc.alloc o).cell? ⟨w.heap.size+1,1,none⟩=some (I (boxTo L i).b):=fun o=>by rw[World.cell?_alloc_lt _ _ _ hlt1];exact y1);(have hy2:∀o,(wc.alloc o).cell? ⟨w.heap.size+1,2,none⟩=some (I (boxTo L i).c):=fun o=>by rw[World.cell?_alloc_lt _ _ _ hlt1];exact y2);(have hy3:∀o,(wc.alloc o).cell? ⟨w.heap.size+1,3,none⟩=some (I (boxTo L i).d):=fun o=>by rw[World.cell?_alloc_lt _ _ _ hlt1];exact y3);have hyf:∀o j,(wc.alloc o).frozen? ⟨w.heap.size+1,j,none⟩=false:=fun o j=>gF ((HO8.out o _ hlt1).trans HB1.out)
     have KEY:=gH (fun(ob:Obj)=>show((((((wc.setCell ⟨w.heap.size+1,0,none⟩ (I px)).setCell ⟨w.heap.size+1,1,none⟩ (I py)).setCell ⟨w.heap.size+1,2,none⟩ (I px)).setCell ⟨w.heap.size+1,3,none⟩ (I py)).alloc ob).heap[w.heap.size+1]? =some (.cells (partV ⟨px,py,px,py⟩ L.length (leafTo L (i+1)) 0 0 (.slice (some ⟨g,o,none⟩) L.length c)) 150 (0,0)))
      /\(((((wc.setCell ⟨w.heap.size+1,0,none⟩ (I px)).setCell ⟨w.heap.size+1,1,none⟩ (I py)).setCell ⟨w.heap.size+1,2,none⟩ (I px)).setCell ⟨w.heap.size+1,3,none⟩ (I py)).alloc ob).heap[gb]? =some ob
      /\Below w.heap.size w (((((wc.setCell ⟨w.heap.size+1,0,none⟩ (I px)).setCell ⟨w.heap.size+1,1,none⟩ (I py)).setCell ⟨w.heap.size+1,2,none⟩ (I px)).setCell ⟨w.heap.size+1,3,none⟩ (I py)).alloc ob)
      /\(∃z:Array Value,z.size=9/\(((((wc.setCell ⟨w.heap.size+1,0,none⟩ (I px)).setCell ⟨w.heap.size+1,1,none⟩ (I py)).setCell ⟨w.heap.size+1,2,none⟩ (I px)).setCell ⟨w.heap.size+1,3,none⟩ (I py)).alloc ob).heap[w.heap.size]? =some (.cells z 150 (0,0)))
      /\wc.heap.size<=(((((wc.setCell ⟨w.heap.size+1,0,none⟩ (I px)).setCell ⟨w.heap.size+1,1,none⟩ (I py)).setCell ⟨w.heap.size+1,2,none⟩ (I px)).setCell ⟨w.heap.size+1,3,none⟩ (I py)).alloc ob).heap.size from by
      have q1:=part_set4 px py px py HB1.out;have q2:=GV px py px py hbc (show w.heap.size<=w.heap.size+1 by omega);have q3:=fun j (hj:j≠w.heap.size+1)=>GU (w:=wc) px py px py hj;(have q4:((((wc.setCell ⟨w.heap.size+1,0,none⟩ (I px)).setCell ⟨w.heap.size+1,1,none⟩ (I py)).setCell ⟨w.heap.size+1,2,none⟩ (I px)).setCell ⟨w.heap.size+1,3,none⟩ (I py)).heap.size=wc.heap.size:=by simp);generalize ((((wc.setCell ⟨w.heap.size+1,0,none⟩ (I px)).setCell ⟨w.heap.size+1,1,none⟩ (I py)).setCell ⟨w.heap.size+1,2,none⟩ (I px)).setCell ⟨w.heap.size+1,3,none⟩ (I py))=W at*;refine⟨(Below.heap_alloc W ob _ (by omega)).trans q1,?_,q2.alloc (by omega) _,?_,by rw[World.size_alloc];omega⟩
      ·rw[hgb,<-q4];exact heap_alloc_new W ob
      ·obtain⟨z,hz,hzr⟩:=HB0.out;exact⟨z,hz,(Below.heap_alloc W ob _ (by omega)).trans ((q3 _ (by omega)).trans hzr)⟩)
     (go_upto_region 11 with fail);generalize hW:World.alloc _ _=w8;have HR8:=gS (w8.heap[w.heap.size+1]? =some (.cells (partV ⟨px,py,px,py⟩ L.length (leafTo L (i+1)) 0 0 (.slice (some ⟨g,o,none⟩) L.length c)) 150 (0,0))) (by rw[<-hW];exact(KEY.out _).1);have HG8:=gS (w8.heap[gb]? =some (.cells #[I px,I py,I px,I py] 148 (0,0))) (by rw[<-hW];exact(KEY.out _).2.1);have HBB8:=gS (Below w.heap.size w w8) (by rw[<-hW];exact(KEY.out _).2.2.1);have H08:=gS (∃z:Array Value,z.size=9/\w8.heap[w.heap.size]? =some (.cells z 150 (0,0))) (by rw[<-hW];exact(KEY.out _).2.2.2.1);have HS8:=gS (wc.heap.size<=w8.heap.size) (by rw[<-hW];exact(KEY.out _).2.2.2.2);(try rw[<-hgb]);clear hW hy0 hy1 hy2 hy3 hyf y0 y1 y2 y3 yf hbc h1c x0 x1 x2 hgb HN8 HO8 HB8 hlt1 HB1 KEY;have hs8:gx<w8.heap.size:=Nat.lt_of_lt_of_le hsc HS8.out;obtain⟨k0,k1,k2,k3,kf⟩:=cells4 HR8.out;obtain⟨m0,m1,m2,m3⟩:Box4 w8 gb 0 px py px py:=⟨by rw[gC HG8.out];rfl,by rw[gC HG8.out];rfl,by rw[gC HG8.out];rfl,by rw[gC HG8.out];rfl⟩;(try dsimp only at k0 k1 k2 k3);(go_wp2_with fail);refine(both_ref ⟨px,py,px,py⟩ ⟨px,py,px,py⟩ _).mono ?_;rintro _ w9⟨rfl,hb9⟩;have HR9:=gH ((hb9.block (w.heap.size+1) (by omega)).trans HR8.out);obtain⟨n0,n1,n2,n3,nf⟩:=cells4 HR9.out;have HB9:=gH (HBB8.out.trans (hb9.mono (show w.heap.size<=w8.heap.size by omega)));have H09:=gS (∃z:Array Value,z.size=9/\w9.heap[w.heap.size]? =some (.cells z 150 (0,0))) (by obtain⟨z,hz,hzr⟩:=H08.out;exact⟨z,hz,(hb9.block w.heap.size (by omega)).trans hzr⟩)
     clear hb9 k0 k1 k2 k3 kf m0 m1 m2 m3 HR8 HBB8 H08 HG8;(try dsimp only at n0 n1 n2 n3);generalize Wd.join ⟨px,py,px,py⟩ ⟨px,py,px,py⟩=J at*;obtain⟨ja,jb,jc,jd⟩:=J;(go_wp2_with fail);go_roundw
     case rel=>
      refine⟨i+1,hlt,by go_num,?_,?_,GV _ _ _ _ HB9.out (by omega)⟩
      ·obtain⟨z,hz,hzr⟩:=H09.out;exact⟨z,hz,(GU _ _ _ _ (by omega)).trans hzr⟩
      ·rw[HJ.out];exact part_set4 _ _ _ _ HR9.out
     case measure=>simp[intOf];omega
    ·(have hi0':((i:Int)==0)=false:=by simp;omega);have HJ:=gH (HBX.out.2 hi0);rw[HBOX.out] at HJ;(go_upto_region 11 with fail);generalize hW:World.alloc _ _=w8;generalize boxTo L i=BX at*;have HR8:=gS (w8.heap[w.heap.size+1]? =some (.cells (partV BX L.length (leafTo L (i+1)) 0 0 (.slice (some ⟨g,o,none⟩) L.length c)) 150 (0,0))) (by
      rw[<-hW,Below.heap_alloc _ _ _ (by omega)];exact HB1.out)
     have HG8:=gS (w8.heap[gb]? =some (.cells #[I px,I py,I px,I py] 148 (0,0))) (by rw[<-hW,hgb];exact heap_alloc_new _ _);have HBB8:=gS (Below w.heap.size w w8) (by rw[<-hW];exact hbc.alloc (by omega) _);have H08:=gS (∃z:Array Value,z.size=9/\w8.heap[w.heap.size]? =some (.cells z 150 (0,0))) (by obtain⟨z,hz,hzr⟩:=HB0.out;refine⟨z,hz,?_⟩;rw[<-hW,Below.heap_alloc _ _ _ (by omega)];exact hzr);have HS8:=gS (wc.heap.size<=w8.heap.size) (by rw[<-hW,World.size_alloc];omega);(try rw[<-hgb]);clear hW hbc h1c x0 x1 x2 hgb HN8 HO8 HB8 HB1;have hs8:gx<w8.heap.size:=Nat.lt_of_lt_of_le hsc HS8.out;obtain⟨k0,k1,k2,k3,kf⟩:=cells4 HR8.out;obtain⟨m0,m1,m2,m3⟩:Box4 w8 gb 0 px py px py:=⟨by rw[gC HG8.out];rfl,by rw[gC HG8.out];rfl,by rw[gC HG8.out];rfl,by rw[gC HG8.out];rfl⟩;(try dsimp only at k0 k1 k2 k3);(go_wp2_with fail);refine(both_ref BX ⟨px,py,px,py⟩ _).mono ?_;rintro _ w9⟨rfl,hb9⟩;have HR9:=gH ((hb9.block (w.heap.size+1) (by omega)).trans HR8.out);obtain⟨n0,n1,n2,n3,nf⟩:=cells4 HR9.out;have HB9:=gH (HBB8.out.trans (hb9.mono (show w.heap.size<=w8.heap.size by omega)));have H09:=gS (∃z:Array Value,z.size=9/\w9.heap[w.heap.size]? =some (.cells z 150 (0,0))) (by obtain⟨z,hz,hzr⟩:=H08.out;exact⟨z,hz,(hb9.block w.heap.size (by omega)).trans hzr⟩);clear hb9 k0 k1 k2 k3 kf m0 m1 m2 m3 HR8 HBB8 H08 HG8;(try dsimp only at n0 n1 n2 n3);generalize Wd.join BX ⟨px,py,px,py⟩=J at*;obtain⟨ja,jb,jc,jd⟩:=J;(go_wp2_with fail);go_roundw
     case rel=>
      refine⟨i+1,hlt,by go_num,?_,?_,GV _ _ _ _ HB9.out (by omega)⟩
      ·obtain⟨z,hz,hzr⟩:=H09.out;exact⟨z,hz,(GU _ _ _ _ (by omega)).trans hzr⟩
      ·rw[HJ.out];exact part_set4 _ _ _ _ HR9.out
     case measure=>simp[intOf];omega
  ·(have ei:i=L.length:=by omega);subst ei;obtain⟨⟨z,hz,h0⟩,h1,hb⟩:=hla;have HF:=gS (partV (Wd.boxL (L.map Wd.boxOf)) L.length (Wd.leafText L) 0 0 (.slice a L.length c)=partV (boxTo L L.length) L.length (leafTo L L.length) 0 0 (.slice a L.length c)) (by rw[leafTo_all,boxTo,List.take_length]);have hM9:(partV (boxTo L L.length) L.length (leafTo L L.length) 0 0 (.slice a L.length c)).size=9:=rfl;have hM1:(partV (boxTo L L.length) L.length (leafTo L L.length) 0 0 (.slice a L.length c)).all (·.oneCell')=true:=oA _ _ _ _ _ _ rfl;have H0:=gH h0;have H1:=gH h1;have HZ:=gH hz;have HB:=gH hb;generalize partV (boxTo L L.length) L.length (leafTo L L.length) 0 0 (.slice a L.length c)=M at*;have HM9:=gH hM9;have HM1:=gH hM1;clear h0 h1 hb hz hM9 hM1 HLA;(go_wp2_with (first| (refine wpList_load_row rfl 150 (.tmp 3) rfl (w.heap.size+1) rfl 150 M (0,0) _ H1.out Tryz.underlying150 rfl (by rw[HM9.out];exact Tryz.infoPart) ?_)| (refine wpList_store_row rfl 150 (.tmp 2) (.tmp 60) rfl w.heap.size M rfl rfl 150 z H0.out (by rw[HM9.out];exact Tryz.infoPart) (by rw[HM9.out,HZ.out]) HM1.out ?_)));refine bodyPost_ret (v:=.agg M) ?_ rfl ⟨by rw[HF.out],below_setRow HB.out (by omega) _⟩;exact results_cell_row rfl _ _ w.heap.size 150 M (0,0) _ rfl (gW H0.out) Tryz.underlying150 rfl (by rw[HM9.out];exact Tryz.infoPart)
def zeroPart:Value:=.agg (partV ⟨0,0,0,0⟩ 0 [] 0 0 (.slice none 0 0))
theorem Tryz.infoPartZ:(Tryz.prog.info? 150).map (fun i=>(i.zero,i.size,i.bytes))=some (some zeroPart,9,96):=by kernel_rfl
theorem Tryz.infoPartsZ:(Tryz.prog.info? 151).map (fun i=>(i.zero,i.size,i.bytes))=some (some (.slice none 0 0),1,24):=by kernel_rfl
theorem zD{w:World}{B:Nat}{v:Value}{n:Nat}{xs:List Value}(M:List Value)(h9:M.length=9)(h1:∀u∈M,u.oneCell'=true)(hown:w.ownsRow B 150 9 v n xs)(hB:B<=w.heap.size)(hn:n<=1000):
  ∃v' w',(Builtin.append_ #[151,151] 151 #[v,.slice (some ⟨w.heap.size,0,none⟩) 1 1]).run Tryz.prog (w.alloc (.cells M.toArray 150))=.ok v' w'/\w'.ownsRow B 150 9 v' (n+1) (xs++M)/\w.grownBy w' v.ownBlock/\Fresh w v v':=by
 obtain⟨i0,hi0,hz0,hz1,hz2⟩:=info_parts Tryz.infoPartZ
 obtain⟨v',w',hr,ho,hg,hf⟩:=oC (P:=Tryz.prog) (w.alloc (.cells M.toArray 150)) B 151 151 150 i0 zeroPart 9 96 Tryz.underlying151 hi0 hz0 hz1 hz2 rfl (by decide) v n xs (hown.alloc _) ⟨w.heap.size,0,none⟩ 1 1 M (by rw[h9])
  (fun j u hj=>by rw[Addr.add_lit,Nat.zero_add,gC (heap_alloc_new w _),List.getElem?_toArray];exact hj)
  h1 (by unfold maxLen;omega) (by omega) (by simp;omega)
 refine⟨v',w',hr,ho,⟨hg.os,hg.tape,hg.output,Nat.le_trans (by simp) hg.size,fun j hj hne=>(hg.block j (by simp;omega) hne).trans (Below.heap_alloc w _ j hj)⟩,?_⟩;rcases hf with hf| ⟨g,hf,hgs⟩
 ·exact .inl hf
 ·exact .inr ⟨g,hf,Nat.le_trans (by simp) hgs⟩
theorem append_level{w:World}{B:Nat}{v:Value}{n:Nat}{xs:List Value}(x:Value)(h1:x.oneCell'=true)(hown:w.ownsRow B 151 1 v n xs)(hB:B<=w.heap.size)(hn:n<=1000):
  ∃v' w',(Builtin.append_ #[145,145] 145 #[v,.slice (some ⟨w.heap.size,0,none⟩) 1 1]).run Tryz.prog (w.alloc (.cells #[x] 151))=.ok v' w'/\w'.ownsRow B 151 1 v' (n+1) (xs++[x])/\w.grownBy w' v.ownBlock/\Fresh w v v':=by
 obtain⟨i0,hi0,hz0,hz1,hz2⟩:=info_parts Tryz.infoPartsZ
 obtain⟨v',w',hr,ho,hg,hf⟩:=oC (P:=Tryz.prog) (w.alloc (.cells #[x] 151)) B 145 145 151 i0 (.slice none 0 0) 1 24 Tryz.underlying145 hi0 hz0 hz1 hz2 rfl (by decide) v n xs (hown.alloc _) ⟨w.heap.size,0,none⟩ 1 1 [x] rfl
  (fun j u hj=>by rw[Addr.add_lit,Nat.zero_add,gC (heap_alloc_new w _),List.getElem?_toArray];exact hj)
  (fun u hu=>by rw[List.mem_singleton.1 hu];exact h1) (by unfold maxLen;omega) (by omega) (by simp;omega)
 refine⟨v',w',hr,ho,⟨hg.os,hg.tape,hg.output,Nat.le_trans (by simp) hg.size,fun j hj hne=>(hg.block j (by simp;omega) hne).trans (Below.heap_alloc w _ j hj)⟩,?_⟩;rcases hf with hf| ⟨g,hf,hgs⟩
 ·exact .inl hf
 ·exact .inr ⟨g,hf,Nat.le_trans (by simp) hgs⟩
def partL(n:Nat)(t:Wd.T n)(j:Nat)(x:Value):List Value:=(partV (Wd.box n t) (Wd.count n t:Nat) (Wd.text Sha.sha n t) (match n with|0=>0|_+1=>4*(j:Int)) (match n,t with|0,_=>0|m+1,cs=>(List.length (cs:List (Wd.T m)):Nat)) x).toList
theorem partL_len(n:Nat)(t:Wd.T n)(j:Nat)(x:Value):(partL n t j x).length=9:=rfl
def LevAt(w:World)(B:Nat)(v:Value)(n:Nat)(ls:List (Wd.T n)):Prop:=∃xs:Nat->Value,(∀j,(xs j).oneCell'=true)/\w.ownsRow B 150 9 v ls.length ((List.range ls.length).flatMap fun j=>match ls[j]? with|some t=>partL n t j (xs j)|none=>[])
theorem LevAt.keep{S:Nat->Prop}{w w':World}{B n:Nat}{v:Value}{ls:List (Wd.T n)}(h:LevAt w B v n ls)(hk:Keeps S w w')(hn:∀g,v.ownBlock=some g->¬S g):LevAt w' B v n ls:=by obtain⟨xs,h1,h2⟩:=h;exact⟨xs,h1,gi h2 hk hn⟩
theorem LevAt.below{w w':World}{B n:Nat}{v:Value}{ls:List (Wd.T n)}(h:LevAt w B v n ls)(hb:Below w.heap.size w w'):LevAt w' B v n ls:=h.keep (S:=fun _=>False) (Keeps.of_below hb) (fun _ _ h=>h)
theorem LevAt.at{w:World}{B n:Nat}{v:Value}{ls:List (Wd.T n)}(h:LevAt w B v n ls)(j:Nat)(hj:j<ls.length):∃g c x,v=.slice (some ⟨g,0,none⟩) ls.length c/\B<=g/\g<w.heap.size/\ls.length<=c/\x.oneCell'=true/\w.rangeAt g (j*9) (partL n ls[j] j x):=by
 obtain⟨xs,h1,h2⟩:=h;rcases h2.2 with⟨_,h0⟩| ⟨g,cap,cur,rfl,hB,hg,hcap, -, -, -⟩
 ·omega
 refine⟨g,cap,xs j,rfl,hB,(gL hg),hcap,h1 j,fun k u hu=>?_⟩;have hk:k<9:=(List.getElem?_eq_some_iff.1 hu).1;have h:=h2.cells (g:=g) rfl (j*9+k) u (by rw[List.flatMap_def,GI (c:=9) _ j k (fun U hU=>by obtain⟨m,hm,rfl⟩:=List.mem_map.1 hU;have hm':=List.mem_range.1 hm;rw[List.getElem?_eq_getElem hm'];rfl) hk,List.getElem?_map,List.getElem?_range hj,Option.map_some,Option.bind_some,List.getElem?_eq_getElem hj];exact hu);rw[Addr.add_lit,Nat.zero_add] at h;exact h
theorem levAt_nil(w:World)(B n:Nat):LevAt w B (.slice none 0 0) n []:=⟨fun _=> .slice none 0 0,fun _=>rfl,World.ownsRow_nil _ _ _ _⟩
theorem zR{w':World}{B n:Nat}{v':Value}{ls:List (Wd.T n)}{t:Wd.T n}{x:Value}(xs:Nat->Value)(h1:∀j,(xs j).oneCell'=true)(hx:x.oneCell'=true)
  (h3:w'.ownsRow B 150 9 v' (ls.length+1) (((List.range ls.length).flatMap fun j=>match ls[j]? with|some s=>partL n s j (xs j)|none=>[])++partL n t ls.length x)):LevAt w' B v' n (ls++[t]):=by
 refine⟨fun j=>if j<ls.length then xs j else x,fun j=>?_,?_⟩
 ·show(if j<ls.length then xs j else x).oneCell'=true;split
  ·exact h1 j
  ·exact hx
 ·rw[List.length_append,List.length_singleton,List.range_succ,List.flatMap_append];have e1:((List.range ls.length).flatMap fun j=>match (ls++[t])[j]? with|some s=>partL n s j (if j<ls.length then xs j else x)|none=>[])=(List.range ls.length).flatMap fun j=>match ls[j]? with|some s=>partL n s j (xs j)|none=>[]:=by refine Wd.ot fun j hj=>?_;have hj':=List.mem_range.1 hj;rw[List.getElem?_append_left hj',if_pos hj']
  have e2:([ls.length].flatMap fun j=>match (ls++[t])[j]? with|some s=>partL n s j (if j<ls.length then xs j else x)|none=>[])=partL n t ls.length x:=by simp
  show w'.ownsRow B 150 9 v' (ls.length+1) (((List.range ls.length).flatMap fun j=>match (ls++[t])[j]? with|some s=>partL n s j (if j<ls.length then xs j else x)|none=>[])++([ls.length].flatMap fun j=>match (ls++[t])[j]? with|some s=>partL n s j (if j<ls.length then xs j else x)|none=>[]));rw[e1,e2];exact h3
theorem leaves_at(K:List Wd.Pt)(j:Nat)(h:j< (Wd.leaves K).length):(Wd.leaves K)[j]=(K.drop (4*j)).take 4:=by
 unfold Wd.leaves at h⊢;by_cases h0:K.length=0
 ·have e:K=[]:=List.length_eq_zero_iff.1 h0;subst e;simp only[List.length_nil,if_true] at h⊢;have:j=0:=by simp at h;omega
  subst this;rfl
 ·simp only[if_neg h0] at h⊢;exact Wd.GG K j h
theorem leaves_cond(K:List Wd.Pt)(j:Nat)(h:j<=(Wd.leaves K).length):(j< (Wd.leaves K).length↔(4*j<K.length\/4*j=0)):=by
 unfold Wd.leaves at h⊢;by_cases h0:K.length=0
 ·simp only[if_pos h0] at h⊢;simp at h⊢;omega
 ·simp only[if_neg h0] at h⊢;rw[Wd.gP] at h⊢;omega
def AllAt(w:World)(B:Nat)(v v3:Value)(K:List Wd.Pt)(n:Nat):Prop:=∃vs:Nat->Value,(∀m,(vs m).oneCell'=true)/\vs n=v3/\w.ownsRow B 151 1 v (n+1) ((List.range (n+1)).map vs)/\∀m,m<=n->LevAt w B (vs m) m (Wd.lev K m)
theorem AllAt.below{w w':World}{B:Nat}{v v3:Value}{K:List Wd.Pt}{n:Nat}(h:AllAt w B v v3 K n)(hb:Below w.heap.size w w'):AllAt w' B v v3 K n:=by obtain⟨vs,h1,h2,h3,h4⟩:=h;exact⟨vs,h1,h2,gi (S:=fun _=>False) h3 (Keeps.of_below hb) (fun _ _ h=>h),fun m hm=>(h4 m hm).below hb⟩
theorem AllAt.now{w:World}{B:Nat}{v v3:Value}{K:List Wd.Pt}{n:Nat}(h:AllAt w B v v3 K n):LevAt w B v3 n (Wd.lev K n):=by obtain⟨vs,h1,h2,h3,h4⟩:=h;rw[<-h2];exact h4 n gR
theorem LevAt.one{w:World}{B n:Nat}{v:Value}{ls:List (Wd.T n)}(h:LevAt w B v n ls):v.oneCell'=true/\∃a c,v=.slice a ls.length c:=by
 obtain⟨xs,h1,h2⟩:=h;rcases h2.2 with⟨rfl,h0⟩| ⟨g,cap,cur,rfl,_⟩
 ·exact⟨rfl,none,0,by rw[h0]⟩
 ·exact⟨rfl,_,cap,rfl⟩
theorem allAt_first{w:World}{B:Nat}{v3:Value}{K:List Wd.Pt}(h:LevAt w B v3 0 (Wd.lev K 0))(hB:B<=w.heap.size):AllAt (w.alloc (.cells #[v3] 151)) B (.slice (some ⟨w.heap.size,0,none⟩) 1 1) v3 K 0:=by
 refine⟨fun _=>v3,fun _=>h.one.1,rfl,?_,fun m hm=>?_⟩
 ·exact World.ownsRow_lit (size:=1) w #[v3] 1 hB (by unfold maxLen;omega) rfl
 ·have:m=0:=by omega
  subst this;exact h.below ((Below.refl _ _).alloc gR _)
theorem allAt_push{w w':World}{B:Nat}{v v' v3 v8:Value}{K:List Wd.Pt}{n:Nat}(h:AllAt w B v v3 K n)(h8:LevAt w B v8 (n+1) (Wd.lev K (n+1)))
  (hg:w.grownBy w' v.ownBlock) (ho:∀xs,w.ownsRow B 151 1 v (n+1) xs->w'.ownsRow B 151 1 v' (n+1+1) (xs++[v8])):AllAt w' B v' v8 K (n+1):=by
 obtain⟨vs,h1,h2,h3,h4⟩:=h;have key:∀m (x:Value) (ls:List (Wd.T m)),LevAt w B x m ls->LevAt w' B x m ls:=fun m x ls hx=>by
  refine hx.keep (Keeps.of_grown hg) (fun g hg' e=>?_);obtain⟨xs,_,hr⟩:=hx;rcases hr.2 with⟨rfl,_⟩| ⟨g1,c1,cur1,rfl,_,hh1,_⟩
  ·simp[Value.ownBlock] at hg'
  rcases h3.2 with⟨rfl,hz⟩| ⟨g2,c2,cur2,rfl,_,hh2,_⟩
  ·omega
  simp[Value.ownBlock] at hg' e;subst hg' e;rw[hh1] at hh2;injection hh2 with hh2;injection hh2 with _ hh2;exact absurd hh2 (by decide)
 refine⟨fun m=>if m<=n then vs m else v8,fun m=>?_,if_neg (by omega),?_,fun m hm=>?_⟩
 ·show(if m<=n then vs m else v8).oneCell'=true;split
  ·exact h1 m
  ·exact h8.one.1
 ·have h5:=ho _ h3;rw[List.range_succ,List.map_append];have e1:(List.range (n+1)).map (fun m=>if m<=n then vs m else v8)=(List.range (n+1)).map vs:=List.map_congr_left fun m hm=>if_pos (by have:=List.mem_range.1 hm;omega);have e2:[n+1].map (fun m=>if m<=n then vs m else v8)=[v8]:=by rw[List.map_singleton,if_neg (by omega)]
  rw[e1,e2];exact h5
 ·show LevAt w' B (if m<=n then vs m else v8) m (Wd.lev K m);by_cases hmn:m<=n
  ·rw[if_pos hmn];exact key m _ _ (h4 m hmn)
  ·rw[if_neg hmn];(have:m=n+1:=by omega);subst this;exact key _ _ _ h8
theorem levAt_low{w:World}{B B' n:Nat}{v:Value}{ls:List (Wd.T n)}(h:LevAt w B v n ls)(hB:B'<=B):LevAt w B' v n ls:=by
 obtain⟨xs,h1,h2⟩:=h;refine⟨xs,h1,h2.1,?_⟩;rcases h2.2 with h0| ⟨g,cap,cur,e,hb,r⟩
 ·exact .inl h0
 ·exact .inr ⟨g,cap,cur,e,by omega,r⟩
structure PtCells(w:World)(g o:Nat)(b:Wd.Box)(c:Int)(t:List UInt8):Prop where
 c0:w.cell? ⟨g,o,none⟩=some (I b.a)
 c1:w.cell? ⟨g,o+1,none⟩=some (I b.b)
 c2:w.cell? ⟨g,o+2,none⟩=some (I b.c)
 c3:w.cell? ⟨g,o+3,none⟩=some (I b.d)
 c4:w.cell? ⟨g,o+4,none⟩=some (I c)
 c5:w.cell? ⟨g,o+5,none⟩=some (Sv t)
theorem PtCells.of{w:World}{g o n j:Nat}{t:Wd.T n}{x:Value}(h:w.rangeAt g o (partL n t j x)):PtCells w g o (Wd.box n t) (Wd.count n t:Nat) (Wd.text Sha.sha n t):=⟨h 0 _ rfl,h 1 _ rfl,h 2 _ rfl,h 3 _ rfl,h 4 _ rfl,h 5 _ rfl⟩
theorem PtCells.below{w w':World}{B g o:Nat}{b:Wd.Box}{c:Int}{t:List UInt8}(h:PtCells w g o b c t)(hb:Below B w w')(hg:g<B):PtCells w' g o b c t:=⟨(hb.cell (p:=⟨g,_,none⟩) hg).trans h.c0,(hb.cell (p:=⟨g,_,none⟩) hg).trans h.c1,(hb.cell (p:=⟨g,_,none⟩) hg).trans h.c2,(hb.cell (p:=⟨g,_,none⟩) hg).trans h.c3,(hb.cell (p:=⟨g,_,none⟩) hg).trans h.c4,(hb.cell (p:=⟨g,_,none⟩) hg).trans h.c5⟩
def boxQ'(n:Nat)(G:List (Wd.T n))(b:Wd.Box)(q:Nat):Wd.Box:=((G.take q).map (Wd.box n)).foldl Wd.join b
def cntQ(n:Nat)(G:List (Wd.T n))(q:Nat):Nat:=((G.take q).map (Wd.count n)).sum
def txtQ(n:Nat)(G:List (Wd.T n))(q:Nat):List UInt8:=(G.take q).flatMap (Wd.head Sha.sha n)
theorem txtQ_len(n:Nat)(G:List (Wd.T n))(q:Nat):(txtQ n G q).length=52*(G.take q).length:=by
 unfold txtQ;induction G.take q with
 |nil=>rfl
 |cons t l ih=>rw[List.flatMap_cons,List.length_append,ih,Wd.zb sha_length,List.length_cons];omega
end Go.Proofs.YtenaelkbgkpllaaGreatDoor
