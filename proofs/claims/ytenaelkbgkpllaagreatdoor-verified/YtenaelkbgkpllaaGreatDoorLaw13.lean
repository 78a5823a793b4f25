/- Part 13 of what the four laws rest on: laid by a program out of the texts of wip/T. -/
import Derived.Test.YtenaelkbgkpllaaGreatDoorLaw12
import Derived.Deep.DrawnRows
set_option maxRecDepth 100000
set_option maxHeartbeats 8000000
namespace Go.Proofs.YtenaelkbgkpllaaGreatDoor
open Go.RowKit
theorem fill_root(cells:Array Value)(hc:cells.size=33)(D:List Value)(hD:D.length=32)(x:Value)(hx:x.cells= #[x])(place:Nat->Option (Nat×Nat))(h0:place 0=some (0,32))(h1:place 1=some (32,1)):
  Instr.fill place cells [(0,.agg D.toArray),(1,x)]=some (D++[x]).toArray:=by
 obtain⟨g1,g2⟩:=Great.foldl_set 0 D 0 cells;have e0:Value.cells (.agg D.toArray)=D.toArray:=rfl;have ef:(D.toArray.zipIdx.foldl (fun cs (y:Value×Nat)=>cs.setIfInBounds (0+y.2) y.1) cells)=((D.zipIdx 0).foldl (fun cs (y:Value×Nat)=>cs.setIfInBounds (0+y.2) y.1) cells):=by rw[<-Array.foldl_toList,Array.toList_zipIdx]
 unfold Instr.fill;simp only[h0,e0];rw[if_neg (by simp[hD,hc]),ef];generalize (D.zipIdx 0).foldl (fun cs (y:Value×Nat)=>cs.setIfInBounds (0+y.2) y.1) cells=r at*;unfold Instr.fill;simp only[h1,hx];rw[if_neg (by simp[hc,g1])];unfold Instr.fill;congr 1;apply Array.ext_getElem?;intro k;have es:(#[x].zipIdx.foldl (fun cs (y:Value×Nat)=>cs.setIfInBounds (32+y.2) y.1) r)=r.setIfInBounds 32 x:=by rw[<-Array.foldl_toList,Array.toList_zipIdx];rfl
 have eR:(D++[x]).toArray[k]? =(D++[x])[k]? :=List.getElem?_toArray;rw[es,eR];by_cases hk:k=32
 ·subst hk;rw[Array.getElem?_setIfInBounds_self,if_pos (by rw[g1,hc];decide),List.getElem?_append_right (by omega),hD];rfl
 ·rw[Array.getElem?_setIfInBounds_ne (by omega),g2 k];by_cases hl:k<32
  ·rw[if_pos (by omega),List.getElem?_append_left (by omega)];simp
  ·rw[if_neg (by omega),Array.getElem?_eq_none (by omega),List.getElem?_eq_none (by simp;omega)]
theorem Tryz.infoCommitZ:(Tryz.prog.info? 41).bind (fun i=>i.zero.map (·.cells.size))=some 33:=by kernel_rfl
theorem Tryz.placesCommit:((Tryz.prog.fieldsOf 41).toList.mapM (fun f=>(Tryz.prog.info? f.type).map fun i=>(f.offset,i.size)))=some [(0,32),(32,1)]:=by kernel_rfl
theorem built_commit(D:List Value)(hD:D.length=32)(n:Int):Tryz.prog.built 41 [(0,.agg D.toArray),(1,I n)]=some (D++[I n]).toArray:=by
 have hS:Tryz.prog.underlying 41=some (.struct (Tryz.prog.fieldsOf 41)):=by kernel_rfl
 have hz:=Tryz.infoCommitZ;have hp:=Tryz.placesCommit;unfold Program.built;cases hi:Tryz.prog.info? 41 with
 |none=>rw[hi] at hz;cases hz
 |some it=>
  rw[hi] at hz;cases hz0:it.zero with
  |none=>simp[hz0] at hz
  |some z=>simp[hz0] at hz;rw[hS];simp only[hz0,hp];exact fill_root z.cells hz D hD (I n) rfl _ rfl rfl
theorem zF{P:Program}{ops:Array Oper}{rest:List Oper}{o:Oper}{a:Act}{w:World}{Q:Exit->Act->World->Prop}(hg:o.guard=none)(t:TypeId)(parts:Array (Nat×Operand))(ho:o.op=.build t parts)
  (cells:Array Value) (l:List (Nat×Value)) (hl:parts.toList.map (fun(i,x)=>(i,a.eval x))=l) (hb:P.built t l=some cells)
  (h:wpList P ops Q rest (a.put o.dst (.agg cells)) w):wpList P ops Q (o::rest) a w:=
 wpList_build hg t parts ho (by rw[Array.toList_map,hl,hb];rfl) (by rw[Array.toList_map,hl,hb];exact h)
theorem range_dig{w:World}{g:Nat}{vp vc:Value}{b:Wd.Box}{n:Int}{t:List Value}{ty:Nat}(h:w.heap[g]? =some (.cells (nodeV vp vc b n t).toArray ty (0,0))):w.rangeAt g 7 t:=fun j v hv=>by rw[gC h,Nat.add_comm 7 j];simpa[nodeV] using hv
theorem Tryz.infoDig:(Tryz.prog.info? 39).map (·.size)=some 32:=by kernel_rfl
theorem GJ(vp vc:Value)(b:Wd.Box)(n:Int)(D:List UInt8)(w:World)(hD:D.length=32):
  Calls Tryz.prog 37 #[.agg (nodeV vp vc b n (D.map Y)).toArray] w fun e w'=>e=.returned (.agg (rootV D n).toArray)/\Below w.heap.size w w':=by
 have hb2:=fun o o'=>(gB w o).alloc (by simp) o';have hr2:=heap_alloc2_new w;have hr1:=heap_alloc2_old w;have HBC:=gS (Tryz.prog.built 41 [(0,.agg (D.map Y).toArray),(1,I n)]=some (rootV D n).toArray) (built_commit (D.map Y) (by simpa using hD) n);have HC33:=gH (zB D n hD);have HONE:=gH (rootV_one D n);have HINF:=gS ((Tryz.prog.info? 41).map (·.size)=some (rootV D n).toArray.size) (by rw[List.size_toArray,zB D n hD];exact Tryz.infoCommit);have HID:=gS ((Tryz.prog.info? 39).map (·.size)=some (D.map Y).length) (by rw[List.length_map,hD];exact Tryz.infoDig);generalize hM:nodeV vp vc b n (D.map Y)=M at*;have HM:=gH hM;clear hM;go_enter Tryz.func37,Tryz.ntmps37
 go_upto_region 1 with fail
 generalize hW:World.alloc (World.alloc w _) _=w1;have hb1:Below w.heap.size w w1:=by rw[<-hW];exact hb2 _ _
 have hn1:w1.heap[w.heap.size]? =some (.cells (nodeV vp vc b n (D.map Y)).toArray 90 (0,0)):=by rw[<-hW,HM.out];exact hr1 _ _
 have hc1:w1.heap[w.heap.size+1]? =some (.cells (List.replicate 32 (Value.int .u8 0)++[I 0]).toArray 41 (0,0)):=by rw[<-hW];exact hr2 _ _
 clear hb2 hr1 hr2 hW;obtain⟨-, -,c6⟩:=gT hn1;have HD:=gH (range_dig hn1);have HB1:=gH hb1;have HC1:=gH hc1;have HS:=gS ((List.replicate 32 (Value.int .u8 0)++[I 0]).toArray.size=(rootV D n).toArray.size) (by rw[List.size_toArray,List.size_toArray,HC33.out];rfl);clear hn1 hb1 hc1;generalize D.map Y=DV at*;generalize hR:rootV D n=R at*;have HRE:=gH hR;clear hR;go_wp2_with (first| (refine wpList_load_mid rfl 39 (.tmp 3) rfl w.heap.size 7 rfl DV _ HD.out Tryz.underlying39 rfl HID.out ?_)| (refine zF rfl 41 #[(0,.tmp 4),(1,.tmp 6)] rfl R.toArray [(0,.agg DV.toArray),(1,I n)] rfl HBC.out ?_)| (refine wpList_store_row rfl 41 (.tmp 2) (.tmp 7) rfl (w.heap.size+1) R.toArray rfl rfl 41 _ HC1.out HINF.out HS.out HONE.out ?_))
 refine bodyPost_ret (v:=.agg R.toArray) ?_ rfl ⟨by rw[HRE.out],below_setRow HB1.out (by simp) _⟩;exact results_cell_row rfl _ _ (w.heap.size+1) 41 R.toArray (0,0) _ rfl (gW HC1.out) Tryz.underlying41 rfl HINF.out
theorem Own.caps{w:World}{B:Nat}{v:Value}{L:List Wd.Pt}(h:Own w B v L):∃a c,v=.slice a L.length c/\L.length<=c/\c<=maxLen:=by
 rcases h.2 with⟨rfl,h0⟩| ⟨g,cap,cur,rfl,_,_,h1,h2,_⟩
 ·exact⟨none,0,by rw[h0],by omega,by decide⟩
 ·exact⟨_,cap,rfl,h1,h2⟩
theorem Own.readsS{w:World}{B:Nat}{v:Value}{L:List Wd.Pt}(h:Own w B v L):ReadsS w (fun g=>g<w.heap.size) v L:=by obtain⟨a,c,rfl,hr⟩:=h.reads;refine⟨a,c,rfl,fun hne=>?_⟩;obtain⟨g,o,e,hp⟩:=hr hne;exact⟨g,o,e,(hp 0 (List.length_pos_iff.2 hne)).lt,hp⟩
theorem build_map(m:Nat)(v:Value)(L:List Wd.Pt)(w:World)(hm:IsMap w m v L)(hG:Good L)(hKT:KT w):Calls Tryz.prog 38 #[v] w fun e w'=>Built w L e w':=build_any v L w hG.many hm.own.caps hm.own.readsS hKT
theorem tree_num{L:List Wd.Pt}(hG:Good L):Wd.numN ((Wd.tree L).1+1) (Wd.mk Sha.sha (Wd.tree L).1 (Wd.tree L).2)=L.length:=by rw[Wd.mk_num,Wd.count_pts,(Wd.zO hG.ok).2]
theorem commitment_any(m:Nat)(v:Value)(L:List Wd.Pt)(w:World)(hm:IsMap w m v L)(hG:Good L)(hKT:KT w):
  Calls Tryz.prog 16 #[.pointer (some ⟨m,0,none⟩)] w fun e w'=>e=.returned (.agg (commitV L).toArray)/\Below w.heap.size w w':=by
 have hmlt:=hm.lt;have HM:=gH hm;have HG:=gH hG;have HK:=gH hKT;have HCO:=gH (com_of L);have hr0':=heap_alloc_new w;have hb0':=gB w;have hs0':=fun o=>show(w.alloc o).heap.size=w.heap.size+1 by simp
 clear hm hKT;go_enter Tryz.func16,Tryz.ntmps16
 go_upto_region 1 with fail
 generalize hW:World.alloc w _=w0;have hb0:Below w.heap.size w w0:=by rw[<-hW];exact hb0' _
 have hr0:w0.heap[w.heap.size]? =some (.cells (List.replicate 32 (Value.int .u8 0)++[I 0]).toArray 41 (0,0)):=by rw[<-hW];exact hr0' _
 have hs0:w0.heap.size=w.heap.size+1:=by rw[<-hW];exact hs0' _
 clear hb0' hr0' hs0' hW;have hm0:=HM.out.below hb0;have hc0:=hm0.cell;have HM0:=gH hm0;have HB0:=gH hb0;have HR0:=gH hr0;have HS0:=gH hs0;have HBM:=gH (build_map m v L w0 hm0 hG (HK.out.below hb0));clear hm0 hb0 hr0 hs0;go_wp2_with fail
 refine HBM.out.mono ?_;rintro _ w1⟨V,rfl,hn1,hb1⟩;obtain⟨a1,l1,c1,a2,l2,c2,hV,hd⟩:=hn1.cells;have HCT:=gH (GJ (.slice a1 l1 c1) (.slice a2 l2 c2) (Wd.boxN _ (Wd.mk Sha.sha (Wd.tree L).1 (Wd.tree L).2)) (Wd.numN _ (Wd.mk Sha.sha (Wd.tree L).1 (Wd.tree L).2)) _ w1 hd);rw[<-hV,tree_num HG.out,Wd.mk_dig] at HCT;have HCT:=gS (Calls Tryz.prog 37 #[.agg V.toArray] w1 fun e w'=>e=.returned (.agg (commitV L).toArray)/\Below w1.heap.size w1 w') HCT.out;have hr1:=(hb1.block w.heap.size (by have:=HS0.out;omega)).trans HR0.out;have HR1:=gH hr1;have HB1:=gH hb1;clear hn1 hb1 hr1 hV hd;generalize hCL:commitV L=C at*;have HCL:=gH hCL;clear hCL;go_wp2_with fail
 refine HCT.out.mono ?_;rintro _ w2⟨rfl,hb2⟩;have hr2:=(hb2.block w.heap.size (gL HR1.out)).trans HR1.out;have HR2:=gH hr2;have HB2:=gH hb2;have HSE:=gS ((List.replicate 32 (Value.int .u8 0)++[I 0]).toArray.size=C.toArray.size) (by rw[HCO.out.size];rfl);clear hr2 hb2;go_wp2_with (refine wpList_store_row rfl 41 (.tmp 2) (.tmp 8) rfl w.heap.size C.toArray rfl rfl 41 _ HR2.out HCO.out.info HSE.out HCO.out.one ?_)
 have hbw:=HB0.out.trans ((HB1.out.mono HB0.out.size).trans (HB2.out.mono (Nat.le_trans HB0.out.size HB1.out.size)));refine bodyPost_ret (v:=.agg C.toArray) ?_ rfl ⟨by rw[HCL.out],below_setRow hbw gR _⟩;exact results_cell_row rfl _ _ w.heap.size 41 C.toArray (0,0) _ rfl (gW HR2.out) Tryz.underlying41 rfl HCO.out.info
abbrev Qv(q:Wd.Qr):Value:=.agg #[I q.kind,I q.a,I q.b,I q.c,I q.d,I q.x,I q.y,I q.k]
theorem meets_any(p q:Wd.Box)(w:World):
  Calls Tryz.prog 78 #[Bx p,Bx q] w fun e w'=>e=.returned (.bool (Wd.meets p q))/\Below w.heap.size w w':=by
 obtain⟨pa,pb,pc,pd⟩:=p;obtain⟨qa,qb,qc,qd⟩:=q;by_cases h1:pa<=qc
 ·by_cases h2:qa<=pc
  ·by_cases h3:pb<=qd
   ·by_cases h4:qb<=pd
    ·rw[show Wd.meets ⟨pa,pb,pc,pd⟩ ⟨qa,qb,qc,qd⟩=true by simp[Wd.meets,h1,h2,h3,h4]];(go_enter Tryz.func78,Tryz.ntmps78);go_wp2;go_ret;exact⟨rfl,(gB w _).alloc (by simp) _⟩
    ·rw[show Wd.meets ⟨pa,pb,pc,pd⟩ ⟨qa,qb,qc,qd⟩=false by simp[Wd.meets,h1,h2,h3,h4]];(go_enter Tryz.func78,Tryz.ntmps78);go_wp2;go_ret;exact⟨rfl,(gB w _).alloc (by simp) _⟩
   ·rw[show Wd.meets ⟨pa,pb,pc,pd⟩ ⟨qa,qb,qc,qd⟩=false by simp[Wd.meets,h1,h2,h3]];(go_enter Tryz.func78,Tryz.ntmps78);go_wp2;go_ret;exact⟨rfl,(gB w _).alloc (by simp) _⟩
  ·rw[show Wd.meets ⟨pa,pb,pc,pd⟩ ⟨qa,qb,qc,qd⟩=false by simp[Wd.meets,h1,h2]];(go_enter Tryz.func78,Tryz.ntmps78);go_wp2;go_ret;exact⟨rfl,(gB w _).alloc (by simp) _⟩
 ·rw[show Wd.meets ⟨pa,pb,pc,pd⟩ ⟨qa,qb,qc,qd⟩=false by simp[Wd.meets,h1]];go_enter Tryz.func78,Tryz.ntmps78
  go_wp2;go_ret;exact⟨rfl,(gB w _).alloc (by simp) _⟩
theorem GO(q:Wd.Qr)(w:World):
  Calls Tryz.prog 73 #[Qv q] w fun e w'=>e=.returned (Bx (Wd.window q))/\Below w.heap.size w w':=by
 go_enter Tryz.func73,Tryz.ntmps73
 go_wp2;refine bodyPost_ret (v:=Bx (Wd.window q)) ?_ rfl ⟨rfl,(gB w _).alloc (by simp) _⟩;exact results_cell_row rfl _ _ (w.heap.size+1) 88 _ (0,0) _ rfl (heap_alloc2_new w _ _) Tryz.underlying88 rfl Tryz.infoBox
theorem boxMay_any(p:Wd.Box)(w:World):
  Calls Tryz.prog 74 #[Bx p] w fun e w'=>e=.returned (.bool (Wd.boxMay p))/\Below w.heap.size w w':=by
 obtain⟨pa,pb,pc,pd⟩:=p;by_cases h1: -1000000<=pa/\pa<=1000000
 ·by_cases h2: -1000000<=pb/\pb<=1000000
  ·by_cases h3: -1000000<=pc/\pc<=1000000
   ·by_cases h4: -1000000<=pd/\pd<=1000000
    ·by_cases h5:pa<=pc
     ·by_cases h6:pb<=pd
      ·rw[show Wd.boxMay ⟨pa,pb,pc,pd⟩=true by rw[Wd.boxMay,Wd.gV h1,Wd.gV h2,Wd.gV h3,Wd.gV h4,decide_eq_true h5,decide_eq_true h6];rfl];have H1:=gH h1;have H2:=gH h2;have H3:=gH h3;have H4:=gH h4;clear h1 h2 h3 h4;(go_enter Tryz.func74,Tryz.ntmps74);(go_wp2_with (first| (go_at_call_of 32 (I pa);refine(gG pa _ H1.out).mono ?_;rintro _ _⟨rfl,rfl⟩)| (go_at_call_of 32 (I pb);refine(gG pb _ H2.out).mono ?_;rintro _ _⟨rfl,rfl⟩)| (go_at_call_of 32 (I pc);refine(gG pc _ H3.out).mono ?_;rintro _ _⟨rfl,rfl⟩)| (go_at_call_of 32 (I pd);refine(gG pd _ H4.out).mono ?_;rintro _ _⟨rfl,rfl⟩)));go_ret;exact⟨rfl,gB w _⟩
      ·rw[show Wd.boxMay ⟨pa,pb,pc,pd⟩=false by rw[Wd.boxMay,Wd.gV h1,Wd.gV h2,Wd.gV h3,Wd.gV h4,decide_eq_true h5,decide_eq_false h6];rfl];have H1:=gH h1;have H2:=gH h2;have H3:=gH h3;have H4:=gH h4;clear h1 h2 h3 h4;(go_enter Tryz.func74,Tryz.ntmps74);(go_wp2_with (first| (go_at_call_of 32 (I pa);refine(gG pa _ H1.out).mono ?_;rintro _ _⟨rfl,rfl⟩)| (go_at_call_of 32 (I pb);refine(gG pb _ H2.out).mono ?_;rintro _ _⟨rfl,rfl⟩)| (go_at_call_of 32 (I pc);refine(gG pc _ H3.out).mono ?_;rintro _ _⟨rfl,rfl⟩)| (go_at_call_of 32 (I pd);refine(gG pd _ H4.out).mono ?_;rintro _ _⟨rfl,rfl⟩)));go_ret;exact⟨congrArg (fun b=>Ending.returned (Value.bool b)) (decide_eq_false (Int.not_le.2 h6)),gB w _⟩
     ·rw[show Wd.boxMay ⟨pa,pb,pc,pd⟩=false by rw[Wd.boxMay,Wd.gV h1,Wd.gV h2,Wd.gV h3,Wd.gV h4,decide_eq_false h5];rfl];have H1:=gH h1;have H2:=gH h2;have H3:=gH h3;have H4:=gH h4;clear h1 h2 h3 h4;(go_enter Tryz.func74,Tryz.ntmps74);(go_wp2_with (first| (go_at_call_of 32 (I pa);refine(gG pa _ H1.out).mono ?_;rintro _ _⟨rfl,rfl⟩)| (go_at_call_of 32 (I pb);refine(gG pb _ H2.out).mono ?_;rintro _ _⟨rfl,rfl⟩)| (go_at_call_of 32 (I pc);refine(gG pc _ H3.out).mono ?_;rintro _ _⟨rfl,rfl⟩)| (go_at_call_of 32 (I pd);refine(gG pd _ H4.out).mono ?_;rintro _ _⟨rfl,rfl⟩)));go_ret;exact⟨rfl,gB w _⟩
    ·rw[show Wd.boxMay ⟨pa,pb,pc,pd⟩=false by rw[Wd.boxMay,Wd.gV h1,Wd.gV h2,Wd.gV h3,Wd.ou h4];rfl];have H1:=gH h1;have H2:=gH h2;have H3:=gH h3;have H4:=gH h4;clear h1 h2 h3 h4;(go_enter Tryz.func74,Tryz.ntmps74);(go_wp2_with (first| (go_at_call_of 32 (I pa);refine(gG pa _ H1.out).mono ?_;rintro _ _⟨rfl,rfl⟩)| (go_at_call_of 32 (I pb);refine(gG pb _ H2.out).mono ?_;rintro _ _⟨rfl,rfl⟩)| (go_at_call_of 32 (I pc);refine(gG pc _ H3.out).mono ?_;rintro _ _⟨rfl,rfl⟩)| (go_at_call_of 32 (I pd);refine(oZ pd _ H4.out).mono ?_;rintro _ _⟨rfl,rfl⟩)));go_ret;exact⟨rfl,gB w _⟩
   ·rw[show Wd.boxMay ⟨pa,pb,pc,pd⟩=false by rw[Wd.boxMay,Wd.gV h1,Wd.gV h2,Wd.ou h3];rfl];have H1:=gH h1;have H2:=gH h2;have H3:=gH h3;clear h1 h2 h3;(go_enter Tryz.func74,Tryz.ntmps74);(go_wp2_with (first| (go_at_call_of 32 (I pa);refine(gG pa _ H1.out).mono ?_;rintro _ _⟨rfl,rfl⟩)| (go_at_call_of 32 (I pb);refine(gG pb _ H2.out).mono ?_;rintro _ _⟨rfl,rfl⟩)| (go_at_call_of 32 (I pc);refine(oZ pc _ H3.out).mono ?_;rintro _ _⟨rfl,rfl⟩)));go_ret;exact⟨rfl,gB w _⟩
  ·rw[show Wd.boxMay ⟨pa,pb,pc,pd⟩=false by rw[Wd.boxMay,Wd.gV h1,Wd.ou h2];rfl];have H1:=gH h1;have H2:=gH h2;clear h1 h2;(go_enter Tryz.func74,Tryz.ntmps74);(go_wp2_with (first| (go_at_call_of 32 (I pa);refine(gG pa _ H1.out).mono ?_;rintro _ _⟨rfl,rfl⟩)| (go_at_call_of 32 (I pb);refine(oZ pb _ H2.out).mono ?_;rintro _ _⟨rfl,rfl⟩)));go_ret;exact⟨rfl,gB w _⟩
 ·rw[show Wd.boxMay ⟨pa,pb,pc,pd⟩=false by rw[Wd.boxMay,Wd.ou h1];rfl];have H1:=gH h1;clear h1;go_enter Tryz.func74,Tryz.ntmps74
  go_wp2_with (first| (go_at_call_of 32 (I pa);refine(oZ pa _ H1.out).mono ?_;rintro _ _⟨rfl,rfl⟩))
  go_ret;exact⟨rfl,gB w _⟩
theorem GE(q:Wd.Qr)(w:World):
  Calls Tryz.prog 39 #[Qv q] w fun e w'=>e=.returned (.bool (Wd.mayBe q))/\Below w.heap.size w w':=by
 by_cases hk:q.kind=0
 ·rw[show Wd.mayBe q=Wd.boxMay (Wd.window q) by simp[Wd.mayBe,hk]];obtain⟨qk,qa,qb,qc,qd,qx,qy,qn⟩:=q;simp only at hk;subst hk;generalize hW:Wd.window ⟨0,qa,qb,qc,qd,qx,qy,qn⟩=W;have HW:=gH hW;clear hW;go_enter Tryz.func39,Tryz.ntmps39
  go_wp2_with fail
  refine(GO ⟨0,qa,qb,qc,qd,qx,qy,qn⟩ _).mono ?_;rintro _ w1⟨rfl,hb1⟩;rw[HW.out];have HB1:=gH hb1;clear hb1;go_wp2_with fail
  refine(boxMay_any W _).mono ?_;rintro _ w2⟨rfl,hb2⟩;have HB2:=gH hb2;clear hb2;go_wp2;go_ret;have h1:Below w.heap.size w w1:=(gB w _).trans (HB1.out.mono (by simp));exact⟨rfl,h1.trans (HB2.out.mono h1.size)⟩
 ·by_cases hk1:q.kind=1
  ·obtain⟨qk,qa,qb,qc,qd,qx,qy,qn⟩:=q;simp only at hk hk1;subst hk1;clear hk;by_cases h1: -1000000<=qx/\qx<=1000000
   ·by_cases h2: -1000000<=qy/\qy<=1000000
    ·by_cases h3:1<=qn
     ·by_cases h4:qn<=20
      ·rw[show Wd.mayBe ⟨1,qa,qb,qc,qd,qx,qy,qn⟩=true by rw[Wd.mayBe,if_neg (show ¬(1:Int)=0 by decide),if_pos rfl];rw[Wd.gV h1,Wd.gV h2,decide_eq_true h3,decide_eq_true h4];rfl];have H1:=gH h1;have H2:=gH h2;clear h1 h2;(go_enter Tryz.func39,Tryz.ntmps39);(go_wp2_with (first| (go_at_call_of 32 (I qx);refine(gG qx _ H1.out).mono ?_;rintro _ _⟨rfl,rfl⟩)| (go_at_call_of 32 (I qy);refine(gG qy _ H2.out).mono ?_;rintro _ _⟨rfl,rfl⟩)));go_ret;exact⟨rfl,gB w _⟩
      ·rw[show Wd.mayBe ⟨1,qa,qb,qc,qd,qx,qy,qn⟩=false by rw[Wd.mayBe,if_neg (show ¬(1:Int)=0 by decide),if_pos rfl];rw[Wd.gV h1,Wd.gV h2,decide_eq_true h3,decide_eq_false h4];rfl];have H1:=gH h1;have H2:=gH h2;clear h1 h2;(go_enter Tryz.func39,Tryz.ntmps39);(go_wp2_with (first| (go_at_call_of 32 (I qx);refine(gG qx _ H1.out).mono ?_;rintro _ _⟨rfl,rfl⟩)| (go_at_call_of 32 (I qy);refine(gG qy _ H2.out).mono ?_;rintro _ _⟨rfl,rfl⟩)));go_ret;exact⟨congrArg (fun b=>Ending.returned (Value.bool b)) (decide_eq_false (Int.not_le.2 h4)),gB w _⟩
     ·rw[show Wd.mayBe ⟨1,qa,qb,qc,qd,qx,qy,qn⟩=false by rw[Wd.mayBe,if_neg (show ¬(1:Int)=0 by decide),if_pos rfl];rw[Wd.gV h1,Wd.gV h2,decide_eq_false h3];rfl];have H1:=gH h1;have H2:=gH h2;clear h1 h2;(go_enter Tryz.func39,Tryz.ntmps39);(go_wp2_with (first| (go_at_call_of 32 (I qx);refine(gG qx _ H1.out).mono ?_;rintro _ _⟨rfl,rfl⟩)| (go_at_call_of 32 (I qy);refine(gG qy _ H2.out).mono ?_;rintro _ _⟨rfl,rfl⟩)));go_ret;exact⟨rfl,gB w _⟩
    ·rw[show Wd.mayBe ⟨1,qa,qb,qc,qd,qx,qy,qn⟩=false by rw[Wd.mayBe,if_neg (show ¬(1:Int)=0 by decide),if_pos rfl];rw[Wd.gV h1,Wd.ou h2];rfl];have H1:=gH h1;have H2:=gH h2;clear h1 h2;(go_enter Tryz.func39,Tryz.ntmps39);(go_wp2_with (first| (go_at_call_of 32 (I qx);refine(gG qx _ H1.out).mono ?_;rintro _ _⟨rfl,rfl⟩)| (go_at_call_of 32 (I qy);refine(oZ qy _ H2.out).mono ?_;rintro _ _⟨rfl,rfl⟩)));go_ret;exact⟨rfl,gB w _⟩
   ·rw[show Wd.mayBe ⟨1,qa,qb,qc,qd,qx,qy,qn⟩=false by rw[Wd.mayBe,if_neg (show ¬(1:Int)=0 by decide),if_pos rfl];rw[Wd.ou h1];rfl];have H1:=gH h1;clear h1;(go_enter Tryz.func39,Tryz.ntmps39);(go_wp2_with (first| (go_at_call_of 32 (I qx);refine(oZ qx _ H1.out).mono ?_;rintro _ _⟨rfl,rfl⟩)));go_ret;exact⟨rfl,gB w _⟩
  ·rw[show Wd.mayBe q=false by simp[Wd.mayBe,hk,hk1]];(go_enter Tryz.func39,Tryz.ntmps39);go_wp2;go_ret;exact⟨rfl,gB w _⟩
theorem oW{w:World}{B:Nat}{v:Value}{l:List Wd.Pt}(p:Wd.Pt)(hown:Own w B v l)(hB:B<=w.heap.size)(hn:l.length<=100000):
  ∃v' w',(Builtin.append_ #[27,27] 27 #[v,.slice (some ⟨w.heap.size,0,none⟩) 1 1]).run Tryz.prog (w.alloc (.cells #[I p.id,I p.x,I p.y] 36))=.ok v' w'/\Own w' B v' (l++[p])/\w.grownBy w' v.ownBlock/\Fresh w v v':=by
 obtain⟨i0,hi0,hz0,hz1,hz2⟩:=info_parts Tryz.infoPt;have hown':(w.alloc (.cells #[I p.id,I p.x,I p.y] 36)).ownsRow B 36 3 v l.length (l.flatMap P3):=World.ownsRow.alloc hown _
 obtain⟨v',w',hr,ho,hg,hf⟩:=oC (P:=Tryz.prog) (w.alloc (.cells #[I p.id,I p.x,I p.y] 36)) B 27 27 36 i0 (.agg #[I 0,I 0,I 0]) 3 24 Tryz.underlying27 hi0 hz0 hz1 hz2 rfl (by decide) v l.length (l.flatMap P3) hown' ⟨w.heap.size,0,none⟩ 1 1 (P3 p) rfl
  (fun j u hj=>by rw[Addr.add_lit,Nat.zero_add,gC (heap_alloc_new w _)];rw[List.getElem?_toArray];exact hj)
  (fun u hu=>oM (L:=[p]) u (by simpa using hu)) (by unfold maxLen;omega) (by omega) (by simp;omega)
 refine⟨v',w',hr,?_,⟨hg.os,hg.tape,hg.output,Nat.le_trans (by simp) hg.size,fun j hj hne=>(hg.block j (by simp;omega) hne).trans (Below.heap_alloc w _ j hj)⟩,?_⟩
 ·unfold Own;rw[List.length_append,List.flatMap_append];have e:[p].flatMap P3=P3 p:=by simp
  rw[e];exact ho
 ·rcases hf with hf| ⟨g,hf,hgs⟩
  ·exact .inl hf
  ·exact .inr ⟨g,hf,Nat.le_trans (by simp) hgs⟩
def PutP(w:World)(B:Nat)(v:Value)(l more:List Wd.Pt)(e:Ending)(w':World):Prop:=∃v',e=.returned v'/\Own w' B v' (l++more)/\w.grownBy w' v.ownBlock/\Fresh w v v'
theorem Own.slice{w:World}{B:Nat}{v:Value}{L:List Wd.Pt}(h:Own w B v L):∃a c,v=.slice a L.length c:=by
 rcases h.2 with⟨rfl,h0⟩| ⟨g,cap,cur,rfl,_⟩
 ·exact⟨none,0,by rw[h0]⟩
 ·exact⟨_,cap,rfl⟩
theorem oQ{w w':World}{r:Option Nat}(h:Below w.heap.size w w'):w.grownBy w' r:=⟨h.os,h.tape,h.output,h.size,fun j hj _=>h.block j hj⟩
theorem grown_same{S:Nat->Prop}{w w':World}{B:Nat}{v:Value}{L:List Wd.Pt}(h:w.grownBy w' v.ownBlock)(ho:Own w B v L)(hS:∀g,S g->g<B)(hB:B<=w.heap.size):Same S w w':=fun g hg=>h.block g (Nat.lt_of_lt_of_le (hS g hg) hB) (fun e=>by have:=ho.ge e.symm;have:=hS g hg;omega)
theorem oT{w w2 w':World}{r:Option Nat}(hb:Below w.heap.size w w2)(hg:w2.grownBy w' r):w.grownBy w' r:=⟨hg.os.trans hb.os,hg.tape.trans hb.tape,hg.output.trans hb.output,Nat.le_trans hb.size hg.size,fun j hj hne=>(hg.block j (Nat.lt_of_lt_of_le hj hb.size) hne).trans (hb.block j hj)⟩
theorem oU{w w2:World}{v v':Value}(hs:w.heap.size<=w2.heap.size)(hf:Fresh w2 v v'):Fresh w v v':=by
 rcases hf with hf| ⟨g,hf,hgs⟩
 ·exact .inl hf
 ·exact .inr ⟨g,hf,Nat.le_trans hs hgs⟩
def kidW(b:Wd.Box)(n:Nat)(c:Wd.NT n):List Wd.Pt:=if Wd.meets b (Wd.boxN n c) then Wd.withinN b n c else []
theorem kidW_len(b:Wd.Box)(n:Nat):∀(K:List (Wd.NT n)) (i:Nat) (h:i<K.length),((K.take i).flatMap (kidW b n)).length+(Wd.allN n K[i]).length<=(K.flatMap (Wd.allN n)).length
 |c::K,0,_=>by rw[List.flatMap_cons,List.length_append];show 0+(Wd.allN n c).length<=_;omega
 |c::K,i+1,h=>by
  have ih:=kidW_len b n K i (by simpa using h);rw[List.flatMap_cons,List.length_append,List.take_succ_cons,List.flatMap_cons,List.length_append];have h1:(kidW b n c).length<=(Wd.allN n c).length:=by
   unfold kidW;split
   ·exact Wd.within_le b n c
   ·exact Nat.zero_le _
  rw[List.getElem_cons_succ];omega
def BoxPt(w:World)(g k:Nat)(b:Wd.Box)(q:Wd.Pt):Prop:=
 (w.cell? ⟨g,0,none⟩=some (I b.a)/\w.cell? ⟨g,1,none⟩=some (I b.b)/\w.cell? ⟨g,2,none⟩=some (I b.c)/\w.cell? ⟨g,3,none⟩=some (I b.d))/\
 w.cell? ⟨k,0,none⟩=some (I q.id)/\w.cell? ⟨k,1,none⟩=some (I q.x)/\w.cell? ⟨k,2,none⟩=some (I q.y)
theorem BoxPt.below{w w':World}{g k:Nat}{b:Wd.Box}{q:Wd.Pt}{B:Nat}(h:BoxPt w g k b q)(hb:Below B w w')(hg:g<B)(hk:k<B):BoxPt w' g k b q:=⟨⟨(hb.cell (p:=⟨g,0,none⟩) hg).trans h.1.1,(hb.cell (p:=⟨g,1,none⟩) hg).trans h.1.2.1,(hb.cell (p:=⟨g,2,none⟩) hg).trans h.1.2.2.1,(hb.cell (p:=⟨g,3,none⟩) hg).trans h.1.2.2.2⟩,(hb.cell (p:=⟨k,0,none⟩) hk).trans h.2.1,(hb.cell (p:=⟨k,1,none⟩) hk).trans h.2.2.1,(hb.cell (p:=⟨k,2,none⟩) hk).trans h.2.2.2⟩
theorem BoxPt.drew{w:World}{g k:Nat}{b:Wd.Box}{q:Wd.Pt}(h:BoxPt w g k b q):BoxPt w.drew g k b q:=by simpa[BoxPt] using h
theorem row4{w:World}{g t:Nat}{a b c d:Value}(h:w.heap[g]? =some (.cells #[a,b,c,d] t (0,0))):w.cell? ⟨g,0,none⟩=some a/\w.cell? ⟨g,1,none⟩=some b/\w.cell? ⟨g,2,none⟩=some c/\w.cell? ⟨g,3,none⟩=some d:=by refine⟨?_,?_,?_,?_⟩<;>rw[gC h]<;>rfl
theorem filter_step(P:Wd.Pt->Bool)(L:List Wd.Pt)(i:Nat)(h:i<L.length):(L.take (i+1)).filter P=(L.take i).filter P++(if P L[i] then [L[i]] else []):=by rw[List.take_succ_eq_append_getElem h,List.filter_append];congr 1;cases hp:P L[i]<;>simp[hp]
theorem appendWithin_any:∀(n:Nat) (t:Wd.NT n) (v:Value) (l:List Wd.Pt) (V:List Value) (b:Wd.Box) (w:World) (B:Nat) (S:Nat->Prop) (_:∀g,S g->g<B) (_:B<=w.heap.size) (_:l.length+(Wd.allN n t).length<=1000) (_:Wd.Few n t) (_:NodeIs w S n t V) (_:Own w B v l),
  Calls Tryz.prog 76 #[v,.agg V.toArray,Bx b] w fun e w'=>PutP w B v l (Wd.withinN b n t) e w':=by
 intro n;induction n with
 |zero=>intro t;exact nomatch t
 |succ n ih=>
  intro t v l V b w B S hS hB hlen hfew hN hown;have HFEW:=gH hfew;clear hfew;have IH:=gH ih;clear ih;obtain⟨a1,l1,c1,a2,l2,c2,hV,hd⟩:=hN.cells;have HR:=gS (Row39 V) (by rw[hV];exact gU hd);obtain⟨vp,vc,hVe, -,⟨ap,cp,rfl,hpts⟩,⟨ac,cc,rfl,hkids⟩⟩:=hN;have HVE:=gH hVe;have HPT:=gH hpts;have HKD:=gH hkids;have HO:=gH hown;have HS:=gH hS;have HLEN:=gH hlen;have HVB:=gH (fun g (hg:v.ownBlock=some g)=>And.intro (hown.ge hg) (hown.lt hg));obtain⟨fs,hu⟩:=underNode;have HU:=gH hu;clear hu hV hd hVe hpts hkids hown hS hlen;have hb2:=fun o o'=>(gB w o).alloc (by simp) o';have hr2:=heap_alloc2_new w;have hr1:=heap_alloc2_old w;have hs2:=fun o o'=>show((w.alloc o).alloc o').heap.size=w.heap.size+2 by simp
  go_enter Tryz.func76,Tryz.ntmps76
  go_upto_region 1 with fail
  generalize hW:World.alloc (World.alloc w _) _=w1;have hb1:Below w.heap.size w w1:=by rw[<-hW];exact hb2 _ _
  have hn1:w1.heap[w.heap.size]? =some (.cells V.toArray 90 (0,0)):=by rw[<-hW];exact hr1 _ _
  have hx1:w1.heap[w.heap.size+1]? =some (.cells #[I b.a,I b.b,I b.c,I b.d] 88 (0,0)):=by rw[<-hW];exact hr2 _ _
  have hs1:w1.heap.size=w.heap.size+2:=by rw[<-hW];exact hs2 _ _
  clear hb2 hr1 hr2 hs2 hW;have HB1:=gH hb1;have HX1:=gH hx1;have HS1:=gH hs1;have HN1:=gS (w1.heap[w.heap.size]? =some (.cells (nodeV (.slice ap (Wd.Nd.pts t).length cp) (.slice ac (Wd.Nd.kids t).length cc) (Wd.Nd.box t) (Wd.Nd.n t) ((Wd.Nd.dig t).map Y)).toArray 90 (0,0))) (by rw[hn1,HVE.out]);obtain⟨⟨k0,k1⟩, -, -⟩:=gT HN1.out;clear hb1 hn1 hx1 hs1;go_wp2_with fail
  go_loopg [0,14] (Wd.Nd.pts t).length (fun gk v0 v14 wq=>∃i:Nat,gk=(Wd.Nd.pts t).length-i/\v14=I i/\i<=(Wd.Nd.pts t).length/\Own wq B v0 (l++((Wd.Nd.pts t).take i).filter (Wd.inB b))/\w1.grownBy wq v.ownBlock/\Fresh w1 v v0)
  case atStart=>exact⟨0,by omega,rfl,by omega,by simpa using HO.out.below HB1.out,oQ (Below.refl _ _),.inl rfl⟩
  case round=>
   obtain⟨i,hgk,rfl,hi,ho,hgr,hf⟩:=hrel;have HGK:=gH hgk;have HG:=gH hgr;have HF:=gH hf;have HOI:=gH ho;have hsz:=hgr.size;clear hgk hgr hf ho;have hbx:=(HG.out.block (w.heap.size+1) (by have:=HS1.out;omega) (fun e=>by have:=(HVB.out _ e.symm).2;omega)).trans HX1.out;have HBX:=gH hbx;have hnd:=(HG.out.block w.heap.size (by have:=HS1.out;omega) (fun e=>by have:=(HVB.out _ e.symm).2;omega)).trans HN1.out;have HND:=gH hnd;have HSZ:=gS (w.heap.size+2<=wr.heap.size) (by have:=HS1.out;omega);clear hbx hnd;by_cases hlt:i< (Wd.Nd.pts t).length
   ·obtain⟨g,o,rfl,hgS,hpts⟩:=HPT.out (fun e=>by rw[e] at hlt;simp at hlt);have hgB:=HS.out g hgS;have hpi:=((hpts i hlt).below HB1.out (by omega)).block (w':=wr) (HG.out.block g (by have:=HS1.out;omega) (fun e=>by have:=(HVB.out _ e.symm).1;omega));have HT:=gH (filter_step (Wd.inB b) (Wd.Nd.pts t) i hlt);have hNl:(((Wd.Nd.pts t).take i).filter (Wd.inB b)).length<=(Wd.Nd.pts t).length:=Nat.le_trans (List.length_filter_le _ _) (by rw[List.length_take];omega);have hpl:(Wd.Nd.pts t).length<=(Wd.allN (n+1) t).length:=by
     show _<=(Wd.Nd.pts t++_).length;rw[List.length_append];omega
    have HL:=gS ((l++((Wd.Nd.pts t).take i).filter (Wd.inB b)).length<=1000) (by rw[List.length_append];have:=HLEN.out;omega);(have hp1000:(Wd.Nd.pts t).length<=1000:=by have:=HLEN.out;omega);clear hpts hNl hpl;generalize (Wd.Nd.pts t)[i]=q at*;generalize ((Wd.Nd.pts t).take i).filter (Wd.inB b)=N at*;obtain⟨p1,p2,p3⟩:=hpi;(go_upto_region 4 with fail);have hb5':=gB wr;have hr5':=heap_alloc_new wr;(have hs5':=fun o=>show(wr.alloc o).heap.size=wr.heap.size+1 by simp);generalize hW:World.alloc wr _=w5;(have hb5:Below wr.heap.size wr w5:=by rw[<-hW];exact hb5' _);(have hr5:w5.heap[wr.heap.size]? =some (.cells #[I q.id,I q.x,I q.y] 36 (0,0)):=by rw[<-hW];exact hr5' _);(have hs5:w5.heap.size=wr.heap.size+1:=by rw[<-hW];exact hs5' _);clear hb5' hr5' hs5' hW;have H7:=gS (BoxPt w5 (w.heap.size+1) wr.heap.size b q) (⟨row4 ((hb5.block (w.heap.size+1) (by have:=HSZ.out;omega)).trans HBX.out),row3 hr5⟩);have HB5:=gH hb5;have HR5:=gH hr5;have hws:=HSZ.out;obtain⟨⟨a1,a2,a3,a4⟩,a5,a6,a7⟩:=H7.out;clear hb5 hr5 p1 p2 p3;have HMT:=gH (fun W=>meets_any b (Wd.boxOf q) W);have HRW:=gS (Wd.inB b q=Wd.meets b (Wd.boxOf q)) rfl;generalize Wd.meets b (Wd.boxOf q)=r at*;go_region_with (first| (go_at_call 79;go_must (refine(GL q w5.drew).mono ?_;rintro _ w6⟨rfl,hb6⟩;have hs6:=hb6.size;have H76:=gH (H7.out.drew.below hb6 (by simp;omega) (by simp;omega));obtain⟨⟨k1,k2,k3,k4⟩,k5,k6,k7⟩:=H76.out;have HB6:=gH hb6;clear hb6))| (go_at_call 78;go_must (refine(HMT.out w6).mono ?_;rintro _ w7⟨rfl,hb7⟩;have hs7:=hb7.size;have H77:=gH (H76.out.below hb7 (by simp at hs6;omega) (by simp at hs6;omega));obtain⟨⟨m1,m2,m3,m4⟩,m5,m6,m7⟩:=H77.out;have HB7:=gH hb7;clear hb7)))
    all_goals
     (have hd:w5.drew.heap.size=w5.heap.size:=by simp);rw[hd] at hs6;have HBA:=gS (Below wr.heap.size wr w7) (((HB5.out.drew.trans (HB6.out.mono (by omega))).trans (HB7.out.mono (by omega))));clear H7 H76 a1 a2 a3 a4 a5 a6 a7 k1 k2 k3 k4 k5 k6 k7 hd;cases r with
     |false=>
      (go_wp2_with fail);go_roundg ((Wd.Nd.pts t).length-(i+1))
      case measure=>have:=HGK.out;omega
      case rel=>
       refine⟨i+1,rfl,by go_num,hlt,?_,?_,HF.out⟩
       ·rw[HT.out,HRW.out,if_neg (by simp),List.append_nil];exact HOI.out.below HBA.out
       ·exact gz HG.out HF.out (oQ HBA.out)
     |true=>
      obtain⟨v8,w8,h8,ho8,hg8,hf8⟩:=oW q (HOI.out.below HBA.out) (by omega) (by have:=HL.out;omega);obtain⟨au,cu,eu⟩:=HOI.out.slice;subst eu;have HO8:=gH ho8;have HG8:=gH hg8;have HF8:=gH hf8;clear ho8 hg8 hf8;(go_wp2_with (at_builtin;refine Lib.wpList_append_run _ rfl (.tmp 22) (.tmp 24) 27 27 rfl _ _ rfl rfl _ _ h8 ?_));go_roundg ((Wd.Nd.pts t).length-(i+1))
      case measure=>have:=HGK.out;omega
      case rel=>refine⟨i+1,rfl,by go_num,hlt,?_,gz HG.out HF.out (oT HBA.out HG8.out),oD HF.out HG.out.size (oU HBA.out.size HF8.out)⟩;rw[HT.out,HRW.out,if_pos rfl,<-List.append_assoc];exact HO8.out
   ·(have ei:i=(Wd.Nd.pts t).length:=by omega);subst ei;rw[List.take_length] at HOI;obtain⟨⟨k0',k1'⟩, -, -⟩:=gT HND.out;have HFN:=gS (l++Wd.withinN b (n+1) t=(l++(Wd.Nd.pts t).filter (Wd.inB b))++(Wd.Nd.kids t).flatMap (kidW b n)) (by rw[List.append_assoc];rfl);have HNL:=gS ((l++(Wd.Nd.pts t).filter (Wd.inB b)).length+((Wd.Nd.kids t).flatMap (Wd.allN n)).length<=1000) (by
     (have h1:=HLEN.out;have h2:=List.length_filter_le (Wd.inB b) (Wd.Nd.pts t);have h3:(Wd.allN (n+1) t).length=(Wd.Nd.pts t).length+((Wd.Nd.kids t).flatMap (Wd.allN n)).length:=by show(Wd.Nd.pts t++_).length=_;rw[List.length_append]);rw[List.length_append];omega)
    generalize l++(Wd.Nd.pts t).filter (Wd.inB b)=M at*;have HSM:=gS (Same S w wr) (fun g hg=>((grown_same HG.out (HO.out.below HB1.out) HS.out (by have:=HS1.out;omega)) g hg).trans (HB1.out.block g (by have:=HS.out g hg;omega)));clear HN1 HX1 HPT HR HVE hsz hi hlt;obtain⟨wx,hwx⟩:∃wx,wx=wr:=⟨_,rfl⟩;subst hwx;obtain⟨vx,hvx⟩:∃vx,vx=u0:=⟨_,rfl⟩;subst hvx;(go_wp2_with fail);go_loopg [0,30] (Wd.Nd.kids t).length (fun gk v0 v30 wq=>∃i:Nat,gk=(Wd.Nd.kids t).length-i/\v30=I i/\i<=(Wd.Nd.kids t).length/\Own wq B v0 (M++((Wd.Nd.kids t).take i).flatMap (kidW b n))/\wx.grownBy wq vx.ownBlock/\Fresh wx vx v0)
    case atStart=>exact⟨0,by omega,rfl,by omega,by simpa using HOI.out,oQ (Below.refl _ _),.inl rfl⟩
    case round=>
     clear HGK;obtain⟨i,hgk,rfl,hi,ho2,hgr2,hf2⟩:=hrel;have HGK:=gH hgk;have HG2:=gH hgr2;have HF2:=gH hf2;have HO2:=gH ho2;have hxb:=hgr2.size;have HVX:=gH (fun g (hg:vx.ownBlock=some g)=>And.intro (HOI.out.ge hg) (HOI.out.lt hg));have HNV:=gS (∀g,vx.ownBlock=some g->g≠w.heap.size/\g≠w.heap.size+1) (fun g hg=>by
      rcases HF.out with h| ⟨g',h,hg'⟩
      ·have:=(HVB.out g (by rw[<-h];exact hg)).2;omega
      ·rw[hg] at h;injection h with h;have:=HS1.out;omega)
     have hbx:=(HG2.out.block (w.heap.size+1) (by have:=HSZ.out;omega) (fun e=>(HNV.out _ e.symm).2 rfl)).trans HBX.out;have HBX2:=gH hbx;have HSM2:=gS (Same S w wr) (fun g hg=>(HG2.out.block g (by have:=HS.out g hg;have:=HSZ.out;omega) (fun e=>by have:=(HVX.out _ e.symm).1;have:=HS.out g hg;omega)).trans (HSM.out g hg));clear hgk hgr2 hf2 ho2 hbx;by_cases hlt:i< (Wd.Nd.kids t).length
     ·obtain⟨g,o,rfl,hgS,hrows⟩:=HKD.out (fun e=>by rw[e] at hlt;simp at hlt);obtain⟨U,hU,hc⟩:=hrows i hlt;have HU2:=gH (NodeIs.keep HSM2.out (fun _ h=>h) n _ U hU);have HC:=gH (oB hc (HSM2.out g hgS));have HT:=gH (GH (kidW b n) (Wd.Nd.kids t) i hlt);have hml:(((Wd.Nd.kids t).take i).flatMap (kidW b n)).length+(Wd.allN n (Wd.Nd.kids t)[i]).length<=((Wd.Nd.kids t).flatMap (Wd.allN n)).length:=kidW_len b n _ i hlt;have HL:=gS ((M++((Wd.Nd.kids t).take i).flatMap (kidW b n)).length+(Wd.allN n (Wd.Nd.kids t)[i]).length<=1000) (by rw[List.length_append];have:=HNL.out;omega);have hk1000:(Wd.Nd.kids t).length<=4:=HFEW.out.2.1;have HFC:=gH (HFEW.out.2.2 _ (List.getElem_mem hlt));obtain⟨d1,m1,e1,d2,m2,e2,hV,hd⟩:=HU2.out.cells;have HR:=gS (Row39 U) (by rw[hV];exact gU hd);have HVE:=gH hV;clear hV hd hc hU hrows hml;generalize (Wd.Nd.kids t)[i]=c at*;(go_upto_region 10 with(first| (refine wpList_load_mid rfl 90 (.tmp 32) rfl g (o+i*39) rfl U (.struct fs) HC.out HU.out rfl HR.out.infl ?_)| (refine wpList_store_row rfl 90 (.tmp 10) (.tmp 33) rfl wr.heap.size U.toArray rfl rfl 90 _ (heap_alloc_new wr _) HR.out.info (by rw[HR.out.size];rfl) HR.out.one ?_;rw[World.setRow_alloc_new])));have hb5':=gB wr;have hr5':=heap_alloc_new wr;(have hs5':=fun o=>show(wr.alloc o).heap.size=wr.heap.size+1 by simp);generalize hW:World.alloc wr _=w5;(have hb5:Below wr.heap.size wr w5:=by rw[<-hW];exact hb5' _);(have hr5:w5.heap[wr.heap.size]? =some (.cells U.toArray 90 (0,0)):=by rw[<-hW];exact hr5' _);(have hs5:w5.heap.size=wr.heap.size+1:=by rw[<-hW];exact hs5' _);clear hb5' hr5' hs5' hW;have HB5:=gH hb5;have HR5:=gH hr5;have hxx:=HSZ.out;obtain⟨a1,a2,a3,a4⟩:=row4 ((hb5.block (w.heap.size+1) (by omega)).trans HBX2.out);rw[HVE.out] at hr5;obtain⟨-,⟨f1,f2,f3,f4⟩, -⟩:=gT hr5;have HMT:=gH (fun W=>meets_any b (Wd.boxN n c) W);have HRW:=gS (kidW b n c=if Wd.meets b (Wd.boxN n c) then Wd.withinN b n c else []) rfl;clear hb5 hr5;generalize Wd.meets b (Wd.boxN n c)=r at*;generalize Wd.boxN n c=bc at*;(go_wp2_with fail);refine(HMT.out _).mono ?_;rintro _ w6⟨rfl,hb6⟩;have hs6:=hb6.size;have HB6:=gH hb6;have HBA:=gS (Below wr.heap.size wr w6) (HB5.out.trans (hb6.mono (by omega)));obtain⟨q1,q2,q3,q4⟩:=row4 ((HBA.out.block (w.heap.size+1) (by omega)).trans HBX2.out);have HR6:=gH ((hb6.block wr.heap.size (by omega)).trans HR5.out);clear hb6 a1 a2 a3 a4 f1 f2 f3 f4 HR5;cases r with
      |false=>
       (go_wp2_with fail);go_roundg ((Wd.Nd.kids t).length-(i+1))
       case measure=>have:=HGK.out;omega
       case rel=>refine⟨i+1,rfl,by go_num,hlt,?_,gz HG2.out HF2.out (oQ HBA.out),HF2.out⟩;rw[HT.out,HRW.out,if_neg (by simp),List.append_nil];exact HO2.out.below HBA.out
      |true=>
       have HIH:=gH (IH.out c u0 (M++((Wd.Nd.kids t).take i).flatMap (kidW b n)) U b w6 B S HS.out (by omega) HL.out HFC.out (NodeIs.keep (gD HBA.out (fun g hg=>by have:=HS.out g hg;omega)) (fun _ h=>h) n _ U HU2.out) (HO2.out.below HBA.out));generalize ((Wd.Nd.kids t).take i).flatMap (kidW b n)=N at*;(go_wp2_with (refine wpList_load_row rfl 90 (.tmp 10) rfl wr.heap.size rfl 90 U.toArray (0,0) (.struct fs) HR6.out HU.out rfl HR.out.info ?_));refine HIH.out.mono ?_;rintro _ w7⟨v7,rfl,ho7,hg7,hf7⟩;have HO7:=gH ho7;have HG7:=gH hg7;have HF7:=gH hf7;clear ho7 hg7 hf7;(go_wp2_with fail);go_roundg ((Wd.Nd.kids t).length-(i+1))
       case measure=>have:=HGK.out;omega
       case rel=>refine⟨i+1,rfl,by go_num,hlt,?_,gz HG2.out HF2.out (oT HBA.out HG7.out),oD HF2.out HG2.out.size (oU HBA.out.size HF7.out)⟩;rw[HT.out,HRW.out,if_pos trivial,<-List.append_assoc];exact HO7.out
     ·(have ei:i=(Wd.Nd.kids t).length:=by omega);subst ei;rw[List.take_length,<-HFN.out] at HO2;go_wp2;go_ret;refine⟨_,rfl,HO2.out,oT HB1.out (gz HG.out HF.out HG2.out),oU HB1.out.size (oD HF.out HG.out.size HF2.out)⟩
def loadVal(w:World):Value->Value
 | .pointer (some ⟨g,0,none⟩)=>match w.heap[g]? with|some (.cells cs _ _)=> .agg cs|_=>undef
 |_=>undef
def NodeRow(w:World)(v:Value):Prop:=∃g cs t fr,v=.pointer (some ⟨g,0,none⟩)/\w.heap[g]? =some (.cells cs t fr)/\cs.size=39
theorem gt{w:World}{g t:Nat}{cs:Array Value}{fr:Nat×Nat}(h:w.heap[g]? =some (.cells cs t fr)):loadVal w (.pointer (some ⟨g,0,none⟩))=.agg cs:=by show(match w.heap[g]? with|some (.cells cs _ _)=>Value.agg cs|_=>undef)=_;rw[h]
theorem oK{w:World}{g t:Nat}{cs:Array Value}{fr:Nat×Nat}(h:w.heap[g]? =some (.cells cs t fr))(hs:cs.size=39):NodeRow w (.pointer (some ⟨g,0,none⟩)):=⟨g,cs,t,fr,rfl,h,hs⟩
theorem GN{d:Option Tmp}{x:Operand}{tt:TypeId}{ps:String}{af:Array Edge}{a:Act}{w:World}{K:Act->World->Prop}{Q:Exit->Act->World->Prop}(h:NodeRow w (a.eval x)):
  Oper.wp Tryz.prog {dst:=d,op:=.load 90 x,type:=tt,pos:=ps,after:=af,guard:=none} a w K Q=K (a.put d (loadVal w (a.eval x))) w:=by
 obtain⟨g,cs,t,fr,hv,hg,hs⟩:=h;obtain⟨fs,hu⟩:=underNode;have hr:=run_loadVar_row (P:=Tryz.prog) w g t 90 cs fr (.struct fs) hg hu rfl (by rw[hs];exact Tryz.infoNode);rw[hv,gt hg];unfold Oper.wp execOp;simp only[hv,Instr.loadAt,Instr.sureAddr,Sem.run_bind,Sem.run_pure,Result.andThen_ok,hr];rfl
theorem gap_le{lo hi x:Int}(h1: -1000000<=lo)(h2:lo<=1000000)(h3: -1000000<=hi)(h4:hi<=1000000)(h5: -1000000<=x)(h6:x<=1000000):Wd.gap lo hi x<=2000000:=by unfold Wd.gap;omega
theorem sq_le{u:Int}(h0:0<=u)(h1:u<=2000000):0<=u*u/\u*u<=4000000000000:=⟨Int.mul_nonneg h0 h0,Int.le_trans (Int.mul_le_mul h1 h1 h0 (by decide)) (by decide)⟩
theorem gap_if(lo hi x:Int):(if (if lo-x<0 then 0 else lo-x)<x-hi then x-hi else if lo-x<0 then 0 else lo-x)=Wd.gap lo hi x:=by
 unfold Wd.gap
 (repeat' split)<;>omega
theorem zU(b:Wd.Box)(x y:Int)(w:World)(hb:b.In)(hx: -1000000<=x/\x<=1000000)(hy: -1000000<=y/\y<=1000000):
  Calls Tryz.prog 80 #[Bx b,I x,I y] w fun e w'=>e=.returned (I (Wd.dist b x y))/\Below w.heap.size w w':=by
 obtain⟨a1,a2,b1,b2,c1,c2,d1,d2⟩:=hb;obtain⟨x1,x2⟩:=hx;obtain⟨y1,y2⟩:=hy;have HD:=gS (Wd.dist b x y=Wd.gap b.a b.c x*Wd.gap b.a b.c x+Wd.gap b.b b.d y*Wd.gap b.b b.d y) rfl;have HGX:=gH (gap_if b.a b.c x);have HGY:=gH (gap_if b.b b.d y);have u0:=Wd.oN b.a b.c x;have u1:=gap_le a1 a2 c1 c2 x1 x2;have v0:=Wd.oN b.b b.d y;have v1:=gap_le b1 b2 d1 d2 y1 y2;obtain⟨s0,s1⟩:=sq_le u0 u1;obtain⟨t0,t1⟩:=sq_le v0 v1;obtain⟨ba,bb,bc,bd⟩:=b;simp only at*;go_enter Tryz.func80,Tryz.ntmps80
 go_upto_region 3 with fail
 rw[HGX.out,HGY.out];generalize Wd.gap ba bc x=u at*;generalize Wd.gap bb bd y=v at*;go_wp2;go_ret;exact⟨by rw[HD.out];rfl,gB w _⟩
theorem must_window{q:Wd.Qr}(h:q.kind=0)(a:List Wd.Pt)(b:Wd.Box):Wd.must q a b=Wd.meets (Wd.window q) b:=by unfold Wd.must;rw[if_pos h]
def QryBox(w:World)(g k:Nat)(q:Wd.Qr)(b:Wd.Box):Prop:=w.heap[g]? =some (.cells #[I q.kind,I q.a,I q.b,I q.c,I q.d,I q.x,I q.y,I q.k] 46 (0,0))/\w.heap[k]? =some (.cells #[I b.a,I b.b,I b.c,I b.d] 88 (0,0))
theorem QryBox.below{w w':World}{g k B:Nat}{q:Wd.Qr}{b:Wd.Box}(h:QryBox w g k q b)(hb:Below B w w')(hg:g<B)(hk:k<B):QryBox w' g k q b:=⟨(hb.block g hg).trans h.1,(hb.block k hk).trans h.2⟩
theorem rowQ8{w:World}{g t:Nat}{a b c d e f h i:Value}(hr:w.heap[g]? =some (.cells #[a,b,c,d,e,f,h,i] t (0,0))):w.cell? ⟨g,0,none⟩=some a/\w.cell? ⟨g,1,none⟩=some b/\w.cell? ⟨g,2,none⟩=some c/\w.cell? ⟨g,3,none⟩=some d/\w.cell? ⟨g,4,none⟩=some e/\w.cell? ⟨g,5,none⟩=some f/\w.cell? ⟨g,6,none⟩=some h/\w.cell? ⟨g,7,none⟩=some i:=by refine⟨?_,?_,?_,?_,?_,?_,?_,?_⟩<;>rw[gC hr]<;>rfl
theorem Gk(q:Wd.Qr)(v:Value)(b:Wd.Box)(w:World)(hk:q.kind=0):
  Calls Tryz.prog 42 #[Qv q,v,Bx b] w fun e w'=>e=.returned (.bool (Wd.meets (Wd.window q) b))/\Below w.heap.size w w':=by
 have HWI:=gH (fun W=>GO q W);generalize Wd.window q=wq at*;have HMT:=gH (fun W=>meets_any wq b W);generalize Wd.meets wq b=r at*;obtain⟨qk,qa,qb,qc,qd,qx,qy,qn⟩:=q;simp only at hk;subst hk;have hb2:=fun o o'=>(gB w o).alloc (by simp) o';have hr2:=heap_alloc2_new w;have hr1:=heap_alloc2_old w;have hs2:=fun o o'=>show((w.alloc o).alloc o').heap.size=w.heap.size+2 by simp
 go_enter Tryz.func42,Tryz.ntmps42
 go_upto_region 2 with fail
 generalize hW:World.alloc (World.alloc w _) _=w1;have hb1:Below w.heap.size w w1:=by rw[<-hW];exact hb2 _ _
 have h1:QryBox w1 w.heap.size (w.heap.size+1) ⟨0,qa,qb,qc,qd,qx,qy,qn⟩ b:=by rw[<-hW];exact⟨hr1 _ _,hr2 _ _⟩
 have hs1:w.heap.size+2<=w1.heap.size:=by rw[<-hW,hs2];exact Nat.le_refl _
 clear hb2 hr1 hr2 hs2 hW;have HB1:=gH hb1;have H1:=gH h1;obtain⟨k0,k1,k2,k3,k4,k5,k6,k7⟩:=rowQ8 h1.1;obtain⟨c1,c2,c3,c4⟩:=row4 h1.2;clear hb1 h1;go_region_with (first| (go_at_call 73;go_must (refine(HWI.out w1.drew).mono ?_;rintro _ w6⟨rfl,hb6⟩;have hs6:=hb6.size;have H6:=gH (QryBox.below (w:=w1.drew) H1.out hb6 (by simp;omega) (by simp;omega));obtain⟨e1,e2,e3,e4⟩:=row4 H6.out.2;have HB6:=gH hb6;clear hb6))| (go_at_call 78;go_must (refine(HMT.out w6).mono ?_;rintro _ w7⟨rfl,hb7⟩;have HB7:=gH hb7;have hs7:=hb7.size;clear hb7)))
 all_goals
  go_wp2;go_ret;have hd:w1.drew.heap.size=w1.heap.size:=by simp
  rw[hd] at hs6;exact⟨rfl,(HB1.out.drew.trans (HB6.out.mono (by simp;omega))).trans (HB7.out.mono (by omega))⟩
end Go.Proofs.YtenaelkbgkpllaaGreatDoor
