/- Part 23 of what the four laws rest on: laid by a program out of the texts of wip/T. -/
import Derived.Test.YtenaelkbgkpllaaGreatDoorLaw22
set_option maxRecDepth 100000
set_option maxHeartbeats 8000000
namespace Go.Proofs.YtenaelkbgkpllaaGreatDoor
open Go.RowKit
theorem zV(tt:List UInt8)(DV:List Value)(W:World)(h:tt.length<=140737488351232)(hDV:(Sha.sha tt).map Y=DV):
  Calls Tryz.prog 97 #[.agg constV.toArray,Sv tt] W fun e w'=>e=.returned (.agg DV.toArray)/\Below W.heap.size W w':=
 digest_ref constV.toArray ⟨tt.toArray⟩ DV W (by rw[show(⟨tt.toArray⟩:ByteArray).data.toList=tt from rfl];exact hDV) (by show tt.toArray.size<=_;rw[List.size_toArray];exact h) (by rw[List.size_toArray];exact oE) constV_at (fun j v hv=>by rw[List.getElem?_toArray];unfold constV;rw[List.map_append,List.getElem?_append_left (by have:=(List.getElem?_eq_some_iff.1 hv).1;exact this)];exact hv)
theorem AllAt.root{w:World}{B:Nat}{v v3:Value}{K:List Wd.Pt}{n:Nat}{t:Wd.T n}(h:AllAt w B v v3 K n)(ht:Wd.lev K n=[t]):
  ∃ga ca g3 c3 x,v=.slice (some ⟨ga,0,none⟩) (n+1) ca/\B<=ga/\ga<w.heap.size/\n+1<=ca/\w.cell? ⟨ga,n,none⟩=some (.slice (some ⟨g3,0,none⟩) 1 c3)/\1<=c3/\B<=g3/\g3<w.heap.size/\w.rangeAt g3 0 (partL n t 0 x):=by
 have hl:(Wd.lev K n).length=1:=by rw[ht];rfl
 obtain⟨g3,c3,x,e3,hB3,hg3,hc3,_,hr⟩:=h.now.at 0 (by rw[hl];decide);obtain⟨vs,h1,h2,h3,h4⟩:=h;rw[hl] at e3 hc3;rcases h3.2 with⟨_,h0⟩| ⟨ga,ca,cur,e,hb,hg,hcap,_⟩
 ·omega
 subst e;refine⟨ga,ca,g3,c3,x,rfl,hb,(gL hg),hcap,?_,hc3,hB3,hg3,?_⟩
 ·have hc:=h3.cells (g:=ga) rfl n (vs n) (by rw[List.getElem?_map,List.getElem?_range (by omega)];rfl);rw[Addr.add_lit,Nat.zero_add,h2,e3] at hc;exact hc
 ·have e0:(Wd.lev K n)[0]'(by rw[hl];decide)=t:=by simp only[ht,List.getElem_cons_zero]
  rw[e0,Nat.zero_mul] at hr;exact hr
theorem yields_built{P:Program}{ops:Array Oper}{S:World->Prop}{op:Oper}{a:Act}(hw:Region.wanted op (yielded ops a.tmps)=true)(t:TypeId)(parts:Array (Nat×Operand))(ho:op.op=.build t parts)
  (cells:Array Value) (l:List (Nat×Value)) (hl:parts.toList.map (fun(i,x)=>(i,a.eval x))=l) (hb:P.built t l=some cells):YieldsIf P ops S op (.agg cells) a:=
 .inl ⟨hw,fun w _=>by unfold execOp;simp only[ho,Sem.run_bind,run_build w t _ cells (by rw[Array.toList_map,hl];exact hb),Result.andThen_ok,Sem.run_pure]⟩
theorem rootText_of{K:List Wd.Pt}{n:Nat}{t:Wd.T n}(h:Wd.tree K=⟨n,t⟩):Wd.rootText Sha.sha K=Wd.text Sha.sha n t:=by unfold Wd.rootText;rw[h]
theorem zg(r:Nat)(u:Value)(K:List Wd.Pt)(w:World)(hm:RMap w r u K)(hG:Good K):
  Calls Tryz.prog 60 #[.pointer (some ⟨r,0,none⟩)] w fun e w'=>e=.returned (.agg (commitV K).toArray)/\Below w.heap.size w w':=by
 have hrlt:=hm.lt;have HM:=gH hm;have HG:=gH hG;have hr0':=heap_alloc_new w;have hb0':=gB w;have HCO:=gH (com_of K);have HBC:=gS (Tryz.prog.built 41 [(0,.agg ((Sha.sha (Wd.rootText Sha.sha K)).map Y).toArray),(1,I (K.length:Nat))]=some (commitV K).toArray) (built_commit ((Sha.sha (Wd.rootText Sha.sha K)).map Y) (by rw[List.length_map];rfl) (K.length:Nat));clear hm;go_enter Tryz.func60,Tryz.ntmps60
 go_upto_region 1 with fail
 generalize hW:World.alloc w _=w0;have hb0:Below w.heap.size w w0:=by rw[<-hW];exact hb0' _
 have hr0:w0.heap[w.heap.size]? =some (.cells (List.replicate 32 (Value.int .u8 0)++[I 0]).toArray 41 (0,0)):=by rw[<-hW];exact hr0' _
 clear hb0' hr0' hW;have HR0:=gH hr0;have HB0:=gH hb0;have hs0:w.heap.size<w0.heap.size:=(gL hr0);have HLV:=gH (levels_ref r u K w0 (HM.out.below hb0) hG);clear hr0 hb0;go_wp2_with fail
 refine HLV.out.mono ?_;rintro _ w1⟨v,v3,n,rfl,hall,⟨t,ht,htr⟩,hb1⟩;obtain⟨ga,ca,g3,c3,x,rfl,hga0,hga,hca,hcell,hc3,hg30,hg3,hrow⟩:=hall.root ht;have hc5:=(PtCells.of hrow).c5;rw[Nat.zero_add] at hc5;rw[<-rootText_of htr] at hc5;have hsmall:(Wd.rootText Sha.sha K).length<=210:=by rw[rootText_of htr];exact Wd.text_small (dig:=Sha.sha) (fun _=>rfl) n t (Wd.lev_small HG.out.ok n t (by rw[ht];exact List.mem_singleton.2 rfl))
 have hn9:n<=3:=by have h9:=Wd.GP (l:=K) (by have:=HG.out.many;omega);rw[htr] at h9;exact h9
 obtain⟨tt,htt⟩:∃tt,Wd.rootText Sha.sha K=tt:=⟨_,rfl⟩;rw[htt] at hc5 hsmall HBC;obtain⟨DV,hDV⟩:∃DV,(Sha.sha tt).map Y=DV:=⟨_,rfl⟩;have HDL:=gS (DV.length=32) (by rw[<-hDV,List.length_map];rfl);have HDG:=gH (fun W=>zV tt DV W (by omega) hDV);have HDY:=gS (DV=(Sha.sha tt).map Y) hDV.symm;rw[hDV] at HBC;have HM1:=gS (RMap w1 r u K) ((HM.out.below HB0.out).below hb1);have hRC:w1.rangeAt r 1 constV:=fun k v hv=>by rw[gC HM1.out.row,List.getElem?_toArray,Nat.add_comm 1 k,List.getElem?_cons_succ];exact hv
 have HR1:=gH ((hb1.block w.heap.size hs0).trans HR0.out);have HB1:=gH (HB0.out.trans (hb1.mono (Nat.le_of_lt hs0)));have hs1:w0.heap.size<=w1.heap.size:=hb1.size;have hrl1:r<w1.heap.size:=by omega
 have hnl:=HG.out.many;obtain⟨au,cu,hu⟩:=HM1.out.own.slice;clear hDV hall ht htr hb1 htt hrow HLV HR0;have hn0:(0:Int)<=(n:Int):=by omega
 have hn1:((n:Int)+1)-1=(n:Int):=by omega
 have hn2:(n:Int)< (n:Int)+1:=by omega
 have hn3:(n:Int)<=3:=by omega
 have hwn:IntKind.i64.wrap (n:Int)=(n:Int):=gj _ (by omega) (by omega);have htn:((n:Int)).toNat=n:=by omega
 go_upto_region 2 with fail
 go_cut [4] from 7 to 20 (fun v4 wx=>∃gd,v4=.pointer (some ⟨gd,0,none⟩)/\w1.heap.size<=gd/\gd<wx.heap.size/\wx.rangeAt gd 0 DV/\Below w1.heap.size w1 wx)
 case first=>
  have hS:w1.drew.rangeAt r 1 constV/\w1.drew.cell? ⟨ga,n,none⟩=some (.slice (some ⟨g3,0,none⟩) 1 c3)/\w1.drew.cell? ⟨g3,5,none⟩=some (Sv tt):=⟨fun k v hv=>hRC k v hv,by simpa using hcell,by simpa using hc5⟩;have hIC:(Tryz.prog.info? 67).map (·.size)=some constV.length:=by rw[oE];exact Tryz.infoConst
  have HCA:=gH (fun(W W':World) (hb:Below W.heap.size W W') (hw:w1.heap.size<=W.heap.size) (h:W.rangeAt r 1 constV/\W.cell? ⟨ga,n,none⟩=some (.slice (some ⟨g3,0,none⟩) 1 c3)/\W.cell? ⟨g3,5,none⟩=some (Sv tt))=>show W'.rangeAt r 1 constV/\W'.cell? ⟨ga,n,none⟩=some (.slice (some ⟨g3,0,none⟩) 1 c3)/\W'.cell? ⟨g3,5,none⟩=some (Sv tt) from⟨fun k v hv=>(hb.cell (p:=⟨r,1+k,none⟩) (by show r<_;omega)).trans (h.1 k v hv),(hb.cell (p:=⟨ga,n,none⟩) (by show ga<_;omega)).trans h.2.1,(hb.cell (p:=⟨g3,5,none⟩) (by show g3<_;omega)).trans h.2.2⟩);refine gX 15 (fun W=>W.rangeAt r 1 constV/\W.cell? ⟨ga,n,none⟩=some (.slice (some ⟨g3,0,none⟩) 1 c3)/\W.cell? ⟨g3,5,none⟩=some (Sv tt)) (by kernel_rfl) hS (fun hH=>?_);clear hS hRC;refine tkJ 0 rfl (by kernel_rfl) gJ (by rfl) hH ⟨_,by rintro W⟨zc,z3,zt⟩;go_simp;try with_reducible rfl,?_⟩;try go_simp
  refine tkJ 1 rfl (by kernel_rfl) gJ (by rfl) hH ⟨_,by rintro W⟨zc,z3,zt⟩;go_simp;try with_reducible rfl,?_⟩;try go_simp
  refine tkJ 2 rfl (by kernel_rfl) gJ (by rfl) hH ⟨_,by rintro W⟨zc,z3,zt⟩;go_simp;try with_reducible rfl,?_⟩;try go_simp
  refine tkA 3 (v:=.agg constV.toArray) rfl (by kernel_rfl) gI (yieldsIf_load_mid (by rfl) _ _ rfl r 1 rfl constV _ (fun W hW=>hW.1) Tryz.underlying67 rfl hIC) hH ?_;generalize constV.toArray=CA at*;try go_simp
  refine tkJ 4 rfl (by kernel_rfl) gJ (by rfl) hH ⟨_,by rintro W⟨zc,z3,zt⟩;go_simp;try with_reducible rfl,?_⟩;try go_simp
  refine tkJ 5 rfl (by kernel_rfl) gJ (by rfl) hH ⟨_,by rintro W⟨zc,z3,zt⟩;go_simp;try with_reducible rfl,?_⟩;try go_simp
  refine tkJ 6 rfl (by kernel_rfl) gJ (by rfl) hH ⟨_,by rintro W⟨zc,z3,zt⟩;go_simp;try with_reducible rfl,?_⟩;try go_simp
  refine tkJ 7 rfl (by kernel_rfl) gJ (by rfl) hH ⟨_,by rintro W⟨zc,z3,zt⟩;go_simp;try with_reducible rfl,?_⟩;try go_simp
  refine tkJ 8 rfl (by kernel_rfl) gJ (by rfl) hH ⟨_,by rintro W⟨zc,z3,zt⟩;go_simp;try with_reducible rfl,?_⟩;try go_simp
  refine tkJ 9 rfl (by kernel_rfl) gJ (by rfl) hH ⟨_,by rintro W⟨zc,z3,zt⟩;go_simp;try with_reducible rfl,?_⟩;try go_simp
  refine tkJ 10 rfl (by kernel_rfl) gJ (by rfl) hH ⟨_,by rintro W⟨zc,z3,zt⟩;go_simp;try with_reducible rfl,?_⟩;try go_simp
  refine tkJ 11 rfl (by kernel_rfl) gJ (by rfl) hH ⟨_,by rintro W⟨zc,z3,zt⟩;go_simp;try with_reducible rfl,?_⟩;try go_simp
  refine tkJ 12 rfl (by kernel_rfl) gJ (by rfl) hH ⟨_,by rintro W⟨zc,z3,zt⟩;go_simp;try with_reducible rfl,?_⟩;try go_simp
  have hD32:DV.toArray.size=32:=by rw[List.size_toArray,HDL.out]
  have hD1:DV.toArray.all (·.oneCell')=true:=by rw[List.all_toArray,List.all_eq_true];intro v hv;rw[HDY.out] at hv;obtain⟨x,_,rfl⟩:=List.mem_map.1 hv;rfl
  refine wpAnyL_two (i:=13) (j:=14) (by kernel_rfl) rfl rfl (fun K hK=>?_) (fun K hK=>?_)
  ·go_simp;refine(HDG.out _).mono ?_;rintro _ w7⟨rfl,hb7⟩;have hb67:Below w1.heap.size w1 w7:=(show Below w1.heap.size w1 w1.drew from(Below.refl _ _).drew).trans hb7;have hs7:w1.heap.size<=w7.heap.size:=hb67.size;have hH7:=HCA.out _ _ hb7 gR hH;refine hK.out _ _ (fun _=>hH7) ?_;clear hK K;(try go_simp);refine gA (i:=14) (by kernel_rfl) rfl (fun K hK=>?_);go_simp;have hn8:=heap_alloc_new w7;have hb8:=gB w7;generalize hW:World.alloc w7 _=w8;(obtain⟨zz,hz32,hz8⟩:∃zz:Array Value,zz.size=32/\w8.heap[w7.heap.size]? =some (.cells zz 39 (0,0)):=by rw[<-hW];exact⟨_,rfl,hn8 _⟩);(have hb78:Below w7.heap.size w7 w8:=by rw[<-hW];exact hb8 _);clear hW hn8 hb8;refine hK.out _ _ (fun _=>HCA.out _ _ hb78 hs7 hH7) ?_;clear hK K;(try go_simp);refine gA (i:=15) (by kernel_rfl) rfl (fun K hK=>?_);rw[if_pos (by rfl)];refine wp_store_mid _ _ _ rfl w7.heap.size 0 DV.toArray rfl rfl (by rw[hD32];exact gw hz8 hz32) (by rw[hD32];exact Tryz.info22) hD1 ?_;refine hK.out _ _ (fun h=>absurd rfl h) ?_;clear hK K;refine gO (by kernel_rfl) ?_ _;have hs8:w7.heap.size<w8.heap.size:=(gL hz8);have hbF:Below w1.heap.size w1 (w8.setCells w7.heap.size 0 DV.toArray.toList):=gN hs7 _ _ _ (hb67.trans (hb78.mono hs7));have hsF:w7.heap.size< (w8.setCells w7.heap.size 0 DV.toArray.toList).heap.size:=Nat.lt_of_lt_of_le hs8 (gN gR _ _ _ (Below.refl w7.heap.size w8)).size;have hrF:(w8.setCells w7.heap.size 0 DV.toArray.toList).rangeAt w7.heap.size 0 DV:=World.rangeAt_setCells_same _ _ _ _ (by rw[HDL.out];exact gw hz8 hz32);(go_wp2_with fail);go_meet;exact⟨w7.heap.size,rfl,hs7,hsF,hrF,hbF⟩
  ·go_simp;have hn8:=heap_alloc_new w1;have hb8:=fun o=>(gB w1 o).drew;have hH6:w1.rangeAt r 1 constV/\w1.cell? ⟨ga,n,none⟩=some (.slice (some ⟨g3,0,none⟩) 1 c3)/\w1.cell? ⟨g3,5,none⟩=some (Sv tt):=⟨fun k v hv=>by simpa using hH.1 k v hv,by simpa using hH.2.1,by simpa using hH.2.2⟩;generalize hW:World.drew (World.alloc w1 _)=w7;(obtain⟨zz,hz32,hz7⟩:∃zz:Array Value,zz.size=32/\w7.heap[w1.heap.size]? =some (.cells zz 39 (0,0)):=by rw[<-hW];exact⟨_,rfl,hn8 _⟩);(have hb67:Below w1.heap.size w1 w7:=by rw[<-hW];exact hb8 _);clear hW hn8 hb8;have hs7:w1.heap.size<w7.heap.size:=(gL hz7);have hH7:=HCA.out _ _ hb67 gR hH6;refine hK.out _ _ (fun _=>hH7) ?_;clear hK K;(try go_simp);refine gA (i:=13) (by kernel_rfl) rfl (fun K hK=>?_);go_simp;refine(HDG.out _).mono ?_;rintro _ w8⟨rfl,hb8⟩;have hz8:=(hb8.block w1.heap.size hs7).trans hz7;refine hK.out _ _ (fun _=>HCA.out _ _ hb8 (Nat.le_of_lt hs7) hH7) ?_;clear hK K;(try go_simp);refine gA (i:=15) (by kernel_rfl) rfl (fun K hK=>?_);rw[if_pos (by rfl)];refine wp_store_mid _ _ _ rfl w1.heap.size 0 DV.toArray rfl rfl (by rw[hD32];exact gw hz8 hz32) (by rw[hD32];exact Tryz.info22) hD1 ?_;refine hK.out _ _ (fun h=>absurd rfl h) ?_;clear hK K;refine gO (by kernel_rfl) ?_ _;have hs8:w1.heap.size<w8.heap.size:=(gL hz8);have hbF:Below w1.heap.size w1 (w8.setCells w1.heap.size 0 DV.toArray.toList):=gN gR _ _ _ (hb67.trans (hb8.mono (Nat.le_of_lt hs7)));have hsF:w1.heap.size< (w8.setCells w1.heap.size 0 DV.toArray.toList).heap.size:=Nat.lt_of_lt_of_le hs8 (gN gR _ _ _ (Below.refl w1.heap.size w8)).size;have hrF:(w8.setCells w1.heap.size 0 DV.toArray.toList).rangeAt w1.heap.size 0 DV:=World.rangeAt_setCells_same _ _ _ _ (by rw[HDL.out];exact gw hz8 hz32);(go_wp2_with fail);go_meet;exact⟨w1.heap.size,rfl,gR,hsF,hrF,hbF⟩
 case rest=>
  obtain⟨gd,rfl,hgd0,hgd,hrd,hb2⟩:=hcut;have HR2:=gH ((hb2.block w.heap.size (by omega)).trans HR1.out);have HB2:=gH (HB1.out.trans (hb2.mono (show w.heap.size<=w1.heap.size by omega)));have hs2:w1.heap.size<=wc.heap.size:=hb2.size;have hcr:=(HM1.out.below hb2).cell;subst hu;clear hb2 hRC hcell hc5 HM1 HR1 HB1 HDG;generalize wc=w2 at*;have HID:=gS ((Tryz.prog.info? 39).map (·.size)=some DV.length) (by rw[HDL.out];exact Tryz.infoDig);have hS:w2.drew.rangeAt gd 0 DV/\w2.drew.cell? ⟨r,0,none⟩=some (.slice au K.length cu):=⟨fun k v hv=>hrd k v hv,by simpa using hcr⟩;have HSE:=gS ((List.replicate 32 (Value.int .u8 0)++[I 0]).toArray.size=(commitV K).toArray.size) (by rw[HCO.out.size];rfl);have HKC:=gS (w2.drew.heap[w.heap.size]? =some (.cells (List.replicate 32 (Value.int .u8 0)++[I 0]).toArray 41 (0,0))) HR2.out;have HBD:=gS (Below w.heap.size w w2.drew) HB2.out.drew;generalize hCL:commitV K=C at*;have HCL:=gH hCL;clear hCL;go_upto_region 3 with fail
  refine gX 7 (fun W=>W.rangeAt gd 0 DV/\W.cell? ⟨r,0,none⟩=some (.slice au K.length cu)) (by kernel_rfl) hS (fun hH=>?_);clear hS hrd hcr;refine tkA 0 (v:=.agg DV.toArray) rfl (by kernel_rfl) gI (yieldsIf_load_mid (by rfl) _ _ rfl gd 0 rfl DV _ (fun W hW=>hW.1) Tryz.underlying39 rfl HID.out) hH ?_;try go_simp
  refine tkJ 1 rfl (by kernel_rfl) gJ (by rfl) hH ⟨_,by rintro W⟨zd,zr⟩;go_simp;try with_reducible rfl,?_⟩;try go_simp
  refine tkJ 2 rfl (by kernel_rfl) gJ (by rfl) hH ⟨_,by rintro W⟨zd,zr⟩;go_simp;try with_reducible rfl,?_⟩;try go_simp
  refine tkJ 3 rfl (by kernel_rfl) gJ (by rfl) hH ⟨_,by rintro W⟨zd,zr⟩;go_simp;try with_reducible rfl,?_⟩;try go_simp
  refine tkJ 4 rfl (by kernel_rfl) gJ (by rfl) hH ⟨_,by rintro W⟨zd,zr⟩;go_simp;try with_reducible rfl,?_⟩;try go_simp
  refine tkJ 5 rfl (by kernel_rfl) gJ (by rfl) hH ⟨_,by rintro W⟨zd,zr⟩;go_simp;try with_reducible rfl,?_⟩;try go_simp
  refine tkA 6 (v:=.agg C.toArray) rfl (by kernel_rfl) gI (yields_built (by rfl) 41 _ rfl C.toArray [(0,.agg DV.toArray),(1,I (K.length:Nat))] rfl HBC.out) hH ?_;try go_simp
  refine gA (i:=7) (by kernel_rfl) rfl (fun K hK=>?_);rw[if_pos (by rfl)];refine wp_store_row 41 (.tmp 2) (.tmp 27) rfl w.heap.size C.toArray rfl rfl 41 _ HKC.out HCO.out.info HSE.out HCO.out.one ?_;refine hK.out _ _ (fun h=>absurd rfl h) ?_;clear hK K;refine gO (by kernel_rfl) ?_ _;go_wp2_with fail
  refine bodyPost_ret (v:=.agg C.toArray) ?_ rfl ⟨by rw[HCL.out],below_setRow HBD.out gR _⟩;exact results_cell_row rfl _ _ w.heap.size 41 C.toArray (0,0) _ rfl (gW HKC.out) Tryz.underlying41 rfl HCO.out.info
end Go.Proofs.YtenaelkbgkpllaaGreatDoor
