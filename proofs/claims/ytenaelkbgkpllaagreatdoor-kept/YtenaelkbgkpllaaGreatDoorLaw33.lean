/- Part 33 of what the four laws rest on: laid by a program out of the texts of wip/T. -/
import Derived.Test.YtenaelkbgkpllaaGreatDoorLaw31
set_option maxRecDepth 100000
set_option maxHeartbeats 8000000
namespace Go.Proofs.YtenaelkbgkpllaaGreatDoor
open Go.RowKit
theorem zeroPt(w:World):(zeroValue 36).run Tryz.prog w=.ok (.agg #[I 0,I 0,I 0]) w:=by kernel_rfl
theorem clear_pt(w:World)(g o c:Nat)(cur:Array Value)(ty:TypeId)(hg:w.heap[g]? =some (.cells cur 36 (0,0)))(hfit:o+3<=cur.size):
  (Builtin.clear_ #[27] ty #[.slice (some ⟨g,o,none⟩) 1 c]).run Tryz.prog w=.ok (.tuple #[]) (w.setRow g (cur.toList.take o++[I 0,I 0,I 0]++cur.toList.drop (o+3)).toArray):=by
 have hst:=run_storeCells_at Tryz.prog g o 36 [I 0,I 0,I 0] 0 cur w hg (by simpa using hfit) (fun v hv=>by simp only[List.mem_cons,List.not_mem_nil,or_false] at hv;rcases hv with rfl|rfl|rfl<;>rfl);simp only[Nat.add_zero] at hst;have hzc:(Builtin.zeroCells (Value.agg #[I 0,I 0,I 0]).cells 1).toList=[I 0,I 0,I 0]:=by simp[Builtin.zeroCells,Value.cells];rfl
 have hz:=zeroPt;simp[Builtin.clear_,run_underlying Tryz.underlying27,hz,hzc,hst]
theorem delete_any(g c pos m:Nat)(cur:Array Value)(L:List Wd.Pt)(w:World)(hg:w.heap[g]? =some (.cells cur 36 (0,0)))(hcur:cur.toList.take (L.length*3)=L.flatMap P3)(hcs:cur.size=c*3)(hL:L.length=pos+m+1)(hc:pos+m+1<=c)(hcm:c<=maxLen):
  Calls Tryz.prog 45 #[.slice (some ⟨g,0,none⟩) (pos+m+1) c,I pos,I ((pos:Int)+1)] w fun e w'=>e=.returned (.slice (some ⟨g,0,none⟩) (pos+m) c)/\(∃cur':Array Value,w'.heap[g]? =some (.cells cur' 36 (0,0))/\cur'.size=cur.size/\cur'.toList.take ((pos+m)*3)=(L.eraseIdx pos).flatMap P3)/\Keeps (fun j=>j=g) w w':=by
 unfold maxLen at hcm;have HG:=gH hg;have HCU:=gH hcur;have HCS:=gH hcs;have HLL:=gH hL;have h1:(pos:Int)+1<=(pos:Int)+(m:Int)+1:=by omega
 have h2:(pos:Int)+(m:Int)+1<=(c:Int):=by omega
 have h3:(0:Int)<=(pos:Int)+1:=by omega
 have h4:(pos:Int)<=(c:Int):=by omega
 have h5:(pos:Int)+1<=(c:Int):=by omega
 clear hg hcur hcs hL;go_enter Tryz.func45,Tryz.ntmps45
 obtain⟨R1,hR1⟩:∃R1,(cur.toList.take (pos*3)++(L.drop (pos+1)).flatMap P3++cur.toList.drop (pos*3+m*3))=R1:=⟨_,rfl⟩;have hap:∀(cc:Nat),(Builtin.append_ #[27,27] 27 #[.slice (some ⟨g,0,none⟩) pos c,.slice (if c=pos+1 then some ⟨g,0,none⟩ else some ⟨g,(pos+1)*3,none⟩) m cc]).run Tryz.prog w.drew=.ok (.slice (some ⟨g,0,none⟩) (pos+m) c) (w.drew.setRow g (cur.toList.take (pos*3)++(L.drop (pos+1)).flatMap P3++cur.toList.drop (pos*3+m*3)).toArray):=by
  intro cc;obtain⟨i0,hi,hz0,hz1,hz2⟩:=info_parts Tryz.infoPt;have hdl:((L.drop (pos+1)).flatMap P3).length=m*3:=by rw[gQ,List.length_drop,HLL.out];congr 1;omega
  have key:∀a:Addr,(∀j u,((L.drop (pos+1)).flatMap P3)[j]? =some u->w.cell? (a.add j)=some u)->(Builtin.append_ #[27,27] 27 #[.slice (some ⟨g,0,none⟩) pos c,.slice (some a) m cc]).run Tryz.prog w.drew=.ok (.slice (some ⟨g,0,none⟩) (pos+m) c) (w.drew.setRow g (cur.toList.take (pos*3)++(L.drop (pos+1)).flatMap P3++cur.toList.drop (pos*3+m*3)).toArray):=fun a hn=>by have h:=run_append_room (P:=Tryz.prog) w.drew 27 27 36 i0 Tryz.underlying27 hi g pos c cur HG.out a m cc ((L.drop (pos+1)).flatMap P3) (by rw[hz1];exact hdl) hn (fun u hu=>oM u hu) (by omega) (by rw[hz1,hdl,HCS.out];omega);rw[hz1,hdl] at h;exact h
  by_cases hcp:c=pos+1
  ·rw[if_pos hcp];refine key _ (fun j u hj=>?_);(have hm0:m=0:=by omega);rw[List.getElem?_eq_none (by rw[hdl,hm0];omega)] at hj;cases hj
  ·rw[if_neg hcp];refine key _ (fun j u hj=>?_);(have hjl:j<m*3:=by rw[<-hdl];exact(List.getElem?_eq_some_iff.1 hj).1);rw[Addr.add_lit,gC HG.out,<-Array.getElem?_toList];(have h0:(cur.toList.take (L.length*3))[(pos+1)*3+j]? =(L.flatMap P3)[(pos+1)*3+j]? :=by rw[HCU.out]);rw[List.getElem?_take_of_lt (by rw[HLL.out];omega)] at h0;rw[h0];(have h1:L.flatMap P3=(L.take (pos+1)).flatMap P3++(L.drop (pos+1)).flatMap P3:=by rw[<-List.flatMap_append,List.take_append_drop]);rw[h1,List.getElem?_append_right (by rw[gQ,List.length_take,HLL.out];omega)];rw[gQ,List.length_take,HLL.out,show(pos+1)*3+j-min (pos+1) (pos+m+1)*3=j by rw[Nat.min_eq_left (by omega)];omega];exact hj
 have hl1:R1.length=c*3:=by
  have hdl:((L.drop (pos+1)).flatMap P3).length=m*3:=by rw[gQ,List.length_drop,HLL.out];congr 1;omega
  rw[<-hR1,List.length_append,List.length_append,hdl,List.length_take,List.length_drop,Array.length_toList,HCS.out];omega
 have ht1:R1.take ((pos+m)*3)=(L.eraseIdx pos).flatMap P3:=by
  have hdl:((L.drop (pos+1)).flatMap P3).length=m*3:=by rw[gQ,List.length_drop,HLL.out];congr 1;omega
  have htk:cur.toList.take (pos*3)=(L.take pos).flatMap P3:=by have h0:=congrArg (List.take (pos*3)) HCU.out;rw[List.take_take,Nat.min_eq_left (by rw[HLL.out];omega)] at h0;rw[h0];(have h1:L.flatMap P3=(L.take pos).flatMap P3++(L.drop pos).flatMap P3:=by rw[<-List.flatMap_append,List.take_append_drop]);rw[h1,List.take_append_of_le_length (by rw[gQ,List.length_take,HLL.out];omega),List.take_of_length_le (by rw[gQ,List.length_take];omega)]
  rw[<-hR1,htk,List.take_append_of_le_length (by rw[List.length_append,hdl,gQ,List.length_take,HLL.out];omega),List.take_of_length_le (by rw[List.length_append,hdl,gQ,List.length_take];omega),<-List.flatMap_append,List.eraseIdx_eq_take_drop_succ]
 have HT1:=gH ht1;have HL1:=gH hl1;have hg1:=setRow_heap w.drew g cur R1.toArray 36 (0,0) HG.out;have hk1:Keeps (fun j=>j=g) w (w.drew.setRow g R1.toArray):=⟨rfl,rfl,rfl,by simp,fun j _ hn=>setRow_other w.drew g j _ hn⟩;rw[hR1] at hap;generalize World.setRow w.drew g R1.toArray=w1 at*;have HK1:=gH hk1;have HG1:=gH hg1;clear hR1 hl1 ht1 hg1 hk1;go_upto_region 5 with fail
 go_region_law (refine Gi rfl _ _ 27 27 rfl (.slice (some ⟨g,0,none⟩) pos c) (.slice (if c=pos+1 then some ⟨g,0,none⟩ else some ⟨g,(pos+1)*3,none⟩) m (c-(pos+1))) rfl rfl (hap _) ?_)
 clear hap;generalize (if c=pos+1 then some (⟨g,0,none⟩:Addr) else some ⟨g,(pos+1)*3,none⟩)=src;obtain⟨R2,hR2⟩:∃R2,(R1.take ((pos+m)*3)++[I 0,I 0,I 0]++R1.drop ((pos+m)*3+3))=R2:=⟨_,rfl⟩;have hcl:=fun(ty:TypeId) (cc:Nat)=>clear_pt w1 g ((pos+m)*3) cc R1.toArray ty HG1.out (by rw[List.size_toArray,HL1.out];omega);have hl2:R2.length=c*3:=by rw[<-hR2];simp only[List.length_append,List.length_take,List.length_drop,List.length_cons,List.length_nil,HL1.out];omega
 have ht2:R2.take ((pos+m)*3)=(L.eraseIdx pos).flatMap P3:=by rw[<-hR2,List.append_assoc,List.take_append_of_le_length (by rw[List.length_take,HL1.out];omega),List.take_take,Nat.min_self];exact HT1.out
 simp only[hR2] at hcl;have HG2:=gH (setRow_heap w1 g R1.toArray R2.toArray 36 (0,0) HG1.out);have HK2:=gH (HK1.out.trans (GX w1 g R2.toArray) (fun _ _ h=>h));have HL2:=gH hl2;have HT2:=gH ht2;generalize World.setRow w1 g R2.toArray=w2 at*;have h6:¬c=pos+m:=by omega
 have h7:(pos:Int)+(m:Int)<=(pos:Int)+(m:Int)+1:=by omega
 clear hR2 hl2 ht2;go_wp2_with fail
 go_ret;exact⟨rfl,⟨R2.toArray,HG2.out,by rw[List.size_toArray,HL2.out,HCS.out],HT2.out⟩,HK2.out⟩
theorem mapDelete_any(m:Nat)(v:Value)(L:List Wd.Pt)(id:Int)(w:World)(hm:IsMap w m v L)(hn:L.length<=1000)(hid:∃q∈L,q.id=id):
  Calls Tryz.prog 19 #[.pointer (some ⟨m,0,none⟩),I id] w fun e w'=>e=.returned (I 0)/\∃v' i,∃h:i<L.length,L[i].id=id/\IsMap w' m v' (L.eraseIdx i)/\Fresh w v v'/\Keeps (Mine m v) w w':=by
 have HFI:=gH (jA m v L id w hm.cell hm.own.reads hn);have HM:=gH hm;have HID:=gH hid;have hmlt:=hm.lt;clear hm hid;go_enter Tryz.func19,Tryz.ntmps19
 go_wp2_with fail
 refine HFI.out.mono ?_;rintro _ w1⟨r,rfl,hpl,hb1⟩;rcases hpl with⟨-,hno⟩| ⟨i,hi,rfl,hii⟩
 ·obtain⟨q,hq,e⟩:=HID.out;exact absurd e (hno q hq)
 ·have HII:=gH hii;have hM1:=HM.out.below hb1;have HB1:=gH hb1;have hs1:=hb1.size;obtain⟨m2,hm2⟩:∃m2,L.length=i+m2+1:=⟨L.length-i-1,by omega⟩;have HM2:=gH hm2;obtain⟨-,ho⟩:=hM1.own;rcases ho with⟨-,h0⟩| ⟨g,c,cur,ev, -,hg,hc,hcm,hcs,htk⟩
  ·omega
  ·have hap:=hM1.apart;rw[hm2] at ev hc;subst ev;have hgm:g≠m:=fun e=>hap (by rw[e];rfl);have hc1:=hM1.cell;have HCS:=gH hcs;have HD:=gH (delete_any g c i m2 cur L w1 hg htk hcs hm2 hc hcm);have HMR:=gH hM1.row;have hglt:g<w1.heap.size:=(gL hg);clear hii hb1 hM1 hm2 hap hg htk hcs HFI;unfold maxLen at hcm;(have hi9:(i:Int)<=1000:=by omega);(go_wp2_with fail);refine HD.out.mono ?_;rintro _ w2⟨rfl,⟨cur',hg2,hs2',ht2⟩,hk2⟩;have hs2:=hk2.size;have hmr2:=(hk2.block m (by omega) (fun e=>hgm e.symm)).trans HMR.out;(have hc2:w2.cell? ⟨m,0,none⟩=some (.slice (some ⟨g,0,none⟩) (i+m2+1) c):=by rw[gC hmr2];rfl);have hf2:=oG hmr2 0;have HR3:=gH (heap_setCell_same w2 m 0 _ 79 (.slice (some ⟨g,0,none⟩) (i+m2) c) hmr2);have HG3:=gH ((Below.heap_setCell w2 ⟨m,0,none⟩ (.slice (some ⟨g,0,none⟩) (i+m2) c) g (fun e=>hgm e)).trans hg2);have HK3:=gS (Keeps (Mine m (.slice (some ⟨g,0,none⟩) (i+m2+1) c)) w (w2.setCell ⟨m,0,none⟩ (.slice (some ⟨g,0,none⟩) (i+m2) c))) (⟨hk2.os.trans HB1.out.os,hk2.tape.trans HB1.out.tape,hk2.output.trans HB1.out.output,by simp;omega,fun j hj hn=>(Below.heap_setCell _ _ _ _ (fun e=>hn (Or.inl e))).trans ((hk2.block j (by omega) (fun e=>hn (Or.inr (by rw[e];rfl)))).trans (HB1.out.block j hj))⟩);have HT:=gH ht2;have HSZ:=gH hs2';have HCC:=gH hc;clear hk2 hg2 ht2 hmr2 hs2';(go_wp2_with fail);go_ret;(have hel:(L.eraseIdx i).length=i+m2:=by rw[List.length_eraseIdx_of_lt hi,HM2.out];rfl);refine⟨rfl,_,i,hi,HII.out,⟨HR3.out,⟨gQ _,Or.inr ⟨g,c,cur',by rw[hel],Nat.zero_le _,HG3.out,by rw[hel];omega,by unfold maxLen;omega,?_,by rw[hel];exact HT.out⟩⟩,fun e=>hgm (by injection e)⟩,Or.inl rfl,HK3.out⟩;rw[HSZ.out,HCS.out]
end Go.Proofs.YtenaelkbgkpllaaGreatDoor
