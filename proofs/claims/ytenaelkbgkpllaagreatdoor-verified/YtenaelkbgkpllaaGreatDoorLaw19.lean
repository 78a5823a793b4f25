/- Part 19 of what the four laws rest on: laid by a program out of the texts of wip/T. -/
import Derived.Test.YtenaelkbgkpllaaGreatDoorLaw18
import Derived.Lib.AtoiErrMem
import Derived.Lib.ConvBytes
set_option maxRecDepth 100000
set_option maxHeartbeats 8000000
namespace Go.Proofs.YtenaelkbgkpllaaGreatDoor
open Go.RowKit
def OwnG(w:World)(B:Nat)(v:Value)(l:List UInt8):Prop:=∃g cap cur fz,v=.slice (some ⟨g,0,none⟩) l.length cap/\B<=g/\w.heap[g]? =some (.cells cur 5 fz)/\(fz=(0,0)\/cap<=fz.1)/\l.length<=cap/\cap<=maxLen/\cur.size=cap/\cur.toList.take l.length=l.map Y
theorem ownG_bytes(w:World)(s:ByteArray)(hs:s.size<=maxLen):OwnG (Lib.bytesWorld w 5 s) w.heap.size (.slice (some ⟨w.heap.size,0,none⟩) s.size (grownCap w s.size 0 5)) s.data.toList:=by
 have h1:=grownCap_ge w s.size 0 5;have h2:=grownCap_le_maxLen w s.size 0 5 hs;have hsz:s.data.size=s.size:=rfl;have h3:(Lib.bytesCells w 5 s).size=grownCap w s.size 0 5:=by unfold Lib.bytesCells;rw[Array.size_append,Array.size_map,Array.size_replicate];omega
 have h4:s.data.toList.length=s.size:=by simp
 refine⟨w.heap.size,grownCap w s.size 0 5,_,_,by rw[h4],Nat.le_refl _,Lib.bytesWorld_at_new w 5 s,.inr (by rw[h3];exact Nat.le_refl _),by rw[h4];exact h1,h2,h3,?_⟩;unfold Lib.bytesCells;rw[Array.toList_append,List.take_append_of_le_length (by simp),List.take_of_length_le (by simp),Array.toList_map]
theorem OwnG.lt{w:World}{B:Nat}{v:Value}{l:List UInt8}(h:OwnG w B v l):∃g cap,v=.slice (some ⟨g,0,none⟩) l.length cap/\B<=g/\g<w.heap.size/\w.rangeAt g 0 (l.map Y):=by
 obtain⟨g,cap,cur,fz,rfl,hb,hg,hf,hl,hm,hc,ht⟩:=h;refine⟨g,cap,rfl,hb,(gL hg),fun j u hu=>?_⟩;rw[gC hg,Nat.zero_add,<-Array.getElem?_toList];rw[<-ht,List.getElem?_take] at hu;split at hu
 ·exact hu
 ·cases hu
theorem OwnG.keep{w w':World}{B:Nat}{v:Value}{l:List UInt8}(h:OwnG w B v l)(hb:Below w.heap.size w w'):OwnG w' B v l:=by obtain⟨g,cap,cur,fz,rfl,hB,hg,r⟩:=h;exact⟨g,cap,cur,fz,rfl,hB,(hb.block g (gL hg)).trans hg,r⟩
theorem ownG_push{w:World}{B:Nat}{v:Value}{l:List UInt8}(b:UInt8)(h:OwnG w B v l)(a:Addr)(c:Nat)(ha:w.cell? a=some (Y b))(hl:l.length+1<=140737488355328)(hB:B<=w.heap.size):
  ∃v' w',(Builtin.append_ #[59,59] 59 #[v,.slice (some a) 1 c]).run Tryz.prog w=.ok v' w'/\OwnG w' B v' (l++[b])/\Below B w w':=by
 obtain⟨i0,hi0,hz0,hz1,hz2⟩:=info_parts Tryz.info5;have hnews:∀j u,[Y b][j]? =some u->w.cell? (a.add j)=some u:=fun j u hj=>by
  match j,hj with
  |0,hj=>(have:a.add 0=a:=by unfold Addr.add;simp);rw[this,ha];exact hj
 have hrng:=OwnG.lt h;obtain⟨g,cap,cur,fz,rfl,hb,hg,hf,hlc,hm,hc,ht⟩:=h;by_cases hroom:l.length+1<=cap
 ·have hcell:w.cell? ⟨g,l.length,none⟩=some cur[l.length]:=by rw[gC hg];exact Array.getElem?_eq_getElem (by omega)
  have hfro:w.frozen? ⟨g,l.length,none⟩=false:=by
   obtain⟨lo,hi'⟩:=fz;simp only[World.frozen?,hg,Bool.and_eq_false_iff,decide_eq_false_iff_not];rcases hf with hf|hf
   ·injection hf with h1 h2;right;omega
   ·left;simp only at hf;omega
  have hst:(storeCells ⟨g,l.length,none⟩ [Y b] 0).run Tryz.prog w=.ok () (w.setCell ⟨g,l.length,none⟩ (Y b)):=by
   (have hadd:(⟨g,l.length,none⟩:Addr).add 0=⟨g,l.length,none⟩:=by unfold Addr.add;simp);have h1:(store ⟨g,l.length,none⟩ (Y b)).run Tryz.prog w=.ok () (w.setCell ⟨g,l.length,none⟩ (Y b)):=by rw[run_store Tryz.prog w _ (Y b) _ rfl,hcell];simp[hfro]
   simp only[storeCells,Sem.run_bind,hadd,h1,Result.andThen_ok];rfl
  have hfc:=run_firstCells_some (P:=Tryz.prog) w 1 1 a 1 c [Y b] rfl hnews;refine⟨.slice (some ⟨g,0,none⟩) (l.length+1) cap,w.setCell ⟨g,l.length,none⟩ (Y b),?_,⟨g,cap,cur.setIfInBounds l.length (Y b),fz,by simp,hb,?_,hf,by simpa using hroom,hm,by simpa using hc,?_⟩,(Below.refl B w).setCell hb _⟩
  ·simp[Builtin.append_,run_underlying Tryz.underlying59,sizeOf,typeInfo,hi0,hz1,Builtin.lenOf,hroom,hfc,Addr.add_lit,hst]
  ·rw[setCell_eq_setRow w g l.length cur 5 fz (Y b) hg];exact setRow_heap w g cur _ 5 _ hg
  ·rw[Array.toList_setIfInBounds,List.length_append,List.length_singleton,List.map_append,<-ht];(have hlt:l.length<cur.toList.length:=by simp;omega);rw[List.take_succ_eq_append_getElem (by simpa using hlt),List.getElem_set_self,List.take_set_of_le gR];rfl
 ·obtain⟨g2,cap2,e2,_,_,hr⟩:=hrng;injection e2 with e3 e4 e5;injection e3 with e3;injection e3 with e3;subst e3;have hold:∀j u,(l.map Y)[j]? =some u->w.cell? ((⟨g,0,none⟩:Addr).add j)=some u:=fun j u hj=>by
   rw[Addr.add_lit];exact hr j u hj
  have hr2:=run_append_grow (P:=Tryz.prog) w 59 59 5 i0 (.int .u8 0) Tryz.underlying59 hi0 hz0 ⟨g,0,none⟩ l.length cap (l.map Y) (by rw[List.length_map,hz1,Nat.mul_one]) hold a 1 c [Y b] (by rw[hz1];rfl) hnews (by omega) (by omega) (by rw[hz2];exact growslice_fits (by omega) (by omega));have hge:=grownCap_ge w (l.length+1) cap 5;have hcm2:grownCap w (l.length+1) cap 5<=maxLen:=grownCap_le_maxLen w (l.length+1) cap 5 (by unfold maxLen;omega);refine⟨_,_,hr2,⟨w.heap.size,_,_,(0,0),by rw[List.length_append];rfl,hB,heap_alloc_new w.drew _,.inl rfl,by rw[List.length_append];exact hge,hcm2,?_,?_⟩,((Below.refl B w).drew).alloc hB _⟩
  ·simp only[Array.size_append,List.size_toArray,List.length_map,size_zeroCells,List.length_singleton];have:(Value.int IntKind.u8 0).cells.size=1:=rfl;rw[this];omega
  ·simp only[Array.toList_append,List.append_assoc];rw[<-List.append_assoc,List.take_append_of_le_length (by simp),List.take_of_length_le (by simp),List.map_append];rfl
def lenOf':Value->Nat
 | .slice _ n _=>n
 |_=>0
theorem pad_mod(n:Nat):(n+1+(119-n%64)%64)%64=56:=by
 have h:=Nat.mod_lt n (show 64>0 by decide);by_cases h1:n%64<=55
 ·have e:(119-n%64)%64=55-n%64:=by omega
  rw[e];omega
 ·have e:(119-n%64)%64=119-n%64:=by omega
  rw[e];omega
theorem pad_not(n j:Nat)(hj:j< (119-n%64)%64):(n+1+j)%64≠56:=by
 have h:=Nat.mod_lt n (show 64>0 by decide);by_cases h1:n%64<=55
 ·have e:(119-n%64)%64=55-n%64:=by omega
  rw[e] at hj;omega
 ·have e:(119-n%64)%64=119-n%64:=by omega
  rw[e] at hj;omega
theorem Tryz.infoConst:(Tryz.prog.info? 67).map (·.size)=some 72:=by kernel_rfl
def outV(l:List UInt8)(i:Nat):Array Value:=((l.take i++List.replicate (32-i) 0).map Y).toArray
theorem outV_set(l:List UInt8)(i:Nat)(hl:l.length=32)(hi:i<32):(outV l i).setIfInBounds i (Y (l.getD i 0))=outV l (i+1):=by
 unfold outV;rw[List.setIfInBounds_toArray];congr 1;apply List.ext_getElem?;intro j;rw[List.getElem?_set,List.getElem?_map,List.getElem?_map];have hlen:∀k,k<=32->(l.take k++List.replicate (32-k) (0:UInt8)).length=32:=fun k hk=>by simp[hl];omega
 by_cases e:i=j
 ·subst e;rw[if_pos rfl,if_pos (by rw[List.length_map,hlen i (by omega)];exact hi),List.getElem?_append_left (by simp[hl];omega),List.getElem?_take_of_lt (by omega),List.getD_eq_getElem?_getD,List.getElem?_eq_getElem (by omega)];rfl
 ·rw[if_neg e];by_cases h:j<i
  ·rw[List.getElem?_append_left (by simp[hl];omega),List.getElem?_append_left (by simp[hl];omega),List.getElem?_take_of_lt h,List.getElem?_take_of_lt (by omega)]
  ·rw[List.getElem?_append_right (by simp[hl];omega),List.getElem?_append_right (by simp[hl];omega),List.getElem?_replicate,List.getElem?_replicate];simp only[List.length_take,hl];by_cases h2:j<32
   ·rw[if_pos (by omega),if_pos (by omega)]
   ·rw[if_neg (by omega),if_neg (by omega)]
theorem outV_size(l:List UInt8)(i:Nat)(hl:l.length=32)(hi:i<=32):(outV l i).size=32:=by simp[outV,hl];omega
theorem outV_all(l:List UInt8)(hl:l.length=32):outV l 32=(l.map Y).toArray:=by unfold outV;rw[List.take_of_length_le (by omega),Nat.sub_self,List.replicate_zero,List.append_nil]
theorem toL_lt{s:Sha.St}(h:Sha.Ok s)(a:Nat):(toL s).getD a 0<4294967296:=by obtain⟨h1,h2,h3,h4,h5,h6,h7,h8⟩:=h;refine Sha.getD_lt (fun x hx=>?_) a;simp only[toL,List.mem_cons,List.not_mem_nil,or_false] at hx;rcases hx with rfl|rfl|rfl|rfl|rfl|rfl|rfl|rfl<;>assumption
theorem join_at(s:Sha.St):∀(a b:Nat),a<8->b<4->(Sha.join s).getD (4*a+b) 0=UInt8.ofNat ((toL s).getD a 0/2 ^ (24-8*b))
 |0,0,_,_=>rfl|0,1,_,_=>rfl|0,2,_,_=>rfl|0,3,_,_=>by show UInt8.ofNat _=UInt8.ofNat (_/1);rw[Nat.div_one];rfl
 |1,0,_,_=>rfl|1,1,_,_=>rfl|1,2,_,_=>rfl|1,3,_,_=>by show UInt8.ofNat _=UInt8.ofNat (_/1);rw[Nat.div_one];rfl
 |2,0,_,_=>rfl|2,1,_,_=>rfl|2,2,_,_=>rfl|2,3,_,_=>by show UInt8.ofNat _=UInt8.ofNat (_/1);rw[Nat.div_one];rfl
 |3,0,_,_=>rfl|3,1,_,_=>rfl|3,2,_,_=>rfl|3,3,_,_=>by show UInt8.ofNat _=UInt8.ofNat (_/1);rw[Nat.div_one];rfl
 |4,0,_,_=>rfl|4,1,_,_=>rfl|4,2,_,_=>rfl|4,3,_,_=>by show UInt8.ofNat _=UInt8.ofNat (_/1);rw[Nat.div_one];rfl
 |5,0,_,_=>rfl|5,1,_,_=>rfl|5,2,_,_=>rfl|5,3,_,_=>by show UInt8.ofNat _=UInt8.ofNat (_/1);rw[Nat.div_one];rfl
 |6,0,_,_=>rfl|6,1,_,_=>rfl|6,2,_,_=>rfl|6,3,_,_=>by show UInt8.ofNat _=UInt8.ofNat (_/1);rw[Nat.div_one];rfl
 |7,0,_,_=>rfl|7,1,_,_=>rfl|7,2,_,_=>rfl|7,3,_,_=>by show UInt8.ofNat _=UInt8.ofNat (_/1);rw[Nat.div_one];rfl
 |a+8,_,h,_=>absurd h (by omega)
 |_,b+4,_,h=>absurd h (by omega)
theorem Tryz.array22:Tryz.prog.underlying 39=some (.array (Tryz.prog.arrayLen 39) (Tryz.prog.elem 39)):=by kernel_rfl
theorem Tryz.arrayLen22:Tryz.prog.arrayLen 39=32:=by kernel_rfl
theorem Tryz.elem22:Tryz.prog.elem 39=5:=by kernel_rfl
theorem Tryz.size5'(w:World):(sizeOf 5).run Tryz.prog w=.ok 1 w:=by kernel_rfl
theorem idx32(g:Nat)(i:Int)(k:Nat)(h:i=k)(hk:k<32)(W:World):
  (Instr.indexAt 39 (.pointer (some ⟨g,0,none⟩)) (.int .i64 i)).run Tryz.prog W=.ok (.pointer (some ⟨g,k,none⟩)) W:=by
 subst h;rw[run_indexAt_array W 39 _ _ _ Tryz.array22,Tryz.arrayLen22,Tryz.elem22,if_pos (by omega),Tryz.size5'];simp only[Result.andThen_ok,add_offR,Int.toNat_natCast,Nat.mul_one,Nat.zero_add]
theorem yb0(x:Nat)(y:UInt8)(hx:x<4294967296)(h:y=UInt8.ofNat (x/2 ^ (24-8*0))):Value.int .u8 ((x:Int)/16777216)=Y y:=by rw[h,show 2 ^ (24-8*0)=16777216 from rfl];refine congrArg (Value.int .u8) ?_;rw[UInt8.toNat_ofNat'];omega
theorem yb1(x:Nat)(y:UInt8)(_:x<4294967296)(h:y=UInt8.ofNat (x/2 ^ (24-8*1))):Value.int .u8 ((x:Int)/65536%256)=Y y:=by rw[h,show 2 ^ (24-8*1)=65536 from rfl];refine congrArg (Value.int .u8) ?_;rw[UInt8.toNat_ofNat'];omega
theorem yb2(x:Nat)(y:UInt8)(_:x<4294967296)(h:y=UInt8.ofNat (x/2 ^ (24-8*2))):Value.int .u8 ((x:Int)/256%256)=Y y:=by rw[h,show 2 ^ (24-8*2)=256 from rfl];refine congrArg (Value.int .u8) ?_;rw[UInt8.toNat_ofNat'];omega
theorem yb3(x:Nat)(y:UInt8)(_:x<4294967296)(h:y=UInt8.ofNat (x/2 ^ (24-8*3))):Value.int .u8 ((x:Int)%256)=Y y:=by rw[h,show 2 ^ (24-8*3)=1 from rfl,Nat.div_one];refine congrArg (Value.int .u8) ?_;rw[UInt8.toNat_ofNat'];omega
theorem conv_str(s:ByteArray)(W:World):(convert 9 59 (.string s)).run Tryz.prog W=.ok (.slice (some ⟨W.heap.size,0,none⟩) s.size (grownCap W s.size 0 5)) (Lib.bytesWorld W 5 s):=Lib.run_convert_string_bytes W 9 59 5 s Tryz.underlying9 Tryz.underlying59 Tryz.underlying5
theorem digest_ref(C:Array Value)(s:ByteArray)(L:List Value)(w:World)(hL:(Sha.sha s.data.toList).map Y=L)(hs:s.size<=140737488351232)(hC72:C.size=72)(hC:∀t,t<64->C[8+t]? =some (U (Sha.Ks.getD t 0)))(hC0:∀(j:Nat) (v:Value),((toL Sha.start).map U)[j]? =some v->C[j]? =some v):
  Calls Tryz.prog 97 #[.agg C,.string s] w fun e w'=>e=.returned (.agg L.toArray)/\Below w.heap.size w w':=by
 have HLL:=gH hL;clear hL;have HC72:=gH hC72;clear hC72;have HC:=gH hC;have HC0:=gH hC0;have hcv:=conv_str s;have HL:=gS (s.data.toList.length=s.size) (by simp);clear hC hC0;go_enter Tryz.func97,Tryz.ntmps97
 have hr0':=fun(a b:Obj)=>heap_alloc2_old w a b;have hr1':=fun(a b:Obj)=>heap_alloc2_new w a b;have hb1':=fun(a b:Obj)=>(gB w a).alloc (by simp) b;go_upto_region 2 with fail
 generalize hW:World.alloc (World.alloc w _) _=w1;have hr0:w1.heap[w.heap.size]? =some (.cells C 67 (0,0)):=by rw[<-hW];exact hr0' _ _
 obtain⟨z,hz32,hr1⟩:∃z:Array Value,z.size=32/\w1.heap[w.heap.size+1]? =some (.cells z 39 (0,0)):=by rw[<-hW];exact⟨_,rfl,hr1' _ _⟩
 have hb1:Below w.heap.size w w1:=by rw[<-hW];exact hb1' _ _
 have hs1:w1.heap.size=w.heap.size+2:=by rw[<-hW];simp
 clear hW hr0' hr1' hb1';obtain⟨v2,w2,hap,hown2,hb2⟩:=ownG_push (w:=(Lib.bytesWorld w1 5 s).alloc (.cells #[Y 128] 5)) 128 ((ownG_bytes w1 s (by unfold maxLen;omega)).keep ((Below.refl _ _).alloc gR _)) ⟨w1.heap.size+1,0,none⟩ 1 (by have h:=cell_of_row _ _ 0 _ _ _ (heap_alloc_new (Lib.bytesWorld w1 5 s) (.cells #[Y 128] 5));rw[Lib.bytesWorld_size] at h;exact h) (by rw[HL.out];omega) (by rw[World.size_alloc,Lib.bytesWorld_size];omega);have hap':(Builtin.append_ #[59,59] 59 #[.slice (some ⟨w1.heap.size,0,none⟩) s.size (grownCap w1 s.size 0 5),.slice (some ⟨w1.heap.size+1,0,none⟩) 1 1]).run Tryz.prog ((Lib.bytesWorld w1 5 s).alloc (.cells #[.int .u8 128] 5))=.ok v2 w2:=hap;have hb2':Below w1.heap.size w1 w2:=((Lib.bytesWorld_below w1 5 s).alloc (by rw[Lib.bytesWorld_size];omega) _).trans hb2;have hbz:=Lib.bytesWorld_size w1 5 s;clear hap hb2;have H0:=gH ((hb2'.block w.heap.size (by omega)).trans hr0);have H1:=gH ((hb2'.block (w.heap.size+1) (by omega)).trans hr1);have HB2:=gS (Below w.heap.size w w2) (hb1.trans (hb2'.mono (by omega)));have HO2:=gS (OwnG w2 (w.heap.size+2) v2 (s.data.toList++128::List.replicate 0 0)) (by rw[<-hs1];exact hown2);have hs2:w.heap.size+2<=w2.heap.size:=by have:=hb2'.size;omega
 have HZ:=gH hz32;clear hr0 hr1 hb1 hown2 hb2' hz32 hs1;go_wp2_with (at_builtin;refine Lib.wpList_append_run _ rfl (.tmp 17) (.tmp 18) 59 59 rfl _ _ rfl rfl _ _ hap' ?_)
 clear hap' hbz hcv;go_loopw [6] (fun vv wq=>∃j:Nat,j<=(119-s.size%64)%64/\OwnG wq (w.heap.size+2) vv (s.data.toList++128::List.replicate j 0)/\wq.heap[w.heap.size]? =some (.cells C 67 (0,0))/\wq.heap[w.heap.size+1]? =some (.cells z 39 (0,0))/\Below w.heap.size w wq/\w.heap.size+2<=wq.heap.size) (fun vv _=>s.size+65-lenOf' vv)
 case atStart=>exact⟨0,by omega,HO2.out,H0.out,H1.out,HB2.out,hs2⟩
 case round=>
  clear HO2 H0 H1 HB2 hs2;obtain⟨j,hj,hown,h0,h1,hb,hsz⟩:=hrel;have HO:=gH hown;have H0:=gH h0;have H1:=gH h1;have HB:=gH hb;obtain⟨g,cap,rfl,hg0,hg1,hrg⟩:=hown.lt;have hlen:(s.data.toList++128::List.replicate j (0:UInt8)).length=s.size+1+j:=by simp;omega
  rw[hlen];by_cases hlt:j< (119-s.size%64)%64
  ·obtain⟨v3,w3,hap,hown3,hb3⟩:=ownG_push (w:=wr.alloc (.cells #[Y 0] 5)) 0 (HO.out.keep ((Below.refl _ _).alloc gR _)) ⟨wr.heap.size,0,none⟩ 1 (cell_of_row _ _ 0 _ _ _ (heap_alloc_new wr (.cells #[Y 0] 5))) (by rw[hlen];omega) (by rw[World.size_alloc];omega);rw[hlen] at hap;have hap':(Builtin.append_ #[59,59] 59 #[.slice (some ⟨g,0,none⟩) (s.size+1+j) cap,.slice (some ⟨wr.heap.size,0,none⟩) 1 1]).run Tryz.prog (wr.alloc (.cells #[.int .u8 0] 5))=.ok v3 w3:=hap;have hb3':Below (w.heap.size+2) wr w3:=((Below.refl (w.heap.size+2) wr).alloc hsz _).trans hb3;have hs3:wr.heap.size<=w3.heap.size:=Nat.le_trans (by rw[World.size_alloc];omega) hb3.size;obtain⟨g3,cap3,e3,_,_,_⟩:=hown3.lt;have HV3:=gS (lenOf' v3=s.size+1+j+1) (by rw[e3];show(s.data.toList++128::List.replicate j (0:UInt8)++[0]).length=_;rw[List.length_append,hlen];rfl);have HO3:=gS (OwnG w3 (w.heap.size+2) v3 (s.data.toList++128::List.replicate (j+1) 0)) (by rw[List.replicate_succ',<-List.cons_append,<-List.append_assoc];exact hown3);have H03:=gH ((hb3'.block w.heap.size (by omega)).trans h0);have H13:=gH ((hb3'.block (w.heap.size+1) (by omega)).trans h1);have HB3:=gS (Below w.heap.size w w3) (hb.trans (hb3'.mono (by omega)));clear hap hown3 hb3 hb3' e3 h0 h1 hb hown HO H0 H1 HB hrg hlen;(have hmod:((s.size:Int)+1+(j:Int))%64≠56:=by have:=pad_not s.size j hlt;omega);(have hj64:j<64:=by omega);have HLT:=gH hlt;clear hlt hj;(go_wp2_with (at_builtin;refine Lib.wpList_append_run _ rfl (.tmp 24) (.tmp 25) 59 59 rfl _ _ rfl rfl _ _ hap' ?_));go_roundw
   case rel=>exact⟨j+1,HLT.out,HO3.out,H03.out,H13.out,HB3.out,by omega⟩
   case measure=>rw[HV3.out];show s.size+65-(s.size+1+j+1)<s.size+65-(s.size+1+j);omega
  ·(have ej:j=(119-s.size%64)%64:=by omega);(have hmod:((s.size:Int)+1+(j:Int))%64=56:=by have:=pad_mod s.size;rw[<-ej] at this;omega);(have hj64:j<64:=by omega);have HEJ:=gH ej;clear h0 h1 hb hown hlt ej hj;have hconv:=oL g (s.size+1+j) cap _ hlen;obtain⟨m1,hm1,hm1',em1⟩:∃m:Nat,(s.size:Int)*8/4294967296=(m:Int)/\m<4294967296/\m=8*s.size/4294967296%4294967296:=⟨8*s.size/4294967296%4294967296,by omega,by omega,rfl⟩;obtain⟨m2,hm2,hm2',em2⟩:∃m:Nat,(s.size:Int)*8%4294967296=(m:Int)/\m<4294967296/\m=8*s.size%4294967296:=⟨8*s.size%4294967296,by omega,by omega,rfl⟩;have HPD:=gS ((s.data.toList++128::List.replicate j 0)++Sha.four m1++Sha.four m2=Sha.padded s.data.toList) (by
    rw[em1,em2,HEJ.out];unfold Sha.padded Sha.padding;rw[HL.out];simp only[List.append_assoc,List.cons_append])
   have HE1:=gS (∀W,Calls Tryz.prog 130 #[.int .u32 m1] W fun e w'=>e=.returned (Sv (Sha.four m1))/\Below W.heap.size W w') (fun W=>four_ref m1 W hm1');have HE2:=gS (∀W,Calls Tryz.prog 130 #[.int .u32 m2] W fun e w'=>e=.returned (Sv (Sha.four m2))/\Below W.heap.size W w') (fun W=>four_ref m2 W hm2');have l1:(Sha.four m1).length=4:=rfl;have l2:(Sha.four m2).length=4:=rfl;generalize Sha.four m1=F1 at*;generalize Sha.four m2=F2 at*;generalize s.data.toList++128::List.replicate j 0=T at*;(have ha1:∀W,(Op.stringOp .add ⟨T.toArray⟩ ⟨F1.toArray⟩).run Tryz.prog W=.ok (.string ⟨(T++F1).toArray⟩) W:=fun W=>by rw[run_string_add_sum W _ _ (by simp[ByteArray.size];omega),ByteArray.mk_append_mk]);(have lT1:(T++F1).length=s.size+5+j:=by rw[List.length_append];omega);generalize hT1:T++F1=T1 at*;(have ha2:∀W,(Op.stringOp .add ⟨T1.toArray⟩ ⟨F2.toArray⟩).run Tryz.prog W=.ok (.string ⟨(T1++F2).toArray⟩) W:=fun W=>by rw[run_string_add_sum W _ _ (by simp[ByteArray.size];omega),ByteArray.mk_append_mk]);generalize hT2:T1++F2=T2 at*;have HS:=gH hrg;(have hw1:IntKind.u32.wrap (m1:Int)=(m1:Int):=by rw[IntKind.wrap_u32];omega);(have hw2:IntKind.u32.wrap ((s.size:Int)*8)=(m2:Int):=by rw[IntKind.wrap_u32];exact hm2);clear em1 em2 l1 l2 lT1 hT1 hT2 hlen hm1' hm2';(go_upto_region 5 with fail);have hwlt:g<wr.heap.size:=hg1;clear hmod;go_cut [7] from 27 to 37 (fun v7 wx=>v7=.string ⟨T2.toArray⟩/\Below wr.heap.size wr wx)
   case first=>(go_region_held3 (fun W=>W.rangeAt g 0 (T.map Y)) (first|assumption|exact hrg| (simpa using hrg)) ((first| (go_at_call_of 130 (Value.int IntKind.u32 (m1:Int));refine(HE1.out _).mono ?_;rintro _ w6⟨rfl,hb6⟩;have hS6:=zk hb6 (by simpa using hwlt) (show World.rangeAt _ g 0 (T.map Y) by simpa using hrg);have hs6:wr.heap.size<=w6.heap.size:=hb6.size;have hB6:Below wr.heap.size wr w6:=(show Below wr.heap.size wr wr.drew from(Below.refl _ _).drew).trans hb6)| (go_at_call_of 130 (Value.int IntKind.u32 (m2:Int));refine(HE2.out _).mono ?_;rintro _ w7⟨rfl,hb7⟩;have hS7:=zk hb7 (by omega) hS6;have hB7:Below wr.heap.size wr w7:=hB6.trans (hb7.mono hs6)))));all_goals (go_wp2_with fail);go_meet;exact⟨rfl,hB7⟩
   case rest=>
    obtain⟨rfl,hbc⟩:=hcut;have H0c:=gH ((hbc.block w.heap.size (by omega)).trans H0.out);have H1c:=gH ((hbc.block (w.heap.size+1) (by omega)).trans H1.out);have HBc:=gH (HB.out.trans (hbc.mono (show w.heap.size<=wr.heap.size by omega)));have hsc:=hbc.size;clear hconv hm1 hm2 ha1 ha2 hw1 hw2 hrg HS H0 H1 HB HO HE1 HE2 hbc hg0 hg1 hwlt;have HQ:=gS (T2.length=64*(T2.length/64)) (by have:=Sha.padded_mod s.data.toList;rw[<-HPD.out] at this;omega);have HST:=gS (Sha.stirN T2 (T2.length/64) Sha.start=Sha.state s.data.toList) (by rw[HPD.out];exact Sha.state_padded _);(have hT2:T2.length<=140737488351304:=by have:=Sha.padded_length s.data.toList;rw[<-HPD.out] at this;rw[this,HL.out];omega);have HSZ:=gS ((⟨T2.toArray⟩:ByteArray).size=T2.length) (by simp[ByteArray.size]);have HLL2:=gS (L=(Sha.join (Sha.state s.data.toList)).map Y) HLL.out.symm;generalize T2.length/64=q at*;clear HPD;have HOK:=gH (fun k=>Sha.stirN_ok (l:=T2) k Sha.start_ok);obtain⟨st,hst⟩:∃st,st=Sha.start:=⟨_,rfl⟩;rw[<-hst] at HST HC0 HOK;clear hst;have HRG:=gS (wc.rangeAt w.heap.size 0 ((toL st).map U)) (fun j v hv=>by rw[gC H0c.out,Nat.zero_add];exact HC0.out j v hv);have HN8:=gS (∀o,(wc.alloc o).heap[wc.heap.size]? =some o) (heap_alloc_new wc);have HB8:=gH (fun o=>HBc.out.alloc (show w.heap.size<=wc.heap.size by omega) o);have HO8:=gH (fun o j (hj:j<wc.heap.size)=>Below.heap_alloc wc o j hj);clear HC0;obtain⟨sa,sb,sc,sd,se,sf,sg,sh⟩:=st;(go_upto_region 8 with(first| (refine wpList_load_mid rfl 64 (.tmp 38) rfl w.heap.size 0 rfl [U sa,U sb,U sc,U sd,U se,U sf,U sg,U sh] _ HRG.out Tryz.under28 rfl Tryz.info28 ?_)| (refine wpList_store_row rfl 64 (.tmp 8) (.tmp 39) rfl wc.heap.size #[U sa,U sb,U sc,U sd,U se,U sf,U sg,U sh] rfl rfl 64 _ (HN8.out _) Tryz.info28 rfl rfl ?_)));have HST0:=gS ((wc.alloc (.cells (st8 ⟨sa,sb,sc,sd,se,sf,sg,sh⟩) 64)).heap[wc.heap.size]? =some (.cells (st8 (Sha.stirN T2 0 ⟨sa,sb,sc,sd,se,sf,sg,sh⟩)) 64 (0,0))) (HN8.out _);obtain⟨gh,hgh⟩:∃gh,gh=wc.heap.size:=⟨_,rfl⟩;rw[<-hgh] at HN8 HO8 HST0 hsc;rw[<-hgh];(have hgh2:w.heap.size+2<=gh:=by omega);clear HRG HN8;go_loopw [9] (fun iv wq=>∃k i:Nat,i=64*k/\k<=q/\iv=.int .i64 i/\wq.heap[gh]? =some (.cells (st8 (Sha.stirN T2 k ⟨sa,sb,sc,sd,se,sf,sg,sh⟩)) 64 (0,0))/\wq.heap[w.heap.size]? =some (.cells C 67 (0,0))/\wq.heap[w.heap.size+1]? =some (.cells z 39 (0,0))/\Below w.heap.size w wq) (fun iv _=>T2.length-(intOf iv).toNat)
    case atStart=>exact⟨0,0,rfl,by omega,rfl,HST0.out,(HO8.out _ _ (by omega)).trans H0c.out,(HO8.out _ _ (by omega)).trans H1c.out,HB8.out _⟩
    case round=>
     clear HST0 HO8 HB8 H0c H1c HBc hgh hsc;obtain⟨k,i,hik,hkq,rfl,hrow,h0,h1,hb⟩:=hrel;have HIK:=gH hik;have H0:=gH h0;have H1:=gH h1;have HB:=gH hb;have HROW:=gH hrow;have hsw:gh<wr.heap.size:=(gL hrow);clear h0 h1 hb hrow hik;by_cases hlt:i<T2.length
     ·(have hk:k<q:=by have:=HQ.out;have:=HIK.out;omega);obtain⟨xx,hxx⟩:∃xx,Sha.stirN T2 k ⟨sa,sb,sc,sd,se,sf,sg,sh⟩=xx:=⟨_,rfl⟩;have hok:Sha.Ok xx:=hxx▸HOK.out k;have HNX:=gS (Sha.stirN T2 (k+1) ⟨sa,sb,sc,sd,se,sf,sg,sh⟩=Sha.stir xx ((T2.drop i).take 64)) (by
       show Sha.stir (Sha.stirN T2 k _) ((T2.drop (64*k)).take 64)=_;rw[hxx,HIK.out])
      (rw[hxx] at HROW;clear hxx;have HMIX:=gH (fun W=>mixed_ref C xx.a xx.b xx.c xx.d xx.e xx.f xx.g xx.h ⟨T2.toArray⟩ i W HC.out hok (by rw[HSZ.out];have:=HQ.out;have:=HIK.out;omega) (by rw[HSZ.out];omega));rw[show(⟨T2.toArray⟩:ByteArray).data.toList=T2 from rfl] at HMIX;obtain⟨ya,yb,yc,yd,ye,yf,yg,yh⟩:=xx;generalize Sha.stir _ _=yy at*;(go_wp2_with (first| (refine wpList_load_row rfl 67 (.tmp 2) rfl w.heap.size rfl 67 C (0,0) _ H0.out Tryz.underlying67 rfl (by rw[HC72.out];exact Tryz.infoConst) ?_)| (refine wpList_load_row rfl 64 (.tmp 8) rfl gh rfl 64 #[U ya,U yb,U yc,U yd,U ye,U yf,U yg,U yh] (0,0) _ HROW.out Tryz.underlying64 rfl Tryz.info28 ?_)));refine(HMIX.out _).mono ?_;rintro e' w5⟨rfl,hb5⟩;have HROW5:=gH ((hb5.block gh hsw).trans HROW.out);have H05:=gH ((hb5.block w.heap.size (by omega)).trans H0.out);have H15:=gH ((hb5.block (w.heap.size+1) (by omega)).trans H1.out);have HB5:=gH (HB.out.trans (hb5.mono (show w.heap.size<=wr.heap.size by omega)));clear hb5 HROW H0 H1 HB HMIX;have hM8:(st8 yy).size=8:=rfl;have hM1:(st8 yy).all (·.oneCell')=true:=by rw[<-toL_arr,List.all_toArray,List.all_eq_true];intro v hv;obtain⟨n,_,rfl⟩:=List.mem_map.1 hv;rfl);obtain⟨M,hM⟩:∃M,st8 yy=M:=⟨_,rfl⟩;rw[hM] at hM8 hM1⊢;have HMM:=gH hM;have HM8:=gH hM8;have HM1:=gH hM1;clear hM hM8 hM1;(go_wp2_with (refine wpList_store_row rfl 64 (.tmp 8) (.tmp 50) rfl gh M rfl rfl 64 (st8 ⟨ya,yb,yc,yd,ye,yf,yg,yh⟩) HROW5.out (by rw[HM8.out];exact Tryz.info28) (by rw[HM8.out];rfl) HM1.out ?_));go_roundw
      case rel=>
       refine⟨k+1,i+64,by rw[HIK.out];omega,hk,by go_num,?_,?_,?_,below_setRow HB5.out (by omega) _⟩
       ·rw[HNX.out,HMM.out];exact gW HROW5.out
       ·rw[setRow_other _ _ _ _ (by omega)];exact H05.out
       ·rw[setRow_other _ _ _ _ (by omega)];exact H15.out
      case measure=>simp[intOf];omega
     ·(have ek:k=q:=by have:=HQ.out;have:=HIK.out;omega);rw[ek,HST.out] at HROW;clear ek;obtain⟨xx,hxx⟩:∃xx,Sha.state s.data.toList=xx:=⟨_,rfl⟩;(have hxo:Sha.Ok xx:=by rw[<-hxx];have:=HOK.out q;rw[HST.out] at this;exact this);rw[hxx] at HROW HLL2;clear hxx HLL HST HOK;have HXX:=gS (Sha.Ok xx) hxo;have HN9:=gS (∀o,(wr.alloc o).heap[wr.heap.size]? =some o) (heap_alloc_new wr);have HB9:=gH (fun o=>HB.out.alloc (show w.heap.size<=wr.heap.size by omega) o);have HO9:=gH (fun o j (hj:j<wr.heap.size)=>Below.heap_alloc wr o j hj);have hsx:Sha.Ok xx:=HXX.out;obtain⟨xa,xb,xc,xd,xe,xf,xg,xh⟩:=xx;have HJ:=gS (∃J:List UInt8,J=Sha.join ⟨xa,xb,xc,xd,xe,xf,xg,xh⟩/\J.length=32) (⟨_,rfl,rfl⟩);(go_upto_region 13 with fail);obtain⟨go,hgo⟩:∃go,go=wr.heap.size:=⟨_,rfl⟩;rw[<-hgo] at HN9 HO9 hsw;rw[<-hgo];go_loopw [11] (fun iv wq=>∃i:Nat,i<=32/\iv=.int .i64 i/\wq.heap[go]? =some (.cells (outV (Sha.join ⟨xa,xb,xc,xd,xe,xf,xg,xh⟩) i) 39 (0,0))/\wq.heap[gh]? =some (.cells (st8 ⟨xa,xb,xc,xd,xe,xf,xg,xh⟩) 64 (0,0))/\wq.heap[w.heap.size+1]? =some (.cells z 39 (0,0))/\Below w.heap.size w wq) (fun iv _=>32-(intOf iv).toNat)
      case atStart=>exact⟨0,by omega,rfl,HN9.out _,(HO9.out _ _ (by omega)).trans HROW.out,(HO9.out _ _ (by omega)).trans H1.out,HB9.out _⟩
      case round=>
       clear HN9 HO9 HB9 HROW H0 H1 HB hgo hlt;obtain⟨i,hi,rfl,ho,hh,h1,hb⟩:=hrel;have HO:=gH ho;have HH:=gH hh;have H1:=gH h1;have HB:=gH hb;by_cases hlt:i<32
       ·have hf:wr.frozen? ⟨go,i,none⟩=false:=gF ho;obtain⟨old,hold⟩:∃old,wr.cell? ⟨go,i,none⟩=some old:=by
         rw[gC ho,Array.getElem?_eq_getElem (by rw[outV_size _ _ rfl hi];exact hlt)];exact⟨_,rfl⟩
        have HOS:=gH (outV_set (Sha.join ⟨xa,xb,xc,xd,xe,xf,xg,xh⟩) i rfl hlt);have ix:=idx32 go (i:Int) i rfl hlt;obtain⟨a,b,hab,hb4,ha8⟩:∃a b:Nat,i=4*a+b/\b<4/\a<8:=⟨i/4,i%4,by omega,by omega,by omega⟩;have HG:=gH (join_at ⟨xa,xb,xc,xd,xe,xf,xg,xh⟩ a b ha8 hb4);rw[<-hab] at HG;have hc:=(cell_of_row _ _ a _ _ _ hh).trans (st8_at _ a ha8);have ia:=idx28 gh (a:Int) a rfl ha8;(have hq:(i:Int)/4=(a:Int):=by omega);(have hm:(i:Int)%4=(b:Int):=by omega);have hxl:(toL ⟨xa,xb,xc,xd,xe,xf,xg,xh⟩).getD a 0<4294967296:=toL_lt hsx a;generalize (toL ⟨xa,xb,xc,xd,xe,xf,xg,xh⟩).getD a 0=xv at*;generalize (Sha.join ⟨xa,xb,xc,xd,xe,xf,xg,xh⟩).getD i 0=yv at*;clear ho hh h1 hb;(have hb4':b=0\/b=1\/b=2\/b=3:=by omega);clear hb4 hab;rcases hb4' with rfl|rfl|rfl|rfl
        all_goals
         (go_wp2_with fail);(first|rw[yb0 xv yv hxl HG.out]|rw[yb1 xv yv hxl HG.out]|rw[yb2 xv yv hxl HG.out]|rw[yb3 xv yv hxl HG.out]);refine⟨⟨i+1,hlt,by go_num,?_,?_,?_,HB.out.setCell (by show w.heap.size<=go;omega) _⟩,by simp[intOf];omega⟩
         ·rw[gZ HO.out,HOS.out]
         ·rw[heap_setCell_other _ _ _ _ (by show gh≠go;omega)];exact HH.out
         ·rw[heap_setCell_other _ _ _ _ (by show w.heap.size+1≠go;omega)];exact H1.out
       ·(have e32:i=32:=by omega);subst e32;rw[outV_all _ rfl,<-HLL2.out] at HO;(have hL32:L.toArray.size=32:=by rw[List.size_toArray,HLL2.out,List.length_map];rfl);have hL1:L.toArray.all (·.oneCell')=true:=by
         rw[List.all_toArray,List.all_eq_true];intro v hv;rw[HLL2.out] at hv;obtain⟨n,_,rfl⟩:=List.mem_map.1 hv;rfl
        have HL32:=gH hL32;have HL1:=gH hL1;clear ho hh h1 hb hlt hi hL32 hL1 HH;(go_wp2_with (first| (refine wpList_load_row rfl 39 (.tmp 10) rfl go rfl 39 L.toArray (0,0) _ HO.out Tryz.under22 rfl (by rw[HL32.out];exact Tryz.info22) ?_)| (refine wpList_store_row rfl 39 (.tmp 4) (.tmp 67) rfl (w.heap.size+1) L.toArray rfl rfl 39 z H1.out (by rw[HL32.out];exact Tryz.info22) (by rw[HL32.out,HZ.out]) HL1.out ?_)));refine bodyPost_ret (v:=.agg L.toArray) ?_ rfl ⟨rfl,below_setRow HB.out (by omega) _⟩;exact results_cell_row rfl _ _ (w.heap.size+1) 39 L.toArray (0,0) _ rfl (gW H1.out) Tryz.under22 rfl (by rw[HL32.out];exact Tryz.info22)
theorem worked_const:((Big.Hs++Big.Ks).map U)=constV:=by
 have e:Big.Hs++Big.Ks=toL Sha.start++Sha.Ks:=by kernel_rfl
 rw[constV,e]
def FreshR(w:World)(u u':Value):Prop:=∀k,u'.ownBlock=some k->u.ownBlock=some k\/w.heap.size<=k
structure RMap(w:World)(r:Nat)(u:Value)(L:List Wd.Pt):Prop where
 row:w.heap[r]? =some (.cells (u::constV).toArray 111 (0,0))
 own:Own w 0 u L
 apart:u.ownBlock≠some r
theorem RMap.lt{w:World}{r:Nat}{u:Value}{L:List Wd.Pt}(h:RMap w r u L):r<w.heap.size:=(gL h.row)
theorem RMap.keeps{S:Nat->Prop}{w w':World}{r:Nat}{u:Value}{L:List Wd.Pt}(h:RMap w r u L)(hk:Keeps S w w')(hn:∀k,Mine r u k->¬S k):RMap w' r u L:=⟨(hk.block r h.lt (hn r (.inl rfl))).trans h.row,h.own.keeps hk (fun g hg=>hn g (.inr hg.symm)),h.apart⟩
theorem RMap.mine_lt{w:World}{r:Nat}{u:Value}{L:List Wd.Pt}(h:RMap w r u L){k:Nat}(hk:Mine r u k):k<w.heap.size:=by
 rcases hk with rfl|hk
 ·exact h.lt
 ·exact h.own.lt hk.symm
theorem IsMap.mine_lt{w:World}{m:Nat}{v:Value}{L:List Wd.Pt}(h:IsMap w m v L){k:Nat}(hk:Mine m v k):k<w.heap.size:=by
 rcases hk with rfl|hk
 ·exact h.lt
 ·exact h.own.lt hk.symm
structure Pr where
 m:Nat
 v:Value
 r:Nat
 u:Value
 L:List Wd.Pt
 K:List Wd.Pt
def prV(p:Pr):List Value:=[.pointer (some ⟨p.m,0,none⟩),.pointer (some ⟨p.r,0,none⟩)]
def hdV(h:Nat):Value:=.pointer (some ⟨h,0,none⟩)
structure LawAt(w:World)(W0:Nat)(vp vh:Value)(ps:List Pr)(hs:List Nat):Prop where
 row:w.heap[W0]? =some (.cells (vp::vh::constV).toArray 72 (0,0))
 pairs:w.ownsRow 0 113 2 vp ps.length (ps.flatMap prV)
 holds:w.ownsRow 0 117 1 vh hs.length (hs.map hdV)
 apP:vp.ownBlock≠some W0
 apH:vh.ownBlock≠some W0
 apart:∀g,vp.ownBlock=some g->vh.ownBlock≠some g
def Lawn(W0:Nat)(vp vh:Value)(k:Nat):Prop:=k=W0\/some k=vp.ownBlock\/some k=vh.ownBlock
theorem LawAt.lt{w:World}{W0:Nat}{vp vh:Value}{ps:List Pr}{hs:List Nat}(h:LawAt w W0 vp vh ps hs):W0<w.heap.size:=(gL h.row)
theorem LawAt.lawn_lt{w:World}{W0:Nat}{vp vh:Value}{ps:List Pr}{hs:List Nat}(h:LawAt w W0 vp vh ps hs){k:Nat}(hk:Lawn W0 vp vh k):k<w.heap.size:=by
 rcases hk with rfl|hk|hk
 ·exact h.lt
 ·exact(World.ownsRow.lt h.pairs k hk.symm).2
 ·exact(World.ownsRow.lt h.holds k hk.symm).2
theorem gi{S:Nat->Prop}{w w':World}{B e size n:Nat}{v:Value}{xs:List Value}(h:w.ownsRow B e size v n xs)(hk:Keeps S w w')(hn:∀g,v.ownBlock=some g->¬S g):w'.ownsRow B e size v n xs:=by
 refine⟨h.1,?_⟩;rcases h.2 with h0| ⟨g,cap,cur,rfl,hb,hg,r⟩
 ·exact .inl h0
 ·exact .inr ⟨g,cap,cur,rfl,hb,(hk.block g (gL hg) (hn g rfl)).trans hg,r⟩
theorem LawAt.keeps{S:Nat->Prop}{w w':World}{W0:Nat}{vp vh:Value}{ps:List Pr}{hs:List Nat}(h:LawAt w W0 vp vh ps hs)(hk:Keeps S w w')(hn:∀k,Lawn W0 vp vh k->¬S k):LawAt w' W0 vp vh ps hs:=⟨(hk.block W0 h.lt (hn W0 (.inl rfl))).trans h.row,gi h.pairs hk (fun g hg=>hn g (.inr (.inl hg.symm))),gi h.holds hk (fun g hg=>hn g (.inr (.inr hg.symm))),h.apP,h.apH,h.apart⟩
def markP(m:Int):Wd.Pt:=⟨m,0,0⟩
def Marked(T:Nat->Prop)(w:World)(m:Int)(s:Value):Prop:=∃a n c,s=.slice a n c/\n<=100000/\∀i,i<n->∃g o,a=some ⟨g,o,none⟩/\T g/\PtAt w g (o+i*3) (markP m)
theorem Marked.keeps{S T T':Nat->Prop}{w w':World}{m:Int}{s:Value}(h:Marked T w m s)(hk:Keeps S w w')(hn:∀k,k<w.heap.size->T k->¬S k/\T' k):Marked T' w' m s:=by obtain⟨a,n,c,e,hn',hr⟩:=h;refine⟨a,n,c,e,hn',fun i hi=>?_⟩;obtain⟨g,o,ea,hT,hp⟩:=hr i hi;have hg:=hp.lt;obtain⟨h1,h2⟩:=hn g hg hT;have hc:=fun o'=>World.cell?_of_block (w:=w) (w':=w') (a:=⟨g,o',none⟩) (hk.block g hg h1);exact⟨g,o,ea,h2,⟨(hc _).trans hp.1,(hc _).trans hp.2.1,(hc _).trans hp.2.2⟩⟩
def HoldIs(T:Nat->Prop)(w:World)(h:Nat):Prop:=T h/\∃(vp:Value) (m:Int) (sl:List Value),w.heap[h]? =some (.cells #[vp,I m] 120 (0,0))/\w.ownsRow 0 27 1 vp sl.length sl/\(∀g,vp.ownBlock=some g->T g)/\sl.length<=9/\∀s∈sl,Marked T w m s
theorem HoldIs.keeps{S T T':Nat->Prop}{w w':World}{h:Nat}(hh:HoldIs T w h)(hk:Keeps S w w')(hn:∀k,k<w.heap.size->T k->¬S k/\T' k):HoldIs T' w' h:=by obtain⟨hT,vp,m,sl,h1,h2,h3,h4,h5⟩:=hh;have hlt:h<w.heap.size:=(gL h1);exact⟨(hn h hlt hT).2,vp,m,sl,(hk.block h hlt (hn h hlt hT).1).trans h1,gi h2 hk (fun g hg=>(hn g (World.ownsRow.lt h2 g hg).2 (h3 g hg)).1),fun g hg=>(hn g (World.ownsRow.lt h2 g hg).2 (h3 g hg)).2,h4,fun s hs=>(h5 s hs).keeps hk hn⟩
structure PairIs(T R:Nat->Prop)(w:World)(p:Pr):Prop where
 map:IsMap w p.m p.v p.L
 ref:RMap w p.r p.u p.K
 good:Good p.L
 mt:∀k,Mine p.m p.v k->T k
 rt:∀k,Mine p.r p.u k->R k
theorem PairIs.keeps{S T R T' R':Nat->Prop}{w w':World}{p:Pr}(h:PairIs T R w p)(hk:Keeps S w w')(ht:∀k,k<w.heap.size->T k->¬S k/\T' k)(hr:∀k,k<w.heap.size->R k->¬S k/\R' k):PairIs T' R' w' p:=⟨h.map.keeps hk (fun k hk=>(ht k (h.map.mine_lt hk) (h.mt k hk)).1),h.ref.keeps hk (fun k hk=>(hr k (h.ref.mine_lt hk) (h.rt k hk)).1),h.good,fun k hk=>(ht k (h.map.mine_lt hk) (h.mt k hk)).2,fun k hk=>(hr k (h.ref.mine_lt hk) (h.rt k hk)).2⟩
structure Inv(w0:World)(ow:Nat->Nat)(w:World)(W0:Nat)(vp vh:Value)(ps:List Pr)(hs:List Nat):Prop where
 base:Below w0.heap.size w0 w
 low:∀k,k<w0.heap.size->ow k=0
 law:LawAt w W0 vp vh ps hs
 own1:∀k,Lawn W0 vp vh k->ow k=1
 pair:∀i,(h:i<ps.length)->PairIs (fun k=>ow k=3+2*i) (fun k=>ow k=4+2*i) w ps[i]
 hold:∀h∈hs,HoldIs (fun k=>ow k=2) w h
theorem Inv.keeps{w0 w w':World}{ow ow':Nat->Nat}{W0:Nat}{vp vh:Value}{ps:List Pr}{hs:List Nat}{S:Nat->Prop}(h:Inv w0 ow w W0 vp vh ps hs)(hk:Keeps S w w')(hS:∀k,k<w.heap.size->S k->ow k=0/\w0.heap.size<=k)(ho:∀k,k<w.heap.size->ow k≠0->ow' k=ow k)(hl:∀k,k<w0.heap.size->ow' k=0):Inv w0 ow' w' W0 vp vh ps hs:=by
 have hz:∀k,k<w.heap.size->ow k≠0->¬S k:=fun k hk hne hs=>hne (hS k hk hs).1;refine⟨⟨hk.os.trans h.base.os,hk.tape.trans h.base.tape,hk.output.trans h.base.output,Nat.le_trans h.base.size hk.size,fun j hj=>?_⟩,hl,?_,?_,fun i hi=>?_,fun x hx=>?_⟩
 ·have h1:=h.base.size;exact(hk.block j (by omega) (fun hs=>by have:=(hS j (by omega) hs).2;omega)).trans (h.base.block j hj)
 ·exact h.law.keeps hk (fun k hk=>hz k (h.law.lawn_lt hk) (by rw[h.own1 k hk];decide))
 ·exact fun k hk=>(ho k (h.law.lawn_lt hk) (by rw[h.own1 k hk];decide)).trans (h.own1 k hk)
 ·exact(h.pair i hi).keeps hk (fun k hk e=>⟨hz k hk (by omega),(ho k hk (by omega)).trans e⟩) (fun k hk e=>⟨hz k hk (by omega),(ho k hk (by omega)).trans e⟩)
 ·exact(h.hold x hx).keeps hk (fun k hk e=>⟨hz k hk (by omega),(ho k hk (by omega)).trans e⟩)
theorem Inv.below{w0 w w':World}{ow:Nat->Nat}{W0:Nat}{vp vh:Value}{ps:List Pr}{hs:List Nat}(h:Inv w0 ow w W0 vp vh ps hs)(hb:Below w.heap.size w w'):Inv w0 ow w' W0 vp vh ps hs:=h.keeps (S:=fun _=>False) (Keeps.of_below hb) (fun _ _ h=>h.elim) (fun _ _ _=>rfl) h.low
theorem Inv.clean{w0 w w':World}{ow:Nat->Nat}{W0:Nat}{vp vh:Value}{ps:List Pr}{hs:List Nat}(h:Inv w0 ow w W0 vp vh ps hs)(hb:Below w.heap.size w w'):Inv w0 (fun k=>if k<w.heap.size then ow k else 0) w' W0 vp vh ps hs:=by have hs:=h.base.size;exact h.keeps (S:=fun _=>False) (Keeps.of_below hb) (fun _ _ h=>h.elim) (fun k hk _=>if_pos hk) (fun k hk=>(if_pos (by omega)).trans (h.low k hk))
theorem set_flat(ps:List Pr)(i:Nat)(hi:i<ps.length)(p:Pr)(h:prV p=prV ps[i]):(ps.set i p).flatMap prV=ps.flatMap prV:=by
 induction ps generalizing i with
 |nil=>rfl
 |cons q l ih=>
  cases i with
  |zero=>rw[List.set_cons_zero,List.flatMap_cons,List.flatMap_cons,h];rfl
  |succ i=>rw[List.set_cons_succ,List.flatMap_cons,List.flatMap_cons,ih i (by simpa using hi) (by simpa using h)]
theorem Inv.set{w0 w w':World}{ow:Nat->Nat}{W0:Nat}{vp vh:Value}{ps:List Pr}{hs:List Nat}(h:Inv w0 ow w W0 vp vh ps hs)(i:Nat)(hi:i<ps.length)(o:Nat)(ho:o=3+2*i\/o=4+2*i){S:Nat->Prop}
  (hk:Keeps S w w') (hS:∀k,S k->ow k=o) (p:Pr) (hp:prV p=prV ps[i])
  (hP:PairIs (fun k=>(if k<w.heap.size then ow k else o)=3+2*i) (fun k=>(if k<w.heap.size then ow k else o)=4+2*i) w' p):Inv w0 (fun k=>if k<w.heap.size then ow k else o) w' W0 vp vh (ps.set i p) hs:=by
 have hz:∀k,ow k≠o->¬S k:=fun k hne hs=>hne (hS k hs);have hs0:=h.base.size;refine⟨⟨hk.os.trans h.base.os,hk.tape.trans h.base.tape,hk.output.trans h.base.output,Nat.le_trans h.base.size hk.size,fun j hj=>?_⟩,fun k hk=>(if_pos (by omega)).trans (h.low k hk),?_,?_,fun j hj=>?_,fun x hx=>?_⟩
 ·exact(hk.block j (by omega) (hz j (by rw[h.low j hj];omega))).trans (h.base.block j hj)
 ·have h1:=h.law.keeps hk (fun k hk=>hz k (by rw[h.own1 k hk];omega));exact⟨h1.row,by rw[List.length_set,set_flat ps i hi p hp];exact h1.pairs,h1.holds,h1.apP,h1.apH,h1.apart⟩
 ·exact fun k hk=>(if_pos (h.law.lawn_lt hk)).trans (h.own1 k hk)
 ·rw[List.length_set] at hj;by_cases e:i=j
  ·subst e;rw[List.getElem_set_self];exact hP
  ·rw[List.getElem_set_ne e];exact(h.pair j hj).keeps hk (fun k hk e=>⟨hz k (by omega),(if_pos hk).trans e⟩) (fun k hk e=>⟨hz k (by omega),(if_pos hk).trans e⟩)
 ·exact(h.hold x hx).keeps hk (fun k hk e=>⟨hz k (by omega),(if_pos hk).trans e⟩)
theorem Inv.map{w0 w w':World}{ow:Nat->Nat}{W0:Nat}{vp vh:Value}{ps:List Pr}{hs:List Nat}(h:Inv w0 ow w W0 vp vh ps hs)(i:Nat)(hi:i<ps.length){v':Value}{L':List Wd.Pt}
  (hk:Keeps (Mine ps[i].m ps[i].v) w w') (hm:IsMap w' ps[i].m v' L') (hf:Fresh w ps[i].v v') (hg:Good L'):Inv w0 (fun k=>if k<w.heap.size then ow k else 3+2*i) w' W0 vp vh (ps.set i {ps[i] with v:=v',L:=L'}) hs:=by
 have hp:=h.pair i hi;refine h.set i hi (3+2*i) (.inl rfl) hk (fun k hk=>hp.mt k hk) _ rfl ⟨hm,?_,hg,fun k hk'=>?_,fun k hk'=>?_⟩
 ·exact hp.ref.keeps hk (fun k h1 h2=>by have:=hp.mt k h2;have:=hp.rt k h1;omega)
 ·rcases hk' with rfl|hk'
  ·exact(if_pos hp.map.lt).trans (hp.mt _ (.inl rfl))
  ·rcases hf with hf| ⟨g,hf,hge⟩
   ·rw[hf] at hk';exact(if_pos (hp.map.mine_lt (.inr hk'))).trans (hp.mt k (.inr hk'))
   ·rw[hf] at hk';injection hk' with hk';exact if_neg (by omega)
 ·exact(if_pos (hp.ref.mine_lt hk')).trans (hp.rt k hk')
theorem Inv.ref{w0 w w':World}{ow:Nat->Nat}{W0:Nat}{vp vh:Value}{ps:List Pr}{hs:List Nat}(h:Inv w0 ow w W0 vp vh ps hs)(i:Nat)(hi:i<ps.length){u':Value}{K':List Wd.Pt}
  (hk:Keeps (Mine ps[i].r ps[i].u) w w') (hm:RMap w' ps[i].r u' K') (hf:FreshR w ps[i].u u'):Inv w0 (fun k=>if k<w.heap.size then ow k else 4+2*i) w' W0 vp vh (ps.set i {ps[i] with u:=u',K:=K'}) hs:=by
 have hp:=h.pair i hi;refine h.set i hi (4+2*i) (.inr rfl) hk (fun k hk=>hp.rt k hk) _ rfl ⟨?_,hm,hp.good,fun k hk'=>?_,fun k hk'=>?_⟩
 ·exact hp.map.keeps hk (fun k h1 h2=>by have:=hp.rt k h2;have:=hp.mt k h1;omega)
 ·exact(if_pos (hp.map.mine_lt hk')).trans (hp.mt k hk')
 ·rcases hk' with rfl|hk'
  ·exact(if_pos hp.ref.lt).trans (hp.rt _ (.inl rfl))
  ·rcases hf k hk'.symm with hk'|hge
   ·exact(if_pos (hp.ref.mine_lt (.inr hk'.symm))).trans (hp.rt k (.inr hk'.symm))
   ·exact if_neg (by omega)
theorem Inv.push{w0 w w':World}{ow:Nat->Nat}{W0:Nat}{vp vp' vh:Value}{ps:List Pr}{hs:List Nat}(h:Inv w0 ow w W0 vp vh ps hs){S:Nat->Prop}(hk:Keeps S w w')(hS:∀k,k<w.heap.size->S k->k=W0\/some k=vp.ownBlock)(p:Pr)
  (hl:LawAt w' W0 vp' vh (ps++[p]) hs) (hf:Fresh w vp vp') (hm:IsMap w' p.m p.v p.L) (hr:RMap w' p.r p.u p.K) (hg:Good p.L) (h1:∀k,Mine p.m p.v k->w.heap.size<=k) (h2:∀k,Mine p.r p.u k->w.heap.size<=k) (h3:∀k,Mine p.m p.v k->¬Mine p.r p.u k)
  (h4:∀k,vp'.ownBlock=some k->¬Mine p.m p.v k/\¬Mine p.r p.u k):∃ow',Inv w0 ow' w' W0 vp' vh (ps++[p]) hs:=by
 classical
 refine⟨fun k=>if k<w.heap.size then ow k else if Mine p.m p.v k then 3+2*ps.length else if Mine p.r p.u k then 4+2*ps.length else 1,?_⟩;have hz:∀k,k<w.heap.size->ow k≠1->¬S k:=fun k hk hne hs=>by
  rcases hS k hk hs with e|e
  ·exact hne (h.own1 k (.inl e))
  ·exact hne (h.own1 k (.inr (.inl e)))
 have hs0:=h.base.size;refine⟨⟨hk.os.trans h.base.os,hk.tape.trans h.base.tape,hk.output.trans h.base.output,Nat.le_trans h.base.size hk.size,fun j hj=>?_⟩,fun k hk=>(if_pos (by omega)).trans (h.low k hk),hl,fun k hk=>?_,fun j hj=>?_,fun x hx=>?_⟩
 ·exact(hk.block j (by omega) (hz j (by omega) (by rw[h.low j hj];decide))).trans (h.base.block j hj)
 ·have old:∀k,Lawn W0 vp vh k->(if k<w.heap.size then ow k else if Mine p.m p.v k then 3+2*ps.length else if Mine p.r p.u k then 4+2*ps.length else 1)=1:=fun k hk=>(if_pos (h.law.lawn_lt hk)).trans (h.own1 k hk);rcases hk with hk|hk|hk
  ·exact old k (.inl hk)
  ·rcases hf with hf| ⟨g,hf,hge⟩
   ·exact old k (.inr (.inl (by rw[<-hf];exact hk)))
   ·have h5:=h4 k hk.symm;rw[hf] at hk;injection hk with hk;rw[if_neg (by omega),if_neg h5.1,if_neg h5.2]
  ·exact old k (.inr (.inr hk))
 ·by_cases e:j<ps.length
  ·rw[List.getElem_append_left e];exact(h.pair j e).keeps hk (fun k hk e=>⟨hz k hk (by omega),(if_pos hk).trans e⟩) (fun k hk e=>⟨hz k hk (by omega),(if_pos hk).trans e⟩)
  ·(have ej:j=ps.length:=by simp at hj;omega);subst ej;rw[List.getElem_append_right gR];simp only[Nat.sub_self,List.getElem_cons_zero];refine⟨hm,hr,hg,fun k hk=>?_,fun k hk=>?_⟩
   ·have:=h1 k hk;rw[if_neg (by omega),if_pos hk]
   ·have:=h2 k hk;rw[if_neg (by omega),if_neg (fun e=>h3 k e hk),if_pos hk]
 ·exact(h.hold x hx).keeps hk (fun k hk e=>⟨hz k hk (by omega),(if_pos hk).trans e⟩)
theorem Inv.holdPush{w0 w w':World}{ow:Nat->Nat}{W0:Nat}{vp vh vh':Value}{ps:List Pr}{hs:List Nat}(h:Inv w0 ow w W0 vp vh ps hs){S:Nat->Prop}(hk:Keeps S w w')(O:Nat->Prop)(hO:∀k,k<w.heap.size->O k->ow k=0/\w0.heap.size<=k)(hS:∀k,k<w.heap.size->S k->k=W0\/some k=vh.ownBlock\/O k)(x:Nat)
  (hl:LawAt w' W0 vp vh' ps (hs++[x])) (hf:Fresh w vh vh') (hh:HoldIs (fun k=>(w.heap.size<=k\/O k)/\vh'.ownBlock≠some k) w' x):∃ow',Inv w0 ow' w' W0 vp vh' ps (hs++[x]):=by
 classical
 refine⟨fun k=>if (w.heap.size<=k\/O k)/\vh'.ownBlock≠some k then 2 else if k<w.heap.size then ow k else 1,?_⟩;have hs0:=h.base.size;have hz:∀k,k<w.heap.size->ow k≠1->ow k≠0->¬S k:=fun k hk hne hn0 hs=>by
  rcases hS k hk hs with e|e|e
  ·exact hne (h.own1 k (.inl e))
  ·exact hne (h.own1 k (.inr (.inr e)))
  ·exact hn0 (hO k hk e).1
 have hold:∀k,k<w.heap.size->ow k≠0->(if (w.heap.size<=k\/O k)/\vh'.ownBlock≠some k then 2 else if k<w.heap.size then ow k else 1)=ow k:=fun k hk hne=>by rw[if_neg (fun e=>by rcases e.1 with e|e;(·omega);exact hne (hO k hk e).1),if_pos hk]
 refine⟨⟨hk.os.trans h.base.os,hk.tape.trans h.base.tape,hk.output.trans h.base.output,Nat.le_trans h.base.size hk.size,fun j hj=>?_⟩,fun k hk=>?_,hl,fun k hk=>?_,fun j hj=>?_,fun y hy=>?_⟩
 ·refine(hk.block j (by omega) (fun hs=>?_)).trans (h.base.block j hj);rcases hS j (by omega) hs with e|e|e
  ·have:=h.own1 j (.inl e);rw[h.low j hj] at this;cases this
  ·have:=h.own1 j (.inr (.inr e));rw[h.low j hj] at this;cases this
  ·have:=(hO j (by omega) e).2;omega
 ·rw[if_neg (fun e=>by rcases e.1 with e|e;(·omega);have:=(hO k (by omega) e).2;omega),if_pos (by omega)];exact h.low k hk
 ·have old:∀k,Lawn W0 vp vh k->(if (w.heap.size<=k\/O k)/\vh'.ownBlock≠some k then 2 else if k<w.heap.size then ow k else 1)=1:=fun k hk=>(hold k (h.law.lawn_lt hk) (by rw[h.own1 k hk];decide)).trans (h.own1 k hk);rcases hk with hk|hk|hk
  ·exact old k (.inl hk)
  ·exact old k (.inr (.inl hk))
  ·rcases hf with hf| ⟨g,hf,hge⟩
   ·exact old k (.inr (.inr (by rw[<-hf];exact hk)))
   ·have e:=hk;rw[hf] at hk;injection hk with hk;rw[if_neg (fun h=>h.2 e.symm),if_neg (by omega)]
 ·exact(h.pair j hj).keeps hk (fun k hk e=>⟨hz k hk (by omega) (by omega),(hold k hk (by omega)).trans e⟩) (fun k hk e=>⟨hz k hk (by omega) (by omega),(hold k hk (by omega)).trans e⟩)
 ·rcases List.mem_append.1 hy with hy|hy
  ·exact(h.hold y hy).keeps hk (fun k hk e=>⟨hz k hk (by omega) (by omega),(hold k hk (by omega)).trans e⟩)
  ·rw[List.mem_singleton.1 hy];exact hh.keeps (S:=fun _=>False) (Keeps.refl _ _) (fun k _ e=>⟨fun h=>h,if_pos e⟩)
end Go.Proofs.YtenaelkbgkpllaaGreatDoor
