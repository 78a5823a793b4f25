/- Part 18 of what the four laws rest on: laid by a program out of the texts of wip/T. -/
import Derived.Test.YtenaelkbgkpllaaGreatDoorLaw03
import Derived.Test.YtenaelkbgkpllaaGreatDoorLaw17
set_option maxRecDepth 100000
set_option maxHeartbeats 8000000
namespace Go.Proofs.YtenaelkbgkpllaaGreatDoor
open Go.RowKit
def Moved(w w':World)(v v':Value):Prop:=v'.ownBlock=v.ownBlock\/∃g,v'.ownBlock=some g/\w.heap.size<=g/\Below w.heap.size w w'
theorem Moved.fresh{w w':World}{v v':Value}(h:Moved w w' v v'):Fresh w v v':=by
 rcases h with h| ⟨g,h1,h2,_⟩
 ·exact .inl h
 ·exact .inr ⟨g,h1,h2⟩
theorem run_append_own3{P:Program}(w:World)(base:Nat)(t ty e:TypeId)(i:TypeInfo)(z:Value)(size bytes:Nat)(ht:P.underlying t=some (.slice e))(hi:P.info? e=some i)(hz:i.zero=some z)
  (hsize:i.size=size) (hby:i.bytes=bytes) (hzs:z.cells.size=size) (hsz:0<size)
  (v:Value) (n:Nat) (xs:List Value) (hown:w.ownsRow base e size v n xs)
  (a:Addr) (m c:Nat) (news:List Value) (hl:news.length=m*size) (hnews:∀j u,news[j]? =some u->w.cell? (a.add j)=some u) (h1:∀u∈news,u.oneCell'=true)
  (h63:n+m<=maxLen) (hbytes:(n+m)*bytes<=140737488355328) (hbase:base<=w.heap.size):
  ∃v' w',(Builtin.append_ #[t,t] ty #[v,.slice (some a) m c]).run P w=.ok v' w'/\w'.ownsRow base e size v' (n+m) (xs++news)/\w.grownBy w' v.ownBlock/\Moved w w' v v':=by
 obtain⟨v',w',hr,ho,hg, -⟩:=run_append_own w base t ty e i z size bytes ht hi hz hsize hby hzs hsz v n xs hown a m c news hl hnews h1 h63 hbytes hbase;refine⟨v',w',hr,ho,hg,?_⟩;have h63':=h63;unfold maxLen at h63';rcases hown.2 with⟨rfl,rfl⟩| ⟨g,cap,cur,rfl,hb,hgg,hcap,hmax,hcs,htake⟩
 ·have hbl:Below w.heap.size w w':=⟨hg.os,hg.tape,hg.output,hg.size,fun j hj=>hg.block j hj (by simp[Value.ownBlock])⟩;obtain⟨v2,w2,hr2,ho2, -⟩:=run_append_own w w.heap.size t ty e i z size bytes ht hi hz hsize hby hzs hsz (.slice none 0 0) 0 [] (World.ownsRow_nil _ _ _ _) a m c news hl hnews h1 h63 hbytes gR;rw[hr] at hr2;injection hr2 with e1 e2;subst e1;rcases ho2.2 with⟨rfl,_⟩| ⟨g,cap,cur,rfl,hb,_⟩
  ·exact .inl rfl
  ·exact .inr ⟨g,rfl,hb,hbl⟩
 ·subst hsize;by_cases hroom:n+m<=cap
  ·have hx:n*i.size+news.length<=cur.size:=by
    rw[hl,hcs,<-Nat.add_mul];exact Nat.mul_le_mul_right _ hroom
   have hr2:=run_append_room w t ty e i ht hi g n cap cur hgg a m c news hl hnews h1 hroom hx;rw[hr] at hr2;injection hr2 with e1 e2;subst e1;exact .inl rfl
  ·have hold:∀j u,xs[j]? =some u->w.cell? ((⟨g,0,none⟩:Addr).add j)=some u:=hown.cells rfl;have hr2:=run_append_grow (P:=P) w t ty e i z ht hi hz ⟨g,0,none⟩ n cap xs hown.1 hold a m c news hl hnews (by omega) (by omega) (by rw[hby];exact growslice_fits (by omega) hbytes);rw[hr] at hr2;injection hr2 with e1 e2;subst e1;refine .inr ⟨_,rfl,Nat.le_refl _,?_⟩;rw[e2];exact((Below.refl w.heap.size w).drew).alloc gR _
theorem Tryz.infoRBox:(Tryz.prog.info? 148).map (·.size)=some 4:=by kernel_rfl
theorem gY(n:Int)(w:World):
  Calls Tryz.prog 91 #[I n] w fun e w'=>e=.returned (.bool (Wd.coordOk n))/\w'=w:=by
 by_cases h1: -1000000<=n
 ·by_cases h2:n<=1000000
  ·rw[Wd.gV ⟨h1,h2⟩];(go_enter Tryz.func91,Tryz.ntmps91);go_wp2;go_ret;exact⟨rfl,rfl⟩
  ·rw[Wd.ou (fun h=>h2 h.2)];(go_enter Tryz.func91,Tryz.ntmps91);go_wp2;go_ret;exact⟨rfl,rfl⟩
 ·rw[Wd.ou (fun h=>h1 h.1)];go_enter Tryz.func91,Tryz.ntmps91
  go_wp2;go_ret;exact⟨rfl,rfl⟩
theorem before_ref(p q:Wd.Pt)(w:World):
  Calls Tryz.prog 93 #[.agg #[I p.id,I p.x,I p.y],.agg #[I q.id,I q.x,I q.y]] w fun e w'=>e=.returned (.bool (decide (Wd.lt p q)))/\Below w.heap.size w w':=by
 obtain⟨pi,px,py⟩:=p;obtain⟨qi,qx,qy⟩:=q;have HB:=gH (fun a b=>((gB w a).alloc (by simp) b));by_cases h1:px=qx
 ·by_cases h2:py=qy
  ·by_cases h3:pi<qi
   ·rw[decide_eq_true (show Wd.lt ⟨pi,px,py⟩ ⟨qi,qx,qy⟩ by unfold Wd.lt;simp only;omega)];(go_enter Tryz.func93,Tryz.ntmps93);go_wp2;go_ret;exact⟨rfl,HB.out _ _⟩
   ·rw[decide_eq_false (show ¬Wd.lt ⟨pi,px,py⟩ ⟨qi,qx,qy⟩ by unfold Wd.lt;simp only;omega)];(go_enter Tryz.func93,Tryz.ntmps93);go_wp2;go_ret;exact⟨rfl,HB.out _ _⟩
  ·by_cases h3:py<qy
   ·rw[decide_eq_true (show Wd.lt ⟨pi,px,py⟩ ⟨qi,qx,qy⟩ by unfold Wd.lt;simp only;omega)];(go_enter Tryz.func93,Tryz.ntmps93);go_wp2;go_ret;exact⟨rfl,HB.out _ _⟩
   ·rw[decide_eq_false (show ¬Wd.lt ⟨pi,px,py⟩ ⟨qi,qx,qy⟩ by unfold Wd.lt;simp only;omega)];(go_enter Tryz.func93,Tryz.ntmps93);go_wp2;go_ret;exact⟨rfl,HB.out _ _⟩
 ·by_cases h3:px<qx
  ·rw[decide_eq_true (show Wd.lt ⟨pi,px,py⟩ ⟨qi,qx,qy⟩ by unfold Wd.lt;simp only;omega)];(go_enter Tryz.func93,Tryz.ntmps93);go_wp2;go_ret;exact⟨rfl,HB.out _ _⟩
  ·rw[decide_eq_false (show ¬Wd.lt ⟨pi,px,py⟩ ⟨qi,qx,qy⟩ by unfold Wd.lt;simp only;omega)];(go_enter Tryz.func93,Tryz.ntmps93);go_wp2;go_ret;exact⟨rfl,HB.out _ _⟩
theorem four_ref(n:Nat)(w:World)(hn:n<4294967296):
  Calls Tryz.prog 130 #[.int .u32 n] w fun e w'=>e=.returned (Sv (Wd.four n))/\Below w.heap.size w w':=by
 have HV:=gH (Gx n hn);have hc:=oL w.heap.size 4 4 (Sha.four n) rfl (w.alloc (.cells ((Sha.four n).map Y).toArray 5)) (fun j u hj=>by rw[Nat.zero_add,gC (heap_alloc_new w _),List.getElem?_toArray];exact hj);rw[<-HV.out] at hc;have HB:=gH (fun a=>(gB w a));have HF:=gS (Sha.four n=Wd.four n) rfl;generalize Sha.four n=F at*;go_enter Tryz.func130,Tryz.ntmps130
 go_wp2;go_ret;exact⟨by rw[HF.out];rfl,HB.out _⟩
theorem oR(n:Int)(w:World):
  Calls Tryz.prog 137 #[I n] w fun e w'=>e=.returned (Sv (Wd.fourI n))/\Below w.heap.size w w':=by
 obtain⟨m,h0,hm,he⟩:∃m:Nat,n%4294967296=(m:Int)/\m<4294967296/\Wd.fourI n=Wd.four m:=⟨(n%4294967296).toNat,by omega,by omega,rfl⟩;have HE:=gH he;clear he;go_enter Tryz.func137,Tryz.ntmps137
 go_wp2_with fail
 refine(four_ref m _ hm).mono ?_;rintro e w1⟨rfl,hb⟩;go_wp2_with fail
 go_ret;exact⟨by rw[HE.out];rfl,hb⟩
theorem both_ref(p q:Wd.Box)(w:World):
  Calls Tryz.prog 135 #[Bx p,Bx q] w fun e w'=>e=.returned (Bx (Wd.join p q))/\Below w.heap.size w w':=by
 obtain⟨pa,pb,pc,pd⟩:=p;obtain⟨qa,qb,qc,qd⟩:=q;go_enter Tryz.func135,Tryz.ntmps135
 go_wp2;refine bodyPost_ret (v:=.agg #[I (min pa qa),I (min pb qb),I (max pc qc),I (max pd qd)]) ?_ rfl ⟨rfl,((gB w _).alloc (by simp) _).alloc (by simp;omega) _⟩;exact results_cell_row rfl _ _ (w.heap.size+1+1) 148 #[I (min pa qa),I (min pb qb),I (max pc qc),I (max pd qd)] (0,0) _ rfl (Gl w _ _ _) Tryz.underlying148 rfl Tryz.infoRBox
theorem rturn2(x:Nat)(w:World)(hx:x<4294967296):
  Calls Tryz.prog 159 #[.int .u32 x,.int .i64 2] w fun e w'=>e=.returned (.int .u32 (Sha.ror 2 x:Nat))/\∃n,w'=w.drewN n:=by
 go_enter Tryz.func159,Tryz.ntmps159
 go_wp2;go_quiet (fail)
 go_wp2;go_ret;refine⟨gq ?_,nq,rfl⟩;rw[Sha.ror,Nat.or_comm];exact or32 (x/4) (x*1073741824%4294967296) (by omega) (by omega) (Sha.div_lt hx) (Nat.mod_lt _ (by decide))
theorem rturn6(x:Nat)(w:World)(hx:x<4294967296):
  Calls Tryz.prog 159 #[.int .u32 x,.int .i64 6] w fun e w'=>e=.returned (.int .u32 (Sha.ror 6 x:Nat))/\∃n,w'=w.drewN n:=by
 go_enter Tryz.func159,Tryz.ntmps159
 go_wp2;go_quiet (fail)
 go_wp2;go_ret;refine⟨gq ?_,nq,rfl⟩;rw[Sha.ror,Nat.or_comm];exact or32 (x/64) (x*67108864%4294967296) (by omega) (by omega) (Sha.div_lt hx) (Nat.mod_lt _ (by decide))
theorem rturn7(x:Nat)(w:World)(hx:x<4294967296):
  Calls Tryz.prog 159 #[.int .u32 x,.int .i64 7] w fun e w'=>e=.returned (.int .u32 (Sha.ror 7 x:Nat))/\∃n,w'=w.drewN n:=by
 go_enter Tryz.func159,Tryz.ntmps159
 go_wp2;go_quiet (fail)
 go_wp2;go_ret;refine⟨gq ?_,nq,rfl⟩;rw[Sha.ror,Nat.or_comm];exact or32 (x/128) (x*33554432%4294967296) (by omega) (by omega) (Sha.div_lt hx) (Nat.mod_lt _ (by decide))
theorem rturn11(x:Nat)(w:World)(hx:x<4294967296):
  Calls Tryz.prog 159 #[.int .u32 x,.int .i64 11] w fun e w'=>e=.returned (.int .u32 (Sha.ror 11 x:Nat))/\∃n,w'=w.drewN n:=by
 go_enter Tryz.func159,Tryz.ntmps159
 go_wp2;go_quiet (fail)
 go_wp2;go_ret;refine⟨gq ?_,nq,rfl⟩;rw[Sha.ror,Nat.or_comm];exact or32 (x/2048) (x*2097152%4294967296) (by omega) (by omega) (Sha.div_lt hx) (Nat.mod_lt _ (by decide))
theorem rturn13(x:Nat)(w:World)(hx:x<4294967296):
  Calls Tryz.prog 159 #[.int .u32 x,.int .i64 13] w fun e w'=>e=.returned (.int .u32 (Sha.ror 13 x:Nat))/\∃n,w'=w.drewN n:=by
 go_enter Tryz.func159,Tryz.ntmps159
 go_wp2;go_quiet (fail)
 go_wp2;go_ret;refine⟨gq ?_,nq,rfl⟩;rw[Sha.ror,Nat.or_comm];exact or32 (x/8192) (x*524288%4294967296) (by omega) (by omega) (Sha.div_lt hx) (Nat.mod_lt _ (by decide))
theorem rturn17(x:Nat)(w:World)(hx:x<4294967296):
  Calls Tryz.prog 159 #[.int .u32 x,.int .i64 17] w fun e w'=>e=.returned (.int .u32 (Sha.ror 17 x:Nat))/\∃n,w'=w.drewN n:=by
 go_enter Tryz.func159,Tryz.ntmps159
 go_wp2;go_quiet (fail)
 go_wp2;go_ret;refine⟨gq ?_,nq,rfl⟩;rw[Sha.ror,Nat.or_comm];exact or32 (x/131072) (x*32768%4294967296) (by omega) (by omega) (Sha.div_lt hx) (Nat.mod_lt _ (by decide))
theorem rturn18(x:Nat)(w:World)(hx:x<4294967296):
  Calls Tryz.prog 159 #[.int .u32 x,.int .i64 18] w fun e w'=>e=.returned (.int .u32 (Sha.ror 18 x:Nat))/\∃n,w'=w.drewN n:=by
 go_enter Tryz.func159,Tryz.ntmps159
 go_wp2;go_quiet (fail)
 go_wp2;go_ret;refine⟨gq ?_,nq,rfl⟩;rw[Sha.ror,Nat.or_comm];exact or32 (x/262144) (x*16384%4294967296) (by omega) (by omega) (Sha.div_lt hx) (Nat.mod_lt _ (by decide))
theorem rturn19(x:Nat)(w:World)(hx:x<4294967296):
  Calls Tryz.prog 159 #[.int .u32 x,.int .i64 19] w fun e w'=>e=.returned (.int .u32 (Sha.ror 19 x:Nat))/\∃n,w'=w.drewN n:=by
 go_enter Tryz.func159,Tryz.ntmps159
 go_wp2;go_quiet (fail)
 go_wp2;go_ret;refine⟨gq ?_,nq,rfl⟩;rw[Sha.ror,Nat.or_comm];exact or32 (x/524288) (x*8192%4294967296) (by omega) (by omega) (Sha.div_lt hx) (Nat.mod_lt _ (by decide))
theorem rturn22(x:Nat)(w:World)(hx:x<4294967296):
  Calls Tryz.prog 159 #[.int .u32 x,.int .i64 22] w fun e w'=>e=.returned (.int .u32 (Sha.ror 22 x:Nat))/\∃n,w'=w.drewN n:=by
 go_enter Tryz.func159,Tryz.ntmps159
 go_wp2;go_quiet (fail)
 go_wp2;go_ret;refine⟨gq ?_,nq,rfl⟩;rw[Sha.ror,Nat.or_comm];exact or32 (x/4194304) (x*1024%4294967296) (by omega) (by omega) (Sha.div_lt hx) (Nat.mod_lt _ (by decide))
theorem rturn25(x:Nat)(w:World)(hx:x<4294967296):
  Calls Tryz.prog 159 #[.int .u32 x,.int .i64 25] w fun e w'=>e=.returned (.int .u32 (Sha.ror 25 x:Nat))/\∃n,w'=w.drewN n:=by
 go_enter Tryz.func159,Tryz.ntmps159
 go_wp2;go_quiet (fail)
 go_wp2;go_ret;refine⟨gq ?_,nq,rfl⟩;rw[Sha.ror,Nat.or_comm];exact or32 (x/33554432) (x*128%4294967296) (by omega) (by omega) (Sha.div_lt hx) (Nat.mod_lt _ (by decide))
theorem number_ref(s:ByteArray)(k:Nat)(w:World)(hk:k+4<=s.size)(hs:s.size<=maxLen):
  Calls Tryz.prog 158 #[.string s,.int .i64 k] w fun e w'=>e=.returned (.int .u32 (Sha.word s.data.toList k:Nat))/\∃n,w'=w.drewN n:=by
 unfold maxLen at hs;have i0:=oX s k k rfl (by omega);have i1:=oX s (k+1) (k+1) rfl (by omega);have i2:=oX s (k+2) (k+2) rfl (by omega);have i3:=oX s (k+3) (k+3) rfl (by omega);have b0:=Sha.byteAt_lt s.data.toList k;have b1:=Sha.byteAt_lt s.data.toList (k+1);have b2:=Sha.byteAt_lt s.data.toList (k+2);have b3:=Sha.byteAt_lt s.data.toList (k+3);have HW:=gH (Wd.zG s.data.toList k);generalize Sha.word s.data.toList k=W at*;generalize Sha.byteAt s.data.toList k=B0 at*;generalize Sha.byteAt s.data.toList (k+1)=B1 at*;generalize Sha.byteAt s.data.toList (k+2)=B2 at*;generalize Sha.byteAt s.data.toList (k+3)=B3 at*;go_enter Tryz.func158,Tryz.ntmps158
 go_wp2;go_quiet (fail)
 go_wp2;go_ret;refine⟨gq ?_,nq,rfl⟩;rw[HW.out];omega
def constV:List Value:=(toL Sha.start++Sha.Ks).map U
theorem oE:constV.length=72:=by rw[constV,List.length_map];rfl
theorem constV_at(t:Nat)(h:t<64):constV.toArray[8+t]? =some (U (Sha.Ks.getD t 0)):=by
 have e:(toL Sha.start++Sha.Ks)[8+t]? =some (Sha.Ks.getD t 0):=by rw[List.getElem?_append_right (by rw[toL_length];omega),toL_length,show 8+t-8=t by omega,List.getD_eq_getElem?_getD,List.getElem?_eq_getElem (show t<Sha.Ks.length by rw[Ks_length];exact h),Option.getD_some]
 rw[List.getElem?_toArray,constV,List.getElem?_map,e,Option.map_some]
theorem add_offR(g o k:Nat):(⟨g,o,none⟩:Addr).add k=⟨g,o+k,none⟩:=by unfold Addr.add;split<;>simp_all
theorem idx64o(g o:Nat)(i:Int)(k:Nat)(h:i=k)(hk:k<64)(W:World):
  (Instr.indexAt 65 (.pointer (some ⟨g,o,none⟩)) (.int .i64 i)).run Tryz.prog W=.ok (.pointer (some ⟨g,o+k,none⟩)) W:=by
 subst h;rw[run_indexAt_array W 65 _ _ _ Tryz.array37,Tryz.arrayLen37,Tryz.elem37,if_pos (by omega),Tryz.size27];simp only[Result.andThen_ok,add_offR,Int.toNat_natCast,Nat.mul_one]
theorem rowU_set'{w:World}{g i t:Nat}{l:List Nat}{x:Nat}(h:w.heap[g]? =some (.cells (l.map U).toArray t (0,0))):
  (w.setCell ⟨g,i,none⟩ (U x)).heap[g]? =some (.cells ((l.set i x).map U).toArray t (0,0)):=by
 rw[gZ h,List.setIfInBounds_toArray,List.map_set]
theorem arr_take(S:List Nat)(hS:S.length=64)(k:Nat)(hk:k<64):(arr (S.take k)).setIfInBounds k (U (S.getD k 0))=arr (S.take (k+1)):=by have h:=arr_snoc (S.take k) (S.getD k 0) (by rw[List.length_take];omega);rw[List.length_take,hS,Nat.min_eq_left (by omega)] at h;rw[h,List.take_succ_eq_append_getElem (by omega),List.getD_eq_getElem?_getD,List.getElem?_eq_getElem (by omega),Option.getD_some]
theorem arr_take_at(S:List Nat)(hS:S.length=64)(k j:Nat)(hk:k<=64)(hj:j<k):(arr (S.take k))[j]? =some (U (S.getD j 0)):=by rw[arr_at _ _ (by omega) (by rw[List.length_take];omega),List.getD_eq_getElem?_getD,List.getElem?_take_of_lt hj,<-List.getD_eq_getElem?_getD]
structure Mx(C:Array Value)(w:World)(s:Sha.St)(z:Array Value)(A:Array Value)(m:Nat)(wq:World):Prop where
 sz:wq.heap.size=w.heap.size+m
 r0:wq.heap[w.heap.size]? =some (.cells C 67 (0,0))
 r1:wq.heap[w.heap.size+1]? =some (.cells (st8 s) 64 (0,0))
 r2:wq.heap[w.heap.size+2]? =some (.cells z 64 (0,0))
 r3:wq.heap[w.heap.size+3]? =some (.cells A 65 (0,0))
 bl:Below w.heap.size w wq
theorem Mx.drewN{w:World}{s:Sha.St}{C z A:Array Value}{m:Nat}{wq:World}(h:Mx C w s z A m wq)(n:Nat):Mx C w s z A m (wq.drewN n):=⟨by rw[drewN_heap];exact h.sz,by rw[drewN_heap];exact h.r0,by rw[drewN_heap];exact h.r1,by rw[drewN_heap];exact h.r2,by rw[drewN_heap];exact h.r3,below_drewN h.bl n⟩
theorem Mx.set3{w:World}{s:Sha.St}{C z A:Array Value}{m:Nat}{wq:World}(h:Mx C w s z A m wq)(i:Nat)(v:Value):Mx C w s z (A.setIfInBounds i v) m (wq.setCell ⟨w.heap.size+3,i,none⟩ v):=⟨by simpa using h.sz,by rw[heap_setCell_other _ _ _ _ (by simp)];exact h.r0,by rw[heap_setCell_other _ _ _ _ (by simp)];exact h.r1,by rw[heap_setCell_other _ _ _ _ (by simp)];exact h.r2,gZ h.r3,h.bl.setCell (by simp) _⟩
theorem Mx.set4{w:World}{s:Sha.St}{C z A:Array Value}{m:Nat}{wq:World}(h:Mx C w s z A m wq)(i:Nat)(v:Value):Mx C w s z A m (wq.setCell ⟨w.heap.size+4,i,none⟩ v):=⟨by simpa using h.sz,by rw[heap_setCell_other _ _ _ _ (by simp)];exact h.r0,by rw[heap_setCell_other _ _ _ _ (by simp)];exact h.r1,by rw[heap_setCell_other _ _ _ _ (by simp)];exact h.r2,by rw[heap_setCell_other _ _ _ _ (by simp)];exact h.r3,h.bl.setCell (by simp) _⟩
theorem Mx.more{w:World}{s:Sha.St}{C z A:Array Value}{wq:World}(h:Mx C w s z A 4 wq)(o:Obj):Mx C w s z A 5 (wq.alloc o):=⟨by simp[h.sz],by rw[Below.heap_alloc _ _ _ (by rw[h.sz];omega)];exact h.r0,by rw[Below.heap_alloc _ _ _ (by rw[h.sz];omega)];exact h.r1,by rw[Below.heap_alloc _ _ _ (by rw[h.sz];omega)];exact h.r2,by rw[Below.heap_alloc _ _ _ (by rw[h.sz];omega)];exact h.r3,h.bl.alloc (by rw[h.sz];omega) _⟩
theorem mx_start(C z A:Array Value)(w:World)(s:Sha.St):Mx C w s z A 4 ((((w.alloc (.cells C 67)).alloc (.cells (st8 s) 64)).alloc (.cells z 64)).alloc (.cells A 65)):=by
 have h:=fun(a:Obj) (W:World) (j:Nat) (hj:j<W.heap.size)=>Below.heap_alloc W a j hj;have h2:=fun(a:Obj) (W:World)=>heap_alloc_new W a;refine⟨by simp,?_,?_,?_,?_,((((gB w _).alloc (by simp) _).alloc (by simp;omega) _).alloc (by simp;omega) _)⟩
 ·rw[h _ _ _ (by simp;omega),h _ _ _ (by simp;omega),h _ _ _ (by simp)];exact h2 _ _
 ·rw[h _ _ _ (by simp),h _ _ _ (by simp)];have:=h2 (.cells (st8 s) 64) (w.alloc (.cells C 67));simpa using this
 ·rw[h _ _ _ (by simp)];have:=h2 (.cells z 64) ((w.alloc (.cells C 67)).alloc (.cells (st8 s) 64));simpa using this
 ·have:=h2 (.cells A 65) (((w.alloc (.cells C 67)).alloc (.cells (st8 s) 64)).alloc (.cells z 64));simpa using this
theorem re_cast2(d h s c k w:Nat):((d:Int)+((h:Int)+s+c+k+w))%4294967296=(((d+((((h+s)%4294967296+c)%4294967296+k)%4294967296+w)%4294967296)%4294967296:Nat):Int):=by omega
theorem ra_cast2(h s c k w u v:Nat):((h:Int)+s+c+k+w+((u:Int)+v))%4294967296=((((((((h+s)%4294967296+c)%4294967296+k)%4294967296+w)%4294967296)+(u+v)%4294967296)%4294967296:Nat):Int):=by omega
theorem number_refI(s:ByteArray)(x:Int)(k:Nat)(w:World)(hx:x=k)(hk:k+4<=s.size)(hs:s.size<=maxLen):
  Calls Tryz.prog 158 #[.string s,.int .i64 x] w fun e w'=>e=.returned (.int .u32 (Sha.word s.data.toList k:Nat))/\∃n,w'=w.drewN n:=by
 subst hx;exact number_ref s k w hk hs
theorem mixed_ref(C:Array Value)(a b c d e f g h:Nat)(bs:ByteArray)(i:Nat)(w:World)(hC:∀t,t<64->C[8+t]? =some (U (Sha.Ks.getD t 0)))(hs:Sha.Ok ⟨a,b,c,d,e,f,g,h⟩)(hi:i+64<=bs.size)(hb:bs.size<=281474976710656):
  Calls Tryz.prog 131 #[.agg C,.agg #[U a,U b,U c,U d,U e,U f,U g,U h],.string bs,I i] w fun e' w'=>e'=.returned (.agg (st8 (Sha.stir ⟨a,b,c,d,e,f,g,h⟩ ((bs.data.toList.drop i).take 64))))/\Below w.heap.size w w':=by
 have HS:=gH hs;have HM:=gS (bs.size<=maxLen) (by unfold maxLen;omega);have HC:=gH hC;have HBS:=gH hb;have HI:=gH hi;have HW:=gH (fun t (ht:t<16)=>(Sha.spread_low ((bs.data.toList.drop i).take 64) t ht).trans (Sha.word_part bs.data.toList i (4*t) (by omega)));have HH:=gH (Sha.spread_high ((bs.data.toList.drop i).take 64));have HSL:=gS ((Sha.spreadTo ((bs.data.toList.drop i).take 64) 48).length=64) (by rw[Sha.spreadTo_length]);have HSlt:=gH (Sha.getD_lt (Sha.spreadTo_lt ((bs.data.toList.drop i).take 64) 48));have HST:=gS (Sha.stir ⟨a,b,c,d,e,f,g,h⟩ ((bs.data.toList.drop i).take 64)=Sha.add ⟨a,b,c,d,e,f,g,h⟩ (Sha.rounds (Sha.spreadTo ((bs.data.toList.drop i).take 64) 48) 64 ⟨a,b,c,d,e,f,g,h⟩)) rfl;generalize Sha.spreadTo ((bs.data.toList.drop i).take 64) 48=S at*;rw[HST.out];have hi0:i<=281474976710656:=by omega
 clear hs hC hb hi HST;go_enter Tryz.func131,Tryz.ntmps131
 go_wp2_with fail
 obtain⟨z,hz,hz8⟩:∃z:Array Value,z= #[U 0,U 0,U 0,U 0,U 0,U 0,U 0,U 0]/\z.size=8:=⟨_,rfl,rfl⟩;have HZ8:=gH hz8;clear hz8;go_loopw [10] (fun iv wq=>∃k:Nat,k<=64/\iv=.int .i64 k/\Mx C w ⟨a,b,c,d,e,f,g,h⟩ z (arr (S.take k)) 4 wq) (fun iv _=>64-(intOf iv).toNat)
 case atStart=>subst hz;exact⟨0,by omega,rfl,mx_start _ _ _ _ _⟩
 case round=>
  clear hz;obtain⟨k,hk,rfl,hmx⟩:=hrel;have HMX:=gH hmx;by_cases hlt:k<64
  ·have hf:wr.frozen? ⟨w.heap.size+3,k,none⟩=false:=gF hmx.r3;have hcell:=fun j (hj:j<k)=>(cell_of_row _ _ j _ _ _ hmx.r3).trans (arr_take_at S HSL.out k j (by omega) hj);have HNX:=gH (arr_take S HSL.out k hlt);obtain⟨old,hold⟩:∃old,wr.cell? ⟨w.heap.size+3,k,none⟩=some old:=by
    rw[gC hmx.r3,arr_at _ _ hlt (by rw[List.length_take];omega)];exact⟨_,rfl⟩
   clear hmx;by_cases h16:k<16
   ·have ix:=idx37 (w.heap.size+3) (k:Int) k rfl hlt;have HWk:=gH (HW.out k h16);clear hcell;(go_wp2_with fail);refine(number_refI bs _ (i+4*k) _ (by omega) (by have:=HI.out;omega) HM.out).mono ?_;rintro e' w'⟨rfl,nq,rfl⟩;go_wp2;refine⟨⟨k+1,by omega,by go_num,?_⟩,by simp[intOf];omega⟩;rw[<-HWk.out,<-HNX.out];exact(HMX.out.drewN nq).set3 k _
   ·obtain⟨n,rfl⟩:∃n,k=n+16:=⟨k-16,by omega⟩;(have hn:n<48:=by omega);have HHn:=gH (HH.out n hn);have c14:=hcell (n+14) (by omega);have c9:=hcell (n+9) (by omega);have c1:=hcell (n+1) (by omega);have c0:=hcell n (by omega);have l14:=HSlt.out (n+14);have l9:=HSlt.out (n+9);have l1:=HSlt.out (n+1);have l0:=HSlt.out n;clear hcell;generalize S.getD (n+14) 0=x14 at*;generalize S.getD (n+9) 0=x9 at*;generalize S.getD (n+1) 0=x1 at*;generalize S.getD n 0=x0 at*;generalize S.getD (n+16) 0=x16 at*;obtain⟨t,ht⟩:∃t:Int,t=((n+16:Nat):Int):=⟨_,rfl⟩;(have t0:16<=t:=by omega);(have t1:t<64:=by omega);have i14:=idx37 (w.heap.size+3) (t-2) (n+14) (by omega) (by omega);have i9:=idx37 (w.heap.size+3) (t-7) (n+9) (by omega) (by omega);have i1:=idx37 (w.heap.size+3) (t-15) (n+1) (by omega) (by omega);have i0:=idx37 (w.heap.size+3) (t-16) n (by omega) (by omega);have i16:=idx37 (w.heap.size+3) t (n+16) (by omega) (by omega);have w14:=gj (t-2) (by omega) (by omega);have w9:=gj (t-7) (by omega) (by omega);have w1:=gj (t-15) (by omega) (by omega);have w0:=gj (t-16) (by omega) (by omega);have HT:Hid (t=((n+16:Nat):Int)):=ht;rw[<-ht];have HLT:Hid (n<48):=hn;clear ht hlt hn h16 hk;have hx14:bits BinOp.xor IntKind.u32 (bits BinOp.xor IntKind.u32 (Sha.ror 17 x14:Nat) (Sha.ror 19 x14:Nat)) ((x14:Int)/1024)=(Sha.ss1 x14:Nat):=xor32 (Sha.ror 17 x14 ^^^ Sha.ror 19 x14) (x14/1024) (xor32 _ _ rfl rfl (Sha.ror_lt l14) (Sha.ror_lt l14)) (by omega) (Sha.xor_lt (Sha.ror_lt l14) (Sha.ror_lt l14)) (Sha.div_lt l14);have hx1:bits BinOp.xor IntKind.u32 (bits BinOp.xor IntKind.u32 (Sha.ror 7 x1:Nat) (Sha.ror 18 x1:Nat)) ((x1:Int)/8)=(Sha.ss0 x1:Nat):=xor32 (Sha.ror 7 x1 ^^^ Sha.ror 18 x1) (x1/8) (xor32 _ _ rfl rfl (Sha.ror_lt l1) (Sha.ror_lt l1)) (by omega) (Sha.xor_lt (Sha.ror_lt l1) (Sha.ror_lt l1)) (Sha.div_lt l1);have s14:=Sha.ss1_lt l14;have s1:=Sha.ss0_lt l1;have HR:=gH (And.intro (Sha.ror_lt (n:=7) l1) (And.intro (Sha.ror_lt (n:=18) l1) (And.intro (Sha.ror_lt (n:=17) l14) (Sha.ror_lt (n:=19) l14))));generalize Sha.ss1 x14=y14 at*;generalize Sha.ss0 x1=y1 at*;(go_wp2_with fail);(go_quiet (first| (go_at_call_of 159 (Value.int IntKind.i64 7);exact Calls.quiet_of (rturn7 x1 _ l1))| (go_at_call_of 159 (Value.int IntKind.i64 18);exact Calls.quiet_of (rturn18 x1 _ l1))));(have e14:(wr.drewN nq).cell? ⟨w.heap.size+3,n+14,none⟩=some (U x14):=by simpa using c14);(have e9:(wr.drewN nq).cell? ⟨w.heap.size+3,n+9,none⟩=some (U x9):=by simpa using c9);(have e0:(wr.drewN nq).cell? ⟨w.heap.size+3,n,none⟩=some (U x0):=by simpa using c0);(have e16:(wr.drewN nq).cell? ⟨w.heap.size+3,n+16,none⟩=some old:=by simpa using hold);(have ef:(wr.drewN nq).frozen? ⟨w.heap.size+3,n+16,none⟩=false:=by simpa using hf);have HMX2:=gH (HMX.out.drewN nq);clear c14 c9 c1 c0 hold hf HMX i1 w1;generalize wr.drewN nq=w2 at*;(go_wp2_with fail);(go_quiet (first| (go_at_call_of 159 (Value.int IntKind.i64 17);exact Calls.quiet_of (rturn17 x14 _ l14))| (go_at_call_of 159 (Value.int IntKind.i64 19);exact Calls.quiet_of (rturn19 x14 _ l14))));(have f9:(w2.drewN nq).cell? ⟨w.heap.size+3,n+9,none⟩=some (U x9):=by simpa using e9);(have f0:(w2.drewN nq).cell? ⟨w.heap.size+3,n,none⟩=some (U x0):=by simpa using e0);(have f16:(w2.drewN nq).cell? ⟨w.heap.size+3,n+16,none⟩=some old:=by simpa using e16);(have ff:(w2.drewN nq).frozen? ⟨w.heap.size+3,n+16,none⟩=false:=by simpa using ef);have HMX3:=gH (HMX2.out.drewN nq);clear e14 e9 e0 e16 ef HMX2 i14 w14;generalize w2.drewN nq=w3 at*;(go_wp2_with fail);go_region_held3 (fun w'=>w'.cell? ⟨w.heap.size+3,n+9,none⟩=some (U x9)/\w'.cell? ⟨w.heap.size+3,n,none⟩=some (U x0)/\(∃v,w'.cell? ⟨w.heap.size+3,n+16,none⟩=some v)/\w'.frozen? ⟨w.heap.size+3,n+16,none⟩=false) (first|exact⟨f9,f0,⟨_,f16⟩,ff⟩|exact⟨cs_ne f9 (by omega),cs_ne f0 (by omega),⟨_,cs_eq f16⟩,by simp[ff]⟩) (fail)
    all_goals
     go_wp2;go_roundw
     case rel=>have hlt:=HLT.out;refine⟨n+16+1,by omega,by rw[HT.out];go_num,?_⟩;rw[<-HNX.out,HHn.out,next_cast];exact(HMX3.out.set3 (n+16) _).drewN 1
     case measure=>have:=HT.out;have:=HLT.out;simp[intOf];omega
  ·(have e64:k=64:=by omega);subst e64;have eS:S.take 64=S:=List.take_of_length_le (by rw[HSL.out];omega);rw[eS] at hmx HMX;have hsz:=hmx.sz;have H1:=gH hmx.r1;clear hmx eS hlt hk;have HA4:=gS (∀o,(wr.alloc o).heap[w.heap.size+4]? =some o) (by intro o;rw[<-HMX.out.sz];exact heap_alloc_new wr o);have HMM:=gH (fun o=>HMX.out.more o);(go_wp2_with (first| (refine wpList_load_row rfl 64 (.tmp 5) rfl (w.heap.size+1) rfl 64 #[U a,U b,U c,U d,U e,U f,U g,U h] (0,0) _ H1.out Tryz.underlying64 rfl Tryz.info28 ?_)| (refine wpList_store_row rfl 64 (.tmp 13) (.tmp 86) rfl (w.heap.size+4) #[U a,U b,U c,U d,U e,U f,U g,U h] rfl rfl 64 _ (HA4.out _) Tryz.info28 rfl rfl ?_)));have HB0:=gS (Mx C w ⟨a,b,c,d,e,f,g,h⟩ z (arr S) 5 (wr.alloc (.cells (st8 ⟨a,b,c,d,e,f,g,h⟩) 64))/\(wr.alloc (.cells (st8 ⟨a,b,c,d,e,f,g,h⟩) 64)).heap[w.heap.size+4]? =some (.cells (st8 ⟨a,b,c,d,e,f,g,h⟩) 64 (0,0))) (⟨HMM.out _,HA4.out _⟩);clear HMX hsz H1 HA4 HMM;go_loopw [14] (fun iv wq=>∃n:Nat,n<=64/\iv=.int .i64 n/\∃r:Sha.St,Sha.rounds S n ⟨a,b,c,d,e,f,g,h⟩=r/\Mx C w ⟨a,b,c,d,e,f,g,h⟩ z (arr S) 5 wq/\wq.heap[w.heap.size+4]? =some (.cells (st8 r) 64 (0,0))) (fun iv _=>64-(intOf iv).toNat)
   case atStart=>exact⟨0,by omega,rfl,_,rfl,HB0.out.1,HB0.out.2⟩
   case round=>
    clear HB0;obtain⟨n,hn,rfl,r,hr,hmx,hrow⟩:=hrel;have hok:Sha.Ok r:=hr▸Sha.rounds_ok n HS.out;have HRr:=gH hr;clear hr;obtain⟨ra,rb,rc,rd,re,rf,rg,rh⟩:=r;obtain⟨oa,ob,oc,od,oe,of,og,oh⟩:=hok;dsimp only at oa ob oc od oe of og oh⊢;have HMX:=gH hmx;have HROW:=gH hrow;(have c0:wr.cell? ⟨w.heap.size+4,0,none⟩=some (U ra):=by rw[gC hrow];rfl);(have c1:wr.cell? ⟨w.heap.size+4,1,none⟩=some (U rb):=by rw[gC hrow];rfl);(have c2:wr.cell? ⟨w.heap.size+4,2,none⟩=some (U rc):=by rw[gC hrow];rfl);(have c4:wr.cell? ⟨w.heap.size+4,4,none⟩=some (U re):=by rw[gC hrow];rfl);(have c5:wr.cell? ⟨w.heap.size+4,5,none⟩=some (U rf):=by rw[gC hrow];rfl);(have c6:wr.cell? ⟨w.heap.size+4,6,none⟩=some (U rg):=by rw[gC hrow];rfl);(have c7:wr.cell? ⟨w.heap.size+4,7,none⟩=some (U rh):=by rw[gC hrow];rfl);by_cases hlt:n<64
    ·have hk:=(cell_of_row _ _ (8+n) _ _ _ hmx.r0).trans (HC.out n hlt);have hw:=(cell_of_row _ _ n _ _ _ hmx.r3).trans (arr_at S n hlt (by rw[HSL.out];omega));have ik:=idx64o w.heap.size 8 (n:Int) n rfl hlt;have iw:=idx37 (w.heap.size+3) (n:Int) n rfl hlt;have lk:=Sha.getD_lt Sha.Ks_lt n;have lw:=HSlt.out n;have HST:Hid (Sha.rounds S (n+1) ⟨a,b,c,d,e,f,g,h⟩=Sha.round (Sha.Ks.getD n 0) (S.getD n 0) ⟨ra,rb,rc,rd,re,rf,rg,rh⟩):=by
      show Sha.round _ _ (Sha.rounds _ n _)=_;rw[HRr.out]
     (clear hmx hrow HRr;generalize Sha.Ks.getD n 0=kn at*;generalize S.getD n 0=wn at*;have hsg:IntKind.u32.signed=false:=rfl;have hch:bits .or .u32 (bits .and .u32 (re:Int) (rf:Int)) (bits .and .u32 (bits .xor .u32 IntKind.u32.max (re:Int)) (rg:Int))=((Sha.ch re rf rg:Nat):Int):=by rw[<-Sha.ch_or re rf rg oe];have hn:(4294967295 ^^^ re)<4294967296:=Sha.xor_lt (by decide) oe;exact or32 (re &&& rf) ((4294967295 ^^^ re) &&& rg) (and32 re rf rfl rfl oe of) (and32 (4294967295 ^^^ re) rg (xor32 4294967295 re max32 rfl (by decide) oe) rfl hn og) (Sha.and_lt of) (Sha.and_lt og));have hmj:bits .or .u32 (bits .or .u32 (bits .and .u32 (ra:Int) (rb:Int)) (bits .and .u32 (ra:Int) (rc:Int))) (bits .and .u32 (rb:Int) (rc:Int))=((Sha.maj ra rb rc:Nat):Int):=by rw[<-Sha.maj_or];exact or32 ((ra &&& rb) ||| (ra &&& rc)) (rb &&& rc) (or32 (ra &&& rb) (ra &&& rc) (and32 ra rb rfl rfl oa ob) (and32 ra rc rfl rfl oa oc) (Sha.and_lt ob) (Sha.and_lt oc)) (and32 rb rc rfl rfl ob oc) (Sha.or_lt (Sha.and_lt ob) (Sha.and_lt oc)) (Sha.and_lt oc)
     have hb1:bits .xor .u32 (bits .xor .u32 ((Sha.ror 6 re:Nat):Int) ((Sha.ror 11 re:Nat):Int)) ((Sha.ror 25 re:Nat):Int)=((Sha.bs1 re:Nat):Int):=xor32 (Sha.ror 6 re ^^^ Sha.ror 11 re) (Sha.ror 25 re) (xor32 _ _ rfl rfl (Sha.ror_lt oe) (Sha.ror_lt oe)) rfl (Sha.xor_lt (Sha.ror_lt oe) (Sha.ror_lt oe)) (Sha.ror_lt oe);have hb0:bits .xor .u32 (bits .xor .u32 ((Sha.ror 2 ra:Nat):Int) ((Sha.ror 13 ra:Nat):Int)) ((Sha.ror 22 ra:Nat):Int)=((Sha.bs0 ra:Nat):Int):=xor32 (Sha.ror 2 ra ^^^ Sha.ror 13 ra) (Sha.ror 22 ra) (xor32 _ _ rfl rfl (Sha.ror_lt oa) (Sha.ror_lt oa)) rfl (Sha.xor_lt (Sha.ror_lt oa) (Sha.ror_lt oa)) (Sha.ror_lt oa);have lch:=Sha.ch_lt (x:=re) of og;have lmj:=Sha.maj_lt (x:=ra) ob oc;have lb1:=Sha.bs1_lt oe;have lb0:=Sha.bs0_lt oa;have HRD:=gS (Sha.round kn wn ⟨ra,rb,rc,rd,re,rf,rg,rh⟩=⟨((((((rh+Sha.bs1 re)%4294967296+Sha.ch re rf rg)%4294967296+kn)%4294967296+wn)%4294967296)+(Sha.bs0 ra+Sha.maj ra rb rc)%4294967296)%4294967296,ra,rb,rc,(rd+((((rh+Sha.bs1 re)%4294967296+Sha.ch re rf rg)%4294967296+kn)%4294967296+wn)%4294967296)%4294967296,re,rf,rg⟩) rfl;generalize Sha.ch re rf rg=qch at*;generalize Sha.maj ra rb rc=qmj at*;generalize Sha.bs1 re=qb1 at*;generalize Sha.bs0 ra=qb0 at*;(go_wp2_with fail);(go_quiet (first| (go_at_call_of 159 (Value.int IntKind.i64 6);exact Calls.quiet_of (rturn6 re _ oe))| (go_at_call_of 159 (Value.int IntKind.i64 11);exact Calls.quiet_of (rturn11 re _ oe))| (go_at_call_of 159 (Value.int IntKind.i64 25);exact Calls.quiet_of (rturn25 re _ oe))));have HMX2:=gH (HMX.out.drewN nq);have HROW2:=gS ((wr.drewN nq).heap[w.heap.size+4]? =some (.cells (st8 ⟨ra,rb,rc,rd,re,rf,rg,rh⟩) 64 (0,0))) (by rw[drewN_heap];exact HROW.out);clear c0 c1 c2 c4 c5 c6 c7 hk hw ik iw HMX HROW;generalize wr.drewN nq=w2 at*;(go_wp2_with fail);refine(rturn2 ra _ oa).mono ?_;rintro e' w'⟨rfl,n1,rfl⟩;have HMX3:=gH (HMX2.out.drewN n1);have HROW3:=gS ((w2.drewN n1).heap[w.heap.size+4]? =some (.cells (st8 ⟨ra,rb,rc,rd,re,rf,rg,rh⟩) 64 (0,0))) (by rw[drewN_heap];exact HROW2.out);clear HMX2 HROW2;generalize w2.drewN n1=w3 at*;(go_wp2_with fail);refine(rturn13 ra _ oa).mono ?_;rintro e' w'⟨rfl,n2,rfl⟩;have HMX4:=gH (HMX3.out.drewN n2);have HROW4:=gS ((w3.drewN n2).heap[w.heap.size+4]? =some (.cells (st8 ⟨ra,rb,rc,rd,re,rf,rg,rh⟩) 64 (0,0))) (by rw[drewN_heap];exact HROW3.out);clear HMX3 HROW3;generalize w3.drewN n2=w4 at*;(go_wp2_with fail);refine(rturn22 ra _ oa).mono ?_;rintro e' w'⟨rfl,n3,rfl⟩;have HMX5:=gH (HMX4.out.drewN n3);have HROW5:=gS ((w4.drewN n3).heap[w.heap.size+4]? =some (.cells (st8 ⟨ra,rb,rc,rd,re,rf,rg,rh⟩) 64 (0,0))) (by rw[drewN_heap];exact HROW4.out);clear HMX4 HROW4;generalize w4.drewN n3=w5 at*;(go_wp2_with fail);go_loopw [21] (fun kv wq=>∃k:Nat,k<=7/\kv=.int .i64 k/\Mx C w ⟨a,b,c,d,e,f,g,h⟩ z (arr S) 5 wq/\wq.heap[w.heap.size+4]? =some (.cells ((Sha.sh [ra,rb,rc,rd,re,rf,rg,rh] k).map U).toArray 64 (0,0))) (fun kv _=>(intOf kv).toNat)
     case atStart=>exact⟨7,by omega,rfl,HMX5.out,HROW5.out⟩
     case round=>
      clear HMX5 HROW5;obtain⟨k,hk7,rfl,hmx,hrow⟩:=hrel;have HMX:=gH hmx;have HROW:=gH hrow;by_cases hk0:0<k
      ·have hc:=(cell_of_row _ _ (k-1) _ _ _ hrow).trans (by rw[List.getElem?_toArray,List.getElem?_map,Sha.sh_at ra rb rc rd re rf rg rh k hk0 hk7,Option.map_some]);obtain⟨old,hold⟩:∃old,wr.cell? ⟨w.heap.size+4,k,none⟩=some old:=by
        rw[gC hrow,List.getElem?_toArray,List.getElem?_map,List.getElem?_eq_getElem (by rw[Sha.sh_len];omega)];exact⟨_,rfl⟩
       have hf:wr.frozen? ⟨w.heap.size+4,k,none⟩=false:=gF hrow;have i1:=idx28 (w.heap.size+4) ((k:Int)-1) (k-1) (by omega) (by omega);have i2:=idx28 (w.heap.size+4) (k:Int) k rfl (by omega);have HSH:=gH (Sha.sh_step ra rb rc rd re rf rg rh k hk0 hk7);clear hmx hrow;generalize [ra,rb,rc,rd,re,rf,rg,rh].getD (k-1) 0=xk at*;(go_wp2_with fail);go_roundw
       case rel=>refine⟨k-1,by omega,by go_num,HMX.out.set4 k _,?_⟩;rw[rowU_set' HROW.out,HSH.out]
       case measure=>simp[intOf];omega
      ·(have e0:k=0:=by omega);subst e0;(have d4:wr.cell? ⟨w.heap.size+4,4,none⟩=some (U rd):=by rw[gC hrow];rfl);(have d0:wr.cell? ⟨w.heap.size+4,0,none⟩=some (U ra):=by rw[gC hrow];rfl);have hf:∀j,wr.frozen? ⟨w.heap.size+4,j,none⟩=false:=fun j=>gF hrow;clear hmx hrow hk0 hk7;(go_wp2_with fail);go_roundw
       case rel=>refine⟨n+1,hlt,by go_num,_,HST.out,(HMX.out.set4 4 _).set4 0 _,?_⟩;rw[HRD.out,re_cast2,ra_cast2,rowU_set' (rowU_set' HROW.out)];rfl
       case measure=>simp[intOf];omega
    ·(have e64:n=64:=by omega);subst e64;have HF:Hid (Sha.rounds S 64 ⟨a,b,c,d,e,f,g,h⟩=⟨ra,rb,rc,rd,re,rf,rg,rh⟩):=HRr.out;clear c0 c1 c2 c4 c5 c6 c7 hmx hrow HRr hlt hn;(go_wp2_with fail);go_loopw [22] (fun kv wq=>∃k:Nat,k<=8/\kv=.int .i64 k/\wq.heap[w.heap.size+1]? =some (.cells (mix (toL (Sha.add ⟨a,b,c,d,e,f,g,h⟩ ⟨ra,rb,rc,rd,re,rf,rg,rh⟩)) (toL ⟨a,b,c,d,e,f,g,h⟩) k) 64 (0,0))/\wq.heap[w.heap.size+2]? =some (.cells z 64 (0,0))/\wq.heap[w.heap.size+4]? =some (.cells (st8 ⟨ra,rb,rc,rd,re,rf,rg,rh⟩) 64 (0,0))/\Below w.heap.size w wq) (fun kv _=>8-(intOf kv).toNat)
     case atStart=>exact⟨0,by omega,rfl,HMX.out.r1,HMX.out.r2,HROW.out,HMX.out.bl⟩
     case round=>
      clear HMX HROW;obtain⟨k,hk,rfl,h1,h2,h4,hb⟩:=hrel;have H1:=gH h1;have H2:=gH h2;have H4:=gH h4;have HB:=gH hb;by_cases hlt:k<8
      ·have hc:wr.cell? ⟨w.heap.size+1,k,none⟩=some (U ((toL ⟨a,b,c,d,e,f,g,h⟩).getD k 0)):=by
        rw[gC h1];exact mix_at _ _ _ rfl rfl hlt
       (have hc4:wr.cell? ⟨w.heap.size+4,k,none⟩=some (U ((toL ⟨ra,rb,rc,rd,re,rf,rg,rh⟩).getD k 0)):=by rw[gC h4];exact st8_at _ k hlt);have hf:wr.frozen? ⟨w.heap.size+1,k,none⟩=false:=gF h1;have i1:=idx28 (w.heap.size+1) (k:Int) k rfl hlt;have i4:=idx28 (w.heap.size+4) (k:Int) k rfl hlt;have HMS:=gH (mix_step (toL (Sha.add ⟨a,b,c,d,e,f,g,h⟩ ⟨ra,rb,rc,rd,re,rf,rg,rh⟩)) (toL ⟨a,b,c,d,e,f,g,h⟩) k rfl rfl hlt);rw[add_at _ _ k hlt] at HMS;clear h1 h2 h4 hb;generalize (toL ⟨a,b,c,d,e,f,g,h⟩).getD k 0=xk at*;generalize (toL ⟨ra,rb,rc,rd,re,rf,rg,rh⟩).getD k 0=yk at*;(go_wp2_with fail);go_region
       all_goals
        go_wp2;go_roundw
        case rel=>
         refine⟨k+1,hlt,by go_num,?_,?_,?_,(HB.out.setCell (by simp) _).drew⟩
         ·rw[show ∀W:World,W.drew.heap=W.heap from fun _=>rfl,gZ H1.out,add_cast,HMS.out]
         ·rw[show ∀W:World,W.drew.heap=W.heap from fun _=>rfl,heap_setCell_other _ _ _ _ (by simp)];exact H2.out
         ·rw[show ∀W:World,W.drew.heap=W.heap from fun _=>rfl,heap_setCell_other _ _ _ _ (by simp)];exact H4.out
        case measure=>simp[intOf];omega
      ·(have e8:k=8:=by omega);subst e8;have HFF:Hid (st8 (Sha.add ⟨a,b,c,d,e,f,g,h⟩ ⟨ra,rb,rc,rd,re,rf,rg,rh⟩)=mix (toL (Sha.add ⟨a,b,c,d,e,f,g,h⟩ ⟨ra,rb,rc,rd,re,rf,rg,rh⟩)) (toL ⟨a,b,c,d,e,f,g,h⟩) 8):=by
        rw[mix_all _ _ rfl rfl,toL_arr];exact rfl
       have hM8:=mix_size (toL (Sha.add ⟨a,b,c,d,e,f,g,h⟩ ⟨ra,rb,rc,rd,re,rf,rg,rh⟩)) (toL ⟨a,b,c,d,e,f,g,h⟩) 8 rfl rfl (by omega);have hM1:=mix_one (toL (Sha.add ⟨a,b,c,d,e,f,g,h⟩ ⟨ra,rb,rc,rd,re,rf,rg,rh⟩)) (toL ⟨a,b,c,d,e,f,g,h⟩) 8;clear h1 h2 h4 hb;generalize mix (toL (Sha.add ⟨a,b,c,d,e,f,g,h⟩ ⟨ra,rb,rc,rd,re,rf,rg,rh⟩)) (toL ⟨a,b,c,d,e,f,g,h⟩) 8=M at*;have HM8:Hid (M.size=8):=hM8;clear hM8 hlt hk;(go_wp2_with (first| (refine wpList_load_row rfl 64 (.tmp 5) rfl (w.heap.size+1) rfl 64 M (0,0) _ H1.out Tryz.underlying64 rfl (by rw[HM8.out];exact Tryz.info28) ?_)| (refine wpList_store_row rfl 64 (.tmp 8) (.tmp 184) rfl (w.heap.size+2) M rfl rfl 64 z H2.out (by rw[HM8.out];exact Tryz.info28) (by rw[HZ8.out,HM8.out]) hM1 ?_)));refine bodyPost_ret (v:=.agg M) ?_ rfl ⟨by rw[HF.out,HFF.out],below_setRow HB.out (by omega) M⟩;exact results_cell_row rfl _ _ (w.heap.size+2) 64 M (0,0) _ rfl (gW H2.out) Tryz.underlying64 rfl (by rw[HM8.out];exact Tryz.info28)
end Go.Proofs.YtenaelkbgkpllaaGreatDoor
