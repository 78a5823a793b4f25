/- Part 9 of what the four laws rest on: laid by a program out of the texts of wip/T. -/
import Derived.Test.YtenaelkbgkpllaaGreatDoorLaw06
import Derived.Test.YtenaelkbgkpllaaGreatDoorLaw08
set_option maxRecDepth 100000
set_option maxHeartbeats 8000000
namespace Go.Proofs.YtenaelkbgkpllaaGreatDoor
open Go.RowKit
theorem Own.below{w w':World}{B:Nat}{v:Value}{L:List Wd.Pt}(h:Own w B v L)(hb:Below w.heap.size w w'):Own w' B v L:=h.keeps (S:=fun _=>False) (Keeps.of_below hb) (fun _ _ h=>h)
theorem Own.ge{w:World}{B g:Nat}{v:Value}{L:List Wd.Pt}(h:Own w B v L)(hg:v.ownBlock=some g):B<=g:=(World.ownsRow.lt h g hg).1
abbrev Sv(l:List UInt8):Value:=.string ⟨l.toArray⟩
theorem ba_eq{s:ByteArray}{l:List UInt8}(h:s.data.toList=l):s=⟨l.toArray⟩:=by subst h;rfl
theorem idx_at(s:ByteArray)(i:Int)(k:Nat)(b:UInt8)(h:s.data.toList[k]? =some b)(hi:i=k)(W:World):(Instr.index 9 (.string s) (.int .i64 i)).run Tryz.prog W=.ok (.int .u8 b.toNat) W:=by
 have hk:k<s.size:=by obtain⟨h',_⟩:=List.getElem?_eq_some_iff.1 h;simpa using h'
 rw[oX s i k hi hk,Sha.byteAt,List.getD_eq_getElem?_getD,h];rfl
def At(s:ByteArray)(i:Nat)(l:List UInt8):Prop:=∃r,s.data.toList.drop i=l++r
theorem gz{a b c:World}{v v':Value}(h:a.grownBy b v.ownBlock)(hf:Fresh a v v')(k:b.grownBy c v'.ownBlock):a.grownBy c v.ownBlock:=by
 refine⟨k.os.trans h.os,k.tape.trans h.tape,k.output.trans h.output,Nat.le_trans h.size k.size,fun j hj hn=>(k.block j (Nat.lt_of_lt_of_le hj h.size) (fun e=>?_)).trans (h.block j hj hn)⟩;rcases hf with hf| ⟨g,hf,hg⟩
 ·exact hn (by rw[e,hf])
 ·rw[hf] at e;injection e with e;omega
theorem oD{a b:World}{v v' v'':Value}(h:Fresh a v v')(hs:a.heap.size<=b.heap.size)(k:Fresh b v' v''):Fresh a v v'':=by
 rcases k with k| ⟨g,k,hg⟩
 ·rcases h with h| ⟨g,h,hg⟩
  ·exact .inl (k.trans h)
  ·exact .inr ⟨g,k.trans h,hg⟩
 ·exact .inr ⟨g,k,Nat.le_trans hs hg⟩
theorem Gi{P:Program}{ops:Array Oper}{o:Oper}{a:Act}{w:World}{K:Act->World->Prop}{Q:Exit->Act->World->Prop}{E:Prop}
  (hg:o.guard=none) (d x:Operand) (dT sT:TypeId) (hop:o.op=Op.call {callee:=Callee.builtin Builtin.append,args:= #[d,x],argTypes:= #[dT,sT]})
  (v u:Value) (hd:a.eval d=v) (hx:a.eval x=u) {v':Value} {w':World} (hr:(Builtin.append_ #[dT,sT] o.type #[v,u]).run P w=.ok v' w') (hK:K (a.put o.dst v') w'):
  if Region.wanted o (yielded ops a.tmps)=true then Oper.wp P o a w K Q else E:=by
 have hw:Region.wanted o (yielded ops a.tmps)=true:=by simp[Region.wanted,hg]
 rw[if_pos hw];exact Lib.wp_append_run w d x dT sT hop v u hd hx v' w' hr hK
abbrev Kid(n:Nat):Type:=List UInt8×(UInt8⊕Wd.PT n)
theorem own_node(n:Nat)(cs:List (Kid n)):Wd.own (n+1) (.node cs)=2::UInt8.ofNat cs.length::cs.flatMap (fun c=>c.1):=rfl
theorem GH{α β:Type}(f:α->List β)(cs:List α)(k:Nat)(h:k<cs.length):(cs.take (k+1)).flatMap f=(cs.take k).flatMap f++f cs[k]:=by rw[List.take_succ_eq_append_getElem h,List.flatMap_append,List.flatMap_cons,List.flatMap_nil,List.append_nil]
theorem byte_at(l:List UInt8)(j:Nat)(h:j<l.length):(l.map Y).toArray[j]? =some (.int .u8 (l.getD j 0).toNat):=by rw[List.getElem?_toArray,List.getElem?_map,List.getElem?_eq_getElem h,List.getD_eq_getElem?_getD,List.getElem?_eq_getElem h];rfl
theorem eqItems_two(d:Nat)(l m:List UInt8)(hl:l.length=32)(hm:m.length=32)(w:World):∀is:List Nat,(∀j∈is,j<32)->(Op.eqItems (d+1) 5 1 (l.map Y).toArray (m.map Y).toArray is).run Tryz.prog w=.ok (is.all fun j=>l.getD j 0==m.getD j 0) w
 | [],_=>by simp[Op.eqItems]
 |j::is,h=>by
  have hj:=h j (by simp);have ih:=eqItems_two d l m hl hm w is (fun k hk=>h k (by simp[hk]));have e:∀a b:Nat,(Op.equalIn (d+1) 5 (.int .u8 a) (.int .u8 b)).run Tryz.prog w=.ok ((a:Int)==(b:Int)) w:=fun a b=>run_equalIn_int w d 5 .u8 .u8 a b Tryz.underlying5;have hp:∀(A:Array Value) (v:Value),A[j]? =some v->(part 5 A j).run Tryz.prog w=.ok v w:=fun A v h=>by simp[part,Sem.run_bind,h]
  have hb:(((l.getD j 0).toNat:Int)==((m.getD j 0).toNat:Int))=(l.getD j 0==m.getD j 0):=by rw[Bool.eq_iff_iff,beq_iff_eq,beq_iff_eq,<-UInt8.toNat_inj];omega
  simp only[Op.eqItems,Sem.run_bind,Nat.mul_one,hp _ _ (byte_at l j (by omega)),hp _ _ (byte_at m j (by omega)),Result.andThen_ok,e,hb,List.all_cons];cases l.getD j 0==m.getD j 0
  ·simp
  ·simp[ih]
theorem all_eq{l m:List UInt8}(hl:l.length=32)(hm:m.length=32):((List.range 32).all fun j=>l.getD j 0==m.getD j 0)=decide (l=m):=by rw[Bool.eq_iff_iff,List.all_eq_true,decide_eq_true_eq];refine⟨fun h=>?_,fun h=>by subst h;simp⟩;refine List.ext_getElem (by omega) fun i h1 h2=>?_;have:=h i (List.mem_range.2 (by omega));rw[beq_iff_eq,List.getD_eq_getElem?_getD,List.getD_eq_getElem?_getD,List.getElem?_eq_getElem h1,List.getElem?_eq_getElem h2] at this;exact this
theorem eqArrD(d:Nat)(l m:List UInt8)(hl:l.length=32)(hm:m.length=32)(w:World):
  (Op.equalIn (d+2) 39 (.agg (l.map Y).toArray) (.agg (m.map Y).toArray)).run Tryz.prog w=.ok (decide (l=m)) w:=by
 obtain⟨i0,hi, -⟩:=info_parts Tryz.info5;rw[run_equalIn_array w (d+1) _ _ Tryz.under22 hi,Tryz.cells5,<-all_eq hl hm];exact eqItems_two d l m hl hm w _ (fun j hj=>List.mem_range.1 hj)
theorem eqArr(l m:List UInt8)(hl:l.length=32)(hm:m.length=32)(w:World):(Op.equalIn 10000 39 (.agg (l.map Y).toArray) (.agg (m.map Y).toArray)).run Tryz.prog w=.ok (decide (l=m)) w:=eqArrD 9998 l m hl hm w
theorem below_drewN{B:Nat}{w w':World}(h:Below B w w')(n:Nat):Below B w (w'.drewN n):=⟨h.os,h.tape,h.output,h.size,h.block⟩
end Go.Proofs.YtenaelkbgkpllaaGreatDoor
