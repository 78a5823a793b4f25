/- Part 10 of what the four laws rest on: laid by a program out of the texts of wip/T. -/
import Derived.Test.YtenaelkbgkpllaaGreatDoorLaw09
import Derived.Deep.LoopGhost
set_option maxRecDepth 100000
set_option maxHeartbeats 8000000
namespace Go.Proofs.YtenaelkbgkpllaaGreatDoor
open Go.RowKit
def rootV(l:List UInt8)(n:Int):List Value:=l.map Y++[I n]
theorem Tryz.infoCommit:(Tryz.prog.info? 41).map (·.size)=some 33:=by kernel_rfl
theorem zB(l:List UInt8)(n:Int)(h:l.length=32):(rootV l n).length=33:=by simp[rootV,h]
theorem rootV_one(l:List UInt8)(n:Int):(rootV l n).toArray.all (·.oneCell')=true:=by
 rw[List.all_toArray,List.all_eq_true];intro v hv;rcases List.mem_append.1 hv with hv|hv
 ·obtain⟨b,_,rfl⟩:=List.mem_map.1 hv;rfl
 ·rw[List.mem_singleton.1 hv];rfl
theorem part_root(l:List UInt8)(n:Int)(h:l.length=32)(W:World):(part 39 (rootV l n).toArray 0).run Tryz.prog W=.ok (.agg (l.map Y).toArray) W:=by
 have a:=Tryz.isAgg39 W;have e:List.take 32 (rootV l n)=List.map Y l:=by rw[rootV,List.take_append_of_le_length (by simp[h]),List.take_of_length_le (by simp[h])]
 simp[part,Sem.run_bind,a,e]
theorem part_count(l:List UInt8)(n:Int)(h:l.length=32)(W:World):(part 3 (rootV l n).toArray 32).run Tryz.prog W=.ok (I n) W:=by
 have e:(rootV l n).toArray[32]? =some (I n):=by rw[List.getElem?_toArray,rootV,List.getElem?_append_right (by simp[h])];simp[h]
 simp[part,Sem.run_bind,Tryz.isAgg3,e]
theorem eqCommit(l m:List UInt8)(a b:Int)(hl:l.length=32)(hm:m.length=32)(W:World):
  (Op.equalIn 10000 41 (.agg (rootV l a).toArray) (.agg (rootV m b).toArray)).run Tryz.prog W=.ok (decide (l=m)&&(a==b)) W:=by
 have hS:Tryz.prog.underlying 41=some (.struct (Tryz.prog.fieldsOf 41)):=by kernel_rfl
 have hp:Tryz.prog.stoodInHeld 41=false:=by kernel_rfl
 rw[show(10000:Nat)=9999+1 from rfl,run_equalIn_agg W 9999 41 _ _ hS hp];simp only[Program.fieldsOf,Tryz.underlying41];have e2:(Op.equalIn 9999 3 (I a) (I b)).run Tryz.prog W=.ok (a==b) W:=run_equalIn_int W 9998 3 .i64 .i64 a b Tryz.underlying3;simp only[Op.eqFields,Sem.run_bind,Sem.run_ite,part_root l a hl,part_root m b hm,part_count l a hl,part_count m b hm,Result.andThen_ok,eqArrD 9997 l m hl hm W,e2];cases decide (l=m)<;>cases a==b<;>simp
def commitV(L:List Wd.Pt):List Value:=rootV (Sha.sha (Wd.rootText Sha.sha L)) L.length
structure Com(C:List Value):Prop where
 size:C.toArray.size=33
 one:C.toArray.all (·.oneCell')=true
 info:(Tryz.prog.info? 41).map (·.size)=some C.toArray.size
theorem com_of(L:List Wd.Pt):Com (commitV L):=by
 have h:(commitV L).toArray.size=33:=by rw[List.size_toArray];exact zB _ _ rfl
 exact⟨h,rootV_one _ _,by rw[h];exact Tryz.infoCommit⟩
theorem eqCom(L L':List Wd.Pt)(W:World):(Op.equalIn 10000 41 (.agg (commitV L).toArray) (.agg (commitV L').toArray)).run Tryz.prog W=.ok (decide (Sha.sha (Wd.rootText Sha.sha L)=Sha.sha (Wd.rootText Sha.sha L'))&&((L.length:Int)==(L'.length:Int))) W:=eqCommit _ _ _ _ rfl rfl W
theorem oz(l:List UInt8):(Sha.sha l).length=32:=rfl
def ptEq(p q:Wd.Pt):Bool:=p.id==q.id&&(p.x==q.x&&p.y==q.y)
theorem ptEq_iff(p q:Wd.Pt):ptEq p q=true↔p=q:=by obtain⟨a,b,c⟩:=p;obtain⟨a',b',c'⟩:=q;simp[ptEq]
theorem eqPt(p q:Wd.Pt)(W:World):(Op.equalIn 10000 36 (.agg #[I p.id,I p.x,I p.y]) (.agg #[I q.id,I q.x,I q.y])).run Tryz.prog W=.ok (ptEq p q) W:=by
 have u3:=Tryz.underlying3;have a3:=Tryz.isAgg3;have z3:=Tryz.sizeOf3;have hS:Tryz.prog.underlying 36=some (.struct (Tryz.prog.fieldsOf 36)):=by kernel_rfl
 have hp:Tryz.prog.stoodInHeld 36=false:=by kernel_rfl
 rw[show(10000:Nat)=9999+1 from rfl,run_equalIn_agg W 9999 36 _ _ hS hp];simp only[Program.fieldsOf,Tryz.underlying36];go_simp;unfold ptEq;by_cases h1:p.id=q.id<;>by_cases h2:p.x=q.x<;>by_cases h3:p.y=q.y<;>simp[h1,h2,h3]
end Go.Proofs.YtenaelkbgkpllaaGreatDoor
