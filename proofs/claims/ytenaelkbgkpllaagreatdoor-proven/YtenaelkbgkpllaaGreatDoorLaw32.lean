/- Part 32 of what the four laws rest on: laid by a program out of the texts of wip/T. -/
import Derived.Test.YtenaelkbgkpllaaGreatDoorLaw31
set_option maxRecDepth 100000
set_option maxHeartbeats 8000000
namespace Go.Proofs.YtenaelkbgkpllaaGreatDoor
open Go.RowKit
theorem Reads.point{w:World}{a:Option Addr}{n c:Nat}{L:List Wd.Pt}(h:Reads w (.slice a n c) L):n=L.length/\(∀i (hi:i<L.length),∃g o,a=some ⟨g,o,none⟩/\∀w',Below w.heap.size w w'->PtAt w' g (o+i*3) L[i]):=by obtain⟨a',c',e,hr⟩:=h;injection e with e1 e2 e3;refine⟨e2,fun i hi=>?_⟩;obtain⟨g,o,rfl,hp⟩:=hr (fun e=>by subst e;simp at hi);exact⟨g,o,e1,fun w' hb=>(hp i hi).below hb (hp i hi).lt⟩
theorem take_step{α:Type}(A B:List α)(i:Nat)(ha:i<A.length)(hb:i<B.length)(h:A.take i=B.take i)(he:A[i]=B[i]):A.take (i+1)=B.take (i+1):=by rw[List.take_succ_eq_append_getElem ha,List.take_succ_eq_append_getElem hb,h,he]
end Go.Proofs.YtenaelkbgkpllaaGreatDoor
