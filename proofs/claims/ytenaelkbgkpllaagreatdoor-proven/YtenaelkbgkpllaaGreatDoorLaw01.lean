/- Part 1 of what the four laws rest on: laid by a program out of the texts of wip/T. -/
import Derived.Below
import Derived.Laws.Rows
import Derived.Laws.Tables
set_option maxRecDepth 100000
set_option maxHeartbeats 8000000
namespace Go.Proofs.YtenaelkbgkpllaaGreatDoor
open Go.RowKit
theorem gH{p:Prop}(h:p):Hid p:=h
theorem gS(p:Prop)(h:p):Hid p:=h
theorem gR{n:Nat}:n<=n:=Nat.le_refl n
theorem gC{w:World}{g j:Nat}{cs:Array Value}{t:TypeId}{fr:Nat×Nat}(hg:w.heap[g]? =some (.cells cs t fr)):w.cell? ⟨g,j,none⟩=cs[j]? :=cell_of_row w g j cs t fr hg
theorem gF{w:World}{g j:Nat}{cs:Array Value}{t:TypeId}(hg:w.heap[g]? =some (.cells cs t (0,0))):w.frozen? ⟨g,j,none⟩=false:=frozen_of_row w g j cs t hg
theorem gW{w:World}{g:Nat}{old cs:Array Value}{t:TypeId}{fr:Nat×Nat}(hg:w.heap[g]? =some (.cells old t fr)):(w.setRow g cs).heap[g]? =some (.cells cs t fr):=setRow_heap w g old cs t fr hg
theorem gZ{w:World}{g i:Nat}{cs:Array Value}{t:TypeId}{v:Value}(hg:w.heap[g]? =some (.cells cs t (0,0))):(w.setCell ⟨g,i,none⟩ v).heap[g]? =some (.cells (cs.setIfInBounds i v) t (0,0)):=heap_setCell_same w g i cs t v hg
theorem gL{α:Type}{a:Array α}{i:Nat}{x:α}(h:a[i]? =some x):i<a.size:=(Array.getElem?_eq_some_iff.1 h).1
theorem gB(w:World)(o:Obj):Below w.heap.size w (w.alloc o):=(Below.refl w.heap.size w).alloc (Nat.le_refl _) o
end Go.Proofs.YtenaelkbgkpllaaGreatDoor
