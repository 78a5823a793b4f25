/- Part 16 of what the four laws rest on: laid by a program out of the texts of wip/T. -/
import Derived.Test.YtenaelkbgkpllaaGreatDoorLaw13
set_option maxRecDepth 100000
set_option maxHeartbeats 8000000
namespace Go.Proofs.YtenaelkbgkpllaaGreatDoor
open Go.RowKit
namespace Big
def val:List Nat->Nat
 | []=>0
 |d::l=>d+65536*val l
def Digs(l:List Nat):Prop:=∀d∈l,d<65536
theorem val_append(a b:List Nat):val (a++b)=val a+65536 ^ a.length*val b:=by
 induction a with
 |nil=>simp[val]
 |cons d a ih=>rw[List.cons_append,val,ih,val,List.length_cons,Nat.pow_succ];rw[Nat.mul_add,Nat.mul_comm (65536 ^ a.length) 65536,Nat.mul_assoc,Nat.add_assoc]
theorem val_snoc(a:List Nat)(d:Nat):val (a++[d])=val a+65536 ^ a.length*d:=by rw[val_append];simp[val]
theorem val_zeros(n:Nat):val (List.replicate n 0)=0:=by
 induction n with
 |zero=>rfl
 |succ n ih=>rw[List.replicate_succ,val,ih]
def at'(l:List Nat)(i:Nat):Nat:=l.getD i 0
theorem val_set(l:List Nat)(i x:Nat)(hi:i<l.length):val (l.set i x)+65536 ^ i*at' l i=val l+65536 ^ i*x:=by
 induction l generalizing i with
 |nil=>simp at hi
 |cons d l ih=>
  cases i with
  |zero=>simp only[List.set_cons_zero,val,at',Nat.pow_zero,Nat.one_mul,List.getD_cons_zero];omega
  |succ i=>have:=ih i (by simpa using hi);simp only[List.set_cons_succ,val,at',Nat.pow_succ,List.getD_cons_succ] at this⊢;simp only[Nat.mul_comm (65536 ^ i) 65536,Nat.mul_assoc];omega
theorem at_lt(l:List Nat)(h:Digs l)(i:Nat):at' l i<65536:=by
 unfold at';by_cases hi:i<l.length
 ·simp only[List.getD_eq_getElem?_getD,List.getElem?_eq_getElem hi,Option.getD_some];exact h _ (List.getElem_mem hi)
 ·simp only[List.getD_eq_getElem?_getD,List.getElem?_eq_none (Nat.le_of_not_lt hi),Option.getD_none];decide
theorem digs_set(l:List Nat)(i x:Nat)(h:Digs l)(hx:x<65536):Digs (l.set i x):=by
 intro d hd;rcases List.mem_or_eq_of_mem_set hd with h'|h'
 ·exact h d h'
 ·rw[h'];exact hx
theorem at_set(l:List Nat)(i j x:Nat)(hi:i<l.length):at' (l.set i x) j=if i=j then x else at' l j:=by
 unfold at';simp only[List.getD_eq_getElem?_getD,List.getElem?_set];by_cases e:i=j
 ·subst e;simp[hi]
 ·simp[e]
structure Row(out b:List Nat)(V x i k c:Nat):Prop where
 digs:Digs out
 carry:c<65536
 sum:val out+c*65536 ^ (i+k)=V+x*val (b.take k)*65536 ^ i
 rest:∀j,i+b.length<=j->i+k<=j->at' out j=0
theorem val_take_succ(b:List Nat)(k:Nat):val (b.take (k+1))=val (b.take k)+65536 ^ k*at' b k:=by
 by_cases hk:k<b.length
 ·rw[List.take_succ_eq_append_getElem hk,val_snoc,List.length_take,Nat.min_eq_left (by omega)];simp only[at',List.getD_eq_getElem?_getD,List.getElem?_eq_getElem hk,Option.getD_some]
 ·rw[List.take_of_length_le (by omega),List.take_of_length_le (by omega)];simp only[at',List.getD_eq_getElem?_getD,List.getElem?_eq_none (Nat.le_of_not_lt hk),Option.getD_none,Nat.mul_zero,Nat.add_zero]
theorem Row.step{out b:List Nat}{V x i k c:Nat}(h:Row out b V x i k c)(hx:x<65536)(hb:Digs b)(hi:i+k<out.length):
  Row (out.set (i+k) ((at' out (i+k)+x*at' b k+c)%65536)) b V x i (k+1) ((at' out (i+k)+x*at' b k+c)/65536):=by
 have ho:=at_lt out h.digs (i+k);have hbk:=at_lt b hb k;have hc:=h.carry;have hm:x*at' b k<=65535*65535:=Nat.mul_le_mul (by omega) (by omega);have hs:=val_set out (i+k) ((at' out (i+k)+x*at' b k+c)%65536) hi;have hsum:=h.sum;refine⟨digs_set _ _ _ h.digs (Nat.mod_lt _ (by decide)),by omega,?_,?_⟩
 ·rw[val_take_succ];have e1:i+(k+1)=(i+k)+1:=by omega
  rw[e1,Nat.pow_succ];have e2:x*(val (b.take k)+65536 ^ k*at' b k)*65536 ^ i=x*val (b.take k)*65536 ^ i+65536 ^ (i+k)*(x*at' b k):=by
   rw[Nat.mul_add,Nat.add_mul,Nat.pow_add];congr 1
   ac_rfl
  rw[e2];generalize 65536 ^ (i+k)=P at*;generalize x*val (b.take k)*65536 ^ i=T at*;generalize val (out.set (i+k) _)=S at*;generalize x*at' b k=m at*;generalize at' out (i+k)=o at*;have hd:(o+m+c)=65536*((o+m+c)/65536)+(o+m+c)%65536:=(Nat.div_add_mod _ _).symm;generalize (o+m+c)/65536=q at*;generalize (o+m+c)%65536=r at*;have hP:P*(o+m+c)=P*(65536*q+r):=by rw[hd]
  rw[Nat.mul_add,Nat.mul_add,Nat.mul_add] at hP;have e3:q*(P*65536)=P*(65536*q):=by rw[Nat.mul_comm q,Nat.mul_assoc]
  have e4:c*P=P*c:=Nat.mul_comm _ _;rw[e3];rw[e4] at hsum;omega
 ·intro j h1 h2;rw[at_set _ _ _ _ hi,if_neg (by omega)];exact h.rest j h1 (by omega)
theorem Row.start{out b:List Nat}{V x i:Nat}(hd:Digs out)(hv:val out=V)(hr:∀j,i+b.length<=j->at' out j=0):Row out b V x i 0 0:=⟨hd,by decide,by simp[hv,val],fun j h1 _=>hr j h1⟩
theorem Row.done{out b:List Nat}{V x i k:Nat}(h:Row out b V x i k 0)(hk:b.length<=k):val out=V+x*val b*65536 ^ i:=by
 have:=h.sum
 rwa [Nat.zero_mul,Nat.add_zero,List.take_of_length_le hk] at this
theorem Row.last{out b:List Nat}{V x i k c:Nat}(h:Row out b V x i k c)(hk:k=b.length):(at' out (i+k)+x*at' b k+c)/65536=0:=by
 have h0:=h.rest (i+k) (by omega) (Nat.le_refl _);have hb:at' b k=0:=by simp only[at',List.getD_eq_getElem?_getD,List.getElem?_eq_none (show b.length<=k by omega),Option.getD_none]
 have:=h.carry;rw[h0,hb];omega
theorem mul_digs(x b:Nat)(hx:x<65536)(hb:b<65536):(x:Int)*(b:Int)<=4294836225/\0<=(x:Int)*(b:Int):=by have h:x*b<=65535*65535:=Nat.mul_le_mul (by omega) (by omega);have h1:((x*b:Nat):Int)<=((65535*65535:Nat):Int):=Int.ofNat_le.2 h;have h2:(0:Int)<=((x*b:Nat):Int):=Int.natCast_nonneg _;rw[Int.natCast_mul] at h1 h2;exact⟨h1,h2⟩
theorem cast_mod(o x b c:Nat):((o:Int)+(x:Int)*(b:Int)+(c:Int))%65536=(((o+x*b+c)%65536:Nat):Int):=by simp
theorem cast_div(o x b c:Nat):((o:Int)+(x:Int)*(b:Int)+(c:Int))/65536=(((o+x*b+c)/65536:Nat):Int):=by simp
theorem row_next(la lb out:List Nat)(i:Nat)(h:val out=val (la.take i)*val lb+at' la i*val lb*65536 ^ i):val out=val (la.take (i+1))*val lb:=by
 rw[h,val_take_succ,Nat.add_mul];congr 1
 ac_rfl
def sumTo(f:Nat->Nat):Nat->Nat
 |0=>0
 |n+1=>sumTo f n+65536 ^ n*f n
theorem val_take(l:List Nat)(n:Nat):val (l.take n)=sumTo (at' l) n:=by
 induction n with
 |zero=>simp[val,sumTo]
 |succ n ih=>rw[val_take_succ,ih,sumTo]
theorem val_sum(l:List Nat)(n:Nat)(h:l.length<=n):val l=sumTo (at' l) n:=by rw[<-val_take,List.take_of_length_le h]
theorem sum_lt(f:Nat->Nat)(hf:∀j,f j<65536)(n:Nat):sumTo f n<65536 ^ n:=by
 induction n with
 |zero=>simp[sumTo]
 |succ n ih=>rw[sumTo,Nat.pow_succ];have h1:=hf n;have h2:65536 ^ n*f n<=65536 ^ n*65535:=Nat.mul_le_mul_left _ (by omega);omega
theorem sum_cmp(f g:Nat->Nat)(hf:∀j,f j<65536)(i:Nat)(he:∀j,i<j->f j=g j)(hlt:f i<g i)(n:Nat)(hn:i<n):sumTo f n<sumTo g n:=by
 induction n with
 |zero=>omega
 |succ n ih=>
  rw[sumTo,sumTo];by_cases e:i=n
  ·subst e;have h1:=sum_lt f hf i;have h2:65536 ^ i*(f i+1)<=65536 ^ i*g i:=Nat.mul_le_mul_left _ hlt;rw[Nat.mul_add] at h2;omega
  ·have:=ih (by omega);rw[he n (by omega)];omega
theorem sum_eq(f g:Nat->Nat)(n:Nat)(he:∀j,j<n->f j=g j):sumTo f n=sumTo g n:=by
 induction n with
 |zero=>rfl
 |succ n ih=>rw[sumTo,sumTo,ih (fun j hj=>he j (by omega)),he n (by omega)]
theorem val_lt_of(a b:List Nat)(ha:Digs a)(i:Nat)(he:∀j,i<j->at' a j=at' b j)(hlt:at' a i<at' b i):val a<val b:=by
 have hi:i<max a.length b.length+i+1:=by omega
 rw[val_sum a (max a.length b.length+i+1) (by omega),val_sum b (max a.length b.length+i+1) (by omega)];exact sum_cmp _ _ (at_lt a ha) i he hlt _ hi
theorem val_eq_of(a b:List Nat)(he:∀j,at' a j=at' b j):val a=val b:=by rw[val_sum a (max a.length b.length) (by omega),val_sum b (max a.length b.length) (by omega)];exact sum_eq _ _ _ (fun j _=>he j)
def Cut(l:List Nat)(j left x:Nat):Prop:=l.length=j/\Digs l/\val l+65536 ^ j*left=x
theorem Cut.step{l:List Nat}{j left x:Nat}(h:Cut l j left x):Cut (l++[left%65536]) (j+1) (left/65536) x:=by
 obtain⟨h1,h2,h3⟩:=h;refine⟨by simp[h1],?_,?_⟩
 ·intro d hd;rcases List.mem_append.1 hd with h'|h'
  ·exact h2 d h'
  ·rw[List.mem_singleton.1 h'];exact Nat.mod_lt _ (by decide)
 ·rw[val_snoc,h1,Nat.pow_succ];have hd:left=65536*(left/65536)+left%65536:=(Nat.div_add_mod _ _).symm;have hP:65536 ^ j*left=65536 ^ j*(65536*(left/65536)+left%65536):=by rw[<-hd]
  rw[Nat.mul_add] at hP;have e:65536 ^ j*65536*(left/65536)=65536 ^ j*(65536*(left/65536)):=Nat.mul_assoc _ _ _;omega
def above(x p power:Nat):Bool:=decide (p*65536 ^ (2*power)<x ^ power)
def wholeFrom(p power:Nat):Nat->Nat->Nat
 |0,w=>w
 |n+1,w=>if p< (w+1) ^ power then w else wholeFrom p power n (w+1)
def whole(p power:Nat):Nat:=wholeFrom p power 400 0
def fold(f:Nat->Nat->Nat):Nat->Nat->Nat
 |0,n=>n
 |b+1,n=>fold f b (f b n)
theorem fold_zero(f:Nat->Nat->Nat)(n:Nat):fold f 0 n=n:=rfl
theorem fold_succ(f:Nat->Nat->Nat)(b n:Nat):fold f (b+1) n=fold f b (f b n):=rfl
def bitsFrom(p power w b n:Nat):Nat:=fold (fun b n=>if above (w*4294967296+(n+2 ^ b)) p power then n else n+2 ^ b) b n
def root(p power:Nat):Nat:=bitsFrom p power (whole p power) 32 0
def prime(l:List Nat)(x:Nat):Bool:=l.all fun d=>x%d !=0
end Big
namespace Ref
theorem Tryz.info72:(Tryz.prog.info? 142).map (fun i=>(i.zero,i.size,i.bytes))=some (some (.int .u64 0),1,8):=by kernel_rfl
abbrev D(n:Nat):Value:=.int .u64 n
theorem cut_lt{l:List Nat}{j left x:Nat}(h:Big.Cut l j left x)(hx:x<1099511627776)(hl:0<left):j<3:=by
 obtain⟨_,_,h3⟩:=h;rcases Nat.lt_or_ge j 3 with h'|h'
 ·exact h'
 ·exfalso;have h1:65536 ^ 3<=65536 ^ j:=Nat.pow_le_pow_right (by decide) h';have h2:65536 ^ j*1<=65536 ^ j*left:=Nat.mul_le_mul_left _ hl;have h4:(65536:Nat) ^ 3=281474976710656:=by decide
  omega
theorem digits_any(x:Nat)(w:World)(hx:x<1099511627776):
  Calls Tryz.prog 127 #[.int .u64 x] w fun e w'=>∃v l,e=.returned v/\Big.Digs l/\Big.val l=x/\l.length<=3/\w'.ownsRow w.heap.size 142 1 v l.length (l.map D)/\Below w.heap.size w w':=by
 obtain⟨i0,hi,hz0,hz1,hz2⟩:=info_parts Tryz.info72;go_enter Tryz.func127,Tryz.ntmps127
 go_wp2;go_loopw [0,3] (fun a v wq=>∃(r:Nat) (l:List Nat) (j:Nat),a=.int .u64 r/\r<=x/\j<=3/\Big.Cut l j r x/\wq.ownsRow w.heap.size 142 1 v j (l.map D)/\Below w.heap.size w wq) (fun a _ _=>(intOf a).toNat)
 case atStart=>exact⟨x,[],0,rfl,Nat.le_refl _,by omega,⟨rfl,fun d hd=>by simp at hd,by simp[Big.val]⟩,World.ownsRow_nil _ _ _ _,Below.refl _ _⟩
 case round=>
  obtain⟨r,l,j,rfl,hr,hj,hcut,hown,hb⟩:=hrel;have HC:=gH hcut;have HO:=gH hown;have hs:=hb.size;clear hcut hown;by_cases hpos:0<r
  ·have hj3:=cut_lt HC.out hx hpos;go_wp2_with (at_builtin;refine wpList_append_own _ rfl (.tmp 6) (.tmp 9) 184 rfl w.heap.size 142 i0 (.int .u64 0) 1 8 Tryz.underlying184 hi hz0 hz1 hz2 rfl (by decide) _ j (l.map D) rfl (HO.out.alloc _) ⟨wr.heap.size,0,none⟩ 1 1 [D (r%65536)] rfl rfl ?c1 ?c2 ?c3 ?c4 ?c5 ?_)
   case c1=>
    intro i u hiu
    match i,hiu with
    |0,hiu=>simp at hiu;subst hiu;simp[Addr.add]
   case c2=>intro u hu;simp at hu;subst hu;rfl
   case c3=>unfold maxLen;omega
   case c4=>omega
   case c5=>simp;omega
   ·intro v' w1 hown' hgrow _;have hb1:Below w.heap.size w w1:=(hb.alloc hs _).grown hgrow (by simp;omega) (fun k hk=>(HO.out.lt k hk).1);have HO1:=gH hown';clear hown' hgrow;go_wp2;go_roundw
    case rel=>refine⟨r/65536,l++[r%65536],j+1,by go_num,by omega,by omega,HC.out.step,?_,hb1⟩;have:=HO1.out;rw[List.map_append];exact this
    case measure=>simp[intOf];omega
  ·(have e0:r=0:=by omega);subst e0;go_wp2;go_ret;obtain⟨h1,h2,h3⟩:=HC.out;subst h1;exact⟨_,l,rfl,h2,by omega,hj,HO.out,hb⟩
def Has(w:World)(v:Value)(l:List Nat):Prop:=∃(a:Option Addr) (c:Nat),v=.slice a l.length c/\(l≠[]->∃g,a=some ⟨g,0,none⟩/\∀i,i<l.length->w.cell? ⟨g,i,none⟩=some (D (Big.at' l i)))
theorem has_of{w:World}{B n:Nat}{v:Value}{l:List Nat}(h:w.ownsRow B 142 1 v n (l.map D)):Has w v l:=by
 obtain⟨hlen,hv| ⟨g,cap,cur,rfl,hg,hheap,hcap,hmax,hcs,htake⟩⟩:=h
 ·obtain⟨rfl,rfl⟩:=hv;have:l=[]:=by simpa using hlen
  subst this;exact⟨none,0,rfl,fun h=>absurd rfl h⟩
 ·have hl:l.length=n:=by simpa using hlen
  subst hl;refine⟨some ⟨g,0,none⟩,cap,rfl,fun _=>⟨g,rfl,fun i hi=>?_⟩⟩;have hc:w.cell? ⟨g,i,none⟩=cur[i]? :=by simp[World.cell?,hheap]
  rw[hc,<-Array.getElem?_toList];have e:(cur.toList.take (l.length*1))[i]? =cur.toList[i]? :=List.getElem?_take_of_lt (by omega);rw[<-e,htake,List.getElem?_map,List.getElem?_eq_getElem hi];simp only[Option.map_some,Big.at',List.getD_eq_getElem?_getD,List.getElem?_eq_getElem hi,Option.getD_some]
theorem at_any(v:Value)(l:List Nat)(i:Int)(k:Nat)(w:World)(hi:i=k)(hl:l.length<=1000)(h:Has w v l):
  Calls Tryz.prog 129 #[v,.int .i64 i] w fun e w'=>e=.returned (.int .u64 (Big.at' l k:Nat))/\w'=w:=by
 subst hi;obtain⟨a,c,rfl,hc⟩:=h;by_cases hlt:k<l.length
 ·obtain⟨g,rfl,hcell⟩:=hc (fun e=>by subst e;simp at hlt);have hck:=hcell k hlt;generalize Big.at' l k=x at*;clear hcell hc;go_enter Tryz.func129,Tryz.ntmps129
  go_wp2;go_ret;exact⟨rfl,rfl⟩
 ·have e:Big.at' l k=0:=by simp only[Big.at',List.getD_eq_getElem?_getD,List.getElem?_eq_none (show l.length<=k by omega),Option.getD_none]
  rw[e];clear hc;go_enter Tryz.func129,Tryz.ntmps129
  go_wp2;go_ret;exact⟨rfl,rfl⟩
theorem has_below{w w':World}{v:Value}{l:List Nat}(h:Has w v l)(hb:Below w.heap.size w w'):Has w' v l:=by obtain⟨a,c,rfl,hc⟩:=h;refine⟨a,c,rfl,fun hne=>?_⟩;obtain⟨g,rfl,hcell⟩:=hc hne;refine⟨g,rfl,fun i hi=>?_⟩;have h0:=hcell i hi;rw[hb.cell (p:=⟨g,i,none⟩) (block_lt_of_cell h0)];exact h0
theorem at_to(v:Value)(l:List Nat)(i:Int)(k x:Nat)(w:World)(hi:i=k)(hx:Big.at' l k=x)(hl:l.length<=1000)(h:Has w v l):
  Calls Tryz.prog 129 #[v,.int .i64 i] w fun e w'=>e=.returned (.int .u64 (x:Nat))/\w'=w:=by
 subst hx;exact at_any v l i k w hi hl h
theorem has_drewN{w:World}{v:Value}{l:List Nat}(h:Has w v l)(n:Nat):Has (w.drewN n) v l:=has_below h (below_drewN (Below.refl _ _) n)
theorem drewN_heap(w:World)(n:Nat):(w.drewN n).heap=w.heap:=by induction n<;>simp_all [World.drewN]
theorem row_set{w:World}{g i:Nat}{out:List Nat}{x:Nat}(h:w.heap[g]? =some (.cells (out.map D).toArray 142 (0,0))):
  (w.setCell ⟨g,i,none⟩ (D x)).heap[g]? =some (.cells ((out.set i x).map D).toArray 142 (0,0)):=by
 rw[gZ h,List.setIfInBounds_toArray,List.map_set]
theorem row_cell{w:World}{g i:Nat}{out:List Nat}(h:w.heap[g]? =some (.cells (out.map D).toArray 142 (0,0)))(hi:i<out.length):w.cell? ⟨g,i,none⟩=some (D (Big.at' out i)):=by rw[gC h,List.getElem?_toArray,List.getElem?_map,List.getElem?_eq_getElem hi];simp only[Option.map_some,Big.at',List.getD_eq_getElem?_getD,List.getElem?_eq_getElem hi,Option.getD_some]
theorem row_owns{w:World}{B g n:Nat}{out:List Nat}(h:w.heap[g]? =some (.cells (out.map D).toArray 142 (0,0)))(hn:out.length=n)(hB:B<=g)(hm:n<=1000):
  w.ownsRow B 142 1 (.slice (some ⟨g,0,none⟩) n n) out.length (out.map D):=by
 subst hn;refine⟨by simp,.inr ⟨g,out.length,(out.map D).toArray,rfl,hB,h,Nat.le_refl _,by unfold maxLen;omega,by simp,?_⟩⟩;rw[List.take_of_length_le (by simp)]
theorem made_row{w:World}{B g n:Nat}(h:w.ownsRow B 142 1 (.slice (some ⟨g,0,none⟩) n n) n (madeCells (Value.int .u64 0).cells (n*1)).toList):
  w.heap[g]? =some (.cells ((List.replicate n 0).map D).toArray 142 (0,0)):=by
 obtain⟨-,hv| ⟨g',cap,cur,e, -,hheap, -, -,hcs,htake⟩⟩:=h
 ·cases hv.1
 ·injection e with e1 e2 e3;injection e1 with e4;injection e4 with e5;subst e5;subst e3;have hc:cur.toList=List.replicate n (Value.int .u64 0):=by
   have h1:cur.toList.take (n*1)=cur.toList:=List.take_of_length_le (by simp;omega);rw[<-h1,htake,Nat.mul_one];exact toList_madeCells_one (Value.int .u64 0) n
  have h2:cur=((List.replicate n 0).map D).toArray:=by apply Array.toList_inj.1;rw[hc,List.map_replicate];rfl
  rw[<-h2];exact hheap
theorem at_zeros(n j:Nat):Big.at' (List.replicate n 0) j=0:=by simp only[Big.at',List.getD_eq_getElem?_getD,List.getElem?_replicate];split<;>rfl
theorem digs_zeros(n:Nat):Big.Digs (List.replicate n 0):=fun d hd=>by rw[List.eq_of_mem_replicate hd];decide
theorem times_any(va vb:Value)(la lb:List Nat)(w:World)(ha:Has w va la)(hb:Has w vb lb)(da:Big.Digs la)(db:Big.Digs lb)(na:la.length<=20)(nb:lb.length<=20):
  Calls Tryz.prog 128 #[va,vb] w fun e w'=>∃v out,e=.returned v/\Big.Digs out/\Big.val out=Big.val la*Big.val lb/\out.length=la.length+lb.length+1/\w'.ownsRow w.heap.size 142 1 v out.length (out.map D)/\Below w.heap.size w w':=by
 obtain⟨i0,hi,hz0,hz1,hz2⟩:=info_parts Tryz.info72;have HA:=gH ha;have HB:=gH hb;have HDA:=gH da;have HDB:=gH db;obtain⟨aa,ca,rfl,hca⟩:=ha;obtain⟨ab,cb,rfl, -⟩:=hb;have HCA:=gH hca;clear hca da db;obtain⟨N,hN⟩:∃N,la.length+lb.length+1=N:=⟨_,rfl⟩;have hN1:N<=41:=by omega
 have HN:=gH hN;have hNi:=gS ((la.length:Int)+(lb.length:Int)+1=(N:Int)) (by omega);have hby:i0.bytes*N<=281474976710656:=by rw[hz2];omega
 clear hN;go_enter Tryz.func128,Tryz.ntmps128
 go_wp2_with (at_make;refine wpList_make_full w rfl (.tmp 15) (.tmp 15) 184 rfl w.heap.size 142 i0 (.int .u64 0) 1 Tryz.underlying184 hi hz0 hz1 .i64 .i64 _ _ N rfl rfl hNi.out hNi.out hby (by unfold maxLen;omega) gR ?_;intro w1 hown hgrow;have HR1:=gH (made_row hown);have hb1:=(Below.refl w.heap.size w).grown hgrow gR (fun k hk=>by cases hk);clear hown hgrow)
 go_loopw [6] (fun iv wq=>∃(i:Nat) (out:List Nat),i<=la.length/\iv=.int .i64 i/\out.length=N/\Big.Digs out/\Big.val out=Big.val (la.take i)*Big.val lb/\(∀j,i+lb.length<=j->Big.at' out j=0)/\wq.heap[w.heap.size]? =some (.cells (out.map D).toArray 142 (0,0))/\Below w.heap.size w wq) (fun iv _=>la.length-(intOf iv).toNat)
 case atStart=>exact⟨0,List.replicate N 0,by omega,rfl,by simp,digs_zeros N,by simp[Big.val,Big.val_zeros],fun j _=>at_zeros N j,HR1.out,hb1⟩
 case round=>
  clear HR1 hb1;obtain⟨i,out,hi1,rfl,hol,hod,hov,hoz,hrow,hbr⟩:=hrel;by_cases hlt:i<la.length
  ·have hrow0:=gH (Big.Row.start (x:=Big.at' la i) (i:=i) (b:=lb) hod hov hoz);have HOL:=gH hol;have HRW:=gH hrow;clear hol hod hov hoz hrow;(go_wp2_with fail);go_loopw [7,8] (fun cv kv wq=>∃(k c:Nat) (out:List Nat),k<=lb.length+1/\(k=lb.length+1->c=0)/\kv=.int .i64 k/\cv=.int .u64 c/\out.length=N/\Big.Row out lb (Big.val (la.take i)*Big.val lb) (Big.at' la i) i k c/\wq.heap[w.heap.size]? =some (.cells (out.map D).toArray 142 (0,0))/\Below w.heap.size w wq) (fun _ kv _=>lb.length+1-(intOf kv).toNat)
   case atStart=>exact⟨0,0,out,by omega,fun _=>rfl,rfl,rfl,HOL.out,hrow0.out,HRW.out,hbr⟩
   case round=>
    clear hrow0 HOL HRW hbr;obtain⟨k,c,out,hk1,hkc,rfl,rfl,hol,hR,hrow,hbr⟩:=hrel;have hcl:=hR.carry;by_cases hgo:k<lb.length\/0<c
    ·(have hkl:k<=lb.length:=by rcases Nat.lt_or_ge lb.length k with h'|h';(·have:=hkc (by omega);omega);exact h');(have hik:i+k<out.length:=by rw[hol,<-HN.out];omega);(have hikN:i+k<N:=by omega);have hstep:=gH (hR.step (Big.at_lt la HDA.out i) HDB.out hik);have hlast:=gH (fun h:k=lb.length=>hR.last h);have co:=row_cell hrow hik;have fo:wr.frozen? ⟨w.heap.size,i+k,none⟩=false:=gF hrow;obtain⟨ga,rfl,hcells⟩:=HCA.out (fun e=>by subst e;simp at hlt);have cai:=hcells i hlt;have cai2:wr.cell? ⟨ga,i,none⟩=some (D (Big.at' la i)):=(hbr.cell (p:=⟨ga,i,none⟩) (block_lt_of_cell cai)).trans cai;have hHB:=gH (has_below HB.out hbr);have hx:=Big.at_lt la HDA.out i;have hbk:=Big.at_lt lb HDB.out k;have hoo:=Big.at_lt out hR.digs (i+k);obtain⟨hmi,hm0⟩:=Big.mul_digs _ _ hx hbk;have HRW:=gH hrow;have HOL:=gH hol;clear cai hcells hR hrow hol hkc;generalize Big.at' la i=x at*;generalize hbe:Big.at' lb k=bk at*;have HBE:=gH hbe;clear hbe;generalize Big.at' out (i+k)=o at*;(have hcase:(k<lb.length)\/(k=lb.length/\0<c):=by omega);rcases hcase with hk2| ⟨hk2,hc2⟩
     ·(go_wp2_with fail);(go_quiet ((go_at_call 129;exact Calls.quiet_of_same (at_to _ lb _ k bk _ rfl HBE.out (by omega) (has_drewN hHB.out _)))));(go_wp2_with fail);exact⟨⟨k+1,(o+x*bk+c)/65536,out.set (i+k) ((o+x*bk+c)%65536),Nat.succ_le_succ hkl,fun h=>hlast.out (by omega),by go_num,congrArg (Value.int IntKind.u64) (Big.cast_div o x bk c),by rw[List.length_set];exact HOL.out,hstep.out,by rw[Big.cast_mod];exact row_set (by rw[drewN_heap];exact HRW.out),(below_drewN hbr nq).setCell gR _⟩,by simp[intOf];omega⟩
     ·(have hk3:decide ((k:Int)< (lb.length:Int))=false:=by simp;omega);(have hk4:lb.length<=k:=by omega);clear hk2 hgo;(go_wp2_with fail);(go_quiet ((go_at_call 129;exact Calls.quiet_of_same (at_to _ lb _ k bk _ rfl HBE.out (by omega) (has_drewN hHB.out _)))));(go_wp2_with fail);exact⟨⟨k+1,(o+x*bk+c)/65536,out.set (i+k) ((o+x*bk+c)%65536),Nat.succ_le_succ hkl,fun h=>hlast.out (by omega),by go_num,congrArg (Value.int IntKind.u64) (Big.cast_div o x bk c),by rw[List.length_set];exact HOL.out,hstep.out,by rw[Big.cast_mod];exact row_set (by rw[drewN_heap];exact HRW.out),(below_drewN hbr nq).setCell gR _⟩,by simp[intOf];omega⟩
    ·(have hc0:c=0:=by omega);(have hkl:lb.length<=k:=by omega);subst hc0;(have hk3:decide ((k:Int)< (lb.length:Int))=false:=by simp;omega);have hv:=gH (Big.row_next la lb out i (hR.done hkl));have hz:=gH hR.rest;have hd:=gH hR.digs;have HRW:=gH hrow;have HOL:=gH hol;clear hR hrow hol hkc;(go_wp2_with fail);go_roundw
     case rel=>exact⟨i+1,out,hlt,by go_num,HOL.out,hd.out,hv.out,fun j hj=>hz.out j (by omega) (by omega),HRW.out,hbr⟩
     case measure=>simp[intOf];omega
  ·(have e:i=la.length:=by omega);subst e;have hov2:=gH hov;have HRW:=gH hrow;have HOD:=gH hod;have HOL:=gH hol;clear hov hoz hrow hod hol;(go_wp2_with fail);go_ret;refine⟨_,out,rfl,HOD.out,?_,HOL.out.trans HN.out.symm,row_owns HRW.out HOL.out gR (by omega),hbr⟩;rw[hov2.out,List.take_length]
theorem val_up(p n:Nat):Big.val (List.replicate n 0++[p])=p*65536 ^ n:=by rw[Big.val_snoc,Big.val_zeros,List.length_replicate,Nat.zero_add,Nat.mul_comm]
theorem digs_up(p n:Nat)(hp:p<65536):Big.Digs (List.replicate n 0++[p]):=fun d hd=>by
 rcases List.mem_append.1 hd with h|h
 ·exact digs_zeros n d h
 ·rw[List.mem_singleton.1 h];exact hp
theorem above_gt(t b:List Nat)(x p power k:Nat)(hb:Big.Digs b)(ht:Big.val t=x ^ power)(hbv:Big.val b=p*65536 ^ (2*power))(he:∀j,k<j->Big.at' t j=Big.at' b j)(h:Big.at' b k<Big.at' t k):Big.above x p power=true:=by have:=Big.val_lt_of b t hb k (fun j hj=>(he j hj).symm) h;simp only[Big.above,decide_eq_true_eq];omega
theorem above_lt(t b:List Nat)(x p power k:Nat)(hd:Big.Digs t)(ht:Big.val t=x ^ power)(hbv:Big.val b=p*65536 ^ (2*power))(he:∀j,k<j->Big.at' t j=Big.at' b j)(h:Big.at' t k<Big.at' b k):Big.above x p power=false:=by have:=Big.val_lt_of t b hd k he h;simp only[Big.above,decide_eq_false_iff_not];omega
theorem above_eq(t b:List Nat)(x p power:Nat)(ht:Big.val t=x ^ power)(hbv:Big.val b=p*65536 ^ (2*power))(he:∀j,Big.at' t j=Big.at' b j):Big.above x p power=false:=by have:=Big.val_eq_of t b he;simp only[Big.above,decide_eq_false_iff_not];omega
theorem at_out{l:List Nat}{j:Nat}(h:l.length<=j):Big.at' l j=0:=by simp only[Big.at',List.getD_eq_getElem?_getD,List.getElem?_eq_none h,Option.getD_none]
theorem ret_bool{a b:Bool}(h:a=b):Ending.returned (.bool a)=.returned (.bool b):=by rw[h]
theorem over2_any(x p:Nat)(w:World)(hx:x<1099511627776)(hp:p<65536):
  Calls Tryz.prog 90 #[.int .u64 x,.int .i64 p,.int .i64 2] w fun e w'=>e=.returned (.bool (Big.above x p 2))/\Below w.heap.size w w':=by
 obtain⟨i0,hi,hz0,hz1,hz2⟩:=info_parts Tryz.info72;go_enter Tryz.func90,Tryz.ntmps90
 go_wp2_with fail
 refine(digits_any x _ hx).mono ?_;rintro e w1⟨va,la,rfl,da,ea,na,hown1,hb1⟩;have hA:=gH (has_of hown1);have DA:=gH da;have EA:=gH ea;clear hown1 da ea;go_wp2_with fail
 refine(times_any _ _ la la _ hA.out hA.out DA.out DA.out (by omega) (by omega)).mono ?_;rintro e w2⟨vt,lt,rfl,dt,et,nt,hown2,hb2⟩;have hT:=gH (has_of hown2);have hA2:=gH (has_below hA.out hb2);have DT:=gH dt;have ET:=gH et;have NT:=gH nt;have ntb:lt.length<=7:=by omega
 clear hown2 dt et nt;have EU:=gS (Big.val lt=x ^ 2) (by rw[ET.out,EA.out];simp[Nat.pow_succ]);have hbw:=hb1.trans (hb2.mono hb1.size);have hbs:=hbw.size;clear hb1 hb2;go_wp2;go_loopw [9,10] (fun v iv wq=>∃k:Nat,k<=4/\iv=.int .i64 k/\wq.ownsRow w2.heap.size 142 1 v k ((List.replicate k 0).map D)/\Below w2.heap.size w2 wq) (fun _ iv _=>4-(intOf iv).toNat)
 case atStart=>exact⟨0,by omega,rfl,World.ownsRow_nil _ _ _ _,Below.refl _ _⟩
 case round=>
  obtain⟨k,hk,rfl,hown,hb⟩:=hrel;have HO:=gH hown;have hs:=hb.size;clear hown;by_cases hlt:k<4
  ·go_wp2_with (at_builtin;refine wpList_append_own _ rfl (.tmp 30) (.tmp 31) 184 rfl w2.heap.size 142 i0 (.int .u64 0) 1 8 Tryz.underlying184 hi hz0 hz1 hz2 rfl (by decide) _ k ((List.replicate k 0).map D) rfl (HO.out.alloc _) ⟨wr.heap.size,0,none⟩ 1 1 [D 0] rfl rfl ?c1 ?c2 ?c3 ?c4 ?c5 ?_)
   case c1=>
    intro i u hiu
    match i,hiu with
    |0,hiu=>simp at hiu;subst hiu;simp[Addr.add]
   case c2=>intro u hu;simp at hu;subst hu;rfl
   case c3=>unfold maxLen;omega
   case c4=>omega
   case c5=>simp;omega
   ·intro v' w5 hown' hgrow _;have hb5:Below w2.heap.size w2 w5:=(hb.alloc hs _).grown hgrow (by simp;omega) (fun k hk=>(HO.out.lt k hk).1);have HO5:=gH hown';clear hown' hgrow;go_wp2;go_roundw
    case rel=>refine⟨k+1,hlt,by go_num,?_,hb5⟩;have:=HO5.out;rw[List.replicate_succ',List.map_append,List.map_replicate];exact this
    case measure=>simp[intOf];omega
  ·(have e:k=4:=by omega);subst e;go_wp2_with (at_builtin;refine wpList_append_own _ rfl (.tmp 33) (.tmp 36) 184 rfl w2.heap.size 142 i0 (.int .u64 0) 1 8 Tryz.underlying184 hi hz0 hz1 hz2 rfl (by decide) _ 4 ((List.replicate 4 0).map D) rfl (HO.out.alloc _) ⟨wr.heap.size,0,none⟩ 1 1 [D p] rfl rfl ?d1 ?d2 ?d3 ?d4 ?d5 ?_)
   case d1=>
    intro i u hiu
    match i,hiu with
    |0,hiu=>simp at hiu;subst hiu;simp[Addr.add]
   case d2=>intro u hu;simp at hu;subst hu;rfl
   case d3=>unfold maxLen;omega
   case d4=>omega
   case d5=>simp;omega
   intro v5 w5 hown' hgrow _;have hb5:Below w2.heap.size w2 w5:=(hb.alloc hs _).grown hgrow (by simp;omega) (fun k hk=>(HO.out.lt k hk).1);have hB:=gS (Has w5 v5 (List.replicate 4 0++[p])) (has_of (n:=4+1) (by rw[List.map_append];exact hown'));have hT5:=gH (has_below hT.out hb5);have hbw5:Below w.heap.size w w5:=hbw.trans (hb5.mono hbs);have hVB:=gS (Big.val (List.replicate 4 0++[p])=p*65536 ^ (2*2)) (val_up p 4);have hDB:=gH (digs_up p 4 hp);(have hLB:(List.replicate 4 0++[p]).length=5:=by simp);generalize List.replicate 4 0++[p]=lb at*;have HLB:=gH hLB;clear hown' hgrow hb hs HO hLB hlt hk hb5;(have hlb1:1<=lb.length:=by rw[HLB.out];omega);(have hlb2:lb.length<=20:=by rw[HLB.out];omega);(have hlt2:lt.length<=20:=by omega);clear ET NT hA hA2 hi hz0 hz1 hz2;obtain⟨at1,ct,e1, -⟩:=hT5.out;obtain⟨ab1,cb,e2, -⟩:=hB.out;rw[e1] at hT5⊢;rw[e2] at hB⊢;clear e1 e2;by_cases hle:lt.length<lb.length
   ·(go_wp2_with fail);go_loopw [11] (fun iv wq=>∃n:Nat,n<=lb.length/\iv=.int .i64 ((n:Int)-1)/\(∀j,n<=j->Big.at' lt j=Big.at' lb j)/\wq=w5) (fun iv _=>(intOf iv+1).toNat)
    case atStart=>exact⟨lb.length,Nat.le_refl _,by first|rfl| (congr 1;omega),fun j hj=>(at_out (by omega)).trans (at_out (by omega)).symm,rfl⟩
    case round=>
     obtain⟨n,hn,rfl,hall,rfl⟩:=hrel;have HAL:=gH hall;clear hall;by_cases hpos:0<n
     ·obtain⟨k,rfl⟩:∃k,n=k+1:=⟨n-1,by omega⟩;rw[show((k+1:Nat):Int)-1=(k:Int) by omega];obtain⟨u,hu⟩:∃u,Big.at' lt k=u:=⟨_,rfl⟩;obtain⟨v,hv⟩:∃v,Big.at' lb k=v:=⟨_,rfl⟩;have HU:=gH hu;have HV:=gH hv;clear hu hv;by_cases huv:u=v
      ·(have hne:((u:Int)!=(v:Int))=false:=by simp[huv]);have HUV:=gH huv;clear huv;(go_wp2_with fail);refine(at_to _ lt _ k u _ rfl HU.out (by omega) hT5.out).mono ?_;rintro e w'⟨rfl,rfl⟩;(go_wp2_with fail);refine(at_to _ lb _ k v _ rfl HV.out (by omega) hB.out).mono ?_;rintro e w'⟨rfl,rfl⟩;(go_wp2_with fail);go_roundw
       case rel=>
        refine⟨k,by omega,rfl,fun j hj=>?_,by first|rfl|trivial⟩;by_cases e:j=k
        ·subst e;rw[HU.out,HV.out,HUV.out]
        ·exact HAL.out j (by omega)
       case measure=>first| (simp[intOf];done)| (simp[intOf];omega)
      ·(have hne:((u:Int)!=(v:Int))=true:=by simp;omega);have HUV:=gH huv;clear huv;(go_wp2_with fail);refine(at_to _ lt _ k u _ rfl HU.out (by omega) hT5.out).mono ?_;rintro e w'⟨rfl,rfl⟩;(go_wp2_with fail);refine(at_to _ lb _ k v _ rfl HV.out (by omega) hB.out).mono ?_;rintro e w'⟨rfl,rfl⟩;(go_wp2_with fail);go_ret;refine⟨ret_bool ?_,hbw5⟩;have hj:∀j,k<j->Big.at' lt j=Big.at' lb j:=fun j hj=>HAL.out j (by omega);have huv:=HUV.out;by_cases hg:v<u
       ·rw[above_gt lt lb x p 2 k hDB.out EU.out hVB.out hj (by rw[HU.out,HV.out];exact hg)];simp;omega
       ·rw[above_lt lt lb x p 2 k DT.out EU.out hVB.out hj (by rw[HU.out,HV.out];omega)];simp;omega
     ·(have e0:n=0:=by omega);subst e0;(go_wp2_with fail);go_ret;refine⟨ret_bool ?_,hbw5⟩;rw[above_eq lt lb x p 2 EU.out hVB.out (fun j=>HAL.out j (Nat.zero_le _))]
   ·(go_wp2_with fail);go_loopw [11] (fun iv wq=>∃n:Nat,n<=lt.length/\iv=.int .i64 ((n:Int)-1)/\(∀j,n<=j->Big.at' lt j=Big.at' lb j)/\wq=w5) (fun iv _=>(intOf iv+1).toNat)
    case atStart=>exact⟨lt.length,Nat.le_refl _,by first|rfl| (congr 1;omega),fun j hj=>(at_out (by omega)).trans (at_out (by omega)).symm,rfl⟩
    case round=>
     obtain⟨n,hn,rfl,hall,rfl⟩:=hrel;have HAL:=gH hall;clear hall;by_cases hpos:0<n
     ·obtain⟨k,rfl⟩:∃k,n=k+1:=⟨n-1,by omega⟩;rw[show((k+1:Nat):Int)-1=(k:Int) by omega];obtain⟨u,hu⟩:∃u,Big.at' lt k=u:=⟨_,rfl⟩;obtain⟨v,hv⟩:∃v,Big.at' lb k=v:=⟨_,rfl⟩;have HU:=gH hu;have HV:=gH hv;clear hu hv;by_cases huv:u=v
      ·(have hne:((u:Int)!=(v:Int))=false:=by simp[huv]);have HUV:=gH huv;clear huv;(go_wp2_with fail);refine(at_to _ lt _ k u _ rfl HU.out (by omega) hT5.out).mono ?_;rintro e w'⟨rfl,rfl⟩;(go_wp2_with fail);refine(at_to _ lb _ k v _ rfl HV.out (by omega) hB.out).mono ?_;rintro e w'⟨rfl,rfl⟩;(go_wp2_with fail);go_roundw
       case rel=>
        refine⟨k,by omega,rfl,fun j hj=>?_,by first|rfl|trivial⟩;by_cases e:j=k
        ·subst e;rw[HU.out,HV.out,HUV.out]
        ·exact HAL.out j (by omega)
       case measure=>first| (simp[intOf];done)| (simp[intOf];omega)
      ·(have hne:((u:Int)!=(v:Int))=true:=by simp;omega);have HUV:=gH huv;clear huv;(go_wp2_with fail);refine(at_to _ lt _ k u _ rfl HU.out (by omega) hT5.out).mono ?_;rintro e w'⟨rfl,rfl⟩;(go_wp2_with fail);refine(at_to _ lb _ k v _ rfl HV.out (by omega) hB.out).mono ?_;rintro e w'⟨rfl,rfl⟩;(go_wp2_with fail);go_ret;refine⟨ret_bool ?_,hbw5⟩;have hj:∀j,k<j->Big.at' lt j=Big.at' lb j:=fun j hj=>HAL.out j (by omega);have huv:=HUV.out;by_cases hg:v<u
       ·rw[above_gt lt lb x p 2 k hDB.out EU.out hVB.out hj (by rw[HU.out,HV.out];exact hg)];simp;omega
       ·rw[above_lt lt lb x p 2 k DT.out EU.out hVB.out hj (by rw[HU.out,HV.out];omega)];simp;omega
     ·(have e0:n=0:=by omega);subst e0;(go_wp2_with fail);go_ret;refine⟨ret_bool ?_,hbw5⟩;rw[above_eq lt lb x p 2 EU.out hVB.out (fun j=>HAL.out j (Nat.zero_le _))]
theorem over3_any(x p:Nat)(w:World)(hx:x<1099511627776)(hp:p<65536):
  Calls Tryz.prog 90 #[.int .u64 x,.int .i64 p,.int .i64 3] w fun e w'=>e=.returned (.bool (Big.above x p 3))/\Below w.heap.size w w':=by
 obtain⟨i0,hi,hz0,hz1,hz2⟩:=info_parts Tryz.info72;go_enter Tryz.func90,Tryz.ntmps90
 go_wp2_with fail
 refine(digits_any x _ hx).mono ?_;rintro e w1⟨va,la,rfl,da,ea,na,hown1,hb1⟩;have hA:=gH (has_of hown1);have DA:=gH da;have EA:=gH ea;clear hown1 da ea;go_wp2_with fail
 refine(times_any _ _ la la _ hA.out hA.out DA.out DA.out (by omega) (by omega)).mono ?_;rintro e w2⟨vt,lt,rfl,dt,et,nt,hown2,hb2⟩;have hT:=gH (has_of hown2);have hA2:=gH (has_below hA.out hb2);have DT:=gH dt;have ET:=gH et;have NT:=gH nt;have ntb:lt.length<=7:=by omega
 clear hown2 dt et nt;go_wp2_with fail
 refine(times_any _ _ lt la _ hT.out hA2.out DT.out DA.out (by omega) (by omega)).mono ?_;rintro e w3⟨vu,lu,rfl,du,eu,nu,hown3,hb3⟩;have hU:=gH (has_of hown3);have DU:=gH du;have nub:lu.length<=11:=by omega
 have EU:=gS (Big.val lu=x ^ 3) (by rw[eu,ET.out,EA.out];simp[Nat.pow_succ]);have hbw:=((hb1.trans (hb2.mono hb1.size)).trans (hb3.mono (Nat.le_trans hb1.size hb2.size)));clear hown3 du eu nu;have hbs:=hbw.size;clear hb1 hb2;go_wp2;go_loopw [9,10] (fun v iv wq=>∃k:Nat,k<=6/\iv=.int .i64 k/\wq.ownsRow w3.heap.size 142 1 v k ((List.replicate k 0).map D)/\Below w3.heap.size w3 wq) (fun _ iv _=>6-(intOf iv).toNat)
 case atStart=>exact⟨0,by omega,rfl,World.ownsRow_nil _ _ _ _,Below.refl _ _⟩
 case round=>
  obtain⟨k,hk,rfl,hown,hb⟩:=hrel;have HO:=gH hown;have hs:=hb.size;clear hown;by_cases hlt:k<6
  ·go_wp2_with (at_builtin;refine wpList_append_own _ rfl (.tmp 30) (.tmp 31) 184 rfl w3.heap.size 142 i0 (.int .u64 0) 1 8 Tryz.underlying184 hi hz0 hz1 hz2 rfl (by decide) _ k ((List.replicate k 0).map D) rfl (HO.out.alloc _) ⟨wr.heap.size,0,none⟩ 1 1 [D 0] rfl rfl ?c1 ?c2 ?c3 ?c4 ?c5 ?_)
   case c1=>
    intro i u hiu
    match i,hiu with
    |0,hiu=>simp at hiu;subst hiu;simp[Addr.add]
   case c2=>intro u hu;simp at hu;subst hu;rfl
   case c3=>unfold maxLen;omega
   case c4=>omega
   case c5=>simp;omega
   ·intro v' w5 hown' hgrow _;have hb5:Below w3.heap.size w3 w5:=(hb.alloc hs _).grown hgrow (by simp;omega) (fun k hk=>(HO.out.lt k hk).1);have HO5:=gH hown';clear hown' hgrow;go_wp2;go_roundw
    case rel=>refine⟨k+1,hlt,by go_num,?_,hb5⟩;have:=HO5.out;rw[List.replicate_succ',List.map_append,List.map_replicate];exact this
    case measure=>simp[intOf];omega
  ·(have e:k=6:=by omega);subst e;go_wp2_with (at_builtin;refine wpList_append_own _ rfl (.tmp 33) (.tmp 36) 184 rfl w3.heap.size 142 i0 (.int .u64 0) 1 8 Tryz.underlying184 hi hz0 hz1 hz2 rfl (by decide) _ 6 ((List.replicate 6 0).map D) rfl (HO.out.alloc _) ⟨wr.heap.size,0,none⟩ 1 1 [D p] rfl rfl ?d1 ?d2 ?d3 ?d4 ?d5 ?_)
   case d1=>
    intro i u hiu
    match i,hiu with
    |0,hiu=>simp at hiu;subst hiu;simp[Addr.add]
   case d2=>intro u hu;simp at hu;subst hu;rfl
   case d3=>unfold maxLen;omega
   case d4=>omega
   case d5=>simp;omega
   intro v5 w5 hown' hgrow _;have hb5:Below w3.heap.size w3 w5:=(hb.alloc hs _).grown hgrow (by simp;omega) (fun k hk=>(HO.out.lt k hk).1);have hB:=gS (Has w5 v5 (List.replicate 6 0++[p])) (has_of (n:=6+1) (by rw[List.map_append];exact hown'));have hT5:=gH (has_below hU.out hb5);have hbw5:Below w.heap.size w w5:=hbw.trans (hb5.mono hbs);have hVB:=gS (Big.val (List.replicate 6 0++[p])=p*65536 ^ (2*3)) (val_up p 6);have hDB:=gH (digs_up p 6 hp);(have hLB:(List.replicate 6 0++[p]).length=7:=by simp);generalize List.replicate 6 0++[p]=lb at*;have HLB:=gH hLB;clear hown' hgrow hb hs HO hLB hlt hk hb5;(have hlb1:1<=lb.length:=by rw[HLB.out];omega);(have hlb2:lb.length<=20:=by rw[HLB.out];omega);(have hlt2:lu.length<=20:=by omega);clear ET NT hA hA2 hi hz0 hz1 hz2;obtain⟨at1,ct,e1, -⟩:=hT5.out;obtain⟨ab1,cb,e2, -⟩:=hB.out;rw[e1] at hT5⊢;rw[e2] at hB⊢;clear e1 e2;by_cases hle:lu.length<lb.length
   ·(go_wp2_with fail);go_loopw [11] (fun iv wq=>∃n:Nat,n<=lb.length/\iv=.int .i64 ((n:Int)-1)/\(∀j,n<=j->Big.at' lu j=Big.at' lb j)/\wq=w5) (fun iv _=>(intOf iv+1).toNat)
    case atStart=>exact⟨lb.length,Nat.le_refl _,by first|rfl| (congr 1;omega),fun j hj=>(at_out (by omega)).trans (at_out (by omega)).symm,rfl⟩
    case round=>
     obtain⟨n,hn,rfl,hall,rfl⟩:=hrel;have HAL:=gH hall;clear hall;by_cases hpos:0<n
     ·obtain⟨k,rfl⟩:∃k,n=k+1:=⟨n-1,by omega⟩;rw[show((k+1:Nat):Int)-1=(k:Int) by omega];obtain⟨u,hu⟩:∃u,Big.at' lu k=u:=⟨_,rfl⟩;obtain⟨v,hv⟩:∃v,Big.at' lb k=v:=⟨_,rfl⟩;have HU:=gH hu;have HV:=gH hv;clear hu hv;by_cases huv:u=v
      ·(have hne:((u:Int)!=(v:Int))=false:=by simp[huv]);have HUV:=gH huv;clear huv;(go_wp2_with fail);refine(at_to _ lu _ k u _ rfl HU.out (by omega) hT5.out).mono ?_;rintro e w'⟨rfl,rfl⟩;(go_wp2_with fail);refine(at_to _ lb _ k v _ rfl HV.out (by omega) hB.out).mono ?_;rintro e w'⟨rfl,rfl⟩;(go_wp2_with fail);go_roundw
       case rel=>
        refine⟨k,by omega,rfl,fun j hj=>?_,by first|rfl|trivial⟩;by_cases e:j=k
        ·subst e;rw[HU.out,HV.out,HUV.out]
        ·exact HAL.out j (by omega)
       case measure=>first| (simp[intOf];done)| (simp[intOf];omega)
      ·(have hne:((u:Int)!=(v:Int))=true:=by simp;omega);have HUV:=gH huv;clear huv;(go_wp2_with fail);refine(at_to _ lu _ k u _ rfl HU.out (by omega) hT5.out).mono ?_;rintro e w'⟨rfl,rfl⟩;(go_wp2_with fail);refine(at_to _ lb _ k v _ rfl HV.out (by omega) hB.out).mono ?_;rintro e w'⟨rfl,rfl⟩;(go_wp2_with fail);go_ret;refine⟨ret_bool ?_,hbw5⟩;have hj:∀j,k<j->Big.at' lu j=Big.at' lb j:=fun j hj=>HAL.out j (by omega);have huv:=HUV.out;by_cases hg:v<u
       ·rw[above_gt lu lb x p 3 k hDB.out EU.out hVB.out hj (by rw[HU.out,HV.out];exact hg)];simp;omega
       ·rw[above_lt lu lb x p 3 k DU.out EU.out hVB.out hj (by rw[HU.out,HV.out];omega)];simp;omega
     ·(have e0:n=0:=by omega);subst e0;(go_wp2_with fail);go_ret;refine⟨ret_bool ?_,hbw5⟩;rw[above_eq lu lb x p 3 EU.out hVB.out (fun j=>HAL.out j (Nat.zero_le _))]
   ·(go_wp2_with fail);go_loopw [11] (fun iv wq=>∃n:Nat,n<=lu.length/\iv=.int .i64 ((n:Int)-1)/\(∀j,n<=j->Big.at' lu j=Big.at' lb j)/\wq=w5) (fun iv _=>(intOf iv+1).toNat)
    case atStart=>exact⟨lu.length,Nat.le_refl _,by first|rfl| (congr 1;omega),fun j hj=>(at_out (by omega)).trans (at_out (by omega)).symm,rfl⟩
    case round=>
     obtain⟨n,hn,rfl,hall,rfl⟩:=hrel;have HAL:=gH hall;clear hall;by_cases hpos:0<n
     ·obtain⟨k,rfl⟩:∃k,n=k+1:=⟨n-1,by omega⟩;rw[show((k+1:Nat):Int)-1=(k:Int) by omega];obtain⟨u,hu⟩:∃u,Big.at' lu k=u:=⟨_,rfl⟩;obtain⟨v,hv⟩:∃v,Big.at' lb k=v:=⟨_,rfl⟩;have HU:=gH hu;have HV:=gH hv;clear hu hv;by_cases huv:u=v
      ·(have hne:((u:Int)!=(v:Int))=false:=by simp[huv]);have HUV:=gH huv;clear huv;(go_wp2_with fail);refine(at_to _ lu _ k u _ rfl HU.out (by omega) hT5.out).mono ?_;rintro e w'⟨rfl,rfl⟩;(go_wp2_with fail);refine(at_to _ lb _ k v _ rfl HV.out (by omega) hB.out).mono ?_;rintro e w'⟨rfl,rfl⟩;(go_wp2_with fail);go_roundw
       case rel=>
        refine⟨k,by omega,rfl,fun j hj=>?_,by first|rfl|trivial⟩;by_cases e:j=k
        ·subst e;rw[HU.out,HV.out,HUV.out]
        ·exact HAL.out j (by omega)
       case measure=>first| (simp[intOf];done)| (simp[intOf];omega)
      ·(have hne:((u:Int)!=(v:Int))=true:=by simp;omega);have HUV:=gH huv;clear huv;(go_wp2_with fail);refine(at_to _ lu _ k u _ rfl HU.out (by omega) hT5.out).mono ?_;rintro e w'⟨rfl,rfl⟩;(go_wp2_with fail);refine(at_to _ lb _ k v _ rfl HV.out (by omega) hB.out).mono ?_;rintro e w'⟨rfl,rfl⟩;(go_wp2_with fail);go_ret;refine⟨ret_bool ?_,hbw5⟩;have hj:∀j,k<j->Big.at' lu j=Big.at' lb j:=fun j hj=>HAL.out j (by omega);have huv:=HUV.out;by_cases hg:v<u
       ·rw[above_gt lu lb x p 3 k hDB.out EU.out hVB.out hj (by rw[HU.out,HV.out];exact hg)];simp;omega
       ·rw[above_lt lu lb x p 3 k DU.out EU.out hVB.out hj (by rw[HU.out,HV.out];omega)];simp;omega
     ·(have e0:n=0:=by omega);subst e0;(go_wp2_with fail);go_ret;refine⟨ret_bool ?_,hbw5⟩;rw[above_eq lu lb x p 3 EU.out hVB.out (fun j=>HAL.out j (Nat.zero_le _))]
end Ref
end Go.Proofs.YtenaelkbgkpllaaGreatDoor
