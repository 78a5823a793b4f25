/- Part 3 of what the four laws rest on: laid by a program out of the texts of wip/T. -/
import Derived.Test.YtenaelkbgkpllaaGreatDoorLaw02
set_option maxRecDepth 100000
set_option maxHeartbeats 8000000
namespace Go.Proofs.YtenaelkbgkpllaaGreatDoor
namespace Sha
theorem maj_or(x y z:Nat):((x &&& y) ||| (x &&& z)) ||| (y &&& z)=maj x y z:=by apply Nat.eq_of_testBit_eq;intro i;simp only[maj,Nat.testBit_or,Nat.testBit_and,Nat.testBit_xor];cases x.testBit i<;>cases y.testBit i<;>cases z.testBit i<;>rfl
theorem ch_or(x y z:Nat)(hx:x<4294967296):(x &&& y) ||| ((4294967295 ^^^ x) &&& z)=ch x y z:=by
 apply Nat.eq_of_testBit_eq;intro i;simp only[ch,Nat.testBit_or,Nat.testBit_and,Nat.testBit_xor];by_cases hi:i<32
 ·have h:Nat.testBit 4294967295 i=true:=by
   have:=Nat.testBit_two_pow_sub_one 32 i;rw[show(4294967295:Nat)=2 ^ 32-1 from rfl,this];exact decide_eq_true hi
  rw[h];cases x.testBit i<;>cases y.testBit i<;>cases z.testBit i<;>rfl
 ·have h:x.testBit i=false:=Nat.testBit_lt_two_pow (Nat.lt_of_lt_of_le hx (Nat.pow_le_pow_right (n:=2) (by decide) (show 32<=i by omega)));rw[h];cases (Nat.testBit 4294967295 i)<;>cases y.testBit i<;>cases z.testBit i<;>rfl
theorem stirN_app(A B:List UInt8)(k:Nat)(hA:A.length=64*k):∀(m:Nat) (s:St),stirN (A++B) (k+m) s=stirN B m (stirN A k s)
 |0,s=>by
  have key:∀j,j<=k->stirN (A++B) j s=stirN A j s:=by
   intro j;induction j with
   |zero=>intro _;rfl
   |succ j ih=>intro hj;show stir (stirN (A++B) j s) (((A++B).drop (64*j)).take 64)=stir (stirN A j s) ((A.drop (64*j)).take 64);rw[ih (by omega),List.drop_append_of_le_length (by omega),List.take_append_of_le_length (by rw[List.length_drop];omega)]
  exact key k (Nat.le_refl _)
 |m+1,s=>by show stir (stirN (A++B) (k+m) s) (((A++B).drop (64*(k+m))).take 64)=stir (stirN B m (stirN A k s)) ((B.drop (64*m)).take 64);rw[stirN_app A B k hA m s,show 64*(k+m)=A.length+64*m by omega,List.drop_append,List.drop_eq_nil_of_le (by omega),List.nil_append,Nat.add_sub_cancel_left]
theorem padding_length(n:Nat):(padding n).length=9+(119-n%64)%64:=by simp[padding,four];omega
def padded(l:List UInt8):List UInt8:=l++padding l.length
theorem padded_length(l:List UInt8):(padded l).length=l.length+9+(119-l.length%64)%64:=by simp[padded,padding_length];omega
theorem padded_mod(l:List UInt8):(padded l).length%64=0:=by rw[padded_length];omega
theorem state_padded(l:List UInt8):stirN (padded l) ((padded l).length/64) start=state l:=by
 have h1:padded l=l.take (whole l.length)++last l:=by unfold padded last;rw[<-List.append_assoc,List.take_append_drop]
 have h2:(l.take (whole l.length)).length=64*(l.length/64):=by rw[List.length_take];unfold whole;omega
 have h3:(padded l).length/64=l.length/64+(last l).length/64:=by rw[h1,List.length_append,h2];omega
 rw[h3,h1,stirN_app _ _ _ h2];rfl
theorem spread_take(l:List UInt8)(n:Nat):∀m,n<=m->(spreadTo l m).take (16+n)=spreadTo l n
 |0,h=>by
  have:n=0:=by omega
  subst this;rw[List.take_of_length_le (by rw[spreadTo_length];omega)]
 |m+1,h=>by
  by_cases e:n=m+1
  ·subst e;rw[List.take_of_length_le (by rw[spreadTo_length];omega)]
  ·show(spreadTo l m++[nextW (spreadTo l m) m]).take (16+n)=_;rw[List.take_append_of_le_length (by rw[spreadTo_length];omega),spread_take l n m (by omega)]
theorem spread_get(l:List UInt8)(n j:Nat)(hn:n<=48)(hj:j<16+n):(spreadTo l n).getD j 0=(spreadTo l 48).getD j 0:=by rw[<-spread_take l n 48 hn,List.getD_eq_getElem?_getD,List.getD_eq_getElem?_getD,List.getElem?_take_of_lt hj]
theorem first_get(l:List UInt8):∀(n j:Nat),j<n->(first l n).getD j 0=word l (4*j)
 |n+1,j,h=>by
  show(first l n++[word l (4*n)]).getD j 0=_;by_cases e:j=n
  ·subst e;rw[List.getD_eq_getElem?_getD,List.getElem?_append_right (by rw[first_length];omega),first_length,Nat.sub_self,List.getElem?_cons_zero,Option.getD_some]
  ·rw[List.getD_eq_getElem?_getD,List.getElem?_append_left (by rw[first_length];omega),<-List.getD_eq_getElem?_getD];exact first_get l n j (by omega)
theorem spread_low(l:List UInt8)(t:Nat)(h:t<16):(spreadTo l 48).getD t 0=word l (4*t):=by rw[<-spread_get l 0 t (by omega) (by omega)];exact first_get l 16 t h
theorem spread_high(l:List UInt8)(n:Nat)(h:n<48):(spreadTo l 48).getD (n+16) 0=(((ss1 ((spreadTo l 48).getD (n+14) 0)+(spreadTo l 48).getD (n+9) 0)%4294967296+ss0 ((spreadTo l 48).getD (n+1) 0))%4294967296+(spreadTo l 48).getD n 0)%4294967296:=by rw[<-spread_get l (n+1) (n+16) (by omega) (by omega)];show(spreadTo l n++[nextW (spreadTo l n) n]).getD (n+16) 0=_;rw[List.getD_eq_getElem?_getD,List.getElem?_append_right (by rw[spreadTo_length];omega),spreadTo_length,show n+16-(16+n)=0 by omega,List.getElem?_cons_zero,Option.getD_some];unfold nextW;rw[spread_get l n (n+14) (by omega) (by omega),spread_get l n (n+9) (by omega) (by omega),spread_get l n (n+1) (by omega) (by omega),spread_get l n n (by omega) (by omega)]
theorem byteAt_part(l:List UInt8)(i k:Nat)(h:k<64):byteAt ((l.drop i).take 64) k=byteAt l (i+k):=by unfold byteAt;rw[List.getD_eq_getElem?_getD,List.getD_eq_getElem?_getD,List.getElem?_take_of_lt h,List.getElem?_drop]
theorem word_part(l:List UInt8)(i k:Nat)(h:k+4<=64):word ((l.drop i).take 64) k=word l (i+k):=by unfold word;rw[byteAt_part l i k (by omega),byteAt_part l i (k+1) (by omega),byteAt_part l i (k+2) (by omega),byteAt_part l i (k+3) (by omega),<-Nat.add_assoc,<-Nat.add_assoc,<-Nat.add_assoc]
def sh(l:List Nat)(k:Nat):List Nat:=[l.getD 0 0,if 1<=k then l.getD 1 0 else l.getD 0 0,if 2<=k then l.getD 2 0 else l.getD 1 0,if 3<=k then l.getD 3 0 else l.getD 2 0,if 4<=k then l.getD 4 0 else l.getD 3 0,if 5<=k then l.getD 5 0 else l.getD 4 0,if 6<=k then l.getD 6 0 else l.getD 5 0,if 7<=k then l.getD 7 0 else l.getD 6 0]
theorem sh_step(a b c d e f g h:Nat):∀k,1<=k->k<=7->(sh [a,b,c,d,e,f,g,h] k).set k ([a,b,c,d,e,f,g,h].getD (k-1) 0)=sh [a,b,c,d,e,f,g,h] (k-1)
 |0,h,_=>absurd h (by omega)
 |1,_,_=>rfl
 |2,_,_=>rfl
 |3,_,_=>rfl
 |4,_,_=>rfl
 |5,_,_=>rfl
 |6,_,_=>rfl
 |7,_,_=>rfl
 |k+8,_,h=>absurd h (by omega)
theorem sh_at(a b c d e f g h:Nat):∀k,1<=k->k<=7->(sh [a,b,c,d,e,f,g,h] k)[k-1]? =some ([a,b,c,d,e,f,g,h].getD (k-1) 0)
 |0,h,_=>absurd h (by omega)
 |1,_,_=>rfl
 |2,_,_=>rfl
 |3,_,_=>rfl
 |4,_,_=>rfl
 |5,_,_=>rfl
 |6,_,_=>rfl
 |7,_,_=>rfl
 |k+8,_,h=>absurd h (by omega)
theorem sh_len(l:List Nat)(k:Nat):(sh l k).length=8:=rfl
end Sha
namespace Wd
def lev(L:List Pt):(n:Nat)->List (T n)
 |0=>leaves L
 |n+1=>fours (lev L n)
def Up(L:List Pt)(n:Nat):Prop:=∃k,(lev L n).length<k/\climb k n (lev L n)=tree L
theorem up_zero(L:List Pt):Up L 0:=⟨_,leaves_lt L,rfl⟩
theorem lev_ne(L:List Pt):∀n,lev L n≠[]
 |0=>leaves_ne L
 |n+1=>fun e=>by have:=congrArg List.length e;have h:lev L n≠[]:=lev_ne L n;have hl:(lev L n).length≠0:=fun e=>h (List.length_eq_zero_iff.1 e);rw[lev,gP] at this;simp at this;omega
theorem up_succ{L:List Pt}{n:Nat}(h:Up L n)(hl:1< (lev L n).length):Up L (n+1):=by
 obtain⟨k,hk,e⟩:=h
 match k,hk,e with
 |k+1,hk,e=>rw[Gb _ _ _ (by omega)] at e;exact⟨k,by rw[lev,gP];omega,e⟩
theorem up_end{L:List Pt}{n:Nat}(h:Up L n)(hl:¬1< (lev L n).length):∃t,lev L n=[t]/\tree L=⟨n,t⟩:=by
 have h0:(lev L n).length≠0:=fun e=>lev_ne L n (List.length_eq_zero_iff.1 e);obtain⟨t,ht⟩:=List.length_eq_one_iff.1 (show(lev L n).length=1 by omega);obtain⟨k,hk,e⟩:=h
 match k,hk,e with
 |k+1,hk,e=>refine⟨t,ht,?_⟩;rw[<-e,ht,GK]
theorem lev_small{L:List Pt}(h:∀p∈L,p.Ok):∀n,∀t∈lev L n,Small n t
 |0,t,ht=>leaves_small h t ht
 |n+1,t,ht=>⟨(zo (lev L n) t ht).1,fun c hc=>lev_small h n c (fours_mem ht c hc)⟩
theorem lev_len(L:List Pt)(h:L.length<=150):∀n,(lev L n).length<=38
 |0=>by
  show(leaves L).length<=38;unfold leaves;split
  ·simp
  ·rw[gP];omega
 |n+1=>by have:=lev_len L h n;rw[lev,gP];omega
theorem sortP_snoc{l:List Pt}{p:Pt}{k:Nat}(hi:Ids (l++[p]))(hp:Parts p (sortP l) k):sortP (l++[p])=(sortP l).take k++p::(sortP l).drop k:=by
 rw[<-hp.ins];have h1:Ids l:=ids_sub (List.sublist_append_left _ _) hi;have h2:∀q∈sortP l,q.id≠p.id:=fun q hq=>by have:=(List.pairwise_append.1 hi).2.2 q ((oY l).mem_iff.1 hq) p (by simp);exact this
 refine sortP_eq (ins_sorted (GT h1) h2) ?_ hi;refine(ins_perm p (sortP l)).trans (((oY l).cons p).trans ?_);exact(List.perm_append_singleton p l).symm
theorem ids_index{l:List Pt}(h:Ids l){i j:Nat}(hi:i<l.length)(hj:j<l.length)(e:l[i].id=l[j].id):i=j:=by
 have key:=List.pairwise_iff_getElem.1 h;rcases Nat.lt_trichotomy i j with h1|h1|h1
 ·exact absurd e (key i j hi hj h1)
 ·exact h1
 ·exact absurd e.symm (key j i hj hi h1)
theorem zI(x y:Int)(l:List Pt):(sortN x y l).length=l.length:=(oJ x y l).length_eq
theorem near_next{x y:Int}{l:List Pt}{n:Nat}{p:Pt}(hi:Ids l)(hn:n<l.length)(hp:p∈l)(hno:p∉(sortN x y l).take n)(hb:∀q∈l,q∉(sortN x y l).take n->q=p\/nr x y p q):(sortN x y l).take (n+1)=(sortN x y l).take n++[p]:=by
 have hs:=zH (x:=x) (y:=y) hi;have hl:n< (sortN x y l).length:=by rw[zI];exact hn
 have hpm:p∈sortN x y l:=(oJ x y l).mem_iff.2 hp;have hmem:=fun q=>(oJ x y l).mem_iff (a:=q);generalize sortN x y l=S at*;rw[List.take_succ_eq_append_getElem hl];congr 2;have key:=List.pairwise_iff_getElem.1 hs;have h1:S[n]∉S.take n:=fun h=>by obtain⟨i,hi',e⟩:=List.getElem_of_mem h;rw[List.length_take] at hi';rw[List.getElem_take] at e;have:=key i n (by omega) hl (by omega);rw[e] at this;exact nr_irrefl x y _ this
 have h2:=hb S[n] ((hmem _).1 (List.getElem_mem hl)) h1;obtain⟨j,hj,e⟩:=List.getElem_of_mem hpm;have h3:n<=j:=Nat.le_of_not_lt fun h=>hno (by rw[<-e];exact List.mem_take_iff_getElem.2 ⟨j,by omega,rfl⟩);rcases Nat.lt_or_eq_of_le h3 with h4|h4
 ·have h5:=key n j hl hj h4;rw[e] at h5;rcases h2 with h2|h2
  ·exact h2
  ·exact absurd (nr_trans h2 h5) (nr_irrefl x y p)
 ·subst h4;exact e
def offI(n lo hi:Int):Int:=if n<lo then lo-n else if hi<n then n-hi else 0
theorem off_gap{lo hi n:Int}(h:lo<=hi):offI n lo hi=gap lo hi n:=by
 unfold offI gap;split
 ·omega
 ·split<;>omega
theorem sq_gap(a n:Int):gap a a n*gap a a n=(a-n)*(a-n):=by
 unfold gap;by_cases h:n<=a
 ·rw[show max (max (a-n) 0) (n-a)=a-n by omega]
 ·rw[show max (max (a-n) 0) (n-a)= -(a-n) by omega,Int.neg_mul_neg]
theorem distP_is(p:Pt)(x y:Int):distP p x y=(p.x-x)*(p.x-x)+(p.y-y)*(p.y-y):=by unfold distP dist boxOf;rw[sq_gap,sq_gap]
theorem lev_pts(L:List Pt):∀n,ptsL n (lev L n)=L
 |0=>leaves_pts L
 |n+1=>by
  have h:=lev_pts L n;show List.flatMap (pts (n+1)) (fours (lev L n))=L;have h2:List.flatMap (pts (n+1)) (fours (lev L n))=List.flatMap (pts n) (fours (lev L n)).flatten:=by rw[List.flatten_eq_flatMap,List.flatMap_assoc];rfl
  rw[h2,ze];exact h
theorem Gz{α β:Type}(f:α->List β):∀(l:List α) (x:α),x∈l->(f x).length<=(l.flatMap f).length
 |a::l,x,h=>by
  rw[List.flatMap_cons,List.length_append];rcases List.mem_cons.1 h with rfl|h
  ·omega
  ·have:=Gz f l x h;omega
theorem lev_count(L:List Pt)(n:Nat)(t:T n)(h:t∈lev L n):count n t<=L.length:=by rw[count_pts];have h1:=Gz (pts n) (lev L n) t h;have h2:=congrArg List.length (lev_pts L n);unfold ptsL at h2;omega
theorem sum_take_le:∀(l:List Nat) (q:Nat),(l.take q).sum<=l.sum
 |_,0=>by simp
 | [],_+1=>by simp
 |a::l,q+1=>by have:=sum_take_le l q;rw[List.take_succ_cons,List.sum_cons,List.sum_cons];omega
theorem text_small{dig:List UInt8->List UInt8}(hd:∀l,(dig l).length=32):∀(n:Nat) (t:T n),Small n t->(text dig n t).length<=210
 |0,l,h=>by
  have:(text dig 0 l).length=2+12*List.length (l:List Pt):=by show(leafText l).length=_;simp only[leafText,List.length_cons];rw[pts_len];omega
  have:=h.1;omega
 |n+1,cs,h=>by
  rw[text_succ];have key:∀(l:List (T n)),(List.flatMap (head dig n) l).length=52*l.length:=by
   intro l;induction l with
   |nil=>simp
   |cons c l ih=>rw[List.flatMap_cons,List.length_append,zb hd,ih,List.length_cons];omega
  have h1:=h.1;simp only[List.length_cons];rw[key];omega
end Wd
namespace Heap
variable {α : Type} [Inhabited α]
def at'(l:List α)(k:Nat):α:=l[k]?.getD default
def par(k:Nat):Nat:=(k-1)/2
def swp(l:List α)(i j:Nat):List α:=(l.set i (at' l j)).set j (at' l i)
theorem at_get{l:List α}{k:Nat}(h:k<l.length):at' l k=l[k]:=by unfold at';rw[List.getElem?_eq_getElem h];rfl
theorem swp_len(l:List α)(i j:Nat):(swp l i j).length=l.length:=by simp[swp]
theorem swp_perm{l:List α}{i j:Nat}(hi:i<l.length)(hj:j<l.length):(swp l i j).Perm l:=by unfold swp;rw[at_get hi,at_get hj];exact List.set_set_perm hi hj
theorem at_swp{l:List α}{i j:Nat}(hi:i<l.length)(hj:j<l.length)(k:Nat):at' (swp l i j) k=if k=j then at' l i else if k=i then at' l j else at' l k:=by
 show((l.set i (at' l j)).set j (at' l i))[k]?.getD default=_;by_cases h1:k=j
 ·rw[if_pos h1,h1,List.getElem?_set,if_pos rfl,if_pos (by simpa using hj)];rfl
 ·rw[if_neg h1,List.getElem?_set,if_neg (fun e=>h1 e.symm),List.getElem?_set];by_cases h2:k=i
  ·rw[if_pos h2,if_pos h2.symm,if_pos hi];rfl
  ·rw[if_neg h2,if_neg (fun e=>h2 e.symm)];rfl
theorem at_app{l:List α}{x:α}{k:Nat}(h:k<l.length):at' (l++[x]) k=at' l k:=by unfold at';rw[List.getElem?_append_left h]
theorem at_take{l:List α}{n k:Nat}(h:k<n):at' (l.take n) k=at' l k:=by unfold at';rw[List.getElem?_take,if_pos h]
def Ok(lt:α->α->Prop)(f:Nat->α)(n:Nat):Prop:=∀k,k<n->0<k->¬lt (f k) (f (par k))
structure Up(lt:α->α->Prop)(f:Nat->α)(n j:Nat):Prop where
 inn:j<n
 rest:∀k,k<n->0<k->k≠j->¬lt (f k) (f (par k))
 over:∀k,k<n->0<k->par k=j->0<j->¬lt (f k) (f (par j))
structure Down(lt:α->α->Prop)(f:Nat->α)(n i:Nat):Prop where
 rest:∀k,k<n->0<k->par k≠i->¬lt (f k) (f (par k))
 over:∀k,k<n->0<k->par k=i->0<i->¬lt (f k) (f (par i))
structure Weak(lt:α->α->Prop):Prop where
 anti:∀a b,lt a b->¬lt b a
 trans:∀a b c,¬lt b a->¬lt c b->¬lt c a
theorem par_lt{k:Nat}(h:0<k):par k<k:=by unfold par;omega
section
variable {lt : α → α → Prop}
theorem up_start{l:List α}{x:α}(h:Ok lt (at' l) l.length):Up lt (at' (l++[x])) (l.length+1) l.length:=by
 refine⟨by omega,fun k hk h0 hne=>?_,fun k hk h0 hp _=>?_⟩
 ·have h1:k<l.length:=by omega
  have h2:=par_lt h0;rw[at_app h1,at_app (by omega)];exact h k h1 h0
 ·have:=par_lt h0;omega
theorem up_step(hw:Weak lt){l:List α}{n j:Nat}(hn:n<=l.length)(h:Up lt (at' l) n j)(h0:0<j)(hl:lt (at' l j) (at' l (par j))):Up lt (at' (swp l (par j) j)) n (par j):=by
 have hp:=par_lt h0;have hj:=h.inn;have ha:=fun k=>at_swp (l:=l) (i:=par j) (j:=j) (by omega) (by omega) k;refine⟨by omega,fun k hk hk0 hne=>?_,fun k hk hk0 hpk hp0=>?_⟩
 ·have hpk:=par_lt hk0;rw[ha,ha];by_cases e1:k=j
  ·subst e1;rw[if_pos rfl,if_neg (by omega),if_pos rfl];exact hw.anti _ _ hl
  ·rw[if_neg e1,if_neg hne];by_cases e2:par k=j
   ·rw[if_pos e2];exact h.over k hk hk0 e2 h0
   ·rw[if_neg e2];by_cases e3:par k=par j
    ·rw[if_pos e3];have h1:=h.rest k hk hk0 e1;rw[e3] at h1;exact hw.trans _ _ _ (hw.anti _ _ hl) h1
    ·rw[if_neg e3];exact h.rest k hk hk0 e1
 ·have hpp:=par_lt hp0;have hkk:=par_lt hk0;rw[ha,ha,if_neg (show ¬par (par j)=j by omega),if_neg (show ¬par (par j)=par j by omega)];have h2:=h.rest (par j) (by omega) hp0 (by omega);by_cases e1:k=j
  ·subst e1;rw[if_pos rfl];exact h2
  ·rw[if_neg e1,if_neg (show ¬k=par j by omega)];have h1:=h.rest k hk hk0 e1;rw[hpk] at h1;exact hw.trans _ _ _ h2 h1
theorem down_step(hw:Weak lt){l:List α}{n i j:Nat}(hn:n<=l.length)(h:Down lt (at' l) n i)(hj:j<n)(hj0:0<j)(hp:par j=i)(hl:lt (at' l j) (at' l i))(hs:∀k,k<n->0<k->par k=i->¬lt (at' l k) (at' l j)):Down lt (at' (swp l i j)) n j:=by
 have hij:=par_lt hj0;rw[hp] at hij;have ha:=fun k=>at_swp (l:=l) (i:=i) (j:=j) (by omega) (by omega) k;refine⟨fun k hk hk0 hne=>?_,fun k hk hk0 hpk _=>?_⟩
 ·have hpk:=par_lt hk0;rw[ha,ha,if_neg hne];by_cases e1:k=j
  ·subst e1;rw[if_pos rfl,if_pos hp];exact hw.anti _ _ hl
  ·rw[if_neg e1];by_cases e2:par k=i
   ·rw[if_pos e2,if_neg (by omega)];exact hs k hk hk0 e2
   ·rw[if_neg e2];by_cases e3:k=i
    ·subst e3;rw[if_pos rfl];exact h.over j hj hj0 hp hk0
    ·rw[if_neg e3];exact h.rest k hk hk0 e2
 ·have hkj:j<k:=by have:=par_lt hk0;omega
  rw[ha,ha,if_neg (by omega),if_neg (by omega),hp,if_neg (by omega),if_pos rfl];have h1:=h.rest k hk hk0 (by omega);rw[hpk] at h1;exact h1
theorem down_start{l:List α}{n:Nat}(hn:l.length=n+1)(h:Ok lt (at' l) (n+1)):Down lt (at' (swp l 0 n)) n 0:=by have ha:=fun k=>at_swp (l:=l) (i:=0) (j:=n) (by omega) (by omega) k;refine⟨fun k hk h0 hne=>?_,fun k _ _ _ h0=>absurd h0 (by omega)⟩;have hp:=par_lt h0;rw[ha,ha,if_neg (by omega),if_neg (by omega),if_neg (by omega),if_neg hne];exact h k (by omega) h0
theorem ok_take{l:List α}{n m:Nat}(h:Ok lt (at' l) n)(hm:n<=m):Ok lt (at' (l.take m)) n:=by intro k hk h0;have:=par_lt h0;rw[at_take (by omega),at_take (by omega)];exact h k hk h0
end
section
variable {α : Type} {lt : α → α → Prop}
theorem up_end{f:Nat->α}{n j:Nat}(h:Up lt f n j)(he:j=0\/¬lt (f j) (f (par j))):Ok lt f n:=by
 intro k hk h0;by_cases e:k=j
 ·subst e;rcases he with he|he
  ·omega
  ·exact he
 ·exact h.rest k hk h0 e
theorem down_end{f:Nat->α}{n i:Nat}(h:Down lt f n i)(he:∀k,k<n->0<k->par k=i->¬lt (f k) (f i)):Ok lt f n:=by
 intro k hk h0;by_cases e:par k=i
 ·rw[e];exact he k hk h0 e
 ·exact h.rest k hk h0 e
theorem first_least(hw:Weak lt)(hi:∀a,¬lt a a){f:Nat->α}{n:Nat}(h:Ok lt f n):∀k,k<n->¬lt (f k) (f 0):=by
 intro k;induction k using Nat.strongRecOn with
 |ind k ih=>
  intro hk;by_cases h0:k=0
  ·subst h0;exact hi _
  ·have hp:=par_lt (show 0<k by omega);exact hw.trans _ _ _ (ih (par k) hp (by omega)) (h k hk (by omega))
end
end Heap
namespace Wd
theorem pt_ext{p q:Pt}(h1:p.id=q.id)(h2:p.x=q.x)(h3:p.y=q.y):p=q:=by cases p;cases q;simp only at h1 h2 h3;subst h1 h2 h3;rfl
instance :DecidableEq Pt:=fun p q=>decidable_of_iff (p.id=q.id/\p.x=q.x/\p.y=q.y) ⟨fun h=>pt_ext h.1 h.2.1 h.2.2,fun h=>by subst h;exact⟨rfl,rfl,rfl⟩⟩
def textS:(n:Nat)->NT n->List UInt8
 |0,t=>nomatch t
 |n+1,t=>if (Nd.kids t).length=0 then leafText (Nd.pts t) else 2::UInt8.ofNat (Nd.kids t).length::(Nd.kids t).flatMap fun c=>saidN n c++(if shownN n c=true then 1::textS n c else [0])
def kidText(n:Nat)(c:NT n):List UInt8:=saidN n c++(if shownN n c=true then 1::textS n c else [0])
theorem textS_kids(n:Nat)(t:NT (n+1))(h:0< (Nd.kids t).length):textS (n+1) t=2::UInt8.ofNat (Nd.kids t).length::(Nd.kids t).flatMap (kidText n):=by rw[textS,if_neg (by omega)];rfl
theorem textS_leaf(n:Nat)(t:NT (n+1))(h:(Nd.kids t).length=0):textS (n+1) t=leafText (Nd.pts t):=by rw[textS,if_pos h]
def FormN:(d:Nat)->Bool->NT (d+1)->Prop
 |0,_,_=>False
 |d+1,root,t=>(Nd.kids t=[]/\(Nd.pts t).length<=4/\(root=true\/0< (Nd.pts t).length)/\Each Pt.Ok (Nd.pts t))\/(Nd.pts t=[]/\0< (Nd.kids t).length/\(Nd.kids t).length<=4/\Each (fun c:NT (d+1)=>(boxMay (Nd.box c)=true/\1<=Nd.n c/\Nd.n c<=150/\(Nd.dig c).length=32)/\((Nd.pts c=[]/\Nd.kids c=[])\/FormN d false c)) (Nd.kids t))
def KidForm(d:Nat)(c:NT (d+1)):Prop:=(boxMay (Nd.box c)=true/\1<=Nd.n c/\Nd.n c<=150/\(Nd.dig c).length=32)/\((Nd.pts c=[]/\Nd.kids c=[])\/FormN d false c)
def idsN(n:Nat)(t:NT n):List Int:=(allN n t).map Pt.id
def Reads2(ids:List Int)(s s':List Int):Prop:=s'=ids.reverse++s/\ids.Nodup/\∀i∈ids,i∉s
theorem reads_nil(s:List Int):Reads2 [] s s:=⟨rfl,List.nodup_nil,fun _ h=>by simp at h⟩
theorem reads_app{a b s s' s'':List Int}(h:Reads2 a s s')(k:Reads2 b s' s''):Reads2 (a++b) s s'':=by
 obtain⟨rfl,h2,h3⟩:=h;obtain⟨rfl,k2,k3⟩:=k;refine⟨by simp,List.nodup_append.2 ⟨h2,k2,fun x hx y hy e=>?_⟩,fun i hi=>?_⟩
 ·subst e;exact k3 x hy (by simp[hx])
 ·rcases List.mem_append.1 hi with hi|hi
  ·exact h3 i hi
  ·exact fun hs=>k3 i hi (by simp[hs])
theorem idOk_iff(n:Int):idOk n=true↔1<=n/\n<=1000000:=by simp[idOk]
theorem coordOk_iff(n:Int):coordOk n=true↔ -1000000<=n/\n<=1000000:=by simp[coordOk]
theorem ok_of{p:Pt}(h1:idOk p.id=true)(h2:coordOk p.x=true)(h3:coordOk p.y=true):p.Ok:=by rw[idOk_iff] at h1;rw[coordOk_iff] at h2 h3;exact⟨h1.1,h1.2,h2.1,h2.2,h3.1,h3.2⟩
theorem take_three{l:List UInt8}(h:12<=l.length):l=(fourI (numAt l 0)++fourI (numAt l 1)++fourI (numAt l 2))++l.drop 12:=by
 rw[zS (by omega),zS (by omega),zS (by omega)]
 match l,h with
 |a::b::c::d::e::f::g::h::i::j::k::m::l,_=>rfl
theorem rdPt_sound{s s':Sta}{p:Pt}(h:rdPt s=some (p,s')):p.Ok/\s.1=ptText p++s'.1/\Reads2 [p.id] s.2 s'.2:=by
 unfold rdPt at h;by_cases hl:s.1.length<12
 ·rw[if_pos hl] at h;cases h
 ·rw[if_neg hl] at h;simp only at h;split at h
  ·rename_i hc;simp only[Bool.and_eq_true,Bool.not_eq_true',List.contains_eq_mem,decide_eq_false_iff_not] at hc;obtain⟨⟨⟨h1,h2⟩,h3⟩,h4⟩:=hc;cases h;exact⟨ok_of h1 h3 h4,take_three (by omega),⟨rfl,by simp,fun i hi=>by rw[List.mem_singleton.1 hi];exact h2⟩⟩
  ·cases h
section
variable {α : Type} {rd : Sta → Option (α × Sta)} {P : α → Prop} {tx : α → List UInt8} {ids : α → List Int}
theorem GW(hrd:∀s x s',rd s=some (x,s')->P x/\s.1=tx x++s'.1/\Reads2 (ids x) s.2 s'.2):∀(k:Nat) (s:Sta) (l:List α) (s':Sta),rdMany rd k s=some (l,s')->l.length=k/\Each P l/\s.1=l.flatMap tx++s'.1/\Reads2 (l.flatMap ids) s.2 s'.2
 |0,s,l,s',h=>by cases h;exact⟨rfl,fun _ h=>by simp at h,rfl,reads_nil _⟩
 |k+1,s,l,s',h=>by
  unfold rdMany at h;cases hx:rd s with
  |none=>rw[hx] at h;cases h
  |some xs=>
   obtain⟨x,s1⟩:=xs;rw[hx] at h;simp only at h;cases hm:rdMany rd k s1 with
   |none=>rw[hm] at h;cases h
   |some ls=>
    obtain⟨m,s2⟩:=ls;rw[hm] at h;cases h;obtain⟨p1,p2,p3⟩:=hrd s x s1 hx;obtain⟨q1,q2,q3,q4⟩:=GW hrd k s1 m s' hm;refine⟨by simp[q1],fun y hy=>?_,?_,?_⟩
    ·rcases List.mem_cons.1 hy with rfl|hy
     ·exact p1
     ·exact q2 y hy
    ·rw[p2,q3,List.flatMap_cons,List.append_assoc]
    ·rw[List.flatMap_cons];exact reads_app p3 q4
end
theorem head_text{l:List UInt8}(n:Nat)(h:53<=l.length):saidN (n+1) (headN n l)=l.take 52/\(Nd.dig (headN n l)).length=32:=by
 have e:saidN (n+1) (headN n l)=((fourI (numAt l 0)++fourI (numAt l 1)++fourI (numAt l 2)++fourI (numAt l 3))++fourI (numAt l 4))++(l.drop 20).take 32:=rfl;refine⟨?_,?_⟩
 ·rw[e,zS (by omega),zS (by omega),zS (by omega),zS (by omega),zS (by omega)];rw[show 52=4*0+4+4+4+4+4+32 from rfl,List.take_add,List.take_add,List.take_add,List.take_add,List.take_add];rfl
 ·show((l.drop 20).take 32).length=32;rw[List.length_take,List.length_drop];omega
theorem shown_no{n:Nat}{c:NT (n+1)}(h1:Nd.pts c=[])(h2:Nd.kids c=[]):shownN (n+1) c=false:=by simp[shownN,h1,h2]
theorem GY{d:Nat}{c:NT (d+1)}(h:FormN d false c):shownN (d+1) c=true:=by
 cases d with
 |zero=>exact absurd h (fun h=>h)
 |succ d=>
  rcases h with⟨_,_,h3,_⟩| ⟨_,h2,_,_⟩
  ·rcases h3 with h3|h3
   ·cases h3
   ·simp only[shownN,decide_eq_true_eq];omega
  ·simp only[shownN,decide_eq_true_eq];omega
def Bare(n:Nat)(t:NT (n+1)):Prop:=Nd.box t=⟨0,0,0,0⟩/\Nd.n t=0/\Nd.dig t=List.replicate 32 0
theorem may_in{b:Box}(h:boxMay b=true):b.In/\b.a<=b.c/\b.b<=b.d:=by simp only[boxMay,Bool.and_eq_true,coordOk_iff,decide_eq_true_eq] at h;obtain⟨⟨⟨⟨⟨h1,h2⟩,h3⟩,h4⟩,h5⟩,h6⟩:=h;exact⟨⟨h1.1,h1.2,h2.1,h2.2,h3.1,h3.2,h4.1,h4.2⟩,h5,h6⟩
theorem said_of{n:Nat}{b c:NT (n+1)}(h3:Nd.box b=Nd.box c)(h4:Nd.n b=Nd.n c)(h5:Nd.dig b=Nd.dig c):saidN (n+1) b=saidN (n+1) c:=by show boxText (Nd.box b)++fourI (Nd.n b)++Nd.dig b=boxText (Nd.box c)++fourI (Nd.n c)++Nd.dig c;rw[h3,h4,h5]
theorem text_of{n:Nat}{b c:NT (n+1)}(h1:Nd.pts b=Nd.pts c)(h2:Nd.kids b=Nd.kids c):textS (n+1) b=textS (n+1) c:=by show(if (Nd.kids b).length=0 then leafText (Nd.pts b) else _)=(if (Nd.kids c).length=0 then leafText (Nd.pts c) else _);rw[h1,h2]
theorem all_of{n:Nat}{b c:NT (n+1)}(h1:Nd.pts b=Nd.pts c)(h2:Nd.kids b=Nd.kids c):allN (n+1) b=allN (n+1) c:=by show Nd.pts b++(Nd.kids b).flatMap (allN n)=Nd.pts c++(Nd.kids c).flatMap (allN n);rw[h1,h2]
theorem form_of{d:Nat}{r:Bool}{b c:NT (d+1)}(h1:Nd.pts b=Nd.pts c)(h2:Nd.kids b=Nd.kids c)(h:FormN d r b):FormN d r c:=by
 cases d with
 |zero=>exact h
 |succ d=>unfold FormN at h⊢;rw[h1,h2] at h;exact h
theorem shown_of{n:Nat}{b c:NT (n+1)}(h1:Nd.pts b=Nd.pts c)(h2:Nd.kids b=Nd.kids c):shownN (n+1) b=shownN (n+1) c:=by show decide (0< (Nd.pts b).length+(Nd.kids b).length)=decide (0< (Nd.pts c).length+(Nd.kids c).length);rw[h1,h2]
theorem ids_all(n:Nat)(t:NT (n+1))(h:Nd.pts t=[]):idsN (n+1) t=(Nd.kids t).flatMap (idsN n):=by show(Nd.pts t++(Nd.kids t).flatMap (allN n)).map Pt.id=_;rw[h,List.nil_append,List.map_flatMap];rfl
theorem split53{l:List UInt8}(h:53<=l.length):l=l.take 52++l.getD 52 0::l.drop 53:=by
 have h2:l.drop 52=l.getD 52 0::l.drop 53:=by rw[List.drop_eq_getElem_cons (by omega),List.getD_eq_getElem?_getD,List.getElem?_eq_getElem (by omega)];rfl
 rw[<-h2,List.take_append_drop]
theorem rdKid_sound{d:Nat}{below:Sta->Option (NT (d+1)×Sta)}(hb:∀s t s',below s=some (t,s')->FormN d false t/\s.1=textS (d+1) t++s'.1/\Reads2 (idsN (d+1) t) s.2 s'.2)
  (s:Sta) (c:NT (d+1)) (s':Sta) (h:rdKid d below s=some (c,s')):KidForm d c/\s.1=kidText (d+1) c++s'.1/\Reads2 (idsN (d+1) c) s.2 s'.2:=by
 unfold rdKid at h;by_cases hl:s.1.length<53
 ·rw[if_pos hl] at h;cases h
 ·rw[if_neg hl] at h;obtain⟨ht,hd⟩:=head_text (l:=s.1) d (by omega);have h53:=split53 (l:=s.1) (by omega);simp only at h;generalize hH:headN d s.1=H at*;have hp:Nd.pts H=[]:=by rw[<-hH];rfl
  have hk:Nd.kids H=[]:=by rw[<-hH];rfl
  split at h
  ·rename_i hc;simp only[Bool.and_eq_true,decide_eq_true_eq] at hc;obtain⟨⟨h1,h2⟩,h3⟩:=hc;split at h
   ·rename_i h0;cases h;refine⟨⟨⟨h1,h2,h3,hd⟩,.inl ⟨hp,hk⟩⟩,?_,?_⟩
    ·show s.1=(saidN (d+1) c++(if shownN (d+1) c=true then _ else [0]))++s.1.drop 53;rw[if_neg (by rw[shown_no hp hk];simp),ht,List.append_assoc];rw[h0] at h53;exact h53
    ·have:idsN (d+1) c=[]:=by
      show(Nd.pts c++(Nd.kids c).flatMap (allN d)).map Pt.id=[];rw[hp,hk];rfl
     rw[this];exact reads_nil _
   ·split at h
    ·rename_i h1';cases hbe:below (s.1.drop 53,s.2) with
     |none=>rw[hbe] at h;cases h
     |some bs=>
      obtain⟨b,s1⟩:=bs;rw[hbe] at h;cases h;obtain⟨b1,b2,b3⟩:=hb _ _ _ hbe;refine⟨⟨⟨h1,h2,h3,hd⟩,.inr (form_of (b:=b) rfl rfl b1)⟩,?_,?_⟩
      ·have e1:shownN (d+1) {H with pts:=Nd.pts b,kids:=Nd.kids b}=true:=by
        rw[shown_of (b:={H with pts:=Nd.pts b,kids:=Nd.kids b}) (c:=b) rfl rfl];exact GY b1
       have e2:textS (d+1) {H with pts:=Nd.pts b,kids:=Nd.kids b}=textS (d+1) b:=text_of rfl rfl;have e3:saidN (d+1) {H with pts:=Nd.pts b,kids:=Nd.kids b}=saidN (d+1) H:=said_of rfl rfl rfl;rw[kidText,if_pos e1,e2,e3,ht,List.append_assoc,List.cons_append];rw[h1'] at h53;rw[<-b2];exact h53
      ·have e:allN (d+1) {H with pts:=Nd.pts b,kids:=Nd.kids b}=allN (d+1) b:=all_of rfl rfl;rw[idsN,e];exact b3
    ·cases h
  ·cases h
theorem two_of{l:List UInt8}(h:¬l.length<2):l=l.getD 0 0::l.getD 1 0::l.drop 2:=by
 match l,h with
 | [],h=>exact absurd (by decide) h
 | [_],h=>exact absurd (by simp) h
 |a::b::l,_=>rfl
theorem ofNat_toNat8(a:UInt8):UInt8.ofNat a.toNat=a:=by simp
theorem zL:∀(d:Nat) (root:Bool) (s:Sta) (t:NT (d+1)) (s':Sta),rdNode d root s=some (t,s')->(FormN d root t/\s.1=textS (d+1) t++s'.1/\Reads2 (idsN (d+1) t) s.2 s'.2)/\Bare d t
 |0,_,_,_,_,h=>by cases h
 |d+1,root,s,t,s',h=>by
  unfold rdNode at h;by_cases hl:s.1.length<2
  ·rw[if_pos hl] at h;cases h
  ·rw[if_neg hl] at h;simp only at h;have h2:=two_of hl;by_cases h4:4< (s.1.getD 1 0).toNat
   ·rw[if_pos h4] at h;cases h
   ·rw[if_neg h4] at h;by_cases hm1:s.1.getD 0 0=1/\(0< (s.1.getD 1 0).toNat\/root=true)
    ·rw[if_pos hm1] at h;cases hr:rdMany rdPt (s.1.getD 1 0).toNat (s.1.drop 2,s.2) with
     |none=>rw[hr] at h;cases h
     |some ls=>
      obtain⟨l,s1⟩:=ls;rw[hr] at h;cases h;obtain⟨r1,r2,r3,r4⟩:=GW (P:=Pt.Ok) (tx:=ptText) (ids:=fun p=>[p.id]) (fun s x s' h=>rdPt_sound h) _ _ _ _ hr;refine⟨⟨.inl ⟨rfl,by show l.length<=4;omega,by show root=true\/0<l.length;rw[r1];exact hm1.2.symm,r2⟩,?_,?_⟩,rfl,rfl,rfl⟩
      ·rw[textS_leaf _ _ (by rfl)];show s.1=leafText l++s'.1;unfold leafText;rw[r1,ofNat_toNat8,List.cons_append,List.cons_append,<-r3];have e:=hm1.1;rw[<-e];exact h2
      ·have e:idsN (d+1+1) {bareN (d+1) with pts:=l}=l.flatMap (fun p=>[p.id]):=by
        show(l++([]:List (NT (d+1))).flatMap (allN (d+1))).map Pt.id=_;rw[List.flatMap_nil,List.append_nil];clear r1 r2 r3 r4 hr;induction l with
        |nil=>rfl
        |cons p l ih=>rw[List.map_cons,List.flatMap_cons,ih];rfl
       rw[e];exact r4
    ·rw[if_neg hm1] at h;by_cases hm2:s.1.getD 0 0=2/\0< (s.1.getD 1 0).toNat
     ·rw[if_pos hm2] at h;cases hr:rdMany (rdKid d (rdNode d false)) (s.1.getD 1 0).toNat (s.1.drop 2,s.2) with
      |none=>rw[hr] at h;cases h
      |some ls=>
       obtain⟨l,s1⟩:=ls;rw[hr] at h;cases h;obtain⟨r1,r2,r3,r4⟩:=GW (P:=KidForm d) (tx:=kidText (d+1)) (ids:=idsN (d+1)) (fun s x s' h=>rdKid_sound (fun s t s' h=>(zL d false s t s' h).1) s x s' h) _ _ _ _ hr;refine⟨⟨.inr ⟨rfl,by show 0<l.length;omega,by show l.length<=4;omega,r2⟩,?_,?_⟩,rfl,rfl,rfl⟩
       ·rw[textS_kids _ _ (by show 0<l.length;omega)];show s.1=(2::UInt8.ofNat l.length::l.flatMap (kidText (d+1)))++s'.1;rw[r1,ofNat_toNat8,List.cons_append,List.cons_append,<-r3];have e:=hm2.1;rw[<-e];exact h2
       ·rw[ids_all _ _ (by rfl)];exact r4
     ·rw[if_neg hm2] at h;cases h
theorem said_len52{n:Nat}{c:NT (n+1)}(hd:(Nd.dig c).length=32):(saidN (n+1) c).length=52:=by show(boxText (Nd.box c)++fourI (Nd.n c)++Nd.dig c).length=52;rw[List.length_append,List.length_append,jD,fourI_len,hd]
theorem zY{n:Nat}{t:NT (n+1)}(h:(Nd.kids t).length=0):madeN (n+1) t=⟨Nd.pts t,[],boxL ((Nd.pts t).map boxOf),((Nd.pts t).length:Nat),Sha.sha (leafText (Nd.pts t))⟩:=by show(if (Nd.kids t).length=0 then _ else _)=_;rw[if_pos h]
theorem zQ{n:Nat}{t:NT (n+1)}(h:¬(Nd.kids t).length=0):madeN (n+1) t=⟨[],Nd.kids t,boxL ((Nd.kids t).map (boxN n)),((Nd.kids t).map (numN n)).sum,Sha.sha (textK n (Nd.kids t))⟩:=by show(if (Nd.kids t).length=0 then _ else _)=_;rw[if_neg h]
theorem made_same{d:Nat}{r:Bool}{t:NT (d+1)}(h:FormN d r t):Nd.pts (madeN (d+1) t)=Nd.pts t/\Nd.kids (madeN (d+1) t)=Nd.kids t:=by
 cases d with
 |zero=>exact absurd h (fun h=>h)
 |succ d=>
  rcases h with⟨hk,_⟩| ⟨hp,h0,_⟩
  ·rw[zY (by rw[hk];rfl)];exact⟨rfl,hk.symm⟩
  ·rw[zQ (by omega)];exact⟨hp.symm,rfl⟩
theorem made_of{n:Nat}{b c:NT (n+1)}(h1:Nd.pts b=Nd.pts c)(h2:Nd.kids b=Nd.kids c):madeN (n+1) b=madeN (n+1) c:=by
 by_cases h:(Nd.kids b).length=0
 ·rw[zY h,zY (by rw[<-h2];exact h),h1]
 ·rw[zQ h,zQ (by rw[<-h2];exact h),h2]
theorem Gr{s:List UInt8}{t:NT 7}(h:parse s=some t):FormN 6 true t/\textS 7 t=s/\(idsN 7 t).Nodup/\madeN 7 t=t:=by
 unfold parse at h;split at h
 ·rename_i t0 ids hr;cases h;obtain⟨⟨h1,h2,h3⟩, -⟩:=zL 6 true _ t0 _ hr;obtain⟨m1,m2⟩:=made_same h1;refine⟨form_of m1.symm m2.symm h1,?_,?_,made_of m1 m2⟩
  ·rw[text_of m1 m2];have h2':s=textS 7 t0++[]:=h2;rw[h2',List.append_nil]
  ·rw[idsN,all_of m1 m2];exact h3.2.1
 ·cases h
def Box.up(b:Box):Prop:=b.a<=b.c/\b.b<=b.d
theorem join_up{p q:Box}(hp:p.up):(join p q).up:=by obtain⟨_,_⟩:=hp;constructor<;>simp only[join]<;>omega
theorem fold_up:∀{l:List Box} {b:Box},b.up->(l.foldl join b).up
 | [],_,hb=>hb
 |c::l,_,hb=>fold_up (l:=l) (join_up (q:=c) hb)
theorem boxL_up{l:List Box}(h:∀c∈l,c.up):(boxL l).up:=by
 refine fold_up ?_;cases l with
 |nil=>exact⟨by simp,by simp⟩
 |cons c l=>exact h c (by simp)
theorem box_up:∀(n:Nat) (t:T n),(box n t).up
 |0,l=>boxL_up fun c hc=>by obtain⟨p,_,rfl⟩:=List.mem_map.1 hc;exact⟨by simp[boxOf],by simp[boxOf]⟩
 |n+1,cs=>boxL_up fun c hc=>by obtain⟨t,_,rfl⟩:=List.mem_map.1 hc;exact box_up n t
def proofText(q:Qr)(L:List Pt):List UInt8:=proof Sha.sha (must q (ans q L)) (tree L).1 (tree L).2
structure Well(L:List Pt):Prop where
 ok:∀p∈L,p.Ok
 ids:Ids L
 len:L.length<=150
theorem Well.deep{L:List Pt}(h:Well L):(tree L).1<=3:=GP (by have:=h.len;omega)
def NumsN:(n:Nat)->NT n->Prop
 |0,t=>nomatch t
 |n+1,t=>∀c∈Nd.kids t,(0<=numN n c/\numN n c<=1000000)/\NumsN n c
structure Fine(n:Nat)(t:NT n):Prop where
 few:Few n t
 inn:InN n t
 nums:NumsN n t
 ok:∀p∈allN n t,p.Ok
theorem form_fine:∀(d:Nat) (r:Bool) (t:NT (d+1)),FormN d r t->Fine (d+1) t
 |0,_,_,h=>h.elim
 |d+1,r,t,h=>by
  rcases h with⟨h1,h2,_,h4⟩| ⟨h1,h2,h3,h4⟩
  ·refine⟨⟨h2,by simp[h1],fun c hc=>by simp[h1] at hc⟩,fun c hc=>by simp[h1] at hc,fun c hc=>by simp[h1] at hc,fun p hp=>?_⟩;rw[show allN (d+2) t=Nd.pts t++(Nd.kids t).flatMap (allN (d+1)) from rfl,h1] at hp;exact h4 p (by simpa using hp)
  ·have key:∀c∈Nd.kids t,Fine (d+1) c/\boxMay (Nd.box c)=true/\1<=Nd.n c/\Nd.n c<=150:=by
    intro c hc;obtain⟨⟨k1,k2,k3,_⟩,k5⟩:=h4 c hc;refine⟨?_,k1,k2,k3⟩;rcases k5 with⟨e1,e2⟩|k
    ·refine⟨⟨by simp[e1],by simp[e2],fun c hc=>by simp[e2] at hc⟩,fun c hc=>by simp[e2] at hc,fun c hc=>by simp[e2] at hc,fun p hp=>?_⟩;rw[show allN (d+1) c=Nd.pts c++(Nd.kids c).flatMap (allN d) from rfl,e1,e2] at hp;simp at hp
    ·exact form_fine d false c k
   refine⟨⟨by simp[h1],h3,fun c hc=>(key c hc).1.few⟩,fun c hc=>⟨(may_in (key c hc).2.1).1,(key c hc).1.inn⟩,fun c hc=>⟨?_,(key c hc).1.nums⟩,fun p hp=>?_⟩
   ·have:=(key c hc).2.2;show 0<=Nd.n c/\Nd.n c<=1000000;omega
   ·rw[show allN (d+2) t=Nd.pts t++(Nd.kids t).flatMap (allN (d+1)) from rfl,h1,List.nil_append] at hp;obtain⟨c,hc,hp⟩:=List.mem_flatMap.1 hp;exact(key c hc).1.ok p hp
theorem boxEq_iff{a b:Box}(h:boxEq a b=true):a=b:=by unfold boxEq at h;simp only[decide_eq_true_eq] at h;cases a;cases b;simp only at h;obtain⟨rfl,rfl,rfl,rfl⟩:=h;rfl
theorem flat_len{α β:Type}(f:α->List β)(n:α->Int):∀K:List α,(∀c∈K,((f c).length:Int)<=n c)->((K.flatMap f).length:Int)<=(K.map n).sum
 | [],_=>by simp
 |c::K,h=>by have h1:=h c List.mem_cons_self;have h2:=flat_len f n K (fun c hc=>h c (List.mem_cons_of_mem _ hc));rw[List.flatMap_cons,List.length_append,List.map_cons,List.sum_cons];omega
theorem holds_encl:∀(d:Nat) (r:Bool) (t:NT (d+1)),FormN d r t->everyN boxHolds (d+1) t=true->Nd.box t=Nd.box (madeN (d+1) t)->Nd.n t=Nd.n (madeN (d+1) t)->
  Encl (d+1) t/\(∀p∈allN (d+1) t,(Nd.box t).has (boxOf p))/\((allN (d+1) t).length:Int)<=Nd.n t
 |0,_,_,h,_,_,_=>h.elim
 |d+1,r,t,h,he,hb,hn=>by
  rcases h with⟨h1,h2,_,h4⟩| ⟨h1,h2,h3,h4⟩
  ·(have e0:(Nd.kids t).length=0:=by rw[h1];rfl);rw[zY e0] at hb hn;simp only at hb hn;have ea:allN (d+2) t=Nd.pts t:=by
    rw[show allN (d+2) t=Nd.pts t++(Nd.kids t).flatMap (allN (d+1)) from rfl,h1];simp
   (have hh:∀p∈Nd.pts t,(Nd.box t).has (boxOf p):=fun p hp=>by rw[hb];exact boxL_has (List.mem_map.2 ⟨p,hp,rfl⟩));exact⟨⟨hh,fun c hc=>by simp[h1] at hc⟩,by rw[ea];exact hh,by rw[ea,hn];exact Int.le_refl _⟩
  ·(have e0:¬(Nd.kids t).length=0:=by omega);rw[zQ e0] at hb hn;simp only at hb hn;have he':∀c∈Nd.kids t,boxHolds (d+1) c=true/\everyN boxHolds (d+1) c=true:=by
    intro c hc;have:=List.all_eq_true.1 (show(Nd.kids t).all (fun c=>boxHolds (d+1) c&&everyN boxHolds (d+1) c)=true from he) c hc;simpa using this
   have key:∀c∈Nd.kids t,Encl (d+1) c/\(∀p∈allN (d+1) c,(Nd.box c).has (boxOf p))/\((allN (d+1) c).length:Int)<=Nd.n c:=by
    intro c hc;obtain⟨⟨k1,k2,k3,_⟩,k5⟩:=h4 c hc;rcases k5 with⟨e1,e2⟩|k
    ·(have ea:allN (d+1) c=[]:=by rw[show allN (d+1) c=Nd.pts c++(Nd.kids c).flatMap (allN d) from rfl,e1,e2];rfl);refine⟨⟨fun p hp=>by simp[e1] at hp,fun c hc=>by simp[e2] at hc⟩,fun p hp=>by simp[ea] at hp,by rw[ea];simp;omega⟩
    ·obtain⟨hh,hee⟩:=he' c hc;unfold boxHolds at hh;rw[GY k] at hh;simp only[Bool.not_true,Bool.false_or,Bool.and_eq_true,decide_eq_true_eq] at hh;exact holds_encl d false c k hee (boxEq_iff hh.1) hh.2
   (have hall:allN (d+2) t=(Nd.kids t).flatMap (allN (d+1)):=by rw[show allN (d+2) t=Nd.pts t++(Nd.kids t).flatMap (allN (d+1)) from rfl,h1,List.nil_append]);refine⟨⟨fun p hp=>by simp[h1] at hp,fun c hc=>⟨(key c hc).2.1,(key c hc).1⟩⟩,fun p hp=>?_,?_⟩
   ·rw[hall] at hp;obtain⟨c,hc,hp⟩:=List.mem_flatMap.1 hp;rw[hb];exact has_trans (boxL_has (List.mem_map.2 ⟨c,hc,rfl⟩)) ((key c hc).2.1 p hp)
   ·rw[hall,hn];exact flat_len (allN (d+1)) (numN (d+1)) _ (fun c hc=>(key c hc).2.2)
theorem sum_few{α:Type}(n:α->Int):∀K:List α,(∀c∈K,n c<=150)->(K.map n).sum<=150*K.length
 | [],_=>by simp
 |c::K,h=>by have h1:=h c List.mem_cons_self;have h2:=sum_few n K (fun c hc=>h c (List.mem_cons_of_mem _ hc));rw[List.map_cons,List.sum_cons,List.length_cons];omega
theorem parse_fine{s:List UInt8}{t:NT 7}(h:parse s=some t):Fine 7 t/\Ids (allN 7 t):=by obtain⟨h1,_,h3,_⟩:=Gr h;refine⟨form_fine 6 true t h1,?_⟩;unfold idsN at h3;exact List.pairwise_map.1 h3
theorem parse_holds{s:List UInt8}{t:NT 7}(h:parse s=some t)(hb:everyN boxHolds 7 t=true):Encl 7 t/\(allN 7 t).length<=600:=by
 obtain⟨h1,_,_,h4⟩:=Gr h;obtain⟨k1,_,k3⟩:=holds_encl 6 true t h1 hb (by rw[h4]) (by rw[h4]);refine⟨k1,?_⟩;rcases (show _\/_ from h1) with⟨e1,e2,_,_⟩| ⟨_,e2,e3,e4⟩
 ·have ea:allN 7 t=Nd.pts t:=by
   rw[show allN 7 t=Nd.pts t++(Nd.kids t).flatMap (allN 6) from rfl,e1];simp
  rw[ea];omega
 ·have hn:Nd.n t=((Nd.kids t).map (numN 6)).sum:=by
   have:=zQ (n:=6) (t:=t) (by omega);rw[h4] at this;exact congrArg Nd.n this
  have:=sum_few (numN 6) (Nd.kids t) (fun c hc=>(e4 c hc).1.2.2.1);have k:((allN 7 t).length:Int)<=Nd.n t:=k3;omega
def ownN:(n:Nat)->NT n->List UInt8
 |0,t=>nomatch t
 |n+1,t=>if (Nd.kids t).length=0 then leafText (Nd.pts t) else textK n (Nd.kids t)
theorem own_leaf{n:Nat}{t:NT (n+1)}(h:(Nd.kids t).length=0):ownN (n+1) t=leafText (Nd.pts t):=by show(if (Nd.kids t).length=0 then _ else _)=_;rw[if_pos h]
theorem own_node{n:Nat}{t:NT (n+1)}(h:¬(Nd.kids t).length=0):ownN (n+1) t=textK n (Nd.kids t):=by show(if (Nd.kids t).length=0 then _ else _)=_;rw[if_neg h]
theorem made_dig{n:Nat}(t:NT (n+1)):digN (n+1) (madeN (n+1) t)=Sha.sha (ownN (n+1) t):=by
 by_cases h:(Nd.kids t).length=0
 ·rw[zY h,own_leaf h];rfl
 ·rw[zQ h,own_node h];rfl
def Half{α:Type}(rd:Sta->Option (α×Sta))(k:Nat)(s:Sta)(i:Nat)(l:List α)(si:Sta):Prop:=l.length=i/\i<=k/\rdMany rd k s=match rdMany rd (k-i) si with|none=>none|some (m,s')=>some (l++m,s')
theorem half_start{α:Type}(rd:Sta->Option (α×Sta))(k:Nat)(s:Sta):Half rd k s 0 [] s:=by
 refine⟨rfl,Nat.zero_le _,?_⟩;rw[Nat.sub_zero];cases h:rdMany rd k s with
 |none=>rfl
 |some m=>rfl
theorem half_end{α:Type}{rd:Sta->Option (α×Sta)}{k:Nat}{s:Sta}{l:List α}{si:Sta}(h:Half rd k s k l si):rdMany rd k s=some (l,si):=by rw[h.2.2,Nat.sub_self];simp[rdMany]
theorem half_none{α:Type}{rd:Sta->Option (α×Sta)}{k:Nat}{s:Sta}{i:Nat}{l:List α}{si:Sta}(h:Half rd k s i l si)(hi:i<k)(hr:rd si=none):rdMany rd k s=none:=by rw[h.2.2,show k-i=(k-i-1)+1 by omega,rdMany,hr]
theorem half_step{α:Type}{rd:Sta->Option (α×Sta)}{k:Nat}{s:Sta}{i:Nat}{l:List α}{si sj:Sta}{x:α}(h:Half rd k s i l si)(hi:i<k)(hr:rd si=some (x,sj)):Half rd k s (i+1) (l++[x]) sj:=by
 refine⟨by rw[List.length_append,h.1];rfl,hi,?_⟩;rw[h.2.2,show k-i=(k-(i+1))+1 by omega,rdMany,hr];simp only;cases rdMany rd (k-(i+1)) sj with
 |none=>rfl
 |some m=>simp
end Wd
end Go.Proofs.YtenaelkbgkpllaaGreatDoor
