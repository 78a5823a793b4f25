/- Part 2 of what the four laws rest on: laid by a program out of the texts of wip/T. -/
set_option maxRecDepth 100000
set_option maxHeartbeats 8000000
namespace Go.Proofs.YtenaelkbgkpllaaGreatDoor
namespace Wd
structure Pt where
 id:Int
 x:Int
 y:Int
structure Box where
 a:Int
 b:Int
 c:Int
 d:Int
def lt(p q:Pt):Prop:=p.x<q.x\/(p.x=q.x/\(p.y<q.y\/(p.y=q.y/\p.id<q.id)))
instance (p q:Pt):Decidable (lt p q):=by unfold lt;infer_instance
theorem lt_irrefl(p:Pt):¬lt p p:=by unfold lt;omega
theorem lt_trans{p q r:Pt}(h:lt p q)(k:lt q r):lt p r:=by unfold lt at*;omega
theorem lt_total(p q:Pt)(h:¬lt p q)(k:¬lt q p):p=q:=by
 obtain⟨a,b,c⟩:=p;obtain⟨a',b',c'⟩:=q;unfold lt at*;simp only at*;have:a=a'/\b=b'/\c=c':=by omega
 obtain⟨rfl,rfl,rfl⟩:=this;rfl
def Sorted(l:List Pt):Prop:=l.Pairwise lt
def ins(p:Pt)(l:List Pt):List Pt:=l.takeWhile (fun q=>decide (lt q p))++p::l.dropWhile (fun q=>decide (lt q p))
structure Parts(p:Pt)(l:List Pt)(k:Nat):Prop where
 le:k<=l.length
 low:∀i,(h:i<l.length)->i<k->lt l[i] p
 high:∀i,(h:i<l.length)->k<=i->¬lt l[i] p
theorem Parts.cut{p:Pt}:∀{l:List Pt} {k:Nat},Parts p l k->l.takeWhile (fun q=>decide (lt q p))=l.take k/\l.dropWhile (fun q=>decide (lt q p))=l.drop k
 | [],k,h=>by simp
 |q::l,0,h=>by have:=h.high 0 (by simp) (by omega);simp only[List.getElem_cons_zero] at this;simp[List.takeWhile,List.dropWhile,this]
 |q::l,k+1,h=>by have hq:=h.low 0 (by simp) (by omega);simp only[List.getElem_cons_zero] at hq;have ih:Parts p l k:=⟨by have:=h.le;simp at this;omega,fun i hi hk=>by have:=h.low (i+1) (by simp;omega) (by omega);simpa using this,fun i hi hk=>by have:=h.high (i+1) (by simp;omega) (by omega);simpa using this⟩;have:=ih.cut;simp[List.takeWhile,List.dropWhile,hq,this]
theorem Parts.ins{p:Pt}{l:List Pt}{k:Nat}(h:Parts p l k):ins p l=l.take k++p::l.drop k:=by rw[Wd.ins,h.cut.1,h.cut.2]
theorem ins_perm(p:Pt)(l:List Pt):(ins p l).Perm (p::l):=by unfold ins;have:=List.perm_middle (a:=p) (l₁:=l.takeWhile (fun q=>decide (lt q p))) (l₂:=l.dropWhile (fun q=>decide (lt q p)));rw[List.takeWhile_append_dropWhile] at this;exact this
theorem ins_length(p:Pt)(l:List Pt):(ins p l).length=l.length+1:=(ins_perm p l).length_eq
theorem takeWhile_lt{p:Pt}:∀{l:List Pt},∀q∈l.takeWhile (fun q=>decide (lt q p)),lt q p
 |q::l,r,hr=>by
  by_cases h:lt q p
  ·simp[List.takeWhile,h] at hr;rcases hr with rfl|hr
   ·exact h
   ·exact takeWhile_lt r hr
  ·simp[List.takeWhile,h] at hr
theorem dropWhile_ge{p:Pt}:∀{l:List Pt},Sorted l->∀q∈l.dropWhile (fun q=>decide (lt q p)),¬lt q p
 |q::l,hs,r,hr=>by
  obtain⟨h1,h2⟩:=List.pairwise_cons.1 hs;by_cases h:lt q p
  ·simp[List.dropWhile,h] at hr;exact dropWhile_ge h2 r hr
  ·simp[List.dropWhile,h] at hr;rcases hr with rfl|hr
   ·exact h
   ·exact fun k=>h (lt_trans (h1 r hr) k)
def Ids(l:List Pt):Prop:=l.Pairwise fun p q=>p.id≠q.id
theorem ins_sorted{p:Pt}{l:List Pt}(h:Sorted l)(hn:∀q∈l,q.id≠p.id):Sorted (ins p l):=by
 unfold ins Sorted;refine List.pairwise_append.2 ⟨h.sublist (List.takeWhile_sublist _),List.pairwise_cons.2 ⟨fun q hq=>?_,h.sublist (List.dropWhile_sublist _)⟩,fun q hq r hr=>?_⟩
 ·have h1:=dropWhile_ge h q hq;rcases Decidable.em (lt p q) with h2|h2
  ·exact h2
  ·exact absurd (congrArg Pt.id (lt_total q p h1 h2)) (hn q ((List.dropWhile_sublist _).subset hq))
 ·rcases List.mem_cons.1 hr with rfl|hr
  ·exact takeWhile_lt q hq
  ·(have hall:Sorted (l.takeWhile (fun q=>decide (lt q p))++l.dropWhile (fun q=>decide (lt q p))):=by rw[List.takeWhile_append_dropWhile];exact h);exact(List.pairwise_append.1 hall).2.2 q hq r hr
theorem GF{l m:List Pt}(h:l.Perm m):Ids l↔Ids m:=h.pairwise_iff (fun k=>Ne.symm k)
theorem ins_ids{p:Pt}{l:List Pt}(h:Ids l)(hn:∀q∈l,q.id≠p.id):Ids (ins p l):=(GF (ins_perm p l)).2 (List.pairwise_cons.2 ⟨fun q hq=>(hn q hq).symm,h⟩)
theorem sorted_eq{l m:List Pt}(hl:Sorted l)(hm:Sorted m)(h:l.Perm m):l=m:=h.eq_of_pairwise (fun a _ _ _ hab hba=>absurd (lt_trans hab hba) (lt_irrefl a)) hl hm
def fours{α:Type}(l:List α):List (List α):=(List.range ((l.length+3)/4)).map fun i=>(l.drop (4*i)).take 4
theorem gP{α:Type}(l:List α):(fours l).length=(l.length+3)/4:=by simp[fours]
theorem GG{α:Type}(l:List α)(i:Nat)(h:i< (fours l).length):(fours l)[i]=(l.drop (4*i)).take 4:=by simp[fours]
theorem range_flat{α:Type}(l:List α):∀n,((List.range n).map fun i=>(l.drop (4*i)).take 4).flatten=l.take (4*n)
 |0=>by simp
 |n+1=>by rw[List.range_succ,List.map_append,List.flatten_append,range_flat l n];simp only[List.map_cons,List.map_nil,List.flatten_cons,List.flatten_nil,List.append_nil];rw[show 4*(n+1)=4*n+4 by omega,List.take_add]
theorem ze{α:Type}(l:List α):(fours l).flatten=l:=by rw[fours,range_flat,List.take_of_length_le (by omega)]
theorem zo{α:Type}(l:List α):∀g∈fours l,g.length<=4/\g≠[]:=by intro g hg;simp only[fours,List.mem_map,List.mem_range] at hg;obtain⟨i,hi,rfl⟩:=hg;refine⟨by simp;omega,fun h=>?_⟩;have:=congrArg List.length h;simp at this;omega
@[reducible] def T:Nat->Type
 |0=>List Pt
 |n+1=>List (T n)
def pts:(n:Nat)->T n->List Pt
 |0,l=>(l:List Pt)
 |n+1,cs=>List.flatMap (pts n) (cs:List (T n))
def join(p q:Box):Box:=⟨min p.a q.a,min p.b q.b,max p.c q.c,max p.d q.d⟩
def boxOf(p:Pt):Box:=⟨p.x,p.y,p.x,p.y⟩
def boxL(l:List Box):Box:=l.foldl join (l.headD ⟨0,0,0,0⟩)
def box:(n:Nat)->T n->Box
 |0,l=>boxL (List.map boxOf (l:List Pt))
 |n+1,cs=>boxL (List.map (box n) (cs:List (T n)))
def count:(n:Nat)->T n->Nat
 |0,l=>List.length (l:List Pt)
 |n+1,cs=>(List.map (count n) (cs:List (T n))).sum
def kids:(n:Nat)->T n->Nat
 |0,l=>List.length (l:List Pt)
 |n+1,cs=>List.length (cs:List (T n))
def four(n:Nat):List UInt8:=[UInt8.ofNat (n/16777216),UInt8.ofNat (n/65536),UInt8.ofNat (n/256),UInt8.ofNat n]
def fourI(n:Int):List UInt8:=four (n%4294967296).toNat
theorem fourI_len(n:Int):(fourI n).length=4:=rfl
def ptText(p:Pt):List UInt8:=fourI p.id++fourI p.x++fourI p.y
def boxText(b:Box):List UInt8:=fourI b.a++fourI b.b++fourI b.c++fourI b.d
theorem ptText_len(p:Pt):(ptText p).length=12:=rfl
theorem jD(b:Box):(boxText b).length=16:=rfl
structure Pt.Ok(p:Pt):Prop where
 id1:1<=p.id
 id2:p.id<=1000000
 x1: -1000000<=p.x
 x2:p.x<=1000000
 y1: -1000000<=p.y
 y2:p.y<=1000000
section
variable (dig : List UInt8 → List UInt8)
def leafText(l:List Pt):List UInt8:=1::UInt8.ofNat l.length::l.flatMap ptText
def headText(b:Box)(n:Nat)(d:List UInt8):List UInt8:=boxText b++fourI n++d
def text:(n:Nat)->T n->List UInt8
 |0,l=>leafText l
 |n+1,cs=>2::UInt8.ofNat (List.length (cs:List (T n)))::List.flatMap (fun c=>headText (box n c) (count n c) (dig (text n c))) (cs:List (T n))
def head(n:Nat)(c:T n):List UInt8:=headText (box n c) (count n c) (dig (text dig n c))
def proof(must:Box->Bool):(n:Nat)->T n->List UInt8
 |0,l=>leafText l
 |n+1,cs=>2::UInt8.ofNat (List.length (cs:List (T n)))::List.flatMap (fun c=>head dig n c++(if must (box n c) then 1::proof must n c else [0])) (cs:List (T n))
theorem text_succ(n:Nat)(cs:T (n+1)):text dig (n+1) cs=2::UInt8.ofNat (List.length (cs:List (T n)))::List.flatMap (head dig n) (cs:List (T n)):=rfl
def texts:(n:Nat)->T n->List (List UInt8)
 |0,l=>[leafText l]
 |n+1,cs=>List.flatMap (texts n) (cs:List (T n))++[text dig (n+1) cs]
theorem text_mem:∀(n:Nat) (t:T n),text dig n t∈texts dig n t
 |0,_=>by simp[texts,text]
 |n+1,_=>by simp[texts]
end
def Each{α:Type}(P:α->Prop)(l:List α):Prop:=∀x∈l,P x
def Small:(n:Nat)->T n->Prop
 |0,l=>List.length (l:List Pt)<=4/\Each Pt.Ok (l:List Pt)
 |n+1,cs=>List.length (cs:List (T n))<=4/\Each (Small n) (cs:List (T n))
section
variable {dig : List UInt8 → List UInt8}
theorem zb(hd:∀l,(dig l).length=32)(n:Nat)(c:T n):(head dig n c).length=52:=by simp[head,headText,jD,fourI_len,hd]
end
def climb:Nat->(n:Nat)->List (T n)->(m:Nat)×T m
 |0,_,_=>⟨0,([]:List Pt)⟩
 |k+1,n,ls=>match ls with
  | [t]=>⟨n,t⟩
  |_=>climb k (n+1) (fours ls)
theorem GK(k n:Nat)(t:T n):climb (k+1) n [t]=⟨n,t⟩:=rfl
theorem Gb(k n:Nat)(ls:List (T n))(h:ls.length≠1):climb (k+1) n ls=climb k (n+1) (fours ls):=by rw[climb];intro t e;subst e;simp at h
def leaves(l:List Pt):List (T 0):=if l.length=0 then [([]:List Pt)] else fours l
def tree(l:List Pt):(m:Nat)×T m:=climb (l.length+2) 0 (leaves l)
def ptsL(n:Nat)(ls:List (T n)):List Pt:=ls.flatMap (pts n)
theorem ptsL_fours(n:Nat)(ls:List (T n)):ptsL (n+1) (fours ls)=ptsL n ls:=by
 show List.flatMap (fun g:List (T n)=>List.flatMap (pts n) g) (fours ls)=List.flatMap (pts n) ls;have h:=congrArg (List.flatMap (pts n)) (ze ls);rw[<-h];generalize fours ls=gs;induction gs with
 |nil=>rfl
 |cons g gs ih=>rw[List.flatMap_cons,List.flatten_cons,List.flatMap_append,ih]
theorem climb_all{P:(n:Nat)->T n->Prop}(hP:∀n (ls:List (T n)),(∀t∈ls,P n t)->∀g∈fours ls,P (n+1) g):
  ∀(k n:Nat) (ls:List (T n)),ls≠[]->ls.length<k->(∀t∈ls,P n t)->P (climb k n ls).1 (climb k n ls).2/\pts (climb k n ls).1 (climb k n ls).2=ptsL n ls
 |0,_,_,_,h,_=>absurd h (by omega)
 |k+1,n,ls,h0,hk,h=>by
  by_cases h1:ls.length=1
  ·obtain⟨t,rfl⟩:=List.length_eq_one_iff.1 h1;rw[GK];exact⟨h t (by simp),by simp[ptsL]⟩
  ·have hl:ls.length≠0:=fun e=>h0 (List.length_eq_zero_iff.1 e);rw[Gb _ _ _ h1];have:=climb_all hP k (n+1) (fours ls) (fun e=>by have:=congrArg List.length e;rw[gP] at this;simp at this;omega) (by rw[gP];omega) (hP n ls h);rw[ptsL_fours] at this;exact this
theorem leaves_ne(l:List Pt):leaves l≠[]:=by
 unfold leaves;split
 ·simp
 ·intro e;have:=congrArg List.length e;rw[gP] at this;simp at this;omega
theorem leaves_lt(l:List Pt):(leaves l).length<l.length+2:=by
 unfold leaves;split
 ·simp
 ·rw[gP];omega
theorem leaves_pts(l:List Pt):ptsL 0 (leaves l)=l:=by
 unfold leaves ptsL;split
 ·rename_i h;rw[List.length_eq_zero_iff.1 h];rfl
 ·have h:=ze l;rw[List.flatten_eq_flatMap] at h;exact h
theorem leaves_small{l:List Pt}(h:∀p∈l,p.Ok):∀t∈leaves l,Small 0 t:=by
 unfold leaves;split
 ·intro t ht;rw[List.mem_singleton] at ht;subst ht;exact⟨by simp,fun p hp=>by simp at hp⟩
 ·intro t ht;refine⟨(zo l t ht).1,fun p hp=>h p ?_⟩;rw[<-ze l];exact List.mem_flatten.2 ⟨t,ht,hp⟩
theorem fours_mem{α:Type}{l:List α}{g:List α}(hg:g∈fours l):∀c∈g,c∈l:=fun c hc=>by rw[<-ze l];exact List.mem_flatten.2 ⟨g,hg,hc⟩
theorem zO{l:List Pt}(h:∀p∈l,p.Ok):Small (tree l).1 (tree l).2/\pts (tree l).1 (tree l).2=l:=by have:=climb_all (P:=Small) (fun n ls hs g hg=>⟨(zo ls g hg).1,fun c hc=>hs c (fours_mem hg c hc)⟩) (l.length+2) 0 (leaves l) (leaves_ne l) (leaves_lt l) (leaves_small h);rw[leaves_pts] at this;exact this
theorem climb_depth:∀(d k n:Nat) (ls:List (T n)),ls≠[]->ls.length<k->ls.length<=4 ^ d->(climb k n ls).1<=n+d
 |_,0,_,_,_,h,_=>absurd h (by omega)
 |0,k+1,n,ls,h0,hk,h=>by
  have h1:ls.length=1:=by have:ls.length≠0:=fun e=>h0 (List.length_eq_zero_iff.1 e);simp at h;omega
  obtain⟨t,rfl⟩:=List.length_eq_one_iff.1 h1;rw[GK];simp
 |d+1,k+1,n,ls,h0,hk,h=>by
  by_cases h1:ls.length=1
  ·obtain⟨t,rfl⟩:=List.length_eq_one_iff.1 h1;rw[GK];simp
  ·have hl:ls.length≠0:=fun e=>h0 (List.length_eq_zero_iff.1 e);rw[Gb _ _ _ h1];have:=climb_depth d k (n+1) (fours ls) (fun e=>by have:=congrArg List.length e;rw[gP] at this;simp at this;omega) (by rw[gP];omega) (by rw[gP];rw[Nat.pow_succ] at h;omega);omega
theorem GP{l:List Pt}(h:l.length<=256):(tree l).1<=3:=by have:=climb_depth 3 (l.length+2) 0 (leaves l) (leaves_ne l) (leaves_lt l) (by unfold leaves;split;(·simp);(·rw[gP];omega));exact Nat.le_trans this (by omega)
theorem count_pts:∀(n:Nat) (t:T n),count n t=(pts n t).length
 |0,_=>rfl
 |n+1,cs=>by show(List.map (count n) cs).sum=(List.flatMap (pts n) cs).length;rw[List.length_flatMap];congr 1;exact List.map_congr_left fun c _=>count_pts n c
structure Box.In(b:Box):Prop where
 a1: -1000000<=b.a
 a2:b.a<=1000000
 b1: -1000000<=b.b
 b2:b.b<=1000000
 c1: -1000000<=b.c
 c2:b.c<=1000000
 d1: -1000000<=b.d
 d2:b.d<=1000000
theorem join_in{p q:Box}(hp:p.In)(hq:q.In):(join p q).In:=by obtain⟨_,_,_,_,_,_,_,_⟩:=hp;obtain⟨_,_,_,_,_,_,_,_⟩:=hq;constructor<;>simp only[join]<;>omega
theorem zero_in:(⟨0,0,0,0⟩:Box).In:=by constructor<;>simp
theorem fold_in:∀{l:List Box} {b:Box},b.In->(∀c∈l,c.In)->(l.foldl join b).In
 | [],_,hb,_=>hb
 |c::l,_,hb,h=>fold_in (l:=l) (join_in hb (h c (by simp))) fun d hd=>h d (by simp[hd])
theorem boxL_in{l:List Box}(h:∀c∈l,c.In):(boxL l).In:=by
 refine fold_in ?_ h;cases l with
 |nil=>exact zero_in
 |cons c l=>exact h c (by simp)
theorem box_in:∀(n:Nat) (t:T n),Small n t->(box n t).In
 |0,l,h=>boxL_in fun c hc=>by obtain⟨p,hp,rfl⟩:=List.mem_map.1 hc;have:=h.2 p hp;obtain⟨_,_,_,_,_,_⟩:=this;constructor<;>simp only[boxOf]<;>omega
 |n+1,cs,h=>boxL_in fun c hc=>by obtain⟨t,ht,rfl⟩:=List.mem_map.1 hc;exact box_in n t (h.2 t ht)
inductive Sh(α:Type):Type
 |leaf (b:List UInt8)
 |node (cs:List (List UInt8×(UInt8⊕α)))
@[reducible] def PT:Nat->Type
 |0=>Empty
 |n+1=>Sh (PT n)
def WF:(n:Nat)->PT n->Prop
 |0,t=>nomatch t
 |_+1,.leaf b=>∃k,k<=4/\b.length=12*k
 |n+1,.node cs=>cs.length<=4/\Each (fun c:List UInt8×(UInt8⊕PT n)=>c.1.length=52/\match c.2 with| .inl f=>f≠1| .inr t=>WF n t) cs
def own:(n:Nat)->PT n->List UInt8
 |0,t=>nomatch t
 |_+1,.leaf b=>1::UInt8.ofNat (b.length/12)::b
 |_+1,.node cs=>2::UInt8.ofNat cs.length::cs.flatMap (fun c=>c.1)
theorem pts_len(l:List Pt):(l.flatMap ptText).length=12*l.length:=by
 induction l with
 |nil=>rfl
 |cons p l ih=>rw[List.flatMap_cons,List.length_append,ih,ptText_len,List.length_cons];omega
end Wd
namespace Sha
def ror(n x:Nat):Nat:=(x*2 ^ (32-n)%4294967296) ||| (x/2 ^ n)
def ss0(x:Nat):Nat:=(ror 7 x ^^^ ror 18 x) ^^^ (x/8)
def ss1(x:Nat):Nat:=(ror 17 x ^^^ ror 19 x) ^^^ (x/1024)
def bs0(x:Nat):Nat:=(ror 2 x ^^^ ror 13 x) ^^^ ror 22 x
def bs1(x:Nat):Nat:=(ror 6 x ^^^ ror 11 x) ^^^ ror 25 x
def ch(x y z:Nat):Nat:=(x &&& y) ^^^ ((4294967295 ^^^ x) &&& z)
def maj(x y z:Nat):Nat:=((x &&& y) ^^^ (x &&& z)) ^^^ (y &&& z)
structure St where
 a:Nat
 b:Nat
 c:Nat
 d:Nat
 e:Nat
 f:Nat
 g:Nat
 h:Nat
def Ok(s:St):Prop:=s.a<4294967296/\s.b<4294967296/\s.c<4294967296/\s.d<4294967296/\s.e<4294967296/\s.f<4294967296/\s.g<4294967296/\s.h<4294967296
def t1(k w:Nat)(s:St):Nat:=((((s.h+bs1 s.e)%4294967296+ch s.e s.f s.g)%4294967296+k)%4294967296+w)%4294967296
def t2(s:St):Nat:=(bs0 s.a+maj s.a s.b s.c)%4294967296
def round(k w:Nat)(s:St):St:=⟨(t1 k w s+t2 s)%4294967296,s.a,s.b,s.c,(s.d+t1 k w s)%4294967296,s.e,s.f,s.g⟩
def Ks:List Nat:=[1116352408,1899447441,3049323471,3921009573,961987163,1508970993,2453635748,2870763221,3624381080,310598401,607225278,1426881987,1925078388,2162078206,2614888103,3248222580,3835390401,4022224774,264347078,604807628,770255983,1249150122,1555081692,1996064986,2554220882,2821834349,2952996808,3210313671,3336571891,3584528711,113926993,338241895,666307205,773529912,1294757372,1396182291,1695183700,1986661051,2177026350,2456956037,2730485921,2820302411,3259730800,3345764771,3516065817,3600352804,4094571909,275423344,430227734,506948616,659060556,883997877,958139571,1322822218,1537002063,1747873779,1955562222,2024104815,2227730452,2361852424,2428436474,2756734187,3204031479,3329325298]
def rounds(ws:List Nat):Nat->St->St
 |0,s=>s
 |n+1,s=>round (Ks.getD n 0) (ws.getD n 0) (rounds ws n s)
def byteAt(l:List UInt8)(i:Nat):Nat:=(l.getD i 0).toNat
def word(l:List UInt8)(i:Nat):Nat:=((byteAt l i*16777216 ||| byteAt l (i+1)*65536) ||| byteAt l (i+2)*256) ||| byteAt l (i+3)
def first(l:List UInt8):Nat->List Nat
 |0=>[]
 |n+1=>first l n++[word l (4*n)]
def nextW(l:List Nat)(n:Nat):Nat:=(((ss1 (l.getD (n+14) 0)+l.getD (n+9) 0)%4294967296+ss0 (l.getD (n+1) 0))%4294967296+l.getD n 0)%4294967296
def spreadTo(l:List UInt8):Nat->List Nat
 |0=>first l 16
 |n+1=>spreadTo l n++[nextW (spreadTo l n) n]
def add(s t:St):St:=⟨(s.a+t.a)%4294967296,(s.b+t.b)%4294967296,(s.c+t.c)%4294967296,(s.d+t.d)%4294967296,(s.e+t.e)%4294967296,(s.f+t.f)%4294967296,(s.g+t.g)%4294967296,(s.h+t.h)%4294967296⟩
def stir(s:St)(l:List UInt8):St:=add s (rounds (spreadTo l 48) 64 s)
def stirN(l:List UInt8):Nat->St->St
 |0,s=>s
 |n+1,s=>stir (stirN l n s) ((l.drop (64*n)).take 64)
def four(n:Nat):List UInt8:=[UInt8.ofNat (n/16777216),UInt8.ofNat (n/65536),UInt8.ofNat (n/256),UInt8.ofNat n]
def padding(n:Nat):List UInt8:=(128::List.replicate ((119-n%64)%64) 0)++(four (8*n/4294967296%4294967296)++four (8*n%4294967296))
def start:St:=⟨1779033703,3144134277,1013904242,2773480762,1359893119,2600822924,528734635,1541459225⟩
def whole(n:Nat):Nat:=n-n%64
def last(l:List UInt8):List UInt8:=l.drop (whole l.length)++padding l.length
def state(l:List UInt8):St:=stirN (last l) ((last l).length/64) (stirN (l.take (whole l.length)) (l.length/64) start)
def join(s:St):List UInt8:=four s.a++four s.b++four s.c++four s.d++four s.e++four s.f++four s.g++four s.h
def sha(l:List UInt8):List UInt8:=join (state l)
theorem or_lt{x y:Nat}(hx:x<4294967296)(hy:y<4294967296):x ||| y<4294967296:=Nat.or_lt_two_pow (n:=32) hx hy
theorem xor_lt{x y:Nat}(hx:x<4294967296)(hy:y<4294967296):x ^^^ y<4294967296:=Nat.xor_lt_two_pow (n:=32) hx hy
theorem and_lt{x y:Nat}(hy:y<4294967296):x &&& y<4294967296:=Nat.and_lt_two_pow (n:=32) x hy
theorem div_lt{x n:Nat}(hx:x<4294967296):x/n<4294967296:=Nat.lt_of_le_of_lt (Nat.div_le_self _ _) hx
theorem ror_lt{n x:Nat}(hx:x<4294967296):ror n x<4294967296:=or_lt (Nat.mod_lt _ (by decide)) (div_lt hx)
theorem ss0_lt{x:Nat}(hx:x<4294967296):ss0 x<4294967296:=xor_lt (xor_lt (ror_lt hx) (ror_lt hx)) (div_lt hx)
theorem ss1_lt{x:Nat}(hx:x<4294967296):ss1 x<4294967296:=xor_lt (xor_lt (ror_lt hx) (ror_lt hx)) (div_lt hx)
theorem bs0_lt{x:Nat}(hx:x<4294967296):bs0 x<4294967296:=xor_lt (xor_lt (ror_lt hx) (ror_lt hx)) (ror_lt hx)
theorem bs1_lt{x:Nat}(hx:x<4294967296):bs1 x<4294967296:=xor_lt (xor_lt (ror_lt hx) (ror_lt hx)) (ror_lt hx)
theorem ch_lt{x y z:Nat}(hy:y<4294967296)(hz:z<4294967296):ch x y z<4294967296:=xor_lt (and_lt hy) (and_lt hz)
theorem maj_lt{x y z:Nat}(hy:y<4294967296)(hz:z<4294967296):maj x y z<4294967296:=xor_lt (xor_lt (and_lt hy) (and_lt hz)) (and_lt hz)
theorem round_ok{k w:Nat}{s:St}(h:Ok s):Ok (round k w s):=⟨Nat.mod_lt _ (by decide),h.1,h.2.1,h.2.2.1,Nat.mod_lt _ (by decide),h.2.2.2.2.1,h.2.2.2.2.2.1,h.2.2.2.2.2.2.1⟩
theorem rounds_ok{ws:List Nat}:∀(n:Nat) {s:St},Ok s->Ok (rounds ws n s)
 |0,_,h=>h
 |n+1,_,h=>round_ok (rounds_ok n h)
theorem add_ok{s t:St}:Ok (add s t):=⟨Nat.mod_lt _ (by decide),Nat.mod_lt _ (by decide),Nat.mod_lt _ (by decide),Nat.mod_lt _ (by decide),Nat.mod_lt _ (by decide),Nat.mod_lt _ (by decide),Nat.mod_lt _ (by decide),Nat.mod_lt _ (by decide)⟩
theorem stir_ok{s:St}{l:List UInt8}:Ok (stir s l):=add_ok
theorem start_ok:Ok start:=by unfold Ok start;decide
theorem stirN_ok{l:List UInt8}:∀(n:Nat) {s:St},Ok s->Ok (stirN l n s)
 |0,_,h=>h
 |_+1,_,_=>stir_ok
theorem byteAt_lt(l:List UInt8)(i:Nat):byteAt l i<256:=(l.getD i 0).toNat_lt
theorem up24{x:Nat}(h:x<256):x*16777216<4294967296:=by omega
theorem up16{x:Nat}(h:x<256):x*65536<4294967296:=by omega
theorem up8{x:Nat}(h:x<256):x*256<4294967296:=by omega
theorem cast_mul(a b:Nat):(a:Int)*(b:Int)=((a*b:Nat):Int):=by simp
theorem word_lt(l:List UInt8)(i:Nat):word l i<4294967296:=by have h0:=byteAt_lt l i;have h1:=byteAt_lt l (i+1);have h2:=byteAt_lt l (i+2);have h3:=byteAt_lt l (i+3);exact or_lt (or_lt (or_lt (by omega) (by omega)) (by omega)) (by omega)
theorem first_length(l:List UInt8):∀n,(first l n).length=n
 |0=>rfl
 |n+1=>by simp[first,first_length l n]
theorem first_lt(l:List UInt8):∀n,∀x∈first l n,x<4294967296
 |0,x,h=>by simp[first] at h
 |n+1,x,h=>by
  simp only[first,List.mem_append,List.mem_singleton] at h;rcases h with h|rfl
  ·exact first_lt l n x h
  ·exact word_lt l _
theorem spreadTo_length(l:List UInt8):∀n,(spreadTo l n).length=16+n
 |0=>first_length l 16
 |n+1=>by simp[spreadTo,spreadTo_length l n];omega
theorem spreadTo_lt(l:List UInt8):∀n,∀x∈spreadTo l n,x<4294967296
 |0,x,h=>first_lt l 16 x h
 |n+1,x,h=>by
  simp only[spreadTo,List.mem_append,List.mem_singleton] at h;rcases h with h|rfl
  ·exact spreadTo_lt l n x h
  ·exact Nat.mod_lt _ (by decide)
theorem getD_lt{l:List Nat}(h:∀x∈l,x<4294967296)(i:Nat):l.getD i 0<4294967296:=by
 by_cases hi:i<l.length
 ·simp only[List.getD_eq_getElem?_getD,List.getElem?_eq_getElem hi,Option.getD_some];exact h _ (List.getElem_mem hi)
 ·simp only[List.getD_eq_getElem?_getD,List.getElem?_eq_none (Nat.le_of_not_lt hi),Option.getD_none];decide
theorem Ks_lt:∀x∈Ks,x<4294967296:=by decide
end Sha
namespace Wd
section
variable (dig : List UInt8 → List UInt8)
def rootText(L:List Pt):List UInt8:=text dig (tree L).1 (tree L).2
end
structure Nd(α:Type) where
 pts:List Pt
 kids:List α
 box:Box
 n:Int
 dig:List UInt8
@[reducible] def NT:Nat->Type
 |0=>Empty
 |n+1=>Nd (NT n)
def boxN:(n:Nat)->NT n->Box
 |0,t=>nomatch t
 |_+1,t=>Nd.box t
def numN:(n:Nat)->NT n->Int
 |0,t=>nomatch t
 |_+1,t=>Nd.n t
def digN:(n:Nat)->NT n->List UInt8
 |0,t=>nomatch t
 |_+1,t=>Nd.dig t
def saidN(n:Nat)(t:NT n):List UInt8:=boxText (boxN n t)++fourI (numN n t)++digN n t
def textK(n:Nat)(K:List (NT n)):List UInt8:=2::UInt8.ofNat K.length::K.flatMap (saidN n)
def mk(dig:List UInt8->List UInt8):(n:Nat)->T n->NT (n+1)
 |0,l=>⟨l,[],box 0 l,(List.length (l:List Pt):Nat),dig (text dig 0 l)⟩
 |n+1,cs=>⟨[],List.map (mk dig n) (cs:List (T n)),box (n+1) cs,(count (n+1) cs:Nat),dig (text dig (n+1) cs)⟩
theorem mk_box(dig:List UInt8->List UInt8):∀(n:Nat) (t:T n),boxN (n+1) (mk dig n t)=box n t
 |0,_=>rfl
 |_+1,_=>rfl
theorem mk_num(dig:List UInt8->List UInt8):∀(n:Nat) (t:T n),numN (n+1) (mk dig n t)=(count n t:Nat)
 |0,_=>rfl
 |_+1,_=>rfl
theorem mk_dig(dig:List UInt8->List UInt8):∀(n:Nat) (t:T n),digN (n+1) (mk dig n t)=dig (text dig n t)
 |0,_=>rfl
 |_+1,_=>rfl
theorem mk_said(dig:List UInt8->List UInt8)(n:Nat)(t:T n):saidN (n+1) (mk dig n t)=head dig n t:=by rw[saidN,mk_box,mk_num,mk_dig,head,headText]
theorem mk_text(dig:List UInt8->List UInt8)(n:Nat)(cs:List (T n)):textK (n+1) (cs.map (mk dig n))=text dig (n+1) cs:=by rw[text_succ,textK,List.length_map,List.flatMap_map];congr 2;rw[List.flatMap_def,List.flatMap_def];congr 1;exact List.map_congr_left fun c _=>mk_said dig n c
def NE:(n:Nat)->T n->Prop
 |0,_=>True
 |n+1,cs=>(cs:List (T n))≠[]/\Each (NE n) (cs:List (T n))
theorem tree_ne(l:List Pt):NE (tree l).1 (tree l).2:=(climb_all (P:=NE) (fun _ ls hs g hg=>⟨(zo ls g hg).2,fun c hc=>hs c (fours_mem hg c hc)⟩) (l.length+2) 0 (leaves l) (leaves_ne l) (leaves_lt l) (fun _ _=>trivial)).1
def meets(p q:Box):Bool:=decide (p.a<=q.c)&&decide (q.a<=p.c)&&decide (p.b<=q.d)&&decide (q.b<=p.d)
def proofN(must:Box->Bool):(n:Nat)->NT n->List UInt8
 |0,t=>nomatch t
 |n+1,t=>if (Nd.kids t).length=0 then leafText (Nd.pts t) else 2::UInt8.ofNat (Nd.kids t).length::(Nd.kids t).flatMap fun c=>saidN n c++(if must (boxN n c) then 1::proofN must n c else [0])
def withinN(b:Box):(n:Nat)->NT n->List Pt
 |0,t=>nomatch t
 |n+1,t=>(Nd.pts t).filter (fun p=>meets b (boxOf p))++(Nd.kids t).flatMap fun c=>if meets b (boxN n c) then withinN b n c else []
theorem ot{α β:Type}{f g:α->List β}:∀{l:List α},(∀x∈l,f x=g x)->l.flatMap f=l.flatMap g
 | [],_=>rfl
 |x::l,h=>by rw[List.flatMap_cons,List.flatMap_cons,h x (by simp),ot fun y hy=>h y (by simp[hy])]
theorem mk_proof(dig:List UInt8->List UInt8)(must:Box->Bool):∀(n:Nat) (t:T n),NE n t->proofN must (n+1) (mk dig n t)=proof dig must n t
 |0,_,_=>rfl
 |n+1,cs,h=>by
  have hne:(cs.map (mk dig n)).length≠0:=by rw[List.length_map];exact fun e=>h.1 (List.length_eq_zero_iff.1 e)
  show(if (cs.map (mk dig n)).length=0 then _ else 2::UInt8.ofNat (cs.map (mk dig n)).length::(cs.map (mk dig n)).flatMap fun c=>saidN (n+1) c++(if must (boxN (n+1) c) then 1::proofN must (n+1) c else [0]))=2::UInt8.ofNat (List.length cs)::List.flatMap (fun c=>head dig n c++(if must (box n c) then 1::proof dig must n c else [0])) cs;rw[if_neg hne,List.length_map,List.flatMap_map];congr 2;refine ot fun c hc=>?_;rw[mk_said,mk_box,mk_proof dig must n c (h.2 c hc)]
structure Qr where
 kind:Int
 a:Int
 b:Int
 c:Int
 d:Int
 x:Int
 y:Int
 k:Int
def coordOk(n:Int):Bool:=decide (-1000000<=n/\n<=1000000)
theorem gV{n:Int}(h: -1000000<=n/\n<=1000000):coordOk n=true:=decide_eq_true h
theorem ou{n:Int}(h:¬(-1000000<=n/\n<=1000000)):coordOk n=false:=decide_eq_false h
def boxMay(b:Box):Bool:=coordOk b.a&&coordOk b.b&&coordOk b.c&&coordOk b.d&&decide (b.a<=b.c)&&decide (b.b<=b.d)
def window(q:Qr):Box:=⟨q.a,q.b,q.c,q.d⟩
def mayBe(q:Qr):Bool:=if q.kind=0 then boxMay (window q) else if q.kind=1 then coordOk q.x&&coordOk q.y&&decide (1<=q.k)&&decide (q.k<=20) else false
def gap(lo hi x:Int):Int:=max (max (lo-x) 0) (x-hi)
def dist(b:Box)(x y:Int):Int:=gap b.a b.c x*gap b.a b.c x+gap b.b b.d y*gap b.b b.d y
def distP(p:Pt)(x y:Int):Int:=dist (boxOf p) x y
theorem oN(lo hi x:Int):0<=gap lo hi x:=by unfold gap;omega
theorem dist_nonneg(b:Box)(x y:Int):0<=dist b x y:=by unfold dist;have h1:=Int.mul_nonneg (oN b.a b.c x) (oN b.a b.c x);have h2:=Int.mul_nonneg (oN b.b b.d y) (oN b.b b.d y);omega
theorem gap_mono{lo hi lo' hi' x:Int}(h1:lo<=lo')(h2:hi'<=hi):gap lo hi x<=gap lo' hi' x:=by unfold gap;omega
def Box.has(b c:Box):Prop:=b.a<=c.a/\b.b<=c.b/\c.c<=b.c/\c.d<=b.d
theorem dist_mono{b c:Box}(h:b.has c)(x y:Int):dist b x y<=dist c x y:=by obtain⟨h1,h2,h3,h4⟩:=h;unfold dist;have g1:=gap_mono (x:=x) h1 h3;have g2:=gap_mono (x:=y) h2 h4;have e1:=Int.mul_le_mul g1 g1 (oN _ _ _) (oN _ _ _);have e2:=Int.mul_le_mul g2 g2 (oN _ _ _) (oN _ _ _);omega
def nr(x y:Int)(p q:Pt):Prop:=distP p x y<distP q x y\/(distP p x y=distP q x y/\p.id<q.id)
instance (x y:Int)(p q:Pt):Decidable (nr x y p q):=by unfold nr;infer_instance
theorem nr_irrefl(x y:Int)(p:Pt):¬nr x y p p:=by unfold nr;omega
theorem nr_trans{x y:Int}{p q r:Pt}(h:nr x y p q)(k:nr x y q r):nr x y p r:=by unfold nr at*;omega
theorem nr_total{x y:Int}{p q:Pt}(hn:p.id≠q.id)(h:¬nr x y p q):nr x y q p:=by unfold nr at*;omega
section
variable (r : Pt → Pt → Prop) [∀ p q, Decidable (r p q)]
def insR(p:Pt)(l:List Pt):List Pt:=l.takeWhile (fun q=>decide (r q p))++p::l.dropWhile (fun q=>decide (r q p))
def sortR(l:List Pt):List Pt:=l.foldr (insR r) []
theorem insR_perm(p:Pt)(l:List Pt):(insR r p l).Perm (p::l):=by unfold insR;have:=List.perm_middle (a:=p) (l₁:=l.takeWhile (fun q=>decide (r q p))) (l₂:=l.dropWhile (fun q=>decide (r q p)));rw[List.takeWhile_append_dropWhile] at this;exact this
theorem GS:∀(l:List Pt),(sortR r l).Perm l
 | []=>List.Perm.refl _
 |p::l=>(insR_perm r p (sortR r l)).trans ((GS l).cons p)
end
section
variable {r : Pt → Pt → Prop} [∀ p q, Decidable (r p q)]
theorem takeWhile_r{p:Pt}:∀{l:List Pt},∀q∈l.takeWhile (fun q=>decide (r q p)),r q p
 |q::l,s,hs=>by
  by_cases h:r q p
  ·simp[List.takeWhile,h] at hs;rcases hs with rfl|hs
   ·exact h
   ·exact takeWhile_r s hs
  ·simp[List.takeWhile,h] at hs
theorem dropWhile_r{p:Pt}(ht:∀a b c:Pt,r a b->r b c->r a c):∀{l:List Pt},l.Pairwise r->∀q∈l.dropWhile (fun q=>decide (r q p)),¬r q p
 |q::l,hs,s,hr=>by
  obtain⟨h1,h2⟩:=List.pairwise_cons.1 hs;by_cases h:r q p
  ·simp[List.dropWhile,h] at hr;exact dropWhile_r ht h2 s hr
  ·simp[List.dropWhile,h] at hr;rcases hr with rfl|hr
   ·exact h
   ·exact fun k=>h (ht _ _ _ (h1 s hr) k)
theorem insR_sorted(ht:∀a b c:Pt,r a b->r b c->r a c)(hto:∀a b:Pt,a.id≠b.id->¬r a b->r b a){p:Pt}{l:List Pt}(h:l.Pairwise r)(hn:∀q∈l,q.id≠p.id):(insR r p l).Pairwise r:=by
 unfold insR;refine List.pairwise_append.2 ⟨h.sublist (List.takeWhile_sublist _),List.pairwise_cons.2 ⟨fun q hq=>?_,h.sublist (List.dropWhile_sublist _)⟩,fun q hq s hs=>?_⟩
 ·exact hto _ _ (hn q ((List.dropWhile_sublist _).subset hq)) (dropWhile_r ht h q hq)
 ·rcases List.mem_cons.1 hs with rfl|hs
  ·exact takeWhile_r q hq
  ·(have hall:(l.takeWhile (fun q=>decide (r q p))++l.dropWhile (fun q=>decide (r q p))).Pairwise r:=by rw[List.takeWhile_append_dropWhile];exact h);exact(List.pairwise_append.1 hall).2.2 q hq s hs
theorem GQ(ht:∀a b c:Pt,r a b->r b c->r a c)(hto:∀a b:Pt,a.id≠b.id->¬r a b->r b a):∀{l:List Pt},Ids l->(sortR r l).Pairwise r
 | [],_=>List.Pairwise.nil
 |p::l,h=>by obtain⟨h1,h2⟩:=List.pairwise_cons.1 h;exact insR_sorted ht hto (GQ ht hto h2) fun q hq=>(h1 q ((GS r l).mem_iff.1 hq)).symm
end
theorem eq_of_sorted{r:Pt->Pt->Prop}(hi:∀a,¬r a a)(ht:∀a b c:Pt,r a b->r b c->r a c){l m:List Pt}(hl:l.Pairwise r)(hm:m.Pairwise r)(h:l.Perm m):l=m:=h.eq_of_pairwise (fun a _ _ _ hab hba=>absurd (ht _ _ _ hab hba) (hi a)) hl hm
theorem lt_tot{p q:Pt}(hn:p.id≠q.id)(h:¬lt p q):lt q p:=by unfold lt at*;omega
def sortP(l:List Pt):List Pt:=sortR lt l
def sortN(x y:Int)(l:List Pt):List Pt:=sortR (nr x y) l
theorem oY(l:List Pt):(sortP l).Perm l:=GS _ l
theorem oJ(x y:Int)(l:List Pt):(sortN x y l).Perm l:=GS _ l
theorem GT{l:List Pt}(h:Ids l):Sorted (sortP l):=GQ (r:=lt) (fun _ _ _=>lt_trans) (fun _ _=>lt_tot) h
theorem zH{x y:Int}{l:List Pt}(h:Ids l):(sortN x y l).Pairwise (nr x y):=GQ (r:=nr x y) (fun _ _ _=>nr_trans) (fun _ _=>nr_total) h
theorem sortP_eq{l m:List Pt}(hm:Sorted m)(h:m.Perm l)(hi:Ids l):sortP l=m:=sorted_eq (GT hi) hm ((oY l).trans h.symm)
theorem sortN_eq{x y:Int}{l m:List Pt}(hm:m.Pairwise (nr x y))(h:m.Perm l)(hi:Ids l):sortN x y l=m:=eq_of_sorted (r:=nr x y) (nr_irrefl x y) (fun _ _ _=>nr_trans) (zH hi) hm ((oJ x y l).trans h.symm)
theorem sortN_congr{x y:Int}{l m:List Pt}(h:m.Perm l)(hi:Ids l):sortN x y m=sortN x y l:=(sortN_eq (x:=x) (y:=y) (zH ((GF h).2 hi)) ((oJ x y m).trans h) hi).symm
theorem sortN_head{x y:Int}{p:Pt}{l m:List Pt}(h:l.Perm (p::m))(hi:Ids l)(hp:∀q∈m,nr x y p q):sortN x y l=p::sortN x y m:=by have hi':Ids (p::m):=(GF h).1 hi;refine sortN_eq (List.pairwise_cons.2 ⟨fun q hq=>hp q ((oJ x y m).mem_iff.1 hq),zH (List.pairwise_cons.1 hi').2⟩) ?_ hi;exact((oJ x y m).cons p).trans h.symm
def inB(b:Box)(p:Pt):Bool:=meets b (boxOf p)
def ans(q:Qr)(P:List Pt):List Pt:=if q.kind=1 then (sortN q.x q.y P).take q.k.toNat else sortP (P.filter (inB (window q)))
theorem ids_sub{l m:List Pt}(h:m.Sublist l)(hl:Ids l):Ids m:=hl.sublist h
def must(q:Qr)(a:List Pt)(b:Box):Bool:=if q.kind=0 then meets (window q) b else if (a.length:Int)<q.k then true else decide (dist b q.x q.y<=match a.getLast? with|some p=>distP p q.x q.y|none=>0)
def allN:(n:Nat)->NT n->List Pt
 |0,t=>nomatch t
 |n+1,t=>Nd.pts t++(Nd.kids t).flatMap (allN n)
def Encl:(n:Nat)->NT n->Prop
 |0,t=>nomatch t
 |n+1,t=>(∀p∈Nd.pts t,(Nd.box t).has (boxOf p))/\∀c∈Nd.kids t,(∀p∈allN n c,(boxN n c).has (boxOf p))/\Encl n c
theorem has_refl(b:Box):b.has b:=⟨Int.le_refl _,Int.le_refl _,Int.le_refl _,Int.le_refl _⟩
theorem has_trans{a b c:Box}(h:a.has b)(k:b.has c):a.has c:=by obtain⟨_,_,_,_⟩:=h;obtain⟨_,_,_,_⟩:=k;exact⟨by omega,by omega,by omega,by omega⟩
theorem join_left(a b:Box):(join a b).has a:=by refine⟨?_,?_,?_,?_⟩<;>simp only[join]<;>omega
theorem join_right(a b:Box):(join a b).has b:=by refine⟨?_,?_,?_,?_⟩<;>simp only[join]<;>omega
theorem Gy:∀(l:List Box) (b:Box),(l.foldl join b).has b
 | [],b=>has_refl b
 |c::l,b=>has_trans (Gy l (join b c)) (join_left b c)
theorem fold_has:∀(l:List Box) (b:Box),∀c∈l,(l.foldl join b).has c
 |d::l,b,c,hc=>by
  rcases List.mem_cons.1 hc with rfl|hc
  ·exact has_trans (Gy l (join b c)) (join_right b c)
  ·exact fold_has l (join b d) c hc
theorem boxL_has{l:List Box}{c:Box}(h:c∈l):(boxL l).has c:=fold_has l _ c h
theorem meets_mono{a b c:Box}(h:b.has c)(hm:meets a c=true):meets a b=true:=by obtain⟨h1,h2,h3,h4⟩:=h;simp only[meets,Bool.and_eq_true,decide_eq_true_eq] at hm⊢;omega
theorem all_mk(dig:List UInt8->List UInt8):∀(n:Nat) (t:T n),allN (n+1) (mk dig n t)=pts n t
 |0,l=>by simp[allN,mk,pts]
 |n+1,cs=>by show[]++List.flatMap (allN (n+1)) (List.map (mk dig n) cs)=List.flatMap (pts n) cs;rw[List.nil_append,List.flatMap_map];exact ot fun c _=>all_mk dig n c
theorem box_has:∀(n:Nat) (t:T n),∀p∈pts n t,(box n t).has (boxOf p)
 |0,l,p,hp=>boxL_has (List.mem_map_of_mem hp)
 |n+1,cs,p,hp=>by obtain⟨c,hc,hp⟩:=List.mem_flatMap.1 hp;exact has_trans (boxL_has (List.mem_map_of_mem hc)) (box_has n c p hp)
theorem encl_mk(dig:List UInt8->List UInt8):∀(n:Nat) (t:T n),Encl (n+1) (mk dig n t)
 |0,l=>⟨fun p hp=>box_has 0 l p hp,fun c hc=>by simp[mk] at hc⟩
 |n+1,cs=>by refine⟨fun p hp=>by simp[mk] at hp,fun c hc=>?_⟩;obtain⟨t,_,rfl⟩:=List.mem_map.1 (show c∈List.map (mk dig n) cs from hc);exact⟨fun p hp=>by rw[all_mk] at hp;rw[mk_box];exact box_has n t p hp,encl_mk dig n t⟩
theorem filter_none{b:Box}{c:Box}{l:List Pt}(h:∀p∈l,c.has (boxOf p))(hm:meets b c=false):l.filter (inB b)=[]:=by rw[List.filter_eq_nil_iff];intro p hp he;have:=meets_mono (h p hp) he;rw[hm] at this;cases this
theorem jB{α:Type}(f:α->List Pt)(P:Pt->Bool):∀(l:List α),(l.flatMap f).filter P=l.flatMap fun x=>(f x).filter P
 | []=>rfl
 |x::l=>by rw[List.flatMap_cons,List.filter_append,jB f P l,List.flatMap_cons]
theorem within_all{b:Box}:∀(n:Nat) (t:NT n),Encl n t->withinN b n t=(allN n t).filter (inB b)
 |0,t,_=>nomatch t
 |n+1,t,h=>by
  show(Nd.pts t).filter (inB b)++((Nd.kids t).flatMap fun c=>if meets b (boxN n c) then withinN b n c else [])=(Nd.pts t++(Nd.kids t).flatMap (allN n)).filter (inB b);rw[List.filter_append,jB];congr 1;refine ot fun c hc=>?_;obtain⟨h1,h2⟩:=h.2 c hc;by_cases hm:meets b (boxN n c)=true
  ·rw[if_pos hm,within_all n c h2]
  ·(have hm':meets b (boxN n c)=false:=by simpa using hm);rw[if_neg hm,filter_none h1 hm']
theorem tree_encl(dig:List UInt8->List UInt8)(L:List Pt):Encl ((tree L).1+1) (mk dig (tree L).1 (tree L).2):=encl_mk dig _ _
theorem tree_all(dig:List UInt8->List UInt8){L:List Pt}(h:∀p∈L,p.Ok):allN ((tree L).1+1) (mk dig (tree L).1 (tree L).2)=L:=by rw[all_mk,(zO h).2]
theorem within_le(b:Box):∀(n:Nat) (t:NT n),(withinN b n t).length<=(allN n t).length
 |0,t=>nomatch t
 |n+1,t=>by
  have key:∀(l:List (NT n)),(l.flatMap fun c=>if meets b (boxN n c) then withinN b n c else []).length<=(l.flatMap (allN n)).length:=by
   intro l;induction l with
   |nil=>simp
   |cons c l ih=>
    rw[List.flatMap_cons,List.flatMap_cons,List.length_append,List.length_append];have:=within_le b n c;have h1:(if meets b (boxN n c) then withinN b n c else []).length<=(allN n c).length:=by
     split
     ·exact this
     ·exact Nat.zero_le _
    omega
  show((Nd.pts t).filter _++((Nd.kids t).flatMap fun c=>if meets b (boxN n c) then withinN b n c else [])).length<=(Nd.pts t++(Nd.kids t).flatMap (allN n)).length;rw[List.length_append,List.length_append];have h1:=List.length_filter_le (fun p=>meets b (boxOf p)) (Nd.pts t);have h2:=key (Nd.kids t);omega
def Few:(n:Nat)->NT n->Prop
 |0,t=>nomatch t
 |n+1,t=>(Nd.pts t).length<=4/\(Nd.kids t).length<=4/\∀c∈Nd.kids t,Few n c
theorem few_mk(dig:List UInt8->List UInt8):∀(n:Nat) (t:T n),Small n t->Few (n+1) (mk dig n t)
 |0,_,h=>⟨h.1,by simp[mk],fun c hc=>by simp[mk] at hc⟩
 |n+1,cs,h=>by refine⟨by simp[mk],by show(List.map (mk dig n) cs).length<=4;rw[List.length_map];exact h.1,fun c hc=>?_⟩;obtain⟨t,ht,rfl⟩:=List.mem_map.1 (show c∈List.map (mk dig n) cs from hc);exact few_mk dig n t (h.2 t ht)
def InN:(n:Nat)->NT n->Prop
 |0,t=>nomatch t
 |n+1,t=>∀c∈Nd.kids t,(boxN n c).In/\InN n c
theorem in_mk(dig:List UInt8->List UInt8):∀(n:Nat) (t:T n),Small n t->InN (n+1) (mk dig n t)
 |0,_,_=>fun c hc=>by simp[mk] at hc
 |n+1,cs,h=>fun c hc=>by obtain⟨t,ht,rfl⟩:=List.mem_map.1 (show c∈List.map (mk dig n) cs from hc);exact⟨by rw[mk_box];exact box_in n t (h.2 t ht),in_mk dig n t (h.2 t ht)⟩
theorem or_add{a b k:Nat}(ha:a%2 ^ k=0)(hb:b<2 ^ k):a ||| b=a+b:=by
 have h:a=2 ^ k*(a/2 ^ k):=by have:=Nat.div_add_mod a (2 ^ k);omega
 rw[h,<-Nat.two_pow_add_eq_or_of_lt hb]
theorem zG(l:List UInt8)(i:Nat):Sha.word l i=Sha.byteAt l i*16777216+Sha.byteAt l (i+1)*65536+Sha.byteAt l (i+2)*256+Sha.byteAt l (i+3):=by have h0:Sha.byteAt l i<256:=(l.getD i 0).toNat_lt;have h1:Sha.byteAt l (i+1)<256:=(l.getD (i+1) 0).toNat_lt;have h2:Sha.byteAt l (i+2)<256:=(l.getD (i+2) 0).toNat_lt;have h3:Sha.byteAt l (i+3)<256:=(l.getD (i+3) 0).toNat_lt;unfold Sha.word;rw[or_add (a:=Sha.byteAt l i*16777216) (k:=24) (by omega) (by omega),or_add (a:=Sha.byteAt l i*16777216+Sha.byteAt l (i+1)*65536) (k:=16) (by omega) (by omega),or_add (k:=8) (by omega) (by omega)]
theorem word_lt(l:List UInt8)(i:Nat):Sha.word l i<4294967296:=by have h0:Sha.byteAt l i<256:=(l.getD i 0).toNat_lt;have h1:Sha.byteAt l (i+1)<256:=(l.getD (i+1) 0).toNat_lt;have h2:Sha.byteAt l (i+2)<256:=(l.getD (i+2) 0).toNat_lt;have h3:Sha.byteAt l (i+3)<256:=(l.getD (i+3) 0).toNat_lt;rw[zG];omega
def signed(n:Nat):Int:=if n<2147483648 then n else (n:Int)-4294967296
def numAt(l:List UInt8)(k:Nat):Int:=signed (Sha.word l (4*k))
theorem Gc{l m:List UInt8}{i:Nat}(h:i<l.length):Sha.byteAt (l++m) i=Sha.byteAt l i:=by unfold Sha.byteAt;rw[List.getD_eq_getElem?_getD,List.getD_eq_getElem?_getD,List.getElem?_append_left h]
theorem zW{l m:List UInt8}{i:Nat}:Sha.byteAt (l++m) (l.length+i)=Sha.byteAt m i:=by unfold Sha.byteAt;rw[List.getD_eq_getElem?_getD,List.getD_eq_getElem?_getD,List.getElem?_append_right (by omega),Nat.add_sub_cancel_left]
theorem word_app{l m:List UInt8}{i:Nat}(h:i+4<=l.length):Sha.word (l++m) i=Sha.word l i:=by rw[zG,zG,Gc (by omega),Gc (by omega),Gc (by omega),Gc (by omega)]
theorem word_right{l m:List UInt8}{i:Nat}:Sha.word (l++m) (l.length+i)=Sha.word m i:=by rw[zG,zG,show l.length+i+1=l.length+(i+1) by omega,show l.length+i+2=l.length+(i+2) by omega,show l.length+i+3=l.length+(i+3) by omega,zW,zW,zW,zW]
theorem four_word{a b c d:UInt8}(m:List UInt8):four (Sha.word (a::b::c::d::m) 0)=[a,b,c,d]:=by
 rw[zG];show four (a.toNat*16777216+b.toNat*65536+c.toNat*256+d.toNat)=_;have ha:=a.toNat_lt;have hb:=b.toNat_lt;have hc:=c.toNat_lt;have hd:=d.toNat_lt;have key:∀(x:UInt8) (n:Nat),n%256=x.toNat->UInt8.ofNat n=x:=fun x n h=>by apply UInt8.toNat_inj.1;rw[UInt8.toNat_ofNat'];exact h
 unfold four;rw[key a _ (by omega),key b _ (by omega),key c _ (by omega),key d _ (by omega)]
theorem fourI_signed{n:Nat}(h:n<4294967296):fourI (signed n)=four n:=by
 have h':(signed n%4294967296).toNat=n:=by
  unfold signed;by_cases h2:n<2147483648
  ·rw[if_pos h2];omega
  ·rw[if_neg h2];omega
 unfold fourI;rw[h']
theorem fourI_numAt{a b c d:UInt8}(m:List UInt8):fourI (numAt (a::b::c::d::m) 0)=[a,b,c,d]:=by unfold numAt;rw[Nat.mul_zero,fourI_signed (word_lt _ _),four_word]
theorem zx(l:List UInt8)(k:Nat):Sha.word l k=Sha.word (l.drop k) 0:=by
 by_cases h:k<=l.length
 ·have e:=word_right (l:=l.take k) (m:=l.drop k) (i:=0);rw[List.take_append_drop,List.length_take,Nat.min_eq_left h] at e;exact e
 ·have e:l.drop k=[]:=List.drop_eq_nil_of_le (by omega);rw[e,zG,zG];unfold Sha.byteAt;simp only[List.getD_eq_getElem?_getD];rw[List.getElem?_eq_none (by omega),List.getElem?_eq_none (by omega),List.getElem?_eq_none (by omega),List.getElem?_eq_none (by omega)];rfl
theorem numAt_drop(l:List UInt8)(k:Nat):numAt l k=numAt (l.drop (4*k)) 0:=by unfold numAt;rw[zx,Nat.mul_zero]
theorem zS{l:List UInt8}{k:Nat}(h:4*k+4<=l.length):fourI (numAt l k)=(l.drop (4*k)).take 4:=by
 rw[numAt_drop];have hl:4<=(l.drop (4*k)).length:=by rw[List.length_drop];omega
 generalize l.drop (4*k)=m at*
 match m,hl with
 |a::b::c::d::m,_=>rw[fourI_numAt];rfl
abbrev Sta:Type:=List UInt8×List Int
def idOk(n:Int):Bool:=decide (1<=n/\n<=1000000)
def rdPt(s:Sta):Option (Pt×Sta):=
 if s.1.length<12 then none else
  let p:Pt:=⟨numAt s.1 0,numAt s.1 1,numAt s.1 2⟩
  if idOk p.id&& !(s.2.contains p.id)&&coordOk p.x&&coordOk p.y then some (p,(s.1.drop 12,p.id::s.2)) else none
def rdMany{α:Type}(rd:Sta->Option (α×Sta)):Nat->Sta->Option (List α×Sta)
 |0,s=>some ([],s)
 |k+1,s=>match rd s with
  |none=>none
  |some (x,s')=>match rdMany rd k s' with
   |none=>none
   |some (l,s'')=>some (x::l,s'')
def bareN(n:Nat):NT (n+1):=⟨[],[],⟨0,0,0,0⟩,0,List.replicate 32 0⟩
def headN(n:Nat)(l:List UInt8):NT (n+1):=⟨[],[],⟨numAt l 0,numAt l 1,numAt l 2,numAt l 3⟩,numAt l 4,(l.drop 20).take 32⟩
def rdKid(n:Nat)(below:Sta->Option (NT (n+1)×Sta))(s:Sta):Option (NT (n+1)×Sta):=
 if s.1.length<53 then none else
  let c:=headN n s.1
  if boxMay (Nd.box c)&&decide (1<=Nd.n c)&&decide (Nd.n c<=150) then
   if s.1.getD 52 0=0 then some (c,(s.1.drop 53,s.2))
   else if s.1.getD 52 0=1 then match below (s.1.drop 53,s.2) with
    |none=>none
    |some (b,s')=>some ({c with pts:=Nd.pts b,kids:=Nd.kids b},s')
   else none
  else none
def rdNode:(d:Nat)->(root:Bool)->Sta->Option (NT (d+1)×Sta)
 |0,_,_=>none
 |d+1,root,s=>
  if s.1.length<2 then none else
   let mark:=s.1.getD 0 0
   let size:=(s.1.getD 1 0).toNat
   let s':Sta:=(s.1.drop 2,s.2)
   if 4<size then none
   else if mark=1/\(0<size\/root=true) then match rdMany rdPt size s' with
    |none=>none
    |some (l,s'')=>some ({bareN (d+1) with pts:=l},s'')
   else if mark=2/\0<size then match rdMany (rdKid d (rdNode d false)) size s' with
    |none=>none
    |some (l,s'')=>some ({bareN (d+1) with kids:=l},s'')
   else none
def madeN:(n:Nat)->NT n->NT n
 |0,t=>nomatch t
 |n+1,t=>if (Nd.kids t).length=0 then ⟨Nd.pts t,[],boxL ((Nd.pts t).map boxOf),((Nd.pts t).length:Nat),Sha.sha (leafText (Nd.pts t))⟩ else ⟨[],Nd.kids t,boxL ((Nd.kids t).map (boxN n)),((Nd.kids t).map (numN n)).sum,Sha.sha (textK n (Nd.kids t))⟩
def parse(l:List UInt8):Option (NT 7):=match rdNode 6 true (l,[]) with
 |some (t,([],_))=>some (madeN 7 t)
 |_=>none
def shownN:(n:Nat)->NT n->Bool
 |0,t=>nomatch t
 |_+1,t=>decide (0< (Nd.pts t).length+(Nd.kids t).length)
def everyN(P:(n:Nat)->NT n->Bool):(n:Nat)->NT n->Bool
 |0,t=>nomatch t
 |n+1,t=>(Nd.kids t).all fun c=>P n c&&everyN P n c
def boxEq(a b:Box):Bool:=decide (a.a=b.a/\a.b=b.b/\a.c=b.c/\a.d=b.d)
def boxHolds(n:Nat)(c:NT n):Bool:= !shownN n c||(boxEq (boxN n c) (boxN n (madeN n c))&&decide (numN n c=numN n (madeN n c)))
def digHolds(n:Nat)(c:NT n):Bool:= !shownN n c||decide (digN n c=digN n (madeN n c))
def lackN(q:Qr)(a:List Pt)(n:Nat)(c:NT n):Bool:=shownN n c|| !must q a (boxN n c)
def wasteN(q:Qr)(a:List Pt)(n:Nat)(c:NT n):Bool:= !shownN n c||must q a (boxN n c)
def verify(root:List UInt8)(count:Int)(q:Qr)(s:List UInt8):List Pt×Int:=
 if mayBe q=false then ([],6) else match parse s with
 |none=>([],7)
 |some t=>
  if everyN boxHolds 7 t=false then ([],8)
  else if everyN digHolds 7 t=false\/¬(digN 7 t=root/\numN 7 t=count) then ([],9)
  else if everyN (lackN q (ans q (allN 7 t))) 7 t=false then ([],10)
  else if everyN (wasteN q (ans q (allN 7 t))) 7 t=false then ([],11)
  else (ans q (allN 7 t),0)
end Wd
end Go.Proofs.YtenaelkbgkpllaaGreatDoor
