/- Part 41 of what the four laws rest on: laid by a program out of the texts of wip/T. -/
import Derived.Test.YtenaelkbgkpllaaGreatDoorLaw37
set_option maxRecDepth 100000
set_option maxHeartbeats 8000000
namespace Go.Proofs.YtenaelkbgkpllaaGreatDoor
namespace Wd
structure Chd where
 box:Box
 n:Int
 dig:List UInt8
 shown:Bool
 rbox:Box
 rn:Int
 rtext:List UInt8
def textM:(n:Nat)->NT n->List UInt8
 |0,t=>nomatch t
 |n+1,t=>if (Nd.kids t).length=0 then leafText (Nd.pts t) else textK n (Nd.kids t)
theorem madeT_dig:∀(n:Nat) (t:NT n),digN n (madeN n t)=Sha.sha (textM n t)
 |0,t=>nomatch t
 |n+1,t=>by
  show Nd.dig (madeN (n+1) t)=Sha.sha (textM (n+1) t);by_cases h:(Nd.kids t).length=0
  ·rw[madeN,textM,if_pos h,if_pos h]
  ·rw[madeN,textM,if_neg h,if_neg h]
def chd(n:Nat)(c:NT n):Chd:=⟨boxN n c,numN n c,digN n c,shownN n c,if shownN n c then boxN n (madeN n c) else ⟨0,0,0,0⟩,if shownN n c then numN n (madeN n c) else 0,if shownN n c then textM n c else []⟩
def post:(n:Nat)->NT n->List Chd
 |0,t=>nomatch t
 |n+1,t=>(Nd.kids t).flatMap fun c=>post n c++[chd n c]
theorem zf{P:(n:Nat)->NT n->Bool}{Q:Chd->Bool}(h:∀n c,P n c=Q (chd n c)):∀(n:Nat) (t:NT n),everyN P n t=(post n t).all Q
 |0,t=>nomatch t
 |n+1,t=>by
  show((Nd.kids t).all fun c=>P n c&&everyN P n c)=((Nd.kids t).flatMap fun c=>post n c++[chd n c]).all Q;induction Nd.kids t with
  |nil=>rfl
  |cons c l ih=>rw[List.all_cons,List.flatMap_cons,List.all_append,List.all_append,ih,zf h n c,h n c];simp only[List.all_cons,List.all_nil,Bool.and_true];cases Q (chd n c)<;>cases (post n c).all Q<;>rfl
def boxQ(c:Chd):Bool:= !c.shown||(boxEq c.rbox c.box&&decide (c.rn=c.n))
def digQ(c:Chd):Bool:= !c.shown||decide (Sha.sha c.rtext=c.dig)
def lackQ(m:Box->Bool)(c:Chd):Bool:=c.shown|| !m c.box
def wasteQ(m:Box->Bool)(c:Chd):Bool:= !c.shown||m c.box
theorem boxEq_comm(a b:Box):boxEq a b=boxEq b a:=by unfold boxEq;congr 1;apply propext;constructor<;>(rintro⟨h1,h2,h3,h4⟩;exact⟨h1.symm,h2.symm,h3.symm,h4.symm⟩)
theorem box_chd(n:Nat)(c:NT n):boxHolds n c=boxQ (chd n c):=by
 unfold boxHolds boxQ chd;simp only;cases h:shownN n c with
 |false=>rfl
 |true=>simp only[if_true,Bool.not_true,Bool.false_or];rw[boxEq_comm];congr 2;exact propext ⟨Eq.symm,Eq.symm⟩
theorem dig_chd(n:Nat)(c:NT n):digHolds n c=digQ (chd n c):=by
 unfold digHolds digQ chd;simp only;cases h:shownN n c with
 |false=>rfl
 |true=>simp only[if_true,Bool.not_true,Bool.false_or];rw[madeT_dig];congr 1;exact propext ⟨Eq.symm,Eq.symm⟩
theorem lack_chd(q:Qr)(a:List Pt)(n:Nat)(c:NT n):lackN q a n c=lackQ (must q a) (chd n c):=rfl
theorem waste_chd(q:Qr)(a:List Pt)(n:Nat)(c:NT n):wasteN q a n c=wasteQ (must q a) (chd n c):=rfl
def code(m:Box->Bool)(c:Chd):Nat:=if c.shown&& !(boxEq c.rbox c.box&&decide (c.rn=c.n)) then 1 else if c.shown&& !decide (Sha.sha c.rtext=c.dig) then 2 else if !c.shown&&m c.box then 3 else if c.shown&& !m c.box then 4 else 0
def least(w n:Nat):Nat:=if 0<n/\(w=0\/n<w) then n else w
def worst(m:Box->Bool)(l:List Chd):Nat:=l.foldl (fun w c=>least w (code m c)) 0
theorem worst_snoc(m:Box->Bool)(l:List Chd)(c:Chd):worst m (l++[c])=least (worst m l) (code m c):=by unfold worst;rw[List.foldl_append];rfl
theorem code_le(m:Box->Bool)(c:Chd):code m c<=4:=by
 unfold code;split
 ·omega
 split
 ·omega
 split
 ·omega
 split<;>omega
structure Worst(m:Box->Bool)(l:List Chd)(w:Nat):Prop where
 le:w<=4
 of:0<w->∃c∈l,code m c=w
 all:∀c∈l,code m c=0\/(0<w/\w<=code m c)
theorem worst_is(m:Box->Bool)(l:List Chd):Worst m l (worst m l):=by
 have key:∀(k l:List Chd),l=k.reverse->Worst m l (worst m l):=by
  intro k;induction k with
  |nil=>rintro _ rfl;exact⟨Nat.zero_le _,fun h=>absurd h (Nat.lt_irrefl 0),fun c hc=>by simp at hc⟩
  |cons c k ih=>
   rintro _ rfl;have h:=ih k.reverse rfl;rw[List.reverse_cons,worst_snoc];have hc:=code_le m c;have hle:=h.le;generalize hw:worst m k.reverse=w at*;unfold least;split
   ·rename_i h1;refine⟨hc,fun _=>⟨c,by simp,rfl⟩,fun e he=>?_⟩;rcases List.mem_append.1 he with he|he
    ·rcases h.all e he with h2|h2
     ·exact Or.inl h2
     ·exact Or.inr ⟨h1.1,by omega⟩
    ·rw[List.mem_singleton.1 he];exact Or.inr ⟨h1.1,Nat.le_refl _⟩
   ·rename_i h1;refine⟨hle,fun h0=>?_,fun e he=>?_⟩
    ·obtain⟨e,he,h3⟩:=h.of h0;exact⟨e,List.mem_append_left _ he,h3⟩
    ·rcases List.mem_append.1 he with he|he
     ·exact h.all e he
     ·rw[List.mem_singleton.1 he];omega
 exact key l.reverse l (by simp)
theorem code_one{m:Box->Bool}{c:Chd}:code m c=1↔boxQ c=false:=by unfold code boxQ;cases c.shown<;>cases (boxEq c.rbox c.box&&decide (c.rn=c.n))<;>cases m c.box<;>cases decide (Sha.sha c.rtext=c.dig)<;>decide
theorem code_two{m:Box->Bool}{c:Chd}:(code m c=1\/code m c=2)↔(boxQ c=false\/digQ c=false):=by unfold code boxQ digQ;cases c.shown<;>cases (boxEq c.rbox c.box&&decide (c.rn=c.n))<;>cases m c.box<;>cases decide (Sha.sha c.rtext=c.dig)<;>decide
theorem Ga{m:Box->Bool}{c:Chd}(h1:boxQ c=true)(h2:digQ c=true):(code m c=3↔lackQ m c=false)/\(code m c=4↔wasteQ m c=false):=by
 unfold code lackQ wasteQ;unfold boxQ at h1;unfold digQ at h2;cases hs:c.shown with
 |false=>cases m c.box<;>simp
 |true=>rw[hs] at h1 h2;simp only[Bool.not_true,Bool.false_or] at h1 h2;rw[h1,h2];cases m c.box<;>simp
theorem zE{l:List Chd}{Q:Chd->Bool}:l.all Q=false↔∃c∈l,Q c=false:=by
 rw[List.all_eq_false];constructor
 ·rintro⟨c,hc,h⟩;exact⟨c,hc,by simpa using h⟩
 ·rintro⟨c,hc,h⟩;exact⟨c,hc,by simp[h]⟩
def verdict(root:List UInt8)(count:Int)(m:Box->Bool)(a:List Pt)(l:List Chd)(t:List UInt8)(n:Int):List Pt×Int:=
 let w:=if worst m l≠1/\¬(Sha.sha t=root/\n=count) then 2 else worst m l
 if w=1 then ([],8) else if w=2 then ([],9) else if w=3 then ([],10) else if w=4 then ([],11) else (a,0)
theorem verdict_is(root:List UInt8)(count:Int)(q:Qr)(t:NT 7)(x:NT 7)(hp:post 7 t=post 7 x)(hd:digN 7 t=Sha.sha (textM 7 x)):
  verdict root count (must q (ans q (allN 7 t))) (ans q (allN 7 t)) (post 7 x) (textM 7 x) (numN 7 t)=(if everyN boxHolds 7 t=false then ([],8)
  else if everyN digHolds 7 t=false\/¬(digN 7 t=root/\numN 7 t=count) then ([],9)
  else if everyN (lackN q (ans q (allN 7 t))) 7 t=false then ([],10)
  else if everyN (wasteN q (ans q (allN 7 t))) 7 t=false then ([],11)
  else (ans q (allN 7 t),0)):=by
 rw[zf box_chd,zf dig_chd,zf (lack_chd q _),zf (waste_chd q _),hp];generalize ans q (allN 7 t)=a;generalize must q a=m;generalize post 7 x=l;have hw:=worst_is m l;unfold verdict;rw[<-hd];generalize worst m l=w at hw;have hle:=hw.le;by_cases h1:l.all boxQ=false
 ·rw[if_pos h1];obtain⟨c,hc,hq⟩:=zE.1 h1;have h2:=code_one (m:=m).2 hq;have e:w=1:=by
   have:=hw.all c hc;omega
  subst e;simp
 ·rw[if_neg h1];have h1':∀c∈l,boxQ c=true:=fun c hc=>by
   cases h:boxQ c with
   |true=>rfl
   |false=>exact absurd (zE.2 ⟨c,hc,h⟩) h1
  have hw1:w≠1:=fun e=>by obtain⟨c,hc,h⟩:=hw.of (by omega);rw[e] at h;have:=code_one.1 h;rw[h1' c hc] at this;cases this
  by_cases h2:l.all digQ=false
  ·rw[if_pos (Or.inl h2)];obtain⟨c,hc,hq⟩:=zE.1 h2;have e:w=2:=by
    have h3:=code_two (m:=m).2 (Or.inr hq:boxQ c=false\/digQ c=false);have:=hw.all c hc;omega
   subst e;simp
  ·by_cases h3:digN 7 t=root/\numN 7 t=count
   ·rw[if_neg (show ¬(l.all digQ=false\/¬(digN 7 t=root/\numN 7 t=count)) from fun h=>h.elim h2 (fun h=>h h3))];have h2':∀c∈l,digQ c=true:=fun c hc=>by
     cases h:digQ c with
     |true=>rfl
     |false=>exact absurd (zE.2 ⟨c,hc,h⟩) h2
    have hw2:w≠2:=fun e=>by
     obtain⟨c,hc,h⟩:=hw.of (by omega);rw[e] at h;rcases code_two.1 (Or.inr h) with h|h
     ·rw[h1' c hc] at h;cases h
     ·rw[h2' c hc] at h;cases h
    have hn:¬(w≠1/\¬(digN 7 t=root/\numN 7 t=count)):=fun h=>h.2 h3;simp only[if_neg hn,if_neg hw1,if_neg hw2];by_cases h4:l.all (lackQ m)=false
    ·rw[if_pos h4];obtain⟨c,hc,hq⟩:=zE.1 h4;have h5:=(Ga (m:=m) (h1' c hc) (h2' c hc)).1.2 hq;have e:w=3:=by
      have:=hw.all c hc;omega
     rw[if_pos e]
    ·rw[if_neg h4];have hw3:w≠3:=fun e=>by
      obtain⟨c,hc,h⟩:=hw.of (by omega);rw[e] at h;exact h4 (zE.2 ⟨c,hc,(Ga (m:=m) (h1' c hc) (h2' c hc)).1.1 h⟩)
     rw[if_neg hw3];by_cases h5:l.all (wasteQ m)=false
     ·rw[if_pos h5];obtain⟨c,hc,hq⟩:=zE.1 h5;have h6:=(Ga (m:=m) (h1' c hc) (h2' c hc)).2.2 hq;have e:w=4:=by
       have:=hw.all c hc;omega
      rw[if_pos e]
     ·rw[if_neg h5];have hw4:w≠4:=fun e=>by
       obtain⟨c,hc,h⟩:=hw.of (by omega);rw[e] at h;exact h5 (zE.2 ⟨c,hc,(Ga (m:=m) (h1' c hc) (h2' c hc)).2.1 h⟩)
      rw[if_neg hw4]
   ·rw[if_pos (Or.inr h3)];simp only[if_pos (show w≠1/\¬(digN 7 t=root/\numN 7 t=count) from⟨hw1,h3⟩)];simp
def ptAt(b:List UInt8)(k:Nat):Pt:=⟨numAt b (3*k),numAt b (3*k+1),numAt b (3*k+2)⟩
def ptsAt(b:List UInt8)(n:Nat):List Pt:=(List.range n).map (ptAt b)
theorem numAt_skip(b:List UInt8)(k j:Nat):numAt (b.drop (4*j)) k=numAt b (j+k):=by rw[numAt_drop,List.drop_drop,numAt_drop b,show 4*j+4*k=4*(j+k) by omega]
theorem ptsAt_cons(b:List UInt8)(n:Nat):ptsAt b (n+1)=ptAt b 0::ptsAt (b.drop 12) n:=by unfold ptsAt;rw[List.range_succ_eq_map,List.map_cons,List.map_map];refine congrArg (List.cons (ptAt b 0)) (List.map_congr_left fun k _=>?_);have h:=fun j=>numAt_skip b j 3;have h0:numAt (b.drop 12) (3*k)=numAt b (3*(k+1)):=(h (3*k)).trans (congrArg _ (by omega));have h1:numAt (b.drop 12) (3*k+1)=numAt b (3*(k+1)+1):=(h (3*k+1)).trans (congrArg _ (by omega));have h2:numAt (b.drop 12) (3*k+2)=numAt b (3*(k+1)+2):=(h (3*k+2)).trans (congrArg _ (by omega));show(⟨numAt b (3*(k+1)),numAt b (3*(k+1)+1),numAt b (3*(k+1)+2)⟩:Pt)=⟨numAt (b.drop 12) (3*k),numAt (b.drop 12) (3*k+1),numAt (b.drop 12) (3*k+2)⟩;rw[h0,h1,h2]
def freshAll:List Int->List Pt->Bool
 |_,[]=>true
 |ids,p::l=> !ids.contains p.id&&freshAll (p.id::ids) l
def ptOk(p:Pt):Bool:=idOk p.id&&coordOk p.x&&coordOk p.y
theorem rdPts:∀(n:Nat) (b:List UInt8) (ids:List Int),rdMany rdPt n (b,ids)=if 12*n<=b.length/\(ptsAt b n).all ptOk=true/\freshAll ids (ptsAt b n)=true then some (ptsAt b n,(b.drop (12*n),((ptsAt b n).map Pt.id).reverse++ids)) else none
 |0,b,ids=>by simp[rdMany,ptsAt,freshAll]
 |n+1,b,ids=>by
  rw[ptsAt_cons,rdMany];have e0:ptAt b 0=⟨numAt b 0,numAt b 1,numAt b 2⟩:=rfl;by_cases hl:b.length<12
  ·(have h1:rdPt (b,ids)=none:=by unfold rdPt;rw[if_pos hl]);rw[h1,if_neg (fun h=>by have:=h.1;omega)]
  ·by_cases hp:(idOk (ptAt b 0).id&& !(ids.contains (ptAt b 0).id)&&coordOk (ptAt b 0).x&&coordOk (ptAt b 0).y)=true
   ·have h1:rdPt (b,ids)=some (ptAt b 0,(b.drop 12,(ptAt b 0).id::ids)):=by
     unfold rdPt;rw[if_neg hl];exact if_pos hp
    rw[h1];simp only;rw[rdPts n];simp only[Bool.and_eq_true] at hp;(have hok:ptOk (ptAt b 0)=true:=by unfold ptOk;rw[hp.1.1.1,hp.1.2,hp.2];rfl);have hc:(12*n<=(b.drop 12).length/\(ptsAt (b.drop 12) n).all ptOk=true/\freshAll ((ptAt b 0).id::ids) (ptsAt (b.drop 12) n)=true)↔(12*(n+1)<=b.length/\(ptAt b 0::ptsAt (b.drop 12) n).all ptOk=true/\freshAll ids (ptAt b 0::ptsAt (b.drop 12) n)=true):=by
     rw[List.all_cons,hok,freshAll,hp.1.1.2,List.length_drop];simp only[Bool.true_and];constructor
     ·rintro⟨h1,h2,h3⟩;exact⟨by omega,h2,h3⟩
     ·rintro⟨h1,h2,h3⟩;exact⟨by omega,h2,h3⟩
    by_cases h:12*n<=(b.drop 12).length/\(ptsAt (b.drop 12) n).all ptOk=true/\freshAll ((ptAt b 0).id::ids) (ptsAt (b.drop 12) n)=true
    ·rw[if_pos h,if_pos (hc.1 h)];simp only[List.drop_drop,List.map_cons,List.reverse_cons,List.append_assoc,List.singleton_append];rw[show 12+12*n=12*(n+1) by omega]
    ·rw[if_neg h,if_neg (fun k=>h (hc.2 k))]
   ·have h1:rdPt (b,ids)=none:=by
     unfold rdPt;rw[if_neg hl];exact if_neg hp
    rw[h1,if_neg];rintro⟨_,h2,h3⟩;rw[List.all_cons,Bool.and_eq_true] at h2;rw[freshAll,Bool.and_eq_true] at h3;have h4:=h2.1;unfold ptOk at h4;simp only[Bool.and_eq_true] at h4;apply hp;rw[h4.1.1,h3.1,h4.1.2,h4.2];rfl
theorem rdNode_short{d:Nat}{root:Bool}{s:Sta}(h:s.1.length<2):rdNode d root s=none:=by
 cases d with
 |zero=>rfl
 |succ d=>rw[rdNode,if_pos h]
theorem rdNode_bad{d:Nat}{root:Bool}{s:Sta}(h:2<=s.1.length)(hb:4< (s.1.getD 1 0).toNat\/(s.1.getD 0 0≠1/\s.1.getD 0 0≠2)\/((s.1.getD 1 0).toNat=0/\(s.1.getD 0 0=2\/root=false))):rdNode (d+1) root s=none:=by
 rw[rdNode,if_neg (by omega)];by_cases h4:4< (s.1.getD 1 0).toNat
 ·simp only[h4,if_true]
 ·simp only[h4,if_false];rcases hb with hb| ⟨h1,h2⟩| ⟨h0,h3⟩
  ·exact absurd hb h4
  ·rw[if_neg (fun e=>h1 e.1),if_neg (fun e=>h2 e.1)]
  ·rw[if_neg,if_neg (fun e=>by omega)];rintro⟨e1,e2⟩;rcases e2 with e2|e2
   ·omega
   ·rcases h3 with h3|h3
    ·rw[e1] at h3;exact absurd h3 (by decide)
    ·rw[e2] at h3;cases h3
theorem rdNode_leaf{d:Nat}{root:Bool}{s:Sta}(h:2<=s.1.length)(h4:(s.1.getD 1 0).toNat<=4)(hm:s.1.getD 0 0=1)(hr:0< (s.1.getD 1 0).toNat\/root=true):
  rdNode (d+1) root s=match rdMany rdPt (s.1.getD 1 0).toNat (s.1.drop 2,s.2) with
   |none=>none
   |some (l,s'')=>some ({bareN (d+1) with pts:=l},s''):=by
 rw[rdNode,if_neg (by omega)];simp only[show ¬4< (s.1.getD 1 0).toNat by omega,if_false];rw[if_pos ⟨hm,hr⟩];generalize rdMany rdPt _ _=r;rcases r with _| ⟨l,s'⟩<;>rfl
theorem rdNode_node{d:Nat}{root:Bool}{s:Sta}(h:2<=s.1.length)(h4:(s.1.getD 1 0).toNat<=4)(hm:s.1.getD 0 0=2)(h0:0< (s.1.getD 1 0).toNat):
  rdNode (d+1) root s=match rdMany (rdKid d (rdNode d false)) (s.1.getD 1 0).toNat (s.1.drop 2,s.2) with
   |none=>none
   |some (l,s'')=>some ({bareN (d+1) with kids:=l},s''):=by
 rw[rdNode,if_neg (by omega)];simp only[show ¬4< (s.1.getD 1 0).toNat by omega,if_false];rw[if_neg (fun e=>by rw[hm] at e;exact absurd e.1 (by decide)),if_pos ⟨hm,h0⟩];generalize rdMany _ _ _=r;rcases r with _| ⟨l,s'⟩<;>rfl
theorem rdKid_bad{n:Nat}{below:Sta->Option (NT (n+1)×Sta)}{s:Sta}(h:53<=s.1.length)(hb:(boxMay (Nd.box (headN n s.1))&&decide (1<=Nd.n (headN n s.1))&&decide (Nd.n (headN n s.1)<=150))=false\/1< (s.1.getD 52 0).toNat):rdKid n below s=none:=by
 rw[rdKid,if_neg (by omega)];rcases hb with hb|hb
 ·simp only[hb];rfl
 ·have h0:¬s.1.getD 52 0=0:=fun e=>by rw[e] at hb;exact absurd hb (by decide)
  have h1:¬s.1.getD 52 0=1:=fun e=>by rw[e] at hb;exact absurd hb (by decide)
  simp only[h0,h1,if_false];split<;>rfl
theorem rdKid_hidden{n:Nat}{below:Sta->Option (NT (n+1)×Sta)}{s:Sta}(h:53<=s.1.length)(hg:(boxMay (Nd.box (headN n s.1))&&decide (1<=Nd.n (headN n s.1))&&decide (Nd.n (headN n s.1)<=150))=true)(h0:s.1.getD 52 0=0):rdKid n below s=some (headN n s.1,(s.1.drop 53,s.2)):=by rw[rdKid,if_neg (by omega)];simp only[hg,h0,if_true]
theorem rdKid_shown{n:Nat}{below:Sta->Option (NT (n+1)×Sta)}{s:Sta}(h:53<=s.1.length)(hg:(boxMay (Nd.box (headN n s.1))&&decide (1<=Nd.n (headN n s.1))&&decide (Nd.n (headN n s.1)<=150))=true)(h1:s.1.getD 52 0=1):
  rdKid n below s=match below (s.1.drop 53,s.2) with
   |none=>none
   |some (b,s')=>some ({headN n s.1 with pts:=Nd.pts b,kids:=Nd.kids b},s'):=by
 rw[rdKid,if_neg (by omega)];have h0:¬s.1.getD 52 0=0:=by rw[h1];decide
 simp only[hg,if_true];rw[if_neg h0,if_pos h1];generalize below _=r;rcases r with _| ⟨b,s'⟩<;>rfl
theorem rdKid_short{n:Nat}{below:Sta->Option (NT (n+1)×Sta)}{s:Sta}(h:s.1.length<53):rdKid n below s=none:=by rw[rdKid,if_pos h]
theorem fresh_snoc:∀(l:List Pt) (ids:List Int) (p:Pt),freshAll ids (l++[p])=(freshAll ids l&& !(((l.map Pt.id).reverse++ids).contains p.id))
 | [],ids,p=>by simp[freshAll]
 |x::l,ids,p=>by rw[List.cons_append,freshAll,freshAll,fresh_snoc l (x.id::ids) p,Bool.and_assoc];congr 2;rw[List.map_cons,List.reverse_cons,List.append_assoc,List.singleton_append]
theorem ids_mem(L:List Pt)(n:Int):((L.map Pt.id).reverse).contains n=true↔∃k,∃h:k<L.length,L[k].id=n:=by
 simp only[List.contains_iff_mem,List.mem_reverse,List.mem_map];constructor
 ·rintro⟨p,hp,e⟩;obtain⟨k,hk,ek⟩:=List.getElem_of_mem hp;exact⟨k,hk,by rw[ek];exact e⟩
 ·rintro⟨k,hk,e⟩;exact⟨L[k],List.getElem_mem hk,e⟩
def room:Nat->Nat
 |0=>4
 |d+1=>4*(1+room d)
theorem chd_hidden(n:Nat)(l:List UInt8):chd (n+1) (headN n l)=⟨⟨numAt l 0,numAt l 1,numAt l 2,numAt l 3⟩,numAt l 4,(l.drop 20).take 32,false,⟨0,0,0,0⟩,0,[]⟩:=by unfold chd;rw[shown_no (c:=headN n l) rfl rfl];rfl
theorem post_hidden(n:Nat)(l:List UInt8):post (n+1) (headN n l)=[]:=rfl
theorem all_head(n:Nat)(l:List UInt8):allN (n+1) (headN n l)=[]:=rfl
def withN(n:Nat)(H b:NT (n+1)):NT (n+1):={H with pts:=Nd.pts b,kids:=Nd.kids b}
theorem with_pts(n:Nat)(H b:NT (n+1)):Nd.pts (withN n H b)=Nd.pts b:=rfl
theorem zy(n:Nat)(H b:NT (n+1)):Nd.kids (withN n H b)=Nd.kids b:=rfl
theorem with_said(n:Nat)(H b:NT (n+1)):Nd.box (withN n H b)=Nd.box H/\Nd.n (withN n H b)=Nd.n H/\Nd.dig (withN n H b)=Nd.dig H:=⟨rfl,rfl,rfl⟩
theorem textM_of{n:Nat}{b c:NT (n+1)}(h1:Nd.pts b=Nd.pts c)(h2:Nd.kids b=Nd.kids c):textM (n+1) b=textM (n+1) c:=by show(if (Nd.kids b).length=0 then leafText (Nd.pts b) else textK n (Nd.kids b))=(if (Nd.kids c).length=0 then leafText (Nd.pts c) else textK n (Nd.kids c));rw[h1,h2]
theorem boxN_s(n:Nat)(t:NT (n+1)):boxN (n+1) t=Nd.box t:=rfl
theorem numN_s(n:Nat)(t:NT (n+1)):numN (n+1) t=Nd.n t:=rfl
theorem digN_s(n:Nat)(t:NT (n+1)):digN (n+1) t=Nd.dig t:=rfl
theorem chd_with{d:Nat}{s s':Sta}{b:NT (d+1)}(h:rdNode d false s=some (b,s'))(H:NT (d+1)):chd (d+1) (withN d H b)=⟨Nd.box H,Nd.n H,Nd.dig H,true,Nd.box (madeN (d+1) b),Nd.n (madeN (d+1) b),textM (d+1) b⟩:=by
 have hs:shownN (d+1) (withN d H b)=true:=by rw[shown_of (b:=withN d H b) (c:=b) (with_pts d H b) (zy d H b)];exact GY (zL d false s b s' h).1.1
 unfold chd;simp only[hs,if_true,made_of (b:=withN d H b) (c:=b) (with_pts d H b) (zy d H b),textM_of (b:=withN d H b) (c:=b) (with_pts d H b) (zy d H b),boxN_s,numN_s,digN_s,with_said]
theorem headN_said(n:Nat)(l:List UInt8):Nd.box (headN n l)=⟨numAt l 0,numAt l 1,numAt l 2,numAt l 3⟩/\Nd.n (headN n l)=numAt l 4/\Nd.dig (headN n l)=(l.drop 20).take 32:=⟨rfl,rfl,rfl⟩
theorem chd_shown{d:Nat}{s s':Sta}{b:NT (d+1)}(h:rdNode d false s=some (b,s'))(l:List UInt8):chd (d+1) (withN d (headN d l) b)=⟨⟨numAt l 0,numAt l 1,numAt l 2,numAt l 3⟩,numAt l 4,(l.drop 20).take 32,true,Nd.box (madeN (d+1) b),Nd.n (madeN (d+1) b),textM (d+1) b⟩:=by rw[chd_with h];simp only[headN_said]
theorem post_of{n:Nat}{b c:NT (n+1)}(h2:Nd.kids b=Nd.kids c):post (n+1) b=post (n+1) c:=by show((Nd.kids b).flatMap fun c=>post n c++[chd n c])=((Nd.kids c).flatMap fun c=>post n c++[chd n c]);rw[h2]
theorem post_with(n:Nat)(H b:NT (n+1)):post (n+1) (withN n H b)=post (n+1) b:=post_of (zy n H b)
theorem all_with(n:Nat)(H b:NT (n+1)):allN (n+1) (withN n H b)=allN (n+1) b:=all_of (with_pts n H b) (zy n H b)
theorem rdKid_with{n:Nat}{below:Sta->Option (NT (n+1)×Sta)}{s s':Sta}{b:NT (n+1)}(h:53<=s.1.length)(hg:(boxMay (Nd.box (headN n s.1))&&decide (1<=Nd.n (headN n s.1))&&decide (Nd.n (headN n s.1)<=150))=true)(h1:s.1.getD 52 0=1)(hb:below (s.1.drop 53,s.2)=some (b,s')):rdKid n below s=some (withN n (headN n s.1) b,s'):=by rw[rdKid_shown h hg h1,hb];generalize headN n s.1=H;rfl
theorem nodeN_made{n:Nat}{cs:List (NT (n+1))}(h:0<cs.length):Nd.box (madeN (n+2) ({bareN (n+1) with kids:=cs}:NT (n+2)))=boxL (cs.map (boxN (n+1)))/\Nd.n (madeN (n+2) ({bareN (n+1) with kids:=cs}:NT (n+2)))=(cs.map (numN (n+1))).sum/\textM (n+2) ({bareN (n+1) with kids:=cs}:NT (n+2))=textK (n+1) cs:=by
 have h0:¬(Nd.kids ({bareN (n+1) with kids:=cs}:NT (n+2))).length=0:=by show ¬cs.length=0;omega
 rw[zQ h0];refine⟨rfl,rfl,?_⟩;rw[textM,if_neg h0]
theorem leafN_made{n:Nat}{l:List Pt}:Nd.box (madeN (n+1) ({bareN n with pts:=l}:NT (n+1)))=boxL (l.map boxOf)/\Nd.n (madeN (n+1) ({bareN n with pts:=l}:NT (n+1)))=(l.length:Nat)/\textM (n+1) ({bareN n with pts:=l}:NT (n+1))=leafText l:=by have h0:(Nd.kids ({bareN n with pts:=l}:NT (n+1))).length=0:=rfl;rw[zY h0];refine⟨rfl,rfl,?_⟩;rw[textM,if_pos h0]
theorem leafN_post{n:Nat}{l:List Pt}:post (n+1) ({bareN n with pts:=l}:NT (n+1))=[]:=rfl
theorem leafN_all{n:Nat}{l:List Pt}:allN (n+1) ({bareN n with pts:=l}:NT (n+1))=l:=List.append_nil l
theorem ids_more(L M:List Pt):((L++M).map Pt.id).reverse=(M.map Pt.id).reverse++(L.map Pt.id).reverse:=by rw[List.map_append,List.reverse_append]
def at'(s:List UInt8)(i:Nat)(L:List Pt):Sta:=(s.drop i,(L.map Pt.id).reverse)
structure PartGood(d:Nat)(root:Bool)(s:List UInt8)(i:Nat)(L:List Pt)(K:List Chd)(t:NT (d+1))(i':Nat)(L':List Pt)(K':List Chd)(b:Box)(n:Int)(x:List UInt8):Prop where
 rd:rdNode d root (at' s i L)=some (t,at' s i' L')
 pts:L'=L++allN (d+1) t
 kids:K'=K++post (d+1) t
 box:b=Nd.box (madeN (d+1) t)
 num:n=Nd.n (madeN (d+1) t)
 text:x=textM (d+1) t
structure KidGood(d:Nat)(s:List UInt8)(i:Nat)(L:List Pt)(K:List Chd)(t:NT (d+1))(i':Nat)(L':List Pt)(K':List Chd)(c:Chd):Prop where
 rd:rdKid d (rdNode d false) (at' s i L)=some (t,at' s i' L')
 pts:L'=L++allN (d+1) t
 kids:K'=K++(post (d+1) t++[chd (d+1) t])
 is:c=chd (d+1) t
theorem boxL_snoc{l:List Box}(h:l≠[])(b:Box):boxL (l++[b])=join (boxL l) b:=by
 cases l with
 |nil=>exact absurd rfl h
 |cons a l=>simp[boxL,List.foldl_append]
structure KidsGood(d m:Nat)(s:List UInt8)(i0:Nat)(L0:List Pt)(K0:List Chd)(k:Nat)(cs:List (NT (d+1)))(i:Nat)(L:List Pt)(K:List Chd)(b:Box)(n:Int)(x:List UInt8):Prop where
 half:Half (rdKid d (rdNode d false)) m (at' s i0 L0) k cs (at' s i L)
 pts:L=L0++cs.flatMap (allN (d+1))
 kids:K=K0++cs.flatMap fun c=>post (d+1) c++[chd (d+1) c]
 box:b=boxL (cs.map (boxN (d+1)))
 num:n=(cs.map (numN (d+1))).sum
 text:x=2::UInt8.ofNat m::cs.flatMap (saidN (d+1))
theorem KidsGood.start(d m:Nat)(s:List UInt8)(i:Nat)(L:List Pt)(K:List Chd):KidsGood d m s i L K 0 [] i L K ⟨0,0,0,0⟩ 0 [2,UInt8.ofNat m]:=⟨half_start _ _ _,by simp,by simp,rfl,rfl,rfl⟩
theorem KidsGood.step{d m:Nat}{s:List UInt8}{i0:Nat}{L0:List Pt}{K0:List Chd}{k:Nat}{cs:List (NT (d+1))}{i:Nat}{L:List Pt}{K:List Chd}{b:Box}{n:Int}{x:List UInt8}{t:NT (d+1)}{i':Nat}{L':List Pt}{K':List Chd}{c:Chd}
  (h:KidsGood d m s i0 L0 K0 k cs i L K b n x) (hk:k<m) (g:KidGood d s i L K t i' L' K' c):
  KidsGood d m s i0 L0 K0 (k+1) (cs++[t]) i' L' K' (if k=0 then join c.box c.box else join b c.box) (n+c.n) (x++(boxText c.box++fourI c.n++c.dig)):=by
 have ec:=g.is;refine⟨half_step h.half hk g.rd,?_,?_,?_,?_,?_⟩
 ·rw[g.pts,h.pts];simp
 ·rw[g.kids,h.kids];simp
 ·rw[ec,List.map_append,List.map_singleton];have hl:cs.length=k:=h.half.1;by_cases h0:k=0
  ·rw[if_pos h0];have:cs=[]:=List.eq_nil_of_length_eq_zero (by omega);rw[this];rfl
  ·rw[if_neg h0,boxL_snoc (fun e=>by
    have:=congrArg List.length e;simp at this;rw[this] at hl;exact h0 hl.symm),h.box]
   rfl
 ·rw[ec,List.map_append,List.map_singleton,List.sum_append,h.num];simp[chd]
 ·rw[ec,h.text,List.flatMap_append];simp[saidN,chd]
theorem KidsGood.none{d m:Nat}{s:List UInt8}{i0:Nat}{L0:List Pt}{K0:List Chd}{k:Nat}{cs:List (NT (d+1))}{i:Nat}{L:List Pt}{K:List Chd}{b:Box}{n:Int}{x:List UInt8}(h:KidsGood d m s i0 L0 K0 k cs i L K b n x)(hk:k<m)(g:rdKid d (rdNode d false) (at' s i L)=none):rdMany (rdKid d (rdNode d false)) m (at' s i0 L0)=none:=half_none h.half hk g
theorem KidsGood.node{d m:Nat}{root:Bool}{s:List UInt8}{i0:Nat}{L0:List Pt}{K0:List Chd}{cs:List (NT (d+1))}{i:Nat}{L:List Pt}{K:List Chd}{b:Box}{n:Int}{x:List UInt8}
  (h:KidsGood d m s (i0+2) L0 K0 m cs i L K b n x) (h2:i0+2<=s.length) (h4:m<=4) (h0:0<m) (hm:(s.drop i0).getD 0 0=2) (hc:((s.drop i0).getD 1 0).toNat=m):
  PartGood (d+1) root s i0 L0 K0 ({bareN (d+1) with kids:=cs}:NT (d+2)) i L K b n x:=by
 have e:=rdNode_node (d:=d) (root:=root) (s:=at' s i0 L0) (by show 2<=(s.drop i0).length;rw[List.length_drop];omega) (by show((s.drop i0).getD 1 0).toNat<=4;omega) hm (by show 0< ((s.drop i0).getD 1 0).toNat;omega);have e2:((at' s i0 L0).1.drop 2,(at' s i0 L0).2)=at' s (i0+2) L0:=by show((s.drop i0).drop 2,(L0.map Pt.id).reverse)=(s.drop (i0+2),(L0.map Pt.id).reverse);rw[List.drop_drop]
 rw[e2,show((at' s i0 L0).1.getD 1 0).toNat=m from hc,half_end h.half] at e;have hl:cs.length=m:=h.half.1;obtain⟨n1,n2,n3⟩:=nodeN_made (n:=d) (cs:=cs) (by omega);refine⟨e,h.pts,h.kids,?_,?_,?_⟩
 ·rw[n1,h.box]
 ·rw[n2,h.num]
 ·rw[n3,h.text,textK,hl]
theorem node_none{d m:Nat}{root:Bool}{s:List UInt8}{i0:Nat}{L0:List Pt}(h:rdMany (rdKid d (rdNode d false)) m (at' s (i0+2) L0)=none)(h2:i0+2<=s.length)(h4:m<=4)(h0:0<m)(hm:(s.drop i0).getD 0 0=2)(hc:((s.drop i0).getD 1 0).toNat=m):
  rdNode (d+1) root (at' s i0 L0)=none:=by
 have e:=rdNode_node (d:=d) (root:=root) (s:=at' s i0 L0) (by show 2<=(s.drop i0).length;rw[List.length_drop];omega) (by show((s.drop i0).getD 1 0).toNat<=4;omega) hm (by show 0< ((s.drop i0).getD 1 0).toNat;omega);have e2:((at' s i0 L0).1.drop 2,(at' s i0 L0).2)=at' s (i0+2) L0:=by show((s.drop i0).drop 2,(L0.map Pt.id).reverse)=(s.drop (i0+2),(L0.map Pt.id).reverse);rw[List.drop_drop]
 rw[e2,show((at' s i0 L0).1.getD 1 0).toNat=m from hc,h] at e;exact e
def leafOk(s:List UInt8)(i m:Nat)(L:List Pt):Bool:=decide (i+12*m<=s.length)&&(ptsAt (s.drop i) m).all ptOk&&freshAll (L.map Pt.id).reverse (ptsAt (s.drop i) m)
theorem leaf_good{d m:Nat}{root:Bool}{s:List UInt8}{i0:Nat}{L0:List Pt}{K0:List Chd}(h:leafOk s (i0+2) m L0=true)(h2:i0+2<=s.length)(h4:m<=4)(h0:0<m\/root=true)(hm:(s.drop i0).getD 0 0=1)(hc:((s.drop i0).getD 1 0).toNat=m):
  PartGood (d+1) root s i0 L0 K0 ({bareN (d+1) with pts:=ptsAt (s.drop (i0+2)) m}:NT (d+2)) (i0+2+12*m) (L0++ptsAt (s.drop (i0+2)) m) K0 (boxL ((ptsAt (s.drop (i0+2)) m).map boxOf)) ((ptsAt (s.drop (i0+2)) m).length:Nat) (leafText (ptsAt (s.drop (i0+2)) m)):=by
 have e:=rdNode_leaf (d:=d) (root:=root) (s:=at' s i0 L0) (by show 2<=(s.drop i0).length;rw[List.length_drop];omega) (by show((s.drop i0).getD 1 0).toNat<=4;omega) hm (by show 0< ((s.drop i0).getD 1 0).toNat\/_;rw[hc];exact h0);simp only[leafOk,Bool.and_eq_true,decide_eq_true_eq] at h;obtain⟨⟨g1,g2⟩,g3⟩:=h;have e2:((at' s i0 L0).1.drop 2,(at' s i0 L0).2)=(s.drop (i0+2),(L0.map Pt.id).reverse):=by show((s.drop i0).drop 2,(L0.map Pt.id).reverse)=_;rw[List.drop_drop]
 rw[e2,show((at' s i0 L0).1.getD 1 0).toNat=m from hc,rdPts,if_pos ⟨by rw[List.length_drop];omega,g2,g3⟩] at e;simp only[List.drop_drop] at e;rw[<-ids_more,show(i0+2+12*m)=i0+2+12*m from rfl] at e;obtain⟨n1,n2,n3⟩:=leafN_made (n:=d+1) (l:=ptsAt (s.drop (i0+2)) m);exact⟨e,by rw[leafN_all],by rw[leafN_post,List.append_nil],n1.symm,n2.symm,n3.symm⟩
theorem leaf_none{d m:Nat}{root:Bool}{s:List UInt8}{i0:Nat}{L0:List Pt}(h:leafOk s (i0+2) m L0=false)(h2:i0+2<=s.length)(h4:m<=4)(h0:0<m\/root=true)(hm:(s.drop i0).getD 0 0=1)(hc:((s.drop i0).getD 1 0).toNat=m):
  rdNode (d+1) root (at' s i0 L0)=none:=by
 have e:=rdNode_leaf (d:=d) (root:=root) (s:=at' s i0 L0) (by show 2<=(s.drop i0).length;rw[List.length_drop];omega) (by show((s.drop i0).getD 1 0).toNat<=4;omega) hm (by show 0< ((s.drop i0).getD 1 0).toNat\/_;rw[hc];exact h0);have e2:((at' s i0 L0).1.drop 2,(at' s i0 L0).2)=(s.drop (i0+2),(L0.map Pt.id).reverse):=by show((s.drop i0).drop 2,(L0.map Pt.id).reverse)=_;rw[List.drop_drop]
 rw[e2,show((at' s i0 L0).1.getD 1 0).toNat=m from hc,rdPts,if_neg (fun g=>by obtain⟨g1,g2,g3⟩:=g;rw[List.length_drop] at g1;unfold leafOk at h;rw[g2,g3,decide_eq_true (show i0+2+12*m<=s.length by omega)] at h;cases h)] at e;exact e
theorem ptsAt_snoc(b:List UInt8)(n:Nat):ptsAt b (n+1)=ptsAt b n++[ptAt b n]:=by unfold ptsAt;rw[List.range_succ,List.map_append,List.map_singleton]
theorem ptsAt_len(b:List UInt8)(n:Nat):(ptsAt b n).length=n:=by simp[ptsAt]
theorem all_snoc(l:List Pt)(p:Pt):(l++[p]).all ptOk=(l.all ptOk&&ptOk p):=by simp
structure KOk(c:Chd):Prop where
 may:boxMay c.box=true
 dig:c.dig.length=32
 text:c.rtext.length<=250
theorem zq{α:Type}(f:α->List UInt8)(m:Nat):∀K:List α,(∀c∈K,(f c).length<=m)->(K.flatMap f).length<=m*K.length
 | [],_=>by simp
 |c::K,h=>by have h1:=h c List.mem_cons_self;have h2:=zq f m K (fun c hc=>h c (List.mem_cons_of_mem _ hc));rw[List.flatMap_cons,List.length_append,List.length_cons,Nat.mul_succ];omega
theorem textM_len{d:Nat}{r:Bool}{t:NT (d+1)}(h:FormN d r t):(textM (d+1) t).length<=250:=by
 cases d with
 |zero=>exact h.elim
 |succ d=>
  rw[textM];rcases h with⟨h1,h2,_,_⟩| ⟨h1,h2,h3,h4⟩
  ·rw[if_pos (by rw[h1];rfl)];have:=zq ptText 12 (Nd.pts t) (fun p _=>by rw[show(ptText p).length=12 from rfl];omega);show(1::UInt8.ofNat (Nd.pts t).length::(Nd.pts t).flatMap ptText).length<=250;simp only[List.length_cons];omega
  ·rw[if_neg (by omega)];have:=zq (saidN (d+1)) 52 (Nd.kids t) (fun c hc=>by rw[said_len52 (h4 c hc).1.2.2.2];omega);show(2::UInt8.ofNat (Nd.kids t).length::(Nd.kids t).flatMap (saidN (d+1))).length<=250;simp only[List.length_cons];omega
theorem form_kok:∀(d:Nat) (r:Bool) (t:NT (d+1)),FormN d r t->∀c∈post (d+1) t,KOk c
 |0,_,_,h=>h.elim
 |d+1,r,t,h=>by
  intro c hc;rw[show post (d+2) t=(Nd.kids t).flatMap (fun c=>post (d+1) c++[chd (d+1) c]) from rfl] at hc;rcases h with⟨h1,_⟩| ⟨h1,h2,h3,h4⟩
  ·rw[h1] at hc;simp at hc
  ·obtain⟨k,hk,hc⟩:=List.mem_flatMap.1 hc;obtain⟨⟨k1,k2,k3,k4⟩,k5⟩:=h4 k hk;rcases List.mem_append.1 hc with hc|hc
   ·rcases k5 with⟨e1,e2⟩|k5
    ·rw[show post (d+1) k=(Nd.kids k).flatMap (fun c=>post d c++[chd d c]) from rfl,e2] at hc;simp at hc
    ·exact form_kok d false k k5 c hc
   ·rw[List.mem_singleton.1 hc];refine⟨k1,k4,?_⟩;show(if shownN (d+1) k then textM (d+1) k else []).length<=250;rcases k5 with⟨e1,e2⟩|k5
    ·rw[shown_no e1 e2];exact Nat.zero_le _
    ·rw[GY k5,if_pos rfl];exact textM_len k5
structure LookGood(s:List UInt8)(L:List Pt)(K:List Chd)(n:Int)(x:List UInt8):Prop where
 ids:Ids L
 ok:∀p∈L,p.Ok
 kids:∀c∈K,KOk c
 text:x.length<=250
 is:∀(root:List UInt8) (count:Int) (q:Qr),mayBe q=true->verify root count q s=verdict root count (must q (ans q L)) (ans q L) K x n
theorem look_good{s:List UInt8}{t:NT 7}{i:Nat}{L:List Pt}{K:List Chd}{b:Box}{n:Int}{x:List UInt8}(g:PartGood 6 true s 0 [] [] t i L K b n x)(hi:i=s.length):LookGood s L K n x:=by
 have hrd:=g.rd;have e0:at' s 0 []=(s,[]):=by show(s.drop 0,_)=_;rw[List.drop_zero];rfl
 have e1:at' s i L=([],(L.map Pt.id).reverse):=by show(s.drop i,_)=_;rw[List.drop_eq_nil_of_le (by omega)]
 rw[e0,e1] at hrd;have hp:parse s=some (madeN 7 t):=by unfold parse;rw[hrd]
 obtain⟨⟨hf,_,_⟩,_⟩:=zL 6 true _ _ _ hrd;have hfine:=form_fine 6 true t hf;obtain⟨s1,_,s3,_⟩:=Gr hp;have hm:=made_same hf;have hall:allN 7 (madeN 7 t)=allN 7 t:=all_of hm.1 hm.2;have hL:L=allN 7 t:=by rw[g.pts];rfl
 have hK:K=post 7 t:=by rw[g.kids];rfl
 refine⟨?_,?_,?_,?_,fun root count q hq=>?_⟩
 ·rw[hL,<-hall];exact List.pairwise_map.1 s3
 ·rw[hL];exact hfine.ok
 ·rw[hK];exact form_kok 6 true t hf
 ·rw[g.text];exact textM_len hf
 ·have hv:=verdict_is root count q (madeN 7 t) t (post_of hm.2) (madeT_dig 7 t);rw[hall] at hv;rw[hL,hK,g.text,g.num,show Nd.n (madeN (6+1) t)=numN 7 (madeN 7 t) from rfl,hv];unfold verify;rw[if_neg (by rw[hq];decide),hp];simp only;rw[hall]
theorem look_bad{s:List UInt8}(h:rdNode 6 true (at' s 0 [])=none\/∃t i L,rdNode 6 true (at' s 0 [])=some (t,at' s i L)/\i<s.length)(root:List UInt8)(count:Int)(q:Qr)(hq:mayBe q=true):verify root count q s=([],7):=by
 have e0:at' s 0 []=(s,[]):=by show(s.drop 0,_)=_;rw[List.drop_zero];rfl
 rw[e0] at h;have hp:parse s=none:=by
  unfold parse;rcases h with h| ⟨t,i,L,h,hi⟩
  ·rw[h]
  ·rw[h];have:s.drop i≠[]:=fun e=>by
    have:=congrArg List.length e;rw[List.length_drop] at this;simp at this;omega
   unfold at'
   match hd:s.drop i,this with
   |a::l,_=>rfl
 unfold verify;rw[if_neg (by rw[hq];decide),hp]
end Wd
end Go.Proofs.YtenaelkbgkpllaaGreatDoor
