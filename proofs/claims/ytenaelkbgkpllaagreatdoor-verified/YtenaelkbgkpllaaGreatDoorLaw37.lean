/- Part 37 of what the four laws rest on: laid by a program out of the texts of wip/T. -/
import Derived.Test.YtenaelkbgkpllaaGreatDoorLaw03
set_option maxRecDepth 100000
set_option maxHeartbeats 8000000
namespace Go.Proofs.YtenaelkbgkpllaaGreatDoor
namespace Wd
variable (dig : List UInt8 → List UInt8) (must : Box → Bool)
def showK(n:Nat)(c:T n):List UInt8:=head dig n c++(if must (box n c) then 1::proof dig must n c else [0])
theorem proof_succ(n:Nat)(cs:List (T n)):proof dig must (n+1) cs=2::UInt8.ofNat cs.length::cs.flatMap (showK dig must n):=rfl
theorem proof_zero(l:List Pt):proof dig must 0 l=text dig 0 l:=rfl
theorem take_flat{α β:Type}(f:α->List β)(l:List α)(k:Nat)(h:k<l.length):(l.take (k+1)).flatMap f=(l.take k).flatMap f++f l[k]:=by rw[List.take_succ_eq_append_getElem h,List.flatMap_append,List.flatMap_singleton]
theorem flat_fixed{α β:Type}(f:α->List β)(s:Nat)(l:List α)(h:∀x∈l,(f x).length=s)(k:Nat)(hk:k<l.length):((l.flatMap f).drop (s*k)).take s=f l[k]:=by
 induction l generalizing k with
 |nil=>simp at hk
 |cons a l ih=>
  have ha:(f a).length=s:=h a (List.mem_cons_self ..);rw[List.flatMap_cons];cases k with
  |zero=>simp[<-ha]
  |succ k=>rw[show s*(k+1)=(f a).length+s*k by rw[ha,Nat.mul_succ];omega,List.drop_append];simp only[Nat.add_sub_cancel_left,List.drop_eq_nil_of_le (Nat.le_add_right (f a).length _),List.nil_append];exact ih (fun x hx=>h x (List.mem_cons_of_mem _ hx)) k (by simpa using hk)
theorem flat_fix_len{α β:Type}(f:α->List β)(s:Nat)(l:List α)(h:∀x∈l,(f x).length=s):(l.flatMap f).length=s*l.length:=by
 induction l with
 |nil=>simp
 |cons a l ih=>rw[List.flatMap_cons,List.length_append,ih (fun x hx=>h x (List.mem_cons_of_mem _ hx)),h a (List.mem_cons_self ..),List.length_cons,Nat.mul_succ];omega
variable {dig}
theorem text_len(hd:∀l,(dig l).length=32)(n:Nat)(cs:List (T n)):(text dig (n+1) cs).length=2+52*cs.length:=by rw[text_succ];simp only[List.length_cons];rw[flat_fix_len _ 52 cs (fun c _=>zb hd n c)];omega
theorem text_two(n:Nat)(cs:List (T n)):(text dig (n+1) cs).take 2=[2,UInt8.ofNat cs.length]:=rfl
theorem text_head(hd:∀l,(dig l).length=32)(n:Nat)(cs:List (T n))(k:Nat)(h:k<cs.length):((text dig (n+1) cs).drop (2+52*k)).take 52=head dig n cs[k]:=by rw[text_succ,show 2+52*k=52*k+1+1 by omega,List.drop_succ_cons,List.drop_succ_cons];exact flat_fixed _ 52 cs (fun c _=>zb hd n c) k h
theorem lev_kids(K:List Pt)(n i:Nat)(h:i< (lev K (n+1)).length):(lev K (n+1))[i]=((lev K n).drop (4*i)).take 4:=GG (lev K n) i h
theorem lev_few(K:List Pt)(n i:Nat)(h:i< (lev K (n+1)).length):List.length ((lev K (n+1))[i]:List (T n))<=4/\4*i+List.length ((lev K (n+1))[i]:List (T n))<=(lev K n).length:=by
 have e:=lev_kids K n i h;have h':i< ((lev K n).length+3)/4:=by have:=h;rw[lev,gP] at this;exact this
 rw[e];simp only[List.length_take,List.length_drop];omega
theorem lev_kid(K:List Pt)(n i k:Nat)(h:i< (lev K (n+1)).length)(hk:k<List.length ((lev K (n+1))[i]:List (T n)))(hj:4*i+k< (lev K n).length):((lev K (n+1))[i]:List (T n))[k]=(lev K n)[4*i+k]:=by
 have e:=lev_kids K n i h;have:∀(x:List (T n)) (hx:k<x.length),x=((lev K n).drop (4*i)).take 4->x[k]=(lev K n)[4*i+k]:=by intro x hx ex;subst ex;simp[List.getElem_take,List.getElem_drop]
 exact this _ hk e
theorem proof_len(hd:∀l,(dig l).length=32):∀(n:Nat) (t:T n),Small n t->(proof dig must n t).length<=300*5 ^ n
 |0,l,h=>by have h1:=text_small hd 0 l h;rw[proof_zero];omega
 |n+1,cs,h=>by
  rw[proof_succ];have h4:List.length (cs:List (T n))<=4:=h.1;have hall:∀c∈(cs:List (T n)),(showK dig must n c).length<=53+300*5 ^ n:=fun c hc=>by
   have ih:=proof_len hd n c (h.2 c hc);unfold showK;rw[List.length_append,zb hd];split
   ·rw[List.length_cons];omega
   ·simp
  have key:∀(l:List (T n)),(∀c∈l,(showK dig must n c).length<=53+300*5 ^ n)->(l.flatMap (showK dig must n)).length<=l.length*(53+300*5 ^ n):=by
   intro l hl;induction l with
   |nil=>simp
   |cons a l ih=>rw[List.flatMap_cons,List.length_append,List.length_cons,Nat.succ_mul];have:=hl a (List.mem_cons_self ..);have:=ih (fun c hc=>hl c (List.mem_cons_of_mem _ hc));omega
  have h2:=key cs hall;have h3:List.length (cs:List (T n))*(53+300*5 ^ n)<=4*(53+300*5 ^ n):=Nat.mul_le_mul_right _ h4;have h5:1<=5 ^ n:=Nat.one_le_pow n 5 (by decide);simp only[List.length_cons];rw[Nat.pow_succ];omega
def slid(S:List Pt)(p:Pt)(k:Nat):List Pt:=S.take k++p::S.drop k
theorem slid_len{S:List Pt}{p:Pt}{k:Nat}:(slid S p k).length=S.length+1:=by unfold slid;simp only[List.length_append,List.length_cons,List.length_take,List.length_drop];omega
theorem slid_end(S:List Pt)(p:Pt):slid S p S.length=S++[p]:=by unfold slid;rw[List.take_length,List.drop_length]
theorem slid_get{S:List Pt}{p:Pt}{k:Nat}(hk:k+1<=S.length)(h:k< (slid S p (k+1)).length):(slid S p (k+1))[k]=S[k]:=by
 have h0:k< (S.take (k+1)).length:=by simp;omega
 have e:(slid S p (k+1))[k]=(S.take (k+1))[k]:=List.getElem_append_left h0;rw[e,List.getElem_take]
theorem slid_set{S:List Pt}{p:Pt}{k:Nat}(hk:k+1<=S.length):((slid S p (k+1)).set (k+1) S[k]).set k p=slid S p k:=by
 have h1:S.take (k+1)=S.take k++[S[k]]:=List.take_succ_eq_append_getElem (by omega);have h2:S.drop k=S[k]::S.drop (k+1):=List.drop_eq_getElem_cons (by omega);have hl:(S.take k).length=k:=by rw[List.length_take];omega
 unfold slid;rw[h2,h1];generalize S.take k=A at*;generalize S.drop (k+1)=D at*;generalize S[k]=x at*;subst hl;rw[List.append_assoc,List.set_append_right _ _ (by omega),show A.length+1-A.length=1 by omega];show(A++x::x::D).set A.length p=_;rw[List.set_append_right _ _ (Nat.le_refl _),Nat.sub_self];rfl
theorem slid_parts{S:List Pt}{p:Pt}{k:Nat}(hs:Sorted S)(hi:∀q∈S,q.id≠p.id)(hk:k<=S.length)(hh:∀i,(h:i<S.length)->k<=i->lt p S[i])(hl:∀j,(h:j<S.length)->j+1=k->¬lt p S[j]):Parts p S k:=by
 refine⟨hk,fun i h hik=>?_,fun i h hik e=>lt_irrefl p (lt_trans (hh i h hik) e)⟩;have hj:k-1<S.length:=by omega
 have h1:lt S[k-1] p:=lt_tot (fun e=>hi _ (List.getElem_mem hj) e.symm) (hl (k-1) hj (by omega));by_cases e:i=k-1
 ·subst e;exact h1
 ·exact lt_trans ((List.pairwise_iff_getElem.1 hs) i (k-1) h hj (by omega)) h1
theorem within_step{b:Box}{L:List Pt}{i:Nat}(h:i<L.length):((L.take (i+1)).filter (inB b))=if inB b L[i]=true then (L.take i).filter (inB b)++[L[i]] else (L.take i).filter (inB b):=by
 rw[List.take_succ_eq_append_getElem h,List.filter_append];by_cases e:inB b L[i]=true
 ·rw[if_pos e,List.filter_cons_of_pos e,List.filter_nil]
 ·rw[if_neg e,List.filter_cons_of_neg e,List.filter_nil,List.append_nil]
theorem within_ids{b:Box}{L:List Pt}(hi:Ids L)(i:Nat):Ids ((L.take i).filter (inB b)):=ids_sub (List.filter_sublist.trans (List.take_sublist _ _)) hi
theorem within_len{b:Box}{L:List Pt}(i:Nat):(sortP ((L.take i).filter (inB b))).length<=L.length:=by rw[(oY _).length_eq];exact Nat.le_trans (List.length_filter_le _ _) (by rw[List.length_take];omega)
theorem within_fresh{b:Box}{L:List Pt}(hi:Ids L){i:Nat}(h:i<L.length):∀q∈sortP ((L.take i).filter (inB b)),q.id≠(L[i]).id:=fun q hq=>by have h1:=(List.mem_filter.1 ((oY _).mem_iff.1 hq)).1;obtain⟨j,hj,e⟩:=List.getElem_of_mem h1;rw[List.length_take] at hj;rw[List.getElem_take] at e;rw[<-e];exact(List.pairwise_iff_getElem.1 hi) j i (by omega) h (by omega)
theorem within_in{b:Box}{L:List Pt}(hi:Ids L){i k:Nat}(h:i<L.length)(hb:inB b L[i]=true)(hp:Parts L[i] (sortP ((L.take i).filter (inB b))) k):sortP ((L.take (i+1)).filter (inB b))=slid (sortP ((L.take i).filter (inB b))) L[i] k:=by have h1:=within_ids (b:=b) hi (i+1);rw[within_step h,if_pos hb] at h1⊢;exact sortP_snoc h1 hp
theorem within_out{b:Box}{L:List Pt}{i:Nat}(h:i<L.length)(hb:inB b L[i]=false):sortP ((L.take (i+1)).filter (inB b))=sortP ((L.take i).filter (inB b)):=by rw[within_step h,if_neg (by rw[hb];decide)]
def Best(L T:List Pt)(x y:Int)(i:Nat)(best:Int):Prop:=(best= -1/\∀j,(h:j<L.length)->j<i->L[j]∈T)\/∃b,∃h:b<L.length,b<i/\best=(b:Int)/\L[b]∉T/\∀j,(hj:j<L.length)->j<i->L[j]∉T->j=b\/nr x y L[b] L[j]
theorem best_start(L T:List Pt)(x y:Int):Best L T x y 0 (-1):=.inl ⟨rfl,fun j _ h=>by omega⟩
theorem best_used{L T:List Pt}{x y:Int}{i:Nat}{best:Int}(h:Best L T x y i best)(hi:i<L.length)(hu:L[i]∈T):Best L T x y (i+1) best:=by
 rcases h with⟨e,h⟩| ⟨b,hb,hbi,e,hn,h⟩
 ·refine .inl ⟨e,fun j hj hji=>?_⟩;by_cases ej:j=i
  ·subst ej;exact hu
  ·exact h j hj (by omega)
 ·refine .inr ⟨b,hb,by omega,e,hn,fun j hj hji hnj=>?_⟩;by_cases ej:j=i
  ·subst ej;exact absurd hu hnj
  ·exact h j hj (by omega) hnj
theorem best_first{L T:List Pt}{x y:Int}{i:Nat}(h:Best L T x y i (-1))(hi:i<L.length)(hu:L[i]∉T):Best L T x y (i+1) (i:Int):=by
 rcases h with⟨_,h⟩| ⟨b,hb,hbi,e,hn,h⟩
 ·refine .inr ⟨i,hi,by omega,rfl,hu,fun j hj hji hnj=>?_⟩;by_cases ej:j=i
  ·exact .inl ej
  ·exact absurd (h j hj (by omega)) hnj
 ·omega
theorem best_at{L T:List Pt}{x y:Int}{i:Nat}{b:Nat}(h:Best L T x y i (b:Int)):∃h:b<L.length,b<i/\L[b]∉T/\∀j,(hj:j<L.length)->j<i->L[j]∉T->j=b\/nr x y L[b] L[j]:=by
 rcases h with⟨e,_⟩| ⟨b',hb,hbi,e,hn,h⟩
 ·omega
 ·have:b=b':=by omega
  subst this;exact⟨hb,hbi,hn,h⟩
theorem best_near{L T:List Pt}{x y:Int}{i b:Nat}(h:Best L T x y i (b:Int))(hb:b<L.length)(hi:i<L.length)(hu:L[i]∉T)(hn:nr x y L[i] L[b]):Best L T x y (i+1) (i:Int):=by
 obtain⟨_,hbi,_,h⟩:=best_at h;refine .inr ⟨i,hi,by omega,rfl,hu,fun j hj hji hnj=>?_⟩;by_cases ej:j=i
 ·exact .inl ej
 ·rcases h j hj (by omega) hnj with e|e
  ·subst e;exact .inr hn
  ·exact .inr (nr_trans hn e)
theorem best_far{L T:List Pt}{x y:Int}{i b:Nat}(hids:Ids L)(h:Best L T x y i (b:Int))(hb:b<L.length)(hi:i<L.length)(hn:¬nr x y L[i] L[b]):Best L T x y (i+1) (b:Int):=by
 obtain⟨_,hbi,hbn,h⟩:=best_at h;refine .inr ⟨b,hb,by omega,rfl,hbn,fun j hj hji hnj=>?_⟩;by_cases ej:j=i
 ·subst ej;exact .inr (nr_total (fun e=>(List.pairwise_iff_getElem.1 hids) b j hb hj hbi e.symm) hn)
 ·exact h j hj (by omega) hnj
theorem best_end{L:List Pt}{x y:Int}{n:Nat}{best:Int}(hids:Ids L)(hn:n<L.length)(h:Best L ((sortN x y L).take n) x y L.length best):∃b,∃hb:b<L.length,best=(b:Int)/\L[b]∉(sortN x y L).take n/\(sortN x y L).take (n+1)=(sortN x y L).take n++[L[b]]:=by
 have hl:=zI x y L;have hno:(sortN x y L)[n]∉(sortN x y L).take n:=fun hm=>by obtain⟨m,hm1,e⟩:=List.getElem_of_mem hm;rw[List.length_take] at hm1;rw[List.getElem_take] at e;have h1:=(List.pairwise_iff_getElem.1 (zH (x:=x) (y:=y) hids)) m n (by omega) (by omega) (by omega);rw[e] at h1;exact nr_irrefl x y _ h1
 rcases h with⟨_,h⟩| ⟨b,hb,_,e,hbn,h⟩
 ·have hmem:(sortN x y L)[n]∈L:=(oJ x y L).mem_iff.1 (List.getElem_mem _);obtain⟨j,hj,e⟩:=List.getElem_of_mem hmem;exact absurd (by rw[<-e];exact h j hj hj) hno
 ·refine⟨b,hb,e,hbn,near_next hids hn (List.getElem_mem hb) hbn (fun q hq hqn=>?_)⟩;obtain⟨j,hj,ej⟩:=List.getElem_of_mem hq;subst ej;rcases h j hj hj hqn with e|e
  ·subst e;exact .inl rfl
  ·exact .inr e
theorem taken_step{L T:List Pt}{U:Nat->Bool}(hids:Ids L)(hU:∀j,(h:j<L.length)->(U j=true↔L[j]∈T)){b:Nat}(hb:b<L.length):∀j,(h:j<L.length)->((if j=b then true else U j)=true↔L[j]∈T++[L[b]]):=fun j hj=>by
 by_cases e:j=b
 ·subst e;simp
 ·rw[if_neg e,hU j hj];have hne:L[j]≠L[b]:=fun h=>e (ids_index hids hj hb (by rw[h]));simp[hne]
theorem flags_set{α:Type}(f:Nat->α)(n b:Nat)(v:α):((List.range n).map f).set b v=(List.range n).map (fun j=>if j=b then v else f j):=by
 apply List.ext_getElem?;intro k;rw[List.getElem?_set,List.length_map,List.length_range,List.getElem?_map,List.getElem?_map];by_cases hk:k<n
 ·rw[List.getElem?_range hk];by_cases e:b=k
  ·subst e;simp[hk]
  ·rw[if_neg e];simp[Ne.symm e]
 ·rw[List.getElem?_eq_none (by simpa using hk)];by_cases e:b=k
  ·subst e;simp[hk]
  ·simp[e]
end Wd
end Go.Proofs.YtenaelkbgkpllaaGreatDoor
