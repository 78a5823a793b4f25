/- Part 17 of what the four laws rest on: laid by a program out of the texts of wip/T. -/
import Derived.Test.YtenaelkbgkpllaaGreatDoorLaw16
set_option maxRecDepth 100000
set_option maxHeartbeats 8000000
namespace Go.Proofs.YtenaelkbgkpllaaGreatDoor
open Go.RowKit
namespace Ref
theorem sq_fact(wv S:Nat)(h:(wv+1)*(wv+1)=S)(hw:wv<=400):wrap64 (((wv:Int)+1)*((wv:Int)+1))=(S:Int)/\S<=160801:=by
 have e:((wv:Int)+1)*((wv:Int)+1)=(((wv+1)*(wv+1):Nat):Int):=by simp
 have hb:(wv+1)*(wv+1)<=401*401:=Nat.mul_le_mul (by omega) (by omega);rw[e,h,IntWalk.wrap64_in _ (by omega)];exact⟨rfl,by omega⟩
theorem cu_fact(wv S T:Nat)(hS:S<=160801)(h:S*(wv+1)=T)(hw:wv<=400):wrap64 ((S:Int)*((wv:Int)+1))=(T:Int)/\T<=64481201:=by
 have e:(S:Int)*((wv:Int)+1)=((S*(wv+1):Nat):Int):=by simp
 have hb:S*(wv+1)<=160801*401:=Nat.mul_le_mul (by omega) (by omega);rw[e,h,IntWalk.wrap64_in _ (by omega)];exact⟨rfl,by omega⟩
theorem over_lt(wv nn B:Nat)(h1:wv<=17)(h2:nn+B<4294967296):wv*4294967296+(nn+B)<1099511627776:=by omega
theorem bits_step(p power w b n:Nat):Big.bitsFrom p power w (b+1) n=Big.bitsFrom p power w b (if Big.above (w*4294967296+(n+2 ^ b)) p power then n else n+2 ^ b):=by unfold Big.bitsFrom;rw[Big.fold_succ]
theorem pow_half(k:Nat):2 ^ (k+1)=2 ^ k+2 ^ k:=by rw[Nat.pow_succ];omega
theorem whole_step2(p n wv:Nat)(h:(wv+1) ^ 2<=p):Big.wholeFrom p 2 (n+1) wv=Big.wholeFrom p 2 n (wv+1):=by rw[Big.wholeFrom,if_neg (by omega)]
theorem whole_stop2(p n wv:Nat)(h:p< (wv+1) ^ 2):Big.wholeFrom p 2 (n+1) wv=wv:=by rw[Big.wholeFrom,if_pos h]
theorem over2_I(x pi:Int)(xn p:Nat)(w:World)(hx:x=xn)(hpi:pi=p)(h1:xn<1099511627776)(hp:p<65536)(b:Bool)(hb:Big.above xn p 2=b):
  Calls Tryz.prog 90 #[.int .u64 x,.int .i64 pi,.int .i64 2] w fun e w'=>e=.returned (.bool b)/\Below w.heap.size w w':=by
 subst hx;subst hpi;subst hb;exact over2_any xn p w h1 hp
theorem cut2_any(p:Nat)(w:World)(hp:p<=311)(hw1:Big.whole p 2<=17):
  Calls Tryz.prog 55 #[.int .i64 p,.int .i64 2] w fun e w'=>e=.returned (.int .u32 (Big.root p 2:Nat))/\Below w.heap.size w w':=by
 have HW1:=gH hw1;clear hw1;go_enter Tryz.func55,Tryz.ntmps55
 go_wp2;go_loopw [5] (fun v wq=>∃n wv:Nat,n+wv=400/\wv<=p/\v=.int .i64 wv/\Big.wholeFrom p 2 n wv=Big.whole p 2/\wq=w) (fun v _=>400-(intOf v).toNat)
 case atStart=>exact⟨400,0,rfl,Nat.zero_le _,rfl,rfl,rfl⟩
 case round=>
  obtain⟨n,wv,hnw,hwp,rfl,hwh,rfl⟩:=hrel;obtain⟨m,rfl⟩:∃m,n=m+1:=⟨n-1,by omega⟩;have HWH:=gH hwh;have HNW:=gH hnw;clear hwh hnw;obtain⟨S,hS⟩:∃S,(wv+1)*(wv+1)=S:=⟨_,rfl⟩;obtain⟨f2,bS⟩:=sq_fact wv S hS (by omega);have HS:=gS ((wv+1) ^ 2=S) (by rw[<-hS,Nat.pow_two]);clear hS;by_cases hgo:p<S
  ·have hwe:=gS (Big.whole p 2=wv) (by rw[<-HWH.out];exact whole_stop2 p m wv (by rw[HS.out];exact hgo));(have hw17:wv<=17:=by rw[<-hwe.out];exact HW1.out);clear HWH HNW HW1;(go_wp2_with fail);clear f2 hgo;go_loopw [8,9] (fun nv bv wq=>∃b nn:Nat,b<=32/\bv=.int .i64 ((b:Int)-1)/\nv=.int .u32 nn/\nn+2 ^ b<=4294967296/\Big.bitsFrom p 2 wv b nn=Big.root p 2/\Below wr.heap.size wr wq) (fun _ bv _=>(intOf bv+1).toNat)
   case atStart=>exact⟨32,0,Nat.le_refl _,rfl,rfl,by decide,by rw[Big.root,hwe.out],Below.refl _ _⟩
   case round=>
    obtain⟨b,nn,hb,rfl,rfl,hnn,hbits,hbel⟩:=hrel;have HBI:=gH hbits;clear hbits;by_cases hpos:0<b
    ·obtain⟨k,rfl⟩:∃k,b=k+1:=⟨b-1,by omega⟩;rw[show((k+1:Nat):Int)-1=(k:Int) by omega];rw[pow_half] at hnn;have HBS:=gH ((bits_step p 2 wv k nn).symm.trans HBI.out);have hpk:=Nat.two_pow_pos k;(have h2k:((2:Int) ^ k)=((2 ^ k:Nat):Int):=by simp);have HMM:=gS (((nn:Int)+2 ^ k)%4294967296=((nn+2 ^ k:Nat):Int)) (by rw[h2k];omega);have HXX:=gS ((wv:Int)*4294967296+((nn:Int)+2 ^ k)%4294967296=((wv*4294967296+(nn+2 ^ k):Nat):Int)) (by rw[HMM.out];omega);have hlt40:=over_lt wv nn (2 ^ k) hw17 (by omega);have HLT:=gH hlt40;have HNN:=gH hnn;have HN1:=gS (nn+2 ^ k<=4294967296) (by omega);(have hk31:k<=32:=by omega);clear h2k hlt40 hnn hpk;cases hab:Big.above (wv*4294967296+(nn+2 ^ k)) p 2 with
     |true=>
      have HAB:=gH hab;clear hab;(go_wp2_with fail);refine(over2_I _ _ (wv*4294967296+(nn+2 ^ k)) p _ HXX.out rfl HLT.out (by omega) true HAB.out).mono ?_;rintro e w3⟨rfl,hb3⟩;(go_wp2_with fail);go_roundw
      case rel=>first|exact⟨k,nn,hk31,rfl,rfl,HN1.out,by have:=HBS.out;rwa [HAB.out,if_pos rfl] at this,hbel.trans (hb3.mono hbel.size)⟩| ((repeat apply Exists.intro);exact⟨⟨k,nn,hk31,rfl,rfl,HN1.out,by have:=HBS.out;rwa [HAB.out,if_pos rfl] at this,hbel.trans (hb3.mono hbel.size)⟩,rfl⟩)
      case measure=>first| (simp[intOf];done)| (simp[intOf];omega)
     |false=>
      have HAB:=gH hab;clear hab;(go_wp2_with fail);refine(over2_I _ _ (wv*4294967296+(nn+2 ^ k)) p _ HXX.out rfl HLT.out (by omega) false HAB.out).mono ?_;rintro e w3⟨rfl,hb3⟩;(go_wp2_with fail);go_roundw
      case rel=>first|exact⟨k,nn+2 ^ k,hk31,rfl,congrArg (Value.int IntKind.u32) HMM.out,by have:=HNN.out;omega,by have:=HBS.out;rwa [HAB.out,if_neg (by decide)] at this,hbel.trans (hb3.mono hbel.size)⟩| ((repeat apply Exists.intro);exact⟨⟨k,nn+2 ^ k,hk31,rfl,congrArg (Value.int IntKind.u32) HMM.out,by have:=HNN.out;omega,by have:=HBS.out;rwa [HAB.out,if_neg (by decide)] at this,hbel.trans (hb3.mono hbel.size)⟩,rfl⟩)
      case measure=>first| (simp[intOf];done)| (simp[intOf];omega)
    ·(have e0:b=0:=by omega);subst e0;(go_wp2_with fail);go_ret;refine⟨?_,hbel⟩;have:=HBI.out;unfold Big.bitsFrom at this;rw[Big.fold_zero] at this;rw[<-this];rfl
  ·(have hle:(wv+1) ^ 2<=p:=by rw[HS.out];omega);have hle2:wv+1<=p:=Nat.le_trans (Nat.le_self_pow (by decide) _) hle;have hst:=gH ((whole_step2 p m wv hle).symm.trans HWH.out);(go_wp2_with fail);go_roundw
   case rel=>exact⟨m,wv+1,by have:=HNW.out;omega,hle2,by go_num,hst.out,by first|rfl|trivial⟩
   case measure=>simp[intOf];omega
theorem whole_step3(p n wv:Nat)(h:(wv+1) ^ 3<=p):Big.wholeFrom p 3 (n+1) wv=Big.wholeFrom p 3 n (wv+1):=by rw[Big.wholeFrom,if_neg (by omega)]
theorem whole_stop3(p n wv:Nat)(h:p< (wv+1) ^ 3):Big.wholeFrom p 3 (n+1) wv=wv:=by rw[Big.wholeFrom,if_pos h]
theorem over3_I(x pi:Int)(xn p:Nat)(w:World)(hx:x=xn)(hpi:pi=p)(h1:xn<1099511627776)(hp:p<65536)(b:Bool)(hb:Big.above xn p 3=b):
  Calls Tryz.prog 90 #[.int .u64 x,.int .i64 pi,.int .i64 3] w fun e w'=>e=.returned (.bool b)/\Below w.heap.size w w':=by
 subst hx;subst hpi;subst hb;exact over3_any xn p w h1 hp
theorem cut3_any(p:Nat)(w:World)(hp:p<=311)(hw1:Big.whole p 3<=17):
  Calls Tryz.prog 55 #[.int .i64 p,.int .i64 3] w fun e w'=>e=.returned (.int .u32 (Big.root p 3:Nat))/\Below w.heap.size w w':=by
 have HW1:=gH hw1;clear hw1;go_enter Tryz.func55,Tryz.ntmps55
 go_wp2;go_loopw [5] (fun v wq=>∃n wv:Nat,n+wv=400/\wv<=p/\v=.int .i64 wv/\Big.wholeFrom p 3 n wv=Big.whole p 3/\wq=w) (fun v _=>400-(intOf v).toNat)
 case atStart=>exact⟨400,0,rfl,Nat.zero_le _,rfl,rfl,rfl⟩
 case round=>
  obtain⟨n,wv,hnw,hwp,rfl,hwh,rfl⟩:=hrel;obtain⟨m,rfl⟩:∃m,n=m+1:=⟨n-1,by omega⟩;have HWH:=gH hwh;have HNW:=gH hnw;clear hwh hnw;obtain⟨Q,hQ⟩:∃Q,(wv+1)*(wv+1)=Q:=⟨_,rfl⟩;obtain⟨f2,bQ⟩:=sq_fact wv Q hQ (by omega);obtain⟨S,hS⟩:∃S,Q*(wv+1)=S:=⟨_,rfl⟩;obtain⟨f3,bS⟩:=cu_fact wv Q S bQ hS (by omega);have HS:=gS ((wv+1) ^ 3=S) (by rw[<-hS,<-hQ];simp[Nat.pow_succ]);clear hS hQ;by_cases hgo:p<S
  ·have hwe:=gS (Big.whole p 3=wv) (by rw[<-HWH.out];exact whole_stop3 p m wv (by rw[HS.out];exact hgo));(have hw17:wv<=17:=by rw[<-hwe.out];exact HW1.out);clear HWH HNW HW1;(go_wp2_with fail);clear f2 f3 hgo;go_loopw [8,9] (fun nv bv wq=>∃b nn:Nat,b<=32/\bv=.int .i64 ((b:Int)-1)/\nv=.int .u32 nn/\nn+2 ^ b<=4294967296/\Big.bitsFrom p 3 wv b nn=Big.root p 3/\Below wr.heap.size wr wq) (fun _ bv _=>(intOf bv+1).toNat)
   case atStart=>exact⟨32,0,Nat.le_refl _,rfl,rfl,by decide,by rw[Big.root,hwe.out],Below.refl _ _⟩
   case round=>
    obtain⟨b,nn,hb,rfl,rfl,hnn,hbits,hbel⟩:=hrel;have HBI:=gH hbits;clear hbits;by_cases hpos:0<b
    ·obtain⟨k,rfl⟩:∃k,b=k+1:=⟨b-1,by omega⟩;rw[show((k+1:Nat):Int)-1=(k:Int) by omega];rw[pow_half] at hnn;have HBS:=gH ((bits_step p 3 wv k nn).symm.trans HBI.out);have hpk:=Nat.two_pow_pos k;(have h2k:((2:Int) ^ k)=((2 ^ k:Nat):Int):=by simp);have HMM:=gS (((nn:Int)+2 ^ k)%4294967296=((nn+2 ^ k:Nat):Int)) (by rw[h2k];omega);have HXX:=gS ((wv:Int)*4294967296+((nn:Int)+2 ^ k)%4294967296=((wv*4294967296+(nn+2 ^ k):Nat):Int)) (by rw[HMM.out];omega);have hlt40:=over_lt wv nn (2 ^ k) hw17 (by omega);have HLT:=gH hlt40;have HNN:=gH hnn;have HN1:=gS (nn+2 ^ k<=4294967296) (by omega);(have hk31:k<=32:=by omega);clear h2k hlt40 hnn hpk;cases hab:Big.above (wv*4294967296+(nn+2 ^ k)) p 3 with
     |true=>
      have HAB:=gH hab;clear hab;(go_wp2_with fail);refine(over3_I _ _ (wv*4294967296+(nn+2 ^ k)) p _ HXX.out rfl HLT.out (by omega) true HAB.out).mono ?_;rintro e w3⟨rfl,hb3⟩;(go_wp2_with fail);go_roundw
      case rel=>first|exact⟨k,nn,hk31,rfl,rfl,HN1.out,by have:=HBS.out;rwa [HAB.out,if_pos rfl] at this,hbel.trans (hb3.mono hbel.size)⟩| ((repeat apply Exists.intro);exact⟨⟨k,nn,hk31,rfl,rfl,HN1.out,by have:=HBS.out;rwa [HAB.out,if_pos rfl] at this,hbel.trans (hb3.mono hbel.size)⟩,rfl⟩)
      case measure=>first| (simp[intOf];done)| (simp[intOf];omega)
     |false=>
      have HAB:=gH hab;clear hab;(go_wp2_with fail);refine(over3_I _ _ (wv*4294967296+(nn+2 ^ k)) p _ HXX.out rfl HLT.out (by omega) false HAB.out).mono ?_;rintro e w3⟨rfl,hb3⟩;(go_wp2_with fail);go_roundw
      case rel=>first|exact⟨k,nn+2 ^ k,hk31,rfl,congrArg (Value.int IntKind.u32) HMM.out,by have:=HNN.out;omega,by have:=HBS.out;rwa [HAB.out,if_neg (by decide)] at this,hbel.trans (hb3.mono hbel.size)⟩| ((repeat apply Exists.intro);exact⟨⟨k,nn+2 ^ k,hk31,rfl,congrArg (Value.int IntKind.u32) HMM.out,by have:=HNN.out;omega,by have:=HBS.out;rwa [HAB.out,if_neg (by decide)] at this,hbel.trans (hb3.mono hbel.size)⟩,rfl⟩)
      case measure=>first| (simp[intOf];done)| (simp[intOf];omega)
    ·(have e0:b=0:=by omega);subst e0;(go_wp2_with fail);go_ret;refine⟨?_,hbel⟩;have:=HBI.out;unfold Big.bitsFrom at this;rw[Big.fold_zero] at this;rw[<-this];rfl
  ·(have hle:(wv+1) ^ 3<=p:=by rw[HS.out];omega);have hle2:wv+1<=p:=Nat.le_trans (Nat.le_self_pow (by decide) _) hle;have hst:=gH ((whole_step3 p m wv hle).symm.trans HWH.out);(go_wp2_with fail);go_roundw
   case rel=>exact⟨m,wv+1,by have:=HNW.out;omega,hle2,by go_num,hst.out,by first|rfl|trivial⟩
   case measure=>simp[intOf];omega
end Ref
namespace Big
def P64:List Nat:=[2,3,5,7,11,13,17,19,23,29,31,37,41,43,47,53,59,61,67,71,73,79,83,89,97,101,103,107,109,113,127,131,137,139,149,151,157,163,167,173,179,181,191,193,197,199,211,223,227,229,233,239,241,251,257,263,269,271,277,281,283,293,307,311]
def Ks:List Nat:=[1116352408,1899447441,3049323471,3921009573,961987163,1508970993,2453635748,2870763221,3624381080,310598401,607225278,1426881987,1925078388,2162078206,2614888103,3248222580,3835390401,4022224774,264347078,604807628,770255983,1249150122,1555081692,1996064986,2554220882,2821834349,2952996808,3210313671,3336571891,3584528711,113926993,338241895,666307205,773529912,1294757372,1396182291,1695183700,1986661051,2177026350,2456956037,2730485921,2820302411,3259730800,3345764771,3516065817,3600352804,4094571909,275423344,430227734,506948616,659060556,883997877,958139571,1322822218,1537002063,1747873779,1955562222,2024104815,2227730452,2361852424,2428436474,2756734187,3204031479,3329325298]
def Hs:List Nat:=[1779033703,3144134277,1013904242,2773480762,1359893119,2600822924,528734635,1541459225]
def below(x:Nat):List Nat:=P64.filter fun p=>Nat.blt p x
theorem below_all:((List.range 310).all fun n=>(prime (below (n+2)) (n+2)==P64.contains (n+2))&&(below (n+3)==if P64.contains (n+2) then below (n+2)++[n+2] else below (n+2)))=true:=by kernel_rfl
theorem below_len:((List.range 310).all fun n=>decide ((below (n+2)).length<64))=true:=by kernel_rfl
theorem below_last:below 312=P64:=by kernel_rfl
theorem below_two:below 2=[]:=by kernel_rfl
end Big
namespace Ref
theorem Tryz.info3:(Tryz.prog.info? 3).map (fun i=>(i.zero,i.size,i.bytes))=some (some (.int .i64 0),1,8):=by kernel_rfl
abbrev I(n:Nat):Value:=.int .i64 n
def HasI(w:World)(v:Value)(l:List Nat):Prop:=∃(a:Option Addr) (c:Nat),v=.slice a l.length c/\(l≠[]->∃g,a=some ⟨g,0,none⟩/\∀i (hi:i<l.length),w.cell? ⟨g,i,none⟩=some (I l[i]))
theorem hasI_of{w:World}{B n:Nat}{v:Value}{l:List Nat}(h:w.ownsRow B 3 1 v n (l.map I)):HasI w v l:=by
 obtain⟨hlen,hv| ⟨g,cap,cur,rfl,hg,hheap,hcap,hmax,hcs,htake⟩⟩:=h
 ·obtain⟨rfl,rfl⟩:=hv;have:l=[]:=by simpa using hlen
  subst this;exact⟨none,0,rfl,fun h=>absurd rfl h⟩
 ·have hl:l.length=n:=by simpa using hlen
  subst hl;refine⟨some ⟨g,0,none⟩,cap,rfl,fun _=>⟨g,rfl,fun i hi=>?_⟩⟩;have hc:w.cell? ⟨g,i,none⟩=cur[i]? :=by simp[World.cell?,hheap]
  rw[hc,<-Array.getElem?_toList];have e:(cur.toList.take (l.length*1))[i]? =cur.toList[i]? :=List.getElem?_take_of_lt (by omega);rw[<-e,htake,List.getElem?_map,List.getElem?_eq_getElem hi];rfl
theorem prime_step(l:List Nat)(x i:Nat)(hi:i<l.length):Big.prime (l.take (i+1)) x=(Big.prime (l.take i) x&&(x%l[i]!=0)):=by unfold Big.prime;rw[List.take_succ_eq_append_getElem hi,List.all_append];simp
structure Step(x:Nat)(l:List Nat)(b:Bool):Prop where
 len:l.length<64
 pos:∀d∈l,0<d/\d<1000
 is:Big.prime l x=b
 next:Big.below (x+1)=if b then l++[x] else l
theorem P64_pos:∀d∈Big.P64,0<d/\d<1000:=by decide
theorem step_of(x:Nat)(h2:2<=x)(h:x<=311):Step x (Big.below x) (Big.P64.contains x):=by obtain⟨n,rfl⟩:∃n,x=n+2:=⟨x-2,by omega⟩;have hn:n∈List.range 310:=List.mem_range.2 (by omega);have h1:=List.all_eq_true.1 Big.below_all n hn;have h3:=List.all_eq_true.1 Big.below_len n hn;rw[Bool.and_eq_true,beq_iff_eq,beq_iff_eq] at h1;refine⟨of_decide_eq_true h3,fun d hd=>P64_pos d (List.mem_filter.1 hd).1,h1.1,h1.2⟩
theorem primes_any(w:World):
  Calls Tryz.prog 54 #[.int .i64 64] w fun e w'=>∃v,e=.returned v/\w'.ownsRow w.heap.size 3 1 v 64 (Big.P64.map I)/\Below w.heap.size w w':=by
 obtain⟨i0,hi,hz0,hz1,hz2⟩:=info_parts Tryz.info3;go_enter Tryz.func54,Tryz.ntmps54
 go_wp2;go_loopw [3,4] (fun v xv wq=>∃x:Nat,2<=x/\x<=312/\xv=.int .i64 x/\wq.ownsRow w.heap.size 3 1 v (Big.below x).length ((Big.below x).map I)/\Below w.heap.size w wq) (fun _ xv _=>312-(intOf xv).toNat)
 case atStart=>exact⟨2,by omega,by omega,rfl,by rw[Big.below_two];exact World.ownsRow_nil _ _ _ _,Below.refl _ _⟩
 case round=>
  obtain⟨x,hx2,hx1,rfl,hown,hb⟩:=hrel;have hs:=hb.size;by_cases hlt:x<=311
  ·have HST:=gH (step_of x hx2 hlt);have HI:=gH (hasI_of hown);have HO:=gH hown;clear hown;have hlen:=HST.out.len;generalize Big.P64.contains x=bb at*;generalize Big.below x=l at*;obtain⟨a,c,e1,hc⟩:=HI.out;subst e1;have HC:=gH hc;clear hc;(go_wp2_with fail);go_loopw [5,6] (fun bv iv wq=>∃i:Nat,i<=l.length/\iv=.int .i64 i/\bv=.bool (Big.prime (l.take i) x)/\wq=wr) (fun _ iv _=>l.length-(intOf iv).toNat)
   case atStart=>exact⟨0,Nat.zero_le _,rfl,rfl,rfl⟩
   case round=>
    obtain⟨i,hi1,rfl,rfl,rfl⟩:=hrel;by_cases hlt2:i<l.length
    ·obtain⟨g,rfl,hcell⟩:=HC.out (fun e=>by subst e;simp at hlt2);have hci:=hcell i hlt2;obtain⟨hd0,hd1⟩:=HST.out.pos (l[i]) (List.getElem_mem hlt2);have HP:=gH (prime_step l x i hlt2);generalize l[i]=d at*;clear hcell;by_cases hm:x%d=0
     ·(have hmz:((x:Int)%(d:Int)==0)=true:=by rw[beq_iff_eq];omega);(go_wp2_with fail);go_roundw
      case rel=>exact⟨i+1,hlt2,by go_num,congrArg Value.bool (by rw[HP.out];simp[hm]),by first|rfl|trivial⟩
      case measure=>first| (simp[intOf];done)| (simp[intOf];omega)
     ·(have hmz:((x:Int)%(d:Int)==0)=false:=by rw[beq_eq_false_iff_ne];omega);(go_wp2_with fail);go_roundw
      case rel=>exact⟨i+1,hlt2,by go_num,congrArg Value.bool (by rw[HP.out];simp[hm]),by first|rfl|trivial⟩
      case measure=>first| (simp[intOf];done)| (simp[intOf];omega)
    ·(have e:i=l.length:=by omega);subst e;rw[List.take_length,HST.out.is];have HNX:=gH HST.out.next;clear HST;cases bb with
     |true=>
      (have k1:∀u∈[I x],u.oneCell'=true:=fun u hu=>by rw[List.mem_singleton.1 hu];rfl);(have k3:l.length+1<=maxLen:=by unfold maxLen;omega);(have k5:∀o,w.heap.size<=(wr.alloc o).heap.size:=fun o=>by simp;omega);have K1:=gH k1;have K3:=gH k3;have K5:=gH k5;clear k1 k3 k5;go_wp2_with (at_builtin;refine wpList_append_own _ rfl (.tmp 27) (.tmp 29) 25 rfl w.heap.size 3 i0 (.int .i64 0) 1 8 Tryz.underlying25 hi hz0 hz1 hz2 rfl (by decide) _ l.length (l.map I) rfl (HO.out.alloc _) ⟨wr.heap.size,0,none⟩ 1 1 [I x] rfl rfl (cell_one_new _ _ _) K1.out K3.out (by omega) (K5.out _) ?_)
      ·intro v' w1 hown' hgrow _;have hb1:Below w.heap.size w w1:=(hb.alloc hs _).grown hgrow (by simp;omega) (fun k hk=>(HO.out.lt k hk).1);have HO1:=gH hown';clear hown' hgrow;(go_wp2_with fail);go_roundw
       case rel=>have hn:=HNX.out;rw[if_pos trivial] at hn;refine⟨x+1,by omega,by omega,by go_num,?_,hb1⟩;rw[hn,List.length_append,List.map_append];exact HO1.out
       case measure=>first| (simp[intOf];done)| (simp[intOf];omega)
     |false=>
      (go_wp2_with fail);go_roundw
      case rel=>have hn:=HNX.out;rw[if_neg (by decide)] at hn;exact⟨x+1,by omega,by omega,by go_num,by rw[hn];exact HO.out,hb⟩
      case measure=>first| (simp[intOf];done)| (simp[intOf];omega)
  ·(have e:x=312:=by omega);subst e;rw[Big.below_last] at hown;have HI:=gH (hasI_of hown);obtain⟨a,c,e1, -⟩:=HI.out;have HO:=gS (wr.ownsRow w.heap.size 3 1 _ 64 (Big.P64.map I)) hown;subst e1;clear hown HI;have hl:Big.P64.length=64:=rfl;rw[hl] at HO⊢;(go_wp2_with fail);go_ret;exact⟨_,rfl,HO.out,hb⟩
end Ref
namespace Big
def wk(i:Nat):List Nat:=(Hs.take i++List.replicate (8-i) 0)++(Ks.take i++List.replicate (64-i) 0)
def wkSet(i:Nat):List Nat:=if i<8 then ((wk i).set (8+i) (Ks.getD i 0)).set i (Hs.getD i 0) else (wk i).set (8+i) (Ks.getD i 0)
theorem wk_all:((List.range 64).all fun i=>(wkSet i==wk (i+1))&&Nat.beq (wk i).length 72)=true:=by kernel_rfl
theorem wk_last:wk 64=Hs++Ks:=by kernel_rfl
theorem wk_first:wk 0=List.replicate 72 0:=by kernel_rfl
theorem wk_len64:(wk 64).length=72:=by kernel_rfl
theorem root_all:((List.range 64).all fun i=>Nat.beq (root (P64.getD i 0) 3) (Ks.getD i 0)&&(decide (whole (P64.getD i 0) 3<=17)&&(decide (P64.getD i 0<=311)&&(decide (whole (P64.getD i 0) 2<=17)&&(decide (8<=i)||Nat.beq (root (P64.getD i 0) 2) (Hs.getD i 0))))))=true:=by kernel_rfl
structure At(i p k h:Nat):Prop where
 is:P64.getD i 0=p
 le:p<=311
 w3:whole p 3<=17
 w2:whole p 2<=17
 r3:root p 3=k
 r2:i<8->root p 2=h
theorem at_of(i:Nat)(hi:i<64):At i (P64.getD i 0) (Ks.getD i 0) (Hs.getD i 0):=by have h:=List.all_eq_true.1 root_all i (List.mem_range.2 hi);simp only[Bool.and_eq_true,Bool.or_eq_true,decide_eq_true_eq,Nat.beq_eq] at h;obtain⟨h1,h2,h3,h4,h5⟩:=h;exact⟨rfl,h3,h2,h4,h1,fun h8=>by rcases h5 with h'|h';(·omega);exact h'⟩
theorem wk_step(i:Nat)(hi:i<64):wkSet i=wk (i+1)/\(wk i).length=72:=by have h:=List.all_eq_true.1 wk_all i (List.mem_range.2 hi);rw[Bool.and_eq_true,beq_iff_eq] at h;exact⟨h.1,Nat.eq_of_beq_eq_true h.2⟩
end Big
namespace Ref
theorem rowU_set{w:World}{g i t:Nat}{l:List Nat}{x:Nat}(h:w.heap[g]? =some (.cells (l.map U).toArray t (0,0))):
  (w.setCell ⟨g,i,none⟩ (U x)).heap[g]? =some (.cells ((l.set i x).map U).toArray t (0,0)):=by
 rw[gZ h,List.setIfInBounds_toArray,List.map_set]
theorem rowU_cell{w:World}{g i t:Nat}{l:List Nat}(h:w.heap[g]? =some (.cells (l.map U).toArray t (0,0)))(hi:i<l.length):∃v,w.cell? ⟨g,i,none⟩=some v:=by rw[gC h,List.getElem?_toArray,List.getElem?_map,List.getElem?_eq_getElem hi];exact⟨_,rfl⟩
theorem Tryz.array28:Tryz.prog.underlying 65=some (.array (Tryz.prog.arrayLen 65) (Tryz.prog.elem 65)):=by kernel_rfl
theorem Tryz.arrayLen28:Tryz.prog.arrayLen 65=64:=by kernel_rfl
theorem Tryz.elem28:Tryz.prog.elem 65=63:=by kernel_rfl
theorem Tryz.array27:Tryz.prog.underlying 64=some (.array (Tryz.prog.arrayLen 64) (Tryz.prog.elem 64)):=by kernel_rfl
theorem Tryz.arrayLen27:Tryz.prog.arrayLen 64=8:=by kernel_rfl
theorem Tryz.elem27:Tryz.prog.elem 64=63:=by kernel_rfl
theorem Tryz.size26(w:World):(sizeOf 63).run Tryz.prog w=.ok 1 w:=by kernel_rfl
theorem add_off(g o k:Nat):(⟨g,o,none⟩:Addr).add k=⟨g,o+k,none⟩:=by unfold Addr.add;split<;>simp_all
theorem idx28(g o:Nat)(i:Int)(k:Nat)(h:i=k)(hk:k<64)(W:World):
  (Instr.indexAt 65 (.pointer (some ⟨g,o,none⟩)) (.int .i64 i)).run Tryz.prog W=.ok (.pointer (some ⟨g,o+k,none⟩)) W:=by
 subst h;rw[run_indexAt_array W 65 _ _ _ Tryz.array28,Tryz.arrayLen28,Tryz.elem28,if_pos (by omega),Tryz.size26];simp only[Result.andThen_ok,add_off,Int.toNat_natCast,Nat.mul_one]
theorem idx27(g o:Nat)(i:Int)(k:Nat)(h:i=k)(hk:k<8)(W:World):
  (Instr.indexAt 64 (.pointer (some ⟨g,o,none⟩)) (.int .i64 i)).run Tryz.prog W=.ok (.pointer (some ⟨g,o+k,none⟩)) W:=by
 subst h;rw[run_indexAt_array W 64 _ _ _ Tryz.array27,Tryz.arrayLen27,Tryz.elem27,if_pos (by omega),Tryz.size26];simp only[Result.andThen_ok,add_off,Int.toNat_natCast,Nat.mul_one]
theorem Tryz.info30:(Tryz.prog.info? 67).map (·.size)=some 72:=by kernel_rfl
theorem list_of{w:World}{B:Nat}{v:Value}(h:w.ownsRow B 3 1 v 64 (Big.P64.map I)):∃g c,v=.slice (some ⟨g,0,none⟩) 64 c/\B<=g/\g<w.heap.size/\∀i,i<64->w.cell? ⟨g,i,none⟩=some (I (Big.P64.getD i 0)):=by
 have hI:=hasI_of h;obtain⟨hlen,hv| ⟨g,cap,cur,rfl,hg,hheap, -⟩⟩:=h
 ·exact absurd hv.2 (by decide)
 ·obtain⟨a,c,e1,hc⟩:=hI;obtain⟨g',e2,hcell⟩:=hc (by decide);injection e1 with e3 e4 e5;rw[e2] at e3;injection e3 with e6;injection e6 with e7;subst e7;refine⟨g,cap,rfl,hg,?_,fun i hi=>?_⟩
  ·rcases Nat.lt_or_ge g w.heap.size with h'|h'
   ·exact h'
   ·rw[Array.getElem?_eq_none h'] at hheap;cases hheap
  ·have hl:i<Big.P64.length:=hi;rw[hcell i hl,List.getD_eq_getElem?_getD,List.getElem?_eq_getElem hl,Option.getD_some]
theorem worked_any(w:World):
  Calls Tryz.prog 26 #[] w fun e w'=>e=.returned (.agg ((Big.Hs++Big.Ks).map U).toArray)/\Below w.heap.size w w':=by
 go_enter Tryz.func26,Tryz.ntmps26
 go_wp2_with fail
 refine(primes_any _).mono ?_;rintro e w1⟨v,rfl,hown,hb1⟩;have hz:w.heap.size+1<w1.heap.size\/w.heap.size+2=w1.heap.size:=by have:=hb1.size;simp at this;omega
 have hz2:w.heap.size+2<=w1.heap.size:=by have:=hb1.size;simp at this;omega
 have h1row:w1.heap[w.heap.size+1]? =some (.cells ((Big.wk 0).map U).toArray 67 (0,0)):=by rw[Big.wk_first];exact(hb1.block (w.heap.size+1) (by simp)).trans (heap_alloc2_new w _ _)
 have h0row:∃z:Array Value,z.size=72/\w1.heap[w.heap.size]? =some (.cells z 67 (0,0)):=⟨_,rfl,(hb1.block w.heap.size (by simp;omega)).trans (heap_alloc2_old w _ _)⟩;have hbw:Below w.heap.size w w1:=(((Below.refl _ _).alloc gR _).alloc (by simp) _).trans (hb1.mono (by simp;omega));obtain⟨z,hz72,h0row⟩:=h0row;obtain⟨gl,cl,rfl,hg0,hg1,hcl⟩:=list_of hown;have hg2:w.heap.size+2<=gl:=by simpa using hg0
 have HCL:=gH hcl;have H1:=gH h1row;have H0:=gH h0row;have HZ:=gH hz72;have HB:=gH hbw;clear hown hb1 h1row h0row hz72 hbw hz hcl hg0;go_wp2_with fail
 go_loopw [3] (fun iv wq=>∃i:Nat,i<=64/\iv=.int .i64 i/\wq.heap[w.heap.size+1]? =some (.cells ((Big.wk i).map U).toArray 67 (0,0))/\wq.heap[w.heap.size]? =some (.cells z 67 (0,0))/\gl<wq.heap.size/\(∀j,j<64->wq.cell? ⟨gl,j,none⟩=some (I (Big.P64.getD j 0)))/\Below w.heap.size w wq) (fun iv _=>64-(intOf iv).toNat)
 case atStart=>exact⟨0,by omega,rfl,H1.out,H0.out,hg1,HCL.out,HB.out⟩
 case round=>
  clear H1 H0 HCL HB hg1 hz2;obtain⟨i,hi,rfl,h1,h0,hgl,hcl,hb⟩:=hrel;have hs:=hb.size;by_cases hlt:i<64
  ·have hat:=Big.at_of i hlt;obtain⟨hws,hwl⟩:=Big.wk_step i hlt;have hci:=hcl i hlt;obtain⟨old,hold⟩:=rowU_cell (i:=8+i) h1 (by omega);have hfz:∀j,wr.frozen? ⟨w.heap.size+1,j,none⟩=false:=fun j=>gF h1;have ix:=idx28 (w.heap.size+1) 8 (i:Int) i rfl hlt;have HWS:=gH hws;have H1:=gH h1;have H0:=gH h0;have HCL:=gH hcl;have HAT:=gH hat;have HWL:=gH hwl;clear hws h1 h0 hcl hat hwl;unfold Big.wkSet at HWS;generalize Big.P64.getD i 0=p at*;generalize Big.Ks.getD i 0=kk at*;generalize Big.Hs.getD i 0=hh at*;have hp:=HAT.out.le;(go_wp2_with fail);refine(cut3_any p _ hp HAT.out.w3).mono ?_;rintro e w3⟨rfl,hb3⟩;rw[HAT.out.r3];have q1:=gH ((hb3.block (w.heap.size+1) (by omega)).trans H1.out);have q0:=gH ((hb3.block w.heap.size (by omega)).trans H0.out);have qc:=gH (fun j hj=>(hb3.cell (p:=⟨gl,j,none⟩) hgl).trans (HCL.out j hj));have hold3:w3.cell? ⟨w.heap.size+1,8+i,none⟩=some old:=(hb3.cell (p:=⟨w.heap.size+1,8+i,none⟩) (by show w.heap.size+1<wr.heap.size;omega)).trans hold;have hfz3:∀j,w3.frozen? ⟨w.heap.size+1,j,none⟩=false:=fun j=>gF q1.out;have hb3w:=hb.trans (hb3.mono hs);have hs3:=hb3.size;clear H1 H0 HCL hold hfz;by_cases h8:i<8
   ·have hc4:(w3.setCell ⟨w.heap.size+1,8+i,none⟩ (U kk)).cell? ⟨gl,i,none⟩=some (I p):=by
     rw[World.cell?_setCell_other _ _ _ _ (fun e=>by injection e with e1 _ _;omega)];exact(hb3.cell (p:=⟨gl,i,none⟩) hgl).trans hci
    have ix2:=fun W=>(idx27 (w.heap.size+1) 0 (i:Int) i rfl h8 W).trans (by rw[Nat.zero_add]);have r4:=gH (rowU_set (i:=8+i) (x:=kk) q1.out);have r40:=gH ((heap_setCell_other w3 ⟨w.heap.size+1,8+i,none⟩ w.heap.size (U kk) (by simp)).trans q0.out);have r4c:=gH (fun j hj=>(World.cell?_setCell_other w3 ⟨w.heap.size+1,8+i,none⟩ ⟨gl,j,none⟩ (U kk) (fun e=>by injection e with e1 _ _;omega)).trans (qc.out j hj));have hb4w:=hb3w.setCell (p:=⟨w.heap.size+1,8+i,none⟩) (by simp) (U kk);(go_wp2_with fail);refine(cut2_any p _ hp HAT.out.w2).mono ?_;rintro e w5⟨rfl,hb5⟩;rw[HAT.out.r2 h8];have hz5:gl<w5.heap.size:=Nat.lt_of_lt_of_le (by simp;omega) hb5.size;have t1:=gH ((hb5.block (w.heap.size+1) (by simp;omega)).trans r4.out);have t0:=gH ((hb5.block w.heap.size (by simp;omega)).trans r40.out);have tc:=gH (fun j hj=>(hb5.cell (p:=⟨gl,j,none⟩) (by simp;omega)).trans (r4c.out j hj));have hb5w:=hb4w.trans (hb5.mono (by simp;omega));obtain⟨old5,hold5⟩:=rowU_cell (i:=i) t1.out (by rw[List.length_set,HWL.out];omega);have hfz5:∀j,w5.frozen? ⟨w.heap.size+1,j,none⟩=false:=fun j=>gF t1.out;clear hc4 r4 r40 r4c hold3 hfz3;(go_wp2_with fail);go_roundw
    case rel=>
     refine⟨i+1,hlt,by go_num,?_,?_,by simpa using hz5,fun j hj=>?_,hb5w.setCell (by simp) _⟩
     ·rw[rowU_set t1.out];have:=HWS.out;rw[if_pos h8] at this;rw[this]
     ·rw[heap_setCell_other _ _ _ _ (by simp)];exact t0.out
     ·rw[World.cell?_setCell_other _ _ _ _ (fun e=>by injection e with e1 _ _;omega)];exact tc.out j hj
    case measure=>first| (simp[intOf];done)| (simp[intOf];omega)
   ·(go_wp2_with fail);go_roundw
    case rel=>
     refine⟨i+1,hlt,by go_num,?_,?_,by simp;omega,fun j hj=>?_,hb3w.setCell (by simp) _⟩
     ·rw[rowU_set q1.out];have:=HWS.out;rw[if_neg h8] at this;rw[this]
     ·rw[heap_setCell_other _ _ _ _ (by simp)];exact q0.out
     ·rw[World.cell?_setCell_other _ _ _ _ (fun e=>by injection e with e1 _ _;omega)];exact qc.out j hj
    case measure=>first| (simp[intOf];done)| (simp[intOf];omega)
  ·(have e:i=64:=by omega);subst e;(have hA:((Big.wk 64).map U).toArray.size=72:=by rw[List.size_toArray,List.length_map,Big.wk_len64]);have hA1:((Big.wk 64).map U).toArray.all (·.oneCell')=true:=by
    rw[List.all_toArray,List.all_eq_true];intro v hv;obtain⟨n,_,rfl⟩:=List.mem_map.1 hv;rfl
   have HE:=gS (((Big.Hs++Big.Ks).map U).toArray=((Big.wk 64).map U).toArray) (by rw[Big.wk_last]);have H1:=gH h1;have H0:=gH h0;generalize ((Big.wk 64).map U).toArray=A at*;have HI:=gS ((Tryz.prog.info? 67).map (·.size)=some A.size) (by rw[hA];exact Tryz.info30);have HZA:=gS (z.size=A.size) (by rw[hA,HZ.out]);clear hcl h1 h0 hA hlt hi;(go_wp2_with (first| (refine wpList_load_row rfl 67 (.tmp 1) rfl (w.heap.size+1) rfl 67 A (0,0) _ H1.out Tryz.underlying67 rfl HI.out ?_)| (refine wpList_store_row rfl 67 (.tmp 0) (.tmp 27) rfl w.heap.size A rfl rfl 67 z H0.out HI.out HZA.out hA1 ?_)));refine bodyPost_ret (v:=.agg A) ?_ rfl ⟨by rw[HE.out],below_setRow hb gR A⟩;exact results_cell_row rfl _ _ w.heap.size 67 A (0,0) _ rfl (gW H0.out) Tryz.underlying67 rfl HI.out
end Ref
end Go.Proofs.YtenaelkbgkpllaaGreatDoor
