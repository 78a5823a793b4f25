/- Part 47 of what the four laws rest on: laid by a program out of the texts of wip/T. -/
import Derived.Test.YtenaelkbgkpllaaGreatDoorLaw46
set_option maxRecDepth 100000
set_option maxHeartbeats 8000000
namespace Go.Proofs.YtenaelkbgkpllaaGreatDoor
open Go.RowKit
theorem turned_neg(s:List UInt8)(a:Int)(w:World)(hs:s≠[])(hl:s.length<=1000000000000)(a1: -9223372036854775808<=a)(a2:a<0)(h8:(-(a+1))%8=0\/(-(a+1))%8=1\/(-(a+1))%8=3):Calls Tryz.prog 62 #[Sv s,I a] w fun e w'=>TextOut w (2*s.length+1) e w':=by
 have hz:(⟨s.toArray⟩:ByteArray).size=s.length:=by show s.toArray.size=_;rw[List.size_toArray]
 have hn:0<s.length:=List.length_pos_iff.2 hs;have hne:¬(s.length:Int)=0:=by omega
 have b1:0<= -(a+1):=by omega
 have b2: -(a+1)<=9223372036854775807:=by omega
 have hnb:((s.length:Int)==0)=false:=by simpa using hne
 have hab:decide (a<0)=true:=by simpa using a2
 go_enter Tryz.func62,Tryz.ntmps62
 go_upto_region 5 with fail
 generalize -(a+1)=b at*;go_upto_region 8 with fail
 have hm0:=Int.emod_nonneg (b/8) hne;have hm1:=Int.emod_lt_of_pos (b/8) (show(0:Int)< (s.length:Int) by omega);obtain⟨i,hi⟩:∃i:Nat,b/8%(s.length:Int)=(i:Int):=⟨(b/8%(s.length:Int)).toNat,by omega⟩;rw[hi] at hm0 hm1⊢;have hil:i<s.length:=by omega
 generalize (wrap64 (1+(b/8/(s.length:Int)).tmod 255)%256)=vv;generalize (b/8/(s.length:Int))=qq;have hs1:=GA s i (by omega);have hs2:=oH s i (by omega);have hs3:∀W,(Instr.slice 9 (Sv s) (some (.int .i64 ((i:Int)+1))) none none).run Tryz.prog W=.ok (Sv (s.drop (i+1))) W:=fun W=>by
  have h:=oH s (i+1) (by omega) W;have e:((i+1:Nat):Int)=(i:Int)+1:=by omega
  rw[e] at h;exact h
 have l1:(s.take i).length<=s.length:=by rw[List.length_take];omega
 have l2:(s.drop i).length<=s.length:=by rw[List.length_drop];omega
 have l3:(s.drop (i+1)).length<=s.length:=by rw[List.length_drop];omega
 have hwi:IntKind.i64.wrap ((i:Int)+1)=(i:Int)+1:=by rw[IntKind.wrap_i64];omega
 rcases h8 with h8|h8|h8
 ·rw[h8];go_wp2_with fail
  go_ret;exact⟨⟨_,rfl,by omega⟩,Below.refl _ _⟩
 ·rw[h8];have ha1:=gm (s.take i) (s.drop (i+1)) (by omega);go_wp2_with fail
  go_quiet (fail)
  generalize hW:World.drewN w nq=w9;have HB:=gS (Below w.heap.size w w9) (by rw[<-hW];exact⟨rfl,rfl,rfl,Nat.le_refl _,fun _ _=>rfl⟩);clear hW;go_wp2_with fail
  go_ret;exact⟨⟨s.take i++s.drop (i+1),rfl,by rw[List.length_append];omega⟩,HB.out⟩
 ·rw[h8];have ha1:=gm s (s.drop i) (by omega);go_wp2_with fail
  go_ret;exact⟨⟨s++s.drop i,rfl,by rw[List.length_append];omega⟩,Below.refl _ _⟩
theorem turned_twoN(s:List UInt8)(a:Int)(w:World)(hs:s≠[])(hl:s.length<=1000000000000)(a1: -9223372036854775808<=a)(a2:a<0)(h8:(-(a+1))%8=2):Calls Tryz.prog 62 #[Sv s,I a] w fun e w'=>TextOut w (2*s.length+1) e w':=by
 have hz:(⟨s.toArray⟩:ByteArray).size=s.length:=by show s.toArray.size=_;rw[List.size_toArray]
 have hn:0<s.length:=List.length_pos_iff.2 hs;have hne:¬(s.length:Int)=0:=by omega
 have b1:0<= -(a+1):=by omega
 have b2: -(a+1)<=9223372036854775807:=by omega
 have hnb:((s.length:Int)==0)=false:=by simpa using hne
 have hab:decide (a<0)=true:=by simpa using a2
 go_enter Tryz.func62,Tryz.ntmps62
 go_upto_region 5 with fail
 generalize -(a+1)=b at*;go_upto_region 8 with fail
 have hm0:=Int.emod_nonneg (b/8) hne;have hm1:=Int.emod_lt_of_pos (b/8) (show(0:Int)< (s.length:Int) by omega);obtain⟨i,hi⟩:∃i:Nat,b/8%(s.length:Int)=(i:Int):=⟨(b/8%(s.length:Int)).toNat,by omega⟩;rw[hi] at hm0 hm1⊢;have hil:i<s.length:=by omega
 have hv0:0<=wrap64 (1+(b/8/(s.length:Int)).tmod 255)%256:=Int.emod_nonneg _ (by decide);have hv1:wrap64 (1+(b/8/(s.length:Int)).tmod 255)%256<256:=Int.emod_lt_of_pos _ (by decide);generalize (wrap64 (1+(b/8/(s.length:Int)).tmod 255)%256)=vv at*;obtain⟨bv,hbv⟩:∃bv:UInt8,vv=(bv.toNat:Int):=⟨UInt8.ofNat vv.toNat,by simp;omega⟩;subst hbv;generalize (b/8/(s.length:Int))=qq;have hs1:=GA s i (by omega);have hs2:=oH s i (by omega);have hs3:∀W,(Instr.slice 9 (Sv s) (some (.int .i64 ((i:Int)+1))) none none).run Tryz.prog W=.ok (Sv (s.drop (i+1))) W:=fun W=>by
  have h:=oH s (i+1) (by omega) W;have e:((i+1:Nat):Int)=(i:Int)+1:=by omega
  rw[e] at h;exact h
 have l1:(s.take i).length<=s.length:=by rw[List.length_take];omega
 have l2:(s.drop i).length<=s.length:=by rw[List.length_drop];omega
 have l3:(s.drop (i+1)).length<=s.length:=by rw[List.length_drop];omega
 have hwi:IntKind.i64.wrap ((i:Int)+1)=(i:Int)+1:=by rw[IntKind.wrap_i64];omega
 rw[h8];have ha1:=gm (s.take i) [bv] (by simp;omega);have ha2:=gm (s.take i++[bv]) (s.drop i) (by simp;omega);have hcv:(convert 59 9 (.slice (some ⟨w.heap.size,0,none⟩) 1 1)).run Tryz.prog ((w.alloc (.cells #[.int .u8 (bv.toNat:Int)] 5)).drew)=.ok (Sv [bv]) ((w.alloc (.cells #[.int .u8 (bv.toNat:Int)] 5)).drew):=oL w.heap.size 1 1 [bv] rfl _ (fun j u hj=>by
  match j,hj with
  |0,hj=>simp at hj;subst hj;exact(cell_of_row ((w.alloc (.cells #[.int .u8 (bv.toNat:Int)] 5)).drew) w.heap.size 0 #[.int .u8 (bv.toNat:Int)] 5 (0,0) (heap_alloc_new w _)).trans rfl)
 go_upto_region 13 with fail
 refine gX 11 (fun _=>True) (by kernel_rfl) trivial (fun hH=>?_);refine tkJ 0 rfl (by kernel_rfl) gJ (by rfl) hH ⟨_,by rintro W -;go_simp;try with_reducible rfl,?_⟩;try go_simp
 refine tkJ 1 rfl (by kernel_rfl) gJ (by rfl) hH ⟨_,by rintro W -;go_simp;try with_reducible rfl,?_⟩;try go_simp
 refine tkJ 2 rfl (by kernel_rfl) gJ (by rfl) hH ⟨_,by rintro W -;go_simp;try with_reducible rfl,?_⟩;try go_simp
 refine tkJ 3 rfl (by kernel_rfl) gJ (by rfl) hH ⟨_,by rintro W -;go_simp;try with_reducible rfl,?_⟩;try go_simp
 refine tkJ 7 rfl (by kernel_rfl) gJ (by rfl) hH ⟨_,by rintro W -;go_simp;try with_reducible rfl,?_⟩;try go_simp
 refine tkJ 8 rfl (by kernel_rfl) gJ (by rfl) hH ⟨_,by rintro W -;go_simp;try with_reducible rfl,?_⟩;try go_simp
 refine tkJ 9 rfl (by kernel_rfl) gJ (by rfl) hH ⟨_,by rintro W -;go_simp;try with_reducible rfl,?_⟩;try go_simp
 refine gA (i:=4) (by kernel_rfl) rfl (fun K hK=>?_);go_simp;refine hK.out _ _ (fun _=>trivial) ?_;clear hK K;try go_simp
 refine gA (i:=5) (by kernel_rfl) rfl (fun K hK=>?_);go_simp;refine hK.out _ _ (fun _=>trivial) ?_;clear hK K;try go_simp
 refine gA (i:=6) (by kernel_rfl) rfl (fun K hK=>?_);go_simp;refine hK.out _ _ (fun _=>trivial) ?_;clear hK K;try go_simp
 refine gA (i:=10) (by kernel_rfl) rfl (fun K hK=>?_);go_simp;refine hK.out _ _ (fun _=>trivial) ?_;clear hK K;try go_simp
 refine gA (i:=11) (by kernel_rfl) rfl (fun K hK=>?_);go_simp;refine hK.out _ _ (fun h=>absurd rfl h) ?_;clear hK K;refine gO (by kernel_rfl) ?_ _;have hb9:=(gB w (.cells #[.int .u8 (bv.toNat:Int)] 5)).drew;generalize (w.alloc (.cells #[.int .u8 (bv.toNat:Int)] 5)).drew=w9 at*;have HB:=gH hb9;clear hb9 hcv;go_wp2_with fail
 go_ret;exact⟨⟨s.take i++[bv]++s.drop i,by simp,by simp;omega⟩,HB.out⟩
theorem turned_restN(s:List UInt8)(a:Int)(w:World)(hs:s≠[])(hl:s.length<=1000000000000)(a1: -9223372036854775808<=a)(a2:a<0)(h8:(-(a+1))%8≠0/\(-(a+1))%8≠1/\(-(a+1))%8≠2/\(-(a+1))%8≠3):Calls Tryz.prog 62 #[Sv s,I a] w fun e w'=>TextOut w (2*s.length+1) e w':=by
 have hz:(⟨s.toArray⟩:ByteArray).size=s.length:=by show s.toArray.size=_;rw[List.size_toArray]
 have hn:0<s.length:=List.length_pos_iff.2 hs;have hne:¬(s.length:Int)=0:=by omega
 have b1:0<= -(a+1):=by omega
 have b2: -(a+1)<=9223372036854775807:=by omega
 have hnb:((s.length:Int)==0)=false:=by simpa using hne
 have hab:decide (a<0)=true:=by simpa using a2
 go_enter Tryz.func62,Tryz.ntmps62
 go_upto_region 5 with fail
 generalize -(a+1)=b at*;go_upto_region 8 with fail
 have hm0:=Int.emod_nonneg (b/8) hne;have hm1:=Int.emod_lt_of_pos (b/8) (show(0:Int)< (s.length:Int) by omega);obtain⟨i,hi⟩:∃i:Nat,b/8%(s.length:Int)=(i:Int):=⟨(b/8%(s.length:Int)).toNat,by omega⟩;rw[hi] at hm0 hm1⊢;have hil:i<s.length:=by omega
 have hv0:0<=wrap64 (1+(b/8/(s.length:Int)).tmod 255)%256:=Int.emod_nonneg _ (by decide);have hv1:wrap64 (1+(b/8/(s.length:Int)).tmod 255)%256<256:=Int.emod_lt_of_pos _ (by decide);generalize (wrap64 (1+(b/8/(s.length:Int)).tmod 255)%256)=vv at*;obtain⟨bv,hbv⟩:∃bv:UInt8,vv=(bv.toNat:Int):=⟨UInt8.ofNat vv.toNat,by simp;omega⟩;subst hbv;generalize (b/8/(s.length:Int))=qq;have hs1:=GA s i (by omega);have hs2:=oH s i (by omega);have hs3:∀W,(Instr.slice 9 (Sv s) (some (.int .i64 ((i:Int)+1))) none none).run Tryz.prog W=.ok (Sv (s.drop (i+1))) W:=fun W=>by
  have h:=oH s (i+1) (by omega) W;have e:((i+1:Nat):Int)=(i:Int)+1:=by omega
  rw[e] at h;exact h
 have l1:(s.take i).length<=s.length:=by rw[List.length_take];omega
 have l2:(s.drop i).length<=s.length:=by rw[List.length_drop];omega
 have l3:(s.drop (i+1)).length<=s.length:=by rw[List.length_drop];omega
 have hwi:IntKind.i64.wrap ((i:Int)+1)=(i:Int)+1:=by rw[IntKind.wrap_i64];omega
 obtain⟨e0,e1,e2,e3⟩:=h8;have hix:=oX ⟨s.toArray⟩ (i:Int) i rfl (by rw[hz];omega);generalize b%8=r8 at*;go_upto_region 16 with fail
 refine gX 16 (fun _=>True) (by kernel_rfl) trivial (fun hH=>?_);refine tkJ 0 rfl (by kernel_rfl) gJ (by rfl) hH ⟨_,by rintro W -;go_simp;try with_reducible rfl,?_⟩;try go_simp
 refine tkJ 1 rfl (by kernel_rfl) gJ (by rfl) hH ⟨_,by rintro W -;go_simp;try with_reducible rfl,?_⟩;try go_simp
 refine tkJ 2 rfl (by kernel_rfl) gJ (by rfl) hH ⟨_,by rintro W -;go_simp;try with_reducible rfl,?_⟩;try go_simp
 refine tkJ 3 rfl (by kernel_rfl) gJ (by rfl) hH ⟨_,by rintro W -;go_simp;try with_reducible rfl,?_⟩;try go_simp
 refine tkJ 4 rfl (by kernel_rfl) gJ (by rfl) hH ⟨_,by rintro W -;go_simp;try with_reducible rfl,?_⟩;try go_simp
 refine tkJ 5 rfl (by kernel_rfl) gJ (by rfl) hH ⟨_,by rintro W -;go_simp;try with_reducible rfl,?_⟩;try go_simp
 refine tkJ 6 rfl (by kernel_rfl) gJ (by rfl) hH ⟨_,by rintro W -;go_simp;try with_reducible rfl,?_⟩;try go_simp
 refine tkJ 7 rfl (by kernel_rfl) gJ (by rfl) hH ⟨_,by rintro W -;go_simp;try with_reducible rfl,?_⟩;try go_simp
 have hxb:=bounds_u8 (wf_bits .xor .u8 (Sha.byteAt s i:Int) (bv.toNat:Int));generalize bits .xor .u8 (Sha.byteAt s i:Int) (bv.toNat:Int)=xv at*;obtain⟨bx,hbx⟩:∃bx:UInt8,xv=(bx.toNat:Int):=⟨UInt8.ofNat xv.toNat,by simp;omega⟩;subst hbx;have ha1:=gm (s.take i) [bx] (by simp;omega);have ha2:=gm (s.take i++[bx]) (s.drop (i+1)) (by simp;omega);have hcv:(convert 59 9 (.slice (some ⟨w.heap.size,0,none⟩) 1 1)).run Tryz.prog ((w.alloc (.cells #[.int .u8 (bx.toNat:Int)] 5)).drew)=.ok (Sv [bx]) ((w.alloc (.cells #[.int .u8 (bx.toNat:Int)] 5)).drew):=oL w.heap.size 1 1 [bx] rfl _ (fun j u hj=>by
  match j,hj with
  |0,hj=>simp at hj;subst hj;exact(cell_of_row ((w.alloc (.cells #[.int .u8 (bx.toNat:Int)] 5)).drew) w.heap.size 0 #[.int .u8 (bx.toNat:Int)] 5 (0,0) (heap_alloc_new w _)).trans rfl)
 refine tkJ 11 rfl (by kernel_rfl) gJ (by rfl) hH ⟨_,by rintro W -;go_simp;try with_reducible rfl,?_⟩;try go_simp
 refine tkJ 12 rfl (by kernel_rfl) gJ (by rfl) hH ⟨_,by rintro W -;go_simp;try with_reducible rfl,?_⟩;try go_simp
 refine tkJ 13 rfl (by kernel_rfl) gJ (by rfl) hH ⟨_,by rintro W -;go_simp;try with_reducible rfl,?_⟩;try go_simp
 refine tkJ 14 rfl (by kernel_rfl) gJ (by rfl) hH ⟨_,by rintro W -;go_simp;try with_reducible rfl,?_⟩;try go_simp
 refine gA (i:=8) (by kernel_rfl) rfl (fun K hK=>?_);go_simp;refine hK.out _ _ (fun _=>trivial) ?_;clear hK K;try go_simp
 refine gA (i:=9) (by kernel_rfl) rfl (fun K hK=>?_);go_simp;refine hK.out _ _ (fun _=>trivial) ?_;clear hK K;try go_simp
 refine gA (i:=10) (by kernel_rfl) rfl (fun K hK=>?_);go_simp;refine hK.out _ _ (fun _=>trivial) ?_;clear hK K;try go_simp
 refine gA (i:=15) (by kernel_rfl) rfl (fun K hK=>?_);go_simp;refine hK.out _ _ (fun _=>trivial) ?_;clear hK K;try go_simp
 refine gA (i:=16) (by kernel_rfl) rfl (fun K hK=>?_);go_simp;refine hK.out _ _ (fun h=>absurd rfl h) ?_;clear hK K;refine gO (by kernel_rfl) ?_ _;have hb9:=(gB w (.cells #[.int .u8 (bx.toNat:Int)] 5)).drew;generalize (w.alloc (.cells #[.int .u8 (bx.toNat:Int)] 5)).drew=w9 at*;have HB:=gH hb9;clear hb9 hcv;go_wp2_with fail
 go_ret;exact⟨⟨s.take i++[bx]++s.drop (i+1),by simp,by simp;omega⟩,HB.out⟩
theorem turned_any(s:List UInt8)(a:Int)(w:World)(hl:s.length<=1000000000000)(ha:I64 a):Calls Tryz.prog 62 #[Sv s,I a] w fun e w'=>TextOut w (2*s.length+1) e w':=by
 by_cases hs:s=[]
 ·subst hs;refine(turned_nil a w).mono ?_;rintro e w'⟨⟨t,e,ht⟩,hb⟩;exact⟨⟨t,e,by simp;omega⟩,hb⟩
 ·obtain⟨a1,a2⟩:=ha;by_cases hn:a<0
  ·by_cases h1:(-(a+1))%8=0\/(-(a+1))%8=1\/(-(a+1))%8=3
   ·exact turned_neg s a w hs hl a1 hn h1
   ·by_cases h2:(-(a+1))%8=2
    ·exact turned_twoN s a w hs hl a1 hn h2
    ·exact turned_restN s a w hs hl a1 hn ⟨fun e=>h1 (.inl e),fun e=>h1 (.inr (.inl e)),h2,fun e=>h1 (.inr (.inr e))⟩
  ·by_cases h1:a%8=0\/a%8=1\/a%8=3
   ·exact turned_pos s a w hs hl (by omega) a2 h1
   ·by_cases h2:a%8=2
    ·exact turned_two s a w hs hl (by omega) a2 h2
    ·exact turned_rest s a w hs hl (by omega) a2 ⟨fun e=>h1 (.inl e),fun e=>h1 (.inr (.inl e)),h2,fun e=>h1 (.inr (.inr e))⟩
end Go.Proofs.YtenaelkbgkpllaaGreatDoor
