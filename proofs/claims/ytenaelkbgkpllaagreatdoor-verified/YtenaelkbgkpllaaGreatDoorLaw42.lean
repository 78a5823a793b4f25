/- Part 42 of what the four laws rest on: laid by a program out of the texts of wip/T. -/
import Derived.Test.YtenaelkbgkpllaaGreatDoorLaw21
import Derived.Test.YtenaelkbgkpllaaGreatDoorLaw38
import Derived.Test.YtenaelkbgkpllaaGreatDoorLaw41
set_option maxRecDepth 100000
set_option maxHeartbeats 8000000
namespace Go.Proofs.YtenaelkbgkpllaaGreatDoor
open Go.RowKit
def LookRow(w:World)(l:Nat)(s:List UInt8)(i:Nat)(bad:Bool)(vL vK:Value):Prop:=w.heap[l]? =some (.cells #[Sv s,I i,.bool bad,vL,vK] 193 (0,0))
theorem LookRow.lt{w:World}{l:Nat}{s:List UInt8}{i:Nat}{bad:Bool}{vL vK:Value}(h:LookRow w l s i bad vL vK):l<w.heap.size:=(gL h)
theorem i32_signed{n:Nat}(h:n<4294967296):IntKind.i64.wrap (IntKind.i32.wrap (n:Int))=Wd.signed n:=by
 unfold Wd.signed;have h1:IntKind.i32.wrap (n:Int)=if n<2147483648 then (n:Int) else (n:Int)-4294967296:=by simp[IntKind.wrap,IntKind.signed,IntKind.bits];split<;>omega
 rw[h1];split<;>(rw[IntKind.wrap_i64];omega)
theorem lsigned_ref(l:Nat)(s:List UInt8)(i:Nat)(bad:Bool)(vL vK:Value)(w:World)(hl:LookRow w l s i bad vL vK)(hi:i+4<=s.length)(hs:s.length<=140737488355328):
  Calls Tryz.prog 182 #[.pointer (some ⟨l,0,none⟩)] w fun e w'=>e=.returned (I (Wd.signed (Sha.word s i)))/\LookRow w' l s (i+4) bad vL vK/\Keeps (fun k=>k=l) w w':=by
 have hlt:=hl.lt;have HL:=gH hl;have c0:w.cell? ⟨l,0,none⟩=some (Sv s):=by rw[gC hl];rfl
 have c1:w.cell? ⟨l,1,none⟩=some (I i):=by rw[gC hl];rfl
 have HNR:=gH (fun W=>number_ref ⟨s.toArray⟩ i W (by show _<=s.toArray.size;rw[List.size_toArray];exact hi) (by show s.toArray.size<=_;rw[List.size_toArray];unfold maxLen;omega));have HWD:=gS ((⟨s.toArray⟩:ByteArray).data.toList=s) rfl;rw[HWD.out] at HNR;have hlw:=Wd.word_lt s i;have HSG:=gH (i32_signed hlw);generalize Sha.word s i=nn at*;clear hl;go_enter Tryz.func182,Tryz.ntmps182
 go_upto_region 1 with fail
 have hS:w.cell? ⟨l,0,none⟩=some (Sv s)/\w.cell? ⟨l,1,none⟩=some (I i):=⟨c0,c1⟩;go_cut [3] from 4 to 14 (fun v3 wx=>v3=I (Wd.signed nn)/\∃k,wx=w.drewN k)
 case first=>
  go_region_held3 (fun W=>W.cell? ⟨l,0,none⟩=some (Sv s)/\W.cell? ⟨l,1,none⟩=some (I i)) (first|assumption|exact hS|exact⟨by simpa using c0,by simpa using c1⟩) ((go_at_call 158;refine(HNR.out _).mono ?_;rintro _ w6⟨rfl,k6,hk6⟩))
  all_goals (go_wp2_with fail);rw[HSG.out];go_meet;exact⟨rfl,_,rfl⟩
 case rest=>
  obtain⟨rfl,k,rfl⟩:=hcut;have hrow:(w.drewN k).heap[l]? =some (.cells #[Sv s,I i,.bool bad,vL,vK] 193 (0,0)):=HL.out;have hK:Keeps (fun j=>j=l) w (w.drewN k):=⟨rfl,rfl,rfl,Nat.le_refl _,fun _ _ _=>rfl⟩;generalize w.drewN k=w5 at*;have d1:w5.cell? ⟨l,1,none⟩=some (I i):=by rw[gC hrow];rfl
  have hfz:w5.frozen? ⟨l,1,none⟩=false:=gF hrow;have HEND:=gS (LookRow (w5.setCell ⟨l,1,none⟩ (.int .i64 ((i:Int)+4))) l s (i+4) bad vL vK/\Keeps (fun j=>j=l) w (w5.setCell ⟨l,1,none⟩ (.int .i64 ((i:Int)+4)))) (by refine⟨?_,hK.trans (S':=fun j=>j=l) ⟨rfl,rfl,rfl,by simp,fun j hj hn=>Below.heap_setCell _ _ _ _ hn⟩ (fun _ _ h=>h)⟩;have:=heap_setCell_same w5 l 1 #[Sv s,I i,.bool bad,vL,vK] 193 (.int .i64 ((i:Int)+4)) hrow;exact this);clear hrow hK hS c0 c1;go_wp2_with fail
  go_ret;exact⟨rfl,HEND.out⟩
theorem has_ref(l:Nat)(s:List UInt8)(i n:Nat)(bad:Bool)(vL vK:Value)(w:World)(hl:LookRow w l s i bad vL vK)(hi:i<=s.length)(hs:s.length<=140737488355328):
  Calls Tryz.prog 160 #[.pointer (some ⟨l,0,none⟩),I n] w fun e w'=>e=.returned (.bool (!(bad||decide (s.length<i+n))))/\LookRow w' l s i (bad||decide (s.length<i+n)) vL vK/\Keeps (fun k=>k=l) w w':=by
 have hlt:=hl.lt;have HL:=gH hl;have c0:w.cell? ⟨l,0,none⟩=some (Sv s):=by rw[gC hl];rfl
 have c1:w.cell? ⟨l,1,none⟩=some (I i):=by rw[gC hl];rfl
 have c2:w.cell? ⟨l,2,none⟩=some (.bool bad):=by rw[gC hl];rfl
 have hfz:w.frozen? ⟨l,2,none⟩=false:=gF hl;have HSET:=gH (fun b=>show LookRow ((w.setCell ⟨l,2,none⟩ (.bool b)).drew) l s i b vL vK/\Keeps (fun j=>j=l) w ((w.setCell ⟨l,2,none⟩ (.bool b)).drew) from by refine⟨?_,⟨rfl,rfl,rfl,by simp,fun j hj hn=>Below.heap_setCell _ _ _ _ hn⟩⟩;exact heap_setCell_same w l 2 #[Sv s,I i,.bool bad,vL,vK] 193 (.bool b) hl);have hsz:(⟨s.toArray⟩:ByteArray).size=s.length:=by show s.toArray.size=_;rw[List.size_toArray]
 clear hl;cases bad with
 |true=>
  have HEND:=gH (HSET.out true);rw[Bool.true_or];clear HSET HL;go_enter Tryz.func160,Tryz.ntmps160
  go_upto_region 1 with fail
  have hS:w.drew.cell? ⟨l,0,none⟩=some (Sv s)/\w.drew.cell? ⟨l,1,none⟩=some (I i)/\w.drew.cell? ⟨l,2,none⟩=some (.bool true):=⟨by simpa using c0,by simpa using c1,by simpa using c2⟩;refine gX 21 (fun W=>W.cell? ⟨l,0,none⟩=some (Sv s)/\W.cell? ⟨l,1,none⟩=some (I i)/\W.cell? ⟨l,2,none⟩=some (.bool true)) (by kernel_rfl) hS (fun hH=>?_);clear hS;refine tkJ 0 rfl (by kernel_rfl) gJ (by rfl) hH ⟨_,by rintro W⟨z0,z1,z2⟩;go_simp;try with_reducible rfl,?_⟩;try go_simp
  refine tkJ 1 rfl (by kernel_rfl) gJ (by rfl) hH ⟨_,by rintro W⟨z0,z1,z2⟩;go_simp;try with_reducible rfl,?_⟩;try go_simp
  refine tkJ 2 rfl (by kernel_rfl) gJ (by rfl) hH ⟨_,by rintro W⟨z0,z1,z2⟩;go_simp;try with_reducible rfl,?_⟩;try go_simp
  refine tkJ 3 rfl (by kernel_rfl) gJ (by rfl) hH ⟨_,by rintro W⟨z0,z1,z2⟩;go_simp;try with_reducible rfl,?_⟩;try go_simp
  refine tkJ 4 rfl (by kernel_rfl) gJ (by rfl) hH ⟨_,by rintro W⟨z0,z1,z2⟩;go_simp;try with_reducible rfl,?_⟩;try go_simp
  refine tkJ 5 rfl (by kernel_rfl) gJ (by rfl) hH ⟨_,by rintro W⟨z0,z1,z2⟩;go_simp;try with_reducible rfl,?_⟩;try go_simp
  refine tkA 6 (v:=undef) rfl (by kernel_rfl) gI (Or.inr ⟨by rfl,rfl⟩) hH ?_;try go_simp
  refine tkA 7 (v:=undef) rfl (by kernel_rfl) gI (Or.inr ⟨by rfl,rfl⟩) hH ?_;try go_simp
  refine tkA 8 (v:=undef) rfl (by kernel_rfl) gI (Or.inr ⟨by rfl,rfl⟩) hH ?_;try go_simp
  refine tkA 9 (v:=undef) rfl (by kernel_rfl) gI (Or.inr ⟨by rfl,rfl⟩) hH ?_;try go_simp
  refine tkA 10 (v:=undef) rfl (by kernel_rfl) gI (Or.inr ⟨by rfl,rfl⟩) hH ?_;try go_simp
  refine tkA 11 (v:=undef) rfl (by kernel_rfl) gI (Or.inr ⟨by rfl,rfl⟩) hH ?_;try go_simp
  refine tkA 12 (v:=undef) rfl (by kernel_rfl) gI (Or.inr ⟨by rfl,rfl⟩) hH ?_;try go_simp
  refine tkA 13 (v:=undef) rfl (by kernel_rfl) gI (Or.inr ⟨by rfl,rfl⟩) hH ?_;try go_simp
  refine tkA 14 (v:=undef) rfl (by kernel_rfl) gI (Or.inr ⟨by rfl,rfl⟩) hH ?_;try go_simp
  refine tkA 15 (v:=undef) rfl (by kernel_rfl) gI (Or.inr ⟨by rfl,rfl⟩) hH ?_;try go_simp
  refine tkA 16 (v:=undef) rfl (by kernel_rfl) gI (Or.inr ⟨by rfl,rfl⟩) hH ?_;try go_simp
  refine tkA 17 (v:=undef) rfl (by kernel_rfl) gI (Or.inr ⟨by rfl,rfl⟩) hH ?_;try go_simp
  refine tkJ 18 rfl (by kernel_rfl) gJ (by rfl) hH ⟨_,by rintro W⟨z0,z1,z2⟩;go_simp;try with_reducible rfl,?_⟩;try go_simp
  refine gA (i:=19) (by kernel_rfl) rfl (fun K hK=>?_);go_simp;refine hK.out _ _ (fun _=>hH) ?_;clear hK K;try go_simp
  refine gA (i:=20) (by kernel_rfl) rfl (fun K hK=>?_);go_simp;refine hK.out _ _ (fun _=>hH) ?_;clear hK K;try go_simp
  refine gA (i:=21) (by kernel_rfl) rfl (fun K hK=>?_);go_simp;refine hK.out _ _ (fun h=>absurd rfl h) ?_;clear hK K;refine gO (by kernel_rfl) ?_ _;go_wp2_with fail
  go_ret;exact⟨rfl,HEND.out⟩
 |false=>
  rw[Bool.false_or];by_cases hc:s.length<i+n
  ·have HEND:=gH (HSET.out true);(have hc':(s.length:Int)-(i:Int)< (n:Int):=by omega);rw[decide_eq_true hc];clear HSET HL hc;(go_enter Tryz.func160,Tryz.ntmps160);(go_upto_region 1 with fail);have hS:w.drew.cell? ⟨l,0,none⟩=some (Sv s)/\w.drew.cell? ⟨l,1,none⟩=some (I i)/\w.drew.cell? ⟨l,2,none⟩=some (.bool false):=⟨by simpa using c0,by simpa using c1,by simpa using c2⟩;refine gX 21 (fun W=>W.cell? ⟨l,0,none⟩=some (Sv s)/\W.cell? ⟨l,1,none⟩=some (I i)/\W.cell? ⟨l,2,none⟩=some (.bool false)) (by kernel_rfl) hS (fun hH=>?_);clear hS;refine tkJ 0 rfl (by kernel_rfl) gJ (by rfl) hH ⟨_,by rintro W⟨z0,z1,z2⟩;go_simp;try with_reducible rfl,?_⟩;(try go_simp);refine tkJ 1 rfl (by kernel_rfl) gJ (by rfl) hH ⟨_,by rintro W⟨z0,z1,z2⟩;go_simp;try with_reducible rfl,?_⟩;(try go_simp);refine tkJ 2 rfl (by kernel_rfl) gJ (by rfl) hH ⟨_,by rintro W⟨z0,z1,z2⟩;go_simp;try with_reducible rfl,?_⟩;(try go_simp);refine tkJ 3 rfl (by kernel_rfl) gJ (by rfl) hH ⟨_,by rintro W⟨z0,z1,z2⟩;go_simp;try with_reducible rfl,?_⟩;(try go_simp);refine tkJ 4 rfl (by kernel_rfl) gJ (by rfl) hH ⟨_,by rintro W⟨z0,z1,z2⟩;go_simp;try with_reducible rfl,?_⟩;(try go_simp);refine tkJ 5 rfl (by kernel_rfl) gJ (by rfl) hH ⟨_,by rintro W⟨z0,z1,z2⟩;go_simp;try with_reducible rfl,?_⟩;(try go_simp);refine tkJ 6 rfl (by kernel_rfl) gJ (by rfl) hH ⟨_,by rintro W⟨z0,z1,z2⟩;go_simp;try with_reducible rfl,?_⟩;(try go_simp);refine tkJ 7 rfl (by kernel_rfl) gJ (by rfl) hH ⟨_,by rintro W⟨z0,z1,z2⟩;go_simp;try with_reducible rfl,?_⟩;(try go_simp);refine tkJ 8 rfl (by kernel_rfl) gJ (by rfl) hH ⟨_,by rintro W⟨z0,z1,z2⟩;go_simp;try with_reducible rfl,?_⟩;(try go_simp);refine tkJ 9 rfl (by kernel_rfl) gJ (by rfl) hH ⟨_,by rintro W⟨z0,z1,z2⟩;go_simp;try with_reducible rfl,?_⟩;(try go_simp);refine tkJ 10 rfl (by kernel_rfl) gJ (by rfl) hH ⟨_,by rintro W⟨z0,z1,z2⟩;go_simp;try with_reducible rfl,?_⟩;(try go_simp);refine tkJ 11 rfl (by kernel_rfl) gJ (by rfl) hH ⟨_,by rintro W⟨z0,z1,z2⟩;go_simp;try with_reducible rfl,?_⟩;(try go_simp);refine tkJ 12 rfl (by kernel_rfl) gJ (by rfl) hH ⟨_,by rintro W⟨z0,z1,z2⟩;go_simp;try with_reducible rfl,?_⟩;(try go_simp);refine tkJ 13 rfl (by kernel_rfl) gJ (by rfl) hH ⟨_,by rintro W⟨z0,z1,z2⟩;go_simp;try with_reducible rfl,?_⟩;(try go_simp);refine tkJ 14 rfl (by kernel_rfl) gJ (by rfl) hH ⟨_,by rintro W⟨z0,z1,z2⟩;go_simp;try with_reducible rfl,?_⟩;(try go_simp);refine tkJ 15 rfl (by kernel_rfl) gJ (by rfl) hH ⟨_,by rintro W⟨z0,z1,z2⟩;go_simp;try with_reducible rfl,?_⟩;(try go_simp);refine tkJ 16 rfl (by kernel_rfl) gJ (by rfl) hH ⟨_,by rintro W⟨z0,z1,z2⟩;go_simp;try with_reducible rfl,?_⟩;(try go_simp);refine tkJ 17 rfl (by kernel_rfl) gJ (by rfl) hH ⟨_,by rintro W⟨z0,z1,z2⟩;go_simp;try with_reducible rfl,?_⟩;(try go_simp);refine tkJ 18 rfl (by kernel_rfl) gJ (by rfl) hH ⟨_,by rintro W⟨z0,z1,z2⟩;go_simp;try with_reducible rfl,?_⟩;(try go_simp);refine gA (i:=19) (by kernel_rfl) rfl (fun K hK=>?_);go_simp;refine hK.out _ _ (fun _=>hH) ?_;clear hK K;(try go_simp);refine gA (i:=20) (by kernel_rfl) rfl (fun K hK=>?_);go_simp;refine hK.out _ _ (fun _=>hH) ?_;clear hK K;(try go_simp);refine gA (i:=21) (by kernel_rfl) rfl (fun K hK=>?_);go_simp;refine hK.out _ _ (fun h=>absurd rfl h) ?_;clear hK K;refine gO (by kernel_rfl) ?_ _;(go_wp2_with fail);go_ret;exact⟨rfl,HEND.out⟩
  ·have HEND:=gH (HSET.out false);(have hc':¬(s.length:Int)-(i:Int)< (n:Int):=by omega);rw[decide_eq_false hc];clear HSET HL hc;(go_enter Tryz.func160,Tryz.ntmps160);(go_upto_region 1 with fail);have hS:w.drew.cell? ⟨l,0,none⟩=some (Sv s)/\w.drew.cell? ⟨l,1,none⟩=some (I i)/\w.drew.cell? ⟨l,2,none⟩=some (.bool false):=⟨by simpa using c0,by simpa using c1,by simpa using c2⟩;refine gX 21 (fun W=>W.cell? ⟨l,0,none⟩=some (Sv s)/\W.cell? ⟨l,1,none⟩=some (I i)/\W.cell? ⟨l,2,none⟩=some (.bool false)) (by kernel_rfl) hS (fun hH=>?_);clear hS;refine tkJ 0 rfl (by kernel_rfl) gJ (by rfl) hH ⟨_,by rintro W⟨z0,z1,z2⟩;go_simp;try with_reducible rfl,?_⟩;(try go_simp);refine tkJ 1 rfl (by kernel_rfl) gJ (by rfl) hH ⟨_,by rintro W⟨z0,z1,z2⟩;go_simp;try with_reducible rfl,?_⟩;(try go_simp);refine tkJ 2 rfl (by kernel_rfl) gJ (by rfl) hH ⟨_,by rintro W⟨z0,z1,z2⟩;go_simp;try with_reducible rfl,?_⟩;(try go_simp);refine tkJ 3 rfl (by kernel_rfl) gJ (by rfl) hH ⟨_,by rintro W⟨z0,z1,z2⟩;go_simp;try with_reducible rfl,?_⟩;(try go_simp);refine tkJ 4 rfl (by kernel_rfl) gJ (by rfl) hH ⟨_,by rintro W⟨z0,z1,z2⟩;go_simp;try with_reducible rfl,?_⟩;(try go_simp);refine tkJ 5 rfl (by kernel_rfl) gJ (by rfl) hH ⟨_,by rintro W⟨z0,z1,z2⟩;go_simp;try with_reducible rfl,?_⟩;(try go_simp);refine tkJ 6 rfl (by kernel_rfl) gJ (by rfl) hH ⟨_,by rintro W⟨z0,z1,z2⟩;go_simp;try with_reducible rfl,?_⟩;(try go_simp);refine tkJ 7 rfl (by kernel_rfl) gJ (by rfl) hH ⟨_,by rintro W⟨z0,z1,z2⟩;go_simp;try with_reducible rfl,?_⟩;(try go_simp);refine tkJ 8 rfl (by kernel_rfl) gJ (by rfl) hH ⟨_,by rintro W⟨z0,z1,z2⟩;go_simp;try with_reducible rfl,?_⟩;(try go_simp);refine tkJ 9 rfl (by kernel_rfl) gJ (by rfl) hH ⟨_,by rintro W⟨z0,z1,z2⟩;go_simp;try with_reducible rfl,?_⟩;(try go_simp);refine tkJ 10 rfl (by kernel_rfl) gJ (by rfl) hH ⟨_,by rintro W⟨z0,z1,z2⟩;go_simp;try with_reducible rfl,?_⟩;(try go_simp);refine tkJ 11 rfl (by kernel_rfl) gJ (by rfl) hH ⟨_,by rintro W⟨z0,z1,z2⟩;go_simp;try with_reducible rfl,?_⟩;(try go_simp);refine tkJ 12 rfl (by kernel_rfl) gJ (by rfl) hH ⟨_,by rintro W⟨z0,z1,z2⟩;go_simp;try with_reducible rfl,?_⟩;(try go_simp);refine tkJ 13 rfl (by kernel_rfl) gJ (by rfl) hH ⟨_,by rintro W⟨z0,z1,z2⟩;go_simp;try with_reducible rfl,?_⟩;(try go_simp);refine tkJ 14 rfl (by kernel_rfl) gJ (by rfl) hH ⟨_,by rintro W⟨z0,z1,z2⟩;go_simp;try with_reducible rfl,?_⟩;(try go_simp);refine tkJ 15 rfl (by kernel_rfl) gJ (by rfl) hH ⟨_,by rintro W⟨z0,z1,z2⟩;go_simp;try with_reducible rfl,?_⟩;(try go_simp);refine tkJ 16 rfl (by kernel_rfl) gJ (by rfl) hH ⟨_,by rintro W⟨z0,z1,z2⟩;go_simp;try with_reducible rfl,?_⟩;(try go_simp);refine tkJ 17 rfl (by kernel_rfl) gJ (by rfl) hH ⟨_,by rintro W⟨z0,z1,z2⟩;go_simp;try with_reducible rfl,?_⟩;(try go_simp);refine tkJ 18 rfl (by kernel_rfl) gJ (by rfl) hH ⟨_,by rintro W⟨z0,z1,z2⟩;go_simp;try with_reducible rfl,?_⟩;(try go_simp);refine gA (i:=19) (by kernel_rfl) rfl (fun K hK=>?_);go_simp;refine hK.out _ _ (fun _=>hH) ?_;clear hK K;(try go_simp);refine gA (i:=20) (by kernel_rfl) rfl (fun K hK=>?_);go_simp;refine hK.out _ _ (fun _=>hH) ?_;clear hK K;(try go_simp);refine gA (i:=21) (by kernel_rfl) rfl (fun K hK=>?_);go_simp;refine hK.out _ _ (fun h=>absurd rfl h) ?_;clear hK K;refine gO (by kernel_rfl) ?_ _;(go_wp2_with fail);go_ret;exact⟨rfl,HEND.out⟩
def kidV(c:Wd.Chd)(x:Value):List Value:=[I c.box.a,I c.box.b,I c.box.c,I c.box.d,I c.n,Sv c.dig,.bool c.shown,I c.rbox.a,I c.rbox.b,I c.rbox.c,I c.rbox.d,I c.rn,Sv c.rtext,I 0,I 0,x]
theorem kidV_len(c:Wd.Chd)(x:Value):(kidV c x).length=16:=rfl
def zeroKid:Value:=.agg (kidV ⟨⟨0,0,0,0⟩,0,[],false,⟨0,0,0,0⟩,0,[]⟩ (.slice none 0 0)).toArray
theorem Tryz.infoKidZ:(Tryz.prog.info? 196).map (fun i=>(i.zero,i.size,i.bytes))=some (some zeroKid,16,160):=by kernel_rfl
theorem kidV_one(c:Wd.Chd)(x:Value)(hx:x.oneCell'=true):∀u∈kidV c x,u.oneCell'=true:=by intro u hu;simp only[kidV,List.mem_cons,List.not_mem_nil,or_false] at hu;rcases hu with h|h|h|h|h|h|h|h|h|h|h|h|h|h|h|h<;>(rw[h];first|rfl|exact hx)
def KidsRow(w:World)(B:Nat)(v:Value)(K:List Wd.Chd):Prop:=∃xs:List Value,xs.length=K.length/\(∀x∈xs,x.oneCell'=true)/\w.ownsRow B 196 16 v K.length ((K.zip xs).flatMap fun p=>kidV p.1 p.2)
theorem kidsRow_nil(w:World)(B:Nat):KidsRow w B (.slice none 0 0) []:=⟨[],rfl,by simp,World.ownsRow_nil _ _ _ _⟩
theorem KidsRow.keep{S:Nat->Prop}{w w':World}{B:Nat}{v:Value}{K:List Wd.Chd}(h:KidsRow w B v K)(hk:Keeps S w w')(hn:∀g,v.ownBlock=some g->¬S g):KidsRow w' B v K:=by obtain⟨xs,h1,h2,h3⟩:=h;exact⟨xs,h1,h2,gi h3 hk hn⟩
theorem KidsRow.below{w w':World}{B:Nat}{v:Value}{K:List Wd.Chd}(h:KidsRow w B v K)(hb:Below w.heap.size w w'):KidsRow w' B v K:=h.keep (S:=fun _=>False) (Keeps.of_below hb) (fun _ _ h=>h)
theorem KidsRow.lt{w:World}{B g:Nat}{v:Value}{K:List Wd.Chd}(h:KidsRow w B v K)(hg:v.ownBlock=some g):B<=g/\g<w.heap.size:=by obtain⟨xs,_,_,h3⟩:=h;exact World.ownsRow.lt h3 g hg
theorem KidsRow.slice{w:World}{B:Nat}{v:Value}{K:List Wd.Chd}(h:KidsRow w B v K):∃a c,v=.slice a K.length c:=by
 obtain⟨xs,_,_,h3⟩:=h;rcases h3.2 with⟨e,h0⟩| ⟨g,cap,cur,e,_⟩
 ·exact⟨none,0,by rw[e,h0]⟩
 ·exact⟨_,_,e⟩
theorem oF{w:World}{B e size n g:Nat}{v:Value}{xs:List Value}{c:Array Value}{ty:Nat}{fr:Nat×Nat}(h:w.ownsRow B e size v n xs)(hg:w.heap[g]? =some (Obj.cells c ty fr))(ht:ty≠e):v.ownBlock≠some g:=fun e=>by
 rcases h.2 with⟨rfl,_⟩| ⟨g',cap,cur,rfl,_,hg',_⟩
 ·cases e
 ·injection e with e;have e':g'=g:=e;subst e';rw[hg] at hg';injection hg' with hg';injection hg' with _ h2 _;exact ht h2
theorem ownsRow_ty{w:World}{B e size n g:Nat}{v:Value}{xs:List Value}(h:w.ownsRow B e size v n xs)(hg:v.ownBlock=some g):∃c fr,w.heap[g]? =some (Obj.cells c e fr):=by
 rcases h.2 with⟨rfl,_⟩| ⟨g',cap,cur,rfl,_,hg',_⟩
 ·cases hg
 ·injection hg with e;have e':g'=g:=e;subst e';exact⟨_,_,hg'⟩
theorem keeps_drew{S:Nat->Prop}{w w':World}(h:Keeps S w w'):Keeps S w w'.drew:=⟨h.os,h.tape,h.output,h.size,h.block⟩
theorem zl(w:World)(g:Nat)(M:Array Value):Keeps (fun k=>k=g) w (w.setRow g M):=⟨rfl,rfl,rfl,by simp,fun j _ hj=>setRow_other w g j M hj⟩
theorem append_kid{w:World}{B:Nat}{v:Value}{K:List Wd.Chd}(c:Wd.Chd)(x:Value)(hx:x.oneCell'=true)(h:KidsRow w B v K)(hB:B<=w.heap.size)(hn:K.length<=30000):
  ∃v' w',(Builtin.append_ #[191,191] 191 #[v,.slice (some ⟨w.heap.size,0,none⟩) 1 1]).run Tryz.prog (w.alloc (.cells (kidV c x).toArray 196))=.ok v' w'/\KidsRow w' B v' (K++[c])/\w.grownBy w' v.ownBlock/\Fresh w v v':=by
 obtain⟨xs,e1,e2,hown⟩:=h;obtain⟨i0,hi0,hz0,hz1,hz2⟩:=info_parts Tryz.infoKidZ
 obtain⟨v',w',hr,ho,hg,hf⟩:=oC (P:=Tryz.prog) (w.alloc (.cells (kidV c x).toArray 196)) B 191 191 196 i0 zeroKid 16 160 Tryz.underlying191 hi0 hz0 hz1 hz2 rfl (by decide) v K.length _ (hown.alloc _) ⟨w.heap.size,0,none⟩ 1 1 (kidV c x) rfl
  (fun j u hj=>by rw[Addr.add_lit,Nat.zero_add,gC (heap_alloc_new w _),List.getElem?_toArray];exact hj)
  (kidV_one c x hx) (by unfold maxLen;omega) (by omega) (by simp;omega)
 refine⟨v',w',hr,⟨xs++[x],by simp[e1],fun y hy=>?_,?_⟩,⟨hg.os,hg.tape,hg.output,Nat.le_trans (by simp) hg.size,fun j hj hne=>(hg.block j (by simp;omega) hne).trans (Below.heap_alloc w _ j hj)⟩,?_⟩
 ·rcases List.mem_append.1 hy with hy|hy
  ·exact e2 y hy
  ·rw[List.mem_singleton.1 hy];exact hx
 ·rw[List.zip_append e1.symm,List.length_append,List.flatMap_append];simpa using ho
 rcases hf with hf| ⟨g,hf,hgs⟩
 ·exact .inl hf
 ·exact .inr ⟨g,hf,Nat.le_trans (by simp) hgs⟩
theorem KidsRow.at{w:World}{B:Nat}{v:Value}{K:List Wd.Chd}(h:KidsRow w B v K)(j:Nat)(hj:j<K.length):∃g c x,v=.slice (some ⟨g,0,none⟩) K.length c/\B<=g/\g<w.heap.size/\K.length<=c/\x.oneCell'=true/\w.rangeAt g (j*16) (kidV K[j] x):=by
 obtain⟨xs,e1,h1,h2⟩:=h;rcases h2.2 with⟨_,h0⟩| ⟨g,cap,cur,rfl,hB,hg,hcap, -, -, -⟩
 ·omega
 have hz:j< (K.zip xs).length:=by rw[List.length_zip,e1];omega
 have hjx:j<xs.length:=by omega
 refine⟨g,cap,xs[j],rfl,hB,(gL hg),hcap,h1 _ (List.getElem_mem _),fun k u hu=>?_⟩;have hk:k<16:=(List.getElem?_eq_some_iff.1 hu).1;have h:=h2.cells (g:=g) rfl (j*16+k) u (by rw[List.flatMap_def,GI (c:=16) _ j k (fun U hU=>by obtain⟨m,hm,rfl⟩:=List.mem_map.1 hU;rfl) hk,List.getElem?_map,List.getElem?_eq_getElem hz,Option.map_some,Option.bind_some,List.getElem_zip];exact hu);rw[Addr.add_lit,Nat.zero_add] at h;exact h
structure LookAt(w:World)(B l:Nat)(s:List UInt8)(i:Nat)(bad:Bool)(vL vK:Value)(L:List Wd.Pt)(K:List Wd.Chd):Prop where
 row:LookRow w l s i bad vL vK
 pts:Own w B vL L
 kids:KidsRow w B vK K
 base:B<=l
def LS(l:Nat)(vL vK:Value)(k:Nat):Prop:=k=l\/vL.ownBlock=some k\/vK.ownBlock=some k
structure LookTo(w:World)(l:Nat)(vL vK:Value)(w':World)(vL' vK':Value):Prop where
 keeps:Keeps (LS l vL vK) w w'
 fl:FreshR w vL vL'
 fk:FreshR w vK vK'
theorem LookTo.trans{a b c:World}{l:Nat}{vL vK vL' vK' vL'' vK'':Value}(h:LookTo a l vL vK b vL' vK')(k:LookTo b l vL' vK' c vL'' vK''):LookTo a l vL vK c vL'' vK'':=by
 have hsz:=h.keeps.size;refine⟨h.keeps.trans k.keeps (fun j hj e=>?_),fun j hj=>?_,fun j hj=>?_⟩
 ·rcases e with e|e|e
  ·exact .inl e
  ·rcases h.fl j e with e|e
   ·exact .inr (.inl e)
   ·omega
  ·rcases h.fk j e with e|e
   ·exact .inr (.inr e)
   ·omega
 ·rcases k.fl j hj with e|e
  ·exact h.fl j e
  ·exact .inr (by omega)
 ·rcases k.fk j hj with e|e
  ·exact h.fk j e
  ·exact .inr (by omega)
theorem LookTo.own{w w':World}{l:Nat}(vL vK:Value)(h:Keeps (fun k=>k=l) w w'):LookTo w l vL vK w' vL vK:=⟨h.mono (fun _ _ e=> .inl e),fun _ h=> .inl h,fun _ h=> .inl h⟩
theorem LookTo.below{w w':World}{l:Nat}(vL vK:Value)(h:Below w.heap.size w w'):LookTo w l vL vK w' vL vK:=⟨Keeps.of_below h,fun _ h=> .inl h,fun _ h=> .inl h⟩
section
variable {w w' : World} {B l : Nat} {s : List UInt8} {i : Nat} {bad : Bool} {vL vK : Value} {L : List Wd.Pt} {K : List Wd.Chd}
theorem LookAt.lt(h:LookAt w B l s i bad vL vK L K):l<w.heap.size:=h.row.lt
theorem LookAt.apartL(h:LookAt w B l s i bad vL vK L K):vL.ownBlock≠some l:=oF h.pts h.row (by decide)
theorem LookAt.apartK(h:LookAt w B l s i bad vL vK L K):vK.ownBlock≠some l:=by obtain⟨xs,_,_,h3⟩:=h.kids;exact oF h3 h.row (by decide)
theorem LookAt.apart(h:LookAt w B l s i bad vL vK L K)(g:Nat)(hg:vL.ownBlock=some g):vK.ownBlock≠some g:=by obtain⟨c,fr,e⟩:=ownsRow_ty h.pts hg;obtain⟨xs,_,_,h3⟩:=h.kids;exact oF h3 e (by decide)
theorem LookAt.new(h:LookAt w B l s i bad vL vK L K){g:Nat}(hg:w.heap.size<=g):¬LS l vL vK g:=by
 have:=h.lt;rintro (e|e|e)
 ·omega
 ·have:=h.pts.lt e;omega
 ·have:=(h.kids.lt e).2;omega
theorem LookAt.to(h:LookAt w B l s i bad vL vK L K)(hk:Keeps (fun k=>k=l) w w'){i':Nat}{bad':Bool}(hr:LookRow w' l s i' bad' vL vK):LookAt w' B l s i' bad' vL vK L K:=⟨hr,h.pts.keeps hk (fun g hg e=>h.apartL (by rw[hg,e])),h.kids.keep hk (fun g hg e=>h.apartK (by rw[hg,e])),h.base⟩
theorem LookAt.below(h:LookAt w B l s i bad vL vK L K)(hb:Below w.heap.size w w'):LookAt w' B l s i bad vL vK L K:=⟨(hb.block l h.lt).trans h.row,h.pts.below hb,h.kids.below hb,h.base⟩
theorem LookTo.low{vL' vK':Value}(h:LookAt w B l s i bad vL vK L K)(t:LookTo w l vL vK w' vL' vK')(hB:B<=w.heap.size):Below B w w':=⟨t.keeps.os,t.keeps.tape,t.keeps.output,t.keeps.size,fun j hj=>t.keeps.block j (by omega) (fun e=>by
 have:=h.base;rcases e with e|e|e
 ·omega
 ·have:=h.pts.ge e;omega
 ·have:=(h.kids.lt e).1;omega)⟩
theorem LookAt.pointed(h:LookAt w B l s i bad vL vK L K){vL':Value}{L':List Wd.Pt}(hg:w.grownBy w' vL.ownBlock)(ho:Own w' B vL' L')(hf:Fresh w vL vL'):
  LookAt (w'.setCell ⟨l,3,none⟩ vL') B l s i bad vL' vK L' K/\LookTo w l vL vK (w'.setCell ⟨l,3,none⟩ vL') vL' vK:=by
 have hlt:=h.lt;have hrow:w'.heap[l]? =some (.cells #[Sv s,I i,.bool bad,vL,vK] 193 (0,0)):=(hg.block l hlt (fun e=>h.apartL e.symm)).trans h.row;have k1:Keeps (fun j=>j=l) w' (w'.setCell ⟨l,3,none⟩ vL'):=⟨rfl,rfl,rfl,by simp,fun j _ hj=>heap_setCell_other w' ⟨l,3,none⟩ j vL' hj⟩;have k0:Keeps (LS l vL vK) w w':=⟨hg.os,hg.tape,hg.output,hg.size,fun k hk hn=>hg.block k hk (fun e=>hn (.inr (.inl e.symm)))⟩;have hfr:FreshR w vL vL':=fun k hk=>by
  rcases hf with e| ⟨g,e,hgs⟩
  ·exact .inl (e▸hk)
  ·rw[e] at hk;injection hk with hk;exact .inr (hk▸hgs)
 refine⟨⟨?_,ho.keeps k1 (fun g hg' e=>?_),?_,h.base⟩,k0.trans k1 (fun j _ e=> .inl e),hfr,fun _ e=> .inl e⟩
 ·unfold LookRow;rw[gZ hrow];rfl
 ·subst e;rcases hfr g hg' with e|e
  ·exact h.apartL e
  ·omega
 ·exact(h.kids.keep (Keeps.of_grown hg) (fun g hg' e=>h.apart g e.symm hg')).keep k1 (fun g hg' e=>h.apartK (by rw[hg',e]))
theorem LookAt.kidded(h:LookAt w B l s i bad vL vK L K){vK':Value}{K':List Wd.Chd}(hg:w.grownBy w' vK.ownBlock)(ho:KidsRow w' B vK' K')(hf:Fresh w vK vK'):
  LookAt (w'.setCell ⟨l,4,none⟩ vK') B l s i bad vL vK' L K'/\LookTo w l vL vK (w'.setCell ⟨l,4,none⟩ vK') vL vK':=by
 have hlt:=h.lt;have hrow:w'.heap[l]? =some (.cells #[Sv s,I i,.bool bad,vL,vK] 193 (0,0)):=(hg.block l hlt (fun e=>h.apartK e.symm)).trans h.row;have k1:Keeps (fun j=>j=l) w' (w'.setCell ⟨l,4,none⟩ vK'):=⟨rfl,rfl,rfl,by simp,fun j _ hj=>heap_setCell_other w' ⟨l,4,none⟩ j vK' hj⟩;have k0:Keeps (LS l vL vK) w w':=⟨hg.os,hg.tape,hg.output,hg.size,fun k hk hn=>hg.block k hk (fun e=>hn (.inr (.inr e.symm)))⟩;have hfr:FreshR w vK vK':=fun k hk=>by
  rcases hf with e| ⟨g,e,hgs⟩
  ·exact .inl (e▸hk)
  ·rw[e] at hk;injection hk with hk;exact .inr (hk▸hgs)
 refine⟨⟨?_,?_,ho.keep k1 (fun g hg' e=>?_),h.base⟩,k0.trans k1 (fun j _ e=> .inl e),fun _ e=> .inl e,hfr⟩
 ·unfold LookRow;rw[gZ hrow];rfl
 ·exact(h.pts.keeps (Keeps.of_grown hg) (fun g hg' e=>h.apart g hg' e.symm)).keeps k1 (fun g hg' e=>h.apartL (by rw[hg',e]))
 ·subst e;rcases hfr g hg' with e|e
  ·exact h.apartK e
  ·omega
theorem LookAt.badTo(h:LookAt w B l s i bad vL vK L K)(b:Bool):LookAt (w.setCell ⟨l,2,none⟩ (.bool b)) B l s i b vL vK L K/\Keeps (fun k=>k=l) w (w.setCell ⟨l,2,none⟩ (.bool b)):=by have k1:Keeps (fun j=>j=l) w (w.setCell ⟨l,2,none⟩ (.bool b)):=⟨rfl,rfl,rfl,by simp,fun j _ hj=>heap_setCell_other w ⟨l,2,none⟩ j _ hj⟩;refine⟨h.to k1 ?_,k1⟩;unfold LookRow;rw[gZ h.row];rfl
theorem LookAt.placeTo(h:LookAt w B l s i bad vL vK L K)(j:Nat):LookAt (w.setCell ⟨l,1,none⟩ (I j)) B l s j bad vL vK L K/\Keeps (fun k=>k=l) w (w.setCell ⟨l,1,none⟩ (I j)):=by have k1:Keeps (fun j=>j=l) w (w.setCell ⟨l,1,none⟩ (I j)):=⟨rfl,rfl,rfl,by simp,fun k _ hj=>heap_setCell_other w ⟨l,1,none⟩ k _ hj⟩;refine⟨h.to k1 ?_,k1⟩;unfold LookRow;rw[gZ h.row];rfl
theorem LookAt.keep{S:Nat->Prop}(h:LookAt w B l s i bad vL vK L K)(hk:Keeps S w w')(hn:∀k,LS l vL vK k->¬S k):LookAt w' B l s i bad vL vK L K:=⟨(hk.block l h.lt (hn l (.inl rfl))).trans h.row,h.pts.keeps hk (fun g hg=>hn g (.inr (.inl hg))),h.kids.keep hk (fun g hg=>hn g (.inr (.inr hg))),h.base⟩
theorem LookTo.more{a b:World}{vL' vK':Value}{S:Nat->Prop}(h:LookTo w l vL vK a vL' vK')(hk:Keeps S a b)(hn:∀k,k<w.heap.size->¬S k):LookTo w l vL vK b vL' vK':=⟨h.keeps.trans hk (fun j hj e=>absurd e (hn j hj)),h.fl,h.fk⟩
theorem LookTo.step{a b:World}{vL' vK':Value}(h:LookTo w l vL vK a vL' vK')(hk:Keeps (fun k=>k=l) a b):LookTo w l vL vK b vL' vK':=h.trans (LookTo.own vL' vK' hk)
end
def PartOut(w:World)(B l:Nat)(s:List UInt8)(vL vK:Value)(nL nK:Nat)(F:Prop)(G:Nat->List Wd.Pt->List Wd.Chd->Wd.Box->Int->List UInt8->Prop)(e:Ending)(w':World):Prop:=∃(b:Wd.Box) (n:Int) (x:List UInt8) (v vL' vK':Value) (L':List Wd.Pt) (K':List Wd.Chd) (i':Nat) (bad:Bool),e=.returned (.agg (partV b n x 0 0 v))/\v.oneCell'=true/\x.length<=250/\LookAt w' B l s i' bad vL' vK' L' K'/\LookTo w l vL vK w' vL' vK'/\i'<=s.length/\L'.length<=nL/\K'.length<=nK/\((bad=true/\F)\/(bad=false/\G i' L' K' b n x))
def KidOut(w:World)(B l:Nat)(s:List UInt8)(vL vK:Value)(nL nK:Nat)(F:Prop)(G:Nat->List Wd.Pt->List Wd.Chd->Wd.Chd->Prop)(e:Ending)(w':World):Prop:=∃(c:Wd.Chd) (v vL' vK':Value) (L':List Wd.Pt) (K':List Wd.Chd) (i':Nat) (bad:Bool),e=.returned (.agg (kidV c v).toArray)/\v.oneCell'=true/\c.dig.length<=32/\(-2147483648<=c.n/\c.n<2147483648)/\LookAt w' B l s i' bad vL' vK' L' K'/\LookTo w l vL vK w' vL' vK'/\i'<=s.length/\L'.length<=nL/\K'.length<=nK/\((bad=true/\F)\/(bad=false/\G i' L' K' c))
end Go.Proofs.YtenaelkbgkpllaaGreatDoor
