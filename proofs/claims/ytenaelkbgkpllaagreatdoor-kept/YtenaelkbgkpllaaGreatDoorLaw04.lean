/- Part 4 of what the four laws rest on: laid by a program out of the texts of wip/T. -/
import Derived.Test.YtenaelkbgkpllaaGreatDoorLaw01
import Derived.Test.YtenaelkbgkpllaaGreatDoorLaw02
import Derived.BigQuiet
import Derived.Deep.RegionHeld3
import Derived.Deep.WholeRow
import Derived.Laws.CopyOwn
import Derived.Test.YtenaelkbgkpllaaGreatDoorRows
import Derived.WalkKit
import Derived.WalkLawsBesides
import Derived.WalkSpells
set_option maxRecDepth 100000
set_option maxHeartbeats 8000000
namespace Go.Proofs.YtenaelkbgkpllaaGreatDoor
open Go.RowKit
theorem gq{a b:Int}(h:a=b):Ending.returned (.int .u32 a)=.returned (.int .u32 b):=by rw[h]
theorem or32{x y:Int}(a b:Nat)(hx:x=a)(hy:y=b)(ha:a<4294967296)(hb:b<4294967296):bits .or .u32 x y=((a ||| b:Nat):Int):=by rw[hx,hy];exact u32_or_nat a b ha hb
theorem and32{x y:Int}(a b:Nat)(hx:x=a)(hy:y=b)(ha:a<4294967296)(hb:b<4294967296):bits .and .u32 x y=((a &&& b:Nat):Int):=by rw[hx,hy];exact u32_and_nat a b ha hb
theorem xor32{x y:Int}(a b:Nat)(hx:x=a)(hy:y=b)(ha:a<4294967296)(hb:b<4294967296):bits .xor .u32 x y=((a ^^^ b:Nat):Int):=by rw[hx,hy];exact u32_xor_nat a b ha hb
theorem max32:IntKind.u32.max=((4294967295:Nat):Int):=by decide
theorem turn2(x:Nat)(w:World)(hx:x<4294967296):
  Calls Tryz.prog 186 #[.int .u32 x,.int .i64 2] w fun e w'=>e=.returned (.int .u32 (Sha.ror 2 x:Nat))/\w'=w:=by
 have hb:bits BinOp.and IntKind.u64 (IntKind.u64.wrap (-2)) 31=30:=by decide
 go_enter Tryz.func186,Tryz.ntmps186
 go_wp2;go_ret;refine⟨gq ?_,rfl⟩;exact or32 (x*1073741824%4294967296) (x/4) (by omega) (by omega) (Nat.mod_lt _ (by decide)) (Sha.div_lt hx)
theorem turn6(x:Nat)(w:World)(hx:x<4294967296):
  Calls Tryz.prog 186 #[.int .u32 x,.int .i64 6] w fun e w'=>e=.returned (.int .u32 (Sha.ror 6 x:Nat))/\w'=w:=by
 have hb:bits BinOp.and IntKind.u64 (IntKind.u64.wrap (-6)) 31=26:=by decide
 go_enter Tryz.func186,Tryz.ntmps186
 go_wp2;go_ret;refine⟨gq ?_,rfl⟩;exact or32 (x*67108864%4294967296) (x/64) (by omega) (by omega) (Nat.mod_lt _ (by decide)) (Sha.div_lt hx)
theorem turn7(x:Nat)(w:World)(hx:x<4294967296):
  Calls Tryz.prog 186 #[.int .u32 x,.int .i64 7] w fun e w'=>e=.returned (.int .u32 (Sha.ror 7 x:Nat))/\w'=w:=by
 have hb:bits BinOp.and IntKind.u64 (IntKind.u64.wrap (-7)) 31=25:=by decide
 go_enter Tryz.func186,Tryz.ntmps186
 go_wp2;go_ret;refine⟨gq ?_,rfl⟩;exact or32 (x*33554432%4294967296) (x/128) (by omega) (by omega) (Nat.mod_lt _ (by decide)) (Sha.div_lt hx)
theorem turn11(x:Nat)(w:World)(hx:x<4294967296):
  Calls Tryz.prog 186 #[.int .u32 x,.int .i64 11] w fun e w'=>e=.returned (.int .u32 (Sha.ror 11 x:Nat))/\w'=w:=by
 have hb:bits BinOp.and IntKind.u64 (IntKind.u64.wrap (-11)) 31=21:=by decide
 go_enter Tryz.func186,Tryz.ntmps186
 go_wp2;go_ret;refine⟨gq ?_,rfl⟩;exact or32 (x*2097152%4294967296) (x/2048) (by omega) (by omega) (Nat.mod_lt _ (by decide)) (Sha.div_lt hx)
theorem turn13(x:Nat)(w:World)(hx:x<4294967296):
  Calls Tryz.prog 186 #[.int .u32 x,.int .i64 13] w fun e w'=>e=.returned (.int .u32 (Sha.ror 13 x:Nat))/\w'=w:=by
 have hb:bits BinOp.and IntKind.u64 (IntKind.u64.wrap (-13)) 31=19:=by decide
 go_enter Tryz.func186,Tryz.ntmps186
 go_wp2;go_ret;refine⟨gq ?_,rfl⟩;exact or32 (x*524288%4294967296) (x/8192) (by omega) (by omega) (Nat.mod_lt _ (by decide)) (Sha.div_lt hx)
theorem turn17(x:Nat)(w:World)(hx:x<4294967296):
  Calls Tryz.prog 186 #[.int .u32 x,.int .i64 17] w fun e w'=>e=.returned (.int .u32 (Sha.ror 17 x:Nat))/\w'=w:=by
 have hb:bits BinOp.and IntKind.u64 (IntKind.u64.wrap (-17)) 31=15:=by decide
 go_enter Tryz.func186,Tryz.ntmps186
 go_wp2;go_ret;refine⟨gq ?_,rfl⟩;exact or32 (x*32768%4294967296) (x/131072) (by omega) (by omega) (Nat.mod_lt _ (by decide)) (Sha.div_lt hx)
theorem turn18(x:Nat)(w:World)(hx:x<4294967296):
  Calls Tryz.prog 186 #[.int .u32 x,.int .i64 18] w fun e w'=>e=.returned (.int .u32 (Sha.ror 18 x:Nat))/\w'=w:=by
 have hb:bits BinOp.and IntKind.u64 (IntKind.u64.wrap (-18)) 31=14:=by decide
 go_enter Tryz.func186,Tryz.ntmps186
 go_wp2;go_ret;refine⟨gq ?_,rfl⟩;exact or32 (x*16384%4294967296) (x/262144) (by omega) (by omega) (Nat.mod_lt _ (by decide)) (Sha.div_lt hx)
theorem turn19(x:Nat)(w:World)(hx:x<4294967296):
  Calls Tryz.prog 186 #[.int .u32 x,.int .i64 19] w fun e w'=>e=.returned (.int .u32 (Sha.ror 19 x:Nat))/\w'=w:=by
 have hb:bits BinOp.and IntKind.u64 (IntKind.u64.wrap (-19)) 31=13:=by decide
 go_enter Tryz.func186,Tryz.ntmps186
 go_wp2;go_ret;refine⟨gq ?_,rfl⟩;exact or32 (x*8192%4294967296) (x/524288) (by omega) (by omega) (Nat.mod_lt _ (by decide)) (Sha.div_lt hx)
theorem turn22(x:Nat)(w:World)(hx:x<4294967296):
  Calls Tryz.prog 186 #[.int .u32 x,.int .i64 22] w fun e w'=>e=.returned (.int .u32 (Sha.ror 22 x:Nat))/\w'=w:=by
 have hb:bits BinOp.and IntKind.u64 (IntKind.u64.wrap (-22)) 31=10:=by decide
 go_enter Tryz.func186,Tryz.ntmps186
 go_wp2;go_ret;refine⟨gq ?_,rfl⟩;exact or32 (x*1024%4294967296) (x/4194304) (by omega) (by omega) (Nat.mod_lt _ (by decide)) (Sha.div_lt hx)
theorem turn25(x:Nat)(w:World)(hx:x<4294967296):
  Calls Tryz.prog 186 #[.int .u32 x,.int .i64 25] w fun e w'=>e=.returned (.int .u32 (Sha.ror 25 x:Nat))/\w'=w:=by
 have hb:bits BinOp.and IntKind.u64 (IntKind.u64.wrap (-25)) 31=7:=by decide
 go_enter Tryz.func186,Tryz.ntmps186
 go_wp2;go_ret;refine⟨gq ?_,rfl⟩;exact or32 (x*128%4294967296) (x/33554432) (by omega) (by omega) (Nat.mod_lt _ (by decide)) (Sha.div_lt hx)
theorem bs1_any(x:Nat)(w:World)(hx:x<4294967296):
  Calls Tryz.prog 165 #[.int .u32 x] w fun e w'=>e=.returned (.int .u32 (Sha.bs1 x:Nat))/\w'=w:=by
 go_enter Tryz.func165,Tryz.ntmps165
 go_wp2_with fail
 refine(turn6 x _ hx).mono ?_;rintro e w'⟨rfl,rfl⟩;go_wp2_with fail
 refine(turn11 x _ hx).mono ?_;rintro e w'⟨rfl,rfl⟩;go_wp2_with fail
 refine(turn25 x _ hx).mono ?_;rintro e w'⟨rfl,rfl⟩;go_wp2_with fail
 go_ret;refine⟨gq ?_,rfl⟩;exact xor32 (Sha.ror 6 x ^^^ Sha.ror 11 x) (Sha.ror 25 x) (xor32 _ _ rfl rfl (Sha.ror_lt hx) (Sha.ror_lt hx)) rfl (Sha.xor_lt (Sha.ror_lt hx) (Sha.ror_lt hx)) (Sha.ror_lt hx)
theorem bs0_any(x:Nat)(w:World)(hx:x<4294967296):
  Calls Tryz.prog 167 #[.int .u32 x] w fun e w'=>e=.returned (.int .u32 (Sha.bs0 x:Nat))/\w'=w:=by
 go_enter Tryz.func167,Tryz.ntmps167
 go_wp2_with fail
 refine(turn2 x _ hx).mono ?_;rintro e w'⟨rfl,rfl⟩;go_wp2_with fail
 refine(turn13 x _ hx).mono ?_;rintro e w'⟨rfl,rfl⟩;go_wp2_with fail
 refine(turn22 x _ hx).mono ?_;rintro e w'⟨rfl,rfl⟩;go_wp2_with fail
 go_ret;refine⟨gq ?_,rfl⟩;exact xor32 (Sha.ror 2 x ^^^ Sha.ror 13 x) (Sha.ror 22 x) (xor32 _ _ rfl rfl (Sha.ror_lt hx) (Sha.ror_lt hx)) rfl (Sha.xor_lt (Sha.ror_lt hx) (Sha.ror_lt hx)) (Sha.ror_lt hx)
theorem ss1_any(x:Nat)(w:World)(hx:x<4294967296):
  Calls Tryz.prog 184 #[.int .u32 x] w fun e w'=>e=.returned (.int .u32 (Sha.ss1 x:Nat))/\w'=w:=by
 go_enter Tryz.func184,Tryz.ntmps184
 go_wp2_with fail
 refine(turn17 x _ hx).mono ?_;rintro e w'⟨rfl,rfl⟩;go_wp2_with fail
 refine(turn19 x _ hx).mono ?_;rintro e w'⟨rfl,rfl⟩;go_wp2_with fail
 go_ret;refine⟨gq ?_,rfl⟩;exact xor32 (Sha.ror 17 x ^^^ Sha.ror 19 x) (x/1024) (xor32 _ _ rfl rfl (Sha.ror_lt hx) (Sha.ror_lt hx)) (by omega) (Sha.xor_lt (Sha.ror_lt hx) (Sha.ror_lt hx)) (Sha.div_lt hx)
theorem ss0_any(x:Nat)(w:World)(hx:x<4294967296):
  Calls Tryz.prog 185 #[.int .u32 x] w fun e w'=>e=.returned (.int .u32 (Sha.ss0 x:Nat))/\w'=w:=by
 go_enter Tryz.func185,Tryz.ntmps185
 go_wp2_with fail
 refine(turn7 x _ hx).mono ?_;rintro e w'⟨rfl,rfl⟩;go_wp2_with fail
 refine(turn18 x _ hx).mono ?_;rintro e w'⟨rfl,rfl⟩;go_wp2_with fail
 go_ret;refine⟨gq ?_,rfl⟩;exact xor32 (Sha.ror 7 x ^^^ Sha.ror 18 x) (x/8) (xor32 _ _ rfl rfl (Sha.ror_lt hx) (Sha.ror_lt hx)) (by omega) (Sha.xor_lt (Sha.ror_lt hx) (Sha.ror_lt hx)) (Sha.div_lt hx)
theorem choose_any(x y z:Nat)(w:World)(hx:x<4294967296)(hy:y<4294967296)(hz:z<4294967296):
  Calls Tryz.prog 166 #[.int .u32 x,.int .u32 y,.int .u32 z] w fun e w'=>e=.returned (.int .u32 (Sha.ch x y z:Nat))/\w'=w:=by
 have hsg:IntKind.u32.signed=false:=rfl;go_enter Tryz.func166,Tryz.ntmps166
 go_wp2;go_ret;refine⟨gq ?_,rfl⟩;have hn:(4294967295 ^^^ x)<4294967296:=Sha.xor_lt (by decide) hx;exact xor32 (x &&& y) ((4294967295 ^^^ x) &&& z) (and32 x y rfl rfl hx hy) (and32 (4294967295 ^^^ x) z (xor32 4294967295 x max32 rfl (by decide) hx) rfl hn hz) (Sha.and_lt hy) (Sha.and_lt hz)
theorem majority_any(x y z:Nat)(w:World)(hx:x<4294967296)(hy:y<4294967296)(hz:z<4294967296):
  Calls Tryz.prog 168 #[.int .u32 x,.int .u32 y,.int .u32 z] w fun e w'=>e=.returned (.int .u32 (Sha.maj x y z:Nat))/\w'=w:=by
 go_enter Tryz.func168,Tryz.ntmps168
 go_wp2;go_ret;refine⟨gq ?_,rfl⟩;exact xor32 ((x &&& y) ^^^ (x &&& z)) (y &&& z) (xor32 (x &&& y) (x &&& z) (and32 x y rfl rfl hx hy) (and32 x z rfl rfl hx hz) (Sha.and_lt hy) (Sha.and_lt hz)) (and32 y z rfl rfl hy hz) (Sha.xor_lt (Sha.and_lt hy) (Sha.and_lt hz)) (Sha.and_lt hz)
theorem byteAt_of(s:ByteArray)(i:Nat)(h:i<s.size):Sha.byteAt s.data.toList i=(s[i]).toNat:=by
 have h':i<s.data.toList.length:=by simpa using h
 simp only[Sha.byteAt,List.getD_eq_getElem?_getD,List.getElem?_eq_getElem h',Option.getD_some];rfl
theorem word_or(B0 B1 B2 B3:Nat)(b0:B0<256)(b1:B1<256)(b2:B2<256)(b3:B3<256):
  bits .or .u32 (bits .or .u32 (bits .or .u32 ((B0:Int)*16777216) ((B1:Int)*65536)) ((B2:Int)*256)) (B3:Int)=((((B0*16777216 ||| B1*65536) ||| B2*256) ||| B3:Nat):Int):=by
 have q0:=Sha.up24 b0;have q1:=Sha.up16 b1;have q2:=Sha.up8 b2;have q3:B3<4294967296:=Nat.lt_trans b3 (by decide);exact or32 _ _ (or32 _ _ (or32 (B0*16777216) (B1*65536) (Sha.cast_mul B0 16777216) (Sha.cast_mul B1 65536) q0 q1) (Sha.cast_mul B2 256) (Sha.or_lt q0 q1) q2) rfl (Sha.or_lt (Sha.or_lt q0 q1) q2) q3
theorem oX(s:ByteArray)(i:Int)(k:Nat)(h:i=k)(hk:k<s.size)(w:World):
  (Instr.index 9 (.string s) (.int .i64 i)).run Tryz.prog w=.ok (.int .u8 (Sha.byteAt s.data.toList k:Nat)) w:=by
 subst h;rw[run_index_string w 9 s .i64 k Tryz.underlying9,dif_pos (by omega),byteAt_of s k hk];rfl
theorem at_any(s:ByteArray)(k:Nat)(w:World)(hk:k+4<=s.size)(hs:s.size<=maxLen):
  Calls Tryz.prog 181 #[.string s,.int .i64 k] w fun e w'=>e=.returned (.int .u32 (Sha.word s.data.toList k:Nat))/\∃n,w'=w.drewN n:=by
 unfold maxLen at hs;have i0:=oX s k k rfl (by omega);have i1:=oX s (k+1) (k+1) rfl (by omega);have i2:=oX s (k+2) (k+2) rfl (by omega);have i3:=oX s (k+3) (k+3) rfl (by omega);have b0:=Sha.byteAt_lt s.data.toList k;have b1:=Sha.byteAt_lt s.data.toList (k+1);have b2:=Sha.byteAt_lt s.data.toList (k+2);have b3:=Sha.byteAt_lt s.data.toList (k+3);have HW:Hid (Sha.word s.data.toList k=((Sha.byteAt s.data.toList k*16777216 ||| Sha.byteAt s.data.toList (k+1)*65536) ||| Sha.byteAt s.data.toList (k+2)*256) ||| Sha.byteAt s.data.toList (k+3)):=rfl;generalize Sha.word s.data.toList k=W at*;generalize Sha.byteAt s.data.toList k=B0 at*;generalize Sha.byteAt s.data.toList (k+1)=B1 at*;generalize Sha.byteAt s.data.toList (k+2)=B2 at*;generalize Sha.byteAt s.data.toList (k+3)=B3 at*;go_enter Tryz.func181,Tryz.ntmps181
 go_wp2;go_quiet (fail)
 go_wp2;go_ret;refine⟨gq ?_,nq,rfl⟩;rw[HW.out];exact word_or B0 B1 B2 B3 b0 b1 b2 b3
abbrev U(n:Nat):Value:=.int .u32 n
def arr(l:List Nat):Array Value:=((l++List.replicate (64-l.length) 0).map U).toArray
theorem GM(l:List Nat)(h:l.length<=64):(arr l).size=64:=by simp[arr];omega
theorem arr_at(l:List Nat)(i:Nat)(hi:i<64)(h:l.length<=64):(arr l)[i]? =some (U (l.getD i 0)):=by
 unfold arr;rw[List.getElem?_toArray,List.getElem?_map];by_cases hl:i<l.length
 ·rw[List.getElem?_append_left hl,List.getD_eq_getElem?_getD,List.getElem?_eq_getElem hl];rfl
 ·have e1:l[i]? =none:=by simp;omega
  rw[List.getElem?_append_right (by omega),List.getElem?_replicate,if_pos (by omega),List.getD_eq_getElem?_getD,e1];rfl
theorem arr_snoc(l:List Nat)(x:Nat)(h:l.length<64):(arr l).setIfInBounds l.length (U x)=arr (l++[x]):=by
 apply Array.ext_getElem?;intro i;rw[Array.getElem?_setIfInBounds];by_cases hi:i<64
 ·rw[arr_at (l++[x]) i hi (by simp;omega)];by_cases e:l.length=i
  ·subst e;rw[if_pos rfl,if_pos (by rw[GM l (by omega)];omega)];simp
  ·rw[if_neg e,arr_at l i hi (by omega)];by_cases hl:i<l.length
   ·simp[hl,List.getElem?_append_left hl]
   ·(have e1:l[i]? =none:=by simp;omega);(have e2:(l++[x])[i]? =none:=by simp;omega);simp[e2,e1]
 ·have e1:(arr l)[i]? =none:=by rw[Array.getElem?_eq_none];rw[GM l (by omega)];omega
  have e2:(arr (l++[x]))[i]? =none:=by rw[Array.getElem?_eq_none];rw[GM _ (by simp;omega)];omega
  rw[e1,e2];have:¬l.length=i:=by omega
  simp[this]
theorem at_anyI(s:ByteArray)(i:Int)(k:Nat)(w:World)(hi:i=k)(hk:k+4<=s.size)(hs:s.size<=maxLen):
  Calls Tryz.prog 181 #[.string s,.int .i64 i] w fun e w'=>e=.returned (.int .u32 (Sha.word s.data.toList k:Nat))/\∃n,w'=w.drewN n:=by
 subst hi;exact at_any s k w hk hs
theorem Tryz.arrayLen37:Tryz.prog.arrayLen 65=64:=by kernel_rfl
theorem Tryz.elem37:Tryz.prog.elem 65=63:=by kernel_rfl
theorem Tryz.array37:Tryz.prog.underlying 65=some (.array (Tryz.prog.arrayLen 65) (Tryz.prog.elem 65)):=by kernel_rfl
theorem Tryz.size27(w:World):(sizeOf 63).run Tryz.prog w=.ok 1 w:=by kernel_rfl
theorem idx37(g:Nat)(i:Int)(k:Nat)(h:i=k)(hk:k<64)(W:World):
  (Instr.indexAt 65 (.pointer (some ⟨g,0,none⟩)) (.int .i64 i)).run Tryz.prog W=.ok (.pointer (some ⟨g,k,none⟩)) W:=by
 subst h;rw[run_indexAt_array W 65 _ _ _ Tryz.array37,Tryz.arrayLen37,Tryz.elem37,if_pos (by omega),Tryz.size27];by_cases h0:k=0
 ·subst h0;rfl
 ·simp[Addr.add,h0]
theorem gj(n:Int)(h0: -1000000<=n)(h1:n<=1000000):IntKind.i64.wrap n=n:=by rw[IntKind.wrap_i64];omega
theorem cs_ne{w:World}{g i k:Nat}{v:Value}{x:Option Value}(h:w.cell? ⟨g,i,none⟩=x)(hne:i≠k):((w.setCell ⟨g,k,none⟩ v).drew).cell? ⟨g,i,none⟩=x:=by rw[<-h];exact World.cell?_setCell_other _ _ _ _ (fun e=>hne (by injection e with _ e2 _;exact e2.symm))
theorem cs_eq{w:World}{g k:Nat}{v x:Value}(h:w.cell? ⟨g,k,none⟩=some x):((w.setCell ⟨g,k,none⟩ v).drew).cell? ⟨g,k,none⟩=some v:=World.cell?_setCell_same _ _ _ h
theorem arr_next(l:List UInt8)(n:Nat)(h:n<48):(arr (Sha.spreadTo l n)).setIfInBounds (n+16) (U (Sha.nextW (Sha.spreadTo l n) n))=arr (Sha.spreadTo l (n+1)):=by have e:=Sha.spreadTo_length l n;have:=arr_snoc (Sha.spreadTo l n) (Sha.nextW (Sha.spreadTo l n) n) (by omega);rw[e,show 16+n=n+16 by omega] at this;exact this
theorem arr_first(l:List UInt8)(n:Nat)(h:n<16):(arr (Sha.first l n)).setIfInBounds n (U (Sha.word l (4*n)))=arr (Sha.first l (n+1)):=by have e:=Sha.first_length l n;have:=arr_snoc (Sha.first l n) (Sha.word l (4*n)) (by omega);rw[e] at this;exact this
theorem next_cast(a b c d:Nat):((((a:Int)+b)%4294967296+c)%4294967296+d)%4294967296=(((((a+b)%4294967296+c)%4294967296+d)%4294967296:Nat):Int):=by omega
theorem Tryz.info37:(Tryz.prog.info? 65).map (·.size)=some 64:=by kernel_rfl
theorem arr_one(l:List Nat):(arr l).all (·.oneCell')=true:=by unfold arr;rw[List.all_toArray];simp[Value.oneCell']
theorem drewN_heap(w:World)(n:Nat):(w.drewN n).heap=w.heap:=by induction n<;>simp_all [World.drewN]
theorem row_same{w:World}{g i n:Nat}{cs:Array Value}{t:TypeId}{v:Value}(h:w.heap[g]? =some (.cells cs t (0,0))):
  ((w.drewN n).setCell ⟨g,i,none⟩ v).heap[g]? =some (.cells (cs.setIfInBounds i v) t (0,0)):=
 heap_setCell_same (w.drewN n) g i cs t v (by rw[drewN_heap];exact h)
theorem row_other{w:World}{g k i n:Nat}{v:Value}{o:Option Obj}(hk:k≠g)(h:w.heap[k]? =o):
  ((w.drewN n).setCell ⟨g,i,none⟩ v).heap[k]? =o:=by
 rw[heap_setCell_other _ _ _ _ (by simpa using hk),drewN_heap];exact h
theorem size_set{w:World}{n:Nat}{a:Addr}{v:Value}:((w.drewN n).setCell a v).heap.size=w.heap.size:=by simp
theorem below_set{B:Nat}{w wr:World}{n:Nat}{a:Addr}{v:Value}(h:Below B w wr)(ha:B<=a.block):Below B w ((wr.drewN n).setCell a v):=(below_drewN h n).setCell ha _
theorem spread_any(s:ByteArray)(w:World)(hs:s.size=64):
  Calls Tryz.prog 164 #[.string s] w fun e w'=>e=.returned (.agg (arr (Sha.spreadTo s.data.toList 48)))/\Below w.heap.size w w':=by
 have hm:s.size<=maxLen:=by unfold maxLen;omega
 have HM:Hid (s.size<=maxLen):=hm;have HS:Hid (s.size=64):=hs;clear hm hs;go_enter Tryz.func164,Tryz.ntmps164
 go_wp2;go_loopw [6] (fun i wr=>∃k:Nat,k<=16/\i=.int .i64 k/\wr.heap[w.heap.size]? =some (.cells (arr []) 65 (0,0))/\wr.heap[w.heap.size+1]? =some (.cells (arr (Sha.first s.data.toList k)) 65 (0,0))/\wr.heap.size=w.heap.size+2/\Below w.heap.size w wr) (fun i _=>16-(intOf i).toNat)
 case atStart=>refine⟨0,by omega,rfl,heap_alloc2_old _ _ _,heap_alloc2_new _ _ _,by simp,?_⟩;exact((Below.refl _ _).alloc (Nat.le_refl _) _).alloc (by simp) _
 case round=>
  obtain⟨k,hk,rfl,h2,h3,hz,hb⟩:=hrel;have H2:Hid (wr.heap[w.heap.size]? =some (.cells (arr []) 65 (0,0))):=h2;have H3:Hid (wr.heap[w.heap.size+1]? =some (.cells (arr (Sha.first s.data.toList k)) 65 (0,0))):=h3;have HZ:Hid (wr.heap.size=w.heap.size+2):=hz;have hl:=Sha.first_length s.data.toList k;have HL:Hid ((Sha.first s.data.toList k).length=k):=hl;by_cases hlt:k<16
  ·have hc:wr.cell? ⟨w.heap.size+1,k,none⟩=some (U 0):=by
    rw[cell_of_row _ _ _ _ _ _ h3,arr_at _ _ (by omega) (by omega)];simp[hl]
   have hf:wr.frozen? ⟨w.heap.size+1,k,none⟩=false:=frozen_of_row _ _ _ _ _ h3;clear h2 h3 hl hz;(go_wp2_with fail);refine(at_anyI s _ (4*k) _ (by omega) (by rw[HS.out];omega) HM.out).mono ?_;rintro e w'⟨rfl,nq,rfl⟩;go_wp2;refine⟨⟨k+1,by omega,by go_num,row_other (by omega) H2.out,?_,size_set.trans HZ.out,below_set hb (by simp)⟩,by simp[intOf];omega⟩;rw[row_same H3.out,arr_first _ _ hlt]
  ·(have e16:k=16:=by omega);subst e16;clear h2 h3 hl hz;go_wp2;go_loopw [5] (fun i wq=>∃n:Nat,n<=48/\i=.int .i64 (n+16:Nat)/\wq.heap[w.heap.size]? =some (.cells (arr []) 65 (0,0))/\wq.heap[w.heap.size+1]? =some (.cells (arr (Sha.spreadTo s.data.toList n)) 65 (0,0))/\wq.heap.size=w.heap.size+2/\Below w.heap.size w wq) (fun i _=>64-(intOf i).toNat)
   case atStart=>exact⟨0,by omega,rfl,H2.out,H3.out,HZ.out,hb⟩
   case round=>
    (clear H2 H3 HZ HL hb hlt hk;obtain⟨n,hn,rfl,h2,h3,hz,hb⟩:=hrel;have H2:Hid (wr.heap[w.heap.size]? =some (.cells (arr []) 65 (0,0))):=h2;have H3:Hid (wr.heap[w.heap.size+1]? =some (.cells (arr (Sha.spreadTo s.data.toList n)) 65 (0,0))):=h3;have HZ:Hid (wr.heap.size=w.heap.size+2):=hz;have hl:=Sha.spreadTo_length s.data.toList n;have HL:Hid ((Sha.spreadTo s.data.toList n).length=16+n):=hl;have hcells:∀i,i<64->wr.cell? ⟨w.heap.size+1,i,none⟩=some (U ((Sha.spreadTo s.data.toList n).getD i 0)):=fun i hi=>by rw[cell_of_row _ _ _ _ _ _ h3,arr_at _ _ hi (by omega)]);have hf:wr.frozen? ⟨w.heap.size+1,n+16,none⟩=false:=frozen_of_row _ _ _ _ _ h3;by_cases hlt:n<48
    ·have c14:=hcells (n+14) (by omega);have c9:=hcells (n+9) (by omega);have c1:=hcells (n+1) (by omega);have c0:=hcells n (by omega);have c16:=hcells (n+16) (by omega);have HN:Hid (Sha.nextW (Sha.spreadTo s.data.toList n) n=(((Sha.ss1 ((Sha.spreadTo s.data.toList n).getD (n+14) 0)+(Sha.spreadTo s.data.toList n).getD (n+9) 0)%4294967296+Sha.ss0 ((Sha.spreadTo s.data.toList n).getD (n+1) 0))%4294967296+(Sha.spreadTo s.data.toList n).getD n 0)%4294967296):=rfl;have l14:=Sha.getD_lt (Sha.spreadTo_lt s.data.toList n) (n+14);have l9:=Sha.getD_lt (Sha.spreadTo_lt s.data.toList n) (n+9);have l1:=Sha.getD_lt (Sha.spreadTo_lt s.data.toList n) (n+1);have l0:=Sha.getD_lt (Sha.spreadTo_lt s.data.toList n) n;clear h2 h3 hl hz hcells;generalize (Sha.spreadTo s.data.toList n).getD (n+14) 0=x14 at*;generalize (Sha.spreadTo s.data.toList n).getD (n+9) 0=x9 at*;generalize (Sha.spreadTo s.data.toList n).getD (n+1) 0=x1 at*;generalize (Sha.spreadTo s.data.toList n).getD n 0=x0 at*;generalize (Sha.spreadTo s.data.toList n).getD (n+16) 0=x16 at*;obtain⟨t,ht⟩:∃t:Int,t=((n+16:Nat):Int):=⟨_,rfl⟩;(have t0:16<=t:=by omega);(have t1:t<64:=by omega);have i14:=idx37 (w.heap.size+1) (t-2) (n+14) (by omega) (by omega);have i9:=idx37 (w.heap.size+1) (t-7) (n+9) (by omega) (by omega);have i1:=idx37 (w.heap.size+1) (t-15) (n+1) (by omega) (by omega);have i0:=idx37 (w.heap.size+1) (t-16) n (by omega) (by omega);have i16:=idx37 (w.heap.size+1) t (n+16) (by omega) (by omega);have w14:=gj (t-2) (by omega) (by omega);have w9:=gj (t-7) (by omega) (by omega);have w1:=gj (t-15) (by omega) (by omega);have w0:=gj (t-16) (by omega) (by omega);have HT:Hid (t=((n+16:Nat):Int)):=ht;rw[<-ht];have HLT:Hid (n<48):=hlt;clear ht hlt hn;(go_wp2_with fail);go_region_held3 (fun w'=>w'.cell? ⟨w.heap.size+1,n+14,none⟩=some (U x14)/\w'.cell? ⟨w.heap.size+1,n+9,none⟩=some (U x9)/\w'.cell? ⟨w.heap.size+1,n+1,none⟩=some (U x1)/\w'.cell? ⟨w.heap.size+1,n,none⟩=some (U x0)/\(∃v,w'.cell? ⟨w.heap.size+1,n+16,none⟩=some v)/\w'.frozen? ⟨w.heap.size+1,n+16,none⟩=false) (first|exact⟨c14,c9,c1,c0,⟨_,c16⟩,hf⟩|exact⟨cs_ne c14 (by omega),cs_ne c9 (by omega),cs_ne c1 (by omega),cs_ne c0 (by omega),⟨_,cs_eq c16⟩,by simp[hf]⟩) (first| (go_at_call 184;refine(ss1_any x14 _ l14).mono ?_;rintro e w'⟨rfl,rfl⟩)| (go_at_call 185;refine(ss0_any x1 _ l1).mono ?_;rintro e w'⟨rfl,rfl⟩))
     all_goals
      go_wp2;go_roundw
      case rel=>
       (repeat apply Exists.intro)
       have hlt:=HLT.out;refine⟨⟨n+1,hlt,by rw[HT.out];go_num,?_,?_,?_,?_⟩,rfl⟩
       ·exact row_other (n:=1) (by omega) H2.out
       ·exact(row_same (n:=1) H3.out).trans (by rw[next_cast,<-HN.out,arr_next _ _ HLT.out])
       ·exact(size_set (n:=1)).trans HZ.out
       ·exact below_set (n:=1) hb (by simp)
      case measure=>simp[intOf];omega
    ·(have e48:n=48:=by omega);subst e48;have hA:(arr (Sha.spreadTo s.data.toList 48)).size=64:=GM _ (by rw[hl];omega);have h1:=arr_one (Sha.spreadTo s.data.toList 48);have hB:(arr []).size=64:=GM _ (by decide);clear hcells hf hl h2 h3 hz HL HS HM;generalize hAe:arr (Sha.spreadTo s.data.toList 48)=A at*;have HAe:Hid (arr (Sha.spreadTo s.data.toList 48)=A):=hAe;clear hAe;generalize arr []=B at*;have HA:Hid (A.size=64):=hA;have HB:Hid (B.size=64):=hB;clear hA hB hlt;(go_wp2_with (first| (refine wpList_load_row rfl 65 (.tmp 3) rfl (w.heap.size+1) rfl 65 A (0,0) _ H3.out Tryz.underlying65 rfl (by rw[HA.out];exact Tryz.info37) ?_)| (refine wpList_store_row rfl 65 (.tmp 2) (.tmp 43) rfl w.heap.size A rfl rfl 65 B H2.out (by rw[HA.out];exact Tryz.info37) (by rw[HA.out,HB.out]) h1 ?_)));refine bodyPost_ret (v:=.agg A) ?_ rfl ⟨by rw[HAe.out],below_setRow hb (Nat.le_refl _) A⟩;exact results_cell_row rfl _ _ w.heap.size 65 A (0,0) _ rfl (setRow_heap _ _ _ _ _ _ H2.out) Tryz.underlying65 rfl (by rw[HA.out];exact Tryz.info37)
def st8(s:Sha.St):Array Value:= #[U s.a,U s.b,U s.c,U s.d,U s.e,U s.f,U s.g,U s.h]
def KT(w:World):Prop:=∀i,i<64->w.cell? ⟨1,i,none⟩=some (U (Sha.Ks.getD i 0))
theorem Tryz.under37:Tryz.prog.underlying 65=some (.array 64 63):=by kernel_rfl
theorem Tryz.under28:Tryz.prog.underlying 64=some (.array 8 63):=by kernel_rfl
theorem idxAgg37(A:Array Value)(i:Int)(n:Nat)(v:Value)(h:i=n)(hn:n<64)(hv:A[n]? =some v)(W:World):
  (Instr.index 65 (.agg A) (.int .i64 i)).run Tryz.prog W=.ok v W:=by
 subst h;simp[Instr.index,asIntOf,run_underlying Tryz.under37,part,hv];intro h;omega
theorem idxAgg28(A:Array Value)(i:Int)(n:Nat)(v:Value)(h:i=n)(hn:n<8)(hv:A[n]? =some v)(W:World):
  (Instr.index 64 (.agg A) (.int .i64 i)).run Tryz.prog W=.ok v W:=by
 subst h;simp[Instr.index,asIntOf,run_underlying Tryz.under28,part,hv];intro h;omega
theorem Tryz.arrayLen28:Tryz.prog.arrayLen 64=8:=by kernel_rfl
theorem Tryz.elem28:Tryz.prog.elem 64=63:=by kernel_rfl
theorem Tryz.array28:Tryz.prog.underlying 64=some (.array (Tryz.prog.arrayLen 64) (Tryz.prog.elem 64)):=by kernel_rfl
theorem Tryz.info28:(Tryz.prog.info? 64).map (·.size)=some 8:=by kernel_rfl
theorem idx28(g:Nat)(i:Int)(k:Nat)(h:i=k)(hk:k<8)(W:World):
  (Instr.indexAt 64 (.pointer (some ⟨g,0,none⟩)) (.int .i64 i)).run Tryz.prog W=.ok (.pointer (some ⟨g,k,none⟩)) W:=by
 subst h;rw[run_indexAt_array W 64 _ _ _ Tryz.array28,Tryz.arrayLen28,Tryz.elem28,if_pos (by omega),Tryz.size27];by_cases h0:k=0
 ·subst h0;rfl
 ·simp[Addr.add,h0]
theorem Ks_length:Sha.Ks.length=64:=rfl
theorem KT.drewN{w:World}(h:KT w)(n:Nat):KT (w.drewN n):=fun i hi=>by have:=h i hi;simpa using this
theorem KT.lt{w:World}(h:KT w):1<w.heap.size:=block_lt_of_cell (h 0 (by decide))
theorem KT.below{w w':World}(h:KT w)(hb:Below w.heap.size w w'):KT w':=fun i hi=>(hb.cell (p:=⟨1,i,none⟩) h.lt).trans (h i hi)
theorem ra_cast(h s c k w u v:Nat):(((h:Int)+s+c+k+w)%4294967296+((u:Int)+v)%4294967296)%4294967296=((((((((h+s)%4294967296+c)%4294967296+k)%4294967296+w)%4294967296)+(u+v)%4294967296)%4294967296:Nat):Int):=by omega
theorem re_cast(d h s c k w:Nat):((d:Int)+((h:Int)+s+c+k+w)%4294967296)%4294967296=(((d+((((h+s)%4294967296+c)%4294967296+k)%4294967296+w)%4294967296)%4294967296:Nat):Int):=by omega
def toL(s:Sha.St):List Nat:=[s.a,s.b,s.c,s.d,s.e,s.f,s.g,s.h]
def mix(x y:List Nat)(k:Nat):Array Value:=((x.take k++y.drop k).map U).toArray
theorem mix_size(x y:List Nat)(k:Nat)(hx:x.length=8)(hy:y.length=8)(hk:k<=8):(mix x y k).size=8:=by simp[mix,hx,hy];omega
theorem mix_at(x y:List Nat)(k:Nat)(hx:x.length=8)(hy:y.length=8)(hk:k<8):(mix x y k)[k]? =some (U (y.getD k 0)):=by
 unfold mix;rw[List.getElem?_toArray,List.getElem?_map,List.getElem?_append_right (by simp;omega)];have:k-(x.take k).length=0:=by simp;omega
 rw[this,List.getElem?_drop,List.getD_eq_getElem?_getD,Nat.add_zero,List.getElem?_eq_getElem (by omega)];rfl
theorem mix_step(x y:List Nat)(k:Nat)(hx:x.length=8)(hy:y.length=8)(hk:k<8):(mix x y k).setIfInBounds k (U (x.getD k 0))=mix x y (k+1):=by
 unfold mix;rw[List.setIfInBounds_toArray];congr 1;apply List.ext_getElem?;intro i;rw[List.getElem?_set,List.getElem?_map,List.getElem?_map,List.getElem?_append,List.getElem?_append];simp only[List.length_map,List.length_append,List.length_take,List.length_drop,hx,hy,List.getElem?_take,List.getElem?_drop];by_cases e:k=i
 ·subst e;rw[if_pos rfl,if_pos (by omega),if_pos (by omega),if_pos (by omega),List.getD_eq_getElem?_getD,List.getElem?_eq_getElem (by omega)];rfl
 ·rw[if_neg e];by_cases hi:i<k
  ·rw[if_pos (by omega),if_pos hi,if_pos (by omega),if_pos (by omega)]
  ·rw[if_neg (by omega),if_neg (by omega)];(have e1:k+(i-min k 8)=i:=by omega);(have e2:k+1+(i-min (k+1) 8)=i:=by omega);rw[e1,e2]
theorem mix_all(x y:List Nat)(hx:x.length=8)(hy:y.length=8):mix x y 8=(x.map U).toArray:=by unfold mix;rw[List.take_of_length_le (by omega),List.drop_of_length_le (by omega),List.append_nil]
theorem mix_one(x y:List Nat)(k:Nat):(mix x y k).all (·.oneCell')=true:=by unfold mix;rw[List.all_toArray,List.all_eq_true];intro v hv;obtain⟨n,_,rfl⟩:=List.mem_map.1 hv;rfl
theorem toL_length(s:Sha.St):(toL s).length=8:=rfl
theorem toL_arr(s:Sha.St):((toL s).map U).toArray=st8 s:=rfl
theorem st8_at(s:Sha.St):∀(k:Nat),k<8->(st8 s)[k]? =some (U ((toL s).getD k 0))
 |0,_=>rfl
 |1,_=>rfl
 |2,_=>rfl
 |3,_=>rfl
 |4,_=>rfl
 |5,_=>rfl
 |6,_=>rfl
 |7,_=>rfl
 |k+8,h=>absurd h (by omega)
theorem add_at(s t:Sha.St):∀(k:Nat),k<8->(toL (Sha.add s t)).getD k 0=((toL s).getD k 0+(toL t).getD k 0)%4294967296
 |0,_=>rfl
 |1,_=>rfl
 |2,_=>rfl
 |3,_=>rfl
 |4,_=>rfl
 |5,_=>rfl
 |6,_=>rfl
 |7,_=>rfl
 |k+8,h=>absurd h (by omega)
theorem add_cast(x y:Nat):((x:Int)+y)%4294967296=(((x+y)%4294967296:Nat):Int):=by omega
theorem stir_any(a b c d e f g h:Nat)(bl:ByteArray)(w:World)(hs:Sha.Ok ⟨a,b,c,d,e,f,g,h⟩)(hbl:bl.size=64)(hK:KT w):
  Calls Tryz.prog 139 #[.agg #[U a,U b,U c,U d,U e,U f,U g,U h],.string bl] w fun e' w'=>e'=.returned (.agg (st8 (Sha.stir ⟨a,b,c,d,e,f,g,h⟩ bl.data.toList)))/\Below w.heap.size w w':=by
 have hl:=Sha.spreadTo_length bl.data.toList 48;have hA:(arr (Sha.spreadTo bl.data.toList 48)).size=64:=GM _ (by rw[hl];omega);have h1:=arr_one (Sha.spreadTo bl.data.toList 48);have HA:Hid ((arr (Sha.spreadTo bl.data.toList 48)).size=64):=hA;have HK:Hid (KT w):=hK;have HS:Hid (Sha.Ok ⟨a,b,c,d,e,f,g,h⟩):=hs;clear hl hA hK hs;go_enter Tryz.func139,Tryz.ntmps139
 go_wp2_with fail
 refine(spread_any bl _ hbl).mono ?_;rintro e' w1⟨rfl,hb1⟩;generalize hAe:arr (Sha.spreadTo bl.data.toList 48)=A at*;have HAe:Hid (arr (Sha.spreadTo bl.data.toList 48)=A):=hAe;clear hAe;have hz:w.heap.size+1<w1.heap.size:=by have:=hb1.size;simp at this;omega
 have hrow:w1.heap[w.heap.size]? =some (.cells #[U a,U b,U c,U d,U e,U f,U g,U h] 64 (0,0)):=(hb1.block w.heap.size (by simp;omega)).trans (heap_alloc2_old w _ _);have hres:∃z:Array Value,z.size=8/\w1.heap[w.heap.size+1]? =some (.cells z 64 (0,0)):=by exact⟨_,rfl,(hb1.block (w.heap.size+1) (by simp)).trans (heap_alloc2_new w _ _)⟩
 have hbw:Below w.heap.size w w1:=(((Below.refl _ _).alloc gR _).alloc (by simp) _).trans (hb1.mono (by simp;omega));obtain⟨z,hz8,hres⟩:=hres;clear hb1;have HR:Hid (w1.heap[w.heap.size]? =some (.cells #[U a,U b,U c,U d,U e,U f,U g,U h] 64 (0,0))):=hrow;have HZ:Hid (w1.heap[w.heap.size+1]? =some (.cells z 64 (0,0))):=hres;have H8:Hid (z.size=8):=hz8;have hlt:w.heap.size<w1.heap.size:=by omega
 have c0:∀o,(w1.alloc o).cell? ⟨w.heap.size,0,none⟩=some (U a):=fun o=>by rw[World.cell?_alloc_lt _ _ _ hlt,gC hrow];rfl
 have c1:∀o,(w1.alloc o).cell? ⟨w.heap.size,1,none⟩=some (U b):=fun o=>by rw[World.cell?_alloc_lt _ _ _ hlt,gC hrow];rfl
 have c2:∀o,(w1.alloc o).cell? ⟨w.heap.size,2,none⟩=some (U c):=fun o=>by rw[World.cell?_alloc_lt _ _ _ hlt,gC hrow];rfl
 have c3:∀o,(w1.alloc o).cell? ⟨w.heap.size,3,none⟩=some (U d):=fun o=>by rw[World.cell?_alloc_lt _ _ _ hlt,gC hrow];rfl
 have c4:∀o,(w1.alloc o).cell? ⟨w.heap.size,4,none⟩=some (U e):=fun o=>by rw[World.cell?_alloc_lt _ _ _ hlt,gC hrow];rfl
 have c5:∀o,(w1.alloc o).cell? ⟨w.heap.size,5,none⟩=some (U f):=fun o=>by rw[World.cell?_alloc_lt _ _ _ hlt,gC hrow];rfl
 have c6:∀o,(w1.alloc o).cell? ⟨w.heap.size,6,none⟩=some (U g):=fun o=>by rw[World.cell?_alloc_lt _ _ _ hlt,gC hrow];rfl
 have c7:∀o,(w1.alloc o).cell? ⟨w.heap.size,7,none⟩=some (U h):=fun o=>by rw[World.cell?_alloc_lt _ _ _ hlt,gC hrow];rfl
 clear hrow hres hz8;go_wp2_with (refine wpList_store_row rfl 65 (.tmp 5) (.tmp 21) rfl w1.heap.size A rfl rfl 65 _ (heap_alloc_new w1 _) (by rw[HA.out];exact Tryz.info37) (by rw[HA.out];rfl) h1 ?_;rw[World.setRow_alloc_new])
 go_quiet (fail)
 clear c0 c1 c2 c3 c4 c5 c6 c7;go_wp2_with (refine wpList_load_row rfl 65 (.tmp 5) rfl w1.heap.size rfl 65 A (0,0) _ (by rw[drewN_heap];exact heap_alloc_new w1 _) Tryz.underlying65 rfl (by rw[HA.out];exact Tryz.info37) ?_)
 have hKW:KT (w1.alloc (.cells A 65)):=(HK.out.below hbw).below ((Below.refl _ _).alloc gR _);have HKW:Hid (KT (w1.alloc (.cells A 65))):=hKW;clear hKW;go_loopw [6,7,8,9,10,11,12,13,39] (fun va vb vc vd ve vf vg vh i wq=>∃n:Nat,n<=64/\i=.int .i64 n/\∃r:Sha.St,Sha.rounds (Sha.spreadTo bl.data.toList 48) n ⟨a,b,c,d,e,f,g,h⟩=r/\va=U r.a/\vb=U r.b/\vc=U r.c/\vd=U r.d/\ve=U r.e/\vf=U r.f/\vg=U r.g/\vh=U r.h/\∃q,wq=(w1.alloc (.cells A 65)).drewN q) (fun _ _ _ _ _ _ _ _ i _=>64-(intOf i).toNat)
 case atStart=>exact⟨0,by omega,rfl,⟨a,b,c,d,e,f,g,h⟩,rfl,rfl,rfl,rfl,rfl,rfl,rfl,rfl,rfl,_,rfl⟩
 case round=>
  obtain⟨n,hn,rfl,r,hr,rfl,rfl,rfl,rfl,rfl,rfl,rfl,rfl,q,hwq⟩:=hrel;have HQ:Hid (wr=(w1.alloc (.cells A 65)).drewN q):=hwq;have hKr:KT wr:=hwq▸HKW.out.drewN q;have HKr:Hid (KT wr):=hKr;clear hwq hKr;have hok:Sha.Ok r:=hr▸Sha.rounds_ok n HS.out;have HRr:Hid (Sha.rounds (Sha.spreadTo bl.data.toList 48) n ⟨a,b,c,d,e,f,g,h⟩=r):=hr;clear hr;obtain⟨ra,rb,rc,rd,re,rf,rg,rh⟩:=r;obtain⟨oa,ob,oc,od,oe,of,og,oh⟩:=hok;dsimp only at oa ob oc od oe of og oh⊢;by_cases hlt:n<64
  ·have hk:=HKr.out n hlt;have hki:=idx37 0 (n:Int) n rfl hlt;(have hwv:A[n]? =some (U ((Sha.spreadTo bl.data.toList 48).getD n 0)):=by rw[<-HAe.out];exact arr_at _ _ hlt (by rw[Sha.spreadTo_length];omega));have hwi:=idxAgg37 A (n:Int) n _ rfl hlt hwv;have lk:=Sha.getD_lt Sha.Ks_lt n;have lw:=Sha.getD_lt (Sha.spreadTo_lt bl.data.toList 48) n;have HST:Hid (Sha.rounds (Sha.spreadTo bl.data.toList 48) (n+1) ⟨a,b,c,d,e,f,g,h⟩=Sha.round (Sha.Ks.getD n 0) ((Sha.spreadTo bl.data.toList 48).getD n 0) ⟨ra,rb,rc,rd,re,rf,rg,rh⟩):=by
    show Sha.round _ _ (Sha.rounds _ n _)=_;rw[HRr.out]
   clear hwv HRr;generalize Sha.Ks.getD n 0=kn at*;generalize (Sha.spreadTo bl.data.toList 48).getD n 0=wn at*;(go_wp2_with fail);(go_quiet ((first| (go_at_call 165;exact Calls.quiet_of_same (bs1_any re _ oe))| (go_at_call 166;exact Calls.quiet_of_same (choose_any re rf rg _ oe of og)))));(go_wp2_with fail);refine(bs0_any ra _ oa).mono ?_;rintro e' w'⟨rfl,rfl⟩;(go_wp2_with fail);refine(majority_any ra rb rc _ oa ob oc).mono ?_;rintro e' w'⟨rfl,rfl⟩;go_wp2;exact⟨⟨n+1,hlt,by go_num,_,HST.out,congrArg (Value.int IntKind.u32) (ra_cast _ _ _ _ _ _ _),rfl,rfl,rfl,congrArg (Value.int IntKind.u32) (re_cast _ _ _ _ _ _),rfl,rfl,rfl,q+nq,by rw[HQ.out,World.drewN_drewN]⟩,by simp[intOf];omega⟩
  ·(have e64:n=64:=by omega);subst e64;clear hlt hn;have hrow:wr.heap[w.heap.size]? =some (.cells #[U a,U b,U c,U d,U e,U f,U g,U h] 64 (0,0)):=by
    rw[HQ.out,drewN_heap,Below.heap_alloc _ _ _ (by omega)];exact HR.out
   (have hres:wr.heap[w.heap.size+1]? =some (.cells z 64 (0,0)):=by rw[HQ.out,drewN_heap,Below.heap_alloc _ _ _ hz];exact HZ.out);have hbr:Below w.heap.size w wr:=by rw[HQ.out];exact below_drewN (hbw.alloc (by omega) _) q
   have HR2:Hid (wr.heap[w.heap.size]? =some (.cells #[U a,U b,U c,U d,U e,U f,U g,U h] 64 (0,0))):=hrow;have HZ2:Hid (wr.heap[w.heap.size+1]? =some (.cells z 64 (0,0))):=hres;clear hrow hres;go_wp2;go_loopw [87] (fun i wq=>∃k:Nat,k<=8/\i=.int .i64 k/\wq.heap[w.heap.size]? =some (.cells (mix (toL (Sha.add ⟨a,b,c,d,e,f,g,h⟩ ⟨ra,rb,rc,rd,re,rf,rg,rh⟩)) (toL ⟨a,b,c,d,e,f,g,h⟩) k) 64 (0,0))/\wq.heap[w.heap.size+1]? =some (.cells z 64 (0,0))/\Below w.heap.size w wq) (fun i _=>8-(intOf i).toNat)
   case atStart=>exact⟨0,by omega,rfl,HR2.out,HZ2.out,hbr⟩
   case round=>
    clear hbr;obtain⟨k,hk,rfl,h2,h3,hb⟩:=hrel;have H2:Hid (wr.heap[w.heap.size]? =some (.cells (mix (toL (Sha.add ⟨a,b,c,d,e,f,g,h⟩ ⟨ra,rb,rc,rd,re,rf,rg,rh⟩)) (toL ⟨a,b,c,d,e,f,g,h⟩) k) 64 (0,0))):=h2;have H3:Hid (wr.heap[w.heap.size+1]? =some (.cells z 64 (0,0))):=h3;by_cases hlt:k<8
    ·have hc:wr.cell? ⟨w.heap.size,k,none⟩=some (U ((toL ⟨a,b,c,d,e,f,g,h⟩).getD k 0)):=by
      rw[gC h2];exact mix_at _ _ _ rfl rfl hlt
     have hf:wr.frozen? ⟨w.heap.size,k,none⟩=false:=gF h2;have hi:=idx28 w.heap.size (k:Int) k rfl hlt;have hv:=idxAgg28 #[U ra,U rb,U rc,U rd,U re,U rf,U rg,U rh] (k:Int) k _ rfl hlt (st8_at ⟨ra,rb,rc,rd,re,rf,rg,rh⟩ k hlt);have HM:=gH (mix_step (toL (Sha.add ⟨a,b,c,d,e,f,g,h⟩ ⟨ra,rb,rc,rd,re,rf,rg,rh⟩)) (toL ⟨a,b,c,d,e,f,g,h⟩) k rfl rfl hlt);rw[add_at _ _ k hlt] at HM;clear h2 h3;generalize (toL ⟨a,b,c,d,e,f,g,h⟩).getD k 0=xk at*;generalize (toL ⟨ra,rb,rc,rd,re,rf,rg,rh⟩).getD k 0=yk at*;go_wp2;refine⟨⟨k+1,hlt,by go_num,?_,?_,hb.setCell (by simp) _⟩,by simp[intOf];omega⟩
     ·rw[gZ H2.out,add_cast,HM.out]
     ·rw[heap_setCell_other _ _ _ _ (by simp)];exact H3.out
    ·(have e8:k=8:=by omega);subst e8;have HF:Hid (st8 (Sha.stir ⟨a,b,c,d,e,f,g,h⟩ bl.data.toList)=mix (toL (Sha.add ⟨a,b,c,d,e,f,g,h⟩ ⟨ra,rb,rc,rd,re,rf,rg,rh⟩)) (toL ⟨a,b,c,d,e,f,g,h⟩) 8):=by
      rw[mix_all _ _ rfl rfl,toL_arr,<-HRr.out];rfl
     have hM8:=mix_size (toL (Sha.add ⟨a,b,c,d,e,f,g,h⟩ ⟨ra,rb,rc,rd,re,rf,rg,rh⟩)) (toL ⟨a,b,c,d,e,f,g,h⟩) 8 rfl rfl (by omega);have hM1:=mix_one (toL (Sha.add ⟨a,b,c,d,e,f,g,h⟩ ⟨ra,rb,rc,rd,re,rf,rg,rh⟩)) (toL ⟨a,b,c,d,e,f,g,h⟩) 8;clear h2 h3 HRr;generalize mix (toL (Sha.add ⟨a,b,c,d,e,f,g,h⟩ ⟨ra,rb,rc,rd,re,rf,rg,rh⟩)) (toL ⟨a,b,c,d,e,f,g,h⟩) 8=M at*;have HM8:Hid (M.size=8):=hM8;clear hM8 hlt hk;(go_wp2_with (first| (refine wpList_load_row rfl 64 (.tmp 2) rfl w.heap.size rfl 64 M (0,0) _ H2.out Tryz.underlying64 rfl (by rw[HM8.out];exact Tryz.info28) ?_)| (refine wpList_store_row rfl 64 (.tmp 4) (.tmp 98) rfl (w.heap.size+1) M rfl rfl 64 z H3.out (by rw[HM8.out];exact Tryz.info28) (by rw[HM8.out,H8.out]) hM1 ?_)));refine bodyPost_ret (v:=.agg M) ?_ rfl ⟨by rw[HF.out],below_setRow hb (by omega) M⟩;exact results_cell_row rfl _ _ (w.heap.size+1) 64 M (0,0) _ rfl (gW H3.out) Tryz.underlying64 rfl (by rw[HM8.out];exact Tryz.info28)
end Go.Proofs.YtenaelkbgkpllaaGreatDoor
