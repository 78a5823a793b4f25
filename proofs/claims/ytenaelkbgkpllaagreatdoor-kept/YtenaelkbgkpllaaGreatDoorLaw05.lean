/- Part 5 of what the four laws rest on: laid by a program out of the texts of wip/T. -/
import Derived.Test.YtenaelkbgkpllaaGreatDoorLaw04
import Derived.Laws.BytesArg
import Derived.Lib.Strings
import Derived.Shelf.Strings.Builder1
import Derived.Shelf.Strings.Builder2
import Derived.Shelf.Strings.BuilderF
import Derived.Shelf.Strings.Repeat
set_option maxRecDepth 100000
set_option maxHeartbeats 8000000
namespace Go.Proofs.YtenaelkbgkpllaaGreatDoor
open Go.RowKit
theorem zT(s:ByteArray)(a b:Nat):(s.extract a b).data.toList=(s.data.toList.drop a).take (b-a):=by simp[ByteArray.data_extract]
theorem cut_size(s:ByteArray)(a b:Nat)(h:b<=s.size):(s.extract a b).size=b-a:=by simp[ByteArray.size_extract];omega
theorem wrap_big(n:Int)(h0: -140737488355400<=n)(h1:n<=140737488355400):IntKind.i64.wrap n=n:=by rw[IntKind.wrap_i64];omega
theorem st8_one(s:Sha.St):(st8 s).all (·.oneCell')=true:=by unfold st8;simp[Value.oneCell']
theorem row8{w:World}{g:Nat}{t:TypeId}{v0 v1 v2 v3 v4 v5 v6 v7:Value}(h:w.heap[g]? =some (.cells #[v0,v1,v2,v3,v4,v5,v6,v7] t (0,0))):
  (w.cell? ⟨g,0,none⟩=some v0/\w.cell? ⟨g,1,none⟩=some v1/\w.cell? ⟨g,2,none⟩=some v2/\w.cell? ⟨g,3,none⟩=some v3/\w.cell? ⟨g,4,none⟩=some v4/\w.cell? ⟨g,5,none⟩=some v5/\w.cell? ⟨g,6,none⟩=some v6/\w.cell? ⟨g,7,none⟩=some v7)/\(∀i,w.frozen? ⟨g,i,none⟩=false):=by
 refine⟨⟨?_,?_,?_,?_,?_,?_,?_,?_⟩,fun i=>gF h⟩<;>(rw[gC h];rfl)
theorem set8{w:World}{g:Nat}{t:TypeId}{o0 o1 o2 o3 o4 o5 o6 o7 v0 v1 v2 v3 v4 v5 v6 v7:Value}(h:w.heap[g]? =some (.cells #[o0,o1,o2,o3,o4,o5,o6,o7] t (0,0))):
  ((((((((w.setCell ⟨g,0,none⟩ v0).setCell ⟨g,1,none⟩ v1).setCell ⟨g,2,none⟩ v2).setCell ⟨g,3,none⟩ v3).setCell ⟨g,4,none⟩ v4).setCell ⟨g,5,none⟩ v5).setCell ⟨g,6,none⟩ v6).setCell ⟨g,7,none⟩ v7).heap[g]? =some (.cells #[v0,v1,v2,v3,v4,v5,v6,v7] t (0,0)):=by
 have h0:(w.setCell ⟨g,0,none⟩ v0).heap[g]? =some (.cells #[v0,o1,o2,o3,o4,o5,o6,o7] t (0,0)):=by rw[heap_setCell_same _ g 0 _ t v0 h];simp
 have h1:((w.setCell ⟨g,0,none⟩ v0).setCell ⟨g,1,none⟩ v1).heap[g]? =some (.cells #[v0,v1,o2,o3,o4,o5,o6,o7] t (0,0)):=by rw[heap_setCell_same _ g 1 _ t v1 h0];simp
 have h2:(((w.setCell ⟨g,0,none⟩ v0).setCell ⟨g,1,none⟩ v1).setCell ⟨g,2,none⟩ v2).heap[g]? =some (.cells #[v0,v1,v2,o3,o4,o5,o6,o7] t (0,0)):=by rw[heap_setCell_same _ g 2 _ t v2 h1];simp
 have h3:((((w.setCell ⟨g,0,none⟩ v0).setCell ⟨g,1,none⟩ v1).setCell ⟨g,2,none⟩ v2).setCell ⟨g,3,none⟩ v3).heap[g]? =some (.cells #[v0,v1,v2,v3,o4,o5,o6,o7] t (0,0)):=by rw[heap_setCell_same _ g 3 _ t v3 h2];simp
 have h4:(((((w.setCell ⟨g,0,none⟩ v0).setCell ⟨g,1,none⟩ v1).setCell ⟨g,2,none⟩ v2).setCell ⟨g,3,none⟩ v3).setCell ⟨g,4,none⟩ v4).heap[g]? =some (.cells #[v0,v1,v2,v3,v4,o5,o6,o7] t (0,0)):=by rw[heap_setCell_same _ g 4 _ t v4 h3];simp
 have h5:((((((w.setCell ⟨g,0,none⟩ v0).setCell ⟨g,1,none⟩ v1).setCell ⟨g,2,none⟩ v2).setCell ⟨g,3,none⟩ v3).setCell ⟨g,4,none⟩ v4).setCell ⟨g,5,none⟩ v5).heap[g]? =some (.cells #[v0,v1,v2,v3,v4,v5,o6,o7] t (0,0)):=by rw[heap_setCell_same _ g 5 _ t v5 h4];simp
 have h6:(((((((w.setCell ⟨g,0,none⟩ v0).setCell ⟨g,1,none⟩ v1).setCell ⟨g,2,none⟩ v2).setCell ⟨g,3,none⟩ v3).setCell ⟨g,4,none⟩ v4).setCell ⟨g,5,none⟩ v5).setCell ⟨g,6,none⟩ v6).heap[g]? =some (.cells #[v0,v1,v2,v3,v4,v5,v6,o7] t (0,0)):=by rw[heap_setCell_same _ g 6 _ t v6 h5];simp
 have h7:((((((((w.setCell ⟨g,0,none⟩ v0).setCell ⟨g,1,none⟩ v1).setCell ⟨g,2,none⟩ v2).setCell ⟨g,3,none⟩ v3).setCell ⟨g,4,none⟩ v4).setCell ⟨g,5,none⟩ v5).setCell ⟨g,6,none⟩ v6).setCell ⟨g,7,none⟩ v7).heap[g]? =some (.cells #[v0,v1,v2,v3,v4,v5,v6,v7] t (0,0)):=by rw[heap_setCell_same _ g 7 _ t v7 h6];simp
 exact h7
theorem set8_other{w:World}{g k:Nat}{v0 v1 v2 v3 v4 v5 v6 v7:Value}(hk:k≠g):((((((((w.setCell ⟨g,0,none⟩ v0).setCell ⟨g,1,none⟩ v1).setCell ⟨g,2,none⟩ v2).setCell ⟨g,3,none⟩ v3).setCell ⟨g,4,none⟩ v4).setCell ⟨g,5,none⟩ v5).setCell ⟨g,6,none⟩ v6).setCell ⟨g,7,none⟩ v7).heap[k]? =w.heap[k]? :=by rw[heap_setCell_other _ _ _ _ hk,heap_setCell_other _ _ _ _ hk,heap_setCell_other _ _ _ _ hk,heap_setCell_other _ _ _ _ hk,heap_setCell_other _ _ _ _ hk,heap_setCell_other _ _ _ _ hk,heap_setCell_other _ _ _ _ hk,heap_setCell_other _ _ _ _ hk]
theorem stir_lit(a b c d e f g h:Nat)(bl:ByteArray)(l:List UInt8)(w:World)(hs:Sha.Ok ⟨a,b,c,d,e,f,g,h⟩)(hbl:bl.size=64)(hK:KT w)(hl:bl.data.toList=l):
  Calls Tryz.prog 139 #[.agg #[U a,U b,U c,U d,U e,U f,U g,U h],.string bl] w fun e' w'=>∃x:Sha.St,x=Sha.stir ⟨a,b,c,d,e,f,g,h⟩ l/\e'=.returned (.agg #[U x.a,U x.b,U x.c,U x.d,U x.e,U x.f,U x.g,U x.h])/\Below w.heap.size w w':=
 (stir_any a b c d e f g h bl w hs hbl hK).mono fun _ _ ⟨he,hb⟩=>⟨_,rfl,by rw[he,hl];rfl,hb⟩
theorem stirAll_any(a b c d e f g h:Nat)(s:ByteArray)(m:Nat)(w:World)(hs:Sha.Ok ⟨a,b,c,d,e,f,g,h⟩)(hm:s.size=64*m)(hl:s.size<=140737488355328)(hK:KT w):
  Calls Tryz.prog 104 #[.agg #[U a,U b,U c,U d,U e,U f,U g,U h],.string s] w fun e' w'=>e'=.returned (.agg (st8 (Sha.stirN s.data.toList m ⟨a,b,c,d,e,f,g,h⟩)))/\Below w.heap.size w w':=by
 have HK:Hid (KT w):=hK;have HS:Hid (Sha.Ok ⟨a,b,c,d,e,f,g,h⟩):=hs;have HM:Hid (s.size=64*m):=hm;clear hK hs hm;go_enter Tryz.func104,Tryz.ntmps104
 go_wp2;go_loopw [5] (fun i wq=>∃k:Nat,k<=m/\i=.int .i64 (64*k:Nat)/\wq.heap[w.heap.size]? =some (.cells (st8 (Sha.stirN s.data.toList k ⟨a,b,c,d,e,f,g,h⟩)) 64 (0,0))/\(∃z:Array Value,z.size=8/\wq.heap[w.heap.size+1]? =some (.cells z 64 (0,0)))/\w.heap.size+2<=wq.heap.size/\Below w.heap.size w wq) (fun i _=>s.size-(intOf i).toNat)
 case atStart=>
  refine⟨0,by omega,rfl,heap_alloc2_old _ _ _,⟨_,?_,heap_alloc2_new _ _ _⟩,by simp,?_⟩
  ·rfl
  ·exact((Below.refl _ _).alloc gR _).alloc (by simp) _
 case round=>
  obtain⟨k,hk,rfl,h2,⟨z,hz8,h3⟩,hz,hb⟩:=hrel;have hok:Sha.Ok (Sha.stirN s.data.toList k ⟨a,b,c,d,e,f,g,h⟩):=Sha.stirN_ok k HS.out;have H3:Hid (wr.heap[w.heap.size+1]? =some (.cells z 64 (0,0))):=h3;have H8:Hid (z.size=8):=hz8;have hsz:=HM.out;clear h3 hz8;by_cases hlt:k<m
  ·have HN:Hid (Sha.stirN s.data.toList (k+1) ⟨a,b,c,d,e,f,g,h⟩=Sha.stir (Sha.stirN s.data.toList k ⟨a,b,c,d,e,f,g,h⟩) ((s.data.toList.drop (64*k)).take 64)):=rfl;generalize Sha.stirN s.data.toList k ⟨a,b,c,d,e,f,g,h⟩=r at*;obtain⟨ra,rb,rc,rd,re,rf,rg,rh⟩:=r;have H2:Hid (wr.heap[w.heap.size]? =some (.cells #[U ra,U rb,U rc,U rd,U re,U rf,U rg,U rh] 64 (0,0))):=h2;obtain⟨⟨c0,c1,c2,c3,c4,c5,c6,c7⟩, -⟩:=row8 H2.out;obtain⟨t,ht⟩:∃t:Int,t=((64*k:Nat):Int):=⟨_,rfl⟩;have HT:Hid (t=((64*k:Nat):Int)):=ht;(have t0:0<=t:=by omega);(have t1:t+64<=s.size:=by omega);have hKr:Hid (KT wr):=HK.out.below hb;have hw64:=wrap_big (t+64) (by omega) (by omega);have hsl:∀W,(Instr.slice 9 (.string s) (some (.int .i64 t)) (some (.int .i64 (t+64))) none).run Tryz.prog W=.ok (.string (s.extract (64*k) (64*k+64))) W:=fun W=>by
    rw[run_slice_string W 9 s .i64 .i64 t (t+64) Tryz.underlying9 t0 (by omega) t1,show t.toNat=64*k by omega,show(t+64).toNat=64*k+64 by omega]
   (have hbs:Hid ((s.extract (64*k) (64*k+64)).size=64):=by rw[Hid,cut_size _ _ _ (by omega)];omega);(have hbd:Hid ((s.extract (64*k) (64*k+64)).data.toList=(s.data.toList.drop (64*k)).take 64):=by rw[Hid,zT];congr 1;omega);have HLT:=gH hlt;rw[<-ht];clear ht h2 hsz;(go_wp2_with fail);(go_region_with (go_at_call 139;go_must (refine(stir_lit ra rb rc rd re rf rg rh (s.extract (64*k) (64*k+64)) ((s.data.toList.drop (64*k)).take 64) wr.drew hok hbs.out (fun i hi=>hKr.out i hi) hbd.out).mono ?_;rintro e' w1⟨x,hx,rfl,hb1⟩;have HX:=gH hx;clear hx;have hr1:=(hb1.block w.heap.size (Nat.lt_of_lt_of_le (Nat.lt_add_of_pos_right (by decide)) hz)).trans H2.out;have HR1:=gH hr1;obtain⟨⟨d0,d1,d2,d3,d4,d5,d6,d7⟩,df⟩:=row8 hr1;clear hr1)));clear d0 d1 d2 d3 d4 d5 d6 d7 df c0 c1 c2 c3 c4 c5 c6 c7;go_wp2;go_roundw
   case rel=>
    refine⟨k+1,by have:=HLT.out;omega,by rw[HT.out];go_num,?_,⟨z,H8.out,?_⟩,?_,?_⟩
    ·rw[HN.out,<-HX.out];exact set8 HR1.out
    ·rw[set8_other (by omega)];exact(hb1.block (w.heap.size+1) hz).trans H3.out
    ·have:=hb1.size;simp;exact Nat.le_trans hz this
    ·exact((((((((hb.drew.trans (hb1.mono (show w.heap.size<=wr.heap.size by omega))).setCell (by simp) _).setCell (by simp) _).setCell (by simp) _).setCell (by simp) _).setCell (by simp) _).setCell (by simp) _).setCell (by simp) _).setCell (by simp) _
   case measure=>simp[intOf];omega
  ·(have ekm:k=m:=by omega);subst ekm;have hM1:(st8 (Sha.stirN s.data.toList k ⟨a,b,c,d,e,f,g,h⟩)).all (·.oneCell')=true:=st8_one _;have hM8:(st8 (Sha.stirN s.data.toList k ⟨a,b,c,d,e,f,g,h⟩)).size=8:=rfl;generalize hMe:st8 (Sha.stirN s.data.toList k ⟨a,b,c,d,e,f,g,h⟩)=M at*;have HMe:=gH hMe;have H2:=gH h2;have HM8:=gH hM8;obtain⟨t,ht⟩:∃t:Int,t=((64*k:Nat):Int):=⟨_,rfl⟩;(have t1:¬t<s.size:=by omega);rw[<-ht];clear ht h2 hM8 hlt hk hok hMe hsz;(go_wp2_with (first| (refine wpList_load_row rfl 64 (.tmp 2) rfl w.heap.size rfl 64 M (0,0) _ H2.out Tryz.underlying64 rfl (by rw[HM8.out];exact Tryz.info28) ?_)| (refine wpList_store_row rfl 64 (.tmp 4) (.tmp 19) rfl (w.heap.size+1) M rfl rfl 64 z H3.out (by rw[HM8.out];exact Tryz.info28) (by rw[HM8.out,H8.out]) hM1 ?_)));refine bodyPost_ret (v:=.agg M) ?_ rfl ⟨by rw[HMe.out],below_setRow hb (by omega) M⟩;exact results_cell_row rfl _ _ (w.heap.size+1) 64 M (0,0) _ rfl (gW H3.out) Tryz.underlying64 rfl (by rw[HM8.out];exact Tryz.info28)
theorem Tryz.info5:(Tryz.prog.info? 5).map (fun i=>(i.zero,i.size,i.bytes))=some (some (.int .u8 0),1,1):=by kernel_rfl
abbrev Y(b:UInt8):Value:=.int .u8 b.toNat
theorem Gx(n:Nat)(hn:n<4294967296):[Value.int .u8 ((n:Int)/16777216),Value.int .u8 ((n:Int)/65536%256),Value.int .u8 ((n:Int)/256%256),Value.int .u8 ((n:Int)%256)]=(Sha.four n).map Y:=by
 have e1:(UInt8.ofNat (n/16777216)).toNat=n/16777216:=by simp;omega
 have e2:(UInt8.ofNat (n/65536)).toNat=n/65536%256:=by simp
 have e3:(UInt8.ofNat (n/256)).toNat=n/256%256:=by simp
 have e4:(UInt8.ofNat n).toNat=n%256:=by simp
 simp only[Sha.four,List.map_cons,List.map_nil,Y,e1,e2,e3,e4];rfl
theorem append_any(v:Value)(k:Nat)(xs:List Value)(n:Nat)(w:World)(B:Nat)(hn:n<4294967296)(hB:B<=w.heap.size)(hx:k<=1000)(hown:w.ownsRow B 5 1 v k xs):
  Calls Tryz.prog 140 #[v,.int .u32 n] w fun e w'=>∃v',e=.returned v'/\w'.ownsRow B 5 1 v' (k+4) (xs++(Sha.four n).map Y)/\Below B w w'/\w.heap.size<=w'.heap.size/\v'≠ .slice none 0 0:=by
 have HO:=gH hown;have HV:=gH (Gx n hn);obtain⟨i0,hi,hz0,hz1,hz2⟩:=info_parts Tryz.info5;clear hown;go_enter Tryz.func140,Tryz.ntmps140
 go_wp2_with (at_builtin;refine wpList_append_own _ rfl (.tmp 5) (.tmp 17) 59 rfl B 5 i0 (.int .u8 0) 1 1 Tryz.underlying59 hi hz0 hz1 hz2 rfl (by decide) v k xs rfl (HO.out.alloc _) ⟨w.heap.size,0,none⟩ 4 4 [Value.int .u8 ((n:Int)/16777216),Value.int .u8 ((n:Int)/65536%256),Value.int .u8 ((n:Int)/256%256),Value.int .u8 ((n:Int)%256)] rfl rfl ?c1 ?c2 ?c3 ?c4 ?c5 ?_)
 case c1=>
  intro j u hj
  match j,hj with
  |0,hj=>simp at hj;subst hj;simp[Addr.add]
  |1,hj=>simp at hj;subst hj;simp[Addr.add]
  |2,hj=>simp at hj;subst hj;simp[Addr.add]
  |3,hj=>simp at hj;subst hj;simp[Addr.add]
  |j+4,hj=>simp at hj
 case c2=>intro u hu;simp at hu;rcases hu with rfl|rfl|rfl|rfl<;>rfl
 case c3=>unfold maxLen;omega
 case c4=>omega
 case c5=>simp;omega
 ·intro v' w1 hown' hgrow hnil;rw[HV.out] at hown';have hb:Below B w w1:=(((Below.refl B w).alloc hB _).grown hgrow (by simp;omega) (fun k hk=>(HO.out.lt k hk).1));go_wp2;go_ret;exact⟨v',rfl,hown',hb,hb.size,hnil⟩
def bytesTo(l:List Nat):Nat->List UInt8
 |0=>[]
 |k+1=>bytesTo l k++Sha.four (l.getD k 0)
theorem jC(l:List Nat):∀k,(bytesTo l k).length=4*k
 |0=>rfl
 |k+1=>by simp[bytesTo,jC l k,Sha.four];omega
theorem join_bytes(s:Sha.St):bytesTo (toL s) 8=Sha.join s:=by simp[bytesTo,toL,Sha.join]
theorem Tryz.under22:Tryz.prog.underlying 39=some (.array 32 5):=by kernel_rfl
theorem Tryz.info22:(Tryz.prog.info? 39).map (·.size)=some 32:=by kernel_rfl
theorem arrayAt22(g cap:Nat)(W:World):(Instr.arrayAt 39 (.slice (some ⟨g,0,none⟩) 32 cap)).run Tryz.prog W=.ok (.pointer (some ⟨g,0,none⟩)) W:=by simp[Instr.arrayAt,run_underlying Tryz.under22]
theorem getD_ok(s:Sha.St)(h:Sha.Ok s):∀k,(toL s).getD k 0<4294967296:=by refine Sha.getD_lt ?_;obtain⟨a,b,c,d,e,f,g,i⟩:=h;intro x hx;simp only[toL,List.mem_cons,List.not_mem_nil,or_false] at hx;rcases hx with rfl|rfl|rfl|rfl|rfl|rfl|rfl|rfl<;>assumption
theorem join_any(a b c d e f g h:Nat)(w:World)(hs:Sha.Ok ⟨a,b,c,d,e,f,g,h⟩):
  Calls Tryz.prog 106 #[.agg #[U a,U b,U c,U d,U e,U f,U g,U h]] w fun e' w'=>e'=.returned (.agg ((Sha.join ⟨a,b,c,d,e,f,g,h⟩).map Y).toArray)/\Below w.heap.size w w':=by
 have HG:=gH (getD_ok _ hs);clear hs;have HJ:=gH (join_bytes ⟨a,b,c,d,e,f,g,h⟩);go_enter Tryz.func106,Tryz.ntmps106
 go_wp2;go_loopw [3,7] (fun v i wq=>∃k:Nat,k<=8/\i=.int .i64 k/\wq.ownsRow (w.heap.size+2) 5 1 v (4*k) ((bytesTo (toL ⟨a,b,c,d,e,f,g,h⟩) k).map Y)/\(k=8->v≠ .slice none 0 0)/\w.heap.size+2<=wq.heap.size/\(∃z:Array Value,z.size=32/\wq.heap[w.heap.size+1]? =some (.cells z 39 (0,0)))/\Below w.heap.size w wq) (fun _ i _=>8-(intOf i).toNat)
 case atStart=>
  refine⟨0,by omega,rfl,World.ownsRow_nil _ _ _ _,by simp,by simp,⟨_,?_,heap_alloc2_new _ _ _⟩,?_⟩
  ·rfl
  ·exact((Below.refl _ _).alloc gR _).alloc (by simp) _
 case round=>
  obtain⟨k,hk,rfl,hown,hne,hz,⟨z,hz8,hres⟩,hb⟩:=hrel;have HO:=gH hown;have HR:=gH hres;have H8:=gH hz8;clear hown hres hz8;by_cases hlt:k<8
  ·have hv:=idxAgg28 #[U a,U b,U c,U d,U e,U f,U g,U h] (k:Int) k _ rfl hlt (st8_at ⟨a,b,c,d,e,f,g,h⟩ k hlt);have hg:=HG.out k;have HB:=gS (bytesTo (toL ⟨a,b,c,d,e,f,g,h⟩) (k+1)=bytesTo (toL ⟨a,b,c,d,e,f,g,h⟩) k++Sha.four ((toL ⟨a,b,c,d,e,f,g,h⟩).getD k 0)) rfl;clear hne;generalize (toL ⟨a,b,c,d,e,f,g,h⟩).getD k 0=x at*;(go_wp2_with fail);refine(append_any _ (4*k) ((bytesTo (toL ⟨a,b,c,d,e,f,g,h⟩) k).map Y) x _ (w.heap.size+2) hg hz (by omega) HO.out).mono ?_;rintro e' w'⟨v',rfl,hown',hb',hsz',hne'⟩;have HO':=gH hown';clear hown';go_wp2;go_roundw
   case rel=>refine⟨k+1,hlt,by go_num,?_,fun _=>hne',by omega,⟨z,H8.out,(hb'.block (w.heap.size+1) (by omega)).trans HR.out⟩,hb.trans (hb'.mono (by omega))⟩;have:=HO'.out;rw[<-List.map_append,<-HB.out] at this;exact this
   case measure=>simp[intOf];omega
  ·(have e8:k=8:=by omega);subst e8;have hne:=hne rfl;have hown:=HO.out;obtain⟨hlen,hv| ⟨gb,cap,cur,rfl,hgb,hheap,hcap,hmax,hcs,htake⟩⟩:=hown
   ·exact absurd hv.1 hne
   have hrange:wr.rangeAt gb 0 ((bytesTo (toL ⟨a,b,c,d,e,f,g,h⟩) 8).map Y):=by
    intro j u hu;rw[gC hheap,Nat.zero_add,<-Array.getElem?_toList];rw[<-htake] at hu;have hj:j<4*8*1:=by
     rcases Nat.lt_or_ge j (4*8*1) with h'|h'
     ·exact h'
     ·rw[List.getElem?_eq_none (by rw[List.length_take];omega)] at hu;cases hu
    rwa [List.getElem?_take_of_lt hj] at hu
   (have h32:((bytesTo (toL ⟨a,b,c,d,e,f,g,h⟩) 8).map Y).length=32:=by rw[List.length_map,jC]);have hone:((bytesTo (toL ⟨a,b,c,d,e,f,g,h⟩) 8).map Y).toArray.all (·.oneCell')=true:=by rw[List.all_toArray,List.all_eq_true];intro v hv;obtain⟨n,_,rfl⟩:=List.mem_map.1 hv;rfl
   have har:=arrayAt22 gb cap;rw[HJ.out] at hrange h32 hone;clear hne hlen hheap hcap hmax hcs htake HO HJ HG hlt hk;generalize hLe:(Sha.join ⟨a,b,c,d,e,f,g,h⟩).map Y=L at*;have HLe:=gH hLe;clear hLe;have HRg:=gH hrange;have H32:=gH h32;have H1:=gH hone;have HI:=gS ((Tryz.prog.info? 39).map (·.size)=some L.toArray.size) (by rw[List.size_toArray,h32];exact Tryz.info22);have HE:=gS (z.size=L.toArray.size) (by rw[H8.out,List.size_toArray,h32]);clear hrange h32 hone;(go_wp2_with (first| (refine wpList_load_mid rfl 39 (.tmp 15) rfl gb 0 rfl L _ HRg.out Tryz.under22 rfl (by rw[H32.out];exact Tryz.info22) ?_)| (refine wpList_store_row rfl 39 (.tmp 2) (.tmp 16) rfl (w.heap.size+1) L.toArray rfl rfl 39 z HR.out HI.out HE.out H1.out ?_)));refine bodyPost_ret (v:=.agg L.toArray) ?_ rfl ⟨by rw[HLe.out],below_setRow hb (by omega) _⟩;exact results_cell_row rfl _ _ (w.heap.size+1) 39 L.toArray (0,0) _ rfl (gW HR.out) Tryz.under22 rfl HI.out
theorem start_any(w:World):
  Calls Tryz.prog 105 #[] w fun e' w'=>e'=.returned (.agg #[U 1779033703,U 3144134277,U 1013904242,U 2773480762,U 1359893119,U 2600822924,U 528734635,U 1541459225])/\Below w.heap.size w w':=by
 go_enter Tryz.func105,Tryz.ntmps105
 go_wp2;exact bodyPost_ret (v:=.agg #[U 1779033703,U 3144134277,U 1013904242,U 2773480762,U 1359893119,U 2600822924,U 528734635,U 1541459225]) (results_cell_row rfl _ _ w.heap.size 64 _ (0,0) _ rfl (heap_alloc_new w _) Tryz.under28 rfl Tryz.info28) rfl ⟨rfl,(Below.refl _ _).alloc gR _⟩
section
open Go.Shelf
def Tryz.lays105_ren:Go.Shelf.Ren:=⟨fun|105=>141|212=>169|99=>170|165=>171|166=>172|170=>173|169=>174|263=>187|264=>188|206=>189|240=>190|241=>191|276=>194|277=>195|n=>n,fun|9=>9|3=>3|4=>4|20=>20|0=>0|46=>123|109=>231|5=>5|72=>235|76=>239|51=>63|146=>250|53=>142|148=>252|70=>233|37=>59|75=>238|127=>254|164=>258|80=>200|n=>n,fun|n=>n⟩
theorem Tryz.lays105:Go.Proofs.Lays.n105 Tryz.prog Tryz.lays105_ren:={
 mixed:=by kernel_rfl
 f99:=Tryz.func170.trans (congrArg some (by kernel_rfl))
 f105:=Tryz.func141.trans (congrArg some (by kernel_rfl))
 f165:=Tryz.func171.trans (congrArg some (by kernel_rfl))
 f166:=Tryz.func172.trans (congrArg some (by kernel_rfl))
 f169:=Tryz.func174.trans (congrArg some (by kernel_rfl))
 f170:=Tryz.func173.trans (congrArg some (by kernel_rfl))
 f206:=Tryz.func189.trans (congrArg some (by kernel_rfl))
 f212:=Tryz.func169.trans (congrArg some (by kernel_rfl))
 f240:=Tryz.func190.trans (congrArg some (by kernel_rfl))
 f241:=Tryz.func191.trans (congrArg some (by kernel_rfl))
 f263:=Tryz.func187.trans (congrArg some (by kernel_rfl))
 f264:=Tryz.func188.trans (congrArg some (by kernel_rfl))
 f276:=Tryz.func194.trans (congrArg some (by kernel_rfl))
 f277:=Tryz.func195.trans (congrArg some (by kernel_rfl))
 t0:=Tryz.underlying0
 a0:=Tryz.isAgg0
 z0:=Tryz.sizeOf0
 v0:=Tryz.zeroValue0
 t3:=Tryz.underlying3
 a3:=Tryz.isAgg3
 z3:=Tryz.sizeOf3
 v3:=Tryz.zeroValue3
 t4:=Tryz.underlying4
 a4:=Tryz.isAgg4
 z4:=Tryz.sizeOf4
 v4:=Tryz.zeroValue4
 t5:=Tryz.underlying5
 a5:=Tryz.isAgg5
 z5:=Tryz.sizeOf5
 v5:=Tryz.zeroValue5
 t9:=Tryz.underlying9
 a9:=Tryz.isAgg9
 z9:=Tryz.sizeOf9
 v9:=Tryz.zeroValue9
 t20:=Tryz.underlying20
 a20:=Tryz.isAgg20
 z20:=Tryz.sizeOf20
 v20:=Tryz.zeroValue20
 t37:=Tryz.underlying59
 a37:=Tryz.isAgg59
 z37:=Tryz.sizeOf59
 v37:=Tryz.zeroValue59
 t46:=Tryz.underlying123
 a46:=Tryz.isAgg123
 z46:=Tryz.sizeOf123
 v46:=Tryz.zeroValue123
 t51:=Tryz.underlying63
 a51:=Tryz.isAgg63
 z51:=Tryz.sizeOf63
 v51:=Tryz.zeroValue63
 t53:=Tryz.underlying142
 a53:=Tryz.isAgg142
 z53:=Tryz.sizeOf142
 v53:=Tryz.zeroValue142
 t70:=Tryz.underlying233
 a70:=Tryz.isAgg233
 z70:=Tryz.sizeOf233
 v70:=Tryz.zeroValue233
 t72:=Tryz.underlying235
 a72:=Tryz.isAgg235
 z72:=Tryz.sizeOf235
 v72:=Tryz.zeroValue235
 t75:=Tryz.underlying238
 a75:=Tryz.isAgg238
 z75:=Tryz.sizeOf238
 v75:=Tryz.zeroValue238
 t76:=Tryz.underlying239
 a76:=Tryz.isAgg239
 z76:=Tryz.sizeOf239
 v76:=Tryz.zeroValue239
 t109:=Tryz.underlying231
 a109:=Tryz.isAgg231
 z109:=Tryz.sizeOf231
 v109:=Tryz.zeroValue231
 t127:=Tryz.underlying254
 a127:=Tryz.isAgg254
 z127:=Tryz.sizeOf254
 v127:=Tryz.zeroValue254
 t146:=Tryz.underlying250
 a146:=Tryz.isAgg250
 z146:=Tryz.sizeOf250
 v146:=Tryz.zeroValue250
 t148:=Tryz.underlying252
 a148:=Tryz.isAgg252
 z148:=Tryz.sizeOf252
 v148:=Tryz.zeroValue252
 t164:=Tryz.underlying258
 a164:=Tryz.isAgg258
 z164:=Tryz.sizeOf258
 v164:=Tryz.zeroValue258}
theorem Tryz.Builder_Extra_105:Builder.Extra Tryz.prog Tryz.lays105_ren:={
 sizeBuilder:=by kernel_rfl
 liesBuilder:=by kernel_rfl
 t5:=Tryz.underlying5
 a5:=Tryz.isAgg5
 z5:=Tryz.sizeOf5
 v5:=Tryz.zeroValue5
 infoByte:=by kernel_rfl
 cellsByte:=by kernel_rfl
 sizeByte:=by kernel_rfl
 neB5:=by decide}
theorem repeat_any(s:ByteArray)(c:Nat)(w:World)(hc:c<=9223372036854775807)(hlen:s.size*c<=140737488355328):Calls Tryz.prog 141 #[.string s,.int .i64 c] w fun e w'=>e=.returned (.string ⟨(Lib.repeatL s.data.toList c).toArray⟩)/\Go.RowKit.Below w.heap.size w w':=Any.strings_Repeat Tryz.lays105 Tryz.Builder_Extra_105 s c w hc hlen
end
theorem str_of_bytes(l:List UInt8):strOfNums (l.map fun b=>(b.toNat:Int))=⟨l.toArray⟩:=by
 apply ByteArray.ext;apply Array.toList_inj.1;rw[strOfNums_data,List.map_map];show l.map ((fun n:Int=>UInt8.ofNat n.toNat)∘fun b:UInt8=>(b.toNat:Int))=l;have:((fun n:Int=>UInt8.ofNat n.toNat)∘fun b:UInt8=>(b.toNat:Int))=id:=by funext b;simp
 rw[this,List.map_id]
theorem oL(g n cap:Nat)(l:List UInt8)(hl:l.length=n)(W:World)(h:W.rangeAt g 0 (l.map Y)):
  (convert 59 9 (.slice (some ⟨g,0,none⟩) n cap)).run Tryz.prog W=.ok (.string ⟨l.toArray⟩) W:=by
 rw[<-str_of_bytes];refine run_convert_bytes_arg W 59 5 Tryz.underlying59 Tryz.underlying5 g 0 n cap (l.map fun b=>(b.toNat:Int)) (by rw[List.length_map,hl]) (fun i hi=>?_) 9 Tryz.underlying9;refine h i _ ?_;rw[List.getElem?_map,List.getElem?_eq_getElem (by omega),List.getD_eq_getElem?_getD,List.getElem?_map,List.getElem?_eq_getElem (by omega)];rfl
theorem range_of_owns{w:World}{B n:Nat}{l:List UInt8}{v:Value}(h:w.ownsRow B 5 1 v n (l.map Y))(hne:v≠ .slice none 0 0):
  ∃g cap,v=.slice (some ⟨g,0,none⟩) n cap/\B<=g/\g<w.heap.size/\w.rangeAt g 0 (l.map Y):=by
 obtain⟨hlen,hv| ⟨gb,cap,cur,rfl,hgb,hheap,hcap,hmax,hcs,htake⟩⟩:=h
 ·exact absurd hv.1 hne
 refine⟨gb,cap,rfl,hgb,?_,?_⟩
 ·rcases Nat.lt_or_ge gb w.heap.size with h'|h'
  ·exact h'
  ·rw[Array.getElem?_eq_none h'] at hheap;cases hheap
 ·intro j u hu;rw[gC hheap,Nat.zero_add,<-Array.getElem?_toList];rw[<-htake] at hu;have hj:j<n*1:=by
   rcases Nat.lt_or_ge j (n*1) with h'|h'
   ·exact h'
   ·rw[List.getElem?_eq_none (by rw[List.length_take];omega)] at hu;cases hu
  rwa [List.getElem?_take_of_lt hj] at hu
theorem zk{B:Nat}{w w':World}{g:Nat}{L:List Value}(hb:Below B w w')(hg:g<B)(h:w.rangeAt g 0 L):w'.rangeAt g 0 L:=fun j v hv=>(hb.cell (p:=⟨g,0+j,none⟩) hg).trans (h j v hv)
theorem append_anyI(v:Value)(k:Nat)(xs:List Value)(x:Int)(n:Nat)(w:World)(B:Nat)(hx:x=n)(hn:n<4294967296)(hB:B<=w.heap.size)(hk:k<=1000)(hown:w.ownsRow B 5 1 v k xs):
  Calls Tryz.prog 140 #[v,.int .u32 x] w fun e w'=>∃v',e=.returned v'/\w'.ownsRow B 5 1 v' (k+4) (xs++(Sha.four n).map Y)/\Below B w w'/\w.heap.size<=w'.heap.size/\v'≠ .slice none 0 0:=by
 subst hx;exact append_any v k xs n w B hn hB hk hown
theorem repeat_anyI(x:Int)(c:Nat)(Z:List UInt8)(w:World)(hx:x=c)(hc:c<64)(hZ:List.replicate c (0:UInt8)=Z):
  Calls Tryz.prog 141 #[.string ⟨#[0]⟩,.int .i64 x] w fun e w'=>e=.returned (.string ⟨Z.toArray⟩)/\Below w.heap.size w w':=by
 subst hx;subst hZ;have:=repeat_any ⟨#[0]⟩ c w (by omega) (by show 1*c<=_;omega);have e:∀c,Lib.repeatL [(0:UInt8)] c=List.replicate c 0:=by
  intro c;induction c with
  |zero=>rfl
  |succ c ih=>rw[Lib.repeatL,ih];rfl
 rw[show(⟨#[0]⟩:ByteArray).data.toList=[(0:UInt8)] from rfl,e] at this;exact this
theorem padding_any(n:Nat)(w:World)(hn:n<=140737488355328):
  Calls Tryz.prog 107 #[.int .i64 n] w fun e w'=>e=.returned (.string ⟨(Sha.padding n).toArray⟩)/\Below w.heap.size w w':=by
 go_enter Tryz.func107,Tryz.ntmps107
 go_wp2_with fail
 refine(append_anyI _ 0 [] _ (8*n/4294967296%4294967296) _ w.heap.size (by omega) (by omega) gR (by omega) (World.ownsRow_nil _ _ _ _)).mono ?_;rintro e w1⟨v1,rfl,hown1,hb1,hs1, -⟩;have HO1:=gH hown1;clear hown1;go_wp2_with fail
 refine(append_anyI _ 4 _ _ (8*n%4294967296) _ w.heap.size (by omega) (by omega) hs1 (by omega) HO1.out).mono ?_;rintro e w2⟨v2,rfl,hown2,hb2,hs2,hne⟩;rw[List.nil_append,<-List.map_append] at hown2;obtain⟨g,cap,rfl,hg0,hg1,hrg⟩:=range_of_owns hown2 hne;have hbw:=hb1.trans hb2;clear hown2 hne HO1;have hconv:=oL g 8 cap (Sha.four (8*n/4294967296%4294967296)++Sha.four (8*n%4294967296)) rfl;have HP:=gS (Sha.padding n=(128::List.replicate ((119-n%64)%64) 0)++(Sha.four (8*n/4294967296%4294967296)++Sha.four (8*n%4294967296))) rfl;have hT8:(Sha.four (8*n/4294967296%4294967296)++Sha.four (8*n%4294967296)).length=8:=rfl;generalize Sha.four (8*n/4294967296%4294967296)++Sha.four (8*n%4294967296)=T at*;have hZl:(List.replicate ((119-n%64)%64) (0:UInt8)).length=(119-n%64)%64:=List.length_replicate;generalize hZe:List.replicate ((119-n%64)%64) (0:UInt8)=Z at*;have HZe:=gH hZe;have ha1:∀W,(Op.stringOp .add ⟨#[128]⟩ ⟨Z.toArray⟩).run Tryz.prog W=.ok (.string ⟨(128::Z).toArray⟩) W:=fun W=>run_string_add_lists W [128] Z (by simp) (by omega);have ha2:∀W,(Op.stringOp .add ⟨(128::Z).toArray⟩ ⟨T.toArray⟩).run Tryz.prog W=.ok (.string ⟨(128::Z++T).toArray⟩) W:=fun W=>run_string_add_lists W (128::Z) T (by simp;omega) (by omega);generalize hAe:128::Z=A at*;generalize hBe:A++T=D at*;clear hZe hZl hT8 hAe hBe;go_wp2_with fail
 go_region_held3 (fun W=>W.rangeAt g 0 (T.map Y)) (first|assumption| (simpa using hrg)) ((go_at_call 141;refine(repeat_anyI _ ((119-n%64)%64) Z _ (by omega) (by omega) HZe.out).mono ?_;rintro e w3⟨rfl,hb3⟩;have hS3:=zk hb3 (by simpa using hg1) (by simpa using hrg)))
 go_wp2;go_ret;exact⟨congrArg (fun l:List UInt8=>Ending.returned (Value.string ⟨l.toArray⟩)) HP.out.symm,hbw.drew.trans (hb3.mono (show w.heap.size<=w2.heap.size by omega))⟩
end Go.Proofs.YtenaelkbgkpllaaGreatDoor
