/- Part 36 of what the four laws rest on: laid by a program out of the texts of wip/T. -/
import Derived.Test.YtenaelkbgkpllaaGreatDoorLaw35
set_option maxRecDepth 100000
set_option maxHeartbeats 8000000
namespace Go.Proofs.YtenaelkbgkpllaaGreatDoor
open Go.RowKit
theorem boxed1(w:World)(Z:Array Value)(b:TypeId):Below w.heap.size w (w.alloc (.cells Z b))/\(w.alloc (.cells Z b)).heap[w.heap.size]? =some (.cells Z b (0,0)):=⟨gB w _,heap_alloc_new w _⟩
theorem Tryz.sizeOp:(Tryz.prog.info? 76).map (·.size)=some 48:=by kernel_rfl
def pickI(M:Int)(N:Nat):Nat:=((M.tmod N+N).tmod N).toNat
theorem pick_lt{M:Int}{N:Nat}(h:0<N):0<=(M.tmod N+N).tmod N/\(M.tmod N+N).tmod N<N/\ -(N:Int)<M.tmod N/\M.tmod N<N:=by
 have hN:(0:Int)<N:=by omega
 have h2:M.tmod N<N:=Int.tmod_lt_of_pos _ hN;have h1: -(N:Int)<M.tmod N:=by have h3:(-M).tmod N<N:=Int.tmod_lt_of_pos _ hN;rw[Int.neg_tmod] at h3;omega
 exact⟨Int.tmod_nonneg _ (by omega),Int.tmod_lt_of_pos _ hN,h1,h2⟩
theorem step_law{w0 w:World}{ow:Nat->Nat}{W0 n:Nat}{vp vh:Value}{ps:List Pr}{hs:List Nat}(o:Opn)(hF:o.Fit)(hk:o.kind<=8)(hk1:o.kind≠1)(h:Stands w0 w ow W0 n vp vh ps hs (pickI o.m ps.length))
  (m r:Nat) (v u:Value) (L:List Wd.Pt) (hm:ps[pickI o.m ps.length]? =some ⟨m,v,r,u,L,L⟩)
  (hA:4<=o.kind->∀w',Below w.heap.size w w'->Calls Tryz.prog 58 #[.pointer (some ⟨W0,0,none⟩),.agg #[.pointer (some ⟨m,0,none⟩),.pointer (some ⟨r,0,none⟩)],.agg (opV o).toArray] w' fun e w''=>e=.returned (.bool true)/\InvE w0 w'' W0 (n+1)):
  Calls Tryz.prog 28 #[.pointer (some ⟨W0,0,none⟩),.agg (opV o).toArray] w fun e w'=>e=.returned (.bool true)/\InvE w0 w' W0 (n+1):=by
 obtain⟨g,c,evp,hnc,hcell⟩:=h.inv.law.pair_at h.ne;have hN:0<ps.length:=List.length_pos_iff.2 h.ne;have hNs:ps.length<=1000000000000:=Nat.le_trans h.pn h.small;have hjl:=h.lt;obtain⟨hp1,hp2,hp3,hp4⟩:=pick_lt (M:=o.m) hN;have hMb:=hF.m;obtain⟨j,hj⟩:∃j,pickI o.m ps.length=j:=⟨_,rfl⟩;have hjt:((o.m.tmod ps.length+ps.length).tmod ps.length).toNat=j:=hj;rw[hj] at h hm hjl;have HH:=gH h;have HOV:=gS ((opV o).toArray[0]? =some (I o.kind)/\(opV o).toArray[1]? =some (I o.m)) (⟨rfl,rfl⟩);have HOP:=gS ((opV o).toArray[2]? =some (I o.a)/\(opV o).toArray[3]? =some (I o.p.id)/\(opV o).toArray[4]? =some (I o.p.x)/\(opV o).toArray[5]? =some (I o.p.y)/\(opV o).toArray.size=48) (⟨rfl,rfl,rfl,rfl,by rw[List.size_toArray];exact opV_len hF.root⟩);have HCL:=gH (fun w' hb=>And.intro (hcell w' hb).1 ((hcell w' hb).2 j hjl));have HEM:=gS (ps[j]=⟨m,v,r,u,L,L⟩) ((List.getElem?_eq_some_iff.1 hm).2);obtain⟨OV,hOV⟩:∃OV,(opV o).toArray=OV:=⟨_,rfl⟩;rw[hOV] at HOV HOP hA⊢;have HA:=gH hA;clear hA;have HBX:=gH (boxed1 w OV 76);clear h hcell;go_enter Tryz.func28,Tryz.ntmps28
 go_upto_region 1 with fail
 have hbx:=HBX.out;clear HBX;generalize w.alloc (.cells OV 76)=w1 at hbx⊢;obtain⟨hb1,hx⟩:=hbx;have k0:w1.cell? ⟨w.heap.size,0,none⟩=some (I o.kind):=by rw[gC hx];exact HOV.out.1
 have k1:w1.cell? ⟨w.heap.size,1,none⟩=some (I o.m):=by rw[gC hx];exact HOV.out.2
 obtain⟨q0,q1',q2'⟩:=HCL.out w1 hb1;have q1:w1.cell? ⟨g,j*2,none⟩=some (.pointer (some ⟨m,0,none⟩)):=by rw[q1',HEM.out]
 have q2:w1.cell? ⟨g,j*2+1,none⟩=some (.pointer (some ⟨r,0,none⟩)):=by rw[q2',HEM.out]
 clear q1' q2';subst evp;have hs1:w.heap.size<w1.heap.size:=(gL hx);have HB1:=gH hb1;have HX:=gH hx;clear hb1 hx HCL;obtain⟨kd,hk0⟩:∃kd,o.kind=kd:=⟨_,rfl⟩;rw[hk0] at hk hk1 k0 HOV;generalize o.m=M at*;have hkb:(kd==1)=false:=by simpa using hk1
 go_upto_region 4 with fail
 have hne:¬ps=[]:=fun e=>by rw[e] at hN;simp at hN
 have hwr:IntKind.i64.wrap (M.tmod ↑ps.length+ ↑ps.length)=M.tmod ↑ps.length+ ↑ps.length:=by rw[IntKind.wrap_i64];omega
 go_cut [6] from 24 to 37 (fun v6 wx=>∃gx,v6=.pointer (some ⟨gx,0,none⟩)/\w1.heap.size<=gx/\wx.heap[gx]? =some (.cells #[.pointer (some ⟨m,0,none⟩),.pointer (some ⟨r,0,none⟩)] 113 (0,0))/\Below w1.heap.size w1 wx)
 case first=>
  have hS:w1.drew.cell? ⟨W0,0,none⟩=some (.slice (some ⟨g,0,none⟩) ps.length c)/\w1.drew.cell? ⟨w.heap.size,1,none⟩=some (I M)/\w1.drew.cell? ⟨g,j*2,none⟩=some (.pointer (some ⟨m,0,none⟩))/\w1.drew.cell? ⟨g,j*2+1,none⟩=some (.pointer (some ⟨r,0,none⟩)):=⟨by simpa using q0,by simpa using k1,by simpa using q1,by simpa using q2⟩;refine gX 15 (fun W=>W.cell? ⟨W0,0,none⟩=some (.slice (some ⟨g,0,none⟩) ps.length c)/\W.cell? ⟨w.heap.size,1,none⟩=some (I M)/\W.cell? ⟨g,j*2,none⟩=some (.pointer (some ⟨m,0,none⟩))/\W.cell? ⟨g,j*2+1,none⟩=some (.pointer (some ⟨r,0,none⟩))) (by kernel_rfl) hS (fun hH=>?_);clear hS;refine tkJ 0 rfl (by kernel_rfl) gJ (by rfl) hH ⟨_,by rintro W⟨zp,zm,z0,z1⟩;go_simp;try with_reducible rfl,?_⟩;try go_simp
  refine tkJ 1 rfl (by kernel_rfl) gJ (by rfl) hH ⟨_,by rintro W⟨zp,zm,z0,z1⟩;go_simp;try with_reducible rfl,?_⟩;try go_simp
  refine tkJ 2 rfl (by kernel_rfl) gJ (by rfl) hH ⟨_,by rintro W⟨zp,zm,z0,z1⟩;go_simp;try with_reducible rfl,?_⟩;try go_simp
  refine tkJ 3 rfl (by kernel_rfl) gJ (by rfl) hH ⟨_,by rintro W⟨zp,zm,z0,z1⟩;go_simp;try with_reducible rfl,?_⟩;try go_simp
  refine tkJ 4 rfl (by kernel_rfl) gJ (by rfl) hH ⟨_,by rintro W⟨zp,zm,z0,z1⟩;go_simp;try with_reducible rfl,?_⟩;try go_simp
  refine tkJ 5 rfl (by kernel_rfl) gJ (by rfl) hH ⟨_,by rintro W⟨zp,zm,z0,z1⟩;go_simp;try with_reducible rfl,?_⟩;try go_simp
  refine tkJ 6 rfl (by kernel_rfl) gJ (by rfl) hH ⟨_,by rintro W⟨zp,zm,z0,z1⟩;go_simp;try with_reducible rfl,?_⟩;try go_simp
  refine tkJ 7 rfl (by kernel_rfl) gJ (by rfl) hH ⟨_,by rintro W⟨zp,zm,z0,z1⟩;go_simp;try with_reducible rfl,?_⟩;try go_simp
  refine tkJ 8 rfl (by kernel_rfl) gJ (by rfl) hH ⟨_,by rintro W⟨zp,zm,z0,z1⟩;go_simp;try with_reducible rfl,?_⟩;try go_simp
  refine tkJ 9 rfl (by kernel_rfl) gJ (by rfl) hH ⟨_,by rintro W⟨zp,zm,z0,z1⟩;go_simp;try with_reducible rfl,?_⟩;try go_simp
  refine tkJ 10 rfl (by kernel_rfl) gJ (by rfl) hH ⟨_,by rintro W⟨zp,zm,z0,z1⟩;go_simp;try with_reducible rfl,?_⟩;try go_simp
  refine tkJ 11 rfl (by kernel_rfl) gJ (by rfl) hH ⟨_,by rintro W⟨zp,zm,z0,z1⟩;go_simp;try with_reducible rfl,?_⟩;try go_simp
  refine tkJ 12 rfl (by kernel_rfl) gJ (by rfl) hH ⟨_,by rintro W⟨zp,zm,z0,z1⟩;go_simp;try with_reducible rfl,?_⟩;try go_simp
  refine tkJ 13 rfl (by kernel_rfl) gJ (by rfl) hH ⟨_,by rintro W⟨zp,zm,z0,z1⟩;go_simp;try with_reducible rfl,?_⟩;try go_simp
  refine gA (i:=14) (by kernel_rfl) rfl (fun K hK=>?_);go_simp;have hn2:=heap_alloc_new w1;have hb2':=fun o=>(gB w1 o).drew;refine hK.out _ _ (fun _=>?_) ?_
  ·obtain⟨z1,z2,z3,z4⟩:=hH;have hb3:=hb2' (.cells #[.pointer none,.pointer none] 113);exact⟨(hb3.cell (p:=⟨W0,0,none⟩) (block_lt_of_cell q0)).trans q0,(hb3.cell (p:=⟨w.heap.size,1,none⟩) (block_lt_of_cell k1)).trans k1,(hb3.cell (p:=⟨g,j*2,none⟩) (block_lt_of_cell q1)).trans q1,(hb3.cell (p:=⟨g,j*2+1,none⟩) (block_lt_of_cell q2)).trans q2⟩
  clear hK K;try go_simp
  refine gA (i:=15) (by kernel_rfl) rfl (fun K hK=>?_);go_simp;refine hK.out _ _ (fun h=>absurd rfl h) ?_;clear hK K;refine gO (by kernel_rfl) ?_ _;go_wp2_with fail
  go_meet;exact⟨w1.heap.size,rfl,Nat.le_refl _,hn2 _,hb2' _⟩
 case rest=>
  obtain⟨gx,rfl,hgx,hrx,hb2⟩:=hcut;generalize wc=w2 at*;have HBW:=gH (HB1.out.trans (hb2.mono HB1.out.size));have HS2:=gH (HH.out.below HBW.out);have HML:=gS (∀k,Mine m v k->k<w.heap.size) (fun k hk=>(HH.out.pair hm).1.mine_lt hk);have hro:=(hb2.block w.heap.size hs1).trans HX.out;have HRO:=gH hro;have k2:w2.cell? ⟨w.heap.size,0,none⟩=some (I kd):=by rw[gC hro];exact HOV.out.1
  have x0:w2.cell? ⟨gx,0,none⟩=some (.pointer (some ⟨m,0,none⟩)):=by rw[gC hrx];rfl
  have x1:w2.cell? ⟨gx,1,none⟩=some (.pointer (some ⟨r,0,none⟩)):=by rw[gC hrx];rfl
  have HRX:=gH hrx;clear q0 q1 q2 k0 k1 hp1 hp2 hp3 hp4 hjt hwr hMb hb2 hro hrx HX hN hne;by_cases e2:kd=2
  ·subst e2;obtain⟨hM,hR,hG⟩:=HS2.out.pair hm;(have y3:w2.cell? ⟨w.heap.size,3,none⟩=some (I o.p.id):=by rw[gC HRO.out];exact HOP.out.2.1);(have y4:w2.cell? ⟨w.heap.size,4,none⟩=some (I o.p.x):=by rw[gC HRO.out];exact HOP.out.2.2.1);(have y5:w2.cell? ⟨w.heap.size,5,none⟩=some (I o.p.y):=by rw[gC HRO.out];exact HOP.out.2.2.2.1);have HIN:=gH (mapInsert_any m v L o.p w2 hM hG);have HIR:=gH (fun w3 (hr:RMap w3 r u L)=>insert_ref r u L o.p w3 hr hG);have HGI:=gH (hG.insert o.p);generalize o.p=p at*;obtain⟨pi,px,py⟩:=p;clear hM hR hG;(go_wp2_with fail);refine HIN.out.mono ?_;rintro _ w3⟨rfl,v',hm3,hf3,hk3⟩;have hx3:w3.heap[gx]? =w2.heap[gx]? :=hk3.block gx ((gL HRX.out)) (fun e=>by have:=HML.out gx e;omega);have ho3:w3.heap[w.heap.size]? =w2.heap[w.heap.size]? :=hk3.block w.heap.size ((gL HRO.out)) (fun e=>by have:=HML.out _ e;omega);(have x1':w3.cell? ⟨gx,1,none⟩=some (.pointer (some ⟨r,0,none⟩)):=by rw[World.cell?_of_block (a:=⟨gx,1,none⟩) hx3];exact x1);(have z3:w3.cell? ⟨w.heap.size,3,none⟩=some (I pi):=by rw[World.cell?_of_block (a:=⟨w.heap.size,3,none⟩) ho3];exact y3);(have z4:w3.cell? ⟨w.heap.size,4,none⟩=some (I px):=by rw[World.cell?_of_block (a:=⟨w.heap.size,4,none⟩) ho3];exact y4);(have z5:w3.cell? ⟨w.heap.size,5,none⟩=some (I py):=by rw[World.cell?_of_block (a:=⟨w.heap.size,5,none⟩) ho3];exact y5);have HI3:=gH (HIR.out w3 (HS2.out.half hm hk3));have H1:=gS (∃v',IsMap w3 m v' (insList L ⟨pi,px,py⟩)/\Fresh w2 v v'/\Keeps (Mine m v) w2 w3) (⟨v',hm3,hf3,hk3⟩);generalize insCode L ⟨pi,px,py⟩=code at*;clear hm3 hf3 hk3 hx3 ho3 y3 y4 y5 x0 x1 k2 HIN HIR;(go_wp2_with fail);refine HI3.out.mono ?_;rintro _ w4⟨rfl,hu⟩;have HE:=gH (HS2.out.two hm HGI.out H1.out hu);clear hu z3 z4 z5 x1';(go_wp2_with fail);go_ret;exact⟨rfl,HE.out⟩
  ·by_cases e3:kd=3
   ·subst e3;obtain⟨hM,hR,hG⟩:=HS2.out.pair hm;(have y2:w2.cell? ⟨w.heap.size,2,none⟩=some (I o.a):=by rw[gC HRO.out];exact HOP.out.1);have hl150:=hG.many;have HDE:=gS (Calls Tryz.prog 19 #[.pointer (some ⟨m,0,none⟩),I o.a] w2 fun e w3=>∃c L',Good L'/\(∃v',IsMap w3 m v' L'/\Fresh w2 v v'/\Keeps (Mine m v) w2 w3)/\e=.returned (I c)/\∀w3,RMap w3 r u L->Calls Tryz.prog 57 #[.pointer (some ⟨r,0,none⟩),I o.a] w3 fun e w4=>InsertedR w3 r u L' c e w4) (by
     by_cases hid:∃q∈L,q.id=o.a
     ·refine(mapDelete_any m v L o.a w2 hM (by omega) hid).mono ?_;rintro e w3⟨rfl,v',i,hi,hii,hm3,hf3,hk3⟩;refine⟨0,L.eraseIdx i,good_erase hG i,⟨v',hm3,hf3,hk3⟩,rfl,fun w3 hr3=>?_⟩;refine(rdelete_yes r u L o.a w3 hr3 (by omega) hid).mono ?_;rintro e w4⟨i',hi',hii',h4⟩;have:i=i':=Wd.ids_index hG.ids hi hi' (hii.trans hii'.symm);subst this;exact h4
     ·refine(mapDelete_no m v L o.a w2 hM (by omega) hid).mono ?_;rintro e w3⟨rfl,h3⟩;exact⟨4,L,hG,h3,rfl,fun w3 hr3=>rdelete_no r u L o.a w3 hr3 (by omega) hid⟩)
    generalize o.a=aa at*;clear hM hR hG;(go_wp2_with fail);refine HDE.out.mono ?_;rintro _ w3⟨code,L',hG',⟨v',hm3,hf3,hk3⟩,rfl,hrd⟩;have hx3:w3.heap[gx]? =w2.heap[gx]? :=hk3.block gx ((gL HRX.out)) (fun e=>by have:=HML.out gx e;omega);have ho3:w3.heap[w.heap.size]? =w2.heap[w.heap.size]? :=hk3.block w.heap.size ((gL HRO.out)) (fun e=>by have:=HML.out _ e;omega);(have x1':w3.cell? ⟨gx,1,none⟩=some (.pointer (some ⟨r,0,none⟩)):=by rw[World.cell?_of_block (a:=⟨gx,1,none⟩) hx3];exact x1);(have z2:w3.cell? ⟨w.heap.size,2,none⟩=some (I aa):=by rw[World.cell?_of_block (a:=⟨w.heap.size,2,none⟩) ho3];exact y2);have HI3:=gH (hrd w3 (HS2.out.half hm hk3));have H1:=gS (∃v',IsMap w3 m v' L'/\Fresh w2 v v'/\Keeps (Mine m v) w2 w3) (⟨v',hm3,hf3,hk3⟩);have HGI:=gH hG';clear hm3 hf3 hk3 hx3 ho3 y2 x0 x1 k2 HDE hrd hG';(go_wp2_with fail);refine HI3.out.mono ?_;rintro _ w4⟨rfl,hu⟩;have HE:=gH (HS2.out.two hm HGI.out H1.out hu);clear hu z2 x1';(go_wp2_with fail);go_ret;exact⟨rfl,HE.out⟩
   ·by_cases e4:kd=4
    ·subst e4;have HAK:=gH (HA.out (by omega) w2 HBW.out);have HSZ:=gS ((Tryz.prog.info? 76).map (·.size)=some OV.size) (by rw[HOP.out.2.2.2.2];exact Tryz.sizeOp);(go_wp2_with (refine wpList_load_row rfl 76 (.tmp 3) rfl w.heap.size rfl 76 OV (0,0) _ HRO.out Tryz.underlying76 rfl HSZ.out ?_));refine HAK.out.mono ?_;rintro _ w3⟨rfl,hE⟩;have HE:=gH hE;clear hE x0 x1 k2;(go_wp2_with fail);go_ret;exact⟨rfl,HE.out⟩
    ·by_cases e5:kd=5
     ·subst e5;have HAK:=gH (HA.out (by omega) w2 HBW.out);have HSZ:=gS ((Tryz.prog.info? 76).map (·.size)=some OV.size) (by rw[HOP.out.2.2.2.2];exact Tryz.sizeOp);(go_wp2_with (refine wpList_load_row rfl 76 (.tmp 3) rfl w.heap.size rfl 76 OV (0,0) _ HRO.out Tryz.underlying76 rfl HSZ.out ?_));refine HAK.out.mono ?_;rintro _ w3⟨rfl,hE⟩;have HE:=gH hE;clear hE x0 x1 k2;(go_wp2_with fail);go_ret;exact⟨rfl,HE.out⟩
     ·by_cases e6:kd=6
      ·subst e6;have HAK:=gH (HA.out (by omega) w2 HBW.out);have HSZ:=gS ((Tryz.prog.info? 76).map (·.size)=some OV.size) (by rw[HOP.out.2.2.2.2];exact Tryz.sizeOp);(go_wp2_with (refine wpList_load_row rfl 76 (.tmp 3) rfl w.heap.size rfl 76 OV (0,0) _ HRO.out Tryz.underlying76 rfl HSZ.out ?_));refine HAK.out.mono ?_;rintro _ w3⟨rfl,hE⟩;have HE:=gH hE;clear hE x0 x1 k2;(go_wp2_with fail);go_ret;exact⟨rfl,HE.out⟩
      ·by_cases e7:kd=7
       ·subst e7;have HAK:=gH (HA.out (by omega) w2 HBW.out);have HSZ:=gS ((Tryz.prog.info? 76).map (·.size)=some OV.size) (by rw[HOP.out.2.2.2.2];exact Tryz.sizeOp);(go_wp2_with (refine wpList_load_row rfl 76 (.tmp 3) rfl w.heap.size rfl 76 OV (0,0) _ HRO.out Tryz.underlying76 rfl HSZ.out ?_));refine HAK.out.mono ?_;rintro _ w3⟨rfl,hE⟩;have HE:=gH hE;clear hE x0 x1 k2;(go_wp2_with fail);go_ret;exact⟨rfl,HE.out⟩
       ·by_cases e8:kd=8
        ·subst e8;have HAK:=gH (HA.out (by omega) w2 HBW.out);have HSZ:=gS ((Tryz.prog.info? 76).map (·.size)=some OV.size) (by rw[HOP.out.2.2.2.2];exact Tryz.sizeOp);(go_wp2_with (refine wpList_load_row rfl 76 (.tmp 3) rfl w.heap.size rfl 76 OV (0,0) _ HRO.out Tryz.underlying76 rfl HSZ.out ?_));refine HAK.out.mono ?_;rintro _ w3⟨rfl,hE⟩;have HE:=gH hE;clear hE x0 x1 k2;(go_wp2_with fail);go_ret;exact⟨rfl,HE.out⟩
        ·(have e9:¬kd=9:=by omega);(have e10:¬kd=10:=by omega);(have e11:¬kd=11:=by omega);have HE:=gH HS2.out.invE;(go_wp2_with fail);go_ret;exact⟨rfl,HE.out⟩
theorem step_new{w0 w:World}{W0 n:Nat}(o:Opn)(hk:o.kind=1)(hI:InvE w0 w W0 n)(hn:n<=1000000000000):
  Calls Tryz.prog 28 #[.pointer (some ⟨W0,0,none⟩),.agg (opV o).toArray] w fun e w'=>e=.returned (.bool true)/\InvE w0 w' W0 (n+1):=by
 obtain⟨ow,vp,vh,ps,hs,hI,hne,hE,hpn,hhn⟩:=hI;have HOV:=gS ((opV o).toArray[0]? =some (I 1)) (by rw[<-hk];rfl);generalize (opV o).toArray=OV at*;have HI:=gH hI;have HE:=gH hE;have HBX:=gH (boxed1 w OV 76);clear hI hE hk hne;go_enter Tryz.func28,Tryz.ntmps28
 go_upto_region 1 with fail
 have hbx:=HBX.out;clear HBX;generalize w.alloc (.cells OV 76)=w1 at hbx⊢;obtain⟨hb1,hx⟩:=hbx;have k0:w1.cell? ⟨w.heap.size,0,none⟩=some (I 1):=by rw[gC hx];exact HOV.out
 have HI1:=gH (HI.out.below hb1);have HBG:=gH (begin_law W0 vp vh ps hs w1 HI1.out.law (by omega));clear hb1 hx HOV HI;go_wp2_with fail
 refine HBG.out.mono ?_;rintro _ w2⟨rfl,vp',p,hB⟩;have HF:=gH (HI1.out.begun HE.out hpn hhn hB);clear hB k0;go_wp2_with fail
 go_ret;exact⟨rfl,HF.out⟩
theorem step_kept{w0 w:World}{W0 n:Nat}(o:Opn)(hF:o.Fit)(hk:o.kind<=6)(hKT:KT w0)(hI:InvE w0 w W0 n)(hn:n<=1000000000000):
  Calls Tryz.prog 28 #[.pointer (some ⟨W0,0,none⟩),.agg (opV o).toArray] w fun e w'=>e=.returned (.bool true)/\InvE w0 w' W0 (n+1):=by
 by_cases h1:o.kind=1
 ·exact step_new o h1 hI hn
 ·obtain⟨ow,vp,vh,ps,hs,hI,hne,hE,hpn,hhn⟩:=hI;have hN:0<ps.length:=List.length_pos_iff.2 hne;obtain⟨hp1,hp2,_,_⟩:=pick_lt (M:=o.m) hN;have hj:pickI o.m ps.length<ps.length:=by unfold pickI;omega
  have hS:Stands w0 w ow W0 n vp vh ps hs (pickI o.m ps.length):=⟨hI,hj,hE,hpn,hhn,hn⟩;obtain⟨⟨m,v,r,u,L,K⟩,hp⟩:∃p,ps[pickI o.m ps.length]=p:=⟨_,rfl⟩;have hLK:L=K:=by have:=hE _ (List.getElem_mem hj);rw[hp] at this;exact this
  subst hLK;have hm:ps[pickI o.m ps.length]? =some ⟨m,v,r,u,L,L⟩:=by rw[List.getElem?_eq_getElem hj,hp]
  refine step_law o hF (by omega) h1 hS m r v u L hm (fun h4 w' hb=>?_);rcases (show o.kind=4\/o.kind=5\/o.kind=6 by omega) with h|h|h
  ·exact asks_points (hS.below hb) m r v u L hm o h
  ·exact asks_commit (hS.below hb) hKT m r v u L hm o h
  ·exact asks_digest (hS.below hb) hKT _ o h hF.s
def StepOk(w0:World)(most:Int):Prop:=∀(w:World) (W0 n:Nat) (o:Opn),o.Fit->o.kind<=most->n<=1000000000000->InvE w0 w W0 n->Calls Tryz.prog 28 #[.pointer (some ⟨W0,0,none⟩),.agg (opV o).toArray] w fun e w'=>e=.returned (.bool true)/\InvE w0 w' W0 (n+1)
theorem law_start{w0 w:World}{W0:Nat}(hb:Below w0.heap.size w0 w)(hW:w0.heap.size<=W0)(hr:w.heap[W0]? =some (.cells (.slice none 0 0:: .slice none 0 0::constV).toArray 72 (0,0))):Inv w0 (fun k=>if k<w0.heap.size then 0 else 1) w W0 (.slice none 0 0) (.slice none 0 0) [] []:=by
 refine⟨hb,fun k hk=>if_pos hk,⟨hr,World.ownsRow_nil _ _ _ _,World.ownsRow_nil _ _ _ _,fun e=>(by cases e),fun e=>(by cases e),fun g e=>(by cases e)⟩,fun k hk=>?_,fun i hi=>(by simp at hi),fun h hh=>(by cases hh)⟩;rcases hk with rfl|hk|hk
 ·exact if_neg (by omega)
 ·cases hk
 ·cases hk
theorem InvE.looks{w0 w:World}{W0 n:Nat}(h:InvE w0 w W0 n)(hn:n<=1000000000000):Calls Tryz.prog 29 #[.pointer (some ⟨W0,0,none⟩)] w fun e w'=>e=.returned (.bool true)/\InvE w0 w' W0 n:=by obtain⟨ow,vp,vh,ps,hs,hI,h2⟩:=h;refine(looks_law (fun k=>ow k=2) W0 vp vh ps hs w hI.law hI.hold (by have:=h2.2.2.2;omega)).mono ?_;rintro e w'⟨rfl,hb⟩;exact⟨rfl,⟨ow,vp,vh,ps,hs,hI.below hb,h2⟩⟩
theorem InvE.base{w0 w:World}{W0 n:Nat}(h:InvE w0 w W0 n):Below w0.heap.size w0 w:=by obtain⟨ow,vp,vh,ps,hs,hI,h2⟩:=h;exact hI.base
theorem opV_one(o:Opn):(opV o).toArray.all (·.oneCell')=true:=by
 rw[List.all_toArray,List.all_eq_true];intro v hv;rcases List.mem_append.1 hv with hv|hv
 ·simp at hv;rcases hv with rfl|rfl|rfl|rfl|rfl|rfl|rfl|rfl|rfl|rfl|rfl|rfl|rfl|rfl|rfl<;>rfl
 ·have:=rootV_one o.root o.n;rw[List.all_toArray,List.all_eq_true] at this;exact this v hv
def opA:Opn:=⟨2,0,0,⟨1,3,4⟩,⟨0,0,0,0,0,0,0,0⟩,[],List.replicate 32 0,0⟩
def opB:Opn:=⟨2,0,0,⟨1,0,0⟩,⟨0,0,0,0,0,0,0,0⟩,[],List.replicate 32 0,0⟩
def opC:Opn:=⟨4,0,0,⟨0,0,0⟩,⟨0,0,0,0,0,0,0,0⟩,[],List.replicate 32 0,0⟩
theorem fitA:opA.Fit:=⟨by unfold I64;decide,by unfold I64;decide,by unfold I64;decide,by decide,rfl⟩
theorem fitB:opB.Fit:=⟨by unfold I64;decide,by unfold I64;decide,by unfold I64;decide,by decide,rfl⟩
theorem fitC:opC.Fit:=⟨by unfold I64;decide,by unfold I64;decide,by unfold I64;decide,by decide,rfl⟩
theorem builtA:Tryz.prog.built 76 [(0,I 2),(3,.agg #[I 1,I 3,I 4])]=some (opV opA).toArray:=by kernel_rfl
theorem builtB:Tryz.prog.built 76 [(0,I 2),(3,.agg #[I 1,I 0,I 0])]=some (opV opB).toArray:=by kernel_rfl
theorem builtC:Tryz.prog.built 76 [(0,I 4)]=some (opV opC).toArray:=by kernel_rfl
theorem plays_law(lo up most:Int)(a0:Option Addr)(cap:Nat)(os:List Opn)(w:World)(hA:ArgO w a0 os)(hm:4<=most)(hS:StepOk w most):
  Calls Tryz.prog 11 #[.slice a0 os.length cap,I lo,I up,I most] w fun e w'=>e=.returned (.bool true)/\Below w.heap.size w w':=by
 have HA:=gH hA;have HS:=gH hS;have HWK:=gS (Calls Tryz.prog 26 #[] w fun e w'=>e=.returned (.agg constV.toArray)/\Below w.heap.size w w') (by have h:=Ref.worked_any w;rw[worked_const] at h;exact h);have HBW:=gH built_world;clear hA hS;go_enter Tryz.func11,Tryz.ntmps11
 go_wp2_with fail
 refine HWK.out.mono ?_;rintro _ w1⟨rfl,hb1⟩;generalize hCV:constV.toArray=CV at*;go_upto_region 2 with(refine zF rfl 72 #[(2,.tmp 17)] rfl _ _ rfl HBW.out ?_)
 have hbx:=boxed1 w1 (Value.slice none 0 0::Value.slice none 0 0::constV).toArray 72;generalize w1.alloc (.cells (Value.slice none 0 0::Value.slice none 0 0::constV).toArray 72)=w2 at hbx⊢;generalize hWV:(Value.slice none 0 0::Value.slice none 0 0::constV).toArray=WV at*;obtain⟨hb2,hr2⟩:=hbx;rw[<-hWV] at hr2;have HI2:=gH (law_start (hb1.trans (hb2.mono hb1.size)) hb1.size hr2);have HBG:=gH (begin_law w1.heap.size (.slice none 0 0) (.slice none 0 0) [] [] w2 HI2.out.law (by simp));clear hb1 hb2 hr2 hCV hWV HWK HBW;generalize w1.heap.size=W0 at*;go_wp2_with fail
 refine HBG.out.mono ?_;rintro _ w3⟨rfl,vp',p,hB⟩;have HI3:=gH (HI2.out.begun (n:=0) (fun p hp=>by cases hp) (by simp) (by simp) hB);clear hB HI2 HBG;have HST:=gH (HS.out w3 W0 1 opA fitA (by show(2:Int)<=most;omega) (by decide) HI3.out);have HBA:=gH builtA;have HBB:=gH builtB;have HBC:=gH builtC;generalize (opV opA).toArray=OA at*;go_wp2_with (refine zF rfl 76 #[(0,.const (.int .i64 2)),(3,.tmp 25)] rfl _ _ rfl HBA.out ?_)
 refine HST.out.mono ?_;rintro _ w4⟨rfl,hI4⟩;have HI4:=gH hI4;have HST:=gH (HS.out w4 W0 2 opB fitB (by show(2:Int)<=most;omega) (by decide) HI4.out);clear hI4;generalize (opV opB).toArray=OB at*;go_wp2_with (refine zF rfl 76 #[(0,.const (.int .i64 2)),(3,.tmp 29)] rfl _ _ rfl HBB.out ?_)
 refine HST.out.mono ?_;rintro _ w5⟨rfl,hI5⟩;have HI5:=gH hI5;have HST:=gH (HS.out w5 W0 3 opC fitC (by show(4:Int)<=most;omega) (by decide) HI5.out);clear hI5;generalize (opV opC).toArray=OC at*;go_wp2_with (refine zF rfl 76 #[(0,.const (.int .i64 4))] rfl _ _ rfl HBC.out ?_)
 refine HST.out.mono ?_;rintro _ w6⟨rfl,hI6⟩;have HI6:=gH hI6;clear hI6 HST HI5 HI4 HI3;go_wp2_with fail
 go_loopw [14] (fun v14 wq=>∃i:Nat,i<=os.length/\v14=I i/\InvE w wq W0 (4+i)) (fun v14 _=>os.length-(intOf v14).toNat)
 case atStart=>exact⟨0,by omega,rfl,HI6.out⟩
 case round=>
  obtain⟨i,hi,rfl,hI⟩:=hrel;have HI:=gH hI;have hsm:=HA.out.small;clear HI6 hI;by_cases hlt:i<os.length
  ·obtain⟨g,o,ha,hra⟩:=HA.out.at_ (fun e=>by rw[e] at hlt;simp at hlt);subst ha;have hF:=HA.out.fit _ (List.getElem_mem hlt);have hr0:=hra i hlt;have HR:=gS (wr.rangeAt g (o+i*48) (opV os[i])) (fun j v hv=>(HI.out.base.cell (p:=⟨g,o+i*48+j,none⟩) (block_lt_of_cell (hr0 j v hv))).trans (hr0 j v hv));obtain⟨oq,hoq⟩:∃oq,os[i]=oq:=⟨_,rfl⟩;rw[hoq] at hF HR;have HF:=gH hF;have HSZ:=gS ((Tryz.prog.info? 76).map (·.size)=some (opV oq).toArray.size) (by rw[List.size_toArray,opV_len hF.root];exact Tryz.sizeOp);have HS8:=gS ((opV oq).toArray.size=48) (by rw[List.size_toArray];exact opV_len hF.root);have HON:=gH (opV_one oq);have HK:=gS ((opV oq).toArray[0]? =some (I oq.kind)) rfl;have hb7':=gB wr;have hr7':=heap_alloc_new wr;clear hF hr0 hra hoq;(go_upto_region 14 with(first| (refine wpList_load_mid rfl 76 (.tmp 53) rfl g (o+i*48) rfl (opV oq) _ HR.out Tryz.underlying76 rfl (by rw[<-List.size_toArray];exact HSZ.out) ?_)| (refine wpList_store_rowTo rfl 76 (.tmp 15) (.tmp 54) rfl rfl wr.heap.size (opV oq).toArray rfl rfl 76 _ (heap_alloc_new wr _) HSZ.out (by rw[HS8.out];rfl) HON.out ?_;rw[World.setRow_alloc_new])));generalize hW:World.alloc wr _=w7;(have hb7:Below wr.heap.size wr w7:=by rw[<-hW];exact hb7' _);(have hr7:w7.heap[wr.heap.size]? =some (.cells (opV oq).toArray 76 (0,0)):=by rw[<-hW];exact hr7' _);clear hW hb7' hr7';have hs7:wr.heap.size<w7.heap.size:=(gL hr7);(have k0:w7.cell? ⟨wr.heap.size,0,none⟩=some (I oq.kind):=by rw[gC hr7];exact HK.out);have HI7:=gH (HI.out.below hb7);have HR7:=gH hr7;have HST:=gH (fun(hk:oq.kind<=most)=>HS.out w7 W0 (4+i) oq HF.out hk (by omega) HI7.out);clear hb7 hr7 HR HON HK HI;generalize (opV oq).toArray=OV at*;generalize oq.kind=kd at*;by_cases hk:most<kd
   ·(go_wp2_with fail);go_roundw
    case rel=>exact⟨i+1,hlt,by go_num,HI7.out.mono (by omega)⟩
    case measure=>simp[intOf];omega
   ·(have hk':kd<=most:=by omega);have HS8':=gH (HST.out hk');clear HST;(go_wp2_with (refine wpList_load_row rfl 76 (.tmp 15) rfl wr.heap.size rfl 76 OV (0,0) _ HR7.out Tryz.underlying76 rfl HSZ.out ?_));refine HS8'.out.mono ?_;rintro _ w8⟨rfl,hI8⟩;have HLK:=gH (hI8.looks (by omega));clear hI8 k0;(go_wp2_with fail);refine HLK.out.mono ?_;rintro _ w9⟨rfl,hI9⟩;have HI9:=gH hI9;clear hI9 HLK;(go_wp2_with fail);go_roundw
    case rel=>exact⟨i+1,hlt,by go_num,HI9.out⟩
    case measure=>simp[intOf];omega
  ·(have ei:i=os.length:=by omega);subst ei;(go_wp2_with fail);go_ret;exact⟨rfl,HI.out.base⟩
end Go.Proofs.YtenaelkbgkpllaaGreatDoor
