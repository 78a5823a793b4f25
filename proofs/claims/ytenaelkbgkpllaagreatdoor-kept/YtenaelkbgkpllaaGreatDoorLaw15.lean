/- Part 15 of what the four laws rest on: laid by a program out of the texts of wip/T. -/
import Derived.Test.YtenaelkbgkpllaaGreatDoorLaw14
set_option maxRecDepth 100000
set_option maxHeartbeats 8000000
namespace Go.Proofs.YtenaelkbgkpllaaGreatDoor
open Go.RowKit
theorem prove_of{q:Wd.Qr}(m:Nat)(v:Value)(L:List Wd.Pt)(w:World)(hA:Asks q L)(hq:Wd.mayBe q=true)(hm:IsMap w m v L)(hG:Good L)(hKT:KT w):
  Calls Tryz.prog 17 #[.pointer (some ⟨m,0,none⟩),Qv q] w fun e w'=>e=.returned (.tuple #[Sv (Wd.proofText q L),I 0])/\Below w.heap.size w w':=by
 have hmlt:=hm.lt;have HM:=gH hm;have HG:=gH hG;have HK:=gH hKT;have HA:=gH hA;have HMB:=gH (fun W=>GE q W);rw[hq] at HMB;have HPL:=gH (zw q hG.well);have hTS:=Wd.zO hG.ok;have HFW:=gH (Wd.few_mk Sha.sha _ _ hTS.1);have HIN:=gH (Wd.in_mk Sha.sha _ _ hTS.1);obtain⟨fs,hu⟩:=underNode;have HU:=gH hu;have hr0':=heap_alloc_new w;have hb0':=gB w;have hs0':=fun o=>show(w.alloc o).heap.size=w.heap.size+1 by simp
 obtain⟨av,cv,ev⟩:=hm.slice;subst ev;clear hm hKT hA hu hTS;have HQV:=gS (Qv q=.agg #[I q.kind,I q.a,I q.b,I q.c,I q.d,I q.x,I q.y,I q.k]) rfl;go_enter Tryz.func17,Tryz.ntmps17
 go_upto_region 1 with fail
 generalize hW:World.alloc w _=w0;have hb0:Below w.heap.size w w0:=by rw[<-hW];exact hb0' _
 have hr0:w0.heap[w.heap.size]? =some (.cells #[I q.kind,I q.a,I q.b,I q.c,I q.d,I q.x,I q.y,I q.k] 46 (0,0)):=by rw[<-hW];exact hr0' _
 have hs0:w.heap.size+1<=w0.heap.size:=by rw[<-hW,hs0'];exact Nat.le_refl _
 clear hb0' hr0' hs0' hW;obtain⟨k0,k1,k2,k3,k4,k5,k6,k7⟩:=rowQ8 hr0;have HR0:=gH hr0;have HB0:=gH hb0;clear hr0 hb0;go_wp2_with fail
 refine(HMB.out w0).mono ?_;rintro _ w1⟨rfl,hb1⟩;have hs1:=hb1.size;have HB1:=gH (HB0.out.trans (hb1.mono (by omega)));have HR1:=gH ((hb1.block w.heap.size (by omega)).trans HR0.out);have hm1:=HM.out.below HB1.out;have hc1:=hm1.cell;have HBM:=gH (build_map m _ L w1 hm1 hG (HK.out.below HB1.out));clear hb1 hm1 k0 k1 k2 k3 k4 k5 k6 k7;go_wp2_with fail
 refine HBM.out.mono ?_;rintro _ w2⟨V,rfl,hn2,hb2⟩;have hs2:=hb2.size;have HN2:=gH hn2;have HB2:=gH (HB1.out.trans (hb2.mono (by omega)));have HR2:=gH ((hb2.block w.heap.size (by omega)).trans HR1.out);obtain⟨a1,l1,c1,a2,l2,c2,hV,hd⟩:=hn2.cells;have HR:=gS (Row39 V) (by rw[hV];exact gU hd);clear hb2 hn2 hV hd HBM;have hr3':=heap_alloc_new w2;have hb3':=gB w2;have hs3':=fun o=>show(w2.alloc o).heap.size=w2.heap.size+1 by simp
 go_upto_region 4 with(refine wpList_store_row rfl 90 (.tmp 6) (.tmp 16) rfl w2.heap.size V.toArray rfl rfl 90 _ (heap_alloc_new w2 _) HR.out.info (by rw[HR.out.size];rfl) HR.out.one ?_;rw[World.setRow_alloc_new])
 generalize hW:World.alloc w2 _=w3;have hb3:Below w2.heap.size w2 w3:=by rw[<-hW];exact hb3' _
 have hr3:w3.heap[w2.heap.size]? =some (.cells V.toArray 90 (0,0)):=by rw[<-hW];exact hr3' _
 have hs3:w2.heap.size+1<=w3.heap.size:=by rw[<-hW,hs3'];exact Nat.le_refl _
 clear hb3' hr3' hs3' hW;have HB3:=gH (HB2.out.trans (hb3.mono (by omega)));have HR3:=gH ((hb3.block w.heap.size (by omega)).trans HR2.out);have HN3:=gH hr3;have HND:=gH (NodeIs.keep (S':=fun g=>g<w3.heap.size) (gD hb3 (fun _ h=>h)) (fun g (h:g<w2.heap.size)=>show g<w3.heap.size by omega) _ _ V HN2.out);obtain⟨k0,k1,k2,k3,k4,k5,k6,k7⟩:=rowQ8 HR3.out;have HAN:=gH (HA.out.answer w3 V (HK.out.below HB3.out) HND.out);clear hb3 hr3;go_wp2_with (refine wpList_load_row rfl 90 (.tmp 6) rfl w2.heap.size rfl 90 V.toArray (0,0) (.struct fs) HN3.out HU.out rfl HR.out.info ?_)
 refine HAN.out.mono ?_;rintro _ w4⟨v4,rfl,ho4,hb4⟩;have hs4:=hb4.size;have HO4:=gH ho4;have HB4:=gH (HB3.out.trans (hb4.mono (by omega)));have HR4:=gH ((hb4.block w.heap.size (by omega)).trans HR3.out);have HN4:=gH ((hb4.block w2.heap.size (by omega)).trans HN3.out);have HND4:=gH (NodeIs.keep (S':=fun g=>g<w4.heap.size) (gD hb4 (fun _ h=>h)) (fun g (h:g<w3.heap.size)=>show g<w4.heap.size by omega) _ _ V HND.out);obtain⟨a4,c4,e4⟩:=ho4.slice;subst e4;generalize (Wd.ans q L).length=al at*;clear hb4 ho4 HAN k0 k1 k2 k3 k4 k5 k6 k7;have hr5':=heap_alloc_new w4;have hb5':=gB w4;have hs5':=fun o=>show(w4.alloc o).heap.size=w4.heap.size+1 by simp
 go_upto_region 6 with fail
 generalize hW:World.alloc w4 _=w5;have hb5:Below w4.heap.size w4 w5:=by rw[<-hW];exact hb5' _
 have hr5:w5.heap[w4.heap.size]? =some (.cells #[.slice a4 al c4] 27 (0,0)):=by rw[<-hW];exact hr5' _
 have hs5:w4.heap.size+1<=w5.heap.size:=by rw[<-hW,hs5'];exact Nat.le_refl _
 clear hb5' hr5' hs5' hW;have HB5:=gH (HB4.out.trans (hb5.mono (by omega)));have HN5:=gH ((hb5.block w2.heap.size (by omega)).trans HN4.out);have HND5:=gH (NodeIs.keep (S':=fun g=>g<w5.heap.size) (gD hb5 (fun _ h=>h)) (fun g (h:g<w4.heap.size)=>show g<w5.heap.size by omega) _ _ V HND4.out);have HMU:=gH (must_closure HA.out w5 w.heap.size w4.heap.size w3.heap.size _ ((hb5.block w.heap.size (by omega)).trans HR4.out) hr5 (HO4.out.below hb5));have HPR:=gH (proof_any (Wd.must q (Wd.ans q L)) w.heap.size w4.heap.size _ _ V w5 (by rw[proofText_of];have:=HPL.out;omega) HFW.out HIN.out HND5.out HMU.out (proofN_ne _ _ _));rw[proofText_of] at HPR;generalize hT:Wd.proofText q L=T at*;have HT:=gH hT;clear hT;clear hb5 hr5;go_wp2_with (refine wpList_load_row rfl 90 (.tmp 6) rfl w2.heap.size rfl 90 V.toArray (0,0) (.struct fs) HN5.out HU.out rfl HR.out.info ?_)
 refine HPR.out.mono ?_;rintro _ w6⟨rfl,hb6⟩;have HB6:=gH (HB5.out.trans (hb6.mono (by omega)));clear hb6;go_wp2;go_ret2;exact⟨by rw[HT.out];rfl,HB6.out⟩
theorem asks_window{q:Wd.Qr}{L:List Wd.Pt}(hk:q.kind=0)(hG:Good L):Asks q L:=by
 have hTS:=Wd.zO hG.ok;have hall:Wd.allN ((Wd.tree L).1+1) (Wd.mk Sha.sha (Wd.tree L).1 (Wd.tree L).2)=L:=Wd.tree_all Sha.sha hG.ok;have hw:Wd.withinN (Wd.window q) ((Wd.tree L).1+1) (Wd.mk Sha.sha (Wd.tree L).1 (Wd.tree L).2)=L.filter (Wd.inB (Wd.window q)):=by rw[Wd.within_all _ _ (Wd.tree_encl Sha.sha L),hall]
 have ha:Wd.ans q L=Wd.sortP (L.filter (Wd.inB (Wd.window q))):=by unfold Wd.ans;rw[if_neg (by omega)]
 refine⟨fun w V hK hN=>?_,fun w B v b hi hv=>?_⟩
 ·have h:=answer_window q _ _ V w hk (by rw[hall];have:=hG.many;omega) (Wd.few_mk Sha.sha _ _ hTS.1) hN (by rw[hw];exact Wd.ids_sub List.filter_sublist hG.ids);rw[hw,<-ha] at h;exact h
 ·rw[must_window hk];exact Gk q v b w hk
end Go.Proofs.YtenaelkbgkpllaaGreatDoor
