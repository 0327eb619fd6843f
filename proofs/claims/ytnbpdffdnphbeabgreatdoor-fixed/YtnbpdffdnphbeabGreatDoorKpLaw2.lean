import Derived.Test.YtnbpdffdnphbeabGreatDoorKpLaw
import Derived.Test.YtnbpdffdnphbeabGreatDoorFSeen
import Derived.Test.YtnbpdffdnphbeabGreatDoorFTot
set_option maxHeartbeats 2000000
set_option maxRecDepth 100000
namespace Go.Proofs.YtnbpdffdnphbeabGreatDoor
open Go.RowKit
variable {M:zT} {G:Nat->GR}
def G8(M:zT)(vd:Nat->Int)(w w':World)(e:Ending):Prop:=∃(va:Option Addr) (vc:Nat),e=.returned (.tuple #[.slice va M.rules.length vc,.int .i64 0])/\xB w' 51 va (vdW M.rules.length (fun r=>xG 114 r) vd)/\Below w.heap.size w w'
structure jx(M:zT)(HB:World->Nat->Prop)(v u:FV)(st av vd:Nat->Int):Prop where
 hear:GP M u st av vd
 inn:∀i,u.inn i=v.inn i
 only:∀d,¬d∈M.heads->u.has d=false/\u.val d=0
 eval:∀s,s<5->∀w b,HB w b->Calls Tryz.prog 15 #[.pointer (some ⟨b,0,none⟩),.string ⟨(nM v s).toArray⟩] w fun e w'=>zA6 M st av w w' e
 weigh:∀s,s<5->∀w b,HB w b->Calls Tryz.prog 16 #[.pointer (some ⟨b,0,none⟩),.string ⟨(nM v s).toArray⟩] w fun e w'=>G8 M vd w w' e
structure zA3(M:zT)(HB:World->Nat->Prop):Prop where
 below:∀w w' b,HB w b->Below w.heap.size w w'->HB w' b
 len:∀w,Calls Tryz.prog 27 #[.string ⟨(sR (vI M false)).toArray⟩,.bool false] w fun e w'=>zE2 HB w w' e
 told:∀v,dZ M v->∃u st av vd,jx M HB v u st av vd
theorem yc(h:yF M)(hF:FrG M G){v:FV}(hv:dZ M v):∃u st av vd,jx M (fun w b=>∃rs,pE w b (zW M G) rs) v u st av vd:=by
 have hc:=hF.calm;have hcase:∀s,s<5->yQ (yE (zW M G)) (nM v s)=((List.range 5).map v.inn,0):=fun s hs=>U4 h hv hs
 have hs:oC (zW M G) ((List.range 5).map v.inn):=by
  have:=Vv hF.good (nM v 0);rw[hcase 0 (by decide)]at this;exact this
 have hsh:∀s,s<5->(nM v s).length<=maxLen:=fun s hs=>tr (FJ h hv hs) (by decide);obtain⟨hll,hnm⟩:=zDE h hc;have hH:=zBL h hF (L:=(List.range 5).map v.inn) (inn:=v.inn) (by simp) (fun j hj=>by simp[List.getD,hj]) hs;refine⟨_,_,_,_,hH,fun _=>rfl,fun d hd=>⟨?_,?_⟩,fun s hs5 w b hB=>?_,fun s hs5 w b hB=>?_⟩
 ·unfold gB;simp only;rw[tm hd];rfl
 ·unfold gB;simp only;rw[t7 hd]
 ·obtain⟨rs,hB⟩:=hB
  refine(Cj w b (zW M G) rs (nM v s) (hsh s hs5) hB hc (fun _=>by rw[hcase s hs5];exact hs)).mono ?_;rintro e w' ⟨va,vn,vc,na,nn,nc,rfl,-,h2,h3⟩;rw[hcase s hs5]at h2;obtain⟨-,⟨a,c,e,hv⟩⟩:=h2 rfl;rw[hll]at e hv;refine⟨a,c,by rw[hcase s hs5,e],?_,h3⟩
  have ev:∀z:vG,ju (xO (zW M G)) z=zCP M.heads.length (fun c=>xG 99 (M.heads.getD c 0)) z.st z.av:=fun z=>by
   unfold ju zCP;rw[hll];exact ZF _ fun i hi=>by rw[hnm i (ph.1 hi)]
  rw[ev]at hv;exact hv
 ·obtain⟨rs,hB⟩:=hB
  have hA:=hB.modA hc;have hln:rs.length=M.rules.length:=by rw[hA.len,ZD,pi,List.length_range]
  refine(V0 w b (zW M G) rs (nM v s) (hsh s hs5) hB hc (fun _=>by rw[hcase s hs5];exact hs)).mono ?_;rintro e w' ⟨va,vn,vc,na,nn,nc,rfl,-,h2,h3⟩;rw[hcase s hs5]at h2;obtain⟨⟨a,c,e,hv⟩,-⟩:=h2 rfl;rw[hln]at e;rw[hll]at hv;refine⟨a,c,by rw[hcase s hs5,e],?_,h3⟩
  have ev:∀z:vG,j6 rs z=vdW M.rules.length (fun r=>xG 114 r) z.vd:=fun z=>by
   unfold j6 vdW;rw[hln];refine ZF _ fun i hi=>?_;have hi2:=ph.1 hi;rw[hA.at (by omega)];unfold fS;rw[show (dW (zW M G)).getD i wX=fC (vB M i) i (G i) by rw[ZD];simp[List.getD,hi2]];rfl
  rw[ev]at hv;exact hv
theorem zBC(h:yF M):∃HB,zA3 M HB:=by
 obtain⟨G,hF,hR⟩:=zAS h false (yd h false) (CM h false);refine⟨fun w b=>∃rs,pE w b (zW M G) rs,fun w w' b ⟨rs,hB⟩ hb=>⟨rs,hB.below hb⟩,fun w=>?_,fun v hv=>yc h hF hv⟩;refine(J7 _ w (zW M G) (hR w)).mono ?_;rintro e w' ⟨b,rfl,hB,hb⟩;exact⟨b,rfl,hB,hb⟩
theorem yo{M:zT}(hO:yF M){v u:FV}{st av vd:Nat->Int}(hv:dZ M v)(hH:GP M u st av vd)(hi:∀i,u.inn i=v.inn i)(hn:∀d,¬d∈M.heads->u.has d=false/\u.val d=0):XK u:=by
 refine⟨fun i h3=>by rw[hi];exact cJ hO hv h3,fun d _=>?_⟩;by_cases hm:d∈M.heads
 ·obtain⟨c,hc,-,e⟩:=jY hO hm
  rw[<-e,hH.val c hc];exact hH.big c hc
 ·rw[(hn d hm).2];exact⟨by decide,by decide⟩
theorem GT(w:World)(la wa ra ga:Option Addr)(ln lc wn wk rn rc gn gc:Nat)(hd:Nat->Int)(hL:mJ w la ln)(hW:mJ w wa wn)(hR:XP w ra rn hd)(hG:mJ w ga gn)(hT:gT w)(hK:∀M,yF M->∃HB,zA3 M HB) :
 Calls Tryz.prog 3 #[.agg #[.slice la ln lc,.slice wa wn wk,.slice ra rn rc],.slice ga gn gc] w fun e w'=>e=.returned (.bool true)/\Below w.heap.size w w':=by
 have HBd:=zA (fun w' (hb:Below w.heap.size w w')=>FY w' la wa ra ln lc wn wk rn rc hd (hL.below hb) (hW.below hb) (hR.below hb));have HTb:=zA (fun w' (hb:Below w.heap.size w w')=>hT.below hb);have HGb:=zA (fun w' (hb:Below w.heap.size w w')=>hG.below hb);have HK:=zA hK;clear hL hW hR hG hT hK
 go_enter Tryz.func3,Tryz.ntmps3
 go_upto_region 1 with fail
 have HB0:Hid (Below w.heap.size w (w.alloc (.cells #[.slice la ln lc,.slice wa wn wk,.slice ra rn rc] 25))):=da (j1 _) _;have b0:(w.alloc (.cells #[.slice la ln lc,.slice wa wn wk,.slice ra rn rc] 25)).cell? ⟨w.heap.size,0,none⟩=some (.slice la ln lc):=zC (zH _ _) 0;have b1:(w.alloc (.cells #[.slice la ln lc,.slice wa wn wk,.slice ra rn rc] 25)).cell? ⟨w.heap.size,1,none⟩=some (.slice wa wn wk):=zC (zH _ _) 1;have b2:(w.alloc (.cells #[.slice la ln lc,.slice wa wn wk,.slice ra rn rc] 25)).cell? ⟨w.heap.size,2,none⟩=some (.slice ra rn rc):=zC (zH _ _) 2;generalize w.alloc (.cells #[.slice la ln lc,.slice wa wn wk,.slice ra rn rc] 25)=w0 at *;go_wp2_with fail
 refine(HBd.out w0 HB0.out).mono ?_;rintro e w1 ⟨g,M,rfl,hO,hM,hb1⟩;have HB1:Hid (Below w.heap.size w w1):=HB0.out.trans (hb1.mono HB0.out.size);have HO:=zA hO;have HM1:=zA hM;have HMb:=zA (fun w' (hb:Below w1.heap.size w1 w')=>hM.below hb);have HTx:=zA (qf w1 g M hM hO (HTb.out w1 HB1.out));obtain⟨HBs,hkp⟩:=HK.out M hO;have HBel:=zA hkp.below;have HLen:=zA hkp.len;have HTold:=zA hkp.told;have h8:=hO.few;clear hO hM hb1 HBd HK hkp b0 b1 b2;generalize sR (vI M false)=td at *;go_wp2_with fail
 refine HTx.out.mono ?_;rintro e w2 ⟨rfl,hb2⟩;have HB2:Hid (Below w.heap.size w w2):=HB1.out.trans (hb2.mono HB1.out.size);have H12:=zA hb2;clear hb2 HTx;have HLd:=zA (BX w2 td HBs (HLen.out w2));go_wp2_with fail
 refine HLd.out.mono ?_;rintro e w3 ⟨b,rfl,hB,hb3⟩;have HB3:Hid (Below w.heap.size w w3):=HB2.out.trans (hb3.mono HB2.out.size);have H13:Hid (Below w1.heap.size w1 w3):=H12.out.trans (hb3.mono H12.out.size);have HHb:=zA (fun w' (hb:Below w3.heap.size w3 w')=>HBel.out w3 w' b hB hb);have HVw:=zA (FO w3 g M ga gn gc (HMb.out w3 H13.out) HO.out (HGb.out w3 HB3.out));clear hb3 hB HLd;go_wp2_with fail
 refine HVw.out.mono ?_;rintro e w4 ⟨gv,v,rfl,hv,hroom,hb4,hgv⟩;have HB4:Hid (Below w.heap.size w w4):=HB3.out.trans (hb4.mono HB3.out.size);have H14:Hid (Below w1.heap.size w1 w4):=H13.out.trans (hb4.mono H13.out.size);have H34:=zA hb4;have HVb:=zA (fun w' (hb:Below w4.heap.size w4 w')=>hv.below hb);have HGv1:Hid (w1.heap.size<=gv):=tr H13.out.size hgv;have HGv0:Hid (w.heap.size<=gv):=tr HB3.out.size hgv;obtain⟨u,st,av,vd,htd⟩:=HTold.out v hroom;have HSm:=zA (yo HO.out hroom htd.hear htd.inn htd.only);have HHe:=zA htd.hear;have HInn:Hid (∀i,i<5->u.inn i=v.inn i):=fun i _=>htd.inn i;have HOnly:=zA htd.only;have HEv:Hid (∀w b,HBs w b->Calls Tryz.prog 15 #[.pointer (some ⟨b,0,none⟩),.string ⟨(nM v 0).toArray⟩] w fun e w'=>zA6 M st av w w' e):=fun w' b' h=>htd.eval 0 (by decide) w' b' h;have HWe:Hid (∀w b,HBs w b->Calls Tryz.prog 16 #[.pointer (some ⟨b,0,none⟩),.string ⟨(nM v 0).toArray⟩] w fun e w'=>G8 M vd w w' e):=fun w' b' h=>htd.weigh 0 (by decide) w' b' h;have HFc2:Hid (Calls Tryz.prog 14 #[.pointer (some ⟨gv,0,none⟩),.int .i64 0] w4 fun e w'=>e=.returned (.string ⟨(nM v 0).toArray⟩)/\Below w4.heap.size w4 w'):=FX w4 gv v 0 hv (fun j hj=>cJ HO.out hroom hj) ⟨by decide,by decide⟩ (HTb.out w4 HB4.out);clear hb4 hv hroom htd HTold HVw hgv;generalize nM v 0=fs at *;go_wp2_with fail
 refine HFc2.out.mono ?_;rintro e w5 ⟨rfl,hb5⟩;have HB5:Hid (Below w.heap.size w w5):=HB4.out.trans (hb5.mono HB4.out.size);have H15:Hid (Below w1.heap.size w1 w5):=H14.out.trans (hb5.mono H14.out.size);have H35:Hid (Below w3.heap.size w3 w5):=H34.out.trans (hb5.mono H34.out.size);have H45:=zA hb5;clear hb5 HFc2;have HE1:=zA (HEv.out w5 b (HHb.out w5 H35.out));go_wp2_with fail
 refine HE1.out.mono ?_;rintro e w6 ⟨na,nc,rfl,hcel,hb6⟩;have HB6:Hid (Below w.heap.size w w6):=HB5.out.trans (hb6.mono HB5.out.size);have H16:Hid (Below w1.heap.size w1 w6):=H15.out.trans (hb6.mono H15.out.size);have H36:Hid (Below w3.heap.size w3 w6):=H35.out.trans (hb6.mono H35.out.size);have H46:Hid (Below w4.heap.size w4 w6):=H45.out.trans (hb6.mono H45.out.size);have HCel:=zA hcel;clear hb6 hcel HE1;have HE2:=zA (HWe.out w6 b (HHb.out w6 H36.out));go_wp2_with fail
 refine HE2.out.mono ?_;rintro e w7 ⟨va,vc,rfl,hvel,hb7⟩;have HB7:Hid (Below w.heap.size w w7):=HB6.out.trans (hb7.mono HB6.out.size);have H17:Hid (Below w1.heap.size w1 w7):=H16.out.trans (hb7.mono H16.out.size);have H47:Hid (Below w4.heap.size w4 w7):=H46.out.trans (hb7.mono H46.out.size);have HCel7:=zA (HCel.out.below hb7);have HVel:=zA hvel;have HV7:=zA (HVb.out w7 H47.out);clear hb7 hvel HE2 HCel
 have HSn:=zA (qi w1 w7 g gv M v u na nc st av HM1.out H17.out HGv1.out HO.out HV7.out HCel7.out (fun c hc h1=>by
  rw[HHe.out.kav c hc];have:=HHe.out.kst c hc;exact wB fun e=>h1 (by rw[this];exact aC.2 e)) HInn.out (fun c hc=>⟨HHe.out.has c hc,HHe.out.val c hc⟩) HOnly.out)
 go_wp2_with fail
 refine HSn.out.mono ?_;rintro e w8 ⟨rfl,hu8,hk8⟩;have H18:Hid (Below w1.heap.size w1 w8):=H17.out.trans (hk8.below H17.out.size HGv1.out);have HB8:Hid (Below w.heap.size w w8):=HB7.out.trans (hk8.below HB7.out.size HGv0.out);have HM8:=zA (HMb.out w8 H18.out);obtain⟨cs,zEP,-⟩:=HV7.out.blk;have HA8:=zA (fun w' (hb:Below w8.heap.size w8 w')=>((HCel7.out.keeps hk8 zEP (by decide)).below hb).cel);have HV8:=zA (fun w' (hb:Below w8.heap.size w8 w')=>((HVel.out.keeps hk8 zEP (by decide)).below hb).cel);have HU8:=zA (fun w' (hb:Below w8.heap.size w8 w')=>hu8.below hb);have HMb8:=zA (fun w' (hb:Below w8.heap.size w8 w')=>HM8.out.below hb);have HVd:=zA (qe w8 g gv M u HM8.out HO.out hu8)
 obtain⟨ra',rc',c6⟩:∃ra rc,w8.cell? ⟨g,6,none⟩=some (.slice ra M.rules.length rc):=by
  obtain⟨ra,ha,rc,hc,xs,h1,h2,-⟩:=HM8.out.mem;exact⟨ra,rc,h2.cells.2.2.1⟩
 clear hu8 hk8 zEP HSn HV7 HCel7 HVel HM8 H17 H47 HB7;go_wp2_with fail
 refine HVd.out.mono ?_;rintro e w9 ⟨go,oc,rfl,hI,hb9⟩;have HI9:=zA (fun w' (hb:Below w9.heap.size w9 w')=>hI.below hb);have H89:=zA hb9;have hh4:M.heads.length<=4:=by have:=bV (hs:=M.rules.map vF.head) (fun x hx=>by obtain⟨r,hr,rfl⟩:=p7.1 hx;exact(HO.out.rules r hr).head);rw[<-HO.out.heads]at this;omega
 clear hb9 hI HVd c6;go_wp2_with fail
 go_loopw [16] (fun iv wr=>∃(i:Nat),i<=M.rules.length/\iv=.int .i64 (i:Int)/\Hid (Below w9.heap.size w9 wr)) (fun iv _=>M.rules.length-(intOf iv).toNat)
 case atStart=>exact⟨0,tq _,rfl,zA (t9 _ _)⟩
 case round =>
  obtain⟨i,hi,rfl,HB⟩:=hrel;have H8:Hid (Below w8.heap.size w8 wr):=H89.out.trans (HB.out.mono H89.out.size);by_cases zE9:i<M.rules.length
  ·have ii:(i:Int)<(M.rules.length:Int):=by omega
   obtain⟨gw,e0,s0,s1⟩:=zCX (HV8.out wr H8.out) zE9;subst e0
   have ck:wr.cell? ⟨go,i,none⟩=some (.int .i64 (vd i)):=by
    have:=(HI9.out wr HB.out).cell (k:=i) (by simpa using zE9);rw[this,HHe.out.kvd i zE9];simp[List.getD,zE9]
   have HCk:Hid (∀w',Below wr.heap.size wr w'->w'.cell? ⟨gw,i*2,none⟩=some (.string ⟨(xG 114 i).toArray⟩)/\w'.cell? ⟨gw,i*2+1,none⟩=some (.int .i64 (vd i))/\w'.cell? ⟨go,i,none⟩=some (.int .i64 (vd i))):=fun w' hb=>⟨(hb.cell (p:=⟨gw,i*2,none⟩) (yO s0)).trans s0,(hb.cell (p:=⟨gw,i*2+1,none⟩) (yO s1)).trans s1,(hb.cell (p:=⟨go,i,none⟩) (yO ck)).trans ck⟩;have HNm:=zA (fun w'=>pW w' 114 i (by omega));generalize xG 114 i=nm at *;generalize vd i=vi at *;have t1:(nm==nm)=true:=by simp
   have t2:(nm != nm)=false:=by simp
   have t3:(vi==vi)=true:=by simp
   have t4:(vi != vi)=false:=by simp
   go_upto_region 16 with fail
   go_region_held3 (fun w'=>w'.cell? ⟨gw,i*2,none⟩=some (.string ⟨nm.toArray⟩)/\w'.cell? ⟨gw,i*2+1,none⟩=some (.int .i64 vi)/\w'.cell? ⟨go,i,none⟩=some (.int .i64 vi)) (go_keep) (
    (go_at_call 19;refine(HNm.out _).mono ?_;rintro e w10 ⟨rfl,hb10⟩;have hB10:Below wr.heap.size wr w10:=(pq (t9 _ _)).trans hb10;obtain⟨s0,s1,ck⟩:=HCk.out w10 hB10))
   all_goals
    have HB10:Hid (Below w9.heap.size w9 w10):=HB.out.trans (hB10.mono HB.out.size);clear hb10 hB10;go_wp2_with fail
    go_roundw
    case rel=>exact⟨i+1,by omega,by go_num,HB10⟩
    case measure=>simp[intOf];omega
  ·have ii:¬(i:Int)<(M.rules.length:Int):=by omega
   go_wp2_with fail
   go_loopw [17] (fun iv wr=>∃(i:Nat),i<=M.heads.length/\iv=.int .i64 (i:Int)/\Hid (Below w9.heap.size w9 wr)) (fun iv _=>M.heads.length-(intOf iv).toNat)
   case atStart=>exact⟨0,tq _,rfl,HB⟩
   case round =>
    clear HB H8;obtain⟨k,hk,rfl,HB⟩:=hrel;have H8:Hid (Below w8.heap.size w8 wr):=H89.out.trans (HB.out.mono H89.out.size);by_cases zEJ:k<M.heads.length
    ·have kk:(k:Int)<(M.heads.length:Int):=by omega
     obtain⟨ra2,ha,rc2,hc2,xs,-,hmad,-,-,hlow⟩:=(HMb8.out wr H8.out).mem;have c71:=hmad.cells.2.2.2.2;have hget:(lV M.heads)[k]? = some (.int .i64 ((M.heads.getD k 0:Nat):Int)):=by unfold lV;simp[List.getD,zEJ]
     obtain⟨gh,e0,ch⟩:=hlow.cel.at hget;subst e0;obtain⟨gn2,e0,s0,s1,s2⟩:=G2 (HA8.out wr H8.out) zEJ;subst e0;have HFo:=zA (fun w' (hb:Below wr.heap.size wr w')=>qk w' g gv go oc (M.heads.getD k 0) M u (xG 99 (M.heads.getD k 0)) (st k) (av k) (HMb8.out w' (H8.out.trans (hb.mono H8.out.size))) HO.out (HU8.out w' (H8.out.trans (hb.mono H8.out.size))) HSm.out (HI9.out w' (HB.out.trans (hb.mono HB.out.size))) (sB HO.out (by simp[List.getD,zEJ])) (HHe.out.kst k zEJ) (HHe.out.kav k zEJ));have HCk:Hid (∀w',Below wr.heap.size wr w'->w'.cell? ⟨gn2,k*3,none⟩=some (.string ⟨(xG 99 (M.heads.getD k 0)).toArray⟩)/\w'.cell? ⟨gn2,k*3+1,none⟩=some (.int .i64 (st k))/\w'.cell? ⟨gn2,k*3+2,none⟩=some (.int .i64 (av k))/\w'.cell? ⟨g,71,none⟩=some (.slice (some ⟨gh,0,none⟩) M.heads.length hc2)/\w'.cell? ⟨gh,k,none⟩=some (.int .i64 ((M.heads.getD k 0:Nat):Int))):=fun w' hb=>⟨(hb.cell (p:=⟨gn2,k*3,none⟩) (yO s0)).trans s0,(hb.cell (p:=⟨gn2,k*3+1,none⟩) (yO s1)).trans s1,(hb.cell (p:=⟨gn2,k*3+2,none⟩) (yO s2)).trans s2,(hb.cell (p:=⟨g,71,none⟩) (yO c71)).trans c71,(hb.cell (p:=⟨gh,k,none⟩) (yO ch)).trans ch⟩;clear hmad hlow;generalize xG 99 (M.heads.getD k 0)=nm at *;generalize M.heads.getD k 0=dd at *;generalize st k=sk at *;generalize av k=ak at *
     go_upto_region 21 with fail
     go_region_held3 (fun w'=>w'.cell? ⟨gn2,k*3,none⟩=some (.string ⟨nm.toArray⟩)/\w'.cell? ⟨gn2,k*3+1,none⟩=some (.int .i64 sk)/\w'.cell? ⟨gn2,k*3+2,none⟩=some (.int .i64 ak)/\w'.cell? ⟨g,71,none⟩=some (.slice (some ⟨gh,0,none⟩) M.heads.length hc2)/\w'.cell? ⟨gh,k,none⟩=some (.int .i64 (dd:Int))) (go_keep) (
      (go_at_call 20;refine(HFo.out _ (pq (t9 _ _))).mono ?_;rintro e w10 ⟨rfl,hb10⟩;have hB10:Below wr.heap.size wr w10:=(pq (t9 _ _)).trans hb10;obtain⟨s0,s1,s2,c71,ch⟩:=HCk.out w10 hB10))
     all_goals
      have HB10:Hid (Below w9.heap.size w9 w10):=HB.out.trans (hB10.mono HB.out.size);clear hb10 hB10;go_wp2_with fail
      go_roundw
      case rel=>exact⟨k+1,by omega,by go_num,HB10⟩
      case measure=>simp[intOf];omega
    ·have kk:¬(k:Int)<(M.heads.length:Int):=by omega
     have HBf:Hid (Below w.heap.size w wr):=HB8.out.trans (H8.out.mono HB8.out.size);go_wp2_with fail
     go_ret
     exact⟨rfl,HBf.out⟩
theorem Cy(w:World)(la wa ra ga:Option Addr)(ln lc wn wk rn rc gn gc:Nat)(hd:Nat->Int)(hL:mJ w la ln)(hW:mJ w wa wn)(hR:XP w ra rn hd)(hG:mJ w ga gn)(hT:gT w) :
 Calls Tryz.prog 3 #[.agg #[.slice la ln lc,.slice wa wn wk,.slice ra rn rc],.slice ga gn gc] w fun e w'=>e=.returned (.bool true)/\Below w.heap.size w w' :=
 GT w la wa ra ga ln lc wn wk rn rc gn gc hd hL hW hR hG hT fun _ h=>zBC h
end Go.Proofs.YtnbpdffdnphbeabGreatDoor
