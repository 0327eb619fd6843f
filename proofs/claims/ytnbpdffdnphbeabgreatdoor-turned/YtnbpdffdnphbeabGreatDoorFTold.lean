import Derived.Test.YtnbpdffdnphbeabGreatDoorPTrn1
set_option maxHeartbeats 2000000
set_option maxRecDepth 100000
namespace Go.Proofs.YtnbpdffdnphbeabGreatDoor
open Go.RowKit
variable(w:World)(a:Option Addr)(c:Nat)
theorem yf(n:Nat)(hn:n<=10000)(f:Nat->Bs)(g k:Nat->Int)(h:jR w a (zHG n f g k))(j:Nat)(hj:j<n)(zLO:∀i,i<j->f i≠f j) :
 Calls Tryz.prog 25 #[.slice a n c,.string ⟨(f j).toArray⟩] w fun e w'=>e=.returned (.tuple #[.int .i64 (g j),.int .i64 (k j)])/\Below w.heap.size w w':=by
 have H1:=zA h;have zGL:=zA zLO;clear h zLO;obtain⟨nm,hnm⟩:∃nm,nm=f j:=⟨_,rfl⟩;obtain⟨gj,hgj⟩:∃x,x=g j:=⟨_,rfl⟩;obtain⟨kj,hkj⟩:∃x,x=k j:=⟨_,rfl⟩;have HE:Hid (nm=f j/\gj=g j/\kj=k j):=⟨hnm,hgj,hkj⟩;rw[<-hnm,<-hgj,<-hkj];clear hnm hgj hkj
 go_enter Tryz.func25,Tryz.ntmps25
 go_wp2_with fail
 go_loopw [6] (fun iv wr=>∃(i:Nat),i<=j/\iv=.int .i64 i/\Hid (Below w.heap.size w wr)) (fun iv _=>n-(intOf iv).toNat)
 case atStart=>exact⟨0,tx _,rfl,zA (tg _ _)⟩
 case round =>
  obtain⟨i,hi,rfl,HB⟩:=hrel;have zLL:i<n:=by omega
  have c9:(i:Int)<(n:Int):=by omega
  obtain⟨g1,rfl,c1,c2,c5⟩:=zHF (H1.out.below HB.out) zLL;by_cases he:i=j
  ·subst he
   rw[<-HE.out.1]at c1;rw[<-HE.out.2.1]at c2;rw[<-HE.out.2.2]at c5;clear HE zGL;have t1:(nm==nm)=true:=by simp
   go_wp2_with fail
   go_quiet (fail)
   go_wp2_with fail
   go_ret2
   exact⟨rfl,xH HB.out _⟩
  ·have t1:(f i==nm)=false:=by rw[ml,HE.out.1];exact zGL.out i (by omega)
   have t2:¬f i=nm:=by simpa using t1
   generalize f i=s at *;go_wp2_with fail
   go_roundw
   case rel=>exact⟨i+1,by omega,by go_num,HB⟩
   case measure=>simp[intOf];omega
theorem CD(n:Nat)(hn:n<=10000)(f:Nat->Bs)(g:Nat->Int)(h:jR w a (zGQ n f g))(j:Nat)(hj:j<n)(zLO:∀i,i<j->f i≠f j) :
 Calls Tryz.prog 26 #[.slice a n c,.string ⟨(f j).toArray⟩] w fun e w'=>e=.returned (.int .i64 (g j))/\Below w.heap.size w w':=by
 have H1:=zA h;have zGL:=zA zLO;clear h zLO;obtain⟨nm,hnm⟩:∃nm,nm=f j:=⟨_,rfl⟩;obtain⟨gj,hgj⟩:∃x,x=g j:=⟨_,rfl⟩;have HE:Hid (nm=f j/\gj=g j):=⟨hnm,hgj⟩;rw[<-hnm,<-hgj];clear hnm hgj
 go_enter Tryz.func26,Tryz.ntmps26
 go_wp2_with fail
 go_loopw [5] (fun iv wr=>∃(i:Nat),i<=j/\iv=.int .i64 i/\Hid (Below w.heap.size w wr)) (fun iv _=>n-(intOf iv).toNat)
 case atStart=>exact⟨0,tx _,rfl,zA (tg _ _)⟩
 case round =>
  obtain⟨i,hi,rfl,HB⟩:=hrel;have zLL:i<n:=by omega
  have c9:(i:Int)<(n:Int):=by omega
  obtain⟨g1,rfl,c1,c2⟩:=zGP (H1.out.below HB.out) zLL;by_cases he:i=j
  ·subst he
   rw[<-HE.out.1]at c1;rw[<-HE.out.2]at c2;clear HE zGL;have t1:(nm==nm)=true:=by simp
   go_wp2_with fail
   go_ret
   exact⟨rfl,HB.out⟩
  ·have t1:(f i==nm)=false:=by rw[ml,HE.out.1];exact zGL.out i (by omega)
   have t2:¬f i=nm:=by simpa using t1
   generalize f i=s at *;go_wp2_with fail
   go_roundw
   case rel=>exact⟨i+1,by omega,by go_num,HB⟩
   case measure=>simp[intOf];omega
theorem iW{fn:Func}{t u v x:Tmp}(h:fn.results = #[.tmp t,.tmp u,.tmp v,.tmp x])(tmps:Array Value)(P:Program)(w:World):(results fn tmps).run P w=.ok (.tuple #[tmps.getD t undef,tmps.getD u undef,tmps.getD v undef,tmps.getD x undef]) w:=by
 simp[results,h]
def zCK(M:yB)(D:Nat->Nat)(s:Nat)(sd ad vd:Nat->Int)(w w':World)(e:Ending):Prop:=∃(na va:Option Addr) (nc vc:Nat) (k:Int),e=.returned (.tuple #[.slice na M.heads.length nc,.slice va M.rules.length vc,.int .i64 k,.bool true])/\((k=0/\¬zHQ M)\/(k=8/\zHQ M))/\xA w' 55 na (zHG M.heads.length (fun c=>xM 99 (D c)) (fun c=>sd (D c)) (fun c=>ad (D c)))/\xA w' 51 va (zGQ M.rules.length (fun r=>xM 114 (qT M.rules.length s r)) (fun r=>vd (qT M.rules.length s r)))/\Below w.heap.size w w'
theorem Fa(M:yB)(src:Bs)(HB:World->Nat->Prop)(v u:FV)(sd ad vd:Nat->Int)(D:Nat->Nat)(s j:Nat)(hj:j<5)(hK:zCP M src HB)(hT:UF M HB v u sd ad vd D s) :
 Calls Tryz.prog 22 #[.string ⟨src.toArray⟩,.string ⟨(aK v j).toArray⟩] w fun e w'=>zCK M D s sd ad vd w w' e:=by
 have HLd:=zA (ya w src HB (hK.len w));have zM5:=zA hK.str;have HBl:=zA hK.below;have HEv:=zA (hT.eval j hj);have HWe:=zA (hT.weigh j hj);have HQ:Hid (∀(w':World) (na va:Option Addr) (nc vc:Nat) (k:Int),((k=0/\¬zHQ M)\/(k=8/\zHQ M))->xA w' 55 na (zHG M.heads.length (fun c=>xM 99 (D c)) (fun c=>sd (D c)) (fun c=>ad (D c)))->xA w' 51 va (zGQ M.rules.length (fun r=>xM 114 (qT M.rules.length s r)) (fun r=>vd (qT M.rules.length s r)))->Below w.heap.size w w'->zCK M D s sd ad vd w w' (.returned (.tuple #[.slice na M.heads.length nc,.slice va M.rules.length vc,.int .i64 k,.bool true]))):=fun w' na va nc vc k h1 h2 h3 h4=>⟨na,va,nc,vc,k,rfl,h1,h2,h3,h4⟩;clear hK hT hj;generalize zCK M D s sd ad vd w=Q at *;generalize aK v j=fs at *
 go_enter Tryz.func22,Tryz.ntmps22
 go_wp2_with fail
 refine HLd.out.mono ?_;rintro e w1 ⟨b,rfl,hB,hb1⟩;have HB1:=zA hb1;have HHb:=zA (fun w' (hb:Below w1.heap.size w1 w')=>HBl.out w1 w' b hB hb);have HE1:=zA (HEv.out w1 b hB);clear hb1 hB HLd HBl HEv;go_wp2_with fail
 refine HE1.out.mono ?_;rintro e w2 ⟨na,nc,rfl,zM3,hb2⟩;have HB2:Hid (Below w.heap.size w w2):=HB1.out.trans (hb2.mono HB1.out.size);have HW2:=zA (HWe.out w2 b (HHb.out w2 hb2));have HC2:=zA zM3;clear hb2 zM3 HE1 HWe HHb;go_wp2_with fail
 refine HW2.out.mono ?_;rintro e w3 ⟨va,vc,rfl,hvel,hb3⟩;have HB3:Hid (Below w.heap.size w w3):=HB2.out.trans (hb3.mono HB2.out.size);have HC3:=zA (HC2.out.below hb3);have HV3:=zA hvel;clear hb3 hvel HW2 HC2;have HS3:=zA (zM5.out w3);go_wp2_with fail
 refine HS3.out.mono ?_;rintro e w4 ⟨hb4,⟨c,rfl,hn⟩|⟨rfl,hy⟩⟩
 ·have HF:=zA (HQ.out w4 na va nc vc 0 (.inl ⟨rfl,hn⟩) (HC3.out.below hb4) (HV3.out.below hb4) (HB3.out.trans (hb4.mono HB3.out.size)))
  clear hb4 hn HC3 HV3 HQ;go_wp2_with fail
  (try simp only[Exit.inBlock,Exit.then])
  refine pd (iW rfl _ _ _) rfl ?_;exact HF.out
 ·have HF:=zA (HQ.out w4 na va nc vc 8 (.inr ⟨rfl,hy⟩) (HC3.out.below hb4) (HV3.out.below hb4) (HB3.out.trans (hb4.mono HB3.out.size)))
  clear hb4 hy HC3 HV3 HQ;go_wp2_with fail
  (try simp only[Exit.inBlock,Exit.then])
  refine pd (iW rfl _ _ _) rfl ?_;exact HF.out
theorem zAJ:(Tryz.prog.info? 70).map (fun i=>(i.zero,i.size,i.bytes))=some (some (.slice none 0 0),1,24):=by kernel_rfl
def iS(k:Int)(m:Nat):Nat:=(sS k m).toNat
theorem UZ(m k i:Nat)(hi:i<m):(cE m k).take (i+1)=(cE m k).take i++[(i+k)%m]:=by
 unfold cE;rw[db];simp[hi]
theorem uj(L:List (List Bs))(k:Int)(h:QP w a L)(hk:qS k)(h0:0<L.length)(h1:L.length<=100) :
 Calls Tryz.prog 24 #[.slice a L.length c,.int .i64 k] w fun e w'=>∃oa oc,e=.returned (.slice oa L.length oc)/\QP w' oa ((cE L.length (iS k L.length)).map fun j=>L.getD j [])/\Below w.heap.size w w':=by
 obtain⟨i0,hi0,hz0,hz1,hz2⟩:=info_parts zAJ;obtain⟨vs,hcv,zM6⟩:=h;have hvl:=zM6.len;obtain⟨pb0,pb1⟩:=uO k L.length (by omega)
 have HPk:Hid (∀w':World,Calls Tryz.prog 41 #[.int .i64 k,.int .i64 (L.length:Int)] w' fun e w''=>e=.returned (.int .i64 ((iS k L.length:Nat):Int))/\w''=w'):=fun w'=>by
  have:=wT w' k L.length hk (by omega) (by omega);rw[show ((iS k L.length:Nat):Int)=sS k L.length by unfold iS;omega];exact this
 have hp:iS k L.length<L.length:=by unfold iS;omega
 generalize iS k L.length=p at *;have HAll:=zA zM6;have HCv:=zA hcv;have hLp:(0:Int)<(L.length:Int):=by omega
 have bz:((L.length:Int)==0)=false:=by rw[ml];omega
 clear zM6 hcv pb0 pb1 hk;generalize hm:L.length=m at *;have HM:=zA hm;clear hm
 go_enter Tryz.func24,Tryz.ntmps24
 go_wp2_with fail
 go_loopw [5,6] (fun ov iv wr=>∃(i:Nat),i<=m/\iv=.int .i64 i/\Hid (wr.ownsRow w.heap.size 70 1 ov i (((cE m p).take i).map (vA vs)))/\Hid (Below w.heap.size w wr)) (fun _ iv _=>m-(intOf iv).toNat)
 case atStart=>exact⟨0,tx _,rfl,zA (ba _ _ _ _),zA (tg _ _)⟩
 case round =>
  obtain⟨i,hi,rfl,HO,HB⟩:=hrel;by_cases zLL:i<m
  ·have hj:(i+p)%m<m:=Nat.mod_lt _ (by omega)
   have hmod:((i:Int)+(p:Int)).tmod (m:Int)=(((i+p)%m:Nat):Int):=by
    rw[show ((i:Int)+(p:Int))=((i+p:Nat):Int) by omega];rfl
   obtain⟨e1,la,lc,e2,_⟩:=HAll.out.get ((i+p)%m) (by rw[HM.out];exact hj);obtain⟨g,rfl,hcell⟩:=(HCv.out.below HB.out).cel.at e1;have HV:Hid (((cE m p).take (i+1)).map (vA vs)=((cE m p).take i).map (vA vs)++[vA vs ((i+p)%m)]):=by unfold Hid;rw[UZ m p i zLL,bf];rfl
   rw[e2]at hcell HV;have hBw:=HB.out.size;clear e1 e2;generalize (i+p)%m=j at *;generalize (L.getD j []).length=ln at *;generalize ((cE m p).take i).map (vA vs)=us at *;go_wp2_with fail
   refine(HPk.out _).mono ?_;rintro e w' ⟨rfl,hw⟩;obtain rfl:=hw.symm
   go_wp2_with (at_builtin;refine wpList_append_own _ rfl _ _ 57 rfl w.heap.size 70 i0 _ 1 24 Tryz.underlying57 hi0 hz0 hz1 hz2 rfl (by decide) _ _ _ rfl (HO.out.alloc _) ⟨wr.heap.size,0,none⟩ 1 1 [.slice la ln lc] rfl rfl ?c1 ?c2 ?c3 ?c4 ?c5 ?_)
   case c1=>exact zN _ _ _ _ rfl
   case c2=>intro u hu;simp at hu;subst hu;rfl
   case c3=>unfold maxLen;omega
   case c4=>omega
   case c5=>simp;omega
   intro v' w2 zLR zLN _;have HB2:Hid (Below w.heap.size w w2):=(HB.out.alloc hBw _).grown zLN (by simp;omega) (zS HO.out);have HO2:Hid (w2.ownsRow w.heap.size 70 1 v' (i+1) (((cE m p).take (i+1)).map (vA vs))):=by unfold Hid;rw[HV.out];exact zLR
   clear zLR zLN HV HO HB;go_wp2_with fail
   go_roundw
   case rel=>exact⟨i+1,by omega,by go_num,HO2,HB2⟩
   case measure=>simp[intOf];omega
  ·obtain rfl:i=m:=by omega
   obtain⟨oa,oc,rfl,hoc⟩:=vN HO.out;go_wp2_with fail
   go_ret
   refine⟨oa,oc,rfl,⟨_,hoc,?_⟩,HB.out⟩;rw[di (by rw[QQ];exact j1 _)];exact(HAll.out.below HB.out).pick _ (fun j hj=>by rw[HM.out];exact um hj)
variable {M:yB}
theorem kh{α:Type}(l:List α):bW 0 l=l:=by simp[bW]
theorem uk(L:List (List Bs)){p:Nat}(hp:p<=L.length):((cE L.length p).map fun j=>L.getD j [])=bW p L:=by
 refine List.ext_getElem (by rw[tY,pw,QQ]) fun i h1 h2=>?_;have hi:i<L.length:=by rw[tY]at h2;exact h2
 have:=Bx p L [] hp hi;rw[p8,pb h2,Option.getD_some]at this;rw[this];simp[cE]
theorem FT{L:List (List Bs)}(h:K7 L)(p:Nat)(hp:p<=L.length):K7 (bW p L):=by
 have e:∀i,i<L.length->(bW p L).getD i []=L.getD ((i+p)%L.length) []:=fun i hi=>Bx p L [] hp hi;refine⟨by rw[tY];exact h.few,fun i hi=>?_,fun i k hi hk=>?_⟩
 ·rw[tY]at hi
  rw[e i hi];exact h.line _ (Nat.mod_lt _ (by omega))
 ·rw[tY]at hi
  rw[e i hi]at hk ⊢;exact h.word _ _ (Nat.mod_lt _ (by omega)) hk
theorem GB(M:yB):0<(yJ M false).length:=by unfold yJ;simp;omega
structure TwoT(M:yB)(D1 D2:Nat->Nat)(s1 s2:Nat)(sd1 ad1 vd1 sd2 ad2 vd2:Nat->Int):Prop where
 ans:∀i,i<M.heads.length->∃c,c<M.heads.length/\D2 c=D1 i/\sd2 (D2 c)=sd1 (D1 i)/\ad2 (D2 c)=ad1 (D1 i)
 inj:∀c c',c<M.heads.length->c'<M.heads.length->xM 99 (D2 c)=xM 99 (D2 c')->c=c'
 ver:∀i,i<M.rules.length->∃c,c<M.rules.length/\qT M.rules.length s2 c=qT M.rules.length s1 i/\vd2 (qT M.rules.length s2 c)=vd1 (qT M.rules.length s1 i)
 jnj:∀c c',c<M.rules.length->c'<M.rules.length->xM 114 (qT M.rules.length s2 c)=xM 114 (qT M.rules.length s2 c')->c=c'
theorem zKI(h:yA M){v u1 u2:FV}{D1 D2:Nat->Nat}{s1 s2:Nat}{sd1 ad1 vd1 sd2 ad2 vd2:Nat->Int}{H1 H2:World->Nat->Prop}(t1:UF M H1 v u1 sd1 ad1 vd1 D1 s1)(t2:UF M H2 v u2 sd2 ad2 vd2 D2 s2):TwoT M D1 D2 s1 s2 sd1 ad1 vd1 sd2 ad2 vd2:=by
 have h8:=h.few;obtain⟨e1,e2⟩:=zAV h t1.hear t2.hear (fun i=>by rw[t1.inn,t2.inn]);refine⟨fun i hi=>?_,fun c c' h1 h2 e=>?_,fun i hi=>?_,fun c c' h1 h2 e=>?_⟩
 ·obtain⟨c,hc,e⟩:=t2.dok.all _ (t1.dok.mem i hi)
  have:=e1 _ (t1.dok.mem i hi);exact⟨c,hc,e,by rw[e];exact this.1.symm,by rw[e];exact this.2.symm⟩
 ·exact t2.dok.inj c c' h1 h2 (CH _ (gJ h (t2.dok.mem c h1)) _ (gJ h (t2.dok.mem c' h2)) e)
 ·have hr:=tU (s:=s1) hi
  refine⟨iN M.rules.length s2 (qT M.rules.length s1 i),fO hr,cF t2.sn hr,?_⟩;rw[cF t2.sn hr];exact(e2 _ hr).symm
 ·have a1:=tU (s:=s2) h1
  have a2:=tU (s:=s2) h2;have:=Xi _ (by omega) _ (by omega) e;rw[<-oG t2.sn h1,<-oG t2.sn h2,this]
theorem xt(la wa ra ga:Option Addr)(ln lc wn wk rn rc gn gc:Nat)(hd:Nat->Int)(kk jj:Int)(hL:mK w la ln)(hW:mK w wa wn)(hR:QO w ra rn hd)(hG:mK w ga gn)(hT:aN w)(hkk:qS kk)(hjj:qS jj)(hK:∀M,yA M->∀q,∃HB,zCP M (gY (bW q (yJ M false))) HB) :
 Calls Tryz.prog 4 #[.agg #[.slice la ln lc,.slice wa wn wk,.slice ra rn rc],.slice ga gn gc,.int .i64 kk,.int .i64 jj] w fun e w'=>e=.returned (.bool true)/\Below w.heap.size w w':=by
 have HBd:=zA (fun w' (hb:Below w.heap.size w w')=>zBL w' la wa ra ln lc wn wk rn rc hd (hL.below hb) (hW.below hb) (hR.below hb));have HTb:=zA (fun w' (hb:Below w.heap.size w w')=>hT.below hb);have HGb:=zA (fun w' (hb:Below w.heap.size w w')=>hG.below hb);have HK:=zA hK;have HKk:=zA hkk;have HJj:=zA hjj;clear hL hW hR hG hT hK hkk hjj
 go_enter Tryz.func4,Tryz.ntmps4
 go_upto_region 1 with fail
 have HB0:Hid (Below w.heap.size w (w.alloc (.cells #[.slice la ln lc,.slice wa wn wk,.slice ra rn rc] 25))):=fw (j1 _) _;have b0:(w.alloc (.cells #[.slice la ln lc,.slice wa wn wk,.slice ra rn rc] 25)).cell? ⟨w.heap.size,0,none⟩=some (.slice la ln lc):=zB (zG _ _) 0;have b1:(w.alloc (.cells #[.slice la ln lc,.slice wa wn wk,.slice ra rn rc] 25)).cell? ⟨w.heap.size,1,none⟩=some (.slice wa wn wk):=zB (zG _ _) 1;have b2:(w.alloc (.cells #[.slice la ln lc,.slice wa wn wk,.slice ra rn rc] 25)).cell? ⟨w.heap.size,2,none⟩=some (.slice ra rn rc):=zB (zG _ _) 2;generalize w.alloc (.cells #[.slice la ln lc,.slice wa wn wk,.slice ra rn rc] 25)=w0 at *;go_wp2_with fail
 refine(HBd.out w0 HB0.out).mono ?_;rintro e w1 ⟨g,M,rfl,hO,hM,hb1⟩;have HB1:Hid (Below w.heap.size w w1):=HB0.out.trans (hb1.mono HB0.out.size);have HO:=zA hO;have HMb:=zA (fun w' (hb:Below w1.heap.size w1 w')=>hM.below hb);have HVw:=zA (zFV w1 g M ga gn gc hM hO (HGb.out w1 HB1.out));have h8:=hO.few;have h4:M.heads.length<=4:=by have:=rQ (hs:=M.rules.map vI.head) (fun x hx=>by obtain⟨r,hr,rfl⟩:=p7.1 hx;exact(hO.rules r hr).head);rw[<-hO.heads]at this;omega
 clear hO hM hb1 HBd b0 b1 b2;go_wp2_with fail
 refine HVw.out.mono ?_;rintro e w2 ⟨gv,v,rfl,hv,hroom,hb2⟩;have HB2:Hid (Below w.heap.size w w2):=HB1.out.trans (hb2.mono HB1.out.size);have H12:=zA hb2;have HVb:=zA (fun w' (hb:Below w2.heap.size w2 w')=>hv.below hb);have HRm:=zA hroom;have HNum:Hid (∀j,j<3->0<=v.inn j/\v.inn j<=9998):=fun j hj=>sQ HO.out hroom hj;have HLn:=zA (zBJ w2 g M false (HMb.out w2 hb2) HO.out (HTb.out w2 HB2.out));clear hv hroom hb2 HVw;go_wp2_with fail
 refine HLn.out.mono ?_;rintro e w3 ⟨lv,vs,rfl,hS⟩;obtain⟨oa,oc,rfl,hoc⟩:=vN hS.own;have HB3:Hid (Below w.heap.size w w3):=HB2.out.trans (hS.bel.mono HB2.out.size);have H13:Hid (Below w1.heap.size w1 w3):=H12.out.trans (hS.bel.mono H12.out.size);have H23:=zA hS.bel;have HOv:Hid (∀w',Below w3.heap.size w3 w'->QP w' oa (yJ M false)):=fun w' hb=>QP.below ⟨vs,hoc,hS.ins⟩ hb;have HWr:=zA (Qb w3 oa oc (yJ M false) (HOv.out w3 (tg _ _)) (rM HO.out false));have hlp:=GB M;have hl100:=(rM HO.out false).few;clear hS hoc HLn
 have HTn:Hid (∀w',Below w3.heap.size w3 w'->Calls Tryz.prog 24 #[.slice oa (yJ M false).length oc,.int .i64 kk] w' fun e w''=>∃oa2 oc2,e=.returned (.slice oa2 (yJ M false).length oc2)/\Calls Tryz.prog 23 #[.slice oa2 (yJ M false).length oc2] w'' (fun e w9=>e=.returned (.string ⟨(gY (bW (iS kk (yJ M false).length) (yJ M false))).toArray⟩)/\w9=w'')/\Below w'.heap.size w' w''):=fun w' hb=>by
  have hp:iS kk (yJ M false).length<=(yJ M false).length:=by
   have:=uO kk (yJ M false).length (by omega);unfold iS;omega
  refine(uj w' oa oc (yJ M false) kk (HOv.out w' hb) HKk.out hlp hl100).mono ?_;rintro e w'' ⟨oa2,oc2,rfl,ho,hb2⟩;rw[uk _ hp]at ho;have:=Qb w'' oa2 oc2 (bW (iS kk (yJ M false).length) (yJ M false)) ho (FT (rM HO.out false) _ hp);rw[tY]at this;exact⟨oa2,oc2,rfl,this,hb2⟩
 obtain⟨H1s,hk1⟩:=HK.out M HO.out 0;obtain⟨u1,sd1,ad1,vd1,D1,s1,ht1⟩:=hk1.told v HRm.out;obtain⟨H2s,hk2⟩:=HK.out M HO.out (iS kk (yJ M false).length);obtain⟨u2,sd2,ad2,vd2,D2,s2,ht2⟩:=hk2.told v HRm.out;have HTwo:=zA (zKI HO.out ht1 ht2);rw[kh]at hk1;have HTo1:=zA (fun w'=>Fa w' M (gY (yJ M false)) H1s v u1 sd1 ad1 vd1 D1 s1 0 (by decide) hk1 ht1);have hj5:(sS jj 5).toNat<5:=by have:=uO jj 5 (by decide);omega
 have HTo2:=zA (fun w'=>Fa w' M (gY (bW (iS kk (yJ M false).length) (yJ M false))) H2s v u2 sd2 ad2 vd2 D2 s2 (sS jj 5).toNat hj5 hk2 ht2);have HFc1:=zA (fun w' (hb:Below w3.heap.size w3 w')=>Uq w' gv v 0 (HVb.out w' (H23.out.trans (hb.mono H23.out.size))) HNum.out ⟨by decide,by decide⟩ (HTb.out w' (HB3.out.trans (hb.mono HB3.out.size))));have HFc2:=zA (fun w' (hb:Below w3.heap.size w3 w')=>Uq w' gv v jj (HVb.out w' (H23.out.trans (hb.mono H23.out.size))) HNum.out HJj.out (HTb.out w' (HB3.out.trans (hb.mono HB3.out.size))))
 have HMd:Hid (∀w',Below w3.heap.size w3 w'->∃ra rc ha hc,w'.cell? ⟨g,6,none⟩=some (.slice ra M.rules.length rc)/\w'.cell? ⟨g,71,none⟩=some (.slice ha M.heads.length hc)):=fun w' hb=>by
  obtain⟨ra,ha,rc,hc,xs,-,hm,-⟩:=(HMb.out w' (H13.out.trans (hb.mono H13.out.size))).mem;exact⟨ra,rc,ha,hc,hm.cells.2.2.1,hm.cells.2.2.2.2⟩
 have HAn:Hid (∀w' na nc,xA w' 55 na (zHG M.heads.length (fun c=>xM 99 (D2 c)) (fun c=>sd2 (D2 c)) (fun c=>ad2 (D2 c)))->∀i,i<M.heads.length->Calls Tryz.prog 25 #[.slice na M.heads.length nc,.string ⟨(xM 99 (D1 i)).toArray⟩] w' fun e w''=>e=.returned (.tuple #[.int .i64 (sd1 (D1 i)),.int .i64 (ad1 (D1 i))])/\Below w'.heap.size w' w''):=fun w' na nc hC i hi=>by
  obtain⟨c,hc,e1,e2,e3⟩:=HTwo.out.ans i hi;have:=yf w' na nc M.heads.length (by omega) (fun c=>xM 99 (D2 c)) (fun c=>sd2 (D2 c)) (fun c=>ad2 (D2 c)) hC.cel c hc (fun i' hi' e=>by have:=HTwo.out.inj i' c (by omega) hc e;omega);simp only[e2,e3]at this;rw[e1]at this;exact this
 have HVr:Hid (∀w' va vc,xA w' 51 va (zGQ M.rules.length (fun r=>xM 114 (qT M.rules.length s2 r)) (fun r=>vd2 (qT M.rules.length s2 r)))->∀i,i<M.rules.length->Calls Tryz.prog 26 #[.slice va M.rules.length vc,.string ⟨(xM 114 (qT M.rules.length s1 i)).toArray⟩] w' fun e w''=>e=.returned (.int .i64 (vd1 (qT M.rules.length s1 i)))/\Below w'.heap.size w' w''):=fun w' va vc hC i hi=>by
  obtain⟨c,hc,e1,e2⟩:=HTwo.out.ver i hi;have:=CD w' va vc M.rules.length (by omega) (fun r=>xM 114 (qT M.rules.length s2 r)) (fun r=>vd2 (qT M.rules.length s2 r)) hC.cel c hc (fun i' hi' e=>by have:=HTwo.out.jnj i' c (by omega) hc e;omega);simp only[e2]at this;rw[e1]at this;exact this
 clear hk1 hk2 ht1 ht2 HTwo HK HO HRm HVb HNum HMb HOv HTb HGb HKk HJj hj5 hl100 hlp H12 H13 H23;generalize gY (yJ M false)=t1 at *;generalize gY (bW (iS kk (yJ M false).length) (yJ M false))=t2 at *;generalize (yJ M false).length=ll at *;generalize hf0:aK v (sS 0 5).toNat=f0 at *;have e0:aK v 0=f0:=hf0;rw[e0]at HTo1;clear hf0 e0;generalize aK v (sS jj 5).toNat=fj at *;go_wp2_with fail
 refine HWr.out.mono ?_;rintro e w4 ⟨rfl,hw4⟩;obtain rfl:=hw4.symm;clear HWr;go_wp2_with fail
 refine(HFc1.out w3 (tg _ _)).mono ?_;rintro e w5 ⟨rfl,hb5⟩;have H35:=zA hb5;clear hb5 HFc1;go_wp2_with fail
 refine(HTo1.out w5).mono ?_;rintro e w6 ⟨na,va,nc,vc,k1,rfl,hcl1,hA1,hV1,hb6⟩;have H36:Hid (Below w3.heap.size w3 w6):=H35.out.trans (hb6.mono H35.out.size);have HA1:=zA hA1;have HV1:=zA hV1;have HC1:=zA hcl1;obtain⟨ra6,rc6,ha6,hc6,m6,m71⟩:=HMd.out w6 H36.out;clear hb6 hA1 hV1 hcl1 HTo1 H35 HMd;go_wp2_with fail
 refine(HTn.out w6 H36.out).mono ?_;rintro e w7 ⟨oa2,oc2,rfl,hwr,hb7⟩;have H37:Hid (Below w3.heap.size w3 w7):=H36.out.trans (hb7.mono H36.out.size);have H67:=zA hb7;have HW2:=zA hwr;clear hb7 hwr HTn m6 m71;go_wp2_with fail
 refine HW2.out.mono ?_;rintro e w8 ⟨rfl,hw8⟩;obtain rfl:=hw8.symm;clear HW2;go_wp2_with fail
 refine(HFc2.out w7 H37.out).mono ?_;rintro e w9 ⟨rfl,hb9⟩;have H69:Hid (Below w6.heap.size w6 w9):=H67.out.trans (hb9.mono H67.out.size);have HB9:Hid (Below w3.heap.size w3 w9):=H37.out.trans (hb9.mono H37.out.size);clear hb9 HFc2 H37 H67;go_wp2_with fail
 refine(HTo2.out w9).mono ?_;rintro e wA ⟨na2,va2,nc2,vc2,k2,rfl,hcl2,hA2,hV2,hbA⟩;have H6A:Hid (Below w6.heap.size w6 wA):=H69.out.trans (hbA.mono H69.out.size);have HBA:Hid (Below w.heap.size w wA):=HB3.out.trans ((HB9.out.trans (hbA.mono HB9.out.size)).mono HB3.out.size)
 have hkk:k1=k2:=by
  rcases HC1.out with ⟨a,b⟩|⟨a,b⟩ <;> rcases hcl2 with ⟨c,d⟩|⟨c,d⟩
  ·omega
  ·exact absurd d b
  ·exact absurd b d
  ·omega
 have HA2:=zA (fun w' (hb:Below wA.heap.size wA w')=>hA2.below hb);have HV2:=zA (fun w' (hb:Below wA.heap.size wA w')=>hV2.below hb);have HA1b:=zA (fun w' (hb:Below wA.heap.size wA w')=>((HA1.out.below H6A.out).below hb).cel);have HV1b:=zA (fun w' (hb:Below wA.heap.size wA w')=>((HV1.out.below H6A.out).below hb).cel);subst hkk
 have hk1:k1=0\/k1=8:=by
  rcases HC1.out with ⟨a,-⟩|⟨a,-⟩
  ·exact .inl a
  ·exact .inr a
 have q1:(k1==k1)=true:=by simp
 have q2:(k1 != k1)=false:=by simp
 clear hbA hA2 hV2 hcl2 HTo2 H69 HB9 HA1 HV1 HC1 H6A hk1 HB3 HB2 HB1 HB0 H36;generalize M.heads.length=hn at *;generalize M.rules.length=nn at *;go_wp2_with fail
 go_loopw [21] (fun iv wr=>∃(i:Nat),i<=hn/\iv=.int .i64 (i:Int)/\Hid (Below wA.heap.size wA wr)) (fun iv _=>hn-(intOf iv).toNat)
 case atStart=>exact⟨0,tx _,rfl,zA (tg _ _)⟩
 case round =>
  obtain⟨i,hi,rfl,HB⟩:=hrel;by_cases zLL:i<hn
  ·have ii:(i:Int)<(hn:Int):=by omega
   obtain⟨g1,e1,c1,c2,c3⟩:=zHF (HA1b.out wr HB.out) zLL;subst e1;have HA:=zA (HAn.out wr na2 nc2 (HA2.out wr HB.out) i zLL);have HCk:Hid (∀w',Below wr.heap.size wr w'->w'.cell? ⟨g1,i*3+1,none⟩=some (.int .i64 (sd1 (D1 i)))/\w'.cell? ⟨g1,i*3+2,none⟩=some (.int .i64 (ad1 (D1 i)))):=fun w' hb=>⟨(hb.cell (p:=⟨g1,i*3+1,none⟩) (yR c2)).trans c2,(hb.cell (p:=⟨g1,i*3+2,none⟩) (yR c3)).trans c3⟩;generalize xM 99 (D1 i)=nm at *;generalize sd1 (D1 i)=sv at *;generalize ad1 (D1 i)=av at *;have p1:(sv != sv)=false:=by simp
   have p2:(av != av)=false:=by simp
   go_wp2_with fail
   refine HA.out.mono ?_;rintro e wB ⟨rfl,hbB⟩;have HBB:Hid (Below wA.heap.size wA wB):=HB.out.trans (hbB.mono HB.out.size);obtain⟨d2,d3⟩:=HCk.out wB hbB;clear hbB HA HCk c1 c2 c3;go_wp2_with fail
   go_roundw
   case rel=>exact⟨i+1,by omega,by go_num,HBB⟩
   case measure=>simp[intOf];omega
  ·have ii:¬(i:Int)<(hn:Int):=by omega
   go_wp2_with fail
   go_loopw [24] (fun iv wr=>∃(i:Nat),i<=nn/\iv=.int .i64 (i:Int)/\Hid (Below wA.heap.size wA wr)) (fun iv _=>nn-(intOf iv).toNat)
   case atStart=>exact⟨0,tx _,rfl,HB⟩
   case round =>
    clear HB;obtain⟨k,hk,rfl,HB⟩:=hrel;by_cases zLY:k<nn
    ·have kk2:(k:Int)<(nn:Int):=by omega
     obtain⟨g1,e1,c1,c2⟩:=zGP (HV1b.out wr HB.out) zLY;subst e1;have HA:=zA (HVr.out wr va2 vc2 (HV2.out wr HB.out) k zLY);have HCk:Hid (∀w',Below wr.heap.size wr w'->w'.cell? ⟨g1,k*2+1,none⟩=some (.int .i64 (vd1 (qT nn s1 k)))):=fun w' hb=>(hb.cell (p:=⟨g1,k*2+1,none⟩) (yR c2)).trans c2;generalize xM 114 (qT nn s1 k)=nm at *;generalize vd1 (qT nn s1 k)=sv at *;have p1:(sv != sv)=false:=by simp
     go_wp2_with fail
     refine HA.out.mono ?_;rintro e wB ⟨rfl,hbB⟩;have HBB:Hid (Below wA.heap.size wA wB):=HB.out.trans (hbB.mono HB.out.size);have d2:=HCk.out wB hbB;clear hbB HA HCk c1 c2;go_wp2_with fail
     go_roundw
     case rel=>exact⟨k+1,by omega,by go_num,HBB⟩
     case measure=>simp[intOf];omega
    ·have kk2:¬(k:Int)<(nn:Int):=by omega
     have HBf:Hid (Below w.heap.size w wr):=HBA.out.trans (HB.out.mono HBA.out.size);go_wp2_with fail
     go_ret
     exact⟨rfl,HBf.out⟩
theorem CV(la wa ra ga:Option Addr)(ln lc wn wk rn rc gn gc:Nat)(hd:Nat->Int)(kk jj:Int)(hL:mK w la ln)(hW:mK w wa wn)(hR:QO w ra rn hd)(hG:mK w ga gn)(hT:aN w)(hkk:qS kk)(hjj:qS jj) :
 Calls Tryz.prog 4 #[.agg #[.slice la ln lc,.slice wa wn wk,.slice ra rn rc],.slice ga gn gc,.int .i64 kk,.int .i64 jj] w fun e w'=>e=.returned (.bool true)/\Below w.heap.size w w' :=
 xt w la wa ra ga ln lc wn wk rn rc gn gc hd kk jj hL hW hR hG hT hkk hjj fun _ h q=>zJ4 h q
end Go.Proofs.YtnbpdffdnphbeabGreatDoor
