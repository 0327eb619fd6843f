import Derived.Test.YtnbpdffdnphbeabGreatDoorSoLaw
import Derived.Test.YtnbpdffdnphbeabGreatDoorPHear
set_option maxHeartbeats 2000000
set_option maxRecDepth 100000
namespace Go.Proofs.YtnbpdffdnphbeabGreatDoor
open Go.RowKit
variable {M:yC} {G:Nat->GR}
variable{v:FV}(w:World)
def zG5(M:yC)(st av:Nat->Int)(w w':World)(e:Ending):Prop:=∃(na:Option Addr) (nc:Nat),e=.returned (.tuple #[.slice na M.heads.length nc,.int .i64 0])/\xG w' 55 na (zIJ M.heads.length (fun c=>yZ 99 (M.heads.getD c 0)) st av)/\Below w.heap.size w w'
structure zG0(M:yC)(HB:World->Nat->Prop)(v u:FV)(st av:Nat->Int):Prop where
 hear:zAX M u st
 inn:∀i,u.inn i=v.inn i
 eval:∀s,s<5->∀w b,HB w b->Calls Tryz.prog 15 #[.pointer (some ⟨b,0,none⟩),.string ⟨(aU v s).toArray⟩] w fun e w'=>zG5 M st av w w' e
def zJX(HB:World->Nat->Prop)(w w':World)(e:Ending):Prop:=∃b:Nat,e=.returned (.tuple #[.pointer (some ⟨b,0,none⟩),.int .i64 0])/\HB w' b/\Below w.heap.size w w'
def StrF(M:yC)(HB:World->Nat->Prop)(w w':World)(e:Ending):Prop:=Below w.heap.size w w'/\((∃b:Nat,e=.returned (.tuple #[.pointer (some ⟨b,0,none⟩),.int .i64 0])/\HB w' b/\¬zF3 M)\/(e=.returned (.tuple #[.pointer none,.int .i64 8])/\zF3 M))
structure zG3(M:yC)(HB:World->Nat->Prop):Prop where
 below:∀w w' b,HB w b->Below w.heap.size w w'->HB w' b
 len:∀w,Calls Tryz.prog 27 #[.string ⟨(eK (vF M false)).toArray⟩,.bool false] w fun e w'=>zJX HB w w' e
 str:∀w,Calls Tryz.prog 27 #[.string ⟨(eK (vF M false)).toArray⟩,.bool true] w fun e w'=>StrF M HB w w' e
 cls:∀w,Calls Tryz.prog 29 #[.string ⟨(eK (vF M false)).toArray⟩] w fun e w'=>zB0 M w w' e
 told:∀v,mG M v->∃u st av,zG0 M HB v u st av
theorem zJA(h:yD M)(hc:vJ (zX M G)):(yR (zX M G)).length=M.heads.length/\∀j,j<M.heads.length->((yR (zX M G)).getD j ([],0)).1=yZ 99 (M.heads.getD j 0):=by
 have hll:(yR (zX M G)).length=M.heads.length:=by rw[oQ hc,kR h,pi]
 refine⟨hll,fun j hj=>?_⟩;have h2:((yR (zX M G)).map Prod.fst).getD j []=(M.heads.map (yZ 99)).getD j []:=by rw[oP hc,kR h]
 have hj2:j<(yR (zX M G)).length:=by omega
 simpa[List.getD,hj2,hj] using h2
theorem zGG(h:yD M)(hF:zK0 M G)(hv:mG M v):∃u st av,zG0 M (fun w b=>∃rs,mH w b (zX M G) rs) v u st av:=by
 have hc:=hF.calm;have hcase:∀s,s<5->xD (zR (zX M G)) (aU v s)=((List.range 5).map v.inn,0):=fun s hs=>Dy h hv hs
 have hs:ZL (zX M G) ((List.range 5).map v.inn):=by
  have:=Cg hF.good (aU v 0);rw[hcase 0 (by decide)]at this;exact this
 have hsh:∀s,s<5->(aU v s).length<=maxLen:=fun s hs=>p7 (je h hv hs) (by decide);obtain⟨hll,hnm⟩:=zJA h hc;have hH:=zHQ h hF (L:=(List.range 5).map v.inn) (inn:=v.inn) (by simp) (fun j hj=>by simp[List.getD,hj]);refine⟨_,_,(xP (vT (zX M G) ((List.range 5).map v.inn) hc) M.heads.length M.heads.length 0 h0).av,hH,fun _=>rfl,fun s hs5 w b hB=>?_⟩
 ·obtain⟨rs,hB⟩:=hB
  refine(G4 w b (zX M G) rs (aU v s) (hsh s hs5) hB hc (fun _=>by rw[hcase s hs5];exact hs)).mono ?_;rintro e w' ⟨va,vn,vc,na,nn,nc,rfl,-,h2,h3⟩;rw[hcase s hs5]at h2;obtain⟨-,⟨a,c,e,hv⟩⟩:=h2 rfl;rw[hll]at e hv;have hv2:=hv;refine⟨a,c,by rw[hcase s hs5,e],?_,h3⟩
  have ev:∀z:vS,zFV (yR (zX M G)) z=zIJ M.heads.length (fun c=>yZ 99 (M.heads.getD c 0)) z.st z.av:=fun z=>by
   unfold zFV zIJ;rw[hll];exact BM _ fun i hi=>by rw[hnm i (pq.1 hi)]
  rw[ev]at hv2;exact hv2
theorem zHI(h:yD M):∃HB,zG3 M HB:=by
 obtain⟨G,hF,hR⟩:=zGZ h false (zBV h false) (zt h false);refine⟨fun w b=>∃rs,mH w b (zX M G) rs,fun w w' b ⟨rs,hB⟩ hb=>⟨rs,hB.below hb⟩,fun w=>?_,fun w=>?_,fun w=>zIE h hF hR w,fun v hv=>zGG h hF hv⟩
 ·refine(Uk _ w (zX M G) (hR w)).mono ?_
  rintro e w' ⟨b,rfl,hB,hb⟩;exact⟨b,rfl,hB,hb⟩
 ·refine(zJD h hF hR w).mono ?_
  rintro e w' ⟨hb,⟨b,rs,rfl,hB,hn⟩|⟨rfl,hy⟩⟩
  ·exact⟨hb,.inl ⟨b,rfl,⟨rs,hB⟩,hn⟩⟩
  ·exact⟨hb,.inr ⟨rfl,hy⟩⟩
theorem zHX(v:FV)(j:Nat)(h:j<3->0<=v.inn j/\v.inn j<=9998):Zi v j≠[59]/\(Zi v j).length<=4:=by
 by_cases hj:j<3
 ·have h1:=nO (h hj).1 (by have:=(h hj).2;omega)
  unfold Zi;rw[tm hj];refine⟨fun e=>?_,h1.2.2.1⟩;have:=h1.2.1 59 (by rw[e];simp);exact absurd this (by decide)
 ·rcases fT (v:=v) hj with ⟨e,-⟩|⟨e,-⟩ <;> rw[e] <;> exact⟨by decide,by decide⟩
theorem zE7(v:FV)(s i:Nat)(hi:i<5)(h:Zi v ((i+s)%5)≠[59]):eK ((QX v s).take (i+1))=eK ((QX v s).take i)++yK ((i+s)%5)++[32,61,32]++Zi v ((i+s)%5)++[59,10]:=by
 have hl:(QX v s).length=5:=by unfold QX;simp
 rw[Ky _ i (by omega)];have e:(QX v s).getD i []=[yK ((i+s)%5),[61],Zi v ((i+s)%5),[59]]:=by unfold QX;simp[List.getD,hi]
 rw[e];simp only[mP,DG];rw[tb (by decide),tb h,tm trivial];simp
theorem jt(g:Nat)(v:FV)(c:Int)(hV:nV w g v)(hR:∀j,j<3->0<=v.inn j/\v.inn j<=9998)(hc:jB c)(hT:rK w) :
 Calls Tryz.prog 14 #[.pointer (some ⟨g,0,none⟩),.int .i64 c] w fun e w'=>e=.returned (.string ⟨(aU v (wK c 5).toNat).toArray⟩)/\Below w.heap.size w w':=by
 obtain⟨pb0,pb1⟩:=qN c 5 (by omega)
 have HPk:Hid (∀w':World,Calls Tryz.prog 41 #[.int .i64 c,.int .i64 5] w' fun e w''=>e=.returned (.int .i64 (((wK c 5).toNat:Nat):Int))/\w''=w'):=fun w'=>by
  have:=Yj w' c 5 hc (by omega) (by omega);rw[show (((wK c 5).toNat:Nat):Int)=wK c 5 by omega];exact this
 have hp:(wK c 5).toNat<5:=by omega
 generalize (wK c 5).toNat=p at *;have HVb:=zA (fun w' (hb:Below w.heap.size w w')=>hV.below hb);have HTb:=zA (fun w' (hb:Below w.heap.size w w')=>hT.below hb);have HR:=zA hR;have HEnd:Hid (aU v p=eK ((QX v p).take 5)):=by unfold Hid aU;rw[du (by unfold QX;simp)]
 clear hV hR hc hT pb0 pb1;generalize aU v p=R at *
 go_enter Tryz.func14,Tryz.ntmps14
 go_wp2_with fail
 go_loopw [5,6] (fun sv iv wr=>∃(i:Nat) (t:Bs),i<=5/\sv=.string ⟨t.toArray⟩/\iv=.int .i64 i/\t.length<=i*20/\Hid (t=eK ((QX v p).take i))/\Hid (Below w.heap.size w wr)) (fun _ iv _=>5-(intOf iv).toNat)
 case atStart=>exact⟨0,[],ty _,rfl,rfl,by simp,zA rfl,zA (tg _ _)⟩
 case round =>
  obtain⟨i,t,hi5,rfl,rfl,ht,HE,HB⟩:=hrel;by_cases zK4:i<5
  ·have c1:(i:Int)<5:=by omega
   have hj5:(i+p)%5<5:=Nat.mod_lt _ (by decide)
   have hmod:((i:Int)+(p:Int)).tmod 5=(((i+p)%5:Nat):Int):=by
    rw[show ((i:Int)+(p:Int))=((i+p:Nat):Int) by omega];rfl
   have hmod2:((i:Int)+(p:Int))%5=(((i+p)%5:Nat):Int):=by omega
   obtain⟨n59,l4⟩:=zHX v ((i+p)%5) (fun h=>HR.out _ h);have HS:Hid (eK ((QX v p).take (i+1))=t++yK ((i+p)%5)++[32,61,32]++Zi v ((i+p)%5)++[59,10]):=by unfold Hid;rw[HE.out];exact zE7 v p i zK4 n59
   have l2:(yK ((i+p)%5)).length=2:=(show ∀j,j<5->(yK j).length=2 by decide) _ hj5;have zKR:=zA (fun w'=>lV w' ((i+p)%5) hj5);clear n59;generalize (i+p)%5=j at *;generalize yK j=nj at *;go_wp2_with fail
   refine(HPk.out _).mono ?_;rintro e w' ⟨rfl,hw⟩;obtain rfl:=hw.symm;go_wp2_with fail
   refine(zKR.out _).mono ?_;rintro e w2 ⟨rfl,hb2⟩;have HB2:Hid (Below w.heap.size w w2):=HB.out.trans (hb2.mono HB.out.size);have m0:=(HVb.out w2 HB2.out).cells.1 j hj5;clear hb2 HE zKR HPk hmod hmod2;by_cases h3:j<3
   ·have c3:(j:Int)<3:=by omega
    obtain⟨r0,r1⟩:=HR.out j h3;have HIt:=zA (iQ w2 (v.inn j) r0 (by omega) (HTb.out w2 HB2.out));have HS2:Hid (eK ((QX v p).take (i+1))=t++nj++[32,61,32]++Lib.itoa (v.inn j)++[59,10]):=by have:=HS.out;unfold Zi at this;rw[tm h3]at this;exact this
    have l5:(Lib.itoa (v.inn j)).length<=4:=by unfold Zi at l4;rw[tm h3]at l4;exact l4
    clear HS l4;generalize v.inn j=z at *;generalize Lib.itoa z=tz at *;go_wp2_with fail
    refine HIt.out.mono ?_;rintro e w3 ⟨rfl,hb3⟩;have HB3:Hid (Below w.heap.size w w3):=HB2.out.trans (hb3.mono HB2.out.size);clear hb3 HIt;go_wp2_with fail
    go_roundw
    case rel=>exact⟨i+1,t++nj++[32,61,32]++tz++[59,10],by omega,by rw[<-jT,<-jT,<-jT,<-jT],by go_num,by simp;omega,zA HS2.out.symm,HB3⟩
    case measure=>simp[intOf];omega
   ·have c3:¬(j:Int)<3:=by omega
    rcases fT (v:=v) h3 with ⟨e,e1⟩|⟨e,e1⟩
    ·rw[e]at HS
     rw[e1]at m0;clear e e1 l4;go_wp2_with fail
     go_roundw
     case rel=>exact⟨i+1,t++nj++[32,61,32]++[121,101,115]++[59,10],by omega,by rw[<-jT,<-jT,<-jT,<-jT],by go_num,by simp;omega,zA HS.out.symm,HB2⟩
     case measure=>simp[intOf];omega
    ·rw[e]at HS
     have b1:(v.inn j==1)=false:=by rw[mh];exact e1
     clear e e1 l4;generalize v.inn j=z at *;go_wp2_with fail
     go_roundw
     case rel=>exact⟨i+1,t++nj++[32,61,32]++[110,111]++[59,10],by omega,by rw[<-jT,<-jT,<-jT,<-jT],by go_num,by simp;omega,zA HS.out.symm,HB2⟩
     case measure=>simp[intOf];omega
  ·obtain rfl:i=5:=by omega
   have HF:Hid (t=R):=by unfold Hid;rw[HE.out,HEnd.out]
   clear HE HEnd;go_wp2_with fail
   go_ret
   exact⟨by rw[HF.out];rfl,HB.out⟩
theorem X5(a:Option Addr)(c n:Nat)(hn:n<=10000)(f:Nat->Bs)(g k:Nat->Int)(h:kS w a (zIJ n f g k)) :
 Calls Tryz.prog 31 #[.slice a n c] w fun e w'=>(e=.returned (.bool false)/\Below w.heap.size w w')\/(e=.returned (.bool true)/\(∃i,i<n/\g i=2)/\Below w.heap.size w w'):=by
 have H1:=zA h;clear h
 go_enter Tryz.func31,Tryz.ntmps31
 go_wp2_with fail
 go_loopw [3] (fun iv wr=>∃(i:Nat),i<=n/\iv=.int .i64 i/\Hid (Below w.heap.size w wr)) (fun iv _=>n-(intOf iv).toNat)
 case atStart=>exact⟨0,ty _,rfl,zA (tg _ _)⟩
 case round =>
  obtain⟨i,hi,rfl,HB⟩:=hrel;by_cases zK4:i<n
  ·obtain⟨g1,rfl,c1,c2,c5⟩:=zAL (H1.out.below HB.out) zK4
   have c9:(i:Int)<(n:Int):=by omega
   by_cases h2:g i=2
   ·have HX:Hid (∃i,i<n/\g i=2):=⟨i,zK4,h2⟩
    rw[h2]at c2;clear h2 H1;go_wp2_with fail
    go_ret
    exact .inr ⟨rfl,HX.out,HB.out⟩
   ·have b2:(g i==2)=false:=by rw[mh];exact h2
    clear h2;generalize g i=sv at *;go_wp2_with fail
    go_roundw
    case rel=>exact⟨i+1,by omega,by go_num,HB⟩
    case measure=>simp[intOf];omega
  ·have c9:¬(i:Int)<(n:Int):=by omega
   go_wp2_with fail
   go_ret
   exact .inl ⟨rfl,HB.out⟩
theorem zED(a b:Option Addr)(c d n:Nat)(hn:n<=10000)(f:Nat->Bs)(g k:Nat->Int)(h1:kS w a (zIJ n f g k))(h2:kS w b (zIJ n f g k)) :
 Calls Tryz.prog 32 #[.slice a n c,.slice b n d] w fun e w'=>e=.returned (.bool true)/\Below w.heap.size w w':=by
 have H1:=zA h1;have H2:=zA h2;clear h1 h2
 go_enter Tryz.func32,Tryz.ntmps32
 go_wp2_with fail
 go_loopw [5] (fun iv wr=>∃(i:Nat),i<=n/\iv=.int .i64 i/\Hid (Below w.heap.size w wr)) (fun iv _=>n-(intOf iv).toNat)
 case atStart=>exact⟨0,ty _,rfl,zA (tg _ _)⟩
 case round =>
  obtain⟨i,hi,rfl,HB⟩:=hrel;by_cases zK4:i<n
  ·obtain⟨g1,rfl,c1,c2,c5⟩:=zAL (H1.out.below HB.out) zK4
   obtain⟨g2,rfl,c3,c4,c6⟩:=zAL (H2.out.below HB.out) zK4;generalize f i=s at *;generalize g i=sv at *;generalize k i=kv at *;go_wp2_with fail
   go_quiet (fail)
   go_wp2_with fail
   go_roundw
   case rel=>exact⟨i+1,by omega,by go_num,zA (xI HB.out _)⟩
   case measure=>simp[intOf];omega
  ·go_wp2_with fail
   go_ret
   exact⟨rfl,HB.out⟩
variable {M:yC}
theorem qj{l:List Nat}(h:nM l=2):∃a b r,l=a::b::r:=by
 match l,h with
 | [],h=>exact absurd (show (0:Int)=2 from h) (by decide)
 | [_],h=>exact absurd (show (1:Int)=2 from h) (by decide)
 | a::b::r,_=>exact⟨a,b,r,rfl⟩
theorem CF{h r:Nat}(hr:r∈aE M v h):r<M.rules.length/\(vU M r).head=h/\nF v (vU M r)=true/\Je M v r=false:=by
 unfold aE at hr;rw[mj,pq,pj,pj,pt]at hr;exact⟨hr.1,hr.2.1,hr.2.2.1,by simpa using hr.2.2.2⟩
theorem D2{r k:Nat}(h:Je M v r=false)(hk:k<M.rules.length)(ha:nF v (vU M k)=true):gA (zS (kT M)) k r=false:=by
 unfold Je at h;have:=dw.1 h k (pq.2 hk);rw[ha,mu]at this;simpa using this
theorem zDT{u:FV}{st:Nat->Int}(hH:zAX M u st)(hR:mG M u){c:Nat}(hc:c<M.heads.length)(h2:st c=2):zF3 M:=by
 rw[hH.kst c hc]at h2;obtain⟨a,b,r,e⟩:=qj h2;have hp:(aE M u (M.heads.getD c 0)).Pairwise (· < ·):=by unfold aE;exact List.Pairwise.filter _ List.pairwise_lt_range
 have ha:=CF (M:=M) (v:=u) (h:=M.heads.getD c 0) (r:=a) (by rw[e];simp);have hb:=CF (M:=M) (v:=u) (h:=M.heads.getD c 0) (r:=b) (by rw[e];simp);rw[e]at hp;have hab:a<b:=(List.pairwise_cons.1 hp).1 b (by simp);refine⟨a,b,hab,hb.1,?_,u,hR,ha.2.2.1,hb.2.2.1⟩;refine(iW M a b).1 ⟨by omega,by rw[ha.2.1,hb.2.1],?_,?_⟩
 ·exact D2 hb.2.2.2 ha.1 ha.2.2.1
 ·exact D2 ha.2.2.2 hb.1 hb.2.2.1
theorem Gm(td:Bs)(HB:World->Nat->Prop)(hL:Calls Tryz.prog 27 #[.string ⟨td.toArray⟩,.bool false] w fun e w'=>zJX HB w w' e) :
 Calls Tryz.prog 11 #[.string ⟨td.toArray⟩] w fun e w'=>∃b:Nat,e=.returned (.tuple #[.pointer (some ⟨b,0,none⟩),.bool true])/\HB w' b/\Below w.heap.size w w':=by
 have HL:=zA hL;clear hL
 go_enter Tryz.func11,Tryz.ntmps11
 go_wp2_with fail
 refine HL.out.mono ?_;rintro e w1 ⟨b,rfl,hB,hb⟩;have HHB:=zA hB;have HBl:=zA hb;clear hB hb HL;go_wp2_with fail
 go_ret2
 exact⟨b,rfl,HHB.out,HBl.out⟩
theorem zF4(la wa ra ga:Option Addr)(ln lc wn wk rn rc gn gc:Nat)(hd:Nat->Int)(hL:lF w la ln)(hW:lF w wa wn)(hR:Kh w ra rn hd)(hG:lF w ga gn)(hT:rK w)(hK:∀M,yD M->∃HB,zG3 M HB) :
 Calls Tryz.prog 6 #[.agg #[.slice la ln lc,.slice wa wn wk,.slice ra rn rc],.slice ga gn gc] w fun e w'=>e=.returned (.bool true)/\Below w.heap.size w w':=by
 have HBd:=zA (fun w' (hb:Below w.heap.size w w')=>ju w' la wa ra ln lc wn wk rn rc hd (hL.below hb) (hW.below hb) (hR.below hb));have HTb:=zA (fun w' (hb:Below w.heap.size w w')=>hT.below hb);have HGb:=zA (fun w' (hb:Below w.heap.size w w')=>hG.below hb);have HK:=zA hK;clear hL hW hR hG hT hK
 go_enter Tryz.func6,Tryz.ntmps6
 go_upto_region 1 with fail
 have HB0:Hid (Below w.heap.size w (w.alloc (.cells #[.slice la ln lc,.slice wa wn wk,.slice ra rn rc] 25))):=fj (j1 _) _;have b0:(w.alloc (.cells #[.slice la ln lc,.slice wa wn wk,.slice ra rn rc] 25)).cell? ⟨w.heap.size,0,none⟩=some (.slice la ln lc):=zB (zG _ _) 0;have b1:(w.alloc (.cells #[.slice la ln lc,.slice wa wn wk,.slice ra rn rc] 25)).cell? ⟨w.heap.size,1,none⟩=some (.slice wa wn wk):=zB (zG _ _) 1;have b2:(w.alloc (.cells #[.slice la ln lc,.slice wa wn wk,.slice ra rn rc] 25)).cell? ⟨w.heap.size,2,none⟩=some (.slice ra rn rc):=zB (zG _ _) 2;generalize w.alloc (.cells #[.slice la ln lc,.slice wa wn wk,.slice ra rn rc] 25)=w0 at *;go_wp2_with fail
 refine(HBd.out w0 HB0.out).mono ?_;rintro e w1 ⟨g,M,rfl,hO,hM,hb1⟩;have HB1:Hid (Below w.heap.size w w1):=HB0.out.trans (hb1.mono HB0.out.size);have HO:=zA hO;have HMb:=zA (fun w' (hb:Below w1.heap.size w1 w')=>hM.below hb);have HTx:=zA (zEB w1 g M hM hO (HTb.out w1 HB1.out));obtain⟨HBs,hkp⟩:=HK.out M hO;have HBel:=zA hkp.below;have HLen:=zA hkp.len;have HStr:=zA hkp.str;have HCls:=zA hkp.cls;have HTold:=zA hkp.told;clear hO hM hb1 HBd HK hkp b0 b1 b2;generalize eK (vF M false)=td at *;go_wp2_with fail
 refine HTx.out.mono ?_;rintro e w2 ⟨rfl,hb2⟩;have HB2:Hid (Below w.heap.size w w2):=HB1.out.trans (hb2.mono HB1.out.size);have H12:=zA hb2;clear hb2 HTx;have HLd:=zA (Gm w2 td HBs (HLen.out w2));go_wp2_with fail
 refine HLd.out.mono ?_;rintro e w3 ⟨b,rfl,hB,hb3⟩;have HB3:Hid (Below w.heap.size w w3):=HB2.out.trans (hb3.mono HB2.out.size);have H13:Hid (Below w1.heap.size w1 w3):=H12.out.trans (hb3.mono H12.out.size);have HHb:=zA (fun w' (hb:Below w3.heap.size w3 w')=>HBel.out w3 w' b hB hb);have HVw:=zA (zEA w3 g M ga gn gc (HMb.out w3 H13.out) HO.out (HGb.out w3 HB3.out));clear hb3 hB HLd;go_wp2_with fail
 refine HVw.out.mono ?_;rintro e w4 ⟨gv,v,rfl,hv,hroom,hb4⟩;have HB4:Hid (Below w.heap.size w w4):=HB3.out.trans (hb4.mono HB3.out.size);have H14:Hid (Below w1.heap.size w1 w4):=H13.out.trans (hb4.mono H13.out.size);have H34:=zA hb4;have HFc:=zA (jt w4 gv v 0 hv (fun j hj=>rU HO.out hroom hj) ⟨by decide,by decide⟩ (HTb.out w4 HB4.out));obtain⟨u,st,av,htd⟩:=HTold.out v hroom;have hroomU:mG M u:=⟨fun i hi=>by rw[htd.inn];exact hroom.num i hi,fun i h1 h2=>by rw[htd.inn];exact hroom.flag i h1 h2⟩;have HCl2:Hid (∀c,c<M.heads.length->st c=2->zF3 M):=fun c hc h2=>zDT htd.hear hroomU hc h2;have HEv:Hid (∀w b,HBs w b->Calls Tryz.prog 15 #[.pointer (some ⟨b,0,none⟩),.string ⟨(aU v 0).toArray⟩] w fun e w'=>zG5 M st av w w' e):=fun w' b' h=>htd.eval 0 (by decide) w' b' h;have HFc2:Hid (Calls Tryz.prog 14 #[.pointer (some ⟨gv,0,none⟩),.int .i64 0] w4 fun e w'=>e=.returned (.string ⟨(aU v 0).toArray⟩)/\Below w4.heap.size w4 w'):=HFc.out;clear hb4 hv hroom htd hroomU HFc HTold HVw;generalize aU v 0=fs at *;go_wp2_with fail
 refine HFc2.out.mono ?_;rintro e w5 ⟨rfl,hb5⟩;have HB5:Hid (Below w.heap.size w w5):=HB4.out.trans (hb5.mono HB4.out.size);have H15:Hid (Below w1.heap.size w1 w5):=H14.out.trans (hb5.mono H14.out.size);have H35:Hid (Below w3.heap.size w3 w5):=H34.out.trans (hb5.mono H34.out.size);clear hb5 HFc2;have HE1:=zA (HEv.out w5 b (HHb.out w5 H35.out));go_wp2_with fail
 refine HE1.out.mono ?_;rintro e w6 ⟨na,nc,rfl,zKQ,hb6⟩;have HB6:Hid (Below w.heap.size w w6):=HB5.out.trans (hb6.mono HB5.out.size);have H16:Hid (Below w1.heap.size w1 w6):=H15.out.trans (hb6.mono H15.out.size);have HCel:=zA (fun w' (hb:Below w6.heap.size w6 w')=>(zKQ.below hb).cel);obtain⟨ra',ha,rc',hc',xs,-,hmad,-,-,-⟩:=(HMb.out w6 H16.out).mem;have m71:=hmad.cells.2.2.2.2;have hh4:M.heads.length<=10000:=by have:=oW (hs:=M.rules.map vP.head) (fun x hx=>by obtain⟨r,hr,rfl⟩:=p8.1 hx;exact(HO.out.rules r hr).head);rw[<-HO.out.heads]at this;omega
 clear hb6 zKQ hmad HE1;go_wp2_with fail
 refine(HStr.out w6).mono ?_;rintro e w7 ⟨hb7,⟨c,rfl,hB7,hncl⟩|⟨rfl,hcl⟩⟩
 ·have HB7:Hid (Below w.heap.size w w7):=HB6.out.trans (hb7.mono HB6.out.size)
  have HHc:=zA (fun w' (hb:Below w7.heap.size w7 w')=>HBel.out w7 w' c hB7 hb);have HCs:=zA (X5 w7 na nc M.heads.length hh4 _ st av (HCel.out w7 hb7));have HNc:=zA hncl;have H67:=zA hb7;clear hb7 hB7 hncl;go_wp2_with fail
  refine HCs.out.mono ?_;intro e w8 hcw
  obtain⟨rfl,hb8⟩:e=.returned (.bool false)/\Below w7.heap.size w7 w8:=by
   rcases hcw with h|⟨-,⟨i,hi,h2⟩,-⟩
   ·exact h
   ·exact absurd (HCl2.out i hi h2) HNc.out
  clear hcw;have HB8:Hid (Below w.heap.size w w8):=HB7.out.trans (hb8.mono HB7.out.size);have H68:Hid (Below w6.heap.size w6 w8):=H67.out.trans (hb8.mono H67.out.size);have H78:=zA hb8;have HE2:=zA (HEv.out w8 c (HHc.out w8 H78.out));clear hb8 HCs;go_wp2_with fail
  refine HE2.out.mono ?_;rintro e w9 ⟨na2,nc2,rfl,hcel2,hb9⟩;have HB9:Hid (Below w.heap.size w w9):=HB8.out.trans (hb9.mono HB8.out.size);have H69:Hid (Below w6.heap.size w6 w9):=H68.out.trans (hb9.mono H68.out.size);have HSm:=zA (zED w9 na na2 nc nc2 M.heads.length hh4 _ st av (HCel.out w9 H69.out) hcel2.cel);clear hb9 hcel2 HE2;go_wp2_with fail
  refine HSm.out.mono ?_;rintro e w10 ⟨rfl,hb10⟩;have HB10:Hid (Below w.heap.size w w10):=HB9.out.trans (hb10.mono HB9.out.size);clear hb10 HSm;go_wp2_with fail
  go_ret
  exact⟨rfl,HB10.out⟩
 ·have HB7:Hid (Below w.heap.size w w7):=HB6.out.trans (hb7.mono HB6.out.size)
  have H17:Hid (Below w1.heap.size w1 w7):=H16.out.trans (hb7.mono H16.out.size);have HCs:=zA (X5 w7 na nc M.heads.length hh4 _ st av (HCel.out w7 hb7));have HCl:=zA hcl;clear hb7 hcl;go_wp2_with fail
  refine HCs.out.mono ?_;intro e w8 hcw
  obtain⟨bb,rfl,hb8⟩:∃bb,e=.returned (.bool bb)/\Below w7.heap.size w7 w8:=by
   rcases hcw with ⟨h1,h2⟩|⟨h1,-,h2⟩
   ·exact⟨false,h1,h2⟩
   ·exact⟨true,h1,h2⟩
  clear hcw;have HB8:Hid (Below w.heap.size w w8):=HB7.out.trans (hb8.mono HB7.out.size);have H18:Hid (Below w1.heap.size w1 w8):=H17.out.trans (hb8.mono H17.out.size)
  have HSh:=zA (jn w8 g M td (HMb.out w8 H18.out) HO.out ((HCls.out w8).mono fun e w' h=>by
   rcases h with ⟨-,hn,-⟩|⟨-,h⟩
   ·exact absurd HCl.out hn
   ·exact h))
  clear hb8 HCs;go_wp2_with fail
  refine HSh.out.mono ?_;rintro e w9 ⟨rfl,hb9⟩;have HB9:Hid (Below w.heap.size w w9):=HB8.out.trans (hb9.mono HB8.out.size);clear hb9;go_wp2_with fail
  go_ret
  exact⟨rfl,HB9.out⟩
theorem zB2(la wa ra ga:Option Addr)(ln lc wn wk rn rc gn gc:Nat)(hd:Nat->Int)(hL:lF w la ln)(hW:lF w wa wn)(hR:Kh w ra rn hd)(hG:lF w ga gn)(hT:rK w) :
 Calls Tryz.prog 6 #[.agg #[.slice la ln lc,.slice wa wn wk,.slice ra rn rc],.slice ga gn gc] w fun e w'=>e=.returned (.bool true)/\Below w.heap.size w w' :=
 zF4 w la wa ra ga ln lc wn wk rn rc gn gc hd hL hW hR hG hT fun _ h=>zHI h
end Go.Proofs.YtnbpdffdnphbeabGreatDoor
