import Derived.Test.YtnbpdffdnphbeabGreatDoorStDet
import Derived.Test.YtnbpdffdnphbeabGreatDoorRgAll
open Go.Proofs.Tryz
set_option maxHeartbeats 4000000
set_option maxRecDepth 100000
namespace Go.Proofs.YtnbpdffdnphbeabGreatDoor
open Go.RowKit
variable{gs gr n:Nat}{sv:Value}{wx w wr wD:World}
theorem Rf:(prog.info? 9).map (λi=>(i.zero,i.size,i.bytes))=some (some (.string ⟨#[]⟩),1,16):=by kernel_rfl
theorem Re:(prog.info? 95).map (λi=>(i.zero,i.size,i.bytes))=some (some (.agg #[.string ⟨#[]⟩,.int .i64 0]),2,24):=by kernel_rfl
def Hv(v:Value):Prop:=∃z,v=.int .i64 z
def LM(v:Value):Prop:=∃s:Bs,v=.string ⟨s.toArray⟩
def LL(M:yO)(w w':World)(e:Ending):Prop:=∃(pv:Value) (k:Int),e=.returned (.tuple #[pv,.int .i64 k])/\((k=0/\(∃b:Nat,pv=.pointer (some ⟨b,0,none⟩))/\¬Fq M)\/(k=8/\pv=.pointer none/\Fq M))/\Below w.heap.size w w'
structure RgV(w wx:World)(gr:Nat):Prop where
 low:w.heap.size<=gr
 row:eH wx gr 9 2 1 0 LM
 ay:kQ wx (some ⟨gr,0,none⟩) (xG [[99,97],[99,98]])
theorem RgV.below{wy:World}(h:RgV w wx gr)(hb:Below wx.heap.size wx wy):RgV w wy gr:=⟨h.low,h.row.below hb,h.ay.below hb⟩
theorem Lf{B:Nat}{v:Value}(h:wx.ownsRow B 9 1 v 2 (xG [[99,97],[99,98]]))(hB:w.heap.size<=B):∃gr cap,v=.slice (some ⟨gr,0,none⟩) 2 cap/\RgV w wx gr:=by
 rcases h.2 with ⟨_,h2⟩|⟨g,cap,yB,h1,dn,h3,h4,h5,_,h7⟩
 ·omega
 ·obtain⟨a,c,e,hc⟩:=uT h
  rw[h1]at e;simp only[ct]at e;obtain⟨rfl,-,rfl⟩:=e
  have hq:∀j,j<2->yB[j]? = (xG [[99,97],[99,98]])[j]? := λj hj=>by
   rw[<-h7,dw,u',da]
  refine⟨g,cap,h1,by omega,⟨yB,h3,λj hj=>?_⟩,hc.ay⟩;rw[show j*1+0=j by omega,hq j hj];rcases(show j=0\/j=1 by omega) with rfl|rfl
  ·exact⟨_,rfl,[99,97],rfl⟩
  ·exact⟨_,rfl,[99,98],rfl⟩
def Ac(w wx:World)(sv:Value)(n gs:Nat):Prop:=(sv=.slice none 0 0/\n=0)\/∃c,sv=.slice (some ⟨gs,0,none⟩) n c/\w.heap.size<=gs/\eH wx gs 95 n 2 1 Hv
theorem Ac.below{wy:World}(h:Ac w wx sv n gs)(hb:Below wx.heap.size wx wy):Ac w wy sv n gs:=by
 rcases h with h|⟨c,h1,h2,h3⟩
 ·exact .inl h
 ·exact .inr ⟨c,h1,h2,h3.below hb⟩
theorem Mu{wb:World}{nm:Nat->Bs}{z:Nat->Int}(h:J5 wx sv n 2 (CJ n nm z))(hB:∀g m c,sv=.slice (some g) m c->wb.heap.size<=g.block/\∃cs,wx.heap[g.block]? = some (.cells cs 95 (0,0)))(hw:w.heap.size<=wb.heap.size)(h0:0<wx.heap.size):∃gs,gs<wx.heap.size/\Ac w wx sv n gs:=by
 rcases h with ⟨h1,h2,-⟩|⟨g,c,h1,h2,h3,h4⟩
 ·exact⟨0,h0,.inl ⟨h1,h2⟩⟩
 ·obtain⟨k1,cs,k2⟩:=hB ⟨g,0,none⟩ n c h1
  have k1:wb.heap.size<=g:=k1;have k2:wx.heap[g]? = some (.cells cs 95 (0,0)):=k2;refine⟨g,zP k2,.inr ⟨c,h1,by omega,cs,k2,λj hj=>⟨.int .i64 (z j),?_,z j,rfl⟩⟩⟩;have:=h4 (j*2+1) _ (Zi nm z hj).2;rw[zC k2]at this;exact this
structure zG0(w wD wr:World)(gs gr n:Nat):Prop where
 kp:jn wD wr gs gr
 af:Below w.heap.size w wr
 Aa:0<n->w.heap.size<=gs/\eH wr gs 95 n 2 1 Hv
 lor:w.heap.size<=gr/\eH wr gr 9 2 1 0 LM
theorem zG0.ne(h:zG0 w wD wr gs gr n)(h0:0<n):gs≠gr:=λe=>by
 obtain⟨cs,k,_⟩:=(h.Aa h0).2;obtain⟨cs',k',_⟩:=h.lor.2;rw[e,k']at k;simp at k
theorem zG0.AV(h:zG0 w wD wr gs gr n)(h0:0<n)(j:Nat)(z:Int):zG0 w wD (wr.setCell ⟨gs,j,none⟩ (.int .i64 z)) gs gr n :=
 ⟨h.kp.set (.inl rfl),h.af.setCell (h.Aa h0).1 _,λ_=>⟨(h.Aa h0).1,(h.Aa h0).2.set j ⟨z,rfl⟩⟩,h.lor.1,h.lor.2.other (λe=>h.ne h0 e.symm)⟩
theorem zG0.AW(h:zG0 w wD wr gs gr n)(j:Nat):zG0 w wD (wr.setCell ⟨gr,j,none⟩ (.string ⟨#[]⟩)) gs gr n :=
 ⟨h.kp.set (.inr rfl),h.af.setCell h.lor.1 _,λh0=>⟨(h.Aa h0).1,(h.Aa h0).2.other (h.ne h0)⟩,h.lor.1,h.lor.2.set j ⟨[],rfl⟩⟩
theorem Ac.parts(h:Ac w wx sv n gs):∃sa sc,sv=.slice sa n sc/\(0<n->sa=some ⟨gs,0,none⟩/\w.heap.size<=gs/\eH wx gs 95 n 2 1 Hv):=by
 rcases h with ⟨h1,h2⟩|⟨c,h1,h2,h3⟩
 ·exact⟨none,0,by rw[h1,h2],λh0=>x' h0 (by omega)⟩
 ·exact⟨_,c,h1,λ_=>⟨rfl,h2,h3⟩⟩
theorem N3(w:World):kQ (w.alloc (.cells #[.string ⟨#[99,97]⟩,.string ⟨#[99,98]⟩] 9)) (some ⟨w.heap.size,0,none⟩) (xG [[99,97],[99,98]]):=.inr ⟨_,rfl,λj hj=>by
 rcases(show j=0\/j=1 by have:j<2:=hj;omega) with rfl|rfl
 ·exact zC (zF _ _) 0
 ·exact zC (zF _ _) 1⟩
theorem jb(w:World)(la wa ra oa:Option Addr)(ln lc wn wk rn rc on oc:Nat)(hd:Nat->Int)(hL:dG w la ln)(hW:dG w wa wn)(hR:J7 w ra rn hd)(hS:jc w oa on)(hT:eG w)
 (cS:∀M,yR M->∀w',Calls prog 27 #[.string ⟨(X1 (xY M false)).toArray⟩,.bool true] w' λe w''=>LL M w' w'' e)
 (cT:∀M,yR M->∃(k:Int) (Ls:List Bs) (n:Nat) (nm:Nat->Bs) (z:Nat->Int),Ls.length<=2/\n<=9/\((k=9/\¬Fq M)\/(k=0/\Fq M))/\∀w,Calls prog 29 #[.string ⟨(X1 (xY M false)).toArray⟩] w λe w'=>Hw k Ls n (CJ n nm z) w w' e)
 (cR:∀M,yR M->Fq M->∀w',Calls prog 29 #[.string ⟨(X1 (xY M false)).toArray⟩] w' λe w''=>El M w' w'' e) :
 Calls prog 9 #[.agg #[.slice la ln lc,.slice wa wn wk,.slice ra rn rc],.slice oa on oc] w λe w'=>e=.returned (.bool true)/\Below w.heap.size w w':=by
 obtain⟨i0,ai,hz0,hz1,b5⟩:=du Rf;obtain⟨j0,dK,dJ,bH,aQ⟩:=du Re;have bX:=hS.aj;unfold maxLen at bX;have c6:=zA (λw' (hb:Below w.heap.size w w')=>P' w' la wa ra ln lc wn wk rn rc hd (hL.below hb) (hW.below hb) (hR.below hb));have cY:=zA (λw' (hb:Below w.heap.size w w')=>hT.below hb);have dU:=zA (λw' (hb:Below w.heap.size w w')=>hS.below hb);have cq:=zA cS;have cz:=zA cT;have cZ:=zA cR;clear hL hW hR hS hT cS cT cR
 go_enter func9,ntmps9
 go_upto_region 1 with fail
 have bS:Hid (Below w.heap.size w (w.alloc (.cells #[.slice la ln lc,.slice wa wn wk,.slice ra rn rc] 25))):=fk (tg _) _;have b0:(w.alloc (.cells #[.slice la ln lc,.slice wa wn wk,.slice ra rn rc] 25)).cell? ⟨w.heap.size,0,none⟩=some (.slice la ln lc):=zC (zF _ _) 0;have b1:(w.alloc (.cells #[.slice la ln lc,.slice wa wn wk,.slice ra rn rc] 25)).cell? ⟨w.heap.size,1,none⟩=some (.slice wa wn wk):=zC (zF _ _) 1;have b2:(w.alloc (.cells #[.slice la ln lc,.slice wa wn wk,.slice ra rn rc] 25)).cell? ⟨w.heap.size,2,none⟩=some (.slice ra rn rc):=zC (zF _ _) 2;have aa:0<(w.alloc (.cells #[.slice la ln lc,.slice wa wn wk,.slice ra rn rc] 25)).heap.size:=Nat.lt_of_le_of_lt (p8) (zY _ _);generalize w.alloc (.cells #[.slice la ln lc,.slice wa wn wk,.slice ra rn rc] 25)=w0 at *;go_wp2_with fail
 refine(c6.out w0 bS.out).mono ?_;rintro e w1 ⟨g,M,rfl,hO,hM,hb1⟩;have bR:Hid (Below w.heap.size w w1):=bS.out.trans (hb1.mono bS.out.size);have cH:0<w1.heap.size:=tq aa hb1.size;have HO:=zA hO;have cl:=zA (λw' (hb:Below w1.heap.size w1 w')=>hM.below hb);have cW:=zA (Nb w1 g M hM hO (cY.out w1 bR.out));have bD:=zA (cq.out M hO);have a7:=zA (cZ.out M hO);obtain⟨kc,Ls,n,nm,z,dm,dk,cK,cM⟩:=cz.out M hO;have dX:=zA cK;have c5:=zA cM;clear hO hM hb1 c6 cq cz cZ b0 b1 b2 cM cK aa bS;generalize X1 (xY M false)=td at *;generalize aI:CJ n nm z=Sv at *;have bP:=zA aI;clear aI;go_wp2_with fail
 refine cW.out.mono ?_;rintro e w2 ⟨rfl,bK⟩;have bn:Hid (Below w.heap.size w w2):=bR.out.trans (bK.mono bR.out.size);have br:=zA bK;have cG:0<w2.heap.size:=tq cH bK.size;clear bK cW bR cH;go_wp2_with fail
 refine(bD.out w2).mono ?_;rintro e w3 ⟨pv,k8,rfl,aG,bJ⟩;have aO:Hid (Below w.heap.size w w3):=bn.out.trans (bJ.mono bn.out.size);have bq:Hid (Below w1.heap.size w1 w3):=br.out.trans (bJ.mono br.out.size);have cF:0<w3.heap.size:=tq cG bJ.size;have bl:=zA aG;clear bJ bD bn br aG cG;go_wp2_with fail
 refine(c5.out w3).mono ?_;rintro e w4 ⟨lv,sv,rfl,cI,aI,aq,bI⟩;have aN:Hid (Below w.heap.size w w4):=aO.out.trans (bI.mono aO.out.size);have bp:Hid (Below w1.heap.size w1 w4):=bq.out.trans (bI.mono bq.out.size);have cE:0<w4.heap.size:=tq cF bI.size;obtain⟨gs,cL,aY⟩:=Mu (w:=w) (by rw[<-bP.out]at aI;exact aI) aq aO.out.size cE;have cm:=zA cI;have a6:=zA aI;have bO:=zA aY;clear bI cI aI aq aY aO bq cF;have bA:=zA (VT w4);go_wp2_with fail
 refine bA.out.mono ?_;rintro e w5 ⟨rv,rfl,cB,aL⟩;have aM:Hid (Below w.heap.size w w5):=aN.out.trans (aL.mono aN.out.size);have c8:Hid (Below w1.heap.size w1 w5):=bp.out.trans (aL.mono bp.out.size);obtain⟨gr,aH,rfl,cC⟩:=Lf (w:=w) cB aN.out.size;have cg:=zA cC;have bC:=zA (cm.out.below aL);have az:=zA (a6.out.below aL);have aw:=zA (bO.out.below aL);have ag:gs<w5.heap.size:=tq cL aL.size;clear aL cB cC cm a6 bO aN bp cL cE bA
 go_upto_region 6 with fail
 go_cut [14] from 49 to 58 (λbT wx=>∃bZ:Bool,bT=.bool bZ/\Hid (k8=0->bZ=true)/\wx=w5)
 case first =>
  rcases bl.out with ⟨rfl,⟨b,rfl⟩,hn⟩|⟨rfl,rfl,hy⟩
  ·obtain rfl:kc=9:=by
    rcases dX.out with ⟨h1,-⟩|⟨-,h2⟩
    ·exact h1
    ·exact x' h2 hn
   clear hn;go_wp2_with fail
   go_meet
   exact⟨true,rfl,zA (λ_=>rfl),rfl⟩
  ·clear hy
   go_wp2_with fail
   go_meet
   exact⟨false,rfl,zA (λh=>M' h),rfl⟩
 case rest =>
  obtain⟨bZ,rfl,bF,bV⟩:=hcut;subst bV;obtain⟨w5,bV⟩:∃x,x=wc:=⟨_,rfl⟩;subst bV
  go_upto_if 60 with fail
  go_cut [14] from 59 to 63 (λbT wx=>bT=.bool true/\Hid (Below w5.heap.size w5 wx))
  case first =>
   rcases bl.out with ⟨rfl,-,-⟩|⟨rfl,-,hy⟩
   ·have e:=bF.out rfl
    subst e;go_wp2_with fail
    go_meet
    exact⟨rfl,zA (tl _ _)⟩
   ·have bO:=zA (RG w5 g M td (cl.out w5 c8.out) HO.out (a7.out hy w5))
    clear hy;go_wp2_with fail
    refine bO.out.mono ?_;rintro e w6 ⟨rfl,cQ⟩;have dc:=zA cQ;clear cQ;go_wp2_with fail
    go_meet
    exact⟨rfl,dc⟩
  case rest =>
   obtain⟨rfl,aP⟩:=hcut;clear bF bl a7 cl HO c8;have bm:Hid (Below w.heap.size w wc):=aM.out.trans (aP.out.mono aM.out.size);have bB:=zA (bC.out.below aP.out);have ax:=zA (az.out.below aP.out);have av:=zA (aw.out.below aP.out);have aD:=zA (cg.out.below aP.out);have aJ:gs<wc.heap.size:=tq ag aP.out.size;clear bC az aw cg aM aP ag;go_wp2_with fail
   refine(Bp _ _ _ _ _ 2 1).mono ?_;rintro e w7 ⟨rfl,cP⟩;have bQ:Hid (Below wc.heap.size wc w7):=(fk (tg _) _).trans (cP.mono (p7 (zY _ _)));clear cP;go_wp2_with fail
   refine(Bp _ _ _ _ _ 2 1).mono ?_;rintro e w8 ⟨rfl,cO⟩;have aV:Hid (Below wc.heap.size wc w8):=(bQ.out.alloc bQ.out.size _).trans (cO.mono (tu bQ.out.size (p7 (zY _ _))));clear cO bQ;go_wp2_with fail
   have cb:Hid (∀(w':World) a c d,kQ w' a (xG [[99,97],[99,98]])->kQ w' (some ⟨gr,0,none⟩) (xG [[99,97],[99,98]])->Calls prog 36 #[.slice (some ⟨gr,0,none⟩) 2 c,.slice a 2 d] w' λe w''=>e=.returned (.bool true)/\Below w'.heap.size w' w''):=λw' a c d h1 h2=>QH w' _ a c d [[99,97],[99,98]] (by decide) h2 h1;refine(cb.out _ _ _ _ (N3 _) (aD.out.ay.below (aV.out.alloc aV.out.size _))).mono ?_;rintro e w9 ⟨rfl,cN⟩;have aU:Hid (Below wc.heap.size wc w9):=(aV.out.alloc aV.out.size _).trans (cN.mono (tu aV.out.size (p7 (zY _ _))));clear cN aV cb
   go_upto_region 12 with fail
   have aK:gr<wc.heap.size:=by obtain⟨cs,k,-⟩:=aD.out.row;exact zP k
   have a8:Hid (J5 wc (.slice (some ⟨gr,0,none⟩) 2 aH) 2 1 (xG [[99,97],[99,98]])):=.inr ⟨gr,aH,rfl,by decide,rfl,λj u hu=>by
    rcases aD.out.ay with h|⟨g',e,h⟩
    ·cases h
    ·obtain rfl:gr=g':=by simpa using e
     rw[h j (dl.1 hu).1,hu]⟩
   have cr:=zA (bB.out.below (aU.out.alloc aU.out.size (.cells #[] 9)))
   go_wp2_with (at_builtin;refine mV rfl _ _ 70 rfl w9.heap.size 9 i0 _ 1 16 underlying70 ai hz0 hz1 b5 rfl (by decide) _ _ _ rfl (nI _ _ _) lv Ls.length (xG Ls) rfl cr.out (Ua Ls) ?dT ?dQ ?dN ?_)
   case dT=>unfold maxLen;omega
   case dQ=>omega
   case dN=>simp
   intro v2 wA aC ao;have aS:Hid (Below wc.heap.size wc wA):=aU.out.trans ((((tl w9.heap.size w9).alloc (tg _) _).grown ao (p7 (zY _ _)) (zS (nI w9 9 1))).mono aU.out.size)
   replace aC:wA.ownsRow w9.heap.size 9 1 v2 Ls.length (xG Ls):=by first|exact aC|simpa using aC
   obtain⟨b4,dF,rfl⟩:=zO aC;have cv:Hid (dH wc.heap.size wA 9 b4 (xG Ls)):=ZK aC aU.out.size;have cc:=zA (ax.out.below (aS.out.alloc aS.out.size (.cells #[] 95)));clear aC ao aU cr
   go_wp2_with (at_builtin;refine mV rfl _ _ 71 rfl wA.heap.size 95 j0 _ 2 24 underlying71 dK dJ bH aQ rfl (by decide) _ _ _ rfl (nI _ _ _) sv n Sv rfl cc.out (by rw[<-bP.out];exact Ob n nm z) ?dS ?dP ?dM ?_)
   case dS=>unfold maxLen;omega
   case dP=>omega
   case dM=>simp
   intro v3 wB aB ak;have bo:Hid (Below wA.heap.size wA wB):=((tl wA.heap.size wA).alloc (tg _) _).grown ak (p7 (zY _ _)) (zS (nI wA 95 2));have aR:Hid (Below wc.heap.size wc wB):=aS.out.trans (bo.out.mono aS.out.size)
   replace aB:wB.ownsRow wA.heap.size 95 2 v3 n Sv:=by first|exact aB|simpa using aB
   obtain⟨bw,dC,rfl⟩:=zO aB;have cf:Hid (dH wc.heap.size wB 95 bw Sv):=ZK aB aS.out.size;have bE:=zA (cv.out.below bo.out);have cj:=zA (a8.out.below (aR.out.alloc aR.out.size (.cells #[] 9)));clear aB ak cv cc bo aS
   go_wp2_with (at_builtin;refine mV rfl _ _ 70 rfl wB.heap.size 9 i0 _ 1 16 underlying70 ai hz0 hz1 b5 rfl (by decide) _ _ _ rfl (nI _ _ _) (.slice (some ⟨gr,0,none⟩) 2 aH) 2 (xG [[99,97],[99,98]]) rfl cj.out (Ua _) ?dR ?dO ?dL ?_)
   case dR=>unfold maxLen;decide
   case dO=>decide
   case dL=>simp
   intro v4 wD aA ah;have aF:Hid (Below wB.heap.size wB wD):=((tl wB.heap.size wB).alloc (tg _) _).grown ah (p7 (zY _ _)) (zS (nI wB 9 1));have bL:Hid (Below wc.heap.size wc wD):=aR.out.trans (aF.out.mono aR.out.size)
   replace aA:wD.ownsRow wB.heap.size 9 1 v4 2 (xG [[99,97],[99,98]]):=by first|exact aA|simpa using aA
   obtain⟨bU,bz,rfl⟩:=zO aA;have dW:Hid (dH wc.heap.size wD 9 bU (xG [[99,97],[99,98]])):=ZK aA aR.out.size;have bk:=zA (bE.out.below aF.out);have bg:=zA (cf.out.below aF.out);have dZ:Hid (Below w.heap.size w wD):=bm.out.trans (bL.out.mono bm.out.size);obtain⟨sa,sc,rfl,bW⟩:=(av.out.below bL.out).parts;have cp:Hid (zG0 w wD wD gs gr n):=⟨jn.refl _ _ _,dZ.out,λh0=>(bW h0).2,aD.out.low,aD.out.row.below bL.out⟩;have bc:Hid (0<n->sa=some ⟨gs,0,none⟩):=λh0=>(bW h0).1;clear aA ah bE cf aF aR cj a8 bB ax av aD bm bW bL;generalize wc.heap.size=S0 at *;go_wp2_with fail
   go_loopw [19] (λiv wr=>∃(i:Nat),i<=n/\iv=.int .i64 (i:Int)/\Hid (zG0 w wD wr gs gr n)) (λiv _=>n-(intOf iv).toNat)
   case atStart=>exact⟨0,p8,rfl,cp⟩
   case round =>
    obtain⟨i,hi,rfl,HS⟩:=hrel;by_cases dA:i<n
    ·have ii:(i:Int)<(n:Int):=by omega
     have h0:0<n:=(by omega);have e:=bc.out h0;subst e;obtain⟨vv,ck,⟨zz,rfl⟩,fz⟩:=(HS.out.Aa h0).2.at dA;have HQ:=zA (HS.out.AV h0 (i*2+1) (-1));clear h0;go_wp2_with fail
     go_roundw
     case rel=>exact⟨i+1,by omega,by go_num,HQ⟩
     case measure=>simp[intOf];omega
    ·have ii:¬(i:Int)<(n:Int):=by omega
     clear cp;go_wp2_with fail
     go_loopw [20] (λiv wr=>∃(i:Nat),i<=2/\iv=.int .i64 (i:Int)/\Hid (zG0 w wD wr gs gr n)) (λiv _=>2-(intOf iv).toNat)
     case atStart=>exact⟨0,p8,rfl,HS⟩
     case round =>
      clear HS;obtain⟨k,hk,rfl,HS⟩:=hrel;by_cases c9:k<2
      ·have kk:(k:Int)<2:=by omega
       obtain⟨vv,ck,⟨ss,rfl⟩,fz⟩:=HS.out.lor.2.at c9;rw[show k*1+0=k by omega]at ck fz;have HQ:=zA (HS.out.AW k);go_wp2_with fail
       go_roundw
       case rel=>exact⟨k+1,by omega,by go_num,HQ⟩
       case measure=>simp[intOf];omega
      ·have kk:¬(k:Int)<2:=by omega
       have cy:=zA HS.out.kp;have bt:=zA HS.out.af;clear HS;go_wp2_with fail
       go_loopw [21] (λiv wr=>∃(i:Nat),i<=on/\iv=.int .i64 (i:Int)/\Hid (jn wD wr gs gr)/\Hid (Below w.heap.size w wr)) (λiv _=>on-(intOf iv).toNat)
       case atStart=>exact⟨0,p8,rfl,cy,bt⟩
       case round =>
        clear cy bt;obtain⟨q,hq,rfl,HK,HB⟩:=hrel;by_cases bY:q<on
        ·have qq:(q:Int)<(on:Int):=by omega
         obtain⟨go,oo,eo,bu⟩:=(dU.out wr HB.out).blk (by omega);subst eo;obtain⟨s,cs,hs⟩:=bu q bY;have au:Hid (∀w',Below wr.heap.size wr w'->w'.cell? ⟨go,oo+q,none⟩=some (.string ⟨s.toArray⟩)):=λw' hb=>(hb.cell (p:=⟨go,oo+q,none⟩) (yJ cs)).trans cs;have aT:=zA hs;have cX:=zA (λw' (hb:Below wr.heap.size wr w')=>cY.out w' (HB.out.trans (hb.mono HB.out.size)));clear bu hs;go_wp2_with fail
         refine(kz s wr aT.out).mono ?_;rintro e x1 ⟨⟨u1,rfl⟩,hx1⟩;have c1:=au.out x1 hx1;have bb:=zA hx1;clear hx1 cs;go_wp2_with fail
         refine(Pj s x1 aT.out).mono ?_;rintro e x2 ⟨⟨u2,rfl⟩,hx2⟩;have bN:Hid (Below wr.heap.size wr x2):=bb.out.trans (hx2.mono bb.out.size);have c2:=au.out x2 bN.out;clear hx2 c1 bb;go_wp2_with fail
         refine(j3 s x2 aT.out).mono ?_;rintro e x3 ⟨⟨u3,rfl⟩,b9⟩;have ar:Hid (Below wr.heap.size wr x3):=bN.out.trans (b9.mono bN.out.size);have c3:=au.out x3 ar.out;clear b9 c2 bN;go_wp2_with fail
         refine(Pk s x3 aT.out (cX.out x3 ar.out)).mono ?_;rintro e x4 ⟨⟨u4,rfl⟩,b8⟩;have bM:Hid (Below wr.heap.size wr x4):=ar.out.trans (b8.mono ar.out.size);have c4:=au.out x4 bM.out;clear b8 c3 ar;go_wp2_with fail
         refine(Ph s _ x4 aT.out).mono ?_;rintro e x5 ⟨⟨u5,rfl⟩,b7⟩;have cV:Hid (Below wr.heap.size wr x5):=bM.out.trans (b7.mono bM.out.size);have dY:=zA (HK.out.below cV.out);have aM:Hid (Below w.heap.size w x5):=HB.out.trans (cV.out.mono HB.out.size);clear b7 c4 bM au cX aT HK HB;go_wp2_with fail
         go_roundw
         case rel=>exact⟨q+1,by omega,by go_num,dY,aM⟩
         case measure=>simp[intOf];omega
        ·have qq:¬(q:Int)<(on:Int):=by omega
         go_wp2_with fail
         refine(c5.out wr).mono ?_;rintro e y1 ⟨di,df,rfl,ae,aX,-,bH⟩;obtain⟨dI,dE,rfl,cJ⟩:=ae.ay;obtain⟨dD,dB,rfl,cA⟩:=aX.ay;have cu:=zA cJ;have cd:=zA cA;have ba:=zA bH;clear ae aX cJ cA bH;have bA:=zA (VT y1);go_wp2_with fail
         refine bA.out.mono ?_;rintro e y2 ⟨dh,rfl,aZ,aQ⟩;obtain⟨b3,bx,rfl,cD⟩:=uT aZ;have cU:Hid (Below wr.heap.size wr y2):=ba.out.trans (aQ.mono ba.out.size);have cw:=zA (HK.out.below cU.out);have bj:=zA (cu.out.below aQ);have bf:=zA (cd.out.below aQ);have dV:=zA cD.ay;have c7:Hid (Below w.heap.size w y2):=HB.out.trans (cU.out.mono HB.out.size);have cn:=zA (QH y2 b4 dI dF dE Ls (by omega) (bk.out.kp aJ aK cw.out) bj.out);clear aZ cD aQ bA cu cd ba;go_wp2_with fail
         refine cn.out.mono ?_;rintro e y3 ⟨rfl,aW⟩;have cx:=zA (cw.out.below aW);have aO:Hid (Below w.heap.size w y3):=c7.out.trans (aW.mono c7.out.size);have a6:=zA (RF y3 bw dD dC dB n (by omega) nm z (by rw[show Ao n nm z=Sv from bP.out];exact bg.out.kp aJ aK cx.out) (by rw[show Ao n nm z=Sv from bP.out];exact bf.out.below aW));have bh:=zA (dV.out.below aW);clear aW cn;go_wp2_with fail
         refine a6.out.mono ?_;rintro e y4 ⟨rfl,bG⟩;have aN:Hid (Below w.heap.size w y4):=aO.out.trans (bG.mono aO.out.size);have a8:Hid (Calls prog 36 #[.slice bU 2 bz,.slice b3 2 bx] y4 λe w'=>e=.returned (.bool true)/\Below y4.heap.size y4 w'):=QH y4 bU b3 bz bx [[99,97],[99,98]] (by decide) (dW.out.kp aJ aK (cx.out.below bG)) (bh.out.below bG);clear bG a6;go_wp2_with fail
         refine a8.out.mono ?_;rintro e y5 ⟨rfl,b6⟩;have aM:Hid (Below w.heap.size w y5):=aN.out.trans (b6.mono aN.out.size);have qk:(kc==kc)=true:=by simp
         clear b6 a8;go_wp2_with fail
         go_ret
         exact⟨rfl,aM.out⟩
theorem MY{M:yO}(h:yR M)(w:World):Calls prog 27 #[.string ⟨(X1 (xY M false)).toArray⟩,.bool true] w λe w'=>LL M w w' e:=by
 refine(MW h false (KD h false) (XB h false) w).mono ?_;rintro e w' ⟨hb,⟨b,rfl,hn⟩|⟨rfl,hy⟩⟩
 ·exact⟨_,0,rfl,.inl ⟨rfl,⟨b,rfl⟩,hn⟩,hb⟩
 ·exact⟨_,8,rfl,.inr ⟨rfl,rfl,hy⟩,hb⟩
theorem Fj(w:World)(la wa ra oa:Option Addr)(ln lc wn wk rn rc on oc:Nat)(hd:Nat->Int)(hL:dG w la ln)(hW:dG w wa wn)(hR:J7 w ra rn hd)(hS:jc w oa on)(hT:eG w) :
 Calls prog 9 #[.agg #[.slice la ln lc,.slice wa wn wk,.slice ra rn rc],.slice oa on oc] w λe w'=>e=.returned (.bool true)/\Below w.heap.size w w' :=
 jb w la wa ra oa ln lc wn wk rn rc on oc hd hL hW hR hS hT (λ_ h w'=>MY h w') (λ_ h=>qz h) λ_ h hy w'=>(NS h false (KD h false) (XB h false) w').mono λe w'' q=>by
  rcases q with ⟨-,hn,-⟩|⟨-,q⟩
  ·exact x' hy hn
  ·exact q
end Go.Proofs.YtnbpdffdnphbeabGreatDoor
