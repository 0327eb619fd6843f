import Derived.Test.YtnbpdffdnphbeabGreatDoorCkMany
open Go.Proofs.Tryz
set_option maxHeartbeats 8000000
set_option maxRecDepth 100000
namespace Go.Proofs.YtnbpdffdnphbeabGreatDoor
open Go.RowKit
variable{w1:World}(w:World)(a:Option Addr)(c:Nat)(ls:List LX)(i:Nat)
theorem xQ{B:Nat}{a w:World}(h:Below B a w)(n:Nat):Below B a (w.drewN n):=⟨h.os,h.tape,h.output,h.size,h.block⟩
theorem Db(hi:i<ls.length)(hc:ls.length<=c)(h:tT w a ls) :
 Calls prog 112 #[.slice a ls.length c,.int .i64 i] w λe w'=>e=.returned (.int .i64 (Zu (fs ls) i))/\Below w.heap.size w w':=by
 have aa:=h.aj;have HI:=zA (ZD w a c ls i hi hc h);have HL:=zA h;have h4:nO (fs ls) i=4\/nO (fs ls) i=0:=by unfold nO;split;exact .inl rfl;exact .inr rfl
 rcases h4 with h4|h4
 ·have HR:Hid (Zu (fs ls) i=4):=by unfold Hid Zu;rw[h4];rfl
  rw[h4]at HI;clear h h4
  go_enter func112,ntmps112
  go_wp2_with fail
  refine HI.out.mono ?_;rintro e w1 ⟨rfl,hb1⟩;have aA:=zA hb1;clear hb1;go_wp2_with fail
  go_ret
  exact⟨yY HR.out.symm,aA.out⟩
 ·have HR:Hid (Zu (fs ls) i=if (pP ls i).1.high<(pP ls i).1.low then 5 else 0):=by unfold Hid Zu;rw[h4,tZ];rfl
  rw[h4]at HI;clear h h4
  go_enter func112,ntmps112
  go_wp2_with fail
  refine HI.out.mono ?_;rintro e w1 ⟨rfl,hb1⟩;have aA:=zA hb1;obtain⟨gl,sa,sn,sc,na,nn,nc,rfl,aS,⟨c0,c1,c2,c3,c4,c5,c6,c7,c8,c9,ax⟩,_,_⟩:=(HL.out.below hb1 (tg _)).line hi;clear hb1 c0 c1 c4 c5 c6 c7 c8 c9 ax HL HI;generalize (pP ls i).1.low=lo at *;generalize (pP ls i).1.high=hh at *;go_wp2_with fail
  go_quiet (fail)
  by_cases hk:hh<lo
  ·have aD:Hid (Zu (fs ls) i=5):=by unfold Hid;rw[HR.out,tr hk]
   go_wp2_with fail
   go_ret
   exact⟨yY aD.out.symm,xQ aA.out _⟩
  ·have aD:Hid (Zu (fs ls) i=0):=by unfold Hid;rw[HR.out,tj hk]
   go_wp2_with fail
   go_ret
   exact⟨yY aD.out.symm,xQ aA.out _⟩
theorem oU{B:Nat}{a w:World}{o:Obj}(h:Below B a w)(hB:B<=w.heap.size)(h1:Below (w.alloc o).heap.size (w.alloc o) w1):Below B a w1:=(h.alloc hB o).trans (h1.mono (tu hB (p7 (zY _ _))))
abbrev yf(x:zE)(sv nv:Value):Array Value := #[.int .i64 x.kind,.string ⟨x.name.toArray⟩,.int .i64 x.low,.int .i64 x.high,.string ⟨x.ae.toArray⟩,sv,nv,.int .i64 x.root,.int .i64 x.tests,.int .i64 x.dep,.string ⟨x.lower.toArray⟩]
theorem Uk(hi:i<ls.length)(hc:ls.length<=c)(hk:(pP ls i).1.kind=3)(h:tT w a ls) :
 Calls prog 114 #[.slice a ls.length c,.int .i64 i] w λe w'=>e=.returned (.int .i64 (dT (fs ls) i))/\Below w.heap.size w w':=by
 have aa:=h.aj;have HR:Hid (dT (fs ls) i=if kX ((fs ls).take i) 3 (pP ls i).1.name || ((pP ls i).1.sum.any (λx => !tG (fs ls) x) || (pP ls i).1.nd.any (λx => !uD (fs ls) x)) then 4 else 0):=by unfold Hid dT;rw[tZ]
 have H1:=zA (Yl h c 3 (pP ls i).1.name i hi);have H2:=zA (λnm=>UO h c nm);have H3:=zA (λx=>Jz h c x);obtain⟨gl,sa,sn,sc,na,nn,nc,rfl,aS,⟨c0,c1,c2,c3,c4,c5,c6,c7,c8,c9,ax⟩,eq,hC⟩:=h.line hi;obtain⟨rfl,hS,rfl,hN⟩:=hC.rule hk eq;have HS:=zA hS;have HN:=zA hN;have hs1:=hS.aj;have ay:=hN.aj;unfold maxLen at hs1 ay;clear h eq hC hS hN hk;generalize (pP ls i).1=x at *;obtain⟨kd,n1,lo,hi',cc,S,N,ro,te,de,lw⟩:=x;simp only at c0 c1 c2 c3 c4 c5 c6 c7 c8 c9 ax HR H1 HS HN hs1 ay;generalize kX ((fs ls).take i) 3 n1=p at *
 go_enter func114,ntmps114
 go_wp2_with fail
 go_cut [19] from 14 to 19 (λv wx=>v=.bool p/\Hid (Below w.heap.size w wx)/\Hid (w.heap.size<wx.heap.size)/\∀j,wx.cell? ⟨w.heap.size,j,none⟩=(yf ⟨kd,n1,lo,hi',cc,S,N,ro,te,de,lw⟩ (.slice sa S.length sc) (.slice na N.length nc))[j]?)
 case first =>
  go_region_with (go_at_call 153
                  refine(H1.out _ (md (Below.alloc (tl _ _) (tg _) _))).mono ?_;rintro e w1 ⟨rfl,hb1⟩;have b1:=UY (aQ (zF _ _)) hb1 (Zz (zY _ _));have aA:Hid (Below w.heap.size w w1):=(md (Below.alloc (tl _ _) (tg _) _)).trans (hb1.mono (p7 (Zz (zY _ _))));have q:=zC b1;have HZ:Hid (w.heap.size<w1.heap.size):=tq (Zz (zY _ _)) hb1.size;clear hb1 b1)
  all_goals
   go_wp2_with fail
   go_meet
   exact⟨rfl,aA,HZ,q⟩
 case rest =>
  obtain⟨rfl,aA,HZ,q⟩:=hcut;clear c0 c1 c2 c3 c4 c5 c6 c7 c8 c9 ax H1;cases p
  ·have aD:Hid (dT (fs ls) i=if S.any (λx => !tG (fs ls) x) || N.any (λx => !uD (fs ls) x) then 4 else 0):=HR.out
   clear HR;go_wp2_with fail
   go_loopw [23] (λiv wr=>∃(k:Nat),k<=S.length/\iv=.int .i64 k/\Hid (Below wc.heap.size wc wr)/\Hid ((S.drop k).any (λx => !tG (fs ls) x)=S.any (λx => !tG (fs ls) x))) (λiv _=>S.length-(intOf iv).toNat)
   case atStart=>exact⟨0,p8,rfl,zA (tl _ _),zA rfl⟩
   case round =>
    obtain⟨k,hk,rfl,aZ,HE⟩:=hrel;have aI:Hid (Below w.heap.size w wr):=aA.out.trans (aZ.out.mono aA.out.size);have bf:=aZ.out.size;have aw:=aI.out.size;by_cases aO:k<S.length
    ·obtain⟨g,yB,rfl,hp⟩:=(HS.out.below aI.out (tg _)).blk (by omega)
     obtain⟨d0,d1,d2,d3⟩:=hp.cells aO;have hg:=hp.lt;have hE:=HE.out;rw[sV _ xz _ k aO,show S.getD k xz=aY S k from rfl]at hE;have aC:=zA hE;clear HE hE hp q;generalize aY S k=y at *;obtain⟨mi,st,nu,nm⟩:=y;simp only at d0 d1 d2 d3;by_cases ko:nm=[]
     ·have aF:Hid ((S.drop (k+1)).any (λx => !tG (fs ls) x)=S.any (λx => !tG (fs ls) x)):=by have:=aC.out;unfold Hid;rw[<-this];simp[tG,ko]
      have bo:(nm==[])=true:=(by simpa using ko);clear aC ko;go_wp2_with fail
      go_roundw
      case rel=>exact⟨k+1,by omega,by go_num,zA (aZ.out.alloc bf _),aF⟩
      case measure=>simp[intOf];omega
     ·have HA:=zA (H2.out nm)
      have bo:(nm==[])=false:=(by simpa using ko);have aN:Hid ((!VZ (fs ls) nm || (S.drop (k+1)).any (λx => !tG (fs ls) x))=S.any (λx => !tG (fs ls) x)):=(by have:=aC.out;unfold Hid;rw[<-this];simp[tG,ko]);clear aC ko;generalize VZ (fs ls) nm=z at *;cases z
      ·have aK:Hid (dT (fs ls) i=4):=by unfold Hid;rw[aD.out,<-aN.out];rfl
       clear aN;go_wp2_with fail
       refine(HA.out _ (aI.out.alloc aw _)).mono ?_;rintro e w1 ⟨rfl,hb1⟩;have aU:Hid (Below w.heap.size w w1):=oU aI.out aw hb1;clear hb1;go_wp2_with fail
       go_ret
       exact⟨yY aK.out.symm,aU.out⟩
      ·have aF:Hid ((S.drop (k+1)).any (λx => !tG (fs ls) x)=S.any (λx => !tG (fs ls) x)):=by have:=aN.out;unfold Hid;rw[<-this];rfl
       clear aN;go_wp2_with fail
       refine(HA.out _ (aI.out.alloc aw _)).mono ?_;rintro e w1 ⟨rfl,hb1⟩;have aU:Hid (Below wc.heap.size wc w1):=oU aZ.out bf hb1;clear hb1;go_wp2_with fail
       go_roundw
       case rel=>exact⟨k+1,by omega,by go_num,aU,aF⟩
       case measure=>simp[intOf];omega
    ·have aK:Hid (dT (fs ls) i=if N.any (λx => !uD (fs ls) x) then 4 else 0):=by
      have:=HE.out;rw[pf (by omega)]at this;unfold Hid;rw[aD.out,<-this];rfl
     have qr:∀j,wr.cell? ⟨w.heap.size,j,none⟩=(yf ⟨kd,n1,lo,hi',cc,S,N,ro,te,de,lw⟩ (.slice sa S.length sc) (.slice na N.length nc))[j]? := λj=>(aZ.out.cell (p:=⟨w.heap.size,j,none⟩) HZ.out).trans (q j);clear HE aD q HS H2;obtain⟨wq,rfl⟩:∃wq,wq=wr:=⟨_,rfl⟩;go_wp2_with fail
     go_loopw [42] (λiv wr=>∃(k:Nat),k<=N.length/\iv=.int .i64 k/\Hid (Below wq.heap.size wq wr)/\Hid ((N.drop k).any (λx => !uD (fs ls) x)=N.any (λx => !uD (fs ls) x))) (λiv _=>N.length-(intOf iv).toNat)
     case atStart=>exact⟨0,p8,rfl,zA (tl _ _),zA rfl⟩
     case round =>
      obtain⟨m,hm,rfl,bX,HF⟩:=hrel;have aL:Hid (Below w.heap.size w wr):=aI.out.trans (bX.out.mono aw);have bF:=bX.out.size;have aR:=aL.out.size;by_cases bb:m<N.length
      ·obtain⟨g,yB,rfl,hp⟩:=(HN.out.below aL.out (tg _)).blk (by omega)
       obtain⟨d0,d1,d2,d3,d4,d5,d6⟩:=hp.cells bb;have hg:=hp.lt;have hE:=HF.out;rw[sV _ nz _ m bb,show N.getD m nz=vY N m from rfl]at hE;have aC:=zA hE;have HA:=zA (H3.out (vY N m));clear HF hE hp qr;generalize uD (fs ls) (vY N m)=z at *;unfold kI at HA;generalize vY N m=y at *;obtain⟨av,le,ri,nm,mk,ot,nu⟩:=y;simp only at d0 d1 d2 d3 d4 d5 d6 HA;cases z
       ·have bJ:Hid (dT (fs ls) i=4):=by unfold Hid;rw[aK.out,<-aC.out];rfl
        clear aC;go_wp2_with fail
        refine(HA.out _ (aL.out.alloc aR _)).mono ?_;rintro e w1 ⟨rfl,hb1⟩;have aU:Hid (Below w.heap.size w w1):=oU aL.out aR hb1;clear hb1;go_wp2_with fail
        go_ret
        exact⟨yY bJ.out.symm,aU.out⟩
       ·have aF:Hid ((N.drop (m+1)).any (λx => !uD (fs ls) x)=N.any (λx => !uD (fs ls) x)):=by have:=aC.out;unfold Hid;rw[<-this];rfl
        clear aC;go_wp2_with fail
        refine(HA.out _ (aL.out.alloc aR _)).mono ?_;rintro e w1 ⟨rfl,hb1⟩;have aU:Hid (Below wq.heap.size wq w1):=oU bX.out bF hb1;clear hb1;go_wp2_with fail
        go_roundw
        case rel=>exact⟨m+1,by omega,by go_num,aU,aF⟩
        case measure=>simp[intOf];omega
      ·have bJ:Hid (dT (fs ls) i=0):=by
        have:=HF.out;rw[pf (by omega)]at this;unfold Hid;rw[aK.out,<-this];rfl
       clear HF;go_wp2_with fail
       go_ret
       exact⟨yY bJ.out.symm,aL.out⟩
  ·have aD:Hid (dT (fs ls) i=4):=HR.out
   clear HR;go_wp2_with fail
   go_ret
   exact⟨yY aD.out.symm,aA.out⟩
theorem Ji(h:tT w a ls) :
 Calls prog 75 #[.slice a ls.length c] w λe w'=>e=.returned (.agg (gC (kW (zX (fs ls)) (fs ls) gZ)))/\Below w.heap.size w w':=by
 have HL:=zA h;have aa:=h.aj;have bw:=zA (λo=>nA (w.alloc o) a c ls (h.below (fk (tg _) o) (tg _)));clear h
 go_enter func75,ntmps75
 go_wp2_with fail
 refine(bw.out _).mono ?_;rintro e w1 ⟨v,rfl,bg,cC,hb1⟩;have hz:w1.heap[w.heap.size]? = some (.cells (gC gZ) 125 (0,0)):=by rw[hb1.block _ (zY _ _)];exact zF _ _
 have hs:w.heap.size<w1.heap.size:=tq (zY _ _) hb1.size;have HK:=zA (λo cs=>BO.mk' (o:=o) (cs:=cs) hz (uI hb1) hs bg (by omega));obtain⟨la,lc,rfl,_⟩:=HK.out (.cells #[] 0 (0,0)) #[];generalize bh:zX (fs ls)=aB at *;have cB:=zA bh;clear bh
 have bx:Hid (∀o cs,BO w ((w1.alloc o).setRow w1.heap.size cs) w1.heap.size la aB):=λo cs=>by
  obtain⟨a',c',e,p⟩:=HK.out o cs;simp only[ct]at e;rw[e.1];exact p
 clear hz bg hb1 HK bw
 go_upto_region 2 with fail
 go_cut [4] from 16 to 16 (λp4 wx=>p4=.pointer (some ⟨w1.heap.size,0,none⟩)/\Hid (BO w wx w1.heap.size la aB)/\Hid (rL wx w1.heap.size gZ))
 case first =>
  go_wp2_with (refine wpList_store_row ?aM 125 (.tmp 4) (.tmp 16) ?ho w1.heap.size (gC gZ) ?hx ?hy 125 (gC gZ) (zF w1 _) (qF yX) rfl (jW gZ) ?_
               case ho=>rfl
               case aM=>rfl
               case hx=>rfl
               case hy=>rfl)
  go_meet
  exact⟨rfl,zA (bx.out _ _),zA ⟨l9 _ _ (gC gZ) _ (zF w1 _),yX⟩⟩
 case rest =>
  obtain⟨rfl,HM,b2⟩:=hcut;generalize w1.heap.size=g at *;clear bx;go_wp2_with fail
  go_loopw [19] (λiv wr=>∃(i:Nat) (G:List Bool),i<=ls.length/\iv=.int .i64 i/\Hid (qY g wc wr)/\Hid (rL wr g G)/\Hid (kW aB ((fs ls).drop i) G=kW aB (fs ls) gZ)) (λiv _=>ls.length-(intOf iv).toNat)
  case atStart=>exact⟨0,gZ,p8,rfl,zA (qY.refl _ _),b2,zA rfl⟩
  case round =>
   obtain⟨i,G,hi,rfl,HO,HG,HE⟩:=hrel;clear b2;have aI:Hid (Below w.heap.size w wr):=HM.out.af.trans (HO.out.below HM.out.af.size (p7 HM.out.g1));by_cases aO:i<ls.length
   ·obtain⟨gl,sa,sn,sc,na,nn,nc,rfl,aS,⟨c0,c1,c2,c3,c4,c5,c6,c7,c8,c9,ax⟩,eq,hC⟩:=(HL.out.below aI.out (tg _)).line aO
    have hE:=HE.out;rw[vj _ _ i _ (by simpa using aO),tZ]at hE;have aC:=zA hE;have HF:=zA (λo nm=>QB (wr.alloc o) la lc aB nm (HM.out.str _ (HO.out.alloc o)));have az:=zA (λhk=>(HL.out.rows _ (Z8 aO)).rule hk eq);clear HE hE hC eq;generalize (pP ls i).1=x at *;obtain⟨kd,n1,lo,hi',cc,S,N,ro,te,de,lw⟩:=x;simp only at c0 c1 c2 c3 c4 c5 c6 c7 c8 c9 ax az;by_cases k1:kd=3
    ·have b1:(kd != 3)=false:=by simpa using k1
     obtain⟨rfl,hS,rfl,hN⟩:=az.out k1;have aF:Hid (kW aB ((fs ls).drop (i+1)) (mN aB (zQ aB cc) N (bV aB (zQ aB cc) S G))=kW aB (fs ls) gZ):=by have:=aC.out;rw[tr k1]at this;exact this
     have HS:=zA hS;have HN:=zA hN;have hs1:=hS.aj;have ay:=hN.aj;unfold maxLen at hs1 ay;have cF:g<wr.heap.size:=tq HM.out.lt HO.out.size;clear aC k1 az hS hN;go_wp2_with fail
     refine(HF.out _ cc).mono ?_;rintro e w2 ⟨rfl,hw⟩;have q:∀j,w2.cell? ⟨wr.heap.size,j,none⟩=(yf ⟨kd,n1,lo,hi',cc,S,N,ro,te,de,lw⟩ (.slice sa S.length sc) (.slice na N.length nc))[j]? := by rw[hw];exact zC (zF _ _)
     have aP:Hid (qY g wc w2):=(by rw[hw];exact HO.out.alloc _);have bz:Hid (rL w2 g G):=(by rw[hw];exact HG.out.new _);have aL:Hid (Below wr.heap.size wr w2):=(by rw[hw];exact fk (tg _) _);have HZ:Hid (wr.heap.size<w2.heap.size):=(by rw[hw];exact zY _ _);clear hw HF c0 c1 c2 c3 c4 c5 c6 c7 c8 c9 ax HG;generalize zQ aB cc=fr at *;obtain⟨wL,b3⟩:∃wL,wL=wr:=⟨_,rfl⟩;subst b3;go_wp2_with fail
     go_loopw [33] (λiv wr=>∃(k:Nat) (H:List Bool),k<=S.length/\iv=.int .i64 k/\Hid (qY g w2 wr)/\Hid (rL wr g H)/\Hid (bV aB fr (S.drop k) H=bV aB fr S G)) (λiv _=>S.length-(intOf iv).toNat)
     case atStart=>exact⟨0,G,p8,rfl,zA (qY.refl _ _),bz,zA rfl⟩
     case round =>
      obtain⟨k,H,hk,rfl,bL,bR,bA⟩:=hrel;clear bz;have bN:Hid (qY g wc wr):=aP.out.trans bL.out;by_cases ao:k<S.length
      ·have bZ:Hid (Below w.heap.size w wr):=HM.out.af.trans (bN.out.below HM.out.af.size (p7 HM.out.g1))
       obtain⟨gs,yB,rfl,hp⟩:=(HS.out.below bZ.out (tg _)).blk (by omega);obtain⟨d0,d1,d2,d3⟩:=hp.cells ao;have b4:=hp.lt;have hE:=bA.out;rw[CP _ _ _ k _ ao]at hE;have bW:=zA hE;have bU:=zA (λo nm=>QB (wr.alloc o) la lc aB nm (HM.out.str _ (bN.out.alloc o)));have HA:=zA (λo x y=>Ei (wr.alloc o) g H x y (bR.out.new o));clear bA hE hp;generalize aY S k=y at *;obtain⟨mi,st,nu,nm⟩:=y;simp only at d0 d1 d2 d3;go_wp2_with fail
       refine(bU.out _ nm).mono ?_;rintro e w3 ⟨rfl,hw⟩;obtain rfl:=hw.symm;go_wp2_with fail
       refine(HA.out _ _ _).mono ?_;rintro e w3 ⟨rfl,ar,ai⟩;have bO:Hid (qY g w2 w3):=(bL.out.alloc _).trans ai;have bT:=zA ar;clear ar ai;go_wp2_with fail
       go_roundw
       case rel=>exact⟨k+1,_,by omega,by go_num,bO,bT,bW⟩
       case measure=>simp[intOf];omega
      ·have bW:Hid (H=bV aB fr S G):=by have:=bA.out;rw[pf (by omega)]at this;exact this
       have q2:∀j,wr.cell? ⟨wL.heap.size,j,none⟩=(yf ⟨kd,n1,lo,hi',cc,S,N,ro,te,de,lw⟩ (.slice sa S.length sc) (.slice na N.length nc))[j]? := λj=>by
        have e9:wr.heap[wL.heap.size]? = w2.heap[wL.heap.size]? := bL.out.block _ HZ.out (by omega);have:=q j;simp only[World.cell?,e9]at this ⊢;exact this
       clear bA q;obtain⟨wq,bE⟩:∃wq,wq=wr:=⟨_,rfl⟩;subst bE;go_wp2_with fail
       go_loopw [49] (λiv wr=>∃(k:Nat) (H':List Bool),k<=N.length/\iv=.int .i64 k/\Hid (qY g wq wr)/\Hid (rL wr g H')/\Hid (mN aB fr (N.drop k) H'=mN aB fr N H)) (λiv _=>N.length-(intOf iv).toNat)
       case atStart=>exact⟨0,H,p8,rfl,zA (qY.refl _ _),bR,zA rfl⟩
       case round =>
        obtain⟨m,H2,hm,rfl,bK,bQ,a8⟩:=hrel;clear bR;have bM:Hid (qY g wc wr):=bN.out.trans bK.out;by_cases ak:m<N.length
        ·have bZ:Hid (Below w.heap.size w wr):=HM.out.af.trans (bM.out.below HM.out.af.size (p7 HM.out.g1))
         obtain⟨gs,yB,rfl,hp⟩:=(HN.out.below bZ.out (tg _)).blk (by omega);obtain⟨d0,d1,d2,d3,d4,d5,d6⟩:=hp.cells ak;have b4:=hp.lt;have hE:=a8.out;rw[Dd _ _ _ m _ ak]at hE;have bC:=zA hE;have bU:=zA (λo nm=>QB (wr.alloc o) la lc aB nm (HM.out.str _ (bM.out.alloc o)));have HA:=zA (λo x y=>Ei (wr.alloc o) g H2 x y (bQ.out.new o));clear a8 hE hp q2;generalize vY N m=y at *;obtain⟨av,le,ri,nm,mk,ot,nu⟩:=y;simp only at d0 d1 d2 d3 d4 d5 d6;by_cases k5:av=5
         ·have b5:(av==5)=true:=by simpa using k5
          have au:Hid (mN aB fr (N.drop (m+1)) (oV H2 fr (zQ aB nm))=mN aB fr N H):=(by have:=bC.out;rw[tr k5]at this;exact this);clear bC k5;go_wp2_with fail
          refine(bU.out _ nm).mono ?_;rintro e w3 ⟨rfl,hw⟩;obtain rfl:=hw.symm;go_wp2_with fail
          refine(HA.out _ _ _).mono ?_;rintro e w3 ⟨rfl,ar,ai⟩;have bO:Hid (qY g wq w3):=(bK.out.alloc _).trans ai;have bT:=zA ar;clear ar ai;go_wp2_with fail
          go_roundw
          case rel=>exact⟨m+1,_,by omega,by go_num,bO,bT,au⟩
          case measure=>simp[intOf];omega
         ·have b5:(av==5)=false:=by simpa using k5
          have au:Hid (mN aB fr (N.drop (m+1)) H2=mN aB fr N H):=(by have:=bC.out;rw[tj k5]at this;exact this);clear bC k5;go_wp2_with fail
          go_roundw
          case rel=>exact⟨m+1,H2,by omega,by go_num,zA (bK.out.alloc _),zA (bQ.out.new _),au⟩
          case measure=>simp[intOf];omega
        ·have au:Hid (kW aB ((fs ls).drop (i+1)) H2=kW aB (fs ls) gZ):=by
          have:=a8.out;rw[pf (by omega)]at this;unfold Hid;rw[<-aF.out,<-bW.out,<-this];rfl
         clear a8;go_wp2_with fail
         go_roundw
         case rel=>exact⟨i+1,H2,by omega,by go_num,bM,bQ,au⟩
         case measure=>simp[intOf];omega
    ·have b1:(kd != 3)=true:=by simpa using k1
     have aF:Hid (kW aB ((fs ls).drop (i+1)) G=kW aB (fs ls) gZ):=(by have:=aC.out;rw[tj k1]at this;exact this);clear aC k1 az;go_wp2_with fail
     go_roundw
     case rel=>exact⟨i+1,G,by omega,by go_num,zA (HO.out.alloc _),zA (HG.out.new _),aF⟩
     case measure=>simp[intOf];omega
   ·have aF:Hid (G=kW aB (fs ls) gZ):=by have:=HE.out;rw[pf (by simp;omega)]at this;exact this
    have br:Hid (wr.heap[w.heap.size]? = some (.cells (gC gZ) 125 (0,0))):=by
     unfold Hid;rw[HO.out.block _ (Nat.lt_trans HM.out.g1 HM.out.lt) (Nat.ne_of_lt HM.out.g1)];exact HM.out.res
    clear HE
    go_wp2_with (first
     | (refine wpList_load_row ?aM 125 (.tmp 4) ?ho g ?hx 125 (gC G) (0,0) _ HG.out.1 underlying125 rfl (qF HG.out.2) ?_
        case ho=>rfl
        case aM=>rfl
        case hx=>rfl)
     | (refine wpList_store_row ?aM 125 (.tmp 2) (.tmp 65) ?ho w.heap.size (gC G) ?hx ?hy 125 (gC gZ) br.out (qF HG.out.2) ?ah (jW G) ?_
        case ho=>rfl
        case aM=>rfl
        case hx=>rfl
        case hy=>rfl
        case ah=>rw[xK,xK,yX,HG.out.2]))
    refine pe (v:=.agg (gC G)) (results_cell_row results75 _ _ w.heap.size 125 (gC G) (0,0) _ rfl (l9 _ _ (gC gZ) _ br.out) underlying125 rfl (qF HG.out.2)) rfl ⟨by rw[cB.out,<-aF.out],yK aI.out (tg _) _⟩
theorem ZH(ls:List zE)(nm:Bs):uU ls nm<=ls.length:=by have:=(Bk (Xs 3 nm) ls 0).2;unfold uU;omega
theorem Ut(x:zE)(sa na:Option Addr)(sn sc nn nc:Nat)(h:tT w a ls) :
 Calls prog 115 #[.slice a ls.length c,uG (.slice sa sn sc) (.slice na nn nc) x] w λe w'=>e=.returned (.int .i64 (dX (fs ls) x))/\Below w.heap.size w w':=by
 have aa:=h.aj;have HL:=zA h;have HU:=zA (QD h c x.name);have HW:=zA (QD h c x.lower);have hu:=ZH (fs ls) x.name;have hl:=ZH (fs ls) x.lower;rw[Yr]at hu hl
 have HR:Hid (dX (fs ls) x=if uU (fs ls) x.name=ls.length\/uU (fs ls) x.lower=ls.length then 4 else if x.name=x.lower\/(pP ls (uU (fs ls) x.name)).1.ae≠(pP ls (uU (fs ls) x.lower)).1.ae then 6 else 0):=by
  unfold Hid dX;rw[tZ,tZ,Yr]
 clear h;obtain⟨kd,n1,lo,hi',cc,S,N,ro,te,de,lw⟩:=x;simp only at HU HW hu hl HR;unfold uG;generalize uU (fs ls) n1=fu at *;generalize uU (fs ls) lw=fl at *;by_cases ku:fu=ls.length
 ·have aD:Hid (dX (fs ls) ⟨kd,n1,lo,hi',cc,S,N,ro,te,de,lw⟩=4):=by unfold Hid;rw[HR.out,tr (.inl ku)]
  clear HR
  go_enter func115,ntmps115
  go_wp2_with fail
  refine(HU.out _ (fk (tg _) _)).mono ?_;rintro e w1 ⟨rfl,hb1⟩;have aA:Hid (Below w.heap.size w w1):=uI hb1;have q1:=cU hb1;clear hb1;go_wp2_with fail
  refine(HW.out _ aA.out).mono ?_;rintro e w2 ⟨rfl,aH⟩;have aG:Hid (Below w.heap.size w w2):=aA.out.trans (aH.mono aA.out.size);clear aH;go_wp2_with fail
  go_ret
  exact⟨yY aD.out.symm,aG.out⟩
 by_cases kl:fl=ls.length
 ·have aD:Hid (dX (fs ls) ⟨kd,n1,lo,hi',cc,S,N,ro,te,de,lw⟩=4):=by unfold Hid;rw[HR.out,tr (.inr kl)]
  have bu:((fu:Int)==(ls.length:Int))=false:=by simp;omega
  clear HR ku
  go_enter func115,ntmps115
  go_wp2_with fail
  refine(HU.out _ (fk (tg _) _)).mono ?_;rintro e w1 ⟨rfl,hb1⟩;have aA:Hid (Below w.heap.size w w1):=uI hb1;have q1:=cU hb1;clear hb1;go_wp2_with fail
  refine(HW.out _ aA.out).mono ?_;rintro e w2 ⟨rfl,aH⟩;have aG:Hid (Below w.heap.size w w2):=aA.out.trans (aH.mono aA.out.size);clear aH;go_wp2_with fail
  go_ret
  exact⟨yY aD.out.symm,aG.out⟩
 have b7:fu<ls.length:=by omega
 have hfl:fl<ls.length:=by omega
 have aD:Hid (dX (fs ls) ⟨kd,n1,lo,hi',cc,S,N,ro,te,de,lw⟩=if n1=lw\/(pP ls fu).1.ae≠(pP ls fl).1.ae then 6 else 0):=by unfold Hid;rw[HR.out,tj (by rintro(e|e);exact ku e;exact kl e)]
 have bu:((fu:Int)==(ls.length:Int))=false:=by simp;omega
 have bl:((fl:Int)==(ls.length:Int))=false:=by simp;omega
 clear HR ku kl hu hl
 go_enter func115,ntmps115
 go_wp2_with fail
 refine(HU.out _ (fk (tg _) _)).mono ?_;rintro e w1 ⟨rfl,hb1⟩;have aA:Hid (Below w.heap.size w w1):=uI hb1;have q1:=cU hb1;have HZ:Hid (w.heap.size<w1.heap.size):=tq (zY _ _) hb1.size;clear hb1;go_wp2_with fail
 refine(HW.out _ aA.out).mono ?_;rintro e w2 ⟨rfl,aH⟩;have aG:Hid (Below w.heap.size w w2):=aA.out.trans (aH.mono aA.out.size);have q2:∀j,w2.cell? ⟨w.heap.size,j,none⟩=(yf ⟨kd,n1,lo,hi',cc,S,N,ro,te,de,lw⟩ (.slice sa sn sc) (.slice na nn nc))[j]? := λj=>(aH.cell (p:=⟨w.heap.size,j,none⟩) HZ.out).trans (q1 j);clear aH q1;obtain⟨gl,_,_,_,_,_,_,rfl,aS,⟨_,_,_,_,c4,_,_,_,_,_,_⟩,_,_⟩:=(HL.out.below aG.out (tg _)).line b7;obtain⟨b8,_,_,_,_,_,_,bj,_,⟨_,_,_,_,d4,_,_,_,_,_,_⟩,_,_⟩:=(HL.out.below aG.out (tg _)).line hfl;obtain rfl:gl=b8:=by simpa using bj
 clear bj HL;generalize (pP ls fu).1.ae=cu at *;generalize (pP ls fl).1.ae=cl at *;have e1:=q2 1;have b9:=q2 10;simp only[yf,cb,dt,dn]at e1 b9;have cD:(fu:Int)<(ls.length:Int):=by omega
 have cE:(fl:Int)<(ls.length:Int):=by omega
 go_wp2_with fail
 by_cases kn:n1=lw
 ·have aK:Hid (dX (fs ls) ⟨kd,n1,lo,hi',cc,S,N,ro,te,de,lw⟩=6):=by unfold Hid;rw[aD.out,tr (.inl kn)]
  have bn:(n1==lw)=true:=by simpa using kn
  clear aD kn
  go_quiet (fail)
  go_wp2_with fail
  go_ret
  exact⟨yY aK.out.symm,xQ aG.out _⟩
 ·have bn:(n1==lw)=false:=by simpa using kn
  by_cases kc:cu=cl
  ·have aK:Hid (dX (fs ls) ⟨kd,n1,lo,hi',cc,S,N,ro,te,de,lw⟩=0):=by unfold Hid;rw[aD.out,tj (by rintro(e|e);exact kn e;exact e kc)]
   have bc:(cu==cl)=true:=(by simpa using kc);clear aD kn kc
   go_quiet (fail)
   go_wp2_with fail
   go_ret
   exact⟨yY aK.out.symm,xQ aG.out _⟩
  ·have aK:Hid (dX (fs ls) ⟨kd,n1,lo,hi',cc,S,N,ro,te,de,lw⟩=6):=by unfold Hid;rw[aD.out,tr (.inr kc)]
   have bc:(cu==cl)=false:=(by simpa using kc);clear aD kn kc
   go_quiet (fail)
   go_wp2_with fail
   go_ret
   exact⟨yY aK.out.symm,xQ aG.out _⟩
theorem UI(hi:i<ls.length)(hc:ls.length<=c)(h:tT w a ls) :
 Calls prog 74 #[.slice a ls.length c,.int .i64 i] w λe w'=>e=.returned (.int .i64 (bY (fs ls) i))/\Below w.heap.size w w':=by
 have aa:=h.aj;have HN:=zA (Db w a c ls i hi hc h);have HI:=zA (ZD w a c ls i hi hc h);have HR:=zA (λhk=>Uk w a c ls i hi hc hk h);have HO:=zA (λsa na sn sc nn nc=>Ut w a c ls (pP ls i).1 sa na sn sc nn nc h);have aJ:=(h.rows _ (Z8 hi)).g.kinds;have HE:Hid (bY (fs ls) i=if (pP ls i).1.kind=1 then Zu (fs ls) i else if (pP ls i).1.kind=2 then nO (fs ls) i else if (pP ls i).1.kind=3 then dT (fs ls) i else if (pP ls i).1.kind=4 then dX (fs ls) (pP ls i).1 else 0):=by unfold Hid bY;rw[tZ]
 obtain⟨gl,sa,sn,sc,na,nn,nc,rfl,aS,⟨c0,c1,c2,c3,c4,c5,c6,c7,c8,c9,ax⟩,eq,hC⟩:=h.line hi;have aP:=zA (HO.out sa na sn sc nn nc);unfold uG at aP;clear h eq hC HO;generalize (pP ls i).1=x at *;obtain⟨kd,n1,lo,hi',cc,S,N,ro,te,de,lw⟩:=x;simp only at c0 c1 c2 c3 c4 c5 c6 c7 c8 c9 ax HR aP HE aJ;rcases aJ with rfl|rfl|rfl|rfl
 ·have aC:Hid (bY (fs ls) i=Zu (fs ls) i):=HE.out
  clear HE HI HR aP c1 c2 c3 c4 c5 c6 c7 c8 c9 ax
  go_enter func74,ntmps74
  go_wp2_with fail
  refine HN.out.mono ?_;rintro e w1 ⟨rfl,hb1⟩;have aA:=zA hb1;clear hb1;go_wp2_with fail
  go_ret
  exact⟨yY aC.out.symm,aA.out⟩
 ·have aC:Hid (bY (fs ls) i=nO (fs ls) i):=HE.out
  clear HE HN HR aP c1 c2 c3 c4 c5 c6 c7 c8 c9 ax
  go_enter func74,ntmps74
  go_wp2_with fail
  refine HI.out.mono ?_;rintro e w1 ⟨rfl,hb1⟩;have aA:=zA hb1;clear hb1;go_wp2_with fail
  go_ret
  exact⟨yY aC.out.symm,aA.out⟩
 ·have aC:Hid (bY (fs ls) i=dT (fs ls) i):=HE.out
  clear HE HN HI aP c1 c2 c3 c4 c5 c6 c7 c8 c9 ax
  go_enter func74,ntmps74
  go_wp2_with fail
  refine(HR.out trivial).mono ?_;rintro e w1 ⟨rfl,hb1⟩;have aA:=zA hb1;clear hb1;go_wp2_with fail
  go_ret
  exact⟨yY aC.out.symm,aA.out⟩
 ·have aC:Hid (bY (fs ls) i=dX (fs ls) ⟨4,n1,lo,hi',cc,S,N,ro,te,de,lw⟩):=HE.out
  clear HE HN HI HR
  go_enter func74,ntmps74
  go_wp2_with fail
  refine aP.out.mono ?_;rintro e w1 ⟨rfl,hb1⟩;have aA:=zA hb1;clear hb1;go_wp2_with fail
  go_ret
  exact⟨yY aC.out.symm,aA.out⟩
def nK(ls:List zE):Nat->Nat->Option Nat
 | 0,_=>none
 | n+1,i=>if mA ls i=true then some i else nK ls n (i+1)
def eC(ls:List zE):Nat->Nat->Option Nat
 | 0,_=>none
 | n+1,i=>if bY ls i=0 then eC ls n (i+1) else some i
def XP(ls:List zE):Int × Int:=if jA (kW (zX ls) ls gZ)=true then (7,0) else if jA (qN (vQ ls) ls gZ)=true then (7,1) else (0,0)
def QJ(ls:List zE):Int × Int:=match eC ls ls.length 0 with|some i=>(bY ls i,(i:Int))|none=>XP ls
def uE(ls:List zE):Int × Int:=match nK ls ls.length 0 with|some i=>(3,(i:Int))|none=>QJ ls
theorem nJ(aB:List Bs)(ls:List zE):∀G,(kW aB ls G).length=G.length:=by
 have hp:∀f (S:List yT) G,(bV aB f S G).length=G.length:=by
  intro f S;induction S with
  | nil=>intro G;rfl
  | cons x r ih=>intro G;rw[bV,ih,lL]
 have hn:∀f (N:List zJ) G,(mN aB f N G).length=G.length:=by
  intro f N;induction N with
  | nil=>intro G;rfl
  | cons x r ih=>intro G;rw[mN,ih];split
                 ·rw[lL]
                 ·rfl
 induction ls with
 | nil=>intro G;rfl
 | cons x r ih=>intro G;rw[kW,ih];split
                ·rw[hn,hp]
                ·rfl
theorem mY(ag:List Bs)(ls:List zE):∀G,(qN ag ls G).length=G.length:=by
 induction ls with
 | nil=>intro G;rfl
 | cons x r ih=>intro G;rw[qN,ih];split
                ·rw[lL]
                ·rfl
abbrev mT:Obj:=.cells #[.int .i64 0,.int .i64 0] 146 (0,0)
def cO(x:Int × Int):Value:=.agg #[.int .i64 x.1,.int .i64 x.2]
theorem sR{w:World}(hb:Below (w.alloc mT).heap.size (w.alloc mT) w1)(k:Nat):w1.frozen? ⟨w.heap.size,k,none⟩=false:=by
 have h1:w1.heap[w.heap.size]? = some mT:=by rw[hb.block _ (zY _ _)];exact zF _ _
 simp[World.frozen?,h1]
theorem bS{w:World}(hb:Below (w.alloc mT).heap.size (w.alloc mT) w1)(x y:Value) :
 ((w1.setCell ⟨w.heap.size,0,none⟩ x).setCell ⟨w.heap.size,1,none⟩ y).heap[w.heap.size]? = some (.cells #[x,y] 146 (0,0))/\Below w.heap.size w ((w1.setCell ⟨w.heap.size,0,none⟩ x).setCell ⟨w.heap.size,1,none⟩ y):=by
 have h1:w1.heap[w.heap.size]? = some mT:=by rw[hb.block _ (zY _ _)];exact zF _ _
 have h2:(w1.setCell ⟨w.heap.size,0,none⟩ x).heap[w.heap.size]? = some (.cells #[x,.int .i64 0] 146 (0,0)):=by
  rw[setCell_eq_setRow _ _ _ _ _ _ _ h1,l9 _ _ _ _ h1];rfl
 refine⟨?_,((uI hb).setCell (p:=⟨w.heap.size,0,none⟩) (tg _) _).setCell (p:=⟨w.heap.size,1,none⟩) (tg _) _⟩;rw[setCell_eq_setRow _ _ _ _ _ _ _ h2,l9 _ _ _ _ h2];rfl
theorem ZG:(prog.info? 146).map (·.size)=some 2:=by kernel_rfl
theorem VG(hc:ls.length<=c)(h:tT w a ls) :
 Calls prog 56 #[.slice a ls.length c] w λe w'=>e=.returned (cO (uE (fs ls)))/\Below w.heap.size w w':=by
 have HL:=zA h;have aa:=h.aj;clear h
 go_enter func56,ntmps56
 go_wp2_with fail
 go_loopw [10] (λiv wr=>∃(i:Nat),i<=ls.length/\iv=.int .i64 i/\Hid (Below (w.alloc mT).heap.size (w.alloc mT) wr)/\Hid (nK (fs ls) (ls.length-i) i=nK (fs ls) ls.length 0)) (λiv _=>ls.length-(intOf iv).toNat)
 case atStart=>exact⟨0,p8,rfl,zA (tl _ _),zA rfl⟩
 case round =>
  obtain⟨i,hi,rfl,HB,HE⟩:=hrel;have aI:Hid (Below w.heap.size w wr):=uI HB.out;have q:=cU HB.out;have bk:=sR HB.out;by_cases aO:i<ls.length
  ·have HC:=zA (UM wr a c ls i aO hc (HL.out.below aI.out (tg _)))
   have hE:=HE.out;rw[show ls.length-i=(ls.length-(i+1))+1 by omega,nK]at hE;have aC:=zA hE;clear HE hE;generalize mA (fs ls) i=z at *;cases z
   ·have aF:Hid (nK (fs ls) (ls.length-(i+1)) (i+1)=nK (fs ls) ls.length 0):=aC.out
    clear aC;go_wp2_with fail
    refine HC.out.mono ?_;rintro e w1 ⟨rfl,hb1⟩;have aA:Hid (Below (w.alloc mT).heap.size (w.alloc mT) w1):=HB.out.trans (hb1.mono HB.out.size);clear hb1;go_wp2_with fail
    go_roundw
    case rel=>exact⟨i+1,by omega,by go_num,aA,aF⟩
    case measure=>simp[intOf];omega
   ·have HR:Hid (uE (fs ls)=(3,(i:Int))):=by
     have:some i=nK (fs ls) ls.length 0:=aC.out;unfold Hid uE;rw[Yr,<-this]
    clear aC;go_wp2_with fail
    refine HC.out.mono ?_;rintro e w1 ⟨rfl,hb1⟩;have aA:Hid (Below (w.alloc mT).heap.size (w.alloc mT) w1):=HB.out.trans (hb1.mono HB.out.size);have q1:=cU aA.out;have bI:=sR aA.out;clear hb1 q bk;go_wp2_with fail
    refine pe (v:=cO (3,(i:Int))) (results_cell_row results56 _ _ w.heap.size 146 #[.int .i64 3,.int .i64 (i:Int)] (0,0) _ rfl (bS aA.out _ _).1 underlying146 rfl ZG) rfl ⟨by rw[HR.out],(bS aA.out _ _).2⟩
  ·have bP:Hid (uE (fs ls)=QJ (fs ls)):=by
    have:=HE.out;rw[show ls.length-i=0 by omega]at this;unfold Hid uE;rw[Yr,<-this];rfl
   clear HE q bk;obtain⟨wq,bE⟩:∃wq,wq=wr:=⟨_,rfl⟩;subst bE;go_wp2_with fail
   go_loopw [21] (λiv wr=>∃(i:Nat),i<=ls.length/\iv=.int .i64 i/\Hid (Below (w.alloc mT).heap.size (w.alloc mT) wr)/\Hid (eC (fs ls) (ls.length-i) i=eC (fs ls) ls.length 0)) (λiv _=>ls.length-(intOf iv).toNat)
   case atStart=>exact⟨0,p8,rfl,HB,zA rfl⟩
   case round =>
    obtain⟨j,hj,rfl,aV,bB⟩:=hrel;have aL:Hid (Below w.heap.size w wr):=uI aV.out;by_cases bG:j<ls.length
    ·have HC:=zA (UI wr a c ls j bG hc (HL.out.below aL.out (tg _)))
     have hE:=bB.out;rw[show ls.length-j=(ls.length-(j+1))+1 by omega,eC]at hE;have aC:=zA hE;have HP:Hid (bY (fs ls) j=bY (fs ls) j):=rfl;clear bB hE;by_cases hz:bY (fs ls) j=0
     ·have aF:Hid (eC (fs ls) (ls.length-(j+1)) (j+1)=eC (fs ls) ls.length 0):=by have:=aC.out;rw[tr hz]at this;exact this
      rw[hz]at HC;clear aC hz HP;go_wp2_with fail
      refine HC.out.mono ?_;rintro e w1 ⟨rfl,hb1⟩;have aA:Hid (Below (w.alloc mT).heap.size (w.alloc mT) w1):=aV.out.trans (hb1.mono aV.out.size);clear hb1;go_wp2_with fail
      go_roundw
      case rel=>exact⟨j+1,by omega,by go_num,aA,aF⟩
      case measure=>simp[intOf];omega
     ·have HR:Hid (uE (fs ls)=(bY (fs ls) j,(j:Int))):=by
       have:some j=eC (fs ls) ls.length 0:=by have:=aC.out;rw[tj hz]at this;exact this
       unfold Hid;rw[bP.out,QJ,Yr,<-this]
      clear aC HP;generalize bY (fs ls) j=er at *;have be:(er != 0)=true:=by simpa using hz
      clear hz;go_wp2_with fail
      refine HC.out.mono ?_;rintro e w1 ⟨rfl,hb1⟩;have aA:Hid (Below (w.alloc mT).heap.size (w.alloc mT) w1):=aV.out.trans (hb1.mono aV.out.size);have q1:=cU aA.out;have bI:=sR aA.out;clear hb1;go_wp2_with fail
      refine pe (v:=cO (er,(j:Int))) (results_cell_row results56 _ _ w.heap.size 146 #[.int .i64 er,.int .i64 (j:Int)] (0,0) _ rfl (bS aA.out _ _).1 underlying146 rfl ZG) rfl ⟨by rw[HR.out],(bS aA.out _ _).2⟩
    ·have bt:Hid (uE (fs ls)=XP (fs ls)):=by
      have:=bB.out;rw[show ls.length-j=0 by omega]at this;unfold Hid;rw[bP.out,QJ,Yr,<-this];rfl
     clear bB bP;have cA:=zA (Ji wr a c ls (HL.out.below aL.out (tg _)));have aS:(kW (zX (fs ls)) (fs ls) gZ).length=64:=by rw[nJ];exact yX
     have aq:(qN (vQ (fs ls)) (fs ls) gZ).length=64:=(by rw[mY];exact yX);have HOr:=zA (λw' (hb:Below w.heap.size w w')=>VD w' a c ls (HL.out.below hb (tg _)));have a7:Hid (uE (fs ls)=if jA (kW (zX (fs ls)) (fs ls) gZ)=true then (7,0) else if jA (qN (vQ (fs ls)) (fs ls) gZ)=true then (7,1) else (0,0)):=bt.out;have bD:=zA aS;have aT:=zA aq;clear bt aS aq;generalize kW (zX (fs ls)) (fs ls) gZ=Gn at *;generalize qN (vQ (fs ls)) (fs ls) gZ=Go at *;go_wp2_with fail
     refine cA.out.mono ?_;rintro e w2 ⟨rfl,aH⟩;have aG:Hid (Below (w.alloc mT).heap.size (w.alloc mT) w2):=aV.out.trans (aH.mono aV.out.size);clear aH
     go_wp2_with (refine wpList_store_row ?aM 125 (.tmp 6) (.tmp 34) ?ho w2.heap.size (gC Gn) ?hx ?hy 125 (gC gZ) (zF w2 _) (qF bD.out) ?ah (jW Gn) ?_
                  case ho=>rfl
                  case aM=>rfl
                  case hx=>rfl
                  case hy=>rfl
                  case ah=>rw[xK,xK,yX,bD.out])
     refine(K2 _ w2.heap.size Gn ⟨l9 _ _ (gC gZ) _ (zF w2 _),bD.out⟩).mono ?_;rintro e w3 ⟨rfl,bq⟩
     have aW:Hid (Below (w.alloc mT).heap.size (w.alloc mT) w3):=by
      have h1:Below (w.alloc mT).heap.size (w.alloc mT) ((w2.alloc (.cells (gC gZ) 125 (0,0))).setRow w2.heap.size (gC Gn)):=yK (aG.out.alloc aG.out.size _) aG.out.size _;exact h1.trans (bq.mono h1.size)
     have q3:=cU aW.out;have bH:=sR aW.out;clear bq;generalize jA Gn=z1 at *;cases z1
     ·have a6:Hid (uE (fs ls)=if jA Go=true then (7,1) else (0,0)):=by have:=a7.out;rw[tj Bool.false_ne_true]at this;exact this
      clear a7;go_wp2_with fail
      refine(HOr.out _ (uI aW.out)).mono ?_;rintro e w4 ⟨rfl,bp⟩;have ba:Hid (Below (w.alloc mT).heap.size (w.alloc mT) w4):=aW.out.trans (bp.mono aW.out.size);clear bp q3 bH
      go_wp2_with (refine wpList_store_row ?aM 125 (.tmp 7) (.tmp 38) ?ho w4.heap.size (gC Go) ?hx ?hy 125 (gC gZ) (zF w4 _) (qF aT.out) ?ah (jW Go) ?_
                   case ho=>rfl
                   case aM=>rfl
                   case hx=>rfl
                   case hy=>rfl
                   case ah=>rw[xK,xK,yX,aT.out])
      refine(K2 _ w4.heap.size Go ⟨l9 _ _ (gC gZ) _ (zF w4 _),aT.out⟩).mono ?_;rintro e w5 ⟨rfl,bm⟩
      have aX:Hid (Below (w.alloc mT).heap.size (w.alloc mT) w5):=by
       have h1:Below (w.alloc mT).heap.size (w.alloc mT) ((w4.alloc (.cells (gC gZ) 125 (0,0))).setRow w4.heap.size (gC Go)):=yK (ba.out.alloc ba.out.size _) ba.out.size _;exact h1.trans (bm.mono h1.size)
      have q5:=cU aX.out;have b6:=sR aX.out;clear bm;generalize jA Go=z2 at *;cases z2
      ·have HR:Hid (uE (fs ls)=(0,0)):=by have:=a6.out;rw[tj Bool.false_ne_true]at this;exact this
       clear a6;go_wp2_with fail
       refine pe (v:=cO (0,0)) (results_cell_row results56 _ _ w.heap.size 146 #[.int .i64 0,.int .i64 0] (0,0) _ rfl (bS aX.out _ _).1 underlying146 rfl ZG) rfl ⟨by rw[HR.out],(bS aX.out _ _).2⟩
      ·have HR:Hid (uE (fs ls)=(7,1)):=by have:=a6.out;rw[tr rfl]at this;exact this
       clear a6;go_wp2_with fail
       refine pe (v:=cO (7,1)) (results_cell_row results56 _ _ w.heap.size 146 #[.int .i64 7,.int .i64 1] (0,0) _ rfl (bS aX.out _ _).1 underlying146 rfl ZG) rfl ⟨by rw[HR.out],(bS aX.out _ _).2⟩
     ·have HR:Hid (uE (fs ls)=(7,0)):=by have:=a7.out;rw[tr rfl]at this;exact this
      clear a7;go_wp2_with fail
      refine pe (v:=cO (7,0)) (results_cell_row results56 _ _ w.heap.size 146 #[.int .i64 7,.int .i64 0] (0,0) _ rfl (bS aW.out _ _).1 underlying146 rfl ZG) rfl ⟨by rw[HR.out],(bS aW.out _ _).2⟩
end Go.Proofs.YtnbpdffdnphbeabGreatDoor
