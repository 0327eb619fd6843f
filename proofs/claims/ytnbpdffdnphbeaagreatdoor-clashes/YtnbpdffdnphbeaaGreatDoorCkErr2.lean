import Derived.Test.YtnbpdffdnphbeaaGreatDoorCkMany
import Derived.BigQuiet
set_option maxHeartbeats 8000000
set_option maxRecDepth 100000
namespace Go.Proofs.YtnbpdffdnphbeaaGreatDoor
open Go.RowKit
variable{w1:World}(w:World)(a:Option Addr)(c:Nat)(ls:List LX)(i:Nat)
theorem yA{B:Nat}{a w:World}(h:Below B a w)(n:Nat):Below B a (w.drewN n):=⟨h.os,h.tape,h.output,h.size,h.block⟩
theorem Ci(hi:i<ls.length)(hc:ls.length<=c)(h:pG w a ls) :
 Calls Tryz.prog 162 #[.slice a ls.length c,.int .i64 i] w fun e w'=>e=.returned (.int .i64 (iE (fs ls) i))/\Below w.heap.size w w':=by
 have zII:=h.few;have HI:=zA (Zp w a c ls i hi hc h);have HL:=zA h;have h4:lW (fs ls) i=4\/lW (fs ls) i=0:=by unfold lW;split;exact .inl rfl;exact .inr rfl
 rcases h4 with h4|h4
 ·have HR:Hid (iE (fs ls) i=4):=by unfold Hid iE;rw[h4];rfl
  rw[h4]at HI;clear h h4
  go_enter Tryz.func162,Tryz.ntmps162
  go_wp2_with fail
  refine HI.out.mono ?_;rintro e w1 ⟨rfl,hb1⟩;have HB1:=zA hb1;clear hb1;go_wp2_with fail
  go_ret
  exact⟨zY HR.out.symm,HB1.out⟩
 ·have HR:Hid (iE (fs ls) i=if (mZ ls i).1.high<(mZ ls i).1.low then 5 else 0):=by unfold Hid iE;rw[h4,pC];rfl
  rw[h4]at HI;clear h h4
  go_enter Tryz.func162,Tryz.ntmps162
  go_wp2_with fail
  refine HI.out.mono ?_;rintro e w1 ⟨rfl,hb1⟩;have HB1:=zA hb1;obtain⟨gl,sa,sn,sc,na,nn,nc,rfl,hgl,⟨c0,c1,c2,c3,c4,c5,c6,c7,c8,c9,c10⟩,_,_⟩:=(HL.out.below hb1 (t9 _)).line hi;clear hb1 c0 c1 c4 c5 c6 c7 c8 c9 c10 HL HI;generalize (mZ ls i).1.low=lo at *;generalize (mZ ls i).1.high=hh at *;go_wp2_with fail
  go_quiet (fail)
  by_cases hk:hh<lo
  ·have HR2:Hid (iE (fs ls) i=5):=by unfold Hid;rw[HR.out,tl hk]
   go_wp2_with fail
   go_ret
   exact⟨zY HR2.out.symm,yA HB1.out _⟩
  ·have HR2:Hid (iE (fs ls) i=0):=by unfold Hid;rw[HR.out,tg hk]
   go_wp2_with fail
   go_ret
   exact⟨zY HR2.out.symm,yA HB1.out _⟩
theorem oQ{B:Nat}{a w:World}{o:Obj}(h:Below B a w)(hB:B<=w.heap.size)(h1:Below (w.alloc o).heap.size (w.alloc o) w1):Below B a w1:=(h.alloc hB o).trans (h1.mono (tx hB (p8 (yL _ _))))
abbrev FQ(x:zF)(sv nv:Value):Array Value := #[.int .i64 x.kind,.string ⟨x.name.toArray⟩,.int .i64 x.low,.int .i64 x.high,.string ⟨x.conc.toArray⟩,sv,nv,.int .i64 x.root,.int .i64 x.tests,.int .i64 x.dep,.string ⟨x.lower.toArray⟩]
theorem Vu(hi:i<ls.length)(hc:ls.length<=c)(hk:(mZ ls i).1.kind=3)(h:pG w a ls) :
 Calls Tryz.prog 164 #[.slice a ls.length c,.int .i64 i] w fun e w'=>e=.returned (.int .i64 (bM (fs ls) i))/\Below w.heap.size w w':=by
 have zII:=h.few;have HR:Hid (bM (fs ls) i=if vR ((fs ls).take i) 3 (mZ ls i).1.name || ((mZ ls i).1.sum.any (fun x => !kH (fs ls) x) || (mZ ls i).1.nd.any (fun x => !vC (fs ls) x)) then 4 else 0):=by unfold Hid bM;rw[pC]
 have H1:=zA (ZO h c 3 (mZ ls i).1.name i hi);have H2:=zA (fun nm=>VY h c nm);have H3:=zA (fun x=>QN h c x);obtain⟨gl,sa,sn,sc,na,nn,nc,rfl,hgl,⟨c0,c1,c2,c3,c4,c5,c6,c7,c8,c9,c10⟩,eq,hC⟩:=h.line hi;obtain⟨rfl,hS,rfl,hN⟩:=hC.rule hk eq;have HS:=zA hS;have HN:=zA hN;have hs1:=hS.few;have hn1:=hN.few;unfold maxLen at hs1 hn1;clear h eq hC hS hN hk;generalize (mZ ls i).1=x at *;obtain⟨kd,n1,lo,hi',cc,S,N,ro,te,de,lw⟩:=x;simp only at c0 c1 c2 c3 c4 c5 c6 c7 c8 c9 c10 HR H1 HS HN hs1 hn1;generalize vR ((fs ls).take i) 3 n1=p at *
 go_enter Tryz.func164,Tryz.ntmps164
 go_wp2_with fail
 go_cut [19] from 14 to 19 (fun v wx=>v=.bool p/\Hid (Below w.heap.size w wx)/\Hid (w.heap.size<wx.heap.size)/\∀j,wx.cell? ⟨w.heap.size,j,none⟩=(FQ ⟨kd,n1,lo,hi',cc,S,N,ro,te,de,lw⟩ (.slice sa S.length sc) (.slice na N.length nc))[j]?)
 case first =>
  go_region_with (go_at_call 219
                  refine(H1.out _ (me (Below.alloc (tj _ _) (t9 _) _))).mono ?_;rintro e w1 ⟨rfl,hb1⟩;have b1:=Ul (DZ (zM _ _)) hb1 (Zj (yL _ _));have HB1:Hid (Below w.heap.size w w1):=(me (Below.alloc (tj _ _) (t9 _) _)).trans (hb1.mono (p8 (Zj (yL _ _))));have q:=zD b1;have HZ:Hid (w.heap.size<w1.heap.size):=ti (Zj (yL _ _)) hb1.size;clear hb1 b1)
  all_goals
   go_wp2_with fail
   go_meet
   exact⟨rfl,HB1,HZ,q⟩
 case rest =>
  obtain⟨rfl,HB1,HZ,q⟩:=hcut;clear c0 c1 c2 c3 c4 c5 c6 c7 c8 c9 c10 H1;cases p
  ·have HR2:Hid (bM (fs ls) i=if S.any (fun x => !kH (fs ls) x) || N.any (fun x => !vC (fs ls) x) then 4 else 0):=HR.out
   clear HR;go_wp2_with fail
   go_loopw [23] (fun iv wr=>∃(k:Nat),k<=S.length/\iv=.int .i64 k/\Hid (Below wc.heap.size wc wr)/\Hid ((S.drop k).any (fun x => !kH (fs ls) x)=S.any (fun x => !kH (fs ls) x))) (fun iv _=>S.length-(intOf iv).toNat)
   case atStart=>exact⟨0,tr _,rfl,zA (tj _ _),zA rfl⟩
   case round =>
    obtain⟨k,hk,rfl,HBr,HE⟩:=hrel;have zJ2:Hid (Below w.heap.size w wr):=HB1.out.trans (HBr.out.mono HB1.out.size);have zIJ:=HBr.out.size;have hsw:=zJ2.out.size;by_cases zI6:k<S.length
    ·obtain⟨g,yW,rfl,hp⟩:=(HS.out.below zJ2.out (t9 _)).blk (by omega)
     obtain⟨d0,d1,d2,d3⟩:=hp.cells zI6;have hg:=hp.lt;have hE:=HE.out;rw[sU _ xz _ k zI6,show S.getD k xz=YB S k from rfl]at hE;have HE2:=zA hE;clear HE hE hp q;generalize YB S k=y at *;obtain⟨mi,st,nu,nm⟩:=y;simp only at d0 d1 d2 d3;by_cases ko:nm=[]
     ·have HE3:Hid ((S.drop (k+1)).any (fun x => !kH (fs ls) x)=S.any (fun x => !kH (fs ls) x)):=by have:=HE2.out;unfold Hid;rw[<-this];simp[kH,ko]
      have bo:(nm==[])=true:=by simpa using ko
      clear HE2 ko;go_wp2_with fail
      go_roundw
      case rel=>exact⟨k+1,by omega,by go_num,zA (HBr.out.alloc zIJ _),HE3⟩
      case measure=>simp[intOf];omega
     ·have HA:=zA (H2.out nm)
      have bo:(nm==[])=false:=by simpa using ko
      have HE2':Hid ((!Xr (fs ls) nm || (S.drop (k+1)).any (fun x => !kH (fs ls) x))=S.any (fun x => !kH (fs ls) x)):=by have:=HE2.out;unfold Hid;rw[<-this];simp[kH,ko]
      clear HE2 ko;generalize Xr (fs ls) nm=z at *;cases z
      ·have HR3:Hid (bM (fs ls) i=4):=by unfold Hid;rw[HR2.out,<-HE2'.out];rfl
       clear HE2';go_wp2_with fail
       refine(HA.out _ (zJ2.out.alloc hsw _)).mono ?_;rintro e w1 ⟨rfl,hb1⟩;have HBn:Hid (Below w.heap.size w w1):=oQ zJ2.out hsw hb1;clear hb1;go_wp2_with fail
       go_ret
       exact⟨zY HR3.out.symm,HBn.out⟩
      ·have HE3:Hid ((S.drop (k+1)).any (fun x => !kH (fs ls) x)=S.any (fun x => !kH (fs ls) x)):=by have:=HE2'.out;unfold Hid;rw[<-this];rfl
       clear HE2';go_wp2_with fail
       refine(HA.out _ (zJ2.out.alloc hsw _)).mono ?_;rintro e w1 ⟨rfl,hb1⟩;have HBn:Hid (Below wc.heap.size wc w1):=oQ HBr.out zIJ hb1;clear hb1;go_wp2_with fail
       go_roundw
       case rel=>exact⟨k+1,by omega,by go_num,HBn,HE3⟩
       case measure=>simp[intOf];omega
    ·have HR3:Hid (bM (fs ls) i=if N.any (fun x => !vC (fs ls) x) then 4 else 0):=by
      have:=HE.out;rw[tu (by omega)]at this;unfold Hid;rw[HR2.out,<-this];rfl
     have qr:∀j,wr.cell? ⟨w.heap.size,j,none⟩=(FQ ⟨kd,n1,lo,hi',cc,S,N,ro,te,de,lw⟩ (.slice sa S.length sc) (.slice na N.length nc))[j]? := fun j=>(HBr.out.cell (p:=⟨w.heap.size,j,none⟩) HZ.out).trans (q j);clear HE HR2 q HS H2;obtain⟨wq,rfl⟩:∃wq,wq=wr:=⟨_,rfl⟩;go_wp2_with fail
     go_loopw [42] (fun iv wr=>∃(k:Nat),k<=N.length/\iv=.int .i64 k/\Hid (Below wq.heap.size wq wr)/\Hid ((N.drop k).any (fun x => !vC (fs ls) x)=N.any (fun x => !vC (fs ls) x))) (fun iv _=>N.length-(intOf iv).toNat)
     case atStart=>exact⟨0,tr _,rfl,zA (tj _ _),zA rfl⟩
     case round =>
      obtain⟨m,hm,rfl,HBs,HF⟩:=hrel;have HBv:Hid (Below w.heap.size w wr):=zJ2.out.trans (HBs.out.mono hsw);have hsz2:=HBs.out.size;have hsw2:=HBv.out.size;by_cases zIV:m<N.length
      ·obtain⟨g,yW,rfl,hp⟩:=(HN.out.below HBv.out (t9 _)).blk (by omega)
       obtain⟨d0,d1,d2,d3,d4,d5,d6⟩:=hp.cells zIV;have hg:=hp.lt;have hE:=HF.out;rw[sU _ nz _ m zIV,show N.getD m nz=kE N m from rfl]at hE;have HE2:=zA hE;have HA:=zA (H3.out (kE N m));clear HF hE hp qr;generalize vC (fs ls) (kE N m)=z at *;unfold jQ at HA;generalize kE N m=y at *;obtain⟨kd',le,ri,nm,mk,ot,nu⟩:=y;simp only at d0 d1 d2 d3 d4 d5 d6 HA;cases z
       ·have HR4:Hid (bM (fs ls) i=4):=by unfold Hid;rw[HR3.out,<-HE2.out];rfl
        clear HE2;go_wp2_with fail
        refine(HA.out _ (HBv.out.alloc hsw2 _)).mono ?_;rintro e w1 ⟨rfl,hb1⟩;have HBn:Hid (Below w.heap.size w w1):=oQ HBv.out hsw2 hb1;clear hb1;go_wp2_with fail
        go_ret
        exact⟨zY HR4.out.symm,HBn.out⟩
       ·have HE3:Hid ((N.drop (m+1)).any (fun x => !vC (fs ls) x)=N.any (fun x => !vC (fs ls) x)):=by have:=HE2.out;unfold Hid;rw[<-this];rfl
        clear HE2;go_wp2_with fail
        refine(HA.out _ (HBv.out.alloc hsw2 _)).mono ?_;rintro e w1 ⟨rfl,hb1⟩;have HBn:Hid (Below wq.heap.size wq w1):=oQ HBs.out hsz2 hb1;clear hb1;go_wp2_with fail
        go_roundw
        case rel=>exact⟨m+1,by omega,by go_num,HBn,HE3⟩
        case measure=>simp[intOf];omega
      ·have HR4:Hid (bM (fs ls) i=0):=by
        have:=HF.out;rw[tu (by omega)]at this;unfold Hid;rw[HR3.out,<-this];rfl
       clear HF;go_wp2_with fail
       go_ret
       exact⟨zY HR4.out.symm,HBv.out⟩
  ·have HR2:Hid (bM (fs ls) i=4):=HR.out
   clear HR;go_wp2_with fail
   go_ret
   exact⟨zY HR2.out.symm,HB1.out⟩
theorem UQ(h:pG w a ls) :
 Calls Tryz.prog 106 #[.slice a ls.length c] w fun e w'=>e=.returned (.agg (gC (mA (zT (fs ls)) (fs ls) gZ)))/\Below w.heap.size w w':=by
 have HL:=zA h;have zII:=h.few;have HRL:=zA (fun o=>eH (w.alloc o) a c ls (h.below (ge (t9 _) o) (t9 _)));clear h
 go_enter Tryz.func106,Tryz.ntmps106
 go_wp2_with fail
 refine(HRL.out _).mono ?_;rintro e w1 ⟨v,rfl,zI8,zIC,hb1⟩;have hz:w1.heap[w.heap.size]? = some (.cells (gC gZ) 94 (0,0)):=by rw[hb1.block _ (yL _ _)];exact zM _ _
 have hs:w.heap.size<w1.heap.size:=ti (yL _ _) hb1.size;have HK:=zA (fun o cs=>UR.mk' (o:=o) (cs:=cs) hz (uP hb1) hs zI8 (by omega));obtain⟨la,lc,rfl,_⟩:=HK.out (.cells #[] 0 (0,0)) #[];generalize hlb:zT (fs ls)=names at *;have HLB:=zA hlb;clear hlb
 have HK2:Hid (∀o cs,UR w ((w1.alloc o).setRow w1.heap.size cs) w1.heap.size la names):=fun o cs=>by
  obtain⟨a',c',e,p⟩:=HK.out o cs;simp only[Value.slice.injEq]at e;rw[e.1];exact p
 clear hz zI8 hb1 HK HRL
 go_upto_region 2 with fail
 go_cut [4] from 16 to 16 (fun p4 wx=>p4=.pointer (some ⟨w1.heap.size,0,none⟩)/\Hid (UR w wx w1.heap.size la names)/\Hid (iY wx w1.heap.size gZ))
 case first =>
  go_wp2_with (refine wpList_store_row ?zIM 94 (.tmp 4) (.tmp 16) ?ho w1.heap.size (gC gZ) ?hx ?hy 94 (gC gZ) (zM w1 _) (jU vE) rfl (cB gZ) ?_
               case ho=>rfl
               case zIM=>rfl
               case hx=>rfl
               case hy=>rfl)
  go_meet
  exact⟨rfl,zA (HK2.out _ _),zA ⟨ly _ _ (gC gZ) _ _ _ (zM w1 _),vE⟩⟩
 case rest =>
  obtain⟨rfl,HM,HG0⟩:=hcut;generalize w1.heap.size=g at *;clear HK2;go_wp2_with fail
  go_loopw [19] (fun iv wr=>∃(i:Nat) (G:List Bool),i<=ls.length/\iv=.int .i64 i/\Hid (vP g wc wr)/\Hid (iY wr g G)/\Hid (mA names ((fs ls).drop i) G=mA names (fs ls) gZ)) (fun iv _=>ls.length-(intOf iv).toNat)
  case atStart=>exact⟨0,gZ,tr _,rfl,zA (vP.refl _ _),HG0,zA rfl⟩
  case round =>
   obtain⟨i,G,hi,rfl,HO,HG,HE⟩:=hrel;clear HG0;have zJ2:Hid (Below w.heap.size w wr):=HM.out.bel.trans (HO.out.below HM.out.bel.size (p8 HM.out.g1));by_cases zI6:i<ls.length
   ·obtain⟨gl,sa,sn,sc,na,nn,nc,rfl,hgl,⟨c0,c1,c2,c3,c4,c5,c6,c7,c8,c9,c10⟩,eq,hC⟩:=(HL.out.below zJ2.out (t9 _)).line zI6
    have hE:=HE.out;rw[Gy _ _ i _ (by simpa using zI6),pC]at hE;have HE2:=zA hE;have HF:=zA (fun o nm=>Qh (wr.alloc o) la lc names nm (HM.out.str _ (HO.out.alloc o)));have HRl:=zA (fun hk=>(HL.out.rows _ (YY zI6)).rule hk eq);clear HE hE hC eq;generalize (mZ ls i).1=x at *;obtain⟨kd,n1,lo,hi',cc,S,N,ro,te,de,lw⟩:=x;simp only at c0 c1 c2 c3 c4 c5 c6 c7 c8 c9 c10 HRl;by_cases k1:kd=3
    ·have b1:(kd != 3)=false:=by simpa using k1
     obtain⟨rfl,hS,rfl,hN⟩:=HRl.out k1;have HE3:Hid (mA names ((fs ls).drop (i+1)) (mU names (zH names cc) N (cJ names (zH names cc) S G))=mA names (fs ls) gZ):=by have:=HE2.out;rw[tl k1]at this;exact this
     have HS:=zA hS;have HN:=zA hN;have hs1:=hS.few;have hn1:=hN.few;unfold maxLen at hs1 hn1;have hgw:g<wr.heap.size:=ti HM.out.lt HO.out.size;clear HE2 k1 HRl hS hN;go_wp2_with fail
     refine(HF.out _ cc).mono ?_;rintro e w2 ⟨rfl,hw⟩;have q:∀j,w2.cell? ⟨wr.heap.size,j,none⟩=(FQ ⟨kd,n1,lo,hi',cc,S,N,ro,te,de,lw⟩ (.slice sa S.length sc) (.slice na N.length nc))[j]? := by rw[hw];exact zD (zM _ _)
     have HO2:Hid (vP g wc w2):=by rw[hw];exact HO.out.alloc _
     have HG2:Hid (iY w2 g G):=by rw[hw];exact HG.out.new _
     have HBv:Hid (Below wr.heap.size wr w2):=by rw[hw];exact ge (t9 _) _
     have HZ:Hid (wr.heap.size<w2.heap.size):=by rw[hw];exact yL _ _
     clear hw HF c0 c1 c2 c3 c4 c5 c6 c7 c8 c9 c10 HG;generalize zH names cc=fr at *;obtain⟨wL,hwL⟩:∃wL,wL=wr:=⟨_,rfl⟩;subst hwL;go_wp2_with fail
     go_loopw [33] (fun iv wr=>∃(k:Nat) (H:List Bool),k<=S.length/\iv=.int .i64 k/\Hid (vP g w2 wr)/\Hid (iY wr g H)/\Hid (cJ names fr (S.drop k) H=cJ names fr S G)) (fun iv _=>S.length-(intOf iv).toNat)
     case atStart=>exact⟨0,G,tr _,rfl,zA (vP.refl _ _),HG2,zA rfl⟩
     case round =>
      obtain⟨k,H,hk,rfl,HOk,HGk,HEk⟩:=hrel;clear HG2;have HOc:Hid (vP g wc wr):=HO2.out.trans HOk.out;by_cases zJ5:k<S.length
      ·have HBk:Hid (Below w.heap.size w wr):=HM.out.bel.trans (HOc.out.below HM.out.bel.size (p8 HM.out.g1))
       obtain⟨gs,yW,rfl,hp⟩:=(HS.out.below HBk.out (t9 _)).blk (by omega);obtain⟨d0,d1,d2,d3⟩:=hp.cells zJ5;have hgs:=hp.lt;have hE:=HEk.out;rw[BW _ _ _ k _ zJ5]at hE;have HE4:=zA hE;have HF2:=zA (fun o nm=>Qh (wr.alloc o) la lc names nm (HM.out.str _ (HOc.out.alloc o)));have HA:=zA (fun o x y=>zBI (wr.alloc o) g H x y (HGk.out.new o));clear HEk hE hp;generalize YB S k=y at *;obtain⟨mi,st,nu,nm⟩:=y;simp only at d0 d1 d2 d3;go_wp2_with fail
       refine(HF2.out _ nm).mono ?_;rintro e w3 ⟨rfl,hw⟩;obtain rfl:=hw.symm;go_wp2_with fail
       refine(HA.out _ _ _).mono ?_;rintro e w3 ⟨rfl,hg3,ho3⟩;have HO3:Hid (vP g w2 w3):=(HOk.out.alloc _).trans ho3;have HG3:=zA hg3;clear hg3 ho3;go_wp2_with fail
       go_roundw
       case rel=>exact⟨k+1,_,by omega,by go_num,HO3,HG3,HE4⟩
       case measure=>simp[intOf];omega
      ·have HE4:Hid (H=cJ names fr S G):=by have:=HEk.out;rw[tu (by omega)]at this;exact this
       have q2:∀j,wr.cell? ⟨wL.heap.size,j,none⟩=(FQ ⟨kd,n1,lo,hi',cc,S,N,ro,te,de,lw⟩ (.slice sa S.length sc) (.slice na N.length nc))[j]? := fun j=>by
        have e9:wr.heap[wL.heap.size]? = w2.heap[wL.heap.size]? := HOk.out.block _ HZ.out (by omega);have:=q j;simp only[World.cell?,e9]at this ⊢;exact this
       clear HEk q;obtain⟨wq,hwq⟩:∃wq,wq=wr:=⟨_,rfl⟩;subst hwq;go_wp2_with fail
       go_loopw [49] (fun iv wr=>∃(k:Nat) (H':List Bool),k<=N.length/\iv=.int .i64 k/\Hid (vP g wq wr)/\Hid (iY wr g H')/\Hid (mU names fr (N.drop k) H'=mU names fr N H)) (fun iv _=>N.length-(intOf iv).toNat)
       case atStart=>exact⟨0,H,tr _,rfl,zA (vP.refl _ _),HGk,zA rfl⟩
       case round =>
        obtain⟨m,H2,hm,rfl,HOm,HGm,HEm⟩:=hrel;clear HGk;have HOd:Hid (vP g wc wr):=HOc.out.trans HOm.out;by_cases hltm:m<N.length
        ·have HBk:Hid (Below w.heap.size w wr):=HM.out.bel.trans (HOd.out.below HM.out.bel.size (p8 HM.out.g1))
         obtain⟨gs,yW,rfl,hp⟩:=(HN.out.below HBk.out (t9 _)).blk (by omega);obtain⟨d0,d1,d2,d3,d4,d5,d6⟩:=hp.cells hltm;have hgs:=hp.lt;have hE:=HEm.out;rw[Cj _ _ _ m _ hltm]at hE;have HE5:=zA hE;have HF2:=zA (fun o nm=>Qh (wr.alloc o) la lc names nm (HM.out.str _ (HOd.out.alloc o)));have HA:=zA (fun o x y=>zBI (wr.alloc o) g H2 x y (HGm.out.new o));clear HEm hE hp q2;generalize kE N m=y at *;obtain⟨kd',le,ri,nm,mk,ot,nu⟩:=y;simp only at d0 d1 d2 d3 d4 d5 d6;by_cases k5:kd'=5
         ·have b5:(kd'==5)=true:=by simpa using k5
          have HE6:Hid (mU names fr (N.drop (m+1)) (oR H2 fr (zH names nm))=mU names fr N H):=by have:=HE5.out;rw[tl k5]at this;exact this
          clear HE5 k5;go_wp2_with fail
          refine(HF2.out _ nm).mono ?_;rintro e w3 ⟨rfl,hw⟩;obtain rfl:=hw.symm;go_wp2_with fail
          refine(HA.out _ _ _).mono ?_;rintro e w3 ⟨rfl,hg3,ho3⟩;have HO3:Hid (vP g wq w3):=(HOm.out.alloc _).trans ho3;have HG3:=zA hg3;clear hg3 ho3;go_wp2_with fail
          go_roundw
          case rel=>exact⟨m+1,_,by omega,by go_num,HO3,HG3,HE6⟩
          case measure=>simp[intOf];omega
         ·have b5:(kd'==5)=false:=by simpa using k5
          have HE6:Hid (mU names fr (N.drop (m+1)) H2=mU names fr N H):=by have:=HE5.out;rw[tg k5]at this;exact this
          clear HE5 k5;go_wp2_with fail
          go_roundw
          case rel=>exact⟨m+1,H2,by omega,by go_num,zA (HOm.out.alloc _),zA (HGm.out.new _),HE6⟩
          case measure=>simp[intOf];omega
        ·have HE6:Hid (mA names ((fs ls).drop (i+1)) H2=mA names (fs ls) gZ):=by
          have:=HEm.out;rw[tu (by omega)]at this;unfold Hid;rw[<-HE3.out,<-HE4.out,<-this];rfl
         clear HEm;go_wp2_with fail
         go_roundw
         case rel=>exact⟨i+1,H2,by omega,by go_num,HOd,HGm,HE6⟩
         case measure=>simp[intOf];omega
    ·have b1:(kd != 3)=true:=by simpa using k1
     have HE3:Hid (mA names ((fs ls).drop (i+1)) G=mA names (fs ls) gZ):=by have:=HE2.out;rw[tg k1]at this;exact this
     clear HE2 k1 HRl;go_wp2_with fail
     go_roundw
     case rel=>exact⟨i+1,G,by omega,by go_num,zA (HO.out.alloc _),zA (HG.out.new _),HE3⟩
     case measure=>simp[intOf];omega
   ·have HE3:Hid (G=mA names (fs ls) gZ):=by have:=HE.out;rw[tu (by simp;omega)]at this;exact this
    have HRs:Hid (wr.heap[w.heap.size]? = some (.cells (gC gZ) 94 (0,0))):=by
     unfold Hid;rw[HO.out.block _ (Nat.lt_trans HM.out.g1 HM.out.lt) (fo HM.out.g1)];exact HM.out.res
    clear HE
    go_wp2_with (first
     | (refine wpList_load_row ?zIM 94 (.tmp 4) ?ho g ?hx 94 (gC G) (0,0) _ HG.out.1 Tryz.underlying94 rfl (jU HG.out.2) ?_
        case ho=>rfl
        case zIM=>rfl
        case hx=>rfl)
     | (refine wpList_store_row ?zIM 94 (.tmp 2) (.tmp 65) ?ho w.heap.size (gC G) ?hx ?hy 94 (gC gZ) HRs.out (jU HG.out.2) ?zIL (cB G) ?_
        case ho=>rfl
        case zIM=>rfl
        case hx=>rfl
        case hy=>rfl
        case zIL=>rw[uY,uY,vE,HG.out.2]))
    refine ph (v:=.agg (gC G)) (results_cell_row Tryz.results106 _ _ w.heap.size 94 (gC G) (0,0) _ rfl (ly _ _ (gC gZ) _ _ _ HRs.out) Tryz.underlying94 rfl (jU HG.out.2)) rfl ⟨by rw[HLB.out,<-HE3.out],xL zJ2.out (t9 _) _⟩
theorem Uv(ls:List zF)(nm:Bs):qO ls nm<=ls.length:=by have:=(Uw (Zo 3 nm) ls 0).2;unfold qO;omega
theorem V6(x:zF)(sa na:Option Addr)(sn sc nn nc:Nat)(h:pG w a ls) :
 Calls Tryz.prog 165 #[.slice a ls.length c,qA (.slice sa sn sc) (.slice na nn nc) x] w fun e w'=>e=.returned (.int .i64 (lL (fs ls) x))/\Below w.heap.size w w':=by
 have zII:=h.few;have HL:=zA h;have HU:=zA (Qi h c x.name);have HW:=zA (Qi h c x.lower);have hu:=Uv (fs ls) x.name;have hl:=Uv (fs ls) x.lower;rw[ZS]at hu hl
 have HR:Hid (lL (fs ls) x=if qO (fs ls) x.name=ls.length\/qO (fs ls) x.lower=ls.length then 4 else if x.name=x.lower\/(mZ ls (qO (fs ls) x.name)).1.conc≠(mZ ls (qO (fs ls) x.lower)).1.conc then 6 else 0):=by
  unfold Hid lL;rw[pC,pC,ZS]
 clear h;obtain⟨kd,n1,lo,hi',cc,S,N,ro,te,de,lw⟩:=x;simp only at HU HW hu hl HR;unfold qA;generalize qO (fs ls) n1=fu at *;generalize qO (fs ls) lw=fl at *;by_cases ku:fu=ls.length
 ·have HR2:Hid (lL (fs ls) ⟨kd,n1,lo,hi',cc,S,N,ro,te,de,lw⟩=4):=by unfold Hid;rw[HR.out,tl (.inl ku)]
  clear HR
  go_enter Tryz.func165,Tryz.ntmps165
  go_wp2_with fail
  refine(HU.out _ (ge (t9 _) _)).mono ?_;rintro e w1 ⟨rfl,hb1⟩;have HB1:Hid (Below w.heap.size w w1):=uP hb1;have q1:=dL hb1;clear hb1;go_wp2_with fail
  refine(HW.out _ HB1.out).mono ?_;rintro e w2 ⟨rfl,hb2⟩;have HB2:Hid (Below w.heap.size w w2):=HB1.out.trans (hb2.mono HB1.out.size);clear hb2;go_wp2_with fail
  go_ret
  exact⟨zY HR2.out.symm,HB2.out⟩
 by_cases kl:fl=ls.length
 ·have HR2:Hid (lL (fs ls) ⟨kd,n1,lo,hi',cc,S,N,ro,te,de,lw⟩=4):=by unfold Hid;rw[HR.out,tl (.inr kl)]
  have bu:((fu:Int)==(ls.length:Int))=false:=by simp;omega
  clear HR ku
  go_enter Tryz.func165,Tryz.ntmps165
  go_wp2_with fail
  refine(HU.out _ (ge (t9 _) _)).mono ?_;rintro e w1 ⟨rfl,hb1⟩;have HB1:Hid (Below w.heap.size w w1):=uP hb1;have q1:=dL hb1;clear hb1;go_wp2_with fail
  refine(HW.out _ HB1.out).mono ?_;rintro e w2 ⟨rfl,hb2⟩;have HB2:Hid (Below w.heap.size w w2):=HB1.out.trans (hb2.mono HB1.out.size);clear hb2;go_wp2_with fail
  go_ret
  exact⟨zY HR2.out.symm,HB2.out⟩
 have hfu:fu<ls.length:=by omega
 have hfl:fl<ls.length:=by omega
 have HR2:Hid (lL (fs ls) ⟨kd,n1,lo,hi',cc,S,N,ro,te,de,lw⟩=if n1=lw\/(mZ ls fu).1.conc≠(mZ ls fl).1.conc then 6 else 0):=by unfold Hid;rw[HR.out,tg (by rintro(e|e);exact ku e;exact kl e)]
 have bu:((fu:Int)==(ls.length:Int))=false:=by simp;omega
 have bl:((fl:Int)==(ls.length:Int))=false:=by simp;omega
 clear HR ku kl hu hl
 go_enter Tryz.func165,Tryz.ntmps165
 go_wp2_with fail
 refine(HU.out _ (ge (t9 _) _)).mono ?_;rintro e w1 ⟨rfl,hb1⟩;have HB1:Hid (Below w.heap.size w w1):=uP hb1;have q1:=dL hb1;have HZ:Hid (w.heap.size<w1.heap.size):=ti (yL _ _) hb1.size;clear hb1;go_wp2_with fail
 refine(HW.out _ HB1.out).mono ?_;rintro e w2 ⟨rfl,hb2⟩;have HB2:Hid (Below w.heap.size w w2):=HB1.out.trans (hb2.mono HB1.out.size);have q2:∀j,w2.cell? ⟨w.heap.size,j,none⟩=(FQ ⟨kd,n1,lo,hi',cc,S,N,ro,te,de,lw⟩ (.slice sa sn sc) (.slice na nn nc))[j]? := fun j=>(hb2.cell (p:=⟨w.heap.size,j,none⟩) HZ.out).trans (q1 j);clear hb2 q1;obtain⟨gl,_,_,_,_,_,_,rfl,hgl,⟨_,_,_,_,c4,_,_,_,_,_,_⟩,_,_⟩:=(HL.out.below HB2.out (t9 _)).line hfu;obtain⟨gl',_,_,_,_,_,_,hgg,_,⟨_,_,_,_,d4,_,_,_,_,_,_⟩,_,_⟩:=(HL.out.below HB2.out (t9 _)).line hfl;obtain rfl:gl=gl':=by simpa using hgg
 clear hgg HL;generalize (mZ ls fu).1.conc=cu at *;generalize (mZ ls fl).1.conc=cl at *;have e1:=q2 1;have e10:=q2 10;simp only[FQ,cy,cw,cg]at e1 e10;have ifu:(fu:Int)<(ls.length:Int):=by omega
 have ifl:(fl:Int)<(ls.length:Int):=by omega
 go_wp2_with fail
 by_cases kn:n1=lw
 ·have HR3:Hid (lL (fs ls) ⟨kd,n1,lo,hi',cc,S,N,ro,te,de,lw⟩=6):=by unfold Hid;rw[HR2.out,tl (.inl kn)]
  have bn:(n1==lw)=true:=by simpa using kn
  clear HR2 kn
  go_quiet (fail)
  go_wp2_with fail
  go_ret
  exact⟨zY HR3.out.symm,yA HB2.out _⟩
 ·have bn:(n1==lw)=false:=by simpa using kn
  by_cases kc:cu=cl
  ·have HR3:Hid (lL (fs ls) ⟨kd,n1,lo,hi',cc,S,N,ro,te,de,lw⟩=0):=by unfold Hid;rw[HR2.out,tg (by rintro(e|e);exact kn e;exact e kc)]
   have bc:(cu==cl)=true:=by simpa using kc
   clear HR2 kn kc
   go_quiet (fail)
   go_wp2_with fail
   go_ret
   exact⟨zY HR3.out.symm,yA HB2.out _⟩
  ·have HR3:Hid (lL (fs ls) ⟨kd,n1,lo,hi',cc,S,N,ro,te,de,lw⟩=6):=by unfold Hid;rw[HR2.out,tl (.inr kc)]
   have bc:(cu==cl)=false:=by simpa using kc
   clear HR2 kn kc
   go_quiet (fail)
   go_wp2_with fail
   go_ret
   exact⟨zY HR3.out.symm,yA HB2.out _⟩
theorem VR(hi:i<ls.length)(hc:ls.length<=c)(h:pG w a ls) :
 Calls Tryz.prog 105 #[.slice a ls.length c,.int .i64 i] w fun e w'=>e=.returned (.int .i64 (pS (fs ls) i))/\Below w.heap.size w w':=by
 have zII:=h.few;have HN:=zA (Ci w a c ls i hi hc h);have HI:=zA (Zp w a c ls i hi hc h);have HR:=zA (fun hk=>Vu w a c ls i hi hc hk h);have HO:=zA (fun sa na sn sc nn nc=>V6 w a c ls (mZ ls i).1 sa na sn sc nn nc h);have hkinds:=(h.rows _ (YY hi)).g.kinds;have HE:Hid (pS (fs ls) i=if (mZ ls i).1.kind=1 then iE (fs ls) i else if (mZ ls i).1.kind=2 then lW (fs ls) i else if (mZ ls i).1.kind=3 then bM (fs ls) i else if (mZ ls i).1.kind=4 then lL (fs ls) (mZ ls i).1 else 0):=by unfold Hid pS;rw[pC]
 obtain⟨gl,sa,sn,sc,na,nn,nc,rfl,hgl,⟨c0,c1,c2,c3,c4,c5,c6,c7,c8,c9,c10⟩,eq,hC⟩:=h.line hi;have HO2:=zA (HO.out sa na sn sc nn nc);unfold qA at HO2;clear h eq hC HO;generalize (mZ ls i).1=x at *;obtain⟨kd,n1,lo,hi',cc,S,N,ro,te,de,lw⟩:=x;simp only at c0 c1 c2 c3 c4 c5 c6 c7 c8 c9 c10 HR HO2 HE hkinds;rcases hkinds with rfl|rfl|rfl|rfl
 ·have HE2:Hid (pS (fs ls) i=iE (fs ls) i):=HE.out
  clear HE HI HR HO2 c1 c2 c3 c4 c5 c6 c7 c8 c9 c10
  go_enter Tryz.func105,Tryz.ntmps105
  go_wp2_with fail
  refine HN.out.mono ?_;rintro e w1 ⟨rfl,hb1⟩;have HB1:=zA hb1;clear hb1;go_wp2_with fail
  go_ret
  exact⟨zY HE2.out.symm,HB1.out⟩
 ·have HE2:Hid (pS (fs ls) i=lW (fs ls) i):=HE.out
  clear HE HN HR HO2 c1 c2 c3 c4 c5 c6 c7 c8 c9 c10
  go_enter Tryz.func105,Tryz.ntmps105
  go_wp2_with fail
  refine HI.out.mono ?_;rintro e w1 ⟨rfl,hb1⟩;have HB1:=zA hb1;clear hb1;go_wp2_with fail
  go_ret
  exact⟨zY HE2.out.symm,HB1.out⟩
 ·have HE2:Hid (pS (fs ls) i=bM (fs ls) i):=HE.out
  clear HE HN HI HO2 c1 c2 c3 c4 c5 c6 c7 c8 c9 c10
  go_enter Tryz.func105,Tryz.ntmps105
  go_wp2_with fail
  refine(HR.out trivial).mono ?_;rintro e w1 ⟨rfl,hb1⟩;have HB1:=zA hb1;clear hb1;go_wp2_with fail
  go_ret
  exact⟨zY HE2.out.symm,HB1.out⟩
 ·have HE2:Hid (pS (fs ls) i=lL (fs ls) ⟨4,n1,lo,hi',cc,S,N,ro,te,de,lw⟩):=HE.out
  clear HE HN HI HR
  go_enter Tryz.func105,Tryz.ntmps105
  go_wp2_with fail
  refine HO2.out.mono ?_;rintro e w1 ⟨rfl,hb1⟩;have HB1:=zA hb1;clear hb1;go_wp2_with fail
  go_ret
  exact⟨zY HE2.out.symm,HB1.out⟩
def fX(ls:List zF):Nat->Nat->Option Nat
 | 0,_=>none
 | n+1,i=>if mK ls i=true then some i else fX ls n (i+1)
def sO(ls:List zF):Nat->Nat->Option Nat
 | 0,_=>none
 | n+1,i=>if pS ls i=0 then sO ls n (i+1) else some i
def Kg(ls:List zF):Int × Int:=if jY (mA (zT ls) ls gZ)=true then (7,0) else if jY (jI (xH ls) ls gZ)=true then (7,1) else (0,0)
def J6(ls:List zF):Int × Int:=match sO ls ls.length 0 with|some i=>(pS ls i,(i:Int))|none=>Kg ls
def kC(ls:List zF):Int × Int:=match fX ls ls.length 0 with|some i=>(3,(i:Int))|none=>J6 ls
theorem Zc(names:List Bs)(ls:List zF):∀G,(mA names ls G).length=G.length:=by
 have hp:∀f (S:List yZ) G,(cJ names f S G).length=G.length:=by
  intro f S;induction S with
  | nil=>intro G;rfl
  | cons x r ih=>intro G;rw[cJ,ih,cR]
 have hn:∀f (N:List zX) G,(mU names f N G).length=G.length:=by
  intro f N;induction N with
  | nil=>intro G;rfl
  | cons x r ih=>intro G;rw[mU,ih];split
                 ·rw[cR]
                 ·rfl
 induction ls with
 | nil=>intro G;rfl
 | cons x r ih=>intro G;rw[mA,ih];split
                ·rw[hn,hp]
                ·rfl
theorem fG(labs:List Bs)(ls:List zF):∀G,(jI labs ls G).length=G.length:=by
 induction ls with
 | nil=>intro G;rfl
 | cons x r ih=>intro G;rw[jI,ih];split
                ·rw[cR]
                ·rfl
abbrev lG:Obj:=.cells #[.int .i64 0,.int .i64 0] 155 (0,0)
def sN(x:Int × Int):Value:=.agg #[.int .i64 x.1,.int .i64 x.2]
theorem sL{w:World}(hb:Below (w.alloc lG).heap.size (w.alloc lG) w1)(k:Nat):w1.frozen? ⟨w.heap.size,k,none⟩=false:=by
 have h1:w1.heap[w.heap.size]? = some lG:=by rw[hb.block _ (yL _ _)];exact zM _ _
 simp[World.frozen?,h1]
theorem cG{w:World}(hb:Below (w.alloc lG).heap.size (w.alloc lG) w1)(x y:Value) :
 ((w1.setCell ⟨w.heap.size,0,none⟩ x).setCell ⟨w.heap.size,1,none⟩ y).heap[w.heap.size]? = some (.cells #[x,y] 155 (0,0))/\Below w.heap.size w ((w1.setCell ⟨w.heap.size,0,none⟩ x).setCell ⟨w.heap.size,1,none⟩ y):=by
 have h1:w1.heap[w.heap.size]? = some lG:=by rw[hb.block _ (yL _ _)];exact zM _ _
 have h2:(w1.setCell ⟨w.heap.size,0,none⟩ x).heap[w.heap.size]? = some (.cells #[x,.int .i64 0] 155 (0,0)):=by
  rw[setCell_eq_setRow _ _ _ _ _ _ _ h1,ly _ _ _ _ _ _ h1];rfl
 refine⟨?_,((uP hb).setCell (p:=⟨w.heap.size,0,none⟩) (t9 _) _).setCell (p:=⟨w.heap.size,1,none⟩) (t9 _) _⟩;rw[setCell_eq_setRow _ _ _ _ _ _ _ h2,ly _ _ _ _ _ _ h2];rfl
theorem Zt:(Tryz.prog.info? 155).map (·.size)=some 2:=by kernel_rfl
theorem zEI(hc:ls.length<=c)(h:pG w a ls) :
 Calls Tryz.prog 62 #[.slice a ls.length c] w fun e w'=>e=.returned (sN (kC (fs ls)))/\Below w.heap.size w w':=by
 have HL:=zA h;have zII:=h.few;clear h
 go_enter Tryz.func62,Tryz.ntmps62
 go_wp2_with fail
 go_loopw [10] (fun iv wr=>∃(i:Nat),i<=ls.length/\iv=.int .i64 i/\Hid (Below (w.alloc lG).heap.size (w.alloc lG) wr)/\Hid (fX (fs ls) (ls.length-i) i=fX (fs ls) ls.length 0)) (fun iv _=>ls.length-(intOf iv).toNat)
 case atStart=>exact⟨0,tr _,rfl,zA (tj _ _),zA rfl⟩
 case round =>
  obtain⟨i,hi,rfl,HB,HE⟩:=hrel;have zJ2:Hid (Below w.heap.size w wr):=uP HB.out;have q:=dL HB.out;have hfz:=sL HB.out;by_cases zI6:i<ls.length
  ·have HC:=zA (VW wr a c ls i zI6 hc (HL.out.below zJ2.out (t9 _)))
   have hE:=HE.out;rw[show ls.length-i=(ls.length-(i+1))+1 by omega,fX]at hE;have HE2:=zA hE;clear HE hE;generalize mK (fs ls) i=z at *;cases z
   ·have HE3:Hid (fX (fs ls) (ls.length-(i+1)) (i+1)=fX (fs ls) ls.length 0):=HE2.out
    clear HE2;go_wp2_with fail
    refine HC.out.mono ?_;rintro e w1 ⟨rfl,hb1⟩;have HB1:Hid (Below (w.alloc lG).heap.size (w.alloc lG) w1):=HB.out.trans (hb1.mono HB.out.size);clear hb1;go_wp2_with fail
    go_roundw
    case rel=>exact⟨i+1,by omega,by go_num,HB1,HE3⟩
    case measure=>simp[intOf];omega
   ·have HR:Hid (kC (fs ls)=(3,(i:Int))):=by
     have:some i=fX (fs ls) ls.length 0:=HE2.out;unfold Hid kC;rw[ZS,<-this]
    clear HE2;go_wp2_with fail
    refine HC.out.mono ?_;rintro e w1 ⟨rfl,hb1⟩;have HB1:Hid (Below (w.alloc lG).heap.size (w.alloc lG) w1):=HB.out.trans (hb1.mono HB.out.size);have q1:=dL HB1.out;have hfz1:=sL HB1.out;clear hb1 q hfz;go_wp2_with fail
    refine ph (v:=sN (3,(i:Int))) (results_cell_row Tryz.results62 _ _ w.heap.size 155 #[.int .i64 3,.int .i64 (i:Int)] (0,0) _ rfl (cG HB1.out _ _).1 Tryz.underlying155 rfl Zt) rfl ⟨by rw[HR.out],(cG HB1.out _ _).2⟩
  ·have HMn:Hid (kC (fs ls)=J6 (fs ls)):=by
    have:=HE.out;rw[show ls.length-i=0 by omega]at this;unfold Hid kC;rw[ZS,<-this];rfl
   clear HE q hfz;obtain⟨wq,hwq⟩:∃wq,wq=wr:=⟨_,rfl⟩;subst hwq;go_wp2_with fail
   go_loopw [21] (fun iv wr=>∃(i:Nat),i<=ls.length/\iv=.int .i64 i/\Hid (Below (w.alloc lG).heap.size (w.alloc lG) wr)/\Hid (sO (fs ls) (ls.length-i) i=sO (fs ls) ls.length 0)) (fun iv _=>ls.length-(intOf iv).toNat)
   case atStart=>exact⟨0,tr _,rfl,HB,zA rfl⟩
   case round =>
    obtain⟨j,hj,rfl,HBj,HEj⟩:=hrel;have HBv:Hid (Below w.heap.size w wr):=uP HBj.out;by_cases hltj:j<ls.length
    ·have HC:=zA (VR wr a c ls j hltj hc (HL.out.below HBv.out (t9 _)))
     have hE:=HEj.out;rw[show ls.length-j=(ls.length-(j+1))+1 by omega,sO]at hE;have HE2:=zA hE;have HP:Hid (pS (fs ls) j=pS (fs ls) j):=rfl;clear HEj hE;by_cases hz:pS (fs ls) j=0
     ·have HE3:Hid (sO (fs ls) (ls.length-(j+1)) (j+1)=sO (fs ls) ls.length 0):=by have:=HE2.out;rw[tl hz]at this;exact this
      rw[hz]at HC;clear HE2 hz HP;go_wp2_with fail
      refine HC.out.mono ?_;rintro e w1 ⟨rfl,hb1⟩;have HB1:Hid (Below (w.alloc lG).heap.size (w.alloc lG) w1):=HBj.out.trans (hb1.mono HBj.out.size);clear hb1;go_wp2_with fail
      go_roundw
      case rel=>exact⟨j+1,by omega,by go_num,HB1,HE3⟩
      case measure=>simp[intOf];omega
     ·have HR:Hid (kC (fs ls)=(pS (fs ls) j,(j:Int))):=by
       have:some j=sO (fs ls) ls.length 0:=by have:=HE2.out;rw[tg hz]at this;exact this
       unfold Hid;rw[HMn.out,J6,ZS,<-this]
      clear HE2 HP;generalize pS (fs ls) j=er at *;have be:(er != 0)=true:=by simpa using hz
      clear hz;go_wp2_with fail
      refine HC.out.mono ?_;rintro e w1 ⟨rfl,hb1⟩;have HB1:Hid (Below (w.alloc lG).heap.size (w.alloc lG) w1):=HBj.out.trans (hb1.mono HBj.out.size);have q1:=dL HB1.out;have hfz1:=sL HB1.out;clear hb1;go_wp2_with fail
      refine ph (v:=sN (er,(j:Int))) (results_cell_row Tryz.results62 _ _ w.heap.size 155 #[.int .i64 er,.int .i64 (j:Int)] (0,0) _ rfl (cG HB1.out _ _).1 Tryz.underlying155 rfl Zt) rfl ⟨by rw[HR.out],(cG HB1.out _ _).2⟩
    ·have HRg:Hid (kC (fs ls)=Kg (fs ls)):=by
      have:=HEj.out;rw[show ls.length-j=0 by omega]at this;unfold Hid;rw[HMn.out,J6,ZS,<-this];rfl
     clear HEj HMn;have HNm:=zA (UQ wr a c ls (HL.out.below HBv.out (t9 _)));have hgl:(mA (zT (fs ls)) (fs ls) gZ).length=64:=by rw[Zc];exact vE
     have hgl2:(jI (xH (fs ls)) (fs ls) gZ).length=64:=by rw[fG];exact vE
     have HOr:=zA (fun w' (hb:Below w.heap.size w w')=>Fl w' a c ls (HL.out.below hb (t9 _)));have HR0:Hid (kC (fs ls)=if jY (mA (zT (fs ls)) (fs ls) gZ)=true then (7,0) else if jY (jI (xH (fs ls)) (fs ls) gZ)=true then (7,1) else (0,0)):=HRg.out;have HGL:=zA hgl;have HGL2:=zA hgl2;clear HRg hgl hgl2;generalize mA (zT (fs ls)) (fs ls) gZ=Gn at *;generalize jI (xH (fs ls)) (fs ls) gZ=Go at *;go_wp2_with fail
     refine HNm.out.mono ?_;rintro e w2 ⟨rfl,hb2⟩;have HB2:Hid (Below (w.alloc lG).heap.size (w.alloc lG) w2):=HBj.out.trans (hb2.mono HBj.out.size);clear hb2
     go_wp2_with (refine wpList_store_row ?zIM 94 (.tmp 6) (.tmp 34) ?ho w2.heap.size (gC Gn) ?hx ?hy 94 (gC gZ) (zM w2 _) (jU HGL.out) ?zIL (cB Gn) ?_
                  case ho=>rfl
                  case zIM=>rfl
                  case hx=>rfl
                  case hy=>rfl
                  case zIL=>rw[uY,uY,vE,HGL.out])
     refine(JQ _ w2.heap.size Gn ⟨ly _ _ (gC gZ) _ _ _ (zM w2 _),HGL.out⟩).mono ?_;rintro e w3 ⟨rfl,hb3⟩
     have HB3:Hid (Below (w.alloc lG).heap.size (w.alloc lG) w3):=by
      have h1:Below (w.alloc lG).heap.size (w.alloc lG) ((w2.alloc (.cells (gC gZ) 94 (0,0))).setRow w2.heap.size (gC Gn)):=xL (HB2.out.alloc HB2.out.size _) HB2.out.size _;exact h1.trans (hb3.mono h1.size)
     have q3:=dL HB3.out;have hfz3:=sL HB3.out;clear hb3;generalize jY Gn=z1 at *;cases z1
     ·have HR1:Hid (kC (fs ls)=if jY Go=true then (7,1) else (0,0)):=by have:=HR0.out;rw[tg dc]at this;exact this
      clear HR0;go_wp2_with fail
      refine(HOr.out _ (uP HB3.out)).mono ?_;rintro e w4 ⟨rfl,hb4⟩;have HB4:Hid (Below (w.alloc lG).heap.size (w.alloc lG) w4):=HB3.out.trans (hb4.mono HB3.out.size);clear hb4 q3 hfz3
      go_wp2_with (refine wpList_store_row ?zIM 94 (.tmp 7) (.tmp 38) ?ho w4.heap.size (gC Go) ?hx ?hy 94 (gC gZ) (zM w4 _) (jU HGL2.out) ?zIL (cB Go) ?_
                   case ho=>rfl
                   case zIM=>rfl
                   case hx=>rfl
                   case hy=>rfl
                   case zIL=>rw[uY,uY,vE,HGL2.out])
      refine(JQ _ w4.heap.size Go ⟨ly _ _ (gC gZ) _ _ _ (zM w4 _),HGL2.out⟩).mono ?_;rintro e w5 ⟨rfl,hb5⟩
      have HB5:Hid (Below (w.alloc lG).heap.size (w.alloc lG) w5):=by
       have h1:Below (w.alloc lG).heap.size (w.alloc lG) ((w4.alloc (.cells (gC gZ) 94 (0,0))).setRow w4.heap.size (gC Go)):=xL (HB4.out.alloc HB4.out.size _) HB4.out.size _;exact h1.trans (hb5.mono h1.size)
      have q5:=dL HB5.out;have hfz5:=sL HB5.out;clear hb5;generalize jY Go=z2 at *;cases z2
      ·have HR:Hid (kC (fs ls)=(0,0)):=by have:=HR1.out;rw[tg dc]at this;exact this
       clear HR1;go_wp2_with fail
       refine ph (v:=sN (0,0)) (results_cell_row Tryz.results62 _ _ w.heap.size 155 #[.int .i64 0,.int .i64 0] (0,0) _ rfl (cG HB5.out _ _).1 Tryz.underlying155 rfl Zt) rfl ⟨by rw[HR.out],(cG HB5.out _ _).2⟩
      ·have HR:Hid (kC (fs ls)=(7,1)):=by have:=HR1.out;rw[tl rfl]at this;exact this
       clear HR1;go_wp2_with fail
       refine ph (v:=sN (7,1)) (results_cell_row Tryz.results62 _ _ w.heap.size 155 #[.int .i64 7,.int .i64 1] (0,0) _ rfl (cG HB5.out _ _).1 Tryz.underlying155 rfl Zt) rfl ⟨by rw[HR.out],(cG HB5.out _ _).2⟩
     ·have HR:Hid (kC (fs ls)=(7,0)):=by have:=HR0.out;rw[tl rfl]at this;exact this
      clear HR0;go_wp2_with fail
      refine ph (v:=sN (7,0)) (results_cell_row Tryz.results62 _ _ w.heap.size 155 #[.int .i64 7,.int .i64 0] (0,0) _ rfl (cG HB3.out _ _).1 Tryz.underlying155 rfl Zt) rfl ⟨by rw[HR.out],(cG HB3.out _ _).2⟩
end Go.Proofs.YtnbpdffdnphbeaaGreatDoor
