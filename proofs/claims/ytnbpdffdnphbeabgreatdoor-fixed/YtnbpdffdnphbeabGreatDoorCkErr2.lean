import Derived.Test.YtnbpdffdnphbeabGreatDoorCkMany
set_option maxHeartbeats 8000000
set_option maxRecDepth 100000
namespace Go.Proofs.YtnbpdffdnphbeabGreatDoor
open Go.RowKit
variable{w1:World}(w:World)(a:Option Addr)(c:Nat)(ls:List LX)(i:Nat)
theorem xD{B:Nat}{a w:World}(h:Below B a w)(n:Nat):Below B a (w.drewN n):=⟨h.os,h.tape,h.output,h.size,h.block⟩
theorem Kx(hi:i<ls.length)(hc:ls.length<=c)(h:kT w a ls) :
 Calls Tryz.prog 112 #[.slice a ls.length c,.int .i64 i] w fun e w'=>e=.returned (.int .i64 (aA (fs ls) i))/\Below w.heap.size w w':=by
 have zEO:=h.few;have HI:=zA (rZ w a c ls i hi hc h);have HL:=zA h;have h4:fY (fs ls) i=4\/fY (fs ls) i=0:=by unfold fY;split;exact .inl rfl;exact .inr rfl
 rcases h4 with h4|h4
 ·have HR:Hid (aA (fs ls) i=4):=by unfold Hid aA;rw[h4];rfl
  rw[h4]at HI;clear h h4
  go_enter Tryz.func112,Tryz.ntmps112
  go_wp2_with fail
  refine HI.out.mono ?_;rintro e w1 ⟨rfl,hb1⟩;have HB1:=zA hb1;clear hb1;go_wp2_with fail
  go_ret
  exact⟨yN HR.out.symm,HB1.out⟩
 ·have HR:Hid (aA (fs ls) i=if (tE ls i).1.high<(tE ls i).1.low then 5 else 0):=by unfold Hid aA;rw[h4,kQ];rfl
  rw[h4]at HI;clear h h4
  go_enter Tryz.func112,Tryz.ntmps112
  go_wp2_with fail
  refine HI.out.mono ?_;rintro e w1 ⟨rfl,hb1⟩;have HB1:=zA hb1;obtain⟨gl,sa,sn,sc,na,nn,nc,rfl,hgl,⟨c0,c1,c2,c3,c4,c5,c6,c7,c8,c9,c10⟩,_,_⟩:=(HL.out.below hb1 (j1 _)).line hi;clear hb1 c0 c1 c4 c5 c6 c7 c8 c9 c10 HL HI;generalize (tE ls i).1.low=lo at *;generalize (tE ls i).1.high=hh at *;go_wp2_with fail
  go_quiet (fail)
  by_cases hk:hh<lo
  ·have HR2:Hid (aA (fs ls) i=5):=by unfold Hid;rw[HR.out,tg hk]
   go_wp2_with fail
   go_ret
   exact⟨yN HR2.out.symm,xD HB1.out _⟩
  ·have HR2:Hid (aA (fs ls) i=0):=by unfold Hid;rw[HR.out,t7 hk]
   go_wp2_with fail
   go_ret
   exact⟨yN HR2.out.symm,xD HB1.out _⟩
theorem dS{B:Nat}{a w:World}{o:Obj}(h:Below B a w)(hB:B<=w.heap.size)(h1:Below (w.alloc o).heap.size (w.alloc o) w1):Below B a w1:=(h.alloc hB o).trans (h1.mono (tr hB (p6 (zQ _ _))))
abbrev Bc(x:zE)(sv nv:Value):Array Value := #[.int .i64 x.kind,.string ⟨x.name.toArray⟩,.int .i64 x.low,.int .i64 x.high,.string ⟨x.conc.toArray⟩,sv,nv,.int .i64 x.root,.int .i64 x.tests,.int .i64 x.dep,.string ⟨x.lower.toArray⟩]
theorem Qr(hi:i<ls.length)(hc:ls.length<=c)(hk:(tE ls i).1.kind=3)(h:kT w a ls) :
 Calls Tryz.prog 114 #[.slice a ls.length c,.int .i64 i] w fun e w'=>e=.returned (.int .i64 (mA (fs ls) i))/\Below w.heap.size w w':=by
 have zEO:=h.few;have HR:Hid (mA (fs ls) i=if vP ((fs ls).take i) 3 (tE ls i).1.name || ((tE ls i).1.sum.any (fun x => !uJ (fs ls) x) || (tE ls i).1.nd.any (fun x => !xT (fs ls) x)) then 4 else 0):=by unfold Hid mA;rw[kQ]
 have H1:=zA (aH h c 3 (tE ls i).1.name i hi);have H2:=zA (fun nm=>QP h c nm);have H3:=zA (fun x=>Yl h c x);obtain⟨gl,sa,sn,sc,na,nn,nc,rfl,hgl,⟨c0,c1,c2,c3,c4,c5,c6,c7,c8,c9,c10⟩,eq,hC⟩:=h.line hi;obtain⟨rfl,hS,rfl,hN⟩:=hC.rule hk eq;have HS:=zA hS;have HN:=zA hN;have hs1:=hS.few;have hn1:=hN.few;unfold maxLen at hs1 hn1;clear h eq hC hS hN hk;generalize (tE ls i).1=x at *;obtain⟨kd,n1,lo,hi',cc,S,N,ro,te,de,lw⟩:=x;simp only at c0 c1 c2 c3 c4 c5 c6 c7 c8 c9 c10 HR H1 HS HN hs1 hn1;generalize vP ((fs ls).take i) 3 n1=p at *
 go_enter Tryz.func114,Tryz.ntmps114
 go_wp2_with fail
 go_cut [19] from 14 to 19 (fun v wx=>v=.bool p/\Hid (Below w.heap.size w wx)/\Hid (w.heap.size<wx.heap.size)/\∀j,wx.cell? ⟨w.heap.size,j,none⟩=(Bc ⟨kd,n1,lo,hi',cc,S,N,ro,te,de,lw⟩ (.slice sa S.length sc) (.slice na N.length nc))[j]?)
 case first =>
  go_region_with (go_at_call 153
                  refine(H1.out _ (pq (Below.alloc (t9 _ _) (j1 _) _))).mono ?_;rintro e w1 ⟨rfl,hb1⟩;have b1:=QY (nK (zH _ _)) hb1 (rP (zQ _ _));have HB1:Hid (Below w.heap.size w w1):=(pq (Below.alloc (t9 _ _) (j1 _) _)).trans (hb1.mono (p6 (rP (zQ _ _))));have q:=zC b1;have HZ:Hid (w.heap.size<w1.heap.size):=t8 (rP (zQ _ _)) hb1.size;clear hb1 b1)
  all_goals
   go_wp2_with fail
   go_meet
   exact⟨rfl,HB1,HZ,q⟩
 case rest =>
  obtain⟨rfl,HB1,HZ,q⟩:=hcut;clear c0 c1 c2 c3 c4 c5 c6 c7 c8 c9 c10 H1;cases p
  ·have HR2:Hid (mA (fs ls) i=if S.any (fun x => !uJ (fs ls) x) || N.any (fun x => !xT (fs ls) x) then 4 else 0):=HR.out
   clear HR;go_wp2_with fail
   go_loopw [23] (fun iv wr=>∃(k:Nat),k<=S.length/\iv=.int .i64 k/\Hid (Below wc.heap.size wc wr)/\Hid ((S.drop k).any (fun x => !uJ (fs ls) x)=S.any (fun x => !uJ (fs ls) x))) (fun iv _=>S.length-(intOf iv).toNat)
   case atStart=>exact⟨0,tq _,rfl,zA (t9 _ _),zA rfl⟩
   case round =>
    obtain⟨k,hk,rfl,zES,HE⟩:=hrel;have zEQ:Hid (Below w.heap.size w wr):=HB1.out.trans (zES.out.mono HB1.out.size);have zEF:=zES.out.size;have hsw:=zEQ.out.size;by_cases zE9:k<S.length
    ·obtain⟨g,yJ,rfl,hp⟩:=(HS.out.below zEQ.out (j1 _)).blk (by omega)
     obtain⟨d0,d1,d2,d3⟩:=hp.cells zE9;have hg:=hp.lt;have hE:=HE.out;rw[gQ _ xz _ k zE9,show S.getD k xz=Yc S k from rfl]at hE;have HE2:=zA hE;clear HE hE hp q;generalize Yc S k=y at *;obtain⟨mi,st,nu,nm⟩:=y;simp only at d0 d1 d2 d3;by_cases ko:nm=[]
     ·have HE3:Hid ((S.drop (k+1)).any (fun x => !uJ (fs ls) x)=S.any (fun x => !uJ (fs ls) x)):=by have:=HE2.out;unfold Hid;rw[<-this];simp[uJ,ko]
      have bo:(nm==[])=true:=by simpa using ko
      clear HE2 ko;go_wp2_with fail
      go_roundw
      case rel=>exact⟨k+1,by omega,by go_num,zA (zES.out.alloc zEF _),HE3⟩
      case measure=>simp[intOf];omega
     ·have HA:=zA (H2.out nm)
      have bo:(nm==[])=false:=by simpa using ko
      have HE2':Hid ((!Yw (fs ls) nm || (S.drop (k+1)).any (fun x => !uJ (fs ls) x))=S.any (fun x => !uJ (fs ls) x)):=by have:=HE2.out;unfold Hid;rw[<-this];simp[uJ,ko]
      clear HE2 ko;generalize Yw (fs ls) nm=z at *;cases z
      ·have HR3:Hid (mA (fs ls) i=4):=by unfold Hid;rw[HR2.out,<-HE2'.out];rfl
       clear HE2';go_wp2_with fail
       refine(HA.out _ (zEQ.out.alloc hsw _)).mono ?_;rintro e w1 ⟨rfl,hb1⟩;have HBn:Hid (Below w.heap.size w w1):=dS zEQ.out hsw hb1;clear hb1;go_wp2_with fail
       go_ret
       exact⟨yN HR3.out.symm,HBn.out⟩
      ·have HE3:Hid ((S.drop (k+1)).any (fun x => !uJ (fs ls) x)=S.any (fun x => !uJ (fs ls) x)):=by have:=HE2'.out;unfold Hid;rw[<-this];rfl
       clear HE2';go_wp2_with fail
       refine(HA.out _ (zEQ.out.alloc hsw _)).mono ?_;rintro e w1 ⟨rfl,hb1⟩;have HBn:Hid (Below wc.heap.size wc w1):=dS zES.out zEF hb1;clear hb1;go_wp2_with fail
       go_roundw
       case rel=>exact⟨k+1,by omega,by go_num,HBn,HE3⟩
       case measure=>simp[intOf];omega
    ·have HR3:Hid (mA (fs ls) i=if N.any (fun x => !xT (fs ls) x) then 4 else 0):=by
      have:=HE.out;rw[p8 (by omega)]at this;unfold Hid;rw[HR2.out,<-this];rfl
     have qr:∀j,wr.cell? ⟨w.heap.size,j,none⟩=(Bc ⟨kd,n1,lo,hi',cc,S,N,ro,te,de,lw⟩ (.slice sa S.length sc) (.slice na N.length nc))[j]? := fun j=>(zES.out.cell (p:=⟨w.heap.size,j,none⟩) HZ.out).trans (q j);clear HE HR2 q HS H2;obtain⟨wq,rfl⟩:∃wq,wq=wr:=⟨_,rfl⟩;go_wp2_with fail
     go_loopw [42] (fun iv wr=>∃(k:Nat),k<=N.length/\iv=.int .i64 k/\Hid (Below wq.heap.size wq wr)/\Hid ((N.drop k).any (fun x => !xT (fs ls) x)=N.any (fun x => !xT (fs ls) x))) (fun iv _=>N.length-(intOf iv).toNat)
     case atStart=>exact⟨0,tq _,rfl,zA (t9 _ _),zA rfl⟩
     case round =>
      obtain⟨m,hm,rfl,HBs,HF⟩:=hrel;have HBv:Hid (Below w.heap.size w wr):=zEQ.out.trans (HBs.out.mono hsw);have hsz2:=HBs.out.size;have hsw2:=HBv.out.size;by_cases zEJ:m<N.length
      ·obtain⟨g,yJ,rfl,hp⟩:=(HN.out.below HBv.out (j1 _)).blk (by omega)
       obtain⟨d0,d1,d2,d3,d4,d5,d6⟩:=hp.cells zEJ;have hg:=hp.lt;have hE:=HF.out;rw[gQ _ nz _ m zEJ,show N.getD m nz=qR N m from rfl]at hE;have HE2:=zA hE;have HA:=zA (H3.out (qR N m));clear HF hE hp qr;generalize xT (fs ls) (qR N m)=z at *;unfold qO at HA;generalize qR N m=y at *;obtain⟨kd',le,ri,nm,mk,ot,nu⟩:=y;simp only at d0 d1 d2 d3 d4 d5 d6 HA;cases z
       ·have HR4:Hid (mA (fs ls) i=4):=by unfold Hid;rw[HR3.out,<-HE2.out];rfl
        clear HE2;go_wp2_with fail
        refine(HA.out _ (HBv.out.alloc hsw2 _)).mono ?_;rintro e w1 ⟨rfl,hb1⟩;have HBn:Hid (Below w.heap.size w w1):=dS HBv.out hsw2 hb1;clear hb1;go_wp2_with fail
        go_ret
        exact⟨yN HR4.out.symm,HBn.out⟩
       ·have HE3:Hid ((N.drop (m+1)).any (fun x => !xT (fs ls) x)=N.any (fun x => !xT (fs ls) x)):=by have:=HE2.out;unfold Hid;rw[<-this];rfl
        clear HE2;go_wp2_with fail
        refine(HA.out _ (HBv.out.alloc hsw2 _)).mono ?_;rintro e w1 ⟨rfl,hb1⟩;have HBn:Hid (Below wq.heap.size wq w1):=dS HBs.out hsz2 hb1;clear hb1;go_wp2_with fail
        go_roundw
        case rel=>exact⟨m+1,by omega,by go_num,HBn,HE3⟩
        case measure=>simp[intOf];omega
      ·have HR4:Hid (mA (fs ls) i=0):=by
        have:=HF.out;rw[p8 (by omega)]at this;unfold Hid;rw[HR3.out,<-this];rfl
       clear HF;go_wp2_with fail
       go_ret
       exact⟨yN HR4.out.symm,HBv.out⟩
  ·have HR2:Hid (mA (fs ls) i=4):=HR.out
   clear HR;go_wp2_with fail
   go_ret
   exact⟨yN HR2.out.symm,HB1.out⟩
theorem JA(h:kT w a ls) :
 Calls Tryz.prog 75 #[.slice a ls.length c] w fun e w'=>e=.returned (.agg (gC (uE (zN (fs ls)) (fs ls) gZ)))/\Below w.heap.size w w':=by
 have HL:=zA h;have zEO:=h.few;have HRL:=zA (fun o=>oA (w.alloc o) a c ls (h.below (da (j1 _) o) (j1 _)));clear h
 go_enter Tryz.func75,Tryz.ntmps75
 go_wp2_with fail
 refine(HRL.out _).mono ?_;rintro e w1 ⟨v,rfl,zEA,zEE,hb1⟩;have hz:w1.heap[w.heap.size]? = some (.cells (gC gZ) 125 (0,0)):=by rw[hb1.block _ (zQ _ _)];exact zH _ _
 have hs:w.heap.size<w1.heap.size:=t8 (zQ _ _) hb1.size;have HK:=zA (fun o cs=>JC.mk' (o:=o) (cs:=cs) hz (vM hb1) hs zEA (by omega));obtain⟨la,lc,rfl,_⟩:=HK.out (.cells #[] 0 (0,0)) #[];generalize hlb:zN (fs ls)=zE6 at *;have HLB:=zA hlb;clear hlb
 have HK2:Hid (∀o cs,JC w ((w1.alloc o).setRow w1.heap.size cs) w1.heap.size la zE6):=fun o cs=>by
  obtain⟨a',c',e,p⟩:=HK.out o cs;simp only[Value.slice.injEq]at e;rw[e.1];exact p
 clear hz zEA hb1 HK HRL
 go_upto_region 2 with fail
 go_cut [4] from 16 to 16 (fun p4 wx=>p4=.pointer (some ⟨w1.heap.size,0,none⟩)/\Hid (JC w wx w1.heap.size la zE6)/\Hid (oX wx w1.heap.size gZ))
 case first =>
  go_wp2_with (refine wpList_store_row ?zEG 125 (.tmp 4) (.tmp 16) ?ho w1.heap.size (gC gZ) ?hx ?hy 125 (gC gZ) (zH w1 _) (qP yY) rfl (jL gZ) ?_
               case ho=>rfl
               case zEG=>rfl
               case hx=>rfl
               case hy=>rfl)
  go_meet
  exact⟨rfl,zA (HK2.out _ _),zA ⟨lq _ _ (gC gZ) _ _ _ (zH w1 _),yY⟩⟩
 case rest =>
  obtain⟨rfl,HM,HG0⟩:=hcut;generalize w1.heap.size=g at *;clear HK2;go_wp2_with fail
  go_loopw [19] (fun iv wr=>∃(i:Nat) (G:List Bool),i<=ls.length/\iv=.int .i64 i/\Hid (vY g wc wr)/\Hid (oX wr g G)/\Hid (uE zE6 ((fs ls).drop i) G=uE zE6 (fs ls) gZ)) (fun iv _=>ls.length-(intOf iv).toNat)
  case atStart=>exact⟨0,gZ,tq _,rfl,zA (vY.refl _ _),HG0,zA rfl⟩
  case round =>
   obtain⟨i,G,hi,rfl,HO,HG,HE⟩:=hrel;clear HG0;have zEQ:Hid (Below w.heap.size w wr):=HM.out.bel.trans (HO.out.below HM.out.bel.size (p6 HM.out.g1));by_cases zE9:i<ls.length
   ·obtain⟨gl,sa,sn,sc,na,nn,nc,rfl,hgl,⟨c0,c1,c2,c3,c4,c5,c6,c7,c8,c9,c10⟩,eq,hC⟩:=(HL.out.below zEQ.out (j1 _)).line zE9
    have hE:=HE.out;rw[Bt _ _ i _ (by simpa using zE9),kQ]at hE;have HE2:=zA hE;have HF:=zA (fun o nm=>ZG (wr.alloc o) la lc zE6 nm (HM.out.str _ (HO.out.alloc o)));have HRl:=zA (fun hk=>(HL.out.rows _ (iO zE9)).rule hk eq);clear HE hE hC eq;generalize (tE ls i).1=x at *;obtain⟨kd,n1,lo,hi',cc,S,N,ro,te,de,lw⟩:=x;simp only at c0 c1 c2 c3 c4 c5 c6 c7 c8 c9 c10 HRl;by_cases k1:kd=3
    ·have b1:(kd != 3)=false:=by simpa using k1
     obtain⟨rfl,hS,rfl,hN⟩:=HRl.out k1;have HE3:Hid (uE zE6 ((fs ls).drop (i+1)) (jG zE6 (zJ zE6 cc) N (tM zE6 (zJ zE6 cc) S G))=uE zE6 (fs ls) gZ):=by have:=HE2.out;rw[tg k1]at this;exact this
     have HS:=zA hS;have HN:=zA hN;have hs1:=hS.few;have hn1:=hN.few;unfold maxLen at hs1 hn1;have hgw:g<wr.heap.size:=t8 HM.out.lt HO.out.size;clear HE2 k1 HRl hS hN;go_wp2_with fail
     refine(HF.out _ cc).mono ?_;rintro e w2 ⟨rfl,hw⟩;have q:∀j,w2.cell? ⟨wr.heap.size,j,none⟩=(Bc ⟨kd,n1,lo,hi',cc,S,N,ro,te,de,lw⟩ (.slice sa S.length sc) (.slice na N.length nc))[j]? := by rw[hw];exact zC (zH _ _)
     have HO2:Hid (vY g wc w2):=by rw[hw];exact HO.out.alloc _
     have HG2:Hid (oX w2 g G):=by rw[hw];exact HG.out.new _
     have HBv:Hid (Below wr.heap.size wr w2):=by rw[hw];exact da (j1 _) _
     have HZ:Hid (wr.heap.size<w2.heap.size):=by rw[hw];exact zQ _ _
     clear hw HF c0 c1 c2 c3 c4 c5 c6 c7 c8 c9 c10 HG;generalize zJ zE6 cc=fr at *;obtain⟨wL,hwL⟩:∃wL,wL=wr:=⟨_,rfl⟩;subst hwL;go_wp2_with fail
     go_loopw [33] (fun iv wr=>∃(k:Nat) (H:List Bool),k<=S.length/\iv=.int .i64 k/\Hid (vY g w2 wr)/\Hid (oX wr g H)/\Hid (tM zE6 fr (S.drop k) H=tM zE6 fr S G)) (fun iv _=>S.length-(intOf iv).toNat)
     case atStart=>exact⟨0,G,tq _,rfl,zA (vY.refl _ _),HG2,zA rfl⟩
     case round =>
      obtain⟨k,H,hk,rfl,HOk,HGk,HEk⟩:=hrel;clear HG2;have HOc:Hid (vY g wc wr):=HO2.out.trans HOk.out;by_cases hltk:k<S.length
      ·have HBk:Hid (Below w.heap.size w wr):=HM.out.bel.trans (HOc.out.below HM.out.bel.size (p6 HM.out.g1))
       obtain⟨gs,yJ,rfl,hp⟩:=(HS.out.below HBk.out (j1 _)).blk (by omega);obtain⟨d0,d1,d2,d3⟩:=hp.cells hltk;have hgs:=hp.lt;have hE:=HEk.out;rw[Ko _ _ _ k _ hltk]at hE;have HE4:=zA hE;have HF2:=zA (fun o nm=>ZG (wr.alloc o) la lc zE6 nm (HM.out.str _ (HOc.out.alloc o)));have HA:=zA (fun o x y=>GW (wr.alloc o) g H x y (HGk.out.new o));clear HEk hE hp;generalize Yc S k=y at *;obtain⟨mi,st,nu,nm⟩:=y;simp only at d0 d1 d2 d3;go_wp2_with fail
       refine(HF2.out _ nm).mono ?_;rintro e w3 ⟨rfl,hw⟩;obtain rfl:=hw.symm;go_wp2_with fail
       refine(HA.out _ _ _).mono ?_;rintro e w3 ⟨rfl,hg3,ho3⟩;have HO3:Hid (vY g w2 w3):=(HOk.out.alloc _).trans ho3;have HG3:=zA hg3;clear hg3 ho3;go_wp2_with fail
       go_roundw
       case rel=>exact⟨k+1,_,by omega,by go_num,HO3,HG3,HE4⟩
       case measure=>simp[intOf];omega
      ·have HE4:Hid (H=tM zE6 fr S G):=by have:=HEk.out;rw[p8 (by omega)]at this;exact this
       have q2:∀j,wr.cell? ⟨wL.heap.size,j,none⟩=(Bc ⟨kd,n1,lo,hi',cc,S,N,ro,te,de,lw⟩ (.slice sa S.length sc) (.slice na N.length nc))[j]? := fun j=>by
        have e9:wr.heap[wL.heap.size]? = w2.heap[wL.heap.size]? := HOk.out.block _ HZ.out (by omega);have:=q j;simp only[World.cell?,e9]at this ⊢;exact this
       clear HEk q;obtain⟨wq,hwq⟩:∃wq,wq=wr:=⟨_,rfl⟩;subst hwq;go_wp2_with fail
       go_loopw [49] (fun iv wr=>∃(k:Nat) (H':List Bool),k<=N.length/\iv=.int .i64 k/\Hid (vY g wq wr)/\Hid (oX wr g H')/\Hid (jG zE6 fr (N.drop k) H'=jG zE6 fr N H)) (fun iv _=>N.length-(intOf iv).toNat)
       case atStart=>exact⟨0,H,tq _,rfl,zA (vY.refl _ _),HGk,zA rfl⟩
       case round =>
        obtain⟨m,H2,hm,rfl,HOm,HGm,HEm⟩:=hrel;clear HGk;have HOd:Hid (vY g wc wr):=HOc.out.trans HOm.out;by_cases hltm:m<N.length
        ·have HBk:Hid (Below w.heap.size w wr):=HM.out.bel.trans (HOd.out.below HM.out.bel.size (p6 HM.out.g1))
         obtain⟨gs,yJ,rfl,hp⟩:=(HN.out.below HBk.out (j1 _)).blk (by omega);obtain⟨d0,d1,d2,d3,d4,d5,d6⟩:=hp.cells hltm;have hgs:=hp.lt;have hE:=HEm.out;rw[K0 _ _ _ m _ hltm]at hE;have HE5:=zA hE;have HF2:=zA (fun o nm=>ZG (wr.alloc o) la lc zE6 nm (HM.out.str _ (HOd.out.alloc o)));have HA:=zA (fun o x y=>GW (wr.alloc o) g H2 x y (HGm.out.new o));clear HEm hE hp q2;generalize qR N m=y at *;obtain⟨kd',le,ri,nm,mk,ot,nu⟩:=y;simp only at d0 d1 d2 d3 d4 d5 d6;by_cases k5:kd'=5
         ·have b5:(kd'==5)=true:=by simpa using k5
          have HE6:Hid (jG zE6 fr (N.drop (m+1)) (dU H2 fr (zJ zE6 nm))=jG zE6 fr N H):=by have:=HE5.out;rw[tg k5]at this;exact this
          clear HE5 k5;go_wp2_with fail
          refine(HF2.out _ nm).mono ?_;rintro e w3 ⟨rfl,hw⟩;obtain rfl:=hw.symm;go_wp2_with fail
          refine(HA.out _ _ _).mono ?_;rintro e w3 ⟨rfl,hg3,ho3⟩;have HO3:Hid (vY g wq w3):=(HOm.out.alloc _).trans ho3;have HG3:=zA hg3;clear hg3 ho3;go_wp2_with fail
          go_roundw
          case rel=>exact⟨m+1,_,by omega,by go_num,HO3,HG3,HE6⟩
          case measure=>simp[intOf];omega
         ·have b5:(kd'==5)=false:=by simpa using k5
          have HE6:Hid (jG zE6 fr (N.drop (m+1)) H2=jG zE6 fr N H):=by have:=HE5.out;rw[t7 k5]at this;exact this
          clear HE5 k5;go_wp2_with fail
          go_roundw
          case rel=>exact⟨m+1,H2,by omega,by go_num,zA (HOm.out.alloc _),zA (HGm.out.new _),HE6⟩
          case measure=>simp[intOf];omega
        ·have HE6:Hid (uE zE6 ((fs ls).drop (i+1)) H2=uE zE6 (fs ls) gZ):=by
          have:=HEm.out;rw[p8 (by omega)]at this;unfold Hid;rw[<-HE3.out,<-HE4.out,<-this];rfl
         clear HEm;go_wp2_with fail
         go_roundw
         case rel=>exact⟨i+1,H2,by omega,by go_num,HOd,HGm,HE6⟩
         case measure=>simp[intOf];omega
    ·have b1:(kd != 3)=true:=by simpa using k1
     have HE3:Hid (uE zE6 ((fs ls).drop (i+1)) G=uE zE6 (fs ls) gZ):=by have:=HE2.out;rw[t7 k1]at this;exact this
     clear HE2 k1 HRl;go_wp2_with fail
     go_roundw
     case rel=>exact⟨i+1,G,by omega,by go_num,zA (HO.out.alloc _),zA (HG.out.new _),HE3⟩
     case measure=>simp[intOf];omega
   ·have HE3:Hid (G=uE zE6 (fs ls) gZ):=by have:=HE.out;rw[p8 (by simp;omega)]at this;exact this
    have HRs:Hid (wr.heap[w.heap.size]? = some (.cells (gC gZ) 125 (0,0))):=by
     unfold Hid;rw[HO.out.block _ (Nat.lt_trans HM.out.g1 HM.out.lt) (Nat.ne_of_lt HM.out.g1)];exact HM.out.res
    clear HE
    go_wp2_with (first
     | (refine wpList_load_row ?zEG 125 (.tmp 4) ?ho g ?hx 125 (gC G) (0,0) _ HG.out.1 Tryz.underlying125 rfl (qP HG.out.2) ?_
        case ho=>rfl
        case zEG=>rfl
        case hx=>rfl)
     | (refine wpList_store_row ?zEG 125 (.tmp 2) (.tmp 65) ?ho w.heap.size (gC G) ?hx ?hy 125 (gC gZ) HRs.out (qP HG.out.2) ?zEH (jL G) ?_
        case ho=>rfl
        case zEG=>rfl
        case hx=>rfl
        case hy=>rfl
        case zEH=>rw[xK,xK,yY,HG.out.2]))
    refine p5 (v:=.agg (gC G)) (results_cell_row Tryz.results75 _ _ w.heap.size 125 (gC G) (0,0) _ rfl (lq _ _ (gC gZ) _ _ _ HRs.out) Tryz.underlying125 rfl (qP HG.out.2)) rfl ⟨by rw[HLB.out,<-HE3.out],xC zEQ.out (j1 _) _⟩
theorem sG(ls:List zE)(nm:Bs):vT ls nm<=ls.length:=by have:=(Jm (rX 3 nm) ls 0).2;unfold vT;omega
theorem Qy(x:zE)(sa na:Option Addr)(sn sc nn nc:Nat)(h:kT w a ls) :
 Calls Tryz.prog 115 #[.slice a ls.length c,vS (.slice sa sn sc) (.slice na nn nc) x] w fun e w'=>e=.returned (.int .i64 (lR (fs ls) x))/\Below w.heap.size w w':=by
 have zEO:=h.few;have HL:=zA h;have HU:=zA (ZI h c x.name);have HW:=zA (ZI h c x.lower);have hu:=sG (fs ls) x.name;have hl:=sG (fs ls) x.lower;rw[aN]at hu hl
 have HR:Hid (lR (fs ls) x=if vT (fs ls) x.name=ls.length\/vT (fs ls) x.lower=ls.length then 4 else if x.name=x.lower\/(tE ls (vT (fs ls) x.name)).1.conc≠(tE ls (vT (fs ls) x.lower)).1.conc then 6 else 0):=by
  unfold Hid lR;rw[kQ,kQ,aN]
 clear h;obtain⟨kd,n1,lo,hi',cc,S,N,ro,te,de,lw⟩:=x;simp only at HU HW hu hl HR;unfold vS;generalize vT (fs ls) n1=fu at *;generalize vT (fs ls) lw=fl at *;by_cases ku:fu=ls.length
 ·have HR2:Hid (lR (fs ls) ⟨kd,n1,lo,hi',cc,S,N,ro,te,de,lw⟩=4):=by unfold Hid;rw[HR.out,tg (.inl ku)]
  clear HR
  go_enter Tryz.func115,Tryz.ntmps115
  go_wp2_with fail
  refine(HU.out _ (da (j1 _) _)).mono ?_;rintro e w1 ⟨rfl,hb1⟩;have HB1:Hid (Below w.heap.size w w1):=vM hb1;have q1:=mZ hb1;clear hb1;go_wp2_with fail
  refine(HW.out _ HB1.out).mono ?_;rintro e w2 ⟨rfl,hb2⟩;have HB2:Hid (Below w.heap.size w w2):=HB1.out.trans (hb2.mono HB1.out.size);clear hb2;go_wp2_with fail
  go_ret
  exact⟨yN HR2.out.symm,HB2.out⟩
 by_cases kl:fl=ls.length
 ·have HR2:Hid (lR (fs ls) ⟨kd,n1,lo,hi',cc,S,N,ro,te,de,lw⟩=4):=by unfold Hid;rw[HR.out,tg (.inr kl)]
  have bu:((fu:Int)==(ls.length:Int))=false:=by simp;omega
  clear HR ku
  go_enter Tryz.func115,Tryz.ntmps115
  go_wp2_with fail
  refine(HU.out _ (da (j1 _) _)).mono ?_;rintro e w1 ⟨rfl,hb1⟩;have HB1:Hid (Below w.heap.size w w1):=vM hb1;have q1:=mZ hb1;clear hb1;go_wp2_with fail
  refine(HW.out _ HB1.out).mono ?_;rintro e w2 ⟨rfl,hb2⟩;have HB2:Hid (Below w.heap.size w w2):=HB1.out.trans (hb2.mono HB1.out.size);clear hb2;go_wp2_with fail
  go_ret
  exact⟨yN HR2.out.symm,HB2.out⟩
 have hfu:fu<ls.length:=by omega
 have hfl:fl<ls.length:=by omega
 have HR2:Hid (lR (fs ls) ⟨kd,n1,lo,hi',cc,S,N,ro,te,de,lw⟩=if n1=lw\/(tE ls fu).1.conc≠(tE ls fl).1.conc then 6 else 0):=by unfold Hid;rw[HR.out,t7 (by rintro(e|e);exact ku e;exact kl e)]
 have bu:((fu:Int)==(ls.length:Int))=false:=by simp;omega
 have bl:((fl:Int)==(ls.length:Int))=false:=by simp;omega
 clear HR ku kl hu hl
 go_enter Tryz.func115,Tryz.ntmps115
 go_wp2_with fail
 refine(HU.out _ (da (j1 _) _)).mono ?_;rintro e w1 ⟨rfl,hb1⟩;have HB1:Hid (Below w.heap.size w w1):=vM hb1;have q1:=mZ hb1;have HZ:Hid (w.heap.size<w1.heap.size):=t8 (zQ _ _) hb1.size;clear hb1;go_wp2_with fail
 refine(HW.out _ HB1.out).mono ?_;rintro e w2 ⟨rfl,hb2⟩;have HB2:Hid (Below w.heap.size w w2):=HB1.out.trans (hb2.mono HB1.out.size);have q2:∀j,w2.cell? ⟨w.heap.size,j,none⟩=(Bc ⟨kd,n1,lo,hi',cc,S,N,ro,te,de,lw⟩ (.slice sa sn sc) (.slice na nn nc))[j]? := fun j=>(hb2.cell (p:=⟨w.heap.size,j,none⟩) HZ.out).trans (q1 j);clear hb2 q1;obtain⟨gl,_,_,_,_,_,_,rfl,hgl,⟨_,_,_,_,c4,_,_,_,_,_,_⟩,_,_⟩:=(HL.out.below HB2.out (j1 _)).line hfu;obtain⟨gl',_,_,_,_,_,_,hgg,_,⟨_,_,_,_,d4,_,_,_,_,_,_⟩,_,_⟩:=(HL.out.below HB2.out (j1 _)).line hfl;obtain rfl:gl=gl':=by simpa using hgg
 clear hgg HL;generalize (tE ls fu).1.conc=cu at *;generalize (tE ls fl).1.conc=cl at *;have e1:=q2 1;have e10:=q2 10;simp only[Bc,mz,bg,cf]at e1 e10;have ifu:(fu:Int)<(ls.length:Int):=by omega
 have ifl:(fl:Int)<(ls.length:Int):=by omega
 go_wp2_with fail
 by_cases kn:n1=lw
 ·have HR3:Hid (lR (fs ls) ⟨kd,n1,lo,hi',cc,S,N,ro,te,de,lw⟩=6):=by unfold Hid;rw[HR2.out,tg (.inl kn)]
  have bn:(n1==lw)=true:=by simpa using kn
  clear HR2 kn
  go_quiet (fail)
  go_wp2_with fail
  go_ret
  exact⟨yN HR3.out.symm,xD HB2.out _⟩
 ·have bn:(n1==lw)=false:=by simpa using kn
  by_cases kc:cu=cl
  ·have HR3:Hid (lR (fs ls) ⟨kd,n1,lo,hi',cc,S,N,ro,te,de,lw⟩=0):=by unfold Hid;rw[HR2.out,t7 (by rintro(e|e);exact kn e;exact e kc)]
   have bc:(cu==cl)=true:=by simpa using kc
   clear HR2 kn kc
   go_quiet (fail)
   go_wp2_with fail
   go_ret
   exact⟨yN HR3.out.symm,xD HB2.out _⟩
  ·have HR3:Hid (lR (fs ls) ⟨kd,n1,lo,hi',cc,S,N,ro,te,de,lw⟩=6):=by unfold Hid;rw[HR2.out,tg (.inr kc)]
   have bc:(cu==cl)=false:=by simpa using kc
   clear HR2 kn kc
   go_quiet (fail)
   go_wp2_with fail
   go_ret
   exact⟨yN HR3.out.symm,xD HB2.out _⟩
theorem QG(hi:i<ls.length)(hc:ls.length<=c)(h:kT w a ls) :
 Calls Tryz.prog 74 #[.slice a ls.length c,.int .i64 i] w fun e w'=>e=.returned (.int .i64 (tT (fs ls) i))/\Below w.heap.size w w':=by
 have zEO:=h.few;have HN:=zA (Kx w a c ls i hi hc h);have HI:=zA (rZ w a c ls i hi hc h);have HR:=zA (fun hk=>Qr w a c ls i hi hc hk h);have HO:=zA (fun sa na sn sc nn nc=>Qy w a c ls (tE ls i).1 sa na sn sc nn nc h);have hkinds:=(h.rows _ (iO hi)).g.kinds;have HE:Hid (tT (fs ls) i=if (tE ls i).1.kind=1 then aA (fs ls) i else if (tE ls i).1.kind=2 then fY (fs ls) i else if (tE ls i).1.kind=3 then mA (fs ls) i else if (tE ls i).1.kind=4 then lR (fs ls) (tE ls i).1 else 0):=by unfold Hid tT;rw[kQ]
 obtain⟨gl,sa,sn,sc,na,nn,nc,rfl,hgl,⟨c0,c1,c2,c3,c4,c5,c6,c7,c8,c9,c10⟩,eq,hC⟩:=h.line hi;have HO2:=zA (HO.out sa na sn sc nn nc);unfold vS at HO2;clear h eq hC HO;generalize (tE ls i).1=x at *;obtain⟨kd,n1,lo,hi',cc,S,N,ro,te,de,lw⟩:=x;simp only at c0 c1 c2 c3 c4 c5 c6 c7 c8 c9 c10 HR HO2 HE hkinds;rcases hkinds with rfl|rfl|rfl|rfl
 ·have HE2:Hid (tT (fs ls) i=aA (fs ls) i):=HE.out
  clear HE HI HR HO2 c1 c2 c3 c4 c5 c6 c7 c8 c9 c10
  go_enter Tryz.func74,Tryz.ntmps74
  go_wp2_with fail
  refine HN.out.mono ?_;rintro e w1 ⟨rfl,hb1⟩;have HB1:=zA hb1;clear hb1;go_wp2_with fail
  go_ret
  exact⟨yN HE2.out.symm,HB1.out⟩
 ·have HE2:Hid (tT (fs ls) i=fY (fs ls) i):=HE.out
  clear HE HN HR HO2 c1 c2 c3 c4 c5 c6 c7 c8 c9 c10
  go_enter Tryz.func74,Tryz.ntmps74
  go_wp2_with fail
  refine HI.out.mono ?_;rintro e w1 ⟨rfl,hb1⟩;have HB1:=zA hb1;clear hb1;go_wp2_with fail
  go_ret
  exact⟨yN HE2.out.symm,HB1.out⟩
 ·have HE2:Hid (tT (fs ls) i=mA (fs ls) i):=HE.out
  clear HE HN HI HO2 c1 c2 c3 c4 c5 c6 c7 c8 c9 c10
  go_enter Tryz.func74,Tryz.ntmps74
  go_wp2_with fail
  refine(HR.out trivial).mono ?_;rintro e w1 ⟨rfl,hb1⟩;have HB1:=zA hb1;clear hb1;go_wp2_with fail
  go_ret
  exact⟨yN HE2.out.symm,HB1.out⟩
 ·have HE2:Hid (tT (fs ls) i=lR (fs ls) ⟨4,n1,lo,hi',cc,S,N,ro,te,de,lw⟩):=HE.out
  clear HE HN HI HR
  go_enter Tryz.func74,Tryz.ntmps74
  go_wp2_with fail
  refine HO2.out.mono ?_;rintro e w1 ⟨rfl,hb1⟩;have HB1:=zA hb1;clear hb1;go_wp2_with fail
  go_ret
  exact⟨yN HE2.out.symm,HB1.out⟩
def mG(ls:List zE):Nat->Nat->Option Nat
 | 0,_=>none
 | n+1,i=>if qW ls i=true then some i else mG ls n (i+1)
def nT(ls:List zE):Nat->Nat->Option Nat
 | 0,_=>none
 | n+1,i=>if tT ls i=0 then nT ls n (i+1) else some i
def wT(ls:List zE):Int × Int:=if qA (uE (zN ls) ls gZ)=true then (7,0) else if qA (uB (xP ls) ls gZ)=true then (7,1) else (0,0)
def ZO(ls:List zE):Int × Int:=match nT ls ls.length 0 with|some i=>(tT ls i,(i:Int))|none=>wT ls
def qK(ls:List zE):Int × Int:=match mG ls ls.length 0 with|some i=>(3,(i:Int))|none=>ZO ls
theorem cL(zE6:List Bs)(ls:List zE):∀G,(uE zE6 ls G).length=G.length:=by
 have hp:∀f (S:List yT) G,(tM zE6 f S G).length=G.length:=by
  intro f S;induction S with
  | nil=>intro G;rfl
  | cons x r ih=>intro G;rw[tM,ih,tV]
 have hn:∀f (N:List zM) G,(jG zE6 f N G).length=G.length:=by
  intro f N;induction N with
  | nil=>intro G;rfl
  | cons x r ih=>intro G;rw[jG,ih];split
                 ·rw[tV]
                 ·rfl
 induction ls with
 | nil=>intro G;rfl
 | cons x r ih=>intro G;rw[uE,ih];split
                ·rw[hn,hp]
                ·rfl
theorem mE(labs:List Bs)(ls:List zE):∀G,(uB labs ls G).length=G.length:=by
 induction ls with
 | nil=>intro G;rfl
 | cons x r ih=>intro G;rw[uB,ih];split
                ·rw[tV]
                ·rfl
abbrev tI:Obj:=.cells #[.int .i64 0,.int .i64 0] 146 (0,0)
def gJ(x:Int × Int):Value:=.agg #[.int .i64 x.1,.int .i64 x.2]
theorem gF{w:World}(hb:Below (w.alloc tI).heap.size (w.alloc tI) w1)(k:Nat):w1.frozen? ⟨w.heap.size,k,none⟩=false:=by
 have h1:w1.heap[w.heap.size]? = some tI:=by rw[hb.block _ (zQ _ _)];exact zH _ _
 simp[World.frozen?,h1]
theorem pX{w:World}(hb:Below (w.alloc tI).heap.size (w.alloc tI) w1)(x y:Value) :
 ((w1.setCell ⟨w.heap.size,0,none⟩ x).setCell ⟨w.heap.size,1,none⟩ y).heap[w.heap.size]? = some (.cells #[x,y] 146 (0,0))/\Below w.heap.size w ((w1.setCell ⟨w.heap.size,0,none⟩ x).setCell ⟨w.heap.size,1,none⟩ y):=by
 have h1:w1.heap[w.heap.size]? = some tI:=by rw[hb.block _ (zQ _ _)];exact zH _ _
 have h2:(w1.setCell ⟨w.heap.size,0,none⟩ x).heap[w.heap.size]? = some (.cells #[x,.int .i64 0] 146 (0,0)):=by
  rw[setCell_eq_setRow _ _ _ _ _ _ _ h1,lq _ _ _ _ _ _ h1];rfl
 refine⟨?_,((vM hb).setCell (p:=⟨w.heap.size,0,none⟩) (j1 _) _).setCell (p:=⟨w.heap.size,1,none⟩) (j1 _) _⟩;rw[setCell_eq_setRow _ _ _ _ _ _ _ h2,lq _ _ _ _ _ _ h2];rfl
theorem sE:(Tryz.prog.info? 146).map (·.size)=some 2:=by kernel_rfl
theorem ky(hc:ls.length<=c)(h:kT w a ls) :
 Calls Tryz.prog 56 #[.slice a ls.length c] w fun e w'=>e=.returned (gJ (qK (fs ls)))/\Below w.heap.size w w':=by
 have HL:=zA h;have zEO:=h.few;clear h
 go_enter Tryz.func56,Tryz.ntmps56
 go_wp2_with fail
 go_loopw [10] (fun iv wr=>∃(i:Nat),i<=ls.length/\iv=.int .i64 i/\Hid (Below (w.alloc tI).heap.size (w.alloc tI) wr)/\Hid (mG (fs ls) (ls.length-i) i=mG (fs ls) ls.length 0)) (fun iv _=>ls.length-(intOf iv).toNat)
 case atStart=>exact⟨0,tq _,rfl,zA (t9 _ _),zA rfl⟩
 case round =>
  obtain⟨i,hi,rfl,HB,HE⟩:=hrel;have zEQ:Hid (Below w.heap.size w wr):=vM HB.out;have q:=mZ HB.out;have hfz:=gF HB.out;by_cases zE9:i<ls.length
  ·have HC:=zA (QN wr a c ls i zE9 hc (HL.out.below zEQ.out (j1 _)))
   have hE:=HE.out;rw[show ls.length-i=(ls.length-(i+1))+1 by omega,mG]at hE;have HE2:=zA hE;clear HE hE;generalize qW (fs ls) i=z at *;cases z
   ·have HE3:Hid (mG (fs ls) (ls.length-(i+1)) (i+1)=mG (fs ls) ls.length 0):=HE2.out
    clear HE2;go_wp2_with fail
    refine HC.out.mono ?_;rintro e w1 ⟨rfl,hb1⟩;have HB1:Hid (Below (w.alloc tI).heap.size (w.alloc tI) w1):=HB.out.trans (hb1.mono HB.out.size);clear hb1;go_wp2_with fail
    go_roundw
    case rel=>exact⟨i+1,by omega,by go_num,HB1,HE3⟩
    case measure=>simp[intOf];omega
   ·have HR:Hid (qK (fs ls)=(3,(i:Int))):=by
     have:some i=mG (fs ls) ls.length 0:=HE2.out;unfold Hid qK;rw[aN,<-this]
    clear HE2;go_wp2_with fail
    refine HC.out.mono ?_;rintro e w1 ⟨rfl,hb1⟩;have HB1:Hid (Below (w.alloc tI).heap.size (w.alloc tI) w1):=HB.out.trans (hb1.mono HB.out.size);have q1:=mZ HB1.out;have hfz1:=gF HB1.out;clear hb1 q hfz;go_wp2_with fail
    refine p5 (v:=gJ (3,(i:Int))) (results_cell_row Tryz.results56 _ _ w.heap.size 146 #[.int .i64 3,.int .i64 (i:Int)] (0,0) _ rfl (pX HB1.out _ _).1 Tryz.underlying146 rfl sE) rfl ⟨by rw[HR.out],(pX HB1.out _ _).2⟩
  ·have HMn:Hid (qK (fs ls)=ZO (fs ls)):=by
    have:=HE.out;rw[show ls.length-i=0 by omega]at this;unfold Hid qK;rw[aN,<-this];rfl
   clear HE q hfz;obtain⟨wq,hwq⟩:∃wq,wq=wr:=⟨_,rfl⟩;subst hwq;go_wp2_with fail
   go_loopw [21] (fun iv wr=>∃(i:Nat),i<=ls.length/\iv=.int .i64 i/\Hid (Below (w.alloc tI).heap.size (w.alloc tI) wr)/\Hid (nT (fs ls) (ls.length-i) i=nT (fs ls) ls.length 0)) (fun iv _=>ls.length-(intOf iv).toNat)
   case atStart=>exact⟨0,tq _,rfl,HB,zA rfl⟩
   case round =>
    obtain⟨j,hj,rfl,HBj,HEj⟩:=hrel;have HBv:Hid (Below w.heap.size w wr):=vM HBj.out;by_cases hltj:j<ls.length
    ·have HC:=zA (QG wr a c ls j hltj hc (HL.out.below HBv.out (j1 _)))
     have hE:=HEj.out;rw[show ls.length-j=(ls.length-(j+1))+1 by omega,nT]at hE;have HE2:=zA hE;have HP:Hid (tT (fs ls) j=tT (fs ls) j):=rfl;clear HEj hE;by_cases hz:tT (fs ls) j=0
     ·have HE3:Hid (nT (fs ls) (ls.length-(j+1)) (j+1)=nT (fs ls) ls.length 0):=by have:=HE2.out;rw[tg hz]at this;exact this
      rw[hz]at HC;clear HE2 hz HP;go_wp2_with fail
      refine HC.out.mono ?_;rintro e w1 ⟨rfl,hb1⟩;have HB1:Hid (Below (w.alloc tI).heap.size (w.alloc tI) w1):=HBj.out.trans (hb1.mono HBj.out.size);clear hb1;go_wp2_with fail
      go_roundw
      case rel=>exact⟨j+1,by omega,by go_num,HB1,HE3⟩
      case measure=>simp[intOf];omega
     ·have HR:Hid (qK (fs ls)=(tT (fs ls) j,(j:Int))):=by
       have:some j=nT (fs ls) ls.length 0:=by have:=HE2.out;rw[t7 hz]at this;exact this
       unfold Hid;rw[HMn.out,ZO,aN,<-this]
      clear HE2 HP;generalize tT (fs ls) j=er at *;have be:(er != 0)=true:=by simpa using hz
      clear hz;go_wp2_with fail
      refine HC.out.mono ?_;rintro e w1 ⟨rfl,hb1⟩;have HB1:Hid (Below (w.alloc tI).heap.size (w.alloc tI) w1):=HBj.out.trans (hb1.mono HBj.out.size);have q1:=mZ HB1.out;have hfz1:=gF HB1.out;clear hb1;go_wp2_with fail
      refine p5 (v:=gJ (er,(j:Int))) (results_cell_row Tryz.results56 _ _ w.heap.size 146 #[.int .i64 er,.int .i64 (j:Int)] (0,0) _ rfl (pX HB1.out _ _).1 Tryz.underlying146 rfl sE) rfl ⟨by rw[HR.out],(pX HB1.out _ _).2⟩
    ·have HRg:Hid (qK (fs ls)=wT (fs ls)):=by
      have:=HEj.out;rw[show ls.length-j=0 by omega]at this;unfold Hid;rw[HMn.out,ZO,aN,<-this];rfl
     clear HEj HMn;have HNm:=zA (JA wr a c ls (HL.out.below HBv.out (j1 _)));have hgl:(uE (zN (fs ls)) (fs ls) gZ).length=64:=by rw[cL];exact yY
     have hgl2:(uB (xP (fs ls)) (fs ls) gZ).length=64:=by rw[mE];exact yY
     have HOr:=zA (fun w' (hb:Below w.heap.size w w')=>UD w' a c ls (HL.out.below hb (j1 _)));have HR0:Hid (qK (fs ls)=if qA (uE (zN (fs ls)) (fs ls) gZ)=true then (7,0) else if qA (uB (xP (fs ls)) (fs ls) gZ)=true then (7,1) else (0,0)):=HRg.out;have HGL:=zA hgl;have HGL2:=zA hgl2;clear HRg hgl hgl2;generalize uE (zN (fs ls)) (fs ls) gZ=Gn at *;generalize uB (xP (fs ls)) (fs ls) gZ=Go at *;go_wp2_with fail
     refine HNm.out.mono ?_;rintro e w2 ⟨rfl,hb2⟩;have HB2:Hid (Below (w.alloc tI).heap.size (w.alloc tI) w2):=HBj.out.trans (hb2.mono HBj.out.size);clear hb2
     go_wp2_with (refine wpList_store_row ?zEG 125 (.tmp 6) (.tmp 34) ?ho w2.heap.size (gC Gn) ?hx ?hy 125 (gC gZ) (zH w2 _) (qP HGL.out) ?zEH (jL Gn) ?_
                  case ho=>rfl
                  case zEG=>rfl
                  case hx=>rfl
                  case hy=>rfl
                  case zEH=>rw[xK,xK,yY,HGL.out])
     refine(Xd _ w2.heap.size Gn ⟨lq _ _ (gC gZ) _ _ _ (zH w2 _),HGL.out⟩).mono ?_;rintro e w3 ⟨rfl,hb3⟩
     have HB3:Hid (Below (w.alloc tI).heap.size (w.alloc tI) w3):=by
      have h1:Below (w.alloc tI).heap.size (w.alloc tI) ((w2.alloc (.cells (gC gZ) 125 (0,0))).setRow w2.heap.size (gC Gn)):=xC (HB2.out.alloc HB2.out.size _) HB2.out.size _;exact h1.trans (hb3.mono h1.size)
     have q3:=mZ HB3.out;have hfz3:=gF HB3.out;clear hb3;generalize qA Gn=z1 at *;cases z1
     ·have HR1:Hid (qK (fs ls)=if qA Go=true then (7,1) else (0,0)):=by have:=HR0.out;rw[t7 Bool.false_ne_true]at this;exact this
      clear HR0;go_wp2_with fail
      refine(HOr.out _ (vM HB3.out)).mono ?_;rintro e w4 ⟨rfl,hb4⟩;have HB4:Hid (Below (w.alloc tI).heap.size (w.alloc tI) w4):=HB3.out.trans (hb4.mono HB3.out.size);clear hb4 q3 hfz3
      go_wp2_with (refine wpList_store_row ?zEG 125 (.tmp 7) (.tmp 38) ?ho w4.heap.size (gC Go) ?hx ?hy 125 (gC gZ) (zH w4 _) (qP HGL2.out) ?zEH (jL Go) ?_
                   case ho=>rfl
                   case zEG=>rfl
                   case hx=>rfl
                   case hy=>rfl
                   case zEH=>rw[xK,xK,yY,HGL2.out])
      refine(Xd _ w4.heap.size Go ⟨lq _ _ (gC gZ) _ _ _ (zH w4 _),HGL2.out⟩).mono ?_;rintro e w5 ⟨rfl,hb5⟩
      have HB5:Hid (Below (w.alloc tI).heap.size (w.alloc tI) w5):=by
       have h1:Below (w.alloc tI).heap.size (w.alloc tI) ((w4.alloc (.cells (gC gZ) 125 (0,0))).setRow w4.heap.size (gC Go)):=xC (HB4.out.alloc HB4.out.size _) HB4.out.size _;exact h1.trans (hb5.mono h1.size)
      have q5:=mZ HB5.out;have hfz5:=gF HB5.out;clear hb5;generalize qA Go=z2 at *;cases z2
      ·have HR:Hid (qK (fs ls)=(0,0)):=by have:=HR1.out;rw[t7 Bool.false_ne_true]at this;exact this
       clear HR1;go_wp2_with fail
       refine p5 (v:=gJ (0,0)) (results_cell_row Tryz.results56 _ _ w.heap.size 146 #[.int .i64 0,.int .i64 0] (0,0) _ rfl (pX HB5.out _ _).1 Tryz.underlying146 rfl sE) rfl ⟨by rw[HR.out],(pX HB5.out _ _).2⟩
      ·have HR:Hid (qK (fs ls)=(7,1)):=by have:=HR1.out;rw[tg rfl]at this;exact this
       clear HR1;go_wp2_with fail
       refine p5 (v:=gJ (7,1)) (results_cell_row Tryz.results56 _ _ w.heap.size 146 #[.int .i64 7,.int .i64 1] (0,0) _ rfl (pX HB5.out _ _).1 Tryz.underlying146 rfl sE) rfl ⟨by rw[HR.out],(pX HB5.out _ _).2⟩
     ·have HR:Hid (qK (fs ls)=(7,0)):=by have:=HR0.out;rw[tg rfl]at this;exact this
      clear HR0;go_wp2_with fail
      refine p5 (v:=gJ (7,0)) (results_cell_row Tryz.results56 _ _ w.heap.size 146 #[.int .i64 7,.int .i64 0] (0,0) _ rfl (pX HB3.out _ _).1 Tryz.underlying146 rfl sE) rfl ⟨by rw[HR.out],(pX HB3.out _ _).2⟩
end Go.Proofs.YtnbpdffdnphbeabGreatDoor
