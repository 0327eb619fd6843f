import Derived.Test.YtnbpdffdnphbeabGreatDoorCkMany
set_option maxHeartbeats 8000000
set_option maxRecDepth 100000
namespace Go.Proofs.YtnbpdffdnphbeabGreatDoor
open Go.RowKit
variable{w1:World}(w:World)(a:Option Addr)(c:Nat)(ls:List LX)(i:Nat)
theorem xI{B:Nat}{a w:World}(h:Below B a w)(n:Nat):Below B a (w.drewN n):=⟨h.os,h.tape,h.output,h.size,h.block⟩
theorem Bi(hi:i<ls.length)(hc:ls.length<=c)(h:jU w a ls) :
 Calls Tryz.prog 112 #[.slice a ls.length c,.int .i64 i] w fun e w'=>e=.returned (.int .i64 (wX (fs ls) i))/\Below w.heap.size w w':=by
 have zKI:=h.few;have HI:=zA (iI w a c ls i hi hc h);have HL:=zA h;have h4:oV (fs ls) i=4\/oV (fs ls) i=0:=by unfold oV;split;exact .inl rfl;exact .inr rfl
 rcases h4 with h4|h4
 ·have HR:Hid (wX (fs ls) i=4):=by unfold Hid wX;rw[h4];rfl
  rw[h4]at HI;clear h h4
  go_enter Tryz.func112,Tryz.ntmps112
  go_wp2_with fail
  refine HI.out.mono ?_;rintro e w1 ⟨rfl,hb1⟩;have HB1:=zA hb1;clear hb1;go_wp2_with fail
  go_ret
  exact⟨yQ HR.out.symm,HB1.out⟩
 ·have HR:Hid (wX (fs ls) i=if (pG ls i).1.high<(pG ls i).1.low then 5 else 0):=by unfold Hid wX;rw[h4,jR];rfl
  rw[h4]at HI;clear h h4
  go_enter Tryz.func112,Tryz.ntmps112
  go_wp2_with fail
  refine HI.out.mono ?_;rintro e w1 ⟨rfl,hb1⟩;have HB1:=zA hb1;obtain⟨gl,sa,sn,sc,na,nn,nc,rfl,hgl,⟨c0,c1,c2,c3,c4,c5,c6,c7,c8,c9,c10⟩,_,_⟩:=(HL.out.below hb1 (j1 _)).line hi;clear hb1 c0 c1 c4 c5 c6 c7 c8 c9 c10 HL HI;generalize (pG ls i).1.low=lo at *;generalize (pG ls i).1.high=hh at *;go_wp2_with fail
  go_quiet (fail)
  by_cases hk:hh<lo
  ·have HR2:Hid (wX (fs ls) i=5):=by unfold Hid;rw[HR.out,tm hk]
   go_wp2_with fail
   go_ret
   exact⟨yQ HR2.out.symm,xI HB1.out _⟩
  ·have HR2:Hid (wX (fs ls) i=0):=by unfold Hid;rw[HR.out,tb hk]
   go_wp2_with fail
   go_ret
   exact⟨yQ HR2.out.symm,xI HB1.out _⟩
theorem nD{B:Nat}{a w:World}{o:Obj}(h:Below B a w)(hB:B<=w.heap.size)(h1:Below (w.alloc o).heap.size (w.alloc o) w1):Below B a w1:=(h.alloc hB o).trans (h1.mono (p7 hB (ph (zY _ _))))
abbrev Fj(x:zE)(sv nv:Value):Array Value := #[.int .i64 x.kind,.string ⟨x.name.toArray⟩,.int .i64 x.low,.int .i64 x.high,.string ⟨x.conc.toArray⟩,sv,nv,.int .i64 x.root,.int .i64 x.tests,.int .i64 x.dep,.string ⟨x.lower.toArray⟩]
theorem KJ(hi:i<ls.length)(hc:ls.length<=c)(hk:(pG ls i).1.kind=3)(h:jU w a ls) :
 Calls Tryz.prog 114 #[.slice a ls.length c,.int .i64 i] w fun e w'=>e=.returned (.int .i64 (lO (fs ls) i))/\Below w.heap.size w w':=by
 have zKI:=h.few;have HR:Hid (lO (fs ls) i=if uR ((fs ls).take i) 3 (pG ls i).1.name || ((pG ls i).1.sum.any (fun x => !qJ (fs ls) x) || (pG ls i).1.nd.any (fun x => !vE (fs ls) x)) then 4 else 0):=by unfold Hid lO;rw[jR]
 have H1:=zA (Ze h c 3 (pG ls i).1.name i hi);have H2:=zA (fun nm=>Vx h c nm);have H3:=zA (fun x=>Qe h c x);obtain⟨gl,sa,sn,sc,na,nn,nc,rfl,hgl,⟨c0,c1,c2,c3,c4,c5,c6,c7,c8,c9,c10⟩,eq,hC⟩:=h.line hi;obtain⟨rfl,hS,rfl,hN⟩:=hC.rule hk eq;have HS:=zA hS;have HN:=zA hN;have hs1:=hS.few;have hn1:=hN.few;unfold maxLen at hs1 hn1;clear h eq hC hS hN hk;generalize (pG ls i).1=x at *;obtain⟨kd,n1,lo,hi',cc,S,N,ro,te,de,lw⟩:=x;simp only at c0 c1 c2 c3 c4 c5 c6 c7 c8 c9 c10 HR H1 HS HN hs1 hn1;generalize uR ((fs ls).take i) 3 n1=p at *
 go_enter Tryz.func114,Tryz.ntmps114
 go_wp2_with fail
 go_cut [19] from 14 to 19 (fun v wx=>v=.bool p/\Hid (Below w.heap.size w wx)/\Hid (w.heap.size<wx.heap.size)/\∀j,wx.cell? ⟨w.heap.size,j,none⟩=(Fj ⟨kd,n1,lo,hi',cc,S,N,ro,te,de,lw⟩ (.slice sa S.length sc) (.slice na N.length nc))[j]?)
 case first =>
  go_region_with (go_at_call 153
                  refine(H1.out _ (po (Below.alloc (tg _ _) (j1 _) _))).mono ?_;rintro e w1 ⟨rfl,hb1⟩;have b1:=V8 (sF (zG _ _)) hb1 (iA (zY _ _));have HB1:Hid (Below w.heap.size w w1):=(po (Below.alloc (tg _ _) (j1 _) _)).trans (hb1.mono (ph (iA (zY _ _))));have q:=zB b1;have HZ:Hid (w.heap.size<w1.heap.size):=tj (iA (zY _ _)) hb1.size;clear hb1 b1)
  all_goals
   go_wp2_with fail
   go_meet
   exact⟨rfl,HB1,HZ,q⟩
 case rest =>
  obtain⟨rfl,HB1,HZ,q⟩:=hcut;clear c0 c1 c2 c3 c4 c5 c6 c7 c8 c9 c10 H1;cases p
  ·have HR2:Hid (lO (fs ls) i=if S.any (fun x => !qJ (fs ls) x) || N.any (fun x => !vE (fs ls) x) then 4 else 0):=HR.out
   clear HR;go_wp2_with fail
   go_loopw [23] (fun iv wr=>∃(k:Nat),k<=S.length/\iv=.int .i64 k/\Hid (Below wc.heap.size wc wr)/\Hid ((S.drop k).any (fun x => !qJ (fs ls) x)=S.any (fun x => !qJ (fs ls) x))) (fun iv _=>S.length-(intOf iv).toNat)
   case atStart=>exact⟨0,ty _,rfl,zA (tg _ _),zA rfl⟩
   case round =>
    obtain⟨k,hk,rfl,zKM,HE⟩:=hrel;have zKO:Hid (Below w.heap.size w wr):=HB1.out.trans (zKM.out.mono HB1.out.size);have zKD:=zKM.out.size;have hsw:=zKO.out.size;by_cases zK4:k<S.length
    ·obtain⟨g,yM,rfl,hp⟩:=(HS.out.below zKO.out (j1 _)).blk (by omega)
     obtain⟨d0,d1,d2,d3⟩:=hp.cells zK4;have hg:=hp.lt;have hE:=HE.out;rw[rJ _ xz _ k zK4,show S.getD k xz=XV S k from rfl]at hE;have HE2:=zA hE;clear HE hE hp q;generalize XV S k=y at *;obtain⟨mi,st,nu,nm⟩:=y;simp only at d0 d1 d2 d3;by_cases ko:nm=[]
     ·have HE3:Hid ((S.drop (k+1)).any (fun x => !qJ (fs ls) x)=S.any (fun x => !qJ (fs ls) x)):=by have:=HE2.out;unfold Hid;rw[<-this];simp[qJ,ko]
      have bo:(nm==[])=true:=by simpa using ko
      clear HE2 ko;go_wp2_with fail
      go_roundw
      case rel=>exact⟨k+1,by omega,by go_num,zA (zKM.out.alloc zKD _),HE3⟩
      case measure=>simp[intOf];omega
     ·have HA:=zA (H2.out nm)
      have bo:(nm==[])=false:=by simpa using ko
      have HE2':Hid ((!Qs (fs ls) nm || (S.drop (k+1)).any (fun x => !qJ (fs ls) x))=S.any (fun x => !qJ (fs ls) x)):=by have:=HE2.out;unfold Hid;rw[<-this];simp[qJ,ko]
      clear HE2 ko;generalize Qs (fs ls) nm=z at *;cases z
      ·have HR3:Hid (lO (fs ls) i=4):=by unfold Hid;rw[HR2.out,<-HE2'.out];rfl
       clear HE2';go_wp2_with fail
       refine(HA.out _ (zKO.out.alloc hsw _)).mono ?_;rintro e w1 ⟨rfl,hb1⟩;have HBn:Hid (Below w.heap.size w w1):=nD zKO.out hsw hb1;clear hb1;go_wp2_with fail
       go_ret
       exact⟨yQ HR3.out.symm,HBn.out⟩
      ·have HE3:Hid ((S.drop (k+1)).any (fun x => !qJ (fs ls) x)=S.any (fun x => !qJ (fs ls) x)):=by have:=HE2'.out;unfold Hid;rw[<-this];rfl
       clear HE2';go_wp2_with fail
       refine(HA.out _ (zKO.out.alloc hsw _)).mono ?_;rintro e w1 ⟨rfl,hb1⟩;have HBn:Hid (Below wc.heap.size wc w1):=nD zKM.out zKD hb1;clear hb1;go_wp2_with fail
       go_roundw
       case rel=>exact⟨k+1,by omega,by go_num,HBn,HE3⟩
       case measure=>simp[intOf];omega
    ·have HR3:Hid (lO (fs ls) i=if N.any (fun x => !vE (fs ls) x) then 4 else 0):=by
      have:=HE.out;rw[pf (by omega)]at this;unfold Hid;rw[HR2.out,<-this];rfl
     have qr:∀j,wr.cell? ⟨w.heap.size,j,none⟩=(Fj ⟨kd,n1,lo,hi',cc,S,N,ro,te,de,lw⟩ (.slice sa S.length sc) (.slice na N.length nc))[j]? := fun j=>(zKM.out.cell (p:=⟨w.heap.size,j,none⟩) HZ.out).trans (q j);clear HE HR2 q HS H2;obtain⟨wq,rfl⟩:∃wq,wq=wr:=⟨_,rfl⟩;go_wp2_with fail
     go_loopw [42] (fun iv wr=>∃(k:Nat),k<=N.length/\iv=.int .i64 k/\Hid (Below wq.heap.size wq wr)/\Hid ((N.drop k).any (fun x => !vE (fs ls) x)=N.any (fun x => !vE (fs ls) x))) (fun iv _=>N.length-(intOf iv).toNat)
     case atStart=>exact⟨0,ty _,rfl,zA (tg _ _),zA rfl⟩
     case round =>
      obtain⟨m,hm,rfl,HBs,HF⟩:=hrel;have HBv:Hid (Below w.heap.size w wr):=zKO.out.trans (HBs.out.mono hsw);have hsz2:=HBs.out.size;have hsw2:=HBv.out.size;by_cases zKJ:m<N.length
      ·obtain⟨g,yM,rfl,hp⟩:=(HN.out.below HBv.out (j1 _)).blk (by omega)
       obtain⟨d0,d1,d2,d3,d4,d5,d6⟩:=hp.cells zKJ;have hg:=hp.lt;have hE:=HF.out;rw[rJ _ nz _ m zKJ,show N.getD m nz=pO N m from rfl]at hE;have HE2:=zA hE;have HA:=zA (H3.out (pO N m));clear HF hE hp qr;generalize vE (fs ls) (pO N m)=z at *;unfold kM at HA;generalize pO N m=y at *;obtain⟨kd',le,ri,nm,mk,ot,nu⟩:=y;simp only at d0 d1 d2 d3 d4 d5 d6 HA;cases z
       ·have HR4:Hid (lO (fs ls) i=4):=by unfold Hid;rw[HR3.out,<-HE2.out];rfl
        clear HE2;go_wp2_with fail
        refine(HA.out _ (HBv.out.alloc hsw2 _)).mono ?_;rintro e w1 ⟨rfl,hb1⟩;have HBn:Hid (Below w.heap.size w w1):=nD HBv.out hsw2 hb1;clear hb1;go_wp2_with fail
        go_ret
        exact⟨yQ HR4.out.symm,HBn.out⟩
       ·have HE3:Hid ((N.drop (m+1)).any (fun x => !vE (fs ls) x)=N.any (fun x => !vE (fs ls) x)):=by have:=HE2.out;unfold Hid;rw[<-this];rfl
        clear HE2;go_wp2_with fail
        refine(HA.out _ (HBv.out.alloc hsw2 _)).mono ?_;rintro e w1 ⟨rfl,hb1⟩;have HBn:Hid (Below wq.heap.size wq w1):=nD HBs.out hsz2 hb1;clear hb1;go_wp2_with fail
        go_roundw
        case rel=>exact⟨m+1,by omega,by go_num,HBn,HE3⟩
        case measure=>simp[intOf];omega
      ·have HR4:Hid (lO (fs ls) i=0):=by
        have:=HF.out;rw[pf (by omega)]at this;unfold Hid;rw[HR3.out,<-this];rfl
       clear HF;go_wp2_with fail
       go_ret
       exact⟨yQ HR4.out.symm,HBv.out⟩
  ·have HR2:Hid (lO (fs ls) i=4):=HR.out
   clear HR;go_wp2_with fail
   go_ret
   exact⟨yQ HR2.out.symm,HB1.out⟩
theorem Um(h:jU w a ls) :
 Calls Tryz.prog 75 #[.slice a ls.length c] w fun e w'=>e=.returned (.agg (gC (qK (zO (fs ls)) (fs ls) gZ)))/\Below w.heap.size w w':=by
 have HL:=zA h;have zKI:=h.few;have HRL:=zA (fun o=>sV (w.alloc o) a c ls (h.below (fj (j1 _) o) (j1 _)));clear h
 go_enter Tryz.func75,Tryz.ntmps75
 go_wp2_with fail
 refine(HRL.out _).mono ?_;rintro e w1 ⟨v,rfl,zK6,zKA,hb1⟩;have hz:w1.heap[w.heap.size]? = some (.cells (gC gZ) 125 (0,0)):=by rw[hb1.block _ (zY _ _)];exact zG _ _
 have hs:w.heap.size<w1.heap.size:=tj (zY _ _) hb1.size;have HK:=zA (fun o cs=>Un.mk' (o:=o) (cs:=cs) hz (vY hb1) hs zK6 (by omega));obtain⟨la,lc,rfl,_⟩:=HK.out (.cells #[] 0 (0,0)) #[];generalize hlb:zO (fs ls)=zK2 at *;have HLB:=zA hlb;clear hlb
 have HK2:Hid (∀o cs,Un w ((w1.alloc o).setRow w1.heap.size cs) w1.heap.size la zK2):=fun o cs=>by
  obtain⟨a',c',e,p⟩:=HK.out o cs;simp only[dm]at e;rw[e.1];exact p
 clear hz zK6 hb1 HK HRL
 go_upto_region 2 with fail
 go_cut [4] from 16 to 16 (fun p4 wx=>p4=.pointer (some ⟨w1.heap.size,0,none⟩)/\Hid (Un w wx w1.heap.size la zK2)/\Hid (eJ wx w1.heap.size gZ))
 case first =>
  go_wp2_with (refine wpList_store_row ?zK9 125 (.tmp 4) (.tmp 16) ?ho w1.heap.size (gC gZ) ?hx ?hy 125 (gC gZ) (zG w1 _) (kQ yY) rfl (tO gZ) ?_
               case ho=>rfl
               case zK9=>rfl
               case hx=>rfl
               case hy=>rfl)
  go_meet
  exact⟨rfl,zA (HK2.out _ _),zA ⟨bi _ _ (gC gZ) _ _ _ (zG w1 _),yY⟩⟩
 case rest =>
  obtain⟨rfl,HM,HG0⟩:=hcut;generalize w1.heap.size=g at *;clear HK2;go_wp2_with fail
  go_loopw [19] (fun iv wr=>∃(i:Nat) (G:List Bool),i<=ls.length/\iv=.int .i64 i/\Hid (uZ g wc wr)/\Hid (eJ wr g G)/\Hid (qK zK2 ((fs ls).drop i) G=qK zK2 (fs ls) gZ)) (fun iv _=>ls.length-(intOf iv).toNat)
  case atStart=>exact⟨0,gZ,ty _,rfl,zA (uZ.refl _ _),HG0,zA rfl⟩
  case round =>
   obtain⟨i,G,hi,rfl,HO,HG,HE⟩:=hrel;clear HG0;have zKO:Hid (Below w.heap.size w wr):=HM.out.bel.trans (HO.out.below HM.out.bel.size (ph HM.out.g1));by_cases zK4:i<ls.length
   ·obtain⟨gl,sa,sn,sc,na,nn,nc,rfl,hgl,⟨c0,c1,c2,c3,c4,c5,c6,c7,c8,c9,c10⟩,eq,hC⟩:=(HL.out.below zKO.out (j1 _)).line zK4
    have hE:=HE.out;rw[F6 _ _ i _ (by simpa using zK4),jR]at hE;have HE2:=zA hE;have HF:=zA (fun o nm=>Xx (wr.alloc o) la lc zK2 nm (HM.out.str _ (HO.out.alloc o)));have HRl:=zA (fun hk=>(HL.out.rows _ (Yi zK4)).rule hk eq);clear HE hE hC eq;generalize (pG ls i).1=x at *;obtain⟨kd,n1,lo,hi',cc,S,N,ro,te,de,lw⟩:=x;simp only at c0 c1 c2 c3 c4 c5 c6 c7 c8 c9 c10 HRl;by_cases k1:kd=3
    ·have b1:(kd != 3)=false:=by simpa using k1
     obtain⟨rfl,hS,rfl,hN⟩:=HRl.out k1;have HE3:Hid (qK zK2 ((fs ls).drop (i+1)) (pF zK2 (zI zK2 cc) N (lP zK2 (zI zK2 cc) S G))=qK zK2 (fs ls) gZ):=by have:=HE2.out;rw[tm k1]at this;exact this
     have HS:=zA hS;have HN:=zA hN;have hs1:=hS.few;have hn1:=hN.few;unfold maxLen at hs1 hn1;have hgw:g<wr.heap.size:=tj HM.out.lt HO.out.size;clear HE2 k1 HRl hS hN;go_wp2_with fail
     refine(HF.out _ cc).mono ?_;rintro e w2 ⟨rfl,hw⟩;have q:∀j,w2.cell? ⟨wr.heap.size,j,none⟩=(Fj ⟨kd,n1,lo,hi',cc,S,N,ro,te,de,lw⟩ (.slice sa S.length sc) (.slice na N.length nc))[j]? := by rw[hw];exact zB (zG _ _)
     have HO2:Hid (uZ g wc w2):=by rw[hw];exact HO.out.alloc _
     have HG2:Hid (eJ w2 g G):=by rw[hw];exact HG.out.new _
     have HBv:Hid (Below wr.heap.size wr w2):=by rw[hw];exact fj (j1 _) _
     have HZ:Hid (wr.heap.size<w2.heap.size):=by rw[hw];exact zY _ _
     clear hw HF c0 c1 c2 c3 c4 c5 c6 c7 c8 c9 c10 HG;generalize zI zK2 cc=fr at *;obtain⟨wL,hwL⟩:∃wL,wL=wr:=⟨_,rfl⟩;subst hwL;go_wp2_with fail
     go_loopw [33] (fun iv wr=>∃(k:Nat) (H:List Bool),k<=S.length/\iv=.int .i64 k/\Hid (uZ g w2 wr)/\Hid (eJ wr g H)/\Hid (lP zK2 fr (S.drop k) H=lP zK2 fr S G)) (fun iv _=>S.length-(intOf iv).toNat)
     case atStart=>exact⟨0,G,ty _,rfl,zA (uZ.refl _ _),HG2,zA rfl⟩
     case round =>
      obtain⟨k,H,hk,rfl,HOk,HGk,HEk⟩:=hrel;clear HG2;have HOc:Hid (uZ g wc wr):=HO2.out.trans HOk.out;by_cases hltk:k<S.length
      ·have HBk:Hid (Below w.heap.size w wr):=HM.out.bel.trans (HOc.out.below HM.out.bel.size (ph HM.out.g1))
       obtain⟨gs,yM,rfl,hp⟩:=(HS.out.below HBk.out (j1 _)).blk (by omega);obtain⟨d0,d1,d2,d3⟩:=hp.cells hltk;have hgs:=hp.lt;have hE:=HEk.out;rw[Ba _ _ _ k _ hltk]at hE;have HE4:=zA hE;have HF2:=zA (fun o nm=>Xx (wr.alloc o) la lc zK2 nm (HM.out.str _ (HOc.out.alloc o)));have HA:=zA (fun o x y=>zB5 (wr.alloc o) g H x y (HGk.out.new o));clear HEk hE hp;generalize XV S k=y at *;obtain⟨mi,st,nu,nm⟩:=y;simp only at d0 d1 d2 d3;go_wp2_with fail
       refine(HF2.out _ nm).mono ?_;rintro e w3 ⟨rfl,hw⟩;obtain rfl:=hw.symm;go_wp2_with fail
       refine(HA.out _ _ _).mono ?_;rintro e w3 ⟨rfl,hg3,ho3⟩;have HO3:Hid (uZ g w2 w3):=(HOk.out.alloc _).trans ho3;have HG3:=zA hg3;clear hg3 ho3;go_wp2_with fail
       go_roundw
       case rel=>exact⟨k+1,_,by omega,by go_num,HO3,HG3,HE4⟩
       case measure=>simp[intOf];omega
      ·have HE4:Hid (H=lP zK2 fr S G):=by have:=HEk.out;rw[pf (by omega)]at this;exact this
       have q2:∀j,wr.cell? ⟨wL.heap.size,j,none⟩=(Fj ⟨kd,n1,lo,hi',cc,S,N,ro,te,de,lw⟩ (.slice sa S.length sc) (.slice na N.length nc))[j]? := fun j=>by
        have e9:wr.heap[wL.heap.size]? = w2.heap[wL.heap.size]? := HOk.out.block _ HZ.out (by omega);have:=q j;simp only[World.cell?,e9]at this ⊢;exact this
       clear HEk q;obtain⟨wq,hwq⟩:∃wq,wq=wr:=⟨_,rfl⟩;subst hwq;go_wp2_with fail
       go_loopw [49] (fun iv wr=>∃(k:Nat) (H':List Bool),k<=N.length/\iv=.int .i64 k/\Hid (uZ g wq wr)/\Hid (eJ wr g H')/\Hid (pF zK2 fr (N.drop k) H'=pF zK2 fr N H)) (fun iv _=>N.length-(intOf iv).toNat)
       case atStart=>exact⟨0,H,ty _,rfl,zA (uZ.refl _ _),HGk,zA rfl⟩
       case round =>
        obtain⟨m,H2,hm,rfl,HOm,HGm,HEm⟩:=hrel;clear HGk;have HOd:Hid (uZ g wc wr):=HOc.out.trans HOm.out;by_cases hltm:m<N.length
        ·have HBk:Hid (Below w.heap.size w wr):=HM.out.bel.trans (HOd.out.below HM.out.bel.size (ph HM.out.g1))
         obtain⟨gs,yM,rfl,hp⟩:=(HN.out.below HBk.out (j1 _)).blk (by omega);obtain⟨d0,d1,d2,d3,d4,d5,d6⟩:=hp.cells hltm;have hgs:=hp.lt;have hE:=HEm.out;rw[Bk _ _ _ m _ hltm]at hE;have HE5:=zA hE;have HF2:=zA (fun o nm=>Xx (wr.alloc o) la lc zK2 nm (HM.out.str _ (HOd.out.alloc o)));have HA:=zA (fun o x y=>zB5 (wr.alloc o) g H2 x y (HGm.out.new o));clear HEm hE hp q2;generalize pO N m=y at *;obtain⟨kd',le,ri,nm,mk,ot,nu⟩:=y;simp only at d0 d1 d2 d3 d4 d5 d6;by_cases k5:kd'=5
         ·have b5:(kd'==5)=true:=by simpa using k5
          have HE6:Hid (pF zK2 fr (N.drop (m+1)) (nG H2 fr (zI zK2 nm))=pF zK2 fr N H):=by have:=HE5.out;rw[tm k5]at this;exact this
          clear HE5 k5;go_wp2_with fail
          refine(HF2.out _ nm).mono ?_;rintro e w3 ⟨rfl,hw⟩;obtain rfl:=hw.symm;go_wp2_with fail
          refine(HA.out _ _ _).mono ?_;rintro e w3 ⟨rfl,hg3,ho3⟩;have HO3:Hid (uZ g wq w3):=(HOm.out.alloc _).trans ho3;have HG3:=zA hg3;clear hg3 ho3;go_wp2_with fail
          go_roundw
          case rel=>exact⟨m+1,_,by omega,by go_num,HO3,HG3,HE6⟩
          case measure=>simp[intOf];omega
         ·have b5:(kd'==5)=false:=by simpa using k5
          have HE6:Hid (pF zK2 fr (N.drop (m+1)) H2=pF zK2 fr N H):=by have:=HE5.out;rw[tb k5]at this;exact this
          clear HE5 k5;go_wp2_with fail
          go_roundw
          case rel=>exact⟨m+1,H2,by omega,by go_num,zA (HOm.out.alloc _),zA (HGm.out.new _),HE6⟩
          case measure=>simp[intOf];omega
        ·have HE6:Hid (qK zK2 ((fs ls).drop (i+1)) H2=qK zK2 (fs ls) gZ):=by
          have:=HEm.out;rw[pf (by omega)]at this;unfold Hid;rw[<-HE3.out,<-HE4.out,<-this];rfl
         clear HEm;go_wp2_with fail
         go_roundw
         case rel=>exact⟨i+1,H2,by omega,by go_num,HOd,HGm,HE6⟩
         case measure=>simp[intOf];omega
    ·have b1:(kd != 3)=true:=by simpa using k1
     have HE3:Hid (qK zK2 ((fs ls).drop (i+1)) G=qK zK2 (fs ls) gZ):=by have:=HE2.out;rw[tb k1]at this;exact this
     clear HE2 k1 HRl;go_wp2_with fail
     go_roundw
     case rel=>exact⟨i+1,G,by omega,by go_num,zA (HO.out.alloc _),zA (HG.out.new _),HE3⟩
     case measure=>simp[intOf];omega
   ·have HE3:Hid (G=qK zK2 (fs ls) gZ):=by have:=HE.out;rw[pf (by simp;omega)]at this;exact this
    have HRs:Hid (wr.heap[w.heap.size]? = some (.cells (gC gZ) 125 (0,0))):=by
     unfold Hid;rw[HO.out.block _ (Nat.lt_trans HM.out.g1 HM.out.lt) (Nat.ne_of_lt HM.out.g1)];exact HM.out.res
    clear HE
    go_wp2_with (first
     | (refine wpList_load_row ?zK9 125 (.tmp 4) ?ho g ?hx 125 (gC G) (0,0) _ HG.out.1 Tryz.underlying125 rfl (kQ HG.out.2) ?_
        case ho=>rfl
        case zK9=>rfl
        case hx=>rfl)
     | (refine wpList_store_row ?zK9 125 (.tmp 2) (.tmp 65) ?ho w.heap.size (gC G) ?hx ?hy 125 (gC gZ) HRs.out (kQ HG.out.2) ?zKC (tO G) ?_
        case ho=>rfl
        case zK9=>rfl
        case hx=>rfl
        case hy=>rfl
        case zKC=>rw[xR,xR,yY,HG.out.2]))
    refine pb (v:=.agg (gC G)) (results_cell_row Tryz.results75 _ _ w.heap.size 125 (gC G) (0,0) _ rfl (bi _ _ (gC gZ) _ _ _ HRs.out) Tryz.underlying125 rfl (kQ HG.out.2)) rfl ⟨by rw[HLB.out,<-HE3.out],yT zKO.out (j1 _) _⟩
theorem iP(ls:List zE)(nm:Bs):uK ls nm<=ls.length:=by have:=(VJ (Zb 3 nm) ls 0).2;unfold uK;omega
theorem KV(x:zE)(sa na:Option Addr)(sn sc nn nc:Nat)(h:jU w a ls) :
 Calls Tryz.prog 115 #[.slice a ls.length c,uJ (.slice sa sn sc) (.slice na nn nc) x] w fun e w'=>e=.returned (.int .i64 (cL (fs ls) x))/\Below w.heap.size w w':=by
 have zKI:=h.few;have HL:=zA h;have HU:=zA (Xz h c x.name);have HW:=zA (Xz h c x.lower);have hu:=iP (fs ls) x.name;have hl:=iP (fs ls) x.lower;rw[Zj]at hu hl
 have HR:Hid (cL (fs ls) x=if uK (fs ls) x.name=ls.length\/uK (fs ls) x.lower=ls.length then 4 else if x.name=x.lower\/(pG ls (uK (fs ls) x.name)).1.conc≠(pG ls (uK (fs ls) x.lower)).1.conc then 6 else 0):=by
  unfold Hid cL;rw[jR,jR,Zj]
 clear h;obtain⟨kd,n1,lo,hi',cc,S,N,ro,te,de,lw⟩:=x;simp only at HU HW hu hl HR;unfold uJ;generalize uK (fs ls) n1=fu at *;generalize uK (fs ls) lw=fl at *;by_cases ku:fu=ls.length
 ·have HR2:Hid (cL (fs ls) ⟨kd,n1,lo,hi',cc,S,N,ro,te,de,lw⟩=4):=by unfold Hid;rw[HR.out,tm (.inl ku)]
  clear HR
  go_enter Tryz.func115,Tryz.ntmps115
  go_wp2_with fail
  refine(HU.out _ (fj (j1 _) _)).mono ?_;rintro e w1 ⟨rfl,hb1⟩;have HB1:Hid (Below w.heap.size w w1):=vY hb1;have q1:=bM hb1;clear hb1;go_wp2_with fail
  refine(HW.out _ HB1.out).mono ?_;rintro e w2 ⟨rfl,hb2⟩;have HB2:Hid (Below w.heap.size w w2):=HB1.out.trans (hb2.mono HB1.out.size);clear hb2;go_wp2_with fail
  go_ret
  exact⟨yQ HR2.out.symm,HB2.out⟩
 by_cases kl:fl=ls.length
 ·have HR2:Hid (cL (fs ls) ⟨kd,n1,lo,hi',cc,S,N,ro,te,de,lw⟩=4):=by unfold Hid;rw[HR.out,tm (.inr kl)]
  have bu:((fu:Int)==(ls.length:Int))=false:=by simp;omega
  clear HR ku
  go_enter Tryz.func115,Tryz.ntmps115
  go_wp2_with fail
  refine(HU.out _ (fj (j1 _) _)).mono ?_;rintro e w1 ⟨rfl,hb1⟩;have HB1:Hid (Below w.heap.size w w1):=vY hb1;have q1:=bM hb1;clear hb1;go_wp2_with fail
  refine(HW.out _ HB1.out).mono ?_;rintro e w2 ⟨rfl,hb2⟩;have HB2:Hid (Below w.heap.size w w2):=HB1.out.trans (hb2.mono HB1.out.size);clear hb2;go_wp2_with fail
  go_ret
  exact⟨yQ HR2.out.symm,HB2.out⟩
 have hfu:fu<ls.length:=by omega
 have hfl:fl<ls.length:=by omega
 have HR2:Hid (cL (fs ls) ⟨kd,n1,lo,hi',cc,S,N,ro,te,de,lw⟩=if n1=lw\/(pG ls fu).1.conc≠(pG ls fl).1.conc then 6 else 0):=by unfold Hid;rw[HR.out,tb (by rintro(e|e);exact ku e;exact kl e)]
 have bu:((fu:Int)==(ls.length:Int))=false:=by simp;omega
 have bl:((fl:Int)==(ls.length:Int))=false:=by simp;omega
 clear HR ku kl hu hl
 go_enter Tryz.func115,Tryz.ntmps115
 go_wp2_with fail
 refine(HU.out _ (fj (j1 _) _)).mono ?_;rintro e w1 ⟨rfl,hb1⟩;have HB1:Hid (Below w.heap.size w w1):=vY hb1;have q1:=bM hb1;have HZ:Hid (w.heap.size<w1.heap.size):=tj (zY _ _) hb1.size;clear hb1;go_wp2_with fail
 refine(HW.out _ HB1.out).mono ?_;rintro e w2 ⟨rfl,hb2⟩;have HB2:Hid (Below w.heap.size w w2):=HB1.out.trans (hb2.mono HB1.out.size);have q2:∀j,w2.cell? ⟨w.heap.size,j,none⟩=(Fj ⟨kd,n1,lo,hi',cc,S,N,ro,te,de,lw⟩ (.slice sa sn sc) (.slice na nn nc))[j]? := fun j=>(hb2.cell (p:=⟨w.heap.size,j,none⟩) HZ.out).trans (q1 j);clear hb2 q1;obtain⟨gl,_,_,_,_,_,_,rfl,hgl,⟨_,_,_,_,c4,_,_,_,_,_,_⟩,_,_⟩:=(HL.out.below HB2.out (j1 _)).line hfu;obtain⟨gl',_,_,_,_,_,_,hgg,_,⟨_,_,_,_,d4,_,_,_,_,_,_⟩,_,_⟩:=(HL.out.below HB2.out (j1 _)).line hfl;obtain rfl:gl=gl':=by simpa using hgg
 clear hgg HL;generalize (pG ls fu).1.conc=cu at *;generalize (pG ls fl).1.conc=cl at *;have e1:=q2 1;have e10:=q2 10;simp only[Fj,bm,co,df]at e1 e10;have ifu:(fu:Int)<(ls.length:Int):=by omega
 have ifl:(fl:Int)<(ls.length:Int):=by omega
 go_wp2_with fail
 by_cases kn:n1=lw
 ·have HR3:Hid (cL (fs ls) ⟨kd,n1,lo,hi',cc,S,N,ro,te,de,lw⟩=6):=by unfold Hid;rw[HR2.out,tm (.inl kn)]
  have bn:(n1==lw)=true:=by simpa using kn
  clear HR2 kn
  go_quiet (fail)
  go_wp2_with fail
  go_ret
  exact⟨yQ HR3.out.symm,xI HB2.out _⟩
 ·have bn:(n1==lw)=false:=by simpa using kn
  by_cases kc:cu=cl
  ·have HR3:Hid (cL (fs ls) ⟨kd,n1,lo,hi',cc,S,N,ro,te,de,lw⟩=0):=by unfold Hid;rw[HR2.out,tb (by rintro(e|e);exact kn e;exact e kc)]
   have bc:(cu==cl)=true:=by simpa using kc
   clear HR2 kn kc
   go_quiet (fail)
   go_wp2_with fail
   go_ret
   exact⟨yQ HR3.out.symm,xI HB2.out _⟩
  ·have HR3:Hid (cL (fs ls) ⟨kd,n1,lo,hi',cc,S,N,ro,te,de,lw⟩=6):=by unfold Hid;rw[HR2.out,tm (.inr kc)]
   have bc:(cu==cl)=false:=by simpa using kc
   clear HR2 kn kc
   go_quiet (fail)
   go_wp2_with fail
   go_ret
   exact⟨yQ HR3.out.symm,xI HB2.out _⟩
theorem Vp(hi:i<ls.length)(hc:ls.length<=c)(h:jU w a ls) :
 Calls Tryz.prog 74 #[.slice a ls.length c,.int .i64 i] w fun e w'=>e=.returned (.int .i64 (lB (fs ls) i))/\Below w.heap.size w w':=by
 have zKI:=h.few;have HN:=zA (Bi w a c ls i hi hc h);have HI:=zA (iI w a c ls i hi hc h);have HR:=zA (fun hk=>KJ w a c ls i hi hc hk h);have HO:=zA (fun sa na sn sc nn nc=>KV w a c ls (pG ls i).1 sa na sn sc nn nc h);have hkinds:=(h.rows _ (Yi hi)).g.kinds;have HE:Hid (lB (fs ls) i=if (pG ls i).1.kind=1 then wX (fs ls) i else if (pG ls i).1.kind=2 then oV (fs ls) i else if (pG ls i).1.kind=3 then lO (fs ls) i else if (pG ls i).1.kind=4 then cL (fs ls) (pG ls i).1 else 0):=by unfold Hid lB;rw[jR]
 obtain⟨gl,sa,sn,sc,na,nn,nc,rfl,hgl,⟨c0,c1,c2,c3,c4,c5,c6,c7,c8,c9,c10⟩,eq,hC⟩:=h.line hi;have HO2:=zA (HO.out sa na sn sc nn nc);unfold uJ at HO2;clear h eq hC HO;generalize (pG ls i).1=x at *;obtain⟨kd,n1,lo,hi',cc,S,N,ro,te,de,lw⟩:=x;simp only at c0 c1 c2 c3 c4 c5 c6 c7 c8 c9 c10 HR HO2 HE hkinds;rcases hkinds with rfl|rfl|rfl|rfl
 ·have HE2:Hid (lB (fs ls) i=wX (fs ls) i):=HE.out
  clear HE HI HR HO2 c1 c2 c3 c4 c5 c6 c7 c8 c9 c10
  go_enter Tryz.func74,Tryz.ntmps74
  go_wp2_with fail
  refine HN.out.mono ?_;rintro e w1 ⟨rfl,hb1⟩;have HB1:=zA hb1;clear hb1;go_wp2_with fail
  go_ret
  exact⟨yQ HE2.out.symm,HB1.out⟩
 ·have HE2:Hid (lB (fs ls) i=oV (fs ls) i):=HE.out
  clear HE HN HR HO2 c1 c2 c3 c4 c5 c6 c7 c8 c9 c10
  go_enter Tryz.func74,Tryz.ntmps74
  go_wp2_with fail
  refine HI.out.mono ?_;rintro e w1 ⟨rfl,hb1⟩;have HB1:=zA hb1;clear hb1;go_wp2_with fail
  go_ret
  exact⟨yQ HE2.out.symm,HB1.out⟩
 ·have HE2:Hid (lB (fs ls) i=lO (fs ls) i):=HE.out
  clear HE HN HI HO2 c1 c2 c3 c4 c5 c6 c7 c8 c9 c10
  go_enter Tryz.func74,Tryz.ntmps74
  go_wp2_with fail
  refine(HR.out trivial).mono ?_;rintro e w1 ⟨rfl,hb1⟩;have HB1:=zA hb1;clear hb1;go_wp2_with fail
  go_ret
  exact⟨yQ HE2.out.symm,HB1.out⟩
 ·have HE2:Hid (lB (fs ls) i=cL (fs ls) ⟨4,n1,lo,hi',cc,S,N,ro,te,de,lw⟩):=HE.out
  clear HE HN HI HR
  go_enter Tryz.func74,Tryz.ntmps74
  go_wp2_with fail
  refine HO2.out.mono ?_;rintro e w1 ⟨rfl,hb1⟩;have HB1:=zA hb1;clear hb1;go_wp2_with fail
  go_ret
  exact⟨yQ HE2.out.symm,HB1.out⟩
def fM(ls:List zE):Nat->Nat->Option Nat
 | 0,_=>none
 | n+1,i=>if tJ ls i=true then some i else fM ls n (i+1)
def sL(ls:List zE):Nat->Nat->Option Nat
 | 0,_=>none
 | n+1,i=>if lB ls i=0 then sL ls n (i+1) else some i
def YF(ls:List zE):Int × Int:=if qP (qK (zO ls) ls gZ)=true then (7,0) else if qP (uT (xW ls) ls gZ)=true then (7,1) else (0,0)
def X6(ls:List zE):Int × Int:=match sL ls ls.length 0 with|some i=>(lB ls i,(i:Int))|none=>YF ls
def kG(ls:List zE):Int × Int:=match fM ls ls.length 0 with|some i=>(3,(i:Int))|none=>X6 ls
theorem fL(zK2:List Bs)(ls:List zE):∀G,(qK zK2 ls G).length=G.length:=by
 have hp:∀f (S:List xE) G,(lP zK2 f S G).length=G.length:=by
  intro f S;induction S with
  | nil=>intro G;rfl
  | cons x r ih=>intro G;rw[lP,ih,mF]
 have hn:∀f (N:List zT) G,(pF zK2 f N G).length=G.length:=by
  intro f N;induction N with
  | nil=>intro G;rfl
  | cons x r ih=>intro G;rw[pF,ih];split
                 ·rw[mF]
                 ·rfl
 induction ls with
 | nil=>intro G;rfl
 | cons x r ih=>intro G;rw[qK,ih];split
                ·rw[hn,hp]
                ·rfl
theorem pT(labs:List Bs)(ls:List zE):∀G,(uT labs ls G).length=G.length:=by
 induction ls with
 | nil=>intro G;rfl
 | cons x r ih=>intro G;rw[uT,ih];split
                ·rw[mF]
                ·rfl
abbrev pP:Obj:=.cells #[.int .i64 0,.int .i64 0] 146 (0,0)
def rB(x:Int × Int):Value:=.agg #[.int .i64 x.1,.int .i64 x.2]
theorem oY{w:World}(hb:Below (w.alloc pP).heap.size (w.alloc pP) w1)(k:Nat):w1.frozen? ⟨w.heap.size,k,none⟩=false:=by
 have h1:w1.heap[w.heap.size]? = some pP:=by rw[hb.block _ (zY _ _)];exact zG _ _
 simp[World.frozen?,h1]
theorem lJ{w:World}(hb:Below (w.alloc pP).heap.size (w.alloc pP) w1)(x y:Value) :
 ((w1.setCell ⟨w.heap.size,0,none⟩ x).setCell ⟨w.heap.size,1,none⟩ y).heap[w.heap.size]? = some (.cells #[x,y] 146 (0,0))/\Below w.heap.size w ((w1.setCell ⟨w.heap.size,0,none⟩ x).setCell ⟨w.heap.size,1,none⟩ y):=by
 have h1:w1.heap[w.heap.size]? = some pP:=by rw[hb.block _ (zY _ _)];exact zG _ _
 have h2:(w1.setCell ⟨w.heap.size,0,none⟩ x).heap[w.heap.size]? = some (.cells #[x,.int .i64 0] 146 (0,0)):=by
  rw[setCell_eq_setRow _ _ _ _ _ _ _ h1,bi _ _ _ _ _ _ h1];rfl
 refine⟨?_,((vY hb).setCell (p:=⟨w.heap.size,0,none⟩) (j1 _) _).setCell (p:=⟨w.heap.size,1,none⟩) (j1 _) _⟩;rw[setCell_eq_setRow _ _ _ _ _ _ _ h2,bi _ _ _ _ _ _ h2];rfl
theorem iN:(Tryz.prog.info? 146).map (·.size)=some 2:=by kernel_rfl
theorem zF1(hc:ls.length<=c)(h:jU w a ls) :
 Calls Tryz.prog 56 #[.slice a ls.length c] w fun e w'=>e=.returned (rB (kG (fs ls)))/\Below w.heap.size w w':=by
 have HL:=zA h;have zKI:=h.few;clear h
 go_enter Tryz.func56,Tryz.ntmps56
 go_wp2_with fail
 go_loopw [10] (fun iv wr=>∃(i:Nat),i<=ls.length/\iv=.int .i64 i/\Hid (Below (w.alloc pP).heap.size (w.alloc pP) wr)/\Hid (fM (fs ls) (ls.length-i) i=fM (fs ls) ls.length 0)) (fun iv _=>ls.length-(intOf iv).toNat)
 case atStart=>exact⟨0,ty _,rfl,zA (tg _ _),zA rfl⟩
 case round =>
  obtain⟨i,hi,rfl,HB,HE⟩:=hrel;have zKO:Hid (Below w.heap.size w wr):=vY HB.out;have q:=bM HB.out;have hfz:=oY HB.out;by_cases zK4:i<ls.length
  ·have HC:=zA (Vv wr a c ls i zK4 hc (HL.out.below zKO.out (j1 _)))
   have hE:=HE.out;rw[show ls.length-i=(ls.length-(i+1))+1 by omega,fM]at hE;have HE2:=zA hE;clear HE hE;generalize tJ (fs ls) i=z at *;cases z
   ·have HE3:Hid (fM (fs ls) (ls.length-(i+1)) (i+1)=fM (fs ls) ls.length 0):=HE2.out
    clear HE2;go_wp2_with fail
    refine HC.out.mono ?_;rintro e w1 ⟨rfl,hb1⟩;have HB1:Hid (Below (w.alloc pP).heap.size (w.alloc pP) w1):=HB.out.trans (hb1.mono HB.out.size);clear hb1;go_wp2_with fail
    go_roundw
    case rel=>exact⟨i+1,by omega,by go_num,HB1,HE3⟩
    case measure=>simp[intOf];omega
   ·have HR:Hid (kG (fs ls)=(3,(i:Int))):=by
     have:some i=fM (fs ls) ls.length 0:=HE2.out;unfold Hid kG;rw[Zj,<-this]
    clear HE2;go_wp2_with fail
    refine HC.out.mono ?_;rintro e w1 ⟨rfl,hb1⟩;have HB1:Hid (Below (w.alloc pP).heap.size (w.alloc pP) w1):=HB.out.trans (hb1.mono HB.out.size);have q1:=bM HB1.out;have hfz1:=oY HB1.out;clear hb1 q hfz;go_wp2_with fail
    refine pb (v:=rB (3,(i:Int))) (results_cell_row Tryz.results56 _ _ w.heap.size 146 #[.int .i64 3,.int .i64 (i:Int)] (0,0) _ rfl (lJ HB1.out _ _).1 Tryz.underlying146 rfl iN) rfl ⟨by rw[HR.out],(lJ HB1.out _ _).2⟩
  ·have HMn:Hid (kG (fs ls)=X6 (fs ls)):=by
    have:=HE.out;rw[show ls.length-i=0 by omega]at this;unfold Hid kG;rw[Zj,<-this];rfl
   clear HE q hfz;obtain⟨wq,hwq⟩:∃wq,wq=wr:=⟨_,rfl⟩;subst hwq;go_wp2_with fail
   go_loopw [21] (fun iv wr=>∃(i:Nat),i<=ls.length/\iv=.int .i64 i/\Hid (Below (w.alloc pP).heap.size (w.alloc pP) wr)/\Hid (sL (fs ls) (ls.length-i) i=sL (fs ls) ls.length 0)) (fun iv _=>ls.length-(intOf iv).toNat)
   case atStart=>exact⟨0,ty _,rfl,HB,zA rfl⟩
   case round =>
    obtain⟨j,hj,rfl,HBj,HEj⟩:=hrel;have HBv:Hid (Below w.heap.size w wr):=vY HBj.out;by_cases hltj:j<ls.length
    ·have HC:=zA (Vp wr a c ls j hltj hc (HL.out.below HBv.out (j1 _)))
     have hE:=HEj.out;rw[show ls.length-j=(ls.length-(j+1))+1 by omega,sL]at hE;have HE2:=zA hE;have HP:Hid (lB (fs ls) j=lB (fs ls) j):=rfl;clear HEj hE;by_cases hz:lB (fs ls) j=0
     ·have HE3:Hid (sL (fs ls) (ls.length-(j+1)) (j+1)=sL (fs ls) ls.length 0):=by have:=HE2.out;rw[tm hz]at this;exact this
      rw[hz]at HC;clear HE2 hz HP;go_wp2_with fail
      refine HC.out.mono ?_;rintro e w1 ⟨rfl,hb1⟩;have HB1:Hid (Below (w.alloc pP).heap.size (w.alloc pP) w1):=HBj.out.trans (hb1.mono HBj.out.size);clear hb1;go_wp2_with fail
      go_roundw
      case rel=>exact⟨j+1,by omega,by go_num,HB1,HE3⟩
      case measure=>simp[intOf];omega
     ·have HR:Hid (kG (fs ls)=(lB (fs ls) j,(j:Int))):=by
       have:some j=sL (fs ls) ls.length 0:=by have:=HE2.out;rw[tb hz]at this;exact this
       unfold Hid;rw[HMn.out,X6,Zj,<-this]
      clear HE2 HP;generalize lB (fs ls) j=er at *;have be:(er != 0)=true:=by simpa using hz
      clear hz;go_wp2_with fail
      refine HC.out.mono ?_;rintro e w1 ⟨rfl,hb1⟩;have HB1:Hid (Below (w.alloc pP).heap.size (w.alloc pP) w1):=HBj.out.trans (hb1.mono HBj.out.size);have q1:=bM HB1.out;have hfz1:=oY HB1.out;clear hb1;go_wp2_with fail
      refine pb (v:=rB (er,(j:Int))) (results_cell_row Tryz.results56 _ _ w.heap.size 146 #[.int .i64 er,.int .i64 (j:Int)] (0,0) _ rfl (lJ HB1.out _ _).1 Tryz.underlying146 rfl iN) rfl ⟨by rw[HR.out],(lJ HB1.out _ _).2⟩
    ·have HRg:Hid (kG (fs ls)=YF (fs ls)):=by
      have:=HEj.out;rw[show ls.length-j=0 by omega]at this;unfold Hid;rw[HMn.out,X6,Zj,<-this];rfl
     clear HEj HMn;have HNm:=zA (Um wr a c ls (HL.out.below HBv.out (j1 _)));have hgl:(qK (zO (fs ls)) (fs ls) gZ).length=64:=by rw[fL];exact yY
     have hgl2:(uT (xW (fs ls)) (fs ls) gZ).length=64:=by rw[pT];exact yY
     have HOr:=zA (fun w' (hb:Below w.heap.size w w')=>D7 w' a c ls (HL.out.below hb (j1 _)));have HR0:Hid (kG (fs ls)=if qP (qK (zO (fs ls)) (fs ls) gZ)=true then (7,0) else if qP (uT (xW (fs ls)) (fs ls) gZ)=true then (7,1) else (0,0)):=HRg.out;have zKS:=zA hgl;have HGL2:=zA hgl2;clear HRg hgl hgl2;generalize qK (zO (fs ls)) (fs ls) gZ=Gn at *;generalize uT (xW (fs ls)) (fs ls) gZ=Go at *;go_wp2_with fail
     refine HNm.out.mono ?_;rintro e w2 ⟨rfl,hb2⟩;have HB2:Hid (Below (w.alloc pP).heap.size (w.alloc pP) w2):=HBj.out.trans (hb2.mono HBj.out.size);clear hb2
     go_wp2_with (refine wpList_store_row ?zK9 125 (.tmp 6) (.tmp 34) ?ho w2.heap.size (gC Gn) ?hx ?hy 125 (gC gZ) (zG w2 _) (kQ zKS.out) ?zKC (tO Gn) ?_
                  case ho=>rfl
                  case zK9=>rfl
                  case hx=>rfl
                  case hy=>rfl
                  case zKC=>rw[xR,xR,yY,zKS.out])
     refine(Jn _ w2.heap.size Gn ⟨bi _ _ (gC gZ) _ _ _ (zG w2 _),zKS.out⟩).mono ?_;rintro e w3 ⟨rfl,hb3⟩
     have HB3:Hid (Below (w.alloc pP).heap.size (w.alloc pP) w3):=by
      have h1:Below (w.alloc pP).heap.size (w.alloc pP) ((w2.alloc (.cells (gC gZ) 125 (0,0))).setRow w2.heap.size (gC Gn)):=yT (HB2.out.alloc HB2.out.size _) HB2.out.size _;exact h1.trans (hb3.mono h1.size)
     have q3:=bM HB3.out;have hfz3:=oY HB3.out;clear hb3;generalize qP Gn=z1 at *;cases z1
     ·have HR1:Hid (kG (fs ls)=if qP Go=true then (7,1) else (0,0)):=by have:=HR0.out;rw[tb Bool.false_ne_true]at this;exact this
      clear HR0;go_wp2_with fail
      refine(HOr.out _ (vY HB3.out)).mono ?_;rintro e w4 ⟨rfl,hb4⟩;have HB4:Hid (Below (w.alloc pP).heap.size (w.alloc pP) w4):=HB3.out.trans (hb4.mono HB3.out.size);clear hb4 q3 hfz3
      go_wp2_with (refine wpList_store_row ?zK9 125 (.tmp 7) (.tmp 38) ?ho w4.heap.size (gC Go) ?hx ?hy 125 (gC gZ) (zG w4 _) (kQ HGL2.out) ?zKC (tO Go) ?_
                   case ho=>rfl
                   case zK9=>rfl
                   case hx=>rfl
                   case hy=>rfl
                   case zKC=>rw[xR,xR,yY,HGL2.out])
      refine(Jn _ w4.heap.size Go ⟨bi _ _ (gC gZ) _ _ _ (zG w4 _),HGL2.out⟩).mono ?_;rintro e w5 ⟨rfl,hb5⟩
      have HB5:Hid (Below (w.alloc pP).heap.size (w.alloc pP) w5):=by
       have h1:Below (w.alloc pP).heap.size (w.alloc pP) ((w4.alloc (.cells (gC gZ) 125 (0,0))).setRow w4.heap.size (gC Go)):=yT (HB4.out.alloc HB4.out.size _) HB4.out.size _;exact h1.trans (hb5.mono h1.size)
      have q5:=bM HB5.out;have hfz5:=oY HB5.out;clear hb5;generalize qP Go=z2 at *;cases z2
      ·have HR:Hid (kG (fs ls)=(0,0)):=by have:=HR1.out;rw[tb Bool.false_ne_true]at this;exact this
       clear HR1;go_wp2_with fail
       refine pb (v:=rB (0,0)) (results_cell_row Tryz.results56 _ _ w.heap.size 146 #[.int .i64 0,.int .i64 0] (0,0) _ rfl (lJ HB5.out _ _).1 Tryz.underlying146 rfl iN) rfl ⟨by rw[HR.out],(lJ HB5.out _ _).2⟩
      ·have HR:Hid (kG (fs ls)=(7,1)):=by have:=HR1.out;rw[tm rfl]at this;exact this
       clear HR1;go_wp2_with fail
       refine pb (v:=rB (7,1)) (results_cell_row Tryz.results56 _ _ w.heap.size 146 #[.int .i64 7,.int .i64 1] (0,0) _ rfl (lJ HB5.out _ _).1 Tryz.underlying146 rfl iN) rfl ⟨by rw[HR.out],(lJ HB5.out _ _).2⟩
     ·have HR:Hid (kG (fs ls)=(7,0)):=by have:=HR0.out;rw[tm rfl]at this;exact this
      clear HR0;go_wp2_with fail
      refine pb (v:=rB (7,0)) (results_cell_row Tryz.results56 _ _ w.heap.size 146 #[.int .i64 7,.int .i64 0] (0,0) _ rfl (lJ HB3.out _ _).1 Tryz.underlying146 rfl iN) rfl ⟨by rw[HR.out],(lJ HB3.out _ _).2⟩
end Go.Proofs.YtnbpdffdnphbeabGreatDoor
