import Derived.Test.YtnbpdffdnphbeabGreatDoorCkMany
set_option maxHeartbeats 8000000
set_option maxRecDepth 100000
namespace Go.Proofs.YtnbpdffdnphbeabGreatDoor
open Go.RowKit
variable{w1:World}(w:World)(a:Option Addr)(c:Nat)(ls:List LX)(i:Nat)
theorem xR{B:Nat}{a w:World}(h:Below B a w)(n:Nat):Below B a (w.drewN n):=⟨h.os,h.tape,h.output,h.size,h.block⟩
theorem B1(hi:i<ls.length)(hc:ls.length<=c)(h:jS w a ls) :
 Calls Tryz.prog 112 #[.slice a ls.length c,.int .i64 i] w fun e w'=>e=.returned (.int .i64 (iE (fs ls) i))/\Below w.heap.size w w':=by
 have zLE:=h.few;have HI:=zA (iU w a c ls i hi hc h);have HL:=zA h;have h4:fY (fs ls) i=4\/fY (fs ls) i=0:=by unfold fY;split;exact .inl rfl;exact .inr rfl
 rcases h4 with h4|h4
 ·have HR:Hid (iE (fs ls) i=4):=by unfold Hid iE;rw[h4];rfl
  rw[h4]at HI;clear h h4
  go_enter Tryz.func112,Tryz.ntmps112
  go_wp2_with fail
  refine HI.out.mono ?_;rintro e w1 ⟨rfl,hb1⟩;have HB1:=zA hb1;clear hb1;go_wp2_with fail
  go_ret
  exact⟨yP HR.out.symm,HB1.out⟩
 ·have HR:Hid (iE (fs ls) i=if (pG ls i).1.high<(pG ls i).1.low then 5 else 0):=by unfold Hid iE;rw[h4,jO];rfl
  rw[h4]at HI;clear h h4
  go_enter Tryz.func112,Tryz.ntmps112
  go_wp2_with fail
  refine HI.out.mono ?_;rintro e w1 ⟨rfl,hb1⟩;have HB1:=zA hb1;obtain⟨gl,sa,sn,sc,na,nn,nc,rfl,hgl,⟨c0,c1,c2,c3,c4,c5,c6,c7,c8,c9,c10⟩,_,_⟩:=(HL.out.below hb1 (j1 _)).line hi;clear hb1 c0 c1 c4 c5 c6 c7 c8 c9 c10 HL HI;generalize (pG ls i).1.low=lo at *;generalize (pG ls i).1.high=hh at *;go_wp2_with fail
  go_quiet (fail)
  by_cases hk:hh<lo
  ·have HR2:Hid (iE (fs ls) i=5):=by unfold Hid;rw[HR.out,tl hk]
   go_wp2_with fail
   go_ret
   exact⟨yP HR2.out.symm,xR HB1.out _⟩
  ·have HR2:Hid (iE (fs ls) i=0):=by unfold Hid;rw[HR.out,tb hk]
   go_wp2_with fail
   go_ret
   exact⟨yP HR2.out.symm,xR HB1.out _⟩
theorem nN{B:Nat}{a w:World}{o:Obj}(h:Below B a w)(hB:B<=w.heap.size)(h1:Below (w.alloc o).heap.size (w.alloc o) w1):Below B a w1:=(h.alloc hB o).trans (h1.mono (p8 hB (ph (zV _ _))))
abbrev F8(x:zE)(sv nv:Value):Array Value := #[.int .i64 x.kind,.string ⟨x.name.toArray⟩,.int .i64 x.low,.int .i64 x.high,.string ⟨x.conc.toArray⟩,sv,nv,.int .i64 x.root,.int .i64 x.tests,.int .i64 x.dep,.string ⟨x.lower.toArray⟩]
theorem KS(hi:i<ls.length)(hc:ls.length<=c)(hk:(pG ls i).1.kind=3)(h:jS w a ls) :
 Calls Tryz.prog 114 #[.slice a ls.length c,.int .i64 i] w fun e w'=>e=.returned (.int .i64 (lP (fs ls) i))/\Below w.heap.size w w':=by
 have zLE:=h.few;have HR:Hid (lP (fs ls) i=if uR ((fs ls).take i) 3 (pG ls i).1.name || ((pG ls i).1.sum.any (fun x => !qL (fs ls) x) || (pG ls i).1.nd.any (fun x => !vF (fs ls) x)) then 4 else 0):=by unfold Hid lP;rw[jO]
 have H1:=zA (Zo h c 3 (pG ls i).1.name i hi);have H2:=zA (fun nm=>V4 h c nm);have H3:=zA (fun x=>Qo h c x);obtain⟨gl,sa,sn,sc,na,nn,nc,rfl,hgl,⟨c0,c1,c2,c3,c4,c5,c6,c7,c8,c9,c10⟩,eq,hC⟩:=h.line hi;obtain⟨rfl,hS,rfl,hN⟩:=hC.rule hk eq;have HS:=zA hS;have HN:=zA hN;have hs1:=hS.few;have hn1:=hN.few;unfold maxLen at hs1 hn1;clear h eq hC hS hN hk;generalize (pG ls i).1=x at *;obtain⟨kd,n1,lo,hi',cc,S,N,ro,te,de,lw⟩:=x;simp only at c0 c1 c2 c3 c4 c5 c6 c7 c8 c9 c10 HR H1 HS HN hs1 hn1;generalize uR ((fs ls).take i) 3 n1=p at *
 go_enter Tryz.func114,Tryz.ntmps114
 go_wp2_with fail
 go_cut [19] from 14 to 19 (fun v wx=>v=.bool p/\Hid (Below w.heap.size w wx)/\Hid (w.heap.size<wx.heap.size)/\∀j,wx.cell? ⟨w.heap.size,j,none⟩=(F8 ⟨kd,n1,lo,hi',cc,S,N,ro,te,de,lw⟩ (.slice sa S.length sc) (.slice na N.length nc))[j]?)
 case first =>
  go_region_with (go_at_call 153
                  refine(H1.out _ (pj (Below.alloc (tg _ _) (j1 _) _))).mono ?_;rintro e w1 ⟨rfl,hb1⟩;have b1:=VF (tU (zG _ _)) hb1 (iL (zV _ _));have HB1:Hid (Below w.heap.size w w1):=(pj (Below.alloc (tg _ _) (j1 _) _)).trans (hb1.mono (ph (iL (zV _ _))));have q:=zB b1;have HZ:Hid (w.heap.size<w1.heap.size):=tj (iL (zV _ _)) hb1.size;clear hb1 b1)
  all_goals
   go_wp2_with fail
   go_meet
   exact⟨rfl,HB1,HZ,q⟩
 case rest =>
  obtain⟨rfl,HB1,HZ,q⟩:=hcut;clear c0 c1 c2 c3 c4 c5 c6 c7 c8 c9 c10 H1;cases p
  ·have HR2:Hid (lP (fs ls) i=if S.any (fun x => !qL (fs ls) x) || N.any (fun x => !vF (fs ls) x) then 4 else 0):=HR.out
   clear HR;go_wp2_with fail
   go_loopw [23] (fun iv wr=>∃(k:Nat),k<=S.length/\iv=.int .i64 k/\Hid (Below wc.heap.size wc wr)/\Hid ((S.drop k).any (fun x => !qL (fs ls) x)=S.any (fun x => !qL (fs ls) x))) (fun iv _=>S.length-(intOf iv).toNat)
   case atStart=>exact⟨0,p7 _,rfl,zA (tg _ _),zA rfl⟩
   case round =>
    obtain⟨k,hk,rfl,zLI,HE⟩:=hrel;have zLJ:Hid (Below w.heap.size w wr):=HB1.out.trans (zLI.out.mono HB1.out.size);have zL8:=zLI.out.size;have hsw:=zLJ.out.size;by_cases zKZ:k<S.length
    ·obtain⟨g,yK,rfl,hp⟩:=(HS.out.below zLJ.out (j1 _)).blk (by omega)
     obtain⟨d0,d1,d2,d3⟩:=hp.cells zKZ;have hg:=hp.lt;have hE:=HE.out;rw[rJ _ xz _ k zKZ,show S.getD k xz=Qf S k from rfl]at hE;have HE2:=zA hE;clear HE hE hp q;generalize Qf S k=y at *;obtain⟨mi,st,nu,nm⟩:=y;simp only at d0 d1 d2 d3;by_cases ko:nm=[]
     ·have HE3:Hid ((S.drop (k+1)).any (fun x => !qL (fs ls) x)=S.any (fun x => !qL (fs ls) x)):=by have:=HE2.out;unfold Hid;rw[<-this];simp[qL,ko]
      have bo:(nm==[])=true:=by simpa using ko
      clear HE2 ko;go_wp2_with fail
      go_roundw
      case rel=>exact⟨k+1,by omega,by go_num,zA (zLI.out.alloc zL8 _),HE3⟩
      case measure=>simp[intOf];omega
     ·have HA:=zA (H2.out nm)
      have bo:(nm==[])=false:=by simpa using ko
      have HE2':Hid ((!Q6 (fs ls) nm || (S.drop (k+1)).any (fun x => !qL (fs ls) x))=S.any (fun x => !qL (fs ls) x)):=by have:=HE2.out;unfold Hid;rw[<-this];simp[qL,ko]
      clear HE2 ko;generalize Q6 (fs ls) nm=z at *;cases z
      ·have HR3:Hid (lP (fs ls) i=4):=by unfold Hid;rw[HR2.out,<-HE2'.out];rfl
       clear HE2';go_wp2_with fail
       refine(HA.out _ (zLJ.out.alloc hsw _)).mono ?_;rintro e w1 ⟨rfl,hb1⟩;have HBn:Hid (Below w.heap.size w w1):=nN zLJ.out hsw hb1;clear hb1;go_wp2_with fail
       go_ret
       exact⟨yP HR3.out.symm,HBn.out⟩
      ·have HE3:Hid ((S.drop (k+1)).any (fun x => !qL (fs ls) x)=S.any (fun x => !qL (fs ls) x)):=by have:=HE2'.out;unfold Hid;rw[<-this];rfl
       clear HE2';go_wp2_with fail
       refine(HA.out _ (zLJ.out.alloc hsw _)).mono ?_;rintro e w1 ⟨rfl,hb1⟩;have HBn:Hid (Below wc.heap.size wc w1):=nN zLI.out zL8 hb1;clear hb1;go_wp2_with fail
       go_roundw
       case rel=>exact⟨k+1,by omega,by go_num,HBn,HE3⟩
       case measure=>simp[intOf];omega
    ·have HR3:Hid (lP (fs ls) i=if N.any (fun x => !vF (fs ls) x) then 4 else 0):=by
      have:=HE.out;rw[pm (by omega)]at this;unfold Hid;rw[HR2.out,<-this];rfl
     have qr:∀j,wr.cell? ⟨w.heap.size,j,none⟩=(F8 ⟨kd,n1,lo,hi',cc,S,N,ro,te,de,lw⟩ (.slice sa S.length sc) (.slice na N.length nc))[j]? := fun j=>(zLI.out.cell (p:=⟨w.heap.size,j,none⟩) HZ.out).trans (q j);clear HE HR2 q HS H2;obtain⟨wq,rfl⟩:∃wq,wq=wr:=⟨_,rfl⟩;go_wp2_with fail
     go_loopw [42] (fun iv wr=>∃(k:Nat),k<=N.length/\iv=.int .i64 k/\Hid (Below wq.heap.size wq wr)/\Hid ((N.drop k).any (fun x => !vF (fs ls) x)=N.any (fun x => !vF (fs ls) x))) (fun iv _=>N.length-(intOf iv).toNat)
     case atStart=>exact⟨0,p7 _,rfl,zA (tg _ _),zA rfl⟩
     case round =>
      obtain⟨m,hm,rfl,HBs,HF⟩:=hrel;have HBv:Hid (Below w.heap.size w wr):=zLJ.out.trans (HBs.out.mono hsw);have hsz2:=HBs.out.size;have hsw2:=HBv.out.size;by_cases zLH:m<N.length
      ·obtain⟨g,yK,rfl,hp⟩:=(HN.out.below HBv.out (j1 _)).blk (by omega)
       obtain⟨d0,d1,d2,d3,d4,d5,d6⟩:=hp.cells zLH;have hg:=hp.lt;have hE:=HF.out;rw[rJ _ nz _ m zLH,show N.getD m nz=pM N m from rfl]at hE;have HE2:=zA hE;have HA:=zA (H3.out (pM N m));clear HF hE hp qr;generalize vF (fs ls) (pM N m)=z at *;unfold kO at HA;generalize pM N m=y at *;obtain⟨kd',le,ri,nm,mk,ot,nu⟩:=y;simp only at d0 d1 d2 d3 d4 d5 d6 HA;cases z
       ·have HR4:Hid (lP (fs ls) i=4):=by unfold Hid;rw[HR3.out,<-HE2.out];rfl
        clear HE2;go_wp2_with fail
        refine(HA.out _ (HBv.out.alloc hsw2 _)).mono ?_;rintro e w1 ⟨rfl,hb1⟩;have HBn:Hid (Below w.heap.size w w1):=nN HBv.out hsw2 hb1;clear hb1;go_wp2_with fail
        go_ret
        exact⟨yP HR4.out.symm,HBn.out⟩
       ·have HE3:Hid ((N.drop (m+1)).any (fun x => !vF (fs ls) x)=N.any (fun x => !vF (fs ls) x)):=by have:=HE2.out;unfold Hid;rw[<-this];rfl
        clear HE2;go_wp2_with fail
        refine(HA.out _ (HBv.out.alloc hsw2 _)).mono ?_;rintro e w1 ⟨rfl,hb1⟩;have HBn:Hid (Below wq.heap.size wq w1):=nN HBs.out hsz2 hb1;clear hb1;go_wp2_with fail
        go_roundw
        case rel=>exact⟨m+1,by omega,by go_num,HBn,HE3⟩
        case measure=>simp[intOf];omega
      ·have HR4:Hid (lP (fs ls) i=0):=by
        have:=HF.out;rw[pm (by omega)]at this;unfold Hid;rw[HR3.out,<-this];rfl
       clear HF;go_wp2_with fail
       go_ret
       exact⟨yP HR4.out.symm,HBv.out⟩
  ·have HR2:Hid (lP (fs ls) i=4):=HR.out
   clear HR;go_wp2_with fail
   go_ret
   exact⟨yP HR2.out.symm,HB1.out⟩
theorem Ux(h:jS w a ls) :
 Calls Tryz.prog 75 #[.slice a ls.length c] w fun e w'=>e=.returned (.agg (gC (qM (zO (fs ls)) (fs ls) gZ)))/\Below w.heap.size w w':=by
 have HL:=zA h;have zLE:=h.few;have HRL:=zA (fun o=>aE (w.alloc o) a c ls (h.below (gb (j1 _) o) (j1 _)));clear h
 go_enter Tryz.func75,Tryz.ntmps75
 go_wp2_with fail
 refine(HRL.out _).mono ?_;rintro e w1 ⟨v,rfl,zL1,zL6,hb1⟩;have hz:w1.heap[w.heap.size]? = some (.cells (gC gZ) 125 (0,0)):=by rw[hb1.block _ (zV _ _)];exact zG _ _
 have hs:w.heap.size<w1.heap.size:=tj (zV _ _) hb1.size;have HK:=zA (fun o cs=>Uy.mk' (o:=o) (cs:=cs) hz (vZ hb1) hs zL1 (by omega));obtain⟨la,lc,rfl,_⟩:=HK.out (.cells #[] 0 (0,0)) #[];generalize hlb:zO (fs ls)=zKX at *;have HLB:=zA hlb;clear hlb
 have HK2:Hid (∀o cs,Uy w ((w1.alloc o).setRow w1.heap.size cs) w1.heap.size la zKX):=fun o cs=>by
  obtain⟨a',c',e,p⟩:=HK.out o cs;simp only[cr]at e;rw[e.1];exact p
 clear hz zL1 hb1 HK HRL
 go_upto_region 2 with fail
 go_cut [4] from 16 to 16 (fun p4 wx=>p4=.pointer (some ⟨w1.heap.size,0,none⟩)/\Hid (Uy w wx w1.heap.size la zKX)/\Hid (eN wx w1.heap.size gZ))
 case first =>
  go_wp2_with (refine wpList_store_row ?zLA 125 (.tmp 4) (.tmp 16) ?ho w1.heap.size (gC gZ) ?hx ?hy 125 (gC gZ) (zG w1 _) (kR xK) rfl (lF gZ) ?_
               case ho=>rfl
               case zLA=>rfl
               case hx=>rfl
               case hy=>rfl)
  go_meet
  exact⟨rfl,zA (HK2.out _ _),zA ⟨cg _ _ (gC gZ) _ _ _ (zG w1 _),xK⟩⟩
 case rest =>
  obtain⟨rfl,HM,HG0⟩:=hcut;generalize w1.heap.size=g at *;clear HK2;go_wp2_with fail
  go_loopw [19] (fun iv wr=>∃(i:Nat) (G:List Bool),i<=ls.length/\iv=.int .i64 i/\Hid (qA g wc wr)/\Hid (eN wr g G)/\Hid (qM zKX ((fs ls).drop i) G=qM zKX (fs ls) gZ)) (fun iv _=>ls.length-(intOf iv).toNat)
  case atStart=>exact⟨0,gZ,p7 _,rfl,zA (qA.refl _ _),HG0,zA rfl⟩
  case round =>
   obtain⟨i,G,hi,rfl,HO,HG,HE⟩:=hrel;clear HG0;have zLJ:Hid (Below w.heap.size w wr):=HM.out.bel.trans (HO.out.below HM.out.bel.size (ph HM.out.g1));by_cases zKZ:i<ls.length
   ·obtain⟨gl,sa,sn,sc,na,nn,nc,rfl,hgl,⟨c0,c1,c2,c3,c4,c5,c6,c7,c8,c9,c10⟩,eq,hC⟩:=(HL.out.below zLJ.out (j1 _)).line zKZ
    have hE:=HE.out;rw[FS9 _ _ i _ (by simpa using zKZ),jO]at hE;have HE2:=zA hE;have HF:=zA (fun o nm=>X7 (wr.alloc o) la lc zKX nm (HM.out.str _ (HO.out.alloc o)));have HRl:=zA (fun hk=>(HL.out.rows _ (Ys zKZ)).rule hk eq);clear HE hE hC eq;generalize (pG ls i).1=x at *;obtain⟨kd,n1,lo,hi',cc,S,N,ro,te,de,lw⟩:=x;simp only at c0 c1 c2 c3 c4 c5 c6 c7 c8 c9 c10 HRl;by_cases k1:kd=3
    ·have b1:(kd != 3)=false:=by simpa using k1
     obtain⟨rfl,hS,rfl,hN⟩:=HRl.out k1;have HE3:Hid (qM zKX ((fs ls).drop (i+1)) (pF zKX (zH zKX cc) N (lR zKX (zH zKX cc) S G))=qM zKX (fs ls) gZ):=by have:=HE2.out;rw[tl k1]at this;exact this
     have HS:=zA hS;have HN:=zA hN;have hs1:=hS.few;have hn1:=hN.few;unfold maxLen at hs1 hn1;have hgw:g<wr.heap.size:=tj HM.out.lt HO.out.size;clear HE2 k1 HRl hS hN;go_wp2_with fail
     refine(HF.out _ cc).mono ?_;rintro e w2 ⟨rfl,hw⟩;have q:∀j,w2.cell? ⟨wr.heap.size,j,none⟩=(F8 ⟨kd,n1,lo,hi',cc,S,N,ro,te,de,lw⟩ (.slice sa S.length sc) (.slice na N.length nc))[j]? := by rw[hw];exact zB (zG _ _)
     have HO2:Hid (qA g wc w2):=by rw[hw];exact HO.out.alloc _
     have HG2:Hid (eN w2 g G):=by rw[hw];exact HG.out.new _
     have HBv:Hid (Below wr.heap.size wr w2):=by rw[hw];exact gb (j1 _) _
     have HZ:Hid (wr.heap.size<w2.heap.size):=by rw[hw];exact zV _ _
     clear hw HF c0 c1 c2 c3 c4 c5 c6 c7 c8 c9 c10 HG;generalize zH zKX cc=fr at *;obtain⟨wL,hwL⟩:∃wL,wL=wr:=⟨_,rfl⟩;subst hwL;go_wp2_with fail
     go_loopw [33] (fun iv wr=>∃(k:Nat) (H:List Bool),k<=S.length/\iv=.int .i64 k/\Hid (qA g w2 wr)/\Hid (eN wr g H)/\Hid (lR zKX fr (S.drop k) H=lR zKX fr S G)) (fun iv _=>S.length-(intOf iv).toNat)
     case atStart=>exact⟨0,G,p7 _,rfl,zA (qA.refl _ _),HG2,zA rfl⟩
     case round =>
      obtain⟨k,H,hk,rfl,HOk,HGk,HEk⟩:=hrel;clear HG2;have HOc:Hid (qA g wc wr):=HO2.out.trans HOk.out;by_cases hltk:k<S.length
      ·have HBk:Hid (Below w.heap.size w wr):=HM.out.bel.trans (HOc.out.below HM.out.bel.size (ph HM.out.g1))
       obtain⟨gs,yK,rfl,hp⟩:=(HS.out.below HBk.out (j1 _)).blk (by omega);obtain⟨d0,d1,d2,d3⟩:=hp.cells hltk;have hgs:=hp.lt;have hE:=HEk.out;rw[Bt _ _ _ k _ hltk]at hE;have HE4:=zA hE;have HF2:=zA (fun o nm=>X7 (wr.alloc o) la lc zKX nm (HM.out.str _ (HOc.out.alloc o)));have HA:=zA (fun o x y=>zC1 (wr.alloc o) g H x y (HGk.out.new o));clear HEk hE hp;generalize Qf S k=y at *;obtain⟨mi,st,nu,nm⟩:=y;simp only at d0 d1 d2 d3;go_wp2_with fail
       refine(HF2.out _ nm).mono ?_;rintro e w3 ⟨rfl,hw⟩;obtain rfl:=hw.symm;go_wp2_with fail
       refine(HA.out _ _ _).mono ?_;rintro e w3 ⟨rfl,hg3,ho3⟩;have HO3:Hid (qA g w2 w3):=(HOk.out.alloc _).trans ho3;have HG3:=zA hg3;clear hg3 ho3;go_wp2_with fail
       go_roundw
       case rel=>exact⟨k+1,_,by omega,by go_num,HO3,HG3,HE4⟩
       case measure=>simp[intOf];omega
      ·have HE4:Hid (H=lR zKX fr S G):=by have:=HEk.out;rw[pm (by omega)]at this;exact this
       have q2:∀j,wr.cell? ⟨wL.heap.size,j,none⟩=(F8 ⟨kd,n1,lo,hi',cc,S,N,ro,te,de,lw⟩ (.slice sa S.length sc) (.slice na N.length nc))[j]? := fun j=>by
        have e9:wr.heap[wL.heap.size]? = w2.heap[wL.heap.size]? := HOk.out.block _ HZ.out (by omega);have:=q j;simp only[World.cell?,e9]at this ⊢;exact this
       clear HEk q;obtain⟨wq,hwq⟩:∃wq,wq=wr:=⟨_,rfl⟩;subst hwq;go_wp2_with fail
       go_loopw [49] (fun iv wr=>∃(k:Nat) (H':List Bool),k<=N.length/\iv=.int .i64 k/\Hid (qA g wq wr)/\Hid (eN wr g H')/\Hid (pF zKX fr (N.drop k) H'=pF zKX fr N H)) (fun iv _=>N.length-(intOf iv).toNat)
       case atStart=>exact⟨0,H,p7 _,rfl,zA (qA.refl _ _),HGk,zA rfl⟩
       case round =>
        obtain⟨m,H2,hm,rfl,HOm,HGm,HEm⟩:=hrel;clear HGk;have HOd:Hid (qA g wc wr):=HOc.out.trans HOm.out;by_cases hltm:m<N.length
        ·have HBk:Hid (Below w.heap.size w wr):=HM.out.bel.trans (HOd.out.below HM.out.bel.size (ph HM.out.g1))
         obtain⟨gs,yK,rfl,hp⟩:=(HN.out.below HBk.out (j1 _)).blk (by omega);obtain⟨d0,d1,d2,d3,d4,d5,d6⟩:=hp.cells hltm;have hgs:=hp.lt;have hE:=HEm.out;rw[B4 _ _ _ m _ hltm]at hE;have HE5:=zA hE;have HF2:=zA (fun o nm=>X7 (wr.alloc o) la lc zKX nm (HM.out.str _ (HOd.out.alloc o)));have HA:=zA (fun o x y=>zC1 (wr.alloc o) g H2 x y (HGm.out.new o));clear HEm hE hp q2;generalize pM N m=y at *;obtain⟨kd',le,ri,nm,mk,ot,nu⟩:=y;simp only at d0 d1 d2 d3 d4 d5 d6;by_cases k5:kd'=5
         ·have b5:(kd'==5)=true:=by simpa using k5
          have HE6:Hid (pF zKX fr (N.drop (m+1)) (nP H2 fr (zH zKX nm))=pF zKX fr N H):=by have:=HE5.out;rw[tl k5]at this;exact this
          clear HE5 k5;go_wp2_with fail
          refine(HF2.out _ nm).mono ?_;rintro e w3 ⟨rfl,hw⟩;obtain rfl:=hw.symm;go_wp2_with fail
          refine(HA.out _ _ _).mono ?_;rintro e w3 ⟨rfl,hg3,ho3⟩;have HO3:Hid (qA g wq w3):=(HOm.out.alloc _).trans ho3;have HG3:=zA hg3;clear hg3 ho3;go_wp2_with fail
          go_roundw
          case rel=>exact⟨m+1,_,by omega,by go_num,HO3,HG3,HE6⟩
          case measure=>simp[intOf];omega
         ·have b5:(kd'==5)=false:=by simpa using k5
          have HE6:Hid (pF zKX fr (N.drop (m+1)) H2=pF zKX fr N H):=by have:=HE5.out;rw[tb k5]at this;exact this
          clear HE5 k5;go_wp2_with fail
          go_roundw
          case rel=>exact⟨m+1,H2,by omega,by go_num,zA (HOm.out.alloc _),zA (HGm.out.new _),HE6⟩
          case measure=>simp[intOf];omega
        ·have HE6:Hid (qM zKX ((fs ls).drop (i+1)) H2=qM zKX (fs ls) gZ):=by
          have:=HEm.out;rw[pm (by omega)]at this;unfold Hid;rw[<-HE3.out,<-HE4.out,<-this];rfl
         clear HEm;go_wp2_with fail
         go_roundw
         case rel=>exact⟨i+1,H2,by omega,by go_num,HOd,HGm,HE6⟩
         case measure=>simp[intOf];omega
    ·have b1:(kd != 3)=true:=by simpa using k1
     have HE3:Hid (qM zKX ((fs ls).drop (i+1)) G=qM zKX (fs ls) gZ):=by have:=HE2.out;rw[tb k1]at this;exact this
     clear HE2 k1 HRl;go_wp2_with fail
     go_roundw
     case rel=>exact⟨i+1,G,by omega,by go_num,zA (HO.out.alloc _),zA (HG.out.new _),HE3⟩
     case measure=>simp[intOf];omega
   ·have HE3:Hid (G=qM zKX (fs ls) gZ):=by have:=HE.out;rw[pm (by simp;omega)]at this;exact this
    have HRs:Hid (wr.heap[w.heap.size]? = some (.cells (gC gZ) 125 (0,0))):=by
     unfold Hid;rw[HO.out.block _ (Nat.lt_trans HM.out.g1 HM.out.lt) (Nat.ne_of_lt HM.out.g1)];exact HM.out.res
    clear HE
    go_wp2_with (first
     | (refine wpList_load_row ?zLA 125 (.tmp 4) ?ho g ?hx 125 (gC G) (0,0) _ HG.out.1 Tryz.underlying125 rfl (kR HG.out.2) ?_
        case ho=>rfl
        case zLA=>rfl
        case hx=>rfl)
     | (refine wpList_store_row ?zLA 125 (.tmp 2) (.tmp 65) ?ho w.heap.size (gC G) ?hx ?hy 125 (gC gZ) HRs.out (kR HG.out.2) ?zLB (lF G) ?_
        case ho=>rfl
        case zLA=>rfl
        case hx=>rfl
        case hy=>rfl
        case zLB=>rw[uG,uG,xK,HG.out.2]))
    refine pe (v:=.agg (gC G)) (results_cell_row Tryz.results75 _ _ w.heap.size 125 (gC G) (0,0) _ rfl (cg _ _ (gC gZ) _ _ _ HRs.out) Tryz.underlying125 rfl (kR HG.out.2)) rfl ⟨by rw[HLB.out,<-HE3.out],xI zLJ.out (j1 _) _⟩
theorem wB(ls:List zE)(nm:Bs):uK ls nm<=ls.length:=by have:=(VQ (Zl 3 nm) ls 0).2;unfold uK;omega
theorem Ve(x:zE)(sa na:Option Addr)(sn sc nn nc:Nat)(h:jS w a ls) :
 Calls Tryz.prog 115 #[.slice a ls.length c,uJ (.slice sa sn sc) (.slice na nn nc) x] w fun e w'=>e=.returned (.int .i64 (cS (fs ls) x))/\Below w.heap.size w w':=by
 have zLE:=h.few;have HL:=zA h;have HU:=zA (X9 h c x.name);have HW:=zA (X9 h c x.lower);have hu:=wB (fs ls) x.name;have hl:=wB (fs ls) x.lower;rw[Zt]at hu hl
 have HR:Hid (cS (fs ls) x=if uK (fs ls) x.name=ls.length\/uK (fs ls) x.lower=ls.length then 4 else if x.name=x.lower\/(pG ls (uK (fs ls) x.name)).1.conc≠(pG ls (uK (fs ls) x.lower)).1.conc then 6 else 0):=by
  unfold Hid cS;rw[jO,jO,Zt]
 clear h;obtain⟨kd,n1,lo,hi',cc,S,N,ro,te,de,lw⟩:=x;simp only at HU HW hu hl HR;unfold uJ;generalize uK (fs ls) n1=fu at *;generalize uK (fs ls) lw=fl at *;by_cases ku:fu=ls.length
 ·have HR2:Hid (cS (fs ls) ⟨kd,n1,lo,hi',cc,S,N,ro,te,de,lw⟩=4):=by unfold Hid;rw[HR.out,tl (.inl ku)]
  clear HR
  go_enter Tryz.func115,Tryz.ntmps115
  go_wp2_with fail
  refine(HU.out _ (gb (j1 _) _)).mono ?_;rintro e w1 ⟨rfl,hb1⟩;have HB1:Hid (Below w.heap.size w w1):=vZ hb1;have q1:=bS hb1;clear hb1;go_wp2_with fail
  refine(HW.out _ HB1.out).mono ?_;rintro e w2 ⟨rfl,hb2⟩;have HB2:Hid (Below w.heap.size w w2):=HB1.out.trans (hb2.mono HB1.out.size);clear hb2;go_wp2_with fail
  go_ret
  exact⟨yP HR2.out.symm,HB2.out⟩
 by_cases kl:fl=ls.length
 ·have HR2:Hid (cS (fs ls) ⟨kd,n1,lo,hi',cc,S,N,ro,te,de,lw⟩=4):=by unfold Hid;rw[HR.out,tl (.inr kl)]
  have bu:((fu:Int)==(ls.length:Int))=false:=by simp;omega
  clear HR ku
  go_enter Tryz.func115,Tryz.ntmps115
  go_wp2_with fail
  refine(HU.out _ (gb (j1 _) _)).mono ?_;rintro e w1 ⟨rfl,hb1⟩;have HB1:Hid (Below w.heap.size w w1):=vZ hb1;have q1:=bS hb1;clear hb1;go_wp2_with fail
  refine(HW.out _ HB1.out).mono ?_;rintro e w2 ⟨rfl,hb2⟩;have HB2:Hid (Below w.heap.size w w2):=HB1.out.trans (hb2.mono HB1.out.size);clear hb2;go_wp2_with fail
  go_ret
  exact⟨yP HR2.out.symm,HB2.out⟩
 have hfu:fu<ls.length:=by omega
 have hfl:fl<ls.length:=by omega
 have HR2:Hid (cS (fs ls) ⟨kd,n1,lo,hi',cc,S,N,ro,te,de,lw⟩=if n1=lw\/(pG ls fu).1.conc≠(pG ls fl).1.conc then 6 else 0):=by unfold Hid;rw[HR.out,tb (by rintro(e|e);exact ku e;exact kl e)]
 have bu:((fu:Int)==(ls.length:Int))=false:=by simp;omega
 have bl:((fl:Int)==(ls.length:Int))=false:=by simp;omega
 clear HR ku kl hu hl
 go_enter Tryz.func115,Tryz.ntmps115
 go_wp2_with fail
 refine(HU.out _ (gb (j1 _) _)).mono ?_;rintro e w1 ⟨rfl,hb1⟩;have HB1:Hid (Below w.heap.size w w1):=vZ hb1;have q1:=bS hb1;have HZ:Hid (w.heap.size<w1.heap.size):=tj (zV _ _) hb1.size;clear hb1;go_wp2_with fail
 refine(HW.out _ HB1.out).mono ?_;rintro e w2 ⟨rfl,hb2⟩;have HB2:Hid (Below w.heap.size w w2):=HB1.out.trans (hb2.mono HB1.out.size);have q2:∀j,w2.cell? ⟨w.heap.size,j,none⟩=(F8 ⟨kd,n1,lo,hi',cc,S,N,ro,te,de,lw⟩ (.slice sa sn sc) (.slice na nn nc))[j]? := fun j=>(hb2.cell (p:=⟨w.heap.size,j,none⟩) HZ.out).trans (q1 j);clear hb2 q1;obtain⟨gl,_,_,_,_,_,_,rfl,hgl,⟨_,_,_,_,c4,_,_,_,_,_,_⟩,_,_⟩:=(HL.out.below HB2.out (j1 _)).line hfu;obtain⟨gl',_,_,_,_,_,_,hgg,_,⟨_,_,_,_,d4,_,_,_,_,_,_⟩,_,_⟩:=(HL.out.below HB2.out (j1 _)).line hfl;obtain rfl:gl=gl':=by simpa using hgg
 clear hgg HL;generalize (pG ls fu).1.conc=cu at *;generalize (pG ls fl).1.conc=cl at *;have e1:=q2 1;have e10:=q2 10;simp only[F8,bg,co,dl]at e1 e10;have ifu:(fu:Int)<(ls.length:Int):=by omega
 have ifl:(fl:Int)<(ls.length:Int):=by omega
 go_wp2_with fail
 by_cases kn:n1=lw
 ·have HR3:Hid (cS (fs ls) ⟨kd,n1,lo,hi',cc,S,N,ro,te,de,lw⟩=6):=by unfold Hid;rw[HR2.out,tl (.inl kn)]
  have bn:(n1==lw)=true:=by simpa using kn
  clear HR2 kn
  go_quiet (fail)
  go_wp2_with fail
  go_ret
  exact⟨yP HR3.out.symm,xR HB2.out _⟩
 ·have bn:(n1==lw)=false:=by simpa using kn
  by_cases kc:cu=cl
  ·have HR3:Hid (cS (fs ls) ⟨kd,n1,lo,hi',cc,S,N,ro,te,de,lw⟩=0):=by unfold Hid;rw[HR2.out,tb (by rintro(e|e);exact kn e;exact e kc)]
   have bc:(cu==cl)=true:=by simpa using kc
   clear HR2 kn kc
   go_quiet (fail)
   go_wp2_with fail
   go_ret
   exact⟨yP HR3.out.symm,xR HB2.out _⟩
  ·have HR3:Hid (cS (fs ls) ⟨kd,n1,lo,hi',cc,S,N,ro,te,de,lw⟩=6):=by unfold Hid;rw[HR2.out,tl (.inr kc)]
   have bc:(cu==cl)=false:=by simpa using kc
   clear HR2 kn kc
   go_quiet (fail)
   go_wp2_with fail
   go_ret
   exact⟨yP HR3.out.symm,xR HB2.out _⟩
theorem Vw(hi:i<ls.length)(hc:ls.length<=c)(h:jS w a ls) :
 Calls Tryz.prog 74 #[.slice a ls.length c,.int .i64 i] w fun e w'=>e=.returned (.int .i64 (mM (fs ls) i))/\Below w.heap.size w w':=by
 have zLE:=h.few;have HN:=zA (B1 w a c ls i hi hc h);have HI:=zA (iU w a c ls i hi hc h);have HR:=zA (fun hk=>KS w a c ls i hi hc hk h);have HO:=zA (fun sa na sn sc nn nc=>Ve w a c ls (pG ls i).1 sa na sn sc nn nc h);have hkinds:=(h.rows _ (Ys hi)).g.kinds;have HE:Hid (mM (fs ls) i=if (pG ls i).1.kind=1 then iE (fs ls) i else if (pG ls i).1.kind=2 then fY (fs ls) i else if (pG ls i).1.kind=3 then lP (fs ls) i else if (pG ls i).1.kind=4 then cS (fs ls) (pG ls i).1 else 0):=by unfold Hid mM;rw[jO]
 obtain⟨gl,sa,sn,sc,na,nn,nc,rfl,hgl,⟨c0,c1,c2,c3,c4,c5,c6,c7,c8,c9,c10⟩,eq,hC⟩:=h.line hi;have HO2:=zA (HO.out sa na sn sc nn nc);unfold uJ at HO2;clear h eq hC HO;generalize (pG ls i).1=x at *;obtain⟨kd,n1,lo,hi',cc,S,N,ro,te,de,lw⟩:=x;simp only at c0 c1 c2 c3 c4 c5 c6 c7 c8 c9 c10 HR HO2 HE hkinds;rcases hkinds with rfl|rfl|rfl|rfl
 ·have HE2:Hid (mM (fs ls) i=iE (fs ls) i):=HE.out
  clear HE HI HR HO2 c1 c2 c3 c4 c5 c6 c7 c8 c9 c10
  go_enter Tryz.func74,Tryz.ntmps74
  go_wp2_with fail
  refine HN.out.mono ?_;rintro e w1 ⟨rfl,hb1⟩;have HB1:=zA hb1;clear hb1;go_wp2_with fail
  go_ret
  exact⟨yP HE2.out.symm,HB1.out⟩
 ·have HE2:Hid (mM (fs ls) i=fY (fs ls) i):=HE.out
  clear HE HN HR HO2 c1 c2 c3 c4 c5 c6 c7 c8 c9 c10
  go_enter Tryz.func74,Tryz.ntmps74
  go_wp2_with fail
  refine HI.out.mono ?_;rintro e w1 ⟨rfl,hb1⟩;have HB1:=zA hb1;clear hb1;go_wp2_with fail
  go_ret
  exact⟨yP HE2.out.symm,HB1.out⟩
 ·have HE2:Hid (mM (fs ls) i=lP (fs ls) i):=HE.out
  clear HE HN HI HO2 c1 c2 c3 c4 c5 c6 c7 c8 c9 c10
  go_enter Tryz.func74,Tryz.ntmps74
  go_wp2_with fail
  refine(HR.out trivial).mono ?_;rintro e w1 ⟨rfl,hb1⟩;have HB1:=zA hb1;clear hb1;go_wp2_with fail
  go_ret
  exact⟨yP HE2.out.symm,HB1.out⟩
 ·have HE2:Hid (mM (fs ls) i=cS (fs ls) ⟨4,n1,lo,hi',cc,S,N,ro,te,de,lw⟩):=HE.out
  clear HE HN HI HR
  go_enter Tryz.func74,Tryz.ntmps74
  go_wp2_with fail
  refine HO2.out.mono ?_;rintro e w1 ⟨rfl,hb1⟩;have HB1:=zA hb1;clear hb1;go_wp2_with fail
  go_ret
  exact⟨yP HE2.out.symm,HB1.out⟩
def fU(ls:List zE):Nat->Nat->Option Nat
 | 0,_=>none
 | n+1,i=>if tH ls i=true then some i else fU ls n (i+1)
def sR(ls:List zE):Nat->Nat->Option Nat
 | 0,_=>none
 | n+1,i=>if mM ls i=0 then sR ls n (i+1) else some i
def YO(ls:List zE):Int × Int:=if qS (qM (zO ls) ls gZ)=true then (7,0) else if qS (uW (vD ls) ls gZ)=true then (7,1) else (0,0)
def XF(ls:List zE):Int × Int:=match sR ls ls.length 0 with|some i=>(mM ls i,(i:Int))|none=>YO ls
def kI(ls:List zE):Int × Int:=match fU ls ls.length 0 with|some i=>(3,(i:Int))|none=>XF ls
theorem fT(zKX:List Bs)(ls:List zE):∀G,(qM zKX ls G).length=G.length:=by
 have hp:∀f (S:List xE) G,(lR zKX f S G).length=G.length:=by
  intro f S;induction S with
  | nil=>intro G;rfl
  | cons x r ih=>intro G;rw[lR,ih,mE]
 have hn:∀f (N:List zT) G,(pF zKX f N G).length=G.length:=by
  intro f N;induction N with
  | nil=>intro G;rfl
  | cons x r ih=>intro G;rw[pF,ih];split
                 ·rw[mE]
                 ·rfl
 induction ls with
 | nil=>intro G;rfl
 | cons x r ih=>intro G;rw[qM,ih];split
                ·rw[hn,hp]
                ·rfl
theorem lT(labs:List Bs)(ls:List zE):∀G,(uW labs ls G).length=G.length:=by
 induction ls with
 | nil=>intro G;rfl
 | cons x r ih=>intro G;rw[uW,ih];split
                ·rw[mE]
                ·rfl
abbrev pO:Obj:=.cells #[.int .i64 0,.int .i64 0] 146 (0,0)
def oZ(x:Int × Int):Value:=.agg #[.int .i64 x.1,.int .i64 x.2]
theorem oX{w:World}(hb:Below (w.alloc pO).heap.size (w.alloc pO) w1)(k:Nat):w1.frozen? ⟨w.heap.size,k,none⟩=false:=by
 have h1:w1.heap[w.heap.size]? = some pO:=by rw[hb.block _ (zV _ _)];exact zG _ _
 simp[World.frozen?,h1]
theorem lJ{w:World}(hb:Below (w.alloc pO).heap.size (w.alloc pO) w1)(x y:Value) :
 ((w1.setCell ⟨w.heap.size,0,none⟩ x).setCell ⟨w.heap.size,1,none⟩ y).heap[w.heap.size]? = some (.cells #[x,y] 146 (0,0))/\Below w.heap.size w ((w1.setCell ⟨w.heap.size,0,none⟩ x).setCell ⟨w.heap.size,1,none⟩ y):=by
 have h1:w1.heap[w.heap.size]? = some pO:=by rw[hb.block _ (zV _ _)];exact zG _ _
 have h2:(w1.setCell ⟨w.heap.size,0,none⟩ x).heap[w.heap.size]? = some (.cells #[x,.int .i64 0] 146 (0,0)):=by
  rw[setCell_eq_setRow _ _ _ _ _ _ _ h1,cg _ _ _ _ _ _ h1];rfl
 refine⟨?_,((vZ hb).setCell (p:=⟨w.heap.size,0,none⟩) (j1 _) _).setCell (p:=⟨w.heap.size,1,none⟩) (j1 _) _⟩;rw[setCell_eq_setRow _ _ _ _ _ _ _ h2,cg _ _ _ _ _ _ h2];rfl
theorem iZ:(Tryz.prog.info? 146).map (·.size)=some 2:=by kernel_rfl
theorem zFX(hc:ls.length<=c)(h:jS w a ls) :
 Calls Tryz.prog 56 #[.slice a ls.length c] w fun e w'=>e=.returned (oZ (kI (fs ls)))/\Below w.heap.size w w':=by
 have HL:=zA h;have zLE:=h.few;clear h
 go_enter Tryz.func56,Tryz.ntmps56
 go_wp2_with fail
 go_loopw [10] (fun iv wr=>∃(i:Nat),i<=ls.length/\iv=.int .i64 i/\Hid (Below (w.alloc pO).heap.size (w.alloc pO) wr)/\Hid (fU (fs ls) (ls.length-i) i=fU (fs ls) ls.length 0)) (fun iv _=>ls.length-(intOf iv).toNat)
 case atStart=>exact⟨0,p7 _,rfl,zA (tg _ _),zA rfl⟩
 case round =>
  obtain⟨i,hi,rfl,HB,HE⟩:=hrel;have zLJ:Hid (Below w.heap.size w wr):=vZ HB.out;have q:=bS HB.out;have hfz:=oX HB.out;by_cases zKZ:i<ls.length
  ·have HC:=zA (V2 wr a c ls i zKZ hc (HL.out.below zLJ.out (j1 _)))
   have hE:=HE.out;rw[show ls.length-i=(ls.length-(i+1))+1 by omega,fU]at hE;have HE2:=zA hE;clear HE hE;generalize tH (fs ls) i=z at *;cases z
   ·have HE3:Hid (fU (fs ls) (ls.length-(i+1)) (i+1)=fU (fs ls) ls.length 0):=HE2.out
    clear HE2;go_wp2_with fail
    refine HC.out.mono ?_;rintro e w1 ⟨rfl,hb1⟩;have HB1:Hid (Below (w.alloc pO).heap.size (w.alloc pO) w1):=HB.out.trans (hb1.mono HB.out.size);clear hb1;go_wp2_with fail
    go_roundw
    case rel=>exact⟨i+1,by omega,by go_num,HB1,HE3⟩
    case measure=>simp[intOf];omega
   ·have HR:Hid (kI (fs ls)=(3,(i:Int))):=by
     have:some i=fU (fs ls) ls.length 0:=HE2.out;unfold Hid kI;rw[Zt,<-this]
    clear HE2;go_wp2_with fail
    refine HC.out.mono ?_;rintro e w1 ⟨rfl,hb1⟩;have HB1:Hid (Below (w.alloc pO).heap.size (w.alloc pO) w1):=HB.out.trans (hb1.mono HB.out.size);have q1:=bS HB1.out;have hfz1:=oX HB1.out;clear hb1 q hfz;go_wp2_with fail
    refine pe (v:=oZ (3,(i:Int))) (results_cell_row Tryz.results56 _ _ w.heap.size 146 #[.int .i64 3,.int .i64 (i:Int)] (0,0) _ rfl (lJ HB1.out _ _).1 Tryz.underlying146 rfl iZ) rfl ⟨by rw[HR.out],(lJ HB1.out _ _).2⟩
  ·have HMn:Hid (kI (fs ls)=XF (fs ls)):=by
    have:=HE.out;rw[show ls.length-i=0 by omega]at this;unfold Hid kI;rw[Zt,<-this];rfl
   clear HE q hfz;obtain⟨wq,hwq⟩:∃wq,wq=wr:=⟨_,rfl⟩;subst hwq;go_wp2_with fail
   go_loopw [21] (fun iv wr=>∃(i:Nat),i<=ls.length/\iv=.int .i64 i/\Hid (Below (w.alloc pO).heap.size (w.alloc pO) wr)/\Hid (sR (fs ls) (ls.length-i) i=sR (fs ls) ls.length 0)) (fun iv _=>ls.length-(intOf iv).toNat)
   case atStart=>exact⟨0,p7 _,rfl,HB,zA rfl⟩
   case round =>
    obtain⟨j,hj,rfl,HBj,HEj⟩:=hrel;have HBv:Hid (Below w.heap.size w wr):=vZ HBj.out;by_cases hltj:j<ls.length
    ·have HC:=zA (Vw wr a c ls j hltj hc (HL.out.below HBv.out (j1 _)))
     have hE:=HEj.out;rw[show ls.length-j=(ls.length-(j+1))+1 by omega,sR]at hE;have HE2:=zA hE;have HP:Hid (mM (fs ls) j=mM (fs ls) j):=rfl;clear HEj hE;by_cases hz:mM (fs ls) j=0
     ·have HE3:Hid (sR (fs ls) (ls.length-(j+1)) (j+1)=sR (fs ls) ls.length 0):=by have:=HE2.out;rw[tl hz]at this;exact this
      rw[hz]at HC;clear HE2 hz HP;go_wp2_with fail
      refine HC.out.mono ?_;rintro e w1 ⟨rfl,hb1⟩;have HB1:Hid (Below (w.alloc pO).heap.size (w.alloc pO) w1):=HBj.out.trans (hb1.mono HBj.out.size);clear hb1;go_wp2_with fail
      go_roundw
      case rel=>exact⟨j+1,by omega,by go_num,HB1,HE3⟩
      case measure=>simp[intOf];omega
     ·have HR:Hid (kI (fs ls)=(mM (fs ls) j,(j:Int))):=by
       have:some j=sR (fs ls) ls.length 0:=by have:=HE2.out;rw[tb hz]at this;exact this
       unfold Hid;rw[HMn.out,XF,Zt,<-this]
      clear HE2 HP;generalize mM (fs ls) j=er at *;have be:(er != 0)=true:=by simpa using hz
      clear hz;go_wp2_with fail
      refine HC.out.mono ?_;rintro e w1 ⟨rfl,hb1⟩;have HB1:Hid (Below (w.alloc pO).heap.size (w.alloc pO) w1):=HBj.out.trans (hb1.mono HBj.out.size);have q1:=bS HB1.out;have hfz1:=oX HB1.out;clear hb1;go_wp2_with fail
      refine pe (v:=oZ (er,(j:Int))) (results_cell_row Tryz.results56 _ _ w.heap.size 146 #[.int .i64 er,.int .i64 (j:Int)] (0,0) _ rfl (lJ HB1.out _ _).1 Tryz.underlying146 rfl iZ) rfl ⟨by rw[HR.out],(lJ HB1.out _ _).2⟩
    ·have HRg:Hid (kI (fs ls)=YO (fs ls)):=by
      have:=HEj.out;rw[show ls.length-j=0 by omega]at this;unfold Hid;rw[HMn.out,XF,Zt,<-this];rfl
     clear HEj HMn;have HNm:=zA (Ux wr a c ls (HL.out.below HBv.out (j1 _)));have hgl:(qM (zO (fs ls)) (fs ls) gZ).length=64:=by rw[fT];exact xK
     have hgl2:(uW (vD (fs ls)) (fs ls) gZ).length=64:=by rw[lT];exact xK
     have HOr:=zA (fun w' (hb:Below w.heap.size w w')=>DQ w' a c ls (HL.out.below hb (j1 _)));have HR0:Hid (kI (fs ls)=if qS (qM (zO (fs ls)) (fs ls) gZ)=true then (7,0) else if qS (uW (vD (fs ls)) (fs ls) gZ)=true then (7,1) else (0,0)):=HRg.out;have HGL:=zA hgl;have HGL2:=zA hgl2;clear HRg hgl hgl2;generalize qM (zO (fs ls)) (fs ls) gZ=Gn at *;generalize uW (vD (fs ls)) (fs ls) gZ=Go at *;go_wp2_with fail
     refine HNm.out.mono ?_;rintro e w2 ⟨rfl,hb2⟩;have HB2:Hid (Below (w.alloc pO).heap.size (w.alloc pO) w2):=HBj.out.trans (hb2.mono HBj.out.size);clear hb2
     go_wp2_with (refine wpList_store_row ?zLA 125 (.tmp 6) (.tmp 34) ?ho w2.heap.size (gC Gn) ?hx ?hy 125 (gC gZ) (zG w2 _) (kR HGL.out) ?zLB (lF Gn) ?_
                  case ho=>rfl
                  case zLA=>rfl
                  case hx=>rfl
                  case hy=>rfl
                  case zLB=>rw[uG,uG,xK,HGL.out])
     refine(Jv _ w2.heap.size Gn ⟨cg _ _ (gC gZ) _ _ _ (zG w2 _),HGL.out⟩).mono ?_;rintro e w3 ⟨rfl,hb3⟩
     have HB3:Hid (Below (w.alloc pO).heap.size (w.alloc pO) w3):=by
      have h1:Below (w.alloc pO).heap.size (w.alloc pO) ((w2.alloc (.cells (gC gZ) 125 (0,0))).setRow w2.heap.size (gC Gn)):=xI (HB2.out.alloc HB2.out.size _) HB2.out.size _;exact h1.trans (hb3.mono h1.size)
     have q3:=bS HB3.out;have hfz3:=oX HB3.out;clear hb3;generalize qS Gn=z1 at *;cases z1
     ·have HR1:Hid (kI (fs ls)=if qS Go=true then (7,1) else (0,0)):=by have:=HR0.out;rw[tb Bool.false_ne_true]at this;exact this
      clear HR0;go_wp2_with fail
      refine(HOr.out _ (vZ HB3.out)).mono ?_;rintro e w4 ⟨rfl,hb4⟩;have HB4:Hid (Below (w.alloc pO).heap.size (w.alloc pO) w4):=HB3.out.trans (hb4.mono HB3.out.size);clear hb4 q3 hfz3
      go_wp2_with (refine wpList_store_row ?zLA 125 (.tmp 7) (.tmp 38) ?ho w4.heap.size (gC Go) ?hx ?hy 125 (gC gZ) (zG w4 _) (kR HGL2.out) ?zLB (lF Go) ?_
                   case ho=>rfl
                   case zLA=>rfl
                   case hx=>rfl
                   case hy=>rfl
                   case zLB=>rw[uG,uG,xK,HGL2.out])
      refine(Jv _ w4.heap.size Go ⟨cg _ _ (gC gZ) _ _ _ (zG w4 _),HGL2.out⟩).mono ?_;rintro e w5 ⟨rfl,hb5⟩
      have HB5:Hid (Below (w.alloc pO).heap.size (w.alloc pO) w5):=by
       have h1:Below (w.alloc pO).heap.size (w.alloc pO) ((w4.alloc (.cells (gC gZ) 125 (0,0))).setRow w4.heap.size (gC Go)):=xI (HB4.out.alloc HB4.out.size _) HB4.out.size _;exact h1.trans (hb5.mono h1.size)
      have q5:=bS HB5.out;have hfz5:=oX HB5.out;clear hb5;generalize qS Go=z2 at *;cases z2
      ·have HR:Hid (kI (fs ls)=(0,0)):=by have:=HR1.out;rw[tb Bool.false_ne_true]at this;exact this
       clear HR1;go_wp2_with fail
       refine pe (v:=oZ (0,0)) (results_cell_row Tryz.results56 _ _ w.heap.size 146 #[.int .i64 0,.int .i64 0] (0,0) _ rfl (lJ HB5.out _ _).1 Tryz.underlying146 rfl iZ) rfl ⟨by rw[HR.out],(lJ HB5.out _ _).2⟩
      ·have HR:Hid (kI (fs ls)=(7,1)):=by have:=HR1.out;rw[tl rfl]at this;exact this
       clear HR1;go_wp2_with fail
       refine pe (v:=oZ (7,1)) (results_cell_row Tryz.results56 _ _ w.heap.size 146 #[.int .i64 7,.int .i64 1] (0,0) _ rfl (lJ HB5.out _ _).1 Tryz.underlying146 rfl iZ) rfl ⟨by rw[HR.out],(lJ HB5.out _ _).2⟩
     ·have HR:Hid (kI (fs ls)=(7,0)):=by have:=HR0.out;rw[tl rfl]at this;exact this
      clear HR0;go_wp2_with fail
      refine pe (v:=oZ (7,0)) (results_cell_row Tryz.results56 _ _ w.heap.size 146 #[.int .i64 7,.int .i64 0] (0,0) _ rfl (lJ HB3.out _ _).1 Tryz.underlying146 rfl iZ) rfl ⟨by rw[HR.out],(lJ HB3.out _ _).2⟩
end Go.Proofs.YtnbpdffdnphbeabGreatDoor
