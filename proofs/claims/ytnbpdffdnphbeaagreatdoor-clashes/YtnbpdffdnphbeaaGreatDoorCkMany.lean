import Derived.Deep.RegionWith
import Derived.Test.YtnbpdffdnphbeaaGreatDoorCkGraph
set_option maxHeartbeats 4000000
set_option maxRecDepth 100000
namespace Go.Proofs.YtnbpdffdnphbeaaGreatDoor
open Go.RowKit
variable{g B:Nat}{b w:World}(names:List Bs)
theorem YG(w:World)(a:Option Addr)(c:Nat)(S:List yZ)(h:x6 w a S) :
 Calls Tryz.prog 161 #[.slice a S.length c] w fun e w'=>e=.returned (.bool (pX S))/\Below w.heap.size w w':=by
 have HL:=zA h;have zII:=h.few;unfold maxLen at zII;clear h;by_cases hb4:4<S.length
 ·have HR:Hid (pX S=true):=by unfold Hid pX;rw[tm hb4];rfl
  go_enter Tryz.func161,Tryz.ntmps161
  go_wp2_with fail
  go_ret
  exact⟨zE HR.out.symm,tj _ _⟩
 ·have HR:Hid (S.any tD=pX S):=by unfold Hid pX;rw[th hb4];rfl
  go_enter Tryz.func161,Tryz.ntmps161
  go_wp2_with fail
  go_loopw [10] (fun iv wr=>∃(i:Nat),i<=S.length/\iv=.int .i64 i/\Hid (Below w.heap.size w wr)/\Hid ((S.drop i).any tD=pX S)) (fun iv _=>S.length-(intOf iv).toNat)
  case atStart=>exact⟨0,tr _,rfl,zA (tj _ _),HR⟩
  case round =>
   obtain⟨i,hi,rfl,HB,HE⟩:=hrel;by_cases zI6:i<S.length
   ·obtain⟨g,yW,rfl,hp⟩:=(HL.out.below HB.out (t9 _)).blk (by omega)
    obtain⟨c0,c1,c2,c3⟩:=hp.cells zI6;have hg:=hp.lt;have hE:=HE.out;rw[sU _ xz _ i zI6,show S.getD i xz=YB S i from rfl]at hE;have HE2:=zA hE;have zIJ:=HB.out.size;clear HE hE hp HR;generalize YB S i=x at *;obtain⟨mi,st,nu,na⟩:=x;simp only at c0 c1 c2 c3;cases st
    ·have HE3:Hid ((S.drop (i+1)).any tD=pX S):=by have:=HE2.out;unfold Hid;rw[<-this];simp[tD]
     clear HE2;go_wp2_with fail
     go_roundw
     case rel=>exact⟨i+1,by omega,by go_num,zA (HB.out.alloc zIJ _),HE3⟩
     case measure=>simp[intOf];omega
    ·by_cases k1:9<nu
     ·have HE3:Hid (pX S=true):=by have:=HE2.out;unfold Hid;rw[<-this];simp[tD,k1]
      clear HE2;go_wp2_with fail
      go_ret
      exact⟨zE HE3.out.symm,HB.out.alloc zIJ _⟩
     ·have HE3:Hid ((S.drop (i+1)).any tD=pX S):=by have:=HE2.out;unfold Hid;rw[<-this];simp[tD,k1]
      clear HE2;go_wp2_with fail
      go_roundw
      case rel=>exact⟨i+1,by omega,by go_num,zA (HB.out.alloc zIJ _),HE3⟩
      case measure=>simp[intOf];omega
   ·have HE3:Hid (pX S=false):=by have:=HE.out;rw[tu (by omega)]at this;exact this.symm
    clear HE;go_wp2_with fail
    go_ret
    exact⟨zE HE3.out.symm,HB.out⟩
theorem Y7.rule{x:LX}{sa na:Option Addr}{sn sc nn nc:Nat}(h:Y7 w x)(hk:x.1.kind=3)(e:x.2=(.slice sa sn sc,.slice na nn nc)):sn=x.1.sum.length/\x6 w sa x.1.sum/\nn=x.1.nd.length/\zB7 w na x.1.nd:=by
 obtain⟨h1,h2,h3⟩:=h.g.rule hk;obtain⟨g,c,yW,e2,p⟩:=h.b.sum h1;obtain⟨g',c',cur',e3,p'⟩:=h.b.nod (by omega);rw[e]at e2 e3;simp only[Value.slice.injEq]at e2 e3;have h4:=h.g.sumN;exact⟨e2.2.1,⟨fun _=>⟨g,yW,e2.1,p⟩,by unfold maxLen;omega⟩,e3.2.1,⟨fun _=>⟨g',cur',e3.1,p'⟩,h.nds⟩⟩
theorem Ul{w':World}{x:Obj}{k:Nat}(h:w.heap[k]? = some x)(hb:Below B w w')(hk:k<B):w'.heap[k]? = some x:=by
 rw[hb.block k hk];exact h
theorem zD{b:Nat}{cs:Array Value}{T:TypeId}{fz:Nat × Nat}(h:w.heap[b]? = some (.cells cs T fz))(j:Nat):w.cell? ⟨b,j,none⟩=cs[j]? := by
 simp only[World.cell?,h];rfl
theorem VW(w:World)(a:Option Addr)(c:Nat)(ls:List LX)(i:Nat)(hi:i<ls.length)(hc:ls.length<=c)(h:pG w a ls) :
 Calls Tryz.prog 104 #[.slice a ls.length c,.int .i64 i] w fun e w'=>e=.returned (.bool (mK (fs ls) i))/\Below w.heap.size w w':=by
 have zII:=h.few;obtain⟨gl,sa,sn,sc,na,nn,nc,rfl,hgl,⟨c0,c1,c2,c3,c4,c5,c6,c7,c8,c9,c10⟩,eq,hC⟩:=h.line hi
 have HC:Hid (∀w',Below w.heap.size w w'->Calls Tryz.prog 159 #[.slice (some ⟨gl,0,none⟩) i c,.int .i64 (mZ ls i).1.kind] w' fun e w''=>e=.returned (.int .i64 (qD (mZ ls i).1.kind ((fs ls).take i)))/\Below w'.heap.size w' w''):=by
  intro w' hb;have:=U2 w' (some ⟨gl,0,none⟩) c (ls.take i) (mZ ls i).1.kind ((h.take i).below hb (t9 _));rw[p9,da (by omega),show fs (ls.take i)=(fs ls).take i from List.map_take ..]at this;exact this
 have HS:Hid ((mZ ls i).1.kind=3->∀w',Below w.heap.size w w'->Calls Tryz.prog 161 #[.slice sa sn sc] w' fun e w''=>e=.returned (.bool (pX (mZ ls i).1.sum))/\Below w'.heap.size w' w''):=by
  intro hk w' hb;obtain⟨h1,h2,_⟩:=hC.rule hk eq;rw[h1];exact YG w' sa sc _ (h2.below hb (t9 _))
 have HM:Hid (mK (fs ls) i=(decide (Zk (mZ ls i).1.kind<=(qD (mZ ls i).1.kind ((fs ls).take i):Int)) || (decide ((mZ ls i).1.kind=3)&&Jv (mZ ls i).1))):=by unfold Hid mK;rw[pC]
 have hcl:=zE1 (mZ ls i).1.kind ((fs ls).take i);rw[p9]at hcl;clear h hC eq;generalize (mZ ls i).1=x at *;obtain⟨kd,n1,lo,hi',cc,S,N,ro,te,de,lw⟩:=x;simp only at c0 c1 c2 c3 c4 c5 c6 c7 c8 c9 c10 HC HS HM hcl;generalize qD kd ((fs ls).take i)=cn at *;have hlim:0<=Zk kd/\Zk kd<=28:=by unfold Zk;repeat' split <;> omega
 generalize hlm:Zk kd=lm at *;have HLm:=zA hlm;clear hlm;have hsn:w.heap.size<w.heap.size+1:=mh _
 go_enter Tryz.func104,Tryz.ntmps104
 go_wp2_with fail
 go_cut [19] from 10 to 19 (fun v wx=>v=.bool (decide (lm<=(cn:Int)))/\Hid (Below w.heap.size w wx)/\∀j,wx.cell? ⟨w.heap.size,j,none⟩ = #[Value.int .i64 kd,.string ⟨n1.toArray⟩,.int .i64 lo,.int .i64 hi',.string ⟨cc.toArray⟩,.slice sa sn sc,.slice na nn nc,.int .i64 ro,.int .i64 te,.int .i64 de,.string ⟨lw.toArray⟩][j]?)
 case first =>
  go_region_with (first
   | (go_at_call 159
      refine(HC.out _ (me (Below.alloc (tj _ _) (t9 _) _))).mono ?_;rintro e w1 ⟨rfl,hb1⟩;have b1:=Ul (DZ (zM _ _)) hb1 (Zj (yL _ _));have HB1:Hid (Below w.heap.size w w1):=(me (Below.alloc (tj _ _) (t9 _) _)).trans (hb1.mono (p8 (Zj (yL _ _))));have q:=zD b1;clear hb1 b1)
   | (go_at_call 160
      refine(zD8 _ _).mono ?_;rintro e w2 ⟨rfl,hw⟩;obtain rfl:=hw.symm;rw[HLm.out]))
  all_goals
   go_wp2_with fail
   go_meet
   exact⟨rfl,HB1,q⟩
 case rest =>
  obtain⟨rfl,HB1,q⟩:=hcut;clear c0 c1 c2 c3 c4 c5 c6 c7 c8 c9 c10 HC;by_cases hm:lm<=(cn:Int)
  ·have HR:Hid (mK (fs ls) i=true):=by unfold Hid;rw[HM.out,tm hm];rfl
   clear HM;go_wp2_with fail
   go_ret
   exact⟨zE HR.out.symm,HB1.out⟩
  ·have hm':decide (lm<=(cn:Int))=false:=th hm
   have HM1:Hid (mK (fs ls) i=(decide (kd=3)&&Jv ⟨kd,n1,lo,hi',cc,S,N,ro,te,de,lw⟩)):=by unfold Hid;rw[HM.out,hm'];rfl
   clear HM;by_cases k3:kd=3
   ·have HM2:Hid (mK (fs ls) i=(decide (6<te) || (decide (4<de) || pX S))):=by unfold Hid;rw[HM1.out,tm k3];rfl
    have HS2:=zA (HS.out k3);have b3:(kd != 3)=false:=by simpa using k3
    clear HM1 HS k3;by_cases k6:6<te
    ·have HR:Hid (mK (fs ls) i=true):=by unfold Hid;rw[HM2.out,tm k6];rfl
     clear HM2;go_wp2_with fail
     go_ret
     exact⟨zE HR.out.symm,HB1.out⟩
    ·by_cases k7:4<de
     ·have HR:Hid (mK (fs ls) i=true):=by unfold Hid;rw[HM2.out,tm k7,dq,dy]
      clear HM2;go_wp2_with fail
      go_ret
      exact⟨zE HR.out.symm,HB1.out⟩
     ·have HR:Hid (mK (fs ls) i=pX S):=by unfold Hid;rw[HM2.out,th k6,th k7];rfl
      clear HM2;go_wp2_with fail
      refine(HS2.out _ HB1.out).mono ?_;rintro e w3 ⟨rfl,hb3⟩;have HB3:Hid (Below w.heap.size w w3):=HB1.out.trans (hb3.mono HB1.out.size);clear hb3;go_wp2_with fail
      go_ret
      exact⟨zE HR.out.symm,HB3.out⟩
   ·have HR:Hid (mK (fs ls) i=false):=by unfold Hid;rw[HM1.out,th k3];rfl
    have b3:(kd != 3)=true:=by simpa using k3
    clear HM1 k3;go_wp2_with fail
    go_ret
    exact⟨zE HR.out.symm,HB1.out⟩
def jI(labs:List Bs):List zF->List Bool->List Bool
 | [],G=>G
 | x::r,G=>jI labs r (if x.kind=4 then oR G (zH labs x.name) (zH labs x.lower) else G)
def cJ(names:List Bs)(from':Int):List yZ->List Bool->List Bool
 | [],G=>G
 | x::r,G=>cJ names from' r (oR G from' (zH names x.name))
def mU(names:List Bs)(from':Int):List zX->List Bool->List Bool
 | [],G=>G
 | x::r,G=>mU names from' r (if x.kind=5 then oR G from' (zH names x.name) else G)
def mA(names:List Bs):List zF->List Bool->List Bool
 | [],G=>G
 | x::r,G=>mA names r (if x.kind=3 then mU names (zH names x.conc) x.nd (cJ names (zH names x.conc) x.sum G) else G)
theorem Gj(labs:List Bs)(ls:List zF)(i:Nat)(G:List Bool)(h:i<ls.length):jI labs (ls.drop i) G=jI labs (ls.drop (i+1)) (if (lA ls i).kind=4 then oR G (zH labs (lA ls i).name) (zH labs (lA ls i).lower) else G):=by
 rw[pb h,jI];simp[lA,List.getD,h]
theorem Gy(ls:List zF)(i:Nat)(G:List Bool)(h:i<ls.length):mA names (ls.drop i) G=mA names (ls.drop (i+1)) (if (lA ls i).kind=3 then mU names (zH names (lA ls i).conc) (lA ls i).nd (cJ names (zH names (lA ls i).conc) (lA ls i).sum G) else G):=by
 rw[pb h,mA];simp[lA,List.getD,h]
theorem BW(f:Int)(S:List yZ)(i:Nat)(G:List Bool)(h:i<S.length):cJ names f (S.drop i) G=cJ names f (S.drop (i+1)) (oR G f (zH names (YB S i).name)):=by
 rw[zHY S i h,cJ]
theorem Cj(f:Int)(N:List zX)(i:Nat)(G:List Bool)(h:i<N.length):mU names f (N.drop i) G=mU names f (N.drop (i+1)) (if (kE N i).kind=5 then oR G f (zH names (kE N i).name) else G):=by
 rw[pb h,mU];simp[kE,List.getD,h]
theorem vP.trans{a c:World}(h:vP g a b)(k:vP g b c):vP g a c :=
 ⟨k.os.trans h.os,k.tape.trans h.tape,k.output.trans h.output,tx h.size k.size,fun i hi zIH=>(k.block i (ti hi h.size) zIH).trans (h.block i hi zIH)⟩
theorem vP.alloc{a:World}(h:vP g a b)(o:Obj):vP g a (b.alloc o) :=
 h.trans ⟨rfl,rfl,rfl,by simp,fun k hk _=>mq _ _ _ hk⟩
theorem vP.below{a:World}(h:vP g a b)(hB:B<=a.heap.size)(hg:B<=g):Below B a b :=
 ⟨h.os,h.tape,h.output,h.size,fun k hk=>h.block k (by omega) (by omega)⟩
theorem iY.new{G:List Bool}(h:iY w g G)(o:Obj):iY (w.alloc o) g G:=⟨yJ h.1,h.2⟩
structure UR(w wc:World)(g:Nat)(a:Option Addr)(names:List Bs):Prop where
 res:wc.heap[w.heap.size]? = some (.cells (gC gZ) 94 (0,0))
 g1:w.heap.size<g
 lt:g<wc.heap.size
 bel:Below w.heap.size w wc
 str:∀w',vP g wc w'->oS w' a names
theorem UR.mk'{w1:World}{v:Value}{names:List Bs}{o:Obj}{cs:Array Value}(hz:w1.heap[w.heap.size]? = some (.cells (gC gZ) 94 (0,0)))(hb:Below w.heap.size w w1)(hs:w.heap.size<w1.heap.size)(zI8:w1.ownsRow B 9 1 v names.length (mG names))(hf:names.length<=10000) :
 ∃a c,v=.slice a names.length c/\UR w ((w1.alloc o).setRow w1.heap.size cs) w1.heap.size a names:=by
 obtain⟨a,c,hv,hstr⟩:=oB zI8 hf;refine⟨a,c,hv,⟨zA6 (yJ hz) (by omega),hs,?_,xL (hb.alloc hb.size _) (p8 hs) _,fun w' ho=>⟨fun h0=>?_,hf⟩⟩⟩
 ·unfold World.setRow;simp
 ·obtain⟨g,e,p⟩:=hstr.blk h0
  refine⟨g,e,fun i hi=>?_⟩;have hp:=p i hi
  have hg:g<w1.heap.size:=by
   rcases po g w1.heap.size with h1|h1
   ·exact h1
   ·rw[World.cell?,pj (by simpa using h1)]at hp;cases hp
  have e1:w'.heap[g]? = w1.heap[g]? := by
   rw[ho.block g (by unfold World.setRow;simp;omega) (by omega)];unfold World.setRow;simp only[Array.getElem?_modify];rw[tg (by omega)];exact mq _ _ _ hg
  simp only[World.cell?,e1]at hp ⊢;exact hp
theorem Fl(w:World)(a:Option Addr)(c:Nat)(ls:List LX)(h:pG w a ls) :
 Calls Tryz.prog 108 #[.slice a ls.length c] w fun e w'=>e=.returned (.agg (gC (jI (xH (fs ls)) (fs ls) gZ)))/\Below w.heap.size w w':=by
 have HL:=zA h;have zII:=h.few;have HRL:=zA (fun o=>Ke (w.alloc o) a c ls (h.below (ge (t9 _) o) (t9 _)));clear h
 go_enter Tryz.func108,Tryz.ntmps108
 go_wp2_with fail
 refine(HRL.out _).mono ?_;rintro e w1 ⟨v,rfl,zI8,zIC,hb1⟩;have hz:w1.heap[w.heap.size]? = some (.cells (gC gZ) 94 (0,0)):=by rw[hb1.block _ (yL _ _)];exact zM _ _
 have hs:w.heap.size<w1.heap.size:=ti (yL _ _) hb1.size;have HK:=zA (fun o cs=>UR.mk' (o:=o) (cs:=cs) hz (uP hb1) hs zI8 (by omega));obtain⟨la,lc,rfl,_⟩:=HK.out (.cells #[] 0 (0,0)) #[];generalize hlb:xH (fs ls)=labs at *;have HLB:=zA hlb;clear hlb
 have HK2:Hid (∀o cs,UR w ((w1.alloc o).setRow w1.heap.size cs) w1.heap.size la labs):=fun o cs=>by
  obtain⟨a',c',e,p⟩:=HK.out o cs;simp only[Value.slice.injEq]at e;rw[e.1];exact p
 clear hz zI8 hb1 HK HRL
 go_upto_region 2 with fail
 go_cut [4] from 11 to 11 (fun p4 wx=>p4=.pointer (some ⟨w1.heap.size,0,none⟩)/\Hid (UR w wx w1.heap.size la labs)/\Hid (iY wx w1.heap.size gZ))
 case first =>
  go_wp2_with (refine wpList_store_row ?zIM 94 (.tmp 4) (.tmp 11) ?ho w1.heap.size (gC gZ) ?hx ?hy 94 (gC gZ) (zM w1 _) (jU vE) rfl (cB gZ) ?_
               case ho=>rfl
               case zIM=>rfl
               case hx=>rfl
               case hy=>rfl)
  go_meet
  exact⟨rfl,zA (HK2.out _ _),zA ⟨ly _ _ (gC gZ) _ _ _ (zM w1 _),vE⟩⟩
 case rest =>
  obtain⟨rfl,HM,HG0⟩:=hcut;generalize w1.heap.size=g at *;clear HK2;go_wp2_with fail
  go_loopw [14] (fun iv wr=>∃(i:Nat) (G:List Bool),i<=ls.length/\iv=.int .i64 i/\Hid (vP g wc wr)/\Hid (iY wr g G)/\Hid (jI labs ((fs ls).drop i) G=jI labs (fs ls) gZ)) (fun iv _=>ls.length-(intOf iv).toNat)
  case atStart=>exact⟨0,gZ,tr _,rfl,zA (vP.refl _ _),HG0,zA rfl⟩
  case round =>
   obtain⟨i,G,hi,rfl,HO,HG,HE⟩:=hrel;clear HG0;have zJ2:Hid (Below w.heap.size w wr):=HM.out.bel.trans (HO.out.below HM.out.bel.size (p8 HM.out.g1));by_cases zI6:i<ls.length
   ·obtain⟨gl,sa,sn,sc,na,nn,nc,rfl,hgl,⟨c0,c1,c2,c3,c4,c5,c6,c7,c8,c9,c10⟩,_,_⟩:=(HL.out.below zJ2.out (t9 _)).line zI6
    have hE:=HE.out;rw[Gj _ _ i _ (by simpa using zI6),pC]at hE;have HE2:=zA hE;have HF:=zA (fun o nm=>Qh (wr.alloc o) la lc labs nm (HM.out.str _ (HO.out.alloc o)));have HA:=zA (fun o x y=>zBI (wr.alloc o) g G x y (HG.out.new o));clear HE hE;generalize (mZ ls i).1=x at *;obtain⟨kd,n1,lo,hi',cc,S,N,ro,te,de,lw⟩:=x;simp only at c0 c1 c2 c3 c4 c5 c6 c7 c8 c9 c10;by_cases k1:kd=4
    ·have b1:(kd==4)=true:=by simpa using k1
     have HE3:Hid (jI labs ((fs ls).drop (i+1)) (oR G (zH labs n1) (zH labs lw))=jI labs (fs ls) gZ):=by have:=HE2.out;rw[tl k1]at this;exact this
     clear HE2 k1;go_wp2_with fail
     refine(HF.out _ n1).mono ?_;rintro e w2 ⟨rfl,hw⟩;obtain rfl:=hw.symm;go_wp2_with fail
     refine(HF.out _ lw).mono ?_;rintro e w2 ⟨rfl,hw⟩;obtain rfl:=hw.symm;go_wp2_with fail
     refine(HA.out _ _ _).mono ?_;rintro e w2 ⟨rfl,hg2,ho2⟩;have HO2:Hid (vP g wc w2):=(HO.out.alloc _).trans ho2;have HG2:=zA hg2;clear hg2 ho2;go_wp2_with fail
     go_roundw
     case rel=>exact⟨i+1,_,by omega,by go_num,HO2,HG2,HE3⟩
     case measure=>simp[intOf];omega
    ·have b1:(kd==4)=false:=by simpa using k1
     have HE3:Hid (jI labs ((fs ls).drop (i+1)) G=jI labs (fs ls) gZ):=by have:=HE2.out;rw[tg k1]at this;exact this
     clear HE2 k1;go_wp2_with fail
     go_roundw
     case rel=>exact⟨i+1,G,by omega,by go_num,zA (HO.out.alloc _),zA (HG.out.new _),HE3⟩
     case measure=>simp[intOf];omega
   ·have HE3:Hid (G=jI labs (fs ls) gZ):=by have:=HE.out;rw[tu (by simp;omega)]at this;exact this
    have HRs:Hid (wr.heap[w.heap.size]? = some (.cells (gC gZ) 94 (0,0))):=by
     unfold Hid;rw[HO.out.block _ (Nat.lt_trans HM.out.g1 HM.out.lt) (fo HM.out.g1)];exact HM.out.res
    clear HE
    go_wp2_with (first
     | (refine wpList_load_row ?zIM 94 (.tmp 4) ?ho g ?hx 94 (gC G) (0,0) _ HG.out.1 Tryz.underlying94 rfl (jU HG.out.2) ?_
        case ho=>rfl
        case zIM=>rfl
        case hx=>rfl)
     | (refine wpList_store_row ?zIM 94 (.tmp 2) (.tmp 33) ?ho w.heap.size (gC G) ?hx ?hy 94 (gC gZ) HRs.out (jU HG.out.2) ?zIL (cB G) ?_
        case ho=>rfl
        case zIM=>rfl
        case hx=>rfl
        case hy=>rfl
        case zIL=>rw[uY,uY,vE,HG.out.2]))
    refine ph (v:=.agg (gC G)) (results_cell_row Tryz.results108 _ _ w.heap.size 94 (gC G) (0,0) _ rfl (ly _ _ (gC gZ) _ _ _ HRs.out) Tryz.underlying94 rfl (jU HG.out.2)) rfl ⟨by rw[HLB.out,<-HE3.out],xL zJ2.out (t9 _) _⟩
end Go.Proofs.YtnbpdffdnphbeaaGreatDoor
