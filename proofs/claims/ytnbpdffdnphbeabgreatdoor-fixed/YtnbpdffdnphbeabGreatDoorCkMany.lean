import Derived.Deep.RegionWith
import Derived.Test.YtnbpdffdnphbeabGreatDoorCkGraph
set_option maxHeartbeats 4000000
set_option maxRecDepth 100000
namespace Go.Proofs.YtnbpdffdnphbeabGreatDoor
open Go.RowKit
variable{g B:Nat}{b w:World}(zE6:List Bs)
theorem iA(w:World)(a:Option Addr)(c:Nat)(S:List yT)(h:Cv w a S) :
 Calls Tryz.prog 111 #[.slice a S.length c] w fun e w'=>e=.returned (.bool (jI S))/\Below w.heap.size w w':=by
 have HL:=zA h;have zEO:=h.few;unfold maxLen at zEO;clear h;by_cases hb4:4<S.length
 ·have HR:Hid (jI S=true):=by unfold Hid jI;rw[tl hb4];rfl
  go_enter Tryz.func111,Tryz.ntmps111
  go_wp2_with fail
  go_ret
  exact⟨zF HR.out.symm,t9 _ _⟩
 ·have HR:Hid (S.any kX=jI S):=by unfold Hid jI;rw[tm hb4];rfl
  go_enter Tryz.func111,Tryz.ntmps111
  go_wp2_with fail
  go_loopw [10] (fun iv wr=>∃(i:Nat),i<=S.length/\iv=.int .i64 i/\Hid (Below w.heap.size w wr)/\Hid ((S.drop i).any kX=jI S)) (fun iv _=>S.length-(intOf iv).toNat)
  case atStart=>exact⟨0,tq _,rfl,zA (t9 _ _),HR⟩
  case round =>
   obtain⟨i,hi,rfl,HB,HE⟩:=hrel;by_cases zE9:i<S.length
   ·obtain⟨g,yJ,rfl,hp⟩:=(HL.out.below HB.out (j1 _)).blk (by omega)
    obtain⟨c0,c1,c2,c3⟩:=hp.cells zE9;have hg:=hp.lt;have hE:=HE.out;rw[gQ _ xz _ i zE9,show S.getD i xz=Yc S i from rfl]at hE;have HE2:=zA hE;have zEF:=HB.out.size;clear HE hE hp HR;generalize Yc S i=x at *;obtain⟨mi,st,nu,na⟩:=x;simp only at c0 c1 c2 c3;cases st
    ·have HE3:Hid ((S.drop (i+1)).any kX=jI S):=by have:=HE2.out;unfold Hid;rw[<-this];simp[kX]
     clear HE2;go_wp2_with fail
     go_roundw
     case rel=>exact⟨i+1,by omega,by go_num,zA (HB.out.alloc zEF _),HE3⟩
     case measure=>simp[intOf];omega
    ·by_cases k1:9<nu
     ·have HE3:Hid (jI S=true):=by have:=HE2.out;unfold Hid;rw[<-this];simp[kX,k1]
      clear HE2;go_wp2_with fail
      go_ret
      exact⟨zF HE3.out.symm,HB.out.alloc zEF _⟩
     ·have HE3:Hid ((S.drop (i+1)).any kX=jI S):=by have:=HE2.out;unfold Hid;rw[<-this];simp[kX,k1]
      clear HE2;go_wp2_with fail
      go_roundw
      case rel=>exact⟨i+1,by omega,by go_num,zA (HB.out.alloc zEF _),HE3⟩
      case measure=>simp[intOf];omega
   ·have HE3:Hid (jI S=false):=by have:=HE.out;rw[p8 (by omega)]at this;exact this.symm
    clear HE;go_wp2_with fail
    go_ret
    exact⟨zF HE3.out.symm,HB.out⟩
theorem eR.rule{x:LX}{sa na:Option Addr}{sn sc nn nc:Nat}(h:eR w x)(hk:x.1.kind=3)(e:x.2=(.slice sa sn sc,.slice na nn nc)):sn=x.1.sum.length/\Cv w sa x.1.sum/\nn=x.1.nd.length/\GK w na x.1.nd:=by
 obtain⟨h1,h2,h3⟩:=h.g.rule hk;obtain⟨g,c,yJ,e2,p⟩:=h.b.sum h1;obtain⟨g',c',cur',e3,p'⟩:=h.b.nod (by omega);rw[e]at e2 e3;simp only[Value.slice.injEq]at e2 e3;have h4:=h.g.sumN;exact⟨e2.2.1,⟨fun _=>⟨g,yJ,e2.1,p⟩,by unfold maxLen;omega⟩,e3.2.1,⟨fun _=>⟨g',cur',e3.1,p'⟩,h.nds⟩⟩
theorem QY{w':World}{x:Obj}{k:Nat}(h:w.heap[k]? = some x)(hb:Below B w w')(hk:k<B):w'.heap[k]? = some x:=by
 rw[hb.block k hk];exact h
theorem zC{b:Nat}{cs:Array Value}{T:TypeId}{fz:Nat × Nat}(h:w.heap[b]? = some (.cells cs T fz))(j:Nat):w.cell? ⟨b,j,none⟩=cs[j]? := by
 simp only[World.cell?,h];rfl
theorem QN(w:World)(a:Option Addr)(c:Nat)(ls:List LX)(i:Nat)(hi:i<ls.length)(hc:ls.length<=c)(h:kT w a ls) :
 Calls Tryz.prog 73 #[.slice a ls.length c,.int .i64 i] w fun e w'=>e=.returned (.bool (qW (fs ls) i))/\Below w.heap.size w w':=by
 have zEO:=h.few;obtain⟨gl,sa,sn,sc,na,nn,nc,rfl,hgl,⟨c0,c1,c2,c3,c4,c5,c6,c7,c8,c9,c10⟩,eq,hC⟩:=h.line hi
 have HC:Hid (∀w',Below w.heap.size w w'->Calls Tryz.prog 109 #[.slice (some ⟨gl,0,none⟩) i c,.int .i64 (tE ls i).1.kind] w' fun e w''=>e=.returned (.int .i64 (xI (tE ls i).1.kind ((fs ls).take i)))/\Below w'.heap.size w' w''):=by
  intro w' hb;have:=Jr w' (some ⟨gl,0,none⟩) c (ls.take i) (tE ls i).1.kind ((h.take i).below hb (j1 _));rw[lu,Nat.min_eq_left (by omega),show fs (ls.take i)=(fs ls).take i from List.map_take ..]at this;exact this
 have HS:Hid ((tE ls i).1.kind=3->∀w',Below w.heap.size w w'->Calls Tryz.prog 111 #[.slice sa sn sc] w' fun e w''=>e=.returned (.bool (jI (tE ls i).1.sum))/\Below w'.heap.size w' w''):=by
  intro hk w' hb;obtain⟨h1,h2,_⟩:=hC.rule hk eq;rw[h1];exact iA w' sa sc _ (h2.below hb (j1 _))
 have HM:Hid (qW (fs ls) i=(decide (eY (tE ls i).1.kind<=(xI (tE ls i).1.kind ((fs ls).take i):Int)) || (decide ((tE ls i).1.kind=3)&&Zk (tE ls i).1))):=by unfold Hid qW;rw[kQ]
 have hcl:=qt (tE ls i).1.kind ((fs ls).take i);rw[lu]at hcl;clear h hC eq;generalize (tE ls i).1=x at *;obtain⟨kd,n1,lo,hi',cc,S,N,ro,te,de,lw⟩:=x;simp only at c0 c1 c2 c3 c4 c5 c6 c7 c8 c9 c10 HC HS HM hcl;generalize xI kd ((fs ls).take i)=cn at *;have hlim:0<=eY kd/\eY kd<=28:=by unfold eY;repeat' split <;> omega
 generalize hlm:eY kd=lm at *;have HLm:=zA hlm;clear hlm;have hsn:w.heap.size<w.heap.size+1:=mq _
 go_enter Tryz.func73,Tryz.ntmps73
 go_wp2_with fail
 go_cut [19] from 10 to 19 (fun v wx=>v=.bool (decide (lm<=(cn:Int)))/\Hid (Below w.heap.size w wx)/\∀j,wx.cell? ⟨w.heap.size,j,none⟩ = #[Value.int .i64 kd,.string ⟨n1.toArray⟩,.int .i64 lo,.int .i64 hi',.string ⟨cc.toArray⟩,.slice sa sn sc,.slice na nn nc,.int .i64 ro,.int .i64 te,.int .i64 de,.string ⟨lw.toArray⟩][j]?)
 case first =>
  go_region_with (first
   | (go_at_call 109
      refine(HC.out _ (pq (Below.alloc (t9 _ _) (j1 _) _))).mono ?_;rintro e w1 ⟨rfl,hb1⟩;have b1:=QY (nK (zH _ _)) hb1 (rP (zQ _ _));have HB1:Hid (Below w.heap.size w w1):=(pq (Below.alloc (t9 _ _) (j1 _) _)).trans (hb1.mono (p6 (rP (zQ _ _))));have q:=zC b1;clear hb1 b1)
   | (go_at_call 110
      refine(ua _ _).mono ?_;rintro e w2 ⟨rfl,hw⟩;obtain rfl:=hw.symm;rw[HLm.out]))
  all_goals
   go_wp2_with fail
   go_meet
   exact⟨rfl,HB1,q⟩
 case rest =>
  obtain⟨rfl,HB1,q⟩:=hcut;clear c0 c1 c2 c3 c4 c5 c6 c7 c8 c9 c10 HC;by_cases hm:lm<=(cn:Int)
  ·have HR:Hid (qW (fs ls) i=true):=by unfold Hid;rw[HM.out,tl hm];rfl
   clear HM;go_wp2_with fail
   go_ret
   exact⟨zF HR.out.symm,HB1.out⟩
  ·have hm':decide (lm<=(cn:Int))=false:=tm hm
   have HM1:Hid (qW (fs ls) i=(decide (kd=3)&&Zk ⟨kd,n1,lo,hi',cc,S,N,ro,te,de,lw⟩)):=by unfold Hid;rw[HM.out,hm'];rfl
   clear HM;by_cases k3:kd=3
   ·have HM2:Hid (qW (fs ls) i=(decide (6<te) || (decide (4<de) || jI S))):=by unfold Hid;rw[HM1.out,tl k3];rfl
    have HS2:=zA (HS.out k3);have b3:(kd != 3)=false:=by simpa using k3
    clear HM1 HS k3;by_cases k6:6<te
    ·have HR:Hid (qW (fs ls) i=true):=by unfold Hid;rw[HM2.out,tl k6];rfl
     clear HM2;go_wp2_with fail
     go_ret
     exact⟨zF HR.out.symm,HB1.out⟩
    ·by_cases k7:4<de
     ·have HR:Hid (qW (fs ls) i=true):=by unfold Hid;rw[HM2.out,tl k7,d8,Bool.or_true]
      clear HM2;go_wp2_with fail
      go_ret
      exact⟨zF HR.out.symm,HB1.out⟩
     ·have HR:Hid (qW (fs ls) i=jI S):=by unfold Hid;rw[HM2.out,tm k6,tm k7];rfl
      clear HM2;go_wp2_with fail
      refine(HS2.out _ HB1.out).mono ?_;rintro e w3 ⟨rfl,hb3⟩;have HB3:Hid (Below w.heap.size w w3):=HB1.out.trans (hb3.mono HB1.out.size);clear hb3;go_wp2_with fail
      go_ret
      exact⟨zF HR.out.symm,HB3.out⟩
   ·have HR:Hid (qW (fs ls) i=false):=by unfold Hid;rw[HM1.out,tm k3];rfl
    have b3:(kd != 3)=true:=by simpa using k3
    clear HM1 k3;go_wp2_with fail
    go_ret
    exact⟨zF HR.out.symm,HB1.out⟩
def uB(labs:List Bs):List zE->List Bool->List Bool
 | [],G=>G
 | x::r,G=>uB labs r (if x.kind=4 then dU G (zJ labs x.name) (zJ labs x.lower) else G)
def tM(zE6:List Bs)(from':Int):List yT->List Bool->List Bool
 | [],G=>G
 | x::r,G=>tM zE6 from' r (dU G from' (zJ zE6 x.name))
def jG(zE6:List Bs)(from':Int):List zM->List Bool->List Bool
 | [],G=>G
 | x::r,G=>jG zE6 from' r (if x.kind=5 then dU G from' (zJ zE6 x.name) else G)
def uE(zE6:List Bs):List zE->List Bool->List Bool
 | [],G=>G
 | x::r,G=>uE zE6 r (if x.kind=3 then jG zE6 (zJ zE6 x.conc) x.nd (tM zE6 (zJ zE6 x.conc) x.sum G) else G)
theorem Bl(labs:List Bs)(ls:List zE)(i:Nat)(G:List Bool)(h:i<ls.length):uB labs (ls.drop i) G=uB labs (ls.drop (i+1)) (if (lA ls i).kind=4 then dU G (zJ labs (lA ls i).name) (zJ labs (lA ls i).lower) else G):=by
 rw[pe h,uB];simp[lA,List.getD,h]
theorem Bt(ls:List zE)(i:Nat)(G:List Bool)(h:i<ls.length):uE zE6 (ls.drop i) G=uE zE6 (ls.drop (i+1)) (if (lA ls i).kind=3 then jG zE6 (zJ zE6 (lA ls i).conc) (lA ls i).nd (tM zE6 (zJ zE6 (lA ls i).conc) (lA ls i).sum G) else G):=by
 rw[pe h,uE];simp[lA,List.getD,h]
theorem Ko(f:Int)(S:List yT)(i:Nat)(G:List Bool)(h:i<S.length):tM zE6 f (S.drop i) G=tM zE6 f (S.drop (i+1)) (dU G f (zJ zE6 (Yc S i).name)):=by
 rw[zDO S i h,tM]
theorem K0(f:Int)(N:List zM)(i:Nat)(G:List Bool)(h:i<N.length):jG zE6 f (N.drop i) G=jG zE6 f (N.drop (i+1)) (if (qR N i).kind=5 then dU G f (zJ zE6 (qR N i).name) else G):=by
 rw[pe h,jG];simp[qR,List.getD,h]
theorem vY.trans{a c:World}(h:vY g a b)(k:vY g b c):vY g a c :=
 ⟨k.os.trans h.os,k.tape.trans h.tape,k.output.trans h.output,tr h.size k.size,fun i hi zEB=>(k.block i (t8 hi h.size) zEB).trans (h.block i hi zEB)⟩
theorem vY.alloc{a:World}(h:vY g a b)(o:Obj):vY g a (b.alloc o) :=
 h.trans ⟨rfl,rfl,rfl,by simp,fun k hk _=>ld _ _ _ hk⟩
theorem vY.below{a:World}(h:vY g a b)(hB:B<=a.heap.size)(hg:B<=g):Below B a b :=
 ⟨h.os,h.tape,h.output,h.size,fun k hk=>h.block k (by omega) (by omega)⟩
theorem oX.new{G:List Bool}(h:oX w g G)(o:Obj):oX (w.alloc o) g G:=⟨zZ h.1,h.2⟩
structure JC(w wc:World)(g:Nat)(a:Option Addr)(zE6:List Bs):Prop where
 res:wc.heap[w.heap.size]? = some (.cells (gC gZ) 125 (0,0))
 g1:w.heap.size<g
 lt:g<wc.heap.size
 bel:Below w.heap.size w wc
 str:∀w',vY g wc w'->aV w' a zE6
theorem JC.mk'{w1:World}{v:Value}{zE6:List Bs}{o:Obj}{cs:Array Value}(hz:w1.heap[w.heap.size]? = some (.cells (gC gZ) 125 (0,0)))(hb:Below w.heap.size w w1)(hs:w.heap.size<w1.heap.size)(zEA:w1.ownsRow B 9 1 v zE6.length (xV zE6))(hf:zE6.length<=10000) :
 ∃a c,v=.slice a zE6.length c/\JC w ((w1.alloc o).setRow w1.heap.size cs) w1.heap.size a zE6:=by
 obtain⟨a,c,hv,hstr⟩:=VX zEA hf;refine⟨a,c,hv,⟨KW (zZ hz) (by omega),hs,?_,xC (hb.alloc hb.size _) (p6 hs) _,fun w' ho=>⟨fun h0=>?_,hf⟩⟩⟩
 ·unfold World.setRow;simp
 ·obtain⟨g,e,p⟩:=hstr.blk h0
  refine⟨g,e,fun i hi=>?_⟩;have hp:=p i hi
  have hg:g<w1.heap.size:=by
   rcases pf g w1.heap.size with h1|h1
   ·exact h1
   ·rw[World.cell?,pb (by simpa using h1)]at hp;cases hp
  have e1:w'.heap[g]? = w1.heap[g]? := by
   rw[ho.block g (by unfold World.setRow;simp;omega) (by omega)];unfold World.setRow;simp only[Array.getElem?_modify];rw[t7 (by omega)];exact ld _ _ _ hg
  simp only[World.cell?,e1]at hp ⊢;exact hp
theorem UD(w:World)(a:Option Addr)(c:Nat)(ls:List LX)(h:kT w a ls) :
 Calls Tryz.prog 77 #[.slice a ls.length c] w fun e w'=>e=.returned (.agg (gC (uB (xP (fs ls)) (fs ls) gZ)))/\Below w.heap.size w w':=by
 have HL:=zA h;have zEO:=h.few;have HRL:=zA (fun o=>Xi (w.alloc o) a c ls (h.below (da (j1 _) o) (j1 _)));clear h
 go_enter Tryz.func77,Tryz.ntmps77
 go_wp2_with fail
 refine(HRL.out _).mono ?_;rintro e w1 ⟨v,rfl,zEA,zEE,hb1⟩;have hz:w1.heap[w.heap.size]? = some (.cells (gC gZ) 125 (0,0)):=by rw[hb1.block _ (zQ _ _)];exact zH _ _
 have hs:w.heap.size<w1.heap.size:=t8 (zQ _ _) hb1.size;have HK:=zA (fun o cs=>JC.mk' (o:=o) (cs:=cs) hz (vM hb1) hs zEA (by omega));obtain⟨la,lc,rfl,_⟩:=HK.out (.cells #[] 0 (0,0)) #[];generalize hlb:xP (fs ls)=labs at *;have HLB:=zA hlb;clear hlb
 have HK2:Hid (∀o cs,JC w ((w1.alloc o).setRow w1.heap.size cs) w1.heap.size la labs):=fun o cs=>by
  obtain⟨a',c',e,p⟩:=HK.out o cs;simp only[Value.slice.injEq]at e;rw[e.1];exact p
 clear hz zEA hb1 HK HRL
 go_upto_region 2 with fail
 go_cut [4] from 11 to 11 (fun p4 wx=>p4=.pointer (some ⟨w1.heap.size,0,none⟩)/\Hid (JC w wx w1.heap.size la labs)/\Hid (oX wx w1.heap.size gZ))
 case first =>
  go_wp2_with (refine wpList_store_row ?zEG 125 (.tmp 4) (.tmp 11) ?ho w1.heap.size (gC gZ) ?hx ?hy 125 (gC gZ) (zH w1 _) (qP yY) rfl (jL gZ) ?_
               case ho=>rfl
               case zEG=>rfl
               case hx=>rfl
               case hy=>rfl)
  go_meet
  exact⟨rfl,zA (HK2.out _ _),zA ⟨lq _ _ (gC gZ) _ _ _ (zH w1 _),yY⟩⟩
 case rest =>
  obtain⟨rfl,HM,HG0⟩:=hcut;generalize w1.heap.size=g at *;clear HK2;go_wp2_with fail
  go_loopw [14] (fun iv wr=>∃(i:Nat) (G:List Bool),i<=ls.length/\iv=.int .i64 i/\Hid (vY g wc wr)/\Hid (oX wr g G)/\Hid (uB labs ((fs ls).drop i) G=uB labs (fs ls) gZ)) (fun iv _=>ls.length-(intOf iv).toNat)
  case atStart=>exact⟨0,gZ,tq _,rfl,zA (vY.refl _ _),HG0,zA rfl⟩
  case round =>
   obtain⟨i,G,hi,rfl,HO,HG,HE⟩:=hrel;clear HG0;have zEQ:Hid (Below w.heap.size w wr):=HM.out.bel.trans (HO.out.below HM.out.bel.size (p6 HM.out.g1));by_cases zE9:i<ls.length
   ·obtain⟨gl,sa,sn,sc,na,nn,nc,rfl,hgl,⟨c0,c1,c2,c3,c4,c5,c6,c7,c8,c9,c10⟩,_,_⟩:=(HL.out.below zEQ.out (j1 _)).line zE9
    have hE:=HE.out;rw[Bl _ _ i _ (by simpa using zE9),kQ]at hE;have HE2:=zA hE;have HF:=zA (fun o nm=>ZG (wr.alloc o) la lc labs nm (HM.out.str _ (HO.out.alloc o)));have HA:=zA (fun o x y=>GW (wr.alloc o) g G x y (HG.out.new o));clear HE hE;generalize (tE ls i).1=x at *;obtain⟨kd,n1,lo,hi',cc,S,N,ro,te,de,lw⟩:=x;simp only at c0 c1 c2 c3 c4 c5 c6 c7 c8 c9 c10;by_cases k1:kd=4
    ·have b1:(kd==4)=true:=by simpa using k1
     have HE3:Hid (uB labs ((fs ls).drop (i+1)) (dU G (zJ labs n1) (zJ labs lw))=uB labs (fs ls) gZ):=by have:=HE2.out;rw[tg k1]at this;exact this
     clear HE2 k1;go_wp2_with fail
     refine(HF.out _ n1).mono ?_;rintro e w2 ⟨rfl,hw⟩;obtain rfl:=hw.symm;go_wp2_with fail
     refine(HF.out _ lw).mono ?_;rintro e w2 ⟨rfl,hw⟩;obtain rfl:=hw.symm;go_wp2_with fail
     refine(HA.out _ _ _).mono ?_;rintro e w2 ⟨rfl,hg2,ho2⟩;have HO2:Hid (vY g wc w2):=(HO.out.alloc _).trans ho2;have HG2:=zA hg2;clear hg2 ho2;go_wp2_with fail
     go_roundw
     case rel=>exact⟨i+1,_,by omega,by go_num,HO2,HG2,HE3⟩
     case measure=>simp[intOf];omega
    ·have b1:(kd==4)=false:=by simpa using k1
     have HE3:Hid (uB labs ((fs ls).drop (i+1)) G=uB labs (fs ls) gZ):=by have:=HE2.out;rw[t7 k1]at this;exact this
     clear HE2 k1;go_wp2_with fail
     go_roundw
     case rel=>exact⟨i+1,G,by omega,by go_num,zA (HO.out.alloc _),zA (HG.out.new _),HE3⟩
     case measure=>simp[intOf];omega
   ·have HE3:Hid (G=uB labs (fs ls) gZ):=by have:=HE.out;rw[p8 (by simp;omega)]at this;exact this
    have HRs:Hid (wr.heap[w.heap.size]? = some (.cells (gC gZ) 125 (0,0))):=by
     unfold Hid;rw[HO.out.block _ (Nat.lt_trans HM.out.g1 HM.out.lt) (Nat.ne_of_lt HM.out.g1)];exact HM.out.res
    clear HE
    go_wp2_with (first
     | (refine wpList_load_row ?zEG 125 (.tmp 4) ?ho g ?hx 125 (gC G) (0,0) _ HG.out.1 Tryz.underlying125 rfl (qP HG.out.2) ?_
        case ho=>rfl
        case zEG=>rfl
        case hx=>rfl)
     | (refine wpList_store_row ?zEG 125 (.tmp 2) (.tmp 33) ?ho w.heap.size (gC G) ?hx ?hy 125 (gC gZ) HRs.out (qP HG.out.2) ?zEH (jL G) ?_
        case ho=>rfl
        case zEG=>rfl
        case hx=>rfl
        case hy=>rfl
        case zEH=>rw[xK,xK,yY,HG.out.2]))
    refine p5 (v:=.agg (gC G)) (results_cell_row Tryz.results77 _ _ w.heap.size 125 (gC G) (0,0) _ rfl (lq _ _ (gC gZ) _ _ _ HRs.out) Tryz.underlying125 rfl (qP HG.out.2)) rfl ⟨by rw[HLB.out,<-HE3.out],xC zEQ.out (j1 _) _⟩
end Go.Proofs.YtnbpdffdnphbeabGreatDoor
