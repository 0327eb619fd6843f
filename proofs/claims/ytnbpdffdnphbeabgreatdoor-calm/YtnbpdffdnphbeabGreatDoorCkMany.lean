import Derived.Deep.RegionWith
import Derived.Test.YtnbpdffdnphbeabGreatDoorCkGraph
set_option maxHeartbeats 4000000
set_option maxRecDepth 100000
namespace Go.Proofs.YtnbpdffdnphbeabGreatDoor
open Go.RowKit
variable{B g:Nat}{w b:World}(zK2:List Bs)
theorem ZT(w:World)(a:Option Addr)(c:Nat)(S:List xE)(h:GF w a S) :
 Calls Tryz.prog 111 #[.slice a S.length c] w fun e w'=>e=.returned (.bool (tL S))/\Below w.heap.size w w':=by
 have HL:=zA h;have zKI:=h.few;unfold maxLen at zKI;clear h;by_cases hb4:4<S.length
 ·have HR:Hid (tL S=true):=by unfold Hid tL;rw[tu hb4];rfl
  go_enter Tryz.func111,Tryz.ntmps111
  go_wp2_with fail
  go_ret
  exact⟨zF HR.out.symm,tg _ _⟩
 ·have HR:Hid (S.any tV=tL S):=by unfold Hid tL;rw[tq hb4];rfl
  go_enter Tryz.func111,Tryz.ntmps111
  go_wp2_with fail
  go_loopw [10] (fun iv wr=>∃(i:Nat),i<=S.length/\iv=.int .i64 i/\Hid (Below w.heap.size w wr)/\Hid ((S.drop i).any tV=tL S)) (fun iv _=>S.length-(intOf iv).toNat)
  case atStart=>exact⟨0,ty _,rfl,zA (tg _ _),HR⟩
  case round =>
   obtain⟨i,hi,rfl,HB,HE⟩:=hrel;by_cases zK4:i<S.length
   ·obtain⟨g,yM,rfl,hp⟩:=(HL.out.below HB.out (j1 _)).blk (by omega)
    obtain⟨c0,c1,c2,c3⟩:=hp.cells zK4;have hg:=hp.lt;have hE:=HE.out;rw[rJ _ xz _ i zK4,show S.getD i xz=XV S i from rfl]at hE;have HE2:=zA hE;have zKD:=HB.out.size;clear HE hE hp HR;generalize XV S i=x at *;obtain⟨mi,st,nu,na⟩:=x;simp only at c0 c1 c2 c3;cases st
    ·have HE3:Hid ((S.drop (i+1)).any tV=tL S):=by have:=HE2.out;unfold Hid;rw[<-this];simp[tV]
     clear HE2;go_wp2_with fail
     go_roundw
     case rel=>exact⟨i+1,by omega,by go_num,zA (HB.out.alloc zKD _),HE3⟩
     case measure=>simp[intOf];omega
    ·by_cases k1:9<nu
     ·have HE3:Hid (tL S=true):=by have:=HE2.out;unfold Hid;rw[<-this];simp[tV,k1]
      clear HE2;go_wp2_with fail
      go_ret
      exact⟨zF HE3.out.symm,HB.out.alloc zKD _⟩
     ·have HE3:Hid ((S.drop (i+1)).any tV=tL S):=by have:=HE2.out;unfold Hid;rw[<-this];simp[tV,k1]
      clear HE2;go_wp2_with fail
      go_roundw
      case rel=>exact⟨i+1,by omega,by go_num,zA (HB.out.alloc zKD _),HE3⟩
      case measure=>simp[intOf];omega
   ·have HE3:Hid (tL S=false):=by have:=HE.out;rw[pf (by omega)]at this;exact this.symm
    clear HE;go_wp2_with fail
    go_ret
    exact⟨zF HE3.out.symm,HB.out⟩
theorem ZN.rule{x:LX}{sa na:Option Addr}{sn sc nn nc:Nat}(h:ZN w x)(hk:x.1.kind=3)(e:x.2=(.slice sa sn sc,.slice na nn nc)):sn=x.1.sum.length/\GF w sa x.1.sum/\nn=x.1.nd.length/\zAU w na x.1.nd:=by
 obtain⟨h1,h2,h3⟩:=h.g.rule hk;obtain⟨g,c,yM,e2,p⟩:=h.b.sum h1;obtain⟨g',c',cur',e3,p'⟩:=h.b.nod (by omega);rw[e]at e2 e3;simp only[dm]at e2 e3;have h4:=h.g.sumN;exact⟨e2.2.1,⟨fun _=>⟨g,yM,e2.1,p⟩,by unfold maxLen;omega⟩,e3.2.1,⟨fun _=>⟨g',cur',e3.1,p'⟩,h.nds⟩⟩
theorem V8{w':World}{x:Obj}{k:Nat}(h:w.heap[k]? = some x)(hb:Below B w w')(hk:k<B):w'.heap[k]? = some x:=by
 rw[hb.block k hk];exact h
theorem zB{b:Nat}{cs:Array Value}{T:TypeId}{fz:Nat × Nat}(h:w.heap[b]? = some (.cells cs T fz))(j:Nat):w.cell? ⟨b,j,none⟩=cs[j]? := by
 simp only[World.cell?,h];rfl
theorem Vv(w:World)(a:Option Addr)(c:Nat)(ls:List LX)(i:Nat)(hi:i<ls.length)(hc:ls.length<=c)(h:jU w a ls) :
 Calls Tryz.prog 73 #[.slice a ls.length c,.int .i64 i] w fun e w'=>e=.returned (.bool (tJ (fs ls) i))/\Below w.heap.size w w':=by
 have zKI:=h.few;obtain⟨gl,sa,sn,sc,na,nn,nc,rfl,hgl,⟨c0,c1,c2,c3,c4,c5,c6,c7,c8,c9,c10⟩,eq,hC⟩:=h.line hi
 have HC:Hid (∀w',Below w.heap.size w w'->Calls Tryz.prog 109 #[.slice (some ⟨gl,0,none⟩) i c,.int .i64 (pG ls i).1.kind] w' fun e w''=>e=.returned (.int .i64 (xZ (pG ls i).1.kind ((fs ls).take i)))/\Below w'.heap.size w' w''):=by
  intro w' hb;have:=VO w' (some ⟨gl,0,none⟩) c (ls.take i) (pG ls i).1.kind ((h.take i).below hb (j1 _));rw[cg,Nat.min_eq_left (by omega),show fs (ls.take i)=(fs ls).take i from List.map_take ..]at this;exact this
 have HS:Hid ((pG ls i).1.kind=3->∀w',Below w.heap.size w w'->Calls Tryz.prog 111 #[.slice sa sn sc] w' fun e w''=>e=.returned (.bool (tL (pG ls i).1.sum))/\Below w'.heap.size w' w''):=by
  intro hk w' hb;obtain⟨h1,h2,_⟩:=hC.rule hk eq;rw[h1];exact ZT w' sa sc _ (h2.below hb (j1 _))
 have HM:Hid (tJ (fs ls) i=(decide (ZS (pG ls i).1.kind<=(xZ (pG ls i).1.kind ((fs ls).take i):Int)) || (decide ((pG ls i).1.kind=3)&&Vj (pG ls i).1))):=by unfold Hid tJ;rw[jR]
 have hcl:=zEK (pG ls i).1.kind ((fs ls).take i);rw[cg]at hcl;clear h hC eq;generalize (pG ls i).1=x at *;obtain⟨kd,n1,lo,hi',cc,S,N,ro,te,de,lw⟩:=x;simp only at c0 c1 c2 c3 c4 c5 c6 c7 c8 c9 c10 HC HS HM hcl;generalize xZ kd ((fs ls).take i)=cn at *;have hlim:0<=ZS kd/\ZS kd<=28:=by unfold ZS;repeat' split <;> omega
 generalize hlm:ZS kd=lm at *;have HLm:=zA hlm;clear hlm;have hsn:w.heap.size<w.heap.size+1:=my _
 go_enter Tryz.func73,Tryz.ntmps73
 go_wp2_with fail
 go_cut [19] from 10 to 19 (fun v wx=>v=.bool (decide (lm<=(cn:Int)))/\Hid (Below w.heap.size w wx)/\∀j,wx.cell? ⟨w.heap.size,j,none⟩ = #[Value.int .i64 kd,.string ⟨n1.toArray⟩,.int .i64 lo,.int .i64 hi',.string ⟨cc.toArray⟩,.slice sa sn sc,.slice na nn nc,.int .i64 ro,.int .i64 te,.int .i64 de,.string ⟨lw.toArray⟩][j]?)
 case first =>
  go_region_with (first
   | (go_at_call 109
      refine(HC.out _ (po (Below.alloc (tg _ _) (j1 _) _))).mono ?_;rintro e w1 ⟨rfl,hb1⟩;have b1:=V8 (sF (zG _ _)) hb1 (iA (zY _ _));have HB1:Hid (Below w.heap.size w w1):=(po (Below.alloc (tg _ _) (j1 _) _)).trans (hb1.mono (ph (iA (zY _ _))));have q:=zB b1;clear hb1 b1)
   | (go_at_call 110
      refine(zDG _ _).mono ?_;rintro e w2 ⟨rfl,hw⟩;obtain rfl:=hw.symm;rw[HLm.out]))
  all_goals
   go_wp2_with fail
   go_meet
   exact⟨rfl,HB1,q⟩
 case rest =>
  obtain⟨rfl,HB1,q⟩:=hcut;clear c0 c1 c2 c3 c4 c5 c6 c7 c8 c9 c10 HC;by_cases hm:lm<=(cn:Int)
  ·have HR:Hid (tJ (fs ls) i=true):=by unfold Hid;rw[HM.out,tu hm];rfl
   clear HM;go_wp2_with fail
   go_ret
   exact⟨zF HR.out.symm,HB1.out⟩
  ·have hm':decide (lm<=(cn:Int))=false:=tq hm
   have HM1:Hid (tJ (fs ls) i=(decide (kd=3)&&Vj ⟨kd,n1,lo,hi',cc,S,N,ro,te,de,lw⟩)):=by unfold Hid;rw[HM.out,hm'];rfl
   clear HM;by_cases k3:kd=3
   ·have HM2:Hid (tJ (fs ls) i=(decide (6<te) || (decide (4<de) || tL S))):=by unfold Hid;rw[HM1.out,tu k3];rfl
    have HS2:=zA (HS.out k3);have b3:(kd != 3)=false:=by simpa using k3
    clear HM1 HS k3;by_cases k6:6<te
    ·have HR:Hid (tJ (fs ls) i=true):=by unfold Hid;rw[HM2.out,tu k6];rfl
     clear HM2;go_wp2_with fail
     go_ret
     exact⟨zF HR.out.symm,HB1.out⟩
    ·by_cases k7:4<de
     ·have HR:Hid (tJ (fs ls) i=true):=by unfold Hid;rw[HM2.out,tu k7,fg,Bool.or_true]
      clear HM2;go_wp2_with fail
      go_ret
      exact⟨zF HR.out.symm,HB1.out⟩
     ·have HR:Hid (tJ (fs ls) i=tL S):=by unfold Hid;rw[HM2.out,tq k6,tq k7];rfl
      clear HM2;go_wp2_with fail
      refine(HS2.out _ HB1.out).mono ?_;rintro e w3 ⟨rfl,hb3⟩;have HB3:Hid (Below w.heap.size w w3):=HB1.out.trans (hb3.mono HB1.out.size);clear hb3;go_wp2_with fail
      go_ret
      exact⟨zF HR.out.symm,HB3.out⟩
   ·have HR:Hid (tJ (fs ls) i=false):=by unfold Hid;rw[HM1.out,tq k3];rfl
    have b3:(kd != 3)=true:=by simpa using k3
    clear HM1 k3;go_wp2_with fail
    go_ret
    exact⟨zF HR.out.symm,HB1.out⟩
def uT(labs:List Bs):List zE->List Bool->List Bool
 | [],G=>G
 | x::r,G=>uT labs r (if x.kind=4 then nG G (zI labs x.name) (zI labs x.lower) else G)
def lP(zK2:List Bs)(from':Int):List xE->List Bool->List Bool
 | [],G=>G
 | x::r,G=>lP zK2 from' r (nG G from' (zI zK2 x.name))
def pF(zK2:List Bs)(from':Int):List zT->List Bool->List Bool
 | [],G=>G
 | x::r,G=>pF zK2 from' r (if x.kind=5 then nG G from' (zI zK2 x.name) else G)
def qK(zK2:List Bs):List zE->List Bool->List Bool
 | [],G=>G
 | x::r,G=>qK zK2 r (if x.kind=3 then pF zK2 (zI zK2 x.conc) x.nd (lP zK2 (zI zK2 x.conc) x.sum G) else G)
theorem Fw(labs:List Bs)(ls:List zE)(i:Nat)(G:List Bool)(h:i<ls.length):uT labs (ls.drop i) G=uT labs (ls.drop (i+1)) (if (lA ls i).kind=4 then nG G (zI labs (lA ls i).name) (zI labs (lA ls i).lower) else G):=by
 rw[pm h,uT];simp[lA,List.getD,h]
theorem F6(ls:List zE)(i:Nat)(G:List Bool)(h:i<ls.length):qK zK2 (ls.drop i) G=qK zK2 (ls.drop (i+1)) (if (lA ls i).kind=3 then pF zK2 (zI zK2 (lA ls i).conc) (lA ls i).nd (lP zK2 (zI zK2 (lA ls i).conc) (lA ls i).sum G) else G):=by
 rw[pm h,qK];simp[lA,List.getD,h]
theorem Ba(f:Int)(S:List xE)(i:Nat)(G:List Bool)(h:i<S.length):lP zK2 f (S.drop i) G=lP zK2 f (S.drop (i+1)) (nG G f (zI zK2 (XV S i).name)):=by
 rw[zJO S i h,lP]
theorem Bk(f:Int)(N:List zT)(i:Nat)(G:List Bool)(h:i<N.length):pF zK2 f (N.drop i) G=pF zK2 f (N.drop (i+1)) (if (pO N i).kind=5 then nG G f (zI zK2 (pO N i).name) else G):=by
 rw[pm h,pF];simp[pO,List.getD,h]
theorem uZ.trans{a c:World}(h:uZ g a b)(k:uZ g b c):uZ g a c :=
 ⟨k.os.trans h.os,k.tape.trans h.tape,k.output.trans h.output,p7 h.size k.size,fun i hi zK8=>(k.block i (tj hi h.size) zK8).trans (h.block i hi zK8)⟩
theorem uZ.alloc{a:World}(h:uZ g a b)(o:Obj):uZ g a (b.alloc o) :=
 h.trans ⟨rfl,rfl,rfl,by simp,fun k hk _=>l8 _ _ _ hk⟩
theorem uZ.below{a:World}(h:uZ g a b)(hB:B<=a.heap.size)(hg:B<=g):Below B a b :=
 ⟨h.os,h.tape,h.output,h.size,fun k hk=>h.block k (by omega) (by omega)⟩
theorem eJ.new{G:List Bool}(h:eJ w g G)(o:Obj):eJ (w.alloc o) g G:=⟨zU h.1,h.2⟩
structure Un(w wc:World)(g:Nat)(a:Option Addr)(zK2:List Bs):Prop where
 res:wc.heap[w.heap.size]? = some (.cells (gC gZ) 125 (0,0))
 g1:w.heap.size<g
 lt:g<wc.heap.size
 bel:Below w.heap.size w wc
 str:∀w',uZ g wc w'->zIL w' a zK2
theorem Un.mk'{w1:World}{v:Value}{zK2:List Bs}{o:Obj}{cs:Array Value}(hz:w1.heap[w.heap.size]? = some (.cells (gC gZ) 125 (0,0)))(hb:Below w.heap.size w w1)(hs:w.heap.size<w1.heap.size)(zK6:w1.ownsRow B 9 1 v zK2.length (vC zK2))(hf:zK2.length<=10000) :
 ∃a c,v=.slice a zK2.length c/\Un w ((w1.alloc o).setRow w1.heap.size cs) w1.heap.size a zK2:=by
 obtain⟨a,c,hv,hstr⟩:=CP zK6 hf;refine⟨a,c,hv,⟨BD (zU hz) (by omega),hs,?_,yT (hb.alloc hb.size _) (ph hs) _,fun w' ho=>⟨fun h0=>?_,hf⟩⟩⟩
 ·unfold World.setRow;simp
 ·obtain⟨g,e,p⟩:=hstr.blk h0
  refine⟨g,e,fun i hi=>?_⟩;have hp:=p i hi
  have hg:g<w1.heap.size:=by
   rcases mc g w1.heap.size with h1|h1
   ·exact h1
   ·rw[World.cell?,ma (by simpa using h1)]at hp;cases hp
  have e1:w'.heap[g]? = w1.heap[g]? := by
   rw[ho.block g (by unfold World.setRow;simp;omega) (by omega)];unfold World.setRow;simp only[Array.getElem?_modify];rw[tb (by omega)];exact l8 _ _ _ hg
  simp only[World.cell?,e1]at hp ⊢;exact hp
theorem D7(w:World)(a:Option Addr)(c:Nat)(ls:List LX)(h:jU w a ls) :
 Calls Tryz.prog 77 #[.slice a ls.length c] w fun e w'=>e=.returned (.agg (gC (uT (xW (fs ls)) (fs ls) gZ)))/\Below w.heap.size w w':=by
 have HL:=zA h;have zKI:=h.few;have HRL:=zA (fun o=>Jy (w.alloc o) a c ls (h.below (fj (j1 _) o) (j1 _)));clear h
 go_enter Tryz.func77,Tryz.ntmps77
 go_wp2_with fail
 refine(HRL.out _).mono ?_;rintro e w1 ⟨v,rfl,zK6,zKA,hb1⟩;have hz:w1.heap[w.heap.size]? = some (.cells (gC gZ) 125 (0,0)):=by rw[hb1.block _ (zY _ _)];exact zG _ _
 have hs:w.heap.size<w1.heap.size:=tj (zY _ _) hb1.size;have HK:=zA (fun o cs=>Un.mk' (o:=o) (cs:=cs) hz (vY hb1) hs zK6 (by omega));obtain⟨la,lc,rfl,_⟩:=HK.out (.cells #[] 0 (0,0)) #[];generalize hlb:xW (fs ls)=labs at *;have HLB:=zA hlb;clear hlb
 have HK2:Hid (∀o cs,Un w ((w1.alloc o).setRow w1.heap.size cs) w1.heap.size la labs):=fun o cs=>by
  obtain⟨a',c',e,p⟩:=HK.out o cs;simp only[dm]at e;rw[e.1];exact p
 clear hz zK6 hb1 HK HRL
 go_upto_region 2 with fail
 go_cut [4] from 11 to 11 (fun p4 wx=>p4=.pointer (some ⟨w1.heap.size,0,none⟩)/\Hid (Un w wx w1.heap.size la labs)/\Hid (eJ wx w1.heap.size gZ))
 case first =>
  go_wp2_with (refine wpList_store_row ?zK9 125 (.tmp 4) (.tmp 11) ?ho w1.heap.size (gC gZ) ?hx ?hy 125 (gC gZ) (zG w1 _) (kQ yY) rfl (tO gZ) ?_
               case ho=>rfl
               case zK9=>rfl
               case hx=>rfl
               case hy=>rfl)
  go_meet
  exact⟨rfl,zA (HK2.out _ _),zA ⟨bi _ _ (gC gZ) _ _ _ (zG w1 _),yY⟩⟩
 case rest =>
  obtain⟨rfl,HM,HG0⟩:=hcut;generalize w1.heap.size=g at *;clear HK2;go_wp2_with fail
  go_loopw [14] (fun iv wr=>∃(i:Nat) (G:List Bool),i<=ls.length/\iv=.int .i64 i/\Hid (uZ g wc wr)/\Hid (eJ wr g G)/\Hid (uT labs ((fs ls).drop i) G=uT labs (fs ls) gZ)) (fun iv _=>ls.length-(intOf iv).toNat)
  case atStart=>exact⟨0,gZ,ty _,rfl,zA (uZ.refl _ _),HG0,zA rfl⟩
  case round =>
   obtain⟨i,G,hi,rfl,HO,HG,HE⟩:=hrel;clear HG0;have zKO:Hid (Below w.heap.size w wr):=HM.out.bel.trans (HO.out.below HM.out.bel.size (ph HM.out.g1));by_cases zK4:i<ls.length
   ·obtain⟨gl,sa,sn,sc,na,nn,nc,rfl,hgl,⟨c0,c1,c2,c3,c4,c5,c6,c7,c8,c9,c10⟩,_,_⟩:=(HL.out.below zKO.out (j1 _)).line zK4
    have hE:=HE.out;rw[Fw _ _ i _ (by simpa using zK4),jR]at hE;have HE2:=zA hE;have HF:=zA (fun o nm=>Xx (wr.alloc o) la lc labs nm (HM.out.str _ (HO.out.alloc o)));have HA:=zA (fun o x y=>zB5 (wr.alloc o) g G x y (HG.out.new o));clear HE hE;generalize (pG ls i).1=x at *;obtain⟨kd,n1,lo,hi',cc,S,N,ro,te,de,lw⟩:=x;simp only at c0 c1 c2 c3 c4 c5 c6 c7 c8 c9 c10;by_cases k1:kd=4
    ·have b1:(kd==4)=true:=by simpa using k1
     have HE3:Hid (uT labs ((fs ls).drop (i+1)) (nG G (zI labs n1) (zI labs lw))=uT labs (fs ls) gZ):=by have:=HE2.out;rw[tm k1]at this;exact this
     clear HE2 k1;go_wp2_with fail
     refine(HF.out _ n1).mono ?_;rintro e w2 ⟨rfl,hw⟩;obtain rfl:=hw.symm;go_wp2_with fail
     refine(HF.out _ lw).mono ?_;rintro e w2 ⟨rfl,hw⟩;obtain rfl:=hw.symm;go_wp2_with fail
     refine(HA.out _ _ _).mono ?_;rintro e w2 ⟨rfl,hg2,ho2⟩;have HO2:Hid (uZ g wc w2):=(HO.out.alloc _).trans ho2;have HG2:=zA hg2;clear hg2 ho2;go_wp2_with fail
     go_roundw
     case rel=>exact⟨i+1,_,by omega,by go_num,HO2,HG2,HE3⟩
     case measure=>simp[intOf];omega
    ·have b1:(kd==4)=false:=by simpa using k1
     have HE3:Hid (uT labs ((fs ls).drop (i+1)) G=uT labs (fs ls) gZ):=by have:=HE2.out;rw[tb k1]at this;exact this
     clear HE2 k1;go_wp2_with fail
     go_roundw
     case rel=>exact⟨i+1,G,by omega,by go_num,zA (HO.out.alloc _),zA (HG.out.new _),HE3⟩
     case measure=>simp[intOf];omega
   ·have HE3:Hid (G=uT labs (fs ls) gZ):=by have:=HE.out;rw[pf (by simp;omega)]at this;exact this
    have HRs:Hid (wr.heap[w.heap.size]? = some (.cells (gC gZ) 125 (0,0))):=by
     unfold Hid;rw[HO.out.block _ (Nat.lt_trans HM.out.g1 HM.out.lt) (Nat.ne_of_lt HM.out.g1)];exact HM.out.res
    clear HE
    go_wp2_with (first
     | (refine wpList_load_row ?zK9 125 (.tmp 4) ?ho g ?hx 125 (gC G) (0,0) _ HG.out.1 Tryz.underlying125 rfl (kQ HG.out.2) ?_
        case ho=>rfl
        case zK9=>rfl
        case hx=>rfl)
     | (refine wpList_store_row ?zK9 125 (.tmp 2) (.tmp 33) ?ho w.heap.size (gC G) ?hx ?hy 125 (gC gZ) HRs.out (kQ HG.out.2) ?zKC (tO G) ?_
        case ho=>rfl
        case zK9=>rfl
        case hx=>rfl
        case hy=>rfl
        case zKC=>rw[xR,xR,yY,HG.out.2]))
    refine pb (v:=.agg (gC G)) (results_cell_row Tryz.results77 _ _ w.heap.size 125 (gC G) (0,0) _ rfl (bi _ _ (gC gZ) _ _ _ HRs.out) Tryz.underlying125 rfl (kQ HG.out.2)) rfl ⟨by rw[HLB.out,<-HE3.out],yT zKO.out (j1 _) _⟩
end Go.Proofs.YtnbpdffdnphbeabGreatDoor
