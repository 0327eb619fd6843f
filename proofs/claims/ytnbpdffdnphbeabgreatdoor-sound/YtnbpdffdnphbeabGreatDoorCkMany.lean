import Derived.Deep.RegionWith
import Derived.Test.YtnbpdffdnphbeabGreatDoorCkGraph
set_option maxHeartbeats 4000000
set_option maxRecDepth 100000
namespace Go.Proofs.YtnbpdffdnphbeabGreatDoor
open Go.RowKit
variable{B g:Nat}{b w:World}(zJP:List Bs)
theorem ZL(w:World)(a:Option Addr)(c:Nat)(S:List yQ)(h:GD w a S) :
 Calls Tryz.prog 111 #[.slice a S.length c] w fun e w'=>e=.returned (.bool (tS S))/\Below w.heap.size w w':=by
 have HL:=zA h;have zK8:=h.few;unfold maxLen at zK8;clear h;by_cases hb4:4<S.length
 ·have HR:Hid (tS S=true):=by unfold Hid tS;rw[ty hb4];rfl
  go_enter Tryz.func111,Tryz.ntmps111
  go_wp2_with fail
  go_ret
  exact⟨zF HR.out.symm,tl _ _⟩
 ·have HR:Hid (S.any qT=tS S):=by unfold Hid tS;rw[tu hb4];rfl
  go_enter Tryz.func111,Tryz.ntmps111
  go_wp2_with fail
  go_loopw [10] (fun iv wr=>∃(i:Nat),i<=S.length/\iv=.int .i64 i/\Hid (Below w.heap.size w wr)/\Hid ((S.drop i).any qT=tS S)) (fun iv _=>S.length-(intOf iv).toNat)
  case atStart=>exact⟨0,p7 _,rfl,zA (tl _ _),HR⟩
  case round =>
   obtain⟨i,hi,rfl,HB,HE⟩:=hrel;by_cases zJS:i<S.length
   ·obtain⟨g,yT,rfl,hp⟩:=(HL.out.below HB.out (tg _)).blk (by omega)
    obtain⟨c0,c1,c2,c3⟩:=hp.cells zJS;have hg:=hp.lt;have hE:=HE.out;rw[oO _ xz _ i zJS,show S.getD i xz=ZI S i from rfl]at hE;have HE2:=zA hE;have zK2:=HB.out.size;clear HE hE hp HR;generalize ZI S i=x at *;obtain⟨mi,st,nu,na⟩:=x;simp only at c0 c1 c2 c3;cases st
    ·have HE3:Hid ((S.drop (i+1)).any qT=tS S):=by have:=HE2.out;unfold Hid;rw[<-this];simp[qT]
     clear HE2;go_wp2_with fail
     go_roundw
     case rel=>exact⟨i+1,by omega,by go_num,zA (HB.out.alloc zK2 _),HE3⟩
     case measure=>simp[intOf];omega
    ·by_cases k1:9<nu
     ·have HE3:Hid (tS S=true):=by have:=HE2.out;unfold Hid;rw[<-this];simp[qT,k1]
      clear HE2;go_wp2_with fail
      go_ret
      exact⟨zF HE3.out.symm,HB.out.alloc zK2 _⟩
     ·have HE3:Hid ((S.drop (i+1)).any qT=tS S):=by have:=HE2.out;unfold Hid;rw[<-this];simp[qT,k1]
      clear HE2;go_wp2_with fail
      go_roundw
      case rel=>exact⟨i+1,by omega,by go_num,zA (HB.out.alloc zK2 _),HE3⟩
      case measure=>simp[intOf];omega
   ·have HE3:Hid (tS S=false):=by have:=HE.out;rw[pe (by omega)]at this;exact this.symm
    clear HE;go_wp2_with fail
    go_ret
    exact⟨zF HE3.out.symm,HB.out⟩
theorem ZF.rule{x:LX}{sa na:Option Addr}{sn sc nn nc:Nat}(h:ZF w x)(hk:x.1.kind=3)(e:x.2=(.slice sa sn sc,.slice na nn nc)):sn=x.1.sum.length/\GD w sa x.1.sum/\nn=x.1.nd.length/\zBA w na x.1.nd:=by
 obtain⟨h1,h2,h3⟩:=h.g.rule hk;obtain⟨g,c,yT,e2,p⟩:=h.b.sum h1;obtain⟨g',c',cur',e3,p'⟩:=h.b.nod (by omega);rw[e]at e2 e3;simp only[dz]at e2 e3;have h4:=h.g.sumN;exact⟨e2.2.1,⟨fun _=>⟨g,yT,e2.1,p⟩,by unfold maxLen;omega⟩,e3.2.1,⟨fun _=>⟨g',cur',e3.1,p'⟩,h.nds⟩⟩
theorem Vs{w':World}{x:Obj}{k:Nat}(h:w.heap[k]? = some x)(hb:Below B w w')(hk:k<B):w'.heap[k]? = some x:=by
 rw[hb.block k hk];exact h
theorem zC{w:World}{b:Nat}{cs:Array Value}{T:TypeId}{fz:Nat × Nat}(h:w.heap[b]? = some (.cells cs T fz))(j:Nat):w.cell? ⟨b,j,none⟩=cs[j]? := by
 simp only[World.cell?,h];rfl
theorem Vg(w:World)(a:Option Addr)(c:Nat)(ls:List LX)(i:Nat)(hi:i<ls.length)(hc:ls.length<=c)(h:tG w a ls) :
 Calls Tryz.prog 73 #[.slice a ls.length c,.int .i64 i] w fun e w'=>e=.returned (.bool (jG (fs ls) i))/\Below w.heap.size w w':=by
 have zK8:=h.few;obtain⟨gl,sa,sn,sc,na,nn,nc,rfl,hgl,⟨c0,c1,c2,c3,c4,c5,c6,c7,c8,c9,c10⟩,eq,hC⟩:=h.line hi
 have HC:Hid (∀w',Below w.heap.size w w'->Calls Tryz.prog 109 #[.slice (some ⟨gl,0,none⟩) i c,.int .i64 (pT ls i).1.kind] w' fun e w''=>e=.returned (.int .i64 (vB (pT ls i).1.kind ((fs ls).take i)))/\Below w'.heap.size w' w''):=by
  intro w' hb;have:=VC w' (some ⟨gl,0,none⟩) c (ls.take i) (pT ls i).1.kind ((h.take i).below hb (tg _));rw[cb,Nat.min_eq_left (by omega),show fs (ls.take i)=(fs ls).take i from List.map_take ..]at this;exact this
 have HS:Hid ((pT ls i).1.kind=3->∀w',Below w.heap.size w w'->Calls Tryz.prog 111 #[.slice sa sn sc] w' fun e w''=>e=.returned (.bool (tS (pT ls i).1.sum))/\Below w'.heap.size w' w''):=by
  intro hk w' hb;obtain⟨h1,h2,_⟩:=hC.rule hk eq;rw[h1];exact ZL w' sa sc _ (h2.below hb (tg _))
 have HM:Hid (jG (fs ls) i=(decide (ZK (pT ls i).1.kind<=(vB (pT ls i).1.kind ((fs ls).take i):Int)) || (decide ((pT ls i).1.kind=3)&&YR (pT ls i).1))):=by unfold Hid jG;rw[tE]
 have hcl:=zF1 (pT ls i).1.kind ((fs ls).take i);rw[cb]at hcl;clear h hC eq;generalize (pT ls i).1=x at *;obtain⟨kd,n1,lo,hi',cc,S,N,ro,te,de,lw⟩:=x;simp only at c0 c1 c2 c3 c4 c5 c6 c7 c8 c9 c10 HC HS HM hcl;generalize vB kd ((fs ls).take i)=cn at *;have hlim:0<=ZK kd/\ZK kd<=28:=by unfold ZK;repeat' split <;> omega
 generalize hlm:ZK kd=lm at *;have HLm:=zA hlm;clear hlm;have hsn:w.heap.size<w.heap.size+1:=mt _
 go_enter Tryz.func73,Tryz.ntmps73
 go_wp2_with fail
 go_cut [19] from 10 to 19 (fun v wx=>v=.bool (decide (lm<=(cn:Int)))/\Hid (Below w.heap.size w wx)/\∀j,wx.cell? ⟨w.heap.size,j,none⟩ = #[Value.int .i64 kd,.string ⟨n1.toArray⟩,.int .i64 lo,.int .i64 hi',.string ⟨cc.toArray⟩,.slice sa sn sc,.slice na nn nc,.int .i64 ro,.int .i64 te,.int .i64 de,.string ⟨lw.toArray⟩][j]?)
 case first =>
  go_region_with (first
   | (go_at_call 109
      refine(HC.out _ (pu (Below.alloc (tl _ _) (tg _) _))).mono ?_;rintro e w1 ⟨rfl,hb1⟩;have b1:=Vs (rL (zH _ _)) hb1 (eW (yE _ _));have HB1:Hid (Below w.heap.size w w1):=(pu (Below.alloc (tl _ _) (tg _) _)).trans (hb1.mono (pb (eW (yE _ _))));have q:=zC b1;clear hb1 b1)
   | (go_at_call 110
      refine(zE0 _ _).mono ?_;rintro e w2 ⟨rfl,hw⟩;obtain rfl:=hw.symm;rw[HLm.out]))
  all_goals
   go_wp2_with fail
   go_meet
   exact⟨rfl,HB1,q⟩
 case rest =>
  obtain⟨rfl,HB1,q⟩:=hcut;clear c0 c1 c2 c3 c4 c5 c6 c7 c8 c9 c10 HC;by_cases hm:lm<=(cn:Int)
  ·have HR:Hid (jG (fs ls) i=true):=by unfold Hid;rw[HM.out,ty hm];rfl
   clear HM;go_wp2_with fail
   go_ret
   exact⟨zF HR.out.symm,HB1.out⟩
  ·have hm':decide (lm<=(cn:Int))=false:=tu hm
   have HM1:Hid (jG (fs ls) i=(decide (kd=3)&&YR ⟨kd,n1,lo,hi',cc,S,N,ro,te,de,lw⟩)):=by unfold Hid;rw[HM.out,hm'];rfl
   clear HM;by_cases k3:kd=3
   ·have HM2:Hid (jG (fs ls) i=(decide (6<te) || (decide (4<de) || tS S))):=by unfold Hid;rw[HM1.out,ty k3];rfl
    have HS2:=zA (HS.out k3);have b3:(kd != 3)=false:=by simpa using k3
    clear HM1 HS k3;by_cases k6:6<te
    ·have HR:Hid (jG (fs ls) i=true):=by unfold Hid;rw[HM2.out,ty k6];rfl
     clear HM2;go_wp2_with fail
     go_ret
     exact⟨zF HR.out.symm,HB1.out⟩
    ·by_cases k7:4<de
     ·have HR:Hid (jG (fs ls) i=true):=by unfold Hid;rw[HM2.out,ty k7,Bool.true_or,Bool.or_true]
      clear HM2;go_wp2_with fail
      go_ret
      exact⟨zF HR.out.symm,HB1.out⟩
     ·have HR:Hid (jG (fs ls) i=tS S):=by unfold Hid;rw[HM2.out,tu k6,tu k7];rfl
      clear HM2;go_wp2_with fail
      refine(HS2.out _ HB1.out).mono ?_;rintro e w3 ⟨rfl,hb3⟩;have HB3:Hid (Below w.heap.size w w3):=HB1.out.trans (hb3.mono HB1.out.size);clear hb3;go_wp2_with fail
      go_ret
      exact⟨zF HR.out.symm,HB3.out⟩
   ·have HR:Hid (jG (fs ls) i=false):=by unfold Hid;rw[HM1.out,tu k3];rfl
    have b3:(kd != 3)=true:=by simpa using k3
    clear HM1 k3;go_wp2_with fail
    go_ret
    exact⟨zF HR.out.symm,HB1.out⟩
def kE(zK1:List Bs):List zE->List Bool->List Bool
 | [],G=>G
 | x::r,G=>kE zK1 r (if x.kind=4 then gO G (zJ zK1 x.name) (zJ zK1 x.lower) else G)
def mB(zJP:List Bs)(from':Int):List yQ->List Bool->List Bool
 | [],G=>G
 | x::r,G=>mB zJP from' r (gO G from' (zJ zJP x.name))
def tP(zJP:List Bs)(from':Int):List zN->List Bool->List Bool
 | [],G=>G
 | x::r,G=>tP zJP from' r (if x.kind=5 then gO G from' (zJ zJP x.name) else G)
def jB(zJP:List Bs):List zE->List Bool->List Bool
 | [],G=>G
 | x::r,G=>jB zJP r (if x.kind=3 then tP zJP (zJ zJP x.conc) x.nd (mB zJP (zJ zJP x.conc) x.sum G) else G)
theorem Fq(zK1:List Bs)(ls:List zE)(i:Nat)(G:List Bool)(h:i<ls.length):kE zK1 (ls.drop i) G=kE zK1 (ls.drop (i+1)) (if (lA ls i).kind=4 then gO G (zJ zK1 (lA ls i).name) (zJ zK1 (lA ls i).lower) else G):=by
 rw[pi h,kE];simp[lA,List.getD,h]
theorem F4(ls:List zE)(i:Nat)(G:List Bool)(h:i<ls.length):jB zJP (ls.drop i) G=jB zJP (ls.drop (i+1)) (if (lA ls i).kind=3 then tP zJP (zJ zJP (lA ls i).conc) (lA ls i).nd (mB zJP (zJ zJP (lA ls i).conc) (lA ls i).sum G) else G):=by
 rw[pi h,jB];simp[lA,List.getD,h]
theorem UP(f:Int)(S:List yQ)(i:Nat)(G:List Bool)(h:i<S.length):mB zJP f (S.drop i) G=mB zJP f (S.drop (i+1)) (gO G f (zJ zJP (ZI S i).name)):=by
 rw[zJD S i h,mB]
theorem Bb(f:Int)(N:List zN)(i:Nat)(G:List Bool)(h:i<N.length):tP zJP f (N.drop i) G=tP zJP f (N.drop (i+1)) (if (qP N i).kind=5 then gO G f (zJ zJP (qP N i).name) else G):=by
 rw[pi h,tP];simp[qP,List.getD,h]
theorem uN.trans{a c:World}(h:uN g a b)(k:uN g b c):uN g a c :=
 ⟨k.os.trans h.os,k.tape.trans h.tape,k.output.trans h.output,p8 h.size k.size,fun i hi zJZ=>(k.block i (tm hi h.size) zJZ).trans (h.block i hi zJZ)⟩
theorem uN.alloc{a:World}(h:uN g a b)(o:Obj):uN g a (b.alloc o) :=
 h.trans ⟨rfl,rfl,rfl,by simp,fun k hk _=>l5 _ _ _ hk⟩
theorem uN.below{a:World}(h:uN g a b)(hB:B<=a.heap.size)(hg:B<=g):Below B a b :=
 ⟨h.os,h.tape,h.output,h.size,fun k hk=>h.block k (by omega) (by omega)⟩
theorem aU.new{G:List Bool}(h:aU w g G)(o:Obj):aU (w.alloc o) g G:=⟨yD h.1,h.2⟩
structure VZ(w wc:World)(g:Nat)(a:Option Addr)(zJP:List Bs):Prop where
 res:wc.heap[w.heap.size]? = some (.cells (gC gZ) 125 (0,0))
 g1:w.heap.size<g
 lt:g<wc.heap.size
 bel:Below w.heap.size w wc
 str:∀w',uN g wc w'->Zl w' a zJP
theorem VZ.mk'{w1:World}{v:Value}{zJP:List Bs}{o:Obj}{cs:Array Value}(hz:w1.heap[w.heap.size]? = some (.cells (gC gZ) 125 (0,0)))(hb:Below w.heap.size w w1)(hs:w.heap.size<w1.heap.size)(zJU:w1.ownsRow B 9 1 v zJP.length (vH zJP))(hf:zJP.length<=10000) :
 ∃a c,v=.slice a zJP.length c/\VZ w ((w1.alloc o).setRow w1.heap.size cs) w1.heap.size a zJP:=by
 obtain⟨a,c,hv,hstr⟩:=CC zJU hf;refine⟨a,c,hv,⟨BC (yD hz) (by omega),hs,?_,yW (hb.alloc hb.size _) (pb hs) _,fun w' ho=>⟨fun h0=>?_,hf⟩⟩⟩
 ·unfold World.setRow;simp
 ·obtain⟨g,e,p⟩:=hstr.blk h0
  refine⟨g,e,fun i hi=>?_⟩;have hp:=p i hi
  have hg:g<w1.heap.size:=by
   rcases py g w1.heap.size with h1|h1
   ·exact h1
   ·rw[World.cell?,pq (by simpa using h1)]at hp;cases hp
  have e1:w'.heap[g]? = w1.heap[g]? := by
   rw[ho.block g (by unfold World.setRow;simp;omega) (by omega)];unfold World.setRow;simp only[Array.getElem?_modify];rw[tj (by omega)];exact l5 _ _ _ hg
  simp only[World.cell?,e1]at hp ⊢;exact hp
theorem Dy(w:World)(a:Option Addr)(c:Nat)(ls:List LX)(h:tG w a ls) :
 Calls Tryz.prog 77 #[.slice a ls.length c] w fun e w'=>e=.returned (.agg (gC (kE (uY (fs ls)) (fs ls) gZ)))/\Below w.heap.size w w':=by
 have HL:=zA h;have zK8:=h.few;have HRL:=zA (fun o=>Jo (w.alloc o) a c ls (h.below (fe (tg _) o) (tg _)));clear h
 go_enter Tryz.func77,Tryz.ntmps77
 go_wp2_with fail
 refine(HRL.out _).mono ?_;rintro e w1 ⟨v,rfl,zJU,zJV,hb1⟩;have hz:w1.heap[w.heap.size]? = some (.cells (gC gZ) 125 (0,0)):=by rw[hb1.block _ (yE _ _)];exact zH _ _
 have hs:w.heap.size<w1.heap.size:=tm (yE _ _) hb1.size;have HK:=zA (fun o cs=>VZ.mk' (o:=o) (cs:=cs) hz (vX hb1) hs zJU (by omega));obtain⟨la,lc,rfl,_⟩:=HK.out (.cells #[] 0 (0,0)) #[];generalize hlb:uY (fs ls)=zK1 at *;have HLB:=zA hlb;clear hlb
 have HK2:Hid (∀o cs,VZ w ((w1.alloc o).setRow w1.heap.size cs) w1.heap.size la zK1):=fun o cs=>by
  obtain⟨a',c',e,p⟩:=HK.out o cs;simp only[dz]at e;rw[e.1];exact p
 clear hz zJU hb1 HK HRL
 go_upto_region 2 with fail
 go_cut [4] from 11 to 11 (fun p4 wx=>p4=.pointer (some ⟨w1.heap.size,0,none⟩)/\Hid (VZ w wx w1.heap.size la zK1)/\Hid (aU wx w1.heap.size gZ))
 case first =>
  go_wp2_with (refine wpList_store_row ?zJW 125 (.tmp 4) (.tmp 11) ?ho w1.heap.size (gC gZ) ?hx ?hy 125 (gC gZ) (zH w1 _) (kS xO) rfl (tD gZ) ?_
               case ho=>rfl
               case zJW=>rfl
               case hx=>rfl
               case hy=>rfl)
  go_meet
  exact⟨rfl,zA (HK2.out _ _),zA ⟨bf _ _ (gC gZ) _ _ _ (zH w1 _),xO⟩⟩
 case rest =>
  obtain⟨rfl,HM,HG0⟩:=hcut;generalize w1.heap.size=g at *;clear HK2;go_wp2_with fail
  go_loopw [14] (fun iv wr=>∃(i:Nat) (G:List Bool),i<=ls.length/\iv=.int .i64 i/\Hid (uN g wc wr)/\Hid (aU wr g G)/\Hid (kE zK1 ((fs ls).drop i) G=kE zK1 (fs ls) gZ)) (fun iv _=>ls.length-(intOf iv).toNat)
  case atStart=>exact⟨0,gZ,p7 _,rfl,zA (uN.refl _ _),HG0,zA rfl⟩
  case round =>
   obtain⟨i,G,hi,rfl,HO,HG,HE⟩:=hrel;clear HG0;have zKE:Hid (Below w.heap.size w wr):=HM.out.bel.trans (HO.out.below HM.out.bel.size (pb HM.out.g1));by_cases zJS:i<ls.length
   ·obtain⟨gl,sa,sn,sc,na,nn,nc,rfl,hgl,⟨c0,c1,c2,c3,c4,c5,c6,c7,c8,c9,c10⟩,_,_⟩:=(HL.out.below zKE.out (tg _)).line zJS
    have hE:=HE.out;rw[Fq _ _ i _ (by simpa using zJS),tE]at hE;have HE2:=zA hE;have HF:=zA (fun o nm=>Xp (wr.alloc o) la lc zK1 nm (HM.out.str _ (HO.out.alloc o)));have HA:=zA (fun o x y=>zBO (wr.alloc o) g G x y (HG.out.new o));clear HE hE;generalize (pT ls i).1=x at *;obtain⟨kd,n1,lo,hi',cc,S,N,ro,te,de,lw⟩:=x;simp only at c0 c1 c2 c3 c4 c5 c6 c7 c8 c9 c10;by_cases k1:kd=4
    ·have b1:(kd==4)=true:=by simpa using k1
     have HE3:Hid (kE zK1 ((fs ls).drop (i+1)) (gO G (zJ zK1 n1) (zJ zK1 lw))=kE zK1 (fs ls) gZ):=by have:=HE2.out;rw[tr k1]at this;exact this
     clear HE2 k1;go_wp2_with fail
     refine(HF.out _ n1).mono ?_;rintro e w2 ⟨rfl,hw⟩;obtain rfl:=hw.symm;go_wp2_with fail
     refine(HF.out _ lw).mono ?_;rintro e w2 ⟨rfl,hw⟩;obtain rfl:=hw.symm;go_wp2_with fail
     refine(HA.out _ _ _).mono ?_;rintro e w2 ⟨rfl,hg2,ho2⟩;have HO2:Hid (uN g wc w2):=(HO.out.alloc _).trans ho2;have HG2:=zA hg2;clear hg2 ho2;go_wp2_with fail
     go_roundw
     case rel=>exact⟨i+1,_,by omega,by go_num,HO2,HG2,HE3⟩
     case measure=>simp[intOf];omega
    ·have b1:(kd==4)=false:=by simpa using k1
     have HE3:Hid (kE zK1 ((fs ls).drop (i+1)) G=kE zK1 (fs ls) gZ):=by have:=HE2.out;rw[tj k1]at this;exact this
     clear HE2 k1;go_wp2_with fail
     go_roundw
     case rel=>exact⟨i+1,G,by omega,by go_num,zA (HO.out.alloc _),zA (HG.out.new _),HE3⟩
     case measure=>simp[intOf];omega
   ·have HE3:Hid (G=kE zK1 (fs ls) gZ):=by have:=HE.out;rw[pe (by simp;omega)]at this;exact this
    have HRs:Hid (wr.heap[w.heap.size]? = some (.cells (gC gZ) 125 (0,0))):=by
     unfold Hid;rw[HO.out.block _ (Nat.lt_trans HM.out.g1 HM.out.lt) (Nat.ne_of_lt HM.out.g1)];exact HM.out.res
    clear HE
    go_wp2_with (first
     | (refine wpList_load_row ?zJW 125 (.tmp 4) ?ho g ?hx 125 (gC G) (0,0) _ HG.out.1 Tryz.underlying125 rfl (kS HG.out.2) ?_
        case ho=>rfl
        case zJW=>rfl
        case hx=>rfl)
     | (refine wpList_store_row ?zJW 125 (.tmp 2) (.tmp 33) ?ho w.heap.size (gC G) ?hx ?hy 125 (gC gZ) HRs.out (kS HG.out.2) ?zJY (tD G) ?_
        case ho=>rfl
        case zJW=>rfl
        case hx=>rfl
        case hy=>rfl
        case zJY=>rw[xK,xK,xO,HG.out.2]))
    refine pm (v:=.agg (gC G)) (results_cell_row Tryz.results77 _ _ w.heap.size 125 (gC G) (0,0) _ rfl (bf _ _ (gC gZ) _ _ _ HRs.out) Tryz.underlying125 rfl (kS HG.out.2)) rfl ⟨by rw[HLB.out,<-HE3.out],yW zKE.out (tg _) _⟩
end Go.Proofs.YtnbpdffdnphbeabGreatDoor
