import Derived.Deep.RegionWith
import Derived.Test.YtnbpdffdnphbeabGreatDoorCkGraph
set_option maxHeartbeats 4000000
set_option maxRecDepth 100000
namespace Go.Proofs.YtnbpdffdnphbeabGreatDoor
open Go.RowKit
variable{B g:Nat}{b w:World}(zKX:List Bs)
theorem Ye(w:World)(a:Option Addr)(c:Nat)(S:List xE)(h:zk w a S) :
 Calls Tryz.prog 111 #[.slice a S.length c] w fun e w'=>e=.returned (.bool (tJ S))/\Below w.heap.size w w':=by
 have HL:=zA h;have zLE:=h.few;unfold maxLen at zLE;clear h;by_cases hb4:4<S.length
 ·have HR:Hid (tJ S=true):=by unfold Hid tJ;rw[tu hb4];rfl
  go_enter Tryz.func111,Tryz.ntmps111
  go_wp2_with fail
  go_ret
  exact⟨zF HR.out.symm,tg _ _⟩
 ·have HR:Hid (S.any tS=tJ S):=by unfold Hid tJ;rw[ty hb4];rfl
  go_enter Tryz.func111,Tryz.ntmps111
  go_wp2_with fail
  go_loopw [10] (fun iv wr=>∃(i:Nat),i<=S.length/\iv=.int .i64 i/\Hid (Below w.heap.size w wr)/\Hid ((S.drop i).any tS=tJ S)) (fun iv _=>S.length-(intOf iv).toNat)
  case atStart=>exact⟨0,p7 _,rfl,zA (tg _ _),HR⟩
  case round =>
   obtain⟨i,hi,rfl,HB,HE⟩:=hrel;by_cases zKZ:i<S.length
   ·obtain⟨g,yK,rfl,hp⟩:=(HL.out.below HB.out (j1 _)).blk (by omega)
    obtain⟨c0,c1,c2,c3⟩:=hp.cells zKZ;have hg:=hp.lt;have hE:=HE.out;rw[rJ _ xz _ i zKZ,show S.getD i xz=Qf S i from rfl]at hE;have HE2:=zA hE;have zL8:=HB.out.size;clear HE hE hp HR;generalize Qf S i=x at *;obtain⟨mi,st,nu,na⟩:=x;simp only at c0 c1 c2 c3;cases st
    ·have HE3:Hid ((S.drop (i+1)).any tS=tJ S):=by have:=HE2.out;unfold Hid;rw[<-this];simp[tS]
     clear HE2;go_wp2_with fail
     go_roundw
     case rel=>exact⟨i+1,by omega,by go_num,zA (HB.out.alloc zL8 _),HE3⟩
     case measure=>simp[intOf];omega
    ·by_cases k1:9<nu
     ·have HE3:Hid (tJ S=true):=by have:=HE2.out;unfold Hid;rw[<-this];simp[tS,k1]
      clear HE2;go_wp2_with fail
      go_ret
      exact⟨zF HE3.out.symm,HB.out.alloc zL8 _⟩
     ·have HE3:Hid ((S.drop (i+1)).any tS=tJ S):=by have:=HE2.out;unfold Hid;rw[<-this];simp[tS,k1]
      clear HE2;go_wp2_with fail
      go_roundw
      case rel=>exact⟨i+1,by omega,by go_num,zA (HB.out.alloc zL8 _),HE3⟩
      case measure=>simp[intOf];omega
   ·have HE3:Hid (tJ S=false):=by have:=HE.out;rw[pm (by omega)]at this;exact this.symm
    clear HE;go_wp2_with fail
    go_ret
    exact⟨zF HE3.out.symm,HB.out⟩
theorem ZZ.rule{x:LX}{sa na:Option Addr}{sn sc nn nc:Nat}(h:ZZ w x)(hk:x.1.kind=3)(e:x.2=(.slice sa sn sc,.slice na nn nc)):sn=x.1.sum.length/\zk w sa x.1.sum/\nn=x.1.nd.length/\zBR w na x.1.nd:=by
 obtain⟨h1,h2,h3⟩:=h.g.rule hk;obtain⟨g,c,yK,e2,p⟩:=h.b.sum h1;obtain⟨g',c',cur',e3,p'⟩:=h.b.nod (by omega);rw[e]at e2 e3;simp only[cr]at e2 e3;have h4:=h.g.sumN;exact⟨e2.2.1,⟨fun _=>⟨g,yK,e2.1,p⟩,by unfold maxLen;omega⟩,e3.2.1,⟨fun _=>⟨g',cur',e3.1,p'⟩,h.nds⟩⟩
theorem VF{w':World}{x:Obj}{k:Nat}(h:w.heap[k]? = some x)(hb:Below B w w')(hk:k<B):w'.heap[k]? = some x:=by
 rw[hb.block k hk];exact h
theorem zB{b:Nat}{cs:Array Value}{T:TypeId}{fz:Nat × Nat}(h:w.heap[b]? = some (.cells cs T fz))(j:Nat):w.cell? ⟨b,j,none⟩=cs[j]? := by
 simp only[World.cell?,h];rfl
theorem V2(w:World)(a:Option Addr)(c:Nat)(ls:List LX)(i:Nat)(hi:i<ls.length)(hc:ls.length<=c)(h:jS w a ls) :
 Calls Tryz.prog 73 #[.slice a ls.length c,.int .i64 i] w fun e w'=>e=.returned (.bool (tH (fs ls) i))/\Below w.heap.size w w':=by
 have zLE:=h.few;obtain⟨gl,sa,sn,sc,na,nn,nc,rfl,hgl,⟨c0,c1,c2,c3,c4,c5,c6,c7,c8,c9,c10⟩,eq,hC⟩:=h.line hi
 have HC:Hid (∀w',Below w.heap.size w w'->Calls Tryz.prog 109 #[.slice (some ⟨gl,0,none⟩) i c,.int .i64 (pG ls i).1.kind] w' fun e w''=>e=.returned (.int .i64 (vC (pG ls i).1.kind ((fs ls).take i)))/\Below w'.heap.size w' w''):=by
  intro w' hb;have:=VW w' (some ⟨gl,0,none⟩) c (ls.take i) (pG ls i).1.kind ((h.take i).below hb (j1 _));rw[cd,Nat.min_eq_left (by omega),show fs (ls.take i)=(fs ls).take i from List.map_take ..]at this;exact this
 have HS:Hid ((pG ls i).1.kind=3->∀w',Below w.heap.size w w'->Calls Tryz.prog 111 #[.slice sa sn sc] w' fun e w''=>e=.returned (.bool (tJ (pG ls i).1.sum))/\Below w'.heap.size w' w''):=by
  intro hk w' hb;obtain⟨h1,h2,_⟩:=hC.rule hk eq;rw[h1];exact Ye w' sa sc _ (h2.below hb (j1 _))
 have HM:Hid (tH (fs ls) i=(decide (Yd (pG ls i).1.kind<=(vC (pG ls i).1.kind ((fs ls).take i):Int)) || (decide ((pG ls i).1.kind=3)&&Vq (pG ls i).1))):=by unfold Hid tH;rw[jO]
 have hcl:=zFG (pG ls i).1.kind ((fs ls).take i);rw[cd]at hcl;clear h hC eq;generalize (pG ls i).1=x at *;obtain⟨kd,n1,lo,hi',cc,S,N,ro,te,de,lw⟩:=x;simp only at c0 c1 c2 c3 c4 c5 c6 c7 c8 c9 c10 HC HS HM hcl;generalize vC kd ((fs ls).take i)=cn at *;have hlim:0<=Yd kd/\Yd kd<=28:=by unfold Yd;repeat' split <;> omega
 generalize hlm:Yd kd=lm at *;have HLm:=zA hlm;clear hlm;have hsn:w.heap.size<w.heap.size+1:=l8 _
 go_enter Tryz.func73,Tryz.ntmps73
 go_wp2_with fail
 go_cut [19] from 10 to 19 (fun v wx=>v=.bool (decide (lm<=(cn:Int)))/\Hid (Below w.heap.size w wx)/\∀j,wx.cell? ⟨w.heap.size,j,none⟩ = #[Value.int .i64 kd,.string ⟨n1.toArray⟩,.int .i64 lo,.int .i64 hi',.string ⟨cc.toArray⟩,.slice sa sn sc,.slice na nn nc,.int .i64 ro,.int .i64 te,.int .i64 de,.string ⟨lw.toArray⟩][j]?)
 case first =>
  go_region_with (first
   | (go_at_call 109
      refine(HC.out _ (pj (Below.alloc (tg _ _) (j1 _) _))).mono ?_;rintro e w1 ⟨rfl,hb1⟩;have b1:=VF (tU (zG _ _)) hb1 (iL (zV _ _));have HB1:Hid (Below w.heap.size w w1):=(pj (Below.alloc (tg _ _) (j1 _) _)).trans (hb1.mono (ph (iL (zV _ _))));have q:=zB b1;clear hb1 b1)
   | (go_at_call 110
      refine(zEF _ _).mono ?_;rintro e w2 ⟨rfl,hw⟩;obtain rfl:=hw.symm;rw[HLm.out]))
  all_goals
   go_wp2_with fail
   go_meet
   exact⟨rfl,HB1,q⟩
 case rest =>
  obtain⟨rfl,HB1,q⟩:=hcut;clear c0 c1 c2 c3 c4 c5 c6 c7 c8 c9 c10 HC;by_cases hm:lm<=(cn:Int)
  ·have HR:Hid (tH (fs ls) i=true):=by unfold Hid;rw[HM.out,tu hm];rfl
   clear HM;go_wp2_with fail
   go_ret
   exact⟨zF HR.out.symm,HB1.out⟩
  ·have hm':decide (lm<=(cn:Int))=false:=ty hm
   have HM1:Hid (tH (fs ls) i=(decide (kd=3)&&Vq ⟨kd,n1,lo,hi',cc,S,N,ro,te,de,lw⟩)):=by unfold Hid;rw[HM.out,hm'];rfl
   clear HM;by_cases k3:kd=3
   ·have HM2:Hid (tH (fs ls) i=(decide (6<te) || (decide (4<de) || tJ S))):=by unfold Hid;rw[HM1.out,tu k3];rfl
    have HS2:=zA (HS.out k3);have b3:(kd != 3)=false:=by simpa using k3
    clear HM1 HS k3;by_cases k6:6<te
    ·have HR:Hid (tH (fs ls) i=true):=by unfold Hid;rw[HM2.out,tu k6];rfl
     clear HM2;go_wp2_with fail
     go_ret
     exact⟨zF HR.out.symm,HB1.out⟩
    ·by_cases k7:4<de
     ·have HR:Hid (tH (fs ls) i=true):=by unfold Hid;rw[HM2.out,tu k7,fq,Bool.or_true]
      clear HM2;go_wp2_with fail
      go_ret
      exact⟨zF HR.out.symm,HB1.out⟩
     ·have HR:Hid (tH (fs ls) i=tJ S):=by unfold Hid;rw[HM2.out,ty k6,ty k7];rfl
      clear HM2;go_wp2_with fail
      refine(HS2.out _ HB1.out).mono ?_;rintro e w3 ⟨rfl,hb3⟩;have HB3:Hid (Below w.heap.size w w3):=HB1.out.trans (hb3.mono HB1.out.size);clear hb3;go_wp2_with fail
      go_ret
      exact⟨zF HR.out.symm,HB3.out⟩
   ·have HR:Hid (tH (fs ls) i=false):=by unfold Hid;rw[HM1.out,ty k3];rfl
    have b3:(kd != 3)=true:=by simpa using k3
    clear HM1 k3;go_wp2_with fail
    go_ret
    exact⟨zF HR.out.symm,HB1.out⟩
def uW(labs:List Bs):List zE->List Bool->List Bool
 | [],G=>G
 | x::r,G=>uW labs r (if x.kind=4 then nP G (zH labs x.name) (zH labs x.lower) else G)
def lR(zKX:List Bs)(from':Int):List xE->List Bool->List Bool
 | [],G=>G
 | x::r,G=>lR zKX from' r (nP G from' (zH zKX x.name))
def pF(zKX:List Bs)(from':Int):List zT->List Bool->List Bool
 | [],G=>G
 | x::r,G=>pF zKX from' r (if x.kind=5 then nP G from' (zH zKX x.name) else G)
def qM(zKX:List Bs):List zE->List Bool->List Bool
 | [],G=>G
 | x::r,G=>qM zKX r (if x.kind=3 then pF zKX (zH zKX x.conc) x.nd (lR zKX (zH zKX x.conc) x.sum G) else G)
theorem FK(labs:List Bs)(ls:List zE)(i:Nat)(G:List Bool)(h:i<ls.length):uW labs (ls.drop i) G=uW labs (ls.drop (i+1)) (if (lA ls i).kind=4 then nP G (zH labs (lA ls i).name) (zH labs (lA ls i).lower) else G):=by
 rw[po h,uW];simp[lA,List.getD,h]
theorem FS9(ls:List zE)(i:Nat)(G:List Bool)(h:i<ls.length):qM zKX (ls.drop i) G=qM zKX (ls.drop (i+1)) (if (lA ls i).kind=3 then pF zKX (zH zKX (lA ls i).conc) (lA ls i).nd (lR zKX (zH zKX (lA ls i).conc) (lA ls i).sum G) else G):=by
 rw[po h,qM];simp[lA,List.getD,h]
theorem Bt(f:Int)(S:List xE)(i:Nat)(G:List Bool)(h:i<S.length):lR zKX f (S.drop i) G=lR zKX f (S.drop (i+1)) (nP G f (zH zKX (Qf S i).name)):=by
 rw[zKH S i h,lR]
theorem B4(f:Int)(N:List zT)(i:Nat)(G:List Bool)(h:i<N.length):pF zKX f (N.drop i) G=pF zKX f (N.drop (i+1)) (if (pM N i).kind=5 then nP G f (zH zKX (pM N i).name) else G):=by
 rw[po h,pF];simp[pM,List.getD,h]
theorem qA.trans{a c:World}(h:qA g a b)(k:qA g b c):qA g a c :=
 ⟨k.os.trans h.os,k.tape.trans h.tape,k.output.trans h.output,p8 h.size k.size,fun i hi zL4=>(k.block i (tj hi h.size) zL4).trans (h.block i hi zL4)⟩
theorem qA.alloc{a:World}(h:qA g a b)(o:Obj):qA g a (b.alloc o) :=
 h.trans ⟨rfl,rfl,rfl,by simp,fun k hk _=>li _ _ _ hk⟩
theorem qA.below{a:World}(h:qA g a b)(hB:B<=a.heap.size)(hg:B<=g):Below B a b :=
 ⟨h.os,h.tape,h.output,h.size,fun k hk=>h.block k (by omega) (by omega)⟩
theorem eN.new{G:List Bool}(h:eN w g G)(o:Obj):eN (w.alloc o) g G:=⟨zS h.1,h.2⟩
structure Uy(w wc:World)(g:Nat)(a:Option Addr)(zKX:List Bs):Prop where
 res:wc.heap[w.heap.size]? = some (.cells (gC gZ) 125 (0,0))
 g1:w.heap.size<g
 lt:g<wc.heap.size
 bel:Below w.heap.size w wc
 str:∀w',qA g wc w'->zJE w' a zKX
theorem Uy.mk'{w1:World}{v:Value}{zKX:List Bs}{o:Obj}{cs:Array Value}(hz:w1.heap[w.heap.size]? = some (.cells (gC gZ) 125 (0,0)))(hb:Below w.heap.size w w1)(hs:w.heap.size<w1.heap.size)(zL1:w1.ownsRow B 9 1 v zKX.length (vE zKX))(hf:zKX.length<=10000) :
 ∃a c,v=.slice a zKX.length c/\Uy w ((w1.alloc o).setRow w1.heap.size cs) w1.heap.size a zKX:=by
 obtain⟨a,c,hv,hstr⟩:=Di zL1 hf;refine⟨a,c,hv,⟨jz (zS hz) (by omega),hs,?_,xI (hb.alloc hb.size _) (ph hs) _,fun w' ho=>⟨fun h0=>?_,hf⟩⟩⟩
 ·unfold World.setRow;simp
 ·obtain⟨g,e,p⟩:=hstr.blk h0
  refine⟨g,e,fun i hi=>?_⟩;have hp:=p i hi
  have hg:g<w1.heap.size:=by
   rcases md g w1.heap.size with h1|h1
   ·exact h1
   ·rw[World.cell?,mc (by simpa using h1)]at hp;cases hp
  have e1:w'.heap[g]? = w1.heap[g]? := by
   rw[ho.block g (by unfold World.setRow;simp;omega) (by omega)];unfold World.setRow;simp only[Array.getElem?_modify];rw[tb (by omega)];exact li _ _ _ hg
  simp only[World.cell?,e1]at hp ⊢;exact hp
theorem DQ(w:World)(a:Option Addr)(c:Nat)(ls:List LX)(h:jS w a ls) :
 Calls Tryz.prog 77 #[.slice a ls.length c] w fun e w'=>e=.returned (.agg (gC (uW (vD (fs ls)) (fs ls) gZ)))/\Below w.heap.size w w':=by
 have HL:=zA h;have zLE:=h.few;have HRL:=zA (fun o=>J6 (w.alloc o) a c ls (h.below (gb (j1 _) o) (j1 _)));clear h
 go_enter Tryz.func77,Tryz.ntmps77
 go_wp2_with fail
 refine(HRL.out _).mono ?_;rintro e w1 ⟨v,rfl,zL1,zL6,hb1⟩;have hz:w1.heap[w.heap.size]? = some (.cells (gC gZ) 125 (0,0)):=by rw[hb1.block _ (zV _ _)];exact zG _ _
 have hs:w.heap.size<w1.heap.size:=tj (zV _ _) hb1.size;have HK:=zA (fun o cs=>Uy.mk' (o:=o) (cs:=cs) hz (vZ hb1) hs zL1 (by omega));obtain⟨la,lc,rfl,_⟩:=HK.out (.cells #[] 0 (0,0)) #[];generalize hlb:vD (fs ls)=labs at *;have HLB:=zA hlb;clear hlb
 have HK2:Hid (∀o cs,Uy w ((w1.alloc o).setRow w1.heap.size cs) w1.heap.size la labs):=fun o cs=>by
  obtain⟨a',c',e,p⟩:=HK.out o cs;simp only[cr]at e;rw[e.1];exact p
 clear hz zL1 hb1 HK HRL
 go_upto_region 2 with fail
 go_cut [4] from 11 to 11 (fun p4 wx=>p4=.pointer (some ⟨w1.heap.size,0,none⟩)/\Hid (Uy w wx w1.heap.size la labs)/\Hid (eN wx w1.heap.size gZ))
 case first =>
  go_wp2_with (refine wpList_store_row ?zLA 125 (.tmp 4) (.tmp 11) ?ho w1.heap.size (gC gZ) ?hx ?hy 125 (gC gZ) (zG w1 _) (kR xK) rfl (lF gZ) ?_
               case ho=>rfl
               case zLA=>rfl
               case hx=>rfl
               case hy=>rfl)
  go_meet
  exact⟨rfl,zA (HK2.out _ _),zA ⟨cg _ _ (gC gZ) _ _ _ (zG w1 _),xK⟩⟩
 case rest =>
  obtain⟨rfl,HM,HG0⟩:=hcut;generalize w1.heap.size=g at *;clear HK2;go_wp2_with fail
  go_loopw [14] (fun iv wr=>∃(i:Nat) (G:List Bool),i<=ls.length/\iv=.int .i64 i/\Hid (qA g wc wr)/\Hid (eN wr g G)/\Hid (uW labs ((fs ls).drop i) G=uW labs (fs ls) gZ)) (fun iv _=>ls.length-(intOf iv).toNat)
  case atStart=>exact⟨0,gZ,p7 _,rfl,zA (qA.refl _ _),HG0,zA rfl⟩
  case round =>
   obtain⟨i,G,hi,rfl,HO,HG,HE⟩:=hrel;clear HG0;have zLJ:Hid (Below w.heap.size w wr):=HM.out.bel.trans (HO.out.below HM.out.bel.size (ph HM.out.g1));by_cases zKZ:i<ls.length
   ·obtain⟨gl,sa,sn,sc,na,nn,nc,rfl,hgl,⟨c0,c1,c2,c3,c4,c5,c6,c7,c8,c9,c10⟩,_,_⟩:=(HL.out.below zLJ.out (j1 _)).line zKZ
    have hE:=HE.out;rw[FK _ _ i _ (by simpa using zKZ),jO]at hE;have HE2:=zA hE;have HF:=zA (fun o nm=>X7 (wr.alloc o) la lc labs nm (HM.out.str _ (HO.out.alloc o)));have HA:=zA (fun o x y=>zC1 (wr.alloc o) g G x y (HG.out.new o));clear HE hE;generalize (pG ls i).1=x at *;obtain⟨kd,n1,lo,hi',cc,S,N,ro,te,de,lw⟩:=x;simp only at c0 c1 c2 c3 c4 c5 c6 c7 c8 c9 c10;by_cases k1:kd=4
    ·have b1:(kd==4)=true:=by simpa using k1
     have HE3:Hid (uW labs ((fs ls).drop (i+1)) (nP G (zH labs n1) (zH labs lw))=uW labs (fs ls) gZ):=by have:=HE2.out;rw[tl k1]at this;exact this
     clear HE2 k1;go_wp2_with fail
     refine(HF.out _ n1).mono ?_;rintro e w2 ⟨rfl,hw⟩;obtain rfl:=hw.symm;go_wp2_with fail
     refine(HF.out _ lw).mono ?_;rintro e w2 ⟨rfl,hw⟩;obtain rfl:=hw.symm;go_wp2_with fail
     refine(HA.out _ _ _).mono ?_;rintro e w2 ⟨rfl,hg2,ho2⟩;have HO2:Hid (qA g wc w2):=(HO.out.alloc _).trans ho2;have HG2:=zA hg2;clear hg2 ho2;go_wp2_with fail
     go_roundw
     case rel=>exact⟨i+1,_,by omega,by go_num,HO2,HG2,HE3⟩
     case measure=>simp[intOf];omega
    ·have b1:(kd==4)=false:=by simpa using k1
     have HE3:Hid (uW labs ((fs ls).drop (i+1)) G=uW labs (fs ls) gZ):=by have:=HE2.out;rw[tb k1]at this;exact this
     clear HE2 k1;go_wp2_with fail
     go_roundw
     case rel=>exact⟨i+1,G,by omega,by go_num,zA (HO.out.alloc _),zA (HG.out.new _),HE3⟩
     case measure=>simp[intOf];omega
   ·have HE3:Hid (G=uW labs (fs ls) gZ):=by have:=HE.out;rw[pm (by simp;omega)]at this;exact this
    have HRs:Hid (wr.heap[w.heap.size]? = some (.cells (gC gZ) 125 (0,0))):=by
     unfold Hid;rw[HO.out.block _ (Nat.lt_trans HM.out.g1 HM.out.lt) (Nat.ne_of_lt HM.out.g1)];exact HM.out.res
    clear HE
    go_wp2_with (first
     | (refine wpList_load_row ?zLA 125 (.tmp 4) ?ho g ?hx 125 (gC G) (0,0) _ HG.out.1 Tryz.underlying125 rfl (kR HG.out.2) ?_
        case ho=>rfl
        case zLA=>rfl
        case hx=>rfl)
     | (refine wpList_store_row ?zLA 125 (.tmp 2) (.tmp 33) ?ho w.heap.size (gC G) ?hx ?hy 125 (gC gZ) HRs.out (kR HG.out.2) ?zLB (lF G) ?_
        case ho=>rfl
        case zLA=>rfl
        case hx=>rfl
        case hy=>rfl
        case zLB=>rw[uG,uG,xK,HG.out.2]))
    refine pe (v:=.agg (gC G)) (results_cell_row Tryz.results77 _ _ w.heap.size 125 (gC G) (0,0) _ rfl (cg _ _ (gC gZ) _ _ _ HRs.out) Tryz.underlying125 rfl (kR HG.out.2)) rfl ⟨by rw[HLB.out,<-HE3.out],xI zLJ.out (j1 _) _⟩
end Go.Proofs.YtnbpdffdnphbeabGreatDoor
