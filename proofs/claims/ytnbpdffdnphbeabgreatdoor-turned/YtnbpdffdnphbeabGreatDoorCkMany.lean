import Derived.Deep.RegionWith
import Derived.Test.YtnbpdffdnphbeabGreatDoorCkGraph
set_option maxHeartbeats 4000000
set_option maxRecDepth 100000
namespace Go.Proofs.YtnbpdffdnphbeabGreatDoor
open Go.RowKit
variable{B g:Nat}{b w:World}(zLI:List Bs)
theorem Yz(w:World)(a:Option Addr)(c:Nat)(S:List xI)(h:xy w a S) :
 Calls Tryz.prog 111 #[.slice a S.length c] w fun e w'=>e=.returned (.bool (tR S))/\Below w.heap.size w w':=by
 have HL:=zA h;have zLX:=h.few;unfold maxLen at zLX;clear h;by_cases hb4:4<S.length
 ·have HR:Hid (tR S=true):=by unfold Hid tR;rw[tr hb4];rfl
  go_enter Tryz.func111,Tryz.ntmps111
  go_wp2_with fail
  go_ret
  exact⟨zF HR.out.symm,tg _ _⟩
 ·have HR:Hid (S.any tZ=tR S):=by unfold Hid tR;rw[tu hb4];rfl
  go_enter Tryz.func111,Tryz.ntmps111
  go_wp2_with fail
  go_loopw [10] (fun iv wr=>∃(i:Nat),i<=S.length/\iv=.int .i64 i/\Hid (Below w.heap.size w wr)/\Hid ((S.drop i).any tZ=tR S)) (fun iv _=>S.length-(intOf iv).toNat)
  case atStart=>exact⟨0,tx _,rfl,zA (tg _ _),HR⟩
  case round =>
   obtain⟨i,hi,rfl,HB,HE⟩:=hrel;by_cases zLL:i<S.length
   ·obtain⟨g,yL,rfl,hp⟩:=(HL.out.below HB.out (j1 _)).blk (by omega)
    obtain⟨c0,c1,c2,c3⟩:=hp.cells zLL;have hg:=hp.lt;have hE:=HE.out;rw[sE _ xz _ i zLL,show S.getD i xz=Q5 S i from rfl]at hE;have HE2:=zA hE;have zLQ:=HB.out.size;clear HE hE hp HR;generalize Q5 S i=x at *;obtain⟨mi,st,nu,na⟩:=x;simp only at c0 c1 c2 c3;cases st
    ·have HE3:Hid ((S.drop (i+1)).any tZ=tR S):=by have:=HE2.out;unfold Hid;rw[<-this];simp[tZ]
     clear HE2;go_wp2_with fail
     go_roundw
     case rel=>exact⟨i+1,by omega,by go_num,zA (HB.out.alloc zLQ _),HE3⟩
     case measure=>simp[intOf];omega
    ·by_cases k1:9<nu
     ·have HE3:Hid (tR S=true):=by have:=HE2.out;unfold Hid;rw[<-this];simp[tZ,k1]
      clear HE2;go_wp2_with fail
      go_ret
      exact⟨zF HE3.out.symm,HB.out.alloc zLQ _⟩
     ·have HE3:Hid ((S.drop (i+1)).any tZ=tR S):=by have:=HE2.out;unfold Hid;rw[<-this];simp[tZ,k1]
      clear HE2;go_wp2_with fail
      go_roundw
      case rel=>exact⟨i+1,by omega,by go_num,zA (HB.out.alloc zLQ _),HE3⟩
      case measure=>simp[intOf];omega
   ·have HE3:Hid (tR S=false):=by have:=HE.out;rw[ph (by omega)]at this;exact this.symm
    clear HE;go_wp2_with fail
    go_ret
    exact⟨zF HE3.out.symm,HB.out⟩
theorem Yt.rule{x:LX}{sa na:Option Addr}{sn sc nn nc:Nat}(h:Yt w x)(hk:x.1.kind=3)(e:x.2=(.slice sa sn sc,.slice na nn nc)):sn=x.1.sum.length/\xy w sa x.1.sum/\nn=x.1.nd.length/\zCL w na x.1.nd:=by
 obtain⟨h1,h2,h3⟩:=h.g.rule hk;obtain⟨g,c,yL,e2,p⟩:=h.b.sum h1;obtain⟨g',c',cur',e3,p'⟩:=h.b.nod (by omega);rw[e]at e2 e3;simp only[df]at e2 e3;have h4:=h.g.sumN;exact⟨e2.2.1,⟨fun _=>⟨g,yL,e2.1,p⟩,by unfold maxLen;omega⟩,e3.2.1,⟨fun _=>⟨g',cur',e3.1,p'⟩,h.nds⟩⟩
theorem Ua{w':World}{x:Obj}{k:Nat}(h:w.heap[k]? = some x)(hb:Below B w w')(hk:k<B):w'.heap[k]? = some x:=by
 rw[hb.block k hk];exact h
theorem zB{b:Nat}{cs:Array Value}{T:TypeId}{fz:Nat × Nat}(h:w.heap[b]? = some (.cells cs T fz))(j:Nat):w.cell? ⟨b,j,none⟩=cs[j]? := by
 simp only[World.cell?,h];rfl
theorem VQ(w:World)(a:Option Addr)(c:Nat)(ls:List LX)(i:Nat)(hi:i<ls.length)(hc:ls.length<=c)(h:tC w a ls) :
 Calls Tryz.prog 73 #[.slice a ls.length c,.int .i64 i] w fun e w'=>e=.returned (.bool (jL (fs ls) i))/\Below w.heap.size w w':=by
 have zLX:=h.few;obtain⟨gl,sa,sn,sc,na,nn,nc,rfl,hgl,⟨c0,c1,c2,c3,c4,c5,c6,c7,c8,c9,c10⟩,eq,hC⟩:=h.line hi
 have HC:Hid (∀w',Below w.heap.size w w'->Calls Tryz.prog 109 #[.slice (some ⟨gl,0,none⟩) i c,.int .i64 (pM ls i).1.kind] w' fun e w''=>e=.returned (.int .i64 (xT (pM ls i).1.kind ((fs ls).take i)))/\Below w'.heap.size w' w''):=by
  intro w' hb;have:=Ur w' (some ⟨gl,0,none⟩) c (ls.take i) (pM ls i).1.kind ((h.take i).below hb (j1 _));rw[cp,Nat.min_eq_left (by omega),show fs (ls.take i)=(fs ls).take i from List.map_take ..]at this;exact this
 have HS:Hid ((pM ls i).1.kind=3->∀w',Below w.heap.size w w'->Calls Tryz.prog 111 #[.slice sa sn sc] w' fun e w''=>e=.returned (.bool (tR (pM ls i).1.sum))/\Below w'.heap.size w' w''):=by
  intro hk w' hb;obtain⟨h1,h2,_⟩:=hC.rule hk eq;rw[h1];exact Yz w' sa sc _ (h2.below hb (j1 _))
 have HM:Hid (jL (fs ls) i=(decide (Yy (pM ls i).1.kind<=(xT (pM ls i).1.kind ((fs ls).take i):Int)) || (decide ((pM ls i).1.kind=3)&&VF (pM ls i).1))):=by unfold Hid jL;rw[jY]
 have hcl:=zG3 (pM ls i).1.kind ((fs ls).take i);rw[cp]at hcl;clear h hC eq;generalize (pM ls i).1=x at *;obtain⟨kd,n1,lo,hi',cc,S,N,ro,te,de,lw⟩:=x;simp only at c0 c1 c2 c3 c4 c5 c6 c7 c8 c9 c10 HC HS HM hcl;generalize xT kd ((fs ls).take i)=cn at *;have hlim:0<=Yy kd/\Yy kd<=28:=by unfold Yy;repeat' split <;> omega
 generalize hlm:Yy kd=lm at *;have HLm:=zA hlm;clear hlm;have hsn:w.heap.size<w.heap.size+1:=mz _
 go_enter Tryz.func73,Tryz.ntmps73
 go_wp2_with fail
 go_cut [19] from 10 to 19 (fun v wx=>v=.bool (decide (lm<=(cn:Int)))/\Hid (Below w.heap.size w wx)/\∀j,wx.cell? ⟨w.heap.size,j,none⟩ = #[Value.int .i64 kd,.string ⟨n1.toArray⟩,.int .i64 lo,.int .i64 hi',.string ⟨cc.toArray⟩,.slice sa sn sc,.slice na nn nc,.int .i64 ro,.int .i64 te,.int .i64 de,.string ⟨lw.toArray⟩][j]?)
 case first =>
  go_region_with (first
   | (go_at_call 109
      refine(HC.out _ (py (Below.alloc (tg _ _) (j1 _) _))).mono ?_;rintro e w1 ⟨rfl,hb1⟩;have b1:=Ua (aD (zG _ _)) hb1 (wP (zX _ _));have HB1:Hid (Below w.heap.size w w1):=(py (Below.alloc (tg _ _) (j1 _) _)).trans (hb1.mono (pf (wP (zX _ _))));have q:=zB b1;clear hb1 b1)
   | (go_at_call 110
      refine(zF4 _ _).mono ?_;rintro e w2 ⟨rfl,hw⟩;obtain rfl:=hw.symm;rw[HLm.out]))
  all_goals
   go_wp2_with fail
   go_meet
   exact⟨rfl,HB1,q⟩
 case rest =>
  obtain⟨rfl,HB1,q⟩:=hcut;clear c0 c1 c2 c3 c4 c5 c6 c7 c8 c9 c10 HC;by_cases hm:lm<=(cn:Int)
  ·have HR:Hid (jL (fs ls) i=true):=by unfold Hid;rw[HM.out,tr hm];rfl
   clear HM;go_wp2_with fail
   go_ret
   exact⟨zF HR.out.symm,HB1.out⟩
  ·have hm':decide (lm<=(cn:Int))=false:=tu hm
   have HM1:Hid (jL (fs ls) i=(decide (kd=3)&&VF ⟨kd,n1,lo,hi',cc,S,N,ro,te,de,lw⟩)):=by unfold Hid;rw[HM.out,hm'];rfl
   clear HM;by_cases k3:kd=3
   ·have HM2:Hid (jL (fs ls) i=(decide (6<te) || (decide (4<de) || tR S))):=by unfold Hid;rw[HM1.out,tr k3];rfl
    have HS2:=zA (HS.out k3);have b3:(kd != 3)=false:=by simpa using k3
    clear HM1 HS k3;by_cases k6:6<te
    ·have HR:Hid (jL (fs ls) i=true):=by unfold Hid;rw[HM2.out,tr k6];rfl
     clear HM2;go_wp2_with fail
     go_ret
     exact⟨zF HR.out.symm,HB1.out⟩
    ·by_cases k7:4<de
     ·have HR:Hid (jL (fs ls) i=true):=by unfold Hid;rw[HM2.out,tr k7,fq,Bool.or_true]
      clear HM2;go_wp2_with fail
      go_ret
      exact⟨zF HR.out.symm,HB1.out⟩
     ·have HR:Hid (jL (fs ls) i=tR S):=by unfold Hid;rw[HM2.out,tu k6,tu k7];rfl
      clear HM2;go_wp2_with fail
      refine(HS2.out _ HB1.out).mono ?_;rintro e w3 ⟨rfl,hb3⟩;have HB3:Hid (Below w.heap.size w w3):=HB1.out.trans (hb3.mono HB1.out.size);clear hb3;go_wp2_with fail
      go_ret
      exact⟨zF HR.out.symm,HB3.out⟩
   ·have HR:Hid (jL (fs ls) i=false):=by unfold Hid;rw[HM1.out,tu k3];rfl
    have b3:(kd != 3)=true:=by simpa using k3
    clear HM1 k3;go_wp2_with fail
    go_ret
    exact⟨zF HR.out.symm,HB1.out⟩
def uE(labs:List Bs):List zE->List Bool->List Bool
 | [],G=>G
 | x::r,G=>uE labs r (if x.kind=4 then oB G (zH labs x.name) (zH labs x.lower) else G)
def lR(zLI:List Bs)(from':Int):List xI->List Bool->List Bool
 | [],G=>G
 | x::r,G=>lR zLI from' r (oB G from' (zH zLI x.name))
def pK(zLI:List Bs)(from':Int):List zR->List Bool->List Bool
 | [],G=>G
 | x::r,G=>pK zLI from' r (if x.kind=5 then oB G from' (zH zLI x.name) else G)
def qN(zLI:List Bs):List zE->List Bool->List Bool
 | [],G=>G
 | x::r,G=>qN zLI r (if x.kind=3 then pK zLI (zH zLI x.conc) x.nd (lR zLI (zH zLI x.conc) x.sum G) else G)
theorem Gy(labs:List Bs)(ls:List zE)(i:Nat)(G:List Bool)(h:i<ls.length):uE labs (ls.drop i) G=uE labs (ls.drop (i+1)) (if (lA ls i).kind=4 then oB G (zH labs (lA ls i).name) (zH labs (lA ls i).lower) else G):=by
 rw[pq h,uE];simp[lA,List.getD,h]
theorem G5(ls:List zE)(i:Nat)(G:List Bool)(h:i<ls.length):qN zLI (ls.drop i) G=qN zLI (ls.drop (i+1)) (if (lA ls i).kind=3 then pK zLI (zH zLI (lA ls i).conc) (lA ls i).nd (lR zLI (zH zLI (lA ls i).conc) (lA ls i).sum G) else G):=by
 rw[pq h,qN];simp[lA,List.getD,h]
theorem BH(f:Int)(S:List xI)(i:Nat)(G:List Bool)(h:i<S.length):lR zLI f (S.drop i) G=lR zLI f (S.drop (i+1)) (oB G f (zH zLI (Q5 S i).name)):=by
 rw[zL2 S i h,lR]
theorem BR(f:Int)(N:List zR)(i:Nat)(G:List Bool)(h:i<N.length):pK zLI f (N.drop i) G=pK zLI f (N.drop (i+1)) (if (pP N i).kind=5 then oB G f (zH zLI (pP N i).name) else G):=by
 rw[pq h,pK];simp[pP,List.getD,h]
theorem qA.trans{a c:World}(h:qA g a b)(k:qA g b c):qA g a c :=
 ⟨k.os.trans h.os,k.tape.trans h.tape,k.output.trans h.output,ty h.size k.size,fun i hi zLO=>(k.block i (tj hi h.size) zLO).trans (h.block i hi zLO)⟩
theorem qA.alloc{a:World}(h:qA g a b)(o:Obj):qA g a (b.alloc o) :=
 h.trans ⟨rfl,rfl,rfl,by simp,fun k hk _=>l8 _ _ _ hk⟩
theorem qA.below{a:World}(h:qA g a b)(hB:B<=a.heap.size)(hg:B<=g):Below B a b :=
 ⟨h.os,h.tape,h.output,h.size,fun k hk=>h.block k (by omega) (by omega)⟩
theorem iL.new{G:List Bool}(h:iL w g G)(o:Obj):iL (w.alloc o) g G:=⟨zT h.1,h.2⟩
structure UJ(w wc:World)(g:Nat)(a:Option Addr)(zLI:List Bs):Prop where
 res:wc.heap[w.heap.size]? = some (.cells (gC gZ) 125 (0,0))
 g1:w.heap.size<g
 lt:g<wc.heap.size
 bel:Below w.heap.size w wc
 str:∀w',qA g wc w'->zK2 w' a zLI
theorem UJ.mk'{w1:World}{v:Value}{zLI:List Bs}{o:Obj}{cs:Array Value}(hz:w1.heap[w.heap.size]? = some (.cells (gC gZ) 125 (0,0)))(hb:Below w.heap.size w w1)(hs:w.heap.size<w1.heap.size)(zLM:w1.ownsRow B 9 1 v zLI.length (vJ zLI))(hf:zLI.length<=10000) :
 ∃a c,v=.slice a zLI.length c/\UJ w ((w1.alloc o).setRow w1.heap.size cs) w1.heap.size a zLI:=by
 obtain⟨a,c,hv,hstr⟩:=D4 zLM hf;refine⟨a,c,hv,⟨zAX (zT hz) (by omega),hs,?_,xD (hb.alloc hb.size _) (pf hs) _,fun w' ho=>⟨fun h0=>?_,hf⟩⟩⟩
 ·unfold World.setRow;simp
 ·obtain⟨g,e,p⟩:=hstr.blk h0
  refine⟨g,e,fun i hi=>?_⟩;have hp:=p i hi
  have hg:g<w1.heap.size:=by
   rcases me g w1.heap.size with h1|h1
   ·exact h1
   ·rw[World.cell?,md (by simpa using h1)]at hp;cases hp
  have e1:w'.heap[g]? = w1.heap[g]? := by
   rw[ho.block g (by unfold World.setRow;simp;omega) (by omega)];unfold World.setRow;simp only[Array.getElem?_modify];rw[tb (by omega)];exact l8 _ _ _ hg
  simp only[World.cell?,e1]at hp ⊢;exact hp
theorem Ft(w:World)(a:Option Addr)(c:Nat)(ls:List LX)(h:tC w a ls) :
 Calls Tryz.prog 77 #[.slice a ls.length c] w fun e w'=>e=.returned (.agg (gC (uE (yW (fs ls)) (fs ls) gZ)))/\Below w.heap.size w w':=by
 have HL:=zA h;have zLX:=h.few;have HRL:=zA (fun o=>JW (w.alloc o) a c ls (h.below (fw (j1 _) o) (j1 _)));clear h
 go_enter Tryz.func77,Tryz.ntmps77
 go_wp2_with fail
 refine(HRL.out _).mono ?_;rintro e w1 ⟨v,rfl,zLM,hlen,hb1⟩;have hz:w1.heap[w.heap.size]? = some (.cells (gC gZ) 125 (0,0)):=by rw[hb1.block _ (zX _ _)];exact zG _ _
 have hs:w.heap.size<w1.heap.size:=tj (zX _ _) hb1.size;have HK:=zA (fun o cs=>UJ.mk' (o:=o) (cs:=cs) hz (uB hb1) hs zLM (by omega));obtain⟨la,lc,rfl,_⟩:=HK.out (.cells #[] 0 (0,0)) #[];generalize hlb:yW (fs ls)=labs at *;have HLB:=zA hlb;clear hlb
 have HK2:Hid (∀o cs,UJ w ((w1.alloc o).setRow w1.heap.size cs) w1.heap.size la labs):=fun o cs=>by
  obtain⟨a',c',e,p⟩:=HK.out o cs;simp only[df]at e;rw[e.1];exact p
 clear hz zLM hb1 HK HRL
 go_upto_region 2 with fail
 go_cut [4] from 11 to 11 (fun p4 wx=>p4=.pointer (some ⟨w1.heap.size,0,none⟩)/\Hid (UJ w wx w1.heap.size la labs)/\Hid (iL wx w1.heap.size gZ))
 case first =>
  go_wp2_with (refine wpList_store_row ?zLS 125 (.tmp 4) (.tmp 11) ?ho w1.heap.size (gC gZ) ?hx ?hy 125 (gC gZ) (zG w1 _) (kW xG) rfl (lH gZ) ?_
               case ho=>rfl
               case zLS=>rfl
               case hx=>rfl
               case hy=>rfl)
  go_meet
  exact⟨rfl,zA (HK2.out _ _),zA ⟨cf _ _ (gC gZ) _ _ _ (zG w1 _),xG⟩⟩
 case rest =>
  obtain⟨rfl,HM,HG0⟩:=hcut;generalize w1.heap.size=g at *;clear HK2;go_wp2_with fail
  go_loopw [14] (fun iv wr=>∃(i:Nat) (G:List Bool),i<=ls.length/\iv=.int .i64 i/\Hid (qA g wc wr)/\Hid (iL wr g G)/\Hid (uE labs ((fs ls).drop i) G=uE labs (fs ls) gZ)) (fun iv _=>ls.length-(intOf iv).toNat)
  case atStart=>exact⟨0,gZ,tx _,rfl,zA (qA.refl _ _),HG0,zA rfl⟩
  case round =>
   obtain⟨i,G,hi,rfl,HO,HG,HE⟩:=hrel;clear HG0;have zM4:Hid (Below w.heap.size w wr):=HM.out.bel.trans (HO.out.below HM.out.bel.size (pf HM.out.g1));by_cases zLL:i<ls.length
   ·obtain⟨gl,sa,sn,sc,na,nn,nc,rfl,hgl,⟨c0,c1,c2,c3,c4,c5,c6,c7,c8,c9,c10⟩,_,_⟩:=(HL.out.below zM4.out (j1 _)).line zLL
    have hE:=HE.out;rw[Gy _ _ i _ (by simpa using zLL),jY]at hE;have HE2:=zA hE;have HF:=zA (fun o nm=>XU (wr.alloc o) la lc labs nm (HM.out.str _ (HO.out.alloc o)));have HA:=zA (fun o x y=>zCY (wr.alloc o) g G x y (HG.out.new o));clear HE hE;generalize (pM ls i).1=x at *;obtain⟨kd,n1,lo,hi',cc,S,N,ro,te,de,lw⟩:=x;simp only at c0 c1 c2 c3 c4 c5 c6 c7 c8 c9 c10;by_cases k1:kd=4
    ·have b1:(kd==4)=true:=by simpa using k1
     have HE3:Hid (uE labs ((fs ls).drop (i+1)) (oB G (zH labs n1) (zH labs lw))=uE labs (fs ls) gZ):=by have:=HE2.out;rw[tl k1]at this;exact this
     clear HE2 k1;go_wp2_with fail
     refine(HF.out _ n1).mono ?_;rintro e w2 ⟨rfl,hw⟩;obtain rfl:=hw.symm;go_wp2_with fail
     refine(HF.out _ lw).mono ?_;rintro e w2 ⟨rfl,hw⟩;obtain rfl:=hw.symm;go_wp2_with fail
     refine(HA.out _ _ _).mono ?_;rintro e w2 ⟨rfl,hg2,ho2⟩;have HO2:Hid (qA g wc w2):=(HO.out.alloc _).trans ho2;have HG2:=zA hg2;clear hg2 ho2;go_wp2_with fail
     go_roundw
     case rel=>exact⟨i+1,_,by omega,by go_num,HO2,HG2,HE3⟩
     case measure=>simp[intOf];omega
    ·have b1:(kd==4)=false:=by simpa using k1
     have HE3:Hid (uE labs ((fs ls).drop (i+1)) G=uE labs (fs ls) gZ):=by have:=HE2.out;rw[tb k1]at this;exact this
     clear HE2 k1;go_wp2_with fail
     go_roundw
     case rel=>exact⟨i+1,G,by omega,by go_num,zA (HO.out.alloc _),zA (HG.out.new _),HE3⟩
     case measure=>simp[intOf];omega
   ·have HE3:Hid (G=uE labs (fs ls) gZ):=by have:=HE.out;rw[ph (by simp;omega)]at this;exact this
    have HRs:Hid (wr.heap[w.heap.size]? = some (.cells (gC gZ) 125 (0,0))):=by
     unfold Hid;rw[HO.out.block _ (Nat.lt_trans HM.out.g1 HM.out.lt) (fg HM.out.g1)];exact HM.out.res
    clear HE
    go_wp2_with (first
     | (refine wpList_load_row ?zLS 125 (.tmp 4) ?ho g ?hx 125 (gC G) (0,0) _ HG.out.1 Tryz.underlying125 rfl (kW HG.out.2) ?_
        case ho=>rfl
        case zLS=>rfl
        case hx=>rfl)
     | (refine wpList_store_row ?zLS 125 (.tmp 2) (.tmp 33) ?ho w.heap.size (gC G) ?hx ?hy 125 (gC gZ) HRs.out (kW HG.out.2) ?zLU (lH G) ?_
        case ho=>rfl
        case zLS=>rfl
        case hx=>rfl
        case hy=>rfl
        case zLU=>rw[uJ,uJ,xG,HG.out.2]))
    refine pd (v:=.agg (gC G)) (results_cell_row Tryz.results77 _ _ w.heap.size 125 (gC G) (0,0) _ rfl (cf _ _ (gC gZ) _ _ _ HRs.out) Tryz.underlying125 rfl (kW HG.out.2)) rfl ⟨by rw[HLB.out,<-HE3.out],xD zM4.out (j1 _) _⟩
end Go.Proofs.YtnbpdffdnphbeabGreatDoor
