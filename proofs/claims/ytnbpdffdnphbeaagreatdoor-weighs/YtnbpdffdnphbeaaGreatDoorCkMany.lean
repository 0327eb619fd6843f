import Derived.Deep.RegionWith
import Derived.Test.YtnbpdffdnphbeaaGreatDoorCkGraph
set_option maxHeartbeats 4000000
set_option maxRecDepth 100000
namespace Go.Proofs.YtnbpdffdnphbeaaGreatDoor
open Go.RowKit
theorem Yt(w:World)(a:Option Addr)(c:Nat)(S:List xB)(h:G5 w a S) :
 Calls Tryz.prog 161 #[.slice a S.length c] w fun e w'=>e=.returned (.bool (pP S))/\Below w.heap.size w w':=by
 have HL:=zA h;have zGH:=h.few;unfold maxLen at zGH;clear h;by_cases hb4:4<S.length
 ·have HR:Hid (pP S=true):=by unfold Hid pP;rw[decide_eq_true hb4];rfl
  go_enter Tryz.func161,Tryz.ntmps161
  go_wp2_with fail
  go_ret
  exact⟨zE HR.out.symm,Below.refl _ _⟩
 ·have HR:Hid (S.any jT=pP S):=by unfold Hid pP;rw[decide_eq_false hb4];rfl
  go_enter Tryz.func161,Tryz.ntmps161
  go_wp2_with fail
  go_loopw [10] (fun iv wr=>∃(i:Nat),i<=S.length/\iv=.int .i64 i/\Hid (Below w.heap.size w wr)/\Hid ((S.drop i).any jT=pP S)) (fun iv _=>S.length-(intOf iv).toNat)
  case atStart=>exact⟨0,Nat.zero_le _,rfl,zA (Below.refl _ _),HR⟩
  case round =>
   obtain⟨i,hi,rfl,HB,HE⟩:=hrel;by_cases zFZ:i<S.length
   ·obtain⟨g,yP,rfl,hp⟩:=(HL.out.below HB.out (Nat.le_refl _)).blk (by omega)
    obtain⟨c0,c1,c2,c3⟩:=hp.cells zFZ;have hg:=hp.lt;have hE:=HE.out;rw[aE _ xz _ i zFZ,show S.getD i xz=ZO S i from rfl]at hE;have HE2:=zA hE;have zG9:=HB.out.size;clear HE hE hp HR;generalize ZO S i=x at *;obtain⟨mi,st,nu,na⟩:=x;simp only at c0 c1 c2 c3;cases st
    ·have HE3:Hid ((S.drop (i+1)).any jT=pP S):=by have:=HE2.out;unfold Hid;rw[<-this];simp[jT]
     clear HE2;go_wp2_with fail
     go_roundw
     case rel=>exact⟨i+1,by omega,by go_num,zA (HB.out.alloc zG9 _),HE3⟩
     case measure=>simp[intOf];omega
    ·by_cases k1:9<nu
     ·have HE3:Hid (pP S=true):=by have:=HE2.out;unfold Hid;rw[<-this];simp[jT,k1]
      clear HE2;go_wp2_with fail
      go_ret
      exact⟨zE HE3.out.symm,HB.out.alloc zG9 _⟩
     ·have HE3:Hid ((S.drop (i+1)).any jT=pP S):=by have:=HE2.out;unfold Hid;rw[<-this];simp[jT,k1]
      clear HE2;go_wp2_with fail
      go_roundw
      case rel=>exact⟨i+1,by omega,by go_num,zA (HB.out.alloc zG9 _),HE3⟩
      case measure=>simp[intOf];omega
   ·have HE3:Hid (pP S=false):=by have:=HE.out;rw[List.drop_eq_nil_of_le (by omega)]at this;exact this.symm
    clear HE;go_wp2_with fail
    go_ret
    exact⟨zE HE3.out.symm,HB.out⟩
theorem Yk.rule{w:World}{x:LX}{sa na:Option Addr}{sn sc nn nc:Nat}(h:Yk w x)(hk:x.1.kind=3)(e:x.2=(.slice sa sn sc,.slice na nn nc)):sn=x.1.sum.length/\G5 w sa x.1.sum/\nn=x.1.nd.length/\kq w na x.1.nd:=by
 obtain⟨h1,h2,h3⟩:=h.g.rule hk;obtain⟨g,c,yP,e2,p⟩:=h.b.sum h1;obtain⟨g',c',cur',e3,p'⟩:=h.b.nod (by omega);rw[e]at e2 e3;simp only[Value.slice.injEq]at e2 e3;have h4:=h.g.sumN;exact⟨e2.2.1,⟨fun _=>⟨g,yP,e2.1,p⟩,by unfold maxLen;omega⟩,e3.2.1,⟨fun _=>⟨g',cur',e3.1,p'⟩,h.nds⟩⟩
theorem Vs{w w':World}{x:Obj}{k B:Nat}(h:w.heap[k]? = some x)(hb:Below B w w')(hk:k<B):w'.heap[k]? = some x:=by
 rw[hb.block k hk];exact h
theorem zF{w:World}{b:Nat}{cs:Array Value}{T:TypeId}{fz:Nat × Nat}(h:w.heap[b]? = some (.cells cs T fz))(j:Nat):w.cell? ⟨b,j,none⟩=cs[j]? := by
 simp only[World.cell?,h];rfl
theorem Ve(w:World)(a:Option Addr)(c:Nat)(ls:List LX)(i:Nat)(hi:i<ls.length)(hc:ls.length<=c)(h:pB w a ls) :
 Calls Tryz.prog 104 #[.slice a ls.length c,.int .i64 i] w fun e w'=>e=.returned (.bool (lL (fs ls) i))/\Below w.heap.size w w':=by
 have zGH:=h.few;obtain⟨gl,sa,sn,sc,na,nn,nc,rfl,hgl,⟨c0,c1,c2,c3,c4,c5,c6,c7,c8,c9,c10⟩,eq,hC⟩:=h.line hi
 have HC:Hid (∀w',Below w.heap.size w w'->Calls Tryz.prog 159 #[.slice (some ⟨gl,0,none⟩) i c,.int .i64 (mW ls i).1.kind] w' fun e w''=>e=.returned (.int .i64 (kO (mW ls i).1.kind ((fs ls).take i)))/\Below w'.heap.size w' w''):=by
  intro w' hb;have:=VB w' (some ⟨gl,0,none⟩) c (ls.take i) (mW ls i).1.kind ((h.take i).below hb (Nat.le_refl _));rw[List.length_take,Nat.min_eq_left (by omega),show fs (ls.take i)=(fs ls).take i from List.map_take ..]at this;exact this
 have HS:Hid ((mW ls i).1.kind=3->∀w',Below w.heap.size w w'->Calls Tryz.prog 161 #[.slice sa sn sc] w' fun e w''=>e=.returned (.bool (pP (mW ls i).1.sum))/\Below w'.heap.size w' w''):=by
  intro hk w' hb;obtain⟨h1,h2,_⟩:=hC.rule hk eq;rw[h1];exact Yt w' sa sc _ (h2.below hb (Nat.le_refl _))
 have HM:Hid (lL (fs ls) i=(decide (Z3 (mW ls i).1.kind<=(kO (mW ls i).1.kind ((fs ls).take i):Int)) || (decide ((mW ls i).1.kind=3)&&QN (mW ls i).1))):=by unfold Hid lL;rw[tZ]
 have zGM:=zBT (mW ls i).1.kind ((fs ls).take i);rw[List.length_take]at zGM;clear h hC eq;generalize (mW ls i).1=x at *;obtain⟨kd,n1,lo,hi',cc,S,N,ro,te,de,lw⟩:=x;simp only at c0 c1 c2 c3 c4 c5 c6 c7 c8 c9 c10 HC HS HM zGM;generalize kO kd ((fs ls).take i)=cn at *;have hlim:0<=Z3 kd/\Z3 kd<=28:=by unfold Z3;repeat' split <;> omega
 generalize hlm:Z3 kd=lm at *;have HLm:=zA hlm;clear hlm;have hsn:w.heap.size<w.heap.size+1:=Nat.lt_succ_self _
 go_enter Tryz.func104,Tryz.ntmps104
 go_wp2_with fail
 go_cut [19] from 10 to 19 (fun v wx=>v=.bool (decide (lm<=(cn:Int)))/\Hid (Below w.heap.size w wx)/\∀j,wx.cell? ⟨w.heap.size,j,none⟩ = #[Value.int .i64 kd,.string ⟨n1.toArray⟩,.int .i64 lo,.int .i64 hi',.string ⟨cc.toArray⟩,.slice sa sn sc,.slice na nn nc,.int .i64 ro,.int .i64 te,.int .i64 de,.string ⟨lw.toArray⟩][j]?)
 case first =>
  go_region_with (first
   | (go_at_call 159
      refine(HC.out _ (Below.drew (Below.alloc (Below.refl _ _) (Nat.le_refl _) _))).mono ?_;rintro e w1 ⟨rfl,hb1⟩;have b1:=Vs (yI (zS _ _)) hb1 (zG (zD _ _));have HB1:Hid (Below w.heap.size w w1):=(Below.drew (Below.alloc (Below.refl _ _) (Nat.le_refl _) _)).trans (hb1.mono (Nat.le_of_lt (zG (zD _ _))));have q:=zF b1;clear hb1 b1)
   | (go_at_call 160
      refine(zB1 _ _).mono ?_;rintro e w2 ⟨rfl,hw⟩;obtain rfl:=hw.symm;rw[HLm.out]))
  all_goals
   go_wp2_with fail
   go_meet
   exact⟨rfl,HB1,q⟩
 case rest =>
  obtain⟨rfl,HB1,q⟩:=hcut;clear c0 c1 c2 c3 c4 c5 c6 c7 c8 c9 c10 HC;by_cases hm:lm<=(cn:Int)
  ·have HR:Hid (lL (fs ls) i=true):=by unfold Hid;rw[HM.out,decide_eq_true hm];rfl
   clear HM;go_wp2_with fail
   go_ret
   exact⟨zE HR.out.symm,HB1.out⟩
  ·have hm':decide (lm<=(cn:Int))=false:=decide_eq_false hm
   have HM1:Hid (lL (fs ls) i=(decide (kd=3)&&QN ⟨kd,n1,lo,hi',cc,S,N,ro,te,de,lw⟩)):=by unfold Hid;rw[HM.out,hm'];rfl
   clear HM;by_cases k3:kd=3
   ·have HM2:Hid (lL (fs ls) i=(decide (6<te) || (decide (4<de) || pP S))):=by unfold Hid;rw[HM1.out,decide_eq_true k3];rfl
    have HS2:=zA (HS.out k3);have b3:(kd != 3)=false:=by simpa using k3
    clear HM1 HS k3;by_cases k6:6<te
    ·have HR:Hid (lL (fs ls) i=true):=by unfold Hid;rw[HM2.out,decide_eq_true k6];rfl
     clear HM2;go_wp2_with fail
     go_ret
     exact⟨zE HR.out.symm,HB1.out⟩
    ·by_cases k7:4<de
     ·have HR:Hid (lL (fs ls) i=true):=by unfold Hid;rw[HM2.out,decide_eq_true k7,Bool.true_or,Bool.or_true]
      clear HM2;go_wp2_with fail
      go_ret
      exact⟨zE HR.out.symm,HB1.out⟩
     ·have HR:Hid (lL (fs ls) i=pP S):=by unfold Hid;rw[HM2.out,decide_eq_false k6,decide_eq_false k7];rfl
      clear HM2;go_wp2_with fail
      refine(HS2.out _ HB1.out).mono ?_;rintro e w3 ⟨rfl,hb3⟩;have HB3:Hid (Below w.heap.size w w3):=HB1.out.trans (hb3.mono HB1.out.size);clear hb3;go_wp2_with fail
      go_ret
      exact⟨zE HR.out.symm,HB3.out⟩
   ·have HR:Hid (lL (fs ls) i=false):=by unfold Hid;rw[HM1.out,decide_eq_false k3];rfl
    have b3:(kd != 3)=true:=by simpa using k3
    clear HM1 k3;go_wp2_with fail
    go_ret
    exact⟨zE HR.out.symm,HB1.out⟩
def qG(labs:List Bs):List zH->List Bool->List Bool
 | [],G=>G
 | x::r,G=>qG labs r (if x.kind=4 then oW G (zM labs x.name) (zM labs x.lower) else G)
def cE(names:List Bs)(from':Int):List xB->List Bool->List Bool
 | [],G=>G
 | x::r,G=>cE names from' r (oW G from' (zM names x.name))
def mQ(names:List Bs)(from':Int):List yB->List Bool->List Bool
 | [],G=>G
 | x::r,G=>mQ names from' r (if x.kind=5 then oW G from' (zM names x.name) else G)
def kE(names:List Bs):List zH->List Bool->List Bool
 | [],G=>G
 | x::r,G=>kE names r (if x.kind=3 then mQ names (zM names x.conc) x.nd (cE names (zM names x.conc) x.sum G) else G)
theorem DP(labs:List Bs)(ls:List zH)(i:Nat)(G:List Bool)(h:i<ls.length):qG labs (ls.drop i) G=qG labs (ls.drop (i+1)) (if (lA ls i).kind=4 then oW G (zM labs (lA ls i).name) (zM labs (lA ls i).lower) else G):=by
 rw[List.drop_eq_getElem_cons h,qG];simp[lA,List.getD,h]
theorem Fa(names:List Bs)(ls:List zH)(i:Nat)(G:List Bool)(h:i<ls.length):kE names (ls.drop i) G=kE names (ls.drop (i+1)) (if (lA ls i).kind=3 then mQ names (zM names (lA ls i).conc) (lA ls i).nd (cE names (zM names (lA ls i).conc) (lA ls i).sum G) else G):=by
 rw[List.drop_eq_getElem_cons h,kE];simp[lA,List.getD,h]
theorem UT(names:List Bs)(f:Int)(S:List xB)(i:Nat)(G:List Bool)(h:i<S.length):cE names f (S.drop i) G=cE names f (S.drop (i+1)) (oW G f (zM names (ZO S i).name)):=by
 rw[zFR S i h,cE]
theorem Bg(names:List Bs)(f:Int)(N:List yB)(i:Nat)(G:List Bool)(h:i<N.length):mQ names f (N.drop i) G=mQ names f (N.drop (i+1)) (if (qX N i).kind=5 then oW G f (zM names (qX N i).name) else G):=by
 rw[List.drop_eq_getElem_cons h,mQ];simp[qX,List.getD,h]
theorem xL.trans{g:Nat}{a b c:World}(h:xL g a b)(k:xL g b c):xL g a c :=
 ⟨k.os.trans h.os,k.tape.trans h.tape,k.output.trans h.output,Nat.le_trans h.size k.size,fun i hi zG8=>(k.block i (Nat.lt_of_lt_of_le hi h.size) zG8).trans (h.block i hi zG8)⟩
theorem xL.alloc{g:Nat}{a b:World}(h:xL g a b)(o:Obj):xL g a (b.alloc o) :=
 h.trans ⟨rfl,rfl,rfl,by simp,fun k hk _=>Below.heap_alloc _ _ _ hk⟩
theorem xL.below{g B:Nat}{a b:World}(h:xL g a b)(hB:B<=a.heap.size)(hg:B<=g):Below B a b :=
 ⟨h.os,h.tape,h.output,h.size,fun k hk=>h.block k (by omega) (by omega)⟩
theorem iQ.new{w:World}{g:Nat}{G:List Bool}(h:iQ w g G)(o:Obj):iQ (w.alloc o) g G:=⟨zQ h.1,h.2⟩
structure Uc(w wc:World)(g:Nat)(a:Option Addr)(names:List Bs):Prop where
 res:wc.heap[w.heap.size]? = some (.cells (gC gZ) 94 (0,0))
 g1:w.heap.size<g
 lt:g<wc.heap.size
 bel:Below w.heap.size w wc
 str:∀w',xL g wc w'->aG w' a names
theorem Uc.mk'{w w1:World}{v:Value}{names:List Bs}{o:Obj}{cs:Array Value}(hz:w1.heap[w.heap.size]? = some (.cells (gC gZ) 94 (0,0)))(hb:Below w.heap.size w w1)(hs:w.heap.size<w1.heap.size){B:Nat}(zG1:w1.ownsRow B 9 1 v names.length (pY names))(hf:names.length<=10000) :
 ∃a c,v=.slice a names.length c/\Uc w ((w1.alloc o).setRow w1.heap.size cs) w1.heap.size a names:=by
 obtain⟨a,c,hv,hstr⟩:=oJ zG1 hf;refine⟨a,c,hv,⟨ut (zQ hz) (by omega),hs,?_,xX (hb.alloc hb.size _) (Nat.le_of_lt hs) _,fun w' ho=>⟨fun h0=>?_,hf⟩⟩⟩
 ·unfold World.setRow;simp
 ·obtain⟨g,e,p⟩:=hstr.blk h0
  refine⟨g,e,fun i hi=>?_⟩;have hp:=p i hi
  have hg:g<w1.heap.size:=by
   rcases Nat.lt_or_ge g w1.heap.size with h1|h1
   ·exact h1
   ·rw[World.cell?,Array.getElem?_eq_none (by simpa using h1)]at hp;cases hp
  have e1:w'.heap[g]? = w1.heap[g]? := by
   rw[ho.block g (by unfold World.setRow;simp;omega) (by omega)];unfold World.setRow;simp only[Array.getElem?_modify];rw[if_neg (by omega)];exact Below.heap_alloc _ _ _ hg
  simp only[World.cell?,e1]at hp ⊢;exact hp
theorem Dh(w:World)(a:Option Addr)(c:Nat)(ls:List LX)(h:pB w a ls) :
 Calls Tryz.prog 108 #[.slice a ls.length c] w fun e w'=>e=.returned (.agg (gC (qG (yZ (fs ls)) (fs ls) gZ)))/\Below w.heap.size w w':=by
 have HL:=zA h;have zGH:=h.few;have HRL:=zA (fun o=>J0 (w.alloc o) a c ls (h.below ((Below.refl _ _).alloc (Nat.le_refl _) o) (Nat.le_refl _)));clear h
 go_enter Tryz.func108,Tryz.ntmps108
 go_wp2_with fail
 refine(HRL.out _).mono ?_;rintro e w1 ⟨v,rfl,zG1,zG5,hb1⟩;have hz:w1.heap[w.heap.size]? = some (.cells (gC gZ) 94 (0,0)):=by rw[hb1.block _ (zD _ _)];exact zS _ _
 have hs:w.heap.size<w1.heap.size:=Nat.lt_of_lt_of_le (zD _ _) hb1.size;have HK:=zA (fun o cs=>Uc.mk' (o:=o) (cs:=cs) hz (uK hb1) hs zG1 (by omega));obtain⟨la,lc,rfl,_⟩:=HK.out (.cells #[] 0 (0,0)) #[];generalize hlb:yZ (fs ls)=labs at *;have HLB:=zA hlb;clear hlb
 have HK2:Hid (∀o cs,Uc w ((w1.alloc o).setRow w1.heap.size cs) w1.heap.size la labs):=fun o cs=>by
  obtain⟨a',c',e,p⟩:=HK.out o cs;simp only[Value.slice.injEq]at e;rw[e.1];exact p
 clear hz zG1 hb1 HK HRL
 go_upto_region 2 with fail
 go_cut [4] from 11 to 11 (fun p4 wx=>p4=.pointer (some ⟨w1.heap.size,0,none⟩)/\Hid (Uc w wx w1.heap.size la labs)/\Hid (iQ wx w1.heap.size gZ))
 case first =>
  go_wp2_with (refine wpList_store_row ?zGC 94 (.tmp 4) (.tmp 11) ?ho w1.heap.size (gC gZ) ?hx ?hy 94 (gC gZ) (zS w1 _) (jL xP) rfl (bS gZ) ?_
               case ho=>rfl
               case zGC=>rfl
               case hx=>rfl
               case hy=>rfl)
  go_meet
  exact⟨rfl,zA (HK2.out _ _),zA ⟨setRow_heap _ _ (gC gZ) _ _ _ (zS w1 _),xP⟩⟩
 case rest =>
  obtain⟨rfl,HM,HG0⟩:=hcut;generalize w1.heap.size=g at *;clear HK2;go_wp2_with fail
  go_loopw [14] (fun iv wr=>∃(i:Nat) (G:List Bool),i<=ls.length/\iv=.int .i64 i/\Hid (xL g wc wr)/\Hid (iQ wr g G)/\Hid (qG labs ((fs ls).drop i) G=qG labs (fs ls) gZ)) (fun iv _=>ls.length-(intOf iv).toNat)
  case atStart=>exact⟨0,gZ,Nat.zero_le _,rfl,zA (xL.refl _ _),HG0,zA rfl⟩
  case round =>
   obtain⟨i,G,hi,rfl,HO,HG,HE⟩:=hrel;clear HG0;have zGK:Hid (Below w.heap.size w wr):=HM.out.bel.trans (HO.out.below HM.out.bel.size (Nat.le_of_lt HM.out.g1));by_cases zFZ:i<ls.length
   ·obtain⟨gl,sa,sn,sc,na,nn,nc,rfl,hgl,⟨c0,c1,c2,c3,c4,c5,c6,c7,c8,c9,c10⟩,_,_⟩:=(HL.out.below zGK.out (Nat.le_refl _)).line zFZ
    have hE:=HE.out;rw[DP _ _ i _ (by simpa using zFZ),tZ]at hE;have HE2:=zA hE;have HF:=zA (fun o nm=>XJ (wr.alloc o) la lc labs nm (HM.out.str _ (HO.out.alloc o)));have HA:=zA (fun o x y=>jc (wr.alloc o) g G x y (HG.out.new o));clear HE hE;generalize (mW ls i).1=x at *;obtain⟨kd,n1,lo,hi',cc,S,N,ro,te,de,lw⟩:=x;simp only at c0 c1 c2 c3 c4 c5 c6 c7 c8 c9 c10;by_cases k1:kd=4
    ·have b1:(kd==4)=true:=by simpa using k1
     have HE3:Hid (qG labs ((fs ls).drop (i+1)) (oW G (zM labs n1) (zM labs lw))=qG labs (fs ls) gZ):=by have:=HE2.out;rw[if_pos k1]at this;exact this
     clear HE2 k1;go_wp2_with fail
     refine(HF.out _ n1).mono ?_;rintro e w2 ⟨rfl,hw⟩;obtain rfl:=hw.symm;go_wp2_with fail
     refine(HF.out _ lw).mono ?_;rintro e w2 ⟨rfl,hw⟩;obtain rfl:=hw.symm;go_wp2_with fail
     refine(HA.out _ _ _).mono ?_;rintro e w2 ⟨rfl,hg2,ho2⟩;have HO2:Hid (xL g wc w2):=(HO.out.alloc _).trans ho2;have HG2:=zA hg2;clear hg2 ho2;go_wp2_with fail
     go_roundw
     case rel=>exact⟨i+1,_,by omega,by go_num,HO2,HG2,HE3⟩
     case measure=>simp[intOf];omega
    ·have b1:(kd==4)=false:=by simpa using k1
     have HE3:Hid (qG labs ((fs ls).drop (i+1)) G=qG labs (fs ls) gZ):=by have:=HE2.out;rw[if_neg k1]at this;exact this
     clear HE2 k1;go_wp2_with fail
     go_roundw
     case rel=>exact⟨i+1,G,by omega,by go_num,zA (HO.out.alloc _),zA (HG.out.new _),HE3⟩
     case measure=>simp[intOf];omega
   ·have HE3:Hid (G=qG labs (fs ls) gZ):=by have:=HE.out;rw[List.drop_eq_nil_of_le (by simp;omega)]at this;exact this
    have HRs:Hid (wr.heap[w.heap.size]? = some (.cells (gC gZ) 94 (0,0))):=by
     unfold Hid;rw[HO.out.block _ (Nat.lt_trans HM.out.g1 HM.out.lt) (Nat.ne_of_lt HM.out.g1)];exact HM.out.res
    clear HE
    go_wp2_with (first
     | (refine wpList_load_row ?zGC 94 (.tmp 4) ?ho g ?hx 94 (gC G) (0,0) _ HG.out.1 Tryz.underlying94 rfl (jL HG.out.2) ?_
        case ho=>rfl
        case zGC=>rfl
        case hx=>rfl)
     | (refine wpList_store_row ?zGC 94 (.tmp 2) (.tmp 33) ?ho w.heap.size (gC G) ?hx ?hy 94 (gC gZ) HRs.out (jL HG.out.2) ?zGF (bS G) ?_
        case ho=>rfl
        case zGC=>rfl
        case hx=>rfl
        case hy=>rfl
        case zGF=>rw[uR,uR,xP,HG.out.2]))
    refine bodyPost_ret (v:=.agg (gC G)) (results_cell_row Tryz.results108 _ _ w.heap.size 94 (gC G) (0,0) _ rfl (setRow_heap _ _ (gC gZ) _ _ _ HRs.out) Tryz.underlying94 rfl (jL HG.out.2)) rfl ⟨by rw[HLB.out,<-HE3.out],xX zGK.out (Nat.le_refl _) _⟩
end Go.Proofs.YtnbpdffdnphbeaaGreatDoor
