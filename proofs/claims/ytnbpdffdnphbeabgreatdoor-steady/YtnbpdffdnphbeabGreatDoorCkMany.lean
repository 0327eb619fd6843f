import Derived.Deep.RegionWith
import Derived.Test.YtnbpdffdnphbeabGreatDoorCkGraph
open Go.Proofs.Tryz
set_option maxHeartbeats 4000000
set_option maxRecDepth 100000
namespace Go.Proofs.YtnbpdffdnphbeabGreatDoor
open Go.RowKit
variable{g B:Nat}{w b:World}(aA:List Bs)
theorem Xc(w:World)(a:Option Addr)(c:Nat)(S:List yT)(h:jd w a S) :
 Calls prog 111 #[.slice a S.length c] w λe w'=>e=.returned (.bool (mF S))/\Below w.heap.size w w':=by
 have HL:=zA h;have aL:=h.aj;unfold maxLen at aL;clear h;by_cases aX:4<S.length
 ·have HR:Hid (mF S=true):=by unfold Hid mF;rw[tz aX];rfl
  go_enter func111,ntmps111
  go_wp2_with fail
  go_ret
  exact⟨zG HR.out.symm,tl _ _⟩
 ·have HR:Hid (S.any jD=mF S):=by unfold Hid mF;rw[ty aX];rfl
  go_enter func111,ntmps111
  go_wp2_with fail
  go_loopw [10] (λiv wr=>∃(i:Nat),i<=S.length/\iv=.int .i64 i/\Hid (Below w.heap.size w wr)/\Hid ((S.drop i).any jD=mF S)) (λiv _=>S.length-(intOf iv).toNat)
  case atStart=>exact⟨0,p8,rfl,zA (tl _ _),HR⟩
  case round =>
   obtain⟨i,hi,rfl,HB,HE⟩:=hrel;by_cases aI:i<S.length
   ·obtain⟨g,yB,rfl,hp⟩:=(HL.out.below HB.out (tg _)).blk (by omega)
    obtain⟨c0,c1,c2,c3⟩:=hp.cells aI;have hg:=hp.lt;have hE:=HE.out;rw[sV _ xz _ i aI,show S.getD i xz=aY S i from rfl]at hE;have aD:=zA hE;have aM:=HB.out.size;clear HE hE hp HR;generalize aY S i=x at *;obtain⟨mi,st,nu,na⟩:=x;simp only at c0 c1 c2 c3;cases st
    ·have aC:Hid ((S.drop (i+1)).any jD=mF S):=by have:=aD.out;unfold Hid;rw[<-this];simp[jD]
     clear aD;go_wp2_with fail
     go_roundw
     case rel=>exact⟨i+1,by omega,by go_num,zA (HB.out.alloc aM _),aC⟩
     case measure=>simp[intOf];omega
    ·by_cases k1:9<nu
     ·have aC:Hid (mF S=true):=by have:=aD.out;unfold Hid;rw[<-this];simp[jD,k1]
      clear aD;go_wp2_with fail
      go_ret
      exact⟨zG aC.out.symm,HB.out.alloc aM _⟩
     ·have aC:Hid ((S.drop (i+1)).any jD=mF S):=by have:=aD.out;unfold Hid;rw[<-this];simp[jD,k1]
      clear aD;go_wp2_with fail
      go_roundw
      case rel=>exact⟨i+1,by omega,by go_num,zA (HB.out.alloc aM _),aC⟩
      case measure=>simp[intOf];omega
   ·have aC:Hid (mF S=false):=by have:=HE.out;rw[pf (by omega)]at this;exact this.symm
    clear HE;go_wp2_with fail
    go_ret
    exact⟨zG aC.out.symm,HB.out⟩
theorem YY.rule{x:LX}{sa na:Option Addr}{sn sc nn nc:Nat}(h:YY w x)(hk:x.1.kind=3)(e:x.2=(.slice sa sn sc,.slice na nn nc)):sn=x.1.sum.length/\jd w sa x.1.sum/\nn=x.1.nd.length/\zFY w na x.1.nd:=by
 obtain⟨h1,h2,h3⟩:=h.g.rule hk;obtain⟨g,c,yB,e2,p⟩:=h.b.sum h1;obtain⟨g',c',aO,e3,p'⟩:=h.b.EV (by omega);rw[e]at e2 e3;simp only[ct]at e2 e3;have h4:=h.g.AU;exact⟨e2.2.1,⟨λ_=>⟨g,yB,e2.1,p⟩,by unfold maxLen;omega⟩,e3.2.1,⟨λ_=>⟨g',aO,e3.1,p'⟩,h.EC⟩⟩
theorem UY{w':World}{x:Obj}{k:Nat}(h:w.heap[k]? = some x)(hb:Below B w w')(hk:k<B):w'.heap[k]? = some x:=by
 rw[hb.block k hk];exact h
theorem zC{b:Nat}{cs:Array Value}{T:TypeId}{fz:Nat × Nat}(h:w.heap[b]? = some (.cells cs T fz))(j:Nat):w.cell? ⟨b,j,none⟩=cs[j]? := by
 simp only[World.cell?,h];rfl
theorem UM(w:World)(a:Option Addr)(c:Nat)(ls:List LX)(i:Nat)(hi:i<ls.length)(hc:ls.length<=c)(h:tT w a ls) :
 Calls prog 73 #[.slice a ls.length c,.int .i64 i] w λe w'=>e=.returned (.bool (mA (fs ls) i))/\Below w.heap.size w w':=by
 have aL:=h.aj;obtain⟨gl,sa,sn,sc,na,nn,nc,rfl,au,⟨c0,c1,c2,c3,c4,c5,c6,c7,c8,c9,ax⟩,eq,hC⟩:=h.line hi
 have HC:Hid (∀w',Below w.heap.size w w'->Calls prog 109 #[.slice (some ⟨gl,0,none⟩) i c,.int .i64 (pP ls i).1.kind] w' λe w''=>e=.returned (.int .i64 (vS (pP ls i).1.kind ((fs ls).take i)))/\Below w'.heap.size w' w''):=by
  intro w' hb;have:=Bq w' (some ⟨gl,0,none⟩) c (ls.take i) (pP ls i).1.kind ((h.take i).below hb (tg _));rw[cq,Nat.min_eq_left (by omega),show fs (ls.take i)=(fs ls).take i from List.map_take ..]at this;exact this
 have HS:Hid ((pP ls i).1.kind=3->∀w',Below w.heap.size w w'->Calls prog 111 #[.slice sa sn sc] w' λe w''=>e=.returned (.bool (mF (pP ls i).1.sum))/\Below w'.heap.size w' w''):=by
  intro hk w' hb;obtain⟨h1,h2,_⟩:=hC.rule hk eq;rw[h1];exact Xc w' sa sc _ (h2.below hb (tg _))
 have HM:Hid (mA (fs ls) i=(decide (Xb (pP ls i).1.kind<=(vS (pP ls i).1.kind ((fs ls).take i):Int)) || (decide ((pP ls i).1.kind=3)&&Ea (pP ls i).1))):=by unfold Hid mA;rw[tZ]
 have aW:=NT (pP ls i).1.kind ((fs ls).take i);rw[cq]at aW;clear h hC eq;generalize (pP ls i).1=x at *;obtain⟨kd,n1,lo,hi',cc,S,N,ro,te,de,lw⟩:=x;simp only at c0 c1 c2 c3 c4 c5 c6 c7 c8 c9 ax HC HS HM aW;generalize vS kd ((fs ls).take i)=cn at *;have ar:0<=Xb kd/\Xb kd<=28:=by unfold Xb;repeat' split <;> omega
 generalize aT:Xb kd=lm at *;have ay:=zA aT;clear aT;have bA:w.heap.size<w.heap.size+1:=mh _
 go_enter func73,ntmps73
 go_wp2_with fail
 go_cut [19] from 10 to 19 (λv wx=>v=.bool (decide (lm<=(cn:Int)))/\Hid (Below w.heap.size w wx)/\∀j,wx.cell? ⟨w.heap.size,j,none⟩ = #[Value.int .i64 kd,.string ⟨n1.toArray⟩,.int .i64 lo,.int .i64 hi',.string ⟨cc.toArray⟩,.slice sa sn sc,.slice na nn nc,.int .i64 ro,.int .i64 te,.int .i64 de,.string ⟨lw.toArray⟩][j]?)
 case first =>
  go_region_with (first
   | (go_at_call 109
      refine(HC.out _ (md (Below.alloc (tl _ _) (tg _) _))).mono ?_;rintro e w1 ⟨rfl,hb1⟩;have b1:=UY (aQ (zF _ _)) hb1 (Zz (zY _ _));have aF:Hid (Below w.heap.size w w1):=(md (Below.alloc (tl _ _) (tg _) _)).trans (hb1.mono (p7 (Zz (zY _ _))));have q:=zC b1;clear hb1 b1)
   | (go_at_call 110
      refine(N2 _ _).mono ?_;rintro e w2 ⟨rfl,hw⟩;obtain rfl:=hw.symm;rw[ay.out]))
  all_goals
   go_wp2_with fail
   go_meet
   exact⟨rfl,aF,q⟩
 case rest =>
  obtain⟨rfl,aF,q⟩:=hcut;clear c0 c1 c2 c3 c4 c5 c6 c7 c8 c9 ax HC;by_cases hm:lm<=(cn:Int)
  ·have HR:Hid (mA (fs ls) i=true):=by unfold Hid;rw[HM.out,tz hm];rfl
   clear HM;go_wp2_with fail
   go_ret
   exact⟨zG HR.out.symm,aF.out⟩
  ·have aq:decide (lm<=(cn:Int))=false:=ty hm
   have aK:Hid (mA (fs ls) i=(decide (kd=3)&&Ea ⟨kd,n1,lo,hi',cc,S,N,ro,te,de,lw⟩)):=(by unfold Hid;rw[HM.out,aq];rfl);clear HM;by_cases k3:kd=3
   ·have aG:Hid (mA (fs ls) i=(decide (6<te) || (decide (4<de) || mF S))):=by unfold Hid;rw[aK.out,tz k3];rfl
    have av:=zA (HS.out k3);have b3:(kd != 3)=false:=(by simpa using k3);clear aK HS k3;by_cases k6:6<te
    ·have HR:Hid (mA (fs ls) i=true):=by unfold Hid;rw[aG.out,tz k6];rfl
     clear aG;go_wp2_with fail
     go_ret
     exact⟨zG HR.out.symm,aF.out⟩
    ·by_cases k7:4<de
     ·have HR:Hid (mA (fs ls) i=true):=by unfold Hid;rw[aG.out,tz k7,Bool.true_or,Bool.or_true]
      clear aG;go_wp2_with fail
      go_ret
      exact⟨zG HR.out.symm,aF.out⟩
     ·have HR:Hid (mA (fs ls) i=mF S):=by unfold Hid;rw[aG.out,ty k6,ty k7];rfl
      clear aG;go_wp2_with fail
      refine(av.out _ aF.out).mono ?_;rintro e w3 ⟨rfl,aZ⟩;have a7:Hid (Below w.heap.size w w3):=aF.out.trans (aZ.mono aF.out.size);clear aZ;go_wp2_with fail
      go_ret
      exact⟨zG HR.out.symm,a7.out⟩
   ·have HR:Hid (mA (fs ls) i=false):=by unfold Hid;rw[aK.out,ty k3];rfl
    have b3:(kd != 3)=true:=(by simpa using k3);clear aK k3;go_wp2_with fail
    go_ret
    exact⟨zG HR.out.symm,aF.out⟩
def qN(ag:List Bs):List zE->List Bool->List Bool
 | [],G=>G
 | x::r,G=>qN ag r (if x.kind=4 then oV G (zQ ag x.name) (zQ ag x.lower) else G)
def bV(aA:List Bs)(aB:Int):List yT->List Bool->List Bool
 | [],G=>G
 | x::r,G=>bV aA aB r (oV G aB (zQ aA x.name))
def mN(aA:List Bs)(aB:Int):List zJ->List Bool->List Bool
 | [],G=>G
 | x::r,G=>mN aA aB r (if x.kind=5 then oV G aB (zQ aA x.name) else G)
def kW(aA:List Bs):List zE->List Bool->List Bool
 | [],G=>G
 | x::r,G=>kW aA r (if x.kind=3 then mN aA (zQ aA x.ae) x.nd (bV aA (zQ aA x.ae) x.sum G) else G)
theorem xg(ag:List Bs)(ls:List zE)(i:Nat)(G:List Bool)(h:i<ls.length):qN ag (ls.drop i) G=qN ag (ls.drop (i+1)) (if (lA ls i).kind=4 then oV G (zQ ag (lA ls i).name) (zQ ag (lA ls i).lower) else G):=by
 rw[ph h,qN];simp[lA,List.getD,h]
theorem vj(ls:List zE)(i:Nat)(G:List Bool)(h:i<ls.length):kW aA (ls.drop i) G=kW aA (ls.drop (i+1)) (if (lA ls i).kind=3 then mN aA (zQ aA (lA ls i).ae) (lA ls i).nd (bV aA (zQ aA (lA ls i).ae) (lA ls i).sum G) else G):=by
 rw[ph h,kW];simp[lA,List.getD,h]
theorem CP(f:Int)(S:List yT)(i:Nat)(G:List Bool)(h:i<S.length):bV aA f (S.drop i) G=bV aA f (S.drop (i+1)) (oV G f (zQ aA (aY S i).name)):=by
 rw[IG S i h,bV]
theorem Dd(f:Int)(N:List zJ)(i:Nat)(G:List Bool)(h:i<N.length):mN aA f (N.drop i) G=mN aA f (N.drop (i+1)) (if (vY N i).kind=5 then oV G f (zQ aA (vY N i).name) else G):=by
 rw[ph h,mN];simp[vY,List.getD,h]
theorem qY.trans{a c:World}(h:qY g a b)(k:qY g b c):qY g a c :=
 ⟨k.os.trans h.os,k.tape.trans h.tape,k.output.trans h.output,tu h.size k.size,λi hi aR=>(k.block i (tq hi h.size) aR).trans (h.block i hi aR)⟩
theorem qY.alloc{a:World}(h:qY g a b)(o:Obj):qY g a (b.alloc o) :=
 h.trans ⟨rfl,rfl,rfl,by simp,λk hk _=>ld _ _ hk⟩
theorem qY.below{a:World}(h:qY g a b)(hB:B<=a.heap.size)(hg:B<=g):Below B a b :=
 ⟨h.os,h.tape,h.output,h.size,λk hk=>h.block k (by omega) (by omega)⟩
theorem rL.new{G:List Bool}(h:rL w g G)(o:Obj):rL (w.alloc o) g G:=⟨yD h.1,h.2⟩
structure BO(w wc:World)(g:Nat)(a:Option Addr)(aA:List Bs):Prop where
 res:wc.heap[w.heap.size]? = some (.cells (gC gZ) 125 (0,0))
 g1:w.heap.size<g
 lt:g<wc.heap.size
 af:Below w.heap.size w wc
 str:∀w',qY g wc w'->Fi w' a aA
theorem BO.mk'{w1:World}{v:Value}{aA:List Bs}{o:Obj}{cs:Array Value}(hz:w1.heap[w.heap.size]? = some (.cells (gC gZ) 125 (0,0)))(hb:Below w.heap.size w w1)(hs:w.heap.size<w1.heap.size)(aJ:w1.ownsRow B 9 1 v aA.length (xG aA))(hf:aA.length<=10000) :
 ∃a c,v=.slice a aA.length c/\BO w ((w1.alloc o).setRow w1.heap.size cs) w1.heap.size a aA:=by
 obtain⟨a,c,hv,aN⟩:=Zn aJ hf;refine⟨a,c,hv,⟨DB (yD hz),hs,?_,yK (hb.alloc hb.size _) (p7 hs) _,λw' ho=>⟨λh0=>?_,hf⟩⟩⟩
 ·unfold World.setRow;simp
 ·obtain⟨g,e,p⟩:=aN.blk h0
  refine⟨g,e,λi hi=>?_⟩;have hp:=p i hi
  have hg:g<w1.heap.size:=by
   rcases mc g w1.heap.size with h1|h1
   ·exact h1
   ·rw[World.cell?,pw (by simpa using h1)]at hp;cases hp
  have e1:w'.heap[g]? = w1.heap[g]? := by
   rw[ho.block g (by unfold World.setRow;simp;omega) (by omega)];unfold World.setRow;simp only[Array.getElem?_modify];rw[i6];exact ld _ _ hg
  simp only[World.cell?,e1]at hp ⊢;exact hp
theorem VD(w:World)(a:Option Addr)(c:Nat)(ls:List LX)(h:tT w a ls) :
 Calls prog 77 #[.slice a ls.length c] w λe w'=>e=.returned (.agg (gC (qN (vQ (fs ls)) (fs ls) gZ)))/\Below w.heap.size w w':=by
 have HL:=zA h;have aL:=h.aj;have ah:=zA (λo=>Zf (w.alloc o) a c ls (h.below (fk (tg _) o) (tg _)));clear h
 go_enter func77,ntmps77
 go_wp2_with fail
 refine(ah.out _).mono ?_;rintro e w1 ⟨v,rfl,aJ,a8,hb1⟩;have hz:w1.heap[w.heap.size]? = some (.cells (gC gZ) 125 (0,0)):=by rw[hb1.block _ (zY _ _)];exact zF _ _
 have hs:w.heap.size<w1.heap.size:=tq (zY _ _) hb1.size;have HK:=zA (λo cs=>BO.mk' (o:=o) (cs:=cs) hz (uI hb1) hs aJ (by omega));obtain⟨la,lc,rfl,_⟩:=HK.out (.cells #[] 0 (0,0)) #[];generalize aU:vQ (fs ls)=ag at *;have az:=zA aU;clear aU
 have ai:Hid (∀o cs,BO w ((w1.alloc o).setRow w1.heap.size cs) w1.heap.size la ag):=λo cs=>by
  obtain⟨a',c',e,p⟩:=HK.out o cs;simp only[ct]at e;rw[e.1];exact p
 clear hz aJ hb1 HK ah
 go_upto_region 2 with fail
 go_cut [4] from 11 to 11 (λp4 wx=>p4=.pointer (some ⟨w1.heap.size,0,none⟩)/\Hid (BO w wx w1.heap.size la ag)/\Hid (rL wx w1.heap.size gZ))
 case first =>
  go_wp2_with (refine wpList_store_row ?aH 125 (.tmp 4) (.tmp 11) ?ho w1.heap.size (gC gZ) ?hx ?hy 125 (gC gZ) (zF w1 _) (qF yX) rfl (jW gZ) ?_
               case ho=>rfl
               case aH=>rfl
               case hx=>rfl
               case hy=>rfl)
  go_meet
  exact⟨rfl,zA (ai.out _ _),zA ⟨l9 _ _ (gC gZ) _ (zF w1 _),yX⟩⟩
 case rest =>
  obtain⟨rfl,HM,ak⟩:=hcut;generalize w1.heap.size=g at *;clear ai;go_wp2_with fail
  go_loopw [14] (λiv wr=>∃(i:Nat) (G:List Bool),i<=ls.length/\iv=.int .i64 i/\Hid (qY g wc wr)/\Hid (rL wr g G)/\Hid (qN ag ((fs ls).drop i) G=qN ag (fs ls) gZ)) (λiv _=>ls.length-(intOf iv).toNat)
  case atStart=>exact⟨0,gZ,p8,rfl,zA (qY.refl _ _),ak,zA rfl⟩
  case round =>
   obtain⟨i,G,hi,rfl,HO,HG,HE⟩:=hrel;clear ak;have aP:Hid (Below w.heap.size w wr):=HM.out.af.trans (HO.out.below HM.out.af.size (p7 HM.out.g1));by_cases aI:i<ls.length
   ·obtain⟨gl,sa,sn,sc,na,nn,nc,rfl,au,⟨c0,c1,c2,c3,c4,c5,c6,c7,c8,c9,ax⟩,_,_⟩:=(HL.out.below aP.out (tg _)).line aI
    have hE:=HE.out;rw[xg _ _ i _ (by simpa using aI),tZ]at hE;have aD:=zA hE;have HF:=zA (λo nm=>QB (wr.alloc o) la lc ag nm (HM.out.str _ (HO.out.alloc o)));have HA:=zA (λo x y=>Ei (wr.alloc o) g G x y (HG.out.new o));clear HE hE;generalize (pP ls i).1=x at *;obtain⟨kd,n1,lo,hi',cc,S,N,ro,te,de,lw⟩:=x;simp only at c0 c1 c2 c3 c4 c5 c6 c7 c8 c9 ax;by_cases k1:kd=4
    ·have b1:(kd==4)=true:=by simpa using k1
     have aC:Hid (qN ag ((fs ls).drop (i+1)) (oV G (zQ ag n1) (zQ ag lw))=qN ag (fs ls) gZ):=(by have:=aD.out;rw[tr k1]at this;exact this);clear aD k1;go_wp2_with fail
     refine(HF.out _ n1).mono ?_;rintro e w2 ⟨rfl,hw⟩;obtain rfl:=hw.symm;go_wp2_with fail
     refine(HF.out _ lw).mono ?_;rintro e w2 ⟨rfl,hw⟩;obtain rfl:=hw.symm;go_wp2_with fail
     refine(HA.out _ _ _).mono ?_;rintro e w2 ⟨rfl,aV,aS⟩;have aw:Hid (qY g wc w2):=(HO.out.alloc _).trans aS;have a6:=zA aV;clear aV aS;go_wp2_with fail
     go_roundw
     case rel=>exact⟨i+1,_,by omega,by go_num,aw,a6,aC⟩
     case measure=>simp[intOf];omega
    ·have b1:(kd==4)=false:=by simpa using k1
     have aC:Hid (qN ag ((fs ls).drop (i+1)) G=qN ag (fs ls) gZ):=(by have:=aD.out;rw[tj k1]at this;exact this);clear aD k1;go_wp2_with fail
     go_roundw
     case rel=>exact⟨i+1,G,by omega,by go_num,zA (HO.out.alloc _),zA (HG.out.new _),aC⟩
     case measure=>simp[intOf];omega
   ·have aC:Hid (G=qN ag (fs ls) gZ):=by have:=HE.out;rw[pf (by simp;omega)]at this;exact this
    have aa:Hid (wr.heap[w.heap.size]? = some (.cells (gC gZ) 125 (0,0))):=by
     unfold Hid;rw[HO.out.block _ (Nat.lt_trans HM.out.g1 HM.out.lt) (Nat.ne_of_lt HM.out.g1)];exact HM.out.res
    clear HE
    go_wp2_with (first
     | (refine wpList_load_row ?aH 125 (.tmp 4) ?ho g ?hx 125 (gC G) (0,0) _ HG.out.1 underlying125 rfl (qF HG.out.2) ?_
        case ho=>rfl
        case aH=>rfl
        case hx=>rfl)
     | (refine wpList_store_row ?aH 125 (.tmp 2) (.tmp 33) ?ho w.heap.size (gC G) ?hx ?hy 125 (gC gZ) aa.out (qF HG.out.2) ?ao (jW G) ?_
        case ho=>rfl
        case aH=>rfl
        case hx=>rfl
        case hy=>rfl
        case ao=>rw[xK,xK,yX,HG.out.2]))
    refine pe (v:=.agg (gC G)) (results_cell_row results77 _ _ w.heap.size 125 (gC G) (0,0) _ rfl (l9 _ _ (gC gZ) _ aa.out) underlying125 rfl (qF HG.out.2)) rfl ⟨by rw[az.out,<-aC.out],yK aP.out (tg _) _⟩
end Go.Proofs.YtnbpdffdnphbeabGreatDoor
