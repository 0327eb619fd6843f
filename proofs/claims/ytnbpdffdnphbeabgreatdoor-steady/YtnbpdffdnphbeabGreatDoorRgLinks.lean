import Derived.Test.YtnbpdffdnphbeabGreatDoorPWalk
import Derived.Test.YtnbpdffdnphbeabGreatDoorPRing
open Go.Proofs.Tryz
set_option maxHeartbeats 4000000
set_option maxRecDepth 100000
namespace Go.Proofs.YtnbpdffdnphbeabGreatDoor
open Go.RowKit
variable{aA:List Bs}{S:List Nat}{g B:Nat}{a:Option Addr}{v:Value}{w' w:World}
def YI(aA:List Bs):List Nat->List Bs->List Bs
 | [],acc=>acc
 | p::r,acc=>YI aA r (if p<aA.length then acc++[aA.getD p []] else acc)
def rE(aA:List Bs)(aB:List Nat):List Bs:=YI aA aB []
def XQ(ls:List zE):List Bs :=
 if 0<(tO (kW (zX ls) ls gZ)).length then rE (zX ls) (tO (kW (zX ls) ls gZ))
 else rE (vQ ls) (tO (qN (vQ ls) ls gZ))
theorem CO(aA:List Bs)(aB:List Nat)(i:Nat)(acc:List Bs)(h:i<aB.length):YI aA (aB.drop i) acc=YI aA (aB.drop (i+1)) (if aB.getD i 0<aA.length then acc++[aA.getD (aB.getD i 0) []] else acc):=by
 rw[ph h,YI];simp[List.getD,h]
theorem Pu(f:Nat->Nat)(a n:Nat):∀r x,r.length<=8->(V2 f a n r x).length<=8:=by
 induction n with
 | zero=>intro r x h;exact h
 | succ n ih=>intro r x h;rw[V2];split
              ·rename_i hc;exact ih _ _ (by simp;omega)
              ·exact h
theorem YF(G:List Bool):(tO G).length<=8:=by
 unfold tO;split
 ·exact p8
 ·exact Pu _ _ 8 _ _ (by simp)
theorem uM{i:Nat}(h:w.cell? ⟨g,i,none⟩=some v):g<w.heap.size:=by
 rcases mc g w.heap.size with h1|h1
 ·exact h1
 ·rw[World.cell?,pw (by simpa using h1)]at h;cases h
theorem Fi.ED(h:Fi w a aA)(hb:Below B w w')(hB:w.heap.size<=B):Fi w' a aA :=
 ⟨λh0=>let ⟨g,e,p⟩:=h.blk h0;⟨g,e,λj hj=>by rw[hb.cell (p:=⟨g,j,none⟩) (tq (uM (p j hj)) hB)];exact p j hj⟩,h.aj⟩
theorem zG3.below{L:List Nat}(h:zG3 w a L)(hb:Below B w w')(hB:w.heap.size<=B):zG3 w' a L :=
 ⟨λh0=>let ⟨g,e,p⟩:=h.blk h0;⟨g,e,λj hj=>by rw[hb.cell (p:=⟨g,j,none⟩) (tq (uM (p j hj)) hB)];exact p j hj⟩⟩
theorem Ix(w:World)(a b:Option Addr)(c d:Nat)(aA:List Bs)(aB:List Nat)(h:Fi w a aA)(hp:zG3 w b aB)(hf:aB.length<=10000:=by omega) :
 Calls prog 79 #[.slice a aA.length c,.slice b aB.length d] w λe w'=>∃v,e=.returned v/\w'.ownsRow w.heap.size 9 1 v (rE aA aB).length (xG (rE aA aB))/\Below w.heap.size w w':=by
 obtain⟨i0,ai,hz0,hz1,bB⟩:=du oP;have HS:=zA h;have HP:=zA hp;have bN:=h.aj;obtain⟨B,hB⟩:∃B,B=w.heap.size:=⟨_,rfl⟩;have aD:=zA hB;clear h hp hB
 go_enter func79,ntmps79
 go_wp2_with fail
 go_loopw [5,11] (λov iv wr=>∃(i:Nat) (acc:List Bs),i<=aB.length/\acc.length<=i/\iv=.int .i64 i/\Hid (wr.ownsRow B 9 1 ov acc.length (xG acc))/\Hid (Below B w wr)/\Hid (YI aA (aB.drop i) acc=rE aA aB)) (λ_ iv _=>aB.length-(intOf iv).toNat)
 case atStart=>exact⟨0,[],p8,tg _,rfl,zA ⟨rfl,.inr ⟨w.heap.size,0,#[],rfl,by rw[aD.out];exact tg _,zF _ _,tg _,p8,rfl,rfl⟩⟩,zA (fk (by rw[aD.out];exact tg _) _),zA rfl⟩
 case round =>
  obtain⟨i,acc,hi,aN,rfl,HO,HB,HE⟩:=hrel;have bZ:B<=wr.heap.size:=by have:=HB.out.size;have h2:=aD.out;omega
  by_cases aH:i<aB.length
  ·obtain⟨gp,rfl,ah⟩:=(HP.out.below HB.out (by rw[aD.out];exact tg _)).blk (by omega)
   have hc:=ah i aH;have hE:=HE.out;rw[CO aA aB i acc aH]at hE;have aF:=zA hE;obtain⟨oa,oc,rfl,_⟩:=Zn HO.out;clear HE hE ah;generalize aB.getD i 0=p at *;have b0:(0:Int)<=(p:Int):=(by omega);by_cases k1:p<aA.length
   ·obtain⟨gn,rfl,bS⟩:=(HS.out.ED HB.out (by rw[aD.out];exact tg _)).blk (by omega)
    have hn:=bS p k1;have aC:Hid (YI aA (aB.drop (i+1)) (acc++[aA.getD p []])=rE aA aB):=(by have:=aF.out;rw[tr k1]at this;exact this);clear aF bS;generalize aA.getD p []=s at *;have b2:(p:Int)<(aA.length:Int):=by omega
    go_wp2_with (at_builtin;refine wpList_append_own _ rfl _ _ 70 rfl B 9 i0 _ 1 16 underlying70 ai hz0 hz1 bB rfl (by decide) _ _ _ rfl (HO.out.alloc _) ⟨wr.heap.size,0,none⟩ 1 1 [.string ⟨s.toArray⟩] rfl rfl ?c1 ?c2 ?c3 ?c4 ?c5 ?_)
    case c1=>exact zM _ _ _ _ rfl
    case c2=>intro u hu;simp at hu;subst hu;rfl
    case c3=>unfold maxLen;omega
    case c4=>omega
    case c5=>simp;omega
    intro v' w2 ak aY _;have aJ:Hid (Below B w w2):=(HB.out.alloc bZ _).grown aY (by simp;omega) (zS HO.out);have bl:Hid (w2.ownsRow B 9 1 v' (acc++[s]).length (xG (acc++[s]))):=by unfold Hid;rw[Ye];simpa using ak
    clear aY ak;go_wp2_with fail
    go_roundw
    case rel=>exact⟨i+1,acc++[s],by omega,by simp;omega,by go_num,bl,aJ,aC⟩
    case measure=>simp[intOf];omega
   ·have aC:Hid (YI aA (aB.drop (i+1)) acc=rE aA aB):=by have:=aF.out;rw[tj k1]at this;exact this
    have b2:¬(p:Int)<(aA.length:Int):=(by omega);clear aF;go_wp2_with fail
    go_roundw
    case rel=>exact⟨i+1,acc,by omega,by omega,by go_num,HO,HB,aC⟩
    case measure=>simp[intOf];omega
  ·have aC:Hid (rE aA aB=acc):=by have:=HE.out;rw[pf (by omega)]at this;exact this.symm
   clear HE;go_wp2_with fail
   go_ret
   refine⟨_,rfl,?_,?_⟩
   ·rw[aC.out,<-aD.out];exact HO.out
   ·rw[<-aD.out];exact HB.out
theorem NJ(w:World)(a:Option Addr)(c:Nat)(ls:List LX)(h:tT w a ls) :
 Calls prog 57 #[.slice a ls.length c] w λe w'=>∃v,e=.returned v/\w'.ownsRow w.heap.size 9 1 v (XQ (fs ls)).length (xG (XQ (fs ls)))/\Below w.heap.size w w':=by
 have bN:=h.aj;have av:=zA (Ji w a c ls h);have HOr:=zA (λw' (hb:Below w.heap.size w w')=>VD w' a c ls (h.below hb (tg _)));have aw:=zA (λw' (hb:Below w.heap.size w w')=>nA w' a c ls (h.below hb (tg _)));have bW:=zA (λw' (hb:Below w.heap.size w w')=>Zf w' a c ls (h.below hb (tg _)));have aS:Hid ((kW (zX (fs ls)) (fs ls) gZ).length=64):=by unfold Hid;rw[nJ];exact yX
 have aW:Hid ((qN (vQ (fs ls)) (fs ls) gZ).length=64):=by unfold Hid;rw[mY];exact yX
 have aV:Hid (XQ (fs ls)=if 0<(tO (kW (zX (fs ls)) (fs ls) gZ)).length then rE (zX (fs ls)) (tO (kW (zX (fs ls)) (fs ls) gZ)) else rE (vQ (fs ls)) (tO (qN (vQ (fs ls)) (fs ls) gZ))):=rfl;obtain⟨B,hB⟩:∃B,B=w.heap.size:=⟨_,rfl⟩;have aD:=zA hB;rw[<-hB]at HOr aw bW av ⊢;clear h hB;generalize kW (zX (fs ls)) (fs ls) gZ=Gn at *;generalize qN (vQ (fs ls)) (fs ls) gZ=Go at *;generalize zX (fs ls)=hd at *;generalize vQ (fs ls)=lb at *;generalize XQ (fs ls)=aQ at *;have bh:=zA (λw' g (hg:rL w' g Gn)=>GE w' g Gn hg);have bH:=zA (λw' g (hg:rL w' g Go)=>GE w' g Go hg);have b4:=YF Gn;have b3:=YF Go;generalize tO Gn=P1 at *;generalize tO Go=P2 at *
 go_enter func57,ntmps57
 go_wp2_with fail
 refine av.out.mono ?_;rintro e w1 ⟨rfl,hb1⟩;have hs1:=hb1.size;rw[<-aD.out]at hs1;have ax:=zA hb1;clear hb1
 go_wp2_with (refine wpList_store_row ?aG 125 (.tmp 3) (.tmp 7) ?ho w1.heap.size (gC Gn) ?hx ?hy 125 (gC gZ) (zF w1 _) (qF aS.out) ?aK (jW Gn) ?_
              case ho=>rfl
              case aG=>rfl
              case hx=>rfl
              case hy=>rfl
              case aK=>rw[xK,xK,yX,aS.out])
 refine(bh.out _ w1.heap.size ⟨l9 _ _ (gC gZ) _ (zF w1 _),aS.out⟩).mono ?_;rintro e w2 ⟨v1,rfl,ay,au⟩;have aI:Hid (Below B w ((w1.alloc (.cells (gC gZ) 125 (0,0))).setRow w1.heap.size (gC Gn))):=yK (ax.out.alloc hs1 _) hs1 _;have aJ:Hid (Below B w w2):=aI.out.trans (au.mono (by have:=aI.out.size;rw[<-aD.out]at this;exact this));obtain⟨pa,pc,rfl,aq⟩:=Xm ay;have bq:=zA aq;have aU:=aJ.out.size;rw[<-aD.out]at aU;clear au ay aq aI ax;by_cases k1:0<P1.length
 ·have HA:Hid (aQ=rE hd P1):=by have:=aV.out;rw[tr k1]at this;exact this
  have i1:(0:Int)<(P1.length:Int):=by omega
  clear aV;go_wp2_with fail
  refine(aw.out _ aJ.out).mono ?_;rintro e w3 ⟨v2,rfl,bM,b8,aZ⟩;obtain⟨na,nc,rfl,ao⟩:=Zn bM;have bI:=zA (Ix w3 na pa nc pc hd P1 ao (bq.out.below aZ (tg _)));have ae:Hid (Below B w w3):=aJ.out.trans (aZ.mono aU);have aT:=ae.out.size;rw[<-aD.out]at aT;clear bM ao aZ;go_wp2_with fail
  refine bI.out.mono ?_;rintro e w4 ⟨v3,rfl,aP,aM⟩;have aX:Hid (Below B w w4):=ae.out.trans (aM.mono aT);have bJ:=zA (yN aP aT);clear aP aM;go_wp2_with fail
  go_ret
  exact⟨_,rfl,by rw[HA.out];exact bJ.out,aX.out⟩
 ·have HA:Hid (aQ=rE lb P2):=by have:=aV.out;rw[tj k1]at this;exact this
  have i1:¬(0:Int)<(P1.length:Int):=by omega
  clear aV;go_wp2_with fail
  refine(HOr.out _ aJ.out).mono ?_;rintro e w3 ⟨rfl,aZ⟩;have ae:Hid (Below B w w3):=aJ.out.trans (aZ.mono aU);have aT:=ae.out.size;rw[<-aD.out]at aT;clear aZ
  go_wp2_with (refine wpList_store_row ?aG 125 (.tmp 5) (.tmp 17) ?ho w3.heap.size (gC Go) ?hx ?hy 125 (gC gZ) (zF w3 _) (qF aW.out) ?aK (jW Go) ?_
               case ho=>rfl
               case aG=>rfl
               case hx=>rfl
               case hy=>rfl
               case aK=>rw[xK,xK,yX,aW.out])
  refine(bH.out _ w3.heap.size ⟨l9 _ _ (gC gZ) _ (zF w3 _),aW.out⟩).mono ?_;rintro e w4 ⟨v4,rfl,aP,aM⟩;have aI:Hid (Below B w ((w3.alloc (.cells (gC gZ) 125 (0,0))).setRow w3.heap.size (gC Go))):=yK (ae.out.alloc aT _) aT _;have aX:Hid (Below B w w4):=aI.out.trans (aM.mono (by have:=aI.out.size;rw[<-aD.out]at this;exact this));obtain⟨qa,qc,rfl,aq⟩:=Xm aP;have bp:=zA aq;have bR:=aX.out.size;rw[<-aD.out]at bR;clear aM aP aq aI ae;go_wp2_with fail
  refine(bW.out _ aX.out).mono ?_;rintro e w5 ⟨v2,rfl,bO,b6,bE⟩;obtain⟨na,nc,rfl,ao⟩:=Zn bO;have bI:=zA (Ix w5 na qa nc qc lb P2 ao (bp.out.below bE (tg _)));have bA:Hid (Below B w w5):=aX.out.trans (bE.mono bR);have bC:=bA.out.size;rw[<-aD.out]at bC;clear bO ao bE;go_wp2_with fail
  refine bI.out.mono ?_;rintro e w6 ⟨v3,rfl,bP,bU⟩;have bx:Hid (Below B w w6):=bA.out.trans (bU.mono bC);have bj:=zA (yN bP bC);clear bP bU;go_wp2_with fail
  go_ret
  exact⟨_,rfl,by rw[HA.out];exact bj.out,bx.out⟩
def lC(S:List Nat):Array Value:=(ZC S).toArray
def lZ:List Nat:=List.replicate 8 0
theorem Z7(S:List Nat):(lC S).size=S.length:=by simp[lC,ZC]
theorem Im(S:List Nat):(lC S).all (·.oneCell')=true:=by simp[lC,ZC,Value.oneCell']
theorem MT{k:Nat}(h:k<S.length):(lC S)[k]? = some (.int .i64 ((S.getD k 0:Nat):Int)):=by
 simp[lC,ZC,List.getD,h]
def jm(w:World)(g:Nat)(S:List Nat):Prop:=w.heap[g]? = some (.cells (lC S) 257 (0,0))/\S.length=8
theorem jm.cell(h:jm w g S){k:Nat}(hk:k<8):w.cell? ⟨g,k,none⟩=some (.int .i64 ((S.getD k 0:Nat):Int)):=by
 simp only[World.cell?,h.1];exact MT (by rw[h.2];exact hk)
theorem jm.free(h:jm w g S)(k:Nat):w.frozen? ⟨g,k,none⟩=false:=by simp[World.frozen?,h.1]
theorem jm.set(h:jm w g S)(k v:Nat):jm (w.setCell ⟨g,k,none⟩ (.int .i64 (v:Nat))) g (S.set k v):=by
 refine⟨?_,by rw[List.length_set];exact h.2⟩;rw[setCell_eq_setRow w g k _ _ _ _ h.1];have:=l9 w g (lC S) ((lC S).setIfInBounds k (.int .i64 (v:Nat))) h.1;rw[this];congr 2
 simp[lC,ZC,List.map_set]
theorem La:(prog.info? 257).map (·.size)=some 8:=by kernel_rfl
theorem Qq(h:S.length=8):(prog.info? 257).map (·.size)=some (lC S).size:=by rw[Z7,h];exact La
theorem Vl(w:World)(g:Nat)(G:List Bool)(S:List Nat)(a:Nat)(ha:a<8)(h:rL w g G)(hS:S.length=8)(hm:∀z,z<8->S.getD z 0<=100) :
 Calls prog 171 #[.pointer (some ⟨g,0,none⟩),.agg (lC S),.int .i64 a] w λe w'=>e=.returned (.int .i64 (iU (gA G a) (λz=>S.getD z 0) 8 0 0:Nat))/\Below w.heap.size w w':=by
 have bc:Hid (jm (w.alloc (.cells (lC S) 257)) w.heap.size S):=⟨zF _ _,hS⟩;have br:Hid (rL (w.alloc (.cells (lC S) 257)) g G):=h.new _;have aa:Hid (Below w.heap.size w (w.alloc (.cells (lC S) 257))):=fk (tg _) _;have bm:=zA hm;clear h hS hm
 go_enter func171,ntmps171
 go_wp2_with fail
 generalize w.alloc (.cells (lC S) 257)=w1 at *;generalize hb:w.heap.size=b at *;have HB:=zA hb;clear hb
 go_loop [7,8] (λlv kv=>∃(k acc:Nat),k<=8/\acc<=101/\lv=.int .i64 acc/\kv=.int .i64 k/\Hid (iU (gA G a) (λz=>S.getD z 0) (8-k) k acc=iU (gA G a) (λz=>S.getD z 0) 8 0 0)) (λ_ kv=>8-(intOf kv).toNat)
 case atStart=>exact⟨0,0,by omega,by omega,rfl,rfl,zA rfl⟩
 case round =>
  obtain⟨k,acc,hk,aN,rfl,rfl,HE⟩:=hrel;by_cases aH:k<8
  ·have c1:=br.out.cell (k:=a*8+k) (by omega)
   have c2:=bc.out.cell (k:=k) aH;have hmx:=bm.out k aH;have hE:=HE.out;rw[show 8-k=(8-(k+1))+1 by omega,iU,show gA G a k=G.getD (a*8+k) false from rfl]at hE;have aF:Hid (iU (gA G a) (λz=>S.getD z 0) (8-(k+1)) (k+1) (if G.getD (a*8+k) false&&decide (acc<=S.getD k 0) then S.getD k 0+1 else acc)=iU (gA G a) (λz=>S.getD z 0) 8 0 0):=hE;clear HE hE;generalize G.getD (a*8+k) false=z1 at *;generalize S.getD k 0=s at *;cases z1
   ·have aC:Hid (iU (gA G a) (λz=>S.getD z 0) (8-(k+1)) (k+1) acc=iU (gA G a) (λz=>S.getD z 0) 8 0 0):=aF.out
    clear aF;go_wp2_with fail
    go_round
    case rel=>exact⟨k+1,acc,by omega,aN,rfl,by go_num,aC⟩
    case measure=>simp[intOf];omega
   ·by_cases k1:acc<=s
    ·have aC:Hid (iU (gA G a) (λz=>S.getD z 0) (8-(k+1)) (k+1) (s+1)=iU (gA G a) (λz=>S.getD z 0) 8 0 0):=by have:=aF.out;rw[tz k1]at this;exact this
     have i1:(acc:Int)<=(s:Int):=(by omega);clear aF;go_wp2_with fail
     go_round
     case rel=>exact⟨k+1,s+1,by omega,by omega,by go_num,by go_num,aC⟩
     case measure=>simp[intOf];omega
    ·have aC:Hid (iU (gA G a) (λz=>S.getD z 0) (8-(k+1)) (k+1) acc=iU (gA G a) (λz=>S.getD z 0) 8 0 0):=by have:=aF.out;rw[ty k1]at this;exact this
     have i1:¬(acc:Int)<=(s:Int):=(by omega);clear aF;go_wp2_with fail
     go_round
     case rel=>exact⟨k+1,acc,by omega,aN,rfl,by go_num,aC⟩
     case measure=>simp[intOf];omega
  ·have aC:Hid (acc=iU (gA G a) (λz=>S.getD z 0) 8 0 0):=by have:=HE.out;rw[show 8-k=0 by omega]at this;exact this
   clear HE;go_wp2_with fail
   go_ret
   exact⟨yY (gk (λn:Nat=>(n:Int)) aC.out),by rw[HB.out];exact aa.out⟩
structure VF(w w':World)(S:List Nat):Prop where
 lv:jm w' (w.heap.size+1) S
 res:w'.heap[w.heap.size]? = some (.cells (lC lZ) 257 (0,0))
 af:Below w.heap.size w w'
theorem VF.set(h:VF w w' S)(k v:Nat):VF w (w'.setCell ⟨w.heap.size+1,k,none⟩ (.int .i64 (v:Nat))) (S.set k v) :=
 ⟨h.lv.set k v,qU h.res (by omega),h.af.setCell (p:=⟨w.heap.size+1,k,none⟩) (by show w.heap.size<=w.heap.size+1;omega) _⟩
theorem jm.lt(h:jm w g S):g<w.heap.size:=by
 rcases mc g w.heap.size with h1|h1
 ·exact h1
 ·have h2:=h.1;rw[pw h1]at h2;cases h2
theorem VF.keep{w'':World}(h:VF w w' S)(hb:Below w'.heap.size w' w''):VF w w'' S :=
 ⟨⟨by rw[hb.block _ h.lv.lt];exact h.lv.1,h.lv.2⟩,by rw[hb.block _ (Nat.lt_of_succ_lt h.lv.lt)];exact h.res,h.af.trans (hb.mono h.af.size)⟩
theorem MU(z:Nat):lZ.getD z 0=0:=by
 unfold lZ;by_cases h:z<8
 ·simp only[List.getD,cy,h,dj,Option.getD_some]
 ·simp only[List.getD,cy,h,if_false,Option.getD_none]
theorem jf(w:World)(g:Nat)(G:List Bool)(h:rL w g G) :
 Calls prog 136 #[.pointer (some ⟨g,0,none⟩)] w λe w'=>e=.returned (.agg (lC (pE G)))/\Below w.heap.size w w':=by
 have HG:=zA h;have hg:=h.lt;clear h
 go_enter func136,ntmps136
 go_upto_region 1 with fail
 go_cut [3] from 6 to 7 (λp3 wx=>p3=.pointer (some ⟨w.heap.size+1,0,none⟩)/\Hid (VF w wx lZ))
 case first =>
  go_wp2_with fail
  go_meet
  refine⟨rfl,⟨⟨heap_alloc2_new w _ _,rfl⟩,yD (zF _ _),?_⟩⟩;exact(fk (tg _) _).alloc (p7 (zY _ _)) _
 case rest =>
  obtain⟨rfl,HC⟩:=hcut;go_wp2_with fail
  go_loopw [4] (λv4 wr=>∃(r:Nat) (S:List Nat),1<=r/\r<=8/\v4=.int .i64 r/\Hid (VF w wr S)/\Hid (∀z,z<8->S.getD z 0<=(r-1)*8)/\Hid (XS G (8-r) S=pE G)) (λv4 _=>8-(intOf v4).toNat)
  case atStart=>exact⟨1,lZ,by omega,by omega,rfl,HC,zA (λz _=>by rw[MU];exact p8),zA rfl⟩
  case round =>
   obtain⟨r,S,b1,bz,rfl,aO,bn,HE⟩:=hrel;clear HC;by_cases aH:r<8
   ·have aF:Hid (XS G (8-(r+1)) (yq G 8 0 S)=pE G):=by have:=HE.out;rw[show 8-r=(8-(r+1))+1 by omega,XS]at this;exact this
    obtain⟨wm,rfl⟩:∃wm,wm=wr:=⟨_,rfl⟩;have i1:(r:Int)<8:=by omega
    clear HE;go_wp2_with fail
    go_loopw [5] (λv5 wr=>∃(a:Nat) (S':List Nat),a<=8/\v5=.int .i64 a/\Hid (VF w wr S')/\Hid (∀z,z<8->S'.getD z 0<=(r-1)*8+a)/\Hid (yq G (8-a) a S'=yq G 8 0 S)) (λv5 _=>8-(intOf v5).toNat)
    case atStart=>exact⟨0,S,by omega,rfl,aO,bn,zA rfl⟩
    case round =>
     obtain⟨a,S',ha,rfl,aR,a7,a8⟩:=hrel;by_cases aL:a<8
     ·have hE:=a8.out
      rw[show 8-a=(8-(a+1))+1 by omega,yq]at hE;have bT:rL wr g G:=⟨by rw[aR.out.af.block g hg];exact HG.out.1,HG.out.2⟩;have bw:=zA (Vl wr g G S' a aL bT aR.out.lv.2 (λz hz=>by have:=a7.out z hz;omega))
      have bb:iU (gA G a) (λz=>S'.getD z 0) 8 0 0<=(r-1)*8+(a+1):=by
       have:=R8 (gA G a) (λz=>S'.getD z 0) ((r-1)*8+a) 8 0 0 (p8) (λz _ hz=>a7.out z (by omega));omega
      have aC:=zA hE;clear hE a8 bT;generalize iU (gA G a) (λz=>S'.getD z 0) 8 0 0=m at *;have i2:(a:Int)<8:=(by omega);have bX:=aR.out.lv.cell aL
      go_wp2_with (refine wpList_load_row ?aG 257 (.tmp 3) ?ho (w.heap.size+1) ?hx 257 (lC S') (0,0) _ aR.out.lv.1 underlying257 rfl (Qq aR.out.lv.2) ?_
                   case ho=>rfl
                   case aG=>rfl
                   case hx=>rfl)
      refine bw.out.mono ?_;rintro e w1 ⟨rfl,hb1⟩;have bL:=zA (aR.out.keep hb1);clear hb1 bX;have c3:=bL.out.lv.cell aL;have b9:=bL.out.lv.free a;go_wp2_with fail
      go_roundw
      case rel=>exact⟨a+1,S'.set a m,by omega,by go_num,zA (bL.out.set a m),zA (λz hz=>by
       rw[Yp S' a m z (by rw[aR.out.lv.2];exact aL)];split
       ·exact bb
       ·have:=a7.out z hz;omega),aC⟩
      case measure=>simp[intOf];omega
     ·obtain rfl:a=8:=by omega
      have bu:Hid (XS G (8-(r+1)) S'=pE G):=(by have h1:=a8.out;have h2:S'=yq G 8 0 S:=h1;unfold Hid;rw[h2];exact aF.out);clear a8 aF;go_wp2_with fail
      go_roundw
      case rel=>exact⟨r+1,S',by omega,by omega,by go_num,aR,zA (λz hz=>by have:=a7.out z hz;omega),bu⟩
      case measure=>simp[intOf];omega
   ·obtain rfl:r=8:=by omega
    have bt:Hid (S=pE G):=HE.out;clear HE
    go_wp2_with (first
     | (refine wpList_load_row ?aG 257 (.tmp 3) ?ho (w.heap.size+1) ?hx 257 (lC S) (0,0) _ aO.out.lv.1 underlying257 rfl (Qq aO.out.lv.2) ?_
        case ho=>rfl
        case aG=>rfl
        case hx=>rfl)
     | (refine wpList_store_row ?aG 257 (.tmp 2) (.tmp 21) ?ho w.heap.size (lC S) ?hx ?hy 257 (lC lZ) aO.out.res (Qq aO.out.lv.2) ?aK (Im S) ?_
        case ho=>rfl
        case aG=>rfl
        case hx=>rfl
        case hy=>rfl
        case aK=>rw[Z7,Z7,aO.out.lv.2];rfl))
    refine pe (v:=.agg (lC S)) (results_cell_row results136 _ _ w.heap.size 257 (lC S) (0,0) _ rfl (l9 _ _ (lC lZ) _ aO.out.res) underlying257 rfl (Qq aO.out.lv.2)) rfl ⟨by rw[bt.out],yK aO.out.af (tg _) _⟩
def Jx(L:List (Bs × Nat)):List Value:=L.flatMap λx=>[.string ⟨x.1.toArray⟩,.int .i64 (x.2:Nat)]
theorem UA(L:List (Bs × Nat))(x:Bs × Nat):Jx (L++[x])=Jx L++[.string ⟨x.1.toArray⟩,.int .i64 (x.2:Nat)]:=by simp[Jx]
theorem Gp:(prog.info? 208).map (λi=>(i.zero,i.size,i.bytes))=some (some (.agg #[.string ⟨#[]⟩,.int .i64 0]),2,24):=by kernel_rfl
def eA(S:List Nat):List Bs->Nat->List (Bs × Nat)->List (Bs × Nat)
 | [],_,acc=>acc
 | n::r,i,acc=>eA S r (i+1) (if i<8 then acc++[(n,S.getD i 0)] else acc)
def xR(ls:List zE):List (Bs × Nat):=eA (pE (kW (zX ls) ls gZ)) (zX ls) 0 []
theorem vq(S:List Nat)(hd:List Bs)(i:Nat)(acc:List (Bs × Nat))(h:i<hd.length):eA S (hd.drop i) i acc=eA S (hd.drop (i+1)) (i+1) (if i<8 then acc++[(hd.getD i [],S.getD i 0)] else acc):=by
 rw[ph h,eA];simp[List.getD,h]
def VA(w:World)(a:Option Addr)(aA:List Bs):Prop:=aA=[]\/∃g cs fz,a=some ⟨g,0,none⟩/\w.heap[g]? = some (.cells cs 9 fz)/\∀i,i<aA.length->cs[i]? = some (.string ⟨(aA.getD i []).toArray⟩)
theorem SW(h:w.ownsRow B 9 1 v aA.length (xG aA)):∃a c,v=.slice a aA.length c/\VA w a aA:=by
 rcases h.2 with ⟨h1,h2⟩|⟨g,cap,yB,h1,_,h3,_,_,_,h7⟩
 ·exact⟨none,0,by rw[h1,h2],.inl (l5 h2)⟩
 ·exact⟨some ⟨g,0,none⟩,cap,h1,.inr ⟨g,yB,_,rfl,h3,λi hi=>(zC h3 i).symm.trans (xL h3 (n:=aA.length*1) h7 (XH aA i hi))⟩⟩
theorem zO{e:TypeId}{size:Nat}{n:Nat}{xs:List Value}(h:w.ownsRow B e size v n xs):∃a c,v=.slice a n c:=by
 rcases h.2 with ⟨h1,h2⟩|⟨g,cap,yB,h1,_⟩
 ·exact⟨none,0,by rw[h1,h2]⟩
 ·exact⟨_,_,h1⟩
theorem zP{o:Obj}(h:w.heap[g]? = some o):g<w.heap.size:=by
 rcases mc g w.heap.size with h1|h1
 ·exact h1
 ·rw[pw h1]at h;cases h
theorem VA.new(h:VA w a aA)(o:Obj):VA (w.alloc o) a aA:=by
 rcases h with h|⟨g,cs,fz,h1,h2,h3⟩
 ·exact .inl h
 ·exact .inr ⟨g,cs,fz,h1,yD h2,h3⟩
theorem VA.grown{n:Nat}{xs:List Value}(h:VA w a aA)(ay:w.ownsRow B 208 2 v n xs)(hg:w.grownBy w' v.ownBlock):VA w' a aA:=by
 rcases h with h|⟨g,cs,fz,h1,h2,h3⟩
 ·exact .inl h
 ·refine .inr ⟨g,cs,fz,h1,?_,h3⟩
  rw[hg.block g (zP h2) (λe=>?_)]
  ·exact h2
  ·rcases ay.2 with ⟨k1,_⟩|⟨g',cap,yB,k1,_,k3,_⟩
   ·rw[k1]at e;simp[Value.ownBlock]at e
   ·rw[k1]at e;simp[Value.ownBlock]at e
    subst e;rw[h2]at k3;simp at k3
theorem je(w:World)(a:Option Addr)(c:Nat)(ls:List LX)(h:tT w a ls) :
 Calls prog 91 #[.slice a ls.length c] w λe w'=>∃v,e=.returned v/\w'.ownsRow w.heap.size 208 2 v (xR (fs ls)).length (Jx (xR (fs ls)))/\Below w.heap.size w w':=by
 obtain⟨i0,ai,hz0,hz1,bB⟩:=du Gp;have bN:=h.aj;have av:=zA (Ji w a c ls h);have aw:=zA (λw' (hb:Below w.heap.size w w')=>nA w' a c ls (h.below hb (tg _)));have aS:Hid ((kW (zX (fs ls)) (fs ls) gZ).length=64):=by unfold Hid;rw[nJ];exact yX
 have aV:Hid (xR (fs ls)=eA (pE (kW (zX (fs ls)) (fs ls) gZ)) (zX (fs ls)) 0 []):=rfl;obtain⟨B,hB⟩:∃B,B=w.heap.size:=⟨_,rfl⟩;have aD:=zA hB;rw[<-hB]at aw av ⊢;clear h hB;generalize kW (zX (fs ls)) (fs ls) gZ=Gn at *;generalize zX (fs ls)=hd at *;generalize xR (fs ls)=aQ at *;have bo:=zA (λw' g (hg:rL w' g Gn)=>jf w' g Gn hg);have bG:=zA (UJ Gn);generalize pE Gn=S at *
 go_enter func91,ntmps91
 go_wp2_with fail
 refine av.out.mono ?_;rintro e w1 ⟨rfl,hb1⟩;have hs1:=hb1.size;rw[<-aD.out]at hs1;have ax:=zA hb1;clear hb1
 go_wp2_with (refine wpList_store_row ?aG 125 (.tmp 3) (.tmp 9) ?ho w1.heap.size (gC Gn) ?hx ?hy 125 (gC gZ) (zF w1 _) (qF aS.out) ?aK (jW Gn) ?_
              case ho=>rfl
              case aG=>rfl
              case hx=>rfl
              case hy=>rfl
              case aK=>rw[xK,xK,yX,aS.out])
 refine(bo.out _ w1.heap.size ⟨l9 _ _ (gC gZ) _ (zF w1 _),aS.out⟩).mono ?_;rintro e w2 ⟨rfl,au⟩;have aI:Hid (Below B w ((w1.alloc (.cells (gC gZ) 125 (0,0))).setRow w1.heap.size (gC Gn))):=yK (ax.out.alloc hs1 _) hs1 _;have aJ:Hid (Below B w w2):=aI.out.trans (au.mono (by have:=aI.out.size;rw[<-aD.out]at this;exact this));have aU:=aJ.out.size;rw[<-aD.out]at aU;clear au aI ax;have aa:Hid (Below B w ((w2.alloc (.cells (lC lZ) 257 (0,0))).setRow w2.heap.size (lC S))):=yK (aJ.out.alloc aU _) aU _;have bK:Hid (jm ((w2.alloc (.cells (lC lZ) 257 (0,0))).setRow w2.heap.size (lC S)) w2.heap.size S):=⟨l9 _ _ (lC lZ) _ (zF w2 _),bG.out⟩
 go_wp2_with (refine wpList_store_row ?aG 257 (.tmp 4) (.tmp 10) ?ho w2.heap.size (lC S) ?hx ?hy 257 (lC lZ) (zF w2 _) (Qq bG.out) ?aK (Im S) ?_
              case ho=>rfl
              case aG=>rfl
              case hx=>rfl
              case hy=>rfl
              case aK=>rw[Z7,Z7,bG.out];rfl)
 have az:((w2.alloc (.cells (lC lZ) 257 (0,0))).setRow w2.heap.size (lC S)).heap.size=w2.heap.size+1:=by unfold World.setRow;simp
 have eZ:lC lZ = #[.int .i64 0,.int .i64 0,.int .i64 0,.int .i64 0,.int .i64 0,.int .i64 0,.int .i64 0,.int .i64 0]:=rfl;rw[eZ]at aa bK az;clear eZ;generalize (w2.alloc (.cells #[.int .i64 0,.int .i64 0,.int .i64 0,.int .i64 0,.int .i64 0,.int .i64 0,.int .i64 0,.int .i64 0] 257 (0,0))).setRow w2.heap.size (lC S)=wL at *;generalize w2.heap.size=lb at *;have a6:=aa.out.size;rw[<-aD.out]at a6;have bD:=bK.out.lt;have bV:Hid ((wL.alloc (.cells #[] 208)).ownsRow wL.heap.size 208 2 (.slice (some ⟨lb+1,0,none⟩) 0 0) 0 []):=by rw[<-az];exact⟨rfl,.inr ⟨wL.heap.size,0,#[],rfl,tg _,zF _ _,tg _,p8,rfl,rfl⟩⟩
 refine(aw.out _ (aa.out.alloc a6 _)).mono ?_;rintro e w4 ⟨v2,rfl,aP,b7,aM⟩;obtain⟨na,nc,rfl,bQ⟩:=SW aP;have bJ:=zA (jU bV.out aM);have aX:Hid (Below wL.heap.size wL w4):=(fk (tg _) _).trans (aM.mono (p7 (zY _ _)));have bf:=zA bQ;have bH:Hid (eA S hd 0 []=aQ):=aV.out.symm;clear aP aM bQ bV aV aJ;go_wp2_with fail
 go_loopw [5,15] (λov iv wr=>∃(i:Nat) (acc:List (Bs × Nat)),i<=hd.length/\acc.length<=i/\iv=.int .i64 i/\Hid (wr.ownsRow wL.heap.size 208 2 ov acc.length (Jx acc))/\Hid (Below wL.heap.size wL wr)/\Hid (VA wr na hd)/\Hid (eA S (hd.drop i) i acc=aQ)) (λ_ iv _=>hd.length-(intOf iv).toNat)
 case atStart=>exact⟨0,[],p8,tg _,rfl,bJ,aX,bf,bH⟩
 case round =>
  obtain⟨i,acc,hi,aN,rfl,HO,ag,bF,HE⟩:=hrel;have bY:wL.heap.size<=wr.heap.size:=ag.out.size;by_cases aH:i<hd.length
  ·obtain⟨g,cs,fz,rfl,ar,ah⟩:∃g cs fz,na=some ⟨g,0,none⟩/\wr.heap[g]? = some (.cells cs 9 fz)/\∀i,i<hd.length->cs[i]? = some (.string ⟨(hd.getD i []).toArray⟩):=by
    rcases bF.out with h|h
    ·rw[h]at aH;simp at aH
    ·exact h
   have hc:=(zC ar i).trans (ah i aH);have hE:=HE.out;rw[vq S hd i acc aH]at hE;have aF:=zA hE;obtain⟨oa,oc,rfl⟩:=zO HO.out;clear HE hE ah ar;generalize hd.getD i []=s at *;by_cases k1:i<8
   ·have b5:wr.cell? ⟨lb,i,none⟩=some (.int .i64 ((S.getD i 0:Nat):Int)):=by
     rw[ag.out.cell (p:=⟨lb,i,none⟩) bD];exact bK.out.cell k1
    have aC:Hid (eA S (hd.drop (i+1)) (i+1) (acc++[(s,S.getD i 0)])=aQ):=(by have:=aF.out;rw[tr k1]at this;exact this);clear aF;generalize S.getD i 0=sv at *
    go_wp2_with (at_builtin;refine wpList_append_own _ rfl _ _ 122 rfl wL.heap.size 208 i0 _ 2 24 underlying122 ai hz0 hz1 bB rfl (by decide) _ _ _ rfl (HO.out.alloc _) ⟨wr.heap.size,0,none⟩ 1 1 [.string ⟨s.toArray⟩,.int .i64 (sv:Nat)] rfl rfl ?c1 ?c2 ?c3 ?c4 ?c5 ?_)
    case c1=>exact zM _ _ _ _ rfl
    case c2=>intro u hu;simp at hu;rcases hu with rfl|rfl <;> rfl
    case c3=>unfold maxLen;omega
    case c4=>omega
    case c5=>simp;omega
    intro v' w5 ak aY _;have bg:Hid (VA w5 (some ⟨g,0,none⟩) hd):=(bF.out.new _).grown (HO.out.alloc _) aY;have bA:Hid (Below wL.heap.size wL w5):=(ag.out.alloc bY _).grown aY (by simp;omega) (zS HO.out);have bk:Hid (w5.ownsRow wL.heap.size 208 2 v' (acc++[(s,sv)]).length (Jx (acc++[(s,sv)]))):=by unfold Hid;rw[UA,az];simpa[az] using ak
    clear aY ak;go_wp2_with fail
    go_roundw
    case rel=>exact⟨i+1,acc++[(s,sv)],by omega,by simp;omega,by go_num,bk,bA,bg,aC⟩
    case measure=>simp[intOf];omega
   ·have aC:Hid (eA S (hd.drop (i+1)) (i+1) acc=aQ):=by have:=aF.out;rw[tj k1]at this;exact this
    have i1:¬(i:Int)<8:=(by omega);clear aF;go_wp2_with fail
    go_roundw
    case rel=>exact⟨i+1,acc,by omega,by omega,by go_num,HO,ag,bF,aC⟩
    case measure=>simp[intOf];omega
  ·have aC:Hid (aQ=acc):=by have:=HE.out;rw[pf (by omega)]at this;exact this.symm
   clear HE;go_wp2_with fail
   go_ret
   refine⟨_,rfl,?_,?_⟩
   ·rw[aC.out];exact yN HO.out a6
   ·exact aa.out.trans (ag.out.mono a6)
theorem Dc(hn:aA.Nodup){a b:Nat}(ha:a<aA.length)(hb:b<aA.length)(e:aA.getD a []=aA.getD b []):a=b:=by
 have h1:=(QC hn (aA.getD b []) a).2 ⟨ha,e⟩;have h2:=(QC hn (aA.getD b []) b).2 ⟨hb,rfl⟩;omega
def Es(ls:List zE):List (Bs × Nat):=(List.range (zX ls).length).map λi=>((zX ls).getD i [],sJ (kW (zX ls) ls gZ) i)
theorem R1(S:List Nat)(hd:List Bs):∀i acc,i+hd.length<=8->eA S hd i acc=acc++(List.range hd.length).map (λj=>(hd.getD j [],S.getD (i+j) 0)):=by
 induction hd with
 | nil=>intro i acc _;simp[eA]
 | cons n r ih =>
   intro i acc h;simp only[pb]at h;rw[eA,u',ih (i+1) _ (by omega),pb,List.range_succ_eq_map,cf,List.map_map,po];congr 1
   simp only[List.singleton_append,List.getD_cons_zero,lh,List.cons.injEq,true_and];refine List.map_congr_left (λj _=>?_);simp only[Function.comp,Nat.succ_eq_add_one,List.getD_cons_succ];rw[show i+1+j=i+(j+1) by omega]
theorem R2(ls:List zE)(h8:(zX ls).length<=8)(hr:jA (kW (zX ls) ls gZ)=false):xR ls=Es ls:=by
 unfold xR Es;rw[R1 _ _ 0 [] (by omega),lu];refine List.map_congr_left (λj hj=>?_);have ba:j<8:=by have:=me.1 hj;omega
 rw[cw,D0 (by rw[nJ];exact yX) hr j ba]
end Go.Proofs.YtnbpdffdnphbeabGreatDoor
